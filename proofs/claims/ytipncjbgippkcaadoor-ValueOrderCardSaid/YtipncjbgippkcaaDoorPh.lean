/- Contract of the document's part of a version. Contract of package value's part of a version. Contracts of the document's names of kinds. Contracts of package value's names of kinds. ValueParts: for every text and number, package value's parts of versions and names of kinds are the document's. -/
import Derived.Test.YtipncjbgippkcaaDoorPb
import Derived.Test.YtipncjbgippkcaaDoorPd
import Derived.Test.YtipncjbgippkcaaDoorPc
import Derived.Test.YtipncjbgippkcaaDoorPg
/- Contract of the document's part of a version. -/
namespace Go.Proofs.YtipncjbgippkcaaDoor
open Go Go.RowKit

/-- Part number i of a version, or the error. -/
def partV (s : ByteArray) (i : Int) : Value := if verOk s then (if i < 0 ∨ 2 < i then numE 0 3 else numE (verN s i.toNat) 0) else numE 0 1
theorem refPart_any (s : ByteArray) (i : Int) (w : World) (hs : s.size ≤ 9223372036854775806) :
    Calls Tryd.prog 27 #[.string s, .int .i64 i] w fun e w' => e = .returned (partV s i) ∧ Below w.heap.size w w' := by
  have hc := refParts_any s w hs
  by_cases hv : verOk s
  · have e1 : verV s = .tuple #[.agg #[.int .i64 (verN s 0), .int .i64 (verN s 1), .int .i64 (verN s 2)], .bool true] := if_pos hv
    rw [e1] at hc
    by_cases h0 : i < 0
    · have e2 : partV s i = numE 0 3 := by unfold partV; rw [if_pos hv, if_pos (.inl h0)]
      replace e1 := Lib.hid e1
      replace hc := Lib.hid hc
      rw [e2]
      go_enter Tryd.func27, Tryd.ntmps27
      go_wp2_with (go_at_call 37; refine hc.out.mono ?_; rintro e w1 ⟨rfl, hb⟩)
      go_ret2
      exact ⟨rfl, hb.alloc hb.size _⟩
    · by_cases h2 : 2 < i
      · have e2 : partV s i = numE 0 3 := by unfold partV; rw [if_pos hv, if_pos (.inr h2)]
        replace e1 := Lib.hid e1
        replace hc := Lib.hid hc
        rw [e2]
        go_enter Tryd.func27, Tryd.ntmps27
        go_wp2_with (go_at_call 37; refine hc.out.mono ?_; rintro e w1 ⟨rfl, hb⟩)
        go_ret2
        exact ⟨rfl, hb.alloc hb.size _⟩
      · have e2 : partV s i = numE (verN s i.toNat) 0 := by unfold partV; rw [if_pos hv, if_neg (by omega)]
        rw [e2]
        replace e1 := Lib.hid e1
        replace hc := Lib.hid hc
        clear e2
        have hi : i = 0 ∨ i = 1 ∨ i = 2 := by omega
        rcases hi with rfl | rfl | rfl
        all_goals
          go_enter Tryd.func27, Tryd.ntmps27
          go_wp2_with (go_at_call 37; refine hc.out.mono ?_; rintro e w1 ⟨rfl, hb⟩)
          go_ret2
          exact ⟨rfl, hb.alloc hb.size _⟩
  · have e1 : verV s = .tuple #[.agg #[.int .i64 0, .int .i64 0, .int .i64 0], .bool false] := if_neg hv
    have e2 : partV s i = numE 0 1 := if_neg hv
    rw [e1] at hc
    rw [e2]
    replace e1 := Lib.hid e1
    replace hc := Lib.hid hc
    go_enter Tryd.func27, Tryd.ntmps27
    go_wp2_with (go_at_call 37; refine hc.out.mono ?_; rintro e w1 ⟨rfl, hb⟩)
    go_ret2
    exact ⟨rfl, hb.alloc hb.size _⟩
end Go.Proofs.YtipncjbgippkcaaDoor
/- Contract of package value's part of a version. -/
namespace Go.Proofs.YtipncjbgippkcaaDoor
open Go Go.RowKit

theorem part_any (s : ByteArray) (i : Int) (w : World) (hs : s.size ≤ 9223372036854775000) :
    Calls Tryd.prog 26 #[.string s, .int .i64 i] w fun e w' => e = .returned (partV s i) ∧ Below w.heap.size w w' := by
  have hc := partsOf_any s w hs
  by_cases hv : verOk s
  · have e1 : verV s = .tuple #[.agg #[.int .i64 (verN s 0), .int .i64 (verN s 1), .int .i64 (verN s 2)], .bool true] := if_pos hv
    rw [e1] at hc
    by_cases h0 : i < 0
    · have e2 : partV s i = numE 0 3 := by unfold partV; rw [if_pos hv, if_pos (.inl h0)]
      replace e1 := Lib.hid e1
      replace hc := Lib.hid hc
      rw [e2]
      go_enter Tryd.func26, Tryd.ntmps26
      go_wp2_with (go_at_call 50; refine hc.out.mono ?_; rintro e w1 ⟨rfl, hb⟩)
      go_ret2
      exact ⟨rfl, hb.alloc hb.size _⟩
    · by_cases h2 : 2 < i
      · have e2 : partV s i = numE 0 3 := by unfold partV; rw [if_pos hv, if_pos (.inr h2)]
        have h3 : 3 ≤ i := by omega
        replace e1 := Lib.hid e1
        replace hc := Lib.hid hc
        rw [e2]
        go_enter Tryd.func26, Tryd.ntmps26
        go_wp2_with (go_at_call 50; refine hc.out.mono ?_; rintro e w1 ⟨rfl, hb⟩)
        go_ret2
        exact ⟨rfl, hb.alloc hb.size _⟩
      · have e2 : partV s i = numE (verN s i.toNat) 0 := by unfold partV; rw [if_pos hv, if_neg (by omega)]
        rw [e2]
        replace e1 := Lib.hid e1
        replace hc := Lib.hid hc
        clear e2
        have hi : i = 0 ∨ i = 1 ∨ i = 2 := by omega
        rcases hi with rfl | rfl | rfl
        all_goals
          go_enter Tryd.func26, Tryd.ntmps26
          go_wp2_with (go_at_call 50; refine hc.out.mono ?_; rintro e w1 ⟨rfl, hb⟩)
          go_ret2
          exact ⟨rfl, hb.alloc hb.size _⟩
  · have e1 : verV s = .tuple #[.agg #[.int .i64 0, .int .i64 0, .int .i64 0], .bool false] := if_neg hv
    have e2 : partV s i = numE 0 1 := if_neg hv
    rw [e1] at hc
    rw [e2]
    replace e1 := Lib.hid e1
    replace hc := Lib.hid hc
    go_enter Tryd.func26, Tryd.ntmps26
    go_wp2_with (go_at_call 50; refine hc.out.mono ?_; rintro e w1 ⟨rfl, hb⟩)
    go_ret2
    exact ⟨rfl, hb.alloc hb.size _⟩
end Go.Proofs.YtipncjbgippkcaaDoor
/- Contracts of the document's names of kinds. -/
namespace Go.Proofs.YtipncjbgippkcaaDoor
open Go Go.RowKit

/-- The names of the kinds. -/
def kindName (k : Int) : ByteArray :=
  if k = 1 then ⟨#[98, 111, 111, 108]⟩ else if k = 2 then ⟨#[110, 117, 109, 98, 101, 114]⟩ else if k = 3 then ⟨#[116, 101, 120, 116]⟩ else if k = 4 then ⟨#[118, 101, 114, 115, 105, 111, 110]⟩ else if k = 5 then ⟨#[108, 105, 115, 116]⟩ else ⟨#[]⟩
theorem refTypeName_any (k : Int) (w : World) : Calls Tryd.prog 29 #[.int .i64 k] w fun e w' => e = .returned (.string (kindName k)) ∧ Below w.heap.size w w' := by
  by_cases h0 : k < 0
  · have hk : kindName k = ⟨#[]⟩ := by unfold kindName; rw [if_neg (by omega), if_neg (by omega), if_neg (by omega), if_neg (by omega), if_neg (by omega)]
    rw [hk]
    go_enter Tryd.func29, Tryd.ntmps29
    go_wp2
    go_ret
    exact ⟨rfl, (Below.refl _ w).alloc (Nat.le_refl _) _⟩
  · by_cases h6 : 6 ≤ k
    · have hk : kindName k = ⟨#[]⟩ := by unfold kindName; rw [if_neg (by omega), if_neg (by omega), if_neg (by omega), if_neg (by omega), if_neg (by omega)]
      rw [hk]
      go_enter Tryd.func29, Tryd.ntmps29
      go_wp2
      go_ret
      exact ⟨rfl, (Below.refl _ w).alloc (Nat.le_refl _) _⟩
    · have hc : k = 0 ∨ k = 1 ∨ k = 2 ∨ k = 3 ∨ k = 4 ∨ k = 5 := by omega
      rcases hc with rfl | rfl | rfl | rfl | rfl | rfl
      all_goals
        go_enter Tryd.func29, Tryd.ntmps29
        go_wp2
        go_ret
        exact ⟨rfl, (Below.refl _ w).alloc (Nat.le_refl _) _⟩
def kindOf (s : ByteArray) : Int :=
  if kindName 1 = s then 1 else if kindName 2 = s then 2 else if kindName 3 = s then 3 else if kindName 4 = s then 4 else if kindName 5 = s then 5 else 0
theorem kindOf_at (s : ByteArray) (n : Nat) (h1 : 1 ≤ n) (h5 : n ≤ 5) (hb : ∀ j : Nat, 1 ≤ j → j < n → ¬ kindName j = s) (he : kindName n = s) : kindOf s = n := by
  unfold kindOf
  have hc : n = 1 ∨ n = 2 ∨ n = 3 ∨ n = 4 ∨ n = 5 := by omega
  have m1 : 1 < n → ¬ kindName 1 = s := fun h => hb 1 (by omega) h
  have m2 : 2 < n → ¬ kindName 2 = s := fun h => hb 2 (by omega) h
  have m3 : 3 < n → ¬ kindName 3 = s := fun h => hb 3 (by omega) h
  have m4 : 4 < n → ¬ kindName 4 = s := fun h => hb 4 (by omega) h
  rcases hc with rfl | rfl | rfl | rfl | rfl
  · exact if_pos he
  · rw [if_neg (m1 (by omega))]; exact if_pos he
  · rw [if_neg (m1 (by omega)), if_neg (m2 (by omega))]; exact if_pos he
  · rw [if_neg (m1 (by omega)), if_neg (m2 (by omega)), if_neg (m3 (by omega))]; exact if_pos he
  · rw [if_neg (m1 (by omega)), if_neg (m2 (by omega)), if_neg (m3 (by omega)), if_neg (m4 (by omega))]; exact if_pos he
theorem kindOf_none (s : ByteArray) (hb : ∀ j : Nat, 1 ≤ j → j < 6 → ¬ kindName j = s) : kindOf s = 0 := by
  have m1 : ¬ kindName 1 = s := hb 1 (by omega) (by omega)
  have m2 : ¬ kindName 2 = s := hb 2 (by omega) (by omega)
  have m3 : ¬ kindName 3 = s := hb 3 (by omega) (by omega)
  have m4 : ¬ kindName 4 = s := hb 4 (by omega) (by omega)
  have m5 : ¬ kindName 5 = s := hb 5 (by omega) (by omega)
  unfold kindOf
  rw [if_neg m1, if_neg m2, if_neg m3, if_neg m4, if_neg m5]
set_option maxHeartbeats 4000000 in
theorem refTypeOf_any (s : ByteArray) (w : World) : Calls Tryd.prog 31 #[.string s] w fun e w' => e = .returned (.int .i64 (kindOf s)) ∧ Below w.heap.size w w' := by
  go_enter Tryd.func31, Tryd.ntmps31
  go_wp2
  go_loopw [3] (fun i wr => ∃ n : Nat, 1 ≤ n ∧ n ≤ 6 ∧ i = .int .i64 n ∧ Hid (∀ j : Nat, 1 ≤ j → j < n → ¬ kindName j = s) ∧ Below w.heap.size w wr) (fun i _ => 6 - (intOf i).toNat)
  case atStart => exact ⟨1, by omega, by omega, rfl, Lib.hid (fun j h1 h2 => by omega), Below.refl _ _⟩
  case round =>
    obtain ⟨n, h1, h6, rfl, hb, hbl⟩ := hrel
    by_cases hlt : n ≤ 5
    · have hlt' : (n : Int) ≤ 5 := by omega
      have hc := Lib.hid (refTypeName_any (n : Int) wr)
      by_cases he : kindName n = s
      · have hk := Lib.hid (kindOf_at s n h1 hlt hb.out he)
        rw [he] at hc
        clear he
        go_wp2_with (go_at_call 29; go_fit hc.out; rintro e w1 ⟨rfl, hb1⟩)
        go_ret
        exact ⟨by rw [hk.out]; rfl, hbl.trans (hb1.mono hbl.size)⟩
      · have hd := bytes_differ he
        have hb2 := Lib.hid (fun (j : Nat) (j1 : 1 ≤ j) (j2 : j < n + 1) => (show ¬ kindName j = s from if h : j < n then hb.out j j1 h else (by have e : j = n := (by omega); rw [e]; exact he)))
        clear hb
        generalize kindName n = q at he hd hc
        replace he := Lib.hid he
        go_wp2_with (go_at_call 29; go_fit hc.out; rintro e w1 ⟨rfl, hb1⟩)
        go_roundw
        case rel => exact ⟨n + 1, by omega, by omega, by go_num, hb2, hbl.trans (hb1.mono hbl.size)⟩
        case measure => simp [intOf]; omega
    · obtain rfl : n = 6 := by omega
      have hk := Lib.hid (kindOf_none s hb.out)
      go_wp2
      go_ret
      exact ⟨by rw [hk.out]; rfl, hbl⟩
end Go.Proofs.YtipncjbgippkcaaDoor
/- Contracts of package value's names of kinds. -/
namespace Go.Proofs.YtipncjbgippkcaaDoor
open Go Go.RowKit

theorem typeName_any (k : Int) (w : World) : Calls Tryd.prog 28 #[.int .i64 k] w fun e w' => e = .returned (.string (kindName k)) ∧ Below w.heap.size w w' := by
  by_cases h : k = 1 ∨ k = 2 ∨ k = 3 ∨ k = 4 ∨ k = 5
  · rcases h with rfl | rfl | rfl | rfl | rfl
    all_goals
      go_enter Tryd.func28, Tryd.ntmps28
      go_wp2
      go_ret
      exact ⟨rfl, Below.refl _ _⟩
  · have hk : kindName k = ⟨#[]⟩ := by unfold kindName; rw [if_neg (by omega), if_neg (by omega), if_neg (by omega), if_neg (by omega), if_neg (by omega)]
    rw [hk]
    have h1 : (k == 1) = false := by rw [beq_eq_false_iff_ne]; omega
    have h2 : (k == 2) = false := by rw [beq_eq_false_iff_ne]; omega
    have h3 : (k == 3) = false := by rw [beq_eq_false_iff_ne]; omega
    have h4 : (k == 4) = false := by rw [beq_eq_false_iff_ne]; omega
    have h5 : (k == 5) = false := by rw [beq_eq_false_iff_ne]; omega
    replace h := Lib.hid h
    go_enter Tryd.func28, Tryd.ntmps28
    go_wp2
    go_ret
    exact ⟨rfl, Below.refl _ _⟩
set_option maxHeartbeats 4000000 in
theorem typeOf_any (s : ByteArray) (w : World) : Calls Tryd.prog 30 #[.string s] w fun e w' => e = .returned (.int .i64 (kindOf s)) ∧ Below w.heap.size w w' := by
  go_enter Tryd.func30, Tryd.ntmps30
  go_wp2
  go_loopw [3] (fun i wr => ∃ n : Nat, 1 ≤ n ∧ n ≤ 6 ∧ i = .int .i64 n ∧ Hid (∀ j : Nat, 1 ≤ j → j < n → ¬ kindName j = s) ∧ Below w.heap.size w wr) (fun i _ => 6 - (intOf i).toNat)
  case atStart => exact ⟨1, by omega, by omega, rfl, Lib.hid (fun j h1 h2 => by omega), Below.refl _ _⟩
  case round =>
    obtain ⟨n, h1, h6, rfl, hb, hbl⟩ := hrel
    by_cases hlt : n ≤ 5
    · have hlt' : (n : Int) ≤ 5 := by omega
      have hc := Lib.hid (typeName_any (n : Int) wr)
      by_cases he : kindName n = s
      · have hk := Lib.hid (kindOf_at s n h1 hlt hb.out he)
        rw [he] at hc
        clear he
        go_wp2_with (go_at_call 28; go_fit hc.out; rintro e w1 ⟨rfl, hb1⟩)
        go_ret
        exact ⟨by rw [hk.out]; rfl, hbl.trans (hb1.mono hbl.size)⟩
      · have hd := bytes_differ he
        have hb2 := Lib.hid (fun (j : Nat) (j1 : 1 ≤ j) (j2 : j < n + 1) => (show ¬ kindName j = s from if h : j < n then hb.out j j1 h else (by have e : j = n := (by omega); rw [e]; exact he)))
        clear hb
        generalize kindName n = q at he hd hc
        replace he := Lib.hid he
        go_wp2_with (go_at_call 28; go_fit hc.out; rintro e w1 ⟨rfl, hb1⟩)
        go_roundw
        case rel => exact ⟨n + 1, by omega, by omega, by go_num, hb2, hbl.trans (hb1.mono hbl.size)⟩
        case measure => simp [intOf]; omega
    · obtain rfl : n = 6 := by omega
      have hk := Lib.hid (kindOf_none s hb.out)
      go_wp2
      go_ret
      exact ⟨by rw [hk.out]; rfl, hbl⟩
end Go.Proofs.YtipncjbgippkcaaDoor
/- ValueParts: for every text and number, package value's parts of versions and names of kinds are the document's. -/
namespace Go.Proofs.YtipncjbgippkcaaDoor
open Go Go.RowKit

theorem partV_num (s : ByteArray) (i : Int) : ∃ a b, partV s i = numE a b := by
  unfold partV
  split
  · split
    · exact ⟨_, _, rfl⟩
    · exact ⟨_, _, rfl⟩
  · exact ⟨_, _, rfl⟩
theorem kindOf_name (k : Int) (h0 : -1 ≤ k) (h1 : k ≤ 6) : (kindOf (kindName k) == max 0 k % 6) = true := by
  have hc : k = -1 ∨ k = 0 ∨ k = 1 ∨ k = 2 ∨ k = 3 ∨ k = 4 ∨ k = 5 ∨ k = 6 := by omega
  rcases hc with rfl | rfl | rfl | rfl | rfl | rfl | rfl | rfl <;> decide +kernel
theorem strs_list (L : List ByteArray) (w : World) (j : Nat) (hj : j < L.length) : (w.alloc (.cells (L.map Value.string).toArray 9)).cell? ⟨w.heap.size, j, none⟩ = some (.string L[j]) := by
  rw [Lib.cell_of_heap (heap_alloc_new w _)]
  simp [hj]
set_option maxHeartbeats 8000000 in
set_option maxRecDepth 100000 in
theorem parts_walk (s : ByteArray) (i k : Int) (w : World) (E : Env w) (hs : s.size ≤ 140737488351232) (_hi : -9223372036854775808 ≤ i ∧ i ≤ 9223372036854775807) (hk : -9223372036854775808 ≤ k ∧ k ≤ 9223372036854775807) :
    Calls Tryd.prog 7 #[.string s, .int .i64 i, .int .i64 k] w fun e w' => e = .returned (.bool true) ∧ Below w.heap.size w w' := by
  have hmod := Lib.hid (fun W => mod_any k 8 W hk (by omega) (by omega))
  have hm0 : 0 ≤ k % 8 := by omega
  have hm1 : k % 8 < 8 := by omega
  generalize k % 8 = m at hmod hm0 hm1
  have hkn := Lib.hid (kindOf_name (m - 1) (by omega) (by omega))
  go_enter Tryd.func7, Tryd.ntmps7
  go_wp2_with (go_at_call 8; refine (awake_any _ E).mono ?_)
  rintro e W ⟨rfl, B⟩
  go_upto_region 4 with (fail)
  obtain ⟨L, hL⟩ : ∃ L : List ByteArray, L = [s, s ++ ⟨#[46, 50, 46, 51]⟩, ⟨#[49, 46]⟩ ++ s ++ ⟨#[46, 51]⟩, ⟨#[49, 46, 50, 46, 51]⟩ ++ s] := ⟨_, rfl⟩
  have hcell := strs_list L W
  have hlen : L.length = 4 := by rw [hL]; rfl
  have hLs : ∀ x ∈ L, x.size ≤ 9223372036854775000 := by
    rw [hL]
    have h1 : (⟨#[46, 50, 46, 51]⟩ : ByteArray).size = 4 := rfl
    have h2 : (⟨#[49, 46]⟩ : ByteArray).size = 2 := rfl
    have h3 : (⟨#[46, 51]⟩ : ByteArray).size = 2 := rfl
    have h4 : (⟨#[49, 46, 50, 46, 51]⟩ : ByteArray).size = 5 := rfl
    simp only [List.mem_cons, List.not_mem_nil, or_false]
    rintro x (rfl | rfl | rfl | rfl)
    · omega
    · rw [ByteArray.size_append]; omega
    · rw [ByteArray.size_append, ByteArray.size_append]; omega
    · rw [ByteArray.size_append]; omega
  have hW : W.alloc (.cells (L.map Value.string).toArray 9) = W.alloc (.cells #[.string s, .string (s ++ ⟨#[46, 50, 46, 51]⟩), .string (⟨#[49, 46]⟩ ++ s ++ ⟨#[46, 51]⟩), .string (⟨#[49, 46, 50, 46, 51]⟩ ++ s)] 9) := by rw [hL]; rfl
  have hb1 := (Below.refl W.heap.size W).alloc (Nat.le_refl _) (.cells (L.map Value.string).toArray 9)
  rw [hW] at hcell hb1
  have B1 := B.trans (hb1.mono B.size)
  have hW1 : W.heap.size < (W.alloc (.cells #[.string s, .string (s ++ ⟨#[46, 50, 46, 51]⟩), .string (⟨#[49, 46]⟩ ++ s ++ ⟨#[46, 51]⟩), .string (⟨#[49, 46, 50, 46, 51]⟩ ++ s)] 9)).heap.size := by simp
  clear hW hb1 hL
  generalize W.alloc (.cells #[.string s, .string (s ++ ⟨#[46, 50, 46, 51]⟩), .string (⟨#[49, 46]⟩ ++ s ++ ⟨#[46, 51]⟩), .string (⟨#[49, 46, 50, 46, 51]⟩ ++ s)] 9) = W1 at hcell B1 hW1 ⊢
  have E1 := E.below B1
  replace hk := Lib.hid hk
  replace hs := Lib.hid hs
  replace hcell := Lib.hid hcell
  replace hLs := Lib.hid hLs
  clear B E
  go_loopw [8, 9, 10, 11, 12, 26] (fun _ _ _ _ _ x wr => ∃ j : Nat, j ≤ 4 ∧ x = .int .i64 j ∧ Below W1.heap.size W1 wr) (fun _ _ _ _ _ x _ => 4 - (intOf x).toNat)
  case atStart => exact ⟨0, by omega, rfl, Below.refl _ _⟩
  case round =>
    obtain ⟨j, hj, rfl, hbw⟩ := hrel
    by_cases hlt : j < 4
    · have hjl : j < L.length := by omega
      have hlt' : (j : Int) < 4 := by omega
      have hc := (hbw.cell (p := ⟨W.heap.size, j, none⟩) hW1).trans (hcell.out j hjl)
      have hz := hLs.out _ (List.getElem_mem hjl)
      obtain ⟨a, b, hab⟩ := partV_num L[j] i
      have c1 := fun X => part_any L[j] i X hz
      have c2 := fun X => refPart_any L[j] i X (by omega)
      rw [hab] at c1 c2
      unfold numE at c1 c2
      generalize L[j] = t at hc c1 c2
      replace c1 := Lib.hid c1
      replace c2 := Lib.hid c2
      clear hab hz
      go_wp2_with (first
        | (go_at_call 26; refine (c1.out _).mono ?_; rintro e W2 ⟨rfl, hb2⟩)
        | (go_at_call 27; refine (c2.out _).mono ?_; rintro e W3 ⟨rfl, hb3⟩))
      go_roundw
      case rel => exact ⟨j + 1, by omega, by go_num, (hbw.trans (hb2.mono hbw.size)).trans (hb3.mono (hbw.trans (hb2.mono hbw.size)).size)⟩
      case measure => simp [intOf]; omega
    · obtain rfl : j = 4 := by omega
      have B2 := B1.trans (hbw.mono B1.size)
      clear hcell hLs hlen hbw
      go_wp2_with (first
        | (go_at_call 21; refine (hmod.out _).mono ?_; rintro e W2 ⟨rfl, rfl⟩)
        | (go_at_call 28; refine (typeName_any _ _).mono ?_; rintro e W2 ⟨rfl, hb⟩; replace B2 := B2.trans (hb.mono B2.size); clear hb)
        | (go_at_call 29; refine (refTypeName_any _ _).mono ?_; rintro e W2 ⟨rfl, hb⟩; replace B2 := B2.trans (hb.mono B2.size); clear hb)
        | (go_at_call 30; refine (typeOf_any _ _).mono ?_; rintro e W2 ⟨rfl, hb⟩; replace B2 := B2.trans (hb.mono B2.size); clear hb)
        | (go_at_call 31; refine (refTypeOf_any _ _).mono ?_; rintro e W2 ⟨rfl, hb⟩; replace B2 := B2.trans (hb.mono B2.size); clear hb))
      go_ret
      exact ⟨congrArg (fun b => Ending.returned (Value.bool b)) hkn.out, B2⟩
end Go.Proofs.YtipncjbgippkcaaDoor
