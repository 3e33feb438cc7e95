/- The bytes of a subject, and the document's Encode. -/
import Derived.Test.YtcbnefeedoabeaaGreatDoorPr
import Derived.Test.YtcbnefeedoabeaaGreatDoorPq
import Derived.Test.YtcbnefeedoabeaaGreatDoorPe
import Derived.Test.YtcbnefeedoabeaaGreatDoorPi
import Derived.Deep.RegionHeld3
/- The bytes of a subject, and the document's Encode. -/
namespace Go.Proofs.YtcbnefeedoabeaaGreatDoor
open Go Go.RowKit

def valB (v : Val) : List UInt8 := Wi.numB v.kind ++ (if v.kind = 1 ∨ v.kind = 2 then Wi.numB v.num else if v.kind = 5 then Wi.numB v.list.length ++ v.list.flatMap Wi.textB else Wi.textB v.text)
def attrB (a : Attr) : List UInt8 := Wi.textB a.name ++ valB a.val
def ctxB (x : Ctx) : List UInt8 := Wi.textB x.kind ++ (Wi.textB x.key ++ (Wi.numB x.attrs.length ++ x.attrs.flatMap attrB))
def subjB (l : List Ctx) : List UInt8 := Wi.numB l.length ++ l.flatMap ctxB
theorem flat_len {α : Type} {f : α → List UInt8} {m : Nat} : ∀ (l : List α), (∀ x ∈ l, (f x).length ≤ m) → (l.flatMap f).length ≤ l.length * m
  | [], _ => Nat.zero_le _
  | x :: t, h => by
    have h1 := h x (List.mem_cons_self ..)
    have h2 := flat_len t fun y hy => h y (List.mem_cons_of_mem _ hy)
    rw [List.flatMap_cons, List.length_append, List.length_cons, Nat.succ_mul]
    omega
theorem flat_take {α : Type} (f : α → List UInt8) (l : List α) (i : Nat) (hi : i < l.length) : (l.take (i + 1)).flatMap f = (l.take i).flatMap f ++ f l[i] := by
  rw [List.take_succ_eq_append_getElem hi, List.flatMap_append]
  simp
theorem textB_len (s : ByteArray) (h : s.size ≤ 9000000000) : (Wi.textB s).length ≤ 10 + s.size := by
  have := Wi.numB_len (s.size : Int) (by omega) (by omega)
  unfold Wi.textB
  rw [List.length_append]
  have : s.data.toList.length = s.size := rfl
  omega
theorem texts_len (l : List ByteArray) (h : ∀ s ∈ l, s.size ≤ 200) : (l.flatMap Wi.textB).length ≤ l.length * 210 :=
  flat_len l fun s hs => by have := textB_len s (by have := h s hs; omega); have := h s hs; omega
theorem valB_len {n : ByteArray} {v : Val} (h : TinyA ⟨n, v⟩) : (valB v).length ≤ 4300 := by
  obtain ⟨_, h1, h2, h3, h4, h5⟩ := h
  simp only at h1 h2 h3 h4 h5
  have k1 := Wi.numB_len v.kind h1.1 h1.2
  have k2 := Wi.numB_len v.num h2.1 h2.2
  have k3 := textB_len v.text (by omega)
  have k4 := texts_len v.list h5
  have k5 := Wi.numB_len (v.list.length : Int) (by omega) (by omega)
  unfold valB
  rw [List.length_append]
  split
  · omega
  · split
    · rw [List.length_append]
      have : v.list.length * 210 ≤ 20 * 210 := Nat.mul_le_mul_right _ h4
      omega
    · omega
theorem attrB_len {a : Attr} (h : TinyA a) : (attrB a).length ≤ 4400 := by
  have k1 := valB_len (n := a.name) (v := a.val) h
  have k2 := textB_len a.name (by have := h.name; omega)
  have := h.name
  unfold attrB
  rw [List.length_append]
  omega
theorem ctxB_len {x : Ctx} (h : TinyC x) : (ctxB x).length ≤ 88300 := by
  have k1 := textB_len x.kind (by have := h.kind; omega)
  have k2 := textB_len x.key (by have := h.key; omega)
  have k3 := flat_len (f := attrB) (m := 4400) x.attrs fun a ha => attrB_len (h.each a ha)
  have k4 := h.attrs
  have k5 := Wi.numB_len (x.attrs.length : Int) (by omega) (by omega)
  have k6 : x.attrs.length * 4400 ≤ 20 * 4400 := Nat.mul_le_mul_right _ k4
  have := h.kind
  have := h.key
  unfold ctxB
  simp only [List.length_append]
  omega
/-- A call that makes these bytes. -/
def Made (l : List UInt8) (w : World) (en : Ending) (w' : World) : Prop := ∃ a1 c1, en = .returned (.slice a1 (l.length : Nat) c1) ∧ Wi.Src a1 l c1 w' ∧ Below w.heap.size w w'
theorem Made.of {l : List UInt8} {w w' : World} {en : Ending} (h : Wi.MadeOwn l w en w') : Made l w en w' := by
  obtain ⟨v, rfl, hown, hb⟩ := h
  obtain ⟨a1, c1, rfl, h1, h2, h3⟩ := hown.shape
  exact ⟨a1, c1, rfl, ⟨h1, h2, h3⟩, hb⟩
theorem putN {a0 : Option Addr} {l : List UInt8} {cap : Nat} {w : World} (n : Int) (hl : l.length ≤ 900000) (hS : Wi.Src a0 l cap w) (hn : -9223372036854775808 ≤ n ∧ n ≤ 9223372036854775807) :
    Calls Tryz.prog 53 #[.slice a0 (l.length : Nat) cap, .int .i64 n] w (Made (l ++ Wi.numB n) w) := (Wi.refNumber_any a0 l cap n w hl hS hn.1 hn.2).mono fun _ _ h => .of h
theorem putT {a0 : Option Addr} {l : List UInt8} {cap : Nat} {w : World} (s : ByteArray) (hl : l.length ≤ 900000) (hs : s.size ≤ 90000) (hS : Wi.Src a0 l cap w) :
    Calls Tryz.prog 54 #[.slice a0 (l.length : Nat) cap, .string s] w (Made (l ++ Wi.textB s) w) := (Wi.refText_any a0 l cap s w hl hs hS).mono fun _ _ h => .of h
theorem src_below {a : Option Addr} {l : List UInt8} {c : Nat} {w w' : World} (h : Wi.Src a l c w) (hb : Below w.heap.size w w') : Wi.Src a l c w' := h.below (Nat.le_refl _) hb
set_option linter.unusedSimpArgs false in
set_option linter.unusedVariables false in
set_option maxHeartbeats 8000000 in
set_option maxRecDepth 100000 in
theorem refPutValue_any {P : Nat → Prop} {nm : ByteArray} (x : Val) (p : Option Addr) (c : Nat) {a0 : Option Addr} {l : List UInt8} {cap : Nat} {w : World} (hl : l.length ≤ 800000) (hS : Wi.Src a0 l cap w) (hL : ListP P p c x.list w) (hT : TinyA ⟨nm, x⟩) (hx : checkE x = 0) :
    Calls Tryz.prog 55 #[.slice a0 (l.length : Nat) cap, x.agg p c] w (Made (l ++ valB x) w) := by
  have hr : ¬ (x.kind < 1 ∨ 5 < x.kind) := fun h => checkE_kind h hx
  obtain ⟨k, n, t, L⟩ := x
  obtain ⟨_, h1, h2, h3, h4, h5⟩ := hT
  simp only at h1 h2 h3 h4 h5 hL hr
  unfold Val.agg valB
  simp only
  have hb0 := (Below.refl w.heap.size w).alloc (Nat.le_refl _) (.cells #[.int .i64 k, .int .i64 n, .string t, .slice p (L.length : Nat) c] 41)
  have z0 := heap_alloc_new w (.cells #[.int .i64 k, .int .i64 n, .string t, .slice p (L.length : Nat) c] 41)
  have hg0 : w.heap.size < (w.alloc (.cells #[.int .i64 k, .int .i64 n, .string t, .slice p (L.length : Nat) c] 41)).heap.size := by simp
  have hS0 := src_below hS hb0
  have hL0 := hL.same (SameB.of_below hb0)
  generalize hw0 : w.alloc (.cells #[.int .i64 k, .int .i64 n, .string t, .slice p (L.length : Nat) c] 41) = w0 at hb0 z0 hS0 hL0 hg0
  have v0 : w0.cell? ⟨w.heap.size, 0, none⟩ = some (.int .i64 k) := by rw [Lib.cell_of_heap z0]; rfl
  have hN := putN k (by omega) hS0 h1
  have k1 := Wi.numB_len k h1.1 h1.2
  have hl1 : (l ++ Wi.numB k).length ≤ 800010 := by rw [List.length_append]; omega
  obtain ⟨l1, hl1e⟩ : ∃ l1, l ++ Wi.numB k = l1 := ⟨_, rfl⟩
  rw [hl1e] at hN hl1
  have hfin : ∀ r : List UInt8, l ++ (Wi.numB k ++ r) = l1 ++ r := fun r => by rw [← hl1e, List.append_assoc]
  rw [hfin]
  obtain ⟨R, hR⟩ : ∃ R, (if k = 1 ∨ k = 2 then Wi.numB n else if k = 5 then Wi.numB (L.length : Int) ++ L.flatMap Wi.textB else Wi.textB t) = R := ⟨_, rfl⟩
  rw [hR]
  replace hR := Lib.hid hR
  replace hN := Lib.hid hN
  clear hS hL hx
  go_enter Tryz.func55, Tryz.ntmps55
  go_upto_region 1 with (fail)
  try rw [hw0]
  clear hw0
  go_upto_region 2 with (go_at_call 53; refine hN.out.mono ?_; rintro en w1 ⟨a1, c1, rfl, hS1, hb1⟩)
  have z1 := (hb1.block w.heap.size hg0).trans z0
  have hg1 := Nat.lt_of_lt_of_le hg0 hb1.size
  have hL1 := hL0.same (SameB.of_below hb1)
  have hB1 := hb0.trans (hb1.mono hb0.size)
  have w0c : w1.cell? ⟨w.heap.size, 0, none⟩ = some (.int .i64 k) := by rw [Lib.cell_of_heap z1]; rfl
  have w1c : w1.cell? ⟨w.heap.size, 1, none⟩ = some (.int .i64 n) := by rw [Lib.cell_of_heap z1]; rfl
  have w2c : w1.cell? ⟨w.heap.size, 2, none⟩ = some (.string t) := by rw [Lib.cell_of_heap z1]; rfl
  have w3c : w1.cell? ⟨w.heap.size, 3, none⟩ = some (.slice p L.length c) := by rw [Lib.cell_of_heap z1]; rfl
  clear z0 hg0 hL0 hb0 hb1 hS0 hN v0
  clear hl1e hfin
  by_cases e1 : k = 1 ∨ k = 2
  · have hR1 := hR.out.symm.trans (if_pos e1)
    clear hR
    subst hR1
    have hN2 := putN n (by omega) hS1 h2
    obtain ⟨l2, hl2e⟩ : ∃ l2, l1 ++ Wi.numB n = l2 := ⟨_, rfl⟩
    rw [hl2e] at hN2
    replace hN2 := Lib.hid hN2
    replace hl2e := Lib.hid hl2e
    rcases e1 with rfl | rfl
    · skip
      go_wp2_with (go_at_call 53; refine hN2.out.mono ?_; rintro en w2 ⟨a2, c2, rfl, hS2, hb2⟩)
      go_ret
      exact ⟨a2, c2, by show Ending.returned (Value.slice a2 (l2.length : Nat) c2) = _; rw [hl2e.out], by rw [hl2e.out]; exact hS2, hB1.trans (hb2.mono hB1.size)⟩
    · skip
      go_wp2_with (go_at_call 53; refine hN2.out.mono ?_; rintro en w2 ⟨a2, c2, rfl, hS2, hb2⟩)
      go_ret
      exact ⟨a2, c2, by show Ending.returned (Value.slice a2 (l2.length : Nat) c2) = _; rw [hl2e.out], by rw [hl2e.out]; exact hS2, hB1.trans (hb2.mono hB1.size)⟩
  · by_cases e5 : k = 5
    · have hR1 := hR.out.symm.trans ((if_neg e1).trans (if_pos e5))
      clear hR
      subst hR1
      subst e5
      have hN2 := putN (L.length : Int) (by omega) hS1 (by omega)
      have k2 := Wi.numB_len (L.length : Int) (by omega) (by omega)
      have hl2 : (l1 ++ Wi.numB (L.length : Int)).length ≤ 800020 := by rw [List.length_append]; omega
      obtain ⟨l2, hl2e⟩ : ∃ l2, l1 ++ Wi.numB (L.length : Int) = l2 := ⟨_, rfl⟩
      rw [hl2e] at hN2 hl2
      have hfin2 : ∀ r : List UInt8, l1 ++ (Wi.numB (L.length : Int) ++ r) = l2 ++ r := fun r => by rw [← hl2e, List.append_assoc]
      replace hfin2 := Lib.hid hfin2
      replace hN2 := Lib.hid hN2
      clear hl2e
      go_wp2_with (go_at_call 53; refine hN2.out.mono ?_; rintro en w2 ⟨a2, c2, rfl, hS2, hb2⟩)
      have hB2 := hB1.trans (hb2.mono hB1.size)
      have hL2 := hL1.same (SameB.of_below hb2)
      have hg2 := Nat.lt_of_lt_of_le hg1 hb2.size
      have y3 := (hb2.cell (p := ⟨w.heap.size, 3, none⟩) hg1).trans w3c
      clear w0c w1c w2c w3c hb2 hL1 hS1 hB1 z1 hN2 hl1 hr e1 h1 h2
      obtain ⟨N, hN⟩ : ∃ N, L.length = N := ⟨_, rfl⟩
      rw [hN] at y3 ⊢
      go_loopw [0, 5] (fun s i wr => ∃ m : Nat, m ≤ N ∧ i = .int .i64 m ∧ Below w2.heap.size w2 wr ∧ ∃ a c l', s = .slice a (l'.length : Nat) c ∧ Wi.Src a l' c wr ∧ l' = l2 ++ (L.take m).flatMap Wi.textB) (fun _ i _ => N - (intOf i).toNat)
      case atStart => exact ⟨0, Nat.zero_le _, rfl, Below.refl _ _, a2, c2, l2, rfl, hS2, by simp⟩
      case round =>
        obtain ⟨m, hm, rfl, hbr, ar, cr, lr, rfl, hSr, hlr⟩ := hrel
        replace hlr := Lib.hid hlr
        have x3 := (hbr.cell (p := ⟨w.heap.size, 3, none⟩) hg2).trans y3
        by_cases hlt : m < N
        · have hmI : (m : Int) < (N : Int) := by omega
          have hmI0 : (0 : Int) ≤ (m : Int) := by omega
          obtain ⟨b, off, rfl, -, hbl, hc⟩ := (hL2.same (SameB.of_below hbr)).texts m (by omega)
          have hsz := h5 L[m] (List.getElem_mem _)
          have hlm : lr.length ≤ 900000 := by
            rw [hlr.out]
            have := texts_len (L.take m) fun s hs => h5 s (List.mem_of_mem_take hs)
            have h9 : (L.take m).length * 210 ≤ 20 * 210 := Nat.mul_le_mul_right _ (by rw [List.length_take]; omega)
            rw [List.length_append]
            omega
          have hTx := putT L[m] hlm (by omega) hSr
          have hnext : lr ++ Wi.textB L[m] = l2 ++ (L.take (m + 1)).flatMap Wi.textB := by rw [hlr.out, flat_take _ _ _ (by omega), List.append_assoc]
          generalize lr ++ Wi.textB L[m] = ln at hTx hnext
          replace hnext := Lib.hid hnext
          replace hTx := Lib.hid hTx
          generalize L[m] = s at hTx hc
          clear hlm hsz
          go_wp2_with (go_at_call 54; refine hTx.out.mono ?_; rintro en w3 ⟨a3, c3, rfl, hS3, hb3⟩)
          go_roundw
          case rel => exact ⟨m + 1, by omega, by go_num, hbr.trans (hb3.mono hbr.size), a3, c3, ln, rfl, hS3, hnext.out⟩
          case measure => simp [intOf]; omega
        · obtain rfl : m = N := by omega
          have hltI : ¬ (m : Int) < (m : Int) := by omega
          have htk : L.take m = L := List.take_of_length_le (by omega)
          have hlr := hlr.out
          rw [htk] at hlr
          replace hlr := Lib.hid hlr
          go_wp2
          go_ret
          have hlast : l1 ++ (Wi.numB (L.length : Int) ++ L.flatMap Wi.textB) = lr := by rw [hfin2.out, hlr.out]
          rw [hN] at hlast
          exact ⟨ar, cr, by show Ending.returned (Value.slice ar (lr.length : Nat) cr) = _; rw [hlast], by rw [hlast]; exact hSr, hB2.trans (hbr.mono hB2.size)⟩
    · have hR1 := hR.out.symm.trans ((if_neg e1).trans (if_neg e5))
      clear hR
      subst hR1
      have hN2 := putT t (by omega) (by omega) hS1
      obtain ⟨l2, hl2e⟩ : ∃ l2, l1 ++ Wi.textB t = l2 := ⟨_, rfl⟩
      rw [hl2e] at hN2
      replace hN2 := Lib.hid hN2
      replace hl2e := Lib.hid hl2e
      rcases (show k = 3 ∨ k = 4 by omega) with rfl | rfl
      · skip
        go_wp2_with (go_at_call 54; refine hN2.out.mono ?_; rintro en w2 ⟨a2, c2, rfl, hS2, hb2⟩)
        go_ret
        exact ⟨a2, c2, by show Ending.returned (Value.slice a2 (l2.length : Nat) c2) = _; rw [hl2e.out], by rw [hl2e.out]; exact hS2, hB1.trans (hb2.mono hB1.size)⟩
      · skip
        go_wp2_with (go_at_call 54; refine hN2.out.mono ?_; rintro en w2 ⟨a2, c2, rfl, hS2, hb2⟩)
        go_ret
        exact ⟨a2, c2, by show Ending.returned (Value.slice a2 (l2.length : Nat) c2) = _; rw [hl2e.out], by rw [hl2e.out]; exact hS2, hB1.trans (hb2.mono hB1.size)⟩
set_option linter.unusedSimpArgs false in
set_option linter.unusedVariables false in
set_option maxHeartbeats 8000000 in
set_option maxRecDepth 100000 in
theorem refEncode_any {P : Nat → Prop} (a0 : Option Addr) (cp : Nat) (l : List Ctx) (w : World) (E : Env w) (hA : CtxsP P a0 cp l w) (hl : l.length ≤ 4) (hT : ∀ x ∈ l, TinyC x) (hC : subjE l = 0) :
    Calls Tryz.prog 24 #[.agg #[.slice a0 (l.length : Nat) cp]] w fun en w' => (∃ a1 c1, en = .returned (.tuple #[.slice a1 ((subjB l).length : Nat) c1, .int .i64 0]) ∧ Wi.Src a1 (subjB l) c1 w') ∧ Below w.heap.size w w' := by
  have hck : ∀ x ∈ l, ∀ a ∈ x.attrs, checkE a.val = 0 := fun x hx a ha => Classical.byContradiction fun h => subjE_bad l ⟨x, hx, a, ha, h⟩ hC
  obtain ⟨N, hNe⟩ : ∃ N, l.length = N := ⟨_, rfl⟩
  obtain ⟨SB, hSB⟩ : ∃ SB, subjB l = SB := ⟨_, rfl⟩
  rw [hSB, hNe]
  unfold subjB at hSB
  rw [hNe] at hSB hl
  have hb0 := (Below.refl w.heap.size w).alloc (Nat.le_refl _) (.cells #[.slice a0 (N : Nat) cp] 25)
  have z0 := heap_alloc_new w (.cells #[.slice a0 (N : Nat) cp] 25)
  have hg0 : w.heap.size < (w.alloc (.cells #[.slice a0 (N : Nat) cp] 25)).heap.size := by simp
  have hA0 := hA.same (SameB.of_below hb0)
  generalize hw0 : w.alloc (.cells #[.slice a0 (N : Nat) cp] 25) = w0 at hb0 z0 hA0 hg0
  have hCk := refCheck_subject a0 cp l w0 (E.below hb0) hA0 (fun x hx => (hT x hx).fit) (by omega)
  rw [hC, hNe] at hCk
  replace hCk := Lib.hid hCk
  have v0 : w0.cell? ⟨w.heap.size, 0, none⟩ = some (.slice a0 N cp) := by rw [Lib.cell_of_heap z0]; rfl
  clear hA E hC
  go_enter Tryz.func24, Tryz.ntmps24
  go_upto_region 1 with (fail)
  try rw [hw0]
  clear hw0
  go_upto_region 2 with (go_at_call 39; refine hCk.out.mono ?_; rintro en w1 ⟨rfl, hb1⟩)
  have hg1 := Nat.lt_of_lt_of_le hg0 hb1.size
  have hA1 := hA0.same (SameB.of_below hb1)
  have hB1 := hb0.trans (hb1.mono hb0.size)
  have v1 := (hb1.cell (p := ⟨w.heap.size, 0, none⟩) hg0).trans v0
  clear z0 hg0 hA0 hb0 hb1 hCk v0
  have hN := putN (a0 := none) (l := []) (cap := 0) (w := w1) (N : Int) (by simp) ⟨fun _ => rfl, Nat.le_refl _, fun i hi => by simp at hi⟩ (by omega)
  have kN := Wi.numB_len (N : Int) (by omega) (by omega)
  rw [List.nil_append] at hN
  obtain ⟨B0, hB0⟩ : ∃ B0, Wi.numB (N : Int) = B0 := ⟨_, rfl⟩
  rw [hB0] at hN kN hSB
  replace hN := Lib.hid hN
  replace hSB := Lib.hid hSB
  go_wp2_with (go_at_call 53; refine hN.out.mono ?_; rintro en w2 ⟨a2, c2, rfl, hS2, hb2⟩)
  have hg2 := Nat.lt_of_lt_of_le hg1 hb2.size
  have hA2 := hA1.same (SameB.of_below hb2)
  have hB2 := hB1.trans (hb2.mono hB1.size)
  have v2 := (hb2.cell (p := ⟨w.heap.size, 0, none⟩) hg1).trans v1
  clear hN v1 hg1 hA1 hB1 hb2
  go_loopw [5, 6, 7, 8] (fun s i _ _ wr => ∃ m : Nat, m ≤ N ∧ i = .int .i64 m ∧ Below w2.heap.size w2 wr ∧ ∃ a c b', s = .slice a (b'.length : Nat) c ∧ Wi.Src a b' c wr ∧ b' = B0 ++ (l.take m).flatMap ctxB) (fun _ i _ _ _ => N - (intOf i).toNat)
  case atStart => exact ⟨0, Nat.zero_le _, rfl, Below.refl _ _, a2, c2, B0, rfl, hS2, by simp⟩
  case round =>
    obtain ⟨m, hm, rfl, hbr, ar, cr, br, rfl, hSr, hbre⟩ := hrel
    replace hbre := Lib.hid hbre
    have x0 := (hbr.cell (p := ⟨w.heap.size, 0, none⟩) hg2).trans v2
    by_cases hlt : m < N
    · have hmI : (m : Int) < (N : Int) := by omega
      have hmI0 : (0 : Int) ≤ (m : Int) := by omega
      have hml : m < l.length := by omega
      obtain ⟨b, off, rfl, hPb, hbl, hat⟩ := (hA2.same (SameB.of_below hbr)).at_ m hml
      obtain ⟨d0, d1, p, c, d2, hq⟩ := hat
      have hTx := hT l[m] (List.getElem_mem hml)
      have hcx := hck l[m] (List.getElem_mem hml)
      have hnext : B0 ++ (l.take (m + 1)).flatMap ctxB = br ++ ctxB l[m] := by rw [hbre.out, flat_take _ _ _ hml, List.append_assoc]
      have hlen : br.length ≤ 400000 := by
        rw [hbre.out, List.length_append]
        have h8 := flat_len (f := ctxB) (m := 88300) (l.take m) fun x hx => ctxB_len (hT x (List.mem_of_mem_take hx))
        have h9 : (l.take m).length * 88300 ≤ 4 * 88300 := Nat.mul_le_mul_right _ (by rw [List.length_take]; omega)
        omega
      obtain ⟨x, hx⟩ : ∃ x, l[m] = x := ⟨_, rfl⟩
      rw [hx] at d0 d1 d2 hq hTx hcx hnext
      clear hx
      obtain ⟨kd, ky, at_⟩ := x
      have t1 := hTx.kind
      have t2 := hTx.key
      have t3 := hTx.attrs
      have t4 := hTx.each
      simp only at d0 d1 d2 hq hcx t1 t2 t3 t4
      have hcB : ctxB ⟨kd, ky, at_⟩ = Wi.textB kd ++ (Wi.textB ky ++ (Wi.numB (at_.length : Int) ++ at_.flatMap attrB)) := rfl
      rw [hcB] at hnext
      clear hcB
      replace hnext := Lib.hid hnext
      replace t4 := Lib.hid t4
      replace hcx := Lib.hid hcx
      clear hTx
      have hbX := (Below.refl wr.heap.size wr).alloc (Nat.le_refl _) (.cells #[.string kd, .string ky, .slice p (at_.length : Nat) c] 63)
      have zX := heap_alloc_new wr (.cells #[.string kd, .string ky, .slice p (at_.length : Nat) c] 63)
      go_upto_region 9 with (fail)
      generalize wr.alloc (.cells #[.string kd, .string ky, .slice p (at_.length : Nat) c] 63) = wX at hbX zX ⊢
      have hXs : wr.heap.size < wX.heap.size := (Array.getElem?_eq_some_iff.1 zX).1
      have hSX := src_below hSr hbX
      have hqX := hq.same (SameB.of_below hbX)
      have hbrX := hbr.trans (hbX.mono hbr.size)
      clear hbX hSr hq d0 d1 d2 hbr x0
      generalize wr.heap.size = X at zX hXs ⊢
      have hdr := (Below.refl wX.heap.size wX).drew
      have hSd := src_below hSX hdr
      have f0 : wX.cell? ⟨X, 0, none⟩ = some (.string kd) := by rw [Lib.cell_of_heap zX]; rfl
      have f1 : wX.cell? ⟨X, 1, none⟩ = some (.string ky) := by rw [Lib.cell_of_heap zX]; rfl
      have f2 : wX.cell? ⟨X, 2, none⟩ = some (.slice p at_.length c) := by rw [Lib.cell_of_heap zX]; rfl
      have n1 := textB_len kd (by omega)
      have n2 := textB_len ky (by omega)
      have n3 := Wi.numB_len (at_.length : Int) (by omega) (by omega)
      have hP1 := putT kd (by omega) (by omega) hSd
      obtain ⟨b1, hb1e⟩ : ∃ b1, br ++ Wi.textB kd = b1 := ⟨_, rfl⟩
      rw [hb1e] at hP1
      have hl1 : b1.length ≤ 500000 := by rw [← hb1e, List.length_append]; omega
      have hP2 := fun a c W (h : Wi.Src a b1 c W) => putT ky (by omega) (by omega) h
      obtain ⟨b2, hb2e⟩ : ∃ b2, b1 ++ Wi.textB ky = b2 := ⟨_, rfl⟩
      rw [hb2e] at hP2
      have hl2 : b2.length ≤ 500300 := by rw [← hb2e, List.length_append]; omega
      have hP3 := fun a c W (h : Wi.Src a b2 c W) => putN (at_.length : Int) (by omega) h (by omega)
      obtain ⟨b3, hb3e⟩ : ∃ b3, b2 ++ Wi.numB (at_.length : Int) = b3 := ⟨_, rfl⟩
      rw [hb3e] at hP3
      have hl3 : b3.length ≤ 500400 := by rw [← hb3e, List.length_append]; omega
      have hnext2 : B0 ++ (l.take (m + 1)).flatMap ctxB = b3 ++ at_.flatMap attrB := by rw [hnext.out, ← hb3e, ← hb2e, ← hb1e]; simp only [List.append_assoc]
      replace hnext2 := Lib.hid hnext2
      replace hP1 := Lib.hid hP1
      replace hP2 := Lib.hid hP2
      replace hP3 := Lib.hid hP3
      clear hnext hb1e hb2e hb3e n1 n2 n3 hSX hSd hbre hlen
      refine wp_region_held_drew (S := fun w' => w'.cell? ⟨X, 0, none⟩ = some (.string kd) ∧ w'.cell? ⟨X, 1, none⟩ = some (.string ky) ∧ w'.cell? ⟨X, 2, none⟩ = some (.slice p at_.length c)) (by kernel_rfl) ⟨f0, f1, f2⟩ (fun hHeld => ?_)
      refine wpAnyH_take (i := 0) (v := ?_) rfl (by kernel_rfl) (by kernel_rfl) (by kernel_rfl) (fun _ _ _ h => h) (Or.inl ⟨by rfl, ?_⟩) hHeld ?_
      rotate_left
      · intro w' hSw
        go_simp
        try with_reducible rfl
      try simp only [List.getElem_toArray, List.getElem_cons_succ, List.getElem_cons_zero, Act.put, List.setIfInBounds_toArray, List.set_cons_zero, List.set_cons_succ]
      refine wpAnyH_take (i := 1) (v := ?_) rfl (by kernel_rfl) (by kernel_rfl) (by kernel_rfl) (fun _ _ _ h => h) (Or.inl ⟨by rfl, ?_⟩) hHeld ?_
      rotate_left
      · intro w' hSw
        go_simp
        try with_reducible rfl
      try simp only [List.getElem_toArray, List.getElem_cons_succ, List.getElem_cons_zero, Act.put, List.setIfInBounds_toArray, List.set_cons_zero, List.set_cons_succ]
      refine wpAnyH_take (i := 2) (v := ?_) rfl (by kernel_rfl) (by kernel_rfl) (by kernel_rfl) (fun _ _ _ h => h) (Or.inl ⟨by rfl, ?_⟩) hHeld ?_
      rotate_left
      · intro w' hSw
        obtain ⟨e1, e2, e3⟩ := hSw
        go_simp
        try with_reducible rfl
      try simp only [List.getElem_toArray, List.getElem_cons_succ, List.getElem_cons_zero, Act.put, List.setIfInBounds_toArray, List.set_cons_zero, List.set_cons_succ]
      refine wpAnyH_take (i := 4) (v := ?_) rfl (by kernel_rfl) (by kernel_rfl) (by kernel_rfl) (fun _ _ _ h => h) (Or.inl ⟨by rfl, ?_⟩) hHeld ?_
      rotate_left
      · intro w' hSw
        go_simp
        try with_reducible rfl
      try simp only [List.getElem_toArray, List.getElem_cons_succ, List.getElem_cons_zero, Act.put, List.setIfInBounds_toArray, List.set_cons_zero, List.set_cons_succ]
      refine wpAnyH_take (i := 5) (v := ?_) rfl (by kernel_rfl) (by kernel_rfl) (by kernel_rfl) (fun _ _ _ h => h) (Or.inl ⟨by rfl, ?_⟩) hHeld ?_
      rotate_left
      · intro w' hSw
        obtain ⟨e1, e2, e3⟩ := hSw
        go_simp
        try with_reducible rfl
      try simp only [List.getElem_toArray, List.getElem_cons_succ, List.getElem_cons_zero, Act.put, List.setIfInBounds_toArray, List.set_cons_zero, List.set_cons_succ]
      refine wpAnyH_take (i := 7) (v := ?_) rfl (by kernel_rfl) (by kernel_rfl) (by kernel_rfl) (fun _ _ _ h => h) (Or.inl ⟨by rfl, ?_⟩) hHeld ?_
      rotate_left
      · intro w' hSw
        go_simp
        try with_reducible rfl
      try simp only [List.getElem_toArray, List.getElem_cons_succ, List.getElem_cons_zero, Act.put, List.setIfInBounds_toArray, List.set_cons_zero, List.set_cons_succ]
      refine wpAnyH_take (i := 8) (v := ?_) rfl (by kernel_rfl) (by kernel_rfl) (by kernel_rfl) (fun _ _ _ h => h) (Or.inl ⟨by rfl, ?_⟩) hHeld ?_
      rotate_left
      · intro w' hSw
        obtain ⟨e1, e2, e3⟩ := hSw
        go_simp
        try with_reducible rfl
      try simp only [List.getElem_toArray, List.getElem_cons_succ, List.getElem_cons_zero, Act.put, List.setIfInBounds_toArray, List.set_cons_zero, List.set_cons_succ]
      refine wpAnyH_take (i := 9) (v := ?_) rfl (by kernel_rfl) (by kernel_rfl) (by kernel_rfl) (fun _ _ _ h => h) (Or.inl ⟨by rfl, ?_⟩) hHeld ?_
      rotate_left
      · intro w' hSw
        go_simp
        try with_reducible rfl
      try simp only [List.getElem_toArray, List.getElem_cons_succ, List.getElem_cons_zero, Act.put, List.setIfInBounds_toArray, List.set_cons_zero, List.set_cons_succ]
      refine wpAnyH_ready (rs := [3]) (by kernel_rfl) (by simp) ?_
      refine AllReadyH.cons rfl (fun K hK => ?_) AllReadyH.nil
      go_simp
      go_at_call 54
      refine (hP1.out).mono ?_
      rintro en w3 ⟨a3, c3, rfl, hS3, hb3'⟩
      have hb3 := hdr.trans (hb3'.mono hdr.size)
      refine hK.out _ _ ⟨(hb3.cell (p := ⟨X, 0, none⟩) hXs).trans f0, (hb3.cell (p := ⟨X, 1, none⟩) hXs).trans f1, (hb3.cell (p := ⟨X, 2, none⟩) hXs).trans f2⟩ (fun _ => ?_)
      clear hK K hHeld
      have hHeld : (fun w' => w'.cell? ⟨X, 0, none⟩ = some (.string kd) ∧ w'.cell? ⟨X, 1, none⟩ = some (.string ky) ∧ w'.cell? ⟨X, 2, none⟩ = some (.slice p at_.length c)) w3 := ⟨(hb3.cell (p := ⟨X, 0, none⟩) hXs).trans f0, (hb3.cell (p := ⟨X, 1, none⟩) hXs).trans f1, (hb3.cell (p := ⟨X, 2, none⟩) hXs).trans f2⟩
      try simp only [List.getElem_toArray, List.getElem_cons_succ, List.getElem_cons_zero, Act.put, List.setIfInBounds_toArray, List.set_cons_zero, List.set_cons_succ]
      refine wpAnyH_ready (rs := [6]) (by kernel_rfl) (by simp) ?_
      refine AllReadyH.cons rfl (fun K hK => ?_) AllReadyH.nil
      go_simp
      go_at_call 54
      refine (hP2.out a3 c3 w3 hS3).mono ?_
      rintro en w4 ⟨a4, c4, rfl, hS4, hb4'⟩
      have hb4 := hb3.trans (hb4'.mono hb3.size)
      refine hK.out _ _ ⟨(hb4.cell (p := ⟨X, 0, none⟩) hXs).trans f0, (hb4.cell (p := ⟨X, 1, none⟩) hXs).trans f1, (hb4.cell (p := ⟨X, 2, none⟩) hXs).trans f2⟩ (fun _ => ?_)
      clear hK K hHeld
      have hHeld : (fun w' => w'.cell? ⟨X, 0, none⟩ = some (.string kd) ∧ w'.cell? ⟨X, 1, none⟩ = some (.string ky) ∧ w'.cell? ⟨X, 2, none⟩ = some (.slice p at_.length c)) w4 := ⟨(hb4.cell (p := ⟨X, 0, none⟩) hXs).trans f0, (hb4.cell (p := ⟨X, 1, none⟩) hXs).trans f1, (hb4.cell (p := ⟨X, 2, none⟩) hXs).trans f2⟩
      try simp only [List.getElem_toArray, List.getElem_cons_succ, List.getElem_cons_zero, Act.put, List.setIfInBounds_toArray, List.set_cons_zero, List.set_cons_succ]
      refine wpAnyH_ready (rs := [10]) (by kernel_rfl) (by simp) ?_
      refine AllReadyH.cons rfl (fun K hK => ?_) AllReadyH.nil
      go_simp
      go_at_call 53
      refine (hP3.out a4 c4 w4 hS4).mono ?_
      rintro en w5 ⟨a5, c5, rfl, hS5, hb5'⟩
      have hb5 := hb4.trans (hb5'.mono hb4.size)
      refine hK.out _ _ ⟨(hb5.cell (p := ⟨X, 0, none⟩) hXs).trans f0, (hb5.cell (p := ⟨X, 1, none⟩) hXs).trans f1, (hb5.cell (p := ⟨X, 2, none⟩) hXs).trans f2⟩ (fun _ => ?_)
      clear hK K hHeld
      have hHeld : (fun w' => w'.cell? ⟨X, 0, none⟩ = some (.string kd) ∧ w'.cell? ⟨X, 1, none⟩ = some (.string ky) ∧ w'.cell? ⟨X, 2, none⟩ = some (.slice p at_.length c)) w5 := ⟨(hb5.cell (p := ⟨X, 0, none⟩) hXs).trans f0, (hb5.cell (p := ⟨X, 1, none⟩) hXs).trans f1, (hb5.cell (p := ⟨X, 2, none⟩) hXs).trans f2⟩
      try simp only [List.getElem_toArray, List.getElem_cons_succ, List.getElem_cons_zero, Act.put, List.setIfInBounds_toArray, List.set_cons_zero, List.set_cons_succ]
      refine wpAnyH_take (i := 11) (v := ?_) rfl (by kernel_rfl) (by kernel_rfl) (by kernel_rfl) (fun _ _ _ h => h) (Or.inl ⟨by rfl, ?_⟩) hHeld ?_
      rotate_left
      · intro w' hSw
        go_simp
        try with_reducible rfl
      try simp only [List.getElem_toArray, List.getElem_cons_succ, List.getElem_cons_zero, Act.put, List.setIfInBounds_toArray, List.set_cons_zero, List.set_cons_succ]
      refine wpAnyH_done (by kernel_rfl) ?_ _
      have g2 := (hb5.cell (p := ⟨X, 2, none⟩) hXs).trans f2
      have hq5 := hqX.same (SameB.of_below hb5)
      have hbr5 := hbrX.trans (hb5.mono hbrX.size)
      have hX5 := Nat.lt_of_lt_of_le hXs hb5.size
      clear hHeld hb5 hb5' hb4 hb4' hb3 hb3' hS3 hS4 hP1 hP2 hP3 f0 f1 f2 hdr hqX hbrX zX hXs
      obtain ⟨n2, hn2⟩ : ∃ n2, at_.length = n2 := ⟨_, rfl⟩
      rw [hn2] at g2 t3 ⊢
      go_wp2
      go_loopw [5, 8] (fun s k wq => ∃ j : Nat, j ≤ n2 ∧ k = .int .i64 j ∧ Below w5.heap.size w5 wq ∧ ∃ a c b', s = .slice a (b'.length : Nat) c ∧ Wi.Src a b' c wq ∧ b' = b3 ++ (at_.take j).flatMap attrB) (fun _ k _ => n2 - (intOf k).toNat)
      case atStart => exact ⟨0, Nat.zero_le _, rfl, Below.refl _ _, a5, c5, b3, rfl, hS5, by simp⟩
      case round =>
        obtain ⟨j, hj, rfl, hbj, aj, cj, bj, rfl, hSj, hbje⟩ := hrel
        replace hbje := Lib.hid hbje
        have y2 := (hbj.cell (p := ⟨X, 2, none⟩) hX5).trans g2
        have hXj := Nat.lt_of_lt_of_le hX5 hbj.size
        by_cases hjt : j < n2
        · have hjI : (j : Int) < (n2 : Int) := by omega
          have hjI0 : (0 : Int) ≤ (j : Int) := by omega
          have hjl : j < at_.length := by omega
          obtain ⟨bb, of, rfl, hPbb, hbbl, hatt⟩ := (hq5.same (SameB.of_below hbj)).at_ j hjl
          obtain ⟨i0, i1, i2, i3, lp, lc, i4, hlp⟩ := hatt
          have hTa := t4.out at_[j] (List.getElem_mem hjl)
          have hca := hcx.out at_[j] (List.getElem_mem hjl)
          have hnj : b3 ++ (at_.take (j + 1)).flatMap attrB = bj ++ attrB at_[j] := by rw [hbje.out, flat_take _ _ _ hjl, List.append_assoc]
          have hlen : bj.length ≤ 600000 := by
            rw [hbje.out, List.length_append]
            have h8 := flat_len (f := attrB) (m := 4400) (at_.take j) fun x hx => attrB_len (t4.out x (List.mem_of_mem_take hx))
            have h9 : (at_.take j).length * 4400 ≤ 20 * 4400 := Nat.mul_le_mul_right _ (by rw [List.length_take]; omega)
            omega
          obtain ⟨x, hx⟩ : ∃ x, at_[j] = x := ⟨_, rfl⟩
          rw [hx] at i0 i1 i2 i3 i4 hlp hTa hca hnj
          clear hx
          obtain ⟨nm, ⟨k, n, t, L⟩⟩ := x
          have u1 := hTa.name
          simp only at i0 i1 i2 i3 i4 hlp hca u1
          have haB : attrB ⟨nm, ⟨k, n, t, L⟩⟩ = Wi.textB nm ++ valB ⟨k, n, t, L⟩ := rfl
          rw [haB] at hnj
          clear haB
          have hdr := (Below.refl wr.heap.size wr).drew
          have n1 := textB_len nm (by omega)
          have hP1 := putT nm (by omega) (by omega) (src_below hSj hdr)
          obtain ⟨b1, hb1e⟩ : ∃ b1, bj ++ Wi.textB nm = b1 := ⟨_, rfl⟩
          rw [hb1e] at hP1
          have hl1 : b1.length ≤ 700000 := by rw [← hb1e, List.length_append]; omega
          have hP2 := fun a c W (h : Wi.Src a b1 c W) (hB : Below wr.heap.size wr W) => refPutValue_any (nm := nm) ⟨k, n, t, L⟩ lp lc (by omega) h (ListP.same hlp (SameB.of_below hB)) hTa hca
          unfold Val.agg at hP2
          simp only at hP2
          obtain ⟨b2, hb2e⟩ : ∃ b2, b1 ++ valB ⟨k, n, t, L⟩ = b2 := ⟨_, rfl⟩
          rw [hb2e] at hP2
          have hnj2 : b2 = b3 ++ (at_.take (j + 1)).flatMap attrB := by rw [hnj, ← hb2e, ← hb1e, List.append_assoc]
          replace hnj2 := Lib.hid hnj2
          replace hP1 := Lib.hid hP1
          replace hP2 := Lib.hid hP2
          clear hnj hb1e hb2e n1 hlen hbje hSj hTa hca hlp
          go_upto_region 13 with (fail)
          refine wp_region_held_drew (S := fun w' => w'.cell? ⟨X, 2, none⟩ = some (.slice (some ⟨bb, of, none⟩) n2 c) ∧ w'.cell? ⟨bb, of + j * 5, none⟩ = some (.string nm) ∧ w'.cell? ⟨bb, of + j * 5 + 1, none⟩ = some (.int .i64 k) ∧ w'.cell? ⟨bb, of + j * 5 + 2, none⟩ = some (.int .i64 n) ∧ w'.cell? ⟨bb, of + j * 5 + 3, none⟩ = some (.string t) ∧ w'.cell? ⟨bb, of + j * 5 + 4, none⟩ = some (.slice lp L.length lc)) (by kernel_rfl) ⟨y2, i0, i1, i2, i3, i4⟩ (fun hHeld => ?_)
          refine wpAnyH_take (i := 0) (v := ?_) rfl (by kernel_rfl) (by kernel_rfl) (by kernel_rfl) (fun _ _ _ h => h) (Or.inl ⟨by rfl, ?_⟩) hHeld ?_
          rotate_left
          · intro w' hSw
            go_simp
            try with_reducible rfl
          try simp only [List.getElem_toArray, List.getElem_cons_succ, List.getElem_cons_zero, Act.put, List.setIfInBounds_toArray, List.set_cons_zero, List.set_cons_succ]
          refine wpAnyH_take (i := 1) (v := ?_) rfl (by kernel_rfl) (by kernel_rfl) (by kernel_rfl) (fun _ _ _ h => h) (Or.inl ⟨by rfl, ?_⟩) hHeld ?_
          rotate_left
          · intro w' hSw
            go_simp
            try with_reducible rfl
          try simp only [List.getElem_toArray, List.getElem_cons_succ, List.getElem_cons_zero, Act.put, List.setIfInBounds_toArray, List.set_cons_zero, List.set_cons_succ]
          refine wpAnyH_take (i := 2) (v := ?_) rfl (by kernel_rfl) (by kernel_rfl) (by kernel_rfl) (fun _ _ _ h => h) (Or.inl ⟨by rfl, ?_⟩) hHeld ?_
          rotate_left
          · intro w' hSw
            obtain ⟨e1, e2, e3, e4, e5, e6⟩ := hSw
            go_simp
            try with_reducible rfl
          try simp only [List.getElem_toArray, List.getElem_cons_succ, List.getElem_cons_zero, Act.put, List.setIfInBounds_toArray, List.set_cons_zero, List.set_cons_succ]
          refine wpAnyH_take (i := 3) (v := ?_) rfl (by kernel_rfl) (by kernel_rfl) (by kernel_rfl) (fun _ _ _ h => h) (Or.inl ⟨by rfl, ?_⟩) hHeld ?_
          rotate_left
          · intro w' hSw
            go_simp
            try with_reducible rfl
          try simp only [List.getElem_toArray, List.getElem_cons_succ, List.getElem_cons_zero, Act.put, List.setIfInBounds_toArray, List.set_cons_zero, List.set_cons_succ]
          refine wpAnyH_take (i := 4) (v := ?_) rfl (by kernel_rfl) (by kernel_rfl) (by kernel_rfl) (fun _ _ _ h => h) (Or.inl ⟨by rfl, ?_⟩) hHeld ?_
          rotate_left
          · intro w' hSw
            obtain ⟨e1, e2, e3, e4, e5, e6⟩ := hSw
            go_simp
            try with_reducible rfl
          try simp only [List.getElem_toArray, List.getElem_cons_succ, List.getElem_cons_zero, Act.put, List.setIfInBounds_toArray, List.set_cons_zero, List.set_cons_succ]
          refine wpAnyH_take (i := 5) (v := ?_) rfl (by kernel_rfl) (by kernel_rfl) (by kernel_rfl) (fun _ _ _ h => h) (Or.inl ⟨by rfl, ?_⟩) hHeld ?_
          rotate_left
          · intro w' hSw
            go_simp
            try with_reducible rfl
          try simp only [List.getElem_toArray, List.getElem_cons_succ, List.getElem_cons_zero, Act.put, List.setIfInBounds_toArray, List.set_cons_zero, List.set_cons_succ]
          refine wpAnyH_take (i := 6) (v := ?_) rfl (by kernel_rfl) (by kernel_rfl) (by kernel_rfl) (fun _ _ _ h => h) (Or.inl ⟨by rfl, ?_⟩) hHeld ?_
          rotate_left
          · intro w' hSw
            obtain ⟨e1, e2, e3, e4, e5, e6⟩ := hSw
            go_simp
            try with_reducible rfl
          try simp only [List.getElem_toArray, List.getElem_cons_succ, List.getElem_cons_zero, Act.put, List.setIfInBounds_toArray, List.set_cons_zero, List.set_cons_succ]
          refine wpAnyH_take (i := 8) (v := ?_) rfl (by kernel_rfl) (by kernel_rfl) (by kernel_rfl) (fun _ _ _ h => h) (Or.inl ⟨by rfl, ?_⟩) hHeld ?_
          rotate_left
          · intro w' hSw
            go_simp
            try with_reducible rfl
          try simp only [List.getElem_toArray, List.getElem_cons_succ, List.getElem_cons_zero, Act.put, List.setIfInBounds_toArray, List.set_cons_zero, List.set_cons_succ]
          refine wpAnyH_take (i := 9) (v := ?_) rfl (by kernel_rfl) (by kernel_rfl) (by kernel_rfl) (fun _ _ _ h => h) (Or.inl ⟨by rfl, ?_⟩) hHeld ?_
          rotate_left
          · intro w' hSw
            obtain ⟨e1, e2, e3, e4, e5, e6⟩ := hSw
            go_simp
            try with_reducible rfl
          try simp only [List.getElem_toArray, List.getElem_cons_succ, List.getElem_cons_zero, Act.put, List.setIfInBounds_toArray, List.set_cons_zero, List.set_cons_succ]
          refine wpAnyH_take (i := 10) (v := ?_) rfl (by kernel_rfl) (by kernel_rfl) (by kernel_rfl) (fun _ _ _ h => h) (Or.inl ⟨by rfl, ?_⟩) hHeld ?_
          rotate_left
          · intro w' hSw
            go_simp
            try with_reducible rfl
          try simp only [List.getElem_toArray, List.getElem_cons_succ, List.getElem_cons_zero, Act.put, List.setIfInBounds_toArray, List.set_cons_zero, List.set_cons_succ]
          refine wpAnyH_take (i := 11) (v := ?_) rfl (by kernel_rfl) (by kernel_rfl) (by kernel_rfl) (fun _ _ _ h => h) (Or.inl ⟨by rfl, ?_⟩) hHeld ?_
          rotate_left
          · intro w' hSw
            obtain ⟨e1, e2, e3, e4, e5, e6⟩ := hSw
            go_simp
            try with_reducible rfl
          try simp only [List.getElem_toArray, List.getElem_cons_succ, List.getElem_cons_zero, Act.put, List.setIfInBounds_toArray, List.set_cons_zero, List.set_cons_succ]
          refine wpAnyH_take (i := 12) (v := ?_) rfl (by kernel_rfl) (by kernel_rfl) (by kernel_rfl) (fun _ _ _ h => h) (Or.inl ⟨by rfl, ?_⟩) hHeld ?_
          rotate_left
          · intro w' hSw
            go_simp
            try with_reducible rfl
          try simp only [List.getElem_toArray, List.getElem_cons_succ, List.getElem_cons_zero, Act.put, List.setIfInBounds_toArray, List.set_cons_zero, List.set_cons_succ]
          refine wpAnyH_take (i := 13) (v := ?_) rfl (by kernel_rfl) (by kernel_rfl) (by kernel_rfl) (fun _ _ _ h => h) (Or.inl ⟨by rfl, ?_⟩) hHeld ?_
          rotate_left
          · intro w' hSw
            obtain ⟨e1, e2, e3, e4, e5, e6⟩ := hSw
            go_simp
            try with_reducible rfl
          try simp only [List.getElem_toArray, List.getElem_cons_succ, List.getElem_cons_zero, Act.put, List.setIfInBounds_toArray, List.set_cons_zero, List.set_cons_succ]
          refine wpAnyH_ready (rs := [7]) (by kernel_rfl) (by simp) ?_
          refine AllReadyH.cons rfl (fun K hK => ?_) AllReadyH.nil
          go_simp
          go_at_call 54
          refine (hP1.out).mono ?_
          rintro en w3 ⟨a3, c3, rfl, hS3, hb3'⟩
          have hb3 := hdr.trans (hb3'.mono hdr.size)
          refine hK.out _ _ ⟨(hb3.cell (p := ⟨X, 2, none⟩) hXj).trans y2, (hb3.cell (p := ⟨bb, of + j * 5, none⟩) hbbl).trans i0, (hb3.cell (p := ⟨bb, of + j * 5 + 1, none⟩) hbbl).trans i1, (hb3.cell (p := ⟨bb, of + j * 5 + 2, none⟩) hbbl).trans i2, (hb3.cell (p := ⟨bb, of + j * 5 + 3, none⟩) hbbl).trans i3, (hb3.cell (p := ⟨bb, of + j * 5 + 4, none⟩) hbbl).trans i4⟩ (fun _ => ?_)
          clear hK K hHeld
          have hHeld : (fun w' => w'.cell? ⟨X, 2, none⟩ = some (.slice (some ⟨bb, of, none⟩) n2 c) ∧ w'.cell? ⟨bb, of + j * 5, none⟩ = some (.string nm) ∧ w'.cell? ⟨bb, of + j * 5 + 1, none⟩ = some (.int .i64 k) ∧ w'.cell? ⟨bb, of + j * 5 + 2, none⟩ = some (.int .i64 n) ∧ w'.cell? ⟨bb, of + j * 5 + 3, none⟩ = some (.string t) ∧ w'.cell? ⟨bb, of + j * 5 + 4, none⟩ = some (.slice lp L.length lc)) w3 := ⟨(hb3.cell (p := ⟨X, 2, none⟩) hXj).trans y2, (hb3.cell (p := ⟨bb, of + j * 5, none⟩) hbbl).trans i0, (hb3.cell (p := ⟨bb, of + j * 5 + 1, none⟩) hbbl).trans i1, (hb3.cell (p := ⟨bb, of + j * 5 + 2, none⟩) hbbl).trans i2, (hb3.cell (p := ⟨bb, of + j * 5 + 3, none⟩) hbbl).trans i3, (hb3.cell (p := ⟨bb, of + j * 5 + 4, none⟩) hbbl).trans i4⟩
          try simp only [List.getElem_toArray, List.getElem_cons_succ, List.getElem_cons_zero, Act.put, List.setIfInBounds_toArray, List.set_cons_zero, List.set_cons_succ]
          refine wpAnyH_ready (rs := [14]) (by kernel_rfl) (by simp) ?_
          refine AllReadyH.cons rfl (fun K hK => ?_) AllReadyH.nil
          go_simp
          go_at_call 55
          refine (hP2.out a3 c3 w3 hS3 hb3).mono ?_
          rintro en w4 ⟨a4, c4, rfl, hS4, hb4'⟩
          have hb4 := hb3.trans (hb4'.mono hb3.size)
          refine hK.out _ _ ⟨(hb4.cell (p := ⟨X, 2, none⟩) hXj).trans y2, (hb4.cell (p := ⟨bb, of + j * 5, none⟩) hbbl).trans i0, (hb4.cell (p := ⟨bb, of + j * 5 + 1, none⟩) hbbl).trans i1, (hb4.cell (p := ⟨bb, of + j * 5 + 2, none⟩) hbbl).trans i2, (hb4.cell (p := ⟨bb, of + j * 5 + 3, none⟩) hbbl).trans i3, (hb4.cell (p := ⟨bb, of + j * 5 + 4, none⟩) hbbl).trans i4⟩ (fun _ => ?_)
          clear hK K hHeld
          have hHeld : (fun w' => w'.cell? ⟨X, 2, none⟩ = some (.slice (some ⟨bb, of, none⟩) n2 c) ∧ w'.cell? ⟨bb, of + j * 5, none⟩ = some (.string nm) ∧ w'.cell? ⟨bb, of + j * 5 + 1, none⟩ = some (.int .i64 k) ∧ w'.cell? ⟨bb, of + j * 5 + 2, none⟩ = some (.int .i64 n) ∧ w'.cell? ⟨bb, of + j * 5 + 3, none⟩ = some (.string t) ∧ w'.cell? ⟨bb, of + j * 5 + 4, none⟩ = some (.slice lp L.length lc)) w4 := ⟨(hb4.cell (p := ⟨X, 2, none⟩) hXj).trans y2, (hb4.cell (p := ⟨bb, of + j * 5, none⟩) hbbl).trans i0, (hb4.cell (p := ⟨bb, of + j * 5 + 1, none⟩) hbbl).trans i1, (hb4.cell (p := ⟨bb, of + j * 5 + 2, none⟩) hbbl).trans i2, (hb4.cell (p := ⟨bb, of + j * 5 + 3, none⟩) hbbl).trans i3, (hb4.cell (p := ⟨bb, of + j * 5 + 4, none⟩) hbbl).trans i4⟩
          try simp only [List.getElem_toArray, List.getElem_cons_succ, List.getElem_cons_zero, Act.put, List.setIfInBounds_toArray, List.set_cons_zero, List.set_cons_succ]
          refine wpAnyH_take (i := 15) (v := ?_) rfl (by kernel_rfl) (by kernel_rfl) (by kernel_rfl) (fun _ _ _ h => h) (Or.inl ⟨by rfl, ?_⟩) hHeld ?_
          rotate_left
          · intro w' hSw
            go_simp
            try with_reducible rfl
          try simp only [List.getElem_toArray, List.getElem_cons_succ, List.getElem_cons_zero, Act.put, List.setIfInBounds_toArray, List.set_cons_zero, List.set_cons_succ]
          refine wpAnyH_done (by kernel_rfl) ?_ _
          clear hHeld
          go_wp2
          go_roundw
          case rel => exact ⟨j + 1, by omega, by go_num, hbj.trans (hb4.mono hbj.size), a4, c4, b2, rfl, hS4, hnj2.out⟩
          case measure => simp [intOf]; omega
        · obtain rfl : j = n2 := by omega
          have hltI : ¬ (j : Int) < (j : Int) := by omega
          have htk : at_.take j = at_ := List.take_of_length_le (by omega)
          have hbje := hbje.out
          rw [htk, ← hnext2.out] at hbje
          replace hbje := Lib.hid hbje
          go_wp2
          go_roundw
          case rel => exact ⟨m + 1, by omega, by go_num, hbr5.trans (hbj.mono hbr5.size), aj, cj, bj, rfl, hSj, hbje.out⟩
          case measure => simp [intOf]; omega
    · obtain rfl : m = N := by omega
      have hltI : ¬ (m : Int) < (m : Int) := by omega
      have htk : l.take m = l := List.take_of_length_le (by omega)
      have hbre := hbre.out
      rw [htk] at hbre
      rw [hSB.out] at hbre
      replace hbre := Lib.hid hbre
      go_wp2
      go_ret2
      exact ⟨⟨ar, cr, by show Ending.returned (Value.tuple #[Value.slice ar (br.length : Nat) cr, Value.int .i64 0]) = _; rw [hbre.out], by rw [← hbre.out]; exact hSr⟩, hB2.trans (hbr.mono hB2.size)⟩
end Go.Proofs.YtcbnefeedoabeaaGreatDoor
