/- TextUnquotes: for every text, number and byte, text.Unquote and the document's answer agree on the five texts that the statement makes, and what was read is quoted as it stood. -/
import Derived.Test.YtfdmeinfjfmnlaaDoorTextQuotes
import Derived.Lib.ConvBytes
namespace Go.Proofs.YtfdmeinfjfmnlaaDoor
open Go Go.RowKit

theorem unS_inv : ∀ (l : List UInt8) (op : Bool) (out o : List UInt8), unS l op out = some o →
    (op = false → ∃ o', o = out ++ o' ∧ escL o' = l) ∧ (op = true → ∃ c t o', l = c :: t ∧ isEsc c = true ∧ o = out ++ c :: o' ∧ escL o' = t)
  | [], false, out, o, h => by
    rw [unS] at h
    cases h
    exact ⟨fun _ => ⟨[], by simp, rfl⟩, (fun h => by cases h)⟩
  | [], true, out, o, h => by rw [unS] at h; cases h
  | c :: t, true, out, o, h => by
    rw [unS] at h
    split at h
    · rename_i hc
      obtain ⟨o', h1, h2⟩ := (unS_inv t false (out ++ [c]) o h).1 rfl
      exact ⟨(fun h => by cases h), fun _ => ⟨c, t, o', rfl, hc, by rw [h1]; simp, h2⟩⟩
    · cases h
  | c :: t, false, out, o, h => by
    rw [unS] at h
    split at h
    · cases h
    · rename_i h34
      split at h
      · rename_i h92
        obtain ⟨d, t', o', h1, h2, h3, h4⟩ := (unS_inv t true out o h).2 rfl
        refine ⟨fun _ => ⟨d :: o', h3, ?_⟩, fun h => by cases h⟩
        have e : escL (d :: o') = (if isEsc d then [92, d] else [d]) ++ escL o' := rfl
        rw [e, if_pos h2, h4, h1, h92]
        rfl
      · rename_i h92
        obtain ⟨o', h1, h2⟩ := (unS_inv t false (out ++ [c]) o h).1 rfl
        refine ⟨fun _ => ⟨c :: o', by rw [h1]; simp, ?_⟩, fun h => by cases h⟩
        have e : escL (c :: o') = (if isEsc c then [92, c] else [c]) ++ escL o' := rfl
        rw [e, if_neg (by simp [isEsc, h34, h92]), h2]
        rfl
theorem ends_eq (s : ByteArray) (h : 2 ≤ s.size ∧ s.get! 0 = 34 ∧ s.get! (s.size - 1) = 34) : s.data.toList = 34 :: (inner s ++ [34]) := by
  have hl : s.data.toList.length = s.size := rfl
  have e0 := drop_at s 0 (by omega)
  have e1 := drop_at s (s.size - 1) (by omega)
  rw [h.2.1] at e0
  rw [h.2.2, show s.size - 1 + 1 = s.size by omega, List.drop_eq_nil_of_le (show s.data.toList.length ≤ s.size by omega)] at e1
  rw [show s.data.toList.drop 0 = s.data.toList from rfl] at e0
  rw [e0]
  congr 1
  have : s.data.toList.drop 1 = (s.data.toList.drop 1).take (s.size - 2) ++ (s.data.toList.drop 1).drop (s.size - 2) := (List.take_append_drop _ _).symm
  rw [show s.data.toList.drop (0 + 1) = s.data.toList.drop 1 from rfl, this]
  unfold inner
  congr 1
  rw [List.drop_drop, show 1 + (s.size - 2) = s.size - 1 by omega, e1]
/-- The three kinds of answers. -/
theorem unqV_cases (x : ByteArray) : unqV x = .tuple #[.string ⟨#[]⟩, .int .i64 1] ∨ unqV x = .tuple #[.string ⟨#[]⟩, .int .i64 2] ∨
    ∃ u : ByteArray, unqV x = .tuple #[.string u, .int .i64 0] ∧ validB u = true ∧ (⟨(quoteL u.data.toList).toArray⟩ : ByteArray) = x := by
  by_cases h : 2 ≤ x.size ∧ x.get! 0 = 34 ∧ x.get! (x.size - 1) = 34
  · rw [unqV_in h]
    cases hr : unS (inner x) false [] with
    | none => exact .inl rfl
    | some o =>
      cases hv : validB ⟨o.toArray⟩ with
      | false =>
        refine .inr (.inl ?_)
        show (if validB ⟨o.toArray⟩ then strE o 0 else strE [] 2) = _
        rw [if_neg (by rw [hv]; simp)]
        rfl
      | true =>
        refine .inr (.inr ⟨⟨o.toArray⟩, ?_, hv, ?_⟩)
        · show (if validB ⟨o.toArray⟩ then strE o 0 else strE [] 2) = _
          rw [if_pos hv]
          rfl
        · obtain ⟨o', h1, h2⟩ := (unS_inv _ _ _ _ hr).1 rfl
          rw [List.nil_append] at h1
          subst h1
          show (⟨(quoteL o).toArray⟩ : ByteArray) = x
          unfold quoteL
          rw [h2, ← ends_eq x h, eta]
  · exact .inl (unqV_bad h)

/-- '[]byte(q)': a new row that holds q's bytes, and may be written. -/
theorem conv_bytes (q : ByteArray) (V : World) : ∃ (V1 : World) (cap : Nat), (convert 9 29 (.string q)).run Tryd.prog V = .ok (.slice (some ⟨V.heap.size, 0, none⟩) q.size cap) V1 ∧ Below V.heap.size V V1 ∧ V.heap.size < V1.heap.size ∧
    (∀ (j : Nat) (h : j < q.size), V1.cell? ⟨V.heap.size, j, none⟩ = some (.int .u8 ((q[j]'h).toNat : Int))) ∧ (∀ j, j < q.size → V1.frozen? ⟨V.heap.size, j, none⟩ = false) ∧ q.size ≤ cap := by
  refine ⟨Lib.bytesWorld V 5 q, _, Lib.run_convert_string_bytes V 9 29 5 q Tryd.underlying9 Tryd.underlying29 Tryd.underlying5, ?_, ?_, ?_, ?_, ?_⟩
  · exact ⟨rfl, rfl, rfl, by rw [Lib.bytesWorld_size]; omega, fun k hk => Lib.bytesWorld_at_old V _ q k hk⟩
  · rw [Lib.bytesWorld_size]; omega
  · intro j h
    rw [Lib.bytesWorld_cell V _ q j h, ← get_list q j h, get_bang q j h]
  · intro j h
    have hs : q.size ≤ (Lib.bytesCells V 5 q).size := by
      have : (Lib.bytesCells V 5 q).size = q.size + (grownCap V q.size 0 5 - q.size) := by simp [Lib.bytesCells]
      omega
    simp only [World.frozen?, Lib.bytesWorld_at_new]
    simp
    omega
  · exact grownCap_ge V q.size 0 _

set_option maxHeartbeats 8000000 in
set_option maxRecDepth 100000 in
theorem unquotes_empty (s : ByteArray) (n c : Int) (w : World) (E : Env w) (hs : s.size ≤ 140737488351232)
    (hRQ : ∀ V, Env V → Calls Tryd.prog 19 #[.string s] V fun e w' => e = .returned (.tuple #[.string ⟨#[]⟩, .int .i64 2]) ∧ Below V.heap.size V w') :
    Calls Tryd.prog 7 #[.string s, .int .i64 n, .int .u8 c] w fun e w' => e = .returned (.bool true) ∧ Below w.heap.size w w' := by
  have B := Below.refl w.heap.size w
  have z1 : (⟨#[34]⟩ : ByteArray).size = 1 := rfl
  have z2 : (⟨#[92, 34]⟩ : ByteArray).size = 2 := rfl
  have z3 : (⟨#[34]⟩ ++ s : ByteArray).size = 1 + s.size := by rw [ByteArray.size_append]; omega
  go_enter Tryd.func7, Tryd.ntmps7
  go_wp2_with (first
    | (go_at_call 10; refine (awake_any _ E).mono ?_; rintro e W ⟨rfl, hb⟩; replace E := E.below hb; replace B := B.trans (hb.mono B.size); clear hb)
    | (go_at_call 19; refine (hRQ _ E).mono ?_; rintro e W ⟨rfl, hb⟩; replace E := E.below hb; replace B := B.trans (hb.mono B.size); clear hb))
  obtain ⟨V1, cap, hrun, hb1, hlt1, hcells, hfz, hcap⟩ := conv_bytes ⟨#[]⟩ W
  have hrun' : (convert 9 29 (.string ⟨#[]⟩)).run Tryd.prog W = .ok (.slice (some ⟨W.heap.size, 0, none⟩) 0 cap) V1 := hrun
  rw [hrun']
  simp only [Result.andThen]
  rw [Oper.upon_value]
  have hcv : (convert 29 9 (.slice (some ⟨W.heap.size, 0, none⟩) 0 cap)).run Tryd.prog V1 = .ok (.string ⟨#[]⟩) V1 :=
    run_convert_bytes_back V1 _ _ _ ⟨W.heap.size, 0, none⟩ cap [] Tryd.underlying29 Tryd.underlying5 Tryd.underlying9 fun j hj => by cases hj
  replace E := E.below hb1
  replace B := B.trans (hb1.mono B.size)
  clear hRQ hrun hrun' hcells hfz hcap
  go_wp2
  obtain ⟨L, hL⟩ : ∃ L : List ByteArray, L = [s, ⟨#[34]⟩ ++ s ++ ⟨#[34]⟩, ⟨#[]⟩, ⟨#[]⟩, ⟨#[34]⟩ ++ s ++ ⟨#[92, 34]⟩] := ⟨_, rfl⟩
  have hLs : ∀ (i : Nat) (h : i < L.length), L[i].size ≤ 140737488355328 := by
    have : ∀ x ∈ L, x.size ≤ 140737488355328 := by
      rw [hL]
      simp only [List.mem_cons, List.not_mem_nil, or_false]
      rintro x (rfl | rfl | rfl | rfl | rfl)
      · omega
      · rw [ByteArray.size_append]; omega
      · show 0 ≤ _; omega
      · show 0 ≤ _; omega
      · rw [ByteArray.size_append]; omega
    exact fun i h => this _ (List.getElem_mem h)
  have hlen : L.length = 5 := by rw [hL]; rfl
  have hW1 : V1.alloc (.cells (L.map Value.string).toArray 9) = V1.alloc (.cells #[.string (s), .string (⟨#[34]⟩ ++ s ++ ⟨#[34]⟩), .string (⟨#[]⟩), .string (⟨#[]⟩), .string (⟨#[34]⟩ ++ s ++ ⟨#[92, 34]⟩)] 9) := by rw [hL]; rfl
  have hS := strsAt_alloc L V1 9
  have hbW : Below V1.heap.size V1 (V1.alloc (.cells (L.map Value.string).toArray 9)) := (Below.refl _ V1).alloc (Nat.le_refl _) _
  rw [hW1] at hS hbW
  have E1 := E.below hbW
  have B1 := B.trans (hbW.mono B.size)
  clear hW1 hL hbW
  generalize V1.alloc (.cells #[.string (s), .string (⟨#[34]⟩ ++ s ++ ⟨#[34]⟩), .string (⟨#[]⟩), .string (⟨#[]⟩), .string (⟨#[34]⟩ ++ s ++ ⟨#[92, 34]⟩)] 9) = W1 at hS E1 B1 ⊢
  obtain ⟨b, off, hbl, hv, hcell⟩ := hS
  rw [hlen] at hv
  obtain ⟨rfl, rfl⟩ : b = V1.heap.size ∧ off = 0 := by
    simp only [Value.slice.injEq, Option.some.injEq, Addr.mk.injEq] at hv
    exact ⟨hv.1.1.symm, hv.1.2.1.symm⟩
  clear hv E B hcv hb1 z1 z2 z3 hs
  go_loopw [55] (fun i wr => ∃ k : Nat, k ≤ 5 ∧ i = .int .i64 k ∧ Below W1.heap.size W1 wr) (fun i _ => 5 - (intOf i).toNat)
  case atStart => exact ⟨0, by omega, rfl, Below.refl _ _⟩
  case round =>
    obtain ⟨j, hj, rfl, hbw⟩ := hrel
    by_cases hlt : j < 5
    · have hjl : j < L.length := by omega
      have hc1 := cell_below (hcell j hjl) hbw
      rw [Nat.zero_add] at hc1
      have E2 := E1.below hbw
      have hxs := hLs j hjl
      generalize L[j] = x at hc1 hxs
      replace hcell := Lib.hid hcell
      replace hLs := Lib.hid hLs
      replace hlen := Lib.hid hlen
      have xx : (x.toList == x.toList) = true := by simp
      rcases unqV_cases x with hu | hu | ⟨u, hu, hvu, hq⟩
      · have hU : ∀ V, Env V → Calls Tryd.prog 20 #[.string x] V fun e w' => e = .returned (.tuple #[.string ⟨#[]⟩, .int .i64 1]) ∧ Below V.heap.size V w' := fun V h => by rw [← hu]; exact unquote_any x V hxs h.tabs
        have hR : ∀ V, Env V → Calls Tryd.prog 21 #[.string x] V fun e w' => e = .returned (.tuple #[.string ⟨#[]⟩, .int .i64 1]) ∧ Below V.heap.size V w' := fun V h => by rw [← hu]; exact refUnquote_any x V hxs h.tabs
        have B2 := hbw
        replace hbw := Lib.hid hbw
        replace hu := Lib.hid hu
        go_wp2_with (first
          | (go_at_call 20; refine (hU _ E2).mono ?_; rintro e V ⟨rfl, hb⟩; replace E2 := E2.below hb; replace B2 := B2.trans (hb.mono B2.size); clear hb)
          | (go_at_call 21; refine (hR _ E2).mono ?_; rintro e V ⟨rfl, hb⟩; replace E2 := E2.below hb; replace B2 := B2.trans (hb.mono B2.size); clear hb))
        go_roundw
        case rel => exact ⟨j + 1, by omega, by go_num, B2⟩
        case measure => simp [intOf]; omega
      · have hU : ∀ V, Env V → Calls Tryd.prog 20 #[.string x] V fun e w' => e = .returned (.tuple #[.string ⟨#[]⟩, .int .i64 2]) ∧ Below V.heap.size V w' := fun V h => by rw [← hu]; exact unquote_any x V hxs h.tabs
        have hR : ∀ V, Env V → Calls Tryd.prog 21 #[.string x] V fun e w' => e = .returned (.tuple #[.string ⟨#[]⟩, .int .i64 2]) ∧ Below V.heap.size V w' := fun V h => by rw [← hu]; exact refUnquote_any x V hxs h.tabs
        have B2 := hbw
        replace hbw := Lib.hid hbw
        replace hu := Lib.hid hu
        go_wp2_with (first
          | (go_at_call 20; refine (hU _ E2).mono ?_; rintro e V ⟨rfl, hb⟩; replace E2 := E2.below hb; replace B2 := B2.trans (hb.mono B2.size); clear hb)
          | (go_at_call 21; refine (hR _ E2).mono ?_; rintro e V ⟨rfl, hb⟩; replace E2 := E2.below hb; replace B2 := B2.trans (hb.mono B2.size); clear hb))
        go_roundw
        case rel => exact ⟨j + 1, by omega, by go_num, B2⟩
        case measure => simp [intOf]; omega
      · have hU : ∀ V, Env V → Calls Tryd.prog 20 #[.string x] V fun e w' => e = .returned (.tuple #[.string u, .int .i64 0]) ∧ Below V.heap.size V w' := fun V h => by rw [← hu]; exact unquote_any x V hxs h.tabs
        have hR : ∀ V, Env V → Calls Tryd.prog 21 #[.string x] V fun e w' => e = .returned (.tuple #[.string u, .int .i64 0]) ∧ Below V.heap.size V w' := fun V h => by rw [← hu]; exact refUnquote_any x V hxs h.tabs
        have hQ : ∀ V, Env V → Calls Tryd.prog 18 #[.string u] V fun e w' => e = .returned (.tuple #[.string x, .int .i64 0]) ∧ Below V.heap.size V w' := fun V h => by rw [← hq]; exact quote_loop u V hvu h.tabs
        have uu : (u.toList == u.toList) = true := by simp
        have B2 := hbw
        replace hbw := Lib.hid hbw
        replace hu := Lib.hid hu
        replace hvu := Lib.hid hvu
        replace hq := Lib.hid hq
        go_wp2_with (first
          | (go_at_call 20; refine (hU _ E2).mono ?_; rintro e V ⟨rfl, hb⟩; replace E2 := E2.below hb; replace B2 := B2.trans (hb.mono B2.size); clear hb)
          | (go_at_call 21; refine (hR _ E2).mono ?_; rintro e V ⟨rfl, hb⟩; replace E2 := E2.below hb; replace B2 := B2.trans (hb.mono B2.size); clear hb)
          | (go_at_call 18; refine (hQ _ E2).mono ?_; rintro e V ⟨rfl, hb⟩; replace E2 := E2.below hb; replace B2 := B2.trans (hb.mono B2.size); clear hb))
        go_roundw
        case rel => exact ⟨j + 1, by omega, by go_num, B2⟩
        case measure => simp [intOf]; omega
    · obtain rfl : j = 5 := by omega
      go_wp2
      go_ret
      exact ⟨rfl, B1.trans (hbw.mono B1.size)⟩

set_option maxHeartbeats 8000000 in
set_option maxRecDepth 100000 in
theorem unquotes_some (s q : ByteArray) (n : Int) (ch : UInt8) (w : World) (E : Env w) (hs : s.size ≤ 140737488351232) (hq1 : 0 < q.size) (hq2 : q.size ≤ 1000)
    (hRQ : ∀ V, Env V → Calls Tryd.prog 19 #[.string s] V fun e w' => e = .returned (.tuple #[.string q, .int .i64 0]) ∧ Below V.heap.size V w') :
    Calls Tryd.prog 7 #[.string s, .int .i64 n, .int .u8 (ch.toNat : Int)] w fun e w' => e = .returned (.bool true) ∧ Below w.heap.size w w' := by
  have B := Below.refl w.heap.size w
  have z1 : (⟨#[34]⟩ : ByteArray).size = 1 := rfl
  have z2 : (⟨#[92, 34]⟩ : ByteArray).size = 2 := rfl
  have z3 : (⟨#[34]⟩ ++ s : ByteArray).size = 1 + s.size := by rw [ByteArray.size_append]; omega
  go_enter Tryd.func7, Tryd.ntmps7
  go_wp2_with (first
    | (go_at_call 10; refine (awake_any _ E).mono ?_; rintro e W ⟨rfl, hb⟩; replace E := E.below hb; replace B := B.trans (hb.mono B.size); clear hb)
    | (go_at_call 19; refine (hRQ _ E).mono ?_; rintro e W ⟨rfl, hb⟩; replace E := E.below hb; replace B := B.trans (hb.mono B.size); clear hb))
  obtain ⟨V1, cap, hrun, hb1, hlt1, hcells, hfz, hcap⟩ := conv_bytes q W
  rw [hrun]
  simp only [Result.andThen]
  rw [Oper.upon_value]
  obtain ⟨m, hm⟩ : ∃ m, n.tmod (q.size : Int) = m := ⟨_, rfl⟩
  have hmr := tmod_range n q.size hq1
  rw [hm] at hmr
  obtain ⟨k, hk⟩ : ∃ k : Nat, (m + (q.size : Int)) % (q.size : Int) = (k : Int) := ⟨((m + (q.size : Int)) % (q.size : Int)).toNat, by have := Int.emod_nonneg (m + (q.size : Int)) (show (q.size : Int) ≠ 0 by omega); omega⟩
  have hkl : k < q.size := by
    have := Int.emod_lt_of_pos (m + (q.size : Int)) (show (0 : Int) < (q.size : Int) by omega)
    omega
  have hck := hcells k hkl
  have hfk := hfz k hkl
  have hq1' : (0 : Int) < (q.size : Int) := by omega
  have hmlo : (0 : Int) ≤ m + (q.size : Int) := by omega
  have hmhi : m + (q.size : Int) ≤ 2000 := by omega
  clear hmr hRQ hrun
  have hql : q.data.toList.length = q.size := rfl
  have hcv : (convert 29 9 (.slice (some ⟨W.heap.size, 0, none⟩) q.size cap)).run Tryd.prog (V1.setCell ⟨W.heap.size, k, none⟩ (.int .u8 (ch.toNat : Int))) = .ok (.string ⟨(q.data.toList.set k ch).toArray⟩) (V1.setCell ⟨W.heap.size, k, none⟩ (.int .u8 (ch.toNat : Int))) := by
    have := run_convert_bytes_back (P := Tryd.prog) (V1.setCell ⟨W.heap.size, k, none⟩ (.int .u8 (ch.toNat : Int))) 29 9 5 ⟨W.heap.size, 0, none⟩ cap (q.data.toList.set k ch) Tryd.underlying29 Tryd.underlying5 Tryd.underlying9 fun j hj => by
      have hjq : j < q.size := by rw [List.length_set] at hj; exact hj
      rw [show (⟨W.heap.size, 0, none⟩ : Addr).add j = ⟨W.heap.size, j, none⟩ from (by simp [Addr.add]; exact fun h => h.symm)]
      by_cases hjk : k = j
      · subst hjk
        rw [World.cell?_setCell_same _ _ _ hck]
        simp
      · rw [World.cell?_setCell_other _ _ _ _ (show (⟨W.heap.size, k, none⟩ : Addr) ≠ ⟨W.heap.size, j, none⟩ from fun e => hjk (by injection e)), hcells j hjq, List.getElem_set_ne hjk]
        rfl
    rw [List.length_set, hql] at this
    exact this
  obtain ⟨q2, hq2e⟩ : ∃ q2 : ByteArray, q2 = ⟨(q.data.toList.set k ch).toArray⟩ := ⟨_, rfl⟩
  rw [← hq2e] at hcv
  have hq2s : q2.size = q.size := by
    rw [hq2e]
    show (q.data.toList.set k ch).toArray.size = _
    simp
  have hb2 : Below W.heap.size W (V1.setCell ⟨W.heap.size, k, none⟩ (.int .u8 (ch.toNat : Int))) := hb1.setCell (p := ⟨W.heap.size, k, none⟩) (Nat.le_refl _) _
  have E3 := E.below hb2
  have B3 := B.trans (hb2.mono B.size)
  clear E B hb2 hq2e hcells hfz hb1
  go_wp2
  rw [hk]
  clear hm hk hmlo hmhi hck hfk hcap
  have hVs : (V1.setCell ⟨W.heap.size, k, none⟩ (.int .u8 (ch.toNat : Int))).heap.size = V1.heap.size := World.size_setCell _ _ _
  rw [← hVs]
  clear hVs
  generalize V1.setCell ⟨W.heap.size, k, none⟩ (.int .u8 (ch.toNat : Int)) = V2 at hcv E3 B3 ⊢
  obtain ⟨L, hL⟩ : ∃ L : List ByteArray, L = [s, ⟨#[34]⟩ ++ s ++ ⟨#[34]⟩, q, q2, ⟨#[34]⟩ ++ s ++ ⟨#[92, 34]⟩] := ⟨_, rfl⟩
  have hLs : ∀ (i : Nat) (h : i < L.length), L[i].size ≤ 140737488355328 := by
    have : ∀ x ∈ L, x.size ≤ 140737488355328 := by
      rw [hL]
      simp only [List.mem_cons, List.not_mem_nil, or_false]
      rintro x (rfl | rfl | rfl | rfl | rfl)
      · omega
      · rw [ByteArray.size_append]; omega
      · omega
      · omega
      · rw [ByteArray.size_append]; omega
    exact fun i h => this _ (List.getElem_mem h)
  have hlen : L.length = 5 := by rw [hL]; rfl
  have hW1 : V2.alloc (.cells (L.map Value.string).toArray 9) = V2.alloc (.cells #[.string (s), .string (⟨#[34]⟩ ++ s ++ ⟨#[34]⟩), .string (q), .string (q2), .string (⟨#[34]⟩ ++ s ++ ⟨#[92, 34]⟩)] 9) := by rw [hL]; rfl
  have hS := strsAt_alloc L V2 9
  have hbW : Below V2.heap.size V2 (V2.alloc (.cells (L.map Value.string).toArray 9)) := (Below.refl _ V2).alloc (Nat.le_refl _) _
  rw [hW1] at hS hbW
  have E1 := E3.below hbW
  have B1 := B3.trans (hbW.mono B3.size)
  clear hW1 hL hbW
  generalize V2.alloc (.cells #[.string (s), .string (⟨#[34]⟩ ++ s ++ ⟨#[34]⟩), .string (q), .string (q2), .string (⟨#[34]⟩ ++ s ++ ⟨#[92, 34]⟩)] 9) = W1 at hS E1 B1 ⊢
  obtain ⟨b, off, hbl, hv, hcell⟩ := hS
  rw [hlen] at hv
  obtain ⟨rfl, rfl⟩ : b = V2.heap.size ∧ off = 0 := by
    simp only [Value.slice.injEq, Option.some.injEq, Addr.mk.injEq] at hv
    exact ⟨hv.1.1.symm, hv.1.2.1.symm⟩
  clear hv E3 B3 hcv z1 z2 z3 hs hq2s hql hq1' hq1 hq2 hkl
  go_loopw [55] (fun i wr => ∃ k : Nat, k ≤ 5 ∧ i = .int .i64 k ∧ Below W1.heap.size W1 wr) (fun i _ => 5 - (intOf i).toNat)
  case atStart => exact ⟨0, by omega, rfl, Below.refl _ _⟩
  case round =>
    obtain ⟨j, hj, rfl, hbw⟩ := hrel
    by_cases hlt : j < 5
    · have hjl : j < L.length := by omega
      have hc1 := cell_below (hcell j hjl) hbw
      rw [Nat.zero_add] at hc1
      have E2 := E1.below hbw
      have hxs := hLs j hjl
      generalize L[j] = x at hc1 hxs
      replace hcell := Lib.hid hcell
      replace hLs := Lib.hid hLs
      replace hlen := Lib.hid hlen
      have xx : (x.toList == x.toList) = true := by simp
      rcases unqV_cases x with hu | hu | ⟨u, hu, hvu, hq⟩
      · have hU : ∀ V, Env V → Calls Tryd.prog 20 #[.string x] V fun e w' => e = .returned (.tuple #[.string ⟨#[]⟩, .int .i64 1]) ∧ Below V.heap.size V w' := fun V h => by rw [← hu]; exact unquote_any x V hxs h.tabs
        have hR : ∀ V, Env V → Calls Tryd.prog 21 #[.string x] V fun e w' => e = .returned (.tuple #[.string ⟨#[]⟩, .int .i64 1]) ∧ Below V.heap.size V w' := fun V h => by rw [← hu]; exact refUnquote_any x V hxs h.tabs
        have B2 := hbw
        replace hbw := Lib.hid hbw
        replace hu := Lib.hid hu
        go_wp2_with (first
          | (go_at_call 20; refine (hU _ E2).mono ?_; rintro e V ⟨rfl, hb⟩; replace E2 := E2.below hb; replace B2 := B2.trans (hb.mono B2.size); clear hb)
          | (go_at_call 21; refine (hR _ E2).mono ?_; rintro e V ⟨rfl, hb⟩; replace E2 := E2.below hb; replace B2 := B2.trans (hb.mono B2.size); clear hb))
        go_roundw
        case rel => exact ⟨j + 1, by omega, by go_num, B2⟩
        case measure => simp [intOf]; omega
      · have hU : ∀ V, Env V → Calls Tryd.prog 20 #[.string x] V fun e w' => e = .returned (.tuple #[.string ⟨#[]⟩, .int .i64 2]) ∧ Below V.heap.size V w' := fun V h => by rw [← hu]; exact unquote_any x V hxs h.tabs
        have hR : ∀ V, Env V → Calls Tryd.prog 21 #[.string x] V fun e w' => e = .returned (.tuple #[.string ⟨#[]⟩, .int .i64 2]) ∧ Below V.heap.size V w' := fun V h => by rw [← hu]; exact refUnquote_any x V hxs h.tabs
        have B2 := hbw
        replace hbw := Lib.hid hbw
        replace hu := Lib.hid hu
        go_wp2_with (first
          | (go_at_call 20; refine (hU _ E2).mono ?_; rintro e V ⟨rfl, hb⟩; replace E2 := E2.below hb; replace B2 := B2.trans (hb.mono B2.size); clear hb)
          | (go_at_call 21; refine (hR _ E2).mono ?_; rintro e V ⟨rfl, hb⟩; replace E2 := E2.below hb; replace B2 := B2.trans (hb.mono B2.size); clear hb))
        go_roundw
        case rel => exact ⟨j + 1, by omega, by go_num, B2⟩
        case measure => simp [intOf]; omega
      · have hU : ∀ V, Env V → Calls Tryd.prog 20 #[.string x] V fun e w' => e = .returned (.tuple #[.string u, .int .i64 0]) ∧ Below V.heap.size V w' := fun V h => by rw [← hu]; exact unquote_any x V hxs h.tabs
        have hR : ∀ V, Env V → Calls Tryd.prog 21 #[.string x] V fun e w' => e = .returned (.tuple #[.string u, .int .i64 0]) ∧ Below V.heap.size V w' := fun V h => by rw [← hu]; exact refUnquote_any x V hxs h.tabs
        have hQ : ∀ V, Env V → Calls Tryd.prog 18 #[.string u] V fun e w' => e = .returned (.tuple #[.string x, .int .i64 0]) ∧ Below V.heap.size V w' := fun V h => by rw [← hq]; exact quote_loop u V hvu h.tabs
        have uu : (u.toList == u.toList) = true := by simp
        have B2 := hbw
        replace hbw := Lib.hid hbw
        replace hu := Lib.hid hu
        replace hvu := Lib.hid hvu
        replace hq := Lib.hid hq
        go_wp2_with (first
          | (go_at_call 20; refine (hU _ E2).mono ?_; rintro e V ⟨rfl, hb⟩; replace E2 := E2.below hb; replace B2 := B2.trans (hb.mono B2.size); clear hb)
          | (go_at_call 21; refine (hR _ E2).mono ?_; rintro e V ⟨rfl, hb⟩; replace E2 := E2.below hb; replace B2 := B2.trans (hb.mono B2.size); clear hb)
          | (go_at_call 18; refine (hQ _ E2).mono ?_; rintro e V ⟨rfl, hb⟩; replace E2 := E2.below hb; replace B2 := B2.trans (hb.mono B2.size); clear hb))
        go_roundw
        case rel => exact ⟨j + 1, by omega, by go_num, B2⟩
        case measure => simp [intOf]; omega
    · obtain rfl : j = 5 := by omega
      go_wp2
      go_ret
      exact ⟨rfl, B1.trans (hbw.mono B1.size)⟩

theorem unquotes_walk (s : ByteArray) (n c : Int) (w : World) (E : Env w) (hs : s.size ≤ 140737488351232) (_hn : -9223372036854775808 ≤ n ∧ n ≤ 9223372036854775807) (hc : 0 ≤ c ∧ c ≤ 255) :
    Calls Tryd.prog 7 #[.string s, .int .i64 n, .int .u8 c] w fun e w' => e = .returned (.bool true) ∧ Below w.heap.size w w' := by
  obtain ⟨ch, rfl⟩ : ∃ ch : UInt8, c = (ch.toNat : Int) := ⟨UInt8.ofNat c.toNat, by rw [UInt8.toNat_ofNat']; omega⟩
  cases hv : validB s with
  | true =>
    refine unquotes_some s ⟨(quoteL s.data.toList).toArray⟩ n ch w E hs ?_ ?_ (fun V h => refQuote_loop s V hv h.tabs)
    · show 0 < (quoteL s.data.toList).toArray.size
      simp [quoteL]
    · have h := escL_length s.data.toList
      have hs2 : s.size ≤ 200 := by simp only [validB, Bool.and_eq_true, decide_eq_true_eq] at hv; exact hv.1.1
      have hl : s.data.toList.length = s.size := rfl
      show (quoteL s.data.toList).toArray.size ≤ _
      simp [quoteL]
      omega
  | false => exact unquotes_empty s n _ w E hs (fun V h => refQuote_bad s V (by omega) hv h.tabs)
end Go.Proofs.YtfdmeinfjfmnlaaDoor
