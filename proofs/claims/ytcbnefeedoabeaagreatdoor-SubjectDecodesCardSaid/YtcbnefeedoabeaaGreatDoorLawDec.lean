/- SubjectDecodes: what any bytes are as a subject. -/
import Derived.Test.YtcbnefeedoabeaaGreatDoorPm
import Derived.Test.YtcbnefeedoabeaaGreatDoorPs
import Derived.Test.YtcbnefeedoabeaaGreatDoorPr
import Derived.Test.YtcbnefeedoabeaaGreatDoorPt
import Derived.Test.YtcbnefeedoabeaaGreatDoorPo
import Derived.Deep.CutBlock
namespace Go.Proofs.YtcbnefeedoabeaaGreatDoor
open Go Go.RowKit

theorem drawn_tiny {l : List Ctx} (h : DrawnS l) : l.length ≤ 4 ∧ ∀ x ∈ l, TinyC x := by
  refine ⟨by have := h.len; omega, fun x hx => ?_⟩
  obtain ⟨kd, hk, hd⟩ := h.each x hx
  obtain ⟨d, hd1, hd2⟩ := hd.key
  refine ⟨?_, ?_, by have := hd.len hk; omega, fun a ha => ?_⟩
  · rw [hd.kind]
    rcases hk with rfl | rfl <;> decide
  · rw [hd2, (keyOf_ok d hd1).1]
    omega
  · have h1 := hd.each a ha
    have h2 := asc_names (hd.asc hk) a.name (List.mem_map_of_mem ha)
    have h3 := nameB_size h2
    have h4 : 1 ≤ a.val.kind ∧ a.val.kind ≤ 5 := by
      refine Classical.byContradiction fun h => ?_
      have := checkE_kind (x := a.val) (by omega) h1.ok
      exact this
    have h5 : -1099511627776 ≤ a.val.num ∧ a.val.num ≤ 1099511627776 := by
      have := h1.ok
      unfold checkE at this
      rw [if_neg (by omega)] at this
      by_cases hs : shapeP a.val
      · rw [if_neg (by simpa using hs)] at this
        by_cases e1 : a.val.kind = 1
        · rw [if_pos e1] at this
          split at this
          · rename_i h; omega
          · omega
        · rw [if_neg e1] at this
          by_cases e2 : a.val.kind = 2
          · rw [if_pos e2] at this
            split at this
            · omega
            · omega
          · have := hs.1
            omega
      · rw [if_pos hs] at this
        omega
    exact ⟨by omega, by omega, by omega, by have := h1.text; omega, h1.len, fun s hs => by have := h1.each s hs; omega⟩
theorem decR_tiny (other : Bool) (b : List UInt8) : (decR other b).1.length ≤ 4 ∧ ∀ x ∈ (decR other b).1, TinyC x := by
  have h := subjR_tiny other b
  unfold decR
  split
  · exact h
  · exact ⟨Nat.zero_le _, fun x hx => by simp at hx⟩
theorem subjB_len {l : List Ctx} (hl : l.length ≤ 4) (hT : ∀ x ∈ l, TinyC x) : 0 < (subjB l).length ∧ (subjB l).length ≤ 400000 := by
  have h1 := Wi.numB_pos (l.length : Int)
  have h2 := Wi.numB_len (l.length : Int) (by omega) (by omega)
  have h3 := flat_len (f := ctxB) (m := 88300) l fun x hx => ctxB_len (hT x hx)
  have h4 : l.length * 88300 ≤ 4 * 88300 := Nat.mul_le_mul_right _ hl
  unfold subjB
  rw [List.length_append]
  omega
theorem bytes_news {ad : Addr} {m : List UInt8} {w : World} (hm : Wi.BytesAre (some ad) m w) : ∀ j u, (Lib.byteCells m)[j]? = some u → w.cell? (ad.add j) = some u := by
  intro j u hj
  have hjl : j < m.length := by
    have := (List.getElem?_eq_some_iff.1 hj).1
    simpa [Lib.byteCells_length] using this
  obtain ⟨b, off, he, hlt, hc⟩ := hm j hjl
  cases he
  rw [Wi.add_off, hc]
  simpa [Lib.byteCells, hjl] using hj
/-- 'append' of bytes to a row of the call's own, in a region that draws its order. -/
theorem step_own {ops : Array Oper} {o : Oper} {a : Act} {w : World} {K : Act → World → Prop} {Q : Exit → Act → World → Prop} {X : Prop} (hgd : o.guard = none) (s x : Operand)
    (ho : o.op = .call { callee := .builtin .append, args := #[s, x], argTypes := #[22, 22] })
    {B : Nat} {v : Value} {l : List UInt8} (hown : Own B v l w) (hs : a.eval s = v) (m : List UInt8) (ad : Addr) (n c : Nat) (hn : m.length = n) (hx : a.eval x = .slice (some ad) n c)
    (hm : Wi.BytesAre (some ad) m w) (h0 : 0 < n) (N : Nat) (hN : l.length + n = N) (hlen : N ≤ 1000000) (hB : B ≤ w.heap.size)
    (h : ∀ g cap w', Own B (.slice (some ⟨g, 0, none⟩) (N : Nat) cap) (l ++ m) w' → Below B w w' → K (a.put o.dst (.slice (some ⟨g, 0, none⟩) (N : Nat) cap)) w') :
    if Region.wanted o (yielded ops a.tmps) = true then Oper.wp Tryz.prog o a w K Q else X := by
  have hw : Region.wanted o (yielded ops a.tmps) = true := by simp [Region.wanted, hgd]
  rw [if_pos hw]
  subst hn
  subst hN
  obtain ⟨i0, hi, hz0, hz1, hz2⟩ := info_parts infoByte
  refine wp_append_lies w s x 22 ho B 5 i0 (.int .u8 0) 1 1 Tryz.underlying22 hi hz0 hz1 hz2 rfl (by decide) v l.length _ hs hown ad m.length c (Lib.byteCells m) hx (by simp [Lib.byteCells_length]) (bytes_news hm) (by
    intro u hu
    simp only [Lib.byteCells, List.mem_map] at hu
    obtain ⟨c, _, rfl⟩ := hu
    rfl) h0 (by unfold maxLen; omega) (by omega) hB w.heap.size rfl ?_
  intro g cap w' hown' hg _ _
  refine h g cap w' ?_ ((Below.refl B w).grown hg hB (fun k hk => (World.ownsRow.lt hown k hk).1))
  unfold Own
  rw [Lib.byteCells_append, List.length_append]
  exact hown'
theorem own_src {B : Nat} {v : Value} {l : List UInt8} {w : World} (h : Own B v l w) : ∃ a1 c1, v = .slice a1 (l.length : Nat) c1 ∧ Wi.Src a1 l c1 w := by
  obtain ⟨a1, c1, e, h1, h2, h3⟩ := h.shape
  exact ⟨a1, c1, e, h1, h2, h3⟩
theorem poke_src {g cap k : Nat} {d : List UInt8} {cur : Array Value} {w : World} {T : TypeId} (hg : w.heap[g]? = some (.cells cur T (0, 0))) (ht : ∀ i (h : i < d.length), cur[i]? = some (.int .u8 (d[i].toNat : Int))) (hk : k < d.length) (hc : d.length ≤ cap) (z : UInt8) :
    Wi.Src (some ⟨g, 0, none⟩) (d.set k z) cap (w.setCell ⟨g, k, none⟩ (.int .u8 (z.toNat : Int))) := by
  have hks : k < cur.size := (Array.getElem?_eq_some_iff.1 (ht k hk)).1
  refine ⟨fun h => (by cases h), (by rw [List.length_set]; exact hc), fun i hi => ⟨g, 0, rfl, ?_, ?_⟩⟩
  · simpa using (Array.getElem?_eq_some_iff.1 hg).1
  · rw [Nat.zero_add, Lib.cell_of_heap (box_put hg _), Array.getElem?_setIfInBounds]
    rw [List.length_set] at hi
    by_cases hik : k = i
    · subst hik
      simp [hks]
    · rw [if_neg hik, ht i hi, List.getElem_set_ne hik]
/-- What the five slices of bytes are. -/
structure Five (G : Nat) (w : World) : Prop where
  lt : G < w.heap.size
  each : ∀ j, j < 5 → ∃ a l c, w.cell? ⟨G, j, none⟩ = some (.slice a ((l : List UInt8).length : Nat) c) ∧ Wi.Src a l c w ∧ l.length ≤ 1000000
theorem Five.below {G : Nat} {w w' : World} (h : Five G w) (hb : Below w.heap.size w w') : Five G w' := ⟨Nat.lt_of_lt_of_le h.lt hb.size, fun j hj => by
  obtain ⟨a, l, c, h1, h2, h3⟩ := h.each j hj
  exact ⟨a, l, c, (hb.cell (p := ⟨G, j, none⟩) h.lt).trans h1, src_below h2 hb, h3⟩⟩
theorem five_at {G : Nat} {w : World} {T : TypeId} {a0 ad ag a4 : Option Addr} {l0 d d2 d4 : List UInt8} {c0 cd cx c4 k n4 : Nat} (h : w.heap[G]? = some (.cells #[.slice a0 (l0.length : Nat) c0, .slice ad (d.length : Nat) cd, .slice ag (d.length : Nat) cx, .slice ad (k : Nat) cd, .slice a4 (n4 : Nat) c4] T (0, 0)))
    (s0 : Wi.Src a0 l0 c0 w) (s1 : Wi.Src ad d cd w) (s2 : Wi.Src ag d2 cx w) (h2 : d2.length = d.length) (s4 : Wi.Src a4 d4 c4 w) (h4 : d4.length = n4) (hl0 : l0.length ≤ 1000000) (hd : d.length ≤ 400000) (hk : k ≤ d.length) (hn4 : n4 ≤ 1000000) : Five G w := by
  have hlt : G < w.heap.size := (Array.getElem?_eq_some_iff.1 h).1
  refine ⟨hlt, fun j hj => ?_⟩
  rcases (show j = 0 ∨ j = 1 ∨ j = 2 ∨ j = 3 ∨ j = 4 by omega) with rfl | rfl | rfl | rfl | rfl
  · exact ⟨a0, l0, c0, by rw [Lib.cell_of_heap h]; rfl, s0, hl0⟩
  · exact ⟨ad, d, cd, by rw [Lib.cell_of_heap h]; rfl, s1, by omega⟩
  · exact ⟨ag, d2, cx, by rw [Lib.cell_of_heap h, h2]; rfl, s2, by omega⟩
  · have hlk : (d.take k).length = k := by rw [List.length_take]; omega
    exact ⟨ad, d.take k, cd, by rw [Lib.cell_of_heap h, hlk]; rfl, ⟨s1.nil, by rw [hlk]; have := s1.le; omega, s1.bytes.take k⟩, by omega⟩
  · exact ⟨a4, d4, c4, by rw [Lib.cell_of_heap h, h4]; rfl, s4, by omega⟩
theorem byte_at (y : UInt8) (w : World) : Wi.BytesAre (some ⟨w.heap.size, 0, none⟩) [y] (w.alloc (.cells #[.int .u8 (y.toNat : Int)] 5)) := fun i hi => by
  obtain rfl : i = 0 := by simp at hi; omega
  exact ⟨w.heap.size, 0, rfl, by simp, by rw [Lib.cell_of_heap (heap_alloc_new w _)]; rfl⟩
set_option linter.unusedSimpArgs false in
set_option linter.unusedVariables false in
set_option maxHeartbeats 16000000 in
set_option maxRecDepth 100000 in
theorem decodes_walk (a0 : Option Addr) (l0 : List UInt8) (c0 : Nat) (a1 : Option Addr) (l1 : List UInt8) (c1 : Nat) (at0 : Int) (by0 : Int) (w : World) (E : Env w) (G : DrawL w) (h0 : BytesIn a0 l0 c0 w) (hn0 : a0 = none → c0 = 0) (h1 : BytesIn a1 l1 c1 w) (hat : -9223372036854775808 ≤ at0 ∧ at0 ≤ 9223372036854775807) (hby : 0 ≤ by0 ∧ by0 ≤ 255) :
    Calls Tryz.prog 6 #[.slice a0 (l0.length : Nat) c0, .slice a1 (l1.length : Nat) c1, .int .i64 at0, .int .u8 by0] w fun e w' => e = .returned (.bool true) ∧ Below w.heap.size w w' := by
  go_enter Tryz.func6, Tryz.ntmps6
  go_upto_region 3 with (go_at_call 7; refine (awake_any _ E).mono ?_; rintro e w1 ⟨rfl, hb1⟩)
  have hS0 := src_below (⟨hn0, h0.le, h0.at_⟩ : Wi.Src a0 l0 c0 w) hb1
  by_cases hlong : l0.length ≤ 300
  · have hlI : ¬ ((300 : Int) < (l0.length : Int)) := by omega
    have hn1 := Lib.hid (new60 (h1.below hb1))
    have hl1 : (l1.take 60).length ≤ 1000000 := by rw [List.length_take]; omega
    have hl300 := Lib.hid hlong
    clear hlong
    go_upto_region 5 with (fail)
    clear hlI
    go_upto_region 6 with (first
      | (go_at_call 9; with_reducible refine hn1.out.mono ?_; rintro e w3 ⟨rfl, hcd3, hb3⟩; have hG3 := (G.below hb1).fresh hb3; have hsub1 := Lib.hid (subject_any _ a1 c1 w1.heap.size 0 w3 hl1 hcd3 hG3))
      | (go_at_call 10; with_reducible refine hsub1.out.mono ?_; rintro e w5 ⟨⟨es1, v1, rfl, hd1, hr5⟩, hk5, at5, hc5⟩; obtain ⟨pA, cA, rfl, hcx⟩ := hr5.ctxs; clear hr5; generalize es1.map CEl.x = L at hd1 hcx ⊢; have hti := drawn_tiny hd1; have hB5 : Below w1.heap.size w1 w5 := hb3.trans (hk5.below (Nat.le_refl _) (by have := hb3.size; omega)); have hEn := Lib.hid (refEncode_any pA cA L w5 (E.below (hb1.trans (hB5.mono hb1.size))) hcx hti.1 hti.2 hd1.ok))
      | (go_at_call 24; with_reducible refine hEn.out.mono ?_; rintro e w6 ⟨⟨ad, cd, rfl, hSd⟩, hb6⟩))
    have hlen := subjB_len hti.1 hti.2
    have hB6 : Below w1.heap.size w1 w6 := hB5.trans (hb6.mono hB5.size)
    have hS6 := src_below hS0 hB6
    have hB06 := hb1.trans (hB6.mono hb1.size)
    generalize subjB L = d at hSd hlen ⊢
    have hE6 := E.below hB06
    clear hEn hsub1 hn1 hG3 hcd3 hk5 hc5 hcx hti hd1 hb3 hB5 hb6 hB6 hl1 hS0 G E h0 h1
    have hdI : (0 : Int) < (d.length : Int) := by omega
    have hMo := mod_any at0 (d.length : Int) w6 hat hdI (by omega)
    obtain ⟨k, hk⟩ : ∃ k : Nat, at0 % (d.length : Int) = (k : Int) := ⟨(at0 % (d.length : Int)).toNat, by have := Int.emod_nonneg at0 (b := (d.length : Int)) (by omega); omega⟩
    have hkd : k < d.length := by have := Int.emod_lt_of_pos at0 hdI; omega
    rw [hk] at hMo
    replace hMo := Lib.hid hMo
    clear hk hat
    go_upto_region 7 with (go_at_call 26; refine hMo.out.mono ?_; rintro e w7 ⟨rfl, rfl⟩)
    go_upto_region 8 with (at_builtin; refine Wi.wpList_ownL rfl _ _ rfl d ad cd (own_nil w6.heap.size w6) rfl rfl hSd.nil hSd.bytes (by simp; omega) (Nat.le_refl _) ?_; intro vx w8 hown8 hb8)
    rw [List.nil_append] at hown8
    obtain ⟨bd, od, rfl, hbd, -⟩ := hSd.bytes 0 hlen.1
    obtain ⟨ax, cx, rfl, hSx⟩ := own_src hown8
    rcases hown8.2 with ⟨h, _⟩ | ⟨g, cap, cur, hv, hB8, hg8, hn8, -⟩
    · injection h with h1 h2 h3
      obtain ⟨b, off, e, _⟩ := hSx.bytes 0 hlen.1
      rw [h1] at e
      cases e
    · injection hv with e1 e2 e3
      subst e1
      subst e3
      clear e2 hMo hown8
      have ht8 : ∀ i (h : i < d.length), cur[i]? = some (.int .u8 (d[i].toNat : Int)) := fun i hi => by
        obtain ⟨b, off, e, _, hc⟩ := hSx.bytes i hi
        cases e
        rw [Nat.zero_add, Lib.cell_of_heap hg8] at hc
        exact hc
      have x8 : w8.cell? ⟨g, k, none⟩ = some (.int .u8 (d[k].toNat : Int)) := by rw [Lib.cell_of_heap hg8]; exact ht8 k hkd
      have f8 : ∀ i, w8.frozen? ⟨g, i, none⟩ = false := Lib.frozen_of_heap hg8
      have hkI0 : (0 : Int) ≤ (k : Int) := by omega
      have hkI1 : (k : Int) < (d.length : Int) := by omega
      have hpoke := Lib.hid (poke_src hg8 ht8 hkd hn8)
      have hd255 : d[k].toNat < 256 := d[k].toNat_lt
      generalize d[k].toNat = xk at x8 hd255
      clear hSx ht8 hg8
      go_upto_region 9 with (fail)
      skip
      obtain ⟨z, hz⟩ : ∃ z : UInt8, (((xk : Int) + by0) % 256) = (z.toNat : Int) := ⟨UInt8.ofNat ((xk + by0.toNat) % 256), by rw [UInt8.toNat_ofNat']; omega⟩
      obtain ⟨y, rfl⟩ : ∃ y : UInt8, by0 = (y.toNat : Int) := ⟨UInt8.ofNat by0.toNat, by rw [UInt8.toNat_ofNat']; omega⟩
      rw [hz]
      have hSx := hpoke.out z
      have hb9 : Below w6.heap.size w6 (w8.setCell ⟨g, k, none⟩ (.int .u8 (z.toNat : Int))) := hb8.setCell (p := ⟨g, k, none⟩) hB8 _
      generalize w8.setCell ⟨g, k, none⟩ (.int .u8 (z.toNat : Int)) = w9 at hSx hb9 ⊢
      have hlx : (d.set k z).length = d.length := List.length_set ..
      generalize d.set k z = d2 at hSx hlx
      clear hpoke x8 f8 hd255 hz hb8 hn8 hB8 hby hkI1
      have hd := (Below.refl w9.heap.size w9).drew
      have hb9d := hb9.trans (hd.mono hb9.size)
      have hSd9 := src_below (src_below hSd hb9) hd
      have hS09 := src_below (src_below hS6 hb9) hd
      have hSx9 := src_below hSx hd
      have hkc : (k : Int) ≤ (cd : Int) := by have := hSd.le; omega
      have hkd2 : (k : Int) ≤ (d.length : Int) := by omega
      have hl0 := hl300.out
      replace hl0 := Lib.hid hl0
      clear hd hb9 hSd hS6 hSx hb1
      go_cut [55, 56, 57] (fun s n i wx => ∃ G, s = .slice (some ⟨G, 0, none⟩) 5 5 ∧ n = .int .i64 5 ∧ i = .int .i64 0 ∧ Five G wx ∧ Below w6.heap.size w6 wx)
      case first =>
        refine wp_region_held_drew (S := fun _ => True) (by kernel_rfl) trivial (fun hHeld => ?_)
        generalize w9.drew = wd at hb9d hSd9 hS09 hSx9 ⊢
        refine wpAnyH_take (i := 0) (v := ?_) rfl (by kernel_rfl) (by kernel_rfl) (by kernel_rfl) (fun _ _ _ h => h) (Or.inl ⟨by rfl, ?_⟩) hHeld ?_
        rotate_left
        · intro w' hSw
          go_simp
          try with_reducible rfl
        try simp only [List.getElem_toArray, List.getElem_cons_succ, List.getElem_cons_zero, Act.put, List.setIfInBounds_toArray, List.set_cons_zero, List.set_cons_succ]
        refine wpAnyH_take (i := 1) (v := ?_) rfl (by kernel_rfl) (by kernel_rfl) (by kernel_rfl) (fun _ _ _ h => h) (Or.inl ⟨by rfl, ?_⟩) hHeld ?_
        rotate_left
        · intro w' hSw
          go_simp
          try with_reducible rfl
        try simp only [List.getElem_toArray, List.getElem_cons_succ, List.getElem_cons_zero, Act.put, List.setIfInBounds_toArray, List.set_cons_zero, List.set_cons_succ]
        refine wpAnyH_take (i := 2) (v := ?_) rfl (by kernel_rfl) (by kernel_rfl) (by kernel_rfl) (fun _ _ _ h => h) (Or.inl ⟨by rfl, ?_⟩) hHeld ?_
        rotate_left
        · intro w' hSw
          go_simp
          try with_reducible rfl
        try simp only [List.getElem_toArray, List.getElem_cons_succ, List.getElem_cons_zero, Act.put, List.setIfInBounds_toArray, List.set_cons_zero, List.set_cons_succ]
        refine wpAnyH_take (i := 3) (v := ?_) rfl (by kernel_rfl) (by kernel_rfl) (by kernel_rfl) (fun _ _ _ h => h) (Or.inl ⟨by rfl, ?_⟩) hHeld ?_
        rotate_left
        · intro w' hSw
          go_simp
          try with_reducible rfl
        try simp only [List.getElem_toArray, List.getElem_cons_succ, List.getElem_cons_zero, Act.put, List.setIfInBounds_toArray, List.set_cons_zero, List.set_cons_succ]
        refine wpAnyH_take (i := 4) (v := ?_) rfl (by kernel_rfl) (by kernel_rfl) (by kernel_rfl) (fun _ _ _ h => h) (Or.inl ⟨by rfl, ?_⟩) hHeld ?_
        rotate_left
        · intro w' hSw
          go_simp
          try with_reducible rfl
        try simp only [List.getElem_toArray, List.getElem_cons_succ, List.getElem_cons_zero, Act.put, List.setIfInBounds_toArray, List.set_cons_zero, List.set_cons_succ]
        refine wpAnyH_take (i := 5) (v := ?_) rfl (by kernel_rfl) (by kernel_rfl) (by kernel_rfl) (fun _ _ _ h => h) (Or.inl ⟨by rfl, ?_⟩) hHeld ?_
        rotate_left
        · intro w' hSw
          go_simp
          try with_reducible rfl
        try simp only [List.getElem_toArray, List.getElem_cons_succ, List.getElem_cons_zero, Act.put, List.setIfInBounds_toArray, List.set_cons_zero, List.set_cons_succ]
        refine wpAnyH_take (i := 6) (v := ?_) rfl (by kernel_rfl) (by kernel_rfl) (by kernel_rfl) (fun _ _ _ h => h) (Or.inl ⟨by rfl, ?_⟩) hHeld ?_
        rotate_left
        · intro w' hSw
          go_simp
          try with_reducible rfl
        try simp only [List.getElem_toArray, List.getElem_cons_succ, List.getElem_cons_zero, Act.put, List.setIfInBounds_toArray, List.set_cons_zero, List.set_cons_succ]
        refine wpAnyH_take (i := 8) (v := ?_) rfl (by kernel_rfl) (by kernel_rfl) (by kernel_rfl) (fun _ _ _ h => h) (Or.inl ⟨by rfl, ?_⟩) hHeld ?_
        rotate_left
        · intro w' hSw
          go_simp
          try with_reducible rfl
        try simp only [List.getElem_toArray, List.getElem_cons_succ, List.getElem_cons_zero, Act.put, List.setIfInBounds_toArray, List.set_cons_zero, List.set_cons_succ]
        refine wpAnyH_take (i := 13) (v := ?_) rfl (by kernel_rfl) (by kernel_rfl) (by kernel_rfl) (fun _ _ _ h => h) (Or.inl ⟨by rfl, ?_⟩) hHeld ?_
        rotate_left
        · intro w' hSw
          go_simp
          try with_reducible rfl
        try simp only [List.getElem_toArray, List.getElem_cons_succ, List.getElem_cons_zero, Act.put, List.setIfInBounds_toArray, List.set_cons_zero, List.set_cons_succ]
        refine wpAnyH_ready (rs := [7, 9]) (by kernel_rfl) (by simp) ?_
        refine AllReadyH.cons rfl (fun K hK => ?_) (AllReadyH.cons rfl (fun K hK => ?_) AllReadyH.nil)
        · refine step_own (by rfl) _ _ (by rfl) (own_nil wd.heap.size wd) (by rfl) d ⟨bd, od, none⟩ d.length cd rfl (by rfl) hSd9.bytes hlen.1 d.length (by simp) (by omega) (Nat.le_refl _) ?_
          intro g1 cg1 wA hownA hbA
          rw [List.nil_append] at hownA
          have hbA9 := hb9d.trans (hbA.mono hb9d.size)
          refine hK.out _ _ trivial (fun _ => ?_)
          clear hK K
          try simp only [List.getElem_toArray, List.getElem_cons_succ, List.getElem_cons_zero, Act.put, List.setIfInBounds_toArray, List.set_cons_zero, List.set_cons_succ]
          refine wpAnyH_ready (rs := [9]) (by kernel_rfl) (by simp) ?_
          refine AllReadyH.cons rfl (fun K hK => ?_) AllReadyH.nil
          go_simp
          refine hK.out _ _ trivial (fun _ => ?_)
          clear hK K
          try simp only [List.getElem_toArray, List.getElem_cons_succ, List.getElem_cons_zero, Act.put, List.setIfInBounds_toArray, List.set_cons_zero, List.set_cons_succ]
          have halA := (Below.refl wA.heap.size wA).alloc (Nat.le_refl _) (.cells #[.int .u8 (y.toNat : Int)] 5)
          have hyb : Wi.BytesAre (some ⟨wA.heap.size, 0, none⟩) [y] (wA.alloc (.cells #[.int .u8 (y.toNat : Int)] 5)) := byte_at y wA
          have hownY : Own wd.heap.size _ d (wA.alloc (.cells #[.int .u8 (y.toNat : Int)] 5)) := World.ownsRow.alloc hownA _
          have hbY := hbA9.trans (halA.mono hbA9.size)
          have hbwY : Below wd.heap.size wd (wA.alloc (.cells #[.int .u8 (y.toNat : Int)] 5)) := hbA.trans (halA.mono hbA.size)
          refine wpAnyH_ready (rs := [10]) (by kernel_rfl) (by simp) ?_
          refine AllReadyH.cons rfl (fun K hK => ?_) AllReadyH.nil
          refine step_own (by rfl) _ _ (by rfl) hownY (by rfl) [y] ⟨wA.heap.size, 0, none⟩ 1 1 rfl (by rfl) hyb (by decide) (d.length + 1) rfl (by omega) hbwY.size ?_
          intro g2 cg2 wB hownB hbB
          have hbVB := hbwY.trans hbB
          refine hK.out _ _ trivial (fun _ => ?_)
          clear hK K
          try simp only [List.getElem_toArray, List.getElem_cons_succ, List.getElem_cons_zero, Act.put, List.setIfInBounds_toArray, List.set_cons_zero, List.set_cons_succ]
          have hbF := hb9d.trans (hbVB.mono hb9d.size)
          have hS0F := src_below hS09 hbVB
          have hSdF := src_below hSd9 hbVB
          have hSxF := src_below hSx9 hbVB
          obtain ⟨ag, cg, hag, hSyF⟩ := own_src hownB
          obtain ⟨e1, e2, e3⟩ : (some (⟨g2, 0, none⟩ : Addr)) = ag ∧ True ∧ cg2 = cg := by injection hag with h1 h2 h3; exact ⟨h1, trivial, h3⟩
          subst e1
          subst e3
          clear hag e2
          have hal := (Below.refl wB.heap.size wB).alloc (Nat.le_refl _) (.cells #[.slice a0 (l0.length : Nat) c0, .slice (some ⟨bd, od, none⟩) (d.length : Nat) cd, .slice (some ⟨g, 0, none⟩) (d.length : Nat) cx, .slice (some ⟨bd, od, none⟩) (k : Nat) cd, .slice (some ⟨g2, 0, none⟩) (d.length + 1 : Nat) cg2] 22)
          have hF : Five wB.heap.size (wB.alloc (.cells #[.slice a0 (l0.length : Nat) c0, .slice (some ⟨bd, od, none⟩) (d.length : Nat) cd, .slice (some ⟨g, 0, none⟩) (d.length : Nat) cx, .slice (some ⟨bd, od, none⟩) (k : Nat) cd, .slice (some ⟨g2, 0, none⟩) (d.length + 1 : Nat) cg2] 22)) := five_at (heap_alloc_new _ _) (src_below hS0F hal) (src_below hSdF hal) (src_below hSxF hal) hlx (src_below hSyF hal) (by simp) (by have := hl0.out; omega) hlen.2 (Nat.le_of_lt hkd) (by omega)
          replace hF := Lib.hid hF
          refine wpAnyH_ready (rs := [11]) (by kernel_rfl) (by simp) ?_
          refine AllReadyH.cons rfl (fun K hK => ?_) AllReadyH.nil
          go_simp
          refine hK.out _ _ trivial (fun _ => ?_)
          clear hK K
          try simp only [List.getElem_toArray, List.getElem_cons_succ, List.getElem_cons_zero, Act.put, List.setIfInBounds_toArray, List.set_cons_zero, List.set_cons_succ]
          refine wpAnyH_take (i := 12) (v := ?_) rfl (by kernel_rfl) (by kernel_rfl) (by kernel_rfl) (fun _ _ _ h => h) (Or.inl ⟨by rfl, ?_⟩) hHeld ?_
          rotate_left
          · intro w' hSw
            go_simp
            try with_reducible rfl
          try simp only [List.getElem_toArray, List.getElem_cons_succ, List.getElem_cons_zero, Act.put, List.setIfInBounds_toArray, List.set_cons_zero, List.set_cons_succ]
          refine wpAnyH_done (by kernel_rfl) ?_ _
          go_wp2
          go_meet
          case rel => exact ⟨wB.heap.size, rfl, rfl, rfl, hF.out, hbF.trans (hal.mono hbF.size)⟩
        · go_simp
          refine hK.out _ _ trivial (fun _ => ?_)
          clear hK K
          try simp only [List.getElem_toArray, List.getElem_cons_succ, List.getElem_cons_zero, Act.put, List.setIfInBounds_toArray, List.set_cons_zero, List.set_cons_succ]
          have halY := (Below.refl wd.heap.size wd).alloc (Nat.le_refl _) (.cells #[.int .u8 (y.toNat : Int)] 5)
          have hyb : Wi.BytesAre (some ⟨wd.heap.size, 0, none⟩) [y] (wd.alloc (.cells #[.int .u8 (y.toNat : Int)] 5)) := byte_at y wd
          have hSdY := src_below hSd9 halY
          have hS0Y := src_below hS09 halY
          have hSxY := src_below hSx9 halY
          have hb9Y := hb9d.trans (halY.mono hb9d.size)
          generalize hwY : wd.alloc (.cells #[.int .u8 (y.toNat : Int)] 5) = wY at halY hyb hSdY hS0Y hSxY hb9Y ⊢
          replace hwY := Lib.hid hwY
          refine wpAnyH_ready (rs := [7]) (by kernel_rfl) (by simp) ?_
          refine AllReadyH.cons rfl (fun K hK => ?_) AllReadyH.nil
          refine step_own (by rfl) _ _ (by rfl) (own_nil wY.heap.size wY) (by rfl) d ⟨bd, od, none⟩ d.length cd rfl (by rfl) hSdY.bytes hlen.1 d.length (by simp) (by omega) (Nat.le_refl _) ?_
          intro g1 cg1 wA hownA hbA
          rw [List.nil_append] at hownA
          have hbA9 := hb9Y.trans (hbA.mono hb9Y.size)
          refine hK.out _ _ trivial (fun _ => ?_)
          clear hK K
          try simp only [List.getElem_toArray, List.getElem_cons_succ, List.getElem_cons_zero, Act.put, List.setIfInBounds_toArray, List.set_cons_zero, List.set_cons_succ]
          have hyA := Wi.BytesAre.below hyb (Nat.le_refl _) hbA
          refine wpAnyH_ready (rs := [10]) (by kernel_rfl) (by simp) ?_
          refine AllReadyH.cons rfl (fun K hK => ?_) AllReadyH.nil
          refine step_own (by rfl) _ _ (by rfl) hownA (by rfl) [y] ⟨wd.heap.size, 0, none⟩ 1 1 rfl (by rfl) hyA (by decide) (d.length + 1) rfl (by omega) hbA.size ?_
          intro g2 cg2 wB hownB hbB
          have hbVB := hbA.trans hbB
          refine hK.out _ _ trivial (fun _ => ?_)
          clear hK K
          try simp only [List.getElem_toArray, List.getElem_cons_succ, List.getElem_cons_zero, Act.put, List.setIfInBounds_toArray, List.set_cons_zero, List.set_cons_succ]
          have hbF := hb9Y.trans (hbVB.mono hb9Y.size)
          have hS0F := src_below hS0Y hbVB
          have hSdF := src_below hSdY hbVB
          have hSxF := src_below hSxY hbVB
          obtain ⟨ag, cg, hag, hSyF⟩ := own_src hownB
          obtain ⟨e1, e2, e3⟩ : (some (⟨g2, 0, none⟩ : Addr)) = ag ∧ True ∧ cg2 = cg := by injection hag with h1 h2 h3; exact ⟨h1, trivial, h3⟩
          subst e1
          subst e3
          clear hag e2
          have hal := (Below.refl wB.heap.size wB).alloc (Nat.le_refl _) (.cells #[.slice a0 (l0.length : Nat) c0, .slice (some ⟨bd, od, none⟩) (d.length : Nat) cd, .slice (some ⟨g, 0, none⟩) (d.length : Nat) cx, .slice (some ⟨bd, od, none⟩) (k : Nat) cd, .slice (some ⟨g2, 0, none⟩) (d.length + 1 : Nat) cg2] 22)
          have hF : Five wB.heap.size (wB.alloc (.cells #[.slice a0 (l0.length : Nat) c0, .slice (some ⟨bd, od, none⟩) (d.length : Nat) cd, .slice (some ⟨g, 0, none⟩) (d.length : Nat) cx, .slice (some ⟨bd, od, none⟩) (k : Nat) cd, .slice (some ⟨g2, 0, none⟩) (d.length + 1 : Nat) cg2] 22)) := five_at (heap_alloc_new _ _) (src_below hS0F hal) (src_below hSdF hal) (src_below hSxF hal) hlx (src_below hSyF hal) (by simp) (by have := hl0.out; omega) hlen.2 (Nat.le_of_lt hkd) (by omega)
          replace hF := Lib.hid hF
          refine wpAnyH_ready (rs := [11]) (by kernel_rfl) (by simp) ?_
          refine AllReadyH.cons rfl (fun K hK => ?_) AllReadyH.nil
          go_simp
          refine hK.out _ _ trivial (fun _ => ?_)
          clear hK K
          try simp only [List.getElem_toArray, List.getElem_cons_succ, List.getElem_cons_zero, Act.put, List.setIfInBounds_toArray, List.set_cons_zero, List.set_cons_succ]
          refine wpAnyH_take (i := 12) (v := ?_) rfl (by kernel_rfl) (by kernel_rfl) (by kernel_rfl) (fun _ _ _ h => h) (Or.inl ⟨by rfl, ?_⟩) hHeld ?_
          rotate_left
          · intro w' hSw
            go_simp
            try with_reducible rfl
          try simp only [List.getElem_toArray, List.getElem_cons_succ, List.getElem_cons_zero, Act.put, List.setIfInBounds_toArray, List.set_cons_zero, List.set_cons_succ]
          refine wpAnyH_done (by kernel_rfl) ?_ _
          go_wp2
          go_meet
          case rel => exact ⟨wB.heap.size, rfl, rfl, rfl, hF.out, hbF.trans (hal.mono hbF.size)⟩
      case rest =>
        obtain ⟨G, rfl, rfl, rfl, hF, hbc⟩ := hcut
        have hB0 := hB06.trans (hbc.mono hB06.size)
        have hEc := hE6.below hbc
        clear hSd9 hS09 hSx9 hb9d hE6 hbc hB06 hkc hkd2 hlx hdI hlen hkd hkI0
        go_wp2
        go_loopw [14, 15, 16, 17, 18, 57] (fun _ _ _ _ _ i wr => ∃ m : Nat, m ≤ 5 ∧ i = .int .i64 m ∧ Below wc.heap.size wc wr) (fun _ _ _ _ _ i _ => 5 - (intOf i).toNat)
        case atStart => exact ⟨0, Nat.zero_le _, rfl, Below.refl _ _⟩
        case round =>
          obtain ⟨m, hm, rfl, hbr⟩ := hrel
          by_cases hlt : m < 5
          · have hmI : (m : Int) < 5 := by omega
            have hmI0 : (0 : Int) ≤ (m : Int) := by omega
            obtain ⟨ay, ly, cy, hcy, hSy, hly⟩ := (hF.below hbr).each m hlt
            have hEr := hEc.below hbr
            have hD := Lib.hid (decode_any hEr hly hSy)
            have hQ := fun W (h : Below wr.heap.size wr W) => refDecode_any (hEr.below h) hly (src_below hSy h)
            simp only [← dec_same ly] at hQ
            have hti := decR_tiny false ly
            obtain ⟨⟨D, ee⟩, hDe⟩ : ∃ x, decR false ly = x := ⟨_, rfl⟩
            rw [hDe] at hti
            have hD' := hD.out
            rw [hDe] at hD'
            simp only [hDe] at hQ
            simp only at hti hD' hQ
            replace hD := Lib.hid hD'
            replace hQ := Lib.hid hQ
            clear hD' hDe hSy hEr
            go_upto_region 12 with (fail)
            go_upto_region 13 with (go_at_call 25; refine hD.out.mono ?_; rintro e w2 ⟨⟨q, dq, rfl, hcq⟩, hb2⟩)
            have hal2 := (Below.refl w2.heap.size w2).alloc (Nat.le_refl _) (.cells #[.slice q (D.length : Nat) dq] 25)
            have z2 := heap_alloc_new w2 (.cells #[.slice q (D.length : Nat) dq] 25)
            generalize w2.alloc (.cells #[.slice q (D.length : Nat) dq] 25) = w3 at hal2 z2 ⊢
            have hV2 : w2.heap.size < w3.heap.size := (Array.getElem?_eq_some_iff.1 z2).1
            have hb3 := hb2.trans (hal2.mono hb2.size)
            have hcq3 := hcq.same (SameB.of_below hal2)
            have hQ3 := Lib.hid (hQ.out w3 hb3)
            clear hcq hb2 hal2
            go_upto_region 14 with (go_at_call 27; refine hQ3.out.mono ?_; rintro e w4 ⟨⟨q2, dq2, rfl, hcq2⟩, hb4⟩)
            have hal4 := (Below.refl w4.heap.size w4).alloc (Nat.le_refl _) (.cells #[.slice q2 (D.length : Nat) dq2] 25)
            have z4 := heap_alloc_new w4 (.cells #[.slice q2 (D.length : Nat) dq2] 25)
            generalize w4.alloc (.cells #[.slice q2 (D.length : Nat) dq2] 25) = w5 at hal4 z4 ⊢
            have hb35 := hb4.trans (hal4.mono hb4.size)
            have z25 := (hb35.block w2.heap.size hV2).trans z2
            have k1 : w5.cell? ⟨w2.heap.size, 0, none⟩ = some (.slice q D.length dq) := by rw [Lib.cell_of_heap z25]; rfl
            have k2 : w5.cell? ⟨w4.heap.size, 0, none⟩ = some (.slice q2 D.length dq2) := by rw [Lib.cell_of_heap z4]; rfl
            have hcq5 := hcq3.same (SameB.of_below hb35)
            have hcq25 := hcq2.same (SameB.of_below hal4)
            have hSame := Lib.hid (same_refl q q2 dq dq2 D w5 hcq5 hcq25 (by have := hti.1; omega) (fun x hx => ⟨by have := (hti.2 x hx).attrs; omega, fun a ha => by have := ((hti.2 x hx).each a ha).list; omega⟩))
            have hb5 := hb3.trans (hb35.mono hb3.size)
            clear hcq5 hcq25 z25 z4 z2 hcq2 hcq3 hb35 hal4 hb4 hti hQ hQ3 hD hb3 hV2
            go_wp2_with (go_at_call 14; refine hSame.out.mono ?_; rintro e w6' ⟨rfl, hb6⟩)
            go_roundw
            case rel => exact ⟨m + 1, by omega, by go_num, hbr.trans ((hb5.trans (hb6.mono hb5.size)).mono hbr.size)⟩
            case measure => simp [intOf]; omega
          · obtain rfl : m = 5 := by omega
            go_wp2
            go_ret
            exact ⟨rfl, hB0.trans (hbr.mono hB0.size)⟩
  · have hlI : (300 : Int) < (l0.length : Int) := by omega
    go_wp2
    go_ret
    exact ⟨rfl, hb1⟩
end Go.Proofs.YtcbnefeedoabeaaGreatDoor
