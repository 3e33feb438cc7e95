/- SubjectJoins: the subject with the contexts of two subjects, or the error, in either order. -/
import Derived.Test.YtcbnefeedoabeaaGreatDoorPu
import Derived.Test.YtcbnefeedoabeaaGreatDoorPz
import Derived.Test.YtcbnefeedoabeaaGreatDoorPo
import Derived.Test.YtcbnefeedoabeaaGreatDoorPm
namespace Go.Proofs.YtcbnefeedoabeaaGreatDoor
open Go Go.RowKit

theorem DrawL.far {C : Nat} {w w' : World} (h : DrawL w) (hb : Below w.heap.size w w') (hC : w.heap.size ≤ C) : DrawG C w' := by
  have h' := h.below hb
  have l1 := block_lt_of_cell (h.t 0 (by decide))
  have l2 := block_lt_of_cell (h.v 0 (by decide))
  obtain ⟨a0, c0, h0, _⟩ := h.ls 0 (by decide)
  have l3 := block_lt_of_cell h0
  refine ⟨h'.t, h'.v, fun i hi => ?_, Nat.ne_of_lt (Nat.lt_of_lt_of_le l1 hC), Nat.ne_of_lt (Nat.lt_of_lt_of_le l2 hC), Nat.ne_of_lt (Nat.lt_of_lt_of_le l3 hC)⟩
  obtain ⟨a, c, h1, h2, h3, h4⟩ := h.ls i hi
  refine ⟨a, c, ?_, h2, h3, fun j hj => ?_⟩
  · rw [hb.cell (p := ⟨2, i, none⟩) (block_lt_of_cell h1)]
    exact h1
  · obtain ⟨b, off, e1, e3, e4⟩ := h4 j hj
    exact ⟨b, off, e1, Nat.ne_of_lt (Nat.lt_of_lt_of_le e3 hC), Nat.lt_of_lt_of_le e3 hb.size, by rw [hb.cell (p := ⟨b, off + j, none⟩) e3]; exact e4⟩
/-- The choices of one draw, where another has drawn. -/
theorem codes_other {l : List UInt8} {a0 : Option Addr} {cap cp C D at_ n : Nat} {w0 w w' : World} (h0 : BytesIn a0 l cp w0) (h : Codes (l.take n) a0 cap C at_ w) (k : Kept D w w') (hD : C ≠ D) (hl : w0.heap.size ≤ D) : Codes (l.take n) a0 cap C at_ w' := by
  refine ⟨(k.block C h.lt hD).trans h.here, fun i hi => ?_, h.le⟩
  obtain ⟨b, off, he, hlt, hc, hv⟩ := h.bytes i hi
  obtain ⟨b', off', he', hlt', _⟩ := h0.at_ 0 (by rw [List.length_take] at hi; omega)
  rw [he] at he'
  cases he'
  exact ⟨b, off, he, Nat.lt_of_lt_of_le hlt k.size, hc, (k.cell (p := ⟨b, off + i, none⟩) hlt (by show b ≠ D; omega)).trans hv⟩
/-- Four pairs of subjects in a row. -/
structure Pairs (G : Nat) (w : World) : Prop where
  lt : G < w.heap.size
  each : ∀ j, j < 4 → ∃ p c l q d k, w.cell? ⟨G, j * 2, none⟩ = some (.slice p ((l : List Ctx).length : Nat) c) ∧ w.cell? ⟨G, j * 2 + 1, none⟩ = some (.slice q ((k : List Ctx).length : Nat) d) ∧ SubjAt p c l w ∧ SubjAt q d k w ∧ l.length ≤ 100 ∧ k.length ≤ 100
theorem Pairs.below {G : Nat} {w w' : World} (h : Pairs G w) (hb : Below w.heap.size w w') : Pairs G w' := ⟨Nat.lt_of_lt_of_le h.lt hb.size, fun j hj => by
  obtain ⟨p, c, l, q, d, k, h1, h2, h3, h4, h5⟩ := h.each j hj
  exact ⟨p, c, l, q, d, k, (hb.cell (p := ⟨G, j * 2, none⟩) h.lt).trans h1, (hb.cell (p := ⟨G, j * 2 + 1, none⟩) h.lt).trans h2, h3.below hb, h4.below hb, h5⟩⟩
theorem pairs_at {G : Nat} {w : World} {T : TypeId} {p pA pB : Option Addr} {c cA cB nA nB : Nat} {l lA lB : List Ctx} (h : w.heap[G]? = some (.cells #[.slice pA (nA : Nat) cA, .slice pB (nB : Nat) cB, .slice pB (nB : Nat) cB, .slice pA (nA : Nat) cA, .slice pA (nA : Nat) cA, .slice p (l.length : Nat) c, .slice p (l.length : Nat) c, .slice pB (nB : Nat) cB] T (0, 0))) (s : SubjAt p c l w) (sA : SubjAt pA cA lA w) (sB : SubjAt pB cB lB w) (hA : lA.length = nA) (hB : lB.length = nB) (h0 : l.length ≤ 100) (h1 : lA.length ≤ 100) (h2 : lB.length ≤ 100) : Pairs G w := by
  refine ⟨(Array.getElem?_eq_some_iff.1 h).1, fun j hj => ?_⟩
  rcases (show j = 0 ∨ j = 1 ∨ j = 2 ∨ j = 3 by omega) with rfl | rfl | rfl | rfl
  · exact ⟨pA, cA, lA, pB, cB, lB, by rw [Lib.cell_of_heap h, hA]; rfl, by rw [Lib.cell_of_heap h, hB]; rfl, sA, sB, h1, h2⟩
  · exact ⟨pB, cB, lB, pA, cA, lA, by rw [Lib.cell_of_heap h, hB]; rfl, by rw [Lib.cell_of_heap h, hA]; rfl, sB, sA, h2, h1⟩
  · exact ⟨pA, cA, lA, p, c, l, by rw [Lib.cell_of_heap h, hA]; rfl, by rw [Lib.cell_of_heap h]; rfl, sA, s, h1, h0⟩
  · exact ⟨p, c, l, pB, cB, lB, by rw [Lib.cell_of_heap h]; rfl, by rw [Lib.cell_of_heap h, hB]; rfl, s, sB, h0, h2⟩
theorem joinP_both (a b : List Ctx) : (joinP b a).1 = (joinP a b).1 ∧ ((joinP a b).2 = 0 ↔ (joinP b a).2 = 0) ∧ (joinP a b).1.length ≤ 4 ∧ ∀ x ∈ (joinP a b).1, x.attrs.length ≤ 9223372036854775000 ∧ ∀ a ∈ x.attrs, a.val.list.length ≤ 8796093022207 := by
  by_cases h : joinE a b = 0
  · have h' := (joinE_comm a b).1 h
    have e1 : joinP a b = (joinL a b, 0) := if_pos h
    have e2 : joinP b a = (joinL b a, 0) := if_pos h'
    rw [e1, e2]
    obtain ⟨h1, h2, _, h4⟩ := joinE_ok h
    refine ⟨(join_same h).symm, Iff.rfl, ?_, fun x hx => ?_⟩
    · show (joinL a b).length ≤ 4
      rw [(joinL_perm b a).length_eq, List.length_append]
      exact h4
    · have ht : TinyC x := (List.mem_append.1 ((joinL_perm b a).mem_iff.1 hx)).elim ((valid_tiny h1).2 x) ((valid_tiny h2).2 x)
      exact ⟨by have := ht.attrs; omega, fun y hy => by have := (ht.each y hy).list; omega⟩
  · have h' : joinE b a ≠ 0 := fun e => h ((joinE_comm a b).2 e)
    have e1 : joinP a b = ([], joinE a b) := if_neg h
    have e2 : joinP b a = ([], joinE b a) := if_neg h'
    rw [e1, e2]
    exact ⟨rfl, ⟨fun e => absurd e h, fun e => absurd e h'⟩, by simp, fun x hx => by cases hx⟩
set_option linter.unusedSimpArgs false in
set_option linter.unusedVariables false in
set_option maxHeartbeats 16000000 in
set_option maxRecDepth 100000 in
theorem joins_walk (a1 : Option Addr) (l1 : List UInt8) (c1 : Nat) (a2 : Option Addr) (l2 : List UInt8) (c2 : Nat) (p : Option Addr) (c : Nat) (l : List Ctx) (w : World) (E : Env w) (G : DrawL w) (h1 : BytesIn a1 l1 c1 w) (h2 : BytesIn a2 l2 c2 w) (hS : SubjAt p c l w) :
    Calls Tryz.prog 3 #[.slice a1 (l1.length : Nat) c1, .slice a2 (l2.length : Nat) c2, .agg #[.slice p (l.length : Nat) c]] w fun e w' => e = .returned (.bool true) ∧ Below w.heap.size w w' := by
  have hb0 := (Below.refl w.heap.size w).alloc (Nat.le_refl _) (.cells #[.slice p (l.length : Nat) c] 25)
  have hz0 := heap_alloc_new w (.cells #[.slice p (l.length : Nat) c] 25)
  have hg0 : w.heap.size < (w.alloc (.cells #[.slice p (l.length : Nat) c] 25)).heap.size := by simp
  go_enter Tryz.func3, Tryz.ntmps3
  go_upto_region 1 with (fail)
  generalize w.alloc (.cells #[.slice p (l.length : Nat) c] 25) = w0 at hb0 hz0 hg0 ⊢
  go_upto_region 3 with (go_at_call 7; refine (awake_any _ (E.below hb0)).mono ?_; rintro e w1 ⟨rfl, hb1⟩)
  have B1 : Below w.heap.size w w1 := hb0.trans (hb1.mono hb0.size)
  have z1 := (hb1.block _ hg0).trans hz0
  have hg1 := Nat.lt_of_lt_of_le hg0 hb1.size
  clear hb0 hz0 hg0 hb1
  have v1 : w1.cell? ⟨w.heap.size, 0, none⟩ = some (.slice p l.length c) := by rw [Lib.cell_of_heap z1]; rfl
  have hS1 := hS.below B1
  have hsm := Lib.hid (small_any p c l w1 hS1.row hS1.fit hS1.len)
  by_cases hsmall : smallS l = true
  · rw [hsmall] at hsm
    go_upto_region 5 with (go_at_call 8; refine hsm.out.mono ?_; rintro e w2 ⟨rfl, hb2⟩)
    have B2 := B1.trans (hb2.mono B1.size)
    have z2 := (hb2.block _ hg1).trans z1
    have hg2 := Nat.lt_of_lt_of_le hg1 hb2.size
    have hl8 : l.length ≤ 8 := by
      rcases Nat.lt_or_ge 8 l.length with h | h
      · rw [smallS_big h] at hsmall; cases hsmall
      · exact h
    clear hb2 hsm v1 z1 hS1 B1 hsmall
    clear hg1 w1
    have hn1 := Lib.hid (new80 (h1.below B2))
    have hn2 := fun W (h : Below w2.heap.size w2 W) => new80 (h2.below (B2.trans (h.mono B2.size)))
    replace hn2 := Lib.hid hn2
    have hl1 : (l1.take 80).length ≤ 1000000 := by rw [List.length_take]; omega
    have hl2 : (l2.take 80).length ≤ 1000000 := by rw [List.length_take]; omega
    go_upto_region 6 with (first | (go_at_call 9; with_reducible refine hn1.out.mono ?_; rintro e w3 ⟨rfl, hcd3, hb3⟩; have hn2' := Lib.hid (hn2.out w3 hb3); clear hn1 hn2) | (go_at_call 9; with_reducible refine hn2'.out.mono ?_; rintro e w4 ⟨rfl, hcd4, hb4⟩))
    clear hn2'
    have B24 : Below w2.heap.size w2 w4 := hb3.trans (hb4.mono hb3.size)
    have hs34 := hb4.size
    have hs23 := hb3.size
    have hC3 := hcd3.lt
    have hC4 := hcd4.lt
    have hGL := G.below B2
    have hsub1 := Lib.hid (subject_any _ a1 c1 w2.heap.size 0 w4 hl1 (hcd3.below hb4) (hGL.fresh B24))
    have hsub2 := fun W (k : Kept w2.heap.size w4 W) => subject_any _ a2 c2 w3.heap.size 0 W hl2 (codes_other (h2.below B2) hcd4 k (by omega) (Nat.le_refl _)) (hGL.far (B24.trans (k.below (Nat.le_refl _) (by omega))) (by omega))
    have hspl := fun W (k : Kept w2.heap.size w4 W) => @spoil_at (l2.take 80) a2 c2 w3.heap.size
    clear hspl
    replace hsub2 := Lib.hid hsub2
    have hcd5 := fun W (k : Kept w2.heap.size w4 W) => codes_other (h2.below B2) hcd4 k (by omega) (Nat.le_refl _)
    have hG5 := fun W (k : Kept w2.heap.size w4 W) => hGL.far (C := w3.heap.size) (B24.trans (k.below (Nat.le_refl _) (by omega))) (by omega)
    replace hcd5 := Lib.hid hcd5
    replace hG5 := Lib.hid hG5
    go_upto_region 7 with (first
      | (go_at_call 10; with_reducible refine hsub1.out.mono ?_; rintro e w5 ⟨⟨es1, v1, rfl, hd1, hr5⟩, hk5, -⟩; obtain ⟨pA, cA, rfl, -, -, -, -⟩ := hr5.form; have hsub2' := Lib.hid (hsub2.out w5 hk5); clear hsub1 hsub2)
      | (go_at_call 10; with_reducible refine hsub2'.out.mono ?_; rintro e w6 ⟨⟨es2, v2, rfl, hd2, hr6⟩, hk6, at6, hc6⟩; obtain ⟨pB, cB, rfl, -, -, -, -⟩ := hr6.form; have hsp := Lib.hid (spoil_at hl2 (hcd5.out w5 hk5) (hG5.out w5 hk5) hd2 hr6 hk6 hc6); clear hsub2')
      | (go_at_call 11; refine hsp.out.mono ?_; rintro e w7 ⟨⟨es3, v3, rfl, hr7, hn7, hs7⟩, hk7, -, -⟩; obtain ⟨pC, cC, rfl, -, -, -, -⟩ := hr7.form))
    clear hsp hc6
    have B27 : Below w2.heap.size w2 w7 := ((B24.trans (hk5.below (Nat.le_refl _) (by omega))).trans (hk6.below (by omega) (by have := hk5.size; omega))).trans (hk7.below (by omega) (by have := hk5.size; have := hk6.size; omega))
    have hcxA : CtxsP (fun b => w4.heap.size ≤ b) pA cA (es1.map CEl.x) w5 := by
      obtain ⟨a0', cap', hv, hcx⟩ := hr5.ctxs
      injection hv with e1 e2 e3
      subst e1
      subst e3
      exact hcx.mono fun b _ h => h.elim id fun e => (hr5.lt b e).1
    have hlA := hd1.len
    have hSA7 : SubjAt pA cA (es1.map CEl.x) w7 := ⟨((hcxA.same (SameB.of_kept hk6 fun b hb => by omega)).same (SameB.of_kept hk7 fun b hb => by omega)).mono fun _ _ _ => trivial, hd1.fit, by omega⟩
    have hSC7 := subj_at hr7 rfl (fit_small hs7) (by rw [List.length_map]; omega)
    have hS7 : SubjAt p c l w7 := hS.below (B2.trans (B27.mono B2.size))
    have B7 := B2.trans (B27.mono B2.size)
    have z7 := (B27.block w.heap.size hg2).trans z2
    have hlen1 : (es1.map CEl.x).length = es1.length := List.length_map ..
    have hlen3 : (es3.map CEl.x).length = es3.length := List.length_map ..
    have hVw : w.heap.size < w7.heap.size := by have := B27.size; omega
    clear hr5 hr6 hr7 hk5 hk6 hk7 hcd3 hcd4 hcd5 hG5 hGL hb3 hb4 hd2 hcxA B24 B27 z2 hS h1 h2 G hl1 hl2 hs34 hs23 hC3 hC4 hg2 hs7
    have hb8 := ((Below.refl w7.heap.size w7).alloc (Nat.le_refl _) (.cells #[.slice pA (es1.length : Nat) cA] 25)).alloc (by simp) (.cells #[.slice pC (es3.length : Nat) cC] 25)
    have zX : ((w7.alloc (.cells #[.slice pA (es1.length : Nat) cA] 25)).alloc (.cells #[.slice pC (es3.length : Nat) cC] 25)).heap[w7.heap.size]? = some (.cells #[.slice pA (es1.length : Nat) cA] 25 (0, 0)) := (Lib.alloc_old _ _ _ (by simp)).trans (heap_alloc_new w7 _)
    have zY : ((w7.alloc (.cells #[.slice pA (es1.length : Nat) cA] 25)).alloc (.cells #[.slice pC (es3.length : Nat) cC] 25)).heap[w7.heap.size + 1]? = some (.cells #[.slice pC (es3.length : Nat) cC] 25 (0, 0)) := by
      have := heap_alloc_new (w7.alloc (.cells #[.slice pA (es1.length : Nat) cA] 25)) (.cells #[.slice pC (es3.length : Nat) cC] 25)
      simpa using this
    generalize (w7.alloc (.cells #[.slice pA (es1.length : Nat) cA] 25)).alloc (.cells #[.slice pC (es3.length : Nat) cC] 25) = w8 at hb8 zX zY ⊢
    have f0 : w8.cell? ⟨w.heap.size, 0, none⟩ = some (.slice p l.length c) := by rw [Lib.cell_of_heap ((hb8.block w.heap.size hVw).trans z7)]; rfl
    have f1 : w8.cell? ⟨w7.heap.size, 0, none⟩ = some (.slice pA es1.length cA) := by rw [Lib.cell_of_heap zX]; rfl
    have f2 : w8.cell? ⟨w7.heap.size + 1, 0, none⟩ = some (.slice pC es3.length cC) := by rw [Lib.cell_of_heap zY]; rfl
    have hSA8 := hSA7.below hb8
    have hSC8 := hSC7.below hb8
    have hS8 := hS7.below hb8
    have B8 := B7.trans (hb8.mono B7.size)
    clear hSA7 hSC7 hS7 z7 zX zY
    have hal := (Below.refl w8.heap.size w8).alloc (Nat.le_refl _) (.cells #[.slice pA (es1.length : Nat) cA, .slice pC (es3.length : Nat) cC, .slice pC (es3.length : Nat) cC, .slice pA (es1.length : Nat) cA, .slice pA (es1.length : Nat) cA, .slice p (l.length : Nat) c, .slice p (l.length : Nat) c, .slice pC (es3.length : Nat) cC] 32)
    have hP : Pairs w8.heap.size (w8.alloc (.cells #[.slice pA (es1.length : Nat) cA, .slice pC (es3.length : Nat) cC, .slice pC (es3.length : Nat) cC, .slice pA (es1.length : Nat) cA, .slice pA (es1.length : Nat) cA, .slice p (l.length : Nat) c, .slice p (l.length : Nat) c, .slice pC (es3.length : Nat) cC] 32)) := pairs_at (heap_alloc_new _ _) (hS8.below hal) (hSA8.below hal) (hSC8.below hal) hlen1 hlen3 (by omega) (by omega) (by omega)
    have hBG := B8.trans (hal.mono B8.size)
    have hE9 := E.below hBG
    clear hal hSA8 hSC8 hS8 hb8 B7 B2 hd1 hlA hn7 hl8 E
    replace hBG := Lib.hid hBG
    replace hE9 := Lib.hid hE9
    replace hP := Lib.hid hP
    go_wp2
    generalize w8.alloc (.cells #[.slice pA (es1.length : Nat) cA, .slice pC (es3.length : Nat) cC, .slice pC (es3.length : Nat) cC, .slice pA (es1.length : Nat) cA, .slice pA (es1.length : Nat) cA, .slice p (l.length : Nat) c, .slice p (l.length : Nat) c, .slice pC (es3.length : Nat) cC] 32) = w9 at hP hBG hE9 ⊢
    clear f0 f1 f2 B8
    replace hP := hP.out
    generalize w8.heap.size = GG at hP ⊢
    go_loopw [12, 13, 14, 15, 16, 17, 18, 48] (fun _ _ _ _ _ _ _ i wr => ∃ m : Nat, m ≤ 4 ∧ i = .int .i64 m ∧ Below w9.heap.size w9 wr) (fun _ _ _ _ _ _ _ i _ => 4 - (intOf i).toNat)
    case atStart => exact ⟨0, by omega, rfl, Below.refl _ _⟩
    case round =>
      obtain ⟨m, hm, rfl, hbr⟩ := hrel
      by_cases hlt : m < 4
      · have hmI : (m : Int) < 4 := by omega
        have hmI0 : (0 : Int) ≤ (m : Int) := by omega
        obtain ⟨q, d, A, q', d', B, hcq, hcq', hSq, hSq', hA100, hB100⟩ := (hP.below hbr).each m hlt
        have hbX := (Below.refl wr.heap.size wr).alloc (Nat.le_refl _) (.cells #[.slice q (A.length : Nat) d, .slice q' (B.length : Nat) d'] 32)
        have zX := heap_alloc_new wr (.cells #[.slice q (A.length : Nat) d, .slice q' (B.length : Nat) d'] 32)
        go_upto_region 10 with (fail)
        generalize wr.alloc (.cells #[.slice q (A.length : Nat) d, .slice q' (B.length : Nat) d'] 32) = wX at hbX zX ⊢
        have hXs : wr.heap.size < wX.heap.size := (Array.getElem?_eq_some_iff.1 zX).1
        have hSX := hSq.below hbX
        have hSY := hSq'.below hbX
        have hEX := (hE9.out.below hbr).below hbX
        have hbrX := hbr.trans (hbX.mono hbr.size)
        clear hbX hcq hcq' hSq hSq' hbr
        generalize wr.heap.size = X at zX hXs ⊢
        have k0 : wX.cell? ⟨X, 0, none⟩ = some (.slice q A.length d) := by rw [Lib.cell_of_heap zX]; rfl
        have k1 : wX.cell? ⟨X, 1, none⟩ = some (.slice q' B.length d') := by rw [Lib.cell_of_heap zX]; rfl
        have hJ := Lib.hid (join_any5 q q' d d' A B wX hEX hSX.row hSY.row hSX.fit hSY.fit hA100 hB100)
        have hR := fun W (h : Below wX.heap.size wX W) => refJoin_any5 q q' d d' A B W (hEX.below h) (hSX.row.same (SameB.of_below h)) (hSY.row.same (SameB.of_below h)) hSX.fit hSY.fit hA100 hB100
        have hK := fun W (h : Below wX.heap.size wX W) => join_any5 q' q d' d B A W (hEX.below h) (hSY.row.same (SameB.of_below h)) (hSX.row.same (SameB.of_below h)) hSY.fit hSX.fit hB100 hA100
        obtain ⟨e1, e2, e3, e4⟩ := joinP_both A B
        rw [e1] at hK
        obtain ⟨L, hL⟩ : ∃ L, (joinP A B).1 = L := ⟨_, rfl⟩
        obtain ⟨ce, hce⟩ : ∃ ce, (joinP A B).2 = ce := ⟨_, rfl⟩
        obtain ⟨cg, hcg⟩ : ∃ cg, (joinP B A).2 = cg := ⟨_, rfl⟩
        rw [hL] at hJ hK hR e3 e4
        rw [hce] at hJ hR e2
        rw [hcg] at hK e2
        replace hR := Lib.hid hR
        replace hK := Lib.hid hK
        replace e4 := Lib.hid e4
        clear hSX hSY e1 hL hce hcg hEX
        go_upto_region 11 with (go_at_call 12; refine hJ.out.mono ?_; rintro e wu ⟨⟨pu, du, rfl, hcpu⟩, hbwu⟩)
        have hawu := (Below.refl wu.heap.size wu).alloc (Nat.le_refl _) (.cells #[.slice pu (L.length : Nat) du] 25)
        have zpu := heap_alloc_new wu (.cells #[.slice pu (L.length : Nat) du] 25)
        generalize wu.alloc (.cells #[.slice pu (L.length : Nat) du] 25) = wu2 at hawu zpu ⊢
        have hlwu2 : wu.heap.size < wu2.heap.size := (Array.getElem?_eq_some_iff.1 zpu).1
        have ypu : wu2.cell? ⟨wu.heap.size, 0, none⟩ = some (.slice pu L.length du) := by rw [Lib.cell_of_heap zpu]; rfl
        replace hcpu := hcpu.same (SameB.of_below hawu)
        have hBwu2 : Below wX.heap.size wX wu2 := hbwu.trans (hawu.mono hbwu.size)
        clear hawu hbwu zpu
        clear hJ
        have k0u := (hBwu2.cell (p := ⟨X, 0, none⟩) hXs).trans k0
        have k1u := (hBwu2.cell (p := ⟨X, 1, none⟩) hXs).trans k1
        have hR' := Lib.hid (hR.out wu2 hBwu2)
        clear hR k0 k1
        go_upto_region 12 with (go_at_call 13; refine hR'.out.mono ?_; rintro e wv ⟨⟨pv, dv, rfl, hcpv⟩, hbwv⟩)
        have hawv := (Below.refl wv.heap.size wv).alloc (Nat.le_refl _) (.cells #[.slice pv (L.length : Nat) dv] 25)
        have zpv := heap_alloc_new wv (.cells #[.slice pv (L.length : Nat) dv] 25)
        generalize wv.alloc (.cells #[.slice pv (L.length : Nat) dv] 25) = wv2 at hawv zpv ⊢
        have hlwv2 : wv.heap.size < wv2.heap.size := (Array.getElem?_eq_some_iff.1 zpv).1
        have ypv : wv2.cell? ⟨wv.heap.size, 0, none⟩ = some (.slice pv L.length dv) := by rw [Lib.cell_of_heap zpv]; rfl
        replace hcpv := hcpv.same (SameB.of_below hawv)
        have hBwv2 : Below wu2.heap.size wu2 wv2 := hbwv.trans (hawv.mono hbwv.size)
        clear hawv hbwv zpv
        clear hR'
        have hBv : Below wX.heap.size wX wv2 := hBwu2.trans (hBwv2.mono hBwu2.size)
        have hXu := Nat.lt_of_lt_of_le hXs hBwu2.size
        have k0v := (hBwv2.cell (p := ⟨X, 0, none⟩) hXu).trans k0u
        have k1v := (hBwv2.cell (p := ⟨X, 1, none⟩) hXu).trans k1u
        have hK' := Lib.hid (hK.out wv2 hBv)
        clear hK k0u k1u
        go_upto_region 13 with (go_at_call 12; refine hK'.out.mono ?_; rintro e wg ⟨⟨pg, dg, rfl, hcpg⟩, hbwg⟩)
        have hawg := (Below.refl wg.heap.size wg).alloc (Nat.le_refl _) (.cells #[.slice pg (L.length : Nat) dg] 25)
        have zpg := heap_alloc_new wg (.cells #[.slice pg (L.length : Nat) dg] 25)
        generalize wg.alloc (.cells #[.slice pg (L.length : Nat) dg] 25) = wg2 at hawg zpg ⊢
        have hlwg2 : wg.heap.size < wg2.heap.size := (Array.getElem?_eq_some_iff.1 zpg).1
        have ypg : wg2.cell? ⟨wg.heap.size, 0, none⟩ = some (.slice pg L.length dg) := by rw [Lib.cell_of_heap zpg]; rfl
        replace hcpg := hcpg.same (SameB.of_below hawg)
        have hBwg2 : Below wv2.heap.size wv2 wg2 := hbwg.trans (hawg.mono hbwg.size)
        clear hawg hbwg zpg
        clear hK' k0v k1v
        have hBg : Below wX.heap.size wX wg2 := hBv.trans (hBwg2.mono hBv.size)
        have yv := (hBwg2.cell (p := ⟨wv.heap.size, 0, none⟩) hlwv2).trans ypv
        have hBug : Below wu2.heap.size wu2 wg2 := hBwv2.trans (hBwg2.mono hBwv2.size)
        have yu := (hBug.cell (p := ⟨wu.heap.size, 0, none⟩) hlwu2).trans ypu
        have hcu := hcpu.same (SameB.of_below hBug)
        have hcv := hcpv.same (SameB.of_below hBwg2)
        have hS1 := Lib.hid (same_refl pu pv du dv L wg2 hcu hcv (by omega) e4.out)
        have hS2 := fun W (h : Below wg2.heap.size wg2 W) => same_refl pu pg du dg L W (hcu.same (SameB.of_below h)) (hcpg.same (SameB.of_below h)) (by omega) e4.out
        replace hS2 := Lib.hid hS2
        have hbend := hbrX.trans (hBg.mono hbrX.size)
        have hgl2 : wg.heap.size < wg2.heap.size := hlwg2
        clear ypv ypu hcu hcv hcpu hcpv hcpg hBug hBg hBwg2 hBv hBwv2 hBwu2 hlwv2 hXu hXs zX e4 e3
        by_cases hz : ce = 0
        · have hz2 := e2.1 hz
          subst hz
          subst hz2
          clear e2
          have hyl : ∀ W, Below wg2.heap.size wg2 W → W.cell? ⟨wu.heap.size, 0, none⟩ = some (.slice pu L.length du) ∧ W.cell? ⟨wg.heap.size, 0, none⟩ = some (.slice pg L.length dg) := fun W h => ⟨(h.cell (p := ⟨wu.heap.size, 0, none⟩) (block_lt_of_cell yu)).trans yu, (h.cell (p := ⟨wg.heap.size, 0, none⟩) hgl2).trans ypg⟩
          replace hyl := Lib.hid hyl
          clear ypg
          go_wp2_with (first
            | (go_at_call 14; with_reducible refine hS1.out.mono ?_; rintro e w6' ⟨rfl, hb6⟩; obtain ⟨yu6, yg6⟩ := hyl.out w6' hb6; have hS2' := Lib.hid (hS2.out w6' hb6); clear hS1 hS2 hyl yu yv)
            | (go_at_call 14; with_reducible refine hS2'.out.mono ?_; rintro e w7' ⟨rfl, hb7⟩))
          go_roundw
          case rel => exact ⟨m + 1, by omega, by go_num, (hbend.trans (hb6.mono hbend.size)).trans (hb7.mono (hbend.trans (hb6.mono hbend.size)).size)⟩
          case measure => simp [intOf]; omega
        · have hzb : (ce == 0) = false := by simp [hz]
          have hzg : (cg == 0) = false := by
            have : cg ≠ 0 := fun h => hz (e2.2 h)
            simp [this]
          clear e2 hS2
          go_wp2_with (go_at_call 14; refine hS1.out.mono ?_; rintro e w6' ⟨rfl, hb6⟩)
          go_roundw
          case rel => exact ⟨m + 1, by omega, by go_num, hbend.trans (hb6.mono hbend.size)⟩
          case measure => simp [intOf]; omega
      · obtain rfl : m = 4 := by omega
        go_wp2
        go_ret
        exact ⟨rfl, hBG.out.trans (hbr.mono hBG.out.size)⟩
  · replace hsmall : smallS l = false := by simpa using hsmall
    rw [hsmall] at hsm
    go_wp2_with (go_at_call 8; refine hsm.out.mono ?_; rintro e w2 ⟨rfl, hb2⟩)
    go_ret
    exact ⟨rfl, B1.trans (hb2.mono B1.size)⟩
end Go.Proofs.YtcbnefeedoabeaaGreatDoor
