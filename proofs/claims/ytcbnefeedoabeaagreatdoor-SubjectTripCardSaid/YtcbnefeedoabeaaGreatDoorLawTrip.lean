/- SubjectTrip: the encoding of any subject, and that it is decoded as it was. -/
import Derived.Test.YtcbnefeedoabeaaGreatDoorPu
import Derived.Test.YtcbnefeedoabeaaGreatDoorPw
import Derived.Test.YtcbnefeedoabeaaGreatDoorPr
import Derived.Test.YtcbnefeedoabeaaGreatDoorPs
import Derived.Test.YtcbnefeedoabeaaGreatDoorPo
namespace Go.Proofs.YtcbnefeedoabeaaGreatDoor
open Go Go.RowKit

/-- Three subjects in a row. -/
structure Three (G : Nat) (w : World) : Prop where
  lt : G < w.heap.size
  each : ∀ j, j < 3 → ∃ p c l, w.cell? ⟨G, j, none⟩ = some (.slice p ((l : List Ctx).length : Nat) c) ∧ SubjAt p c l w
theorem Three.below {G : Nat} {w w' : World} (h : Three G w) (hb : Below w.heap.size w w') : Three G w' := ⟨Nat.lt_of_lt_of_le h.lt hb.size, fun j hj => by
  obtain ⟨p, c, l, h1, h2⟩ := h.each j hj
  exact ⟨p, c, l, (hb.cell (p := ⟨G, j, none⟩) h.lt).trans h1, h2.below hb⟩⟩
theorem three_at {G : Nat} {w : World} {T : TypeId} {p pA pB : Option Addr} {c cA cB nA nB : Nat} {l lA lB : List Ctx} (h : w.heap[G]? = some (.cells #[.slice p (l.length : Nat) c, .slice pA (nA : Nat) cA, .slice pB (nB : Nat) cB] T (0, 0))) (s : SubjAt p c l w) (sA : SubjAt pA cA lA w) (sB : SubjAt pB cB lB w) (hA : lA.length = nA) (hB : lB.length = nB) : Three G w := by
  refine ⟨(Array.getElem?_eq_some_iff.1 h).1, fun j hj => ?_⟩
  rcases (show j = 0 ∨ j = 1 ∨ j = 2 by omega) with rfl | rfl | rfl
  · exact ⟨p, c, l, by rw [Lib.cell_of_heap h]; rfl, s⟩
  · exact ⟨pA, cA, lA, by rw [Lib.cell_of_heap h, hA]; rfl, sA⟩
  · exact ⟨pB, cB, lB, by rw [Lib.cell_of_heap h, hB]; rfl, sB⟩
theorem src_string {a : Option Addr} {l : List UInt8} {c : Nat} {w : World} (h : Wi.Src a l c w) : (convert 22 9 (.slice a (l.length : Nat) c)).run Tryz.prog w = .ok (.string ⟨l.toArray⟩) w := (bin_low h.bytes).string c
theorem subjB_len' {l : List Ctx} (hl : l.length ≤ 4) (hT : ∀ x ∈ l, TinyC x) : (subjB l).length ≤ 400000 := by
  have h2 := Wi.numB_len (l.length : Int) (by omega) (by omega)
  have h3 := flat_len (f := ctxB) (m := 88300) l fun x hx => ctxB_len (hT x hx)
  have h4 : l.length * 88300 ≤ 4 * 88300 := Nat.mul_le_mul_right _ hl
  unfold subjB
  rw [List.length_append]
  omega
set_option linter.unusedSimpArgs false in
set_option linter.unusedVariables false in
set_option maxHeartbeats 16000000 in
set_option maxRecDepth 100000 in
theorem trip_walk (p : Option Addr) (c : Nat) (l : List Ctx) (a1 : Option Addr) (l1 : List UInt8) (c1 : Nat) (w : World) (E : Env w) (G : DrawL w) (hS : SubjAt p c l w) (h1 : BytesIn a1 l1 c1 w) :
    Calls Tryz.prog 5 #[.agg #[.slice p (l.length : Nat) c], .slice a1 (l1.length : Nat) c1] w fun e w' => e = .returned (.bool true) ∧ Below w.heap.size w w' := by
  have hb0 := (Below.refl w.heap.size w).alloc (Nat.le_refl _) (.cells #[.slice p (l.length : Nat) c] 25)
  have hz0 := heap_alloc_new w (.cells #[.slice p (l.length : Nat) c] 25)
  have hg0 : w.heap.size < (w.alloc (.cells #[.slice p (l.length : Nat) c] 25)).heap.size := by simp
  go_enter Tryz.func5, Tryz.ntmps5
  go_upto_region 1 with (fail)
  generalize w.alloc (.cells #[.slice p (l.length : Nat) c] 25) = w0 at hb0 hz0 hg0 ⊢
  go_upto_region 3 with (go_at_call 7; refine (awake_any _ (E.below hb0)).mono ?_; rintro e w1 ⟨rfl, hb1⟩)
  have B1 : Below w.heap.size w w1 := hb0.trans (hb1.mono hb0.size)
  have z1 := (hb1.block _ hg0).trans hz0
  have hg1 := Nat.lt_of_lt_of_le hg0 hb1.size
  clear hb0 hz0 hg0 hb1
  have v1 : w1.cell? ⟨w.heap.size, 0, none⟩ = some (.slice p l.length c) := by rw [Lib.cell_of_heap z1]; rfl
  have hS1 := hS.below B1
  have hsm := Lib.hid (small_any p c l w1 hS1.row hS1.fit hS1.len)
  by_cases hsmall : smallS l = true
  · rw [hsmall] at hsm
    go_upto_region 5 with (go_at_call 8; refine hsm.out.mono ?_; rintro e w2 ⟨rfl, hb2⟩)
    have B2 := B1.trans (hb2.mono B1.size)
    have z2 := (hb2.block _ hg1).trans z1
    have hg2 := Nat.lt_of_lt_of_le hg1 hb2.size
    clear hb2 hsm v1 z1 hS1 B1
    clear hg1 w1
    have hn1 := Lib.hid (new80 (h1.below B2))
    have hl1 : (l1.take 80).length ≤ 1000000 := by rw [List.length_take]; omega
    go_upto_region 6 with (go_at_call 9; with_reducible refine hn1.out.mono ?_; rintro e w3 ⟨rfl, hcd3, hb3⟩)
    have hG3 := (G.below B2).fresh hb3
    have hsub1 := Lib.hid (subject_any _ a1 c1 w2.heap.size 0 w3 hl1 hcd3 hG3)
    have hC3 := hcd3.lt
    go_upto_region 7 with (go_at_call 10; with_reducible refine hsub1.out.mono ?_; rintro e w5 ⟨⟨es1, v1, rfl, hd1, hr5⟩, hk5, at5, hc5⟩; obtain ⟨pA, cA, rfl, -, -, -, -⟩ := hr5.form)
    have hbT := (Below.refl w5.heap.size w5).alloc (Nat.le_refl _) (.cells #[.slice pA (es1.length : Nat) cA] 25)
    have zT := heap_alloc_new w5 (.cells #[.slice pA (es1.length : Nat) cA] 25)
    generalize w5.alloc (.cells #[.slice pA (es1.length : Nat) cA] 25) = w6 at hbT zT ⊢
    have hTs : w5.heap.size < w6.heap.size := (Array.getElem?_eq_some_iff.1 zT).1
    have hdr := hbT.drew
    have hr6 := hr5.below hdr
    have hk6 : Kept w2.heap.size w3 w6.drew := hk5.trans (Kept.of_below hdr)
    have hc6 := hc5.below hdr
    have hsp := Lib.hid (spoil_at hl1 hcd3 hG3 hd1 hr6 hk6 hc6)
    have hB3 : Below w2.heap.size w2 w6.drew := hb3.trans (hk6.below (Nat.le_refl _) (by omega))
    have z6 := (hB3.block w.heap.size hg2).trans z2
    have zT6 : w6.drew.heap[w5.heap.size]? = some (.cells #[.slice pA (es1.length : Nat) cA] 25 (0, 0)) := zT
    have hfA := hd1.fit
    have hlA := hd1.len
    have hcxA : CtxsP (fun b => w3.heap.size ≤ b) pA cA (es1.map CEl.x) w6.drew := by
      obtain ⟨a0', cap', hv, hcx⟩ := hr6.ctxs
      injection hv with e1 e2 e3
      subst e1
      subst e3
      exact hcx.mono fun b _ h => h.elim id fun e => (hr6.lt b e).1
    have hkA := hk5.size
    have hw6s : w6.drew.heap.size = w6.heap.size := rfl
    clear hr5 hk5 hc5 hr6 hc6 hsub1 hn1 hdr hbT zT z2
    have f0 : w6.drew.cell? ⟨w.heap.size, 0, none⟩ = some (.slice p l.length c) := by rw [Lib.cell_of_heap z6]; rfl
    have f1 : w6.drew.cell? ⟨w5.heap.size, 0, none⟩ = some (.slice pA es1.length cA) := by rw [Lib.cell_of_heap zT6]; rfl
    have hlen1 : (es1.map CEl.x).length = es1.length := List.length_map ..
    refine wp_region_held_drew (S := fun w' => w'.cell? ⟨w.heap.size, 0, none⟩ = some (.slice p l.length c) ∧ w'.cell? ⟨w5.heap.size, 0, none⟩ = some (.slice pA es1.length cA)) (by kernel_rfl) ⟨f0, f1⟩ (fun hHeld => ?_)
    generalize w6.drew = wd at hsp hB3 z6 zT6 hcxA hk6 f0 f1 hw6s hHeld ⊢
    refine wpAnyH_take (i := 0) (v := ?_) rfl (by kernel_rfl) (by kernel_rfl) (by kernel_rfl) (fun _ _ _ h => h) (Or.inl ⟨by rfl, ?_⟩) hHeld ?_
    rotate_left
    · intro w' hSw
      obtain ⟨e1, e2⟩ := hSw
      go_simp
      try with_reducible rfl
    try simp only [List.getElem_toArray, List.getElem_cons_succ, List.getElem_cons_zero, Act.put, List.setIfInBounds_toArray, List.set_cons_zero, List.set_cons_succ]
    refine wpAnyH_take (i := 1) (v := ?_) rfl (by kernel_rfl) (by kernel_rfl) (by kernel_rfl) (fun _ _ _ h => h) (Or.inl ⟨by rfl, ?_⟩) hHeld ?_
    rotate_left
    · intro w' hSw
      obtain ⟨e1, e2⟩ := hSw
      go_simp
      try with_reducible rfl
    try simp only [List.getElem_toArray, List.getElem_cons_succ, List.getElem_cons_zero, Act.put, List.setIfInBounds_toArray, List.set_cons_zero, List.set_cons_succ]
    refine wpAnyH_take (i := 2) (v := ?_) rfl (by kernel_rfl) (by kernel_rfl) (by kernel_rfl) (fun _ _ _ h => h) (Or.inl ⟨by rfl, ?_⟩) hHeld ?_
    rotate_left
    · intro w' hSw
      obtain ⟨e1, e2⟩ := hSw
      go_simp
      try with_reducible rfl
    try simp only [List.getElem_toArray, List.getElem_cons_succ, List.getElem_cons_zero, Act.put, List.setIfInBounds_toArray, List.set_cons_zero, List.set_cons_succ]
    refine wpAnyH_take (i := 3) (v := ?_) rfl (by kernel_rfl) (by kernel_rfl) (by kernel_rfl) (fun _ _ _ h => h) (Or.inl ⟨by rfl, ?_⟩) hHeld ?_
    rotate_left
    · intro w' hSw
      go_simp
      try with_reducible rfl
    try simp only [List.getElem_toArray, List.getElem_cons_succ, List.getElem_cons_zero, Act.put, List.setIfInBounds_toArray, List.set_cons_zero, List.set_cons_succ]
    refine wpAnyH_take (i := 7) (v := ?_) rfl (by kernel_rfl) (by kernel_rfl) (by kernel_rfl) (fun _ _ _ h => h) (Or.inl ⟨by rfl, ?_⟩) hHeld ?_
    rotate_left
    · intro w' hSw
      go_simp
      try with_reducible rfl
    try simp only [List.getElem_toArray, List.getElem_cons_succ, List.getElem_cons_zero, Act.put, List.setIfInBounds_toArray, List.set_cons_zero, List.set_cons_succ]
    refine wpAnyH_ready (rs := [4]) (by kernel_rfl) (by simp) ?_
    refine AllReadyH.cons rfl (fun K hK => ?_) AllReadyH.nil
    go_simp
    go_at_call 11
    refine hsp.out.mono ?_
    rintro e w7 ⟨⟨es2, v2, rfl, hr2, hn2, hs2⟩, hk7, at7, hc7⟩
    obtain ⟨pB, cB, rfl, -, -, -, -⟩ := hr2.form
    have hk37 := hk7.size
    have n1 : w.heap.size ≠ w2.heap.size := by omega
    have n2 : w5.heap.size ≠ w2.heap.size := by omega
    have g0 := (hk7.cell (p := ⟨w.heap.size, 0, none⟩) (by show w.heap.size < _; have := hB3.size; omega) n1).trans f0
    have g1 := (hk7.cell (p := ⟨w5.heap.size, 0, none⟩) (by show w5.heap.size < _; omega) n2).trans f1
    refine hK.out _ _ ⟨g0, g1⟩ (fun _ => ?_)
    clear hK K hHeld
    have hHeld : (fun w' => w'.cell? ⟨w.heap.size, 0, none⟩ = some (.slice p l.length c) ∧ w'.cell? ⟨w5.heap.size, 0, none⟩ = some (.slice pA es1.length cA)) w7 := ⟨g0, g1⟩
    try simp only [List.getElem_toArray, List.getElem_cons_succ, List.getElem_cons_zero, Act.put, List.setIfInBounds_toArray, List.set_cons_zero, List.set_cons_succ]
    have hSB7 := subj_at hr2 rfl (fit_small hs2) (by rw [List.length_map]; omega)
    have hB7 : Below w2.heap.size w2 w7 := hB3.trans (hk7.below (Nat.le_refl _) (by have := hB3.size; omega))
    have hS7 : SubjAt p c l w7 := hS.below (B2.trans (hB7.mono B2.size))
    have hSA7 : SubjAt pA cA (es1.map CEl.x) w7 := ⟨(hcxA.same (SameB.of_kept hk7 fun b hb => by omega)).mono fun _ _ _ => trivial, hfA, by omega⟩
    have hal := (Below.refl w7.heap.size w7).alloc (Nat.le_refl _) (.cells #[.slice p (l.length : Nat) c, .slice pA (es1.length : Nat) cA, .slice pB (es2.length : Nat) cB] 25)
    have hT3 : Three w7.heap.size (w7.alloc (.cells #[.slice p (l.length : Nat) c, .slice pA (es1.length : Nat) cA, .slice pB (es2.length : Nat) cB] 25)) := three_at (heap_alloc_new _ _) (hS7.below hal) (hSA7.below hal) (hSB7.below hal) hlen1 (List.length_map ..)
    have hBG := (B2.trans (hB7.mono B2.size)).trans (hal.mono (B2.trans (hB7.mono B2.size)).size)
    have hwlt := (B2.trans (hB7.mono B2.size)).size
    refine wpAnyH_ready (rs := [5]) (by kernel_rfl) (by simp) ?_
    refine AllReadyH.cons rfl (fun K hK => ?_) AllReadyH.nil
    go_simp
    refine hK.out _ _ ⟨(hal.cell (p := ⟨w.heap.size, 0, none⟩) (by show w.heap.size < _; have := hB7.size; omega)).trans g0, (hal.cell (p := ⟨w5.heap.size, 0, none⟩) (by show w5.heap.size < _; omega)).trans g1⟩ (fun _ => ?_)
    clear hK K hHeld
    have hHeld : (fun w' => w'.cell? ⟨w.heap.size, 0, none⟩ = some (.slice p l.length c) ∧ w'.cell? ⟨w5.heap.size, 0, none⟩ = some (.slice pA es1.length cA)) (w7.alloc (.cells #[.slice p (l.length : Nat) c, .slice pA (es1.length : Nat) cA, .slice pB (es2.length : Nat) cB] 25)) := ⟨(hal.cell (p := ⟨w.heap.size, 0, none⟩) (by show w.heap.size < _; have := hB7.size; omega)).trans g0, (hal.cell (p := ⟨w5.heap.size, 0, none⟩) (by show w5.heap.size < _; omega)).trans g1⟩
    try simp only [List.getElem_toArray, List.getElem_cons_succ, List.getElem_cons_zero, Act.put, List.setIfInBounds_toArray, List.set_cons_zero, List.set_cons_succ]
    refine wpAnyH_take (i := 6) (v := ?_) rfl (by kernel_rfl) (by kernel_rfl) (by kernel_rfl) (fun _ _ _ h => h) (Or.inl ⟨by rfl, ?_⟩) hHeld ?_
    rotate_left
    · intro w' hSw
      go_simp
      try with_reducible rfl
    try simp only [List.getElem_toArray, List.getElem_cons_succ, List.getElem_cons_zero, Act.put, List.setIfInBounds_toArray, List.set_cons_zero, List.set_cons_succ]
    refine wpAnyH_done (by kernel_rfl) ?_ _
    generalize w7.alloc (.cells #[.slice p (l.length : Nat) c, .slice pA (es1.length : Nat) cA, .slice pB (es2.length : Nat) cB] 25) = w8 at hT3 hBG ⊢
    have hE8 := E.below hBG
    clear hHeld hal hSB7 hS7 hSA7 hB7 g0 g1 hk7 hc7 hr2 hs2 hn2 hsp hB3 z6 zT6 hcxA hfA hlA hk6 f0 f1 B2 hg2 hcd3 hb3 hG3 hC3 hTs hkA hw6s hk37 n1 n2 hd1 hl1 hwlt G hS h1 E
    replace hBG := Lib.hid hBG
    replace hE8 := Lib.hid hE8
    generalize w7.heap.size = GG at hT3 ⊢
    go_wp2
    go_loopw [8, 9, 10, 11, 12, 13, 14, 31] (fun _ _ _ _ _ _ _ i wr => ∃ m : Nat, m ≤ 3 ∧ i = .int .i64 m ∧ Below w8.heap.size w8 wr) (fun _ _ _ _ _ _ _ i _ => 3 - (intOf i).toNat)
    case atStart => exact ⟨0, Nat.zero_le _, rfl, Below.refl _ _⟩
    case round =>
      obtain ⟨m, hm, rfl, hbr⟩ := hrel
      by_cases hlt : m < 3
      · have hmI : (m : Int) < 3 := by omega
        have hmI0 : (0 : Int) ≤ (m : Int) := by omega
        obtain ⟨q, d, L, hcq, hSq⟩ := (hT3.below hbr).each m hlt
        have hbX := (Below.refl wr.heap.size wr).alloc (Nat.le_refl _) (.cells #[.slice q (L.length : Nat) d] 25)
        have zX := heap_alloc_new wr (.cells #[.slice q (L.length : Nat) d] 25)
        go_upto_region 10 with (fail)
        generalize wr.alloc (.cells #[.slice q (L.length : Nat) d] 25) = wX at hbX zX ⊢
        have hXs : wr.heap.size < wX.heap.size := (Array.getElem?_eq_some_iff.1 zX).1
        have hSX := hSq.below hbX
        have hEX := (hE8.out.below hbr).below hbX
        have hbrX := hbr.trans (hbX.mono hbr.size)
        clear hbX hcq hSq
        generalize wr.heap.size = X at zX hXs ⊢
        have k0 : wX.cell? ⟨X, 0, none⟩ = some (.slice q L.length d) := by rw [Lib.cell_of_heap zX]; rfl
        have hEn := Lib.hid (encode_any q d L wX hEX hSX.row hSX.fit hSX.len fun h => valid_tiny h)
        have hRn := fun W (h : Below wX.heap.size wX W) => refEncode_all q d L W (hEX.below h) (hSX.row.same (SameB.of_below h)) hSX.fit hSX.len
        replace hRn := Lib.hid hRn
        have hdec := fun h : subjE L = 0 => (valid_tiny h)
        generalize hencP : encP L = B at hEn hRn
        replace hencP := Lib.hid hencP
        generalize hee : subjE L = ee at hEn hRn
        replace hee := Lib.hid hee
        go_upto_region 11 with (go_at_call 23; refine hEn.out.mono ?_; rintro e w2' ⟨⟨a2, c2, rfl, hS2⟩, hb2⟩)
        have k2 := (hb2.cell (p := ⟨X, 0, none⟩) hXs).trans k0
        have hR2 := Lib.hid (hRn.out w2' hb2)
        go_upto_region 12 with (go_at_call 24; refine hR2.out.mono ?_; rintro e w3' ⟨⟨a3, c3, rfl, hS3⟩, hb3'⟩)
        have hb3 := hb2.trans (hb3'.mono hb2.size)
        have hS2' := src_below hS2 hb3'
        have q1 := src_string hS2'
        have q2 := src_string hS3
        clear hEn hRn hR2 hS2 hb3' hb2 hS3 k2
        go_upto_region 14 with (fail)
        clear q1 q2
        have k3 := (hb3.cell (p := ⟨X, 0, none⟩) hXs).trans k0
        have hb03 := hbrX.trans (hb3.mono hbrX.size)
        by_cases hz : ee = 0
        · subst hz
          have hE0 := hee.out
          have hBs : B = subjB L := by rw [← hencP.out]; exact if_pos hE0
          obtain ⟨ht4, hti⟩ := hdec hE0
          have hBl := subjB_len' ht4 hti
          rw [← hBs] at hBl
          have hD := decode_any (hEX.below hb3) (by omega) hS2'
          rw [hBs, dec_enc false hE0] at hD
          simp only at hD
          rw [← hBs] at hD
          replace hD := Lib.hid hD
          have hSX3 := hSX.below hb3
          clear hdec hBs hBl hencP hee hEX k0 zX hb3 hS2' hbrX
          go_upto_region 16 with (go_at_call 25; refine hD.out.mono ?_; rintro e w4 ⟨⟨q2, d2, rfl, hcq2⟩, hb4⟩)
          have hal4 := (Below.refl w4.heap.size w4).alloc (Nat.le_refl _) (.cells #[.slice q2 (L.length : Nat) d2] 25)
          have z4 := heap_alloc_new w4 (.cells #[.slice q2 (L.length : Nat) d2] 25)
          generalize w4.alloc (.cells #[.slice q2 (L.length : Nat) d2] 25) = w5' at hal4 z4 ⊢
          have hb5 := hb4.trans (hal4.mono hb4.size)
          have k5 := (hb5.cell (p := ⟨X, 0, none⟩) (block_lt_of_cell k3)).trans k3
          have y5 : w5'.cell? ⟨w4.heap.size, 0, none⟩ = some (.slice q2 L.length d2) := by rw [Lib.cell_of_heap z4]; rfl
          have hSame := Lib.hid (same_refl q2 q d2 d L w5' (hcq2.same (SameB.of_below hal4)) (hSX3.below hb5).row (by omega) (fun x hx => ⟨by have := (hti x hx).attrs; omega, fun a ha => by have := ((hti x hx).each a ha).list; omega⟩))
          have hb05 := hb03.trans (hb5.mono hb03.size)
          clear hD hcq2 hb4 hal4 z4 hSX hSX3 k3 hb03 hb5 hti
          go_wp2_with (go_at_call 14; refine hSame.out.mono ?_; rintro e w6' ⟨rfl, hb6⟩)
          go_roundw
          case rel => exact ⟨m + 1, by omega, by go_num, hb05.trans (hb6.mono hb05.size)⟩
          case measure => simp [intOf]; omega
        · have hzb : (ee == 0) = false := by simp [hz]
          clear hee hdec hencP hEX hSX hS2'
          go_wp2
          go_roundw
          case rel => exact ⟨m + 1, by omega, by go_num, hb03⟩
          case measure => simp [intOf]; omega
      · obtain rfl : m = 3 := by omega
        go_wp2
        go_ret
        exact ⟨rfl, hBG.out.trans (hbr.mono hBG.out.size)⟩
  · replace hsmall : smallS l = false := by simpa using hsmall
    rw [hsmall] at hsm
    go_wp2_with (go_at_call 8; refine hsm.out.mono ?_; rintro e w2 ⟨rfl, hb2⟩)
    go_ret
    exact ⟨rfl, B1.trans (hb2.mono B1.size)⟩
end Go.Proofs.YtcbnefeedoabeaaGreatDoor
