/- SubjectCanonical: for every subject, choices and key, the canonical text is the document's, and two valid subjects have the same one only if their kinds and keys are the same. -/
import Derived.Test.YtcbnefeedoabeaaDoorPk
import Derived.Test.YtcbnefeedoabeaaDoorPi
import Derived.Test.YtcbnefeedoabeaaDoorPj
import Derived.Deep.CutBlock
namespace Go.Proofs.YtcbnefeedoabeaaDoor
open Go Go.RowKit

/-- A subject that lies in memory and is fit. -/
structure SubjAt (p : Option Addr) (c : Nat) (l : List Ctx) (w : World) : Prop where
  row : CtxsP (fun _ => True) p c l w
  fit : ∀ x ∈ l, FitC x
  len : l.length ≤ 9223372036854775000
theorem SubjAt.below {p : Option Addr} {c : Nat} {l : List Ctx} {w w' : World} (h : SubjAt p c l w) (hb : Below w.heap.size w w') : SubjAt p c l w' := ⟨h.row.same (SameB.of_below hb), h.fit, h.len⟩
/-- A slice of bytes among the arguments. -/
structure BytesIn (a : Option Addr) (l : List UInt8) (c : Nat) (w : World) : Prop where
  le : l.length ≤ c
  bound : c ≤ 9223372036854775807
  at_ : BytesOf a l w
theorem BytesIn.below {a : Option Addr} {l : List UInt8} {c : Nat} {w w' : World} (h : BytesIn a l c w) (hb : Below w.heap.size w w') : BytesIn a l c w' :=
  ⟨h.le, h.bound, fun i hi => by
    obtain ⟨b, off, e1, e2, e3⟩ := h.at_ i hi
    exact ⟨b, off, e1, Nat.lt_of_lt_of_le e2 hb.size, (hb.cell (p := ⟨b, off + i, none⟩) e2).trans e3⟩⟩
theorem subj_at {P : Nat → Prop} {es : List CEl} {B n c : Nat} {p : Option Addr} {w : World} (h : GRow eltC P es B (.slice p n c) w) (_ : es.length = n) (hf : ∀ x ∈ es.map CEl.x, FitC x) (hl : (es.map CEl.x).length ≤ 9223372036854775000) : SubjAt p c (es.map CEl.x) w := by
  obtain ⟨a0, cap, hv, hr⟩ := h.ctxs
  injection hv with e1 e2 e3
  subst e1
  subst e3
  exact ⟨hr.mono fun _ _ _ => trivial, hf, hl⟩
theorem grow_free {α : Type} {E : Elt α} {P : Nat → Prop} {es : List α} {B n c g : Nat} {w : World} (h : GRow E P es B (.slice (some ⟨g, 0, none⟩) n c) w) (i : Nat) : w.frozen? ⟨g, i, none⟩ = false := by
  rcases h.own.2 with ⟨h0, _⟩ | ⟨g', cap', cur, hv, hB, hg, _⟩
  · cases h0
  · have hg' : g = g' := by injection hv with h1; injection h1 with h2; injection h2
    subst hg'
    exact Lib.frozen_of_heap hg i
theorem run_ix0 (g n c : Nat) (W : World) (h : 0 < n) : (Instr.indexAt 22 (.slice (some ⟨g, 0, none⟩) n c) (.int .i64 0)).run Tryd.prog W = .ok (.pointer (some ⟨g, 0, none⟩)) W := by
  have hu : Tryd.prog.underlying 22 = some (.slice (Tryd.prog.elem 22)) := by kernel_rfl
  rw [run_indexAt_slice _ _ _ _ _ _ _ hu, if_pos ⟨Int.le_refl 0, by omega⟩]
  have he : Tryd.prog.elem 22 = 40 := by kernel_rfl
  rw [he, Tryd.sizeOf40]
  simp [Addr.add]
theorem canonP_ok (l : List Ctx) : (canonP l).2 = 0 → subjE l = 0 ∧ (canonP l).1 = ⟨(canonL l).toArray⟩ := by
  unfold canonP
  by_cases h : subjE l = 0
  · rw [if_pos h]; exact fun _ => ⟨h, rfl⟩
  · rw [if_neg h]; exact fun h2 => absurd h2 h
theorem canonP_iff (l m : List Ctx) (h1 : (canonP l).2 = 0) (h2 : (canonP m).2 = 0) : (canonP l).1 = (canonP m).1 ↔ namesOf l = namesOf m := by
  obtain ⟨e1, e2⟩ := canonP_ok l h1
  obtain ⟨e3, e4⟩ := canonP_ok m h2
  rw [e2, e4]
  constructor
  · intro h
    have h5 : canonL l = canonL m := by
      have := congrArg (fun x : ByteArray => x.data.toList) h
      simpa using this
    exact canon_inj (fun x hx => ((good_all e1).2 x hx).word) (fun x hx => ((good_all e3).2 x hx).word) h5
  · intro h
    rw [canon_names h]
theorem new60 {a : Option Addr} {l : List UInt8} {c : Nat} {w : World} (h : BytesIn a l c w) : Calls Tryd.prog 8 #[.slice a (l.length : Nat) c, .int .i64 60] w fun e w' => e = .returned (.pointer (some ⟨w.heap.size, 0, none⟩)) ∧ Codes (l.take 60) a c w.heap.size 0 w' ∧ Below w.heap.size w w' :=
  new_any l a c 60 w (by have := h.le; have := h.bound; omega) h.le (by omega) h.at_
theorem new80 {a : Option Addr} {l : List UInt8} {c : Nat} {w : World} (h : BytesIn a l c w) : Calls Tryd.prog 8 #[.slice a (l.length : Nat) c, .int .i64 80] w fun e w' => e = .returned (.pointer (some ⟨w.heap.size, 0, none⟩)) ∧ Codes (l.take 80) a c w.heap.size 0 w' ∧ Below w.heap.size w w' :=
  new_any l a c 80 w (by have := h.le; have := h.bound; omega) h.le (by omega) h.at_
set_option maxHeartbeats 16000000 in
set_option maxRecDepth 100000 in
theorem canonical_walk (p : Option Addr) (c : Nat) (l : List Ctx) (a1 a2 : Option Addr) (l1 l2 : List UInt8) (c1 c2 : Nat) (key : ByteArray) (w : World) (E : Env w) (G : DrawL w) (hS : SubjAt p c l w) (h1 : BytesIn a1 l1 c1 w) (h2 : BytesIn a2 l2 c2 w) (hk : key.size ≤ 9223372036854775000) :
    Calls Tryd.prog 5 #[.agg #[.slice p (l.length : Nat) c], .slice a1 (l1.length : Nat) c1, .slice a2 (l2.length : Nat) c2, .string key] w fun e w' => e = .returned (.bool true) ∧ Below w.heap.size w w' := by
  have hb0 := (Below.refl w.heap.size w).alloc (Nat.le_refl _) (.cells #[.slice p (l.length : Nat) c] 24)
  have hz0 := heap_alloc_new w (.cells #[.slice p (l.length : Nat) c] 24)
  have hg0 : w.heap.size < (w.alloc (.cells #[.slice p (l.length : Nat) c] 24)).heap.size := by simp
  go_enter Tryd.func5, Tryd.ntmps5
  go_upto_region 1 with (fail)
  generalize w.alloc (.cells #[.slice p (l.length : Nat) c] 24) = w0 at hb0 hz0 hg0 ⊢
  go_upto_region 3 with (go_at_call 6; refine (awake_any _ (E.below hb0)).mono ?_; rintro e w1 ⟨rfl, hb1⟩)
  have B1 : Below w.heap.size w w1 := hb0.trans (hb1.mono hb0.size)
  have z1 := (hb1.block _ hg0).trans hz0
  have hg1 := Nat.lt_of_lt_of_le hg0 hb1.size
  clear hb0 hz0 hg0 hb1
  have v1 : w1.cell? ⟨w.heap.size, 0, none⟩ = some (.slice p l.length c) := by rw [Lib.cell_of_heap z1]; rfl
  have hS1 := hS.below B1
  have hsm := Lib.hid (small_any p c l w1 hS1.row hS1.fit hS1.len)
  by_cases hsmall : smallS l = true
  · rw [hsmall] at hsm
    by_cases hk3 : 300 < key.size
    · have hk3' : (300 : Int) < (key.size : Int) := by omega
      go_wp2_with (go_at_call 7; refine hsm.out.mono ?_; rintro e w2 ⟨rfl, hb2⟩)
      go_ret
      exact ⟨rfl, B1.trans (hb2.mono B1.size)⟩
    · have hk3' : ¬ (300 : Int) < (key.size : Int) := by omega
      go_upto_region 5 with (go_at_call 7; refine hsm.out.mono ?_; rintro e w2 ⟨rfl, hb2⟩)
      have B2 := B1.trans (hb2.mono B1.size)
      have z2 := (hb2.block _ hg1).trans z1
      have hg2 := Nat.lt_of_lt_of_le hg1 hb2.size
      clear hb2 hsm v1 z1 hS1 B1
      clear hg1 w1
      -- the first subject
      have hn1 := new60 (h1.below B2)
      replace hn1 := Lib.hid hn1
      have hGf1 : ∀ W', Below w2.heap.size w2 W' → DrawG w2.heap.size W' := fun W' hb => (G.below B2).fresh hb
      replace hGf1 := Lib.hid hGf1
      have hl1 : (l1.take 60).length ≤ 1000000 := by rw [List.length_take]; omega
      have hl2 : (l2.take 60).length ≤ 1000000 := by rw [List.length_take]; omega
      have hB2s := B2.size
      go_upto_region 6 with (first
        | (go_at_call 8; with_reducible refine hn1.out.mono ?_; rintro e w3 ⟨rfl, hcd3, hb3⟩; have hG3 := hGf1.out _ hb3; have hsub1 := Lib.hid (subject_any _ a1 c1 w2.heap.size 0 w3 hl1 hcd3 hG3))
        | (go_at_call 9; with_reducible refine hsub1.out.mono ?_; rintro e w4 ⟨⟨es1, v1, rfl, hd1, hr1⟩, hk4, -⟩; obtain ⟨pA, cA, rfl, -, -, -, -⟩ := hr1.form; have B24 := (hb3.trans (hk4.below (Nat.le_refl _) hb3.size)); have B4 := B2.trans (B24.mono hB2s); have hn2 := new60 (h2.below B4); replace hn2 := Lib.hid hn2; have hGf2 : Hid (∀ W', Below w4.heap.size w4 W' → DrawG w4.heap.size W') := Lib.hid (fun W' hb => (G.below B4).fresh hb))
        | (go_at_call 8; with_reducible refine hn2.out.mono ?_; rintro e w5 ⟨rfl, hcd5, hb5⟩; have hG5 := hGf2.out _ hb5; have hsub2 := Lib.hid (subject_any _ a2 c2 w4.heap.size 0 w5 hl2 hcd5 hG5))
        | (go_at_call 9; with_reducible refine hsub2.out.mono ?_; rintro e w6 ⟨⟨es2, v2, rfl, hd2, hr2⟩, hk6, -⟩; obtain ⟨pB, cB, rfl, -, -, -, -⟩ := hr2.form))
      have hb46 : Below w4.heap.size w4 w6 := hb5.trans (hk6.below (Nat.le_refl _) hb5.size)
      have hb7 := ((Below.refl w6.heap.size w6).alloc (Nat.le_refl _) (.cells #[.slice pA es1.length cA] 24)).alloc (by simp) (.cells #[.slice pB es2.length cB] 24)
      have zX : ((w6.alloc (.cells #[.slice pA es1.length cA] 24)).alloc (.cells #[.slice pB es2.length cB] 24)).heap[w6.heap.size]? = some (.cells #[.slice pA es1.length cA] 24 (0, 0)) := (Lib.alloc_old _ _ _ (by simp)).trans (heap_alloc_new w6 _)
      have zY : ((w6.alloc (.cells #[.slice pA es1.length cA] 24)).alloc (.cells #[.slice pB es2.length cB] 24)).heap[w6.heap.size + 1]? = some (.cells #[.slice pB es2.length cB] 24 (0, 0)) := by
        have := heap_alloc_new (w6.alloc (.cells #[.slice pA es1.length cA] 24)) (.cells #[.slice pB es2.length cB] 24)
        simpa using this
      generalize (w6.alloc (.cells #[.slice pA es1.length cA] 24)).alloc (.cells #[.slice pB es2.length cB] 24) = w7 at hb7 zX zY ⊢
      have hb47 := hb46.trans (hb7.mono hb46.size)
      have hB24 := B24.size
      have B7 : Below w.heap.size w w7 := B4.trans (hb47.mono B4.size)
      have z7 := ((hb47.block w.heap.size (by omega)).trans ((B24.block w.heap.size hg2).trans z2))
      have hrA := hr1.below hb47
      have hrB := hr2.below hb7
      have hVX : w.heap.size < w6.heap.size := by have := hk6.size; have := hb5.size; omega
      have hgB : w3.heap.size ≤ w6.heap.size := by have := hk6.size; have := hb5.size; have := hk4.size; omega
      have hVg : w.heap.size < w3.heap.size := by have := hb3.size; omega
      have hw2B : w2.heap.size ≤ w3.heap.size := hb3.size
      have hoA := hr1.lt
      have h46 := hb46.size
      have h45 := hb5.size
      clear hk6 hr2 hr1 hk4 hsub1 hsub2 hn1 hn2 hGf1 hGf2 hcd3 hcd5 hb3 hb5 hG3 hG5 hb46 hb7 hb47 B24 z2 hl1 hl2
      have hcase : es1 = [] ∨ (es1 ≠ [] ∧ (key.size : Int) % 2 = 0) ∨ (es1 ≠ [] ∧ ¬ (key.size : Int) % 2 = 0) := by
        by_cases h : es1 = []
        · exact .inl h
        · by_cases h' : (key.size : Int) % 2 = 0
          · exact .inr (.inl ⟨h, h'⟩)
          · exact .inr (.inr ⟨h, h'⟩)
      obtain ⟨n1, hn1⟩ : ∃ n1, es1.length = n1 := ⟨_, rfl⟩
      obtain ⟨n2, hn2⟩ : ∃ n2, es2.length = n2 := ⟨_, rfl⟩
      have hdl1 := hd1.len
      rw [List.length_map] at hdl1
      rw [hn1] at hdl1
      rw [hn1] at hrA zX hoA ⊢
      rw [hn2] at hrB zY ⊢
      have hSB : SubjAt pB cB (es2.map CEl.x) w7 := subj_at hrB hn2 hd2.fit (by have := hd2.len; omega)
      have hl2 : (es2.map CEl.x).length = n2 := by rw [List.length_map, hn2]
      have hy2 : (es2.map CEl.x).length ≤ 100 := by have := hd2.len; omega
      have hSS := hS.below B7
      have x7 : w7.cell? ⟨w6.heap.size, 0, none⟩ = some (.slice pA n1 cA) := by rw [Lib.cell_of_heap zX]; rfl
      have y7 : w7.cell? ⟨w6.heap.size + 1, 0, none⟩ = some (.slice pB n2 cB) := by rw [Lib.cell_of_heap zY]; rfl
      have v7 : w7.cell? ⟨w.heap.size, 0, none⟩ = some (.slice p l.length c) := by rw [Lib.cell_of_heap z7]; rfl
      have hkey2 : (0 : Int) ≤ (key.size : Int) := by omega
      rcases hcase with hc | ⟨hc, hev⟩ | ⟨hc, hodd⟩
      · have hz : ¬ (0 : Int) < (n1 : Int) := by rw [hc] at hn1; simp at hn1; omega
        go_wp2
        have hSA : SubjAt pA cA (es1.map CEl.x) w7 := subj_at hrA hn1 hd1.fit (by have := hd1.len; omega)
        have hl1 : (es1.map CEl.x).length = n1 := by rw [List.length_map, hn1]
        generalize es1.map CEl.x = xs at hSA hl1
        generalize es2.map CEl.x = ys at hSB hl2 hy2
        generalize w7 = w8 at *
        clear hc hz hrA hrB x7 y7 v7
        have hbT := (Below.refl w8.heap.size w8).alloc (Nat.le_refl _) (.cells #[.slice p l.length c, .slice pA n1 cA, .slice pB n2 cB] 24)
        have zT := heap_alloc_new w8 (.cells #[.slice p l.length c, .slice pA n1 cA, .slice pB n2 cB] 24)
        have BT := B7.trans (hbT.mono B7.size)
        have tS := hSS.below hbT
        have tA := hSA.below hbT
        have tB := hSB.below hbT
        have tX := (hbT.block _ (Array.getElem?_eq_some_iff.1 zX).1).trans zX
        have tY := (hbT.block _ (Array.getElem?_eq_some_iff.1 zY).1).trans zY
        have hTl : w8.heap.size < (w8.alloc (.cells #[.slice p l.length c, .slice pA n1 cA, .slice pB n2 cB] 24)).heap.size := by simp
        clear hbT hSS hSA hSB zX zY z7 B7
        generalize w8.alloc (.cells #[.slice p l.length c, .slice pA n1 cA, .slice pB n2 cB] 24) = wT at zT BT tS tA tB tX tY hTl ⊢
        generalize w8.heap.size = T at zT hTl ⊢
        have hel : ∀ k, k < 3 → ∃ (l' : List Ctx) (p' : Option Addr) (c' : Nat), wT.cell? ⟨T, k, none⟩ = some (.slice p' l'.length c') ∧ SubjAt p' c' l' wT := by
          intro k hk
          match k, hk with
          | 0, _ => exact ⟨l, p, c, by rw [Lib.cell_of_heap zT]; rfl, tS⟩
          | 1, _ => exact ⟨xs, pA, cA, by rw [Lib.cell_of_heap zT, hl1]; rfl, tA⟩
          | 2, _ => exact ⟨ys, pB, cB, by rw [Lib.cell_of_heap zT, hl2]; rfl, tB⟩
          | k + 3, h => omega
        replace hel := Lib.hid hel
        have hXl := (Array.getElem?_eq_some_iff.1 tX).1
        have hYl := (Array.getElem?_eq_some_iff.1 tY).1
        go_loopw [61] (fun i wr => ∃ k : Nat, k ≤ 3 ∧ i = .int .i64 k ∧ Below wT.heap.size wT wr) (fun i _ => 3 - (intOf i).toNat)
        case atStart => exact ⟨0, by omega, rfl, Below.refl _ _⟩
        case round =>
          obtain ⟨k, hk3, rfl, hbw⟩ := hrel
          have Bw := BT.trans (hbw.mono BT.size)
          have Ew := E.below Bw
          by_cases hlt : k < 3
          · obtain ⟨l', p', c', hcell, hsub⟩ := hel.out k hlt
            have hlt' : (k : Int) < 3 := by omega
            have hl2' : (0 : Int) ≤ (k : Int) := Int.natCast_nonneg _
            have q0 := (hbw.cell (p := ⟨T, k, none⟩) hTl).trans hcell
            have hbox := (Below.refl wr.heap.size wr).alloc (Nat.le_refl _) (.cells #[.slice p' l'.length c'] 24)
            have hsw := hsub.below hbw
            have hc1 := Lib.hid (fun W (h : Env W) (h2 : SubjAt p' c' l' W) => canonical_any p' c' l' W h h2.row h2.fit h2.len)
            have hc2 := Lib.hid (fun W (h : Env W) (h2 : SubjAt p' c' l' W) => refCanonical_any p' c' l' W h h2.row h2.fit h2.len)
            generalize (canonP l').1 = s1 at hc1 hc2
            generalize (canonP l').2 = r1 at hc1 hc2
            have hq : (s1.toList == s1.toList) = true := bytes_yes rfl
            clear hcell hsub
            go_wp2_with (first
              | (go_at_call 20; refine (hc1.out _ (Ew.below hbox) (hsw.below hbox)).mono ?_; rintro e w9 ⟨rfl, hb9⟩; have z9 := box_heap hb9; have hw9 := box_below (Below.refl wr.heap.size wr) (Nat.le_refl _) hb9; have k0 : w9.cell? ⟨wr.heap.size, 0, none⟩ = some (.slice p' l'.length c') := (by rw [Lib.cell_of_heap z9]; rfl))
              | (go_at_call 21; refine (hc2.out _ (Ew.below hw9) (hsw.below hw9)).mono ?_; rintro e w10 ⟨rfl, hb10⟩; have hw10 := hw9.trans (hb10.mono hw9.size)))
            go_roundw
            case rel => exact ⟨k + 1, by omega, by go_num, hbw.trans (hw10.mono hbw.size)⟩
            case measure => simp [intOf]; omega
          · obtain rfl : k = 3 := by omega
            have hlt' : ¬ ((3 : Nat) : Int) < 3 := by omega
            have e3 : ((3 : Nat) : Int) = 3 := rfl
            rw [e3]
            clear e3 hlt hlt' hk3
            have xr : wr.cell? ⟨w6.heap.size, 0, none⟩ = some (.slice pA n1 cA) := (hbw.cell (p := ⟨w6.heap.size, 0, none⟩) hXl).trans (by rw [Lib.cell_of_heap tX]; rfl)
            have yr : wr.cell? ⟨w6.heap.size + 1, 0, none⟩ = some (.slice pB n2 cB) := (hbw.cell (p := ⟨w6.heap.size + 1, 0, none⟩) hYl).trans (by rw [Lib.cell_of_heap tY]; rfl)
            have hXr := Nat.lt_of_lt_of_le hXl hbw.size
            have hYr := Nat.lt_of_lt_of_le hYl hbw.size
            have rA := tA.below hbw
            have rB := tB.below hbw
            have hc1 := canonical_any pA cA xs wr Ew rA.row rA.fit rA.len
            rw [hl1] at hc1
            have hc2 := fun W (h : Env W) (h2 : SubjAt pB cB ys W) => canonical_any pB cB ys W h h2.row h2.fit h2.len
            rw [hl2] at hc2
            have hnX := fun W (h2 : SubjAt pA cA xs W) => names_any pA cA xs W h2.row (by rw [hl1]; omega)
            have hnY := fun W (h2 : SubjAt pB cB ys W) => names_any pB cB ys W h2.row hy2
            rw [hl1] at hnX
            rw [hl2] at hnY
            replace hc1 := Lib.hid hc1
            replace hc2 := Lib.hid hc2
            replace hnX := Lib.hid hnX
            replace hnY := Lib.hid hnY
            clear hel tS tA tB tX tY zT
            have hXP : (canonP xs).2 = 0 → subjE xs = 0 ∧ (canonP xs).1 = ⟨(canonL xs).toArray⟩ := canonP_ok xs
            have hYP : (canonP ys).2 = 0 → subjE ys = 0 ∧ (canonP ys).1 = ⟨(canonL ys).toArray⟩ := canonP_ok ys
            have hiff : (canonP xs).2 = 0 → (canonP ys).2 = 0 → ((canonP xs).1 = (canonP ys).1 ↔ namesOf xs = namesOf ys) := canonP_iff xs ys
            replace hiff := Lib.hid hiff
            clear hXP hYP
            obtain ⟨sX, hsX⟩ : ∃ sX, (canonP xs).1 = sX := ⟨_, rfl⟩
            obtain ⟨rX, hrX⟩ : ∃ rX, (canonP xs).2 = rX := ⟨_, rfl⟩
            obtain ⟨sY, hsY⟩ : ∃ sY, (canonP ys).1 = sY := ⟨_, rfl⟩
            obtain ⟨rY, hrY⟩ : ∃ rY, (canonP ys).2 = rY := ⟨_, rfl⟩
            rw [hsX, hrX] at hc1
            rw [hsY, hrY] at hc2
            rw [hsX, hrX, hsY, hrY] at hiff
            clear hsX hrX hsY hrY
            by_cases hx0 : rX = 0
            · subst hx0
              by_cases hy0 : rY = 0
              · subst hy0
                have hiff2 := Lib.hid (hiff.out rfl rfl)
                clear hiff
                go_upto_region 20 with (first
                  | (go_at_call 20; with_reducible refine hc1.out.mono ?_; rintro e w9 ⟨rfl, hb9⟩; have y9 := (hb9.cell (p := ⟨w6.heap.size + 1, 0, none⟩) hYr).trans yr)
                  | (go_at_call 20; with_reducible refine (hc2.out w9 (Ew.below hb9) (rB.below hb9)).mono ?_; rintro e w10 ⟨rfl, hb10⟩))
                have hb := hb9.trans (hb10.mono hb9.size)
                have Bq := Bw.trans (hb.mono Bw.size)
                have qA' := rA.below hb
                have qB' := rB.below hb
                have qx := (hb.cell (p := ⟨w6.heap.size, 0, none⟩) hXr).trans xr
                have qy := (hb.cell (p := ⟨w6.heap.size + 1, 0, none⟩) hYr).trans yr
                have hXq := Nat.lt_of_lt_of_le hXr hb.size
                have hYq := Nat.lt_of_lt_of_le hYr hb.size
                have hdr := (Below.refl w10.heap.size w10).drew
                clear hb9 hb10 hb xr yr hXr hYr rA rB hc1 hc2 y9
                go_region_held3 (fun w' => w'.cell? ⟨w6.heap.size, 0, none⟩ = some (.slice pA n1 cA) ∧ w'.cell? ⟨w6.heap.size + 1, 0, none⟩ = some (.slice pB n2 cB))
                  (first | go_keep | (exact ⟨(hbb.cell (p := ⟨w6.heap.size, 0, none⟩) hXq).trans qx, (hbb.cell (p := ⟨w6.heap.size + 1, 0, none⟩) hYq).trans qy⟩) | (exact ⟨(hba.cell (p := ⟨w6.heap.size, 0, none⟩) hXq).trans qx, (hba.cell (p := ⟨w6.heap.size + 1, 0, none⟩) hYq).trans qy⟩))
                  (first
                    | (go_at_call 22; with_reducible refine (hnY.out _ (qB'.below hba)).mono ?_; rintro e wb ⟨vb, rfl, hrb, hbb'⟩; have hbb := hba.trans (hbb'.mono hba.size))
                    | (go_at_call 22; with_reducible refine (hnX.out _ (qA'.below hba)).mono ?_; rintro e wb ⟨vb, rfl, hrb, hbb'⟩; have hbb := hba.trans (hbb'.mono hba.size))
                    | (go_at_call 22; with_reducible refine (hnX.out _ (qA'.below hdr)).mono ?_; rintro e wa ⟨va, rfl, hra, hba'⟩; have hba := hdr.trans (hba'.mono hdr.size))
                    | (go_at_call 22; with_reducible refine (hnY.out _ (qB'.below hdr)).mono ?_; rintro e wa ⟨va, rfl, hra, hba'⟩; have hba := hdr.trans (hba'.mono hdr.size)))
                have hrA := hra.below hbb'
                obtain ⟨gA, kA, rfl, -, -, -, hfA⟩ := hrA.form
                obtain ⟨gB, kB, rfl, -, -, -, hfB⟩ := hrb.form
                have Bn := Bq.trans (hbb.mono Bq.size)
                clear hra hrA hrb hbb hbb' hba hba' hdr qx qy hXq hYq qA' qB' hnX hnY
                have hAl : (namesOf xs).length ≤ 100 := by unfold namesOf; rw [List.length_map]; omega
                generalize namesOf xs = A at hiff2 hfA hAl ⊢
                generalize namesOf ys = D at hiff2 hfB ⊢
                have hAD : ((A.length : Int) == (D.length : Int)) = decide (A.length = D.length ∧ A.take 0 = D.take 0) := by
                  by_cases h : A.length = D.length
                  · simp [h]
                  · have h' : ¬ (A.length : Int) = (D.length : Int) := by omega
                    simp [h, h']
                have hAD' := Lib.hid hAD
                clear hAD
                go_wp2
                rw [hAD'.out]
                go_loopw [23, 24] (fun s i wr => ∃ k : Nat, k ≤ A.length ∧ i = .int .i64 k ∧ s = .bool (decide (A.length = D.length ∧ A.take k = D.take k)) ∧ Below wb.heap.size wb wr) (fun _ i _ => A.length - (intOf i).toNat)
                case atStart => exact ⟨0, Nat.zero_le _, rfl, rfl, Below.refl _ _⟩
                case round =>
                  obtain ⟨k, hk, rfl, rfl, hbz⟩ := hrel
                  have Bz := Bn.trans (hbz.mono Bn.size)
                  by_cases hsm : A.length = D.length ∧ A.take k = D.take k
                  · have hd : decide (A.length = D.length ∧ A.take k = D.take k) = true := decide_eq_true hsm
                    rw [hd]
                    clear hd
                    by_cases hlt : k < A.length
                    · have hltD : k < D.length := by rw [← hsm.1]; exact hlt
                      obtain ⟨g1, rfl, -, hg1, -, hc1⟩ := hfA k hlt
                      obtain ⟨g2, rfl, -, hg2', -, hc2⟩ := hfB k hltD
                      have a0 : wr.cell? ⟨g1, k * 2, none⟩ = some (.string A[k].1) := (hbz.cell (p := ⟨g1, k * 2, none⟩) hg1).trans (hc1 0 (by decide))
                      have a1' : wr.cell? ⟨g1, k * 2 + 1, none⟩ = some (.string A[k].2) := (hbz.cell (p := ⟨g1, k * 2 + 1, none⟩) hg1).trans (hc1 1 (by decide))
                      have b0 : wr.cell? ⟨g2, k * 2, none⟩ = some (.string D[k].1) := (hbz.cell (p := ⟨g2, k * 2, none⟩) hg2').trans (hc2 0 (by decide))
                      have b1 : wr.cell? ⟨g2, k * 2 + 1, none⟩ = some (.string D[k].2) := (hbz.cell (p := ⟨g2, k * 2 + 1, none⟩) hg2').trans (hc2 1 (by decide))
                      have hlt' : (k : Int) < (A.length : Int) := by omega
                      have hltD' : (k : Int) < (D.length : Int) := by omega
                      have h0' : (0 : Int) ≤ (k : Int) := by omega
                      have hnx : decide (A.length = D.length ∧ A.take (k + 1) = D.take (k + 1)) = decide (A[k] = D[k]) := by
                        by_cases h : A[k] = D[k]
                        · rw [decide_eq_true h]
                          exact decide_eq_true ⟨hsm.1, by rw [List.take_succ_eq_append_getElem hlt, List.take_succ_eq_append_getElem hltD, hsm.2, h]⟩
                        · rw [decide_eq_false h]
                          refine decide_eq_false fun h2 => h ?_
                          have h3 := h2.2
                          rw [List.take_succ_eq_append_getElem hlt, List.take_succ_eq_append_getElem hltD, hsm.2] at h3
                          have h4 := List.append_cancel_left h3
                          simpa using h4
                      replace hnx := Lib.hid hnx
                      replace hsm := Lib.hid hsm
                      clear hc1 hc2
                      obtain ⟨x, hx⟩ : ∃ x, A[k] = x := ⟨_, rfl⟩
                      obtain ⟨y, hy⟩ : ∃ y, D[k] = y := ⟨_, rfl⟩
                      have hnx2 := hnx.out
                      rw [hx, hy] at hnx2
                      rw [hx] at a0 a1'
                      rw [hy] at b0 b1
                      replace hnx2 := Lib.hid hnx2
                      replace hx := Lib.hid hx
                      replace hy := Lib.hid hy
                      clear hnx
                      have heq := fun W => run_eql_pair x.1 x.2 y.1 y.2 W
                      have hpr : decide ((x.1, x.2) = (y.1, y.2)) = decide (x = y) := rfl
                      rw [hpr] at heq
                      clear hpr
                      go_upto_region 25 with (fail)
                      go_region_held3 (fun w' => w'.cell? ⟨g1, k * 2, none⟩ = some (.string x.1) ∧ w'.cell? ⟨g1, k * 2 + 1, none⟩ = some (.string x.2) ∧ w'.cell? ⟨g2, k * 2, none⟩ = some (.string y.1) ∧ w'.cell? ⟨g2, k * 2 + 1, none⟩ = some (.string y.2)) (go_keep) (fail)
                      all_goals
                        rw [← hnx2.out]
                        clear heq
                        go_wp2
                        go_roundw
                        case rel => exact ⟨k + 1, by omega, by go_num, rfl, hbz.drew⟩
                        case measure => simp [intOf]; omega
                    · obtain rfl : k = A.length := by omega
                      have hAD2 : A = D := by
                        have h := hsm.2
                        rw [List.take_of_length_le (Nat.le_refl _), hsm.1, List.take_of_length_le (Nat.le_refl _)] at h
                        exact h
                      have hpq : sX = sY := hiff2.out.2 hAD2
                      have hq : (sX.toList == sY.toList) = true := bytes_yes hpq
                      have hlt' : ¬ (A.length : Int) < (A.length : Int) := by omega
                      replace hpq := Lib.hid hpq
                      replace hAD2 := Lib.hid hAD2
                      replace hsm := Lib.hid hsm
                      go_wp2
                      go_ret
                      exact ⟨rfl, Bz⟩
                  · have hd : decide (A.length = D.length ∧ A.take k = D.take k) = false := decide_eq_false hsm
                    rw [hd]
                    clear hd
                    have hne : ¬ sX = sY := fun e => hsm (by rw [hiff2.out.1 e]; exact ⟨rfl, rfl⟩)
                    have hq : (sX.toList == sY.toList) = false := bytes_no hne
                    replace hne := Lib.hid hne
                    replace hsm := Lib.hid hsm
                    go_wp2
                    go_ret
                    exact ⟨rfl, Bz⟩
              · have hne : (rY != 0) = true := by simpa using hy0
                replace hy0 := Lib.hid hy0
                go_wp2_with (first
                  | (go_at_call 20; with_reducible refine hc1.out.mono ?_; rintro e w9 ⟨rfl, hb9⟩; have y9 := (hb9.cell (p := ⟨w6.heap.size + 1, 0, none⟩) hYr).trans yr)
                  | (go_at_call 20; with_reducible refine (hc2.out w9 (Ew.below hb9) (rB.below hb9)).mono ?_; rintro e w10 ⟨rfl, hb10⟩))
                go_ret
                exact ⟨rfl, (Bw.trans (hb9.mono Bw.size)).trans (hb10.mono (Bw.trans (hb9.mono Bw.size)).size)⟩
            · have hne : (rX != 0) = true := by simpa using hx0
              replace hx0 := Lib.hid hx0
              go_wp2_with (first
                | (go_at_call 20; with_reducible refine hc1.out.mono ?_; rintro e w9 ⟨rfl, hb9⟩; have y9 := (hb9.cell (p := ⟨w6.heap.size + 1, 0, none⟩) hYr).trans yr)
                | (go_at_call 20; with_reducible refine (hc2.out w9 (Ew.below hb9) (rB.below hb9)).mono ?_; rintro e w10 ⟨rfl, hb10⟩))
              go_ret
              exact ⟨rfl, (Bw.trans (hb9.mono Bw.size)).trans (hb10.mono (Bw.trans (hb9.mono Bw.size)).size)⟩
      · have hz : (0 : Int) < (n1 : Int) := by have := List.length_pos_iff.2 hc; omega
        have hi0 : 0 < es1.length := List.length_pos_iff.2 hc
        obtain ⟨qA, qC, hvA, -, -, -, hfA⟩ := hrA.form
        obtain ⟨g, eA, gB, gL, gO, gc⟩ := hfA 0 hi0
        injection hvA with hv1 hv2 hv3
        rw [← hv1] at eA
        subst eA
        have hgl := hoA g rfl
        have c1' := gc 1 (by decide)
        have c1'' : w7.cell? ⟨g, 1, none⟩ = some (.string es1[0].x.key) := c1'
        have gfree := grow_free hrA
        have hok0 : AttrsP (fun b => w3.heap.size ≤ b ∧ (Value.slice (some ⟨g, 0, none⟩) n1 cA).ownBlock ≠ some b) es1[0].p es1[0].c es1[0].x.attrs w7 := hrA.ok _ (List.getElem_mem hi0)
        have hput := hrA.put 0 hi0 1 (by decide) (.string key) ⟨⟨es1[0].x.kind, key, es1[0].x.attrs⟩, es1[0].p, es1[0].c⟩ rfl (AttrsP.mono hok0 fun b _ hb => ⟨hb.1, fun e => hb.2 (by rw [← e]; rfl)⟩)
        have hr8 : GRow eltC (fun b => w3.heap.size ≤ b) (es1.set 0 ⟨⟨es1[0].x.kind, key, es1[0].x.attrs⟩, es1[0].p, es1[0].c⟩) w3.heap.size (.slice (some ⟨g, 0, none⟩) n1 cA) (w7.setCell ⟨g, 1, none⟩ (.string key)) := hput
        have hev2 : ((key.size : Int) % 2 == 0) = true := by simpa using hev
        have hix := Lib.hid (fun W => run_ix0 g n1 cA W (by omega))
        clear gc hfA gO c1' hv2 hv3 hv1
        replace hput := Lib.hid hput
        replace hr8 := Lib.hid hr8
        replace hok0 := Lib.hid hok0
        replace hoA := Lib.hid hoA
        go_upto_region 7 with (fail)
        have hix2 := hix.out w7
        have x8 : (w7.setCell ⟨g, 1, none⟩ (.string key)).cell? ⟨w6.heap.size, 0, none⟩ = some (.slice (some ⟨g, 0, none⟩) n1 cA) := (World.cell?_setCell_other _ _ _ _ (fun e => by injection e with e1 _; omega)).trans x7
        have y8 : (w7.setCell ⟨g, 1, none⟩ (.string key)).cell? ⟨w6.heap.size + 1, 0, none⟩ = some (.slice pB n2 cB) := (World.cell?_setCell_other _ _ _ _ (fun e => by injection e with e1 _; omega)).trans y7
        have v8 : (w7.setCell ⟨g, 1, none⟩ (.string key)).cell? ⟨w.heap.size, 0, none⟩ = some (.slice p l.length c) := (World.cell?_setCell_other _ _ _ _ (fun e => by injection e with e1 _; omega)).trans v7
        go_wp2
        have hfit8 : ∀ x ∈ (es1.set 0 ⟨⟨es1[0].x.kind, key, es1[0].x.attrs⟩, es1[0].p, es1[0].c⟩).map CEl.x, FitC x := by
          intro x hx
          obtain ⟨e, he, rfl⟩ := List.mem_map.1 hx
          rcases List.mem_or_eq_of_mem_set he with h3 | rfl
          · exact hd1.fit _ (List.mem_map_of_mem h3)
          · have h4 := hd1.fit es1[0].x (List.mem_map_of_mem (List.getElem_mem hi0))
            exact ⟨h4.kind, hk, h4.attrs, h4.each⟩
        have hl1 : ((es1.set 0 ⟨⟨es1[0].x.kind, key, es1[0].x.attrs⟩, es1[0].p, es1[0].c⟩).map CEl.x).length = n1 := by rw [List.length_map, List.length_set, hn1]
        have hSA := subj_at hr8.out (by rw [List.length_set, hn1]) hfit8 (by omega)
        have hSB8 : SubjAt pB cB (es2.map CEl.x) (w7.setCell ⟨g, 1, none⟩ (.string key)) := subj_at (hrB.set (X := g) (by omega) (fun b hb => by omega) 1 (.string key)) hn2 hd2.fit (by omega)
        have B8 : Below w.heap.size w (w7.setCell ⟨g, 1, none⟩ (.string key)) := B7.setCell (p := ⟨g, 1, none⟩) (by show w.heap.size ≤ g; omega) _
        have hSS8 := hS.below B8
        have zX8 : (w7.setCell ⟨g, 1, none⟩ (.string key)).heap[w6.heap.size]? = some (.cells #[.slice (some ⟨g, 0, none⟩) n1 cA] 24 (0, 0)) := by rw [Below.heap_setCell _ _ _ _ (by show w6.heap.size ≠ g; omega)]; exact zX
        have zY8 : (w7.setCell ⟨g, 1, none⟩ (.string key)).heap[w6.heap.size + 1]? = some (.cells #[.slice pB n2 cB] 24 (0, 0)) := by rw [Below.heap_setCell _ _ _ _ (by show w6.heap.size + 1 ≠ g; omega)]; exact zY
        have z78 : (w7.setCell ⟨g, 1, none⟩ (.string key)).heap[w.heap.size]? = some (.cells #[.slice p l.length c] 24 (0, 0)) := by rw [Below.heap_setCell _ _ _ _ (by show w.heap.size ≠ g; omega)]; exact z7
        clear x8 y8 v8 y7 v7 hix2 hix hok0 hrA hrB hSB hSS zX zY z7 B7 x7 c1'' gfree hput hr8 hfit8 gL gB hgl
        have hs8 : (w7.setCell ⟨g, 1, none⟩ (.string key)).heap.size = w7.heap.size := by simp
        generalize w7.setCell ⟨g, 1, none⟩ (.string key) = w8 at hSA hSB8 hSS8 zX8 zY8 z78 B8 hs8 ⊢
        rw [← hs8]
        clear hs8
        generalize (es1.set 0 ⟨⟨es1[0].x.kind, key, es1[0].x.attrs⟩, es1[0].p, es1[0].c⟩).map CEl.x = xs at hSA hl1
        generalize es2.map CEl.x = ys at hSB8 hl2 hy2
        generalize (some ⟨g, 0, none⟩ : Option Addr) = pA at hSA zX8 ⊢
        have hSB := hSB8
        have hSS := hSS8
        have zX := zX8
        have zY := zY8
        have z7 := z78
        have B7 := B8
        clear hSB8 hSS8 zX8 zY8 z78 B8 hc hz hev hev2 hi0
        have hbT := (Below.refl w8.heap.size w8).alloc (Nat.le_refl _) (.cells #[.slice p l.length c, .slice pA n1 cA, .slice pB n2 cB] 24)
        have zT := heap_alloc_new w8 (.cells #[.slice p l.length c, .slice pA n1 cA, .slice pB n2 cB] 24)
        have BT := B7.trans (hbT.mono B7.size)
        have tS := hSS.below hbT
        have tA := hSA.below hbT
        have tB := hSB.below hbT
        have tX := (hbT.block _ (Array.getElem?_eq_some_iff.1 zX).1).trans zX
        have tY := (hbT.block _ (Array.getElem?_eq_some_iff.1 zY).1).trans zY
        have hTl : w8.heap.size < (w8.alloc (.cells #[.slice p l.length c, .slice pA n1 cA, .slice pB n2 cB] 24)).heap.size := by simp
        clear hbT hSS hSA hSB zX zY z7 B7
        generalize w8.alloc (.cells #[.slice p l.length c, .slice pA n1 cA, .slice pB n2 cB] 24) = wT at zT BT tS tA tB tX tY hTl ⊢
        generalize w8.heap.size = T at zT hTl ⊢
        have hel : ∀ k, k < 3 → ∃ (l' : List Ctx) (p' : Option Addr) (c' : Nat), wT.cell? ⟨T, k, none⟩ = some (.slice p' l'.length c') ∧ SubjAt p' c' l' wT := by
          intro k hk
          match k, hk with
          | 0, _ => exact ⟨l, p, c, by rw [Lib.cell_of_heap zT]; rfl, tS⟩
          | 1, _ => exact ⟨xs, pA, cA, by rw [Lib.cell_of_heap zT, hl1]; rfl, tA⟩
          | 2, _ => exact ⟨ys, pB, cB, by rw [Lib.cell_of_heap zT, hl2]; rfl, tB⟩
          | k + 3, h => omega
        replace hel := Lib.hid hel
        have hXl := (Array.getElem?_eq_some_iff.1 tX).1
        have hYl := (Array.getElem?_eq_some_iff.1 tY).1
        go_loopw [61] (fun i wr => ∃ k : Nat, k ≤ 3 ∧ i = .int .i64 k ∧ Below wT.heap.size wT wr) (fun i _ => 3 - (intOf i).toNat)
        case atStart => exact ⟨0, by omega, rfl, Below.refl _ _⟩
        case round =>
          obtain ⟨k, hk3, rfl, hbw⟩ := hrel
          have Bw := BT.trans (hbw.mono BT.size)
          have Ew := E.below Bw
          by_cases hlt : k < 3
          · obtain ⟨l', p', c', hcell, hsub⟩ := hel.out k hlt
            have hlt' : (k : Int) < 3 := by omega
            have hl2' : (0 : Int) ≤ (k : Int) := Int.natCast_nonneg _
            have q0 := (hbw.cell (p := ⟨T, k, none⟩) hTl).trans hcell
            have hbox := (Below.refl wr.heap.size wr).alloc (Nat.le_refl _) (.cells #[.slice p' l'.length c'] 24)
            have hsw := hsub.below hbw
            have hc1 := Lib.hid (fun W (h : Env W) (h2 : SubjAt p' c' l' W) => canonical_any p' c' l' W h h2.row h2.fit h2.len)
            have hc2 := Lib.hid (fun W (h : Env W) (h2 : SubjAt p' c' l' W) => refCanonical_any p' c' l' W h h2.row h2.fit h2.len)
            generalize (canonP l').1 = s1 at hc1 hc2
            generalize (canonP l').2 = r1 at hc1 hc2
            have hq : (s1.toList == s1.toList) = true := bytes_yes rfl
            clear hcell hsub
            go_wp2_with (first
              | (go_at_call 20; refine (hc1.out _ (Ew.below hbox) (hsw.below hbox)).mono ?_; rintro e w9 ⟨rfl, hb9⟩; have z9 := box_heap hb9; have hw9 := box_below (Below.refl wr.heap.size wr) (Nat.le_refl _) hb9; have k0 : w9.cell? ⟨wr.heap.size, 0, none⟩ = some (.slice p' l'.length c') := (by rw [Lib.cell_of_heap z9]; rfl))
              | (go_at_call 21; refine (hc2.out _ (Ew.below hw9) (hsw.below hw9)).mono ?_; rintro e w10 ⟨rfl, hb10⟩; have hw10 := hw9.trans (hb10.mono hw9.size)))
            go_roundw
            case rel => exact ⟨k + 1, by omega, by go_num, hbw.trans (hw10.mono hbw.size)⟩
            case measure => simp [intOf]; omega
          · obtain rfl : k = 3 := by omega
            have hlt' : ¬ ((3 : Nat) : Int) < 3 := by omega
            have e3 : ((3 : Nat) : Int) = 3 := rfl
            rw [e3]
            clear e3 hlt hlt' hk3
            have xr : wr.cell? ⟨w6.heap.size, 0, none⟩ = some (.slice pA n1 cA) := (hbw.cell (p := ⟨w6.heap.size, 0, none⟩) hXl).trans (by rw [Lib.cell_of_heap tX]; rfl)
            have yr : wr.cell? ⟨w6.heap.size + 1, 0, none⟩ = some (.slice pB n2 cB) := (hbw.cell (p := ⟨w6.heap.size + 1, 0, none⟩) hYl).trans (by rw [Lib.cell_of_heap tY]; rfl)
            have hXr := Nat.lt_of_lt_of_le hXl hbw.size
            have hYr := Nat.lt_of_lt_of_le hYl hbw.size
            have rA := tA.below hbw
            have rB := tB.below hbw
            have hc1 := canonical_any pA cA xs wr Ew rA.row rA.fit rA.len
            rw [hl1] at hc1
            have hc2 := fun W (h : Env W) (h2 : SubjAt pB cB ys W) => canonical_any pB cB ys W h h2.row h2.fit h2.len
            rw [hl2] at hc2
            have hnX := fun W (h2 : SubjAt pA cA xs W) => names_any pA cA xs W h2.row (by rw [hl1]; omega)
            have hnY := fun W (h2 : SubjAt pB cB ys W) => names_any pB cB ys W h2.row hy2
            rw [hl1] at hnX
            rw [hl2] at hnY
            replace hc1 := Lib.hid hc1
            replace hc2 := Lib.hid hc2
            replace hnX := Lib.hid hnX
            replace hnY := Lib.hid hnY
            clear hel tS tA tB tX tY zT
            have hXP : (canonP xs).2 = 0 → subjE xs = 0 ∧ (canonP xs).1 = ⟨(canonL xs).toArray⟩ := canonP_ok xs
            have hYP : (canonP ys).2 = 0 → subjE ys = 0 ∧ (canonP ys).1 = ⟨(canonL ys).toArray⟩ := canonP_ok ys
            have hiff : (canonP xs).2 = 0 → (canonP ys).2 = 0 → ((canonP xs).1 = (canonP ys).1 ↔ namesOf xs = namesOf ys) := canonP_iff xs ys
            replace hiff := Lib.hid hiff
            clear hXP hYP
            obtain ⟨sX, hsX⟩ : ∃ sX, (canonP xs).1 = sX := ⟨_, rfl⟩
            obtain ⟨rX, hrX⟩ : ∃ rX, (canonP xs).2 = rX := ⟨_, rfl⟩
            obtain ⟨sY, hsY⟩ : ∃ sY, (canonP ys).1 = sY := ⟨_, rfl⟩
            obtain ⟨rY, hrY⟩ : ∃ rY, (canonP ys).2 = rY := ⟨_, rfl⟩
            rw [hsX, hrX] at hc1
            rw [hsY, hrY] at hc2
            rw [hsX, hrX, hsY, hrY] at hiff
            clear hsX hrX hsY hrY
            by_cases hx0 : rX = 0
            · subst hx0
              by_cases hy0 : rY = 0
              · subst hy0
                have hiff2 := Lib.hid (hiff.out rfl rfl)
                clear hiff
                go_upto_region 20 with (first
                  | (go_at_call 20; with_reducible refine hc1.out.mono ?_; rintro e w9 ⟨rfl, hb9⟩; have y9 := (hb9.cell (p := ⟨w6.heap.size + 1, 0, none⟩) hYr).trans yr)
                  | (go_at_call 20; with_reducible refine (hc2.out w9 (Ew.below hb9) (rB.below hb9)).mono ?_; rintro e w10 ⟨rfl, hb10⟩))
                have hb := hb9.trans (hb10.mono hb9.size)
                have Bq := Bw.trans (hb.mono Bw.size)
                have qA' := rA.below hb
                have qB' := rB.below hb
                have qx := (hb.cell (p := ⟨w6.heap.size, 0, none⟩) hXr).trans xr
                have qy := (hb.cell (p := ⟨w6.heap.size + 1, 0, none⟩) hYr).trans yr
                have hXq := Nat.lt_of_lt_of_le hXr hb.size
                have hYq := Nat.lt_of_lt_of_le hYr hb.size
                have hdr := (Below.refl w10.heap.size w10).drew
                clear hb9 hb10 hb xr yr hXr hYr rA rB hc1 hc2 y9
                go_region_held3 (fun w' => w'.cell? ⟨w6.heap.size, 0, none⟩ = some (.slice pA n1 cA) ∧ w'.cell? ⟨w6.heap.size + 1, 0, none⟩ = some (.slice pB n2 cB))
                  (first | go_keep | (exact ⟨(hbb.cell (p := ⟨w6.heap.size, 0, none⟩) hXq).trans qx, (hbb.cell (p := ⟨w6.heap.size + 1, 0, none⟩) hYq).trans qy⟩) | (exact ⟨(hba.cell (p := ⟨w6.heap.size, 0, none⟩) hXq).trans qx, (hba.cell (p := ⟨w6.heap.size + 1, 0, none⟩) hYq).trans qy⟩))
                  (first
                    | (go_at_call 22; with_reducible refine (hnY.out _ (qB'.below hba)).mono ?_; rintro e wb ⟨vb, rfl, hrb, hbb'⟩; have hbb := hba.trans (hbb'.mono hba.size))
                    | (go_at_call 22; with_reducible refine (hnX.out _ (qA'.below hba)).mono ?_; rintro e wb ⟨vb, rfl, hrb, hbb'⟩; have hbb := hba.trans (hbb'.mono hba.size))
                    | (go_at_call 22; with_reducible refine (hnX.out _ (qA'.below hdr)).mono ?_; rintro e wa ⟨va, rfl, hra, hba'⟩; have hba := hdr.trans (hba'.mono hdr.size))
                    | (go_at_call 22; with_reducible refine (hnY.out _ (qB'.below hdr)).mono ?_; rintro e wa ⟨va, rfl, hra, hba'⟩; have hba := hdr.trans (hba'.mono hdr.size)))
                have hrA := hra.below hbb'
                obtain ⟨gA, kA, rfl, -, -, -, hfA⟩ := hrA.form
                obtain ⟨gB, kB, rfl, -, -, -, hfB⟩ := hrb.form
                have Bn := Bq.trans (hbb.mono Bq.size)
                clear hra hrA hrb hbb hbb' hba hba' hdr qx qy hXq hYq qA' qB' hnX hnY
                have hAl : (namesOf xs).length ≤ 100 := by unfold namesOf; rw [List.length_map]; omega
                generalize namesOf xs = A at hiff2 hfA hAl ⊢
                generalize namesOf ys = D at hiff2 hfB ⊢
                have hAD : ((A.length : Int) == (D.length : Int)) = decide (A.length = D.length ∧ A.take 0 = D.take 0) := by
                  by_cases h : A.length = D.length
                  · simp [h]
                  · have h' : ¬ (A.length : Int) = (D.length : Int) := by omega
                    simp [h, h']
                have hAD' := Lib.hid hAD
                clear hAD
                go_wp2
                rw [hAD'.out]
                go_loopw [23, 24] (fun s i wr => ∃ k : Nat, k ≤ A.length ∧ i = .int .i64 k ∧ s = .bool (decide (A.length = D.length ∧ A.take k = D.take k)) ∧ Below wb.heap.size wb wr) (fun _ i _ => A.length - (intOf i).toNat)
                case atStart => exact ⟨0, Nat.zero_le _, rfl, rfl, Below.refl _ _⟩
                case round =>
                  obtain ⟨k, hk, rfl, rfl, hbz⟩ := hrel
                  have Bz := Bn.trans (hbz.mono Bn.size)
                  by_cases hsm : A.length = D.length ∧ A.take k = D.take k
                  · have hd : decide (A.length = D.length ∧ A.take k = D.take k) = true := decide_eq_true hsm
                    rw [hd]
                    clear hd
                    by_cases hlt : k < A.length
                    · have hltD : k < D.length := by rw [← hsm.1]; exact hlt
                      obtain ⟨g1, rfl, -, hg1, -, hc1⟩ := hfA k hlt
                      obtain ⟨g2, rfl, -, hg2', -, hc2⟩ := hfB k hltD
                      have a0 : wr.cell? ⟨g1, k * 2, none⟩ = some (.string A[k].1) := (hbz.cell (p := ⟨g1, k * 2, none⟩) hg1).trans (hc1 0 (by decide))
                      have a1' : wr.cell? ⟨g1, k * 2 + 1, none⟩ = some (.string A[k].2) := (hbz.cell (p := ⟨g1, k * 2 + 1, none⟩) hg1).trans (hc1 1 (by decide))
                      have b0 : wr.cell? ⟨g2, k * 2, none⟩ = some (.string D[k].1) := (hbz.cell (p := ⟨g2, k * 2, none⟩) hg2').trans (hc2 0 (by decide))
                      have b1 : wr.cell? ⟨g2, k * 2 + 1, none⟩ = some (.string D[k].2) := (hbz.cell (p := ⟨g2, k * 2 + 1, none⟩) hg2').trans (hc2 1 (by decide))
                      have hlt' : (k : Int) < (A.length : Int) := by omega
                      have hltD' : (k : Int) < (D.length : Int) := by omega
                      have h0' : (0 : Int) ≤ (k : Int) := by omega
                      have hnx : decide (A.length = D.length ∧ A.take (k + 1) = D.take (k + 1)) = decide (A[k] = D[k]) := by
                        by_cases h : A[k] = D[k]
                        · rw [decide_eq_true h]
                          exact decide_eq_true ⟨hsm.1, by rw [List.take_succ_eq_append_getElem hlt, List.take_succ_eq_append_getElem hltD, hsm.2, h]⟩
                        · rw [decide_eq_false h]
                          refine decide_eq_false fun h2 => h ?_
                          have h3 := h2.2
                          rw [List.take_succ_eq_append_getElem hlt, List.take_succ_eq_append_getElem hltD, hsm.2] at h3
                          have h4 := List.append_cancel_left h3
                          simpa using h4
                      replace hnx := Lib.hid hnx
                      replace hsm := Lib.hid hsm
                      clear hc1 hc2
                      obtain ⟨x, hx⟩ : ∃ x, A[k] = x := ⟨_, rfl⟩
                      obtain ⟨y, hy⟩ : ∃ y, D[k] = y := ⟨_, rfl⟩
                      have hnx2 := hnx.out
                      rw [hx, hy] at hnx2
                      rw [hx] at a0 a1'
                      rw [hy] at b0 b1
                      replace hnx2 := Lib.hid hnx2
                      replace hx := Lib.hid hx
                      replace hy := Lib.hid hy
                      clear hnx
                      have heq := fun W => run_eql_pair x.1 x.2 y.1 y.2 W
                      have hpr : decide ((x.1, x.2) = (y.1, y.2)) = decide (x = y) := rfl
                      rw [hpr] at heq
                      clear hpr
                      go_upto_region 25 with (fail)
                      go_region_held3 (fun w' => w'.cell? ⟨g1, k * 2, none⟩ = some (.string x.1) ∧ w'.cell? ⟨g1, k * 2 + 1, none⟩ = some (.string x.2) ∧ w'.cell? ⟨g2, k * 2, none⟩ = some (.string y.1) ∧ w'.cell? ⟨g2, k * 2 + 1, none⟩ = some (.string y.2)) (go_keep) (fail)
                      all_goals
                        rw [← hnx2.out]
                        clear heq
                        go_wp2
                        go_roundw
                        case rel => exact ⟨k + 1, by omega, by go_num, rfl, hbz.drew⟩
                        case measure => simp [intOf]; omega
                    · obtain rfl : k = A.length := by omega
                      have hAD2 : A = D := by
                        have h := hsm.2
                        rw [List.take_of_length_le (Nat.le_refl _), hsm.1, List.take_of_length_le (Nat.le_refl _)] at h
                        exact h
                      have hpq : sX = sY := hiff2.out.2 hAD2
                      have hq : (sX.toList == sY.toList) = true := bytes_yes hpq
                      have hlt' : ¬ (A.length : Int) < (A.length : Int) := by omega
                      replace hpq := Lib.hid hpq
                      replace hAD2 := Lib.hid hAD2
                      replace hsm := Lib.hid hsm
                      go_wp2
                      go_ret
                      exact ⟨rfl, Bz⟩
                  · have hd : decide (A.length = D.length ∧ A.take k = D.take k) = false := decide_eq_false hsm
                    rw [hd]
                    clear hd
                    have hne : ¬ sX = sY := fun e => hsm (by rw [hiff2.out.1 e]; exact ⟨rfl, rfl⟩)
                    have hq : (sX.toList == sY.toList) = false := bytes_no hne
                    replace hne := Lib.hid hne
                    replace hsm := Lib.hid hsm
                    go_wp2
                    go_ret
                    exact ⟨rfl, Bz⟩
              · have hne : (rY != 0) = true := by simpa using hy0
                replace hy0 := Lib.hid hy0
                go_wp2_with (first
                  | (go_at_call 20; with_reducible refine hc1.out.mono ?_; rintro e w9 ⟨rfl, hb9⟩; have y9 := (hb9.cell (p := ⟨w6.heap.size + 1, 0, none⟩) hYr).trans yr)
                  | (go_at_call 20; with_reducible refine (hc2.out w9 (Ew.below hb9) (rB.below hb9)).mono ?_; rintro e w10 ⟨rfl, hb10⟩))
                go_ret
                exact ⟨rfl, (Bw.trans (hb9.mono Bw.size)).trans (hb10.mono (Bw.trans (hb9.mono Bw.size)).size)⟩
            · have hne : (rX != 0) = true := by simpa using hx0
              replace hx0 := Lib.hid hx0
              go_wp2_with (first
                | (go_at_call 20; with_reducible refine hc1.out.mono ?_; rintro e w9 ⟨rfl, hb9⟩; have y9 := (hb9.cell (p := ⟨w6.heap.size + 1, 0, none⟩) hYr).trans yr)
                | (go_at_call 20; with_reducible refine (hc2.out w9 (Ew.below hb9) (rB.below hb9)).mono ?_; rintro e w10 ⟨rfl, hb10⟩))
              go_ret
              exact ⟨rfl, (Bw.trans (hb9.mono Bw.size)).trans (hb10.mono (Bw.trans (hb9.mono Bw.size)).size)⟩
      · have hz : (0 : Int) < (n1 : Int) := by have := List.length_pos_iff.2 hc; omega
        have hev2 : ((key.size : Int) % 2 == 0) = false := by rw [beq_eq_false_iff_ne]; exact hodd
        go_wp2
        have hSA : SubjAt pA cA (es1.map CEl.x) w7 := subj_at hrA hn1 hd1.fit (by have := hd1.len; omega)
        have hl1 : (es1.map CEl.x).length = n1 := by rw [List.length_map, hn1]
        generalize es1.map CEl.x = xs at hSA hl1
        generalize es2.map CEl.x = ys at hSB hl2 hy2
        generalize w7 = w8 at *
        clear hc hz hodd hev2 hrA hrB x7 y7 v7
        have hbT := (Below.refl w8.heap.size w8).alloc (Nat.le_refl _) (.cells #[.slice p l.length c, .slice pA n1 cA, .slice pB n2 cB] 24)
        have zT := heap_alloc_new w8 (.cells #[.slice p l.length c, .slice pA n1 cA, .slice pB n2 cB] 24)
        have BT := B7.trans (hbT.mono B7.size)
        have tS := hSS.below hbT
        have tA := hSA.below hbT
        have tB := hSB.below hbT
        have tX := (hbT.block _ (Array.getElem?_eq_some_iff.1 zX).1).trans zX
        have tY := (hbT.block _ (Array.getElem?_eq_some_iff.1 zY).1).trans zY
        have hTl : w8.heap.size < (w8.alloc (.cells #[.slice p l.length c, .slice pA n1 cA, .slice pB n2 cB] 24)).heap.size := by simp
        clear hbT hSS hSA hSB zX zY z7 B7
        generalize w8.alloc (.cells #[.slice p l.length c, .slice pA n1 cA, .slice pB n2 cB] 24) = wT at zT BT tS tA tB tX tY hTl ⊢
        generalize w8.heap.size = T at zT hTl ⊢
        have hel : ∀ k, k < 3 → ∃ (l' : List Ctx) (p' : Option Addr) (c' : Nat), wT.cell? ⟨T, k, none⟩ = some (.slice p' l'.length c') ∧ SubjAt p' c' l' wT := by
          intro k hk
          match k, hk with
          | 0, _ => exact ⟨l, p, c, by rw [Lib.cell_of_heap zT]; rfl, tS⟩
          | 1, _ => exact ⟨xs, pA, cA, by rw [Lib.cell_of_heap zT, hl1]; rfl, tA⟩
          | 2, _ => exact ⟨ys, pB, cB, by rw [Lib.cell_of_heap zT, hl2]; rfl, tB⟩
          | k + 3, h => omega
        replace hel := Lib.hid hel
        have hXl := (Array.getElem?_eq_some_iff.1 tX).1
        have hYl := (Array.getElem?_eq_some_iff.1 tY).1
        go_loopw [61] (fun i wr => ∃ k : Nat, k ≤ 3 ∧ i = .int .i64 k ∧ Below wT.heap.size wT wr) (fun i _ => 3 - (intOf i).toNat)
        case atStart => exact ⟨0, by omega, rfl, Below.refl _ _⟩
        case round =>
          obtain ⟨k, hk3, rfl, hbw⟩ := hrel
          have Bw := BT.trans (hbw.mono BT.size)
          have Ew := E.below Bw
          by_cases hlt : k < 3
          · obtain ⟨l', p', c', hcell, hsub⟩ := hel.out k hlt
            have hlt' : (k : Int) < 3 := by omega
            have hl2' : (0 : Int) ≤ (k : Int) := Int.natCast_nonneg _
            have q0 := (hbw.cell (p := ⟨T, k, none⟩) hTl).trans hcell
            have hbox := (Below.refl wr.heap.size wr).alloc (Nat.le_refl _) (.cells #[.slice p' l'.length c'] 24)
            have hsw := hsub.below hbw
            have hc1 := Lib.hid (fun W (h : Env W) (h2 : SubjAt p' c' l' W) => canonical_any p' c' l' W h h2.row h2.fit h2.len)
            have hc2 := Lib.hid (fun W (h : Env W) (h2 : SubjAt p' c' l' W) => refCanonical_any p' c' l' W h h2.row h2.fit h2.len)
            generalize (canonP l').1 = s1 at hc1 hc2
            generalize (canonP l').2 = r1 at hc1 hc2
            have hq : (s1.toList == s1.toList) = true := bytes_yes rfl
            clear hcell hsub
            go_wp2_with (first
              | (go_at_call 20; refine (hc1.out _ (Ew.below hbox) (hsw.below hbox)).mono ?_; rintro e w9 ⟨rfl, hb9⟩; have z9 := box_heap hb9; have hw9 := box_below (Below.refl wr.heap.size wr) (Nat.le_refl _) hb9; have k0 : w9.cell? ⟨wr.heap.size, 0, none⟩ = some (.slice p' l'.length c') := (by rw [Lib.cell_of_heap z9]; rfl))
              | (go_at_call 21; refine (hc2.out _ (Ew.below hw9) (hsw.below hw9)).mono ?_; rintro e w10 ⟨rfl, hb10⟩; have hw10 := hw9.trans (hb10.mono hw9.size)))
            go_roundw
            case rel => exact ⟨k + 1, by omega, by go_num, hbw.trans (hw10.mono hbw.size)⟩
            case measure => simp [intOf]; omega
          · obtain rfl : k = 3 := by omega
            have hlt' : ¬ ((3 : Nat) : Int) < 3 := by omega
            have e3 : ((3 : Nat) : Int) = 3 := rfl
            rw [e3]
            clear e3 hlt hlt' hk3
            have xr : wr.cell? ⟨w6.heap.size, 0, none⟩ = some (.slice pA n1 cA) := (hbw.cell (p := ⟨w6.heap.size, 0, none⟩) hXl).trans (by rw [Lib.cell_of_heap tX]; rfl)
            have yr : wr.cell? ⟨w6.heap.size + 1, 0, none⟩ = some (.slice pB n2 cB) := (hbw.cell (p := ⟨w6.heap.size + 1, 0, none⟩) hYl).trans (by rw [Lib.cell_of_heap tY]; rfl)
            have hXr := Nat.lt_of_lt_of_le hXl hbw.size
            have hYr := Nat.lt_of_lt_of_le hYl hbw.size
            have rA := tA.below hbw
            have rB := tB.below hbw
            have hc1 := canonical_any pA cA xs wr Ew rA.row rA.fit rA.len
            rw [hl1] at hc1
            have hc2 := fun W (h : Env W) (h2 : SubjAt pB cB ys W) => canonical_any pB cB ys W h h2.row h2.fit h2.len
            rw [hl2] at hc2
            have hnX := fun W (h2 : SubjAt pA cA xs W) => names_any pA cA xs W h2.row (by rw [hl1]; omega)
            have hnY := fun W (h2 : SubjAt pB cB ys W) => names_any pB cB ys W h2.row hy2
            rw [hl1] at hnX
            rw [hl2] at hnY
            replace hc1 := Lib.hid hc1
            replace hc2 := Lib.hid hc2
            replace hnX := Lib.hid hnX
            replace hnY := Lib.hid hnY
            clear hel tS tA tB tX tY zT
            have hXP : (canonP xs).2 = 0 → subjE xs = 0 ∧ (canonP xs).1 = ⟨(canonL xs).toArray⟩ := canonP_ok xs
            have hYP : (canonP ys).2 = 0 → subjE ys = 0 ∧ (canonP ys).1 = ⟨(canonL ys).toArray⟩ := canonP_ok ys
            have hiff : (canonP xs).2 = 0 → (canonP ys).2 = 0 → ((canonP xs).1 = (canonP ys).1 ↔ namesOf xs = namesOf ys) := canonP_iff xs ys
            replace hiff := Lib.hid hiff
            clear hXP hYP
            obtain ⟨sX, hsX⟩ : ∃ sX, (canonP xs).1 = sX := ⟨_, rfl⟩
            obtain ⟨rX, hrX⟩ : ∃ rX, (canonP xs).2 = rX := ⟨_, rfl⟩
            obtain ⟨sY, hsY⟩ : ∃ sY, (canonP ys).1 = sY := ⟨_, rfl⟩
            obtain ⟨rY, hrY⟩ : ∃ rY, (canonP ys).2 = rY := ⟨_, rfl⟩
            rw [hsX, hrX] at hc1
            rw [hsY, hrY] at hc2
            rw [hsX, hrX, hsY, hrY] at hiff
            clear hsX hrX hsY hrY
            by_cases hx0 : rX = 0
            · subst hx0
              by_cases hy0 : rY = 0
              · subst hy0
                have hiff2 := Lib.hid (hiff.out rfl rfl)
                clear hiff
                go_upto_region 20 with (first
                  | (go_at_call 20; with_reducible refine hc1.out.mono ?_; rintro e w9 ⟨rfl, hb9⟩; have y9 := (hb9.cell (p := ⟨w6.heap.size + 1, 0, none⟩) hYr).trans yr)
                  | (go_at_call 20; with_reducible refine (hc2.out w9 (Ew.below hb9) (rB.below hb9)).mono ?_; rintro e w10 ⟨rfl, hb10⟩))
                have hb := hb9.trans (hb10.mono hb9.size)
                have Bq := Bw.trans (hb.mono Bw.size)
                have qA' := rA.below hb
                have qB' := rB.below hb
                have qx := (hb.cell (p := ⟨w6.heap.size, 0, none⟩) hXr).trans xr
                have qy := (hb.cell (p := ⟨w6.heap.size + 1, 0, none⟩) hYr).trans yr
                have hXq := Nat.lt_of_lt_of_le hXr hb.size
                have hYq := Nat.lt_of_lt_of_le hYr hb.size
                have hdr := (Below.refl w10.heap.size w10).drew
                clear hb9 hb10 hb xr yr hXr hYr rA rB hc1 hc2 y9
                go_region_held3 (fun w' => w'.cell? ⟨w6.heap.size, 0, none⟩ = some (.slice pA n1 cA) ∧ w'.cell? ⟨w6.heap.size + 1, 0, none⟩ = some (.slice pB n2 cB))
                  (first | go_keep | (exact ⟨(hbb.cell (p := ⟨w6.heap.size, 0, none⟩) hXq).trans qx, (hbb.cell (p := ⟨w6.heap.size + 1, 0, none⟩) hYq).trans qy⟩) | (exact ⟨(hba.cell (p := ⟨w6.heap.size, 0, none⟩) hXq).trans qx, (hba.cell (p := ⟨w6.heap.size + 1, 0, none⟩) hYq).trans qy⟩))
                  (first
                    | (go_at_call 22; with_reducible refine (hnY.out _ (qB'.below hba)).mono ?_; rintro e wb ⟨vb, rfl, hrb, hbb'⟩; have hbb := hba.trans (hbb'.mono hba.size))
                    | (go_at_call 22; with_reducible refine (hnX.out _ (qA'.below hba)).mono ?_; rintro e wb ⟨vb, rfl, hrb, hbb'⟩; have hbb := hba.trans (hbb'.mono hba.size))
                    | (go_at_call 22; with_reducible refine (hnX.out _ (qA'.below hdr)).mono ?_; rintro e wa ⟨va, rfl, hra, hba'⟩; have hba := hdr.trans (hba'.mono hdr.size))
                    | (go_at_call 22; with_reducible refine (hnY.out _ (qB'.below hdr)).mono ?_; rintro e wa ⟨va, rfl, hra, hba'⟩; have hba := hdr.trans (hba'.mono hdr.size)))
                have hrA := hra.below hbb'
                obtain ⟨gA, kA, rfl, -, -, -, hfA⟩ := hrA.form
                obtain ⟨gB, kB, rfl, -, -, -, hfB⟩ := hrb.form
                have Bn := Bq.trans (hbb.mono Bq.size)
                clear hra hrA hrb hbb hbb' hba hba' hdr qx qy hXq hYq qA' qB' hnX hnY
                have hAl : (namesOf xs).length ≤ 100 := by unfold namesOf; rw [List.length_map]; omega
                generalize namesOf xs = A at hiff2 hfA hAl ⊢
                generalize namesOf ys = D at hiff2 hfB ⊢
                have hAD : ((A.length : Int) == (D.length : Int)) = decide (A.length = D.length ∧ A.take 0 = D.take 0) := by
                  by_cases h : A.length = D.length
                  · simp [h]
                  · have h' : ¬ (A.length : Int) = (D.length : Int) := by omega
                    simp [h, h']
                have hAD' := Lib.hid hAD
                clear hAD
                go_wp2
                rw [hAD'.out]
                go_loopw [23, 24] (fun s i wr => ∃ k : Nat, k ≤ A.length ∧ i = .int .i64 k ∧ s = .bool (decide (A.length = D.length ∧ A.take k = D.take k)) ∧ Below wb.heap.size wb wr) (fun _ i _ => A.length - (intOf i).toNat)
                case atStart => exact ⟨0, Nat.zero_le _, rfl, rfl, Below.refl _ _⟩
                case round =>
                  obtain ⟨k, hk, rfl, rfl, hbz⟩ := hrel
                  have Bz := Bn.trans (hbz.mono Bn.size)
                  by_cases hsm : A.length = D.length ∧ A.take k = D.take k
                  · have hd : decide (A.length = D.length ∧ A.take k = D.take k) = true := decide_eq_true hsm
                    rw [hd]
                    clear hd
                    by_cases hlt : k < A.length
                    · have hltD : k < D.length := by rw [← hsm.1]; exact hlt
                      obtain ⟨g1, rfl, -, hg1, -, hc1⟩ := hfA k hlt
                      obtain ⟨g2, rfl, -, hg2', -, hc2⟩ := hfB k hltD
                      have a0 : wr.cell? ⟨g1, k * 2, none⟩ = some (.string A[k].1) := (hbz.cell (p := ⟨g1, k * 2, none⟩) hg1).trans (hc1 0 (by decide))
                      have a1' : wr.cell? ⟨g1, k * 2 + 1, none⟩ = some (.string A[k].2) := (hbz.cell (p := ⟨g1, k * 2 + 1, none⟩) hg1).trans (hc1 1 (by decide))
                      have b0 : wr.cell? ⟨g2, k * 2, none⟩ = some (.string D[k].1) := (hbz.cell (p := ⟨g2, k * 2, none⟩) hg2').trans (hc2 0 (by decide))
                      have b1 : wr.cell? ⟨g2, k * 2 + 1, none⟩ = some (.string D[k].2) := (hbz.cell (p := ⟨g2, k * 2 + 1, none⟩) hg2').trans (hc2 1 (by decide))
                      have hlt' : (k : Int) < (A.length : Int) := by omega
                      have hltD' : (k : Int) < (D.length : Int) := by omega
                      have h0' : (0 : Int) ≤ (k : Int) := by omega
                      have hnx : decide (A.length = D.length ∧ A.take (k + 1) = D.take (k + 1)) = decide (A[k] = D[k]) := by
                        by_cases h : A[k] = D[k]
                        · rw [decide_eq_true h]
                          exact decide_eq_true ⟨hsm.1, by rw [List.take_succ_eq_append_getElem hlt, List.take_succ_eq_append_getElem hltD, hsm.2, h]⟩
                        · rw [decide_eq_false h]
                          refine decide_eq_false fun h2 => h ?_
                          have h3 := h2.2
                          rw [List.take_succ_eq_append_getElem hlt, List.take_succ_eq_append_getElem hltD, hsm.2] at h3
                          have h4 := List.append_cancel_left h3
                          simpa using h4
                      replace hnx := Lib.hid hnx
                      replace hsm := Lib.hid hsm
                      clear hc1 hc2
                      obtain ⟨x, hx⟩ : ∃ x, A[k] = x := ⟨_, rfl⟩
                      obtain ⟨y, hy⟩ : ∃ y, D[k] = y := ⟨_, rfl⟩
                      have hnx2 := hnx.out
                      rw [hx, hy] at hnx2
                      rw [hx] at a0 a1'
                      rw [hy] at b0 b1
                      replace hnx2 := Lib.hid hnx2
                      replace hx := Lib.hid hx
                      replace hy := Lib.hid hy
                      clear hnx
                      have heq := fun W => run_eql_pair x.1 x.2 y.1 y.2 W
                      have hpr : decide ((x.1, x.2) = (y.1, y.2)) = decide (x = y) := rfl
                      rw [hpr] at heq
                      clear hpr
                      go_upto_region 25 with (fail)
                      go_region_held3 (fun w' => w'.cell? ⟨g1, k * 2, none⟩ = some (.string x.1) ∧ w'.cell? ⟨g1, k * 2 + 1, none⟩ = some (.string x.2) ∧ w'.cell? ⟨g2, k * 2, none⟩ = some (.string y.1) ∧ w'.cell? ⟨g2, k * 2 + 1, none⟩ = some (.string y.2)) (go_keep) (fail)
                      all_goals
                        rw [← hnx2.out]
                        clear heq
                        go_wp2
                        go_roundw
                        case rel => exact ⟨k + 1, by omega, by go_num, rfl, hbz.drew⟩
                        case measure => simp [intOf]; omega
                    · obtain rfl : k = A.length := by omega
                      have hAD2 : A = D := by
                        have h := hsm.2
                        rw [List.take_of_length_le (Nat.le_refl _), hsm.1, List.take_of_length_le (Nat.le_refl _)] at h
                        exact h
                      have hpq : sX = sY := hiff2.out.2 hAD2
                      have hq : (sX.toList == sY.toList) = true := bytes_yes hpq
                      have hlt' : ¬ (A.length : Int) < (A.length : Int) := by omega
                      replace hpq := Lib.hid hpq
                      replace hAD2 := Lib.hid hAD2
                      replace hsm := Lib.hid hsm
                      go_wp2
                      go_ret
                      exact ⟨rfl, Bz⟩
                  · have hd : decide (A.length = D.length ∧ A.take k = D.take k) = false := decide_eq_false hsm
                    rw [hd]
                    clear hd
                    have hne : ¬ sX = sY := fun e => hsm (by rw [hiff2.out.1 e]; exact ⟨rfl, rfl⟩)
                    have hq : (sX.toList == sY.toList) = false := bytes_no hne
                    replace hne := Lib.hid hne
                    replace hsm := Lib.hid hsm
                    go_wp2
                    go_ret
                    exact ⟨rfl, Bz⟩
              · have hne : (rY != 0) = true := by simpa using hy0
                replace hy0 := Lib.hid hy0
                go_wp2_with (first
                  | (go_at_call 20; with_reducible refine hc1.out.mono ?_; rintro e w9 ⟨rfl, hb9⟩; have y9 := (hb9.cell (p := ⟨w6.heap.size + 1, 0, none⟩) hYr).trans yr)
                  | (go_at_call 20; with_reducible refine (hc2.out w9 (Ew.below hb9) (rB.below hb9)).mono ?_; rintro e w10 ⟨rfl, hb10⟩))
                go_ret
                exact ⟨rfl, (Bw.trans (hb9.mono Bw.size)).trans (hb10.mono (Bw.trans (hb9.mono Bw.size)).size)⟩
            · have hne : (rX != 0) = true := by simpa using hx0
              replace hx0 := Lib.hid hx0
              go_wp2_with (first
                | (go_at_call 20; with_reducible refine hc1.out.mono ?_; rintro e w9 ⟨rfl, hb9⟩; have y9 := (hb9.cell (p := ⟨w6.heap.size + 1, 0, none⟩) hYr).trans yr)
                | (go_at_call 20; with_reducible refine (hc2.out w9 (Ew.below hb9) (rB.below hb9)).mono ?_; rintro e w10 ⟨rfl, hb10⟩))
              go_ret
              exact ⟨rfl, (Bw.trans (hb9.mono Bw.size)).trans (hb10.mono (Bw.trans (hb9.mono Bw.size)).size)⟩
  · have hsm2 : smallS l = false := by simpa using hsmall
    rw [hsm2] at hsm
    replace hsm2 := Lib.hid hsm2
    go_wp2_with (go_at_call 7; refine hsm.out.mono ?_; rintro e w2 ⟨rfl, hb2⟩)
    go_ret
    exact ⟨rfl, B1.trans (hb2.mono B1.size)⟩
end Go.Proofs.YtcbnefeedoabeaaDoor
