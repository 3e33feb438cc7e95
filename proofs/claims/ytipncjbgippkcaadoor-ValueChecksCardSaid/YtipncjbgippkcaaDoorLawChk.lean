/- ValueChecks: for every value and choices, the document's error of it, of drawn values, and of one with one field more. -/
import Derived.Test.YtipncjbgippkcaaDoorPg
import Derived.Test.YtipncjbgippkcaaDoorPj
import Derived.Test.YtipncjbgippkcaaDoorLawFmt
import Derived.Deep.CutBlock
namespace Go.Proofs.YtipncjbgippkcaaDoor
open Go Go.RowKit

/-- Five values in a row of the call's own, behind the choices. -/
structure Five (C R : Nat) (l : List UInt8) (a1 : Option Addr) (c1 : Nat) (w wr : World) : Prop where
  row : ∃ es : List El, es.length = 5 ∧ VRow es R (.slice (some ⟨R, 0, none⟩) 5 5) wr ∧ ∀ e ∈ es, TextsOff (some C) e.a e.x.list ∧ TextsOff (some R) e.a e.x.list
  below : Below w.heap.size w wr
  codes : ∃ at2, Codes l a1 c1 C at2 wr
  draw : DrawG C wr
  lt : C < R
  top : R < wr.heap.size
  low : w.heap.size ≤ C
theorem five_made {x y : Val} {a b a1 : Option Addr} {c d c1 C at2 : Nat} {l : List UInt8} {w W : World} (hb : Below w.heap.size w W) (hx : TextsAre a x.list w) (hf : FitV x) (hy : TextsFrom (C + 1) b y.list W) (hfy : FitV y)
    (hcd : Codes l a1 c1 C at2 W) (hG : DrawG C W) (hlo : w.heap.size ≤ C) :
    Five C W.heap.size l a1 c1 w (W.alloc (.cells #[.int .i64 x.kind, .int .i64 x.num, .string x.text, .slice a (x.list.length : Nat) c, .int .i64 y.kind, .int .i64 y.num, .string y.text, .slice b (y.list.length : Nat) d, .int .i64 4, .int .i64 0, .string x.text, .slice none 0 0, .int .i64 5, .int .i64 0, .string ⟨#[]⟩, .slice a (x.list.length : Nat) c, .int .i64 3, .int .i64 0, .string x.text, .slice none 0 0] 24)) := by
  have hbl := (Below.refl W.heap.size W).alloc (Nat.le_refl _) (.cells #[.int .i64 x.kind, .int .i64 x.num, .string x.text, .slice a (x.list.length : Nat) c, .int .i64 y.kind, .int .i64 y.num, .string y.text, .slice b (y.list.length : Nat) d, .int .i64 4, .int .i64 0, .string x.text, .slice none 0 0, .int .i64 5, .int .i64 0, .string ⟨#[]⟩, .slice a (x.list.length : Nat) c, .int .i64 3, .int .i64 0, .string x.text, .slice none 0 0] 24)
  have hxW := hx.below (Nat.le_refl _) hb
  have hC := hcd.lt
  have hxC : ∀ r, C ≤ r → TextsOff (some r) a x.list := fun r hr => off_in hx (by omega)
  have hyW := hy.texts
  have ht0 : FitV ⟨4, 0, x.text, []⟩ := ⟨Nat.zero_le _, hf.text, fun s hs => by simp at hs⟩
  have ht1 : FitV ⟨5, 0, ⟨#[]⟩, x.list⟩ := ⟨hf.list, Nat.zero_le _, hf.each⟩
  have ht2 : FitV ⟨3, 0, x.text, []⟩ := ⟨Nat.zero_le _, hf.text, fun s hs => by simp at hs⟩
  have hrow := VRow.made [⟨x, a, c⟩, ⟨y, b, d⟩, ⟨⟨4, 0, x.text, []⟩, none, 0⟩, ⟨⟨5, 0, ⟨#[]⟩, x.list⟩, a, c⟩, ⟨⟨3, 0, x.text, []⟩, none, 0⟩] W.heap.size W (Nat.le_refl _) (by simp) (by
    intro e he
    simp only [List.mem_cons, List.not_mem_nil, or_false] at he
    rcases he with rfl | rfl | rfl | rfl | rfl
    · exact ⟨hxW, hf⟩
    · exact ⟨hyW, hfy⟩
    · exact ⟨texts_none _ _, ht0⟩
    · exact ⟨hxW, ht1⟩
    · exact ⟨texts_none _ _, ht2⟩)
  refine ⟨⟨_, rfl, hrow, ?_⟩, hb.alloc hb.size _, ⟨at2, hcd.below hbl⟩, hG.kept (Kept.of_below hbl), hC, by simp, hlo⟩
  intro e he
  simp only [List.mem_cons, List.not_mem_nil, or_false] at he
  rcases he with rfl | rfl | rfl | rfl | rfl
  · exact ⟨hxC _ (Nat.le_refl _), hxC _ (Nat.le_of_lt hC)⟩
  · exact ⟨off_from hy (by omega), off_in hyW (Nat.le_refl _)⟩
  · exact ⟨off_nil _ _, off_nil _ _⟩
  · exact ⟨hxC _ (Nat.le_refl _), hxC _ (Nat.le_of_lt hC)⟩
  · exact ⟨off_nil _ _, off_nil _ _⟩
/-- Behind the switch: the five, and the sixth in block P. -/
structure Six (R P : Nat) (w wr : World) : Prop where
  row : ∃ es : List El, es.length = 5 ∧ VRow es R (.slice (some ⟨R, 0, none⟩) 5 5) wr ∧ ∀ e ∈ es, TextsOff (some R) e.a e.x.list
  one : ∃ (y : Val) (b : Option Addr) (d : Nat), Elem y b d P 0 wr ∧ FitV y ∧ TextsOff (some R) b y.list
  below : Below w.heap.size w wr
  top : R < wr.heap.size
  low : w.heap.size ≤ R
theorem Elem.cellAt {x : Val} {a : Option Addr} {c P : Nat} {w : World} (h : Elem x a c P 0 w) (j : Nat) (hj : j < 4) : w.cell? ⟨P, j, none⟩ = (El.mk x a c).cells[j]? :=
  match j, hj with
  | 0, _ => h.c0
  | 1, _ => h.c1
  | 2, _ => h.c2
  | 3, _ => h.c3
  | j + 4, h => by omega
theorem Elem.of_cells {x : Val} {a : Option Addr} {c P : Nat} {w : World} (hc : ∀ j, j < 4 → w.cell? ⟨P, j, none⟩ = (El.mk x a c).cells[j]?) (t : TextsAre a x.list w) (lt : P < w.heap.size) : Elem x a c P 0 w :=
  ⟨hc 0 (by decide), hc 1 (by decide), hc 2 (by decide), hc 3 (by decide), t, lt⟩
theorem Elem.upd {x y : Val} {a b : Option Addr} {c d P : Nat} {w : World} (h : Elem x a c P 0 w) (i : Nat) (v : Value) (hi : i < 4) (hc : ∀ j, j < 4 → (El.mk y b d).cells[j]? = if j = i then some v else (El.mk x a c).cells[j]?)
    (t : TextsAre b y.list w) (o : TextsOff (some P) b y.list) : Elem y b d P 0 (w.setCell ⟨P, i, none⟩ v) := by
  refine Elem.of_cells (fun j hj => ?_) (t.moved ((Moved.refl P P w).set i v) o o) (by simpa using h.lt)
  rw [hc j hj]
  split
  · rename_i e
    subst e
    have h4 : (El.mk x a c).cells.length = 4 := rfl
    exact World.cell?_setCell_same _ _ _ ((h.cellAt j hi).trans (List.getElem?_eq_getElem (by omega)))
  · rename_i e
    rw [World.cell?_setCell_other _ _ _ _ (fun q => e (by injection q with _ q2; exact q2.symm))]
    exact h.cellAt j hj
theorem Elem.kept {x : Val} {a : Option Addr} {c C P : Nat} {w w' : World} (h : Elem x a c P 0 w) (k : Kept C w w') (hP : P ≠ C) (o : TextsOff (some C) a x.list) : Elem x a c P 0 w' :=
  Elem.of_cells (fun j hj => (k.cell (p := ⟨P, j, none⟩) h.lt hP).trans (h.cellAt j hj)) (h.texts.moved (P := C) (Moved.of_kept k) o o) (Nat.lt_of_lt_of_le h.lt k.size)
theorem six_made {C R P : Nat} {es : List El} {w W6 wr : World} {y : Val} {b : Option Addr} {d : Nat} (h5 : es.length = 5) (hrow : VRow es R (.slice (some ⟨R, 0, none⟩) 5 5) W6) (ho : ∀ e ∈ es, TextsOff (some C) e.a e.x.list ∧ TextsOff (some R) e.a e.x.list) (hoP : ∀ e ∈ es, TextsOff (some P) e.a e.x.list)
    (hCR : C < R) (hRP : R < P) (hm : Moved C P W6 wr) (hb6 : Below w.heap.size w W6) (hlo : w.heap.size ≤ C) (hP : P < W6.heap.size) (hel : Elem y b d P 0 wr) (hf : FitV y) (hoff : TextsOff (some R) b y.list) : Six R P w wr := by
  refine ⟨⟨es, h5, hrow.moved hm (by omega) (by omega) (fun e he => ⟨(ho e he).1, hoP e he⟩), fun e he => (ho e he).2⟩, ⟨y, b, d, hel, hf, hoff⟩, hb6.trans (hm.below hlo (by omega) hb6.size), ?_, by omega⟩
  have := hm.size
  omega
set_option maxHeartbeats 8000000 in
set_option maxRecDepth 100000 in
theorem checks_walk (x : Val) (a : Option Addr) (c : Nat) (a1 : Option Addr) (l : List UInt8) (c1 : Nat) (w : World) (E : Env w) (G : DrawL w) (hv : ValIn x a c w) (b1 : l.length ≤ c1) (m1 : c1 ≤ 9223372036854775807) (y1 : BytesOf a1 l w) :
    Calls Tryd.prog 3 #[x.agg a c, .slice a1 (l.length : Nat) c1] w fun e w' => e = .returned (.bool true) ∧ Below w.heap.size w w' := by
  have h1 : Box1 x a c w.heap.size w (w.alloc (.cells #[.int .i64 x.kind, .int .i64 x.num, .string x.text, .slice a (x.list.length : Nat) c] 24)) := ⟨heap_alloc_new w _, (Below.refl _ w).alloc (Nat.le_refl _) _⟩
  unfold Val.agg
  go_enter Tryd.func3, Tryd.ntmps3
  go_upto_region 1 with (fail)
  generalize w.alloc (.cells #[.int .i64 x.kind, .int .i64 x.num, .string x.text, .slice a (x.list.length : Nat) c] 24) = w0 at h1 ⊢
  go_wp2_with (go_at_call 8; refine (awake_any _ (E.below h1.below)).mono ?_)
  rintro e W ⟨rfl, B⟩
  have h2 := h1.grown B
  clear h1 B
  have hv2 : ValIn x a c W := ⟨hv.kind, hv.num, hv.text, hv.cap, hv.nil, hv.texts.below (Nat.le_refl _) h2.below, hv.each⟩
  have hsm := small_any x a c W hv2
  unfold Val.agg at hsm
  replace hsm := Lib.hid hsm
  have p0 : W.cell? ⟨w.heap.size, 0, none⟩ = some (.int .i64 x.kind) := by rw [Lib.cell_of_heap h2.one]; rfl
  have p1 : W.cell? ⟨w.heap.size, 1, none⟩ = some (.int .i64 x.num) := by rw [Lib.cell_of_heap h2.one]; rfl
  have p2 : W.cell? ⟨w.heap.size, 2, none⟩ = some (.string x.text) := by rw [Lib.cell_of_heap h2.one]; rfl
  have p3 : W.cell? ⟨w.heap.size, 3, none⟩ = some (.slice a x.list.length c) := by rw [Lib.cell_of_heap h2.one]; rfl
  cases hs : smallB x with
  | false =>
    rw [hs] at hsm
    replace hs := Lib.hid hs
    go_wp2_with (go_at_call 9; refine hsm.out.mono ?_; rintro e W2 ⟨rfl, hb⟩)
    go_ret
    exact ⟨rfl, (h2.grown hb).below⟩
  | true =>
    rw [hs] at hsm
    have hfit := (smallB_facts x hs).fit
    replace hs := Lib.hid hs
    go_wp2_with (go_at_call 9; refine hsm.out.mono ?_)
    rintro e W2 ⟨rfl, hb⟩
    have h3 := h2.grown hb
    clear h2 hb p0 p1 p2 p3 hsm hv2
    have yB : BytesOf a1 l W2 := fun i hi => by
      obtain ⟨b, off, e1, e2, e3⟩ := y1 i hi
      exact ⟨b, off, e1, Nat.lt_of_lt_of_le e2 h3.below.size, (h3.below.cell (p := ⟨b, off + i, none⟩) e2).trans e3⟩
    have hnew := new_any l a1 c1 30 W2 (by omega) b1 (by omega) yB
    replace hnew := Lib.hid hnew
    have hGf : ∀ W', Below W2.heap.size W2 W' → DrawG W2.heap.size W' := fun W' hb => (G.below h3.below).fresh hb
    replace hGf := Lib.hid hGf
    go_upto_region 6 with (go_at_call 10; refine hnew.out.mono ?_; rintro e W3 ⟨rfl, hcd, hb3⟩)
    have hb3w := h3.below.trans (hb3.mono h3.below.size)
    have h4 := h3.grown hb3
    have hCne : w.heap.size ≠ W2.heap.size := Nat.ne_of_lt h3.lt
    have hlo : w.heap.size ≤ W2.heap.size := h3.below.size
    have hG3 := hGf.out _ hb3
    clear hGf hnew yB
    have hV := h4.lt
    generalize W2.heap.size = C at hcd hb3 hG3 hCne hlo ⊢
    have p0 : W3.cell? ⟨w.heap.size, 0, none⟩ = some (.int .i64 x.kind) := by rw [Lib.cell_of_heap h4.one]; rfl
    have p1 : W3.cell? ⟨w.heap.size, 1, none⟩ = some (.int .i64 x.num) := by rw [Lib.cell_of_heap h4.one]; rfl
    have p2 : W3.cell? ⟨w.heap.size, 2, none⟩ = some (.string x.text) := by rw [Lib.cell_of_heap h4.one]; rfl
    have p3 : W3.cell? ⟨w.heap.size, 3, none⟩ = some (.slice a x.list.length c) := by rw [Lib.cell_of_heap h4.one]; rfl
    have hl30 : (l.take 30).length ≤ 1000000 := by rw [List.length_take]; omega
    have hany := Lib.hid (any_any _ a1 c1 C 0 W3.drew hl30 (hcd.below ((Below.refl _ W3).drew)) (hG3.kept (Kept.of_below ((Below.refl _ W3).drew))))
    go_cut [6] (fun v wx => ∃ R : Nat, v = .slice (some ⟨R, 0, none⟩) 5 5 ∧ Five C R (l.take 30) a1 c1 w wx)
    case first =>
      go_region_held3 (fun w' => w'.cell? ⟨w.heap.size, 0, none⟩ = some (.int .i64 x.kind) ∧ w'.cell? ⟨w.heap.size, 1, none⟩ = some (.int .i64 x.num) ∧ w'.cell? ⟨w.heap.size, 2, none⟩ = some (.string x.text) ∧ w'.cell? ⟨w.heap.size, 3, none⟩ = some (.slice a x.list.length c))
        (first | go_keep | (exact ⟨(hkp.cell (p := ⟨w.heap.size, 0, none⟩) hV hCne).trans p0, (hkp.cell (p := ⟨w.heap.size, 1, none⟩) hV hCne).trans p1, (hkp.cell (p := ⟨w.heap.size, 2, none⟩) hV hCne).trans p2, (hkp.cell (p := ⟨w.heap.size, 3, none⟩) hV hCne).trans p3⟩))
        (first
          | (go_at_call 11; refine hany.out.mono ?_; rintro e W4 ⟨⟨⟨k', n', t', l'⟩, b, d, rfl, ⟨kk, hkk, hdr⟩, htx, hnd, hld⟩, hkp, hce⟩; unfold Val.agg))
      go_wp2
      go_meet
      case rel =>
        have hb5 : Below w.heap.size w W4 := hb3w.trans ((Below.refl _ W3).drew.trans (hkp.below hlo (Nat.le_of_lt hV)))
        obtain ⟨at2, hc2⟩ := hce
        exact ⟨W4.heap.size, rfl, five_made (x := x) (y := ⟨k', n', t', l'⟩) hb5 hv.texts hfit (htx.mono (by have := hcd.lt; exact this)) hdr.fit hc2 ((hG3.kept (Kept.of_below ((Below.refl _ W3).drew))).kept hkp) hlo⟩
    case rest =>
      obtain ⟨R, rfl, hF⟩ := hcut
      clear hany p0 p1 p2 p3 h3 h4 hs hcd hG3 hb3 hV hCne hb3w
      obtain ⟨at2, hcd2⟩ := hF.codes
      have hany2 := Lib.hid (any_any _ a1 c1 C at2 wc hl30 hcd2 hF.draw)
      go_upto_region 8 with (go_at_call 11; refine hany2.out.mono ?_; rintro e W5 ⟨⟨⟨k', n', t', l'⟩, b, d, rfl, ⟨kk, hkk, hdr⟩, htx, hnd, hld⟩, hkp, hce⟩; unfold Val.agg)
      obtain ⟨at3, hc5⟩ := hce
      obtain ⟨es, h5, hrow, ho⟩ := hF.row
      have hz := heap_alloc_new W5 (.cells #[.int .i64 k', .int .i64 n', .string t', .slice b (l'.length : Nat) d] 24)
      have hbl := (Below.refl W5.heap.size W5).alloc (Nat.le_refl _) (.cells #[.int .i64 k', .int .i64 n', .string t', .slice b (l'.length : Nat) d] 24)
      have hk6 := hkp.trans (Kept.of_below (C := C) hbl)
      have hc6 := hc5.below hbl
      have hel : Elem ⟨k', n', t', l'⟩ b d W5.heap.size 0 (W5.alloc (.cells #[.int .i64 k', .int .i64 n', .string t', .slice b (l'.length : Nat) d] 24)) := by
        refine ⟨?_, ?_, ?_, ?_, htx.texts.below (Nat.le_refl _) hbl, by simp⟩
        all_goals (rw [Lib.cell_of_heap hz]; rfl)
      have hfy := hdr.fit
      have hlC := hF.lt
      have hlR := hF.top
      have hRP : R < W5.heap.size := Nat.lt_of_lt_of_le hlR hkp.size
      have hoC : TextsOff (some C) b l' := off_from htx (by omega)
      have hoR : TextsOff (some R) b l' := off_from htx hlR
      have hoP : TextsOff (some W5.heap.size) b l' := off_in htx.texts (Nat.le_refl _)
      have hPes : ∀ e ∈ es, TextsOff (some W5.heap.size) e.a e.x.list := fun e he => off_in (hrow.ok e he).1 hkp.size
      have hrow6 := hrow.moved (Moved.of_kept (P := W5.heap.size) hk6) (by omega) (by omega) (fun e he => ⟨(ho e he).1, hPes e he⟩)
      have hb6 := hF.below.trans (hk6.below hlo hF.below.size)
      have hlt6 : W5.heap.size < (W5.alloc (.cells #[.int .i64 k', .int .i64 n', .string t', .slice b (l'.length : Nat) d] 24)).heap.size := by simp
      have hG6 := hF.draw.kept hk6
      have hdl := hdr.len
      have hdt := hdr.text
      clear hbl hkp hc5 hany2 hcd2 htx hF hdr hk6 hrow
      generalize W5.alloc (.cells #[.int .i64 k', .int .i64 n', .string t', .slice b (l'.length : Nat) d] 24) = W6 at hz hc6 hel hrow6 hb6 hlt6 hG6 ⊢
      generalize W5.heap.size = P at hz hel hRP hoP hPes hrow6 hlt6 ⊢
      have hn := next_any _ a1 c1 C at3 4 W6 hl30 (by omega) (by omega) hc6
      have hr := nextN_lt (l.take 30) at3 4 (by omega)
      obtain ⟨q, hq, hq0, hq4⟩ : ∃ q : Int, ((nextN (l.take 30) at3 4 : Nat) : Int) = q ∧ 0 ≤ q ∧ q < 4 := ⟨_, rfl, by omega, by omega⟩
      rw [hq] at hn
      clear hq hr
      replace hn := Lib.hid hn
      go_upto_block 0 with (go_at_call 12; refine hn.out.mono ?_; rintro e W7 ⟨rfl, hk7, hce⟩)
      obtain ⟨at4, hc7⟩ := hce
      go_cut [6] (fun v wx => v = .slice (some ⟨R, 0, none⟩) 5 5 ∧ Six R P w wx)
      case first =>
        have hz7 := (hk7.block P hlt6 (by omega)).trans hz
        have hel7 := hel.kept hk7 (by omega) hoC
        have hlt7 := Nat.lt_of_lt_of_le hlt6 hk7.size
        have zf7 : ∀ i, W7.frozen? ⟨P, i, none⟩ = false := Lib.frozen_of_heap hz7
        have hm7 := Moved.of_kept (P := P) hk7
        have hq : q = 0 ∨ q = 1 ∨ q = 2 ∨ q = 3 := by omega
        have hnum := Lib.hid (drawNum_any _ a1 c1 C at4 W7 hl30 hc7)
        have htxt := Lib.hid (text_any _ a1 c1 C at4 W7 hl30 hc7 (hG6.kept hk7))
        have hnx := next_any _ a1 c1 C at4 8 W7 hl30 (by omega) (by omega) hc7
        have hr8 := nextN_lt (l.take 30) at4 8 (by omega)
        obtain ⟨q8, hq8e, hq80, hq84⟩ : ∃ q : Int, ((nextN (l.take 30) at4 8 : Nat) : Int) = q ∧ 0 ≤ q ∧ q < 8 := ⟨_, rfl, by omega, by omega⟩
        rw [hq8e] at hnx
        clear hq8e hr8
        replace hnx := Lib.hid hnx
        rcases hq with rfl | rfl | rfl | rfl
        · go_wp2_with (go_at_call 13; refine hnum.out.mono ?_; rintro e W8 ⟨⟨z, rfl⟩, hk8, hce8⟩; have hel8 := hel7.kept hk8 (by omega) hoC; have z1 : W8.cell? ⟨P, 1, none⟩ = some (.int .i64 n') := hel8.c1; have zf : W8.frozen? ⟨P, 1, none⟩ = false := Lib.frozen_of_heap ((hk8.block P hlt7 (by omega)).trans hz7) 1)
          go_meet
          case rel =>
            exact ⟨rfl, six_made (y := ⟨k', z, t', l'⟩) h5 hrow6 ho hPes hlC hRP ((hm7.trans (Moved.of_kept hk8)).set 1 _) hb6 hlo hlt6 (hel8.upd 1 (.int .i64 z) (by decide) (fun j hj => by match j, hj with | 0, _ => rfl | 1, _ => rfl | 2, _ => rfl | 3, _ => rfl | j + 4, h => omega) hel8.texts hoP) ⟨hfy.list, hfy.text, hfy.each⟩ hoR⟩
        · go_wp2_with (go_at_call 14; refine htxt.out.mono ?_; rintro e W8 ⟨⟨s, hs, rfl⟩, hk8, hce8⟩; replace hs := Lib.hid hs; have hel8 := hel7.kept hk8 (by omega) hoC; have z2 : W8.cell? ⟨P, 2, none⟩ = some (.string t') := hel8.c2; have zf : W8.frozen? ⟨P, 2, none⟩ = false := Lib.frozen_of_heap ((hk8.block P hlt7 (by omega)).trans hz7) 2)
          go_meet
          case rel =>
            have hs100 := (drawn_text s hs.out).text
            exact ⟨rfl, six_made (y := ⟨k', n', s, l'⟩) h5 hrow6 ho hPes hlC hRP ((hm7.trans (Moved.of_kept hk8)).set 2 _) hb6 hlo hlt6 (hel8.upd 2 (.string s) (by decide) (fun j hj => by match j, hj with | 0, _ => rfl | 1, _ => rfl | 2, _ => rfl | 3, _ => rfl | j + 4, h => omega) hel8.texts hoP) ⟨hfy.list, Nat.le_trans hs100 (by omega), hfy.each⟩ hoR⟩
        · have z3 : W7.cell? ⟨P, 3, none⟩ = some (.slice b l'.length d) := hel7.c3
          have hCW := hc7.lt
          go_wp2_with (first
            | (go_at_call 14; refine htxt8.out.mono ?_; rintro e W9 ⟨⟨s, hs, rfl⟩, hk9, hce9⟩; replace hs := Lib.hid hs; have hown9 := hown8.kept hk9 hCW; have hk9a := (hk8.trans hk9).trans (Kept.of_below (C := C) ((Below.refl W9.heap.size W9).alloc (Nat.le_refl _) (.cells #[.string s] 9))); obtain ⟨L, hL⟩ : ∃ L, l' ++ [s] = L := ⟨_, rfl⟩; have hLl : L.length ≤ 1000 := (by rw [← hL, List.length_append, List.length_singleton]; omega); have hLe : ∀ u ∈ L, u.size ≤ 1000 := (by intro u hu; rw [← hL] at hu; rcases List.mem_append.1 hu with h | h; exact hfy.each u h; obtain rfl := List.mem_singleton.1 h; exact Nat.le_trans (drawn_text _ hs.out).text (by omega)); replace hL := Lib.hid hL; have hsz9 := Nat.le_trans hk8.size hk9.size)
            | (at_builtin; refine wpList_ownT rfl _ _ rfl l' b d (ownT_nil W7.heap.size W7) rfl rfl hnd hel7.texts (by simp; omega) (Nat.le_refl _) ?_; intro v8 W8 hown8 hb8; rw [List.nil_append] at hown8; have hk8 := Kept.of_below (C := C) hb8; have htxt8 := Lib.hid (text_any _ a1 c1 C at4 W8 hl30 (hc7.below hb8) ((hG6.kept hk7).kept hk8)))
            | (at_builtin; refine wpList_ownT rfl _ _ rfl [s] (some ⟨W9.heap.size, 0, none⟩) 1 (World.ownsRow.alloc hown9 _) rfl rfl (by intro h; cases h) (texts_single s W9) (by simp; omega) (by simp; omega) ?_; intro v10 W10 hown10 hb10; rw [hL.out] at hown10; obtain ⟨a6, c6, rfl, hn6, hc6', ht6⟩ := hown10.texts; have hk10 := hk9a.then_below hb10; have hel10 := hel7.kept hk10 (by omega) hoC; have z3 : W10.cell? ⟨P, 3, none⟩ = some (.slice b l'.length d) := hel10.c3; have zf : W10.frozen? ⟨P, 3, none⟩ = false := Lib.frozen_of_heap ((hk10.block P hlt7 (by omega)).trans hz7) 3))
          go_meet
          case rel =>
            have ht6' : TextsFrom W7.heap.size a6 L W10 := ht6
            have hR7 : R < W7.heap.size := by omega
            exact ⟨rfl, six_made (y := ⟨k', n', t', L⟩) (b := a6) (d := c6) h5 hrow6 ho hPes hlC hRP ((hm7.trans (Moved.of_kept hk10)).set 3 _) hb6 hlo hlt6 (hel10.upd 3 (.slice a6 (L.length : Nat) c6) (by decide) (fun j hj => by match j, hj with | 0, _ => rfl | 1, _ => rfl | 2, _ => rfl | 3, _ => rfl | j + 4, h => omega) ht6'.texts (off_from ht6' hlt7)) ⟨hLl, hfy.text, hLe⟩ (off_from ht6' hR7)⟩
        · go_wp2_with (go_at_call 12; refine hnx.out.mono ?_; rintro e W8 ⟨rfl, hk8, hce8⟩; have hel8 := hel7.kept hk8 (by omega) hoC; have z0 : W8.cell? ⟨P, 0, none⟩ = some (.int .i64 k') := hel8.c0; have zf : W8.frozen? ⟨P, 0, none⟩ = false := Lib.frozen_of_heap ((hk8.block P hlt7 (by omega)).trans hz7) 0)
          go_meet
          case rel =>
            exact ⟨rfl, six_made (y := ⟨q8 - 1, n', t', l'⟩) h5 hrow6 ho hPes hlC hRP ((hm7.trans (Moved.of_kept hk8)).set 0 _) hb6 hlo hlt6 (hel8.upd 0 (.int .i64 (q8 - 1)) (by decide) (fun j hj => by match j, hj with | 0, _ => rfl | 1, _ => rfl | 2, _ => rfl | 3, _ => rfl | j + 4, h => omega) hel8.texts hoP) ⟨hfy.list, hfy.text, hfy.each⟩ hoR⟩
      case rest =>
        obtain ⟨rfl, hS⟩ := hcut
        obtain ⟨fs, g5, grow, go⟩ := hS.row
        obtain ⟨y, b', d', hely, hfy', hoy⟩ := hS.one
        have hSb := hS.below
        have hSl := hS.low
        have hSt := hS.top
        clear hS hn hel hz hrow6 ho hPes hoC hoR hoP hc6 hc7 hk7 hG6 hb6 hlt6 h5 hfy hdl hdt hnd hld
        have e0 := hely.c0
        have e1 := hely.c1
        have e2 := hely.c2
        have e3 := hely.c3
        go_upto_region 18 with (at_builtin; refine wpList_vrow rfl _ _ rfl ⟨y, b', d'⟩ grow rfl rfl (by omega) ⟨hely.texts, hfy'⟩ (fun e he => ?_) (by omega) ?_; ((rcases List.mem_append.1 he with h | h; exact go e h; obtain rfl := List.mem_singleton.1 h; exact hoy)); intro v10 W10 hrow10 hb10; obtain ⟨g, cap, rfl, hcap, hgl, hels⟩ := hrow10.elemN 6 (by simp [g5]) (by decide))
        have hwb := hSb.trans (hb10.mono hSl)
        have Ew := E.below hwb
        clear hrow10 e0 e1 e2 e3 hely grow go
        go_wp2
        go_loopw [8] (fun i wr => ∃ m : Nat, m ≤ 6 ∧ i = .int .i64 m ∧ Below W10.heap.size W10 wr) (fun i _ => 6 - (intOf i).toNat)
        case atStart => exact ⟨0, by omega, rfl, Below.refl _ _⟩
        case round =>
          obtain ⟨m, hm, rfl, hbw⟩ := hrel
          by_cases hlt : m < 6
          · obtain ⟨z, ez, cz, hel, hfz⟩ := hels m hlt
            have hlt' : (m : Int) < 6 := by omega
            have hl2 : (0 : Int) ≤ (m : Int) := Int.natCast_nonneg _
            obtain ⟨e0, e1, e2, e3, etx, elt⟩ := hel.below hbw
            have hEr := Ew.below hbw
            have hc1 := Lib.hid (fun (W : World) (hb : Below wr.heap.size wr W) => check_any z ez cz W (by have := hfz.text; omega) (by have := hfz.list; omega) (fun s hs => by have := hfz.each s hs; omega) (hEr.tabs.below hb) (etx.below (Nat.le_refl _) hb))
            have hc2 := Lib.hid (fun (W : World) (hb : Below wr.heap.size wr W) => refCheck_any z ez cz W (by have := hfz.text; omega) (by have := hfz.list; omega) (fun s hs => by have := hfz.each s hs; omega) (hEr.tabs.below hb) (etx.below (Nat.le_refl _) hb))
            unfold Val.agg at hc1 hc2
            generalize checkE z = er at hc1 hc2
            have hdr := (Below.refl wr.heap.size wr).drew
            clear hfz hels hel
            go_upto_region 21 with (fail)
            go_region_held3 (fun w' => w'.cell? ⟨g, m * 4, none⟩ = some (.int .i64 z.kind) ∧ w'.cell? ⟨g, m * 4 + 1, none⟩ = some (.int .i64 z.num) ∧ w'.cell? ⟨g, m * 4 + 2, none⟩ = some (.string z.text) ∧ w'.cell? ⟨g, m * 4 + 3, none⟩ = some (.slice ez z.list.length cz))
              (first | go_keep | (exact ⟨(hb8.cell (p := ⟨g, m * 4, none⟩) elt).trans e0, (hb8.cell (p := ⟨g, m * 4 + 1, none⟩) elt).trans e1, (hb8.cell (p := ⟨g, m * 4 + 2, none⟩) elt).trans e2, (hb8.cell (p := ⟨g, m * 4 + 3, none⟩) elt).trans e3⟩) | (exact ⟨(hb7.cell (p := ⟨g, m * 4, none⟩) elt).trans e0, (hb7.cell (p := ⟨g, m * 4 + 1, none⟩) elt).trans e1, (hb7.cell (p := ⟨g, m * 4 + 2, none⟩) elt).trans e2, (hb7.cell (p := ⟨g, m * 4 + 3, none⟩) elt).trans e3⟩))
              (first
                | (go_at_call 15; (with_reducible refine (hc1.out _ hdr).mono ?_); rintro e W7 ⟨rfl, hb7'⟩; have hb7 := hdr.trans (hb7'.mono hdr.size))
                | (go_at_call 16; (with_reducible refine (hc2.out _ hdr).mono ?_); rintro e W7 ⟨rfl, hb7'⟩; have hb7 := hdr.trans (hb7'.mono hdr.size))
                | (go_at_call 15; (with_reducible refine (hc1.out _ hb7).mono ?_); rintro e W8 ⟨rfl, hb8'⟩; have hb8 := hb7.trans (hb8'.mono hb7.size))
                | (go_at_call 16; (with_reducible refine (hc2.out _ hb7).mono ?_); rintro e W8 ⟨rfl, hb8'⟩; have hb8 := hb7.trans (hb8'.mono hb7.size)))
            all_goals
              go_wp2
              refine ⟨⟨m + 1, by omega, by go_num, hbw.trans (hb8.mono hbw.size)⟩, ?_⟩
              simp [intOf]
              omega
          · obtain rfl : m = 6 := by omega
            go_wp2
            go_ret
            exact ⟨rfl, hwb.trans (hbw.mono hwb.size)⟩
end Go.Proofs.YtipncjbgippkcaaDoor
