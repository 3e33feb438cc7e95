/- What the list of eight package-level variables gives, and a world that holds them. What the list of eight package-level variables says of the draw's texts, versions and lists. What the statements of layer 3 share: a value that is not too large, and values in a row of the call's own. The source form of a valid value is read as the value: plain laws, of no program. -/
import Derived.Test.YtipncjbgippkcaaDoorPg
import Derived.Test.YtipncjbgippkcaaDoorPf
import Derived.Deep.Strs
import Derived.Test.YtipncjbgippkcaaDoorPa
import Derived.Test.YtipncjbgippkcaaDoorPc
import Derived.Test.YtipncjbgippkcaaDoorPe
/- What the list of eight package-level variables gives, and a world that holds them. -/
namespace Go.Proofs.YtipncjbgippkcaaDoor
open Go Go.RowKit Go.Shelf Go.ChangeShapes Go.WideShapes Go.ChangeAt Go.Lib

def laid8 : List (String × DataW Unit) := [("math/bits.deBruijn32tab", Rows.laid_math_bits_deBruijn32tab), ("math/bits.deBruijn64tab", Rows.laid_math_bits_deBruijn64tab), ("internal/strconv.uint64pow10", Rows.laid_internal_strconv_uint64pow10), ("unicode/utf8.acceptRanges", Rows.laid_unicode_utf8_acceptRanges), ("flagstone/flagstonedraw.texts", Rows.laid_flagstone_flagstonedraw_texts), ("flagstone/flagstonedraw.versions", Rows.laid_flagstone_flagstonedraw_versions), ("flagstone/flagstonedraw.lists", Rows.laid_flagstone_flagstonedraw_lists), ("unicode/utf8.first", Rows.laid_unicode_utf8_first)]
theorem env8 {W : World} (hL : laidMet Tryd.prog laid8 W) : Env W := by
  have h1 := laidMet.reads hL (n := "internal/strconv.uint64pow10") (d := Rows.laid_internal_strconv_uint64pow10) (.tail _ (.tail _ (.head _)))
  have h2 := laidMet.reads hL (n := "unicode/utf8.acceptRanges") (d := Rows.laid_unicode_utf8_acceptRanges) (.tail _ (.tail _ (.tail _ (.head _))))
  have h3 := laidMet.reads hL (n := "unicode/utf8.first") (d := Rows.laid_unicode_utf8_first) (.tail _ (.tail _ (.tail _ (.tail _ (.tail _ (.tail _ (.tail _ (.head _))))))))
  rw [accept_data] at h2
  rw [first_data] at h3
  exact env_of_reads h1 h2 h3
noncomputable def laidWorld8 (os : Os) : World :=
  let w0 := World.doorLaid Tryd.prog 2000 os
  { w0 with heap := w0.heap.modify 3 fun
      | .cells _ t frozen => .cells (Lib.firstTab.map fun z => Value.int .u8 z).toArray t frozen
      | o => o }
theorem laid_met8 (os : Os) (args : Array Value) : laidMet Tryd.prog laid8 ((laidWorld8 os).forCall (fun _ _ => 0) ⟨#[], args, []⟩).memory :=
  laidMet_of_run' 8 (by kernel_rfl) (by kernel_rfl)
end Go.Proofs.YtipncjbgippkcaaDoor
/- What the list of eight package-level variables says of the draw's texts, versions and lists. -/
namespace Go.Proofs.YtipncjbgippkcaaDoor
open Go Go.RowKit Go.Shelf Go.ChangeShapes Go.WideShapes Go.ChangeAt Go.Lib

/-- What the draw's variables hold, whatever block the choices will lie in. -/
structure DrawL (w : World) : Prop where
  t : ∀ i (h : i < drawTexts.length), w.cell? ⟨0, i, none⟩ = some (.string drawTexts[i])
  v : ∀ i (h : i < drawVersions.length), w.cell? ⟨1, i, none⟩ = some (.string drawVersions[i])
  ls : ∀ i (h : i < drawLists.length), ∃ (a : Option Addr) (c : Nat), w.cell? ⟨2, i, none⟩ = some (.slice a (drawLists[i].length : Nat) c) ∧ (a = none → c = 0) ∧ drawLists[i].length ≤ c ∧
    ∀ j (hj : j < drawLists[i].length), ∃ (b off : Nat), a = some ⟨b, off, none⟩ ∧ b < w.heap.size ∧ w.cell? ⟨b, off + j, none⟩ = some (.string drawLists[i][j])
theorem DrawL.below {w w' : World} (h : DrawL w) (hb : Below w.heap.size w w') : DrawL w' := by
  refine ⟨fun i hi => ?_, fun i hi => ?_, fun i hi => ?_⟩
  · have h1 := h.t i hi
    rw [hb.cell (p := ⟨0, i, none⟩) (block_lt_of_cell h1)]
    exact h1
  · have h1 := h.v i hi
    rw [hb.cell (p := ⟨1, i, none⟩) (block_lt_of_cell h1)]
    exact h1
  · obtain ⟨a, c, h1, h2, h3, h4⟩ := h.ls i hi
    refine ⟨a, c, ?_, h2, h3, fun j hj => ?_⟩
    · rw [hb.cell (p := ⟨2, i, none⟩) (block_lt_of_cell h1)]
      exact h1
    · obtain ⟨b, off, e1, e3, e4⟩ := h4 j hj
      exact ⟨b, off, e1, Nat.lt_of_lt_of_le e3 hb.size, by rw [hb.cell (p := ⟨b, off + j, none⟩) e3]; exact e4⟩
theorem DrawL.fresh {w w' : World} (h : DrawL w) (hb : Below w.heap.size w w') : DrawG w.heap.size w' := by
  have h' := h.below hb
  have l1 := block_lt_of_cell (h.t 0 (by decide))
  have l2 := block_lt_of_cell (h.v 0 (by decide))
  obtain ⟨a0, c0, h0, _⟩ := h.ls 0 (by decide)
  have l3 := block_lt_of_cell h0
  refine ⟨h'.t, h'.v, fun i hi => ?_, Nat.ne_of_lt l1, Nat.ne_of_lt l2, Nat.ne_of_lt l3⟩
  obtain ⟨a, c, h1, h2, h3, h4⟩ := h.ls i hi
  refine ⟨a, c, ?_, h2, h3, fun j hj => ?_⟩
  · rw [hb.cell (p := ⟨2, i, none⟩) (block_lt_of_cell h1)]
    exact h1
  · obtain ⟨b, off, e1, e3, e4⟩ := h4 j hj
    exact ⟨b, off, e1, Nat.ne_of_lt e3, Nat.lt_of_lt_of_le e3 hb.size, by rw [hb.cell (p := ⟨b, off + j, none⟩) e3]; exact e4⟩
def strsData (L : List ByteArray) : DataW Unit := .agg (L.map fun s => .lit (.string s.data.toList))
theorem texts_data : (Rows.laid_flagstone_flagstonedraw_texts : DataW Unit) = strsData drawTexts := by kernel_rfl
theorem versions_data : (Rows.laid_flagstone_flagstonedraw_versions : DataW Unit) = strsData drawVersions := by kernel_rfl
theorem lists_data : (Rows.laid_flagstone_flagstonedraw_lists : DataW Unit) = .agg (drawLists.map fun L => .slice (L.map fun s => .lit (.string s.data.toList)) []) := by kernel_rfl
theorem strs_of_trod {W : World} {n t : Nat} {L : List ByteArray} {cs : List Value} {fuel : Nat} {p : List MemPlace} (ht : Tryd.prog.underlying t = some (.array n 9)) (hn : L.length = n)
    {held : Bool} (hd : DataW.trod (fun _ => ()) Tryd.prog W 0 (fun _ => true) held fuel t cs = some (strsData L, p)) (i : Nat) (hi : i < L.length) : cs[i]? = some (.string L[i]) := by
  obtain ⟨xs, m, _, hx, hlen, hxl, hat⟩ := DataW.trod_array ht hd
  have hc1 : Tryd.prog.cellsOf 9 = 1 := by kernel_rfl
  have h1 := hat i (by omega)
  rw [hc1, Nat.mul_one] at h1
  obtain ⟨b, hb⟩ : ∃ b, xs[i]? = some b := ⟨xs[i]'(by omega), List.getElem?_eq_getElem (by omega)⟩
  rw [hb] at h1
  obtain ⟨s, hs, hbs, _⟩ := DataW.trod_string Tryd.underlying9 h1
  have e0 := congrArg Prod.fst hx
  simp only [strsData, DataW.agg.injEq] at e0
  have hb1 : b.1 = .lit (.string L[i].data.toList) := by
    have := congrArg (·[i]?) e0
    simp [hb, hi] at this
    exact this.symm
  rw [hbs] at hb1
  simp only [DataW.lit.injEq, Lit.string.injEq] at hb1
  have hsw : s = L[i] := bytes_inj hb1
  rw [← hsw]
  have h2 := congrArg (fun l : List Value => l[0]?) hs
  simp at h2
  exact h2
theorem reads_strs {W : World} {name : String} {g n t : Nat} {L : List ByteArray} (hg0 : Tryd.prog.globalNamed name = some g) (hty0 : (Tryd.prog.globals[g]?).map (·.type) = some t) (ht : Tryd.prog.underlying t = some (.array n 9)) (hn : L.length = n)
    (h : VarReads Tryd.prog W name (strsData L)) (i : Nat) (hi : i < L.length) : W.cell? ⟨g, i, none⟩ = some (.string L[i]) := by
  obtain ⟨g', t', cs, fuel, p, hg, hty, hvar, hd⟩ := h
  obtain rfl := Option.some.inj (hg0.symm.trans hg)
  obtain rfl := Option.some.inj (hty0.symm.trans hty)
  have := strs_of_trod ht hn hd i hi
  rw [World.var?_cell hg hvar i, ← Array.getElem?_toList]
  exact this
theorem reads_lists {W : World} (h : VarReads Tryd.prog W "flagstone/flagstonedraw.lists" (.agg (drawLists.map fun L => .slice (L.map fun s => .lit (.string s.data.toList)) []))) (i : Nat) (hi : i < drawLists.length) :
    ∃ (a : Option Addr) (c : Nat), W.cell? ⟨2, i, none⟩ = some (.slice a (drawLists[i].length : Nat) c) ∧ (a = none → c = 0) ∧ drawLists[i].length ≤ c ∧
    ∀ j (hj : j < drawLists[i].length), ∃ (b off : Nat), a = some ⟨b, off, none⟩ ∧ b < W.heap.size ∧ W.cell? ⟨b, off + j, none⟩ = some (.string drawLists[i][j]) := by
  obtain ⟨g', t', cs, fuel, p, hg, hty, hvar, hd⟩ := h
  obtain rfl := Option.some.inj ((show Tryd.prog.globalNamed "flagstone/flagstonedraw.lists" = some 2 by kernel_rfl).symm.trans hg)
  obtain rfl := Option.some.inj ((show (Tryd.prog.globals[2]?).map (·.type) = some 68 by kernel_rfl).symm.trans hty)
  have hlen5 : drawLists.length = 5 := rfl
  obtain ⟨xs, m, _, hx, hlen, hxl, hat⟩ := DataW.trod_array Tryd.underlying68 hd
  have hc1 : Tryd.prog.cellsOf 22 = 1 := by kernel_rfl
  have h1 := hat i (by omega)
  rw [hc1, Nat.mul_one] at h1
  obtain ⟨b, hb⟩ : ∃ b, xs[i]? = some b := ⟨xs[i]'(by omega), List.getElem?_eq_getElem (by omega)⟩
  rw [hb] at h1
  have e0 := congrArg Prod.fst hx
  simp only [DataW.agg.injEq] at e0
  have hb1 : b.1 = .slice (drawLists[i].map fun s => .lit (.string s.data.toList)) [] := by
    have := congrArg (·[i]?) e0
    simp [hb, hi] at this
    exact this.symm
  have hcell : ∀ v, (cs.toList.drop i).take 1 = [v] → W.cell? ⟨2, i, none⟩ = some v := by
    intro v hv
    rw [World.var?_cell hg hvar i]
    have h2 := congrArg (fun l : List Value => l[0]?) hv
    simp at h2
    exact h2
  rcases Deep.open_strs Tryd.underlying22 Tryd.underlying9 (by kernel_rfl) h1 with ⟨hcs, hx2⟩ | ⟨a, len, cap, mm, Sx, hcs, _, hl, hml, hmm, hx2, hcel⟩
  · rw [hx2] at hb1
    cases hb1
  · have hmm2 : mm = cap := by simpa using hmm
    subst hmm2
    rw [hx2] at hb1
    simp only [DataW.slice.injEq] at hb1
    obtain ⟨eE, eR⟩ := hb1
    have hlenE : len = drawLists[i].length := by
      have := congrArg List.length eE
      simpa using this
    have hsx : ∀ j (hj : j < drawLists[i].length), Sx j = drawLists[i][j] := by
      intro j hj
      have := congrArg (·[j]?) eE
      simp [hj, show j < len by omega] at this
      exact ByteArray.ext this
    refine ⟨some a, mm, ?_, (fun h => by cases h), by omega, fun j hj => ?_⟩
    · rw [hcell _ hcs, hlenE]
    · have hj2 := (hcel j (by omega)).1
      obtain ⟨bb, off, spot⟩ := a
      have hspot : spot = none := by simpa [Addr.add] using World.cell?_spot ((hcel 0 (by omega)).1)
      subst hspot
      rw [WideShapes.add_plain] at hj2
      exact ⟨bb, off, rfl, block_lt_of_cell hj2, by rw [hj2, hsx j hj]⟩
theorem draw8 {W : World} (hL : laidMet Tryd.prog laid8 W) : DrawL W := by
  have h1 := laidMet.reads hL (n := "flagstone/flagstonedraw.texts") (d := Rows.laid_flagstone_flagstonedraw_texts) (.tail _ (.tail _ (.tail _ (.tail _ (.head _)))))
  have h2 := laidMet.reads hL (n := "flagstone/flagstonedraw.versions") (d := Rows.laid_flagstone_flagstonedraw_versions) (.tail _ (.tail _ (.tail _ (.tail _ (.tail _ (.head _))))))
  have h3 := laidMet.reads hL (n := "flagstone/flagstonedraw.lists") (d := Rows.laid_flagstone_flagstonedraw_lists) (.tail _ (.tail _ (.tail _ (.tail _ (.tail _ (.tail _ (.head _)))))))
  rw [texts_data] at h1
  rw [versions_data] at h2
  rw [lists_data] at h3
  exact ⟨fun i hi => reads_strs (by kernel_rfl) (by kernel_rfl) Tryd.underlying57 rfl h1 i hi, fun i hi => reads_strs (by kernel_rfl) (by kernel_rfl) Tryd.underlying67 rfl h2 i hi, fun i hi => reads_lists h3 i hi⟩
end Go.Proofs.YtipncjbgippkcaaDoor
/- What the statements of layer 3 share: a value that is not too large, and values in a row of the call's own. -/
namespace Go.Proofs.YtipncjbgippkcaaDoor
open Go Go.RowKit

def smallB (x : Val) : Bool := decide (x.list.length ≤ 40) && (decide (x.text.size ≤ 400) && x.list.all fun s => decide (s.size ≤ 400))
theorem smallB_big (x : Val) (h : 40 < x.list.length) : smallB x = false := by
  unfold smallB
  rw [decide_eq_false (by omega)]
  rfl
theorem smallB_long (x : Val) (h : 400 < x.text.size) : smallB x = false := by
  unfold smallB
  rw [decide_eq_false (show ¬ x.text.size ≤ 400 by omega)]
  simp
theorem smallB_one (x : Val) (i : Nat) (hi : i < x.list.length) (h : 400 < x.list[i].size) : smallB x = false := by
  unfold smallB
  have : (x.list.all fun s => decide (s.size ≤ 400)) = false := by
    rw [List.all_eq_false]
    exact ⟨x.list[i], List.getElem_mem hi, by simp; omega⟩
  rw [this]
  simp
theorem smallB_yes (x : Val) (h0 : x.list.length ≤ 40) (h1 : x.text.size ≤ 400) (h2 : ∀ i (hi : i < x.list.length), x.list[i].size ≤ 400) : smallB x = true := by
  unfold smallB
  rw [decide_eq_true h0, decide_eq_true h1]
  simp only [Bool.true_and, List.all_eq_true, decide_eq_true_eq]
  intro s hs
  obtain ⟨i, hi, rfl⟩ := List.getElem_of_mem hs
  exact h2 i hi
structure SmallV (x : Val) : Prop where
  list : x.list.length ≤ 40
  text : x.text.size ≤ 400
  each : ∀ s ∈ x.list, s.size ≤ 400
theorem smallB_facts (x : Val) (h : smallB x = true) : SmallV x := by
  unfold smallB at h
  simp only [Bool.and_eq_true, decide_eq_true_eq, List.all_eq_true] at h
  exact ⟨h.1, h.2.1, fun s hs => by simpa using h.2.2 s hs⟩
set_option maxHeartbeats 4000000 in
theorem small_any (x : Val) (a : Option Addr) (c : Nat) (w : World) (h : ValIn x a c w) :
    Calls Tryd.prog 9 #[x.agg a c] w fun e w' => e = .returned (.bool (smallB x)) ∧ Below w.heap.size w w' := by
  obtain ⟨_, _, htx, hcap, _, hA, hea⟩ := h
  have hll : x.list.length ≤ 9223372036854775807 := by omega
  have h1 : Box1 x a c w.heap.size w (w.alloc (.cells #[.int .i64 x.kind, .int .i64 x.num, .string x.text, .slice a (x.list.length : Nat) c] 24)) := ⟨heap_alloc_new w _, (Below.refl _ w).alloc (Nat.le_refl _) _⟩
  obtain ⟨R, hR⟩ : ∃ R, smallB x = R := ⟨_, rfl⟩
  rw [hR]
  have q1 := Lib.hid (smallB_big x)
  have q2 := Lib.hid (smallB_long x)
  have q3 := Lib.hid (smallB_one x)
  have q4 := Lib.hid (smallB_yes x)
  rw [hR] at q1 q2 q3 q4
  clear hR hcap
  obtain ⟨k, n, t, l⟩ := x
  unfold Val.agg
  simp only at h1 q1 q2 q3 q4 htx hA hea hll ⊢
  replace hA := Lib.hid hA
  replace hea := Lib.hid hea
  go_enter Tryd.func9, Tryd.ntmps9
  go_upto_region 1 with (fail)
  generalize w.alloc (.cells #[.int .i64 k, .int .i64 n, .string t, .slice a (l.length : Nat) c] 24) = w0 at h1 ⊢
  have p2 : w0.cell? ⟨w.heap.size, 2, none⟩ = some (.string t) := by rw [Lib.cell_of_heap h1.one]; rfl
  have p3 : w0.cell? ⟨w.heap.size, 3, none⟩ = some (.slice a l.length c) := by rw [Lib.cell_of_heap h1.one]; rfl
  have hbl := h1.below
  by_cases hl : 40 < l.length
  · have hR := Lib.hid (q1.out hl)
    go_wp2
    go_ret
    exact ⟨by rw [hR.out]; rfl, hbl⟩
  · by_cases ht : 400 < t.size
    · have hR := Lib.hid (q2.out ht)
      go_wp2
      go_ret
      exact ⟨by rw [hR.out]; rfl, hbl⟩
    · have hl' : l.length ≤ 40 := by omega
      have ht' : t.size ≤ 400 := by omega
      go_wp2
      go_loop [3] (fun i => ∃ m : Nat, m ≤ l.length ∧ i = .int .i64 m ∧ Hid (∀ j (hj : j < l.length), j < m → l[j].size ≤ 400)) (fun i => l.length - (intOf i).toNat)
      case atStart => exact ⟨0, Nat.zero_le _, rfl, Lib.hid (fun j _ h => by omega)⟩
      case round =>
        obtain ⟨m, hm, rfl, hno⟩ := hrel
        by_cases hlt : m < l.length
        · obtain ⟨b, off, rfl, hbk, hc⟩ := hA.out m hlt
          have hcw := (hbl.cell (p := ⟨b, off + m, none⟩) hbk).trans hc
          have hlt' : (m : Int) < (l.length : Int) := by omega
          have hq3 := q3.out m hlt
          have hst : l[m].size ≤ 400 → ∀ j (hj : j < l.length), j < m + 1 → l[j].size ≤ 400 := fun h j hj hjm => if h2 : j < m then hno.out j hj h2 else (by have e : j = m := (by omega); subst e; exact h)
          replace hc := Lib.hid hc
          replace hst := Lib.hid hst
          replace hq3 := Lib.hid hq3
          obtain ⟨s, hs⟩ : ∃ s, l[m] = s := ⟨_, rfl⟩
          rw [hs] at hcw hst hq3
          replace hs := Lib.hid hs
          by_cases hz : 400 < s.size
          · have hR := Lib.hid (hq3.out hz)
            clear hno hst hq3
            go_wp2
            go_ret
            exact ⟨by rw [hR.out]; rfl, hbl⟩
          · have hno2 := Lib.hid (hst.out (by omega))
            clear hno hst hq3
            go_wp2
            go_round
            case rel => exact ⟨m + 1, by omega, by go_num, hno2⟩
            case measure => simp [intOf]; omega
        · obtain rfl : m = l.length := by omega
          have hlt' : ¬ (l.length : Int) < (l.length : Int) := by omega
          have hR := Lib.hid (q4.out hl' ht' (fun i hi => hno.out i hi hi))
          clear hno
          go_wp2
          go_ret
          exact ⟨by rw [hR.out]; rfl, hbl⟩
/-- A value in block B from place o on. -/
structure Elem (x : Val) (a : Option Addr) (c B o : Nat) (w : World) : Prop where
  c0 : w.cell? ⟨B, o, none⟩ = some (.int .i64 x.kind)
  c1 : w.cell? ⟨B, o + 1, none⟩ = some (.int .i64 x.num)
  c2 : w.cell? ⟨B, o + 2, none⟩ = some (.string x.text)
  c3 : w.cell? ⟨B, o + 3, none⟩ = some (.slice a (x.list.length : Nat) c)
  texts : TextsAre a x.list w
  lt : B < w.heap.size
theorem Elem.below {x : Val} {a : Option Addr} {c B o : Nat} {w w' : World} (h : Elem x a c B o w) (hb : Below w.heap.size w w') : Elem x a c B o w' :=
  ⟨(hb.cell (p := ⟨B, o, none⟩) h.lt).trans h.c0, (hb.cell (p := ⟨B, o + 1, none⟩) h.lt).trans h.c1, (hb.cell (p := ⟨B, o + 2, none⟩) h.lt).trans h.c2, (hb.cell (p := ⟨B, o + 3, none⟩) h.lt).trans h.c3, h.texts.below (Nat.le_refl _) hb, Nat.lt_of_lt_of_le h.lt hb.size⟩
/-- What the walks ask of a value's sizes. -/
structure FitV (x : Val) : Prop where
  list : x.list.length ≤ 1000
  text : x.text.size ≤ 1000
  each : ∀ s ∈ x.list, s.size ≤ 1000
theorem SmallV.fit {x : Val} (h : SmallV x) : FitV x := ⟨Nat.le_trans h.list (by omega), Nat.le_trans h.text (by omega), fun s hs => Nat.le_trans (h.each s hs) (by omega)⟩
end Go.Proofs.YtipncjbgippkcaaDoor
/- The source form of a valid value is read as the value: plain laws, of no program. -/
namespace Go.Proofs.YtipncjbgippkcaaDoor
open Go Go.RowKit

/-- What follows a text in the source form of a list. -/
def tailL : List ByteArray → List UInt8
  | [] => [93]
  | t :: ts => 44 :: 32 :: (quoteL t.data.toList ++ tailL ts)
theorem unqP_quote (t : ByteArray) (hv : validB t = true) : unqP (quoteB t) = (t, 0) := by
  have h := unqV_quote t hv
  rw [unqV_eq] at h
  change Value.tuple #[.string (unqP (quoteB t)).1, .int .i64 (unqP (quoteB t)).2] = strE t.data.toList 0 at h
  unfold strE at h
  injection h with h
  have e1 := congrArg (fun a : Array Value => a[0]?) h
  have e2 := congrArg (fun a : Array Value => a[1]?) h
  simp at e1 e2
  exact Prod.ext e1 e2
theorem endL_quote (t : ByteArray) (r : List UInt8) : endL ((quoteL t.data.toList ++ r).drop 1) = some ((escL t.data.toList).length + 1) := by
  have h : (quoteL t.data.toList ++ r).drop 1 = escL t.data.toList ++ 34 :: r := by simp [quoteL]
  rw [h]
  exact endL_unS _ [] _ r (unS_escL t.data.toList [])
theorem elemsF_src : ∀ (ts : List ByteArray) (t : ByteArray) (f : Nat) (r : ByteArray), validB t = true → ts.all validB = true → r.data.toList = quoteL t.data.toList ++ tailL ts → r.size ≤ f → elemsF f r = some (t :: ts)
  | ts, t, f, r, ht, hts, hr, hf => by
    have hd : endL (r.data.toList.drop 1) = some ((escL t.data.toList).length + 1) := by rw [hr]; exact endL_quote t _
    have hrl : r.data.toList.length = r.size := rfl
    have hql : (quoteL t.data.toList).length = (escL t.data.toList).length + 1 + 1 := by simp [quoteL]
    have hx : r.extract 0 ((escL t.data.toList).length + 1 + 1) = quoteB t := by
      apply ByteArray.ext
      apply Array.toList_inj.1
      rw [Lib.extract_data, hr, ← hql]
      show ((quoteL t.data.toList ++ tailL ts).drop 0).take ((quoteL t.data.toList).length - 0) = (quoteL t.data.toList)
      simp
    have hy : (r.extract ((escL t.data.toList).length + 1 + 1) r.size).data.toList = tailL ts := by
      rw [Lib.extract_data, List.take_of_length_le (by rw [List.length_drop]; omega), hr, ← hql]
      exact List.drop_left' rfl
    have hu : (unqP (r.extract 0 ((escL t.data.toList).length + 1 + 1))).2 = 0 := by rw [hx, unqP_quote t ht]
    have hu1 : (unqP (r.extract 0 ((escL t.data.toList).length + 1 + 1))).1 = t := by rw [hx, unqP_quote t ht]
    match ts, hts, hy with
    | [], _, hy =>
      have he : r.extract ((escL t.data.toList).length + 1 + 1) r.size = ⟨#[93]⟩ := by
        apply ByteArray.ext
        apply Array.toList_inj.1
        rw [hy]
        rfl
      rw [elemsF_last f r _ hf hd hu he, hu1]
    | t2 :: ts2, hts, hy =>
      have hts2 : validB t2 = true ∧ ts2.all validB = true := by simpa using hts
      have hne : r.extract ((escL t.data.toList).length + 1 + 1) r.size ≠ ⟨#[93]⟩ := by
        intro e
        rw [e] at hy
        simp [tailL] at hy
      have hp : Lib.hasPrefix (r.extract ((escL t.data.toList).length + 1 + 1) r.size).data.toList [44, 32] = true := by
        rw [hy]
        simp [tailL, Lib.hasPrefix, List.isPrefixOf]
      obtain ⟨g, rfl⟩ : ∃ g, f = g + 1 := ⟨f - 1, by
        have := endL_le _ _ hd
        rw [List.length_drop] at this
        omega⟩
      rw [elemsF_next g r _ hd hu hne hp, hu1]
      have hz : ((r.extract ((escL t.data.toList).length + 1 + 1) r.size).extract 2 (r.extract ((escL t.data.toList).length + 1 + 1) r.size).size).data.toList = quoteL t2.data.toList ++ tailL ts2 := by
        rw [Lib.extract_data, List.take_of_length_le (by rw [List.length_drop]; exact Nat.le_refl _), hy]
        rfl
      rw [elemsF_src ts2 t2 g _ hts2.1 hts2.2 hz (by rw [ByteArray.size_extract, ByteArray.size_extract]; omega)]
      rfl
  termination_by ts => ts.length
theorem joinU_cons (x : ByteArray) (xs : List ByteArray) : ∀ k, k ≤ xs.length → joinU (x :: xs) (k + 1) = x.data.toList ++ (xs.take k).flatMap fun y => 44 :: 32 :: y.data.toList
  | 0, _ => by simp [joinU]
  | k + 1, h => by
    have ih := joinU_cons x xs k (by omega)
    show (if k + 1 = 0 then [] else joinU (x :: xs) (k + 1) ++ [44, 32]) ++ ((x :: xs).getD (k + 1) ByteArray.empty).data.toList = _
    have hg : (x :: xs).getD (k + 1) ByteArray.empty = xs[k]'(by omega) := by simp [List.getD, show k < xs.length by omega]
    rw [if_neg (by omega), ih, List.take_succ_eq_append_getElem (show k < xs.length by omega), List.flatMap_append, hg]
    simp only [List.flatMap_cons, List.flatMap_nil, List.append_assoc, List.cons_append, List.nil_append, List.append_nil]
theorem tailL_eq : ∀ ts : List ByteArray, tailL ts = ((ts.map quoteB).flatMap fun y => 44 :: 32 :: y.data.toList) ++ [93]
  | [] => rfl
  | t :: ts => by
    rw [tailL, tailL_eq ts]
    simp [quoteB]
theorem fmt_src (t : ByteArray) (ts : List ByteArray) : (fmtTo (t :: ts) (t :: ts).length ++ ⟨#[93]⟩ : ByteArray).data.toList = 91 :: (quoteL t.data.toList ++ tailL ts) := by
  rw [fmtTo_join (t :: ts) _ (Nat.le_refl _), append_data, append_data, tailL_eq]
  have h := joinU_cons (quoteB t) (ts.map quoteB) ts.length (by simp)
  rw [List.map_cons, List.length_cons]
  show ([91] ++ (joinU (quoteB t :: ts.map quoteB) (ts.length + 1)) ++ [93] : List UInt8) = _
  rw [h, List.take_of_length_le (by simp)]
  show ([91] ++ (quoteL t.data.toList ++ _) ++ [93] : List UInt8) = _
  simp
theorem head_prefix {l : List UInt8} {c d : UInt8} (h : l.head? = some c) : Lib.hasPrefix l [d] = decide (c = d) := by
  cases l with
  | nil => cases h
  | cons a t =>
    simp at h
    subst h
    have : (d == a) = decide (a = d) := by
      rw [Bool.eq_iff_iff, beq_iff_eq, decide_eq_true_eq]
      exact eq_comm
    simpa [Lib.hasPrefix, List.isPrefixOf] using this
theorem formP_head (s : ByteArray) (c : UInt8) (h : s.data.toList.head? = some c) (h1 : c ≠ 116) (h2 : c ≠ 102) : formP s = if c = 34 then 3 else if c = 91 then 5 else if 0 ≤ Lib.indexByte s.data.toList 46 then 4 else 2 := by
  unfold formP
  rw [if_neg, head_prefix h, head_prefix h]
  · simp only [decide_eq_true_eq]
  · rintro (rfl | rfl)
    · simp at h; exact h1 h.symm
    · simp at h; exact h2 h.symm
theorem itoa_head (n : Int) : ∃ c, (Lib.itoa n).head? = some c ∧ c ≠ 116 ∧ c ≠ 102 ∧ c ≠ 34 ∧ c ≠ 91 := by
  obtain ⟨h1, _, _, h4⟩ := decDigits_all n.natAbs
  have hc : ∃ c, (Lib.decDigits n.natAbs).head? = some c ∧ isD c = true := by
    cases hd : Lib.decDigits n.natAbs with
    | nil => exact absurd hd h4
    | cons a t =>
      rw [hd, List.all_cons, Bool.and_eq_true] at h1
      exact ⟨a, rfl, h1.1⟩
  unfold Lib.itoa
  split
  · exact ⟨45, rfl, by decide, by decide, by decide, by decide⟩
  · obtain ⟨c, e, hd⟩ := hc
    rw [show n.toNat = n.natAbs by omega]
    refine ⟨c, e, ?_, ?_, ?_, ?_⟩ <;> (rintro rfl; revert hd; decide)
theorem index_none : ∀ (l : List UInt8), (∀ c ∈ l, c ≠ 46) → Lib.indexByte l 46 = -1
  | [], _ => rfl
  | a :: t, h => by
    have ih := index_none t (fun c hc => h c (List.mem_cons_of_mem _ hc))
    unfold Lib.indexByte
    rw [if_neg (by simpa using h a (List.mem_cons_self ..)), ih]
    rfl
theorem itoa_nodot (n : Int) : ∀ c ∈ Lib.itoa n, c ≠ 46 := by
  have hd := (decDigits_all n.natAbs).1
  intro c hc
  unfold Lib.itoa at hc
  split at hc
  · rcases List.mem_cons.1 hc with rfl | hc
    · decide
    · exact isD_dot (List.all_eq_true.1 hd c hc)
  · rw [show n.toNat = n.natAbs by omega] at hc
    exact isD_dot (List.all_eq_true.1 hd c hc)
theorem parseP_all (n : Int) (h0 : -1099511627776 ≤ n) (h1 : n ≤ 1099511627776) : parseP ⟨(Lib.itoa n).toArray⟩ = (n, 0) := by
  have h := parse_itoa n
  rw [if_pos ⟨h0, h1⟩, parseV_eq] at h
  unfold numE at h
  injection h with h
  have e1 := congrArg (fun a : Array Value => a[0]?) h
  have e2 := congrArg (fun a : Array Value => a[1]?) h
  simp at e1 e2
  exact Prod.ext e1 e2
/-- A version begins with a digit or a minus sign, and has a period. -/
theorem ver_head (s : ByteArray) (h : verOk s) : ∃ c, s.data.toList.head? = some c ∧ c ≠ 116 ∧ c ≠ 102 ∧ c ≠ 34 ∧ c ≠ 91 := by
  have hp := h.1.1
  have hseg : (segAt s 0).data.toList = s.data.toList.take (nextDot s 0) := by
    unfold segAt
    rw [Lib.extract_data]
    show (s.data.toList.drop 0).take (nextDot s 0 - 0) = _
    simp
  unfold parseP at hp
  split at hp
  · cases hp
  · rename_i hc
    have hne : Lib.trimPrefix (segAt s 0).data.toList [45] ≠ [] := fun e => hc (.inl e)
    have hall : (Lib.trimPrefix (segAt s 0).data.toList [45]).all isD = true := by
      cases ha : (Lib.trimPrefix (segAt s 0).data.toList [45]).all isD with
      | true => rfl
      | false => exact absurd (.inr (.inr ha)) hc
    rw [hseg] at hne hall
    cases hs : s.data.toList with
    | nil => rw [hs] at hne; simp [Lib.trimPrefix, Lib.hasPrefix] at hne
    | cons a t =>
      rw [hs] at hne hall
      refine ⟨a, rfl, ?_⟩
      cases hn : nextDot s 0 with
      | zero => rw [hn] at hne; simp [Lib.trimPrefix, Lib.hasPrefix] at hne
      | succ m =>
        rw [hn, List.take_succ_cons] at hall
        by_cases ha : a = 45
        · subst ha
          exact ⟨by decide, by decide, by decide, by decide⟩
        · have hnp : Lib.hasPrefix (a :: t.take m) [45] = false := by
            rw [head_prefix (c := a) rfl]
            exact decide_eq_false ha
          unfold Lib.trimPrefix at hall
          rw [if_neg (by rw [hnp]; simp), List.all_cons, Bool.and_eq_true] at hall
          have hd := hall.1
          refine ⟨?_, ?_, ?_, ?_⟩ <;> (rintro rfl; revert hd; decide)
theorem ver_dot (s : ByteArray) (h : verOk s) : 0 ≤ Lib.indexByte s.data.toList 46 := by
  have h1 : nextDot s 0 < s.size := (h.1.2.2.2).1 (by omega)
  have hz : s.extract 0 s.size = s := by simp
  have h2 := index_rest s 0 (Nat.zero_le _)
  rw [hz, if_pos h1] at h2
  omega
/-- What was written is read as it was. -/
theorem parse_format (x : Val) (h : checkE x = 0) : parseR (formatP x).1 = (x, 0) := by
  have hk := checkE_kind x h
  obtain ⟨hnum, htext, hlist⟩ := checkE_parts x h
  have hver := checkE_ver x h
  have hsh : shapeP x := by
    unfold checkE at h
    rw [if_neg (by omega)] at h
    by_cases hp : shapeP x
    · exact hp
    · rw [if_pos hp] at h; cases h
  obtain ⟨k, n, t, l⟩ := x
  simp only at hk hnum htext hlist hver hsh
  obtain ⟨s1, s2, s3⟩ := hsh
  simp only at s1 s2 s3
  have main : (readP (formatP ⟨k, n, t, l⟩).1) = (⟨k, n, t, l⟩, true) := by
    unfold formatP
    rw [if_neg (by rw [h]; simp)]
    simp only
    have hc : k = 1 ∨ k = 2 ∨ k = 3 ∨ k = 4 ∨ k = 5 := by omega
    rcases hc with rfl | rfl | rfl | rfl | rfl
    · have ht0 : t = ⟨#[]⟩ := text_empty (by omega)
      have hl0 : l = [] := List.length_eq_zero_iff.1 (by omega)
      subst ht0
      subst hl0
      rw [if_pos rfl]
      have hn : n = 0 ∨ n = 1 := by
        unfold checkE at h
        rw [if_neg (by simp)] at h
        by_cases hp : shapeP ⟨1, n, ⟨#[]⟩, []⟩
        · rw [if_neg (by simpa using hp), if_pos rfl] at h
          by_cases g : n = 0 ∨ n = 1
          · exact g
          · rw [if_neg g] at h; cases h
        · rw [if_pos hp] at h; cases h
      rcases hn with rfl | rfl <;> rfl
    · have ht0 : t = ⟨#[]⟩ := text_empty (by omega)
      have hl0 : l = [] := List.length_eq_zero_iff.1 (by omega)
      subst ht0
      subst hl0
      rw [if_neg (by decide), if_pos rfl]
      obtain ⟨c, e, e1, e2, e3, e4⟩ := itoa_head n
      have hf : formP ⟨(Lib.itoa n).toArray⟩ = 2 := by
        rw [formP_head _ c e e1 e2, if_neg e3, if_neg e4, if_neg]
        rw [index_none _ (itoa_nodot n)]
        omega
      unfold readP
      rw [hf, if_neg (by decide), if_pos rfl, parseP_all n (hnum rfl).1 (hnum rfl).2]
      rfl
    · have hl0 : l = [] := List.length_eq_zero_iff.1 (by omega)
      have hn0 : n = 0 := by omega
      subst hl0
      subst hn0
      rw [if_neg (by decide), if_neg (by decide), if_pos rfl]
      have hf : formP (quoteB t) = 3 := by
        rw [formP_head _ 34 rfl (by decide) (by decide), if_pos rfl]
      unfold readP
      rw [hf, if_neg (by decide), if_neg (by decide), if_pos rfl, unqP_quote t (htext rfl)]
      rfl
    · have hl0 : l = [] := List.length_eq_zero_iff.1 (by omega)
      have hn0 : n = 0 := by omega
      subst hl0
      subst hn0
      rw [if_neg (by decide), if_neg (by decide), if_neg (by decide), if_pos rfl]
      have hv := hver rfl
      obtain ⟨c, e, e1, e2, e3, e4⟩ := ver_head t hv
      have hf : formP t = 4 := by rw [formP_head _ c e e1 e2, if_neg e3, if_neg e4, if_pos (ver_dot t hv)]
      unfold readP
      rw [hf, if_neg (by decide), if_neg (by decide), if_neg (by decide), if_pos rfl]
    · have ht0 : t = ⟨#[]⟩ := text_empty (by omega)
      have hn0 : n = 0 := by omega
      subst ht0
      subst hn0
      rw [if_neg (by decide), if_neg (by decide), if_neg (by decide), if_neg (by decide)]
      have hall := (hlist rfl).2
      have hlp : listP (fmtTo l l.length ++ ⟨#[93]⟩) = some l := by
        cases l with
        | nil => rfl
        | cons a ts =>
          have hsrc := fmt_src a ts
          have ha : validB a = true ∧ ts.all validB = true := by simpa using hall
          have hne : (fmtTo (a :: ts) (a :: ts).length ++ ⟨#[93]⟩ : ByteArray) ≠ ⟨#[91, 93]⟩ := by
            intro e
            rw [e] at hsrc
            simp [quoteL] at hsrc
          have hp : Lib.hasPrefix (fmtTo (a :: ts) (a :: ts).length ++ ⟨#[93]⟩ : ByteArray).data.toList [91] = true := by
            rw [hsrc, head_prefix (c := 91) rfl]
            rfl
          unfold listP
          rw [if_neg hne, if_pos hp]
          refine elemsF_src ts a _ _ ha.1 ha.2 ?_ (by rw [ByteArray.size_extract]; omega)
          rw [Lib.extract_data, List.take_of_length_le (by rw [List.length_drop]; exact Nat.le_refl _), hsrc]
          rfl
      have hf : formP (fmtTo l l.length ++ ⟨#[93]⟩) = 5 := by
        cases l with
        | nil => rfl
        | cons a ts =>
          have hsrc := fmt_src a ts
          rw [formP_head _ 91 (by rw [hsrc]; rfl) (by decide) (by decide), if_neg (by decide), if_pos rfl]
      unfold readP
      rw [hf, if_neg (by decide), if_neg (by decide), if_neg (by decide), if_neg (by decide), hlp]
      rfl
  unfold parseR
  rw [main, if_pos ⟨rfl, h⟩]
theorem format_size (x : Val) (ht : x.text.size ≤ 1000) : (formatP x).1.size ≤ 10000 := by
  unfold formatP
  split
  · exact Nat.zero_le _
  · rename_i hc
    obtain ⟨hnum, htext, hlist⟩ := checkE_parts x (by simpa using hc)
    have hk := checkE_kind x (by simpa using hc)
    split
    · split <;> decide
    · split
      · rename_i h2
        have hb := hnum h2
        show (Lib.itoa x.num).toArray.size ≤ 10000
        rw [List.size_toArray]
        unfold Lib.itoa
        split
        · have := digits_le x.num.natAbs (by omega)
          rw [List.length_cons]
          omega
        · have := digits_le x.num.toNat (by omega)
          omega
      · split
        · rename_i h3
          have := quoteB_size (htext h3)
          simp only
          omega
        · split
          · simp only
            omega
          · obtain ⟨h20, hall⟩ := hlist (by omega)
            have := fmtTo_size x.list hall x.list.length (Nat.le_refl _)
            have h1 : (⟨#[93]⟩ : ByteArray).size = 1 := rfl
            simp only
            rw [ByteArray.size_append]
            omega
end Go.Proofs.YtipncjbgippkcaaDoor
