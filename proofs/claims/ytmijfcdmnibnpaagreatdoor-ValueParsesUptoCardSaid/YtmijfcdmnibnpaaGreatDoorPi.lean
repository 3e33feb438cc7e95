/- What the list of eight package-level variables gives, and a world that holds them. What the list of eight package-level variables says of the draw's texts, versions and lists. What the statements of layer 3 share: a value that is not too large, and values in a row of the call's own. -/
import Derived.Test.YtmijfcdmnibnpaaGreatDoorPg
import Derived.Test.YtmijfcdmnibnpaaGreatDoorPf
import Derived.Deep.Strs
/- What the list of eight package-level variables gives, and a world that holds them. -/
namespace Go.Proofs.YtmijfcdmnibnpaaGreatDoor
open Go Go.RowKit Go.Shelf Go.ChangeShapes Go.WideShapes Go.ChangeAt Go.Lib

def laid8 : List (String × DataW Unit) := [("math/bits.deBruijn32tab", Rows.laid_math_bits_deBruijn32tab), ("math/bits.deBruijn64tab", Rows.laid_math_bits_deBruijn64tab), ("internal/strconv.uint64pow10", Rows.laid_internal_strconv_uint64pow10), ("unicode/utf8.acceptRanges", Rows.laid_unicode_utf8_acceptRanges), ("flagstone/flagstonedraw.texts", Rows.laid_flagstone_flagstonedraw_texts), ("flagstone/flagstonedraw.versions", Rows.laid_flagstone_flagstonedraw_versions), ("flagstone/flagstonedraw.lists", Rows.laid_flagstone_flagstonedraw_lists), ("unicode/utf8.first", Rows.laid_unicode_utf8_first)]
theorem env8 {W : World} (hL : laidMet Tryz.prog laid8 W) : Env W := by
  have h1 := laidMet.reads hL (n := "internal/strconv.uint64pow10") (d := Rows.laid_internal_strconv_uint64pow10) (.tail _ (.tail _ (.head _)))
  have h2 := laidMet.reads hL (n := "unicode/utf8.acceptRanges") (d := Rows.laid_unicode_utf8_acceptRanges) (.tail _ (.tail _ (.tail _ (.head _))))
  have h3 := laidMet.reads hL (n := "unicode/utf8.first") (d := Rows.laid_unicode_utf8_first) (.tail _ (.tail _ (.tail _ (.tail _ (.tail _ (.tail _ (.tail _ (.head _))))))))
  rw [accept_data] at h2
  rw [first_data] at h3
  exact env_of_reads h1 h2 h3
noncomputable def laidWorld8 (os : Os) : World :=
  let w0 := World.doorLaid Tryz.prog 2000 os
  { w0 with heap := w0.heap.modify 4 fun
      | .cells _ t frozen => .cells (Lib.firstTab.map fun z => Value.int .u8 z).toArray t frozen
      | o => o }
theorem laid_met8 (os : Os) (args : Array Value) : laidMet Tryz.prog laid8 ((laidWorld8 os).forCall (fun _ _ => 0) ⟨#[], args, []⟩).memory :=
  laidMet_of_run' 8 (by kernel_rfl) (by kernel_rfl)
end Go.Proofs.YtmijfcdmnibnpaaGreatDoor
/- What the list of eight package-level variables says of the draw's texts, versions and lists. -/
namespace Go.Proofs.YtmijfcdmnibnpaaGreatDoor
open Go Go.RowKit Go.Shelf Go.ChangeShapes Go.WideShapes Go.ChangeAt Go.Lib

/-- What the draw's variables hold, whatever block the choices will lie in. -/
structure DrawL (w : World) : Prop where
  t : ∀ i (h : i < drawTexts.length), w.cell? ⟨2, i, none⟩ = some (.string drawTexts[i])
  v : ∀ i (h : i < drawVersions.length), w.cell? ⟨0, i, none⟩ = some (.string drawVersions[i])
  ls : ∀ i (h : i < drawLists.length), ∃ (a : Option Addr) (c : Nat), w.cell? ⟨1, i, none⟩ = some (.slice a (drawLists[i].length : Nat) c) ∧ (a = none → c = 0) ∧ drawLists[i].length ≤ c ∧
    ∀ j (hj : j < drawLists[i].length), ∃ (b off : Nat), a = some ⟨b, off, none⟩ ∧ b < w.heap.size ∧ w.cell? ⟨b, off + j, none⟩ = some (.string drawLists[i][j])
theorem DrawL.below {w w' : World} (h : DrawL w) (hb : Below w.heap.size w w') : DrawL w' := by
  refine ⟨fun i hi => ?_, fun i hi => ?_, fun i hi => ?_⟩
  · have h1 := h.t i hi
    rw [hb.cell (p := ⟨2, i, none⟩) (block_lt_of_cell h1)]
    exact h1
  · have h1 := h.v i hi
    rw [hb.cell (p := ⟨0, i, none⟩) (block_lt_of_cell h1)]
    exact h1
  · obtain ⟨a, c, h1, h2, h3, h4⟩ := h.ls i hi
    refine ⟨a, c, ?_, h2, h3, fun j hj => ?_⟩
    · rw [hb.cell (p := ⟨1, i, none⟩) (block_lt_of_cell h1)]
      exact h1
    · obtain ⟨b, off, e1, e3, e4⟩ := h4 j hj
      exact ⟨b, off, e1, Nat.lt_of_lt_of_le e3 hb.size, by rw [hb.cell (p := ⟨b, off + j, none⟩) e3]; exact e4⟩
theorem DrawL.fresh {w w' : World} (h : DrawL w) (hb : Below w.heap.size w w') : DrawG w.heap.size w' := by
  have h' := h.below hb
  have l1 := block_lt_of_cell (h.t 0 (by decide))
  have l2 := block_lt_of_cell (h.v 0 (by decide))
  obtain ⟨a0, c0, h0, _⟩ := h.ls 0 (by decide)
  have l3 := block_lt_of_cell h0
  refine ⟨h'.t, h'.v, fun i hi => ?_, Nat.ne_of_lt l1, Nat.ne_of_lt l2, Nat.ne_of_lt l3⟩
  obtain ⟨a, c, h1, h2, h3, h4⟩ := h.ls i hi
  refine ⟨a, c, ?_, h2, h3, fun j hj => ?_⟩
  · rw [hb.cell (p := ⟨1, i, none⟩) (block_lt_of_cell h1)]
    exact h1
  · obtain ⟨b, off, e1, e3, e4⟩ := h4 j hj
    exact ⟨b, off, e1, Nat.ne_of_lt e3, Nat.lt_of_lt_of_le e3 hb.size, by rw [hb.cell (p := ⟨b, off + j, none⟩) e3]; exact e4⟩
def strsData (L : List ByteArray) : DataW Unit := .agg (L.map fun s => .lit (.string s.data.toList))
theorem texts_data : (Rows.laid_flagstone_flagstonedraw_texts : DataW Unit) = strsData drawTexts := by kernel_rfl
theorem versions_data : (Rows.laid_flagstone_flagstonedraw_versions : DataW Unit) = strsData drawVersions := by kernel_rfl
theorem lists_data : (Rows.laid_flagstone_flagstonedraw_lists : DataW Unit) = .agg (drawLists.map fun L => .slice (L.map fun s => .lit (.string s.data.toList)) []) := by kernel_rfl
theorem strs_of_trod {W : World} {n t : Nat} {L : List ByteArray} {cs : List Value} {fuel : Nat} {p : List MemPlace} (ht : Tryz.prog.underlying t = some (.array n 9)) (hn : L.length = n)
    {held : Bool} (hd : DataW.trod (fun _ => ()) Tryz.prog W 0 (fun _ => true) held fuel t cs = some (strsData L, p)) (i : Nat) (hi : i < L.length) : cs[i]? = some (.string L[i]) := by
  obtain ⟨xs, m, _, hx, hlen, hxl, hat⟩ := DataW.trod_array ht hd
  have hc1 : Tryz.prog.cellsOf 9 = 1 := by kernel_rfl
  have h1 := hat i (by omega)
  rw [hc1, Nat.mul_one] at h1
  obtain ⟨b, hb⟩ : ∃ b, xs[i]? = some b := ⟨xs[i]'(by omega), List.getElem?_eq_getElem (by omega)⟩
  rw [hb] at h1
  obtain ⟨s, hs, hbs, _⟩ := DataW.trod_string Tryz.underlying9 h1
  have e0 := congrArg Prod.fst hx
  simp only [strsData, DataW.agg.injEq] at e0
  have hb1 : b.1 = .lit (.string L[i].data.toList) := by
    have := congrArg (·[i]?) e0
    simp [hb, hi] at this
    exact this.symm
  rw [hbs] at hb1
  simp only [DataW.lit.injEq, Lit.string.injEq] at hb1
  have hsw : s = L[i] := bytes_inj hb1
  rw [← hsw]
  have h2 := congrArg (fun l : List Value => l[0]?) hs
  simp at h2
  exact h2
theorem reads_strs {W : World} {name : String} {g n t : Nat} {L : List ByteArray} (hg0 : Tryz.prog.globalNamed name = some g) (hty0 : (Tryz.prog.globals[g]?).map (·.type) = some t) (ht : Tryz.prog.underlying t = some (.array n 9)) (hn : L.length = n)
    (h : VarReads Tryz.prog W name (strsData L)) (i : Nat) (hi : i < L.length) : W.cell? ⟨g, i, none⟩ = some (.string L[i]) := by
  obtain ⟨g', t', cs, fuel, p, hg, hty, hvar, hd⟩ := h
  obtain rfl := Option.some.inj (hg0.symm.trans hg)
  obtain rfl := Option.some.inj (hty0.symm.trans hty)
  have := strs_of_trod ht hn hd i hi
  rw [World.var?_cell hg hvar i, ← Array.getElem?_toList]
  exact this
theorem reads_lists {W : World} (h : VarReads Tryz.prog W "flagstone/flagstonedraw.lists" (.agg (drawLists.map fun L => .slice (L.map fun s => .lit (.string s.data.toList)) []))) (i : Nat) (hi : i < drawLists.length) :
    ∃ (a : Option Addr) (c : Nat), W.cell? ⟨1, i, none⟩ = some (.slice a (drawLists[i].length : Nat) c) ∧ (a = none → c = 0) ∧ drawLists[i].length ≤ c ∧
    ∀ j (hj : j < drawLists[i].length), ∃ (b off : Nat), a = some ⟨b, off, none⟩ ∧ b < W.heap.size ∧ W.cell? ⟨b, off + j, none⟩ = some (.string drawLists[i][j]) := by
  obtain ⟨g', t', cs, fuel, p, hg, hty, hvar, hd⟩ := h
  obtain rfl := Option.some.inj ((show Tryz.prog.globalNamed "flagstone/flagstonedraw.lists" = some 1 by kernel_rfl).symm.trans hg)
  obtain rfl := Option.some.inj ((show (Tryz.prog.globals[1]?).map (·.type) = some 59 by kernel_rfl).symm.trans hty)
  have hlen5 : drawLists.length = 5 := rfl
  obtain ⟨xs, m, _, hx, hlen, hxl, hat⟩ := DataW.trod_array Tryz.underlying59 hd
  have hc1 : Tryz.prog.cellsOf 27 = 1 := by kernel_rfl
  have h1 := hat i (by omega)
  rw [hc1, Nat.mul_one] at h1
  obtain ⟨b, hb⟩ : ∃ b, xs[i]? = some b := ⟨xs[i]'(by omega), List.getElem?_eq_getElem (by omega)⟩
  rw [hb] at h1
  have e0 := congrArg Prod.fst hx
  simp only [DataW.agg.injEq] at e0
  have hb1 : b.1 = .slice (drawLists[i].map fun s => .lit (.string s.data.toList)) [] := by
    have := congrArg (·[i]?) e0
    simp [hb, hi] at this
    exact this.symm
  have hcell : ∀ v, (cs.toList.drop i).take 1 = [v] → W.cell? ⟨1, i, none⟩ = some v := by
    intro v hv
    rw [World.var?_cell hg hvar i]
    have h2 := congrArg (fun l : List Value => l[0]?) hv
    simp at h2
    exact h2
  rcases Deep.open_strs Tryz.underlying27 Tryz.underlying9 (by kernel_rfl) h1 with ⟨hcs, hx2⟩ | ⟨a, len, cap, mm, Sx, hcs, _, hl, hml, hmm, hx2, hcel⟩
  · rw [hx2] at hb1
    cases hb1
  · have hmm2 : mm = cap := by simpa using hmm
    subst hmm2
    rw [hx2] at hb1
    simp only [DataW.slice.injEq] at hb1
    obtain ⟨eE, eR⟩ := hb1
    have hlenE : len = drawLists[i].length := by
      have := congrArg List.length eE
      simpa using this
    have hsx : ∀ j (hj : j < drawLists[i].length), Sx j = drawLists[i][j] := by
      intro j hj
      have := congrArg (·[j]?) eE
      simp [hj, show j < len by omega] at this
      exact ByteArray.ext this
    refine ⟨some a, mm, ?_, (fun h => by cases h), by omega, fun j hj => ?_⟩
    · rw [hcell _ hcs, hlenE]
    · have hj2 := (hcel j (by omega)).1
      obtain ⟨bb, off, spot⟩ := a
      have hspot : spot = none := by simpa [Addr.add] using World.cell?_spot ((hcel 0 (by omega)).1)
      subst hspot
      rw [WideShapes.add_plain] at hj2
      exact ⟨bb, off, rfl, block_lt_of_cell hj2, by rw [hj2, hsx j hj]⟩
theorem draw8 {W : World} (hL : laidMet Tryz.prog laid8 W) : DrawL W := by
  have h1 := laidMet.reads hL (n := "flagstone/flagstonedraw.texts") (d := Rows.laid_flagstone_flagstonedraw_texts) (.tail _ (.tail _ (.tail _ (.tail _ (.head _)))))
  have h2 := laidMet.reads hL (n := "flagstone/flagstonedraw.versions") (d := Rows.laid_flagstone_flagstonedraw_versions) (.tail _ (.tail _ (.tail _ (.tail _ (.tail _ (.head _))))))
  have h3 := laidMet.reads hL (n := "flagstone/flagstonedraw.lists") (d := Rows.laid_flagstone_flagstonedraw_lists) (.tail _ (.tail _ (.tail _ (.tail _ (.tail _ (.tail _ (.head _)))))))
  rw [texts_data] at h1
  rw [versions_data] at h2
  rw [lists_data] at h3
  exact ⟨fun i hi => reads_strs (by kernel_rfl) (by kernel_rfl) Tryz.underlying70 rfl h1 i hi, fun i hi => reads_strs (by kernel_rfl) (by kernel_rfl) Tryz.underlying58 rfl h2 i hi, fun i hi => reads_lists h3 i hi⟩
end Go.Proofs.YtmijfcdmnibnpaaGreatDoor
/- What the statements of layer 3 share: a value that is not too large, and values in a row of the call's own. -/
namespace Go.Proofs.YtmijfcdmnibnpaaGreatDoor
open Go Go.RowKit

def smallB (x : Val) : Bool := decide (x.list.length ≤ 40) && (decide (x.text.size ≤ 400) && x.list.all fun s => decide (s.size ≤ 400))
theorem smallB_big (x : Val) (h : 40 < x.list.length) : smallB x = false := by
  unfold smallB
  rw [decide_eq_false (by omega)]
  rfl
theorem smallB_long (x : Val) (h : 400 < x.text.size) : smallB x = false := by
  unfold smallB
  rw [decide_eq_false (show ¬ x.text.size ≤ 400 by omega)]
  simp
theorem smallB_one (x : Val) (i : Nat) (hi : i < x.list.length) (h : 400 < x.list[i].size) : smallB x = false := by
  unfold smallB
  have : (x.list.all fun s => decide (s.size ≤ 400)) = false := by
    rw [List.all_eq_false]
    exact ⟨x.list[i], List.getElem_mem hi, by simp; omega⟩
  rw [this]
  simp
theorem smallB_yes (x : Val) (h0 : x.list.length ≤ 40) (h1 : x.text.size ≤ 400) (h2 : ∀ i (hi : i < x.list.length), x.list[i].size ≤ 400) : smallB x = true := by
  unfold smallB
  rw [decide_eq_true h0, decide_eq_true h1]
  simp only [Bool.true_and, List.all_eq_true, decide_eq_true_eq]
  intro s hs
  obtain ⟨i, hi, rfl⟩ := List.getElem_of_mem hs
  exact h2 i hi
structure SmallV (x : Val) : Prop where
  list : x.list.length ≤ 40
  text : x.text.size ≤ 400
  each : ∀ s ∈ x.list, s.size ≤ 400
theorem smallB_facts (x : Val) (h : smallB x = true) : SmallV x := by
  unfold smallB at h
  simp only [Bool.and_eq_true, decide_eq_true_eq, List.all_eq_true] at h
  exact ⟨h.1, h.2.1, fun s hs => by simpa using h.2.2 s hs⟩
set_option maxHeartbeats 4000000 in
theorem small_any (x : Val) (a : Option Addr) (c : Nat) (w : World) (h : ValIn x a c w) :
    Calls Tryz.prog 13 #[x.agg a c] w fun e w' => e = .returned (.bool (smallB x)) ∧ Below w.heap.size w w' := by
  obtain ⟨_, _, htx, hcap, _, hA, hea⟩ := h
  have hll : x.list.length ≤ 9223372036854775807 := by omega
  have h1 : Box1 x a c w.heap.size w (w.alloc (.cells #[.int .i64 x.kind, .int .i64 x.num, .string x.text, .slice a (x.list.length : Nat) c] 29)) := ⟨heap_alloc_new w _, (Below.refl _ w).alloc (Nat.le_refl _) _⟩
  obtain ⟨R, hR⟩ : ∃ R, smallB x = R := ⟨_, rfl⟩
  rw [hR]
  have q1 := Lib.hid (smallB_big x)
  have q2 := Lib.hid (smallB_long x)
  have q3 := Lib.hid (smallB_one x)
  have q4 := Lib.hid (smallB_yes x)
  rw [hR] at q1 q2 q3 q4
  clear hR hcap
  obtain ⟨k, n, t, l⟩ := x
  unfold Val.agg
  simp only at h1 q1 q2 q3 q4 htx hA hea hll ⊢
  replace hA := Lib.hid hA
  replace hea := Lib.hid hea
  go_enter Tryz.func13, Tryz.ntmps13
  go_upto_region 1 with (fail)
  generalize w.alloc (.cells #[.int .i64 k, .int .i64 n, .string t, .slice a (l.length : Nat) c] 29) = w0 at h1 ⊢
  have p2 : w0.cell? ⟨w.heap.size, 2, none⟩ = some (.string t) := by rw [Lib.cell_of_heap h1.one]; rfl
  have p3 : w0.cell? ⟨w.heap.size, 3, none⟩ = some (.slice a l.length c) := by rw [Lib.cell_of_heap h1.one]; rfl
  have hbl := h1.below
  by_cases hl : 40 < l.length
  · have hR := Lib.hid (q1.out hl)
    go_wp2
    go_ret
    exact ⟨by rw [hR.out]; rfl, hbl⟩
  · by_cases ht : 400 < t.size
    · have hR := Lib.hid (q2.out ht)
      go_wp2
      go_ret
      exact ⟨by rw [hR.out]; rfl, hbl⟩
    · have hl' : l.length ≤ 40 := by omega
      have ht' : t.size ≤ 400 := by omega
      go_wp2
      go_loop [3] (fun i => ∃ m : Nat, m ≤ l.length ∧ i = .int .i64 m ∧ Hid (∀ j (hj : j < l.length), j < m → l[j].size ≤ 400)) (fun i => l.length - (intOf i).toNat)
      case atStart => exact ⟨0, Nat.zero_le _, rfl, Lib.hid (fun j _ h => by omega)⟩
      case round =>
        obtain ⟨m, hm, rfl, hno⟩ := hrel
        by_cases hlt : m < l.length
        · obtain ⟨b, off, rfl, hbk, hc⟩ := hA.out m hlt
          have hcw := (hbl.cell (p := ⟨b, off + m, none⟩) hbk).trans hc
          have hlt' : (m : Int) < (l.length : Int) := by omega
          have hq3 := q3.out m hlt
          have hst : l[m].size ≤ 400 → ∀ j (hj : j < l.length), j < m + 1 → l[j].size ≤ 400 := fun h j hj hjm => if h2 : j < m then hno.out j hj h2 else (by have e : j = m := (by omega); subst e; exact h)
          replace hc := Lib.hid hc
          replace hst := Lib.hid hst
          replace hq3 := Lib.hid hq3
          obtain ⟨s, hs⟩ : ∃ s, l[m] = s := ⟨_, rfl⟩
          rw [hs] at hcw hst hq3
          replace hs := Lib.hid hs
          by_cases hz : 400 < s.size
          · have hR := Lib.hid (hq3.out hz)
            clear hno hst hq3
            go_wp2
            go_ret
            exact ⟨by rw [hR.out]; rfl, hbl⟩
          · have hno2 := Lib.hid (hst.out (by omega))
            clear hno hst hq3
            go_wp2
            go_round
            case rel => exact ⟨m + 1, by omega, by go_num, hno2⟩
            case measure => simp [intOf]; omega
        · obtain rfl : m = l.length := by omega
          have hlt' : ¬ (l.length : Int) < (l.length : Int) := by omega
          have hR := Lib.hid (q4.out hl' ht' (fun i hi => hno.out i hi hi))
          clear hno
          go_wp2
          go_ret
          exact ⟨by rw [hR.out]; rfl, hbl⟩
/-- A value in block B from place o on. -/
structure Elem (x : Val) (a : Option Addr) (c B o : Nat) (w : World) : Prop where
  c0 : w.cell? ⟨B, o, none⟩ = some (.int .i64 x.kind)
  c1 : w.cell? ⟨B, o + 1, none⟩ = some (.int .i64 x.num)
  c2 : w.cell? ⟨B, o + 2, none⟩ = some (.string x.text)
  c3 : w.cell? ⟨B, o + 3, none⟩ = some (.slice a (x.list.length : Nat) c)
  texts : TextsAre a x.list w
  lt : B < w.heap.size
theorem Elem.below {x : Val} {a : Option Addr} {c B o : Nat} {w w' : World} (h : Elem x a c B o w) (hb : Below w.heap.size w w') : Elem x a c B o w' :=
  ⟨(hb.cell (p := ⟨B, o, none⟩) h.lt).trans h.c0, (hb.cell (p := ⟨B, o + 1, none⟩) h.lt).trans h.c1, (hb.cell (p := ⟨B, o + 2, none⟩) h.lt).trans h.c2, (hb.cell (p := ⟨B, o + 3, none⟩) h.lt).trans h.c3, h.texts.below (Nat.le_refl _) hb, Nat.lt_of_lt_of_le h.lt hb.size⟩
/-- What the walks ask of a value's sizes. -/
structure FitV (x : Val) : Prop where
  list : x.list.length ≤ 1000
  text : x.text.size ≤ 1000
  each : ∀ s ∈ x.list, s.size ≤ 1000
theorem SmallV.fit {x : Val} (h : SmallV x) : FitV x := ⟨Nat.le_trans h.list (by omega), Nat.le_trans h.text (by omega), fun s hs => Nat.le_trans (h.each s hs) (by omega)⟩
end Go.Proofs.YtmijfcdmnibnpaaGreatDoor
