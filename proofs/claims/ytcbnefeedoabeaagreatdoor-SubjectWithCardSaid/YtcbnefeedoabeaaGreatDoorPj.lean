/- From the listed package-level variables to what the walks of layer 5 ask of the world; a world that holds them all. What the list of six package-level variables says of the draw's texts, versions and lists. How a subject among the arguments is opened: contexts, their attributes, their values; each size within the reach. How a slice of bytes among the arguments of layer 5's rows is opened. -/
import Derived.Test.YtcbnefeedoabeaaGreatDoorPc
import Derived.Test.YtcbnefeedoabeaaGreatDoorPg
import Derived.Test.YtcbnefeedoabeaaGreatDoorRows
import Derived.ProofKit
import Derived.OpenShut
import Derived.Deep.DeepHandedRow
import Derived.Deep.DeepWitnessRowRef
import Derived.Deep.Strs
import Derived.Lib.LaidTab
import Derived.Lib.LaidIn
import Derived.Lib.LaidU8T
import Derived.Lib.LaidPrint
import Derived.SizedLaws
import Derived.LaidMore
import Derived.Test.YtcbnefeedoabeaaGreatDoorPa
import Derived.Lib.SmallJoins
import Derived.ChangeSlices
import Derived.Carry
import Derived.Laws.IdiomArrays
/- From the listed package-level variables to what the walks of layer 5 ask of the world; a world that holds them all. -/
namespace Go.Proofs.YtcbnefeedoabeaaGreatDoor
open Go Go.RowKit Go.Shelf Go.ChangeShapes Go.WideShapes Go.ChangeAt Go.Lib

theorem own : ownKnob Tryz.prog.godebug = none := by kernel_rfl
def wordsData : DataW Unit := .slice (words.map fun s => .lit (.string s.data.toList)) []
theorem first_data : Rows.laid_unicode_utf8_first = firstData := by kernel_rfl
theorem accept_data : (Rows.laid_unicode_utf8_acceptRanges : DataW Unit) = acceptData := by kernel_rfl
theorem words_data : (Rows.laid_flagstone_text_reservedWords : DataW Unit) = wordsData := by kernel_rfl
theorem res_of_reads {W : World} (h : VarReads Tryz.prog W "flagstone/text.reservedWords" wordsData) : Res words W := by
  obtain ⟨g', t', cs, fuel, p, hg, hty, hvar, hd⟩ := h
  obtain rfl := Option.some.inj ((show Tryz.prog.globalNamed "flagstone/text.reservedWords" = some 6 by kernel_rfl).symm.trans hg)
  obtain rfl := Option.some.inj ((show (Tryz.prog.globals[6]?).map (·.type) = some 39 by kernel_rfl).symm.trans hty)
  have hc : Tryz.prog.cellsOf 9 = 1 := by kernel_rfl
  rcases DataW.trod_slice Tryz.underlying39 hd with ⟨_, hx⟩ | ⟨a, len, cap, el, rs, m, rfl, hcs, hx, _, hlc, _, hel, helem, hsp, _⟩
  · cases hx
  have e0 := congrArg Prod.fst hx
  simp only [wordsData, DataW.slice.injEq] at e0
  obtain ⟨eE, eR⟩ := e0
  have hlen : len = words.length := by
    have := congrArg List.length eE
    simp at this
    omega
  have hcap : cap = len := by
    have h1 := (hsp rfl).1
    have h2 : rs = [] := by simpa using eR.symm
    rw [h2] at h1
    simp at h1
    omega
  have hcell : ∀ (i : Nat) (hi : i < words.length), W.cell? (a.add i) = some (.string words[i]) := by
    intro i hi
    have h1 := helem i (by omega)
    rw [hc] at h1
    obtain ⟨b, hb⟩ : ∃ b, el[i]? = some b := ⟨el[i]'(by omega), List.getElem?_eq_getElem (by omega)⟩
    rw [hb] at h1
    obtain ⟨ce, hce, hte⟩ := Option.bind_eq_some_iff.1 h1
    obtain ⟨s, hs, hbs, _⟩ := DataW.trod_string Tryz.underlying9 hte
    have hb1 : b.1 = .lit (.string words[i].data.toList) := by
      have := congrArg (·[i]?) eE
      simp [hb, hi] at this
      exact this.symm
    rw [hbs] at hb1
    simp only [DataW.lit.injEq, Lit.string.injEq] at hb1
    have hsw : s = words[i] := bytes_inj hb1
    obtain ⟨_, _, hcc⟩ := World.cells?_some hce
    have := hcc 0 (by omega)
    rw [hs] at this
    simp only [Nat.mul_one] at this
    have e1 : (a.add i).add 0 = a.add i := by simp [Addr.add]
    rw [e1] at this
    rw [this, ← hsw]
    rfl
  obtain ⟨R, o, sR⟩ := a
  have h46 : 0 < words.length := by decide
  obtain rfl : sR = none := by
    have h00 := hcell 0 h46
    have : (Addr.add ⟨R, o, sR⟩ 0) = ⟨R, o, sR⟩ := by simp [Addr.add]
    rw [this] at h00
    exact Go.Proofs.cell_spot h00
  refine ⟨R, o, ?_, ?_, fun j hj => ?_⟩
  · have h00 := hcell 0 h46
    exact block_lt_of_cell h00
  · rw [World.var?_cell hg hvar 0, ← Array.getElem?_toList, hcs, hcap, hlen]
    rfl
  · have := hcell j hj
    by_cases h0 : j = 0
    · subst h0
      simpa [Addr.add] using this
    · simpa [Addr.add, h0] using this

def laid5 : List (String × DataW Unit) := [("unicode/utf8.acceptRanges", Rows.laid_unicode_utf8_acceptRanges), ("flagstone/flagstonedraw.texts", Rows.laid_flagstone_flagstonedraw_texts), ("flagstone/flagstonedraw.versions", Rows.laid_flagstone_flagstonedraw_versions), ("flagstone/flagstonedraw.lists", Rows.laid_flagstone_flagstonedraw_lists), ("flagstone/text.reservedWords", Rows.laid_flagstone_text_reservedWords), ("unicode/utf8.first", Rows.laid_unicode_utf8_first)]
theorem env5 {W : World} (hL : laidMet Tryz.prog laid5 W) : Env W := by
  have h2 := laidMet.reads hL (n := "unicode/utf8.acceptRanges") (d := Rows.laid_unicode_utf8_acceptRanges) (.head _)
  have h1 := laidMet.reads hL (n := "flagstone/text.reservedWords") (d := Rows.laid_flagstone_text_reservedWords) (.tail _ (.tail _ (.tail _ (.tail _ (.head _)))))
  have h3 := laidMet.reads hL (n := "unicode/utf8.first") (d := Rows.laid_unicode_utf8_first) (.tail _ (.tail _ (.tail _ (.tail _ (.tail _ (.head _))))))
  rw [accept_data] at h2
  rw [first_data] at h3
  rw [words_data] at h1
  exact ⟨utf8Tabs_of_readsT (U8Types.of196 Tryz.laysValid) ⟨by kernel_rfl, by kernel_rfl, by kernel_rfl, by kernel_rfl, by kernel_rfl, by kernel_rfl, by kernel_rfl⟩ h3 h2, res_of_reads h1⟩
noncomputable def laidWorld5 (os : Os) : World :=
  let w0 := World.doorLaid Tryz.prog 2000 os
  { w0 with heap := w0.heap.modify 4 fun
      | .cells _ t frozen => .cells (Lib.firstTab.map fun z => Value.int .u8 z).toArray t frozen
      | o => o }
theorem laid_met5 (os : Os) (args : Array Value) : laidMet Tryz.prog laid5 ((laidWorld5 os).forCall (fun _ _ => 0) ⟨#[], args, []⟩).memory :=
  laidMet_of_run' 8 (by kernel_rfl) (by kernel_rfl)
end Go.Proofs.YtcbnefeedoabeaaGreatDoor
/- What the list of six package-level variables says of the draw's texts, versions and lists. -/
namespace Go.Proofs.YtcbnefeedoabeaaGreatDoor
open Go Go.RowKit Go.Shelf Go.ChangeShapes Go.WideShapes Go.ChangeAt Go.Lib

/-- What the draw's variables hold, whatever block the choices will lie in. -/
structure DrawL (w : World) : Prop where
  t : ∀ i (h : i < drawTexts.length), w.cell? ⟨0, i, none⟩ = some (.string drawTexts[i])
  v : ∀ i (h : i < drawVersions.length), w.cell? ⟨1, i, none⟩ = some (.string drawVersions[i])
  ls : ∀ i (h : i < drawLists.length), ∃ (a : Option Addr) (c : Nat), w.cell? ⟨2, i, none⟩ = some (.slice a (drawLists[i].length : Nat) c) ∧ (a = none → c = 0) ∧ drawLists[i].length ≤ c ∧
    ∀ j (hj : j < drawLists[i].length), ∃ (b off : Nat), a = some ⟨b, off, none⟩ ∧ b < w.heap.size ∧ w.cell? ⟨b, off + j, none⟩ = some (.string drawLists[i][j])
theorem DrawL.below {w w' : World} (h : DrawL w) (hb : Below w.heap.size w w') : DrawL w' := by
  refine ⟨fun i hi => ?_, fun i hi => ?_, fun i hi => ?_⟩
  · have h1 := h.t i hi
    rw [hb.cell (p := ⟨0, i, none⟩) (block_lt_of_cell h1)]
    exact h1
  · have h1 := h.v i hi
    rw [hb.cell (p := ⟨1, i, none⟩) (block_lt_of_cell h1)]
    exact h1
  · obtain ⟨a, c, h1, h2, h3, h4⟩ := h.ls i hi
    refine ⟨a, c, ?_, h2, h3, fun j hj => ?_⟩
    · rw [hb.cell (p := ⟨2, i, none⟩) (block_lt_of_cell h1)]
      exact h1
    · obtain ⟨b, off, e1, e3, e4⟩ := h4 j hj
      exact ⟨b, off, e1, Nat.lt_of_lt_of_le e3 hb.size, by rw [hb.cell (p := ⟨b, off + j, none⟩) e3]; exact e4⟩
theorem DrawL.fresh {w w' : World} (h : DrawL w) (hb : Below w.heap.size w w') : DrawG w.heap.size w' := by
  have h' := h.below hb
  have l1 := block_lt_of_cell (h.t 0 (by decide))
  have l2 := block_lt_of_cell (h.v 0 (by decide))
  obtain ⟨a0, c0, h0, _⟩ := h.ls 0 (by decide)
  have l3 := block_lt_of_cell h0
  refine ⟨h'.t, h'.v, fun i hi => ?_, Nat.ne_of_lt l1, Nat.ne_of_lt l2, Nat.ne_of_lt l3⟩
  obtain ⟨a, c, h1, h2, h3, h4⟩ := h.ls i hi
  refine ⟨a, c, ?_, h2, h3, fun j hj => ?_⟩
  · rw [hb.cell (p := ⟨2, i, none⟩) (block_lt_of_cell h1)]
    exact h1
  · obtain ⟨b, off, e1, e3, e4⟩ := h4 j hj
    exact ⟨b, off, e1, Nat.ne_of_lt e3, Nat.lt_of_lt_of_le e3 hb.size, by rw [hb.cell (p := ⟨b, off + j, none⟩) e3]; exact e4⟩
def strsData (L : List ByteArray) : DataW Unit := .agg (L.map fun s => .lit (.string s.data.toList))
theorem texts_data : (Rows.laid_flagstone_flagstonedraw_texts : DataW Unit) = strsData drawTexts := by kernel_rfl
theorem versions_data : (Rows.laid_flagstone_flagstonedraw_versions : DataW Unit) = strsData drawVersions := by kernel_rfl
theorem lists_data : (Rows.laid_flagstone_flagstonedraw_lists : DataW Unit) = .agg (drawLists.map fun L => .slice (L.map fun s => .lit (.string s.data.toList)) []) := by kernel_rfl
theorem strs_of_trod {W : World} {n t : Nat} {L : List ByteArray} {cs : List Value} {fuel : Nat} {p : List MemPlace} (ht : Tryz.prog.underlying t = some (.array n 9)) (hn : L.length = n)
    {held : Bool} (hd : DataW.trod (fun _ => ()) Tryz.prog W 0 (fun _ => true) held fuel t cs = some (strsData L, p)) (i : Nat) (hi : i < L.length) : cs[i]? = some (.string L[i]) := by
  obtain ⟨xs, m, _, hx, hlen, hxl, hat⟩ := DataW.trod_array ht hd
  have hc1 : Tryz.prog.cellsOf 9 = 1 := by kernel_rfl
  have h1 := hat i (by omega)
  rw [hc1, Nat.mul_one] at h1
  obtain ⟨b, hb⟩ : ∃ b, xs[i]? = some b := ⟨xs[i]'(by omega), List.getElem?_eq_getElem (by omega)⟩
  rw [hb] at h1
  obtain ⟨s, hs, hbs, _⟩ := DataW.trod_string Tryz.underlying9 h1
  have e0 := congrArg Prod.fst hx
  simp only [strsData, DataW.agg.injEq] at e0
  have hb1 : b.1 = .lit (.string L[i].data.toList) := by
    have := congrArg (·[i]?) e0
    simp [hb, hi] at this
    exact this.symm
  rw [hbs] at hb1
  simp only [DataW.lit.injEq, Lit.string.injEq] at hb1
  have hsw : s = L[i] := bytes_inj hb1
  rw [← hsw]
  have h2 := congrArg (fun l : List Value => l[0]?) hs
  simp at h2
  exact h2
theorem reads_strs {W : World} {name : String} {g n t : Nat} {L : List ByteArray} (hg0 : Tryz.prog.globalNamed name = some g) (hty0 : (Tryz.prog.globals[g]?).map (·.type) = some t) (ht : Tryz.prog.underlying t = some (.array n 9)) (hn : L.length = n)
    (h : VarReads Tryz.prog W name (strsData L)) (i : Nat) (hi : i < L.length) : W.cell? ⟨g, i, none⟩ = some (.string L[i]) := by
  obtain ⟨g', t', cs, fuel, p, hg, hty, hvar, hd⟩ := h
  obtain rfl := Option.some.inj (hg0.symm.trans hg)
  obtain rfl := Option.some.inj (hty0.symm.trans hty)
  have := strs_of_trod ht hn hd i hi
  rw [World.var?_cell hg hvar i, ← Array.getElem?_toList]
  exact this
theorem reads_lists {W : World} (h : VarReads Tryz.prog W "flagstone/flagstonedraw.lists" (.agg (drawLists.map fun L => .slice (L.map fun s => .lit (.string s.data.toList)) []))) (i : Nat) (hi : i < drawLists.length) :
    ∃ (a : Option Addr) (c : Nat), W.cell? ⟨2, i, none⟩ = some (.slice a (drawLists[i].length : Nat) c) ∧ (a = none → c = 0) ∧ drawLists[i].length ≤ c ∧
    ∀ j (hj : j < drawLists[i].length), ∃ (b off : Nat), a = some ⟨b, off, none⟩ ∧ b < W.heap.size ∧ W.cell? ⟨b, off + j, none⟩ = some (.string drawLists[i][j]) := by
  obtain ⟨g', t', cs, fuel, p, hg, hty, hvar, hd⟩ := h
  obtain rfl := Option.some.inj ((show Tryz.prog.globalNamed "flagstone/flagstonedraw.lists" = some 2 by kernel_rfl).symm.trans hg)
  obtain rfl := Option.some.inj ((show (Tryz.prog.globals[2]?).map (·.type) = some 116 by kernel_rfl).symm.trans hty)
  have hlen5 : drawLists.length = 5 := rfl
  obtain ⟨xs, m, _, hx, hlen, hxl, hat⟩ := DataW.trod_array Tryz.underlying116 hd
  have hc1 : Tryz.prog.cellsOf 39 = 1 := by kernel_rfl
  have h1 := hat i (by omega)
  rw [hc1, Nat.mul_one] at h1
  obtain ⟨b, hb⟩ : ∃ b, xs[i]? = some b := ⟨xs[i]'(by omega), List.getElem?_eq_getElem (by omega)⟩
  rw [hb] at h1
  have e0 := congrArg Prod.fst hx
  simp only [DataW.agg.injEq] at e0
  have hb1 : b.1 = .slice (drawLists[i].map fun s => .lit (.string s.data.toList)) [] := by
    have := congrArg (·[i]?) e0
    simp [hb, hi] at this
    exact this.symm
  have hcell : ∀ v, (cs.toList.drop i).take 1 = [v] → W.cell? ⟨2, i, none⟩ = some v := by
    intro v hv
    rw [World.var?_cell hg hvar i]
    have h2 := congrArg (fun l : List Value => l[0]?) hv
    simp at h2
    exact h2
  rcases Deep.open_strs Tryz.underlying39 Tryz.underlying9 (by kernel_rfl) h1 with ⟨hcs, hx2⟩ | ⟨a, len, cap, mm, Sx, hcs, _, hl, hml, hmm, hx2, hcel⟩
  · rw [hx2] at hb1
    cases hb1
  · have hmm2 : mm = cap := by simpa using hmm
    subst hmm2
    rw [hx2] at hb1
    simp only [DataW.slice.injEq] at hb1
    obtain ⟨eE, eR⟩ := hb1
    have hlenE : len = drawLists[i].length := by
      have := congrArg List.length eE
      simpa using this
    have hsx : ∀ j (hj : j < drawLists[i].length), Sx j = drawLists[i][j] := by
      intro j hj
      have := congrArg (·[j]?) eE
      simp [hj, show j < len by omega] at this
      exact ByteArray.ext this
    refine ⟨some a, mm, ?_, (fun h => by cases h), by omega, fun j hj => ?_⟩
    · rw [hcell _ hcs, hlenE]
    · have hj2 := (hcel j (by omega)).1
      obtain ⟨bb, off, spot⟩ := a
      have hspot : spot = none := by simpa [Addr.add] using World.cell?_spot ((hcel 0 (by omega)).1)
      subst hspot
      rw [WideShapes.add_plain] at hj2
      exact ⟨bb, off, rfl, block_lt_of_cell hj2, by rw [hj2, hsx j hj]⟩
theorem draw5 {W : World} (hL : laidMet Tryz.prog laid5 W) : DrawL W := by
  have h1 := laidMet.reads hL (n := "flagstone/flagstonedraw.texts") (d := Rows.laid_flagstone_flagstonedraw_texts) (.tail _ (.head _))
  have h2 := laidMet.reads hL (n := "flagstone/flagstonedraw.versions") (d := Rows.laid_flagstone_flagstonedraw_versions) (.tail _ (.tail _ (.head _)))
  have h3 := laidMet.reads hL (n := "flagstone/flagstonedraw.lists") (d := Rows.laid_flagstone_flagstonedraw_lists) (.tail _ (.tail _ (.tail _ (.head _))))
  rw [texts_data] at h1
  rw [versions_data] at h2
  rw [lists_data] at h3
  exact ⟨fun i hi => reads_strs (by kernel_rfl) (by kernel_rfl) Tryz.underlying105 rfl h1 i hi, fun i hi => reads_strs (by kernel_rfl) (by kernel_rfl) Tryz.underlying115 rfl h2 i hi, fun i hi => reads_lists h3 i hi⟩
end Go.Proofs.YtcbnefeedoabeaaGreatDoor
/- How a subject among the arguments is opened: contexts, their attributes, their values; each size within the reach. -/
namespace Go.Proofs.YtcbnefeedoabeaaGreatDoor
open Go Go.RowKit Go.ChangeShapes Go.WideShapes Go.ChangeAt Go.Lib

theorem mem_weightsAll {H : Type} {P : Program} {e : TypeId} {d : DataW H} : ∀ {ds : List (DataW H)}, d ∈ ds → ∀ n ∈ d.weights P e, n ∈ DataW.weightsAll P e ds
  | x :: t, hd, n, hn => by
    simp only [DataW.weightsAll, List.mem_append]
    rcases List.mem_cons.1 hd with rfl | hd
    · exact .inl hn
    · exact .inr (mem_weightsAll hd n hn)
theorem mem_weightsEach {H : Type} {P : Program} : ∀ {ts : List TypeId} {ds : List (DataW H)} {j : Nat} {t : TypeId} {d : DataW H}, ts[j]? = some t → ds[j]? = some d → ∀ n ∈ d.weights P t, n ∈ DataW.weightsEach P ts ds
  | t0 :: ts, d0 :: ds, 0, t, d, ht, hd, n, hn => by
    simp at ht hd
    subst ht
    subst hd
    simp only [DataW.weightsEach, List.mem_append]
    exact .inl hn
  | t0 :: ts, d0 :: ds, j + 1, t, d, ht, hd, n, hn => by
    simp only [DataW.weightsEach, List.mem_append]
    exact .inr (mem_weightsEach (j := j) (by simpa using ht) (by simpa using hd) n hn)
  | [], _, _, _, _, ht, _, _, _ => by simp at ht
  | _ :: _, [], _, _, _, _, hd, _, _ => by simp at hd
/-- All that the datum weighs lies within the reach. -/
def Reach {H : Type} (t : TypeId) (d : DataW H) : Prop := ∀ n ∈ d.weights Tryz.prog t, n ≤ reachBytes
theorem reach_slice {H : Type} {t e : TypeId} {es sp : List (DataW H)} (hu : Tryz.prog.underlying t = some (.slice e)) (h : Reach t (.slice es sp)) : (es.length + sp.length) * Tryz.prog.bytesOf e ≤ reachBytes ∧ ∀ d ∈ es, Reach e d := by
  unfold Reach at h
  simp only [DataW.weights, hu] at h
  refine ⟨h _ (by simp), fun d hd n hn => h n ?_⟩
  simp only [List.mem_cons, List.mem_append]
  exact .inr (.inl (mem_weightsAll hd n hn))
theorem reach_part {H : Type} {t : TypeId} {fs : Array Field} {ps : List (DataW H)} (hu : Tryz.prog.underlying t = some (.struct fs)) (h : Reach t (.agg ps)) {j : Nat} {f : Field} {d : DataW H} (hf : fs[j]? = some f) (hd : ps[j]? = some d) : Reach f.type d := by
  unfold Reach at h
  simp only [DataW.weights, hu] at h
  intro n hn
  exact h n (mem_weightsEach (j := j) (by simpa using congrArg (Option.map Field.type) hf) hd n hn)
theorem reach_text {H : Type} {t : TypeId} {s : ByteArray} (h : Reach (H := H) t (.lit (.string s.data.toList))) : s.size ≤ 140737488351232 := by
  have := h s.data.toList.length (by simp [DataW.weights])
  have hl : s.data.toList.length = s.size := rfl
  unfold reachBytes at this
  omega
theorem byString : Tryz.prog.bytesOf 9 = 16 := by kernel_rfl
theorem byAttr : Tryz.prog.bytesOf 72 = 72 := by kernel_rfl
theorem byCtx : Tryz.prog.bytesOf 63 = 56 := by kernel_rfl
theorem clAttr : Tryz.prog.cellsOf 72 = 5 := by kernel_rfl
theorem clCtx : Tryz.prog.cellsOf 63 = 3 := by kernel_rfl
theorem clVal : Tryz.prog.cellsOf 41 = 4 := by kernel_rfl
theorem clStr : Tryz.prog.cellsOf 9 = 1 := by kernel_rfl
theorem clTexts : Tryz.prog.cellsOf 39 = 1 := by kernel_rfl
theorem clAttrs : Tryz.prog.cellsOf 61 = 1 := by kernel_rfl
theorem clCtxs : Tryz.prog.cellsOf 23 = 1 := by kernel_rfl
theorem clInt : Tryz.prog.cellsOf 3 = 1 := by kernel_rfl
variable {H : Type} {enc : TypeId × Value → H} {W : World}
set_option maxRecDepth 100000 in
theorem open_texts5 {fuel : Nat} {cs : List Value} {x : DataW H × List MemPlace} (h : DataW.trod enc Tryz.prog W 0 (fun _ => true) true fuel 39 cs = some x) (hr : Reach 39 x.1) :
    ∃ (l : List ByteArray) (p : Option Addr) (c : Nat), cs = [.slice p (l.length : Nat) c] ∧ ListP (fun _ => True) p c l W ∧ l.length ≤ 8796093022207 ∧ ∀ s ∈ l, s.size ≤ 140737488351232 := by
  rcases Deep.open_strs Tryz.underlying39 Tryz.underlying9 clStr h with ⟨hcs, _⟩ | ⟨a, len, cap, mm, Sx, hcs, _, hl, hml, hmm, hx, hcell⟩
  · exact ⟨[], none, 0, hcs, ⟨fun _ => rfl, Nat.le_refl _, fun i hi => by simp at hi⟩, by simp, fun t ht => by simp at ht⟩
  · have hmm2 : mm = cap := by simpa using hmm
    subst hmm2
    rw [hx] at hr
    obtain ⟨h1, h2⟩ := reach_slice Tryz.underlying39 hr
    rw [byString] at h1
    simp only [List.length_map, List.length_range] at h1
    unfold reachBytes at h1
    obtain ⟨b, off, spot⟩ := a
    refine ⟨(List.range len).map Sx, some ⟨b, off, spot⟩, mm, by rw [hcs]; simp, ⟨(fun h => by cases h), by simpa using hl, fun i hi => ?_⟩, by simp; omega, fun t ht => ?_⟩
    · have hil : i < len := by simpa using hi
      have hspot : spot = none := by simpa [Addr.add] using World.cell?_spot ((hcell 0 (by omega)).1)
      subst hspot
      have hci := (hcell i (by omega)).1
      rw [WideShapes.add_plain] at hci
      exact ⟨b, off, rfl, trivial, block_lt_of_cell hci, by rw [hci]; simp⟩
    · obtain ⟨i, hi, rfl⟩ := List.mem_map.1 ht
      exact reach_text (t := 9) (h2 _ (List.mem_map.2 ⟨i, hi, rfl⟩))
set_option maxRecDepth 100000 in
theorem open_value5 {fuel : Nat} {cs : List Value} {x : DataW H × List MemPlace} (h : DataW.trod enc Tryz.prog W 0 (fun _ => true) true fuel 41 cs = some x) (hr : Reach 41 x.1) :
    ∃ (v : Val) (p : Option Addr) (c : Nat), cs = [.int .i64 v.kind, .int .i64 v.num, .string v.text, .slice p (v.list.length : Nat) c] ∧ ListP (fun _ => True) p c v.list W ∧ v.text.size ≤ 140737488351232 ∧ v.list.length ≤ 8796093022207 ∧ ∀ s ∈ v.list, s.size ≤ 140737488351232 := by
  obtain ⟨y0, y1, y2, y3, n, rfl, hlen, h0, h1, h2, h3⟩ := Joins.trod_struct4 Tryz.underlying41 h
  rw [clVal] at hlen
  match cs, hlen with
  | [c0, c1, c2, c3], _ =>
  simp only [clInt, clStr, clTexts, List.drop_zero, List.drop_succ_cons, List.take_succ_cons, List.take_zero] at h0 h1 h2 h3
  obtain ⟨k, hk, _, _⟩ := DataW.trod_int Tryz.underlying3 h0
  obtain ⟨m, hm, _, _⟩ := DataW.trod_int Tryz.underlying3 h1
  obtain ⟨s, hs, hs2, _⟩ := DataW.trod_string Tryz.underlying9 h2
  cases hk
  cases hm
  cases hs
  have r2 := reach_part (j := 2) Tryz.underlying41 hr rfl rfl
  have r3 := reach_part (j := 3) Tryz.underlying41 hr rfl rfl
  obtain ⟨l, p, c, hc, hL, hl, he⟩ := open_texts5 h3 r3
  cases hc
  rw [hs2] at r2
  exact ⟨⟨k, m, s, l⟩, p, c, rfl, hL, reach_text r2, hl, he⟩
/-- A row of k-cell elements, element by element. -/
theorem cell_row {b off k i : Nat} {cs : List Value} (h : W.cells? 0 ((⟨b, off, none⟩ : Addr).add (i * k)) k = some cs) : ∀ j, j < k → W.cell? ⟨b, off + i * k + j, none⟩ = cs[j]? := by
  intro j hj
  have h1 := (World.cells?_some h).2.2 j hj
  rw [WideShapes.add_plain, WideShapes.add_plain] at h1
  exact h1
theorem spot_none {b off k : Nat} {spot : Option Nat} {cs : List Value} (hk : 0 < k) (h : W.cells? 0 (⟨b, off, spot⟩ : Addr) k = some cs) : spot = none := by
  have h1 := (World.cells?_some h).2.2 0 hk
  have hl := (World.cells?_some h).2.1
  obtain ⟨v, hv⟩ : ∃ v, cs[0]? = some v := ⟨cs[0]'(by omega), List.getElem?_eq_getElem (by omega)⟩
  rw [hv] at h1
  simpa [Addr.add] using World.cell?_spot h1
set_option maxRecDepth 100000 in
theorem open_attr5 {fuel : Nat} {cs : List Value} {x : DataW H × List MemPlace} (h : DataW.trod enc Tryz.prog W 0 (fun _ => true) true fuel 72 cs = some x) (hr : Reach 72 x.1) :
    ∃ (a : Attr) (p : Option Addr) (c : Nat), cs = [.string a.name, .int .i64 a.val.kind, .int .i64 a.val.num, .string a.val.text, .slice p (a.val.list.length : Nat) c] ∧ ListP (fun _ => True) p c a.val.list W ∧ FitA a := by
  obtain ⟨y0, y1, n, rfl, hlen, h0, h1⟩ := trod_struct2 Tryz.underlying72 h
  rw [clAttr] at hlen
  match cs, hlen with
  | [c0, c1, c2, c3, c4], _ =>
  simp only [clStr, clVal, List.drop_zero, List.drop_succ_cons, List.take_succ_cons, List.take_zero] at h0 h1
  obtain ⟨s, hs, hs2, _⟩ := DataW.trod_string Tryz.underlying9 h0
  cases hs
  have r0 := reach_part (j := 0) Tryz.underlying72 hr rfl rfl
  have r1 := reach_part (j := 1) Tryz.underlying72 hr rfl rfl
  obtain ⟨v, p, c, hc, hL, ht, hl, he⟩ := open_value5 h1 r1
  cases hc
  rw [hs2] at r0
  have hs3 := reach_text r0
  exact ⟨⟨s, v⟩, p, c, rfl, hL, ⟨by simp only; omega, by simp only; omega, by simp only; omega, fun t ht => by have := he t ht; omega⟩⟩
set_option maxRecDepth 100000 in
theorem open_attrs5 {fuel : Nat} {cs : List Value} {x : DataW H × List MemPlace} (h : DataW.trod enc Tryz.prog W 0 (fun _ => true) true fuel 61 cs = some x) (hr : Reach 61 x.1) :
    ∃ (l : List Attr) (p : Option Addr) (c : Nat), cs = [.slice p (l.length : Nat) c] ∧ AttrsP (fun _ => True) p c l W ∧ l.length ≤ 140737488351232 ∧ ∀ a ∈ l, FitA a := by
  rcases Deep.open_slice Tryz.underlying61 h with ⟨hcs, _⟩ | ⟨a, len, cap, mm, n, D, Pl, hcs, _, hl, hml, hmm, hx, hcell⟩
  · exact ⟨[], none, 0, hcs, ⟨fun _ => rfl, Nat.le_refl _, fun i hi => by simp at hi⟩, by simp, fun t ht => by simp at ht⟩
  · have hmm2 : mm = cap := by simpa using hmm
    subst hmm2
    rw [hx] at hr
    obtain ⟨h1, h2⟩ := reach_slice Tryz.underlying61 hr
    rw [byAttr] at h1
    simp only [List.length_map, List.length_range] at h1
    unfold reachBytes at h1
    rw [clAttr] at hcell
    have each : ∀ i, i < len → ∃ e : Attr × Option Addr × Nat, W.cells? 0 (a.add (i * 5)) 5 = some [.string e.1.name, .int .i64 e.1.val.kind, .int .i64 e.1.val.num, .string e.1.val.text, .slice e.2.1 (e.1.val.list.length : Nat) e.2.2] ∧ ListP (fun _ => True) e.2.1 e.2.2 e.1.val.list W ∧ FitA e.1 := by
      intro i hi
      obtain ⟨cs', hc1, hc2⟩ := hcell i (by omega)
      obtain ⟨e, p, c, he, hL, hF⟩ := open_attr5 hc2 (h2 _ (List.mem_map.2 ⟨i, List.mem_range.2 hi, rfl⟩))
      exact ⟨(e, p, c), by rw [hc1, he], hL, hF⟩
    haveI : Inhabited (Attr × Option Addr × Nat) := ⟨(⟨ByteArray.empty, ⟨0, 0, ByteArray.empty, []⟩⟩, none, 0)⟩
    obtain ⟨e, he⟩ := Deep.choose_lt each
    obtain ⟨b, off, spot⟩ := a
    refine ⟨(List.range len).map fun i => (e i).1, some ⟨b, off, spot⟩, mm, by rw [hcs]; simp, ⟨(fun h => by cases h), by simpa using hl, fun i hi => ?_⟩, by simp; omega, fun t ht => ?_⟩
    · have hil : i < len := by simpa using hi
      have hz := (he 0 (by omega)).1
      rw [Nat.zero_mul] at hz
      have hspot : spot = none := spot_none (k := 5) (by decide) (by simpa [Addr.add] using hz)
      subst hspot
      obtain ⟨hc, hL, _⟩ := he i hil
      have hr5 := cell_row hc
      rw [show ((List.range len).map fun i => (e i).1)[i] = (e i).1 from by simp]
      exact ⟨b, off, rfl, trivial, block_lt_of_cell (hr5 0 (by decide)), ⟨hr5 0 (by decide), hr5 1 (by decide), hr5 2 (by decide), hr5 3 (by decide), _, _, hr5 4 (by decide), hL⟩⟩
    · obtain ⟨i, hi, rfl⟩ := List.mem_map.1 ht
      exact (he i (List.mem_range.1 hi)).2.2
set_option maxRecDepth 100000 in
theorem open_ctx5 {fuel : Nat} {cs : List Value} {x : DataW H × List MemPlace} (h : DataW.trod enc Tryz.prog W 0 (fun _ => true) true fuel 63 cs = some x) (hr : Reach 63 x.1) :
    ∃ (a : Ctx) (p : Option Addr) (c : Nat), cs = [.string a.kind, .string a.key, .slice p (a.attrs.length : Nat) c] ∧ AttrsP (fun _ => True) p c a.attrs W ∧ FitC a := by
  obtain ⟨y0, y1, y2, n, rfl, hlen, h0, h1, h2⟩ := Deep.trod_struct3 Tryz.underlying63 h
  rw [clCtx] at hlen
  match cs, hlen with
  | [c0, c1, c2], _ =>
  simp only [clStr, clAttrs, List.drop_zero, List.drop_succ_cons, List.take_succ_cons, List.take_zero] at h0 h1 h2
  obtain ⟨s, hs, hs2, _⟩ := DataW.trod_string Tryz.underlying9 h0
  obtain ⟨t, ht, ht2, _⟩ := DataW.trod_string Tryz.underlying9 h1
  cases hs
  cases ht
  have r0 := reach_part (j := 0) Tryz.underlying63 hr rfl rfl
  have r1 := reach_part (j := 1) Tryz.underlying63 hr rfl rfl
  have r2 := reach_part (j := 2) Tryz.underlying63 hr rfl rfl
  obtain ⟨l, p, c, hc, hL, hl, he⟩ := open_attrs5 h2 r2
  cases hc
  rw [hs2] at r0
  rw [ht2] at r1
  have hs3 := reach_text r0
  have ht3 := reach_text r1
  exact ⟨⟨s, t, l⟩, p, c, rfl, hL, ⟨by simp only; omega, by simp only; omega, by simp only; omega, he⟩⟩
set_option maxRecDepth 100000 in
theorem open_ctxs5 {fuel : Nat} {cs : List Value} {x : DataW H × List MemPlace} (h : DataW.trod enc Tryz.prog W 0 (fun _ => true) true fuel 23 cs = some x) (hr : Reach 23 x.1) :
    ∃ (l : List Ctx) (p : Option Addr) (c : Nat), cs = [.slice p (l.length : Nat) c] ∧ CtxsP (fun _ => True) p c l W ∧ l.length ≤ 140737488351232 ∧ ∀ a ∈ l, FitC a := by
  rcases Deep.open_slice Tryz.underlying23 h with ⟨hcs, _⟩ | ⟨a, len, cap, mm, n, D, Pl, hcs, _, hl, hml, hmm, hx, hcell⟩
  · exact ⟨[], none, 0, hcs, ⟨fun _ => rfl, Nat.le_refl _, fun i hi => by simp at hi⟩, by simp, fun t ht => by simp at ht⟩
  · have hmm2 : mm = cap := by simpa using hmm
    subst hmm2
    rw [hx] at hr
    obtain ⟨h1, h2⟩ := reach_slice Tryz.underlying23 hr
    rw [byCtx] at h1
    simp only [List.length_map, List.length_range] at h1
    unfold reachBytes at h1
    rw [clCtx] at hcell
    have each : ∀ i, i < len → ∃ e : Ctx × Option Addr × Nat, W.cells? 0 (a.add (i * 3)) 3 = some [.string e.1.kind, .string e.1.key, .slice e.2.1 (e.1.attrs.length : Nat) e.2.2] ∧ AttrsP (fun _ => True) e.2.1 e.2.2 e.1.attrs W ∧ FitC e.1 := by
      intro i hi
      obtain ⟨cs', hc1, hc2⟩ := hcell i (by omega)
      obtain ⟨e, p, c, he, hL, hF⟩ := open_ctx5 hc2 (h2 _ (List.mem_map.2 ⟨i, List.mem_range.2 hi, rfl⟩))
      exact ⟨(e, p, c), by rw [hc1, he], hL, hF⟩
    haveI : Inhabited (Ctx × Option Addr × Nat) := ⟨(⟨ByteArray.empty, ByteArray.empty, []⟩, none, 0)⟩
    obtain ⟨e, he⟩ := Deep.choose_lt each
    obtain ⟨b, off, spot⟩ := a
    refine ⟨(List.range len).map fun i => (e i).1, some ⟨b, off, spot⟩, mm, by rw [hcs]; simp, ⟨(fun h => by cases h), by simpa using hl, fun i hi => ?_⟩, by simp; omega, fun t ht => ?_⟩
    · have hil : i < len := by simpa using hi
      have hz := (he 0 (by omega)).1
      rw [Nat.zero_mul] at hz
      have hspot : spot = none := spot_none (k := 3) (by decide) (by simpa [Addr.add] using hz)
      subst hspot
      obtain ⟨hc, hL, _⟩ := he i hil
      have hr5 := cell_row hc
      rw [show ((List.range len).map fun i => (e i).1)[i] = (e i).1 from by simp]
      exact ⟨b, off, rfl, trivial, block_lt_of_cell (hr5 0 (by decide)), ⟨hr5 0 (by decide), hr5 1 (by decide), _, _, hr5 2 (by decide), hL⟩⟩
    · obtain ⟨i, hi, rfl⟩ := List.mem_map.1 ht
      exact (he i (List.mem_range.1 hi)).2.2
set_option maxRecDepth 100000 in
/-- A subject among the arguments. -/
theorem open_subject5 {base : Nat} {v : Value} {d : DataW H} {ps : List MemPlace} (hval : Value.okWide Tryz.prog W .any base 25 v)
    (h : DataW.Trod enc Tryz.prog W 0 (fun _ => true) true 25 v d ps) (hr : Reach 25 d) :
    ∃ (l : List Ctx) (p : Option Addr) (c : Nat), v = .agg #[.slice p (l.length : Nat) c] ∧ CtxsP (fun _ => True) p c l W ∧ l.length ≤ 140737488351232 ∧ ∀ a ∈ l, FitC a := by
  have hc1 : Tryz.prog.cellsOf 25 = 1 := by kernel_rfl
  obtain ⟨cs, rfl, hsz⟩ := okWide_struct Tryz.underlying25 hval
  obtain ⟨fuel, hf⟩ := h
  obtain ⟨y0, n, hx, hlen, h0⟩ := trod_struct1 Tryz.underlying25 hf
  cases hx
  rw [hc1] at hsz
  obtain ⟨cl⟩ := cs
  match cl, hsz with
  | [c0], _ =>
  have hcl : (Value.agg ⟨[c0]⟩).cells.toList = [c0] := rfl
  rw [hcl] at h0
  simp only [clCtxs, List.drop_zero, List.take_succ_cons, List.take_zero] at h0
  have r0 := reach_part (j := 0) Tryz.underlying25 hr rfl rfl
  obtain ⟨l, p, c, hc, hL, hl, he⟩ := open_ctxs5 h0 r0
  cases hc
  exact ⟨l, p, c, rfl, hL, hl, he⟩
theorem reach_arg {t : TypeId} {ts : List TypeId} {ds : List (DataW H)} {d : DataW H} (h : (DataW.weightsEach Tryz.prog ts ds).all (· ≤ reachBytes) = true) {j : Nat} (ht : ts[j]? = some t) (hd : ds[j]? = some d) : Reach t d := fun n hn => by
  simpa using List.all_eq_true.1 h n (mem_weightsEach ht hd n hn)
end Go.Proofs.YtcbnefeedoabeaaGreatDoor
/- How a slice of bytes among the arguments of layer 5's rows is opened. -/
namespace Go.Proofs.YtcbnefeedoabeaaGreatDoor
open Go Go.RowKit Go.Shelf Go.ChangeShapes Go.WideShapes Go.ChangeAt Go.Lib

theorem laidOut : laidOutB Tryz.prog = true := by kernel_rfl
theorem cellsByte : Tryz.prog.cellsOf 5 = 1 := by kernel_rfl
set_option maxRecDepth 100000 in
/-- A slice of bytes among the arguments. -/
theorem open_bytes3 {H : Type} {enc : TypeId × Value → H} {W : World} {base : Nat} {v : Value} {d : DataW H} {ps : List MemPlace} (hval : Value.okWide Tryz.prog W .any base 22 v)
    (h : DataW.Trod enc Tryz.prog W 0 (fun _ => true) true 22 v d ps) : ∃ (a0 : Option Addr) (l : List UInt8) (cap : Nat), v = .slice a0 (l.length : Nat) cap ∧ l.length ≤ cap ∧ cap ≤ 9223372036854775807 ∧ BytesOf a0 l W := by
  obtain ⟨a0, len, cap, rfl⟩ := okWide_slice Tryz.underlying22 hval
  obtain ⟨fuel, hf⟩ := h
  rcases open_ints Tryz.underlying22 Tryz.underlying5 cellsByte hf with ⟨hcs, hx⟩ | ⟨a, len', cap', zs, hcs, _, hl, hm, hz, hx, hcell, hwz⟩
  · simp [Value.cells] at hcs
    obtain ⟨rfl, rfl, rfl⟩ := hcs
    exact ⟨none, [], 0, rfl, Nat.le_refl _, by omega, fun i hi => by simp at hi⟩
  · simp [Value.cells] at hcs
    obtain ⟨rfl, rfl, rfl⟩ := hcs
    simp only [if_true] at hz
    refine ⟨some a, (List.range len).map (fun i => UInt8.ofNat (zs.getD i 0).toNat), cap, by simp, by simpa using hl, by unfold maxLen at hm; omega, fun i hi => ?_⟩
    have hil : i < len := by simpa using hi
    obtain ⟨b, off, spot⟩ := a
    have hspot : spot = none := by simpa [Addr.add] using World.cell?_spot (hcell 0 (by omega))
    subst hspot
    have hci := hcell i (by omega)
    rw [WideShapes.add_plain] at hci
    have hwi := bounds_u8 (hwz (zs.getD i 0) (by
      have : zs.getD i 0 = zs[i]'(by omega) := by simp [List.getD, List.getElem?_eq_getElem (show i < zs.length by omega)]
      rw [this]
      exact List.getElem_mem _))
    refine ⟨b, off, rfl, block_lt_of_cell hci, ?_⟩
    rw [hci]
    simp only [List.getElem_map, List.getElem_range, UInt8.toNat_ofNat']
    congr 2
    omega
end Go.Proofs.YtcbnefeedoabeaaGreatDoor
