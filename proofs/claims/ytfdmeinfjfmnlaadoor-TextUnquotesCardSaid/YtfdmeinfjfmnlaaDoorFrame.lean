/- From the listed package-level variables to what the walks ask of the world; a world that holds them all. -/
import Derived.Test.YtfdmeinfjfmnlaaDoorAwake
import Derived.Test.YtfdmeinfjfmnlaaDoorRows
import Derived.ProofKit
import Derived.OpenShut
import Derived.Deep.DeepHandedRow
import Derived.Deep.DeepWitnessRowRef
import Derived.Lib.LaidTab
import Derived.Lib.LaidIn
import Derived.Lib.LaidU8T
import Derived.Lib.LaidPrint
import Derived.SizedLaws
import Derived.LaidMore
namespace Go.Proofs.YtfdmeinfjfmnlaaDoor
open Go Go.RowKit Go.Shelf Go.ChangeShapes Go.WideShapes Go.ChangeAt Go.Lib

theorem own : ownKnob Tryd.prog.godebug = none := by kernel_rfl
/-- The list of every row of this seat. -/
def laidL : List (String × DataW Unit) := Rows.textKeysRow.laid
def wordsData : DataW Unit := .slice (words.map fun s => .lit (.string s.data.toList)) []
theorem first_data : Rows.laid_unicode_utf8_first = firstData := by kernel_rfl
theorem accept_data : (Rows.laid_unicode_utf8_acceptRanges : DataW Unit) = acceptData := by kernel_rfl
theorem words_data : (Rows.laid_flagstone_text_reservedWords : DataW Unit) = wordsData := by kernel_rfl

theorem res_of_reads {W : World} (h : VarReads Tryd.prog W "flagstone/text.reservedWords" wordsData) : Res words W := by
  obtain ⟨g', t', cs, fuel, p, hg, hty, hvar, hd⟩ := h
  obtain rfl := Option.some.inj ((show Tryd.prog.globalNamed "flagstone/text.reservedWords" = some 0 by kernel_rfl).symm.trans hg)
  obtain rfl := Option.some.inj ((show (Tryd.prog.globals[0]?).map (·.type) = some 23 by kernel_rfl).symm.trans hty)
  have hc : Tryd.prog.cellsOf 9 = 1 := by kernel_rfl
  rcases DataW.trod_slice Tryd.underlying23 hd with ⟨_, hx⟩ | ⟨a, len, cap, el, rs, m, rfl, hcs, hx, _, hlc, _, hel, helem, hsp, _⟩
  · cases hx
  have e0 := congrArg Prod.fst hx
  simp only [wordsData, DataW.slice.injEq] at e0
  obtain ⟨eE, eR⟩ := e0
  have hlen : len = words.length := by
    have := congrArg List.length eE
    simp at this
    omega
  have hcap : cap = len := by
    have h1 := (hsp rfl).1
    have h2 : rs = [] := by simpa using eR.symm
    rw [h2] at h1
    simp at h1
    omega
  have hcell : ∀ (i : Nat) (hi : i < words.length), W.cell? (a.add i) = some (.string words[i]) := by
    intro i hi
    have h1 := helem i (by omega)
    rw [hc] at h1
    obtain ⟨b, hb⟩ : ∃ b, el[i]? = some b := ⟨el[i]'(by omega), List.getElem?_eq_getElem (by omega)⟩
    rw [hb] at h1
    obtain ⟨ce, hce, hte⟩ := Option.bind_eq_some_iff.1 h1
    obtain ⟨s, hs, hbs, _⟩ := DataW.trod_string Tryd.underlying9 hte
    have hb1 : b.1 = .lit (.string words[i].data.toList) := by
      have := congrArg (·[i]?) eE
      simp [hb, hi] at this
      exact this.symm
    rw [hbs] at hb1
    simp only [DataW.lit.injEq, Lit.string.injEq] at hb1
    have hsw : s = words[i] := bytes_inj hb1
    obtain ⟨_, _, hcc⟩ := World.cells?_some hce
    have := hcc 0 (by omega)
    rw [hs] at this
    simp only [Nat.mul_one] at this
    have e1 : (a.add i).add 0 = a.add i := by simp [Addr.add]
    rw [e1] at this
    rw [this, ← hsw]
    rfl
  obtain ⟨R, o, sR⟩ := a
  have h46 : 0 < words.length := by decide
  obtain rfl : sR = none := by
    have h00 := hcell 0 h46
    have : (Addr.add ⟨R, o, sR⟩ 0) = ⟨R, o, sR⟩ := by simp [Addr.add]
    rw [this] at h00
    exact Go.Proofs.cell_spot h00
  refine ⟨R, o, ?_, ?_, fun j hj => ?_⟩
  · have h00 := hcell 0 h46
    exact block_lt_of_cell h00
  · rw [World.var?_cell hg hvar 0, ← Array.getElem?_toList, hcs, hcap, hlen]
    rfl
  · have := hcell j hj
    by_cases h0 : j = 0
    · subst h0
      simpa [Addr.add] using this
    · simpa [Addr.add, h0] using this

theorem pow_of_reads {W : World} (h : VarReads Tryd.prog W "internal/strconv.uint64pow10" (tabData .u64 pow10Tab)) : Pow W := by
  obtain ⟨g', t', cs, fuel, p, hg, hty, hvar, hd⟩ := h
  obtain rfl := Option.some.inj ((show Tryd.prog.globalNamed "internal/strconv.uint64pow10" = some 3 by kernel_rfl).symm.trans hg)
  obtain rfl := Option.some.inj ((show (Tryd.prog.globals[3]?).map (·.type) = some 73 by kernel_rfl).symm.trans hty)
  unfold Pow TabIs
  rw [hvar, ← cells_of_tab Tryd.underlying73 Tryd.underlying60 (by kernel_rfl) (by kernel_rfl) hd]

/-- What the row's list gives. -/
theorem env_of_laid {W : World} (hL : laidMet Tryd.prog laidL W) : Env W where
  res := by
    have := laidMet.reads hL (n := "flagstone/text.reservedWords") (d := Rows.laid_flagstone_text_reservedWords) (.tail _ (.tail _ (.tail _ (.tail _ (.head _)))))
    rw [words_data] at this
    exact res_of_reads this
  tabs := by
    have h3 := laidMet.reads hL (n := "unicode/utf8.first") (d := Rows.laid_unicode_utf8_first) (.tail _ (.tail _ (.tail _ (.tail _ (.tail _ (.head _))))))
    have h4 := laidMet.reads hL (n := "unicode/utf8.acceptRanges") (d := Rows.laid_unicode_utf8_acceptRanges) (.tail _ (.tail _ (.tail _ (.head _))))
    rw [first_data] at h3
    rw [accept_data] at h4
    exact utf8Tabs_of_readsT (U8Types.of196 Tryd.laysValid) ⟨by kernel_rfl, by kernel_rfl, by kernel_rfl, by kernel_rfl, by kernel_rfl, by kernel_rfl, by kernel_rfl⟩ h3 h4
  pow := by
    have := laidMet.reads hL (n := "internal/strconv.uint64pow10") (d := Rows.laid_internal_strconv_uint64pow10) (.tail _ (.tail _ (.head _)))
    exact pow_of_reads this
end Go.Proofs.YtfdmeinfjfmnlaaDoor
