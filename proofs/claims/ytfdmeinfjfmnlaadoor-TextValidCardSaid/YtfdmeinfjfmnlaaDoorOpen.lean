/- How a slice of bytes that came in is opened. -/
import Derived.Test.YtfdmeinfjfmnlaaDoorFrame
import Derived.Test.YtfdmeinfjfmnlaaDoorTextParses
import Derived.Carry
import Derived.ChangeSlices
namespace Go.Proofs.YtfdmeinfjfmnlaaDoor
open Go Go.RowKit Go.Shelf Go.ChangeShapes Go.WideShapes Go.ChangeAt Go.Lib

theorem laidOut : laidOutB Tryd.prog = true := by kernel_rfl
theorem cellsByte : Tryd.prog.cellsOf 5 = 1 := by kernel_rfl
/-- A slice of bytes among the arguments. -/
theorem open_bytes {H : Type} {enc : TypeId × Value → H} {W : World} {base : Nat} {v : Value} {d : DataW H} {ps : List MemPlace} (hval : Value.okWide Tryd.prog W .any base 29 v)
    (h : DataW.Trod enc Tryd.prog W 0 (fun _ => true) true 29 v d ps) : ∃ a0 len cap, v = .slice a0 len cap ∧ len ≤ cap ∧ cap ≤ 9223372036854775807 ∧ BytesIn a0 len W := by
  obtain ⟨a0, len, cap, rfl⟩ := okWide_slice Tryd.underlying29 hval
  obtain ⟨fuel, hf⟩ := h
  rcases open_ints Tryd.underlying29 Tryd.underlying5 cellsByte hf with ⟨hcs, hx⟩ | ⟨a, len', cap', zs, hcs, _, hl, hm, hz, hx, hcell, hwz⟩
  · simp [Value.cells] at hcs
    obtain ⟨rfl, rfl, rfl⟩ := hcs
    exact ⟨none, 0, 0, rfl, Nat.le_refl _, by omega, fun i hi => by omega⟩
  · simp [Value.cells] at hcs
    obtain ⟨rfl, rfl, rfl⟩ := hcs
    simp only [if_true] at hz
    refine ⟨some a, len, cap, rfl, hl, by unfold maxLen at hm; omega, fun i hi => ?_⟩
    obtain ⟨b, off, spot⟩ := a
    have hspot : spot = none := by simpa [Addr.add] using World.cell?_spot (hcell 0 (by omega))
    subst hspot
    have hci := hcell i (by omega)
    rw [WideShapes.add_plain] at hci
    have hwi := bounds_u8 (hwz (zs.getD i 0) (by
      have : zs.getD i 0 = zs[i]'(by omega) := by simp [List.getD, List.getElem?_eq_getElem (show i < zs.length by omega)]
      rw [this]
      exact List.getElem_mem _))
    refine ⟨b, off, UInt8.ofNat (zs.getD i 0).toNat, rfl, block_lt_of_cell hci, ?_⟩
    rw [hci, UInt8.toNat_ofNat']
    congr 2
    omega
end Go.Proofs.YtfdmeinfjfmnlaaDoor
