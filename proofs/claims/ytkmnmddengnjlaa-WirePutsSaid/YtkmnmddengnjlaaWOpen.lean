/- How slices of bytes that came in are opened. -/
import Derived.Test.YtkmnmddengnjlaaWApp
import Derived.Test.YtkmnmddengnjlaaRows
import Derived.ProofKit
import Derived.OpenShut
import Derived.Deep.DeepHandedRow
import Derived.Deep.DeepWitnessRowRef
import Derived.Carry
import Derived.ChangeMaps5
import Derived.ChangeSlices
namespace Go.Proofs.Ytkmnmddengnjlaa
open Go Go.RowKit Go.ChangeShapes Go.WideShapes Go.ChangeAt

theorem own : ownKnob Try.prog.godebug = none := by kernel_rfl
theorem laidOut : laidOutB Try.prog = true := by kernel_rfl
theorem cellsByte : Try.prog.cellsOf 5 = 1 := by kernel_rfl
/-- What is known of a slice of bytes. -/
def BytesIn (a0 : Option Addr) (l : List UInt8) (cap : Nat) (W : World) : Prop := (a0 = none → cap = 0) ∧ l.length ≤ cap ∧ l.length ≤ 9223372036854775807 ∧ BytesAre a0 l W
theorem bytes_of_trod {H : Type} {enc : TypeId × Value → H} {W : World} {fuel : Nat} {v : Value} {x : DataW H × List MemPlace}
    (hf : DataW.trod enc Try.prog W 0 (fun _ => true) true fuel 22 [v] = some x) : ∃ (a0 : Option Addr) (l : List UInt8) (cap : Nat), v = .slice a0 (l.length : Nat) cap ∧ BytesIn a0 l cap W := by
  rcases open_ints Try.underlying22 Try.underlying5 cellsByte hf with ⟨hcs, hx⟩ | ⟨a, len, cap, zs, hcs, _, hl, hm, hz, hx, hcell, hwz⟩
  · obtain rfl : v = .slice none 0 0 := by simpa using hcs
    exact ⟨none, [], 0, rfl, fun _ => rfl, by simp, by simp, fun i hi => by simp at hi⟩
  · obtain rfl : v = .slice (some a) len cap := by simpa using hcs
    simp only [if_true] at hz
    have hll : ((zs.take len).map fun z => UInt8.ofNat z.toNat).length = len := by simp; omega
    refine ⟨some a, (zs.take len).map fun z => UInt8.ofNat z.toNat, cap, by rw [hll], (by intro h; cases h), by omega, by unfold maxLen at hm; omega, fun i hi => ?_⟩
    have hi' : i < len := by omega
    obtain ⟨b, off, spot⟩ := a
    have hspot : spot = none := by simpa [Addr.add] using World.cell?_spot (hcell 0 (by omega))
    subst hspot
    have hci := hcell i (by omega)
    rw [WideShapes.add_plain] at hci
    have hgz : zs.getD i 0 = zs[i]'(by omega) := by simp [List.getD, List.getElem?_eq_getElem (show i < zs.length by omega)]
    have hwi := bounds_u8 (hwz (zs.getD i 0) (by rw [hgz]; exact List.getElem_mem _))
    refine ⟨b, off, rfl, block_lt_of_cell hci, ?_⟩
    rw [hci]
    simp only [List.getElem_map, List.getElem_take, UInt8.toNat_ofNat']
    rw [← hgz]
    congr 2
    omega
/-- A slice of bytes among the arguments. -/
theorem open_bytes {H : Type} {enc : TypeId × Value → H} {W : World} {base : Nat} {v : Value} {d : DataW H} {ps : List MemPlace} (hval : Value.okWide Try.prog W .any base 22 v)
    (h : DataW.Trod enc Try.prog W 0 (fun _ => true) true 22 v d ps) : ∃ (a0 : Option Addr) (l : List UInt8) (cap : Nat), v = .slice a0 (l.length : Nat) cap ∧ BytesIn a0 l cap W := by
  obtain ⟨a0, len, cap, rfl⟩ := okWide_slice Try.underlying22 hval
  obtain ⟨fuel, hf⟩ := h
  exact bytes_of_trod hf
theorem word_of {n : Int} (h : (Lit.int .u64 n).wf = true) : ∃ u : UInt64, n = (u.toNat : Int) := by
  have hb := bounds_u64 h
  refine ⟨UInt64.ofNat n.toNat, ?_⟩
  rw [UInt64.toNat_ofNat']
  omega
end Go.Proofs.Ytkmnmddengnjlaa
