/- How slices of bytes and of fields that came in are opened. -/
import Derived.Test.YtiomdikompodfaaApp
import Derived.Test.YtiomdikompodfaaRows
import Derived.ProofKit
import Derived.OpenShut
import Derived.Deep.DeepHandedRow
import Derived.Deep.DeepWitnessRowRef
import Derived.Carry
import Derived.ChangeSlices
namespace Go.Proofs.Ytiomdikompodfaa
open Go Go.RowKit Go.ChangeShapes Go.WideShapes Go.ChangeAt

theorem own : ownKnob Try.prog.godebug = none := by kernel_rfl
theorem laidOut : laidOutB Try.prog = true := by kernel_rfl
theorem cellsByte : Try.prog.cellsOf 5 = 1 := by kernel_rfl
theorem cellsBytes : Try.prog.cellsOf 23 = 1 := by kernel_rfl
/-- What is known of a slice of bytes. -/
def BytesIn (a0 : Option Addr) (l : List UInt8) (cap : Nat) (W : World) : Prop := (a0 = none → cap = 0) ∧ l.length ≤ cap ∧ l.length ≤ 9223372036854775807 ∧ BytesAre a0 l W
theorem bytes_of_trod {H : Type} {enc : TypeId × Value → H} {W : World} {fuel : Nat} {v : Value} {x : DataW H × List MemPlace}
    (hf : DataW.trod enc Try.prog W 0 (fun _ => true) true fuel 23 [v] = some x) : ∃ (a0 : Option Addr) (l : List UInt8) (cap : Nat), v = .slice a0 (l.length : Nat) cap ∧ BytesIn a0 l cap W := by
  rcases open_ints Try.underlying23 Try.underlying5 cellsByte hf with ⟨hcs, hx⟩ | ⟨a, len, cap, zs, hcs, _, hl, hm, hz, hx, hcell, hwz⟩
  · obtain rfl : v = .slice none 0 0 := by simpa using hcs
    exact ⟨none, [], 0, rfl, fun _ => rfl, by simp, by simp, fun i hi => by simp at hi⟩
  · obtain rfl : v = .slice (some a) len cap := by simpa using hcs
    simp only [if_true] at hz
    have hll : ((zs.take len).map fun z => UInt8.ofNat z.toNat).length = len := by simp; omega
    refine ⟨some a, (zs.take len).map fun z => UInt8.ofNat z.toNat, cap, by rw [hll], (by intro h; cases h), by omega, by unfold maxLen at hm; omega, fun i hi => ?_⟩
    have hi' : i < len := by omega
    obtain ⟨b, off, spot⟩ := a
    have hspot : spot = none := by simpa [Addr.add] using World.cell?_spot (hcell 0 (by omega))
    subst hspot
    have hci := hcell i (by omega)
    rw [WideShapes.add_plain] at hci
    have hgz : zs.getD i 0 = zs[i]'(by omega) := by simp [List.getD, List.getElem?_eq_getElem (show i < zs.length by omega)]
    have hwi := bounds_u8 (hwz (zs.getD i 0) (by rw [hgz]; exact List.getElem_mem _))
    refine ⟨b, off, rfl, block_lt_of_cell hci, ?_⟩
    rw [hci]
    simp only [List.getElem_map, List.getElem_take, UInt8.toNat_ofNat']
    rw [← hgz]
    congr 2
    omega
/-- A slice of bytes among the arguments. -/
theorem open_bytes {H : Type} {enc : TypeId × Value → H} {W : World} {base : Nat} {v : Value} {d : DataW H} {ps : List MemPlace} (hval : Value.okWide Try.prog W .any base 23 v)
    (h : DataW.Trod enc Try.prog W 0 (fun _ => true) true 23 v d ps) : ∃ (a0 : Option Addr) (l : List UInt8) (cap : Nat), v = .slice a0 (l.length : Nat) cap ∧ BytesIn a0 l cap W := by
  obtain ⟨a0, len, cap, rfl⟩ := okWide_slice Try.underlying23 hval
  obtain ⟨fuel, hf⟩ := h
  exact bytes_of_trod hf
/-- What is known of a slice of fields. -/
def FieldsIn (a0 : Option Addr) (l : List (List UInt8)) (cap : Nat) (W : World) : Prop := l.length ≤ cap ∧ l.length ≤ 9223372036854775807 ∧ (∀ f ∈ l, f.length ≤ 9223372036854775807) ∧ FieldsAre a0 l W
theorem open_fields {H : Type} {enc : TypeId × Value → H} {W : World} {base : Nat} {v : Value} {d : DataW H} {ps : List MemPlace} (hval : Value.okWide Try.prog W .any base 27 v)
    (h : DataW.Trod enc Try.prog W 0 (fun _ => true) true 27 v d ps) : ∃ (a0 : Option Addr) (l : List (List UInt8)) (cap : Nat), v = .slice a0 (l.length : Nat) cap ∧ FieldsIn a0 l cap W := by
  obtain ⟨a0, len, cap, rfl⟩ := okWide_slice Try.underlying27 hval
  obtain ⟨fuel, hf⟩ := h
  rcases DataW.trod_slice Try.underlying27 hf with ⟨hcs, _⟩ | ⟨a, len', cap', elems, rest, n, _, hcs, _, _, hl, hm, hlen, hel, _, _⟩
  · simp [Value.cells] at hcs
    obtain ⟨rfl, rfl, rfl⟩ := hcs
    exact ⟨none, [], 0, rfl, by simp, by simp, by simp, fun i hi => by simp at hi⟩
  · simp [Value.cells] at hcs
    obtain ⟨rfl, rfl, rfl⟩ := hcs
    have each : ∀ i : Fin len, ∃ l : List UInt8, l.length ≤ 9223372036854775807 ∧ ∃ (b off : Nat) (a1 : Option Addr) (c1 : Nat), some a = some (⟨b, off, none⟩ : Addr) ∧ b < W.heap.size ∧ W.cell? ⟨b, off + i.1, none⟩ = some (.slice a1 (l.length : Nat) c1) ∧ (a1 = none → c1 = 0) ∧ l.length ≤ c1 ∧ BytesAre a1 l W := by
      intro i
      have h1 := hel i.1 i.2
      rw [cellsBytes, Nat.mul_one, List.getElem?_eq_getElem (by omega)] at h1
      obtain ⟨cs, hce, hte⟩ := Option.bind_eq_some_iff.1 h1
      obtain ⟨vi, rfl⟩ : ∃ vi, cs = [vi] := by
        have := (World.cells?_some hce).2.1
        match cs, this with
        | [vi], _ => exact ⟨vi, rfl⟩
      have hci := cell_of_cells?_one hce
      obtain ⟨a1, l, c1, rfl, hn, hlc, hlm, hB⟩ := bytes_of_trod hte
      obtain ⟨b, off, spot⟩ := a
      have hspot : spot = none := by
        have h0 := hel 0 (by have := i.2; omega)
        rw [cellsBytes, Nat.mul_one, List.getElem?_eq_getElem (by have := i.2; omega)] at h0
        obtain ⟨cs0, hce0, _⟩ := Option.bind_eq_some_iff.1 h0
        obtain ⟨v0, rfl⟩ : ∃ v0, cs0 = [v0] := by
          have := (World.cells?_some hce0).2.1
          match cs0, this with
          | [v0], _ => exact ⟨v0, rfl⟩
        simpa [Addr.add] using World.cell?_spot (cell_of_cells?_one hce0)
      subst hspot
      rw [WideShapes.add_plain] at hci
      exact ⟨l, hlm, b, off, a1, c1, rfl, block_lt_of_cell hci, hci, hn, hlc, hB⟩
    refine ⟨some a, List.ofFn fun i => Classical.choose (each i), cap, by rw [List.length_ofFn], by rw [List.length_ofFn]; exact hl, by rw [List.length_ofFn]; unfold maxLen at hm; omega, fun f hf => ?_, fun i hi => ?_⟩
    · obtain ⟨i, hi, rfl⟩ := List.mem_iff_getElem.1 hf
      rw [List.getElem_ofFn]
      exact (Classical.choose_spec (each ⟨i, by simpa using hi⟩)).1
    · rw [List.getElem_ofFn]
      exact (Classical.choose_spec (each ⟨i, by simpa using hi⟩)).2
theorem word_of {n : Int} (h : (Lit.int .u64 n).wf = true) : ∃ u : UInt64, n = (u.toNat : Int) := by
  have hb := bounds_u64 h
  refine ⟨UInt64.ofNat n.toNat, ?_⟩
  rw [UInt64.toNat_ofNat']
  omega
end Go.Proofs.Ytiomdikompodfaa
