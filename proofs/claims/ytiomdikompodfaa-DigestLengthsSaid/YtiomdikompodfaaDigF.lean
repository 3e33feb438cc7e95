/- Contract of the package's sizeOf: the number of bytes of a field as eight bytes, the most significant one first. -/
import Derived.Test.YtiomdikompodfaaDigE
namespace Go.Proofs.Ytiomdikompodfaa
open Go Go.RowKit

/-- The eight cells behind k rounds. -/
def fill8 (g : Nat → UInt8) (k : Nat) : List UInt8 :=
  [if 8 ≤ k then g 7 else 0, if 7 ≤ k then g 6 else 0, if 6 ≤ k then g 5 else 0, if 5 ≤ k then g 4 else 0, if 4 ≤ k then g 3 else 0, if 3 ≤ k then g 2 else 0, if 2 ≤ k then g 1 else 0, if 1 ≤ k then g 0 else 0]
theorem fill8_set (g : Nat → UInt8) (k : Nat) (h : k < 8) : (fill8 g k).set (7 - k) (g k) = fill8 g (k + 1) := by
  match k, h with
  | 0, _ => rfl
  | 1, _ => rfl
  | 2, _ => rfl
  | 3, _ => rfl
  | 4, _ => rfl
  | 5, _ => rfl
  | 6, _ => rfl
  | 7, _ => rfl
  | k + 8, h => omega
def byteAt (n k : Nat) : UInt8 := UInt8.ofNat (n / 2 ^ (8 * k))
theorem fill8_all (n : Nat) : fill8 (byteAt n) 8 = lenB n := rfl
/-- A row of bytes in a block of an array's. -/
def Row8 (g : Nat) (l : List UInt8) (w : World) : Prop := w.heap[g]? = some (.cells (l.map fun c => Value.int .u8 (c.toNat : Int)).toArray 44 (0, 0))
theorem Row8.put {g : Nat} {l : List UInt8} {w : World} (h : Row8 g l w) (i : Nat) (c : UInt8) : Row8 g (l.set i c) (w.setCell ⟨g, i, none⟩ (.int .u8 (c.toNat : Int))) := by
  unfold Row8 at h ⊢
  show (w.heap.modify g _)[g]? = _
  rw [Array.getElem?_modify, if_pos rfl, h]
  simp [List.map_set]
theorem Row8.cell {g : Nat} {l : List UInt8} {w : World} (h : Row8 g l w) (i : Nat) (hi : i < l.length) : w.cell? ⟨g, i, none⟩ = some (.int .u8 (l[i].toNat : Int)) := by
  rw [Lib.cell_of_heap h]
  simp [hi]
theorem Row8.free {g : Nat} {l : List UInt8} {w : World} (h : Row8 g l w) (i : Nat) : w.frozen? ⟨g, i, none⟩ = false := Lib.frozen_of_heap h i
theorem Row8.bytes {g : Nat} {l : List UInt8} {w : World} (h : Row8 g l w) : BytesAre (some ⟨g, 0, none⟩) l w := by
  intro i hi
  refine ⟨g, 0, rfl, (Array.getElem?_eq_some_iff.1 h).1, ?_⟩
  rw [Lib.cell_of_heap h]
  simp [hi]
/-- What the loop holds. -/
structure Sized (g : Nat → UInt8) (k B : Nat) (w wr : World) : Prop where
  first : Row8 B [0, 0, 0, 0, 0, 0, 0, 0] wr
  here : Row8 (B + 1) (fill8 g k) wr
  below : Below B w wr
theorem Sized.put {g : Nat → UInt8} {k B : Nat} {w wr : World} (h : Sized g k B w wr) (hk : k < 8) : Sized g (k + 1) B w (wr.setCell ⟨B + 1, 7 - k, none⟩ (.int .u8 ((g k).toNat : Int))) := by
  refine ⟨?_, ?_, h.below.setCell (p := ⟨B + 1, 7 - k, none⟩) (Nat.le_succ _) _⟩
  · unfold Row8
    rw [Below.heap_setCell _ _ _ _ (by simp)]
    exact h.first
  · have := h.here.put (7 - k) (g k)
    rw [fill8_set g k hk] at this
    exact this
theorem byte_step (n k : Nat) : (n : Int) / 2 ^ (8 * k) % 256 = ((byteAt n k).toNat : Int) := by
  unfold byteAt
  rw [UInt8.toNat_ofNat', Int.natCast_emod, Int.natCast_ediv, Int.natCast_pow]
  rfl

set_option maxHeartbeats 8000000 in
theorem sizeOf_any (a0 : Option Addr) (n cap : Nat) (w : World) (hn : n ≤ 100000) :
    Calls Try.prog 22 #[.slice a0 n cap] w fun e w' => e = .returned (.agg ((lenB n).map fun c => Value.int .u8 (c.toNat : Int)).toArray) ∧ Below w.heap.size w w' := by
  go_enter Try.func22, Try.ntmps22
  go_wp2
  have hs0 : Sized (byteAt n) 0 w.heap.size w ((w.alloc (.cells #[.int .u8 0, .int .u8 0, .int .u8 0, .int .u8 0, .int .u8 0, .int .u8 0, .int .u8 0, .int .u8 0] 44)).alloc (.cells #[.int .u8 0, .int .u8 0, .int .u8 0, .int .u8 0, .int .u8 0, .int .u8 0, .int .u8 0, .int .u8 0] 44)) := by
    refine ⟨?_, ?_, ((Below.refl _ w).alloc (Nat.le_refl _) _).alloc (by simp) _⟩
    · unfold Row8
      rw [Below.heap_alloc _ _ _ (by simp)]
      exact heap_alloc_new w _
    · have := heap_alloc_new (w.alloc (.cells #[.int .u8 0, .int .u8 0, .int .u8 0, .int .u8 0, .int .u8 0, .int .u8 0, .int .u8 0, .int .u8 0] 44)) (.cells #[.int .u8 0, .int .u8 0, .int .u8 0, .int .u8 0, .int .u8 0, .int .u8 0, .int .u8 0, .int .u8 0] 44)
      rw [World.size_alloc] at this
      exact this
  generalize (w.alloc (.cells #[.int .u8 0, .int .u8 0, .int .u8 0, .int .u8 0, .int .u8 0, .int .u8 0, .int .u8 0, .int .u8 0] 44)).alloc (.cells #[.int .u8 0, .int .u8 0, .int .u8 0, .int .u8 0, .int .u8 0, .int .u8 0, .int .u8 0, .int .u8 0] 44) = w0 at hs0 ⊢
  go_loopw [5, 9] (fun _ j wr => ∃ k : Nat, k ≤ 8 ∧ j = .int .i64 k ∧ Sized (byteAt n) k w.heap.size w wr) (fun _ j _ => 8 - (intOf j).toNat)
  case atStart => exact ⟨0, by omega, rfl, hs0⟩
  case round =>
    obtain ⟨k, hk8, rfl, hst⟩ := hrel
    clear hs0
    by_cases hgo : k < 8
    · have hgo' : (k : Int) < 8 := by omega
      obtain ⟨j, hj⟩ : ∃ j : Nat, 7 - k = j := ⟨_, rfl⟩
      have hj2 : (7 : Int) - (k : Int) = (j : Int) := by omega
      have hj8 : j < 8 := by omega
      have hjc := hst.here.cell j (by simpa [fill8] using hj8)
      have hjf := hst.here.free j
      have hbs := byte_step n k
      have hp := hst.put hgo
      rw [hj] at hp
      replace hj := Lib.hid hj
      go_wp2
      go_roundw
      case rel => exact ⟨k + 1, by omega, by go_num, hp⟩
      case measure => simp [intOf]; omega
    · obtain rfl : k = 8 := by omega
      have hrow : Row8 (w.heap.size + 1) [byteAt n 7, byteAt n 6, byteAt n 5, byteAt n 4, byteAt n 3, byteAt n 2, byteAt n 1, byteAt n 0] wr := hst.here
      have hres : (lenB n) = [byteAt n 7, byteAt n 6, byteAt n 5, byteAt n 4, byteAt n 3, byteAt n 2, byteAt n 1, byteAt n 0] := (fill8_all n).symm
      replace hres := Lib.hid hres
      have d0 : wr.cell? ⟨w.heap.size + 1, 0, none⟩ = some (.int .u8 ((byteAt n 7).toNat : Int)) := hrow.cell 0 (by simp)
      have d1 : wr.cell? ⟨w.heap.size + 1, 1, none⟩ = some (.int .u8 ((byteAt n 6).toNat : Int)) := hrow.cell 1 (by simp)
      have d2 : wr.cell? ⟨w.heap.size + 1, 2, none⟩ = some (.int .u8 ((byteAt n 5).toNat : Int)) := hrow.cell 2 (by simp)
      have d3 : wr.cell? ⟨w.heap.size + 1, 3, none⟩ = some (.int .u8 ((byteAt n 4).toNat : Int)) := hrow.cell 3 (by simp)
      have d4 : wr.cell? ⟨w.heap.size + 1, 4, none⟩ = some (.int .u8 ((byteAt n 3).toNat : Int)) := hrow.cell 4 (by simp)
      have d5 : wr.cell? ⟨w.heap.size + 1, 5, none⟩ = some (.int .u8 ((byteAt n 2).toNat : Int)) := hrow.cell 5 (by simp)
      have d6 : wr.cell? ⟨w.heap.size + 1, 6, none⟩ = some (.int .u8 ((byteAt n 1).toNat : Int)) := hrow.cell 6 (by simp)
      have d7 : wr.cell? ⟨w.heap.size + 1, 7, none⟩ = some (.int .u8 ((byteAt n 0).toNat : Int)) := hrow.cell 7 (by simp)
      have n0 : wr.cell? ⟨w.heap.size, 0, none⟩ = some (.int .u8 0) := hst.first.cell 0 (by decide)
      have n1 : wr.cell? ⟨w.heap.size, 1, none⟩ = some (.int .u8 0) := hst.first.cell 1 (by decide)
      have n2 : wr.cell? ⟨w.heap.size, 2, none⟩ = some (.int .u8 0) := hst.first.cell 2 (by decide)
      have n3 : wr.cell? ⟨w.heap.size, 3, none⟩ = some (.int .u8 0) := hst.first.cell 3 (by decide)
      have n4 : wr.cell? ⟨w.heap.size, 4, none⟩ = some (.int .u8 0) := hst.first.cell 4 (by decide)
      have n5 : wr.cell? ⟨w.heap.size, 5, none⟩ = some (.int .u8 0) := hst.first.cell 5 (by decide)
      have n6 : wr.cell? ⟨w.heap.size, 6, none⟩ = some (.int .u8 0) := hst.first.cell 6 (by decide)
      have n7 : wr.cell? ⟨w.heap.size, 7, none⟩ = some (.int .u8 0) := hst.first.cell 7 (by decide)
      have fn : ∀ i, wr.frozen? ⟨w.heap.size, i, none⟩ = false := hst.first.free
      have hbl := hst.below
      clear hst hrow
      go_wp2
      refine bodyPost_ret (v := .agg #[.int .u8 ((byteAt n 7).toNat : Int), .int .u8 ((byteAt n 6).toNat : Int), .int .u8 ((byteAt n 5).toNat : Int), .int .u8 ((byteAt n 4).toNat : Int), .int .u8 ((byteAt n 3).toNat : Int), .int .u8 ((byteAt n 2).toNat : Int), .int .u8 ((byteAt n 1).toNat : Int), .int .u8 ((byteAt n 0).toNat : Int)]) (by simp [results, Try.results22, go_sem, n0, n1, n2, n3, n4, n5, n6, n7]) rfl ⟨by rw [hres.out]; rfl, ?_⟩
      exact (((((((hbl.setCell (p := ⟨w.heap.size, 0, none⟩) (Nat.le_refl _) _).setCell (p := ⟨w.heap.size, 1, none⟩) (Nat.le_refl _) _).setCell (p := ⟨w.heap.size, 2, none⟩) (Nat.le_refl _) _).setCell (p := ⟨w.heap.size, 3, none⟩) (Nat.le_refl _) _).setCell (p := ⟨w.heap.size, 4, none⟩) (Nat.le_refl _) _).setCell (p := ⟨w.heap.size, 5, none⟩) (Nat.le_refl _) _).setCell (p := ⟨w.heap.size, 6, none⟩) (Nat.le_refl _) _).setCell (p := ⟨w.heap.size, 7, none⟩) (Nat.le_refl _) _
end Go.Proofs.Ytiomdikompodfaa
