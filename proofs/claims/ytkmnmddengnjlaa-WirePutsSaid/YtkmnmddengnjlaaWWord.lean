/- Contract of the package's PutWord. -/
import Derived.Test.YtkmnmddengnjlaaWPut
namespace Go.Proofs.Ytkmnmddengnjlaa
open Go Go.RowKit

/-- The eight cells behind k rounds. -/
def fill8 (g : Nat → UInt8) (k : Nat) : List UInt8 :=
  [if 8 ≤ k then g 7 else 0, if 7 ≤ k then g 6 else 0, if 6 ≤ k then g 5 else 0, if 5 ≤ k then g 4 else 0, if 4 ≤ k then g 3 else 0, if 3 ≤ k then g 2 else 0, if 2 ≤ k then g 1 else 0, if 1 ≤ k then g 0 else 0]
theorem fill8_set (g : Nat → UInt8) (k : Nat) (h : k < 8) : (fill8 g k).set (7 - k) (g k) = fill8 g (k + 1) := by
  match k, h with
  | 0, _ => rfl
  | 1, _ => rfl
  | 2, _ => rfl
  | 3, _ => rfl
  | 4, _ => rfl
  | 5, _ => rfl
  | 6, _ => rfl
  | 7, _ => rfl
  | k + 8, h => omega
def byteAt (n k : Nat) : UInt8 := UInt8.ofNat (n / 2 ^ (8 * k))
theorem fill8_all (n : Nat) : fill8 (byteAt n) 8 = lenB n := rfl
/-- A row of bytes in a block of an array's. -/
def Row8 (g : Nat) (l : List UInt8) (w : World) : Prop := w.heap[g]? = some (.cells (l.map fun c => Value.int .u8 (c.toNat : Int)).toArray 57 (0, 0))
theorem Row8.put {g : Nat} {l : List UInt8} {w : World} (h : Row8 g l w) (i : Nat) (c : UInt8) : Row8 g (l.set i c) (w.setCell ⟨g, i, none⟩ (.int .u8 (c.toNat : Int))) := by
  unfold Row8 at h ⊢
  show (w.heap.modify g _)[g]? = _
  rw [Array.getElem?_modify, if_pos rfl, h]
  simp [List.map_set]
theorem Row8.cell {g : Nat} {l : List UInt8} {w : World} (h : Row8 g l w) (i : Nat) (hi : i < l.length) : w.cell? ⟨g, i, none⟩ = some (.int .u8 (l[i].toNat : Int)) := by
  rw [Lib.cell_of_heap h]
  simp [hi]
theorem Row8.free {g : Nat} {l : List UInt8} {w : World} (h : Row8 g l w) (i : Nat) : w.frozen? ⟨g, i, none⟩ = false := Lib.frozen_of_heap h i
theorem Row8.bytes {g : Nat} {l : List UInt8} {w : World} (h : Row8 g l w) : BytesAre (some ⟨g, 0, none⟩) l w := by
  intro i hi
  refine ⟨g, 0, rfl, (Array.getElem?_eq_some_iff.1 h).1, ?_⟩
  rw [Lib.cell_of_heap h]
  simp [hi]
/-- What the loop holds. -/
structure Filled (g : Nat → UInt8) (k B : Nat) (w wr : World) : Prop where
  here : Row8 B (fill8 g k) wr
  below : Below B w wr
theorem Filled.put {g : Nat → UInt8} {k B : Nat} {w wr : World} (h : Filled g k B w wr) (hk : k < 8) : Filled g (k + 1) B w (wr.setCell ⟨B, 7 - k, none⟩ (.int .u8 ((g k).toNat : Int))) := by
  refine ⟨?_, h.below.setCell (p := ⟨B, 7 - k, none⟩) (Nat.le_refl _) _⟩
  have := h.here.put (7 - k) (g k)
  rw [fill8_set g k hk] at this
  exact this
theorem byte_step (n k : Nat) : (n : Int) / 2 ^ (8 * k) % 256 = ((byteAt n k).toNat : Int) := by
  unfold byteAt
  rw [UInt8.toNat_ofNat', Int.natCast_emod, Int.natCast_ediv, Int.natCast_pow]
  rfl

set_option maxHeartbeats 8000000 in
theorem putWord_any (a0 : Option Addr) (l : List UInt8) (cap : Nat) (n : Nat) (w : World) (hl : l.length ≤ 900000) (hn : n < 18446744073709551616) (hS : Src a0 l cap w) :
    Calls Try.prog 12 #[.slice a0 (l.length : Nat) cap, .int .u64 (n : Nat)] w (MadeB (l ++ lenB n) w) := by
  have hs0 : Filled (byteAt n) 0 w.heap.size w (w.alloc (.cells #[.int .u8 0, .int .u8 0, .int .u8 0, .int .u8 0, .int .u8 0, .int .u8 0, .int .u8 0, .int .u8 0] 57)) :=
    ⟨heap_alloc_new w _, (Below.refl _ w).alloc (Nat.le_refl _) _⟩
  replace hn := Lib.hid hn
  have hlen := lenB_length n
  have hall := fill8_all n
  generalize lenB n = L at hlen hall ⊢
  replace hall := Lib.hid hall
  replace hlen := Lib.hid hlen
  go_enter Try.func12, Try.ntmps12
  go_upto_region 2 with (fail)
  generalize w.alloc (.cells #[.int .u8 0, .int .u8 0, .int .u8 0, .int .u8 0, .int .u8 0, .int .u8 0, .int .u8 0, .int .u8 0] 57) = w0 at hs0 ⊢
  go_wp2
  go_loopw [7] (fun j wr => ∃ k : Nat, k ≤ 8 ∧ j = .int .i64 k ∧ Filled (byteAt n) k w.heap.size w wr) (fun j _ => 8 - (intOf j).toNat)
  case atStart => exact ⟨0, by omega, rfl, hs0⟩
  case round =>
    obtain ⟨k, hk8, rfl, hst⟩ := hrel
    clear hs0
    by_cases hgo : k < 8
    · have hgo' : (k : Int) < 8 := by omega
      obtain ⟨j, hj⟩ : ∃ j : Nat, 7 - k = j := ⟨_, rfl⟩
      have hj2 : (7 : Int) - (k : Int) = (j : Int) := by omega
      have hj8 : j < 8 := by omega
      have hjc := hst.here.cell j (by simpa [fill8] using hj8)
      have hjf := hst.here.free j
      have hbs := byte_step n k
      have hp := hst.put hgo
      rw [hj] at hp
      replace hj := Lib.hid hj
      go_wp2
      go_roundw
      case rel => exact ⟨k + 1, by omega, by go_num, hp⟩
      case measure => simp [intOf]; omega
    · obtain rfl : k = 8 := by omega
      have hrow := hst.here
      rw [hall.out] at hrow
      have hb := hst.below
      have h8 : Src (some ⟨w.heap.size, 0, none⟩) L 8 wr := ⟨by simp, by rw [hlen.out]; omega, hrow.bytes⟩
      have hj := Lib.hid (join2_at (hS.below (Nat.le_refl _) hb) h8 (by rw [hlen.out]; omega) wr.heap.size rfl 8 8 hlen.out.symm rfl)
      clear hrow hst h8
      go_wp2_with (go_at_call 34; refine hj.out.mono ?_)
      rintro e w2 ⟨b1, d1, rfl, m1, m2, m3, m4, hb2⟩
      go_wp2
      go_ret
      exact ⟨b1, d1, by simp, m1, m2, m3, m4, hb.trans (hb2.mono hb.size)⟩
end Go.Proofs.Ytkmnmddengnjlaa
