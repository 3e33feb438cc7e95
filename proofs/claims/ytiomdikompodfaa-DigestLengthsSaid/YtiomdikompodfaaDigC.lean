/- Contract of the package's word: the first eight bytes, the least significant one first. -/
import Derived.Test.YtiomdikompodfaaDigB
import Derived.Test.YtiomdikompodfaaApp
import Derived.Laws.CopyOwn
import Derived.ChangeKeysEq
namespace Go.Proofs.Ytiomdikompodfaa
open Go Go.RowKit

theorem part_drop (l : List UInt8) (j i n : Nat) : part (l.drop j) i n = part l (j + i) n := by
  induction n with
  | zero => rfl
  | succ n ih => simp only [part, ih, List.getD, List.getElem?_drop, Nat.add_assoc]
theorem part_more (l : List UInt8) (j n k : Nat) (h : l.length ≤ j + n) : part l j (n + k) = part l j n := by
  induction k with
  | zero => rfl
  | succ k ih =>
    rw [← Nat.add_assoc]
    simp only [part]
    rw [ih, show l.getD (j + (n + k)) 0 = 0 from by simp [List.getD, List.getElem?_eq_none (show l.length ≤ j + (n + k) by omega)]]
    simp
theorem part_next (l : List UInt8) (k : Nat) :
    bits .or .u64 ((part l 0 k).toNat : Int) (IntKind.u64.wrap (((l.getD k 0).toNat : Int) * 2 ^ (8 * k))) = ((part l 0 (k + 1)).toNat : Int) := by
  have e2 : ((l.getD k 0).toNat : Int) * 2 ^ (8 * k) = (((l.getD k 0).toNat * 2 ^ (8 * k) : Nat) : Int) := by rw [Int.natCast_mul, Int.natCast_pow]; rfl
  rw [e2, wrap_word, word_or]
  simp [part]
/-- The eight cells of the block behind the copy. -/
def blk (l : List UInt8) : List Value := splice (List.replicate 8 (.int .u8 0)) 0 (Lib.byteCells (l.take 8))
theorem blk_at (l : List UInt8) (i : Nat) (h : i < 8) : (blk l)[i]? = some (.int .u8 ((l.getD i 0).toNat : Int)) := by
  have hlen : (Lib.byteCells (l.take 8)).length = min 8 l.length := by simp [Lib.byteCells_length]
  unfold blk splice
  rw [List.take_zero, List.nil_append, Nat.zero_add, hlen]
  by_cases hi : i < l.length
  · rw [List.getElem?_append_left (by rw [hlen]; omega)]
    simp [Lib.byteCells, h, hi, List.getD]
  · rw [List.getElem?_append_right (by rw [hlen]; omega), hlen, List.getElem?_drop, List.getElem?_replicate, if_pos (by omega)]
    simp [List.getD, List.getElem?_eq_none (show l.length ≤ i by omega)]

theorem run_index8 (cs : Array Value) (k : Nat) (h : k < 8) (v : Value) (hx : cs[k]? = some v) (w : World) : (Instr.index 44 (.agg cs) (.int .i64 (k : Int))).run Try.prog w = .ok v w := by
  have hk : (0 : Int) ≤ (k : Int) ∧ (k : Int) < ((8 : Nat) : Int) := by omega
  have hp := run_part_plain (P := Try.prog) w (e := 5) (by kernel_rfl) hx
  obtain ⟨i0, hi, hz0, hz1, hz2⟩ := info_parts infoByte
  have hsz := run_sizeOf w hi
  rw [show Try.prog.cellsOf 5 = 1 from by kernel_rfl] at hsz
  simp only [Instr.index, asIntOf, Sem.run_bind, run_underlying Try.underlying44, Result.andThen_ok, Sem.run_pure, hk, and_self, if_true, hsz, Int.toNat_natCast, Nat.mul_one, hp]
set_option maxHeartbeats 8000000 in
theorem word_any (a0 : Option Addr) (l : List UInt8) (cap : Nat) (w : World) (hl : l.length ≤ 1000000) (hB : BytesAre a0 l w) :
    Calls Try.prog 19 #[.slice a0 l.length cap] w fun e w' => e = .returned (.int .u64 ((part l 0 8).toNat : Int)) ∧ Below w.heap.size w w' := by
  have hcs : (Lib.byteCells (l.take 8)).length = Nat.min l.length 8 := by simp [Lib.byteCells_length, Nat.min_comm]
  go_enter Try.func19, Try.ntmps19
  go_upto_region 2 with (fail)
  have hg : (w.alloc (.cells #[.int .u8 0, .int .u8 0, .int .u8 0, .int .u8 0, .int .u8 0, .int .u8 0, .int .u8 0, .int .u8 0] 44)).heap[w.heap.size]? = some (.cells (List.replicate 8 (Value.int .u8 0)).toArray 44 (0, 0)) := heap_alloc_new w _
  have hb1 : Below w.heap.size w (w.alloc (.cells #[.int .u8 0, .int .u8 0, .int .u8 0, .int .u8 0, .int .u8 0, .int .u8 0, .int .u8 0, .int .u8 0] 44)) := (Below.refl _ w).alloc (Nat.le_refl _) _
  generalize w.alloc (.cells #[.int .u8 0, .int .u8 0, .int .u8 0, .int .u8 0, .int .u8 0, .int .u8 0, .int .u8 0, .int .u8 0] 44) = w1 at hg hb1 ⊢
  have hpos : 0 < (Lib.byteCells (l.take 8)).length → some (⟨w.heap.size, 0, none⟩ : Addr) = some ⟨w.heap.size, 0, none⟩ ∧ ∃ ad, a0 = some ad ∧ ∀ j v, (Lib.byteCells (l.take 8))[j]? = some v → w1.cell? (ad.add j) = some v := by
    intro h0
    have hl0 : 0 < l.length := by
      rw [hcs] at h0
      exact Nat.lt_of_lt_of_le h0 (Nat.min_le_left _ _)
    obtain ⟨b, off, rfl, _, _⟩ := hB 0 hl0
    refine ⟨rfl, _, rfl, fun j v hj => ?_⟩
    have hj8 : j < (l.take 8).length := by
      have := (List.getElem?_eq_some_iff.1 hj).1
      simpa [Lib.byteCells_length] using this
    have hjl : j < l.length := by rw [List.length_take] at hj8; omega
    obtain ⟨b', off', he, hlt, hc⟩ := hB j hjl
    cases he
    rw [add_off, hb1.cell (p := ⟨b, off + j, none⟩) hlt, hc]
    have : (Lib.byteCells (l.take 8))[j]? = some (.int .u8 (l[j].toNat : Int)) := by simp [Lib.byteCells, hjl, show j < 8 by rw [List.length_take] at hj8; omega]
    rw [← this, hj]
  have hone : ∀ v ∈ Lib.byteCells (l.take 8), v.oneCell' = true := by
    intro u hu
    simp only [Lib.byteCells, List.mem_map] at hu
    obtain ⟨c, _, rfl⟩ := hu
    rfl
  have hfit : 0 + (Lib.byteCells (l.take 8)).length ≤ (List.replicate 8 (Value.int .u8 0)).length := by
    rw [hcs, List.length_replicate, Nat.zero_add]
    exact Nat.min_le_right _ _
  replace hpos := Lib.hid hpos
  replace hg := Lib.hid hg
  replace hone := Lib.hid hone
  replace hfit := Lib.hid hfit
  replace hcs := Lib.hid hcs
  obtain ⟨β, hβ⟩ : ∃ β : Nat → UInt8, ∀ i, l.getD i 0 = β i := ⟨fun i => l.getD i 0, fun _ => rfl⟩
  go_upto_region 3 with (refine wpList_copy_splice rfl (.tmp 7) (.tmp 8) 23 23 rfl 5 Try.underlying23 (by kernel_rfl) (some ⟨w.heap.size, 0, none⟩) a0 8 8 l.length cap rfl rfl w.heap.size 0 (List.replicate 8 (.int .u8 0)) 44 hg.out (Lib.byteCells (l.take 8)) hcs.out hpos.out hfit.out hone.out w.heap.size w hb1 (Nat.le_refl _) ?_; intro w2 HG2 hB2)
  have hcell : ∀ i, i < 8 → w2.cell? ⟨w.heap.size, i, none⟩ = some (.int .u8 ((β i).toNat : Int)) := by
    intro i hi
    rw [Lib.cell_of_heap HG2.out, ← hβ i, ← blk_at l i hi]
    simp [blk]
  clear hg hpos hone hfit hcs HG2
  replace hβ := Lib.hid hβ
  have c0 := hcell 0 (by omega)
  have c1 := hcell 1 (by omega)
  have c2 := hcell 2 (by omega)
  have c3 := hcell 3 (by omega)
  have c4 := hcell 4 (by omega)
  have c5 := hcell 5 (by omega)
  have c6 := hcell 6 (by omega)
  have c7 := hcell 7 (by omega)
  replace hcell := Lib.hid hcell
  have hix : ∀ k, k < 8 → (#[Value.int .u8 ((β 0).toNat : Int), .int .u8 ((β 1).toNat : Int), .int .u8 ((β 2).toNat : Int), .int .u8 ((β 3).toNat : Int), .int .u8 ((β 4).toNat : Int), .int .u8 ((β 5).toNat : Int), .int .u8 ((β 6).toNat : Int), .int .u8 ((β 7).toNat : Int)] : Array Value)[k]? = some (.int .u8 ((β k).toNat : Int)) := by
    intro k hk
    match k, hk with
    | 0, _ => rfl
    | 1, _ => rfl
    | 2, _ => rfl
    | 3, _ => rfl
    | 4, _ => rfl
    | 5, _ => rfl
    | 6, _ => rfl
    | 7, _ => rfl
    | k + 8, h => omega
  go_wp2
  clear c0 c1 c2 c3 c4 c5 c6 c7
  go_loop [4, 5, 6, 11] (fun m i x j => ∃ k : Nat, k ≤ 8 ∧ j = .int .i64 k ∧ m = .int .u64 ((part l 0 k).toNat : Int)) (fun _ _ _ j => 8 - (intOf j).toNat)
  case atStart => exact ⟨0, by omega, rfl, rfl⟩
  case round =>
    obtain ⟨k, hk8, rfl, rfl⟩ := hrel
    by_cases hgo : k < 8
    · have hgo' : (k : Int) < 8 := by omega
      have hx := run_index8 _ k hgo _ (hix k hgo) w2
      replace hix := Lib.hid hix
      have hpn := part_next l k
      rw [hβ.out k] at hpn
      have hb := (β k).toNat_lt
      have hps := Lib.hid hpn
      clear hpn
      go_wp2
      go_round
      case rel => exact ⟨k + 1, by omega, by go_num, by rw [hps.out]⟩
      case measure => simp [intOf]; omega
    · obtain rfl : k = 8 := by omega
      go_wp2
      go_ret
      exact ⟨rfl, hB2⟩
end Go.Proofs.Ytiomdikompodfaa
