/- Contract of the law's awake: it is true. -/
import Derived.Test.YtiomdikompodfaaDig
import Derived.Test.YtiomdikompodfaaCut
namespace Go.Proofs.Ytiomdikompodfaa
open Go Go.RowKit

theorem infoByteZ : (Try.prog.info? 5).map (fun i => (i.zero, i.size, i.bytes)) = some (some (.int .u8 0), 1, 1) := by kernel_rfl
theorem run_makeBytes (w : World) (n : Nat) (h : n ≤ 1000) : (Instr.makeSlice 23 (.int .i64 (n : Int)) (.int .i64 (n : Int))).run Try.prog w = .ok (.slice (some ⟨w.heap.size, 0, none⟩) n n) (w.alloc (.cells (madeCells #[.int .u8 0] n) 5)) := by
  obtain ⟨i0, hi, hz0, hz1, hz2⟩ := info_parts infoByteZ
  have := run_make (P := Try.prog) w 23 5 i0 (.int .u8 0) Try.underlying23 hi hz0 .i64 .i64 (n : Int) (n : Int) (by omega) (Int.le_refl _) (by rw [hz2]; omega) (by omega)
  rw [hz1] at this
  simpa [Value.cells] using this
/-- A row of bytes in a block of the call's own. -/
def RowIs (g : Nat) (l : List UInt8) (w : World) : Prop := w.heap[g]? = some (.cells (l.map fun c => Value.int .u8 (c.toNat : Int)).toArray 5 (0, 0))
theorem RowIs.bytes {g : Nat} {l : List UInt8} {w : World} (h : RowIs g l w) : BytesAre (some ⟨g, 0, none⟩) l w := by
  intro i hi
  refine ⟨g, 0, rfl, (Array.getElem?_eq_some_iff.1 h).1, ?_⟩
  rw [Lib.cell_of_heap h]
  simp [hi]
theorem RowIs.made (w : World) (n : Nat) : RowIs w.heap.size (List.replicate n 0) (w.alloc (.cells (madeCells #[.int .u8 0] n) 5)) := by
  have : madeCells #[.int .u8 0] n = ((List.replicate n (0 : UInt8)).map fun c => Value.int .u8 (c.toNat : Int)).toArray := by
    apply Array.ext
    · simp [madeCells]
    · intro i h1 h2
      simp [madeCells, Nat.mod_one]
  unfold RowIs
  rw [this]
  exact heap_alloc_new w _
theorem RowIs.put {g : Nat} {l : List UInt8} {w : World} (h : RowIs g l w) (i : Nat) (c : UInt8) : RowIs g (l.set i c) (w.setCell ⟨g, i, none⟩ (.int .u8 (c.toNat : Int))) := by
  unfold RowIs at h ⊢
  show (w.heap.modify g _)[g]? = _
  rw [Array.getElem?_modify, if_pos rfl, h]
  simp [List.map_set]
theorem RowIs.cell {g : Nat} {l : List UInt8} {w : World} (h : RowIs g l w) (i : Nat) (hi : i < l.length) : w.cell? ⟨g, i, none⟩ = some (.int .u8 (l[i].toNat : Int)) := by
  rw [Lib.cell_of_heap h]
  simp [hi]
theorem RowIs.free {g : Nat} {l : List UInt8} {w : World} (h : RowIs g l w) (i : Nat) : w.frozen? ⟨g, i, none⟩ = false := Lib.frozen_of_heap h i
/-- The bytes 0 to n - 1, then zeros, 15 of them. -/
def upTo (n : Nat) : List UInt8 := (List.range n).map UInt8.ofNat ++ List.replicate (15 - n) 0
theorem upTo_length (n : Nat) (h : n ≤ 15) : (upTo n).length = 15 := by simp [upTo]; omega
theorem upTo_set (n : Nat) (h : n < 15) : (upTo n).set n (UInt8.ofNat n) = upTo (n + 1) := by
  revert h
  have : ∀ n : Fin 15, (upTo n.1).set n.1 (UInt8.ofNat n.1) = upTo (n.1 + 1) := by decide
  intro h
  exact this ⟨n, h⟩

theorem bytes_made (l : List UInt8) (w : World) : BytesAre (some ⟨w.heap.size, 0, none⟩) l (w.alloc (.cells (l.map fun c => Value.int .u8 (c.toNat : Int)).toArray 5)) :=
  RowIs.bytes (g := w.heap.size) (heap_alloc_new w _)
theorem fields_made1 (a1 : Option Addr) (c1 : Nat) (f : List UInt8) (w : World) (hn : a1 = none → c1 = 0) (hc : f.length ≤ c1) (hb : BytesAre a1 f w) :
    FieldsAre (some ⟨w.heap.size, 0, none⟩) [f] (w.alloc (.cells #[.slice a1 (f.length : Nat) c1] 23)) := by
  intro i hi
  obtain rfl : i = 0 := by simpa using hi
  refine ⟨_, 0, a1, c1, rfl, by simp, ?_, hn, hc, hb.below (Nat.le_refl _) ((Below.refl _ w).alloc (Nat.le_refl _) _)⟩
  rw [Lib.cell_of_heap (heap_alloc_new w _)]
  rfl
theorem upTo_15 : upTo 15 = (List.range 15).map UInt8.ofNat := by decide
theorem frame_5 : frameL [[5]] = [0, 0, 0, 0, 0, 0, 0, 1, 5] := by decide

theorem frame_call5 (w : World) : Calls Try.prog 12 #[.slice (some ⟨w.heap.size + 1, 0, none⟩) 1 1] ((w.alloc (.cells #[.int .u8 5] 5)).alloc (.cells #[.slice (some ⟨w.heap.size, 0, none⟩) 1 1] 23)) (MadeBytes [0, 0, 0, 0, 0, 0, 0, 1, 5] ((w.alloc (.cells #[.int .u8 5] 5)).alloc (.cells #[.slice (some ⟨w.heap.size, 0, none⟩) 1 1] 23))) := by
  have hff := fields_made1 (some ⟨w.heap.size, 0, none⟩) 1 [5] _ (by simp) (by simp) (bytes_made [5] w)
  rw [show ∀ o, (w.alloc o).heap.size = w.heap.size + 1 from fun o => by simp] at hff
  have := frame_any _ [[5]] 1 _ (by simp) (by simp) (by simp) hff
  rw [frame_5] at this
  exact this

theorem sum_call15 (a : Option Addr) (w : World) (h : BytesAre a ((List.range 15).map UInt8.ofNat) w) : Calls Try.prog 9 #[.int .u64 506097522914230528, .int .u64 1084818905618843912, .slice a 15 15] w fun e w' => e = .returned (.int .u64 11613035633349379557) ∧ Below w.heap.size w w' := by
  have := sum_any 506097522914230528 1084818905618843912 a ((List.range 15).map UInt8.ofNat) 15 w (by simp) (by simp) h
  rw [sip_example] at this
  exact this
theorem BytesAre.two {a : Option Addr} {l : List UInt8} {w : World} (h : BytesAre a l w) (hl : 8 < l.length) : ∃ b off, a = some ⟨b, off, none⟩ ∧ b < w.heap.size ∧ w.cell? ⟨b, off + 7, none⟩ = some (.int .u8 (l[7].toNat : Int)) ∧ w.cell? ⟨b, off + 8, none⟩ = some (.int .u8 (l[8].toNat : Int)) := by
  obtain ⟨b, off, rfl, hb, h7⟩ := h 7 (by omega)
  obtain ⟨b', off', he, hb', h8⟩ := h 8 (by omega)
  cases he
  exact ⟨b, off, rfl, hb, h7, h8⟩

set_option maxHeartbeats 8000000 in
theorem awake_any (w : World) : Calls Try.prog 8 #[] w fun e w' => e = .returned (.bool true) ∧ Below w.heap.size w w' := by
  have hmk := run_makeBytes w 15 (by omega)
  rw [show ((15 : Nat) : Int) = 15 from rfl] at hmk
  go_enter Try.func8, Try.ntmps8
  go_wp2
  have hrow := RowIs.made w 15
  have hbl := (Below.refl w.heap.size w).alloc (Nat.le_refl _) (.cells (madeCells #[.int .u8 0] 15) 5)
  generalize w.alloc (.cells (madeCells #[.int .u8 0] 15) 5) = w0 at hrow hbl ⊢
  replace hmk := Lib.hid hmk
  go_loopw [7] (fun i wr => ∃ n : Nat, n ≤ 15 ∧ i = .int .i64 n ∧ RowIs w.heap.size (upTo n) wr ∧ Below w.heap.size w wr) (fun i _ => 15 - (intOf i).toNat)
  case atStart => exact ⟨0, Nat.zero_le _, rfl, hrow, hbl⟩
  case round =>
    obtain ⟨n, hn, rfl, hr, hb⟩ := hrel
    clear hrow hbl
    by_cases hlt : n < 15
    · have hlt' : (n : Int) < 15 := by omega
      have hc := hr.cell n (by rw [upTo_length n hn]; exact hlt)
      have hf := hr.free n
      have hr2 := hr.put n (UInt8.ofNat n)
      rw [upTo_set n hlt, show (((UInt8.ofNat n).toNat : Nat) : Int) = (n : Int) from by rw [UInt8.toNat_ofNat']; omega] at hr2
      replace hr := Lib.hid hr
      go_wp2
      go_roundw
      case rel => exact ⟨n + 1, by omega, by go_num, hr2, hb.setCell (p := ⟨w.heap.size, n, none⟩) (Nat.le_refl _) _⟩
      case measure => simp [intOf]; omega
    · obtain rfl : n = 15 := by omega
      have hsz := hb.size
      rw [upTo_15] at hr
      have hfr := Lib.hid (frame_call5 wr)
      have hbb := Lib.hid (((Below.refl w.heap.size wr).alloc hsz (.cells #[.int .u8 5] 5)).alloc (by simp; omega) (.cells #[.slice (some ⟨wr.heap.size, 0, none⟩) 1 1] 23))
      go_upto_region 8 with (go_at_call 12; refine hfr.out.mono ?_; rintro e w1 ⟨a1, c1, rfl, hn1, hc1, hb1, hbl1, hown1⟩)
      have hbw := hbb.out.trans (hbl1.mono (by simp; omega))
      have hby := hr.bytes.below (Nat.le_refl _) ((((Below.refl wr.heap.size wr).alloc (Nat.le_refl _) (.cells #[.int .u8 5] 5)).alloc (by simp) (.cells #[.slice (some ⟨wr.heap.size, 0, none⟩) 1 1] 23)).trans (hbl1.mono (by simp; omega)))
      obtain ⟨b, off, rfl, hbk, h7, h8⟩ := hb1.two (by simp)
      have hsm := Lib.hid (sum_call15 (some ⟨w.heap.size, 0, none⟩) w1 hby)
      have hc9 : 9 ≤ c1 := by simpa using hc1
      clear hb1 hown1 hn1 hc1 hbl1 hbb hfr hby hr
      have g7 : w1.cell? ⟨b, off + 7, none⟩ = some (.int .u8 1) := h7
      have g8 : w1.cell? ⟨b, off + 8, none⟩ = some (.int .u8 5) := h8
      clear h7 h8
      go_wp2_with (go_at_call 9; refine hsm.out.mono ?_; rintro e w2 ⟨rfl, hb2⟩; have k7 := hb2.cell (p := ⟨b, off + 7, none⟩) hbk; have k8 := hb2.cell (p := ⟨b, off + 8, none⟩) hbk; rw [g7] at k7; rw [g8] at k8)
      go_ret
      exact ⟨rfl, hb.trans (hbw.trans (hb2.mono (by have := hbw.size; omega)))⟩
end Go.Proofs.Ytiomdikompodfaa
