/- The draw's list of choices: what it holds, and its contracts. -/
import Derived.Test.YtkmnmddengnjlaaWRd
import Derived.BigRegion
import Derived.Deep.RegionWith
import Derived.Deep.DeepFit
import Derived.IntWalk
import Derived.Deep.DeepCutAuto
namespace Go.Proofs.Ytkmnmddengnjlaa
open Go Go.RowKit

/-- The choices lie in block C, at of them are used. -/
structure Codes (l : List UInt8) (a0 : Option Addr) (cap C at_ : Nat) (w : World) : Prop where
  here : w.heap[C]? = some (.cells #[.slice a0 (l.length : Nat) cap, .int .i64 (at_ : Int)] 59 (0, 0))
  bytes : ∀ i (h : i < l.length), ∃ (b off : Nat), a0 = some ⟨b, off, none⟩ ∧ b < w.heap.size ∧ b ≠ C ∧ w.cell? ⟨b, off + i, none⟩ = some (.int .u8 (l[i].toNat : Int))
  le : at_ ≤ l.length
theorem Codes.lt {l : List UInt8} {a0 : Option Addr} {cap C at_ : Nat} {w : World} (h : Codes l a0 cap C at_ w) : C < w.heap.size := (Array.getElem?_eq_some_iff.1 h.here).1
theorem Codes.below {l : List UInt8} {a0 : Option Addr} {cap C at_ : Nat} {w w' : World} (h : Codes l a0 cap C at_ w) (hb : Below w.heap.size w w') : Codes l a0 cap C at_ w' := by
  refine ⟨(hb.block C h.lt).trans h.here, fun i hi => ?_, h.le⟩
  obtain ⟨b, off, he, hlt, hc, hv⟩ := h.bytes i hi
  exact ⟨b, off, he, Nat.lt_of_lt_of_le hlt hb.size, hc, (hb.cell (p := ⟨b, off + i, none⟩) hlt).trans hv⟩
theorem Codes.put {l : List UInt8} {a0 : Option Addr} {cap C at_ : Nat} {w : World} (h : Codes l a0 cap C at_ w) (hlt : at_ < l.length) : Codes l a0 cap C (at_ + 1) (w.setCell ⟨C, 1, none⟩ (.int .i64 ((at_ : Int) + 1))) := by
  refine ⟨?_, fun i hi => ?_, hlt⟩
  · show (w.heap.modify C _)[C]? = _
    rw [Array.getElem?_modify, if_pos rfl, h.here]
    rfl
  · obtain ⟨b, off, he, hb, hc, hv⟩ := h.bytes i hi
    refine ⟨b, off, he, by simpa using hb, hc, ?_⟩
    rw [World.cell?_setCell_other w _ _ _ (fun e => hc (by injection e with e1 _; exact e1.symm))]
    exact hv
theorem Codes.kept {l : List UInt8} {a0 : Option Addr} {cap C at_ X : Nat} {w w' : World} (h : Codes l a0 cap C at_ w) (k : Kept X w w') (hC : X ≠ C) (hb : ∀ b off, a0 = some ⟨b, off, none⟩ → 0 < l.length → b ≠ X) : Codes l a0 cap C at_ w' := by
  refine ⟨(k.block C h.lt (fun e => hC e.symm)).trans h.here, fun i hi => ?_, h.le⟩
  obtain ⟨b, off, he, hlt, hc, hv⟩ := h.bytes i hi
  refine ⟨b, off, he, Nat.lt_of_lt_of_le hlt k.size, hc, ?_⟩
  rw [← hv]
  exact World.cell?_of_block (w := w) (k.block b hlt (hb b off he (by omega)))
theorem left_any (l : List UInt8) (a0 : Option Addr) (cap C at_ : Nat) (w : World) (h : Codes l a0 cap C at_ w) :
    Calls Try.prog 21 #[.pointer (some ⟨C, 0, none⟩)] w fun e w' => e = .returned (.bool (decide (at_ < l.length))) ∧ w' = w.drew := by
  have c0 : w.cell? ⟨C, 0, none⟩ = some (.slice a0 (l.length : Nat) cap) := by rw [Lib.cell_of_heap h.here]; rfl
  have c1 : w.cell? ⟨C, 1, none⟩ = some (.int .i64 (at_ : Int)) := by rw [Lib.cell_of_heap h.here]; rfl
  have hd : decide ((at_ : Int) < (l.length : Int)) = decide (at_ < l.length) := by rw [Bool.eq_iff_iff]; simp
  go_enter Try.func21, Try.ntmps21
  go_upto_region 1 with (fail)
  go_region
  all_goals
    go_wp2
    go_ret
    exact ⟨rfl, rfl⟩
/-- The next choice from 0 to n - 1. -/
def nextN (l : List UInt8) (at_ n : Nat) : Nat := if at_ < l.length then (l.getD at_ 0).toNat % n else 0
theorem nextN_lt (l : List UInt8) (at_ n : Nat) (h : 0 < n) : nextN l at_ n < n := by
  unfold nextN
  split
  · exact Nat.mod_lt _ h
  · exact h
set_option maxHeartbeats 4000000 in
theorem next_any (l : List UInt8) (a0 : Option Addr) (cap C at_ n : Nat) (w : World) (hl : l.length ≤ 1000000) (h0 : 0 < n) (hn : n ≤ 256) (h : Codes l a0 cap C at_ w) :
    Calls Try.prog 37 #[.pointer (some ⟨C, 0, none⟩), .int .i64 (n : Int)] w fun e w' => e = .returned (.int .i64 (nextN l at_ n : Nat)) ∧ Kept C w w' ∧ Codes l a0 cap C (if at_ < l.length then at_ + 1 else at_) w' := by
  have hle := h.le
  by_cases hlt : at_ < l.length
  · obtain ⟨b, off, rfl, hb, hc, hv⟩ := h.bytes at_ hlt
    have hL := left_any l _ cap C at_ w h
    rw [decide_eq_true hlt] at hL
    have hc0 : w.drew.cell? ⟨C, 0, none⟩ = some (.slice (some ⟨b, off, none⟩) (l.length : Nat) cap) := by show w.cell? _ = _; rw [Lib.cell_of_heap h.here]; rfl
    have hc1 : w.drew.cell? ⟨C, 1, none⟩ = some (.int .i64 (at_ : Int)) := by show w.cell? _ = _; rw [Lib.cell_of_heap h.here]; rfl
    have hf : ∀ i, w.drew.frozen? ⟨C, i, none⟩ = false := fun i => Lib.frozen_of_heap (w := w) h.here i
    have hdr : Codes l (some ⟨b, off, none⟩) cap C at_ w.drew := h.below ((Below.refl _ w).drew)
    have hp : Codes l (some ⟨b, off, none⟩) cap C (at_ + 1) (w.setCell ⟨C, 1, none⟩ (.int .i64 ((at_ : Int) + 1))).drew := hdr.put hlt
    have hv2 : (w.setCell ⟨C, 1, none⟩ (.int .i64 ((at_ : Int) + 1))).drew.cell? ⟨b, off + at_, none⟩ = some (.int .u8 (l[at_].toNat : Int)) := by
      obtain ⟨b', off', he, _, _, h5⟩ := hp.bytes at_ hlt
      cases he
      exact h5
    have hp0 : (w.setCell ⟨C, 1, none⟩ (.int .i64 ((at_ : Int) + 1))).drew.cell? ⟨C, 0, none⟩ = some (.slice (some ⟨b, off, none⟩) (l.length : Nat) cap) := by rw [Lib.cell_of_heap hp.here]; rfl
    have hp1 : (w.setCell ⟨C, 1, none⟩ (.int .i64 ((at_ : Int) + 1))).drew.cell? ⟨C, 1, none⟩ = some (.int .i64 ((at_ : Int) + 1)) := by rw [Lib.cell_of_heap hp.here]; rfl
    have hkept : Kept C w (w.setCell ⟨C, 1, none⟩ (.int .i64 ((at_ : Int) + 1))).drew := (Kept.refl C w).drew.setCell 1 _
    have hres : nextN l at_ n = l[at_].toNat % n := by unfold nextN; rw [if_pos hlt]; simp [List.getD, hlt]
    have hb8 := l[at_].toNat_lt
    rw [hres, if_pos hlt]
    replace hres := Lib.hid hres
    replace hL := Lib.hid hL
    have hlt' : (at_ : Int) < (l.length : Int) := by omega
    have hmod : ((l[at_].toNat : Int)).tmod (n : Int) = ((l[at_].toNat % n : Nat) : Int) := by rw [Int.tmod_eq_emod_of_nonneg (by omega), Int.natCast_emod]
    have hn0 : ¬ (n : Int) = 0 := by omega
    generalize l[at_].toNat = z at hv hv2 hb8 hmod ⊢
    clear hdr hv hb h
    go_enter Try.func37, Try.ntmps37
    go_upto_region 4 with (go_at_call 21; refine hL.out.mono ?_; rintro e w1 ⟨rfl, rfl⟩)
    generalize (w.setCell ⟨C, 1, none⟩ (.int .i64 ((at_ : Int) + 1))).drew = w2 at hp hp0 hp1 hv2 hkept ⊢
    clear hc0 hc1 hf
    go_region
    all_goals
      go_wp2
      go_ret
      exact ⟨rfl, hkept.drew, hp.below ((Below.refl _ w2).drew)⟩
  · have hL := left_any l _ cap C at_ w h
    rw [decide_eq_false hlt] at hL
    have hres : nextN l at_ n = 0 := by unfold nextN; rw [if_neg hlt]
    rw [hres, if_neg hlt]
    replace hL := Lib.hid hL
    go_enter Try.func37, Try.ntmps37
    go_wp2_with (go_at_call 21; refine hL.out.mono ?_; rintro e w1 ⟨rfl, rfl⟩)
    go_ret
    exact ⟨rfl, (Kept.refl C w).drew, h.below ((Below.refl _ w).drew)⟩
/-- A slice of bytes that came in. -/
def BytesOf (a0 : Option Addr) (l : List UInt8) (w : World) : Prop := ∀ i (h : i < l.length), ∃ (b off : Nat), a0 = some ⟨b, off, none⟩ ∧ b < w.heap.size ∧ w.cell? ⟨b, off + i, none⟩ = some (.int .u8 (l[i].toNat : Int))
theorem codes_new (l : List UInt8) (a0 : Option Addr) (cap n : Nat) (w : World) (hn : n ≤ l.length) (hB : BytesOf a0 l w) : Codes (l.take n) a0 cap w.heap.size 0 (w.alloc (.cells #[.slice a0 (n : Nat) cap, .int .i64 0] 59)) := by
  have hl : (l.take n).length = n := by rw [List.length_take]; omega
  refine ⟨?_, fun i hi => ?_, Nat.zero_le _⟩
  · rw [hl]
    exact heap_alloc_new w _
  · obtain ⟨b, off, he, hb, hv⟩ := hB i (by omega)
    refine ⟨b, off, he, by simp; omega, by omega, ?_⟩
    rw [((Below.refl _ w).alloc (Nat.le_refl _) (.cells #[.slice a0 (n : Nat) cap, .int .i64 0] 59)).cell (p := ⟨b, off + i, none⟩) hb, hv]
    simp
theorem drawNew_any (l : List UInt8) (a0 : Option Addr) (cap n : Nat) (w : World) (hl : l.length ≤ 9223372036854775807) (hc : l.length ≤ cap) (hn : n ≤ 1000) (hB : BytesOf a0 l w) :
    Calls Try.prog 18 #[.slice a0 (l.length : Nat) cap, .int .i64 (n : Int)] w fun e w' => e = .returned (.pointer (some ⟨w.heap.size, 0, none⟩)) ∧ Codes (l.take n) a0 cap w.heap.size 0 w' ∧ Below w.heap.size w w' := by
  by_cases h : n < l.length
  · have hk := codes_new l a0 cap n w (by omega) hB
    have h' : (n : Int) < (l.length : Int) := by omega
    have hc2 : n ≤ cap := by omega
    have hc3 : (n : Int) ≤ (cap : Int) := by omega
    replace hk := Lib.hid hk
    obtain ⟨m, hm⟩ : ∃ m, l.length = m := ⟨_, rfl⟩
    rw [hm] at h' ⊢
    go_enter Try.func18, Try.ntmps18
    go_wp2
    go_ret
    exact ⟨rfl, hk.out, (Below.refl _ w).alloc (Nat.le_refl _) _⟩
  · have hk := codes_new l a0 cap l.length w (Nat.le_refl _) hB
    rw [List.take_of_length_le (Nat.le_refl _)] at hk
    rw [List.take_of_length_le (by omega)]
    have h' : ¬ (n : Int) < (l.length : Int) := by omega
    replace hk := Lib.hid hk
    go_enter Try.func18, Try.ntmps18
    go_wp2
    go_ret
    exact ⟨rfl, hk.out, (Below.refl _ w).alloc (Nat.le_refl _) _⟩
end Go.Proofs.Ytkmnmddengnjlaa
