/- WireReads: for every bytes and every choices, any sequence of reads returns what the document says, with its errors, of which the first one stays. -/
import Derived.Test.YtkmnmddengnjlaaWCall
namespace Go.Proofs.Ytkmnmddengnjlaa
open Go Go.RowKit

/-- What holds at the head of the loop. -/
def ReadsAt (cl : List UInt8) (ca : Option Addr) (cc C lo R hi Q : Nat) (w : World) (wr : World) : Prop :=
  ∃ l e at_, Both cl ca cc C at_ l e lo R l e hi Q wr ∧ Below w.heap.size w wr
theorem BytesAre.low {a : Option Addr} {l : List UInt8} {w : World} (h : BytesAre a l w) : BIn 0 w.heap.size a l w := ⟨Nat.le_refl _, fun i hi => by
  obtain ⟨b, off, h1, h2, h3⟩ := h i hi
  exact ⟨b, off, h1, Nat.zero_le _, h2, h3⟩⟩
set_option maxHeartbeats 16000000 in
theorem lawReads_small (a0 a1 : Option Addr) (l l1 : List UInt8) (c0 c1 : Nat) (w : World) (hl : l.length ≤ 300) (hS : Src a0 l c0 w) (hl1 : l1.length ≤ 9223372036854775807) (hS1 : Src a1 l1 c1 w) :
    Calls Try.prog 4 #[.slice a0 (l.length : Nat) c0, .slice a1 (l1.length : Nat) c1] w fun e w' => e = .returned (.bool true) ∧ Below w.heap.size w w' := by
  have B := Below.refl w.heap.size w
  have hl' : ¬ (300 : Int) < (l.length : Int) := by omega
  go_enter Try.func4, Try.ntmps4
  go_upto_region 5 with (go_at_call 9; refine (awake_any _).mono ?_; rintro e W ⟨rfl, hb⟩; replace B := B.trans (hb.mono B.size); have hSw := hS.below (Nat.le_refl _) hb; have hS1w := hS1.below (Nat.le_refl _) hb; clear hb)
  have hCw := B.size
  have hcn := Lib.hid (drawNew_any l1 a1 c1 60 W hl1 hS1w.le (by omega) hS1w.bytes)
  go_upto_region 6 with (go_at_call 18; refine hcn.out.mono ?_; rintro e w1 ⟨rfl, hc1, hb1⟩)
  have hCl : W.heap.size < w1.heap.size := hc1.lt
  have hS2 := hSw.below (Nat.le_refl _) hb1
  have hrn := Lib.hid (new_any (by omega) hS2)
  replace B := B.trans (hb1.mono B.size)
  have hBI : BIn 0 W.heap.size a0 l w1 := hSw.bytes.low.kept (Kept.of_below (C := W.heap.size) hb1) (.inr (Nat.le_refl _))
  have hca : ∀ b off, a1 = some ⟨b, off, none⟩ → 0 < (l1.take 60).length → b < W.heap.size := fun b off h h0 => by
    rw [List.length_take] at h0
    obtain ⟨b', off', e1, e2, _⟩ := hS1w.bytes 0 (by omega)
    rw [e1] at h
    injection h with h
    injection h with h
    omega
  have hlc : (l1.take 60).length ≤ 1000000 := by rw [List.length_take]; omega
  replace hcn := Lib.hid hcn
  clear hS hS1 hS1w hb1
  go_wp2_with (go_at_call 19; refine hrn.out.mono ?_)
  rintro en w2 ⟨R, rfl, hR, hrd, hb2⟩
  have hc2 := hc1.below hb2
  have hBI2 : BIn 0 W.heap.size a0 l w2 := hBI.kept (Kept.of_below (C := w1.heap.size) hb2) (.inr (by omega))
  have hqn := Lib.hid (refNew_any (by omega) hSw.le hBI2)
  have hRl := hrd.lt
  replace B := B.trans (hb2.mono B.size)
  clear hrn hBI hb2 hc1
  go_upto_region 7 with (go_at_call 20; refine hqn.out.mono ?_; rintro en w3 ⟨rfl, hrq, hb3⟩)
  have hB : Both (l1.take 60) a1 c1 W.heap.size 0 l 0 w1.heap.size R l 0 W.heap.size w2.heap.size w3 := ⟨hc2.below hb3, hrd.below hR hb3, hrq⟩
  have L : Lay (l1.take 60) a1 W.heap.size w1.heap.size R W.heap.size w2.heap.size := ⟨hCl, hR, hRl, Nat.le_refl _, hca⟩
  replace B := B.trans (hb3.mono B.size)
  generalize l1.take 60 = cl at hB L hlc
  generalize w1.heap.size = lo at hB L
  generalize w2.heap.size = Q at hB L ⊢
  generalize W.heap.size = C at hB L hCw ⊢
  clear hc2 hrd hrq hb3 hqn hBI2 hca hR hRl hCl hS2 hSw hcn
  go_wp2
  go_loopw [22] (fun _ wr => ReadsAt cl a1 c1 C lo R C Q w wr) (fun _ wr => cl.length - (intOf ((wr.cell? ⟨C, 1, none⟩).getD undef)).toNat)
  case atStart => exact ⟨_, _, _, hB, B⟩
  case round =>
    obtain ⟨l4, e4, at_, hB4, hBl⟩ := hrel
    clear hB B hl hl'
    have hLf := Lib.hid (left_any cl a1 c1 C at_ wr hB4.codes)
    have hme : ∀ (at2 : Nat) (W : World) l e, Both cl a1 c1 C at2 l e lo R l e C Q W → (intOf ((W.cell? ⟨C, 1, none⟩).getD undef)).toNat = at2 := fun at2 W l e h => by
      rw [show W.cell? ⟨C, 1, none⟩ = some (.int .i64 (at2 : Int)) from by rw [Lib.cell_of_heap h.codes.here]; rfl]
      rfl
    have hm0 := hme at_ wr l4 e4 hB4
    have hle := hB4.codes.le
    by_cases hlt : at_ < cl.length
    · have hCa := Lib.hid (call_any cl a1 c1 C at_ l4 e4 lo R C Q wr.drew hlc L (hB4.grown L (Below.refl _ wr).drew))
      rw [decide_eq_true hlt] at hLf
      replace hme := Lib.hid hme
      replace hm0 := Lib.hid hm0
      replace hB4 := Lib.hid hB4
      go_wp2_with (first | (go_at_call 21; refine hLf.out.mono ?_; rintro en w5 ⟨rfl, rfl⟩) | (go_at_call 22; refine hCa.out.mono ?_; rintro en w6 ⟨rfl, hk, l5, e5, at5, hat, hB5⟩; replace hB5 := Lib.hid hB5; replace hk := Lib.hid hk))
      go_roundw
      case rel => exact ⟨_, _, _, hB5.out, hBl.trans ((Below.refl _ wr).drew.trans (hk.out.below (by have := L.hC; have := L.hlo; omega) (by have := L.hC; have := L.hlo; have := L.hRQ; omega) hCw hBl.size))⟩
      case measure =>
        have h1 := hme.out _ _ _ _ hB5.out
        have h2 := hm0.out
        have h3 := hat hlt
        omega
    · rw [decide_eq_false hlt] at hLf
      have hB5 := hB4.grown L (Below.refl _ wr).drew
      have cA := Lib.hid (end_any hB5.r)
      have cB := Lib.hid (refEnd_any hB5.q)
      generalize endR l4 e4 = v at cA cB
      replace hme := Lib.hid hme
      replace hm0 := Lib.hid hm0
      replace hB4 := Lib.hid hB4
      replace hB5 := Lib.hid hB5
      go_wp2_with (first | (go_at_call 21; refine hLf.out.mono ?_; rintro en w5 ⟨rfl, rfl⟩) | (go_at_call 23; refine cA.out.mono ?_; rintro en w6 ⟨rfl, rfl⟩) | (go_at_call 24; refine cB.out.mono ?_; rintro en w7 ⟨rfl, rfl⟩))
      go_ret
      exact ⟨rfl, hBl.drew.drew⟩
/-- THE WALK OF THE LAW. -/
theorem lawReads_walk (a0 a1 : Option Addr) (l l1 : List UInt8) (c0 c1 : Nat) (w : World) (hS : Src a0 l c0 w) (hl1 : l1.length ≤ 9223372036854775807) (hS1 : Src a1 l1 c1 w) :
    Calls Try.prog 4 #[.slice a0 (l.length : Nat) c0, .slice a1 (l1.length : Nat) c1] w fun e w' => e = .returned (.bool true) ∧ Below w.heap.size w w' := by
  by_cases h1 : 300 < l.length
  · have B := Below.refl w.heap.size w
    have h1' : (300 : Int) < (l.length : Int) := by omega
    go_enter Try.func4, Try.ntmps4
    go_wp2_with (go_at_call 9; refine (awake_any _).mono ?_; rintro e W ⟨rfl, hb⟩; replace B := B.trans (hb.mono B.size); clear hb)
    go_ret
    exact ⟨rfl, B⟩
  · exact lawReads_small a0 a1 l l1 c0 c1 w (by omega) hS hl1 hS1
end Go.Proofs.Ytkmnmddengnjlaa
