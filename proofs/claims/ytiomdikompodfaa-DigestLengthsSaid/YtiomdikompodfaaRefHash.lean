/- Contracts of the document's hash values and codes of any fields. -/
import Derived.Test.YtiomdikompodfaaRefFrame
namespace Go.Proofs.Ytiomdikompodfaa
open Go Go.RowKit

theorem refHash_any (d : UInt64) (a0 : Option Addr) (fs : List (List UInt8)) (cap : Nat) (w : World) (hl : fs.length ≤ 1000) (hf : ∀ f ∈ fs, f.length ≤ 100000) (hs : (frameL fs).length ≤ 1000000) (hF : FieldsAre a0 fs w) :
    Calls Try.prog 15 #[.int .u64 (d.toNat : Int), .slice a0 (fs.length : Nat) cap] w fun e w' => e = .returned (.int .u64 ((sipSum d 0 (frameL fs)).toNat : Int)) ∧ Below w.heap.size w w' := by
  go_enter Try.func15, Try.ntmps15
  go_wp2_with (go_at_call 13; refine (refFrame_any a0 fs cap _ hl hf hF).mono ?_; rintro e w1 ⟨a1, c1, rfl, hn1, hc1, hb1, hbl1, hown1⟩)
  go_wp2_with (go_at_call 10; refine (refSum_any d 0 a1 (frameL fs) c1 _ hs hb1).mono ?_; rintro e w2 ⟨rfl, hb2⟩)
  go_ret
  exact ⟨rfl, hbl1.trans (hb2.mono hbl1.size)⟩
theorem refMac_any (k d : UInt64) (a0 : Option Addr) (fs : List (List UInt8)) (cap : Nat) (w : World) (hl : fs.length ≤ 1000) (hf : ∀ f ∈ fs, f.length ≤ 100000) (hs : (frameL fs).length ≤ 1000000) (hF : FieldsAre a0 fs w) :
    Calls Try.prog 17 #[.int .u64 (k.toNat : Int), .int .u64 (d.toNat : Int), .slice a0 (fs.length : Nat) cap] w fun e w' => e = .returned (.int .u64 ((sipSum k (d + 1) (frameL fs)).toNat : Int)) ∧ Below w.heap.size w w' := by
  have hd := word_add d 1
  rw [show (((1 : UInt64).toNat : Nat) : Int) = 1 from rfl] at hd
  go_enter Try.func17, Try.ntmps17
  go_wp2_with (go_at_call 13; refine (refFrame_any a0 fs cap _ hl hf hF).mono ?_; rintro e w1 ⟨a1, c1, rfl, hn1, hc1, hb1, hbl1, hown1⟩)
  go_wp2_with (go_at_call 10; refine (refSum_any k (d + 1) a1 (frameL fs) c1 _ hs hb1).mono ?_; rintro e w2 ⟨rfl, hb2⟩)
  go_ret
  exact ⟨rfl, hbl1.trans (hb2.mono hbl1.size)⟩
/-- The chapter's example. -/
theorem sip_example : sipSum 506097522914230528 1084818905618843912 ((List.range 15).map UInt8.ofNat) = 11613035633349379557 := by decide
end Go.Proofs.Ytiomdikompodfaa
