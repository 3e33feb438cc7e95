/- DigestHash: for every key, domain and list of fields, digest.Hash, digest.Mac and the document's answers agree, and Hash is the hash value of the frame. -/
import Derived.Test.YtiomdikompodfaaFlds
import Derived.Deep.RegionWith
import Derived.Deep.DrawnRows
import Derived.Deep.DeepFit
namespace Go.Proofs.Ytiomdikompodfaa
open Go Go.RowKit

set_option maxHeartbeats 16000000 in
theorem lawHash_walk (key dom : UInt64) (a0 : Option Addr) (fa : List (List UInt8)) (ca : Nat) (w : World) (hla : fa.length ≤ 9223372036854775807) (hca : fa.length ≤ ca)
    (ha : ∀ f ∈ fa, f.length ≤ 9223372036854775807) (hA : FieldsAre a0 fa w) :
    Calls Try.prog 6 #[.int .u64 (key.toNat : Int), .int .u64 (dom.toNat : Int), .slice a0 (fa.length : Nat) ca] w fun e w' => e = .returned (.bool true) ∧ Below w.heap.size w w' := by
  have B := Below.refl w.heap.size w
  go_enter Try.func6, Try.ntmps6
  go_upto_region 3 with (go_at_call 8; refine (awake_any _).mono ?_; rintro e W ⟨rfl, hb0⟩; replace B := B.trans (hb0.mono B.size); clear hb0)
  have hA1 := hA.below (Nat.le_refl _) B
  have hcut1 := Lib.hid (cut_any a0 fa ca W hla hca hA1 ha)
  clear hA hA1
  go_upto_region 4 with (go_at_call 11; refine hcut1.out.mono ?_; rintro e W1 ⟨rfl, hF1, hb1⟩)
  have B1 := B.trans (hb1.mono B.size)
  have la := cutL_length fa
  have ea := cutL_each fa
  clear hcut1 hb1 B hla hca ha
  generalize W.heap.size = g0 at hF1 ⊢
  generalize cutL fa = A at hF1 la ea ⊢
  have sA := frameL_20 A (by omega) ea
  have ea' : ∀ f ∈ A, f.length ≤ 100000 := fun f h => Nat.le_trans (ea f h) (by omega)
  have la' : A.length ≤ 1000 := by omega
  have sA' : (frameL A).length ≤ 1000000 := by omega
  have hc1 := Lib.hid (hash_any dom (some ⟨g0, 0, none⟩) A A.length W1 la' ea' sA' (Nat.le_refl _) hF1)
  clear la ea sA
  go_wp2_with (first
    | (go_at_call 14; go_fit hc1.out; rintro e W2 ⟨rfl, hb2⟩; have hF2 := hF1.below (Nat.le_refl _) hb2; have hc2 := Lib.hid (refHash_any dom (some ⟨g0, 0, none⟩) A A.length W2 la' ea' sA' hF2))
    | (go_at_call 15; go_fit hc2.out; rintro e W3 ⟨rfl, hb3⟩; have hF3 := hF2.below (Nat.le_refl _) hb3; have hc3 := Lib.hid (mac_any key dom (some ⟨g0, 0, none⟩) A A.length W3 la' ea' sA' (Nat.le_refl _) hF3))
    | (go_at_call 16; go_fit hc3.out; rintro e W4 ⟨rfl, hb4⟩; have hF4 := hF3.below (Nat.le_refl _) hb4; have hc4 := Lib.hid (refMac_any key dom (some ⟨g0, 0, none⟩) A A.length W4 la' ea' sA' hF4))
    | (go_at_call 17; go_fit hc4.out; rintro e W5 ⟨rfl, hb5⟩; have hF5 := hF4.below (Nat.le_refl _) hb5; have hc5 := Lib.hid (hash_any dom (some ⟨g0, 0, none⟩) A A.length W5 la' ea' sA' (Nat.le_refl _) hF5))
    | (go_at_call 14; go_fit hc5.out; rintro e W6 ⟨rfl, hb6⟩; have hF6 := hF5.below (Nat.le_refl _) hb6; have hc6 := Lib.hid (frame_any (some ⟨g0, 0, none⟩) A A.length W6 la' ea' (Nat.le_refl _) hF6))
    | (go_at_call 12; go_fit hc6.out; rintro e W7 ⟨a7, c7, rfl, hn7, hl7, hby7, hb7, _⟩; have hc7 := Lib.hid (sum_any dom 0 a7 (frameL A) c7 W7 sA' hl7 hby7))
    | (go_at_call 9; go_fit hc7.out; rintro e W8 ⟨rfl, hb8⟩))
  go_ret
  exact ⟨rfl, link (link (link (link (link (link (link B1 hb2) hb3) hb4) hb5) hb6) hb7) hb8⟩
end Go.Proofs.Ytiomdikompodfaa
