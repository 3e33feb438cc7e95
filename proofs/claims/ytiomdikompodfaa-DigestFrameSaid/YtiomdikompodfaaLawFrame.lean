/- DigestFrame: for every two lists of fields, digest.Frame and the document's answer agree, and frames of lists follow each other. -/
import Derived.Test.YtiomdikompodfaaFlds
import Derived.Deep.RegionWith
import Derived.Deep.DrawnRows
import Derived.Deep.DeepFit
namespace Go.Proofs.Ytiomdikompodfaa
open Go Go.RowKit

attribute [local go_sem ↓] Go.wp_at_zero Go.wp_at_succ
set_option maxHeartbeats 16000000 in
theorem lawFrame_walk (a0 b0 : Option Addr) (fa fb : List (List UInt8)) (ca cb : Nat) (w : World) (hla : fa.length ≤ 9223372036854775807) (hlb : fb.length ≤ 9223372036854775807) (hca : fa.length ≤ ca) (hcb : fb.length ≤ cb)
    (ha : ∀ f ∈ fa, f.length ≤ 9223372036854775807) (hb : ∀ f ∈ fb, f.length ≤ 9223372036854775807) (hA : FieldsAre a0 fa w) (hB : FieldsAre b0 fb w) :
    Calls Try.prog 4 #[.slice a0 (fa.length : Nat) ca, .slice b0 (fb.length : Nat) cb] w fun e w' => e = .returned (.bool true) ∧ Below w.heap.size w w' := by
  have B := Below.refl w.heap.size w
  go_enter Try.func4, Try.ntmps4
  go_upto_region 3 with (go_at_call 8; refine (awake_any _).mono ?_; rintro e W ⟨rfl, hb0⟩; replace B := B.trans (hb0.mono B.size); clear hb0)
  have hA1 := hA.below (Nat.le_refl _) B
  have hB1 := hB.below (Nat.le_refl _) B
  have hcut1 := Lib.hid (cut_any a0 fa ca W hla hca hA1 ha)
  clear hA hB hA1
  go_upto_region 4 with (first | (go_at_call 11; with_reducible refine hcut1.out.mono ?_; rintro e W1 ⟨rfl, hF1, hb1⟩; replace hB1 := hB1.below (Nat.le_refl _) hb1; have hcut2 := Lib.hid (cut_any b0 fb cb W1 hlb hcb hB1 hb)) | (go_at_call 11; with_reducible refine hcut2.out.mono ?_; rintro e W2 ⟨rfl, hF2, hb2⟩))
  have hFA := hF1.below (Nat.le_refl _) hb2
  have B2 := B.trans ((hb1.mono B.size).trans (hb2.mono (Nat.le_trans B.size hb1.size)))
  have la := cutL_length fa
  have lb := cutL_length fb
  have ea := cutL_each fa
  have eb := cutL_each fb
  clear hF1 hB1 hcut1 hcut2 hb1 hb2 B hla hlb hca hcb ha hb
  generalize W1.heap.size = g1 at hF2 ⊢
  generalize W.heap.size = g0 at hFA ⊢
  generalize cutL fa = A at hFA la ea ⊢
  generalize cutL fb = C at hF2 lb eb ⊢
  have n0 : (some (⟨g0, 0, none⟩ : Addr)) = none → A.length = 0 := by intro h; cases h
  have n1 : (some (⟨g1, 0, none⟩ : Addr)) = none → C.length = 0 := by intro h; cases h
  have l1 : ([] : List (List UInt8)).length + A.length ≤ 1000000 := by simp; omega
  have l2 : ([] ++ A).length + C.length ≤ 1000000 := by simp; omega
  go_upto_region 5 with (first | (at_builtin; refine wpList_ownF rfl (.const (.slice none 0 0)) (.tmp 13) rfl A (some ⟨g0, 0, none⟩) A.length (ownF_nil W2) rfl rfl n0 hFA l1 ?_; intro v1 W3 hown1 hb3) | (at_builtin; refine wpList_ownF rfl (.tmp 14) (.tmp 15) rfl C (some ⟨g1, 0, none⟩) C.length hown1 rfl rfl n1 hF2 l2 ?_; intro v2 W4 hown2 hb4))
  obtain ⟨aA, cA, rfl, hnA, hlA, hFall⟩ := hown2.fields
  have hb24 := hb3.trans hb4
  have B4 := B2.trans (hb24.mono B2.size)
  have hFA4 := hFA.below (Nat.le_refl _) hb24
  have hFC4 := hF2.below (Nat.le_refl _) hb24
  rw [List.nil_append] at hFall hlA
  clear hown1 hown2 hb3 hb4 hb24 B2 n0 n1 l1 l2 hFA hF2
  have ea' : ∀ f ∈ A, f.length ≤ 100000 := fun f h => Nat.le_trans (ea f h) (by omega)
  have eb' : ∀ f ∈ C, f.length ≤ 100000 := fun f h => Nat.le_trans (eb f h) (by omega)
  have eab : ∀ f ∈ A ++ C, f.length ≤ 100000 := fun f h => (List.mem_append.1 h).elim (ea' f) (eb' f)
  have lab : (A ++ C).length ≤ 1000 := by simp; omega
  have sA := frameL_20 A (by omega) ea
  have sC := frameL_20 C (by omega) eb
  have hfr := Lib.hid (frame_any (some ⟨g0, 0, none⟩) A A.length W4 (by omega) ea' (Nat.le_refl _) hFA4)
  go_upto_region 6 with (go_at_call 12; refine hfr.out.mono ?_; rintro e W5 ⟨a1, c1, rfl, hn1, hc1, hb1, hbl1, _⟩)
  have B5 := B4.trans (hbl1.mono B4.size)
  have hFA5 := hFA4.below (Nat.le_refl _) hbl1
  have hFC5 := hFC4.below (Nat.le_refl _) hbl1
  have hFall5 := hFall.below (Nat.le_refl _) hbl1
  clear hfr hbl1 B4 hFA4 hFC4 hFall
  have hdr : Below W5.heap.size W5 W5.drew := (Below.refl _ W5).drew
  replace hFA5 := hFA5.below (Nat.le_refl _) hdr
  replace hFC5 := hFC5.below (Nat.le_refl _) hdr
  replace hFall5 := hFall5.below (Nat.le_refl _) hdr
  replace hb1 := hb1.below (Nat.le_refl _) hdr
  have hB5 := Lib.hid (B5.trans (hdr.mono B5.size))
  have hcall1 := Lib.hid (refFrame_any (some ⟨g0, 0, none⟩) A A.length W5.drew (by omega) ea' hFA5)
  have hcall2 := Lib.hid (fun W' (h : Below W5.drew.heap.size W5.drew W') => frame_all A C aA cA W' lab eab hlA (hFall5.below (Nat.le_refl _) h))
  have hcall3 := Lib.hid (fun W' (h : Below W5.drew.heap.size W5.drew W') => frame_any (some ⟨g1, 0, none⟩) C C.length W' (by omega) eb' (Nat.le_refl _) (hFC5.below (Nat.le_refl _) h))
  obtain ⟨tA, htA⟩ : ∃ s : ByteArray, (⟨(frameL A).toArray⟩ : ByteArray) = s := ⟨_, rfl⟩
  obtain ⟨tC, htC⟩ : ∃ s : ByteArray, (⟨(frameL C).toArray⟩ : ByteArray) = s := ⟨_, rfl⟩
  have htAC : (⟨(frameL (A ++ C)).toArray⟩ : ByteArray) = tA ++ tC := by
    rw [← htA, ← htC, frameL_append]
    apply ByteArray.ext
    simp
  have zA : tA.size ≤ 20000 := by rw [← htA]; simpa [ByteArray.size] using sA
  have zC : tC.size ≤ 20000 := by rw [← htC]; simpa [ByteArray.size] using sC
  have hzz : ¬ 9223372036854775807 < tA.size + tC.size := by omega
  have cv1 := conv_as hb1 hn1 tA htA
  have hv1 := Lib.hid (fun W' (h : Below W5.drew.heap.size W5.drew W') => conv_as (hb1.below (Nat.le_refl _) h) hn1 tA htA)
  replace htA := Lib.hid htA
  replace htC := Lib.hid htC
  replace htAC := Lib.hid htAC
  clear hFA5 hFC5 hFall5 hb1 hn1 hc1 B5 hdr ea eb ea' eb' eab lab la lb sA sC hnA hlA zA zC
  go_region_with (first
    | (go_at_call 13; go_fit hcall1.out; rintro e W6 ⟨a2, c2, rfl, hn2, -, hb2, hbl2, -⟩; have cw1 := hv1.out W6 hbl2; have cw2 := conv_as hb2 hn2 tA htA.out; have hd2 := Lib.hid (hcall2.out W6 hbl2); clear hb2 hn2 cv1 hcall1 hcall2; replace hbl2 := Lib.hid hbl2)
    | (go_at_call 12; go_fit hd2.out; rintro e W7 ⟨a3, c3, rfl, hn3, -, hb3, hbl3, -⟩; have hbl7 := hbl2.out.trans (hbl3.mono hbl2.out.size); have cx1 := hv1.out W7 hbl7; have cx3 := conv_as hb3 hn3 (tA ++ tC) htAC.out; have hb3f := Lib.hid (fun W' (h : Below W7.heap.size W7 W') => conv_as (hb3.below (Nat.le_refl _) h) hn3 (tA ++ tC) htAC.out); have hd3 := Lib.hid (hcall3.out W7 hbl7); clear hb3 hn3 cw1 cw2 hd2 hcall3 hbl2 hbl3; replace hbl7 := Lib.hid hbl7)
    | (go_at_call 12; go_fit hd3.out; rintro e W8 ⟨a4, c4, rfl, hn4, -, hb4, hbl4, -⟩; have hbl8 := hbl7.out.trans (hbl4.mono hbl7.out.size); have cy1 := hv1.out W8 hbl8; have cy3 := hb3f.out W8 hbl4; have cy4 := conv_as hb4 hn4 tC htC.out; have hend := Lib.hid (hB5.out.trans (hbl8.mono hB5.out.size)); clear hb4 hn4 cx1 cx3 hd3 hbl4 hbl7 hbl8 hb3f hv1))
  all_goals (go_wp2; go_ret; exact ⟨rfl, hend.out⟩)
end Go.Proofs.Ytiomdikompodfaa
