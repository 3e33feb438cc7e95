/- WirePrefix: every proper prefix of an encoding of a number, a word or a text is read with ErrTruncated. -/
import Derived.Test.YtkmnmddengnjlaaWMod
namespace Go.Proofs.Ytkmnmddengnjlaa
open Go Go.RowKit

theorem num_cut (n : Int) (hn : -9223372036854775808 ≤ n ∧ n ≤ 9223372036854775807) (k : Nat) (hk : k < (numB n).length) : numR ((numB n).take k) 0 = (0, (numB n).take k, 16) := by
  have h := readG_cut (zz n) 0 0 k (by omega) (by have := zz_lt n hn.1 hn.2; simpa using this) hk
  unfold numR
  rw [if_pos rfl, show readG 0 0 ((numB n).take k) = (0, 0, 16) from h]
  rfl
theorem word_cut (l : List UInt8) (k : Nat) (hk : k < 8) : wordR (l.take k) 0 = (0, l.take k, 16) := by
  unfold wordR takeR
  rw [if_pos rfl, if_neg (by rw [List.length_take]; omega)]
  rfl
theorem text_cut (s : ByteArray) (hs : s.size ≤ 200) (k : Nat) (hk : k < (textB s).length) : ∃ l1, textR (s.size : Int) ((textB s).take k) 0 = (⟨#[]⟩, l1, 16) := by
  have hl : (textB s).length = (numB (s.size : Int)).length + s.size := by unfold textB; rw [List.length_append]; rfl
  by_cases h : k < (numB (s.size : Int)).length
  · have ht : (textB s).take k = (numB (s.size : Int)).take k := by
      unfold textB
      rw [List.take_append_of_le_length (by omega)]
    rw [ht]
    exact ⟨_, textR_err (num_cut _ ⟨by omega, by omega⟩ k h) (by omega)⟩
  · have ht : (textB s).take k = numB (s.size : Int) ++ s.data.toList.take (k - (numB (s.size : Int)).length) := by
      unfold textB
      rw [List.take_append]
      rw [List.take_of_length_le (by omega)]
    have hr : numR ((textB s).take k) 0 = ((s.size : Int), s.data.toList.take (k - (numB (s.size : Int)).length), 0) := by
      unfold numR
      rw [ht, if_pos rfl, readG_zz _ (by omega) (by omega), if_pos rfl, unz_zz, List.drop_left]
    refine ⟨_, textR_short (n := s.size) hr (by omega) ?_⟩
    rw [List.length_take]
    omega
set_option maxHeartbeats 16000000 in
theorem lawPref_small (n : Int) (u : Nat) (s : ByteArray) (cut : Int) (w : World) (hn : -9223372036854775808 ≤ n ∧ n ≤ 9223372036854775807) (hu : u < 18446744073709551616) (hs : s.size ≤ 200) (hc : -9223372036854775808 ≤ cut ∧ cut ≤ 9223372036854775807) :
    Calls Try.prog 6 #[.int .i64 n, .int .u64 (u : Nat), .string s, .int .i64 cut] w fun e w' => e = .returned (.bool true) ∧ Below w.heap.size w w' := by
  have B := Below.refl w.heap.size w
  obtain ⟨L1, hL1⟩ : ∃ L1, numB n = L1 := ⟨_, rfl⟩
  obtain ⟨L2, hL2⟩ : ∃ L2, lenB u = L2 := ⟨_, rfl⟩
  obtain ⟨L3, hL3⟩ : ∃ L3, textB s = L3 := ⟨_, rfl⟩
  have p1 := fun W => putNumber_nil n W hn.1 hn.2
  have p2 := fun W => putWord_nil u W hu
  have p3 := fun W => putText_nil s W (by omega)
  have z1 : 0 < L1.length ∧ L1.length ≤ 10 := by rw [← hL1]; exact ⟨numB_pos _, numB_len n hn.1 hn.2⟩
  have z2 : L2.length = 8 := by rw [← hL2]; exact lenB_length _
  have z3 : 0 < L3.length ∧ L3.length ≤ 1000 := by
    rw [← hL3]
    unfold textB
    have h1 := numB_pos (s.size : Int)
    have h2 := numB_len (s.size : Int) (by omega) (by omega)
    have h3 : s.data.toList.length = s.size := rfl
    rw [List.length_append]
    omega
  have r1 := fun k (hk : k < L1.length) => hL1 ▸ num_cut n hn k (hL1.symm ▸ hk)
  have r2 := fun k (hk : k < 8) => word_cut L2 k hk
  have r3 := fun k (hk : k < L3.length) => hL3 ▸ text_cut s hs k (hL3.symm ▸ hk)
  rw [hL1] at p1
  rw [hL2] at p2
  rw [hL3] at p3
  obtain ⟨m1, hm1⟩ : ∃ m1, L1.length = m1 := ⟨_, rfl⟩
  obtain ⟨m3, hm3⟩ : ∃ m3, L3.length = m3 := ⟨_, rfl⟩
  have e1 := fun W => mod_any cut (m1 : Int) W hc (by omega) (by omega)
  have e2 := fun W => mod_any cut 8 W hc (by omega) (by omega)
  have e3 := fun W => mod_any cut (m3 : Int) W hc (by omega) (by omega)
  obtain ⟨k1, hk1⟩ : ∃ k : Nat, cut % (m1 : Int) = (k : Int) := ⟨(cut % (m1 : Int)).toNat, by have := Int.emod_nonneg cut (show (m1 : Int) ≠ 0 by omega); omega⟩
  obtain ⟨k2, hk2⟩ : ∃ k : Nat, cut % 8 = (k : Int) := ⟨(cut % 8).toNat, by have := Int.emod_nonneg cut (show (8 : Int) ≠ 0 by omega); omega⟩
  obtain ⟨k3, hk3⟩ : ∃ k : Nat, cut % (m3 : Int) = (k : Int) := ⟨(cut % (m3 : Int)).toNat, by have := Int.emod_nonneg cut (show (m3 : Int) ≠ 0 by omega); omega⟩
  have l1 : k1 < m1 := by have := Int.emod_lt_of_pos cut (show (0 : Int) < (m1 : Int) by omega); omega
  have l2 : k2 < 8 := by have := Int.emod_lt_of_pos cut (show (0 : Int) < 8 by omega); omega
  have l3 : k3 < m3 := by have := Int.emod_lt_of_pos cut (show (0 : Int) < (m3 : Int) by omega); omega
  rw [hk1] at e1
  rw [hk2] at e2
  rw [hk3] at e3
  have v1 := r1 k1 (by omega)
  have v2 := r2 k2 (by omega)
  obtain ⟨lx, v3⟩ := r3 k3 (by omega)
  have hs' : ¬ (200 : Int) < (s.size : Int) := by omega
  have n1 : (0 : Int) < (m1 : Int) := by omega
  have n3 : (0 : Int) < (m3 : Int) := by omega
  have f1 : (k1 : Int) < (m1 : Int) := by omega
  have f3 : (k3 : Int) < (m3 : Int) := by omega
  have f1' : m1 ≤ 10 := by omega
  have y1 : ((m1 : Int) == 0) = false := by simp; omega
  have y3 : ((m3 : Int) == 0) = false := by simp; omega
  have f3' : m3 ≤ 1000 := by omega
  replace p1 := Lib.hid p1; replace p2 := Lib.hid p2; replace p3 := Lib.hid p3
  replace e1 := Lib.hid e1; replace e2 := Lib.hid e2; replace e3 := Lib.hid e3
  replace v1 := Lib.hid v1; replace v2 := Lib.hid v2; replace v3 := Lib.hid v3
  replace hm1 := Lib.hid hm1; replace hm3 := Lib.hid hm3; replace z2 := Lib.hid z2
  clear r1 r2 r3 z1 z3 hL1 hL2 hL3 hk1 hk2 hk3 hn hu hc
  go_enter Try.func6, Try.ntmps6
  go_wp2_with (go_at_call 9; refine (awake_any _).mono ?_; rintro e W ⟨rfl, hb⟩; replace B := B.trans (hb.mono B.size); clear hb)
  go_wp2_with (go_at_call 10; refine (p1.out _).mono ?_)
  rintro en w1 ⟨a1, c1, rfl, h1, h2, h3, h4, hb⟩
  have S1 : Src a1 L1 c1 w1 := ⟨h1, h2, h4⟩
  replace B := B.trans (hb.mono B.size)
  rw [hm1.out] at h2 ⊢
  clear h1 h4 hb
  go_wp2_with (go_at_call 16; refine (p3.out _).mono ?_)
  rintro en w2 ⟨a3, c3, rfl, j1, j2, j3, j4, hb⟩
  have S3 : Src a3 L3 c3 w2 := ⟨j1, j2, j4⟩
  replace S1 := S1.below (Nat.le_refl _) hb
  replace B := B.trans (hb.mono B.size)
  have hBs := B.size
  rw [hm3.out] at j2 ⊢
  clear j1 j4 hb
  have g1 : k1 ≤ c1 := by omega
  have g3 : k3 ≤ c3 := by omega
  have N1 := Lib.hid (newTake (k := k1) (by have := hm1.out; omega) S1 (by have := hm1.out; omega))
  go_wp2_with (first | (go_at_call 28; ((with_reducible refine (e1.out _).mono ?_); rintro e W3 ⟨rfl, rfl⟩)) | (go_at_call 19; refine N1.out.mono ?_))
  rintro en w3 ⟨R1, rfl, hR1, hrd1, hb⟩
  have S3b := S3.below (Nat.le_refl _) hb
  replace B := B.trans (hb.mono B.size)
  clear S1 S3 hb N1
  go_wp2_with (go_at_call 12; refine (p2.out _).mono ?_)
  rintro en w4 ⟨a2, c2, rfl, i1, i2, i3, i4, hb⟩
  have S2 : Src a2 L2 c2 w4 := ⟨i1, i2, i4⟩
  replace hrd1 := hrd1.below hR1 hb
  have S3 := S3b.below (Nat.le_refl _) hb
  replace B := B.trans (hb.mono B.size)
  rw [z2.out] at i2 ⊢
  clear i1 i4 hb S3b
  have g2 : k2 ≤ c2 := by omega
  have N2 := Lib.hid (newTake (k := k2) (by have := z2.out; omega) S2 (by have := z2.out; omega))
  go_wp2_with (first | (go_at_call 28; ((with_reducible refine (e2.out _).mono ?_); rintro e W3 ⟨rfl, rfl⟩)) | (go_at_call 19; refine N2.out.mono ?_))
  rintro en w5 ⟨R2, rfl, hR2, hrd2, hb⟩
  have hlt1 := hrd1.lt
  replace hrd1 := hrd1.below hR1 hb
  have S3b := S3.below (Nat.le_refl _) hb
  replace B := B.trans (hb.mono B.size)
  have N3 := Lib.hid (newTake (k := k3) (by have := hm3.out; omega) S3b (by have := hm3.out; omega))
  clear S2 S3 hb N2
  go_wp2_with (first | (go_at_call 28; ((with_reducible refine (e3.out _).mono ?_); rintro e W3 ⟨rfl, rfl⟩)) | (go_at_call 19; refine N3.out.mono ?_))
  rintro en w6 ⟨R3, rfl, hR3, hrd3, hb⟩
  have hlt2 := hrd2.lt
  replace hrd1 := hrd1.below hR1 hb
  replace hrd2 := hrd2.below hR2 hb
  replace B := B.trans (hb.mono B.size)
  clear S3b hb N3
  have hNum := number_any hrd1
  rw [v1.out] at hNum
  change Calls _ _ _ _ fun en w' => en = .returned (.int .i64 0) ∧ Kept R1 w6 w' ∧ Rd (L1.take k1) 16 w2.heap.size R1 w' at hNum
  replace hNum := Lib.hid hNum
  have hsz2 := hrd1.lt
  have hB1 : w.heap.size ≤ w2.heap.size ∧ w2.heap.size ≤ R1 := ⟨hBs, hR1⟩
  go_wp2_with (go_at_call 29; refine hNum.out.mono ?_)
  rintro en w7 ⟨rfl, hk, hrd1'⟩
  have hE1 := Lib.hid (err_any hrd1')
  replace hrd2 := hrd2.kept hk (.inl (by omega)) hR2
  replace hrd3 := hrd3.kept hk (.inl (by omega)) hR3
  replace B := B.trans (hk.below (by omega) B.size)
  have hWd := word_any hrd2
  rw [v2.out] at hWd
  change Calls _ _ _ _ (Done (.int .u64 0) (L2.take k2) 16 w4.heap.size R2 w7) at hWd
  replace hWd := Lib.hid hWd
  clear hNum hk hrd1 hrd1'
  go_wp2_with (first | (go_at_call 27; ((with_reducible refine hE1.out.mono ?_); rintro e W3 ⟨rfl, rfl⟩)) | (go_at_call 30; refine hWd.out.mono ?_))
  rintro en w8 ⟨rfl, hk, hrd2'⟩
  have hE2 := Lib.hid (err_any hrd2')
  replace hrd3 := hrd3.kept hk (.inl (by omega)) hR3
  replace B := B.trans (hk.below (by omega) B.size)
  have hTx := text_any (s.size : Int) hrd3
  rw [v3.out] at hTx
  change Calls _ _ _ _ (Done (.string ⟨#[]⟩) lx 16 w5.heap.size R3 w8) at hTx
  replace hTx := Lib.hid hTx
  clear hWd hk hE1 hrd2 hrd2'
  go_wp2_with (first | (go_at_call 27; ((with_reducible refine hE2.out.mono ?_); rintro e W3 ⟨rfl, rfl⟩)) | (go_at_call 31; refine hTx.out.mono ?_))
  rintro en w9 ⟨rfl, hk, hrd3'⟩
  have hE3 := Lib.hid (err_any hrd3')
  replace B := B.trans (hk.below (by omega) B.size)
  clear hTx hk hE2 hrd3 hrd3'
  go_wp2_with (go_at_call 27; refine hE3.out.mono ?_; rintro e W3 ⟨rfl, rfl⟩)
  go_ret
  exact ⟨rfl, B⟩
/-- THE WALK OF THE LAW. -/
theorem lawPref_walk (n : Int) (u : Nat) (s : ByteArray) (cut : Int) (w : World) (hn : -9223372036854775808 ≤ n ∧ n ≤ 9223372036854775807) (hu : u < 18446744073709551616) (hc : -9223372036854775808 ≤ cut ∧ cut ≤ 9223372036854775807) :
    Calls Try.prog 6 #[.int .i64 n, .int .u64 (u : Nat), .string s, .int .i64 cut] w fun e w' => e = .returned (.bool true) ∧ Below w.heap.size w w' := by
  have B := Below.refl w.heap.size w
  by_cases h1 : 200 < s.size
  · have h1' : (200 : Int) < (s.size : Int) := by omega
    clear hn hu hc
    go_enter Try.func6, Try.ntmps6
    go_wp2_with (go_at_call 9; refine (awake_any _).mono ?_; rintro e W ⟨rfl, hb⟩; replace B := B.trans (hb.mono B.size); clear hb)
    go_ret
    exact ⟨rfl, B⟩
  · exact lawPref_small n u s cut w hn hu (by omega) hc
end Go.Proofs.Ytkmnmddengnjlaa
