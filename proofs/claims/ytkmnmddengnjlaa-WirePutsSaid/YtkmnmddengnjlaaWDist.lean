/- WireDistinct: for every two numbers and two texts, one encoding begins with the other exactly if the numbers, or the texts, are equal. -/
import Derived.Test.YtkmnmddengnjlaaWAwake
namespace Go.Proofs.Ytkmnmddengnjlaa
open Go Go.RowKit

/-- p is a prefix of q. -/
def prefB (p q : ByteArray) : Bool := decide (p.data.toList <+: q.data.toList)
theorem readG_zz (n : Int) (h0 : -9223372036854775808 ≤ n) (h1 : n ≤ 9223372036854775807) (rest : List UInt8) : readG 0 0 (numB n ++ rest) = (zz n, (numB n).length, 0) := by
  have := readG_grp rest (zz n) 0 0 (by omega) (by have := zz_lt n h0 h1; simpa using this) (by omega)
  unfold numB
  rw [this]
  simp
theorem numB_prefix {n m : Int} (hn : -9223372036854775808 ≤ n ∧ n ≤ 9223372036854775807) (hm : -9223372036854775808 ≤ m ∧ m ≤ 9223372036854775807) (x y : List UInt8) (h : numB n ++ x = numB m ++ y) : n = m ∧ x = y := by
  have h1 := readG_zz n hn.1 hn.2 x
  have h2 := readG_zz m hm.1 hm.2 y
  rw [h, h2] at h1
  injection h1 with e1 e2
  obtain rfl := zz_inj e1.symm
  exact ⟨rfl, List.append_cancel_left h⟩
theorem prefB_num (n m : Int) (hn : -9223372036854775808 ≤ n ∧ n ≤ 9223372036854775807) (hm : -9223372036854775808 ≤ m ∧ m ≤ 9223372036854775807) : prefB ⟨(numB n).toArray⟩ ⟨(numB m).toArray⟩ = decide (n = m) := by
  unfold prefB
  rw [Bool.eq_iff_iff]
  simp only [decide_eq_true_eq]
  constructor
  · rintro ⟨t, ht⟩
    have ht' : numB n ++ t = numB m := ht
    exact (numB_prefix hn hm t [] (by rw [ht', List.append_nil])).1
  · rintro rfl
    exact List.prefix_refl _
theorem prefB_text (s t : ByteArray) (hs : s.size ≤ 200) (ht : t.size ≤ 200) : prefB ⟨(textB s).toArray⟩ ⟨(textB t).toArray⟩ = decide (s = t) := by
  unfold prefB
  rw [Bool.eq_iff_iff]
  simp only [decide_eq_true_eq]
  constructor
  · rintro ⟨u, hu⟩
    have hu' : textB s ++ u = textB t := hu
    unfold textB at hu'
    rw [List.append_assoc] at hu'
    obtain ⟨h1, h2⟩ := numB_prefix ⟨by omega, by omega⟩ ⟨by omega, by omega⟩ _ _ hu'
    have hl : s.data.toList.length = t.data.toList.length := by
      have : s.size = t.size := by omega
      exact this
    have hn : u = [] := by
      have := congrArg List.length h2
      rw [List.length_append] at this
      exact List.length_eq_zero_iff.1 (by omega)
    subst hn
    rw [List.append_nil] at h2
    cases s; cases t
    congr 1
    exact Array.toList_inj.1 h2
  · rintro rfl
    exact List.prefix_refl _
theorem ret_bool' {a b : Bool} (h : a = b) : Ending.returned (.bool a) = .returned (.bool b) := by rw [h]
theorem prefB_eq (p q : ByteArray) : ((q.extract 0 p.size).toList == p.toList) = prefB p q := by
  unfold prefB
  have hx : (q.extract 0 p.size).data.toList = q.data.toList.take p.data.toList.length := by
    rw [ByteArray.data_extract]
    simp
  rw [Bool.eq_iff_iff]
  simp only [beq_iff_eq, decide_eq_true_eq, ByteArray.toList_eq]
  rw [hx, List.prefix_iff_eq_take]
  exact ⟨fun h => h.symm, fun h => h.symm⟩
theorem prefix_any (p q : ByteArray) (w : World) :
    Calls Try.prog 33 #[.string p, .string q] w fun e w' => e = .returned (.bool (prefB p q)) ∧ w = w' := by
  obtain ⟨V, hV⟩ : ∃ V, prefB p q = V := ⟨_, rfl⟩
  rw [hV]
  by_cases hle : p.size ≤ q.size
  · have hle' : (p.size : Int) ≤ (q.size : Int) := by omega
    replace hV := Lib.hid hV
    go_enter Try.func33, Try.ntmps33
    go_wp2
    go_ret
    exact ⟨ret_bool' (by rw [← hV.out]; exact prefB_eq p q), rfl⟩
  · have hle' : ¬ (p.size : Int) ≤ (q.size : Int) := by omega
    have hf : V = false := by
      rw [← hV]
      unfold prefB
      rw [decide_eq_false_iff_not]
      intro h
      exact hle h.length_le
    subst hf
    clear hV
    go_enter Try.func33, Try.ntmps33
    go_wp2
    go_ret
    exact ⟨rfl, rfl⟩
theorem putNumber_nil (n : Int) (w : World) (h0 : -9223372036854775808 ≤ n) (h1 : n ≤ 9223372036854775807) :
    Calls Try.prog 10 #[.slice none 0 0, .int .i64 n] w (MadeB (numB n) w) := putNumber_any none [] 0 n w (by simp) (src_nil _) h0 h1
theorem putText_nil (s : ByteArray) (w : World) (hs : s.size ≤ 90000) :
    Calls Try.prog 16 #[.slice none 0 0, .string s] w (MadeB (textB s) w) := putText_any none [] 0 s w (by simp) hs (src_nil _)
theorem putWord_nil (n : Nat) (w : World) (hn : n < 18446744073709551616) :
    Calls Try.prog 12 #[.slice none 0 0, .int .u64 (n : Nat)] w (MadeB (lenB n) w) := putWord_any none [] 0 n w (by simp) hn (src_nil _)
theorem conv_as {a : Option Addr} {l : List UInt8} {c : Nat} {w : World} (h : BytesAre a l w) (t : ByteArray) (ht : ⟨l.toArray⟩ = t) :
    (convert 22 9 (.slice a (l.length : Nat) c)).run Try.prog w = .ok (.string t) w := ht ▸ h.string c
theorem link {w w1 w2 : World} (h : Below w.heap.size w w1) (h2 : Below w1.heap.size w1 w2) : Below w.heap.size w w2 := h.trans (h2.mono h.size)
set_option maxHeartbeats 8000000 in
theorem lawDist_small (n m : Int) (s t : ByteArray) (w : World) (hn : -9223372036854775808 ≤ n ∧ n ≤ 9223372036854775807) (hm : -9223372036854775808 ≤ m ∧ m ≤ 9223372036854775807) (hs : s.size ≤ 200) (ht : t.size ≤ 200) :
    Calls Try.prog 8 #[.int .i64 n, .int .i64 m, .string s, .string t] w fun e w' => e = .returned (.bool true) ∧ Below w.heap.size w w' := by
  have B := Below.refl w.heap.size w
  have q1 := prefB_num n m hn hm
  have q2 := prefB_text s t hs ht
  obtain ⟨tA, htA⟩ : ∃ x : ByteArray, (⟨(numB n).toArray⟩ : ByteArray) = x := ⟨_, rfl⟩
  obtain ⟨tB, htB⟩ : ∃ x : ByteArray, (⟨(numB m).toArray⟩ : ByteArray) = x := ⟨_, rfl⟩
  obtain ⟨tC, htC⟩ : ∃ x : ByteArray, (⟨(textB s).toArray⟩ : ByteArray) = x := ⟨_, rfl⟩
  obtain ⟨tD, htD⟩ : ∃ x : ByteArray, (⟨(textB t).toArray⟩ : ByteArray) = x := ⟨_, rfl⟩
  rw [htA, htB] at q1
  rw [htC, htD] at q2
  replace htA := Lib.hid htA
  replace htB := Lib.hid htB
  replace htC := Lib.hid htC
  replace htD := Lib.hid htD
  have p1 := Lib.hid (fun W => putNumber_nil n W hn.1 hn.2)
  have p2 := Lib.hid (fun W => putNumber_nil m W hm.1 hm.2)
  have p3 := Lib.hid (fun W => putText_nil s W (by omega))
  have p4 := Lib.hid (fun W => putText_nil t W (by omega))
  have x1 : Hid (∀ W, Calls Try.prog 33 #[.string tA, .string tB] W fun e w' => e = .returned (.bool (decide (n = m))) ∧ W = w') := Lib.hid (fun W => q1 ▸ prefix_any tA tB W)
  have x2 : Hid (∀ W, Calls Try.prog 33 #[.string tC, .string tD] W fun e w' => e = .returned (.bool (s.toList == t.toList)) ∧ W = w') := Lib.hid (fun W => by
    have hq : prefB tC tD = (s.toList == t.toList) := by
      rw [q2, Bool.eq_iff_iff]
      simp only [beq_iff_eq, decide_eq_true_eq, ByteArray.toList_eq]
      constructor
      · rintro rfl; rfl
      · intro h
        cases s; cases t
        congr 1
        exact Array.toList_inj.1 h
    rw [← hq]
    exact prefix_any tC tD W)
  have hs' : ¬ (200 : Int) < (s.size : Int) := by omega
  have ht' : ¬ (200 : Int) < (t.size : Int) := by omega
  clear q1 q2 hn hm
  go_enter Try.func8, Try.ntmps8
  go_upto_region 5 with (go_at_call 9; refine (awake_any _).mono ?_; rintro e W ⟨rfl, hb⟩; replace B := B.trans (hb.mono B.size); clear hb)
  have hcall1 := Lib.hid (p1.out W.drew)
  go_cut [9, 10] (fun x y wx => x = .string tA ∧ y = .string tB ∧ Below W.heap.size W wx)
  case first =>
    go_region_with (first
      | (go_at_call 10; go_fit hcall1.out; rintro e w2 ⟨a2, c2, rfl, -, -, -, hb2, hbl2⟩; have hd2 := Lib.hid (p2.out w2); clear hcall1; have cw2 := conv_as (c := c2) hb2 tA htA.out; have hf2 := Lib.hid (fun W' (h : Below w2.heap.size w2 W') => conv_as (c := c2) (hb2.below (Nat.le_refl _) h) tA htA.out); clear hb2; replace hbl2 := Lib.hid hbl2)
      | (go_at_call 10; go_fit hd2.out; rintro e w3 ⟨a3, c3, rfl, -, -, -, hb3, hbl3⟩; have cx2 := hf2.out w3 hbl3; have cx3 := conv_as (c := c3) hb3 tB htB.out; have hend := Lib.hid (link hbl2.out hbl3); clear hb3 hf2 hbl2 hbl3))
    all_goals
      go_wp2
      go_meet
      case rel => exact ⟨rfl, rfl, link ((Below.refl _ _).drew) hend.out⟩
  case rest =>
  obtain ⟨rfl, rfl, hb5⟩ := hcut
  replace B := B.trans (hb5.mono B.size)
  clear hcall1 hb5
  go_upto_region 6 with (fail)
  have hcall1 := Lib.hid (p3.out wc.drew)
  go_cut [11, 12] (fun x y wy => x = .string tC ∧ y = .string tD ∧ Below wc.heap.size wc wy)
  case first =>
    go_region_with (first
      | (go_at_call 16; go_fit hcall1.out; rintro e w2 ⟨a2, c2, rfl, -, -, -, hb2, hbl2⟩; have hd2 := Lib.hid (p4.out w2); clear hcall1; have cw2 := conv_as (c := c2) hb2 tC htC.out; have hf2 := Lib.hid (fun W' (h : Below w2.heap.size w2 W') => conv_as (c := c2) (hb2.below (Nat.le_refl _) h) tC htC.out); clear hb2; replace hbl2 := Lib.hid hbl2)
      | (go_at_call 16; go_fit hd2.out; rintro e w3 ⟨a3, c3, rfl, -, -, -, hb3, hbl3⟩; have cx2 := hf2.out w3 hbl3; have cx3 := conv_as (c := c3) hb3 tD htD.out; have hend := Lib.hid (link hbl2.out hbl3); clear hb3 hf2 hbl2 hbl3))
    all_goals
      go_wp2
      go_meet
      case rel => exact ⟨rfl, rfl, link ((Below.refl _ _).drew) hend.out⟩
  case rest =>
  obtain ⟨rfl, rfl, hb6⟩ := hcut
  replace B := B.trans (hb6.mono B.size)
  clear hcall1 hb6
  replace x1 := x1.out wc
  replace x2 := x2.out wc
  replace x1 := Lib.hid x1
  replace x2 := Lib.hid x2
  go_wp2_with (first | (go_at_call 33; ((with_reducible refine x1.out.mono ?_); rintro e w7 ⟨rfl, rfl⟩)) | (go_at_call 33; ((with_reducible refine x2.out.mono ?_); rintro e w8 ⟨rfl, rfl⟩)))
  go_ret
  exact ⟨rfl, B⟩
/-- THE WALK OF THE LAW. -/
theorem lawDist_walk (n m : Int) (s t : ByteArray) (w : World) (hn : -9223372036854775808 ≤ n ∧ n ≤ 9223372036854775807) (hm : -9223372036854775808 ≤ m ∧ m ≤ 9223372036854775807) :
    Calls Try.prog 8 #[.int .i64 n, .int .i64 m, .string s, .string t] w fun e w' => e = .returned (.bool true) ∧ Below w.heap.size w w' := by
  have B := Below.refl w.heap.size w
  by_cases h1 : 200 < s.size
  · have h1' : (200 : Int) < (s.size : Int) := by omega
    clear hn hm
    go_enter Try.func8, Try.ntmps8
    go_wp2_with (go_at_call 9; refine (awake_any _).mono ?_; rintro e W ⟨rfl, hb⟩; replace B := B.trans (hb.mono B.size); clear hb)
    go_ret
    exact ⟨rfl, B⟩
  · by_cases h2 : 200 < t.size
    · have h1' : ¬ (200 : Int) < (s.size : Int) := by omega
      have h2' : (200 : Int) < (t.size : Int) := by omega
      clear hn hm
      go_enter Try.func8, Try.ntmps8
      go_wp2_with (go_at_call 9; refine (awake_any _).mono ?_; rintro e W ⟨rfl, hb⟩; replace B := B.trans (hb.mono B.size); clear hb)
      go_ret
      exact ⟨rfl, B⟩
    · exact lawDist_small n m s t w hn hm (by omega) (by omega)
end Go.Proofs.Ytkmnmddengnjlaa
