/- Contracts of text.Number and of the document's answer for it: the decimal form of a number. -/
import Derived.Test.YtfdmeinfjfmnlaaDoorRefUnq
import Derived.Lib.ItoaLen
import Derived.Lib.AppendIntMem
namespace Go.Proofs.YtfdmeinfjfmnlaaDoor
open Go Go.RowKit

/-- The table that strconv reads holds what its text lays. -/
def Pow (w : World) : Prop := Lib.TabIs Tryd.prog w "internal/strconv.uint64pow10" .u64 Lib.pow10Tab
theorem number_any (n : Int) (w : World) (h0 : -9223372036854775808 ≤ n) (h1 : n ≤ 9223372036854775807) (hP : Pow w) :
    Calls Tryd.prog 22 #[.int .i64 n] w fun e w' => e = .returned (.string ⟨(Lib.itoa n).toArray⟩) ∧ Below w.heap.size w w' := by
  go_enter Tryd.func22, Tryd.ntmps22
  go_wp2_with (go_at_call 36; refine (Tryd.strconv_Itoa _ h0 h1 _ hP).mono ?_; rintro e w0 ⟨rfl, k, os, hw⟩)
  go_ret
  refine ⟨rfl, ?_⟩
  subst hw
  exact Lib.below_grow _ _ (Nat.le_refl _) _ _

/-- The digit of a number below ten. -/
def dgt (k : Nat) : UInt8 := UInt8.ofNat (48 + k)
theorem encode_low (r : Int) (h0 : 0 ≤ r) (h1 : r < 128) : Utf8.encode r = ⟨#[UInt8.ofNat r.toNat]⟩ := by
  have hv : Utf8.valid r = true := by
    unfold Utf8.valid
    simp
    omega
  unfold Utf8.encode
  rw [if_pos hv]
  simp only []
  rw [if_pos (by omega)]
theorem num_step (m : Nat) (x D : List UInt8) (h : Lib.decDigits m ++ x = D) :
    (m / 10 ≠ 0 → Lib.decDigits (m / 10) ++ (dgt (m % 10) :: x) = D) ∧ (m / 10 = 0 → dgt (m % 10) :: x = D) := by
  rw [Lib.decDigits] at h
  split at h
  · rename_i hlt
    refine ⟨fun h' => by omega, fun _ => ?_⟩
    rw [← h, show m % 10 = m by omega]
    rfl
  · rename_i hge
    refine ⟨fun _ => ?_, fun h' => by omega⟩
    rw [← h]
    simp [dgt]
theorem digits_le (m : Nat) (h : m < 18446744073709551616) : (Lib.decDigits m).length ≤ 20 := by
  rw [Lib.decDigits_length]
  exact Lib.nDigits_le20 m h
theorem append_data (a b : ByteArray) : (a ++ b).data.toList = a.data.toList ++ b.data.toList := by
  cases a; cases b
  simp [ByteArray.data_append]

theorem eta (s : ByteArray) : (⟨s.data.toList.toArray⟩ : ByteArray) = s := by cases s; simp

theorem tmod_neg (m : Int) (h : m ≤ 0) : m.tmod 10 = -((m.natAbs % 10 : Nat) : Int) := by
  obtain ⟨k, rfl⟩ : ∃ k : Nat, m = -(k : Int) := ⟨m.natAbs, by omega⟩
  rw [Int.neg_tmod, Int.natAbs_neg]
  rfl
theorem tdiv_neg (m : Int) (h : m ≤ 0) : m.tdiv 10 = -((m.natAbs / 10 : Nat) : Int) := by
  obtain ⟨k, rfl⟩ : ∃ k : Nat, m = -(k : Int) := ⟨m.natAbs, by omega⟩
  rw [Int.neg_tdiv, Int.natAbs_neg]
  rfl

/-- What the loop holds: what is left of the number, and the digits behind it. -/
def NumRel (n : Int) (a t : Value) : Prop :=
  ∃ (m : Int) (x : ByteArray), a = .int .i64 m ∧ t = .string x ∧ (n < 0 → m ≤ 0 ∧ -9223372036854775808 ≤ m) ∧ (0 ≤ n → 0 ≤ m ∧ m ≤ 9223372036854775807) ∧
    (m ≠ 0 → Lib.decDigits m.natAbs ++ x.data.toList = Lib.decDigits n.natAbs) ∧ (m = 0 → x.data.toList = Lib.decDigits n.natAbs)
theorem numRel_size {n m : Int} {x : ByteArray} (hn : n.natAbs < 18446744073709551616) (h1 : m ≠ 0 → Lib.decDigits m.natAbs ++ x.data.toList = Lib.decDigits n.natAbs) (h2 : m = 0 → x.data.toList = Lib.decDigits n.natAbs) : x.size ≤ 20 := by
  have hd := digits_le n.natAbs hn
  have hl : x.data.toList.length = x.size := rfl
  by_cases hm : m = 0
  · rw [← h2 hm] at hd; omega
  · rw [← h1 hm, List.length_append] at hd; omega

set_option maxHeartbeats 4000000 in
theorem refNumber_pos (n : Int) (w : World) (h0 : 0 < n) (h1 : n ≤ 9223372036854775807) :
    Calls Tryd.prog 24 #[.int .i64 n] w fun e w' => e = .returned (.string ⟨(Lib.itoa n).toArray⟩) ∧ w = w' := by
  have hn0 : (n == 0) = false := by simp; omega
  have hnz : decide (n < 0) = false := by simp; omega
  have hit : Lib.itoa n = Lib.decDigits n.natAbs := by
    unfold Lib.itoa
    rw [if_neg (by omega), show n.toNat = n.natAbs by omega]
  replace hit := Lib.hid hit
  go_enter Tryd.func24, Tryd.ntmps24
  go_wp2
  go_loop [0, 3] (fun a t => NumRel n a t) (fun a _ => (intOf a).natAbs)
  case atStart => exact ⟨n, ⟨#[]⟩, rfl, rfl, (fun h => by omega), (fun _ => ⟨by omega, h1⟩), (fun _ => by simp), (fun h => by omega)⟩
  case round =>
    obtain ⟨m, x, rfl, rfl, hneg, hpos, hne, hz⟩ := hrel
    obtain ⟨hp0, hp1⟩ := hpos (by omega)
    have hx := numRel_size (by omega) hne hz
    by_cases hm : m = 0
    · have hxe := hz hm
      subst hm
      replace hxe := Lib.hid hxe
      replace hneg := Lib.hid hneg
      replace hpos := Lib.hid hpos
      replace hne := Lib.hid hne
      replace hz := Lib.hid hz
      go_wp2
      go_ret
      refine ⟨?_, rfl⟩
      rw [hit.out, ← hxe.out, eta]
      rfl
    · have hm1 : (m != 0) = true := by simp; omega
      have hst := num_step m.natAbs x.data.toList _ (hne hm)
      have henc := encode_low (48 + m % 10) (by omega) (by omega)
      rw [show (48 + m % 10).toNat = 48 + m.natAbs % 10 by omega, show UInt8.ofNat (48 + m.natAbs % 10) = dgt (m.natAbs % 10) from rfl] at henc
      have hm3 : 0 ≤ m % 10 := by omega
      have hm4 : m % 10 ≤ 9 := by omega
      replace hneg := Lib.hid hneg
      replace hpos := Lib.hid hpos
      replace hne := Lib.hid hne
      replace hz := Lib.hid hz
      replace hst := Lib.hid hst
      go_wp2
      go_round
      case rel =>
        refine ⟨m / 10, ⟨#[dgt (m.natAbs % 10)]⟩ ++ x, rfl, rfl, (fun h => by omega), (fun _ => ⟨by omega, by omega⟩), (fun h => ?_), (fun h => ?_)⟩
        · rw [append_data, show (m / 10).natAbs = m.natAbs / 10 by omega]
          exact hst.out.1 (by omega)
        · rw [append_data]
          exact hst.out.2 (by omega)
      case measure => simp [intOf]; omega

set_option maxHeartbeats 4000000 in
set_option maxRecDepth 100000 in
theorem refNumber_neg (n : Int) (w : World) (h0 : n < 0) (h1 : -9223372036854775808 ≤ n) :
    Calls Tryd.prog 24 #[.int .i64 n] w fun e w' => e = .returned (.string ⟨(Lib.itoa n).toArray⟩) ∧ w = w' := by
  have hn0 : (n == 0) = false := by simp; omega
  have hnz : decide (n < 0) = true := by simp; omega
  have hit : Lib.itoa n = 45 :: Lib.decDigits n.natAbs := by
    unfold Lib.itoa
    rw [if_pos h0]
  replace hit := Lib.hid hit
  go_enter Tryd.func24, Tryd.ntmps24
  go_wp2
  go_loop [0, 3] (fun a t => NumRel n a t) (fun a _ => (intOf a).natAbs)
  case atStart => exact ⟨n, ⟨#[]⟩, rfl, rfl, (fun _ => ⟨by omega, h1⟩), (fun h => by omega), (fun _ => by simp), (fun h => by omega)⟩
  case round =>
    obtain ⟨m, x, rfl, rfl, hneg, hpos, hne, hz⟩ := hrel
    obtain ⟨hp0, hp1⟩ := hneg h0
    have hx := numRel_size (by omega) hne hz
    by_cases hm : m = 0
    · have hxe := hz hm
      subst hm
      replace hxe := Lib.hid hxe
      replace hneg := Lib.hid hneg
      replace hpos := Lib.hid hpos
      replace hne := Lib.hid hne
      replace hz := Lib.hid hz
      go_wp2
      go_ret
      refine ⟨?_, rfl⟩
      rw [hit.out, ← hxe.out]
      refine ret_v ?_
      show Value.string (⟨#[45]⟩ ++ x) = _
      rw [← eta (⟨#[45]⟩ ++ x), append_data]
      rfl
    · have hm1 : (m != 0) = true := by simp; omega
      have hst := num_step m.natAbs x.data.toList _ (hne hm)
      obtain ⟨d, hd⟩ : ∃ d : Nat, d = m.natAbs % 10 := ⟨_, rfl⟩
      obtain ⟨q, hq⟩ : ∃ q : Int, q = -((m.natAbs / 10 : Nat) : Int) := ⟨_, rfl⟩
      have hmod : m.tmod 10 = -(d : Int) := by rw [hd]; exact tmod_neg m hp0
      have hquo : m.tdiv 10 = q := by rw [hq]; exact tdiv_neg m hp0
      have hd9 : (d : Int) ≤ 9 := by omega
      have hqm : -922337203685477581 ≤ q := by omega
      have hq0 : q ≤ 0 := by omega
      have henc := encode_low (48 + (d : Int)) (by omega) (by omega)
      rw [show (48 + (d : Int)).toNat = 48 + d by omega, show UInt8.ofNat (48 + d) = dgt d from rfl] at henc
      rw [← hd] at hst
      have hqa : q.natAbs = m.natAbs / 10 := by omega
      have hlt : q.natAbs < m.natAbs := by omega
      have hwq' : wrap64 q = q := (IntWalk.i64_left q).symm.trans (IntWalk.i64_in q ⟨by omega, by omega⟩)
      replace hp1 := Lib.hid hp1
      replace h1 := Lib.hid h1
      have hwq := Lib.hid hwq'
      clear hwq'
      replace hqm := Lib.hid hqm
      replace hqa := Lib.hid hqa
      replace hlt := Lib.hid hlt
      replace hq := Lib.hid hq
      replace hd := Lib.hid hd
      replace hneg := Lib.hid hneg
      replace hpos := Lib.hid hpos
      replace hne := Lib.hid hne
      replace hz := Lib.hid hz
      replace hst := Lib.hid hst
      by_cases hd0 : d = 0
      · subst hd0
        replace hmod : m.tmod 10 = 0 := hmod
        replace henc : Utf8.encode 48 = ⟨#[dgt 0]⟩ := henc
        go_wp2
        go_round
        case rel =>
          refine ⟨q, ⟨#[dgt 0]⟩ ++ x, (by rw [hwq.out]), rfl, (fun _ => ⟨hq0, by have := hqm.out; omega⟩), (fun h => by omega), (fun h => ?_), (fun h => ?_)⟩
          · rw [append_data, hqa.out]
            exact hst.out.1 (by have := hqa.out; omega)
          · rw [append_data]
            exact hst.out.2 (by have := hqa.out; omega)
        case measure => rw [hwq.out]; exact hlt.out
      · obtain ⟨e, he⟩ : ∃ e : Int, e = -(d : Int) := ⟨_, rfl⟩
        have he1 : e < 0 := by omega
        have he2 : -9 ≤ e := by omega
        have hne2 : -e = (d : Int) := by omega
        rw [← he] at hmod
        replace he := Lib.hid he
        go_wp2
        go_round
        case rel =>
          refine ⟨q, ⟨#[dgt d]⟩ ++ x, (by rw [hwq.out]), rfl, (fun _ => ⟨hq0, by have := hqm.out; omega⟩), (fun h => by omega), (fun h => ?_), (fun h => ?_)⟩
          · rw [append_data, hqa.out]
            exact hst.out.1 (by have := hqa.out; omega)
          · rw [append_data]
            exact hst.out.2 (by have := hqa.out; omega)
        case measure => rw [hwq.out]; exact hlt.out
theorem refNumber_any (n : Int) (w : World) (h0 : -9223372036854775808 ≤ n) (h1 : n ≤ 9223372036854775807) :
    Calls Tryd.prog 24 #[.int .i64 n] w fun e w' => e = .returned (.string ⟨(Lib.itoa n).toArray⟩) ∧ w = w' := by
  by_cases hz : n = 0
  · subst hz
    have hit : Lib.itoa 0 = [48] := by
      unfold Lib.itoa
      rw [if_neg (by omega)]
      exact Lib.decDigits_one (by omega)
    rw [hit]
    clear hit
    go_enter Tryd.func24, Tryd.ntmps24
    go_wp2
    go_ret
    exact ⟨rfl, rfl⟩
  · by_cases hn : n < 0
    · exact refNumber_neg n w hn h0
    · exact refNumber_pos n w (by omega) h1
end Go.Proofs.YtfdmeinfjfmnlaaDoor
