/- Words of 64 bits: what the model's operations give for numbers that are a UInt64's. Plain, of no program. Numbers in groups of seven bits, and what a reader of such bytes answers: plain laws, of no program. Rows of bytes that came in or that a call makes itself: appending to them. Contracts of slices.Clip, slices.Grow of a nil slice, slices.Concat and slices.Clone at bytes, and of the package's join. Contract of slices.Concat at bytes. Contracts of slices.Clone at bytes, of the package's join, fold and groups. Contracts of the package's fold and groups, and of the document's answer for the encoding of a number. Contracts of the package's and the document's PutNumber, PutBool, PutText. Contracts of the document's PutNumber, PutBool, PutWord, PutText. Contracts of the package's unfold and readGroups. What a reader of the package holds, and contracts of its Fail, Err, End and take. Contracts of the package's reader: Number, take, atMost, Count, Text, Bool. Contracts of the package's reader: atMost, Count, Text, Bool, Word. Contracts of the package's and of the document's New. Contracts of the document's reader: Fail and Number. Contracts of the document's reader: Number in short, End, Count, Text, Bool. Contract of the document's reader: Text. -/
import Derived.WalkKit
import Derived.Test.YtcbnefeedoabeaaGreatDoorPf
import Derived.Laws.AppendOwnNone
import Derived.Lib.AppendZeros
import Derived.LoopTactic
import Derived.Lib.Hide
import Derived.Outline
import Derived.Lib.SliceRun
import Derived.BigRegion
import Derived.Deep.RegionWith
import Derived.Deep.DeepFit
import Derived.IntWalk
import Derived.Deep.DeepCutAuto
import Derived.Lib.ConvBytes
import Derived.Lib.AppendStr
import Derived.Test.YtcbnefeedoabeaaGreatDoorPg
import Derived.Deep.QuietTactic
import Derived.BigQuiet
/- Words of 64 bits: what the model's operations give for numbers that are a UInt64's. Plain, of no program. -/
namespace Go.Proofs.YtcbnefeedoabeaaGreatDoor.Wi
open Go Go.RowKit

theorem ofInt_word (a : UInt64) : (BitVec.ofInt 64 (a.toNat : Int)).toNat = a.toNat := by
  rw [BitVec.ofInt_natCast, BitVec.toNat_ofNat]
  exact Nat.mod_eq_of_lt a.toNat_lt
theorem wrap_word (n : Nat) : IntKind.u64.wrap (n : Int) = ((UInt64.ofNat n).toNat : Int) := by
  rw [IntKind.wrap_u64, UInt64.toNat_ofNat']
  omega
theorem wrap_toNat (a : UInt64) : IntKind.u64.wrap (a.toNat : Int) = (a.toNat : Int) := by
  have := a.toNat_lt
  rw [IntKind.wrap_u64]
  omega
theorem word_or (a b : UInt64) : bits .or .u64 (a.toNat : Int) (b.toNat : Int) = ((a ||| b).toNat : Int) := by
  show IntKind.u64.wrap ((BitVec.ofInt 64 (a.toNat : Int) ||| BitVec.ofInt 64 (b.toNat : Int)).toNat : Int) = _
  rw [BitVec.toNat_or, ofInt_word, ofInt_word, ← UInt64.toNat_or, wrap_toNat]
theorem word_and (a b : UInt64) : bits .and .u64 (a.toNat : Int) (b.toNat : Int) = ((a &&& b).toNat : Int) := by
  show IntKind.u64.wrap ((BitVec.ofInt 64 (a.toNat : Int) &&& BitVec.ofInt 64 (b.toNat : Int)).toNat : Int) = _
  rw [BitVec.toNat_and, ofInt_word, ofInt_word, ← UInt64.toNat_and, wrap_toNat]
theorem word_xor (a b : UInt64) : bits .xor .u64 (a.toNat : Int) (b.toNat : Int) = ((a ^^^ b).toNat : Int) := by
  show IntKind.u64.wrap ((BitVec.ofInt 64 (a.toNat : Int) ^^^ BitVec.ofInt 64 (b.toNat : Int)).toNat : Int) = _
  rw [BitVec.toNat_xor, ofInt_word, ofInt_word, ← UInt64.toNat_xor, wrap_toNat]
theorem word_add (a b : UInt64) : IntKind.u64.wrap ((a.toNat : Int) + (b.toNat : Int)) = ((a + b).toNat : Int) := by
  rw [IntKind.wrap_u64, UInt64.toNat_add]
  omega
theorem word_shl (a : UInt64) (n : Nat) (p : Int) (hp : p = ((2 ^ n : Nat) : Int)) : IntKind.u64.wrap ((a.toNat : Int) * p) = ((UInt64.ofNat (a.toNat * 2 ^ n)).toNat : Int) := by
  rw [hp, ← Int.natCast_mul, wrap_word]
theorem word_shr (a : UInt64) (n : Nat) (p : Int) (hp : p = ((2 ^ n : Nat) : Int)) : (a.toNat : Int) / p = ((UInt64.ofNat (a.toNat / 2 ^ n)).toNat : Int) := by
  have h := a.toNat_lt
  have h2 : a.toNat / 2 ^ n ≤ a.toNat := Nat.div_le_self _ _
  rw [hp, ← Int.natCast_ediv, UInt64.toNat_ofNat', Nat.mod_eq_of_lt (by omega)]
/-- A word rotated to the left by n places (0 < n < 64). -/
def rotl (a : UInt64) (n : Nat) : UInt64 := UInt64.ofNat (a.toNat * 2 ^ n) ||| UInt64.ofNat (a.toNat / 2 ^ (64 - n))
theorem word_rot (a : UInt64) (n : Nat) (p q : Int) (hp : p = ((2 ^ n : Nat) : Int)) (hq : q = ((2 ^ (64 - n) : Nat) : Int)) :
    bits .or .u64 (IntKind.u64.wrap ((a.toNat : Int) * p)) ((a.toNat : Int) / q) = ((rotl a n).toNat : Int) := by
  rw [word_shl a n p hp, word_shr a (64 - n) q hq, word_or]
  rfl
/-- The document's state of four words, and its round. -/
structure Sip where
  a : UInt64
  b : UInt64
  c : UInt64
  d : UInt64
def Sip.s1 (v : Sip) : Sip := { v with a := v.a + v.b }
def Sip.s2 (v : Sip) : Sip := { v with b := rotl v.b 13 ^^^ v.a }
def Sip.s3 (v : Sip) : Sip := { v with a := rotl v.a 32 }
def Sip.s4 (v : Sip) : Sip := { v with c := v.c + v.d }
def Sip.s5 (v : Sip) : Sip := { v with d := rotl v.d 16 ^^^ v.c }
def Sip.s6 (v : Sip) : Sip := { v with a := v.a + v.d }
def Sip.s7 (v : Sip) : Sip := { v with d := rotl v.d 21 ^^^ v.a }
def Sip.s8 (v : Sip) : Sip := { v with c := v.c + v.b }
def Sip.s9 (v : Sip) : Sip := { v with b := rotl v.b 17 ^^^ v.c }
def Sip.s10 (v : Sip) : Sip := { v with c := rotl v.c 32 }
def Sip.round (v : Sip) : Sip := v.s1.s2.s3.s4.s5.s6.s7.s8.s9.s10
def Sip.rounds (v : Sip) : Nat → Sip
  | 0 => v
  | n + 1 => (v.rounds n).round
end Go.Proofs.YtcbnefeedoabeaaGreatDoor.Wi
/- Numbers in groups of seven bits, and what a reader of such bytes answers: plain laws, of no program. -/
namespace Go.Proofs.YtcbnefeedoabeaaGreatDoor.Wi
open Go Go.RowKit

/-- 2n, or -2n - 1 for a negative n. -/
def zz (n : Int) : Nat := if n < 0 then (-(2 * n) - 1).toNat else (2 * n).toNat
/-- The number for which zz gives u. -/
def unz (u : Nat) : Int := if u % 2 = 1 then -((u / 2 : Nat) : Int) - 1 else ((u / 2 : Nat) : Int)
theorem unz_zz (n : Int) : unz (zz n) = n := by
  unfold unz zz
  split <;> split <;> omega
theorem zz_inj {n m : Int} (h : zz n = zz m) : n = m := by rw [← unz_zz n, h, unz_zz]
theorem zz_lt (n : Int) (h0 : -9223372036854775808 ≤ n) (h1 : n ≤ 9223372036854775807) : zz n < 18446744073709551616 := by
  unfold zz
  split <;> omega
theorem unz_range (u : Nat) (h : u < 18446744073709551616) : -9223372036854775808 ≤ unz u ∧ unz u ≤ 9223372036854775807 := by
  unfold unz
  split <;> omega
/-- The groups of u, the lowest one first. -/
def grp (u : Nat) : List UInt8 := if u < 128 then [UInt8.ofNat u] else UInt8.ofNat (u % 128 + 128) :: grp (u / 128)
termination_by u
decreasing_by omega
theorem grp_small {u : Nat} (h : u < 128) : grp u = [UInt8.ofNat u] := by rw [grp, if_pos h]
theorem grp_big {u : Nat} (h : ¬ u < 128) : grp u = UInt8.ofNat (u % 128 + 128) :: grp (u / 128) := by rw [grp, if_neg h]
theorem grp_pos (u : Nat) : 0 < (grp u).length := by
  by_cases h : u < 128
  · rw [grp_small h]; simp
  · rw [grp_big h]; simp
theorem grp_len : ∀ (k u : Nat), u < 2 ^ (7 * k + 7) → (grp u).length ≤ k + 1
  | 0, u, h => by rw [grp_small (by simpa using h)]; simp
  | k + 1, u, h => by
    by_cases hs : u < 128
    · rw [grp_small hs]; simp
    · rw [grp_big hs]
      have := grp_len k (u / 128) (by
        rw [Nat.div_lt_iff_lt_mul (by omega)]
        refine Nat.lt_of_lt_of_eq h ?_
        rw [show 7 * (k + 1) + 7 = (7 * k + 7) + 7 from by omega, Nat.pow_add]
        )
      simp only [List.length_cons]
      omega
def numB (n : Int) : List UInt8 := grp (zz n)
theorem numB_pos (n : Int) : 0 < (numB n).length := grp_pos _
theorem numB_len (n : Int) (h0 : -9223372036854775808 ≤ n) (h1 : n ≤ 9223372036854775807) : (numB n).length ≤ 10 := by
  have h := zz_lt n h0 h1
  refine grp_len 9 _ ?_
  omega
def boolB (v : Bool) : List UInt8 := [if v then 1 else 0]
def textB (s : ByteArray) : List UInt8 := numB (s.size : Int) ++ s.data.toList
/-- What is read of these bytes from place i on, behind the value u: the number, how many bytes it has, the error. -/
def readG : Nat → Nat → List UInt8 → Nat × Nat × Int
  | _, _, [] => (0, 0, 16)
  | i, u, x :: t => if i = 9 ∧ 1 < x.toNat then (0, 0, 3) else if x.toNat = 0 ∧ 0 < i then (0, 0, 1)
    else if x.toNat < 128 then (u + x.toNat * 2 ^ (7 * i), i + 1, 0) else readG (i + 1) (u + (x.toNat - 128) * 2 ^ (7 * i)) t
theorem ofNat_toNat {n : Nat} (h : n < 256) : (UInt8.ofNat n).toNat = n := by rw [UInt8.toNat_ofNat']; omega
theorem readG_grp (rest : List UInt8) : ∀ (u i acc : Nat), i ≤ 9 → u < 2 ^ (64 - 7 * i) → (0 < i → 0 < u) → readG i acc (grp u ++ rest) = (acc + u * 2 ^ (7 * i), i + (grp u).length, 0) := by
  intro u
  induction u using Nat.strongRecOn with
  | ind u ih =>
    intro i acc hi hu h0
    by_cases h : u < 128
    · rw [grp_small h]
      have h9 : ¬ (i = 9 ∧ 1 < u) := by
        rintro ⟨rfl, h1⟩
        simp at hu
        omega
      have hz : ¬ (u = 0 ∧ 0 < i) := by
        rintro ⟨h1, h2⟩
        have := h0 h2
        omega
      simp only [List.cons_append, List.nil_append, readG, ofNat_toNat (show u < 256 by omega), if_neg h9, if_neg hz, if_pos h, List.length_cons, List.length_nil]
    · have hi8 : i ≤ 8 := by
        by_cases e : i = 9
        · subst e
          simp at hu
          omega
        · omega
      rw [grp_big h]
      simp only [List.cons_append, readG, ofNat_toNat (show u % 128 + 128 < 256 by omega)]
      rw [if_neg (by omega), if_neg (by omega), if_neg (by omega), ih (u / 128) (by omega) (i + 1) _ (by omega) ?_ (by omega)]
      · have e1 : u % 128 + 128 - 128 = u % 128 := by omega
        have e2 : 2 ^ (7 * (i + 1)) = 128 * 2 ^ (7 * i) := by rw [show 7 * (i + 1) = 7 + 7 * i from by omega, Nat.pow_add]
        rw [e1, e2, List.length_cons]
        refine Prod.ext ?_ (Prod.ext ?_ rfl)
        · show acc + u % 128 * 2 ^ (7 * i) + u / 128 * (128 * 2 ^ (7 * i)) = acc + u * 2 ^ (7 * i)
          rw [Nat.add_assoc, ← Nat.mul_assoc, ← Nat.add_mul, Nat.mod_add_div' u 128]
        · show i + 1 + (grp (u / 128)).length = i + ((grp (u / 128)).length + 1)
          omega
      · rw [Nat.div_lt_iff_lt_mul (by omega)]
        refine Nat.lt_of_lt_of_eq hu ?_
        rw [show 64 - 7 * i = (64 - 7 * (i + 1)) + 7 from by omega, Nat.pow_add]
theorem readG_cut : ∀ (u i acc k : Nat), i ≤ 9 → u < 2 ^ (64 - 7 * i) → k < (grp u).length → readG i acc ((grp u).take k) = (0, 0, 16) := by
  intro u
  induction u using Nat.strongRecOn with
  | ind u ih =>
    intro i acc k hi hu hk
    match k, hk with
    | 0, _ => rfl
    | k + 1, hk =>
    by_cases h : u < 128
    · rw [grp_small h] at hk
      simp at hk
    · have hi8 : i ≤ 8 := by
        by_cases e : i = 9
        · subst e
          simp at hu
          omega
        · omega
      rw [grp_big h] at hk ⊢
      rw [List.take_succ_cons]
      simp only [readG, ofNat_toNat (show u % 128 + 128 < 256 by omega)]
      rw [if_neg (by omega), if_neg (by omega), if_neg (by omega)]
      refine ih (u / 128) (by omega) (i + 1) _ k (by omega) ?_ (by simpa using hk)
      rw [Nat.div_lt_iff_lt_mul (by omega)]
      refine Nat.lt_of_lt_of_eq hu ?_
      rw [show 64 - 7 * i = (64 - 7 * (i + 1)) + 7 from by omega, Nat.pow_add]
/-- What readG gives: an error and nothing, or a number of 64 bits. -/
theorem readG_fits : ∀ (l : List UInt8) (i u : Nat), i ≤ 9 → u < 2 ^ (7 * i) →
    (∃ e : Int, (e = 16 ∨ e = 3 ∨ e = 1) ∧ readG i u l = (0, 0, e)) ∨ ∃ v n : Nat, readG i u l = (v, n, 0) ∧ v < 18446744073709551616 ∧ i < n ∧ n ≤ i + l.length
  | [], _, _, _, _ => .inl ⟨16, .inl rfl, rfl⟩
  | x :: t, i, u, hi, hu => by
    have hx := x.toNat_lt
    by_cases c1 : i = 9 ∧ 1 < x.toNat
    · exact .inl ⟨3, .inr (.inl rfl), by simp only [readG, if_pos c1]⟩
    · by_cases c2 : x.toNat = 0 ∧ 0 < i
      · exact .inl ⟨1, .inr (.inr rfl), by simp only [readG, if_neg c1, if_pos c2]⟩
      · by_cases c3 : x.toNat < 128
        · refine .inr ⟨u + x.toNat * 2 ^ (7 * i), i + 1, by simp only [readG, if_neg c1, if_neg c2, if_pos c3], ?_, by omega, by simp⟩
          by_cases e : i = 9
          · subst e
            have : x.toNat ≤ 1 := by omega
            have h2 : x.toNat * 2 ^ (7 * 9) ≤ 1 * 2 ^ (7 * 9) := Nat.mul_le_mul_right _ this
            simp only [Nat.reduceMul, Nat.reducePow] at hu h2 ⊢
            omega
          · have h2 : x.toNat * 2 ^ (7 * i) ≤ 127 * 2 ^ (7 * i) := Nat.mul_le_mul_right _ (by omega)
            have h3 : 2 ^ (7 * i) ≤ 2 ^ 56 := Nat.pow_le_pow_right (by omega) (by omega)
            simp only [Nat.reducePow] at h3
            omega
        · have hi8 : i ≤ 8 := by omega
          have h2 : (x.toNat - 128) * 2 ^ (7 * i) ≤ 127 * 2 ^ (7 * i) := Nat.mul_le_mul_right _ (by omega)
          have e2 : 2 ^ (7 * (i + 1)) = 128 * 2 ^ (7 * i) := by rw [show 7 * (i + 1) = 7 + 7 * i from by omega, Nat.pow_add]
          have := readG_fits t (i + 1) (u + (x.toNat - 128) * 2 ^ (7 * i)) (by omega) (by omega)
          rcases this with ⟨e, he, h⟩ | ⟨v, n, h, h3, h4, h5⟩
          · exact .inl ⟨e, he, by simp only [readG, if_neg c1, if_neg c2, if_neg c3]; exact h⟩
          · exact .inr ⟨v, n, by simp only [readG, if_neg c1, if_neg c2, if_neg c3]; exact h, h3, by omega, by simp; omega⟩
/-- The model's or of a number below 2^k and a multiple of 2^k is their sum. -/
theorem or_sum (a b k : Nat) (ha : a < 2 ^ k) (h : a + b * 2 ^ k < 18446744073709551616) : bits .or .u64 (a : Int) (IntKind.u64.wrap ((b : Int) * 2 ^ k)) = ((a + b * 2 ^ k : Nat) : Int) := by
  have e1 : IntKind.u64.wrap ((b : Int) * 2 ^ k) = ((UInt64.ofNat (b * 2 ^ k)).toNat : Int) := by
    rw [show ((b : Int) * 2 ^ k) = ((b * 2 ^ k : Nat) : Int) from by rw [Int.natCast_mul, Int.natCast_pow]; rfl, wrap_word]
  have e2 : (a : Int) = ((UInt64.ofNat a).toNat : Int) := by rw [UInt64.toNat_ofNat']; omega
  rw [e1, e2, word_or, UInt64.toNat_or, UInt64.toNat_ofNat', UInt64.toNat_ofNat', Nat.mod_eq_of_lt (by omega), Nat.mod_eq_of_lt (by omega)]
  congr 1
  rw [Nat.or_comm, Nat.mul_comm b, ← Nat.two_pow_add_eq_or_of_lt ha b]
  omega
theorem not_word (n : Nat) (h : n < 18446744073709551616) : bits .xor .u64 IntKind.u64.max (n : Int) = ((18446744073709551615 - n : Nat) : Int) := by
  show IntKind.u64.wrap ((BitVec.ofInt 64 18446744073709551615 ^^^ BitVec.ofInt 64 (n : Int)).toNat : Int) = _
  rw [show BitVec.ofInt 64 18446744073709551615 = BitVec.allOnes 64 from by decide, BitVec.allOnes_xor, BitVec.toNat_not, BitVec.ofInt_natCast, BitVec.toNat_ofNat, Nat.mod_eq_of_lt (by omega), IntKind.wrap_u64]
  omega
theorem twice_pos (n : Int) (h0 : 0 ≤ n) (h1 : n ≤ 9223372036854775807) : IntKind.u64.wrap (IntKind.u64.wrap n * 2) = (zz n : Nat) := by
  unfold zz
  rw [if_neg (by omega), IntKind.wrap_u64, IntKind.wrap_u64]
  omega
theorem twice_neg (n : Int) (h0 : -9223372036854775808 ≤ n) (h1 : n < 0) : bits .xor .u64 IntKind.u64.max (IntKind.u64.wrap (IntKind.u64.wrap n * 2)) = (zz n : Nat) := by
  have h : IntKind.u64.wrap (IntKind.u64.wrap n * 2) = ((18446744073709551615 - zz n : Nat) : Int) := by
    have := zz_lt n h0 (by omega)
    unfold zz at this ⊢
    rw [if_pos h1] at this ⊢
    rw [IntKind.wrap_u64, IntKind.wrap_u64]
    omega
  have := zz_lt n h0 (by omega)
  rw [h, not_word _ (by omega)]
  congr 1
  omega
theorem or8 (a : Nat) (h : a < 256) : bits .or .u8 (a : Int) 128 = ((a % 128 + 128 : Nat) : Int) := by
  have : ∀ a : Fin 256, bits .or .u8 ((a.1 : Nat) : Int) 128 = ((a.1 % 128 + 128 : Nat) : Int) := by decide +kernel
  exact this ⟨a, h⟩
theorem andNot8 (a : Nat) (h : a < 256) : bits .andNot .u8 (a : Int) 128 = ((a % 128 : Nat) : Int) := by
  have : ∀ a : Fin 256, bits .andNot .u8 ((a.1 : Nat) : Int) 128 = ((a.1 % 128 : Nat) : Int) := by decide +kernel
  exact this ⟨a, h⟩
theorem and8 (a : Nat) (h : a < 256) : bits .and .u8 (a : Int) 127 = ((a % 128 : Nat) : Int) := by
  have : ∀ a : Fin 256, bits .and .u8 ((a.1 : Nat) : Int) 127 = ((a.1 % 128 : Nat) : Int) := by decide +kernel
  exact this ⟨a, h⟩
theorem and64 (n : Nat) (h : n < 18446744073709551616) : bits .and .u64 (n : Int) 127 = ((n % 128 : Nat) : Int) := by
  have e : (n : Int) = ((UInt64.ofNat n).toNat : Int) := by rw [UInt64.toNat_ofNat']; omega
  rw [e, show (127 : Int) = (((127 : UInt64).toNat : Nat) : Int) from rfl, word_and, UInt64.toNat_and, UInt64.toNat_ofNat', Nat.mod_eq_of_lt (by omega)]
  congr 1
  exact Nat.and_two_pow_sub_one_eq_mod n 7
theorem and64_1 (n : Nat) (h : n < 18446744073709551616) : bits .and .u64 (n : Int) 1 = ((n % 2 : Nat) : Int) := by
  have e : (n : Int) = ((UInt64.ofNat n).toNat : Int) := by rw [UInt64.toNat_ofNat']; omega
  rw [e, show (1 : Int) = (((1 : UInt64).toNat : Nat) : Int) from rfl, word_and, UInt64.toNat_and, UInt64.toNat_ofNat', Nat.mod_eq_of_lt (by omega)]
  congr 1
  exact Nat.and_two_pow_sub_one_eq_mod n 1
theorem not_int (n : Nat) (h : n < 9223372036854775808) : bits .xor .i64 (-1) (n : Int) = -(n : Int) - 1 := by
  show IntKind.i64.wrap ((BitVec.ofInt 64 (-1) ^^^ BitVec.ofInt 64 (n : Int)).toNat : Int) = _
  rw [show BitVec.ofInt 64 (-1) = BitVec.allOnes 64 from by decide, BitVec.allOnes_xor, BitVec.toNat_not, BitVec.ofInt_natCast, BitVec.toNat_ofNat, Nat.mod_eq_of_lt (by omega), IntKind.wrap_i64]
  omega
end Go.Proofs.YtcbnefeedoabeaaGreatDoor.Wi
/- Rows of bytes that came in or that a call makes itself: appending to them. -/
namespace Go.Proofs.YtcbnefeedoabeaaGreatDoor.Wi
open Go Go.RowKit

/-- A slice of bytes that came in: what its places hold. -/
def BytesAre (a0 : Option Addr) (l : List UInt8) (w : World) : Prop := ∀ i (h : i < l.length), ∃ (b off : Nat), a0 = some ⟨b, off, none⟩ ∧ b < w.heap.size ∧ w.cell? ⟨b, off + i, none⟩ = some (.int .u8 (l[i].toNat : Int))
theorem BytesAre.take {a : Option Addr} {l : List UInt8} {w : World} (h : BytesAre a l w) (n : Nat) : BytesAre a (l.take n) w := by
  intro i hi
  rw [List.length_take] at hi
  obtain ⟨b, off, e, hb, hc⟩ := h i (by omega)
  exact ⟨b, off, e, hb, by rw [List.getElem_take]; exact hc⟩
theorem BytesAre.below {a : Option Addr} {l : List UInt8} {w w' : World} {B : Nat} (h : BytesAre a l w) (hB : w.heap.size ≤ B) (hb : Below B w w') : BytesAre a l w' := by
  intro i hi
  obtain ⟨b, off, rfl, hlt, hc⟩ := h i hi
  exact ⟨b, off, rfl, by have := hb.size; omega, (hb.cell (p := ⟨b, off + i, none⟩) (by show b < B; omega)).trans hc⟩
theorem add_off (b off j : Nat) : (⟨b, off, none⟩ : Addr).add j = ⟨b, off + j, none⟩ := by
  unfold Addr.add
  split
  · rename_i h; subst h; rfl
  · rfl
set_option linter.unusedVariables false in
theorem wpList_ownL {ops : Array Oper} {rest : List Oper} {o : Oper} {a : Act} {Q : Exit → Act → World → Prop} (hgd : o.guard = none) (s x : Operand)
    (ho : o.op = .call { callee := .builtin .append, args := #[s, x], argTypes := #[22, 22] })
    {B : Nat} {v : Value} {l : List UInt8} (m : List UInt8) (a1 : Option Addr) (c1 : Nat) {w : World} (hown : Own B v l w) (hs : a.eval s = v) (hx : a.eval x = .slice a1 m.length c1)
    (hn : a1 = none → c1 = 0) (hm : BytesAre a1 m w) (hlen : l.length + m.length ≤ 140737488355328) (hB : B ≤ w.heap.size)
    (h : ∀ v' w', Own B v' (l ++ m) w' → Below B w w' → wpList Tryz.prog ops Q rest (a.put o.dst v') w') :
    wpList Tryz.prog ops Q (o :: rest) a w := by
  obtain ⟨i0, hi, hz0', hz1', hz2'⟩ := info_parts infoByte
  cases a1 with
  | none =>
    have hm0 : m = [] := by
      cases m with
      | nil => rfl
      | cons c t => obtain ⟨b, off, he, _⟩ := hm 0 (by simp); cases he
    subst hm0
    rw [hn rfl] at hx
    refine wpList_append_own_none hgd s x 22 ho B 5 i0 1 Tryz.underlying22 hi v l.length _ hs hown hx ?_
    exact h v w (by rw [List.append_nil]; exact hown) (Below.refl _ _)
  | some ad =>
    refine wpList_append_own _ hgd s x 22 ho B 5 i0 (.int .u8 0) 1 1 Tryz.underlying22 hi hz0' hz1' hz2' rfl (by decide) v l.length _ hs hown ad m.length c1 (Lib.byteCells m) hx (by simp [Lib.byteCells_length]) ?_ ?_ ?_ ?_ hB ?_
    · intro j u hj
      have hjl : j < m.length := by
        have := (List.getElem?_eq_some_iff.1 hj).1
        simpa [Lib.byteCells_length] using this
      obtain ⟨b, off, he, hlt, hc⟩ := hm j hjl
      cases he
      rw [add_off, hc]
      simpa [Lib.byteCells, hjl] using hj
    · intro u hu
      simp only [Lib.byteCells, List.mem_map] at hu
      obtain ⟨c, _, rfl⟩ := hu
      rfl
    · unfold maxLen; omega
    · omega
    · intro v' w' hown' hgrow _
      refine h v' w' ?_ ((Below.refl B w).grown hgrow hB (fun k hk => (hown.lt k hk).1))
      simpa [Own, Lib.byteCells] using hown'
/-- The number of bytes of a field as eight bytes, the most significant one first. -/
def lenB (n : Nat) : List UInt8 := (List.range 8).map fun j => UInt8.ofNat (n / 2 ^ (56 - 8 * j))
theorem lenB_length (n : Nat) : (lenB n).length = 8 := by simp [lenB]
theorem lenB_take (n j : Nat) (h : j < 8) : (lenB n).take (j + 1) = (lenB n).take j ++ [UInt8.ofNat (n / 2 ^ (56 - 8 * j))] := by
  rw [List.take_succ_eq_append_getElem (by rw [lenB_length]; exact h)]
  simp [lenB]
/-- A list of fields that came in: what its places hold. -/
def FieldsAre (a0 : Option Addr) (l : List (List UInt8)) (w : World) : Prop :=
  ∀ i (h : i < l.length), ∃ (b off : Nat) (a1 : Option Addr) (c1 : Nat), a0 = some ⟨b, off, none⟩ ∧ b < w.heap.size ∧ w.cell? ⟨b, off + i, none⟩ = some (.slice a1 (l[i].length : Nat) c1) ∧ (a1 = none → c1 = 0) ∧ l[i].length ≤ c1 ∧ BytesAre a1 l[i] w
theorem FieldsAre.below {a : Option Addr} {l : List (List UInt8)} {w w' : World} {B : Nat} (h : FieldsAre a l w) (hB : w.heap.size ≤ B) (hb : Below B w w') : FieldsAre a l w' := by
  intro i hi
  obtain ⟨b, off, a1, c1, rfl, hlt, hc, hn, hl, hm⟩ := h i hi
  exact ⟨b, off, a1, c1, rfl, by have := hb.size; omega, (hb.cell (p := ⟨b, off + i, none⟩) (by show b < B; omega)).trans hc, hn, hl, hm.below hB hb⟩
/-- What a call that makes a row of bytes returns. -/
def MadeBytes (l : List UInt8) (w : World) (e : Ending) (w' : World) : Prop := ∃ (a1 : Option Addr) (c1 : Nat), e = .returned (.slice a1 (l.length : Nat) c1) ∧ (a1 = none → c1 = 0) ∧ l.length ≤ c1 ∧ BytesAre a1 l w' ∧ Below w.heap.size w w' ∧ Own w.heap.size (.slice a1 l.length c1) l w'
theorem _root_.Go.Proofs.YtcbnefeedoabeaaGreatDoor.Own.shape {B : Nat} {v : Value} {l : List UInt8} {w : World} (h : Own B v l w) : ∃ (a1 : Option Addr) (c1 : Nat), v = .slice a1 l.length c1 ∧ (a1 = none → c1 = 0) ∧ l.length ≤ c1 ∧ BytesAre a1 l w := by
  rcases h.2 with ⟨rfl, h0⟩ | ⟨g, cap, cur, rfl, hB, hg, hn, hc, hs, ht⟩
  · exact ⟨none, 0, by rw [h0], fun _ => rfl, by omega, fun i hi => by omega⟩
  · refine ⟨some ⟨g, 0, none⟩, cap, rfl, (by intro h; cases h), hn, fun i hi => ⟨g, 0, rfl, (Array.getElem?_eq_some_iff.1 hg).1, ?_⟩⟩
    have h1 : cur.toList[i]? = some (.int .u8 (l[i].toNat : Int)) := by
      have := congrArg (fun x : List Value => x[i]?) ht
      simp only [Nat.mul_one, List.getElem?_take, hi, if_true] at this
      rw [this]
      simp [Lib.byteCells, hi]
    rw [Lib.cell_of_heap hg]
    simpa using h1
end Go.Proofs.YtcbnefeedoabeaaGreatDoor.Wi
/- Contracts of slices.Clip, slices.Grow of a nil slice, slices.Concat and slices.Clone at bytes, and of the package's join. -/
namespace Go.Proofs.YtcbnefeedoabeaaGreatDoor.Wi
open Go Go.RowKit

theorem clip_any (a0 : Option Addr) (n cap : Nat) (w : World) (hn : n ≤ cap) :
    Calls Tryz.prog 91 #[.slice a0 n cap] w fun e w' => e = .returned (.slice a0 n n) ∧ w = w' := by
  go_enter Tryz.func91, Tryz.ntmps91
  go_wp2
  go_ret
  exact ⟨rfl, rfl⟩
/-- What a call that makes a row of bytes of its own returns. -/
def MadeOwn (l : List UInt8) (w : World) (e : Ending) (w' : World) : Prop := ∃ v, e = .returned v ∧ Own w.heap.size v l w' ∧ Below w.heap.size w w'
/-- What a call that makes a row of bytes returns. -/
def MadeB (l : List UInt8) (w : World) (e : Ending) (w' : World) : Prop := ∃ (a1 : Option Addr) (c1 : Nat), e = .returned (.slice a1 (l.length : Nat) c1) ∧ (a1 = none → c1 = 0) ∧ l.length ≤ c1 ∧ c1 ≤ 9223372036854775807 ∧ BytesAre a1 l w' ∧ Below w.heap.size w w'
theorem own_zeros (w : World) (n c : Nat) (h : n ≤ c) (hm : c ≤ maxLen) : Own w.heap.size (.slice (some ⟨w.heap.size, 0, none⟩) 0 c) [] (w.drew.alloc (.cells (Builtin.zeroCells (Value.int .u8 0).cells n ++ Builtin.zeroCells (Value.int .u8 0).cells (c - n)) 5)) := by
  have := World.ownsRow_made (base := w.heap.size) (e := 5) (size := 1) w.drew (Builtin.zeroCells (Value.int .u8 0).cells n ++ Builtin.zeroCells (Value.int .u8 0).cells (c - n)) c (Nat.le_refl _) hm (by simp [size_zeroCells, Value.cells]; omega)
  exact this
set_option maxHeartbeats 4000000 in
theorem grow_nil (n : Nat) (w : World) (hn : n ≤ 1000000) :
    Calls Tryz.prog 137 #[.slice none 0 0, .int .i64 (n : Int)] w (MadeOwn [] w) := by
  obtain ⟨i0, hi, hz0, hz1, hz2⟩ := info_parts infoByte
  by_cases h0 : 0 < n
  · have hr := Lib.run_append_nil_zeros (P := Tryz.prog) w 22 3 22 5 i0 (.int .u8 0) .i64 .i64 Tryz.underlying22 Tryz.underlying3 hi hz0 n h0 (by omega) (by omega) (by rw [hz2]; omega)
    have hm : grownCap w n 0 5 ≤ maxLen := grownCap_le_maxLen w n 0 _ (by unfold maxLen; omega)
    have hg := grownCap_ge w n 0 5
    generalize grownCap w n 0 5 = c at hr hm hg
    have hown := own_zeros w n c hg hm
    have hbl : Below w.heap.size w (w.drew.alloc (.cells (Builtin.zeroCells (Value.int .u8 0).cells n ++ Builtin.zeroCells (Value.int .u8 0).cells (c - n)) 5)) := (Below.refl _ w).drew.alloc (Nat.le_refl _) _
    generalize (w.drew.alloc (.cells (Builtin.zeroCells (Value.int .u8 0).cells n ++ Builtin.zeroCells (Value.int .u8 0).cells (c - n)) 5)) = w1 at hr hown hbl
    clear hi hz0 hz1 hz2
    have hn0 : ¬ (n : Int) < 0 := by omega
    have hn1 : (0 : Int) < (n : Int) := by omega
    unfold maxLen at hm
    go_enter Tryz.func137, Tryz.ntmps137
    go_wp2_with (at_builtin; refine Lib.wpList_append_run _ rfl _ _ _ _ rfl _ _ rfl rfl _ _ hr ?_)
    go_ret
    exact ⟨_, rfl, hown, hbl⟩
  · obtain rfl : n = 0 := by omega
    go_enter Tryz.func137, Tryz.ntmps137
    go_wp2
    go_ret
    exact ⟨_, rfl, own_nil _ _, Below.refl _ _⟩
end Go.Proofs.YtcbnefeedoabeaaGreatDoor.Wi
/- Contract of slices.Concat at bytes. -/
namespace Go.Proofs.YtcbnefeedoabeaaGreatDoor.Wi
open Go Go.RowKit

theorem flat_take (l : List (List UInt8)) (i : Nat) (h : i < l.length) : (l.take (i + 1)).flatten = (l.take i).flatten ++ l[i] := by
  rw [List.take_succ_eq_append_getElem h, List.flatten_append]
  simp
theorem flat_le (l : List (List UInt8)) (i : Nat) : (l.take i).flatten.length ≤ l.flatten.length := by
  have h := congrArg List.length (congrArg List.flatten (List.take_append_drop i l))
  rw [List.flatten_append, List.length_append] at h
  omega
/-- How many bytes they are together. -/
def tot (l : List (List UInt8)) : Nat := l.flatten.length
set_option maxHeartbeats 8000000 in
theorem concat_any (a0 : Option Addr) (fs : List (List UInt8)) (cap : Nat) (w : World) (hl : fs.length ≤ 1000) (hf : fs.flatten.length ≤ 1000000) (hF : FieldsAre a0 fs w) :
    Calls Tryz.prog 92 #[.slice a0 (fs.length : Nat) cap] w (MadeOwn fs.flatten w) := by
  go_enter Tryz.func92, Tryz.ntmps92
  go_wp2
  go_loop [3, 11] (fun s i => ∃ n : Nat, n ≤ fs.length ∧ i = .int .i64 n ∧ s = .int .i64 (tot (fs.take n) : Nat)) (fun _ i => fs.length - (intOf i).toNat)
  case atStart => exact ⟨0, Nat.zero_le _, rfl, rfl⟩
  case round =>
    obtain ⟨n, hn, rfl, rfl⟩ := hrel
    by_cases hlt : n < fs.length
    · obtain ⟨b, off, a1, c1, rfl, hbk, hc, hnc, _, hby⟩ := hF n hlt
      have h1 := flat_take fs n hlt
      have h2 := flat_le fs (n + 1)
      have h3 : tot (fs.take (n + 1)) = tot (fs.take n) + fs[n].length := by unfold tot; rw [h1, List.length_append]
      change tot _ ≤ _ at h2
      have H : Hid ((tot (fs.take (n + 1)) : Int) = (tot (fs.take n) : Int) + (fs[n].length : Int)) := Lib.hid (by omega)
      generalize tot (fs.take n) = q at h3 H ⊢
      generalize fs[n].length = m at h3 H hc ⊢
      have hlt' : (n : Int) < (fs.length : Int) := by omega
      have hs0 : ¬ ((q : Int) + (m : Int) < 0) := by omega
      have hqm : (q : Int) + (m : Int) ≤ 1000000 := by omega
      clear h1 h2 h3 hby hnc
      go_wp2
      go_round
      case rel => exact ⟨n + 1, by omega, by go_num, by rw [H.out]⟩
      case measure => simp [intOf]; omega
    · obtain rfl : n = fs.length := by omega
      rw [List.take_of_length_le (Nat.le_refl _)]
      have hq : tot fs ≤ 1000000 := hf
      generalize tot fs = q at hq ⊢
      go_wp2_with (go_at_call 137; refine (grow_nil q _ hq).mono ?_; rintro e w1 ⟨v1, rfl, hown0, hb0⟩)
      go_loopw [6, 27] (fun v i wr => ∃ n : Nat, n ≤ fs.length ∧ i = .int .i64 n ∧ Own w.heap.size v ((fs.take n).flatten) wr ∧ Below w.heap.size w wr) (fun _ i _ => fs.length - (intOf i).toNat)
      case atStart => exact ⟨0, Nat.zero_le _, rfl, hown0, hb0⟩
      case round =>
        obtain ⟨n, hn, rfl, hown, hbl⟩ := hrel
        by_cases hlt : n < fs.length
        · obtain ⟨b, off, a1, c1, rfl, hbk, hc, hnc, _, hby⟩ := hF n hlt
          have h1 := flat_take fs n hlt
          have h2 := flat_le fs (n + 1)
          rw [h1, List.length_append] at h2
          have hcw := hbl.cell (p := ⟨b, off + n, none⟩) hbk
          rw [hc] at hcw
          have hby1 := hby.below (Nat.le_refl _) hbl
          have hsz := hbl.size
          have H := Lib.hid h1
          generalize (fs.take n).flatten = L at hown h2 H
          generalize fs[n] = f at hby1 hcw H h2
          have hlt' : (n : Int) < (fs.length : Int) := by omega
          have hlf : L.length + f.length ≤ 140737488355328 := by omega
          clear h1 hc hby hown0 hb0
          replace hbl := Lib.hid hbl
          go_wp2_with (at_builtin; refine wpList_ownL rfl _ _ rfl f a1 c1 hown rfl rfl hnc hby1 hlf hsz ?_)
          intro v2 w2 hown2 hb2
          go_wp2
          go_roundw
          case rel => exact ⟨n + 1, by omega, by go_num, by rw [H.out]; exact hown2, hbl.out.trans hb2⟩
          case measure => simp [intOf]; omega
        · obtain rfl : n = fs.length := by omega
          rw [List.take_of_length_le (Nat.le_refl _)] at hown
          go_wp2
          go_ret
          exact ⟨_, rfl, hown, hbl⟩
end Go.Proofs.YtcbnefeedoabeaaGreatDoor.Wi
/- Contracts of slices.Clone at bytes, of the package's join, fold and groups. -/
namespace Go.Proofs.YtcbnefeedoabeaaGreatDoor.Wi
open Go Go.RowKit

theorem own_empty (w : World) : Own w.heap.size (.slice (some ⟨w.heap.size, 0, none⟩) 0 0) [] (w.alloc (.cells #[] 5)) :=
  ⟨rfl, .inr ⟨w.heap.size, 0, #[], rfl, Nat.le_refl _, heap_alloc_new w _, Nat.le_refl _, Nat.zero_le _, rfl, rfl⟩⟩
/-- A row of the call's own has a capacity that Go bears. -/
theorem _root_.Go.Proofs.YtcbnefeedoabeaaGreatDoor.Own.fits {B : Nat} {v : Value} {l : List UInt8} {w : World} (h : Own B v l w) : ∃ (a1 : Option Addr) (c1 : Nat), v = .slice a1 l.length c1 ∧ (a1 = none → c1 = 0) ∧ l.length ≤ c1 ∧ c1 ≤ 9223372036854775807 ∧ BytesAre a1 l w := by
  obtain ⟨a1, c1, rfl, h1, h2, h3⟩ := h.shape
  refine ⟨a1, c1, rfl, h1, h2, ?_, h3⟩
  rcases h.2 with ⟨hv, _⟩ | ⟨g, cap, cur, hv, _, _, _, hc, _⟩
  · injection hv with _ _ e
    omega
  · injection hv with _ _ e
    unfold maxLen at hc
    omega
set_option maxHeartbeats 4000000 in
theorem clone_own (a0 : Option Addr) (l : List UInt8) (cap : Nat) (w : World) (hl : l.length ≤ 1000000) (hn : a0 = none → cap = 0) (hB : BytesAre a0 l w) :
    Calls Tryz.prog 96 #[.slice a0 (l.length : Nat) cap] w (MadeOwn l w) := by
  have q := fun (w : World) (a : Option Addr) (n c : Nat) => Lib.run_eql_slice_nil (P := Tryz.prog) w 22 5 a n c 0 0 Tryz.underlying22
  cases a0 with
  | none =>
    obtain rfl : l = [] := by
      cases l with
      | nil => rfl
      | cons c t => obtain ⟨b, off, he, _⟩ := hB 0 (by simp); cases he
    obtain rfl : cap = 0 := hn rfl
    show Calls _ _ #[.slice none 0 0] _ _
    go_enter Tryz.func96, Tryz.ntmps96
    go_wp2
    go_ret
    exact ⟨_, rfl, own_nil _ _, Below.refl _ _⟩
  | some a =>
    have hown := own_empty w
    have hb0 : Below w.heap.size w (w.alloc (.cells #[] 5)) := (Below.refl _ w).alloc (Nat.le_refl _) _
    have hB1 := hB.below (Nat.le_refl _) hb0
    have hlf : ([] : List UInt8).length + l.length ≤ 140737488355328 := by simp; omega
    have hsz := hb0.size
    go_enter Tryz.func96, Tryz.ntmps96
    go_wp2_with (at_builtin; refine wpList_ownL rfl _ _ rfl l (some a) cap hown rfl rfl hn hB1 hlf hsz ?_)
    intro v2 w2 hown2 hb2
    go_wp2
    go_ret
    exact ⟨_, rfl, hown2, hb0.trans hb2⟩
theorem join_any (a0 : Option Addr) (fs : List (List UInt8)) (cap : Nat) (w : World) (hl : fs.length ≤ 1000) (hf : fs.flatten.length ≤ 1000000) (hF : FieldsAre a0 fs w) :
    Calls Tryz.prog 135 #[.slice a0 (fs.length : Nat) cap] w (MadeB fs.flatten w) := by
  have hc := concat_any a0 fs cap w hl hf hF
  generalize fs.flatten = l at hc hf ⊢
  have hc := Lib.hid hc
  generalize fs.length = n at hc ⊢
  go_enter Tryz.func135, Tryz.ntmps135
  go_wp2_with (go_at_call 92; refine hc.out.mono ?_)
  rintro e w1 ⟨v1, rfl, hown, hb⟩
  obtain ⟨a1, c1, rfl, h1, h2, h3, h4⟩ := hown.fits
  go_wp2_with (go_at_call 91; refine (clip_any a1 l.length c1 _ h2).mono ?_; rintro e w2 ⟨rfl, rfl⟩)
  go_ret
  exact ⟨a1, l.length, rfl, fun h => by have := h1 h; omega, Nat.le_refl _, by omega, h4, hb⟩
end Go.Proofs.YtcbnefeedoabeaaGreatDoor.Wi
/- Contracts of the package's fold and groups, and of the document's answer for the encoding of a number. -/
namespace Go.Proofs.YtcbnefeedoabeaaGreatDoor.Wi
open Go Go.RowKit

theorem ret_u64 {a b : Int} (h : a = b) : Ending.returned (.int .u64 a) = .returned (.int .u64 b) := by rw [h]
theorem fold_any (n : Int) (w : World) (h0 : -9223372036854775808 ≤ n) (h1 : n ≤ 9223372036854775807) :
    Calls Tryz.prog 156 #[.int .i64 n] w fun e w' => e = .returned (.int .u64 (zz n : Nat)) ∧ w = w' := by
  by_cases hn : n < 0
  · have hT := Lib.hid (twice_neg n h0 hn)
    go_enter Tryz.func156, Tryz.ntmps156
    go_wp2
    go_ret
    exact ⟨ret_u64 hT.out, rfl⟩
  · have hz : n * 2 = (zz n : Nat) := by unfold zz; rw [if_neg hn]; omega
    replace hz := Lib.hid hz
    go_enter Tryz.func156, Tryz.ntmps156
    go_wp2
    go_ret
    exact ⟨ret_u64 hz.out, rfl⟩
/-- What holds while groups are written: what was written and the groups of what is left are L. -/
structure Groups (L : List UInt8) (B : Nat) (w : World) (v : Value) (u : Nat) (wr : World) : Prop where
  lt : u < 18446744073709551616
  fit : L.length ≤ 1000000
  all : ∃ l, Own B v l wr ∧ l ++ grp u = L
  below : Below B w wr
set_option maxHeartbeats 8000000 in
theorem groups_any (n : Int) (w : World) (h0 : -9223372036854775808 ≤ n) (h1 : n ≤ 9223372036854775807) :
    Calls Tryz.prog 136 #[.int .i64 n] w (MadeB (numB n) w) := by
  have hlt := zz_lt n h0 h1
  have hlen := numB_len n h0 h1
  have hst : Groups (numB n) w.heap.size w (.slice none 0 0) (zz n) w := ⟨hlt, by omega, ⟨[], own_nil _ _, rfl⟩, Below.refl _ _⟩
  generalize numB n = L at hst ⊢
  clear hlen
  go_enter Tryz.func136, Tryz.ntmps136
  go_wp2_with (go_at_call 156; refine (fold_any n _ h0 h1).mono ?_; rintro e w1 ⟨rfl, rfl⟩)
  go_loopw [3, 4] (fun v x wr => ∃ u : Nat, x = .int .u64 (u : Nat) ∧ Groups L w.heap.size w v u wr) (fun _ x _ => (intOf x).toNat)
  case atStart => exact ⟨zz n, rfl, hst⟩
  case round =>
    obtain ⟨u, rfl, ⟨hu, hfit, ⟨l, hown, hall⟩, hbl⟩⟩ := hrel
    clear hst hlt h0 h1
    have hsz := hbl.size
    have hll : l.length + (grp u).length ≤ 1000000 := by rw [← List.length_append, hall]; exact hfit
    by_cases hs : u < 128
    · have hs' : ¬ (128 : Int) ≤ (u : Int) := by omega
      obtain ⟨c, rfl⟩ : ∃ c : UInt8, u = c.toNat := ⟨UInt8.ofNat u, (ofNat_toNat (by omega)).symm⟩
      have hgl := grp_pos c.toNat
      rw [grp_small hs, show UInt8.ofNat c.toNat = c from by simp] at hall
      replace hall := Lib.hid hall
      replace hu := Lib.hid hu
      replace hbl := Lib.hid hbl
      go_wp2_with (at_builtin; refine wpList_own1 rfl _ _ rfl c hown rfl rfl ?c1 (by omega) ?_)
      case c1 => omega
      intro v' w2 hown2 hb2
      obtain ⟨a1, c1, rfl, k1, k2, k3, k4⟩ := hown2.fits
      go_wp2
      go_ret
      rw [hall.out] at k2 k4 ⊢
      exact ⟨a1, c1, rfl, k1, k2, k3, k4, hbl.out.trans hb2⟩
    · have hs' : (128 : Int) ≤ (u : Int) := by omega
      obtain ⟨c, hc⟩ : ∃ c, UInt8.ofNat (u % 128 + 128) = c := ⟨_, rfl⟩
      have he : bits .or .u8 ((u : Int) % 256) 128 = (c.toNat : Int) := by
        rw [← hc, ofNat_toNat (by omega), show (u : Int) % 256 = ((u % 256 : Nat) : Int) from by omega, or8 _ (by omega)]
        omega
      rw [grp_big hs, hc, List.append_cons] at hall
      have hgl := grp_pos u
      have hd : (u : Int) / 128 = ((u / 128 : Nat) : Int) := by omega
      have hlt : u / 128 < u := by omega
      replace hall := Lib.hid hall
      replace hu := Lib.hid hu
      replace hbl := Lib.hid hbl
      replace hd := Lib.hid hd
      clear hc
      go_wp2_with (at_builtin; refine wpList_own1 rfl _ _ rfl c hown rfl rfl ?c1 (by omega) ?_)
      case c1 => omega
      intro v' w2 hown2 hb2
      go_wp2
      go_roundw
      case rel => exact ⟨u / 128, by rw [← hd.out], by have := hu.out; omega, hfit, ⟨_, hown2, hall.out⟩, hbl.out.trans hb2⟩
      case measure => simp [intOf]; omega
end Go.Proofs.YtcbnefeedoabeaaGreatDoor.Wi
/- Contracts of the package's and the document's PutNumber, PutBool, PutText. -/
namespace Go.Proofs.YtcbnefeedoabeaaGreatDoor.Wi
open Go Go.RowKit

/-- A slice of bytes: what it holds, and that it is well formed. -/
structure Src (a0 : Option Addr) (l : List UInt8) (cap : Nat) (w : World) : Prop where
  nil : a0 = none → cap = 0
  le : l.length ≤ cap
  bytes : BytesAre a0 l w
theorem Src.below {a : Option Addr} {l : List UInt8} {c : Nat} {w w' : World} {B : Nat} (h : Src a l c w) (hB : w.heap.size ≤ B) (hb : Below B w w') : Src a l c w' := ⟨h.nil, h.le, h.bytes.below hB hb⟩
theorem fields2 {a0 a1 : Option Addr} {l0 l1 : List UInt8} {c0 c1 : Nat} {w : World} (h0 : Src a0 l0 c0 w) (h1 : Src a1 l1 c1 w) :
    FieldsAre (some ⟨w.heap.size, 0, none⟩) [l0, l1] (w.alloc (.cells #[.slice a0 (l0.length : Nat) c0, .slice a1 (l1.length : Nat) c1] 22)) := by
  have hb : Below w.heap.size w (w.alloc (.cells #[.slice a0 (l0.length : Nat) c0, .slice a1 (l1.length : Nat) c1] 22)) := (Below.refl _ w).alloc (Nat.le_refl _) _
  intro i hi
  match i, hi with
  | 0, _ => exact ⟨_, 0, a0, c0, rfl, by simp, by rw [Lib.cell_of_heap (heap_alloc_new w _)]; rfl, h0.nil, h0.le, (h0.below (Nat.le_refl _) hb).bytes⟩
  | 1, _ => exact ⟨_, 0, a1, c1, rfl, by simp, by rw [Lib.cell_of_heap (heap_alloc_new w _)]; rfl, h1.nil, h1.le, (h1.below (Nat.le_refl _) hb).bytes⟩
  | i + 2, hi => exact absurd hi (by simp)
theorem fields3 {a0 a1 a2 : Option Addr} {l0 l1 l2 : List UInt8} {c0 c1 c2 : Nat} {w : World} (h0 : Src a0 l0 c0 w) (h1 : Src a1 l1 c1 w) (h2 : Src a2 l2 c2 w) :
    FieldsAre (some ⟨w.heap.size, 0, none⟩) [l0, l1, l2] (w.alloc (.cells #[.slice a0 (l0.length : Nat) c0, .slice a1 (l1.length : Nat) c1, .slice a2 (l2.length : Nat) c2] 22)) := by
  have hb : Below w.heap.size w (w.alloc (.cells #[.slice a0 (l0.length : Nat) c0, .slice a1 (l1.length : Nat) c1, .slice a2 (l2.length : Nat) c2] 22)) := (Below.refl _ w).alloc (Nat.le_refl _) _
  intro i hi
  match i, hi with
  | 0, _ => exact ⟨_, 0, a0, c0, rfl, by simp, by rw [Lib.cell_of_heap (heap_alloc_new w _)]; rfl, h0.nil, h0.le, (h0.below (Nat.le_refl _) hb).bytes⟩
  | 1, _ => exact ⟨_, 0, a1, c1, rfl, by simp, by rw [Lib.cell_of_heap (heap_alloc_new w _)]; rfl, h1.nil, h1.le, (h1.below (Nat.le_refl _) hb).bytes⟩
  | 2, _ => exact ⟨_, 0, a2, c2, rfl, by simp, by rw [Lib.cell_of_heap (heap_alloc_new w _)]; rfl, h2.nil, h2.le, (h2.below (Nat.le_refl _) hb).bytes⟩
  | i + 3, hi => exact absurd hi (by simp)
/-- The package's join of two rows, called at a row that the call made. -/
theorem join2 {a0 a1 : Option Addr} {l0 l1 : List UInt8} {c0 c1 : Nat} {w : World} (h0 : Src a0 l0 c0 w) (h1 : Src a1 l1 c1 w) (hl : l0.length + l1.length ≤ 1000000) :
    Calls Tryz.prog 135 #[.slice (some ⟨w.heap.size, 0, none⟩) 2 2] (w.alloc (.cells #[.slice a0 (l0.length : Nat) c0, .slice a1 (l1.length : Nat) c1] 22)) (MadeB (l0 ++ l1) w) := by
  have h := join_any (some ⟨w.heap.size, 0, none⟩) [l0, l1] 2 _ (by simp) (by simp; omega) (fields2 h0 h1)
  rw [show [l0, l1].flatten = l0 ++ l1 from by simp] at h
  refine Calls.mono h ?_
  rintro e w' ⟨b1, d1, he, k1, k2, k3, k4, hb⟩
  exact ⟨b1, d1, he, k1, k2, k3, k4, ((Below.refl _ w).alloc (Nat.le_refl _) _).trans (hb.mono (by simp))⟩
theorem join3 {a0 a1 a2 : Option Addr} {l0 l1 l2 : List UInt8} {c0 c1 c2 : Nat} {w : World} (h0 : Src a0 l0 c0 w) (h1 : Src a1 l1 c1 w) (h2 : Src a2 l2 c2 w) (hl : l0.length + l1.length + l2.length ≤ 1000000) :
    Calls Tryz.prog 135 #[.slice (some ⟨w.heap.size, 0, none⟩) 3 3] (w.alloc (.cells #[.slice a0 (l0.length : Nat) c0, .slice a1 (l1.length : Nat) c1, .slice a2 (l2.length : Nat) c2] 22)) (MadeB (l0 ++ (l1 ++ l2)) w) := by
  have h := join_any (some ⟨w.heap.size, 0, none⟩) [l0, l1, l2] 3 _ (by simp) (by simp; omega) (fields3 h0 h1 h2)
  rw [show [l0, l1, l2].flatten = l0 ++ (l1 ++ l2) from by simp] at h
  refine Calls.mono h ?_
  rintro e w' ⟨b1, d1, he, k1, k2, k3, k4, hb⟩
  exact ⟨b1, d1, he, k1, k2, k3, k4, ((Below.refl _ w).alloc (Nat.le_refl _) _).trans (hb.mono (by simp))⟩
theorem MadeB.after {l : List UInt8} {w w1 : World} {e : Ending} {w' : World} (h : MadeB l w1 e w') (hb : Below w.heap.size w w1) : MadeB l w e w' := by
  obtain ⟨b1, d1, he, k1, k2, k3, k4, h⟩ := h
  exact ⟨b1, d1, he, k1, k2, k3, k4, hb.trans (h.mono hb.size)⟩
theorem putNumber_any (a0 : Option Addr) (l : List UInt8) (cap : Nat) (n : Int) (w : World) (hl : l.length ≤ 900000) (hS : Src a0 l cap w) (h0 : -9223372036854775808 ≤ n) (h1 : n ≤ 9223372036854775807) :
    Calls Tryz.prog 90 #[.slice a0 (l.length : Nat) cap, .int .i64 n] w (MadeB (l ++ numB n) w) := by
  have hg := Lib.hid (fun W => groups_any n W h0 h1)
  have hlen := numB_len n h0 h1
  generalize numB n = L at hg hlen ⊢
  clear h0 h1
  go_enter Tryz.func90, Tryz.ntmps90
  go_wp2_with (go_at_call 136; refine (hg.out _).mono ?_)
  rintro e w1 ⟨a1, c1, rfl, k1, k2, k3, k4, hb⟩
  have hj := Lib.hid (join2 (hS.below (Nat.le_refl _) hb) ⟨k1, k2, k4⟩ (by omega))
  go_wp2_with (go_at_call 135; refine hj.out.mono ?_)
  rintro e w2 ⟨b1, d1, rfl, m1, m2, m3, m4, hb2⟩
  go_wp2
  go_ret
  exact ⟨b1, d1, by simp, m1, m2, m3, m4, hb.trans (hb2.mono hb.size)⟩
theorem join2_at {a0 a1 : Option Addr} {l0 l1 : List UInt8} {c0 c1 : Nat} {w : World} (h0 : Src a0 l0 c0 w) (h1 : Src a1 l1 c1 w) (hl : l0.length + l1.length ≤ 1000000) (g : Nat) (hg : g = w.heap.size) (m1 k1 : Nat) (hm : m1 = l1.length) (hk : k1 = c1) :
    Calls Tryz.prog 135 #[.slice (some ⟨g, 0, none⟩) 2 2] (w.alloc (.cells #[.slice a0 (l0.length : Nat) c0, .slice a1 m1 k1] 22)) (MadeB (l0 ++ l1) w) := by
  subst hg hm hk
  exact join2 h0 h1 hl
theorem conv_src (q : ByteArray) (V : World) : ∃ (V1 : World) (cap : Nat), (convert 9 22 (.string q)).run Tryz.prog V = .ok (.slice (some ⟨V.heap.size, 0, none⟩) q.size cap) V1 ∧ Below V.heap.size V V1 ∧ Src (some ⟨V.heap.size, 0, none⟩) q.data.toList cap V1 := by
  refine ⟨Lib.bytesWorld V 5 q, _, Lib.run_convert_string_bytes V 9 22 5 q Tryz.underlying9 Tryz.underlying22 Tryz.underlying5, ?_, ?_⟩
  · exact ⟨rfl, rfl, rfl, by rw [Lib.bytesWorld_size]; omega, fun k hk => Lib.bytesWorld_at_old V _ q k hk⟩
  · refine ⟨by simp, grownCap_ge _ _ _ _, fun i hi => ⟨V.heap.size, 0, rfl, by rw [Lib.bytesWorld_size]; omega, ?_⟩⟩
    have hi2 : i < q.data.size := hi
    rw [Nat.zero_add, Lib.bytesWorld_cell V _ q i hi]
    simp
    rw [Array.getElem?_eq_getElem hi2]
    rfl
set_option maxHeartbeats 4000000 in
theorem putText_any (a0 : Option Addr) (l : List UInt8) (cap : Nat) (s : ByteArray) (w : World) (hl : l.length ≤ 900000) (hs : s.size ≤ 90000) (hS : Src a0 l cap w) :
    Calls Tryz.prog 138 #[.slice a0 (l.length : Nat) cap, .string s] w (MadeB (l ++ textB s) w) := by
  have hg := Lib.hid (fun W => groups_any (s.size : Int) W (by omega) (by omega))
  have hlen := numB_len (s.size : Int) (by omega) (by omega)
  have ht : textB s = numB (s.size : Int) ++ s.data.toList := rfl
  have hsz : s.data.toList.length = s.size := rfl
  rw [ht]
  generalize numB (s.size : Int) = L at hg hlen ⊢
  replace hsz := Lib.hid hsz
  clear ht
  go_enter Tryz.func138, Tryz.ntmps138
  go_wp2_with (go_at_call 136; refine (hg.out _).mono ?_)
  rintro e w1 ⟨a1, c1, rfl, k1, k2, k3, k4, hb⟩
  obtain ⟨V1, c2, hrun, hb1, hs2⟩ := conv_src s w1
  have hk : Src a1 L c1 w1 := ⟨k1, k2, k4⟩
  have hj := Lib.hid (join3 ((hS.below (Nat.le_refl _) hb).below (Nat.le_refl _) hb1) (hk.below (Nat.le_refl _) hb1) hs2 (by rw [hsz.out]; omega))
  rw [hsz.out] at hj
  go_wp2_with (go_at_call 135; refine hj.out.mono ?_)
  rintro e w2 ⟨b1, d1, rfl, m1, m2, m3, m4, hb2⟩
  go_wp2
  go_ret
  exact ⟨b1, d1, by simp, m1, m2, m3, m4, hb.trans ((hb1.trans (hb2.mono hb1.size)).mono hb.size)⟩
end Go.Proofs.YtcbnefeedoabeaaGreatDoor.Wi
/- Contracts of the document's PutNumber, PutBool, PutWord, PutText. -/
namespace Go.Proofs.YtcbnefeedoabeaaGreatDoor.Wi
open Go Go.RowKit

set_option maxHeartbeats 8000000 in
theorem refNumber_any (a0 : Option Addr) (l : List UInt8) (cap : Nat) (n : Int) (w : World) (hl : l.length ≤ 900000) (hS : Src a0 l cap w) (h0 : -9223372036854775808 ≤ n) (h1 : n ≤ 9223372036854775807) :
    Calls Tryz.prog 53 #[.slice a0 (l.length : Nat) cap, .int .i64 n] w (MadeOwn (l ++ numB n) w) := by
  have hlt := zz_lt n h0 h1
  have hlen := numB_len n h0 h1
  have hst : ∀ v wr, Own w.heap.size v l wr → Below w.heap.size w wr → Groups (l ++ numB n) w.heap.size w v (zz n) wr := fun v wr h hb => ⟨hlt, by rw [List.length_append]; omega, ⟨l, h, rfl⟩, hb⟩
  generalize l ++ numB n = L at hst ⊢
  clear hlen
  by_cases hn : n < 0
  · have htw := Lib.hid (twice_neg n h0 hn)
    go_enter Tryz.func53, Tryz.ntmps53
    go_wp2_with (at_builtin; refine wpList_ownL rfl _ _ rfl l a0 cap (own_nil w.heap.size w) rfl rfl hS.nil hS.bytes (by simp; omega) (Nat.le_refl _) ?_)
    intro v w1 hown hb
    have hst1 := hst _ _ hown hb
    clear hst hown hb
    go_wp2
    go_loopw [0, 5] (fun v x wr => ∃ u : Nat, x = .int .u64 (u : Nat) ∧ Groups L w.heap.size w v u wr) (fun _ x _ => (intOf x).toNat)
    case atStart => exact ⟨zz n, by rw [htw.out], hst1⟩
    case round =>
      obtain ⟨u, rfl, ⟨hu, hfit, ⟨k, hown, hall⟩, hbl⟩⟩ := hrel
      clear hst1 hlt h0 h1 hn htw hS hl
      have hsz := hbl.size
      have hll : k.length + (grp u).length ≤ 1000000 := by rw [← List.length_append, hall]; exact hfit
      by_cases hs : u < 128
      · have hs' : (u : Int) ≤ 127 := by omega
        obtain ⟨c, rfl⟩ : ∃ c : UInt8, u = c.toNat := ⟨UInt8.ofNat u, (ofNat_toNat (by omega)).symm⟩
        have hgl := grp_pos c.toNat
        rw [grp_small hs, show UInt8.ofNat c.toNat = c from by simp] at hall
        replace hall := Lib.hid hall
        replace hu := Lib.hid hu
        replace hbl := Lib.hid hbl
        go_wp2_with (at_builtin; refine wpList_own1 rfl _ _ rfl c hown rfl rfl ?c1 (by omega) ?_)
        case c1 => omega
        intro v' w2 hown2 hb2
        rw [hall.out] at hown2
        go_wp2
        go_ret
        exact ⟨_, rfl, hown2, hbl.out.trans hb2⟩
      · have hs' : (127 : Int) < (u : Int) := by omega
        obtain ⟨c, hc⟩ : ∃ c, UInt8.ofNat (u % 128 + 128) = c := ⟨_, rfl⟩
        have ha := and64 u hu
        have he : bits .or .u8 ((u % 128 : Nat) : Int) 128 = (c.toNat : Int) := by
          rw [← hc, ofNat_toNat (by omega), or8 _ (by omega)]
          omega
        have hm : IntKind.u8.wrap ((u % 128 : Nat) : Int) = ((u % 128 : Nat) : Int) := by rw [IntKind.wrap_u8]; omega
        have hm2 : u % 128 < 128 := by omega
        have hd : (u : Int) / 128 = ((u / 128 : Nat) : Int) := by omega
        have hlt : u / 128 < u := by omega
        rw [grp_big hs, hc, List.append_cons] at hall
        have hgl := grp_pos u
        replace hall := Lib.hid hall
        replace hbl := Lib.hid hbl
        replace hd := Lib.hid hd
        replace hu := Lib.hid hu
        clear hc
        generalize u % 128 = r at ha he hm hm2
        go_wp2_with (at_builtin; refine wpList_own1 rfl _ _ rfl c hown rfl rfl ?c1 (by omega) ?_)
        case c1 => omega
        intro v' w2 hown2 hb2
        go_wp2
        go_roundw
        case rel => exact ⟨u / 128, by rw [← hd.out], by have := hu.out; omega, hfit, ⟨_, hown2, hall.out⟩, hbl.out.trans hb2⟩
        case measure => simp [intOf]; omega
  · have htw : n * 2 = (zz n : Nat) := by unfold zz; rw [if_neg hn]; omega
    replace htw := Lib.hid htw
    go_enter Tryz.func53, Tryz.ntmps53
    go_wp2_with (at_builtin; refine wpList_ownL rfl _ _ rfl l a0 cap (own_nil w.heap.size w) rfl rfl hS.nil hS.bytes (by simp; omega) (Nat.le_refl _) ?_)
    intro v w1 hown hb
    have hst1 := hst _ _ hown hb
    clear hst hown hb
    go_wp2
    go_loopw [0, 5] (fun v x wr => ∃ u : Nat, x = .int .u64 (u : Nat) ∧ Groups L w.heap.size w v u wr) (fun _ x _ => (intOf x).toNat)
    case atStart => exact ⟨zz n, by rw [htw.out], hst1⟩
    case round =>
      obtain ⟨u, rfl, ⟨hu, hfit, ⟨k, hown, hall⟩, hbl⟩⟩ := hrel
      clear hst1 hlt h0 h1 hn htw hS hl
      have hsz := hbl.size
      have hll : k.length + (grp u).length ≤ 1000000 := by rw [← List.length_append, hall]; exact hfit
      by_cases hs : u < 128
      · have hs' : (u : Int) ≤ 127 := by omega
        obtain ⟨c, rfl⟩ : ∃ c : UInt8, u = c.toNat := ⟨UInt8.ofNat u, (ofNat_toNat (by omega)).symm⟩
        have hgl := grp_pos c.toNat
        rw [grp_small hs, show UInt8.ofNat c.toNat = c from by simp] at hall
        replace hall := Lib.hid hall
        replace hu := Lib.hid hu
        replace hbl := Lib.hid hbl
        go_wp2_with (at_builtin; refine wpList_own1 rfl _ _ rfl c hown rfl rfl ?c1 (by omega) ?_)
        case c1 => omega
        intro v' w2 hown2 hb2
        rw [hall.out] at hown2
        go_wp2
        go_ret
        exact ⟨_, rfl, hown2, hbl.out.trans hb2⟩
      · have hs' : (127 : Int) < (u : Int) := by omega
        obtain ⟨c, hc⟩ : ∃ c, UInt8.ofNat (u % 128 + 128) = c := ⟨_, rfl⟩
        have ha := and64 u hu
        have he : bits .or .u8 ((u % 128 : Nat) : Int) 128 = (c.toNat : Int) := by
          rw [← hc, ofNat_toNat (by omega), or8 _ (by omega)]
          omega
        have hm : IntKind.u8.wrap ((u % 128 : Nat) : Int) = ((u % 128 : Nat) : Int) := by rw [IntKind.wrap_u8]; omega
        have hm2 : u % 128 < 128 := by omega
        have hd : (u : Int) / 128 = ((u / 128 : Nat) : Int) := by omega
        have hlt : u / 128 < u := by omega
        rw [grp_big hs, hc, List.append_cons] at hall
        have hgl := grp_pos u
        replace hall := Lib.hid hall
        replace hbl := Lib.hid hbl
        replace hd := Lib.hid hd
        replace hu := Lib.hid hu
        clear hc
        generalize u % 128 = r at ha he hm hm2
        go_wp2_with (at_builtin; refine wpList_own1 rfl _ _ rfl c hown rfl rfl ?c1 (by omega) ?_)
        case c1 => omega
        intro v' w2 hown2 hb2
        go_wp2
        go_roundw
        case rel => exact ⟨u / 128, by rw [← hd.out], by have := hu.out; omega, hfit, ⟨_, hown2, hall.out⟩, hbl.out.trans hb2⟩
        case measure => simp [intOf]; omega
set_option maxHeartbeats 4000000 in
theorem refText_any (a0 : Option Addr) (l : List UInt8) (cap : Nat) (s : ByteArray) (w : World) (hl : l.length ≤ 900000) (hs : s.size ≤ 90000) (hS : Src a0 l cap w) :
    Calls Tryz.prog 54 #[.slice a0 (l.length : Nat) cap, .string s] w (MadeOwn (l ++ textB s) w) := by
  have hg := Lib.hid (fun W => refNumber_any a0 l cap (s.size : Int) W hl)
  have hlen := numB_len (s.size : Int) (by omega) (by omega)
  have ht : l ++ textB s = (l ++ numB (s.size : Int)) ++ s.data.toList := by rw [List.append_assoc]; rfl
  have hll : (l ++ numB (s.size : Int)).length ≤ 900010 := by rw [List.length_append]; omega
  rw [ht]
  have hg := Lib.hid (refNumber_any a0 l cap (s.size : Int) w hl hS (by omega) (by omega))
  generalize l ++ numB (s.size : Int) = L at hg hll ⊢
  clear ht hlen
  obtain ⟨i0, hi, hz0, hz1, hz2⟩ := info_parts infoByte
  go_enter Tryz.func54, Tryz.ntmps54
  go_wp2_with (go_at_call 53; refine hg.out.mono ?_)
  rintro e w1 ⟨v1, rfl, hown, hb⟩
  have hsz := hb.size
  go_wp2_with (at_builtin; refine Lib.wpList_append_own_string _ rfl _ _ 22 9 rfl w.heap.size 5 i0 Tryz.underlying22 Tryz.underlying9 hi hz0 hz1 hz2 _ _ _ rfl hown s rfl ?c3 ?c4 ?c5 ?_)
  case c3 => unfold maxLen; omega
  case c4 => omega
  case c5 => exact hsz
  intro v2 w2 hown2 hgrow _
  have hown3 : Own w.heap.size v2 (L ++ s.data.toList) w2 := by
    unfold Own
    rw [Lib.byteCells_append, List.length_append]
    exact hown2
  have hb2 : Below w.heap.size w1 w2 := (Below.refl _ w1).grown hgrow hsz (fun k hk => (World.ownsRow.lt hown k hk).1)
  go_wp2
  go_ret
  exact ⟨_, rfl, hown3, hb.trans hb2⟩
end Go.Proofs.YtcbnefeedoabeaaGreatDoor.Wi
/- Contracts of the package's unfold and readGroups. -/
namespace Go.Proofs.YtcbnefeedoabeaaGreatDoor.Wi
open Go Go.RowKit

theorem ret_i64 {a b : Int} (h : a = b) : Ending.returned (.int .i64 a) = .returned (.int .i64 b) := by rw [h]
theorem unfold_any (u : Nat) (w : World) (hu : u < 18446744073709551616) :
    Calls Tryz.prog 169 #[.int .u64 (u : Nat)] w fun e w' => e = .returned (.int .i64 (unz u)) ∧ w = w' := by
  have hm := and64_1 u hu
  have hd : (u : Int) / 2 = ((u / 2 : Nat) : Int) := by omega
  have hw : IntKind.i64.wrap ((u / 2 : Nat) : Int) = ((u / 2 : Nat) : Int) := by rw [IntKind.wrap_i64]; omega
  have hx := not_int (u / 2) (by omega)
  by_cases hodd : u % 2 = 1
  · have hr : unz u = -((u / 2 : Nat) : Int) - 1 := by unfold unz; rw [if_pos hodd]
    rw [hr]
    rw [hodd] at hm
    generalize u / 2 = h at hd hw hx ⊢
    clear hr
    replace hu := Lib.hid hu
    go_enter Tryz.func169, Tryz.ntmps169
    go_wp2
    go_ret
    exact ⟨rfl, rfl⟩
  · have h0 : u % 2 = 0 := by omega
    have hr : unz u = ((u / 2 : Nat) : Int) := by unfold unz; rw [if_neg hodd]
    rw [hr]
    rw [h0] at hm
    generalize u / 2 = h at hd hw hx ⊢
    clear hr
    replace hu := Lib.hid hu
    go_enter Tryz.func169, Tryz.ntmps169
    go_wp2
    go_ret
    exact ⟨rfl, rfl⟩
set_option maxHeartbeats 8000000 in
theorem readGroups_any (a : Option Addr) (l : List UInt8) (c : Nat) (w : World) (hl : l.length ≤ 1000000) (hB : BytesAre a l w) :
    Calls Tryz.prog 168 #[.slice a (l.length : Nat) c] w fun e w' => e = .returned (.tuple #[.int .u64 ((readG 0 0 l).1 : Nat), .int .i64 ((readG 0 0 l).2.1 : Nat), .int .i64 (readG 0 0 l).2.2]) ∧ w = w' := by
  obtain ⟨U, N, E, hG⟩ : ∃ U N E, readG 0 0 l = (U, N, E) := ⟨_, _, _, rfl⟩
  rw [hG]
  replace hG := Lib.hid hG
  show Calls _ _ _ _ fun e w' => e = .returned (.tuple #[.int .u64 (U : Nat), .int .i64 (N : Nat), .int .i64 E]) ∧ w = w'
  go_enter Tryz.func168, Tryz.ntmps168
  go_wp2
  go_loop [5, 10] (fun u i => ∃ k v : Nat, k ≤ l.length ∧ k ≤ 9 ∧ i = .int .i64 k ∧ u = .int .u64 v ∧ v < 2 ^ (7 * k) ∧ readG k v (l.drop k) = (U, N, E)) (fun _ i => l.length - (intOf i).toNat)
  case atStart => exact ⟨0, 0, Nat.zero_le _, by omega, rfl, rfl, by decide, hG.out⟩
  case round =>
    obtain ⟨k, v, hk, hk9, rfl, rfl, hv, hg⟩ := hrel
    by_cases hlt : k < l.length
    · obtain ⟨b, off, rfl, hbk, hcell⟩ := hB k hlt
      rw [List.drop_eq_getElem_cons hlt] at hg
      simp only [readG] at hg
      have hz := l[k].toNat_lt
      have ha := andNot8 l[k].toNat hz
      generalize l[k].toNat = z at hg hcell hz ha
      have hz' : z < 256 := hz
      clear hz
      have hlt' : (k : Int) < (l.length : Int) := by omega
      by_cases c1 : k = 9 ∧ 1 < z
      · obtain ⟨rfl, hz1⟩ := c1
        rw [if_pos ⟨rfl, hz1⟩] at hg
        simp only [Prod.mk.injEq] at hg
        obtain ⟨rfl, rfl, rfl⟩ := hg
        clear ha hv
        go_wp2
        exact bodyPost_ret (v := .tuple #[.int .u64 0, .int .i64 0, .int .i64 3]) (by simp [results, Tryz.results168, go_sem]) rfl ⟨rfl, rfl⟩
      · rw [if_neg c1] at hg
        by_cases c2 : z = 0 ∧ 0 < k
        · obtain ⟨rfl, hk0⟩ := c2
          rw [if_pos ⟨rfl, hk0⟩] at hg
          simp only [Prod.mk.injEq] at hg
          obtain ⟨rfl, rfl, rfl⟩ := hg
          clear ha hv c1
          go_wp2
          all_goals exact bodyPost_ret (v := .tuple #[.int .u64 0, .int .i64 0, .int .i64 1]) (by simp [results, Tryz.results168, go_sem]) rfl ⟨rfl, rfl⟩
        · rw [if_neg c2] at hg
          have hp1 : 2 ^ (7 * k) ≤ 2 ^ 63 := Nat.pow_le_pow_right (by omega) (by omega)
          have hp2 : k ≠ 9 → 2 ^ (7 * k) ≤ 2 ^ 56 := fun h => Nat.pow_le_pow_right (by omega) (by omega)
          simp only [Nat.reducePow] at hp1 hp2
          have hy : z % 128 * 2 ^ (7 * k) ≤ (if k = 9 then 1 else 127) * 2 ^ (7 * k) := Nat.mul_le_mul_right _ (by split <;> omega)
          have hfit : v + z % 128 * 2 ^ (7 * k) < 18446744073709551616 := by
            by_cases h9 : k = 9
            · subst h9
              simp only [if_true, Nat.reduceMul, Nat.reducePow] at hy hv ⊢
              omega
            · rw [if_neg h9] at hy
              have := hp2 h9
              omega
          have hor := or_sum v (z % 128) (7 * k) hv hfit
          have hy2 : z % 128 < 128 := by omega
          have hw : IntKind.u64.wrap ((z % 128 : Nat) : Int) = ((z % 128 : Nat) : Int) := by rw [IntKind.wrap_u64]; omega
          have hk0 : (k : Int) ≤ 9 := by omega
          by_cases hz1 : z ≤ 1
          · rw [if_pos (by omega : z < 128)] at hg
            simp only [Prod.mk.injEq] at hg
            obtain ⟨hU, rfl, rfl⟩ := hg
            replace hU := Lib.hid hU
            by_cases hz0 : z = 0
            · subst hz0
              obtain rfl : k = 0 := by omega
              obtain rfl : v = 0 := by simpa using hv
              have hcell0 : w.cell? ⟨b, off, none⟩ = some (.int .u8 0) := hcell
              have hlt0 : (0 : Int) < (l.length : Int) := hlt'
              clear hp1 hp2 hy hfit c1 c2 hk9 hy2 hor hw ha hcell hlt' hk0 hv hlt hk hz1 hz'
              rw [show (((0 : Nat) : Int)) = 0 from rfl]
              go_wp2
              refine bodyPost_ret (v := .tuple #[.int .u64 (bits .or .u64 0 (IntKind.u64.wrap (IntKind.u64.wrap (bits .andNot .u8 0 128)))), .int .i64 1, .int .i64 0]) (by simp [results, Tryz.results168, go_sem]) rfl ⟨?_, rfl⟩
              rw [← hU.out]
              rfl
            · obtain rfl : z = 1 := by omega
              obtain ⟨g, hgk⟩ : ∃ g, ((k : Int) == 9) = g := ⟨_, rfl⟩
              have hgd : decide ((k : Int) = 9) = g := by rw [← hgk]; rfl
              rw [show (((1 % 128 : Nat) : Nat) : Int) = 1 from rfl] at hor
              replace hor := Lib.hid hor
              rw [show (((1 : Nat)) : Int) = 1 from rfl] at hcell
              clear hp1 hp2 hy hfit c1 c2 hk9 hy2 hv ha hw hz1 hz0 hz'
              go_wp2
              all_goals
                refine bodyPost_ret (v := .tuple #[.int .u64 (bits .or .u64 (v : Int) (IntKind.u64.wrap (IntKind.u64.wrap (bits .andNot .u8 1 128) * 2 ^ (7 * k)))), .int .i64 ((k : Int) + 1), .int .i64 0]) (by simp [results, Tryz.results168, go_sem]) rfl ⟨?_, rfl⟩
                rw [show IntKind.u64.wrap (bits .andNot .u8 1 128) = 1 from by decide, hor.out, hU.out]
          · have hq1 : ((k : Int) == 9) = false := by simp; omega
            have hq2 : ((z : Int) == 0) = false := by simp; omega
            have h9 : k ≠ 9 := by omega
            by_cases c3 : z < 128
            · rw [if_pos c3] at hg
              have hzz : z % 128 = z := by omega
              rw [hzz] at hor ha hw
              have hz3 : (z : Int) < 128 := by omega
              simp only [Prod.mk.injEq] at hg
              obtain ⟨hU, rfl, rfl⟩ := hg
              rw [hU] at hor
              clear hU hp1 hp2 hy hfit hv c1 c2 hk9 hy2 hzz
              go_wp2
              exact bodyPost_ret (v := .tuple #[.int .u64 (U : Int), .int .i64 ((k : Int) + 1), .int .i64 0]) (by simp [results, Tryz.results168, go_sem]) rfl ⟨rfl, rfl⟩
            · rw [if_neg c3] at hg
              have hzz : z % 128 = z - 128 := by omega
              have hz3 : ¬ (z : Int) < 128 := by omega
              have hv2 : v + (z - 128) * 2 ^ (7 * k) < 2 ^ (7 * (k + 1)) := by
                rw [← hzz]
                rw [if_neg h9] at hy
                rw [show 7 * (k + 1) = 7 + 7 * k from by omega, Nat.pow_add]
                omega
              rw [← hzz] at hg hv2
              generalize z % 128 = y at *
              generalize v + y * 2 ^ (7 * k) = S at *
              clear hp1 hp2 hy hfit hv c1 c2 c3 hzz
              replace hg := Lib.hid hg
              replace hv2 := Lib.hid hv2
              go_wp2
              go_round
              case rel => exact ⟨k + 1, S, by omega, by omega, by go_num, rfl, hv2.out, hg.out⟩
              case measure => simp [intOf]; omega
    · obtain rfl : k = l.length := by omega
      rw [List.drop_of_length_le (Nat.le_refl _)] at hg
      simp only [readG, Prod.mk.injEq] at hg
      obtain ⟨rfl, rfl, rfl⟩ := hg
      go_wp2
      exact bodyPost_ret (v := .tuple #[.int .u64 0, .int .i64 0, .int .i64 16]) (by simp [results, Tryz.results168, go_sem]) rfl ⟨rfl, rfl⟩
end Go.Proofs.YtcbnefeedoabeaaGreatDoor.Wi
/- What a reader of the package holds, and contracts of its Fail, Err, End and take. -/
namespace Go.Proofs.YtcbnefeedoabeaaGreatDoor.Wi
open Go Go.RowKit

theorem _root_.Go.Proofs.YtcbnefeedoabeaaGreatDoor.Kept.drewN {C : Nat} {w w' : World} (h : Kept C w w') (n : Nat) : Kept C w (w'.drewN n) := ⟨h.os, h.tape, h.output, h.size, h.block⟩
/-- Bytes that lie in blocks from lo on and below hi. -/
structure BIn (lo hi : Nat) (a : Option Addr) (l : List UInt8) (w : World) : Prop where
  top : hi ≤ w.heap.size
  at_ : ∀ i (h : i < l.length), ∃ (b off : Nat), a = some ⟨b, off, none⟩ ∧ lo ≤ b ∧ b < hi ∧ w.cell? ⟨b, off + i, none⟩ = some (.int .u8 (l[i].toNat : Int))
theorem BIn.are {lo hi : Nat} {a : Option Addr} {l : List UInt8} {w : World} (h : BIn lo hi a l w) : BytesAre a l w := fun i hi => by
  obtain ⟨b, off, h1, h2, h3, h4⟩ := h.at_ i hi
  exact ⟨b, off, h1, Nat.lt_of_lt_of_le h3 h.top, h4⟩
theorem BIn.kept {lo hi X : Nat} {a : Option Addr} {l : List UInt8} {w w' : World} (h : BIn lo hi a l w) (k : Kept X w w') (hX : X < lo ∨ hi ≤ X) : BIn lo hi a l w' := by
  refine ⟨Nat.le_trans h.top k.size, fun i hi => ?_⟩
  obtain ⟨b, off, h1, h2, h3, h4⟩ := h.at_ i hi
  have hb := Nat.lt_of_lt_of_le h3 h.top
  refine ⟨b, off, h1, h2, h3, ?_⟩
  rw [← h4]
  exact World.cell?_of_block (w := w) (k.block b hb (by omega))
theorem BIn.nil {lo hi : Nat} {a : Option Addr} {w : World} (h : hi ≤ w.heap.size) : BIn lo hi a [] w := ⟨h, fun i hi => by simp at hi⟩
theorem BIn.take {lo hi : Nat} {a : Option Addr} {l : List UInt8} {w : World} (h : BIn lo hi a l w) (n : Nat) : BIn lo hi a (l.take n) w := by
  refine ⟨h.top, fun i hi => ?_⟩
  rw [List.length_take] at hi
  obtain ⟨b, off, h1, h2, h3, h4⟩ := h.at_ i (by omega)
  exact ⟨b, off, h1, h2, h3, by rw [List.getElem_take]; exact h4⟩
theorem BIn.drop {lo hi : Nat} {b off : Nat} {l : List UInt8} {w : World} (h : BIn lo hi (some ⟨b, off, none⟩) l w) (n : Nat) : BIn lo hi (some ⟨b, off + n, none⟩) (l.drop n) w := by
  refine ⟨h.top, fun i hi => ?_⟩
  have hi' : n + i < l.length := by rw [List.length_drop] at hi; omega
  obtain ⟨b', off', h1, h2, h3, h4⟩ := h.at_ (n + i) hi'
  cases h1
  exact ⟨b, off + n, rfl, h2, h3, by rw [show (l.drop n)[i] = l[n + i] from by simp, Nat.add_assoc, h4]⟩
theorem BIn.cut {lo hi : Nat} {b off : Nat} {l : List UInt8} {w : World} (h : BIn lo hi (some ⟨b, off, none⟩) l w) (n c : Nat) (hc : l.length ≤ c) :
    BIn lo hi (if c = n then some ⟨b, off, none⟩ else some ⟨b, off + n, none⟩) (l.drop n) w := by
  by_cases e : c = n
  · rw [List.drop_eq_nil_of_le (by omega)]
    exact BIn.nil h.top
  · rw [if_neg e]
    exact h.drop n
/-- The package's reader in block R: the slice that is left, and the error. -/
structure RdR (a : Option Addr) (c : Nat) (l : List UInt8) (e : Int) (lo R : Nat) (w : World) : Prop where
  here : w.heap[R]? = some (.cells #[.slice a (l.length : Nat) c, .int .i64 e] 134 (0, 0))
  nil : a = none → c = 0
  le : l.length ≤ c
  fit : c ≤ 9223372036854775807
  small : l.length ≤ 1000000
  shape : a = none ∨ ∃ b off, a = some ⟨b, off, none⟩
  bytes : BIn lo R a l w
  err : 0 ≤ e ∧ e ≤ 1000
/-- What is left to read is l, unless there is an error. -/
def Rd (l : List UInt8) (e : Int) (lo R : Nat) (w : World) : Prop := ∃ a c l', RdR a c l' e lo R w ∧ (e = 0 → l' = l)
theorem RdR.lt {a : Option Addr} {c : Nat} {l : List UInt8} {e : Int} {lo R : Nat} {w : World} (h : RdR a c l e lo R w) : R < w.heap.size := (Array.getElem?_eq_some_iff.1 h.here).1
theorem RdR.c0 {a : Option Addr} {c : Nat} {l : List UInt8} {e : Int} {lo R : Nat} {w : World} (h : RdR a c l e lo R w) : w.cell? ⟨R, 0, none⟩ = some (.slice a (l.length : Nat) c) := by rw [Lib.cell_of_heap h.here]; rfl
theorem RdR.c1 {a : Option Addr} {c : Nat} {l : List UInt8} {e : Int} {lo R : Nat} {w : World} (h : RdR a c l e lo R w) : w.cell? ⟨R, 1, none⟩ = some (.int .i64 e) := by rw [Lib.cell_of_heap h.here]; rfl
theorem RdR.f {a : Option Addr} {c : Nat} {l : List UInt8} {e : Int} {lo R : Nat} {w : World} (h : RdR a c l e lo R w) (i : Nat) : w.frozen? ⟨R, i, none⟩ = false := Lib.frozen_of_heap h.here i
theorem RdR.kept {a : Option Addr} {c : Nat} {l : List UInt8} {e : Int} {lo R X : Nat} {w w' : World} (h : RdR a c l e lo R w) (k : Kept X w w') (hX : X < lo ∨ R < X) (hR : lo ≤ R) : RdR a c l e lo R w' :=
  ⟨(k.block R h.lt (by omega)).trans h.here, h.nil, h.le, h.fit, h.small, h.shape, h.bytes.kept k (by omega), h.err⟩
theorem Rd.kept {l : List UInt8} {e : Int} {lo R X : Nat} {w w' : World} (h : Rd l e lo R w) (k : Kept X w w') (hX : X < lo ∨ R < X) (hR : lo ≤ R) : Rd l e lo R w' := by
  obtain ⟨a, c, l', h, hl⟩ := h
  exact ⟨a, c, l', h.kept k hX hR, hl⟩
theorem Rd.lt {l : List UInt8} {e : Int} {lo R : Nat} {w : World} (h : Rd l e lo R w) : R < w.heap.size := by
  obtain ⟨a, c, l', h, hl⟩ := h
  exact h.lt
theorem RdR.setErr {a : Option Addr} {c : Nat} {l : List UInt8} {e : Int} {lo R : Nat} {w : World} (h : RdR a c l e lo R w) (x : Int) (hx : 0 ≤ x ∧ x ≤ 1000) : RdR a c l x lo R (w.setCell ⟨R, 1, none⟩ (.int .i64 x)) := by
  refine ⟨?_, h.nil, h.le, h.fit, h.small, h.shape, h.bytes.kept ((Kept.refl R w).setCell 1 _) (.inr (Nat.le_refl _)), hx⟩
  show (w.heap.modify R _)[R]? = _
  rw [Array.getElem?_modify, if_pos rfl, h.here]
  rfl
theorem RdR.setRest {a : Option Addr} {c : Nat} {l : List UInt8} {e : Int} {lo R : Nat} {w : World} (h : RdR a c l e lo R w) (a2 : Option Addr) (l2 : List UInt8) (c2 : Nat) (hn : a2 = none → c2 = 0) (h1 : l2.length ≤ c2) (h2 : c2 ≤ c) (h3 : l2.length ≤ l.length) (hs : a2 = none ∨ ∃ b off, a2 = some ⟨b, off, none⟩) (hb : BIn lo R a2 l2 w) :
    RdR a2 c2 l2 e lo R (w.setCell ⟨R, 0, none⟩ (.slice a2 (l2.length : Nat) c2)) := by
  refine ⟨?_, hn, h1, by have := h.fit; omega, by have := h.small; omega, hs, hb.kept ((Kept.refl R w).setCell 0 _) (.inr (Nat.le_refl _)), h.err⟩
  show (w.heap.modify R _)[R]? = _
  rw [Array.getElem?_modify, if_pos rfl, h.here]
  rfl
theorem failR_err {a : Option Addr} {c : Nat} {l : List UInt8} {e : Int} {lo R : Nat} {w : World} (x : Int) (h : RdR a c l e lo R w) (he : e ≠ 0) :
    Calls Tryz.prog 159 #[.pointer (some ⟨R, 0, none⟩), .int .i64 x] w fun en w' => en = .returned (.tuple #[]) ∧ w = w' := by
  have c1 := h.c1
  have hb : (e == 0) = false := by simp [he]
  clear h
  go_enter Tryz.func159, Tryz.ntmps159
  go_wp2
  go_end0
  exact ⟨rfl, rfl⟩
theorem failR_ok {a : Option Addr} {c : Nat} {l : List UInt8} {lo R : Nat} {w : World} (x : Int) (hx : 0 ≤ x ∧ x ≤ 1000) (h : RdR a c l 0 lo R w) :
    Calls Tryz.prog 159 #[.pointer (some ⟨R, 0, none⟩), .int .i64 x] w fun en w' => en = .returned (.tuple #[]) ∧ Kept R w w' ∧ RdR a c l x lo R w' := by
  have c1 := h.c1
  have hf := h.f
  have hs := h.setErr x hx
  replace h := Lib.hid h
  go_enter Tryz.func159, Tryz.ntmps159
  go_wp2
  go_end0
  exact ⟨rfl, (Kept.refl R w).setCell 1 _, hs⟩
def endR (l : List UInt8) (e : Int) : Int := if e = 0 ∧ 0 < l.length then 17 else e
theorem end_any {l : List UInt8} {e : Int} {lo R : Nat} {w : World} (h : Rd l e lo R w) :
    Calls Tryz.prog 59 #[.pointer (some ⟨R, 0, none⟩)] w fun en w' => en = .returned (.int .i64 (endR l e)) ∧ w = w' := by
  obtain ⟨a, c, l', h, hl⟩ := h
  have c0 := h.c0
  have c1 := h.c1
  clear h
  by_cases he : e = 0
  · subst he
    obtain rfl := hl rfl
    by_cases h0 : 0 < l'.length
    · have hr : endR l' 0 = 17 := if_pos ⟨rfl, h0⟩
      rw [hr]
      have h1 : (0 : Int) < (l'.length : Int) := by omega
      clear hr hl
      go_enter Tryz.func59, Tryz.ntmps59
      go_wp2
      go_ret
      exact ⟨rfl, rfl⟩
    · have hr : endR l' 0 = 0 := if_neg (fun h => h0 h.2)
      rw [hr]
      have h1 : ¬ (0 : Int) < (l'.length : Int) := by omega
      clear hr hl
      go_enter Tryz.func59, Tryz.ntmps59
      go_wp2
      go_ret
      exact ⟨rfl, rfl⟩
  · have hr : endR l e = e := if_neg (fun h => he h.1)
    rw [hr]
    have hb : (e == 0) = false := by simp [he]
    clear hr hl
    go_enter Tryz.func59, Tryz.ntmps59
    go_wp2
    go_ret
    exact ⟨rfl, rfl⟩
end Go.Proofs.YtcbnefeedoabeaaGreatDoor.Wi
/- Contracts of the package's reader: Number, take, atMost, Count, Text, Bool. -/
namespace Go.Proofs.YtcbnefeedoabeaaGreatDoor.Wi
open Go Go.RowKit

/-- What a read of a number returns, what is left then, and the error. -/
def numR (l : List UInt8) (e : Int) : Int × List UInt8 × Int :=
  if e = 0 then (if (readG 0 0 l).2.2 = 0 then (unz (readG 0 0 l).1, l.drop (readG 0 0 l).2.1, 0) else (0, l, (readG 0 0 l).2.2)) else (0, l, e)
def takeR (n : Nat) (l : List UInt8) (e : Int) : List UInt8 × List UInt8 × Int :=
  if e = 0 then (if n ≤ l.length then (l.take n, l.drop n, 0) else ([], l, 16)) else ([], l, e)
def atR (most x : Int) (l : List UInt8) (e : Int) : Nat × List UInt8 × Int :=
  if (numR l e).2.2 = 0 then (if (numR l e).1 < 0 then (0, (numR l e).2.1, 3) else if most < (numR l e).1 then (0, (numR l e).2.1, x) else ((numR l e).1.toNat, (numR l e).2.1, 0)) else (0, (numR l e).2.1, (numR l e).2.2)
def textR (most : Int) (l : List UInt8) (e : Int) : ByteArray × List UInt8 × Int :=
  (⟨(takeR (atR most 4 l e).1 (atR most 4 l e).2.1 (atR most 4 l e).2.2).1.toArray⟩, (takeR (atR most 4 l e).1 (atR most 4 l e).2.1 (atR most 4 l e).2.2).2)
def boolR (l : List UInt8) (e : Int) : Bool × List UInt8 × Int :=
  if (takeR 1 l e).2.2 = 0 then (if 1 < ((takeR 1 l e).1.getD 0 0).toNat then (false, (takeR 1 l e).2.1, 1) else (((takeR 1 l e).1.getD 0 0).toNat == 1, (takeR 1 l e).2)) else (false, (takeR 1 l e).2)
/-- Bytes as a number, the most significant one first. -/
def beN (l : List UInt8) : Nat := l.foldl (fun v x => v * 256 + x.toNat) 0
def wordR (l : List UInt8) (e : Int) : Nat × List UInt8 × Int := (beN (takeR 8 l e).1, (takeR 8 l e).2)
def failR (x : Int) (e : Int) : Int := if e = 0 then x else e
/-- What a read leaves: the error, and what is left to read if there is none. -/
theorem RdR.rd {a : Option Addr} {c : Nat} {l : List UInt8} {e : Int} {lo R : Nat} {w : World} (h : RdR a c l e lo R w) : Rd l e lo R w := ⟨a, c, l, h, fun _ => rfl⟩
theorem RdR.rd' {a : Option Addr} {c : Nat} {l l' : List UInt8} {e : Int} {lo R : Nat} {w : World} (h : RdR a c l e lo R w) (he : e ≠ 0) : Rd l' e lo R w := ⟨a, c, l, h, fun h => absurd h he⟩
/-- The slice from place n on. -/
def cutA (a : Option Addr) (c n : Nat) : Option Addr := match a with
  | some ⟨b, off, none⟩ => if c = n then some ⟨b, off, none⟩ else some ⟨b, off + n, none⟩
  | _ => a
theorem RdR.head {a : Option Addr} {c : Nat} {l : List UInt8} {e : Int} {lo R : Nat} {w : World} (h : RdR a c l e lo R w) (n : Nat) (hn : n ≤ l.length) :
    RdR (cutA a c n) (c - n) (l.drop n) e lo R (w.setCell ⟨R, 0, none⟩ (.slice (cutA a c n) ((l.drop n).length : Nat) (c - n))) := by
  have hle := h.le
  rcases h.shape with rfl | ⟨b, off, rfl⟩
  · have hc := h.nil rfl
    refine h.setRest _ _ _ (fun _ => by omega) (by rw [List.length_drop]; omega) (by omega) (by rw [List.length_drop]; omega) (.inl rfl) ?_
    rw [List.drop_eq_nil_of_le (by omega)]
    exact BIn.nil h.bytes.top
  · have hs : ∃ b' off', cutA (some ⟨b, off, none⟩) c n = some ⟨b', off', none⟩ := by
      unfold cutA
      simp only
      split
      · exact ⟨_, _, rfl⟩
      · exact ⟨_, _, rfl⟩
    refine h.setRest _ _ _ (fun hx => by obtain ⟨_, _, hs⟩ := hs; rw [hs] at hx; cases hx) (by rw [List.length_drop]; omega) (by omega) (by rw [List.length_drop]; omega) (.inr hs) ?_
    exact h.bytes.cut n c hle
theorem RdR.ways {b off c n m : Nat} {l : List UInt8} {e : Int} {lo R : Nat} {w : World} (h : RdR (cutA (some ⟨b, off, none⟩) c n) (c - n) l e lo R (w.setCell ⟨R, 0, none⟩ (.slice (cutA (some ⟨b, off, none⟩) c n) m (c - n)))) :
    (c = n → Rd l e lo R (w.setCell ⟨R, 0, none⟩ (.slice (some ⟨b, off, none⟩) m 0))) ∧ (¬ c = n → Rd l e lo R (w.setCell ⟨R, 0, none⟩ (.slice (some ⟨b, off + n, none⟩) m (c - n)))) := by
  constructor
  · rintro rfl
    have e1 : cutA (some ⟨b, off, none⟩) c c = some ⟨b, off, none⟩ := if_pos rfl
    rw [e1, Nat.sub_self] at h
    exact h.rd
  · intro hn
    have e1 : cutA (some ⟨b, off, none⟩) c n = some ⟨b, off + n, none⟩ := if_neg hn
    rw [e1] at h
    exact h.rd
set_option maxHeartbeats 8000000 in
theorem number_ok {a : Option Addr} {c : Nat} {l : List UInt8} {lo R : Nat} {w : World} (h : RdR a c l 0 lo R w) (v n : Nat) (hg : readG 0 0 l = (v, n, 0)) :
    Calls Tryz.prog 158 #[.pointer (some ⟨R, 0, none⟩)] w fun en w' => en = .returned (.int .i64 (unz v)) ∧ Kept R w w' ∧ Rd (l.drop n) 0 lo R w' := by
  have hfit := readG_fits l 0 0 (by omega) (by decide)
  rw [hg] at hfit
  have hv : v < 18446744073709551616 ∧ 0 < n ∧ n ≤ l.length := by
    rcases hfit with ⟨e, he, h0⟩ | ⟨v', n', h1, h2, h3, h4⟩
    · injection h0 with h1 h2
      injection h2 with h3 h4
      omega
    · injection h1 with h5 h6
      injection h6 with h7 h8
      subst h5 h7
      exact ⟨h2, h3, by omega⟩
  obtain ⟨hv, hn0, hnl⟩ := hv
  have hG := readGroups_any a l c w h.small h.bytes.are
  rw [hg] at hG
  have hU := Lib.hid (fun W => unfold_any v W hv)
  have hd := h.head n hnl
  rw [List.length_drop] at hd
  have c0 := h.c0
  have c1 := h.c1
  have hf := h.f
  have hle := h.le
  obtain ⟨b, off, rfl⟩ : ∃ b off, a = some ⟨b, off, none⟩ := by
    rcases h.shape with rfl | hs
    · have := h.nil rfl
      omega
    · exact hs
  obtain ⟨m, hm⟩ : ∃ m, l.length = m := ⟨_, rfl⟩
  rw [hm] at hG c0 hd hle hnl
  obtain ⟨hdA, hdB⟩ := hd.ways
  have hnl' : (n : Int) ≤ (m : Int) := by omega
  clear hd hfit h hv hg hm
  replace hG := Lib.hid hG
  replace hdA := Lib.hid hdA
  replace hdB := Lib.hid hdB
  go_enter Tryz.func158, Tryz.ntmps158
  go_wp2_with (first | (go_at_call 168; refine hG.out.mono ?_; rintro e w1 ⟨rfl, rfl⟩) | (go_at_call 169; refine (hU.out _).mono ?_; rintro e w1 ⟨rfl, rfl⟩))
  all_goals
    go_ret
    first
      | exact ⟨rfl, (Kept.refl R _).setCell 0 _, hdA.out ‹_›⟩
      | exact ⟨rfl, (Kept.refl R _).setCell 0 _, hdB.out ‹_›⟩
set_option maxHeartbeats 8000000 in
theorem number_bad {a : Option Addr} {c : Nat} {l : List UInt8} {lo R : Nat} {w : World} (h : RdR a c l 0 lo R w) (x : Int) (hx : x = 16 ∨ x = 3 ∨ x = 1) (hg : readG 0 0 l = (0, 0, x)) :
    Calls Tryz.prog 158 #[.pointer (some ⟨R, 0, none⟩)] w fun en w' => en = .returned (.int .i64 0) ∧ Kept R w w' ∧ RdR a c l x lo R w' := by
  have hG := readGroups_any a l c w h.small h.bytes.are
  rw [hg] at hG
  have hF := Lib.hid (failR_ok x (by omega) h)
  have c0 := h.c0
  have c1 := h.c1
  have hb : (x == 0) = false := by rcases hx with rfl | rfl | rfl <;> rfl
  clear h hg hx
  replace hG := Lib.hid hG
  go_enter Tryz.func158, Tryz.ntmps158
  go_wp2_with (first | (go_at_call 168; refine hG.out.mono ?_; rintro e w1 ⟨rfl, rfl⟩) | (go_at_call 159; refine hF.out.mono ?_; rintro e w1 ⟨rfl, hk, hr⟩))
  go_ret
  exact ⟨rfl, hk, hr⟩
set_option maxHeartbeats 4000000 in
theorem number_any {l : List UInt8} {e : Int} {lo R : Nat} {w : World} (h : Rd l e lo R w) :
    Calls Tryz.prog 158 #[.pointer (some ⟨R, 0, none⟩)] w fun en w' => en = .returned (.int .i64 (numR l e).1) ∧ Kept R w w' ∧ Rd (numR l e).2.1 (numR l e).2.2 lo R w' := by
  obtain ⟨a, c, l', h, hl⟩ := h
  by_cases he : e = 0
  · subst he
    obtain rfl := hl rfl
    rcases readG_fits l' 0 0 (by omega) (by decide) with ⟨x, hx, hg⟩ | ⟨v, n, hg, _⟩
    · have hx0 : x ≠ 0 := by omega
      have hr : numR l' 0 = (0, l', x) := by unfold numR; rw [if_pos rfl, hg, if_neg hx0]
      rw [hr]
      exact (number_bad h x hx hg).mono fun _ _ ⟨h1, h2, h3⟩ => ⟨h1, h2, h3.rd⟩
    · have hr : numR l' 0 = (unz v, l'.drop n, 0) := by unfold numR; rw [if_pos rfl, hg, if_pos rfl]
      rw [hr]
      exact number_ok h v n hg
  · have hr : numR l e = (0, l, e) := if_neg he
    rw [hr]
    have hb : (e == 0) = false := by simp [he]
    have c1 := h.c1
    replace h := Lib.hid h
    replace hl := Lib.hid hl
    clear hr
    go_enter Tryz.func158, Tryz.ntmps158
    go_wp2
    go_ret
    exact ⟨rfl, Kept.refl _ _, a, c, l', h.out, hl.out⟩
/-- What take returns and leaves. -/
def Taken (n : Nat) (l : List UInt8) (e : Int) (lo R : Nat) (w : World) (en : Ending) (w' : World) : Prop :=
  ∃ (a : Option Addr) (c : Nat), en = .returned (.slice a ((takeR n l e).1.length : Nat) c) ∧ BIn lo R a (takeR n l e).1 w' ∧ (takeR n l e).1.length ≤ c ∧ Kept R w w' ∧ Rd (takeR n l e).2.1 (takeR n l e).2.2 lo R w'
set_option maxHeartbeats 8000000 in
theorem take_ok {a : Option Addr} {c : Nat} {l : List UInt8} {lo R : Nat} {w : World} (h : RdR a c l 0 lo R w) (n : Nat) (hn : n ≤ l.length) :
    Calls Tryz.prog 141 #[.pointer (some ⟨R, 0, none⟩), .int .i64 (n : Nat)] w (Taken n l 0 lo R w) := by
  have hr : takeR n l 0 = (l.take n, l.drop n, 0) := by unfold takeR; rw [if_pos rfl, if_pos hn]
  unfold Taken
  rw [hr]
  have hd := h.head n hn
  rw [List.length_drop] at hd
  have c0 := h.c0
  have c1 := h.c1
  have hf := h.f
  have hle := h.le
  have hfit := h.fit
  have htl : (l.take n).length = n := by rw [List.length_take]; omega
  have hbt := (h.bytes.take n).kept (X := R) (w' := w.setCell ⟨R, 0, none⟩ (.slice (cutA a c n) ((l.length - n : Nat) : Nat) (c - n))) ((Kept.refl R w).setCell 0 _) (.inr (Nat.le_refl _))
  have hrd := hd.rd
  obtain ⟨m, hm⟩ : ∃ m, l.length = m := ⟨_, rfl⟩
  rw [hm] at hd hrd c0 hle hn hbt
  rcases h.shape with rfl | ⟨b, off, rfl⟩
  · have hc := h.nil rfl
    obtain rfl : c = 0 := hc
    obtain rfl : m = 0 := by omega
    obtain rfl : n = 0 := by omega
    rw [htl]
    clear hd hm h hle hn hfit htl
    replace hbt := Lib.hid hbt
    replace hrd := Lib.hid hrd
    show Calls _ _ #[_, .int .i64 0] _ _
    go_enter Tryz.func141, Tryz.ntmps141
    go_wp2
    go_ret
    exact ⟨none, 0, rfl, hbt.out, by simp, (Kept.refl R _).setCell 0 _, hrd.out⟩
  · obtain ⟨hdA, hdB⟩ := hd.ways
    have hnm : (n : Int) ≤ (m : Int) := by omega
    have hnc : (n : Int) ≤ (c : Int) := by omega
    have hnc2 : n ≤ c := by omega
    have hnm2 : n ≤ m := hn
    have hbA : c = n → BIn lo R (some ⟨b, off, none⟩) (l.take n) (w.setCell ⟨R, 0, none⟩ (.slice (some ⟨b, off, none⟩) (m - n) 0)) := fun e => (h.bytes.take n).kept (X := R) ((Kept.refl R w).setCell 0 _) (.inr (Nat.le_refl _))
    have hbB : ¬ c = n → BIn lo R (some ⟨b, off, none⟩) (l.take n) (w.setCell ⟨R, 0, none⟩ (.slice (some ⟨b, off + n, none⟩) (m - n) (c - n))) := fun e => (h.bytes.take n).kept (X := R) ((Kept.refl R w).setCell 0 _) (.inr (Nat.le_refl _))
    rw [htl]
    clear hd hrd hbt hm h htl
    replace hdA := Lib.hid hdA
    replace hdB := Lib.hid hdB
    replace hbA := Lib.hid hbA
    replace hbB := Lib.hid hbB
    replace hfit := Lib.hid hfit
    go_enter Tryz.func141, Tryz.ntmps141
    go_wp2
    all_goals
      go_ret
      first
        | exact ⟨_, _, rfl, hbA.out ‹_›, by omega, (Kept.refl R _).setCell 0 _, hdA.out ‹_›⟩
        | exact ⟨_, _, rfl, hbB.out ‹_›, by omega, (Kept.refl R _).setCell 0 _, hdB.out ‹_›⟩
theorem take_any {l : List UInt8} {e : Int} {lo R : Nat} {w : World} (n : Nat) (h : Rd l e lo R w) :
    Calls Tryz.prog 141 #[.pointer (some ⟨R, 0, none⟩), .int .i64 (n : Nat)] w (Taken n l e lo R w) := by
  obtain ⟨a, c, l', h, hl⟩ := h
  by_cases he : e = 0
  · subst he
    obtain rfl := hl rfl
    by_cases hn : n ≤ l'.length
    · exact take_ok h n hn
    · have hr : takeR n l' 0 = ([], l', 16) := by unfold takeR; rw [if_pos rfl, if_neg hn]
      unfold Taken
      rw [hr]
      have hF := failR_ok 16 (by omega) h
      have c0 := h.c0
      have c1 := h.c1
      have hb : ∀ w', Kept R w w' → BIn lo R none [] w' := fun w' k => BIn.nil (Nat.le_trans (Nat.le_of_lt h.lt) k.size)
      have hn' : (l'.length : Int) < (n : Int) := by omega
      replace hF := Lib.hid hF
      replace hb := Lib.hid hb
      clear h hr hl hn
      go_enter Tryz.func141, Tryz.ntmps141
      go_wp2_with (go_at_call 159; refine hF.out.mono ?_; rintro e w1 ⟨rfl, hk, hr⟩)
      go_ret
      exact ⟨none, 0, rfl, hb.out _ hk, by simp, hk, hr.rd⟩
  · have hr : takeR n l e = ([], l, e) := if_neg he
    unfold Taken
    rw [hr]
    have hb : (e == 0) = false := by simp [he]
    have c1 := h.c1
    have hb2 : BIn lo R none [] w := BIn.nil (Nat.le_of_lt h.lt)
    replace h := Lib.hid h
    replace hl := Lib.hid hl
    replace hb2 := Lib.hid hb2
    clear hr
    go_enter Tryz.func141, Tryz.ntmps141
    go_wp2
    go_ret
    exact ⟨none, 0, rfl, hb2.out, by simp, Kept.refl _ _, a, c, l', h.out, hl.out⟩
end Go.Proofs.YtcbnefeedoabeaaGreatDoor.Wi
/- Contracts of the package's reader: atMost, Count, Text, Bool, Word. -/
namespace Go.Proofs.YtcbnefeedoabeaaGreatDoor.Wi
open Go Go.RowKit

/-- What a read returns and leaves. -/
def Done (v : Value) (l : List UInt8) (e : Int) (lo R : Nat) (w : World) (en : Ending) (w' : World) : Prop := en = .returned v ∧ Kept R w w' ∧ Rd l e lo R w'
theorem failR_any {l : List UInt8} {e : Int} {lo R : Nat} {w : World} (x : Int) (hx : 0 ≤ x ∧ x ≤ 1000) (h : Rd l e lo R w) :
    Calls Tryz.prog 159 #[.pointer (some ⟨R, 0, none⟩), .int .i64 x] w (Done (.tuple #[]) l (failR x e) lo R w) := by
  obtain ⟨a, c, l', h, hl⟩ := h
  by_cases he : e = 0
  · subst he
    obtain rfl := hl rfl
    exact (failR_ok x hx h).mono fun _ _ ⟨h1, h2, h3⟩ => ⟨h1, h2, h3.rd⟩
  · rw [show failR x e = e from if_neg he]
    exact (failR_err x h he).mono fun _ _ ⟨h1, h2⟩ => ⟨h1, h2 ▸ Kept.refl _ _, a, c, l', h2 ▸ h, hl⟩
theorem numR_range (l : List UInt8) (e : Int) : -9223372036854775808 ≤ (numR l e).1 ∧ (numR l e).1 ≤ 9223372036854775807 := by
  unfold numR
  rcases readG_fits l 0 0 (by omega) (by decide) with ⟨x, hx, hg⟩ | ⟨v, n, hg, hv, _⟩
  · rw [hg]
    split
    · split
      · rename_i h1 h2
        exfalso
        simp at h2
        omega
      · simp
    · simp
  · rw [hg]
    split
    · exact unz_range v hv
    · simp
theorem numR_err (l : List UInt8) (e : Int) (h : (numR l e).2.2 ≠ 0) : (numR l e).1 = 0 := by
  unfold numR at h ⊢
  split
  · split
    · rename_i h1 h2
      rw [if_pos h1, if_pos h2] at h
      exact absurd rfl h
    · rfl
  · rfl
set_option maxHeartbeats 8000000 in
theorem atMost_any {l : List UInt8} {e : Int} {lo R : Nat} {w : World} (most x : Int) (hx : 0 ≤ x ∧ x ≤ 1000) (h : Rd l e lo R w) :
    Calls Tryz.prog 140 #[.pointer (some ⟨R, 0, none⟩), .int .i64 most, .int .i64 x] w (Done (.int .i64 ((atR most x l e).1 : Nat)) (atR most x l e).2.1 (atR most x l e).2.2 lo R w) := by
  have hn := number_any h
  have hr := numR_range l e
  have hz := numR_err l e
  have hA : atR most x l e = if (numR l e).2.2 = 0 then (if (numR l e).1 < 0 then (0, (numR l e).2.1, 3) else if most < (numR l e).1 then (0, (numR l e).2.1, x) else ((numR l e).1.toNat, (numR l e).2.1, 0)) else (0, (numR l e).2.1, (numR l e).2.2) := rfl
  generalize (numR l e).1 = n at hn hr hz hA
  generalize (numR l e).2.1 = l1 at hn hA
  generalize (numR l e).2.2 = e1 at hn hz hA
  clear h
  by_cases h1 : n < 0
  · have he : e1 = 0 := by
      by_cases he : e1 = 0
      · exact he
      · have := hz he
        omega
    rw [if_pos he, if_pos h1] at hA
    rw [hA]
    subst he
    have hF := fun w' (h : Rd l1 0 lo R w') => failR_any 3 (by omega) h
    clear hA hz hr
    replace hn := Lib.hid hn
    replace hF := Lib.hid hF
    go_enter Tryz.func140, Tryz.ntmps140
    go_wp2_with (first | (go_at_call 158; refine hn.out.mono ?_; rintro en w1 ⟨rfl, hk, hrd⟩) | (go_at_call 159; refine (hF.out _ hrd).mono ?_; rintro en w2 ⟨rfl, hk2, hrd2⟩))
    go_ret
    exact ⟨rfl, hk.trans hk2, hrd2⟩
  · by_cases h2 : most < n
    · have hA2 : atR most x l e = (0, l1, failR x e1) := by
        rw [hA]
        unfold failR
        split
        · first | rfl | rw [if_neg h1, if_pos h2]
        · rfl
      rw [hA2]
      have hF := fun w' (h : Rd l1 e1 lo R w') => failR_any x hx h
      clear hA hA2 hz hr
      replace hn := Lib.hid hn
      replace hF := Lib.hid hF
      go_enter Tryz.func140, Tryz.ntmps140
      go_wp2_with (first | (go_at_call 158; refine hn.out.mono ?_; rintro en w1 ⟨rfl, hk, hrd⟩) | (go_at_call 159; refine (hF.out _ hrd).mono ?_; rintro en w2 ⟨rfl, hk2, hrd2⟩))
      go_ret
      exact ⟨rfl, hk.trans hk2, hrd2⟩
    · have hA2 : atR most x l e = (n.toNat, l1, e1) := by
        rw [hA]
        split
        · rename_i he
          first | rw [if_neg h1, if_neg h2, he] | rw [he]
        · rename_i he
          rw [hz he]
          rfl
      rw [hA2]
      obtain ⟨m, rfl⟩ : ∃ m : Nat, n = (m : Int) := ⟨n.toNat, by omega⟩
      rw [Int.toNat_natCast]
      clear hA hA2 hz hr
      replace hn := Lib.hid hn
      go_enter Tryz.func140, Tryz.ntmps140
      go_wp2_with (go_at_call 158; refine hn.out.mono ?_; rintro en w1 ⟨rfl, hk, hrd⟩)
      go_ret
      exact ⟨rfl, hk, hrd⟩
theorem count_any {l : List UInt8} {e : Int} {lo R : Nat} {w : World} (most : Int) (h : Rd l e lo R w) :
    Calls Tryz.prog 97 #[.pointer (some ⟨R, 0, none⟩), .int .i64 most] w (Done (.int .i64 ((atR most 5 l e).1 : Nat)) (atR most 5 l e).2.1 (atR most 5 l e).2.2 lo R w) := by
  have hA := Lib.hid (atMost_any most 5 (by omega) h)
  generalize atR most 5 l e = t at hA ⊢
  clear h
  go_enter Tryz.func97, Tryz.ntmps97
  go_wp2_with (go_at_call 140; refine hA.out.mono ?_; rintro en w1 ⟨rfl, hk, hrd⟩)
  go_ret
  exact ⟨rfl, hk, hrd⟩
theorem BIn.string {lo hi : Nat} {a : Option Addr} {l : List UInt8} {w : World} (h : BIn lo hi a l w) (c : Nat) :
    (convert 22 9 (.slice a (l.length : Nat) c)).run Tryz.prog w = .ok (.string ⟨l.toArray⟩) w := by
  cases l with
  | nil =>
    show (convert 22 9 (.slice a 0 c)).run Tryz.prog w = _
    cases a with
    | none =>
      rw [run_convert_bytes_string w _ _ _ none 0 c Tryz.underlying22 Tryz.underlying5 Tryz.underlying9]
      simp [Conv.bytesToString]
      rfl
    | some p => exact run_convert_bytes_back w _ _ _ p c [] Tryz.underlying22 Tryz.underlying5 Tryz.underlying9 fun j hj => by simp at hj
  | cons x t =>
    obtain ⟨b, off, rfl, _⟩ := h.at_ 0 (by simp)
    refine run_convert_bytes_back w _ _ _ ⟨b, off, none⟩ c (x :: t) Tryz.underlying22 Tryz.underlying5 Tryz.underlying9 fun j hj => ?_
    obtain ⟨b', off', he, _, _, hc⟩ := h.at_ j hj
    cases he
    rw [add_off]
    exact hc
/-- What take returns and leaves, in parts. -/
def TakenA (L l2 : List UInt8) (e2 : Int) (lo R : Nat) (w : World) (en : Ending) (w' : World) : Prop :=
  ∃ (a : Option Addr) (c : Nat), en = .returned (.slice a (L.length : Nat) c) ∧ BIn lo R a L w' ∧ L.length ≤ c ∧ Kept R w w' ∧ Rd l2 e2 lo R w'
theorem takeA {l : List UInt8} {e : Int} {lo R : Nat} {w : World} (n : Nat) (h : Rd l e lo R w) {L l2 : List UInt8} {e2 : Int} (ht : takeR n l e = (L, l2, e2)) :
    Calls Tryz.prog 141 #[.pointer (some ⟨R, 0, none⟩), .int .i64 (n : Nat)] w (TakenA L l2 e2 lo R w) := by
  have := take_any n h
  unfold Taken at this
  rw [ht] at this
  exact this
set_option maxHeartbeats 4000000 in
theorem text_any {l : List UInt8} {e : Int} {lo R : Nat} {w : World} (most : Int) (h : Rd l e lo R w) :
    Calls Tryz.prog 99 #[.pointer (some ⟨R, 0, none⟩), .int .i64 most] w (Done (.string (textR most l e).1) (textR most l e).2.1 (textR most l e).2.2 lo R w) := by
  have hA := atMost_any most 4 (by omega) h
  obtain ⟨n, l1, e1, hx⟩ : ∃ n l1 e1, atR most 4 l e = (n, l1, e1) := ⟨_, _, _, rfl⟩
  obtain ⟨L, l2, e2, ht⟩ : ∃ L l2 e2, takeR n l1 e1 = (L, l2, e2) := ⟨_, _, _, rfl⟩
  have hr : textR most l e = (⟨L.toArray⟩, l2, e2) := by
    unfold textR
    rw [hx]
    simp only []
    rw [ht]
  rw [hr]
  rw [hx] at hA
  have hT := Lib.hid (fun w' (h' : Rd l1 e1 lo R w') => takeA n h' ht)
  clear h hr hx ht
  replace hA := Lib.hid hA
  go_enter Tryz.func99, Tryz.ntmps99
  go_wp2_with (go_at_call 140; refine hA.out.mono ?_)
  rintro en w1 ⟨rfl, hk, hrd⟩
  go_wp2_with (go_at_call 141; refine (hT.out _ hrd).mono ?_)
  rintro en w2 ⟨a, c, rfl, hbi, hc, hk2, hrd2⟩
  have hs := hbi.string c
  go_wp2
  go_ret
  exact ⟨rfl, hk.trans hk2, hrd2⟩
end Go.Proofs.YtcbnefeedoabeaaGreatDoor.Wi
/- Contracts of the package's and of the document's New. -/
namespace Go.Proofs.YtcbnefeedoabeaaGreatDoor.Wi
open Go Go.RowKit

theorem _root_.Go.Proofs.YtcbnefeedoabeaaGreatDoor.Own.bin {B : Nat} {v : Value} {l : List UInt8} {w : World} (h : Own B v l w) : ∃ (a1 : Option Addr) (c1 : Nat), v = .slice a1 l.length c1 ∧ (a1 = none → c1 = 0) ∧ l.length ≤ c1 ∧ c1 ≤ 9223372036854775807 ∧ (a1 = none ∨ ∃ b off, a1 = some ⟨b, off, none⟩) ∧ BIn B w.heap.size a1 l w := by
  obtain ⟨a1, c1, rfl, h1, h2, h3, h4⟩ := h.fits
  rcases h.2 with ⟨hv, h0⟩ | ⟨g, cap, cur, hv, hB, hg, _, hc, _⟩
  · injection hv with e1 e2 e3
    subst e1 e3
    obtain rfl : l = [] := List.length_eq_zero_iff.1 h0
    exact ⟨none, 0, rfl, h1, h2, h3, .inl rfl, BIn.nil (Nat.le_refl _)⟩
  · injection hv with e1 e2 e3
    subst e1
    refine ⟨_, c1, rfl, h1, h2, h3, .inr ⟨g, 0, rfl⟩, Nat.le_refl _, fun i hi => ?_⟩
    obtain ⟨b, off, k1, k2, k3⟩ := h4 i hi
    refine ⟨b, off, k1, ?_, k2, k3⟩
    injection k1 with k1
    injection k1 with k1
    omega
/-- What New returns. -/
def NewA (l : List UInt8) (w : World) (en : Ending) (w' : World) : Prop := ∃ R, en = .returned (.pointer (some ⟨R, 0, none⟩)) ∧ w.heap.size ≤ R ∧ Rd l 0 w.heap.size R w' ∧ Below w.heap.size w w'
set_option maxHeartbeats 4000000 in
theorem new_any {a0 : Option Addr} {l : List UInt8} {cap : Nat} {w : World} (hl : l.length ≤ 1000000) (hS : Src a0 l cap w) :
    Calls Tryz.prog 56 #[.slice a0 (l.length : Nat) cap] w (NewA l w) := by
  have hC := Lib.hid (clone_own a0 l cap w hl hS.nil hS.bytes)
  go_enter Tryz.func56, Tryz.ntmps56
  go_wp2_with (go_at_call 96; refine hC.out.mono ?_)
  rintro en w1 ⟨v, rfl, hown, hb⟩
  obtain ⟨a1, c1, rfl, h1, h2, h3, h4, h5⟩ := hown.bin
  have hb2 : Below w1.heap.size w1 (w1.alloc (.cells #[.slice a1 (l.length : Nat) c1, .int .i64 0] 134)) := (Below.refl _ _).alloc (Nat.le_refl _) _
  have hR : RdR a1 c1 l 0 w.heap.size w1.heap.size (w1.alloc (.cells #[.slice a1 (l.length : Nat) c1, .int .i64 0] 134)) :=
    ⟨heap_alloc_new w1 _, h1, h2, h3, hl, h4, h5.kept (X := w1.heap.size) (Kept.of_below hb2) (.inr (Nat.le_refl _)), by omega⟩
  have hrd := hR.rd
  replace h5 := Lib.hid h5
  replace hrd := Lib.hid hrd
  clear hR
  go_wp2
  go_ret
  exact ⟨_, rfl, hb.size, hrd.out, hb.trans (hb2.mono hb.size)⟩
/-- The document's reader in block Q: all bytes, how many are read, the error. -/
structure RqR (a : Option Addr) (c : Nat) (b : List UInt8) (at_ : Nat) (e : Int) (hi Q : Nat) (w : World) : Prop where
  here : w.heap[Q]? = some (.cells #[.slice a (b.length : Nat) c, .int .i64 (at_ : Nat), .int .i64 e] 139 (0, 0))
  le : b.length ≤ c
  small : b.length ≤ 1000000
  at_le : at_ ≤ b.length
  bytes : BIn 0 hi a b w
  hiQ : hi ≤ Q
  err : 0 ≤ e ∧ e ≤ 1000
def Rq (l : List UInt8) (e : Int) (hi Q : Nat) (w : World) : Prop := ∃ a c b at_, RqR a c b at_ e hi Q w ∧ (e = 0 → b.drop at_ = l)
theorem RqR.lt {a : Option Addr} {c : Nat} {b : List UInt8} {at_ : Nat} {e : Int} {hi Q : Nat} {w : World} (h : RqR a c b at_ e hi Q w) : Q < w.heap.size := (Array.getElem?_eq_some_iff.1 h.here).1
theorem RqR.c0 {a : Option Addr} {c : Nat} {b : List UInt8} {at_ : Nat} {e : Int} {hi Q : Nat} {w : World} (h : RqR a c b at_ e hi Q w) : w.cell? ⟨Q, 0, none⟩ = some (.slice a (b.length : Nat) c) := by rw [Lib.cell_of_heap h.here]; rfl
theorem RqR.c1 {a : Option Addr} {c : Nat} {b : List UInt8} {at_ : Nat} {e : Int} {hi Q : Nat} {w : World} (h : RqR a c b at_ e hi Q w) : w.cell? ⟨Q, 1, none⟩ = some (.int .i64 (at_ : Nat)) := by rw [Lib.cell_of_heap h.here]; rfl
theorem RqR.c2 {a : Option Addr} {c : Nat} {b : List UInt8} {at_ : Nat} {e : Int} {hi Q : Nat} {w : World} (h : RqR a c b at_ e hi Q w) : w.cell? ⟨Q, 2, none⟩ = some (.int .i64 e) := by rw [Lib.cell_of_heap h.here]; rfl
theorem RqR.f {a : Option Addr} {c : Nat} {b : List UInt8} {at_ : Nat} {e : Int} {hi Q : Nat} {w : World} (h : RqR a c b at_ e hi Q w) (i : Nat) : w.frozen? ⟨Q, i, none⟩ = false := Lib.frozen_of_heap h.here i
theorem RqR.kept {a : Option Addr} {c : Nat} {b : List UInt8} {at_ : Nat} {e : Int} {hi Q X : Nat} {w w' : World} (h : RqR a c b at_ e hi Q w) (k : Kept X w w') (hX : hi ≤ X) (hQ : X ≠ Q) : RqR a c b at_ e hi Q w' :=
  ⟨(k.block Q h.lt (fun e => hQ e.symm)).trans h.here, h.le, h.small, h.at_le, h.bytes.kept k (.inr hX), h.hiQ, h.err⟩
theorem Rq.kept {l : List UInt8} {e : Int} {hi Q X : Nat} {w w' : World} (h : Rq l e hi Q w) (k : Kept X w w') (hX : hi ≤ X) (hQ : X ≠ Q) : Rq l e hi Q w' := by
  obtain ⟨a, c, b, i, h, hl⟩ := h
  exact ⟨a, c, b, i, h.kept k hX hQ, hl⟩
theorem RqR.drew {a : Option Addr} {c : Nat} {b : List UInt8} {at_ : Nat} {e : Int} {hi Q : Nat} {w : World} (h : RqR a c b at_ e hi Q w) : RqR a c b at_ e hi Q w.drew :=
  ⟨h.here, h.le, h.small, h.at_le, ⟨h.bytes.top, h.bytes.at_⟩, h.hiQ, h.err⟩
theorem RqR.setErr {a : Option Addr} {c : Nat} {b : List UInt8} {at_ : Nat} {e : Int} {hi Q : Nat} {w : World} (h : RqR a c b at_ e hi Q w) (x : Int) (hx : 0 ≤ x ∧ x ≤ 1000) : RqR a c b at_ x hi Q (w.setCell ⟨Q, 2, none⟩ (.int .i64 x)) := by
  refine ⟨?_, h.le, h.small, h.at_le, h.bytes.kept ((Kept.refl Q w).setCell 2 _) (.inr h.hiQ), h.hiQ, hx⟩
  show (w.heap.modify Q _)[Q]? = _
  rw [Array.getElem?_modify, if_pos rfl, h.here]
  rfl
theorem RqR.setAt {a : Option Addr} {c : Nat} {b : List UInt8} {at_ : Nat} {e : Int} {hi Q : Nat} {w : World} (h : RqR a c b at_ e hi Q w) (n : Nat) (hn : n ≤ b.length) : RqR a c b n e hi Q (w.setCell ⟨Q, 1, none⟩ (.int .i64 (n : Nat))) := by
  refine ⟨?_, h.le, h.small, hn, h.bytes.kept ((Kept.refl Q w).setCell 1 _) (.inr h.hiQ), h.hiQ, h.err⟩
  show (w.heap.modify Q _)[Q]? = _
  rw [Array.getElem?_modify, if_pos rfl, h.here]
  rfl
theorem RqR.rq {a : Option Addr} {c : Nat} {b : List UInt8} {at_ : Nat} {e : Int} {hi Q : Nat} {w : World} (h : RqR a c b at_ e hi Q w) : Rq (b.drop at_) e hi Q w := ⟨a, c, b, at_, h, fun _ => rfl⟩
theorem RqR.rq' {a : Option Addr} {c : Nat} {b l : List UInt8} {at_ : Nat} {e : Int} {hi Q : Nat} {w : World} (h : RqR a c b at_ e hi Q w) (he : e ≠ 0) : Rq l e hi Q w := ⟨a, c, b, at_, h, fun h => absurd h he⟩
def NewQ (l : List UInt8) (hi : Nat) (w : World) (en : Ending) (w' : World) : Prop := en = .returned (.pointer (some ⟨w.heap.size, 0, none⟩)) ∧ Rq l 0 hi w.heap.size w' ∧ Below w.heap.size w w'
theorem refNew_any {a0 : Option Addr} {l : List UInt8} {cap hi : Nat} {w : World} (hl : l.length ≤ 1000000) (hc : l.length ≤ cap) (hB : BIn 0 hi a0 l w) :
    Calls Tryz.prog 60 #[.slice a0 (l.length : Nat) cap] w (NewQ l hi w) := by
  have hb2 : Below w.heap.size w (w.alloc (.cells #[.slice a0 (l.length : Nat) cap, .int .i64 0, .int .i64 0] 139)) := (Below.refl _ _).alloc (Nat.le_refl _) _
  have hR : RqR a0 cap l 0 0 hi w.heap.size (w.alloc (.cells #[.slice a0 (l.length : Nat) cap, .int .i64 0, .int .i64 0] 139)) :=
    ⟨heap_alloc_new w _, hc, hl, Nat.zero_le _, hB.kept (X := w.heap.size) (Kept.of_below hb2) (.inr hB.top), hB.top, by omega⟩
  have hrd := Lib.hid hR.rq
  clear hR
  go_enter Tryz.func60, Tryz.ntmps60
  go_wp2
  go_ret
  exact ⟨rfl, hrd.out, hb2⟩
end Go.Proofs.YtcbnefeedoabeaaGreatDoor.Wi
/- Contracts of the document's reader: Fail and Number. -/
namespace Go.Proofs.YtcbnefeedoabeaaGreatDoor.Wi
open Go Go.RowKit

theorem failQ_err {a : Option Addr} {c : Nat} {b : List UInt8} {at_ : Nat} {e : Int} {hi Q : Nat} {w : World} (x : Int) (h : RqR a c b at_ e hi Q w) (he : e ≠ 0) :
    Calls Tryz.prog 103 #[.pointer (some ⟨Q, 0, none⟩), .int .i64 x] w fun en w' => en = .returned (.tuple #[]) ∧ w = w' := by
  have c2 := h.c2
  have hb : (e == 0) = false := by simp [he]
  clear h
  go_enter Tryz.func103, Tryz.ntmps103
  go_wp2
  go_end0
  exact ⟨rfl, rfl⟩
theorem failQ_ok {a : Option Addr} {c : Nat} {b : List UInt8} {at_ : Nat} {hi Q : Nat} {w : World} (x : Int) (hx : 0 ≤ x ∧ x ≤ 1000) (h : RqR a c b at_ 0 hi Q w) :
    Calls Tryz.prog 103 #[.pointer (some ⟨Q, 0, none⟩), .int .i64 x] w fun en w' => en = .returned (.tuple #[]) ∧ Kept Q w w' ∧ RqR a c b at_ x hi Q w' := by
  have c2 := h.c2
  have hf := h.f
  have hs := h.setErr x hx
  replace h := Lib.hid h
  go_enter Tryz.func103, Tryz.ntmps103
  go_wp2
  go_end0
  exact ⟨rfl, (Kept.refl Q w).setCell 2 _, hs⟩
/-- What a read by the document's reader returns and leaves. -/
def DoneQ (v : Value) (l : List UInt8) (e : Int) (hi Q : Nat) (w : World) (en : Ending) (w' : World) : Prop := en = .returned v ∧ Kept Q w w' ∧ Rq l e hi Q w'
theorem failQ_any {l : List UInt8} {e : Int} {hi Q : Nat} {w : World} (x : Int) (hx : 0 ≤ x ∧ x ≤ 1000) (h : Rq l e hi Q w) :
    Calls Tryz.prog 103 #[.pointer (some ⟨Q, 0, none⟩), .int .i64 x] w (DoneQ (.tuple #[]) l (failR x e) hi Q w) := by
  obtain ⟨a, c, b, i, h, hl⟩ := h
  by_cases he : e = 0
  · subst he
    obtain rfl := hl rfl
    exact (failQ_ok x hx h).mono fun _ _ ⟨h1, h2, h3⟩ => ⟨h1, h2, h3.rq⟩
  · rw [show failR x e = e from if_neg he]
    exact (failQ_err x h he).mono fun _ _ ⟨h1, h2⟩ => ⟨h1, h2 ▸ Kept.refl _ _, a, c, b, i, h2 ▸ h, hl⟩
theorem BIn.cell {lo hi : Nat} {a : Option Addr} {l : List UInt8} {w : World} (h : BIn lo hi a l w) (i : Nat) (hi : i < l.length) : ∃ b off, a = some ⟨b, off, none⟩ ∧ w.cell? ⟨b, off + i, none⟩ = some (.int .u8 (l[i].toNat : Int)) := by
  obtain ⟨b, off, h1, _, _, h2⟩ := h.at_ i hi
  exact ⟨b, off, h1, h2⟩
/-- What holds at the head of the loop of Number. -/
structure Numb (a : Option Addr) (c : Nat) (b : List UInt8) (at_ hi Q : Nat) (w : World) (T : Nat × Nat × Int) (k v : Nat) (wr : World) : Prop where
  rd : RqR a c b at_ 0 hi Q wr
  kept : Kept Q w wr
  le : at_ + k ≤ b.length
  nine : k ≤ 9
  lt : v < 2 ^ (7 * k)
  eq : readG k v (b.drop (at_ + k)) = T
def NumbAt (a : Option Addr) (c : Nat) (b : List UInt8) (at_ hi Q : Nat) (w : World) (T : Nat × Nat × Int) (u i : Value) (wr : World) : Prop := ∃ k v : Nat, i = .int .i64 k ∧ u = .int .u64 v ∧ Numb a c b at_ hi Q w T k v wr
set_option maxHeartbeats 8000000 in
set_option maxRecDepth 100000 in
theorem refNumber_run {a : Option Addr} {c : Nat} {b : List UInt8} {at_ : Nat} {hi Q : Nat} {w : World} (h : RqR a c b at_ 0 hi Q w) (U N : Nat) (E : Int) (hT : readG 0 0 (b.drop at_) = (U, N, E)) :
    Calls Tryz.prog 102 #[.pointer (some ⟨Q, 0, none⟩)] w fun en w' => en = .returned (.int .i64 (if E = 0 then unz U else 0)) ∧ Kept Q w w' ∧ RqR a c b (if E = 0 then at_ + N else at_) E hi Q w' := by
  have hst : Numb a c b at_ hi Q w (U, N, E) 0 0 w := ⟨h, Kept.refl _ _, h.at_le, by omega, by decide, hT⟩
  clear h hT
  obtain ⟨V, hV⟩ : ∃ V, (if E = 0 then unz U else 0) = V := ⟨_, rfl⟩
  obtain ⟨A, hA⟩ : ∃ A, (if E = 0 then at_ + N else at_) = A := ⟨_, rfl⟩
  rw [hV, hA]
  replace hV := Lib.hid hV
  replace hA := Lib.hid hA
  go_enter Tryz.func102, Tryz.ntmps102
  go_wp2
  go_loopw [3, 4] (fun u i wr => NumbAt a c b at_ hi Q w (U, N, E) u i wr) (fun _ i _ => b.length - (intOf i).toNat)
  case atStart => exact ⟨0, 0, rfl, rfl, hst⟩
  case round =>
    obtain ⟨k, v, rfl, rfl, hr, hk, hle, hk9, hv, hg⟩ := hrel
    clear hst
    have c0 := hr.c0
    have c1 := hr.c1
    have c2 := hr.c2
    have hsm := hr.small
    by_cases hlt : at_ + k < b.length
    · have hlt' : (at_ : Int) + (k : Int) < (b.length : Int) := by omega
      rw [List.drop_eq_getElem_cons hlt] at hg
      simp only [readG] at hg
      obtain ⟨bb, off, hab, hcell⟩ := hr.bytes.cell (at_ + k) hlt
      subst hab
      have hz := b[at_ + k].toNat_lt
      have ha := and8 b[at_ + k].toNat hz
      have hdr := hr.drew
      have hkd := hk.drew
      obtain ⟨m, hm⟩ : ∃ m, b.length = m := ⟨_, rfl⟩
      have hdr2 := hdr.drew
      have hcell2 : wr.drew.drew.cell? ⟨bb, off + (at_ + k), none⟩ = some (.int .u8 (b[at_ + k].toNat : Int)) := hcell
      have hcell1 : wr.drew.cell? ⟨bb, off + (at_ + k), none⟩ = some (.int .u8 (b[at_ + k].toNat : Int)) := hcell
      generalize b[at_ + k].toNat = z at hg hcell1 hcell2 hz ha
      have hz' : z < 256 := hz
      clear hcell hz
      rw [hm] at c0 hlt' hsm hlt
      replace hr := Lib.hid hr
      replace hg := Lib.hid hg
      replace hv := Lib.hid hv
      go_upto_region 5 with (fail)
      go_region
      all_goals
        have d0 := hdr.c0
        have d1 := hdr.c1
        rw [hm] at d0
        have e0 := hdr2.c0
        have e1 := hdr2.c1
        have e2 := hdr2.c2
        have ef := hdr2.f
        rw [hm] at e0
        replace hdr := Lib.hid hdr
        replace hdr2 := Lib.hid hdr2
        replace hm := Lib.hid hm
        go_upto_region 8 with (fail)
        go_region
        all_goals
          have hkx : Kept Q w wr.drew.drew := hkd.drew
          generalize wr.drew.drew = wx at e0 e1 e2 ef hdr2 hkx ⊢
          replace hg := hg.out
          replace hv := hv.out
          clear c0 c1 c2 d0 d1 hcell1 hcell2 hk hkd hdr hr
          have hF := Lib.hid (fun (x : Int) (hx : 0 ≤ x ∧ x ≤ 1000) => failQ_ok x hx hdr2.out)
          by_cases c1 : k = 9 ∧ 1 < z
          · obtain ⟨rfl, hz1⟩ := c1
            rw [if_pos ⟨rfl, hz1⟩] at hg
            simp only [Prod.mk.injEq] at hg
            obtain ⟨rfl, rfl, rfl⟩ := hg
            clear ha hv
            go_wp2_with (go_at_call 103; refine (hF.out 3 (by omega)).mono ?_; rintro en w1 ⟨rfl, hk1, hr1⟩)
            go_ret
            exact ⟨by rw [← hV.out]; rfl, hkx.trans hk1, by rw [← hA.out]; exact hr1⟩
          · rw [if_neg c1] at hg
            have hp1 : 2 ^ (7 * k) ≤ 2 ^ 63 := Nat.pow_le_pow_right (by omega) (by omega)
            have hp2 : k ≠ 9 → 2 ^ (7 * k) ≤ 2 ^ 56 := fun h => Nat.pow_le_pow_right (by omega) (by omega)
            simp only [Nat.reducePow] at hp1 hp2
            have hy : z % 128 * 2 ^ (7 * k) ≤ (if k = 9 then 1 else 127) * 2 ^ (7 * k) := Nat.mul_le_mul_right _ (by split <;> omega)
            have hfit : v + z % 128 * 2 ^ (7 * k) < 18446744073709551616 := by
              by_cases h9 : k = 9
              · subst h9
                simp only [if_true, Nat.reduceMul, Nat.reducePow] at hy hv ⊢
                omega
              · rw [if_neg h9] at hy
                have := hp2 h9
                omega
            have hor := or_sum v (z % 128) (7 * k) hv hfit
            have hw : IntKind.u64.wrap ((z % 128 : Nat) : Int) = ((z % 128 : Nat) : Int) := by rw [IntKind.wrap_u64]; omega
            have hy2 : z % 128 < 128 := by omega
            have hk0 : (k : Int) ≤ 9 := by omega
            by_cases c2 : z = 0 ∧ 0 < k
            · obtain ⟨rfl, hk0⟩ := c2
              rw [if_pos ⟨rfl, hk0⟩] at hg
              simp only [Prod.mk.injEq] at hg
              obtain ⟨rfl, rfl, rfl⟩ := hg
              obtain ⟨g, hgk⟩ : ∃ g, ((k : Int) == 9) = g := ⟨_, rfl⟩
              have hgd : decide ((k : Int) = 9) = g := by rw [← hgk]; rfl
              have hk1 : (0 : Int) < (k : Int) := by omega
              clear hv hp1 hp2 hy hfit c1 hy2 hor hw ha
              go_wp2_with (go_at_call 103; refine (hF.out 1 (by omega)).mono ?_; rintro en w1 ⟨rfl, hkk, hr1⟩)
              all_goals
                go_ret
                exact ⟨by rw [← hV.out]; rfl, hkx.trans hkk, by rw [← hA.out]; exact hr1⟩
            · rw [if_neg c2] at hg
              by_cases c3 : z < 128
              · rw [if_pos c3] at hg
                simp only [Prod.mk.injEq] at hg
                obtain ⟨hU, rfl, rfl⟩ := hg
                by_cases hz0 : z = 0
                · subst hz0
                  obtain rfl : k = 0 := by omega
                  obtain rfl : v = 0 := by simpa using hv
                  obtain rfl : U = 0 := by simpa using hU.symm
                  have hset := hdr2.out.setAt (at_ + 1) (by have := hm.out; omega)
                  have hA2 : at_ + 1 = A := by rw [← hA.out, if_pos rfl]
                  have hV2 : (0 : Int) = V := by rw [← hV.out, if_pos rfl]; rfl
                  rw [show ((at_ + 1 : Nat) : Int) = (at_ : Int) + 1 from by omega, hA2] at hset
                  have hor0 : bits .or .u64 0 (IntKind.u64.wrap (IntKind.u64.wrap (bits .and .u8 0 127))) = 0 := by decide
                  have hand0 : bits .and .u64 0 1 = 0 := by decide
                  rw [show (((0 : Nat)) : Int) = 0 from rfl]
                  clear hor ha hw hp1 hp2 hy hv c1 c2 c3 hU hfit hA2 hz' hy2
                  replace hset := Lib.hid hset
                  replace hV2 := Lib.hid hV2
                  go_wp2
                  go_ret
                  exact ⟨ret_i64 hV2.out, hkx.setCell 1 _, hset.out⟩
                have hzz : z % 128 = z := by omega
                rw [hzz] at hor ha hw hfit
                rw [hU] at hor hfit
                have hz3 : ¬ (127 : Int) < (z : Int) := by omega
                have hset := hdr2.out.setAt (at_ + (k + 1)) (by have := hm.out; omega)
                rw [show ((at_ + (k + 1) : Nat) : Int) = (at_ : Int) + ((k : Int) + 1) from by omega] at hset
                have hm1 := and64_1 U hfit
                have hd : (U : Int) / 2 = ((U / 2 : Nat) : Int) := by omega
                have hn := not_word (U / 2) (by omega)
                have hw1 : IntKind.i64.wrap ((18446744073709551615 - U / 2 : Nat) : Int) = -((U / 2 : Nat) : Int) - 1 := by rw [IntKind.wrap_i64]; omega
                have hw2 : IntKind.i64.wrap ((U / 2 : Nat) : Int) = ((U / 2 : Nat) : Int) := by rw [IntKind.wrap_i64]; omega
                have hres : (U % 2 = 1 ∧ -((U / 2 : Nat) : Int) - 1 = V) ∨ (U % 2 = 0 ∧ ((U / 2 : Nat) : Int) = V) := by
                  rw [← hV.out, if_pos rfl]
                  unfold unz
                  split
                  · exact .inl ⟨by assumption, rfl⟩
                  · exact .inr ⟨by omega, rfl⟩
                have hzc : z = 1 ∨ (1 < z ∧ k ≠ 9) := by omega
                have hA2 : at_ + (k + 1) = A := by rw [← hA.out, if_pos rfl]
                rw [hA2] at hset
                generalize 18446744073709551615 - U / 2 = q at hn hw1
                generalize U / 2 = h at hd hn hw1 hw2 hres
                generalize U % 2 = p at hm1 hres
                replace hw1 : wrap64 (q : Int) = -(h : Int) - 1 := by rw [IntKind.wrap_i64] at hw1; unfold wrap64; omega
                replace hset := Lib.hid hset
                obtain ⟨s, hs⟩ : ∃ s, 7 * k = s := ⟨_, rfl⟩
                have h7 : 7 * (k : Int) = (s : Int) := by omega
                have hs63 : s ≤ 63 := by omega
                rw [hs] at hor
                clear hp1 hp2 hy hv c1 c2 c3 hzz hU hfit hA2
                rcases hzc with rfl | ⟨hz1, hk99⟩
                · obtain ⟨g, hgk⟩ : ∃ g, ((k : Int) == 9) = g := ⟨_, rfl⟩
                  have hgd : decide ((k : Int) = 9) = g := by rw [← hgk]; rfl
                  have horX : bits .or .u64 (v : Int) (IntKind.u64.wrap (IntKind.u64.wrap (bits .and .u8 1 127) * 2 ^ s)) = (U : Int) := by
                    rw [show bits .and .u8 1 127 = 1 from by decide, show IntKind.u64.wrap 1 = 1 from by decide]
                    exact hor
                  clear hor ha hw hz' hz3 hy2 hz0
                  rcases hres with ⟨rfl, hr⟩ | ⟨rfl, hr⟩
                  · replace hr := Lib.hid hr
                    go_wp2
                    all_goals
                      go_ret
                      exact ⟨ret_i64 hr.out, hkx.setCell 1 _, hset.out⟩
                  · replace hr := Lib.hid hr
                    go_wp2
                    all_goals
                      go_ret
                      exact ⟨ret_i64 hr.out, hkx.setCell 1 _, hset.out⟩
                · have hq1 : ((k : Int) == 9) = false := by simp; omega
                  have hq2 : ((z : Int) == 0) = false := by simp; omega
                  rcases hres with ⟨rfl, hr⟩ | ⟨rfl, hr⟩
                  · replace hr := Lib.hid hr
                    go_wp2
                    go_ret
                    exact ⟨ret_i64 hr.out, hkx.setCell 1 _, hset.out⟩
                  · replace hr := Lib.hid hr
                    go_wp2
                    go_ret
                    exact ⟨ret_i64 hr.out, hkx.setCell 1 _, hset.out⟩
              · rw [if_neg c3] at hg
                have hzz : z % 128 = z - 128 := by omega
                have h9 : k ≠ 9 := by omega
                have hv2 : v + (z - 128) * 2 ^ (7 * k) < 2 ^ (7 * (k + 1)) := by
                  rw [← hzz]
                  rw [if_neg h9] at hy
                  rw [show 7 * (k + 1) = 7 + 7 * k from by omega, Nat.pow_add]
                  omega
                rw [← hzz] at hg hv2
                have hq1 : ((k : Int) == 9) = false := by simp; omega
                have hz3 : (127 : Int) < (z : Int) := by omega
                have hnx0 : ∀ S, S = v + z % 128 * 2 ^ (7 * k) → Numb (some ⟨bb, off, none⟩) c b at_ hi Q w (U, N, E) (k + 1) S wx := fun S e => ⟨hdr2.out, hkx, by have := hm.out; omega, by omega, by rw [e]; exact hv2, by rw [e]; exact hg⟩
                obtain ⟨S, hS⟩ : ∃ S, v + z % 128 * 2 ^ (7 * k) = S := ⟨_, rfl⟩
                rw [hS] at hor
                have hnx := Lib.hid (hnx0 S hS.symm)
                have hms : b.length - (k + 1) < b.length - k := by have := hm.out; omega
                generalize z % 128 = y at ha hor hw hy2
                obtain ⟨s, hs⟩ : ∃ s, 7 * k = s := ⟨_, rfl⟩
                have h7 : 7 * (k : Int) = (s : Int) := by omega
                have hs63 : s ≤ 63 := by omega
                rw [hs] at hor
                clear hp1 hp2 hy hfit hv c1 c2 c3 hzz hv2 hg hS hnx0 hs hk9 hk0 h9
                replace hms := Lib.hid hms
                go_wp2
                go_roundw
                case rel => exact ⟨k + 1, S, by go_num, rfl, hnx.out⟩
                case measure => have := hms.out; simp [intOf]; omega
    · have hF := fun w' (h' : RqR a c b at_ 0 hi Q w') => failQ_ok 16 (by omega) h'
      rw [List.drop_eq_nil_of_le (by omega)] at hg
      simp only [readG, Prod.mk.injEq] at hg
      obtain ⟨rfl, rfl, rfl⟩ := hg
      have hge : (b.length : Int) ≤ (at_ : Int) + (k : Int) := by omega
      have hdr := hr.drew
      have hkd := hk.drew
      obtain ⟨m, hm⟩ : ∃ m, b.length = m := ⟨_, rfl⟩
      rw [hm] at c0 hge hsm hle
      replace hr := Lib.hid hr
      replace hdr := Lib.hid hdr
      replace hF := Lib.hid hF
      replace hm := Lib.hid hm
      clear hv hlt
      go_upto_region 5 with (fail)
      go_region
      all_goals
        go_wp2_with (go_at_call 103; refine (hF.out _ hdr.out).mono ?_; rintro en w1 ⟨rfl, hk1, hr1⟩)
        go_ret
        exact ⟨by rw [← hV.out]; rfl, hkd.trans hk1, by rw [← hA.out]; exact hr1⟩
end Go.Proofs.YtcbnefeedoabeaaGreatDoor.Wi
/- Contracts of the document's reader: Number in short, End, Count, Text, Bool. -/
namespace Go.Proofs.YtcbnefeedoabeaaGreatDoor.Wi
open Go Go.RowKit

set_option maxHeartbeats 4000000 in
set_option maxRecDepth 100000 in
theorem refNumber_err {a : Option Addr} {c : Nat} {b : List UInt8} {at_ : Nat} {e : Int} {hi Q : Nat} {w : World} (h : RqR a c b at_ e hi Q w) (he : e ≠ 0) :
    Calls Tryz.prog 102 #[.pointer (some ⟨Q, 0, none⟩)] w fun en w' => en = .returned (.int .i64 0) ∧ w = w' := by
  have c2 := h.c2
  have hb : (e == 0) = false := by simp [he]
  clear h
  go_enter Tryz.func102, Tryz.ntmps102
  go_wp2
  go_loop [3, 4] (fun u i => u = .int .u64 0 ∧ i = .int .i64 0) (fun _ _ => 0)
  case atStart => exact ⟨rfl, rfl⟩
  case round =>
    obtain ⟨rfl, rfl⟩ := hrel
    go_wp2
    go_ret
    exact ⟨rfl, rfl⟩
theorem refNumber_any' {l : List UInt8} {e : Int} {hi Q : Nat} {w : World} (h : Rq l e hi Q w) :
    Calls Tryz.prog 102 #[.pointer (some ⟨Q, 0, none⟩)] w (DoneQ (.int .i64 (numR l e).1) (numR l e).2.1 (numR l e).2.2 hi Q w) := by
  obtain ⟨a, c, b, i, h, hl⟩ := h
  by_cases he : e = 0
  · subst he
    obtain rfl := hl rfl
    rcases readG_fits (b.drop i) 0 0 (by omega) (by decide) with ⟨x, hx, hg⟩ | ⟨v, n, hg, _⟩
    · have hx0 : x ≠ 0 := by omega
      have hr : numR (b.drop i) 0 = (0, b.drop i, x) := by unfold numR; rw [if_pos rfl, hg, if_neg hx0]
      rw [hr]
      have := refNumber_run h 0 0 x hg
      rw [if_neg hx0, if_neg hx0] at this
      exact this.mono fun _ _ ⟨h1, h2, h3⟩ => ⟨h1, h2, h3.rq⟩
    · have hr : numR (b.drop i) 0 = (unz v, (b.drop i).drop n, 0) := by unfold numR; rw [if_pos rfl, hg, if_pos rfl]
      rw [hr, List.drop_drop]
      have := refNumber_run h v n 0 hg
      rw [if_pos rfl, if_pos rfl] at this
      exact this.mono fun _ _ ⟨h1, h2, h3⟩ => ⟨h1, h2, h3.rq⟩
  · have hr : numR l e = (0, l, e) := if_neg he
    rw [hr]
    exact (refNumber_err h he).mono fun _ _ ⟨h1, h2⟩ => ⟨h1, h2 ▸ Kept.refl _ _, a, c, b, i, h2 ▸ h, hl⟩
/-- The error stands in the reader's third cell. -/
theorem Rq.err {l : List UInt8} {e : Int} {hi Q : Nat} {w : World} (h : Rq l e hi Q w) : w.cell? ⟨Q, 2, none⟩ = some (.int .i64 e) := by
  obtain ⟨a, c, b, i, h, hl⟩ := h
  exact h.c2
theorem Rq.drew {l : List UInt8} {e : Int} {hi Q : Nat} {w : World} (h : Rq l e hi Q w) : Rq l e hi Q w.drew := by
  obtain ⟨a, c, b, i, h, hl⟩ := h
  exact ⟨a, c, b, i, h.drew, hl⟩
theorem Rq.drewN {l : List UInt8} {e : Int} {hi Q : Nat} {w : World} (h : Rq l e hi Q w) (n : Nat) : Rq l e hi Q (w.drewN n) := by
  obtain ⟨a, c, b, i, h, hl⟩ := h
  exact ⟨a, c, b, i, ⟨h.here, h.le, h.small, h.at_le, ⟨h.bytes.top, h.bytes.at_⟩, h.hiQ, h.err⟩, hl⟩
set_option maxHeartbeats 4000000 in
theorem refEnd_any {l : List UInt8} {e : Int} {hi Q : Nat} {w : World} (h : Rq l e hi Q w) :
    Calls Tryz.prog 64 #[.pointer (some ⟨Q, 0, none⟩)] w fun en w' => en = .returned (.int .i64 (endR l e)) ∧ w' = w.drew := by
  obtain ⟨a, c, b, i, h, hl⟩ := h
  have c0 := h.c0
  have c1 := h.c1
  have c2 := h.c2
  have d2 : w.drew.cell? ⟨Q, 2, none⟩ = some (.int .i64 e) := c2
  have hle := h.at_le
  clear h
  obtain ⟨V, hV⟩ : ∃ V, endR l e = V := ⟨_, rfl⟩
  rw [hV]
  by_cases he : e = 0
  · subst he
    obtain rfl := hl rfl
    clear hl
    by_cases h0 : i < b.length
    · obtain rfl : (17 : Int) = V := by rw [← hV]; exact (if_pos ⟨rfl, by rw [List.length_drop]; omega⟩).symm
      have h1 : (i : Int) < (b.length : Int) := by omega
      clear hV
      generalize b.length = m at *
      go_enter Tryz.func64, Tryz.ntmps64
      go_upto_region 1 with (fail)
      go_region
      all_goals
        go_wp2
        go_ret
        exact ⟨rfl, rfl⟩
    · obtain rfl : (0 : Int) = V := by rw [← hV]; exact (if_neg (fun h => by have := h.2; rw [List.length_drop] at this; omega)).symm
      have h1 : ¬ (i : Int) < (b.length : Int) := by omega
      clear hV
      generalize b.length = m at *
      go_enter Tryz.func64, Tryz.ntmps64
      go_upto_region 1 with (fail)
      go_region
      all_goals
        go_wp2
        go_ret
        exact ⟨rfl, rfl⟩
  · obtain rfl : e = V := by rw [← hV]; exact (if_neg (fun h => he h.1)).symm
    have hb : (e == 0) = false := by simp [he]
    clear hV hl
    go_enter Tryz.func64, Tryz.ntmps64
    go_upto_region 1 with (fail)
    go_region
    all_goals
      go_wp2
      go_ret
      exact ⟨rfl, rfl⟩
set_option maxHeartbeats 8000000 in
theorem refCount_any {l : List UInt8} {e : Int} {hi Q : Nat} {w : World} (most : Int) (h : Rq l e hi Q w) :
    Calls Tryz.prog 61 #[.pointer (some ⟨Q, 0, none⟩), .int .i64 most] w (DoneQ (.int .i64 ((atR most 5 l e).1 : Nat)) (atR most 5 l e).2.1 (atR most 5 l e).2.2 hi Q w) := by
  have hn := refNumber_any' h
  have hr := numR_range l e
  have hA : atR most 5 l e = if (numR l e).2.2 = 0 then (if (numR l e).1 < 0 then (0, (numR l e).2.1, 3) else if most < (numR l e).1 then (0, (numR l e).2.1, 5) else ((numR l e).1.toNat, (numR l e).2.1, 0)) else (0, (numR l e).2.1, (numR l e).2.2) := rfl
  generalize (numR l e).1 = n at hn hr hA
  generalize (numR l e).2.1 = l1 at hn hA
  generalize (numR l e).2.2 = e1 at hn hA
  clear h
  replace hn := Lib.hid hn
  by_cases he : e1 = 0
  · subst he
    rw [if_pos rfl] at hA
    by_cases h1 : n < 0
    · rw [if_pos h1] at hA
      rw [hA]
      have hF := Lib.hid (fun w' (h : Rq l1 0 hi Q w') => failQ_any 3 (by omega) h)
      clear hA hr
      go_enter Tryz.func61, Tryz.ntmps61
      go_wp2_with (first | (go_at_call 102; refine hn.out.mono ?_; rintro en w1 ⟨rfl, hk, hrd⟩; have c2 := hrd.err) | (go_at_call 103; refine (hF.out _ hrd).mono ?_; rintro en w2 ⟨rfl, hk2, hrd2⟩; have d2 := hrd2.err; change w2.cell? ⟨Q, 2, none⟩ = some (.int .i64 3) at d2))
      go_ret
      exact ⟨rfl, hk.trans hk2, hrd2⟩
    · rw [if_neg h1] at hA
      by_cases h2 : most < n
      · rw [if_pos h2] at hA
        rw [hA]
        have hF := Lib.hid (fun w' (h : Rq l1 0 hi Q w') => failQ_any 5 (by omega) h)
        clear hA hr
        go_enter Tryz.func61, Tryz.ntmps61
        go_wp2_with (first | (go_at_call 102; refine hn.out.mono ?_; rintro en w1 ⟨rfl, hk, hrd⟩; have c2 := hrd.err) | (go_at_call 103; refine (hF.out _ hrd).mono ?_; rintro en w2 ⟨rfl, hk2, hrd2⟩; have d2 := hrd2.err; change w2.cell? ⟨Q, 2, none⟩ = some (.int .i64 5) at d2))
        go_ret
        exact ⟨rfl, hk.trans hk2, hrd2⟩
      · rw [if_neg h2] at hA
        rw [hA]
        obtain ⟨m, rfl⟩ : ∃ m : Nat, n = (m : Int) := ⟨n.toNat, by omega⟩
        rw [Int.toNat_natCast]
        clear hA hr
        go_enter Tryz.func61, Tryz.ntmps61
        go_wp2_with (go_at_call 102; refine hn.out.mono ?_; rintro en w1 ⟨rfl, hk, hrd⟩; have c2 := hrd.err)
        go_ret
        exact ⟨rfl, hk, hrd⟩
  · rw [if_neg he] at hA
    rw [hA]
    have hb : (e1 == 0) = false := by simp [he]
    clear hA hr
    go_enter Tryz.func61, Tryz.ntmps61
    go_wp2_with (go_at_call 102; refine hn.out.mono ?_; rintro en w1 ⟨rfl, hk, hrd⟩; have c2 := hrd.err)
    go_ret
    exact ⟨rfl, hk, hrd⟩
end Go.Proofs.YtcbnefeedoabeaaGreatDoor.Wi
/- Contract of the document's reader: Text. -/
namespace Go.Proofs.YtcbnefeedoabeaaGreatDoor.Wi
open Go Go.RowKit

theorem takeR1_err {l : List UInt8} {e : Int} (he : e ≠ 0) (n : Nat) : takeR n l e = ([], l, e) := if_neg he

theorem textR_err {l l1 : List UInt8} {e e1 : Int} {n : Int} {most : Int} (hn : numR l e = (n, l1, e1)) (he : e1 ≠ 0) : textR most l e = (⟨#[]⟩, l1, e1) := by
  have hA : atR most 4 l e = (0, l1, e1) := by unfold atR; rw [hn]; exact if_neg he
  unfold textR
  rw [hA]
  show (_, (takeR 0 l1 e1).2) = _
  rw [show takeR 0 l1 e1 = ([], l1, e1) from takeR1_err he 0]
theorem textR_neg {l l1 : List UInt8} {e : Int} {n : Int} {most : Int} (hn : numR l e = (n, l1, 0)) (h : n < 0) : textR most l e = (⟨#[]⟩, l1, 3) := by
  have hA : atR most 4 l e = (0, l1, 3) := by unfold atR; rw [hn]; exact (if_pos rfl).trans (if_pos h)
  unfold textR
  rw [hA]
  show (_, (takeR 0 l1 3).2) = _
  rw [show takeR 0 l1 3 = ([], l1, 3) from takeR1_err (by omega) 0]
theorem textR_long {l l1 : List UInt8} {e : Int} {n : Int} {most : Int} (hn : numR l e = (n, l1, 0)) (h : ¬ n < 0) (h2 : most < n) : textR most l e = (⟨#[]⟩, l1, 4) := by
  have hA : atR most 4 l e = (0, l1, 4) := by unfold atR; rw [hn]; exact (if_pos rfl).trans ((if_neg h).trans (if_pos h2))
  unfold textR
  rw [hA]
  show (_, (takeR 0 l1 4).2) = _
  rw [show takeR 0 l1 4 = ([], l1, 4) from takeR1_err (by omega) 0]
theorem textR_short {l l1 : List UInt8} {e : Int} {n : Nat} {most : Int} (hn : numR l e = ((n : Int), l1, 0)) (h2 : ¬ most < (n : Int)) (h3 : l1.length < n) : textR most l e = (⟨#[]⟩, l1, 16) := by
  have hA : atR most 4 l e = (n, l1, 0) := by unfold atR; rw [hn]; exact (if_pos rfl).trans ((if_neg (by omega)).trans ((if_neg h2).trans (by simp)))
  unfold textR
  rw [hA]
  show (_, (takeR n l1 0).2) = _
  rw [show takeR n l1 0 = ([], l1, 16) from (if_pos rfl).trans (if_neg (by omega))]
theorem textR_ok {l l1 : List UInt8} {e : Int} {n : Nat} {most : Int} (hn : numR l e = ((n : Int), l1, 0)) (h2 : ¬ most < (n : Int)) (h3 : n ≤ l1.length) : textR most l e = (⟨(l1.take n).toArray⟩, l1.drop n, 0) := by
  have hA : atR most 4 l e = (n, l1, 0) := by unfold atR; rw [hn]; exact (if_pos rfl).trans ((if_neg (by omega)).trans ((if_neg h2).trans (by simp)))
  unfold textR
  rw [hA]
  show ((⟨(takeR n l1 0).1.toArray⟩ : ByteArray), (takeR n l1 0).2) = _
  rw [show takeR n l1 0 = (l1.take n, l1.drop n, 0) from (if_pos rfl).trans (if_pos h3)]
/-- What is known behind the call of Number: the error e1, and on success the number n. -/
structure Read (a : Option Addr) (c : Nat) (b : List UInt8) (at_ : Nat) (n e1 : Int) (hi Q : Nat) (w : World) (en : Ending) (w' : World) : Prop where
  ret : en = .returned (.int .i64 n)
  kept : Kept Q w w'
  rq : RqR a c b at_ e1 hi Q w'
set_option maxHeartbeats 8000000 in
set_option maxRecDepth 100000 in
/-- Behind an error of Number: the place is set back. -/
theorem refText_bad {a : Option Addr} {c : Nat} {b : List UInt8} {at_ at2 : Nat} {e e1 : Int} {hi Q : Nat} {w : World} (most : Int) (h : RqR a c b at_ e hi Q w) (n : Int) (he : e1 ≠ 0)
    (hN : Calls Tryz.prog 102 #[.pointer (some ⟨Q, 0, none⟩)] w (Read a c b at2 n e1 hi Q w)) (l1 : List UInt8) :
    Calls Tryz.prog 62 #[.pointer (some ⟨Q, 0, none⟩), .int .i64 most] w (DoneQ (.string ⟨#[]⟩) l1 e1 hi Q w) := by
  have c1 := h.c1
  have hb : (e1 == 0) = false := by simp [he]
  have hle := h.at_le
  clear h
  replace hN := Lib.hid hN
  go_enter Tryz.func62, Tryz.ntmps62
  go_wp2_with (go_at_call 102; refine hN.out.mono ?_; rintro en w1 ⟨rfl, hk, hr1⟩; have d1 := hr1.c1; have d2 := hr1.c2; have df := hr1.f; have hs := Lib.hid (hr1.setAt at_ hle); replace hr1 := Lib.hid hr1)
  go_ret
  exact ⟨rfl, hk.setCell 1 _, hs.out.rq' he⟩
set_option maxHeartbeats 8000000 in
set_option maxRecDepth 100000 in
/-- A number that is no length: the error x, the place is set back. -/
theorem refText_fail {a : Option Addr} {c : Nat} {b : List UInt8} {at_ at2 : Nat} {hi Q : Nat} {w : World} (most : Int) (h : RqR a c b at_ 0 hi Q w) (n x : Int) (hx : (n < 0 ∧ x = 3) ∨ (¬ n < 0 ∧ most < n ∧ x = 4))
    (hN : Calls Tryz.prog 102 #[.pointer (some ⟨Q, 0, none⟩)] w (Read a c b at2 n 0 hi Q w)) (l1 : List UInt8) :
    Calls Tryz.prog 62 #[.pointer (some ⟨Q, 0, none⟩), .int .i64 most] w (DoneQ (.string ⟨#[]⟩) l1 x hi Q w) := by
  have c1 := h.c1
  have hle := h.at_le
  have hF := Lib.hid (fun (W : World) (y : Int) (hy : 0 ≤ y ∧ y ≤ 1000) (hr : RqR a c b at2 0 hi Q W) => failQ_ok y hy hr)
  clear h
  replace hN := Lib.hid hN
  rcases hx with ⟨h1, rfl⟩ | ⟨h1, h2, rfl⟩
  · go_enter Tryz.func62, Tryz.ntmps62
    go_wp2_with (first | (go_at_call 102; refine hN.out.mono ?_; rintro en w1 ⟨rfl, hk, hr1⟩; have d1 := hr1.c1; have d2 := hr1.c2; have hF1 := Lib.hid (hF.out w1 3 (by omega) hr1); replace hr1 := Lib.hid hr1) | (go_at_call 103; refine hF1.out.mono ?_; rintro en w2 ⟨rfl, hk2, hr2⟩; have e1 := hr2.c1; have ef := hr2.f; have hs := Lib.hid (hr2.setAt at_ hle); replace hr2 := Lib.hid hr2))
    go_ret
    exact ⟨rfl, (hk.trans hk2).setCell 1 _, hs.out.rq' (by omega)⟩
  · go_enter Tryz.func62, Tryz.ntmps62
    go_wp2_with (first | (go_at_call 102; refine hN.out.mono ?_; rintro en w1 ⟨rfl, hk, hr1⟩; have d1 := hr1.c1; have d2 := hr1.c2; have hF1 := Lib.hid (hF.out w1 4 (by omega) hr1); replace hr1 := Lib.hid hr1) | (go_at_call 103; refine hF1.out.mono ?_; rintro en w2 ⟨rfl, hk2, hr2⟩; have e1 := hr2.c1; have ef := hr2.f; have hs := Lib.hid (hr2.setAt at_ hle); replace hr2 := Lib.hid hr2))
    go_ret
    exact ⟨rfl, (hk.trans hk2).setCell 1 _, hs.out.rq' (by omega)⟩
set_option maxHeartbeats 8000000 in
set_option maxRecDepth 100000 in
/-- A length beyond the end. -/
theorem refText_short {a : Option Addr} {c : Nat} {b : List UInt8} {at_ at2 : Nat} {hi Q : Nat} {w : World} (most : Int) (h : RqR a c b at_ 0 hi Q w) (n : Nat) (hm : ¬ most < (n : Int)) (hn : b.length < at2 + n) (h2 : at2 ≤ b.length)
    (hN : Calls Tryz.prog 102 #[.pointer (some ⟨Q, 0, none⟩)] w (Read a c b at2 n 0 hi Q w)) (l1 : List UInt8) :
    Calls Tryz.prog 62 #[.pointer (some ⟨Q, 0, none⟩), .int .i64 most] w (DoneQ (.string ⟨#[]⟩) l1 16 hi Q w) := by
  have c1 := h.c1
  have hle := h.at_le
  have hsm := h.small
  have hF := Lib.hid (fun (W : World) (hr : RqR a c b at2 0 hi Q W) => failQ_ok 16 (by omega) hr)
  have hgt : (b.length : Int) - (at2 : Int) < (n : Int) := by omega
  clear h
  replace hN := Lib.hid hN
  replace hle := Lib.hid hle
  obtain ⟨m, hm2⟩ : ∃ m, b.length = m := ⟨_, rfl⟩
  rw [hm2] at hsm hgt h2
  replace hm2 := Lib.hid hm2
  clear hn
  go_enter Tryz.func62, Tryz.ntmps62
  go_upto_region 10 with (go_at_call 102; refine hN.out.mono ?_; rintro en w1 ⟨rfl, hk, hr1⟩; have d0 := hr1.c0; rw [hm2.out] at d0; have d1 := hr1.c1; have d2 := hr1.c2; have hF1 := Lib.hid (hF.out w1.drew hr1.drew); replace hr1 := Lib.hid hr1)
  go_region
  all_goals
    go_wp2_with (go_at_call 103; refine hF1.out.mono ?_; rintro en w2 ⟨rfl, hk2, hr2⟩; have e1 := hr2.c1; have ef := hr2.f; have hs := Lib.hid (hr2.setAt at_ hle.out); replace hr2 := Lib.hid hr2)
    go_ret
    exact ⟨rfl, (hk.drew.trans hk2).setCell 1 _, hs.out.rq' (by omega)⟩
set_option maxHeartbeats 8000000 in
set_option maxRecDepth 100000 in
theorem refText_good {bb off : Nat} {c : Nat} {b : List UInt8} {at_ at2 : Nat} {hi Q : Nat} {w : World} (most : Int) (h : RqR (some ⟨bb, off, none⟩) c b at_ 0 hi Q w) (n : Nat) (hm : ¬ most < (n : Int)) (hn : at2 + n ≤ b.length)
    (hN : Calls Tryz.prog 102 #[.pointer (some ⟨Q, 0, none⟩)] w (Read (some ⟨bb, off, none⟩) c b at2 n 0 hi Q w)) :
    Calls Tryz.prog 62 #[.pointer (some ⟨Q, 0, none⟩), .int .i64 most] w (DoneQ (.string ⟨((b.drop at2).take n).toArray⟩) ((b.drop at2).drop n) 0 hi Q w) := by
  have c1 := h.c1
  have hle := h.at_le
  have hsm := h.small
  have hcap := h.le
  have hgt : ¬ (b.length : Int) - (at2 : Int) < (n : Int) := by omega
  have hfit : (at2 : Int) + (n : Int) ≤ (c : Int) := by omega
  have hfit2 : (at2 : Int) + (n : Int) ≤ (b.length : Int) := by omega
  have hlt : ((b.drop at2).take n).length = n := by rw [List.length_take, List.length_drop]; omega
  clear h
  replace hN := Lib.hid hN
  replace hle := Lib.hid hle
  obtain ⟨m, hm2⟩ : ∃ m, b.length = m := ⟨_, rfl⟩
  rw [hm2] at hsm hgt hcap hn hfit2
  replace hm2 := Lib.hid hm2
  rw [List.drop_drop]
  go_enter Tryz.func62, Tryz.ntmps62
  go_upto_region 10 with (go_at_call 102; refine hN.out.mono ?_; rintro en w1 ⟨rfl, hk, hr1⟩; have d0 := hr1.c0; rw [hm2.out] at d0; have d1 := hr1.c1; have d2 := hr1.c2; have df := hr1.f)
  have hs := (hr1.setAt (at2 + n) (by have := hm2.out; omega)).drew
  rw [show ((at2 + n : Nat) : Int) = (at2 : Int) + (n : Int) from by omega] at hs
  have e0 := hs.c0
  have e1 := hs.c1
  rw [hm2.out] at e0
  rw [show ((at2 + n : Nat) : Int) = (at2 : Int) + (n : Int) from by omega] at e1
  have hconv := ((hs.drew.bytes.cut at2 c (by have := hm2.out; omega)).take n).string (c - at2)
  rw [show ((b.drop at2).take n).length = at2 + n - at2 from by omega] at hconv
  have hconv2 := hconv
  rw [show at2 + n - at2 = n from by omega] at hconv2
  have hkx := (hk.setCell 1 (.int .i64 ((at2 : Int) + (n : Int)))).drew
  replace hr1 := Lib.hid hr1
  have hsd := Lib.hid hs.drew
  replace hs := Lib.hid hs
  clear hlt
  go_region
  all_goals
    go_upto_region 4 with (fail)
    go_region
    all_goals
      go_wp2
      all_goals
        go_ret
        exact ⟨rfl, hkx.drew, hsd.out.rq⟩
theorem refRText_any {l : List UInt8} {e : Int} {hi Q : Nat} {w : World} (most : Int) (h : Rq l e hi Q w) :
    Calls Tryz.prog 62 #[.pointer (some ⟨Q, 0, none⟩), .int .i64 most] w (DoneQ (.string (textR most l e).1) (textR most l e).2.1 (textR most l e).2.2 hi Q w) := by
  obtain ⟨a, c, b, i, h, hl⟩ := h
  by_cases he : e = 0
  · subst he
    obtain rfl := hl rfl
    rcases readG_fits (b.drop i) 0 0 (by omega) (by decide) with ⟨x, hx, hg⟩ | ⟨v, n, hg, hv, hn0, hnl⟩
    · have hx0 : x ≠ 0 := by omega
      have hr : numR (b.drop i) 0 = (0, b.drop i, x) := by unfold numR; rw [if_pos rfl, hg, if_neg hx0]
      rw [textR_err hr hx0]
      have := refNumber_run h 0 0 x hg
      rw [if_neg hx0, if_neg hx0] at this
      exact refText_bad most h 0 hx0 (this.mono fun _ _ ⟨h1, h2, h3⟩ => ⟨h1, h2, h3⟩) _
    · have hr : numR (b.drop i) 0 = (unz v, b.drop (i + n), 0) := by unfold numR; rw [if_pos rfl, hg, if_pos rfl, List.drop_drop]
      have hN := refNumber_run h v n 0 hg
      rw [if_pos rfl, if_pos rfl] at hN
      have hN2 : Calls Tryz.prog 102 #[.pointer (some ⟨Q, 0, none⟩)] w (Read a c b (i + n) (unz v) 0 hi Q w) := hN.mono fun _ _ ⟨h1, h2, h3⟩ => ⟨h1, h2, h3⟩
      rw [List.length_drop] at hnl
      by_cases k1 : unz v < 0
      · rw [textR_neg hr k1]
        exact refText_fail most h _ 3 (.inl ⟨k1, rfl⟩) hN2 _
      · by_cases k2 : most < unz v
        · rw [textR_long hr k1 k2]
          exact refText_fail most h _ 4 (.inr ⟨k1, k2, rfl⟩) hN2 _
        · obtain ⟨u, hu⟩ : ∃ u : Nat, unz v = (u : Int) := ⟨(unz v).toNat, by omega⟩
          rw [hu] at hr hN2 k2
          by_cases k3 : u ≤ (b.drop (i + n)).length
          · rw [textR_ok hr k2 k3]
            rw [List.length_drop] at k3
            obtain ⟨bb, off, rfl, _⟩ := h.bytes.cell i (by omega)
            exact refText_good most h u k2 (by omega) hN2
          · rw [textR_short hr k2 (by omega)]
            rw [List.length_drop] at k3
            exact refText_short most h u k2 (by omega) (by omega) hN2 _
  · have hr : numR l e = (0, l, e) := if_neg he
    rw [textR_err hr he]
    exact refText_bad most h 0 he ((refNumber_err h he).mono fun _ _ ⟨h1, h2⟩ => ⟨h1, h2 ▸ Kept.refl _ _, h2 ▸ h⟩) l
end Go.Proofs.YtcbnefeedoabeaaGreatDoor.Wi
