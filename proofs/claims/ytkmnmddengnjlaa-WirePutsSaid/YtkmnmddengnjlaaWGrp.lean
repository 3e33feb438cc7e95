/- Numbers in groups of seven bits, and what a reader of such bytes answers: plain laws, of no program. -/
import Derived.Test.YtkmnmddengnjlaaWords
namespace Go.Proofs.Ytkmnmddengnjlaa
open Go Go.RowKit

/-- 2n, or -2n - 1 for a negative n. -/
def zz (n : Int) : Nat := if n < 0 then (-(2 * n) - 1).toNat else (2 * n).toNat
/-- The number for which zz gives u. -/
def unz (u : Nat) : Int := if u % 2 = 1 then -((u / 2 : Nat) : Int) - 1 else ((u / 2 : Nat) : Int)
theorem unz_zz (n : Int) : unz (zz n) = n := by
  unfold unz zz
  split <;> split <;> omega
theorem zz_inj {n m : Int} (h : zz n = zz m) : n = m := by rw [← unz_zz n, h, unz_zz]
theorem zz_lt (n : Int) (h0 : -9223372036854775808 ≤ n) (h1 : n ≤ 9223372036854775807) : zz n < 18446744073709551616 := by
  unfold zz
  split <;> omega
theorem unz_range (u : Nat) (h : u < 18446744073709551616) : -9223372036854775808 ≤ unz u ∧ unz u ≤ 9223372036854775807 := by
  unfold unz
  split <;> omega
/-- The groups of u, the lowest one first. -/
def grp (u : Nat) : List UInt8 := if u < 128 then [UInt8.ofNat u] else UInt8.ofNat (u % 128 + 128) :: grp (u / 128)
termination_by u
decreasing_by omega
theorem grp_small {u : Nat} (h : u < 128) : grp u = [UInt8.ofNat u] := by rw [grp, if_pos h]
theorem grp_big {u : Nat} (h : ¬ u < 128) : grp u = UInt8.ofNat (u % 128 + 128) :: grp (u / 128) := by rw [grp, if_neg h]
theorem grp_pos (u : Nat) : 0 < (grp u).length := by
  by_cases h : u < 128
  · rw [grp_small h]; simp
  · rw [grp_big h]; simp
theorem grp_len : ∀ (k u : Nat), u < 2 ^ (7 * k + 7) → (grp u).length ≤ k + 1
  | 0, u, h => by rw [grp_small (by simpa using h)]; simp
  | k + 1, u, h => by
    by_cases hs : u < 128
    · rw [grp_small hs]; simp
    · rw [grp_big hs]
      have := grp_len k (u / 128) (by
        rw [Nat.div_lt_iff_lt_mul (by omega)]
        refine Nat.lt_of_lt_of_eq h ?_
        rw [show 7 * (k + 1) + 7 = (7 * k + 7) + 7 from by omega, Nat.pow_add]
        )
      simp only [List.length_cons]
      omega
def numB (n : Int) : List UInt8 := grp (zz n)
theorem numB_pos (n : Int) : 0 < (numB n).length := grp_pos _
theorem numB_len (n : Int) (h0 : -9223372036854775808 ≤ n) (h1 : n ≤ 9223372036854775807) : (numB n).length ≤ 10 := by
  have h := zz_lt n h0 h1
  refine grp_len 9 _ ?_
  omega
def boolB (v : Bool) : List UInt8 := [if v then 1 else 0]
def textB (s : ByteArray) : List UInt8 := numB (s.size : Int) ++ s.data.toList
/-- What is read of these bytes from place i on, behind the value u: the number, how many bytes it has, the error. -/
def readG : Nat → Nat → List UInt8 → Nat × Nat × Int
  | _, _, [] => (0, 0, 16)
  | i, u, x :: t => if i = 9 ∧ 1 < x.toNat then (0, 0, 3) else if x.toNat = 0 ∧ 0 < i then (0, 0, 1)
    else if x.toNat < 128 then (u + x.toNat * 2 ^ (7 * i), i + 1, 0) else readG (i + 1) (u + (x.toNat - 128) * 2 ^ (7 * i)) t
theorem ofNat_toNat {n : Nat} (h : n < 256) : (UInt8.ofNat n).toNat = n := by rw [UInt8.toNat_ofNat']; omega
theorem readG_grp (rest : List UInt8) : ∀ (u i acc : Nat), i ≤ 9 → u < 2 ^ (64 - 7 * i) → (0 < i → 0 < u) → readG i acc (grp u ++ rest) = (acc + u * 2 ^ (7 * i), i + (grp u).length, 0) := by
  intro u
  induction u using Nat.strongRecOn with
  | ind u ih =>
    intro i acc hi hu h0
    by_cases h : u < 128
    · rw [grp_small h]
      have h9 : ¬ (i = 9 ∧ 1 < u) := by
        rintro ⟨rfl, h1⟩
        simp at hu
        omega
      have hz : ¬ (u = 0 ∧ 0 < i) := by
        rintro ⟨h1, h2⟩
        have := h0 h2
        omega
      simp only [List.cons_append, List.nil_append, readG, ofNat_toNat (show u < 256 by omega), if_neg h9, if_neg hz, if_pos h, List.length_cons, List.length_nil]
    · have hi8 : i ≤ 8 := by
        by_cases e : i = 9
        · subst e
          simp at hu
          omega
        · omega
      rw [grp_big h]
      simp only [List.cons_append, readG, ofNat_toNat (show u % 128 + 128 < 256 by omega)]
      rw [if_neg (by omega), if_neg (by omega), if_neg (by omega), ih (u / 128) (by omega) (i + 1) _ (by omega) ?_ (by omega)]
      · have e1 : u % 128 + 128 - 128 = u % 128 := by omega
        have e2 : 2 ^ (7 * (i + 1)) = 128 * 2 ^ (7 * i) := by rw [show 7 * (i + 1) = 7 + 7 * i from by omega, Nat.pow_add]
        rw [e1, e2, List.length_cons]
        refine Prod.ext ?_ (Prod.ext ?_ rfl)
        · show acc + u % 128 * 2 ^ (7 * i) + u / 128 * (128 * 2 ^ (7 * i)) = acc + u * 2 ^ (7 * i)
          rw [Nat.add_assoc, ← Nat.mul_assoc, ← Nat.add_mul, Nat.mod_add_div' u 128]
        · show i + 1 + (grp (u / 128)).length = i + ((grp (u / 128)).length + 1)
          omega
      · rw [Nat.div_lt_iff_lt_mul (by omega)]
        refine Nat.lt_of_lt_of_eq hu ?_
        rw [show 64 - 7 * i = (64 - 7 * (i + 1)) + 7 from by omega, Nat.pow_add]
theorem readG_cut : ∀ (u i acc k : Nat), i ≤ 9 → u < 2 ^ (64 - 7 * i) → k < (grp u).length → readG i acc ((grp u).take k) = (0, 0, 16) := by
  intro u
  induction u using Nat.strongRecOn with
  | ind u ih =>
    intro i acc k hi hu hk
    match k, hk with
    | 0, _ => rfl
    | k + 1, hk =>
    by_cases h : u < 128
    · rw [grp_small h] at hk
      simp at hk
    · have hi8 : i ≤ 8 := by
        by_cases e : i = 9
        · subst e
          simp at hu
          omega
        · omega
      rw [grp_big h] at hk ⊢
      rw [List.take_succ_cons]
      simp only [readG, ofNat_toNat (show u % 128 + 128 < 256 by omega)]
      rw [if_neg (by omega), if_neg (by omega), if_neg (by omega)]
      refine ih (u / 128) (by omega) (i + 1) _ k (by omega) ?_ (by simpa using hk)
      rw [Nat.div_lt_iff_lt_mul (by omega)]
      refine Nat.lt_of_lt_of_eq hu ?_
      rw [show 64 - 7 * i = (64 - 7 * (i + 1)) + 7 from by omega, Nat.pow_add]
/-- What readG gives: an error and nothing, or a number of 64 bits. -/
theorem readG_fits : ∀ (l : List UInt8) (i u : Nat), i ≤ 9 → u < 2 ^ (7 * i) →
    (∃ e : Int, (e = 16 ∨ e = 3 ∨ e = 1) ∧ readG i u l = (0, 0, e)) ∨ ∃ v n : Nat, readG i u l = (v, n, 0) ∧ v < 18446744073709551616 ∧ i < n ∧ n ≤ i + l.length
  | [], _, _, _, _ => .inl ⟨16, .inl rfl, rfl⟩
  | x :: t, i, u, hi, hu => by
    have hx := x.toNat_lt
    by_cases c1 : i = 9 ∧ 1 < x.toNat
    · exact .inl ⟨3, .inr (.inl rfl), by simp only [readG, if_pos c1]⟩
    · by_cases c2 : x.toNat = 0 ∧ 0 < i
      · exact .inl ⟨1, .inr (.inr rfl), by simp only [readG, if_neg c1, if_pos c2]⟩
      · by_cases c3 : x.toNat < 128
        · refine .inr ⟨u + x.toNat * 2 ^ (7 * i), i + 1, by simp only [readG, if_neg c1, if_neg c2, if_pos c3], ?_, by omega, by simp⟩
          by_cases e : i = 9
          · subst e
            have : x.toNat ≤ 1 := by omega
            have h2 : x.toNat * 2 ^ (7 * 9) ≤ 1 * 2 ^ (7 * 9) := Nat.mul_le_mul_right _ this
            simp only [Nat.reduceMul, Nat.reducePow] at hu h2 ⊢
            omega
          · have h2 : x.toNat * 2 ^ (7 * i) ≤ 127 * 2 ^ (7 * i) := Nat.mul_le_mul_right _ (by omega)
            have h3 : 2 ^ (7 * i) ≤ 2 ^ 56 := Nat.pow_le_pow_right (by omega) (by omega)
            simp only [Nat.reducePow] at h3
            omega
        · have hi8 : i ≤ 8 := by omega
          have h2 : (x.toNat - 128) * 2 ^ (7 * i) ≤ 127 * 2 ^ (7 * i) := Nat.mul_le_mul_right _ (by omega)
          have e2 : 2 ^ (7 * (i + 1)) = 128 * 2 ^ (7 * i) := by rw [show 7 * (i + 1) = 7 + 7 * i from by omega, Nat.pow_add]
          have := readG_fits t (i + 1) (u + (x.toNat - 128) * 2 ^ (7 * i)) (by omega) (by omega)
          rcases this with ⟨e, he, h⟩ | ⟨v, n, h, h3, h4, h5⟩
          · exact .inl ⟨e, he, by simp only [readG, if_neg c1, if_neg c2, if_neg c3]; exact h⟩
          · exact .inr ⟨v, n, by simp only [readG, if_neg c1, if_neg c2, if_neg c3]; exact h, h3, by omega, by simp; omega⟩
/-- The model's or of a number below 2^k and a multiple of 2^k is their sum. -/
theorem or_sum (a b k : Nat) (ha : a < 2 ^ k) (h : a + b * 2 ^ k < 18446744073709551616) : bits .or .u64 (a : Int) (IntKind.u64.wrap ((b : Int) * 2 ^ k)) = ((a + b * 2 ^ k : Nat) : Int) := by
  have e1 : IntKind.u64.wrap ((b : Int) * 2 ^ k) = ((UInt64.ofNat (b * 2 ^ k)).toNat : Int) := by
    rw [show ((b : Int) * 2 ^ k) = ((b * 2 ^ k : Nat) : Int) from by rw [Int.natCast_mul, Int.natCast_pow]; rfl, wrap_word]
  have e2 : (a : Int) = ((UInt64.ofNat a).toNat : Int) := by rw [UInt64.toNat_ofNat']; omega
  rw [e1, e2, word_or, UInt64.toNat_or, UInt64.toNat_ofNat', UInt64.toNat_ofNat', Nat.mod_eq_of_lt (by omega), Nat.mod_eq_of_lt (by omega)]
  congr 1
  rw [Nat.or_comm, Nat.mul_comm b, ← Nat.two_pow_add_eq_or_of_lt ha b]
  omega
theorem not_word (n : Nat) (h : n < 18446744073709551616) : bits .xor .u64 IntKind.u64.max (n : Int) = ((18446744073709551615 - n : Nat) : Int) := by
  show IntKind.u64.wrap ((BitVec.ofInt 64 18446744073709551615 ^^^ BitVec.ofInt 64 (n : Int)).toNat : Int) = _
  rw [show BitVec.ofInt 64 18446744073709551615 = BitVec.allOnes 64 from by decide, BitVec.allOnes_xor, BitVec.toNat_not, BitVec.ofInt_natCast, BitVec.toNat_ofNat, Nat.mod_eq_of_lt (by omega), IntKind.wrap_u64]
  omega
theorem twice_pos (n : Int) (h0 : 0 ≤ n) (h1 : n ≤ 9223372036854775807) : IntKind.u64.wrap (IntKind.u64.wrap n * 2) = (zz n : Nat) := by
  unfold zz
  rw [if_neg (by omega), IntKind.wrap_u64, IntKind.wrap_u64]
  omega
theorem twice_neg (n : Int) (h0 : -9223372036854775808 ≤ n) (h1 : n < 0) : bits .xor .u64 IntKind.u64.max (IntKind.u64.wrap (IntKind.u64.wrap n * 2)) = (zz n : Nat) := by
  have h : IntKind.u64.wrap (IntKind.u64.wrap n * 2) = ((18446744073709551615 - zz n : Nat) : Int) := by
    have := zz_lt n h0 (by omega)
    unfold zz at this ⊢
    rw [if_pos h1] at this ⊢
    rw [IntKind.wrap_u64, IntKind.wrap_u64]
    omega
  have := zz_lt n h0 (by omega)
  rw [h, not_word _ (by omega)]
  congr 1
  omega
theorem or8 (a : Nat) (h : a < 256) : bits .or .u8 (a : Int) 128 = ((a % 128 + 128 : Nat) : Int) := by
  have : ∀ a : Fin 256, bits .or .u8 ((a.1 : Nat) : Int) 128 = ((a.1 % 128 + 128 : Nat) : Int) := by decide +kernel
  exact this ⟨a, h⟩
theorem andNot8 (a : Nat) (h : a < 256) : bits .andNot .u8 (a : Int) 128 = ((a % 128 : Nat) : Int) := by
  have : ∀ a : Fin 256, bits .andNot .u8 ((a.1 : Nat) : Int) 128 = ((a.1 % 128 : Nat) : Int) := by decide +kernel
  exact this ⟨a, h⟩
theorem and8 (a : Nat) (h : a < 256) : bits .and .u8 (a : Int) 127 = ((a % 128 : Nat) : Int) := by
  have : ∀ a : Fin 256, bits .and .u8 ((a.1 : Nat) : Int) 127 = ((a.1 % 128 : Nat) : Int) := by decide +kernel
  exact this ⟨a, h⟩
theorem and64 (n : Nat) (h : n < 18446744073709551616) : bits .and .u64 (n : Int) 127 = ((n % 128 : Nat) : Int) := by
  have e : (n : Int) = ((UInt64.ofNat n).toNat : Int) := by rw [UInt64.toNat_ofNat']; omega
  rw [e, show (127 : Int) = (((127 : UInt64).toNat : Nat) : Int) from rfl, word_and, UInt64.toNat_and, UInt64.toNat_ofNat', Nat.mod_eq_of_lt (by omega)]
  congr 1
  exact Nat.and_two_pow_sub_one_eq_mod n 7
theorem and64_1 (n : Nat) (h : n < 18446744073709551616) : bits .and .u64 (n : Int) 1 = ((n % 2 : Nat) : Int) := by
  have e : (n : Int) = ((UInt64.ofNat n).toNat : Int) := by rw [UInt64.toNat_ofNat']; omega
  rw [e, show (1 : Int) = (((1 : UInt64).toNat : Nat) : Int) from rfl, word_and, UInt64.toNat_and, UInt64.toNat_ofNat', Nat.mod_eq_of_lt (by omega)]
  congr 1
  exact Nat.and_two_pow_sub_one_eq_mod n 1
theorem not_int (n : Nat) (h : n < 9223372036854775808) : bits .xor .i64 (-1) (n : Int) = -(n : Int) - 1 := by
  show IntKind.i64.wrap ((BitVec.ofInt 64 (-1) ^^^ BitVec.ofInt 64 (n : Int)).toNat : Int) = _
  rw [show BitVec.ofInt 64 (-1) = BitVec.allOnes 64 from by decide, BitVec.allOnes_xor, BitVec.toNat_not, BitVec.ofInt_natCast, BitVec.toNat_ofNat, Nat.mod_eq_of_lt (by omega), IntKind.wrap_i64]
  omega
end Go.Proofs.Ytkmnmddengnjlaa
