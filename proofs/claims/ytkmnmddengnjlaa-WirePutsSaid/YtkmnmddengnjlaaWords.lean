/- Words of 64 bits: what the model's operations give for numbers that are a UInt64's. Plain, of no program. -/
import Derived.WalkKit
namespace Go.Proofs.Ytkmnmddengnjlaa
open Go Go.RowKit

theorem ofInt_word (a : UInt64) : (BitVec.ofInt 64 (a.toNat : Int)).toNat = a.toNat := by
  rw [BitVec.ofInt_natCast, BitVec.toNat_ofNat]
  exact Nat.mod_eq_of_lt a.toNat_lt
theorem wrap_word (n : Nat) : IntKind.u64.wrap (n : Int) = ((UInt64.ofNat n).toNat : Int) := by
  rw [IntKind.wrap_u64, UInt64.toNat_ofNat']
  omega
theorem wrap_toNat (a : UInt64) : IntKind.u64.wrap (a.toNat : Int) = (a.toNat : Int) := by
  have := a.toNat_lt
  rw [IntKind.wrap_u64]
  omega
theorem word_or (a b : UInt64) : bits .or .u64 (a.toNat : Int) (b.toNat : Int) = ((a ||| b).toNat : Int) := by
  show IntKind.u64.wrap ((BitVec.ofInt 64 (a.toNat : Int) ||| BitVec.ofInt 64 (b.toNat : Int)).toNat : Int) = _
  rw [BitVec.toNat_or, ofInt_word, ofInt_word, ← UInt64.toNat_or, wrap_toNat]
theorem word_and (a b : UInt64) : bits .and .u64 (a.toNat : Int) (b.toNat : Int) = ((a &&& b).toNat : Int) := by
  show IntKind.u64.wrap ((BitVec.ofInt 64 (a.toNat : Int) &&& BitVec.ofInt 64 (b.toNat : Int)).toNat : Int) = _
  rw [BitVec.toNat_and, ofInt_word, ofInt_word, ← UInt64.toNat_and, wrap_toNat]
theorem word_xor (a b : UInt64) : bits .xor .u64 (a.toNat : Int) (b.toNat : Int) = ((a ^^^ b).toNat : Int) := by
  show IntKind.u64.wrap ((BitVec.ofInt 64 (a.toNat : Int) ^^^ BitVec.ofInt 64 (b.toNat : Int)).toNat : Int) = _
  rw [BitVec.toNat_xor, ofInt_word, ofInt_word, ← UInt64.toNat_xor, wrap_toNat]
theorem word_add (a b : UInt64) : IntKind.u64.wrap ((a.toNat : Int) + (b.toNat : Int)) = ((a + b).toNat : Int) := by
  rw [IntKind.wrap_u64, UInt64.toNat_add]
  omega
theorem word_shl (a : UInt64) (n : Nat) (p : Int) (hp : p = ((2 ^ n : Nat) : Int)) : IntKind.u64.wrap ((a.toNat : Int) * p) = ((UInt64.ofNat (a.toNat * 2 ^ n)).toNat : Int) := by
  rw [hp, ← Int.natCast_mul, wrap_word]
theorem word_shr (a : UInt64) (n : Nat) (p : Int) (hp : p = ((2 ^ n : Nat) : Int)) : (a.toNat : Int) / p = ((UInt64.ofNat (a.toNat / 2 ^ n)).toNat : Int) := by
  have h := a.toNat_lt
  have h2 : a.toNat / 2 ^ n ≤ a.toNat := Nat.div_le_self _ _
  rw [hp, ← Int.natCast_ediv, UInt64.toNat_ofNat', Nat.mod_eq_of_lt (by omega)]
/-- A word rotated to the left by n places (0 < n < 64). -/
def rotl (a : UInt64) (n : Nat) : UInt64 := UInt64.ofNat (a.toNat * 2 ^ n) ||| UInt64.ofNat (a.toNat / 2 ^ (64 - n))
theorem word_rot (a : UInt64) (n : Nat) (p q : Int) (hp : p = ((2 ^ n : Nat) : Int)) (hq : q = ((2 ^ (64 - n) : Nat) : Int)) :
    bits .or .u64 (IntKind.u64.wrap ((a.toNat : Int) * p)) ((a.toNat : Int) / q) = ((rotl a n).toNat : Int) := by
  rw [word_shl a n p hp, word_shr a (64 - n) q hq, word_or]
  rfl
/-- The document's state of four words, and its round. -/
structure Sip where
  a : UInt64
  b : UInt64
  c : UInt64
  d : UInt64
def Sip.s1 (v : Sip) : Sip := { v with a := v.a + v.b }
def Sip.s2 (v : Sip) : Sip := { v with b := rotl v.b 13 ^^^ v.a }
def Sip.s3 (v : Sip) : Sip := { v with a := rotl v.a 32 }
def Sip.s4 (v : Sip) : Sip := { v with c := v.c + v.d }
def Sip.s5 (v : Sip) : Sip := { v with d := rotl v.d 16 ^^^ v.c }
def Sip.s6 (v : Sip) : Sip := { v with a := v.a + v.d }
def Sip.s7 (v : Sip) : Sip := { v with d := rotl v.d 21 ^^^ v.a }
def Sip.s8 (v : Sip) : Sip := { v with c := v.c + v.b }
def Sip.s9 (v : Sip) : Sip := { v with b := rotl v.b 17 ^^^ v.c }
def Sip.s10 (v : Sip) : Sip := { v with c := rotl v.c 32 }
def Sip.round (v : Sip) : Sip := v.s1.s2.s3.s4.s5.s6.s7.s8.s9.s10
def Sip.rounds (v : Sip) : Nat → Sip
  | 0 => v
  | n + 1 => (v.rounds n).round
end Go.Proofs.Ytkmnmddengnjlaa
