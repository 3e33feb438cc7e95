/- Contracts of the document's answer for the hash value: rotations and rounds. -/
import Derived.Test.YtiomdikompodfaaProg
import Derived.Test.YtiomdikompodfaaWords
import Derived.WalkMore
import Derived.LoopTactic
import Derived.Lib.Hide
import Derived.Outline
import Derived.Below
import Derived.StillTailTactics
namespace Go.Proofs.Ytiomdikompodfaa
open Go Go.RowKit

theorem rotate13 (x : UInt64) (w : World) : Calls Try.prog 24 #[.int .u64 (x.toNat : Int), .int .u64 13] w fun e w' => e = .returned (.int .u64 ((rotl x 13).toNat : Int)) ∧ w = w' := by
  have hx := x.toNat_lt
  have hx0 : (0 : Int) ≤ (x.toNat : Int) := by omega
  have hr := Lib.hid (word_rot x 13 8192 2251799813685248 (by decide) (by decide))
  go_enter Try.func24, Try.ntmps24
  go_wp2
  go_ret
  exact ⟨by rw [← hr.out]; rfl, rfl⟩
theorem rotate16 (x : UInt64) (w : World) : Calls Try.prog 24 #[.int .u64 (x.toNat : Int), .int .u64 16] w fun e w' => e = .returned (.int .u64 ((rotl x 16).toNat : Int)) ∧ w = w' := by
  have hx := x.toNat_lt
  have hx0 : (0 : Int) ≤ (x.toNat : Int) := by omega
  have hr := Lib.hid (word_rot x 16 65536 281474976710656 (by decide) (by decide))
  go_enter Try.func24, Try.ntmps24
  go_wp2
  go_ret
  exact ⟨by rw [← hr.out]; rfl, rfl⟩
theorem rotate17 (x : UInt64) (w : World) : Calls Try.prog 24 #[.int .u64 (x.toNat : Int), .int .u64 17] w fun e w' => e = .returned (.int .u64 ((rotl x 17).toNat : Int)) ∧ w = w' := by
  have hx := x.toNat_lt
  have hx0 : (0 : Int) ≤ (x.toNat : Int) := by omega
  have hr := Lib.hid (word_rot x 17 131072 140737488355328 (by decide) (by decide))
  go_enter Try.func24, Try.ntmps24
  go_wp2
  go_ret
  exact ⟨by rw [← hr.out]; rfl, rfl⟩
theorem rotate21 (x : UInt64) (w : World) : Calls Try.prog 24 #[.int .u64 (x.toNat : Int), .int .u64 21] w fun e w' => e = .returned (.int .u64 ((rotl x 21).toNat : Int)) ∧ w = w' := by
  have hx := x.toNat_lt
  have hx0 : (0 : Int) ≤ (x.toNat : Int) := by omega
  have hr := Lib.hid (word_rot x 21 2097152 8796093022208 (by decide) (by decide))
  go_enter Try.func24, Try.ntmps24
  go_wp2
  go_ret
  exact ⟨by rw [← hr.out]; rfl, rfl⟩
theorem rotate32 (x : UInt64) (w : World) : Calls Try.prog 24 #[.int .u64 (x.toNat : Int), .int .u64 32] w fun e w' => e = .returned (.int .u64 ((rotl x 32).toNat : Int)) ∧ w = w' := by
  have hx := x.toNat_lt
  have hx0 : (0 : Int) ≤ (x.toNat : Int) := by omega
  have hr := Lib.hid (word_rot x 32 4294967296 4294967296 (by decide) (by decide))
  go_enter Try.func24, Try.ntmps24
  go_wp2
  go_ret
  exact ⟨by rw [← hr.out]; rfl, rfl⟩
end Go.Proofs.Ytiomdikompodfaa
