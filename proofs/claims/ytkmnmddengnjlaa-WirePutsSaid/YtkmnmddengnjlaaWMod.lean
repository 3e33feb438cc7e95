/- Contract of the draw's remainder. -/
import Derived.Test.YtkmnmddengnjlaaWDist
import Derived.Deep.DeepFit
import Derived.IntWalk
namespace Go.Proofs.Ytkmnmddengnjlaa
open Go Go.RowKit

theorem mod_any (x n : Int) (w : World) (hx : -9223372036854775808 ≤ x ∧ x ≤ 9223372036854775807) (h0 : 0 < n) (h1 : n ≤ 4611686018427387904) :
    Calls Try.prog 28 #[.int .i64 x, .int .i64 n] w fun e w' => e = .returned (.int .i64 (x % n)) ∧ w = w' := by
  have hr : x.tmod n = if x.tmod n < 0 then x % n - n else x % n := by
    have h2 := Int.lt_tmod_of_pos x (b := n) h0
    have h3 := Int.tmod_lt_of_pos x (b := n) h0
    have h4 := Int.emod_nonneg x (b := n) (by omega)
    have h5 := Int.emod_lt_of_pos x (b := n) h0
    have h6 := Int.tmod_add_mul_tdiv x n
    have h7 := Int.emod_add_mul_ediv x n
    have h8 : n * (x.tdiv n - x / n) = x % n - x.tmod n := by rw [Int.mul_sub]; omega
    generalize x.tdiv n - x / n = d at h8
    split
    · have : d = 1 := by
        have a1 : 0 < d := by
          rcases Int.lt_or_le 0 d with h | h
          · exact h
          · have := Int.mul_le_mul_of_nonneg_left h (Int.le_of_lt h0)
            omega
        have a2 : d < 2 := by
          rcases Int.lt_or_le d 2 with h | h
          · exact h
          · have := Int.mul_le_mul_of_nonneg_left h (Int.le_of_lt h0)
            omega
        omega
      subst this
      omega
    · have : d = 0 := by
        have a1 : -1 < d := by
          rcases Int.lt_or_le (-1) d with h | h
          · exact h
          · have := Int.mul_le_mul_of_nonneg_left h (Int.le_of_lt h0)
            omega
        have a2 : d < 1 := by
          rcases Int.lt_or_le d 1 with h | h
          · exact h
          · have := Int.mul_le_mul_of_nonneg_left h (Int.le_of_lt h0)
            omega
        omega
      subst this
      omega
  have hb := Int.emod_lt_of_pos x (b := n) h0
  have hc := Int.emod_nonneg x (b := n) (by omega)
  have hn : ¬ n = 0 := by omega
  replace hx := Lib.hid hx
  by_cases hlt : x.tmod n < 0
  · rw [if_pos hlt] at hr
    generalize x % n = m at hr hb hc ⊢
    replace hr := Lib.hid hr
    have hwr : IntKind.i64.wrap (x.tmod n + n) = m := by
      have := hr.out
      rw [IntWalk.i64_in _ (by omega)]
      omega
    replace h1 := Lib.hid h1
    go_enter Try.func28, Try.ntmps28
    go_wp2
    go_ret
    exact ⟨rfl, rfl⟩
  · rw [if_neg hlt] at hr
    replace h1 := Lib.hid h1
    replace hr := Lib.hid hr
    go_enter Try.func28, Try.ntmps28
    go_wp2
    go_ret
    exact ⟨by rw [hr.out]; rfl, rfl⟩
theorem Rd.below {l : List UInt8} {e : Int} {lo R : Nat} {w w' : World} (h : Rd l e lo R w) (hR : lo ≤ R) (hb : Below w.heap.size w w') : Rd l e lo R w' :=
  h.kept (Kept.of_below (C := w.heap.size) hb) (.inr h.lt) hR
theorem newTake {a : Option Addr} {l : List UInt8} {c k : Nat} {w : World} (hl : l.length ≤ 1000000) (hS : Src a l c w) (hk : k ≤ l.length) :
    Calls Try.prog 19 #[.slice a k c] w (NewA (l.take k) w) := by
  have ht : (l.take k).length = k := by rw [List.length_take]; omega
  have := new_any (a0 := a) (l := l.take k) (cap := c) (w := w) (by omega) ⟨hS.nil, by have := hS.le; omega, hS.bytes.take k⟩
  rw [ht] at this
  exact this
end Go.Proofs.Ytkmnmddengnjlaa
