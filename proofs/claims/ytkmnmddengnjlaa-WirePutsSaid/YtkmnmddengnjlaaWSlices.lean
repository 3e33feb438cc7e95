/- Contracts of slices.Clip, slices.Grow of a nil slice, slices.Concat and slices.Clone at bytes, and of the package's join. -/
import Derived.Test.YtkmnmddengnjlaaWApp
import Derived.Lib.AppendZeros
import Derived.LoopTactic
import Derived.Lib.Hide
import Derived.Outline
namespace Go.Proofs.Ytkmnmddengnjlaa
open Go Go.RowKit

theorem clip_any (a0 : Option Addr) (n cap : Nat) (w : World) (hn : n ≤ cap) :
    Calls Try.prog 50 #[.slice a0 n cap] w fun e w' => e = .returned (.slice a0 n n) ∧ w = w' := by
  go_enter Try.func50, Try.ntmps50
  go_wp2
  go_ret
  exact ⟨rfl, rfl⟩
/-- What a call that makes a row of bytes of its own returns. -/
def MadeOwn (l : List UInt8) (w : World) (e : Ending) (w' : World) : Prop := ∃ v, e = .returned v ∧ Own w.heap.size v l w' ∧ Below w.heap.size w w'
/-- What a call that makes a row of bytes returns. -/
def MadeB (l : List UInt8) (w : World) (e : Ending) (w' : World) : Prop := ∃ (a1 : Option Addr) (c1 : Nat), e = .returned (.slice a1 (l.length : Nat) c1) ∧ (a1 = none → c1 = 0) ∧ l.length ≤ c1 ∧ c1 ≤ 9223372036854775807 ∧ BytesAre a1 l w' ∧ Below w.heap.size w w'
theorem own_zeros (w : World) (n c : Nat) (h : n ≤ c) (hm : c ≤ maxLen) : Own w.heap.size (.slice (some ⟨w.heap.size, 0, none⟩) 0 c) [] (w.drew.alloc (.cells (Builtin.zeroCells (Value.int .u8 0).cells n ++ Builtin.zeroCells (Value.int .u8 0).cells (c - n)) 5)) := by
  have := World.ownsRow_made (base := w.heap.size) (e := 5) (size := 1) w.drew (Builtin.zeroCells (Value.int .u8 0).cells n ++ Builtin.zeroCells (Value.int .u8 0).cells (c - n)) c (Nat.le_refl _) hm (by simp [size_zeroCells, Value.cells]; omega)
  exact this
set_option maxHeartbeats 4000000 in
theorem grow_nil (n : Nat) (w : World) (hn : n ≤ 1000000) :
    Calls Try.prog 53 #[.slice none 0 0, .int .i64 (n : Int)] w (MadeOwn [] w) := by
  obtain ⟨i0, hi, hz0, hz1, hz2⟩ := info_parts infoByte
  by_cases h0 : 0 < n
  · have hr := Lib.run_append_nil_zeros (P := Try.prog) w 22 3 22 5 i0 (.int .u8 0) .i64 .i64 Try.underlying22 Try.underlying3 hi hz0 n h0 (by omega) (by omega) (by rw [hz2]; omega)
    have hm : grownCap w n 0 5 ≤ maxLen := grownCap_le_maxLen w n 0 _ (by unfold maxLen; omega)
    have hg := grownCap_ge w n 0 5
    generalize grownCap w n 0 5 = c at hr hm hg
    have hown := own_zeros w n c hg hm
    have hbl : Below w.heap.size w (w.drew.alloc (.cells (Builtin.zeroCells (Value.int .u8 0).cells n ++ Builtin.zeroCells (Value.int .u8 0).cells (c - n)) 5)) := (Below.refl _ w).drew.alloc (Nat.le_refl _) _
    generalize (w.drew.alloc (.cells (Builtin.zeroCells (Value.int .u8 0).cells n ++ Builtin.zeroCells (Value.int .u8 0).cells (c - n)) 5)) = w1 at hr hown hbl
    clear hi hz0 hz1 hz2
    have hn0 : ¬ (n : Int) < 0 := by omega
    have hn1 : (0 : Int) < (n : Int) := by omega
    unfold maxLen at hm
    go_enter Try.func53, Try.ntmps53
    go_wp2_with (at_builtin; refine Lib.wpList_append_run _ rfl _ _ _ _ rfl _ _ rfl rfl _ _ hr ?_)
    go_ret
    exact ⟨_, rfl, hown, hbl⟩
  · obtain rfl : n = 0 := by omega
    go_enter Try.func53, Try.ntmps53
    go_wp2
    go_ret
    exact ⟨_, rfl, own_nil _ _, Below.refl _ _⟩
end Go.Proofs.Ytkmnmddengnjlaa
