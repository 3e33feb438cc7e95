/- Contracts of the small functions of package text: letters, digits, escaped signs. -/
import Derived.Test.YtfdmeinfjfmnlaaDoorProg
import Derived.WalkKit
import Derived.WalkMore
import Derived.LoopTactic
import Derived.Lib.Hide
import Derived.Outline
namespace Go.Proofs.YtfdmeinfjfmnlaaDoor
open Go Go.RowKit

def letB (r : Int) : Bool := decide (97 ≤ r) && decide (r ≤ 122)
def digB (r : Int) : Bool := decide (48 ≤ r) && decide (r ≤ 57)
def escB (r : Int) : Bool := r == 34 || r == 92

theorem isLetter_any (r : Int) (w : World) : Calls Tryd.prog 26 #[.int .i32 r] w fun e w' => e = .returned (.bool (letB r)) ∧ w = w' := by
  go_enter Tryd.func26, Tryd.ntmps26
  go_wp2
  all_goals
    go_ret
    refine ⟨?_, rfl⟩
    unfold letB
    simp
    try omega
theorem isDigit_any (r : Int) (w : World) : Calls Tryd.prog 27 #[.int .i32 r] w fun e w' => e = .returned (.bool (digB r)) ∧ w = w' := by
  go_enter Tryd.func27, Tryd.ntmps27
  go_wp2
  all_goals
    go_ret
    refine ⟨?_, rfl⟩
    unfold digB
    simp
    try omega
theorem isEscaped_any (r : Int) (w : World) : Calls Tryd.prog 32 #[.int .i32 r] w fun e w' => e = .returned (.bool (escB r)) ∧ w = w' := by
  go_enter Tryd.func32, Tryd.ntmps32
  go_wp2
  all_goals
    go_ret
    refine ⟨?_, rfl⟩
    first
      | rfl
      | (unfold escB
         simp_all)
end Go.Proofs.YtfdmeinfjfmnlaaDoor
