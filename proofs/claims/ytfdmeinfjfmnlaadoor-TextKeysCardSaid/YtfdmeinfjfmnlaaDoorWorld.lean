/- A world that holds every listed package-level variable: what the program's own initialisers lay, and Go's table beside them. -/
import Derived.Test.YtfdmeinfjfmnlaaDoorFrame
namespace Go.Proofs.YtfdmeinfjfmnlaaDoor
open Go Go.RowKit Go.Shelf Go.ChangeShapes Go.WideShapes Go.ChangeAt Go.Lib

noncomputable def laidWorld (os : Os) : World :=
  let w0 := World.doorLaid Tryd.prog 2000 os
  { w0 with heap := w0.heap.modify 1 fun
      | .cells _ t frozen => .cells (Lib.firstTab.map fun z => Value.int .u8 z).toArray t frozen
      | o => o }
theorem laid_met (os : Os) (args : Array Value) : laidMet Tryd.prog laidL ((laidWorld os).forCall (fun _ _ => 0) ⟨#[], args, []⟩).memory :=
  laidMet_of_run' 8 (by kernel_rfl) (by kernel_rfl)

end Go.Proofs.YtfdmeinfjfmnlaaDoor
