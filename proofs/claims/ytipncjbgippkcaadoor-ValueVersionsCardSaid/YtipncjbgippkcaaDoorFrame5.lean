/- What the list of five package-level variables gives, and a world that holds them. -/
import Derived.Test.YtipncjbgippkcaaDoorPg
namespace Go.Proofs.YtipncjbgippkcaaDoor
open Go Go.RowKit Go.Shelf Go.ChangeShapes Go.WideShapes Go.ChangeAt Go.Lib

def laid5 : List (String × DataW Unit) := Rows.valuePartsRow.laid
theorem env5 {W : World} (hL : laidMet Tryd.prog laid5 W) : Env W := by
  have h1 := laidMet.reads hL (n := "internal/strconv.uint64pow10") (d := Rows.laid_internal_strconv_uint64pow10) (.tail _ (.tail _ (.head _)))
  have h2 := laidMet.reads hL (n := "unicode/utf8.acceptRanges") (d := Rows.laid_unicode_utf8_acceptRanges) (.tail _ (.tail _ (.tail _ (.head _))))
  have h3 := laidMet.reads hL (n := "unicode/utf8.first") (d := Rows.laid_unicode_utf8_first) (.tail _ (.tail _ (.tail _ (.tail _ (.head _)))))
  rw [accept_data] at h2
  rw [first_data] at h3
  exact env_of_reads h1 h2 h3
noncomputable def laidWorld (os : Os) : World :=
  let w0 := World.doorLaid Tryd.prog 2000 os
  { w0 with heap := w0.heap.modify 3 fun
      | .cells _ t frozen => .cells (Lib.firstTab.map fun z => Value.int .u8 z).toArray t frozen
      | o => o }
theorem laid_met5 (os : Os) (args : Array Value) : laidMet Tryd.prog laid5 ((laidWorld os).forCall (fun _ _ => 0) ⟨#[], args, []⟩).memory :=
  laidMet_of_run' 8 (by kernel_rfl) (by kernel_rfl)
end Go.Proofs.YtipncjbgippkcaaDoor
