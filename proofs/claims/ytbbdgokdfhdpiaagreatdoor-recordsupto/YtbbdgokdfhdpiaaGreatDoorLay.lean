/-
  What the rows list of package-level variables: the world of the witness in which both are laid, and what the list gives a walk.
-/
import Derived.Test.YtbbdgokdfhdpiaaGreatDoorCards
import Derived.Test.YtbbdgokdfhdpiaaGreatDoorTie
import Derived.WalkKit
import Derived.ProofKit
import Derived.LaidLaws
import Derived.LaidHandle
import Derived.Deep.DeepHandedRow
import Derived.Deep.DeepWitnessRowRef
namespace Go.Proofs.YtbbdgokdfhdpiaaGreatDoor
open Go.ChangeShapes Go.WideShapes Go.ChangeAt Go.RowKit

theorem own : ownKnob Tryz.prog.godebug = none := by kernel_rfl
theorem laidOut : laidOutB Tryz.prog = true := by kernel_rfl

abbrev laidL : List (String × DataW Unit) := [("errors.errorType", Rows.laid_errors_errorType), ("mooring/disk.ErrRoom", Rows.laid_mooring_disk_ErrRoom)]

theorem et : Tryz.prog.globalNamed "errors.errorType" = some 1 := by kernel_rfl
theorem er : Tryz.prog.globalNamed "mooring/disk.ErrRoom" = some 0 := by kernel_rfl

/-- The settled world, both variables laid. -/
def laidW (w0 : World) : World :=
  let h1 := w0.heap.modify 1 fun
      | .cells _ t frozen => .cells #[.iface 295 (.agg #[.pointer (some ⟨2, 202, none⟩)])] t frozen
      | o => o
  let h0 := h1.modify 0 fun
      | .cells _ t frozen => .cells #[.iface 328 (.pointer (some ⟨w0.heap.size, 0, none⟩))] t frozen
      | o => o
  { w0 with heap := h0.push (.cells #[.string ⟨#[110, 111, 32, 114, 111, 111, 109]⟩] 346) }

theorem laidMet_w (os : Os) (args : Array Value) : laidMetH Tryz.prog laidL ((laidW (World.holding Tryz.prog os ⟨#[], #[], []⟩)).forCall (fun _ _ => 0) ⟨#[], args, []⟩).memory :=
  laidMetH_of_parts (laidMet_of_run' 8 (by kernel_rfl) (by kernel_rfl)) (by kernel_rfl)

end Go.Proofs.YtbbdgokdfhdpiaaGreatDoor
