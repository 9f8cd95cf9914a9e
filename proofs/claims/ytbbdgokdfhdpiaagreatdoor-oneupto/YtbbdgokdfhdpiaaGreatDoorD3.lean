/- A part of the proof: Lay. -/
import Derived.Deep.DeepHandedRow
import Derived.Deep.DeepWitnessRowRef
import Derived.LaidHandle
import Derived.LaidLaws
import Derived.ProofKit
import Derived.Test.YtbbdgokdfhdpiaaGreatDoorCards
import Derived.Test.YtbbdgokdfhdpiaaGreatDoorTie
import Derived.Test.YtbbdgokdfhdpiaaGreatDoorD1
namespace Go.Proofs.YtbbdgokdfhdpiaaGreatDoor
set_option linter.all false
set_option maxRecDepth 100000
set_option maxHeartbeats 40000000
open Go.Proofs.Tryz Go.RowKit
section
open Go.ChangeShapes Go.WideShapes Go.ChangeAt Go.RowKit
theorem own:ownKnob prog.godebug=none:=by kernel_rfl
theorem aEH:laidOutB prog=true:=by kernel_rfl
abbrev aI5:List (String×DataW Unit):=[("errors.errorType",Rows.laid_errors_errorType),("mooring/disk.ErrRoom",Rows.laid_mooring_disk_ErrRoom)]
theorem et:prog.globalNamed "errors.errorType"=some 1:=by kernel_rfl
theorem er:prog.globalNamed "mooring/disk.ErrRoom"=some 0:=by kernel_rfl
def aGx(w0:World):World:=
 let h1:=w0.heap.modify 1 fun
  |.cells _ t frozen=>.cells #[.iface 295 (.agg #[.pointer (some ⟨2,202,none⟩)])] t frozen
  |o=>o
 let h0:=h1.modify 0 fun
  |.cells _ t frozen=>.cells #[.iface 328 (.pointer (some ⟨w0.heap.size,0,none⟩))] t frozen
  |o=>o
 {w0 with heap:=h0.push (.cells #[.string ⟨#[110,111,32,114,111,111,109]⟩] 346)}
theorem aFZ(os:Os)(args:Array Value):laidMetH prog aI5 ((aGx (World.holding prog os ⟨#[],#[],[]⟩)).forCall (fun _ _=>0) ⟨#[],args,[]⟩).memory:=
 laidMetH_of_parts (laidMet_of_run' 8 (by kernel_rfl) (by kernel_rfl)) (by kernel_rfl)
end
end Go.Proofs.YtbbdgokdfhdpiaaGreatDoor
