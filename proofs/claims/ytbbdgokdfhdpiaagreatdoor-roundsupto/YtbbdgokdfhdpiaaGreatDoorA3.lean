/- A part. -/
import Derived.ChangeAlike
import Derived.Deep.DeepHandedRow
import Derived.Deep.DeepWitnessRowRef
import Derived.Deep.Slices
import Derived.LaidHandle
import Derived.LaidLaws
import Derived.ProofKit
import Derived.Test.YtbbdgokdfhdpiaaGreatDoorCards
import Derived.Test.YtbbdgokdfhdpiaaGreatDoorRows
import Derived.Test.YtbbdgokdfhdpiaaGreatDoorTie
import Derived.Test.YtbbdgokdfhdpiaaGreatDoorA1
namespace Go.Proofs.YtbbdgokdfhdpiaaGreatDoor
set_option linter.all false
set_option maxRecDepth 100000
set_option maxHeartbeats 0
open Go.Proofs.Tryz Go.RowKit
section
open Go.ChangeShapes Go.WideShapes Go.ChangeAt Go.RowKit
theorem own:ownKnob prog.godebug=none:=by kernel_rfl
theorem aDe:laidOutB prog=true:=by kernel_rfl
abbrev aKy:List (String×DataW Unit):=[("errors.errorType",Rows.laid_errors_errorType),("mooring/disk.ErrRoom",Rows.laid_mooring_disk_ErrRoom)]
theorem et:prog.globalNamed "errors.errorType"=some 1:=by kernel_rfl
theorem er:prog.globalNamed "mooring/disk.ErrRoom"=some 0:=by kernel_rfl
def aAS(w0:World):World:=
 let h1:=w0.heap.modify 1 fun
  |.cells _ t frozen=>.cells #[.iface 295 (.agg #[.pointer (some ⟨2,202,none⟩)])] t frozen
  |o=>o
 let h0:=h1.modify 0 fun
  |.cells _ t frozen=>.cells #[.iface 328 (.pointer (some ⟨w0.heap.size,0,none⟩))] t frozen
  |o=>o
 {w0 with heap:=h0.push (.cells #[.string ⟨#[110,111,32,114,111,111,109]⟩] 346)}
theorem zN(os:Os)(args:Array Value):laidMetH prog aKy ((aAS (World.holding prog os ⟨#[],#[],[]⟩)).forCall (fun _ _=>0) ⟨#[],args,[]⟩).memory:=
 laidMetH_of_parts (laidMet_of_run' 8 (by kernel_rfl) (by kernel_rfl)) (by kernel_rfl)
end
theorem aJf{H:Type}(d:DataW H):0<Rows.uptoBulk d:=by
 cases d with
 |lit l=>cases l<;>simp only[Rows.uptoBulk]<;>omega
 |_=>simp only[Rows.uptoBulk];omega
theorem aBp{H:Type}{d:DataW H}:∀{l:List (DataW H)},d ∈ l→Rows.uptoBulk d≤Rows.uptoBulkAll l
 |[],h=>by cases h
 |x::r,h=>by
  simp only[Rows.uptoBulkAll];rcases List.mem_cons.1 h with e|e
  ·subst e;omega
  ·have:=aBp e;omega
theorem aBy{H:Type}:∀l:List (DataW H),l.length≤Rows.uptoBulkAll l
 |[]=>aI _
 |x::r=>by
  have h1:=aJf x;have h2:=aBy r;simp only[Rows.uptoBulkAll,bI];omega
theorem tK{H:Type}{len:Nat}{D:Nat→DataW H}{E:List (DataW H)}{s:Nat→ByteArray}(hk:Rows.uptoSmall H ([DataW.slice ((List.range len).map D) E]++[])=true)
 (hs:∀i,i<len→∃ds:List (DataW H),D i= .agg ds∧ds[4]?=some (.lit (.string (s i).data.toList))):
 len≤1048576∧∀i,i<len→(s i).size≤1048576:=by
 have h:=of_decide_eq_true hk;simp only[aC,Rows.uptoBulkAll,Rows.uptoBulk]at h;refine⟨?_,fun i hi=>?_⟩
 ·have:=aBy ((List.range len).map D);simp only[bO,List.length_range]at this;omega
 ·obtain⟨ds,e,c⟩:=hs i hi;have a:=aBp (d:=D i) (l:=(List.range len).map D) (bQ.2 ⟨i,List.mem_range.2 hi,rfl⟩);rw[e]at a;simp only[Rows.uptoBulk]at a;have b:=aBp (List.mem_of_getElem? c);simp only[Rows.uptoBulk,Array.length_toList]at b;have:(s i).size=(s i).data.size:=rfl;omega
end Go.Proofs.YtbbdgokdfhdpiaaGreatDoor
