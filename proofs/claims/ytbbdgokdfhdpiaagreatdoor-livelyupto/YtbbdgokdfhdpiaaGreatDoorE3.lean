/- A part of the proof: PErr. -/
import Derived.ChangeMaps5
import Derived.Conc.EventLaws
import Derived.Conc.LoneSelect
import Derived.Deep.AppendLies
import Derived.Deep.DrawnRows
import Derived.Deep.RegionLaw
import Derived.KernelRfl
import Derived.LaidEql
import Derived.Laws.CopyRow
import Derived.MapKept
import Derived.Maps.Own
import Derived.Maps.OwnOps
import Derived.Maps.OwnSet
import Derived.Maps.RangeWalk
import Derived.OrdersHeld
import Derived.OwnWalk
import Derived.RowKitTokens
import Derived.Shelf.SlIterI.Nil
import Derived.Shelf.SlMaps.Clone
import Derived.Shelf.SortM.Plain
import Derived.Shelf.SortM.SortNone
import Derived.StillTail
import Derived.Stop.Asserts
import Derived.Test.YtbbdgokdfhdpiaaGreatDoorE1
namespace Go.Proofs.YtbbdgokdfhdpiaaGreatDoor
set_option linter.all false
set_option maxRecDepth 100000
set_option maxHeartbeats 40000000
open Go.Proofs.Tryz Go.RowKit
section
open Go.RowKit Go.Extern.Stop Go.Stop Go.Extern
theorem aHq(b:Addr)(w:World):Calls prog 167 #[.nilIface,.iface 328 (.pointer (some b))] w fun e w'=>e= .returned (.bool false)∧w'=w:=by
 have a:=run_eql_iface_nil_left (P:=prog) w 328 (.pointer (some b)) underlying202;go_enter func167,ntmps167;go_wp2;go_ret;exact⟨rfl,rfl⟩
theorem aFv(v:Value)(w:World):(ReflectliteType.typeOf #[.iface 328 v]).run prog w= .ok (.iface 295 (.agg #[.pointer (some ⟨2,328,none⟩)])) w:=by kernel_rfl
theorem aAA(w:World):(callFunc 271 #[.agg #[.pointer (some ⟨2,328,none⟩)]]).run prog w= .ok (.value (.bool true)) w:=by kernel_rfl
theorem rN(v:Value)(w:World):(Go.method 457 295 v "Comparable").run prog w= .ok (271,v) w:=by kernel_rfl
theorem aHD:(prog.info? 328).map (·.comparable)=some true:=by kernel_rfl
theorem aHo:(prog.info? 346).map (·.size)=some 1:=by kernel_rfl
section
variable (v:Value) (xT:TypeId) (w:World)
theorem aHO:(Instr.typeAssert (.iface 234 v) xT 297 true).run prog w= .ok (.tuple #[.nilIface,.bool false]) w:=run_typeAssert_lacksB underlying297 (by kernel_rfl) (by kernel_rfl) v xT w
theorem aCe:(Instr.typeAssert (.iface 234 v) xT 300 true).run prog w= .ok (.tuple #[.iface 234 v,.bool true]) w:=run_typeAssert_hasB underlying300 (by kernel_rfl) v xT w
end
theorem aAO(v:Value)(w:World):(Go.method 457 234 v "Unwrap").run prog w= .ok (265,v) w:=by kernel_rfl
theorem aFM(fb:Nat)(b:Addr)(w:World)(h1:w.cell? ⟨fb,2,none⟩=some (.iface 328 (.pointer (some b)))):
 Calls prog 167 #[.iface 234 (.pointer (some ⟨fb,0,none⟩)),.iface 328 (.pointer (some b))] w fun e w'=>e= .returned (.bool true)∧w'=w:=by
 obtain⟨i,d,a⟩:=Option.map_eq_some_iff.1 aHD;obtain⟨j,c,h⟩:=Option.map_eq_some_iff.1 aHo;have l:= @run_callFunc_extern prog 190 _ ReflectliteType.typeOf func190 (by kernel_rfl) (by kernel_rfl) (by kernel_rfl) (by kernel_rfl);have q:=aFv;have o:=aAA;have m:=rN;have n:=aHO;have k:=aCe;have p:=aAO;have f:=run_eql_iface_ptr_same (P:=prog) w b underlying202 underlying328 d a c;have g:=run_eql_iface_types (P:=prog) 234 328 (.pointer (some ⟨fb,0,none⟩)) (.pointer (some b)) underlying202 (by decide) w;go_enter func167,ntmps167;go_wp2;refine wp_loop_rounds 2 ?_;rw[rounds_succ];go_wp2;rw[rounds_succ];go_wp2;go_ret;exact⟨rfl,rfl⟩
end
end Go.Proofs.YtbbdgokdfhdpiaaGreatDoor
