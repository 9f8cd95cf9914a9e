/- A part of the proof: PErr, BldLay, Lex4, ChkPlays, Bulk. -/
import Derived.ChangeAlike
import Derived.Conc.EventLaws
import Derived.Deep.Slices
import Derived.Defers
import Derived.LaidEql
import Derived.Laws.CopyRow
import Derived.Lib.EndianBits
import Derived.Maps.Own
import Derived.Maps.OwnOps
import Derived.Maps.OwnSet
import Derived.Maps.RangeWalk
import Derived.OwnWalk
import Derived.ProofKit
import Derived.RowKitTokens
import Derived.Shelf.SlIterI.Nil
import Derived.Shelf.SlMaps.Clone
import Derived.Shelf.SortM.Plain
import Derived.Shelf.SortM.SortNone
import Derived.Shelf.Strings.Builder1
import Derived.Stop.Asserts
import Derived.Test.YtbbdgokdfhdpiaaGreatDoorRows
import Derived.Test.YtbbdgokdfhdpiaaGreatDoorD1
namespace Go.Proofs.YtbbdgokdfhdpiaaGreatDoor
set_option linter.all false
set_option maxRecDepth 100000
set_option maxHeartbeats 40000000
open Go.Proofs.Tryz Go.RowKit
section
open Go.RowKit Go.Extern.Stop Go.Stop Go.Extern
theorem aJd(b:Addr)(w:World):Calls prog 167 #[.nilIface,.iface 328 (.pointer (some b))] w fun e w'=>e= .returned (.bool false)∧w'=w:=by
 have a:=run_eql_iface_nil_left (P:=prog) w 328 (.pointer (some b)) underlying202;go_enter func167,ntmps167;go_wp2;go_ret;exact⟨rfl,rfl⟩
theorem aG6(v:Value)(w:World):(ReflectliteType.typeOf #[.iface 328 v]).run prog w= .ok (.iface 295 (.agg #[.pointer (some ⟨2,328,none⟩)])) w:=by kernel_rfl
theorem aBo(w:World):(callFunc 271 #[.agg #[.pointer (some ⟨2,328,none⟩)]]).run prog w= .ok (.value (.bool true)) w:=by kernel_rfl
theorem sT(v:Value)(w:World):(Go.method 457 295 v "Comparable").run prog w= .ok (271,v) w:=by kernel_rfl
theorem aJu:(prog.info? 328).map (·.comparable)=some true:=by kernel_rfl
theorem aJa:(prog.info? 346).map (·.size)=some 1:=by kernel_rfl
section
variable (v:Value) (xT:TypeId) (w:World)
theorem aJF:(Instr.typeAssert (.iface 234 v) xT 297 true).run prog w= .ok (.tuple #[.nilIface,.bool false]) w:=run_typeAssert_lacksB underlying297 (by kernel_rfl) (by kernel_rfl) v xT w
theorem aDg:(Instr.typeAssert (.iface 234 v) xT 300 true).run prog w= .ok (.tuple #[.iface 234 v,.bool true]) w:=run_typeAssert_hasB underlying300 (by kernel_rfl) v xT w
end
theorem aBD(v:Value)(w:World):(Go.method 457 234 v "Unwrap").run prog w= .ok (265,v) w:=by kernel_rfl
theorem aHp(fb:Nat)(b:Addr)(w:World)(h1:w.cell? ⟨fb,2,none⟩=some (.iface 328 (.pointer (some b)))):
 Calls prog 167 #[.iface 234 (.pointer (some ⟨fb,0,none⟩)),.iface 328 (.pointer (some b))] w fun e w'=>e= .returned (.bool true)∧w'=w:=by
 obtain⟨i,d,a⟩:=Option.map_eq_some_iff.1 aJu;obtain⟨j,c,h⟩:=Option.map_eq_some_iff.1 aJa;have l:= @run_callFunc_extern prog 190 _ ReflectliteType.typeOf func190 (by kernel_rfl) (by kernel_rfl) (by kernel_rfl) (by kernel_rfl);have q:=aG6;have o:=aBo;have m:=sT;have n:=aJF;have k:=aDg;have p:=aBD;have f:=run_eql_iface_ptr_same (P:=prog) w b underlying202 underlying328 d a c;have g:=run_eql_iface_types (P:=prog) 234 328 (.pointer (some ⟨fb,0,none⟩)) (.pointer (some b)) underlying202 (by decide) w;go_enter func167,ntmps167;go_wp2;refine wp_loop_rounds 2 ?_;rw[rounds_succ];go_wp2;rw[rounds_succ];go_wp2;go_ret;exact⟨rfl,rfl⟩
end
section
open Go.Shelf
def lays169_ren:Go.Shelf.Ren:=⟨fun|169=>223|n=>n,fun|70=>310|9=>9|0=>0|72=>312|37=>218|127=>322|3=>3|5=>5|n=>n,fun|n=>n⟩
theorem lays169:Go.Proofs.Lays.n169 prog lays169_ren:={
 mixed:=by kernel_rfl
 f169:=func223.trans (congrArg some (by kernel_rfl))
 t0:=underlying0
 a0:=isAgg0
 z0:=sizeOf0
 v0:=zeroValue0
 t3:=underlying3
 a3:=isAgg3
 z3:=sizeOf3
 v3:=zeroValue3
 t9:=underlying9
 a9:=isAgg9
 z9:=sizeOf9
 v9:=zeroValue9
 t37:=underlying218
 a37:=isAgg218
 z37:=sizeOf218
 v37:=zeroValue218
 t70:=underlying310
 a70:=isAgg310
 z70:=sizeOf310
 v70:=zeroValue310
 t72:=underlying312
 a72:=isAgg312
 z72:=sizeOf312
 v72:=zeroValue312
 t127:=underlying322
 a127:=isAgg322
 z127:=sizeOf322
 v127:=zeroValue322}
theorem Builder_Extra_169:Builder.Extra prog lays169_ren:={
 sizeBuilder:=by kernel_rfl
 liesBuilder:=by kernel_rfl
 t5:=underlying5
 a5:=isAgg5
 z5:=sizeOf5
 v5:=zeroValue5
 infoByte:=by kernel_rfl
 cellsByte:=by kernel_rfl
 sizeByte:=by kernel_rfl
 neB5:=by decide}
open Go.RowKit in
theorem Builder_String_any(B b:Nat)(l:List UInt8)(w:World)(h:Lib.IsBuilder 312 5 B b (Lib.byteCells l) w)(hBw:B≤w.heap.size):
 Calls prog 223 #[.pointer (some ⟨b,0,none⟩)] w fun e w'=>e= .returned (.string ⟨l.toArray⟩)∧Below B w w':=Any.Builder_String_any lays169 Builder_Extra_169 B b l w h hBw
end
theorem rJ{P:Program}{fn:Func}{R:Ending→World→Prop}{t t':Array Value}(h:∀w,(results fn t').run P w=(results fn t).run P w):
 ∀(ds:List Deferred) (u:FrameMode) (w:World),Leaves P fn t' R ds u w→Leaves P fn t R ds u w
 |[],.returning,w,hl=>by
  obtain⟨v,h1,h2⟩:=hl;exact⟨v,(h w).symm.trans h1,h2⟩
 |[],.panicking c,w,hl=>hl
 |[],.run,w,hl=>hl
 |d::ds,u,w,hl=>by
  obtain⟨h1,fv,cap,f,args,h2,h3,h4⟩:=hl;refine⟨h1,fv,cap,f,args,h2,h3,h4.mono ?_⟩;intro e u' w' he;cases e with
  |returned v=>exact rJ h ds _ _ he
  |panicked c=>exact rJ h ds _ _ he
  |outgrown=>exact he
abbrev W0:Obj:=.cells #[.slice none 0 0,.slice none 0 0,.slice none 0 0,.slice none 0 0,.slice none 0 0,.slice none 0 0,.slice none 0 0,.int .i64 0] 80
theorem aHn{H:Type}(d:DataW H):0<Rows.uptoBulk d:=by
 cases d with
 |lit l=>cases l<;>simp only[Rows.uptoBulk]<;>omega
 |_=>simp only[Rows.uptoBulk];omega
theorem aCu{H:Type}{d:DataW H}:∀{l:List (DataW H)},d ∈ l→Rows.uptoBulk d≤Rows.uptoBulkAll l
 |[],h=>by cases h
 |x::r,h=>by
  simp only[Rows.uptoBulkAll];rcases List.mem_cons.1 h with e|e
  ·subst e;omega
  ·have:=aCu e;omega
theorem zU{H:Type}:∀l:List (DataW H),l.length≤Rows.uptoBulkAll l
 |[]=>aI _
 |x::r=>by
  have h1:=aHn x;have h2:=zU r;simp only[Rows.uptoBulkAll,bH];omega
end Go.Proofs.YtbbdgokdfhdpiaaGreatDoor
