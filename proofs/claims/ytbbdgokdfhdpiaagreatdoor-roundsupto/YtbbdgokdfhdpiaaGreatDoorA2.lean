/- A part. -/
import Derived.ChangeAlike
import Derived.ChangeMaps5
import Derived.Conc.EventLaws
import Derived.Conc.LoneSelect
import Derived.Deep.AppendLies
import Derived.Deep.DrawnRows
import Derived.Deep.RegionLaw
import Derived.Defers
import Derived.KernelRfl
import Derived.LaidEql
import Derived.Laws.CopyRow
import Derived.Lib.SliceRun
import Derived.MapKept
import Derived.Maps.RangeWalk
import Derived.OrdersHeld
import Derived.OwnWalk
import Derived.Recover
import Derived.RowKitTokens
import Derived.Shelf.SlMaps.Clone
import Derived.Shelf.Strings.Builder1
import Derived.StillTail
import Derived.Stop.Asserts
import Derived.Tactics
import Derived.Test.YtbbdgokdfhdpiaaGreatDoorA1
namespace Go.Proofs.YtbbdgokdfhdpiaaGreatDoor
set_option linter.all false
set_option maxRecDepth 100000
set_option maxHeartbeats 0
open Go.Proofs.Tryz Go.RowKit
section
open Go.RowKit Go.Extern.Stop Go.Stop Go.Extern
theorem aKI(b:Addr)(w:World):Calls prog 167 #[.nilIface,.iface 328 (.pointer (some b))] w fun e w'=>e= .returned (.bool false)∧w'=w:=by
 have a:=run_eql_iface_nil_left (P:=prog) w 328 (.pointer (some b)) underlying202;go_enter func167,ntmps167;go_wp2;go_ret;exact⟨rfl,rfl⟩
theorem aI2(v:Value)(w:World):(ReflectliteType.typeOf #[.iface 328 v]).run prog w= .ok (.iface 295 (.agg #[.pointer (some ⟨2,328,none⟩)])) w:=by kernel_rfl
theorem aCZ(w:World):(callFunc 271 #[.agg #[.pointer (some ⟨2,328,none⟩)]]).run prog w= .ok (.value (.bool true)) w:=by kernel_rfl
theorem wD(v:Value)(w:World):(Go.method 457 295 v "Comparable").run prog w= .ok (271,v) w:=by kernel_rfl
theorem aKU:(prog.info? 328).map (·.comparable)=some true:=by kernel_rfl
theorem aKE:(prog.info? 346).map (·.size)=some 1:=by kernel_rfl
section
variable (v:Value) (xT:TypeId) (w:World)
theorem aK1:(Instr.typeAssert (.iface 234 v) xT 297 true).run prog w= .ok (.tuple #[.nilIface,.bool false]) w:=run_typeAssert_lacksB underlying297 (by kernel_rfl) (by kernel_rfl) v xT w
theorem aE8:(Instr.typeAssert (.iface 234 v) xT 300 true).run prog w= .ok (.tuple #[.iface 234 v,.bool true]) w:=run_typeAssert_hasB underlying300 (by kernel_rfl) v xT w
end
theorem aDn(v:Value)(w:World):(Go.method 457 234 v "Unwrap").run prog w= .ok (265,v) w:=by kernel_rfl
theorem aJm(fb:Nat)(b:Addr)(w:World)(h1:w.cell? ⟨fb,2,none⟩=some (.iface 328 (.pointer (some b)))):
 Calls prog 167 #[.iface 234 (.pointer (some ⟨fb,0,none⟩)),.iface 328 (.pointer (some b))] w fun e w'=>e= .returned (.bool true)∧w'=w:=by
 obtain⟨i,d,a⟩:=Option.map_eq_some_iff.1 aKU;obtain⟨j,c,h⟩:=Option.map_eq_some_iff.1 aKE;have l:= @run_callFunc_extern prog 190 _ ReflectliteType.typeOf func190 (by kernel_rfl) (by kernel_rfl) (by kernel_rfl) (by kernel_rfl);have q:=aI2;have o:=aCZ;have m:=wD;have n:=aK1;have k:=aE8;have p:=aDn;have f:=run_eql_iface_ptr_same (P:=prog) w b underlying202 underlying328 d a c;have g:=run_eql_iface_types (P:=prog) 234 328 (.pointer (some ⟨fb,0,none⟩)) (.pointer (some b)) underlying202 (by decide) w;go_enter func167,ntmps167;go_wp2;refine wp_loop_rounds 2 ?_;rw[rounds_succ];go_wp2;rw[rounds_succ];go_wp2;go_ret;exact⟨rfl,rfl⟩
end
section
open Go.Shelf
def lays169_ren:Go.Shelf.Ren:=⟨fun|169=>223|n=>n,fun|70=>310|9=>9|0=>0|72=>312|37=>218|127=>322|3=>3|5=>5|n=>n,fun|n=>n⟩
theorem lays169:Go.Proofs.Lays.n169 prog lays169_ren:={
 mixed:=by kernel_rfl
 f169:=func223.trans (congrArg some (by kernel_rfl))
 t0:=underlying0
 a0:=isAgg0
 z0:=sizeOf0
 v0:=zeroValue0
 t3:=underlying3
 a3:=isAgg3
 z3:=sizeOf3
 v3:=zeroValue3
 t9:=underlying9
 a9:=isAgg9
 z9:=sizeOf9
 v9:=zeroValue9
 t37:=underlying218
 a37:=isAgg218
 z37:=sizeOf218
 v37:=zeroValue218
 t70:=underlying310
 a70:=isAgg310
 z70:=sizeOf310
 v70:=zeroValue310
 t72:=underlying312
 a72:=isAgg312
 z72:=sizeOf312
 v72:=zeroValue312
 t127:=underlying322
 a127:=isAgg322
 z127:=sizeOf322
 v127:=zeroValue322}
theorem Builder_Extra_169:Builder.Extra prog lays169_ren:={
 sizeBuilder:=by kernel_rfl
 liesBuilder:=by kernel_rfl
 t5:=underlying5
 a5:=isAgg5
 z5:=sizeOf5
 v5:=zeroValue5
 infoByte:=by kernel_rfl
 cellsByte:=by kernel_rfl
 sizeByte:=by kernel_rfl
 neB5:=by decide}
open Go.RowKit in
theorem Builder_String_any(B b:Nat)(l:List UInt8)(w:World)(h:Lib.IsBuilder 312 5 B b (Lib.byteCells l) w)(hBw:B≤w.heap.size):
 Calls prog 223 #[.pointer (some ⟨b,0,none⟩)] w fun e w'=>e= .returned (.string ⟨l.toArray⟩)∧Below B w w':=Any.Builder_String_any lays169 Builder_Extra_169 B b l w h hBw
end
theorem uU{P:Program}{fn:Func}{R:Ending→World→Prop}{t t':Array Value}(h:∀w,(results fn t').run P w=(results fn t).run P w):
 ∀(ds:List Deferred) (u:FrameMode) (w:World),Leaves P fn t' R ds u w→Leaves P fn t R ds u w
 |[],.returning,w,hl=>by
  obtain⟨v,h1,h2⟩:=hl;exact⟨v,(h w).symm.trans h1,h2⟩
 |[],.panicking c,w,hl=>hl
 |[],.run,w,hl=>hl
 |d::ds,u,w,hl=>by
  obtain⟨h1,fv,cap,f,args,h2,h3,h4⟩:=hl;refine⟨h1,fv,cap,f,args,h2,h3,h4.mono ?_⟩;intro e u' w' he;cases e with
  |returned v=>exact uU h ds _ _ he
  |panicked c=>exact uU h ds _ _ he
  |outgrown=>exact he
def aEP(w w':World)(v v':Value):Prop:=(v.ownBlock≠none∧v'.ownBlock=v.ownBlock∧w.grownBy w' v.ownBlock)∨(v'.ownBlock=some w.heap.size∧w.grownBy w' none)
section
variable {P:Program}(w:World)
theorem zB(base:Nat)(t ty e:TypeId)(i:TypeInfo)(z:Value)(size bytes:Nat)(ht:P.underlying t=some (.slice e))(hi:P.info? e=some i)(hz:i.zero=some z)
 (hsize:i.size=size) (hby:i.bytes=bytes) (hzs:z.cells.size=size) (hsz:0<size)
 (v:Value) (n:Nat) (xs:List Value) (hown:w.ownsRow base e size v n xs)
 (a:Addr) (m c:Nat) (news:List Value) (hl:news.length=m*size) (hnews:∀j u,news[j]?=some u→w.cell? (a.add j)=some u) (h1:∀u ∈ news,u.oneCell'=true)
 (hm:0<m) (h63:n+m≤maxLen) (hbytes:(n+m)*bytes≤140737488355328) (hbase:base≤w.heap.size):
 ∃v' w',(Builtin.append_ #[t,t] ty #[v,.slice (some a) m c]).run P w= .ok v' w'∧w'.ownsRow base e size v' (n+m) (xs++news)∧w'.ownsRow base e size v n xs∧
  aEP w w' v v':=by
 obtain⟨v',w',s,b,K,_,F⟩:=run_append_own_at (P:=P) w base t ty e i z size bytes ht hi hz hsize hby hzs hsz v n xs hown a m c news hl hnews h1 h63 hbytes hbase;subst hsize;subst hby;have q:∃g,v'.ownBlock=some g:=by
  rcases b.2 with⟨_,h⟩|⟨g,d,l,rfl,_⟩
  ·omega
  ·exact⟨g,rfl⟩
 rcases hown.2 with⟨rfl,rfl⟩|⟨g,d,l,rfl,H,y,I,E,J,p⟩
 ·have B:v'.ownBlock=some w.heap.size:=by
   rcases F with h|h
   ·obtain⟨g,G⟩:=q;rw[G]at h;cases h
   ·exact h
  exact⟨v',w',s,b,⟨hown.1,Or.inl ⟨rfl,rfl⟩⟩,Or.inr ⟨B,K⟩⟩
 ·by_cases o:n+m≤d
  ·have C:n*i.size+news.length≤l.size:=by rw[hl,J,←Nat.add_mul];exact Nat.mul_le_mul_right _ o
   have f:=run_append_room (P:=P) w t ty e i ht hi g n d l y a m c news hl hnews h1 o C;rw[f]at s;cases s;refine⟨_,_,f,b,⟨hown.1,.inr ⟨g,d,_,rfl,H,setRow_heap w g l _ e _ y,I,E,?_,?_⟩⟩,Or.inl ⟨by simp[Value.ownBlock],rfl,K⟩⟩
   ·simp only[List.size_toArray,aD,bD,aV,Array.length_toList];omega
   ·have A:(l.toList.take (n*i.size)).length=n*i.size:=by rw[p];exact hown.1
    rw[aS,List.take_left' A,p]
  ·have r:=hown.cells (g:=g) rfl;have D:n+m≤9223372036854775807:=by simp only[maxLen]at h63;omega
   have f:=run_append_grow (P:=P) w t ty e i z ht hi hz ⟨g,0,none⟩ n d xs hown.1 r a m c news hl hnews (by omega) (by omega) (growslice_fits (by omega) hbytes);rw[f]at s;cases s;have x:w.grownBy (w.drew.alloc (.cells (xs.toArray++news.toArray++Builtin.zeroCells z.cells (grownCap w (n+m) d e-(n+m))) e)) none:=⟨rfl,rfl,rfl,by simp,fun k hk _=>by first|exact heap_alloc_old w.drew _ k hk|exact heap_alloc_old w.drew _ hk⟩;exact⟨_,_,f,b,hown.kept x (Or.inr (by simp[Value.ownBlock])),Or.inr ⟨rfl,x⟩⟩
theorem lN{ops:Array Oper}{rest:List Oper}{o:Oper}{a:Act}{Q:Exit→Act→World→Prop}(hgd:o.guard=none)(s x:Operand)(t:TypeId)
 (ho:o.op= .call {callee:=.builtin .append,args:=#[s,x],argTypes:=#[t,t]})
 (base:Nat) (e:TypeId) (i:TypeInfo) (z:Value) (size bytes:Nat) (ht:P.underlying t=some (.slice e)) (hi:P.info? e=some i) (hz:i.zero=some z)
 (hsize:i.size=size) (hby:i.bytes=bytes) (hzs:z.cells.size=size) (hsz:0<size)
 (v:Value) (n:Nat) (xs:List Value) (hs:a.eval s=v) (hown:w.ownsRow base e size v n xs)
 (ad:Addr) (m c:Nat) (news:List Value) (hx:a.eval x= .slice (some ad) m c) (hl:news.length=m*size) (hnews:∀j u,news[j]?=some u→w.cell? (ad.add j)=some u) (h1:∀u ∈ news,u.oneCell'=true)
 (hm:0<m) (h63:n+m≤maxLen) (hbytes:(n+m)*bytes≤140737488355328) (hbase:base≤w.heap.size)
 (h:∀v' w',w'.ownsRow base e size v' (n+m) (xs++news)→w'.ownsRow base e size v n xs→aEP w w' v v'→wpList P ops Q rest (a.put o.dst v') w'):
 wpList P ops Q (o::rest) a w:=by
 refine wpList_plain hgd fun K hK=>?_;obtain⟨v',w',hr,h2,h3,h4⟩:=zB (P:=P) w base t o.type e i z size bytes ht hi hz hsize hby hzs hsz v n xs hown ad m c news hl hnews h1 hm h63 hbytes hbase;unfold Oper.wp execOp;simp only[ho,resolve,invoke,builtin,aT,Sem.run_pure,Result.andThen_ok,List.map_toArray,List.map_cons,List.map_nil,hs,hx,hr];exact hK _ _ (h v' w' h2 h3 h4)
end
def pickOf(k:Int)(n:Nat):Nat:=if k<0∨(n:Int)≤k then 0 else k.toNat
theorem pF(k:Int){n:Nat}(h:1≤n):pickOf k n<n:=by
 unfold pickOf;split<;>omega
theorem aBL(k:Int)(n:Nat)(W:World):
 Calls prog 72 #[.int .i64 k,.int .i64 (n:Int)] W fun e W'=>e= .returned (.int .i64 ((pickOf k n:Nat):Int))∧W'=W:=by
 by_cases b:k<0
 ·have e:pickOf k n=0:=if_pos (Or.inl b);rw[e];go_enter func72,ntmps72;go_wp2;go_ret;exact⟨rfl,rfl⟩
 ·by_cases a:(n:Int)≤k
  ·have e:pickOf k n=0:=if_pos (Or.inr a);rw[e];go_enter func72,ntmps72;go_wp2;go_ret;exact⟨rfl,rfl⟩
  ·have e:((pickOf k n:Nat):Int)=k:=by
    unfold pickOf;rw[if_neg (by omega)];omega
   rw[e];go_enter func72,ntmps72;go_wp2;go_ret;exact⟨rfl,rfl⟩
end Go.Proofs.YtbbdgokdfhdpiaaGreatDoor
