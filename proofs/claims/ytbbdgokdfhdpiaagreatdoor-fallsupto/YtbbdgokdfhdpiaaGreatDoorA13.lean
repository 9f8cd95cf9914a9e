/- A part. -/
import Derived.Test.YtbbdgokdfhdpiaaGreatDoorA12
namespace Go.Proofs.YtbbdgokdfhdpiaaGreatDoor
set_option linter.all false
set_option maxRecDepth 100000
set_option maxHeartbeats 0
open Go.Proofs.Tryz Go.RowKit
theorem zZ(fn:Func)(hr:fn.results=#[.cell 6 56,.cell 7 70,.tmp 8])(tmps:Array Value)(x y:Nat)(r:Vl)(m:Ev)(q:Bool)(W:World)(h4:tmps.getD 6 undef= .pointer (some ⟨x,0,none⟩))(h5:tmps.getD 7 undef= .pointer (some ⟨y,0,none⟩))(h6:tmps.getD 8 undef= .bool q)(hb:W.heap[x]?=some (.cells (vlL r).toArray 56 (0,0)))(hc:W.heap[y]?=some (.cells (evL m).toArray 70 (0,0))):
 (results fn tmps).run prog W= .ok (.tuple #[vlV r,evV m,.bool q]) W:=by
 have b:(loadVar 56 ⟨x,0,none⟩).run prog W= .ok (vlV r) W:=fC W ⟨x,0,none⟩ 56 (vlL r) _ (cR hb) underlying56 rfl (by kernel_rfl);have a:(loadVar 70 ⟨y,0,none⟩).run prog W= .ok (evV m) W:=fC W ⟨y,0,none⟩ 70 (evL m) _ (cR hc) underlying70 rfl (by kernel_rfl);unfold results;rw[hr];simp only[cK]at h4 h5 h6;simp[h4,h5,h6,asAddr,aT,b,a]
structure FoSt(W0 W:World)(own:Nat→Nat)(y:Nat)(x:Rm)(V:RmV)(v A:Vl)(E:Ev):Prop where
 rm:RmAt W own y x V
 bv:W.heap[W0.heap.size]?=some (.cells (vlL v).toArray 56 (0,0))
 b6:W.heap[W0.heap.size+1]?=some (.cells (vlL A).toArray 56 (0,0))
 b7:W.heap[W0.heap.size+2]?=some (.cells (evL E).toArray 70 (0,0))
 be:Below W0.heap.size W0 W
 o6:own (W0.heap.size+1)=0
 o7:own (W0.heap.size+2)=0
section
variable {W0 W W':World}{own:Nat→Nat}{y:Nat}{x:Rm}{V:RmV}{v A A':Vl}{E E':Ev}
theorem FoSt.drew(h:FoSt W0 W own y x V v A E):FoSt W0 W.drew own y x V v A E:=⟨h.rm.drew,h.bv,h.b6,h.b7,⟨h.be.os,h.be.tape,h.be.output,h.be.size,h.be.block⟩,h.o6,h.o7⟩
theorem FoSt.below(h:FoSt W0 W own y x V v A E)(hb:Below W.heap.size W W'):FoSt W0 W' own y x V v A E:=
 ⟨h.rm.kept (Chg.of_below (S:=NoS) hb) (fun _ _ h=>h),(hb.block _ (dG h.bv)).trans h.bv,(hb.block _ (dG h.b6)).trans h.b6,(hb.block _ (dG h.b7)).trans h.b7,h.be.trans (hb.mono h.be.size),h.o6,h.o7⟩
theorem FoSt.put6(h:FoSt W0 W own y x V v A E)(hc:Chg (fun k=>k=W0.heap.size+1) W W')(hb:W'.heap[W0.heap.size+1]?=some (.cells (vlL A').toArray 56 (0,0))):FoSt W0 W' own y x V v A' E:=
 ⟨h.rm.kept hc (fun k hk e=>by subst e;exact hk h.o6),hc.kept h.bv (by omega),hb,hc.kept h.b7 (by omega),h.be.trans (hc.below (fun k hk=>by omega) h.be.size),h.o6,h.o7⟩
theorem FoSt.put7(h:FoSt W0 W own y x V v A E)(hc:Chg (fun k=>k=W0.heap.size+2) W W')(hb:W'.heap[W0.heap.size+2]?=some (.cells (evL E').toArray 70 (0,0))):FoSt W0 W' own y x V v A E':=
 ⟨h.rm.kept hc (fun k hk e=>by subst e;exact hk h.o7),hc.kept h.bv (by omega),hc.kept h.b6 (by omega),hb,h.be.trans (hc.below (fun k hk=>by omega) h.be.size),h.o6,h.o7⟩
theorem FoSt.rc(h:FoSt W0 W own y x V v A E){i:Nat}(hi:i<x.cls.length){c:Rc}(hc:x.cls[i]=c){B:Nat}(hB:B=V.bC i):RcAt W B c (V.mv i) (V.hv i) (V.bv i):=by
 have:=h.rm.cls i hi;rw[hc]at this;rw[hB];exact this
end
theorem aH7{P:Program}(id:Nat){ops:Array Oper}{Q:Exit→Act→World→Prop}{a:Act}{w:World}(h:(Code.region id ops true).wp P Q a w):(Code.region id ops true).wp P Q a w:=h
abbrev FoR(n B:Nat)(v:Vl)(c:Rc)(mv:Value)(z:World):Prop:=
 (∀j u,(vlL v)[j]?=some u→z.cell? ((⟨n,0,none⟩:Addr).add j)=some u)∧z.cell? ⟨n,0,none⟩=some (.int .i64 v.own)∧z.cell? ⟨n,1,none⟩=some (.int .i64 v.tok)∧z.cell? ⟨B,44,none⟩=some (.int .i64 c.bal)∧z.cell? ⟨B,40,none⟩=some (.int .i64 c.ttl)∧z.cell? ⟨B,43,none⟩=some mv
theorem FoSt.rd{W0 W:World}{own:Nat→Nat}{y:Nat}{x:Rm}{V:RmV}{v A:Vl}{E:Ev}(h:FoSt W0 W own y x V v A E){i:Nat}(hi:i<x.cls.length){c:Rc}{B:Nat}(hc:x.cls[i]=c∧B=V.bC i){mv:Value}(hm:V.mv i=mv):FoR W0.heap.size B v c mv W:=by
 have q:=h.rc hi hc.1 hc.2;exact⟨cR h.bv,cO h.bv 0 _ rfl,cO h.bv 1 _ rfl,q.cell 44 _ rfl,q.cell 40 _ rfl,hm▸q.cell 43 _ rfl⟩
theorem aDv(W:World)(own:Nat→Nat)(y:Nat)(x:Rm)(V:RmV)(i:Nat)(c:Rc)(N:Int)(v:Vl)(h:RmAt W own y x V)(hi:i<x.cls.length)(hc:x.cls[i]=c)(ha:RcA N c)(hbs:RcB x.cf N c)(hN:N≤90000000000)(hv0:0≤v.ttl)(hv1:v.ttl≤1000)(hvs:0≤v.seq)(hvs1:v.seq≤2147483647)(hd0:0≤x.cf.drift)(hd1:x.cf.drift≤10):
 Calls prog 215 #[.pointer (some ⟨y,0,none⟩),.pointer (some ⟨V.bC i,0,none⟩),vlV v] W fun r W'=>r= .returned (.tuple #[vlV (iV x.cf c v).1.next,evV (fEv (iV x.cf c v).1.res (iV x.cf c v).1.own (iV x.cf c v).1.tok),.bool (iV x.cf c v).2])∧Below W.heap.size W W':=by
 obtain⟨B,hB⟩:=aLz (V.bC i);rw[←hB];obtain⟨k,hk⟩:∃k:Nat,c.lock=(k:Int):=⟨c.lock.toNat,by have:=hbs.l0;omega⟩;have g:k≤3:=by have:=hbs.l3;omega
 have e2:(k:Int)<4:=by omega
 have a9:=cN (fun Z (hZ:RmAt Z own y x V)=>aFv Z own y x V i c N v hZ hi hc ha hbs hN hv0 hv1 hd0 hd1);rw[←hB]at a9;obtain⟨D,b3⟩:=aLz (((W.alloc (.cells (vlL v).toArray 56)).alloc (.cells (vlL zVl).toArray 56)).alloc (.cells (evL zEv).toArray 70));have b8:((W.alloc (.cells #[.int .i64 v.own,.int .i64 v.tok,.int .i64 v.ttl,.int .i64 v.seq] 56)).alloc (.cells #[.int .i64 0,.int .i64 0,.int .i64 0,.int .i64 0] 56)).alloc (.cells #[.int .i64 0,.int .i64 0,.int .i64 0,.int .i64 0,.int .i64 0,.int .i64 0,.int .i64 0,.int .i64 0,.int .i64 0,.int .i64 0,.int .i64 0,.int .i64 0,.int .i64 0,.int .i64 0,.int .i64 0,.int .i64 0,.int .i64 0,.int .i64 0,.int .i64 0] 70)=D:=b3.symm;have G:FoSt W D own y x V v zVl zEv:=by
  have O:∀k,W.heap.size≤k→own k=0:=fun k hk=>by
   rcases cC (own k)with e|e
   ·exact e
   ·have:=h.lt k (by omega);omega
  rw[b3];refine⟨((h.alloc _).alloc _).alloc _,dM _ (dM _ (aA W _)),?_,?_,(((aJ _ W).alloc (aE _) _).alloc (by simp) _).alloc (by simp;omega) _,O _ (by omega),O _ (by omega)⟩
  ·have:=aA (W.alloc (.cells (vlL v).toArray 56)) (.cells (vlL zVl).toArray 56);simp only[bK]at this;exact dM _ this
  ·have:=aA ((W.alloc (.cells (vlL v).toArray 56)).alloc (.cells (vlL zVl).toArray 56)) (.cells (evL zEv).toArray 70);simpa only[bK]using this
 clear b3;have c4:=cN b8;have c8:=cN (aLo hc hB);have b0:D.cell? ⟨B,0,none⟩=some (.int .i64 c.id):=(G.rc hi hc hB).cell 0 _ rfl;have c9:D.cell? ⟨B,39,none⟩=some (.int .i64 k):=by rw[←hk];exact(G.rc hi hc hB).cell 39 _ rfl
 have d5:D.cell? ⟨B,5+k,none⟩=some (.int .i64 (c.tok k)):=(G.rc hi hc hB).cell (5+k) _ (vJ _ _ _ _ k g);have d6:D.cell? ⟨B,38,none⟩=some (.int .i64 c.kind):=(G.rc hi hc hB).cell 38 _ rfl;have w1:IntKind.i64.wrap (c.id+1)=c.id+1:=fV (by have:=ha.d0;omega) (by have:=ha.d3;omega);have v0:D.cell? ⟨W.heap.size,0,none⟩=some (.int .i64 v.own):=cO G.bv 0 _ rfl;have v1:D.cell? ⟨W.heap.size,1,none⟩=some (.int .i64 v.tok):=cO G.bv 1 _ rfl;have Q:=cN G;have a:Hid ((iV x.cf c v)=if c.kind=1 then
  if vN c.mine v.tok=true then(⟨v,1,c.id+1,v.tok⟩,true)
  else if wZ c.mine v.tok=true then(⟨v,0,0,0⟩,false)
  else if v.own=0∨v.own=c.id+1∨rB x.cf c v=true then(⟨⟨c.id+1,c.bal,c.ttl,1⟩,1,c.id+1,c.bal⟩,true)
  else(⟨v,2,v.own,v.tok⟩,true)
 else if c.kind=2 then
  if ownR c v=true then(⟨⟨c.id+1,c.tok k,c.ttl,if v.seq<2147483647 then v.seq+1 else v.seq⟩,1,c.id+1,c.tok k⟩,true)
  else(⟨v,3,0,0⟩,true)
 else if c.kind=3 then
  if ownR c v=true then(⟨⟨0,c.tok k,0,c.bal⟩,1,c.id+1,c.tok k⟩,true)
  else if v.own=0∧vN c.mine v.seq=true then(⟨v,1,c.id+1,v.tok⟩,true)
  else(⟨v,3,0,0⟩,decide (c.mine.length=0)||v.tok==c.tok k)
 else(⟨v,4,v.own,v.tok⟩,true)):=by
  show _=_;unfold iV;rw[hk]
 have a7:ownR c v=(v.own==c.id+1&&v.tok==c.tok k&& !(c.tok k==0)):=by unfold ownR;rw[hk]
 have T:=cN a7;obtain⟨w,hw⟩:=aLA (iV x.cf c v);rw[hw];have s:=cN hw;have HK:=cN hk;have a8:=cN (show D.ownsRow 0 3 1 (V.mv i) c.mine.length (iE c.mine)from(G.rc hi hc hB).mine);have e1:=hbs.mine;have q:=cN (aLo hc hB);clear b8 G h hk a7 hw hc hB c8;generalize c6:c.tok k=tok at*;obtain⟨E,a6⟩:=aLz (c.id+1);rw[←a6]at w1 a T;have e0:wrap64 (c.id+1)=E:=by rw[a6];have:=ha.d0;have:=ha.d3;unfold wrap64;omega
 have d9:1≤E:=by rw[a6];have:=ha.d0;omega
 clear c6 a6;have c5:D.cell? ⟨B,43,none⟩=some (V.mv i):=(Q.out.rc hi q.out.1 q.out.2).cell 43 _ rfl;have d2:D.cell? ⟨B,44,none⟩=some (.int .i64 c.bal):=(Q.out.rc hi q.out.1 q.out.2).cell 44 _ rfl;have d4:D.cell? ⟨B,40,none⟩=some (.int .i64 c.ttl):=(Q.out.rc hi q.out.1 q.out.2).cell 40 _ rfl;have v3:D.cell? ⟨W.heap.size,3,none⟩=some (.int .i64 v.seq):=cO Q.out.bv 3 _ rfl;have w2:IntKind.i64.wrap (v.seq+1)=v.seq+1:=fV (by omega) (by omega);have a3:=cN (fun (Z:World) (hZ:Z.ownsRow 0 3 1 (V.mv i) c.mine.length (iE c.mine))=>aAX Z (V.mv i) c.mine v.tok hZ (by omega));have a1:=cN (fun (Z:World) (hZ:Z.ownsRow 0 3 1 (V.mv i) c.mine.length (iE c.mine))=>aAX Z (V.mv i) c.mine v.seq hZ (by omega));have a2:=cN (fun (Z:World) (hZ:Z.ownsRow 0 3 1 (V.mv i) c.mine.length (iE c.mine))=>aGg Z (V.mv i) c.mine v.tok hZ (by omega));obtain⟨pm,A,a0,_⟩:=vK a8.out;obtain⟨J,b1⟩:=aLA (c.mine.length);rw[b1]at a0 a;rw[show decide (J=0)=((J:Int)==0)from by cases J<;>rfl]at a;have a5:=a8;rw[a0,b1]at a5 a3 a1 a2;rw[a0]at c5;have M:=cN a0;generalize vN c.mine v.tok=qh at a3 a;generalize vN c.mine v.seq=qs at a1 a;generalize wZ c.mine v.tok=qa at a2 a;generalize rB x.cf c v=qt at a9 a;clear a0 b1 a8;have d8:((v.own==E)=false)∨((v.own==E)=true∧(v.tok==tok)=false)∨((v.own==E)=true∧(v.tok==tok)=true∧(tok !=0)=false)∨((v.own==E)=true∧(v.tok==tok)=true∧(tok !=0)=true):=by
  cases (v.own==E)<;>cases (v.tok==tok)<;>cases (tok !=0)<;>simp
 have Y:(!true)=false:=rfl;have ha:(!true)=false:=rfl;have I:((0:Int)==0)=true:=rfl;have L:(!true)=false:=rfl;have P:(!true)=false:=rfl;have S:decide ((0:Int)=0)=true:=rfl;have d:((0:Int)==0)=true:=rfl;have g:((0:Int)==0)=true:=rfl;have p2:(!true)=false:=rfl;have b9:Hid ((c.kind==1)=true∨(c.kind==1)=false∧((c.kind==2)=true∨(c.kind==2)=false∧((c.kind==3)=true∨(c.kind==3)=false))):=cN (by
  cases (c.kind==1)<;>cases (c.kind==2)<;>cases (c.kind==3)<;>simp)
 rcases d8 with H|⟨H,p2⟩|⟨H,p2,p3⟩|⟨H,p2,p3⟩;all_goals
  go_enter func215,ntmps215;go_wp2_with (first|rw[c4.out]);refine eD [0,0,0,0,0,1,0,0,0,1,0] (by kernel_rfl) (fun _ _ _ _=>rfl) ?_;simp only[dC,dB];iterate 11 (apply sB rfl rfl;·(intro x h;(try cases h rfl);go_simp;with_reducible rfl))
  refine cP ?_;try simp only[pA]
  clear c9 d5 b0 c4;have R:=cN Q.out.drew;first
   |refine lQ (p:=Hid (ownR c v=false)) (cN ?_) fun HOQ=>?_
    ·rw[T.out];simp[H]
   |refine lQ (p:=Hid (ownR c v=false)) (cN ?_) fun HOQ=>?_
    ·rw[T.out];simp[H,p2]
   |refine lQ (p:=Hid (ownR c v=false)) (cN ?_) fun HOQ=>?_
    ·rw[T.out];simp[H,p2,(show(tok==0)=true from by simpa[bne]using p3)]
   |refine lQ (p:=Hid (ownR c v=true)) (cN ?_) fun HOQ=>?_
    ·rw[T.out];simp[H,p2,(show(tok==0)=false from by simpa[bne]using p3)]
  clear T;rcases b9.out with m|⟨m,d|⟨d,g|g⟩⟩
 all_goals clear b9
 all_goals first
  |have K:=cN (show(c.kind==1)=true from m)
   go_wp2_with fail;have b4:=cN (a3.out D.drew.drew a5.out);refine eD [0,0,0,1,0,1,1,0] (by kernel_rfl) (fun _ _ _ _=>rfl) ?_;simp only[dC,dB];iterate 6 (apply sB rfl rfl;·(intro x h;(try cases h rfl);go_simp;with_reducible rfl))
   try simp only[pA]
   refine eW (v:=.bool qh) (f:=182) (args:=#[.slice pm J A,.int .i64 v.tok]) rfl (fun z O=>by subst O;go_simp;try rfl) (fun z O=>by subst O;exact b4.out) ?_;(try simp only[pA]);iterate 1 (apply sB rfl rfl;·(intro x h;(try cases h rfl);go_simp;with_reducible rfl))
   refine cP ?_;try simp only[pA]
   go_wp2_with fail;have d1:=cN (a2.out D.drew.drew.drew a5.out);refine eD [0,0,0,1,0,1,1,0] (by kernel_rfl) (fun _ _ _ _=>rfl) ?_;simp only[dC,dB];iterate 6 (apply sB rfl rfl;·(intro x h;(try cases h rfl);go_simp;with_reducible rfl))
   try simp only[pA]
   refine eW (v:=.bool qa) (f:=233) (args:=#[.slice pm J A,.int .i64 v.tok]) rfl (fun z O=>by subst O;go_simp;try rfl) (fun z O=>by subst O;exact d1.out) ?_;(try simp only[pA]);iterate 1 (apply sB rfl rfl;·(intro x h;(try cases h rfl);go_simp;with_reducible rfl))
   refine cP ?_;try simp only[pA]
   have a4:=cN R.out.drew.drew;have U:=cN (show∀j u,(vlL v)[j]?=some u→D.drew.drew.drew.cell? ((⟨W.heap.size,0,none⟩:Addr).add j)=some u from cR a4.out.bv);have c1:=cN (a9.out D.drew.drew.drew a4.out.rm);clear d6 v0 v1 v3 c5 d2 d4 Q R;go_wp2_with (first|(refine cW rfl 56 _ rfl ⟨W.heap.size,0,none⟩ rfl (vlL v) _ U.out underlying56 rfl (by kernel_rfl) ?_)|(go_at_call 234;refine c1.out.mono ?_;rintro e W3 ⟨rfl,c3⟩;refine cQ ?_));have b:=cN (a4.out.below c3);clear c3 U c1 a4;refine cN ?_;have v0:W3.cell? ⟨W.heap.size,0,none⟩=some (.int .i64 v.own):=cO b.out.bv 0 _ rfl;have b2:qh=true∨qh=false∧(qa=true∨qa=false∧((v.own==0)=true∨(v.own==0)=false∧(qt=true∨qt=false))):=by
    cases qh<;>cases qa<;>cases (v.own==0)<;>cases qt<;>simp
   rcases b2 with rfl|⟨rfl,rfl|⟨rfl,I|⟨I,rfl|rfl⟩⟩⟩;all_goals first
    |refine lQ (p:=Hid (w=(⟨v,1,E,v.tok⟩,true))) (cN ?_) fun HR=>?_
     ·rw[←s.out,a.out];simp only[bq m,bq d,bq g,HOQ.out,bq H,Y,ha,bq I,L,P,if_true,if_false,eq_self,aU,true_or,or_true,false_or,or_false,true_and,and_true,false_and,and_false,Bool.true_or,Bool.false_or]
     go_wp2_with fail
    |refine lQ (p:=Hid (w=(⟨v,0,0,0⟩,false))) (cN ?_) fun HR=>?_
     ·rw[←s.out,a.out];simp only[bq m,bq d,bq g,HOQ.out,bq H,Y,ha,bq I,L,P,if_true,if_false,eq_self,aU,true_or,or_true,false_or,or_false,true_and,and_true,false_and,and_false,Bool.true_or,Bool.false_or]
    |refine lQ (p:=Hid (w=(⟨⟨E,c.bal,c.ttl,1⟩,1,E,c.bal⟩,true))) (cN ?_) fun HR=>?_
     ·rw[←s.out,a.out];simp only[bq m,bq d,bq g,HOQ.out,bq H,Y,ha,bq I,L,P,if_true,if_false,eq_self,aU,true_or,or_true,false_or,or_false,true_and,and_true,false_and,and_false,Bool.true_or,Bool.false_or]
     go_wp2_with fail
    |refine lQ (p:=Hid (w=(⟨⟨E,c.bal,c.ttl,1⟩,1,E,c.bal⟩,true))) (cN ?_) fun HR=>?_
     ·rw[←s.out,a.out];simp only[bq m,bq d,bq g,HOQ.out,bq H,Y,ha,bq I,L,P,if_true,if_false,eq_self,aU,true_or,or_true,false_or,or_false,true_and,and_true,false_and,and_false,Bool.true_or,Bool.false_or]
     go_wp2_with fail
    |refine lQ (p:=Hid (w=(⟨v,2,v.own,v.tok⟩,true))) (cN ?_) fun HR=>?_
     ·rw[←s.out,a.out];simp only[bq m,bq d,bq g,HOQ.out,bq H,Y,ha,bq I,L,P,if_true,if_false,eq_self,aU,true_or,or_true,false_or,or_false,true_and,and_true,false_and,and_false,Bool.true_or,Bool.false_or]
     go_wp2_with fail
   all_goals have U:=cN (show∀j u,(vlL v)[j]?=some u→W3.cell? ((⟨W.heap.size,0,none⟩:Addr).add j)=some u from cR b.out.bv)
  |have K:=cN (show(c.kind==2)=true from d)
   have b:=R;have U:=cN (show∀j u,(vlL v)[j]?=some u→D.drew.cell? ((⟨W.heap.size,0,none⟩:Addr).add j)=some u from cR b.out.bv);first
    |refine lQ (p:=Hid (w=(⟨v,3,0,0⟩,true))) (cN ?_) fun HR=>?_
     ·rw[←s.out,a.out];simp only[bq m,bq d,bq g,HOQ.out,bq H,Y,ha,bq I,L,P,if_true,if_false,eq_self,aU,true_or,or_true,false_or,or_false,true_and,and_true,false_and,and_false,Bool.true_or,Bool.false_or]
    |have S:decide (v.seq<2147483647)=true∨decide (v.seq<2147483647)=false:=by cases decide (v.seq<2147483647)<;>simp
     rcases S with S|S;all_goals first
      |refine lQ (p:=Hid (w=(⟨⟨E,tok,c.ttl,v.seq+1⟩,1,E,tok⟩,true))) (cN ?_) fun HR=>?_
       ·rw[←s.out,a.out,if_neg (by rw[bq m];simp),if_pos (by rw[bq d]),if_pos HOQ.out,if_pos (of_decide_eq_true S)]
      |refine lQ (p:=Hid (w=(⟨⟨E,tok,c.ttl,v.seq⟩,1,E,tok⟩,true))) (cN ?_) fun HR=>?_
       ·rw[←s.out,a.out,if_neg (by rw[bq m];simp),if_pos (by rw[bq d]),if_pos HOQ.out,if_neg (of_decide_eq_false S)]
  |have K:=cN (show(c.kind==3)=true from g)
   first
    |refine lQ (p:=Hid (w=(⟨⟨0,tok,0,c.bal⟩,1,E,tok⟩,true))) (cN ?_) fun HR=>?_
     ·rw[←s.out,a.out];simp only[bq m,bq d,bq g,HOQ.out,bq H,Y,ha,bq I,L,P,if_true,if_false,eq_self,aU,true_or,or_true,false_or,or_false,true_and,and_true,false_and,and_false,Bool.true_or,Bool.false_or]
     have b:=R;have U:=cN (show∀j u,(vlL v)[j]?=some u→D.drew.cell? ((⟨W.heap.size,0,none⟩:Addr).add j)=some u from cR b.out.bv)
    |go_wp2_with fail
     have b4:=cN (a1.out D.drew.drew a5.out);refine eD [0,0,0,1,0,1,1,0] (by kernel_rfl) (fun _ _ _ _=>rfl) ?_;simp only[dC,dB];iterate 6 (apply sB rfl rfl;·(intro x h;(try cases h rfl);go_simp;with_reducible rfl))
     try simp only[pA]
     refine eW (v:=.bool qs) (f:=182) (args:=#[.slice pm J A,.int .i64 v.seq]) rfl (fun z O=>by subst O;go_simp;try rfl) (fun z O=>by subst O;exact b4.out) ?_;(try simp only[pA]);iterate 1 (apply sB rfl rfl;·(intro x h;(try cases h rfl);go_simp;with_reducible rfl))
     refine cP ?_;try simp only[pA]
     have b:=cN R.out.drew;have b2:((v.own==0)=true∧qs=true)∨((v.own==0)=true∧qs=false∨(v.own==0)=false)∧(((J:Int)==0)=true∨((J:Int)==0)=false∧((v.tok==tok)=true∨(v.tok==tok)=false)):=by
      cases qs<;>cases (v.own==0)<;>cases ((J:Int)==0)<;>cases (v.tok==tok)<;>simp
     rcases b2 with⟨I,rfl⟩|⟨⟨I,rfl⟩|I,P|⟨P,L|L⟩⟩;all_goals try(exfalso;rw[p2]at L;cases L;done)
     all_goals first
      |refine lQ (p:=Hid (w=(⟨v,1,E,v.tok⟩,true))) (cN ?_) fun HR=>?_
       ·rw[←s.out,a.out];simp only[bq m,bq d,bq g,HOQ.out,bq H,Y,ha,bq I,L,P,if_true,if_false,eq_self,aU,true_or,or_true,false_or,or_false,true_and,and_true,false_and,and_false,Bool.true_or,Bool.false_or]
      |refine lQ (p:=Hid (w=(⟨v,3,0,0⟩,true))) (cN ?_) fun HR=>?_
       ·rw[←s.out,a.out];simp only[bq m,bq d,bq g,HOQ.out,bq H,Y,ha,bq I,L,P,if_true,if_false,eq_self,aU,true_or,or_true,false_or,or_false,true_and,and_true,false_and,and_false,Bool.true_or,Bool.false_or]
      |refine lQ (p:=Hid (w=(⟨v,3,0,0⟩,false))) (cN ?_) fun HR=>?_
       ·rw[←s.out,a.out];simp only[bq m,bq d,bq g,HOQ.out,bq H,Y,ha,bq I,L,P,if_true,if_false,eq_self,aU,true_or,or_true,false_or,or_false,true_and,and_true,false_and,and_false,Bool.true_or,Bool.false_or]
     all_goals go_wp2_with fail
  |refine lQ (p:=Hid (w=(⟨v,4,v.own,v.tok⟩,true))) (cN ?_) fun HR=>?_
   ·rw[←s.out,a.out];simp only[bq m,bq d,bq g,HOQ.out,bq H,Y,ha,bq I,L,P,if_true,if_false,eq_self,aU,true_or,or_true,false_or,or_false,true_and,and_true,false_and,and_false,Bool.true_or,Bool.false_or]
   have b:=R;go_wp2_with fail
 all_goals first
  |first
    |first|with_reducible refine aH7 10 ?_|with_reducible refine aH7 28 ?_
     refine rlx [1,0,0,1,0,2] (FoR W.heap.size B v c (.slice pm J A)) (by kernel_rfl) (fun _ _ _ _=>rfl) ?_ ?_
    |first|with_reducible refine aH7 15 ?_|with_reducible refine aH7 30 ?_
     refine rlx [1,0,1,0,1,0,2] (FoR W.heap.size B v c (.slice pm J A)) (by kernel_rfl) (fun _ _ _ _=>rfl) ?_ ?_
   ·exact b.out.drew.rd hi q.out M.out
   simp only[dC,dB];refine dA (v:=vlV v) rfl (fun zz X=>cU 56 _ rfl ⟨W.heap.size,0,none⟩ rfl (vlL v) _ X.1 underlying56 rfl (by kernel_rfl)) ?_;(try simp only[pA])
   repeat(first|(apply sW rfl;·(intro x;go_simp;with_reducible rfl))|(apply sR rfl;·(intro x X;obtain⟨h0,h1,h2,h3,h4,h5⟩:=X;go_simp;with_reducible rfl)))
   (try simp only[pA]);refine dI rfl (fun C hC=>?_);refine eM 56 _ _ rfl (W.heap.size+1) 0 56 _ _ (vlL v) rfl rfl b.out.drew.b6 (by kernel_rfl) (by simp[Value.oneCell']) (by simp) rfl ?_;intro b5 o F n;have l:=cN (b.out.drew.put6 o n);refine hC _ _ (l.out.rd hi q.out M.out) ?_;clear hC C o F n;refine cP ?_;(try simp only[pA])
  |with_reducible refine aH7 14 ?_
   refine rlx [0,0,0,0,1,0,0,0,0,1,0,0,0,0,0,1,0,2] (FoR W.heap.size B v c (.slice pm J A)) (by kernel_rfl) (fun _ _ _ _=>rfl) ?_ ?_
   ·exact b.out.drew.rd hi q.out M.out
   simp only[dC,dB]
   repeat(first|(apply sW rfl;·(intro x;go_simp;with_reducible rfl))|(apply sR rfl;·(intro x X;obtain⟨h0,h1,h2,h3,h4,h5⟩:=X;go_simp;with_reducible rfl)))
   (try simp only[pA]);refine dI rfl (fun C hC=>?_);refine eM 56 _ _ rfl (W.heap.size+1) 0 56 _ _ (vlL ⟨E,c.bal,c.ttl,1⟩) rfl rfl b.out.drew.b6 (by kernel_rfl) (by simp[Value.oneCell']) (by simp) rfl ?_;intro b5 o F n;have l:=cN (b.out.drew.put6 o n);refine hC _ _ (l.out.rd hi q.out M.out) ?_;clear hC C o F n;refine cP ?_;(try simp only[pA])
  |with_reducible refine aH7 29 ?_
   refine rlx [1,0,0,0,0,1,1,0,0,0,1,0,0,0,2,2,0] (FoR W.heap.size B v c (.slice pm J A)) (by kernel_rfl) (fun _ _ _ _=>rfl) ?_ ?_
   ·exact b.out.drew.rd hi q.out M.out
   simp only[dC,dB];refine dA (v:=vlV v) rfl (fun zz X=>cU 56 _ rfl ⟨W.heap.size,0,none⟩ rfl (vlL v) _ X.1 underlying56 rfl (by kernel_rfl)) ?_;(try simp only[pA])
   repeat((try simp only[pA]);first|(apply sW rfl;·(intro x;go_simp;with_reducible rfl))|(apply sR rfl;·(intro x X;obtain⟨h0,h1,h2,h3,h4,h5⟩:=X;go_simp;with_reducible rfl))|apply dN rfl|apply dL rfl)
   (try simp only[pA]);refine dI rfl (fun C hC=>?_);refine eM 56 _ _ rfl (W.heap.size+1) 0 56 _ _ (vlL v) rfl rfl b.out.drew.b6 (by kernel_rfl) (by simp[Value.oneCell']) (by simp) rfl ?_;intro b5 o F n;have l:=cN (b.out.drew.put6 o n);refine hC _ _ (l.out.rd hi q.out M.out) ?_;clear hC C o F n;(try simp only[pA]);(try simp only[pA]);refine dI rfl (fun C hC=>?_);refine eM 70 _ _ rfl (W.heap.size+2) 0 70 _ _ (evL (fEv 3 0 0)) rfl rfl l.out.b7 (by kernel_rfl) (by simp[Value.oneCell']) (by simp) rfl ?_;intro d7 o F n;have t:=cN (l.out.put7 o n);refine hC _ _ (t.out.rd hi q.out M.out) ?_;clear hC C o F n;(try simp only[pA])
   repeat((try simp only[pA]);first|(apply sW rfl;·(intro x;go_simp;with_reducible rfl))|(apply sR rfl;·(intro x X;obtain⟨h0,h1,h2,h3,h4,h5⟩:=X;go_simp;with_reducible rfl))|apply dN rfl|apply dL rfl)
   refine cP ?_;(try simp only[pA]);go_wp2_with fail;exact bodyPost_ret (zZ _ results215 _ (W.heap.size+1) (W.heap.size+2) _ _ _ _ rfl rfl rfl t.out.b6 t.out.b7) rfl ⟨by rw[HR.out]<;>rfl,t.out.be⟩
  |go_wp2_with (first|(refine cW rfl 56 _ rfl ⟨W.heap.size,0,none⟩ rfl (vlL v) _ U.out underlying56 rfl (by kernel_rfl) ?_)|(refine cV rfl 56 _ _ rfl (W.heap.size+1) 0 56 _ _ (vlL ⟨_,_,_,_⟩) rfl rfl b.out.b6 (by kernel_rfl) (by simp[Value.oneCell']) (by simp) rfl ?_;intro b5 o F n;refine cQ ?_))
   have l:=cN (b.out.put6 o n);clear o F n;refine cN ?_
 all_goals
  go_wp2_with (refine cV rfl 70 _ _ rfl (W.heap.size+2) 0 70 _ _ (evL (fEv _ _ _)) rfl rfl l.out.b7 (by kernel_rfl) (by simp[Value.oneCell']) (by simp) rfl ?_;intro d7 c2 c7 c0;refine cQ ?_);have t:=cN (l.out.put7 c2 c0);clear c2 c7 c0;refine cN ?_;go_wp2_with fail;exact bodyPost_ret (zZ _ results215 _ (W.heap.size+1) (W.heap.size+2) _ _ _ _ rfl rfl rfl t.out.b6 t.out.b7) rfl ⟨by rw[HR.out]<;>rfl,t.out.be⟩
end Go.Proofs.YtbbdgokdfhdpiaaGreatDoor
