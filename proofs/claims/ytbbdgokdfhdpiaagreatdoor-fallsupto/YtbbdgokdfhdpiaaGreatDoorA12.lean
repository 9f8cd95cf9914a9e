/- A part. -/
import Derived.Maps.RangeWalk
import Derived.Shelf.SlMaps.Clone
import Derived.Test.YtbbdgokdfhdpiaaGreatDoorA11
namespace Go.Proofs.YtbbdgokdfhdpiaaGreatDoor
set_option linter.all false
set_option maxRecDepth 100000
set_option maxHeartbeats 0
open Go.Proofs.Tryz Go.RowKit
abbrev rN(r o t:Int):List Value:=[.int .i64 r,.int .i64 o,.int .i64 t]
theorem tE(fn:Func)(hr:fn.results=#[.cell 4 56,.cell 5 191])(tmps:Array Value)(x y:Nat)(v:Vl)(r o t:Int)(W:World)
 (h4:tmps.getD 4 undef= .pointer (some ⟨x,0,none⟩)) (h5:tmps.getD 5 undef= .pointer (some ⟨y,0,none⟩)) (bx:W.heap[x]?=some (.cells (vlL v).toArray 56 (0,0))) (by_:W.heap[y]?=some (.cells (rN r o t).toArray 191 (0,0))):
 (results fn tmps).run prog W= .ok (.tuple #[vlV v,wA r o t]) W:=by
 have b:=fC (P:=prog) W ⟨x,0,none⟩ 56 (vlL v) _ (cR bx) underlying56 rfl (by kernel_rfl);have a:=fC (P:=prog) W ⟨y,0,none⟩ 191 (rN r o t) _ (cR by_) underlying191 rfl (by kernel_rfl);unfold results;rw[hr];simp only[cK]at h4 h5;simp[h4,h5,asAddr,aT,b,a]
theorem aFJ(W:World)(F:Nat→Prop)(ob:Nat)(an mv:Value)(o:On)(v:Vl)(h:OnAt W F ob an mv o):
 Calls prog 202 #[.pointer (some ⟨ob,0,none⟩),vlV v,.int .i64 o.att.bal] W fun r W'=>r= .returned (.bool (zU o v))∧Chg NoS W W':=by
 have f:=cO (dM (.cells #[.int .i64 v.own,.int .i64 v.tok,.int .i64 v.ttl,.int .i64 v.seq] 56) h.1) 0 _ rfl;have a:=aA W (.cells #[.int .i64 v.own,.int .i64 v.tok,.int .i64 v.ttl,.int .i64 v.seq] 56);have i:=cO a 1 _ rfl;have g:=cO a 3 _ rfl;clear h a;unfold zU;go_enter func202,ntmps202;by_cases d:o.kind=1
 ·have b:(o.kind==1)=true:=by simp[d]
  go_wp2_with fail;go_ret;exact⟨by simp_all,(Chg.refl _ _).alloc _⟩
 ·have b:(o.kind==1)=false:=by simp[d]
  by_cases e:o.kind=3
  ·have c:(o.kind==3)=true:=by simp[e]
   go_wp2_with fail;go_ret;exact⟨by simp_all,(Chg.refl _ _).alloc _⟩
  ·have c:(o.kind==3)=false:=by simp[e]
   go_wp2_with fail;go_ret;exact⟨by simp_all,(Chg.refl _ _).alloc _⟩
structure aLj(W W0:World)(v:Vl):Prop where
 chg:Chg NoS W W0
 size:W0.heap.size=W.heap.size+3
 bv:W0.heap[W.heap.size]?=some (.cells (vlL v).toArray 56 (0,0))
 bn:W0.heap[W.heap.size+1]?=some (.cells (vlL zVl).toArray 56 (0,0))
 be:W0.heap[W.heap.size+2]?=some (.cells (rN 0 0 0).toArray 191 (0,0))
abbrev aHj(W:World)(v:Vl):World:=((W.alloc (.cells #[.int .i64 v.own,.int .i64 v.tok,.int .i64 v.ttl,.int .i64 v.seq] 56)).alloc (.cells #[.int .i64 0,.int .i64 0,.int .i64 0,.int .i64 0] 56)).alloc (.cells #[.int .i64 0,.int .i64 0,.int .i64 0] 191)
theorem aJO(W:World)(v:Vl):aLj W (aHj W v) v:=by
 refine⟨(Chg.alloc2 _ _ _).alloc _,by simp,dM _ (dM _ (aA W _)),dM _ ?_,?_⟩
 ·have h:=aA (W.alloc (.cells #[.int .i64 v.own,.int .i64 v.tok,.int .i64 v.ttl,.int .i64 v.seq] 56)) (.cells #[.int .i64 0,.int .i64 0,.int .i64 0,.int .i64 0] 56);have e:(W.alloc (.cells #[.int .i64 v.own,.int .i64 v.tok,.int .i64 v.ttl,.int .i64 v.seq] 56)).heap.size=W.heap.size+1:=by simp
  rw[e]at h;exact h
 ·have h:=aA ((W.alloc (.cells #[.int .i64 v.own,.int .i64 v.tok,.int .i64 v.ttl,.int .i64 v.seq] 56)).alloc (.cells #[.int .i64 0,.int .i64 0,.int .i64 0,.int .i64 0] 56)) (.cells #[.int .i64 0,.int .i64 0,.int .i64 0] 191);have e:((W.alloc (.cells #[.int .i64 v.own,.int .i64 v.tok,.int .i64 v.ttl,.int .i64 v.seq] 56)).alloc (.cells #[.int .i64 0,.int .i64 0,.int .i64 0,.int .i64 0] 56)).heap.size=W.heap.size+2:=by simp
  rw[e]at h;exact h
theorem Chg.fresh{S:Nat→Prop}{A B C:World}{x:Nat}(h:Chg S A B)(k:Chg (fun y=>y=x) B C)(hx:A.heap.size≤x):Chg S A C:=h.trans k (fun y hy e=>by omega)
section
variable {P:Program} {op:Oper} {a:Act} {w:World} {K:Act→World→Prop} {Q:Exit→Act→World→Prop}
theorem eM(ty:TypeId)(x y:Operand)(ho:op.op= .store ty x y)
 (g o:Nat) (t:TypeId) (cur cells:Array Value) (new:List Value) (hx:a.eval x= .pointer (some ⟨g,o,none⟩)) (hy:a.eval y= .agg cells)
 (hg:w.heap[g]?=some (.cells cur t (0,0))) (hi:(P.info? ty).map (·.size)=some cells.size) (h1:cells.all (·.oneCell')=true) (hfit:o+cells.size≤cur.size)
 (hnew:cur.toList.take o++cells.toList++cur.toList.drop (o+cells.size)=new)
 (h:∀w',Chg (fun k=>k=g) w w'→w'.heap.size=w.heap.size→w'.heap[g]?=some (.cells new.toArray t (0,0))→K (a.put op.dst undef) w'):op.wp P a w K Q:=by
 have b:=tL (P:=P) w g o ty t cur cells hg hi h1 hfit;rw[hnew]at b;have c:=h (w.setRow g new.toArray) (aBP _ _ _) (by simp[World.setRow]) (setRow_heap _ _ _ _ _ _ hg);unfold Oper.wp execOp;simp only[ho,hx,hy,aT,b,Result.andThen_ok,Sem.run_pure];exact c
theorem wt{ty:TypeId}{x y:Operand}{g o:Nat}{t:TypeId}{cur cells:Array Value}(hg:w.heap[g]?=some (.cells cur t (0,0)))(new:List Value)(ho:op.op= .store ty x y)(hx:a.eval x= .pointer (some ⟨g,o,none⟩))(hy:a.eval y= .agg cells)(hk:stB P ty o cells cur=true)
 (hnew:cur.toList.take o++cells.toList++cur.toList.drop (o+cells.size)=new)
 (h:∀w',Chg (fun k=>k=g) w w'→w'.heap.size=w.heap.size→w'.heap[g]?=some (.cells new.toArray t (0,0))→K (a.put op.dst undef) w'):op.wp P a w K Q:=
 have⟨h1,h2,h3⟩:=aEf hk
 eM ty x y ho g o t cur cells new hx hy hg h1 h2 h3 hnew h
end
theorem cQ{p:Prop}(h:Hid p):p:=h.out
structure Bx(W A:World)(F:Nat→Prop)(b g:Nat)(f:Cf)(c:Ct)(o:On)(ch tk hd wt ob:Nat)(an mv:Value)(v:Vl):Prop where
 chg:Chg NoS W A
 size:W.heap.size+3≤A.heap.size
 bv:A.heap[W.heap.size]?=some (.cells (vlL v).toArray 56 (0,0))
 bn:A.heap[W.heap.size+1]?=some (.cells (vlL zVl).toArray 56 (0,0))
 be:A.heap[W.heap.size+2]?=some (.cells (rN 0 0 0).toArray 191 (0,0))
 kt:Kt A F b g f c o ch tk hd wt ob an mv
section
variable {W A B:World}{F:Nat→Prop}{b g:Nat}{f:Cf}{c:Ct}{o:On}{ch tk hd wt ob:Nat}{an mv:Value}{v:Vl}
theorem Bx.kept(h:Bx W A F b g f c o ch tk hd wt ob an mv v)(hc:Chg NoS A B):Bx W B F b g f c o ch tk hd wt ob an mv v:=
 ⟨h.chg.trans hc (fun _ _ h=>h),cA h.size hc.size,hc.kept h.bv (fun h=>h),hc.kept h.bn (fun h=>h),hc.kept h.be (fun h=>h),h.kt.kept hc⟩
theorem Bx.drew(h:Bx W A F b g f c o ch tk hd wt ob an mv v):Bx W A.drew F b g f c o ch tk hd wt ob an mv v:=h.kept (Chg.refl _ _).drew
theorem Bx.mk'(hk:Kt W F b g f c o ch tk hd wt ob an mv):Bx W (aHj W v) F b g f c o ch tk hd wt ob an mv v:=
 have h:=aJO W v
 ⟨h.chg,by rw[h.size];omega,h.bv,h.bn,h.be,hk.kept h.chg⟩
theorem Kt.lt(hk:Kt W F b g f c o ch tk hd wt ob an mv):b<W.heap.size∧ob<W.heap.size:=⟨hk.cl.lt _ hk.cl.fb,hk.cl.lt _ hk.on.2.1⟩
theorem Bx.st(h:Bx W A F b g f c o ch tk hd wt ob an mv v)(hl:b<W.heap.size∧ob<W.heap.size)(hc:Chg (fun k=>k=W.heap.size+1) A B):
 Chg NoS W B∧B.heap[W.heap.size]?=some (.cells (vlL v).toArray 56 (0,0))∧B.heap[W.heap.size+2]?=some (.cells (rN 0 0 0).toArray 191 (0,0))∧
 (∀j x,(clL f c ch tk hd wt g (.pointer (some ⟨ob,0,none⟩)))[j]?=some x→B.cell? ⟨b,j,none⟩=some x)∧(∀j x,(wJ o an mv)[j]?=some x→B.cell? ⟨ob,j,none⟩=some x):=
 ⟨h.chg.fresh hc (by omega),hc.kept h.bv (by simp),hc.kept h.be (by simp),fun j x hj=>cO (hc.kept h.kt.cl.blk (by omega)) j x (by simpa using hj),fun j x hj=>cO (hc.kept h.kt.on.1 (by omega)) j x (by simpa using hj)⟩
abbrev BxR(n b ob:Nat)(c:Ct)(o:On)(v:Vl)(x:World):Prop:=
 (∀j y,(vlL v)[j]?=some y→x.cell? ((⟨n,0,none⟩:Addr).add j)=some y)∧x.cell? ⟨b,7,none⟩=some (.int .i64 c.num)∧x.cell? ⟨n,0,none⟩=some (.int .i64 v.own)∧x.cell? ⟨n,1,none⟩=some (.int .i64 v.tok)∧x.cell? ⟨b,16,none⟩=some (.pointer (some ⟨ob,0,none⟩))∧x.cell? ⟨ob,2,none⟩=some (.int .i64 o.ttl)∧x.cell? ⟨ob,5,none⟩=some (.int .i64 o.att.bal)∧x.cell? ⟨n,3,none⟩=some (.int .i64 v.seq)
theorem Bx.rd(h:Bx W A F b g f c o ch tk hd wt ob an mv v):BxR W.heap.size b ob c o v A:=
 ⟨cR h.bv,h.kt.cl.cell 7 _ rfl,cO h.bv 0 _ rfl,cO h.bv 1 _ rfl,h.kt.cl.cell 16 _ rfl,cO h.kt.on.1 2 _ rfl,cO h.kt.on.1 5 _ rfl,cO h.bv 3 _ rfl⟩
theorem Bx.rdS(h:Bx W A F b g f c o ch tk hd wt ob an mv v)(hl:b<W.heap.size∧ob<W.heap.size)(hc:Chg (fun k=>k=W.heap.size+1) A B):BxR W.heap.size b ob c o v B:=by
 obtain⟨_,a,_,e,d⟩:=h.st hl hc;exact⟨cR a,e 7 _ rfl,cO a 0 _ rfl,cO a 1 _ rfl,e 16 _ rfl,d 2 _ rfl,d 5 _ rfl,cO a 3 _ rfl⟩
end
theorem aDZ(W:World)(F:Nat→Prop)(b g:Nat)(f:Cf)(c:Ct)(o:On)(ch tk hd wt ob:Nat)(an mv:Value)(v:Vl)(h:Kt W F b g f c o ch tk hd wt ob an mv)(hn1:0≤c.num)(hn2:c.num≤1000)(hm:o.mine.length≤1000000000000)
 (hd1:0≤f.drift) (hd2:f.drift≤10) (ht1:0≤v.ttl) (ht2:v.ttl≤1000) (hs1:0≤v.seq) (hs2:v.seq≤2147483647) (hw1:0≤(c.wat o.lock).since) (hw2:(c.wat o.lock).since≤100000000000):
 Calls prog 224 #[.pointer (some ⟨b,0,none⟩),vlV v] W fun r W'=>r= .returned (.tuple #[vlV (jH f c o v).next,wA (jH f c o v).res (jH f c o v).own (jH f c o v).tok])∧Chg NoS W W':=by
 have Q:=h.lt;have j:=Bx.mk' (v:=v) h;generalize hX:aHj W v=W0 at j;have HX:Hid (((W.alloc (.cells #[.int .i64 v.own,.int .i64 v.tok,.int .i64 v.ttl,.int .i64 v.seq] 56)).alloc (.cells #[.int .i64 0,.int .i64 0,.int .i64 0,.int .i64 0] 56)).alloc (.cells #[.int .i64 0,.int .i64 0,.int .i64 0] 191)=W0):=hX;have A:Hid (Bx W W0 F b g f c o ch tk hd wt ob an mv v∧(b<W.heap.size∧ob<W.heap.size)):=⟨j,Q⟩;have a7:=j.kt.cl.cell 16 _ rfl;have o5:=cO j.kt.on.1 5 _ rfl;have v1:W0.cell? ⟨W.heap.size,1,none⟩=some (.int .i64 v.tok):=cO j.bv 1 _ rfl;have T:∀q,tP o v.tok=q→Hid (Calls prog 236 #[.pointer (some ⟨ob,0,none⟩),.int .i64 v.tok] W0.drew fun r W'=>r= .returned (.bool q)∧W'=W0.drew):=fun q e=>e▸aBt W0.drew F ob an mv o v.tok j.kt.on hm;have S:∀q,sO o v.tok=q→Hid (Calls prog 237 #[.pointer (some ⟨ob,0,none⟩),.int .i64 v.tok] W0.drew fun r W'=>r= .returned (.bool q)∧Chg NoS W0.drew W'):=fun q e=>e▸aAu W0.drew F ob an mv o v.tok j.kt.on hm;clear hX j Q h;obtain⟨w,Y⟩:=aLA (jH f c o v);rw[Y];have u:=cN Y;clear Y;obtain⟨qm,N⟩:=aLA (tP o v.tok);have HM:=T qm N;have s:=cN N;obtain⟨qa,M⟩:=aLA (sO o v.tok);have HA:=S qa M;have z:=cN M;obtain⟨Z,R⟩:=aLA (aAk f c o v);have L:=cN R;clear N M R T S;go_enter func224,ntmps224;go_wp2_with (rw[HX.out]);refine eD [0,0,0,1,0,0,0,1,0,0,0,1,0,0] (by kernel_rfl) (fun _ _ _ _=>rfl) ?_;simp only[dC,dB];iterate 14 (apply sB rfl rfl;·(intro x h;(try cases h rfl);go_simp;with_reducible rfl))
 refine cP ?_;try simp only[pA]
 go_wp2_with (go_at_call 236;refine HM.out.mono ?_;rintro r w' ⟨rfl,hW⟩;have a4:=hW.symm;subst a4;clear hW;refine cQ ?_);refine cN ?_;cases qm;all_goals first
  |have G:Hid (tP o v.tok=true):=s
   refine lQ (p:=Hid (w=⟨v,1,c.num+1,v.tok⟩)) (cN ?_) fun HR=>?_
   ·rw[←u.out];unfold jH;simp[s.out]
   have a:=cN A.out.1.drew.drew;go_wp2_with fail;refine rlx [1,0,1,0,1,0,2] (BxR W.heap.size b ob c o v) (by kernel_rfl) (fun _ _ _ _=>rfl) ?_ ?_
   ·exact a.out.rd
   simp only[dC,dB];refine dA (v:=vlV v) rfl (fun x d=>cU 56 _ rfl ⟨W.heap.size,0,none⟩ rfl (vlL v) _ d.1 underlying56 rfl (by kernel_rfl)) ?_;(try simp only[pA])
   repeat(first|(apply sW rfl;·(intro x;go_simp;with_reducible rfl))|(apply sR rfl;·(intro x d;obtain⟨D,m,k,l,E,H,J,I⟩:=d;go_simp;with_reducible rfl)))
   refine eW (v:=.int .i64 (c.num+1)) (f:=217) (args:=#[.pointer (some ⟨b,0,none⟩)]) rfl (fun x d=>by go_simp;try rfl) (fun x d=>qX x b c.num d.2.1 hn1 hn2) ?_;(try simp only[pA])
   repeat(first|(apply sW rfl;·(intro x;go_simp;with_reducible rfl))|(apply sR rfl;·(intro x d;obtain⟨D,m,k,l,E,H,J,I⟩:=d;go_simp;with_reducible rfl)))
   (try simp only[pA]);refine dI rfl (fun C hC=>?_);refine eM 56 _ _ rfl (W.heap.size+1) 0 56 _ _ (vlL v) rfl rfl a.out.bn (by kernel_rfl) (by simp[Value.oneCell']) (by simp) rfl ?_;intro W5 i y n;obtain⟨P,X,B,K,V⟩:=a.out.st A.out.2 i;refine hC _ _ (a.out.rdS A.out.2 i) ?_;clear hC C;refine cP ?_;(try simp only[pA])
  |go_wp2_with (go_at_call 237;refine HA.out.mono ?_;rintro r W3 ⟨rfl,B⟩;refine cQ ?_)
   have a:=cN (A.out.1.drew.kept B);refine cN ?_;cases qa;all_goals first
    |have G:Hid (sO o v.tok=true):=z
     refine lQ (p:=Hid (w=⟨zVl,5,0,0⟩)) (cN ?_) fun HR=>?_
     ·rw[←u.out];unfold jH;simp[s.out,z.out]
     go_wp2_with (first|(refine cV rfl 56 _ _ rfl (W.heap.size+1) 0 56 _ _ (vlL zVl) rfl rfl a.out.bn (by kernel_rfl) (by simp[Value.oneCell']) (by simp) rfl ?_));intro W5 i y n;obtain⟨P,X,B,K,V⟩:=a.out.st A.out.2 i
    |replace a:=cN a.out.drew
     have t:=aAt W3.drew F b g f c o ch tk hd wt ob an mv v a.out.kt hd1 hd2 ht1 ht2 hw1 hw2;rw[L.out]at t;have a6:=cN t;clear t;clear B;have a5:(v.own==0)=true∨(v.own==0)=false∧((v.own==c.num+1)=true∨(v.own==c.num+1)=false∧(Z=true∨Z=false)):=by
      cases (v.own==0)<;>cases (v.own==c.num+1)<;>cases Z<;>simp
     have k:((0:Int)==0)=true:=rfl;have l:=True.intro;rcases a5 with m|⟨m,k|⟨k,l|l⟩⟩;all_goals
      go_wp2_with fail;refine rlx [0,1,0,0,0,1,0,1,0,0,0,0,1] (BxR W.heap.size b ob c o v) (by kernel_rfl) (fun _ _ _ _=>rfl) ?_ ?_
      ·exact a.out.rd
      simp only[dC,dB];iterate 7 ((try simp only[pA]);first|(apply sW rfl;·(intro x;go_simp;with_reducible rfl))|(apply sR rfl;·(intro x d;obtain⟨D,m,k,l,E,H,J,I⟩:=d;go_simp;with_reducible rfl))|apply dN rfl|apply dL rfl)
      (try simp only[pA]);first
       |refine eW (v:=.int .i64 (c.num+1)) (f:=217) (args:=#[.pointer (some ⟨b,0,none⟩)]) rfl (fun x d=>by go_simp;try rfl) (fun x d=>qX x b c.num d.2.1 hn1 hn2) ?_
       |refine dL rfl ?_
      iterate 4 ((try simp only[pA]);first|(apply sW rfl;·(intro x;go_simp;with_reducible rfl))|(apply sR rfl;·(intro x d;obtain⟨D,m,k,l,E,H,J,I⟩:=d;go_simp;with_reducible rfl))|apply dN rfl|apply dL rfl)
      (try simp only[pA]);first
       |refine wU (v:=vlV v) rfl (fun x d=>cU 56 _ rfl ⟨W.heap.size,0,none⟩ rfl (vlL v) _ d.1 underlying56 rfl (by kernel_rfl)) ?_
       |refine dL rfl ?_
      refine cP ?_;(try simp only[pA]);go_wp2_with (go_at_call 238;refine a6.out.mono ?_;rintro r W4 ⟨rfl,K⟩);first
       |replace a:=cN (a.out.kept K).drew
        clear K
       |replace a:=cN a.out.drew
      first
       |refine lQ (p:=Hid (w=⟨v,2,v.own,v.tok⟩)) (cN ?_) fun HR=>?_
        ·rw[←u.out];unfold jH;simp[s.out,z.out,L.out,bq m,bq k,l]
        refine rlx [1,0,1,0,1,0,2] (BxR W.heap.size b ob c o v) (by kernel_rfl) (fun _ _ _ _=>rfl) ?_ ?_
        ·exact a.out.rd
        simp only[dC,dB];refine dA (v:=vlV v) rfl (fun x d=>cU 56 _ rfl ⟨W.heap.size,0,none⟩ rfl (vlL v) _ d.1 underlying56 rfl (by kernel_rfl)) ?_;(try simp only[pA])
        repeat(first|(apply sW rfl;·(intro x;go_simp;with_reducible rfl))|(apply sR rfl;·(intro x d;obtain⟨D,m,k,l,E,H,J,I⟩:=d;go_simp;with_reducible rfl)))
        (try simp only[pA]);refine dI rfl (fun C hC=>?_);refine eM 56 _ _ rfl (W.heap.size+1) 0 56 _ _ (vlL v) rfl rfl a.out.bn (by kernel_rfl) (by simp[Value.oneCell']) (by simp) rfl ?_;intro W5 i y n;obtain⟨P,X,B,K,V⟩:=a.out.st A.out.2 i;refine hC _ _ (a.out.rdS A.out.2 i) ?_;clear hC C;refine cP ?_;(try simp only[pA])
       |refine lQ (p:=Hid (w=⟨⟨c.num+1,o.att.bal,o.ttl,1⟩,1,c.num+1,o.att.bal⟩)) (cN ?_) fun HR=>?_
        ·rw[←u.out];unfold jH;simp[s.out,z.out,L.out,bq m,bq k,l]
        refine rlx [0,1,0,0,0,0,0,1,0,0,1,0,0] (BxR W.heap.size b ob c o v) (by kernel_rfl) (fun _ _ _ _=>rfl) ?_ ?_
        ·exact a.out.rd
        simp only[dC,dB];iterate 1 (first|(apply sW rfl;·(intro x;go_simp;with_reducible rfl))|(apply sR rfl;·(intro x d;obtain⟨D,m,k,l,E,H,J,I⟩:=d;go_simp;with_reducible rfl)))
        refine eW (v:=.int .i64 (c.num+1)) (f:=217) (args:=#[.pointer (some ⟨b,0,none⟩)]) rfl (fun x d=>by go_simp;try rfl) (fun x d=>qX x b c.num d.2.1 hn1 hn2) ?_;(try simp only[pA]);iterate 8 (first|(apply sW rfl;·(intro x;go_simp;with_reducible rfl))|(apply sR rfl;·(intro x d;obtain⟨D,m,k,l,E,H,J,I⟩:=d;go_simp;with_reducible rfl)))
        refine eW (v:=.int .i64 (c.num+1)) (f:=217) (args:=#[.pointer (some ⟨b,0,none⟩)]) rfl (fun x d=>by go_simp;try rfl) (fun x d=>qX x b c.num d.2.1 hn1 hn2) ?_;(try simp only[pA]);iterate 2 (first|(apply sW rfl;·(intro x;go_simp;with_reducible rfl))|(apply sR rfl;·(intro x d;obtain⟨D,m,k,l,E,H,J,I⟩:=d;go_simp;with_reducible rfl)))
        refine cP ?_;(try simp only[pA]);refine cV rfl 56 _ _ rfl (W.heap.size+1) 0 56 _ _ (vlL ⟨c.num+1,o.att.bal,o.ttl,1⟩) rfl rfl a.out.bn (by kernel_rfl) (by simp[Value.oneCell']) (by simp) rfl ?_;intro W5 i y n;obtain⟨P,X,B,K,V⟩:=a.out.st A.out.2 i;(try simp only[pA])
 all_goals
  go_wp2_with (first|(refine cV rfl 191 _ _ rfl (W.heap.size+2) 0 191 _ _ (rN _ _ _) rfl rfl B (by kernel_rfl) (by simp[Value.oneCell']) (by simp) rfl ?_));intro W6 O a3 U;have a0:=cN (P.fresh O (by omega));have a1:=cN (O.kept n (by simp));have a2:=cN U;clear i y n P X B K V O a3 U;go_wp2_with fail;(try simp only[Exit.inBlock,Exit.then]);exact bodyPost_ret (tE _ results224 _ (W.heap.size+1) (W.heap.size+2) _ _ _ _ _ rfl rfl a1.out a2.out) rfl ⟨by first|rfl|(rw[HR.out]<;>rfl),a0.out⟩
theorem Bx.upd{W A B:World}{F:Nat→Prop}{b g:Nat}{f:Cf}{c:Ct}{o:On}{ch tk hd wt ob:Nat}{an mv:Value}{v:Vl}(h:Bx W A F b g f c o ch tk hd wt ob an mv v)(hk:Kt W F b g f c o ch tk hd wt ob an mv)(hc:Chg (fun k=>k=W.heap.size) A B)(u:Vl)(hb:B.heap[W.heap.size]?=some (.cells (vlL u).toArray 56 (0,0))):Bx W B F b g f c o ch tk hd wt ob an mv u:=
 have hw:Chg NoS W B:=h.chg.fresh hc (aE _)
 ⟨hw,cA h.size hc.size,hb,hc.kept h.bn (by simp),hc.kept h.be (by simp),hk.kept hw⟩
theorem aJE(a b:Int):(if b<a then b else a)=min a b:=by
 split<;>omega
section
variable (W:World) (F:Nat→Prop) (b g:Nat) (f:Cf) (c:Ct) (o:On) (ch tk hd wt ob:Nat) (an mv:Value) (v:Vl)
theorem aHR(h:Kt W F b g f c o ch tk hd wt ob an mv)(hn1:0≤c.num)(hn2:c.num≤1000)(hm:o.mine.length≤1000000000000)
 (hd1:0≤f.drift) (hd2:f.drift≤10) (ht1:0≤v.ttl) (ht2:v.ttl≤1000) (hs1:0≤v.seq) (hs2:v.seq≤2147483647) (hw1:0≤(c.wat o.lock).since) (hw2:(c.wat o.lock).since≤100000000000):
 Calls prog 225 #[.pointer (some ⟨b,0,none⟩),vlV v] W fun r W'=>r= .returned (.tuple #[vlV (pG c o v).next,wA (pG c o v).res (pG c o v).own (pG c o v).tok])∧Chg NoS W W':=by
 have y:=h.lt;have j:=Bx.mk' (v:=v) h;generalize hX:aHj W v=W0 at j;have HX:Hid (((W.alloc (.cells #[.int .i64 v.own,.int .i64 v.tok,.int .i64 v.ttl,.int .i64 v.seq] 56)).alloc (.cells #[.int .i64 0,.int .i64 0,.int .i64 0,.int .i64 0] 56)).alloc (.cells #[.int .i64 0,.int .i64 0,.int .i64 0] 191)=W0):=hX;have L:Hid (Bx W W0 F b g f c o ch tk hd wt ob an mv v∧(b<W.heap.size∧ob<W.heap.size)):=⟨j,y⟩;have HK:=cN h;have I:∀q,oM c o v=q→Hid (Calls prog 239 #[.pointer (some ⟨b,0,none⟩),vlV v] W0 fun r W'=>r= .returned (.bool q)∧Chg NoS W0 W'):=fun q e=>e▸aDV W0 F b g f c o ch tk hd wt ob an mv v j.kt hn1 hn2;have Z:=cN (cR j.bv);clear hX j y h;obtain⟨w,Q⟩:=aLA (pG c o v);rw[Q];have z:=cN Q;clear Q;obtain⟨q,O⟩:=aLA (oM c o v);have HO:=I q O;have N:=cN O;clear O I;go_enter func225,ntmps225;go_wp2_with (first|rw[HX.out]|(first|(refine cW rfl 56 _ rfl ⟨W.heap.size,0,none⟩ rfl (vlL v) _ Z.out underlying56 rfl (by kernel_rfl) ?_))|(go_at_call 239;refine HO.out.mono ?_;rintro r W3 ⟨rfl,t⟩;refine cQ ?_));have a:=cN (L.out.1.kept t);refine cN ?_;cases q;all_goals first
  |have G:Hid (oM c o v=false):=N
   refine lQ (p:=Hid (w=⟨v,3,0,0⟩)) (cN ?_) fun HR=>?_
   ·rw[←z.out];unfold pG;simp[N.out]
   have K:=cN a.out.rd.1;go_wp2_with (first|(refine cV rfl 56 _ _ rfl (W.heap.size+1) 0 56 _ _ (vlL v) rfl rfl a.out.bn (by kernel_rfl) (by simp[Value.oneCell']) (by simp) rfl ?_)|(refine cW rfl 56 _ rfl ⟨W.heap.size,0,none⟩ rfl (vlL v) _ K.out underlying56 rfl (by kernel_rfl) ?_));intro W5 i E n;obtain⟨M,k2,t,k4,k5⟩:=a.out.st L.out.2 i
  |have w1:IntKind.i64.wrap (v.seq+1)=v.seq+1:=fV (by omega) (by omega)
   obtain⟨m,B⟩:=aLA (min (v.seq+1) 2147483647);have H:=cN B;clear B;refine lQ (p:=Hid (w=⟨⟨v.own,v.tok,o.ttl,m⟩,1,c.num+1,v.tok⟩)) (cN ?_) fun HR=>?_
   ·rw[←z.out];unfold pG;simp[N.out,H.out]
   replace a:=cN a.out.drew;go_wp2_with fail;refine rlx [0,0,0,1,0,0,0,1,0,1,0,0,0] (BxR W.heap.size b ob c o v) (by kernel_rfl) (fun _ _ _ _=>rfl) ?_ ?_
   ·exact a.out.rd
   simp only[dC,dB];iterate 13 (first|(apply sW rfl;·(intro x;go_simp;with_reducible rfl))|(apply sR rfl;·(intro x k;obtain⟨h0,h1,h2,h3,h4,h5,h6,h7⟩:=k;go_simp;with_reducible rfl)))
   refine cP ?_;(try simp only[pA]);try rw[aJE]
   try rw[H.out]
   generalize W3.drew=Wd at a⊢;have u:=a.out;have n2:=cO u.bv 2 _ rfl;have z2:=cX u.bv 2;have P:=cY Wd W.heap.size 2 (.int .i64 o.ttl);have d:=u.upd HK.out P ⟨v.own,v.tok,o.ttl,v.seq⟩ (dD u.bv 2 _);generalize A:Wd.setCell ⟨W.heap.size,2,none⟩ (.int .i64 o.ttl)=W4 at P d;have Y:=cN A;have n3:=cO d.bv 3 _ rfl;have z3:=cX d.bv 3;have R:=cY W4 W.heap.size 3 (.int .i64 m);have l:=d.upd HK.out R ⟨v.own,v.tok,o.ttl,m⟩ (dD d.bv 3 _);generalize D:W4.setCell ⟨W.heap.size,3,none⟩ (.int .i64 m)=W5 at R l;have T:=cN D;replace a:=cN l.drew;clear u d l A D P R;go_wp2_with (first|rw[Y.out]|rw[T.out]);clear n2 z2 n3 z3;refine rlx [1,0,1,0,1,0,2] (BxR W.heap.size b ob c o ⟨v.own,v.tok,o.ttl,m⟩) (by kernel_rfl) (fun _ _ _ _=>rfl) ?_ ?_
   ·exact a.out.rd
   simp only[dC,dB];refine dA (v:=vlV ⟨v.own,v.tok,o.ttl,m⟩) rfl (fun x k=>cU 56 _ rfl ⟨W.heap.size,0,none⟩ rfl (vlL ⟨v.own,v.tok,o.ttl,m⟩) _ k.1 underlying56 rfl (by kernel_rfl)) ?_;(try simp only[pA])
   repeat(first|(apply sW rfl;·(intro x;go_simp;with_reducible rfl))|(apply sR rfl;·(intro x k;obtain⟨h0,h1,h2,h3,h4,h5,h6,h7⟩:=k;go_simp;with_reducible rfl)))
   refine eW (v:=.int .i64 (c.num+1)) (f:=217) (args:=#[.pointer (some ⟨b,0,none⟩)]) rfl (fun x k=>by go_simp;try rfl) (fun x k=>qX x b c.num k.2.1 hn1 hn2) ?_;(try simp only[pA])
   repeat(first|(apply sW rfl;·(intro x;go_simp;with_reducible rfl))|(apply sR rfl;·(intro x k;obtain⟨h0,h1,h2,h3,h4,h5,h6,h7⟩:=k;go_simp;with_reducible rfl)))
   (try simp only[pA]);refine dI rfl (fun C hC=>?_);refine eM 56 _ _ rfl (W.heap.size+1) 0 56 _ _ (vlL ⟨v.own,v.tok,o.ttl,m⟩) rfl rfl a.out.bn (by kernel_rfl) (by simp[Value.oneCell']) (by simp) rfl ?_;intro W5 i E n;obtain⟨M,k2,t,k4,k5⟩:=a.out.st L.out.2 i;refine hC _ _ (a.out.rdS L.out.2 i) ?_;clear hC C;refine cP ?_;(try simp only[pA])
 all_goals
  go_wp2_with (first|(refine cV rfl 191 _ _ rfl (W.heap.size+2) 0 191 _ _ (rN _ _ _) rfl rfl t (by kernel_rfl) (by simp[Value.oneCell']) (by simp) rfl ?_));intro W6 s X J;have S:=cN (M.fresh s (by omega));have U:=cN (s.kept n (by simp));have V:=cN J;clear i E n M k2 t k4 k5 s X J;go_wp2_with fail;(try simp only[Exit.inBlock,Exit.then]);exact bodyPost_ret (tE _ results225 _ (W.heap.size+1) (W.heap.size+2) _ _ _ _ _ rfl rfl U.out V.out) rfl ⟨by first|rfl|(rw[HR.out]<;>rfl),S.out⟩
theorem aEw(h:Kt W F b g f c o ch tk hd wt ob an mv)(hn1:0≤c.num)(hn2:c.num≤1000)(hm:o.mine.length≤1000000000000)
 (hd1:0≤f.drift) (hd2:f.drift≤10) (ht1:0≤v.ttl) (ht2:v.ttl≤1000) (hs1:0≤v.seq) (hs2:v.seq≤2147483647) (hw1:0≤(c.wat o.lock).since) (hw2:(c.wat o.lock).since≤100000000000):
 Calls prog 226 #[.pointer (some ⟨b,0,none⟩),vlV v] W fun r W'=>r= .returned (.tuple #[vlV (jN c o v).next,wA (jN c o v).res (jN c o v).own (jN c o v).tok])∧Chg NoS W W':=by
 have H:=h.lt;have d:=Bx.mk' (v:=v) h;generalize hX:aHj W v=W0 at d;have HX:Hid (((W.alloc (.cells #[.int .i64 v.own,.int .i64 v.tok,.int .i64 v.ttl,.int .i64 v.seq] 56)).alloc (.cells #[.int .i64 0,.int .i64 0,.int .i64 0,.int .i64 0] 56)).alloc (.cells #[.int .i64 0,.int .i64 0,.int .i64 0] 191)=W0):=hX;have B:Hid (Bx W W0 F b g f c o ch tk hd wt ob an mv v∧(b<W.heap.size∧ob<W.heap.size)):=⟨d,H⟩;obtain⟨p,b4,rfl,b0,_⟩:=vK d.kt.on.2.2.2.1;have a9:=h.on.2.2.2.1;have a8:=d.kt.cl.cell 16 _ rfl;have v0:W0.cell? ⟨W.heap.size,0,none⟩=some (.int .i64 v.own):=cO d.bv 0 _ rfl;have v3:W0.cell? ⟨W.heap.size,3,none⟩=some (.int .i64 v.seq):=cO d.bv 3 _ rfl;have J:∀q,oM c o v=q→Hid (Calls prog 239 #[.pointer (some ⟨b,0,none⟩),vlV v] W0 fun r W'=>r= .returned (.bool q)∧Chg NoS W0 W'):=fun q e=>e▸aDV W0 F b g f c o ch tk hd wt ob an _ v d.kt hn1 hn2;have a7:=cN (cR d.bv);clear hX d H h;obtain⟨w,V⟩:=aLA (jN c o v);rw[V];have n:=cN V;clear V;obtain⟨q,P⟩:=aLA (oM c o v);have HO:=J q P;have D:=cN P;obtain⟨Z,K⟩:=aLA (tP o v.seq);have u:=cN K;clear P J K;go_enter func226,ntmps226;go_wp2_with (first|rw[HX.out]|(first|(refine cW rfl 56 _ rfl ⟨W.heap.size,0,none⟩ rfl (vlL v) _ a7.out underlying56 rfl (by kernel_rfl) ?_))|(go_at_call 239;refine HO.out.mono ?_;rintro r E ⟨rfl,A⟩;refine cQ ?_));have a:=cN (B.out.1.kept A);refine cN ?_;clear a8 v0 v3;have u0:E.cell? ⟨W.heap.size,0,none⟩=some (.int .i64 v.own):=cO a.out.bv 0 _ rfl
 have u1:E.cell? ⟨W.heap.size,1,none⟩=some (.int .i64 v.tok):=cO a.out.bv 1 _ rfl;have u3:E.cell? ⟨W.heap.size,3,none⟩=some (.int .i64 v.seq):=cO a.out.bv 3 _ rfl;cases q;all_goals first
  |have G:Hid (oM c o v=true):=D
   refine lQ (p:=Hid (w=⟨⟨0,v.tok,0,o.att.bal⟩,1,c.num+1,v.tok⟩)) (cN ?_) fun HR=>?_
   ·rw[←n.out];unfold jN;simp[D.out]
   replace a:=cN a.out.drew;go_wp2_with fail;clear u0 u1 u3;refine rlx [0,1,0,0,0,0,1,0,0,1,0,1,0,2] (BxR W.heap.size b ob c o v) (by kernel_rfl) (fun _ _ _ _=>rfl) ?_ ?_
   ·exact a.out.rd
   simp only[dC,dB];iterate 9 (first|(apply sW rfl;·(intro x;go_simp;with_reducible rfl))|(apply sR rfl;·(intro x j;obtain⟨O,m,l,Y,Q,R,h6,S⟩:=j;go_simp;with_reducible rfl)))
   refine eW (v:=.int .i64 (c.num+1)) (f:=217) (args:=#[.pointer (some ⟨b,0,none⟩)]) rfl (fun x j=>by go_simp;try rfl) (fun x j=>qX x b c.num j.2.1 hn1 hn2) ?_;(try simp only[pA]);iterate 3 (first|(apply sW rfl;·(intro x;go_simp;with_reducible rfl))|(apply sR rfl;·(intro x j;obtain⟨O,m,l,Y,Q,R,h6,S⟩:=j;go_simp;with_reducible rfl)))
   (try simp only[pA]);refine dI rfl (fun C hC=>?_);refine eM 56 _ _ rfl (W.heap.size+1) 0 56 _ _ (vlL ⟨0,v.tok,0,o.att.bal⟩) rfl rfl a.out.bn (by kernel_rfl) (by simp[Value.oneCell']) (by simp) rfl ?_;intro W5 i y t;obtain⟨N,k2,A,k4,T⟩:=a.out.st B.out.2 i;refine hC _ _ (a.out.rdS B.out.2 i) ?_;clear hC C;refine cP ?_;(try simp only[pA])
  |have k:=aBt E F ob an _ o v.seq a.out.kt.on hm
   rw[u.out]at k;have I:=cN k;clear k;have a5:(v.own==0)=true∧(Z=true∨Z=false)∨(v.own==0)=false:=by cases (v.own==0)<;>cases Z<;>simp
   have a6:Hid (0<o.mine.length∧(0:Int)<(o.mine.length:Int)∧((v.tok !=c.toks o.lock)=true∨(v.tok !=c.toks o.lock)=false)∨o.mine.length=0):=cN (by
    rcases cC o.mine.length with h|h
    ·exact Or.inr h
    ·exact Or.inl ⟨h,by omega,by cases (v.tok !=c.toks o.lock)<;>simp⟩)
   have l:=True.intro;have s:((0:Int) !=0)=false:=rfl;have X:=True.intro;have U:=True.intro;rcases a5 with⟨m,l|l⟩|m;all_goals
    go_wp2_with (first|(go_at_call 236;refine I.out.mono ?_;rintro r w' ⟨rfl,hW⟩;have a4:=hW.symm;subst a4;clear hW;refine cQ ?_));try(refine cN ?_;go_wp2_with fail)
    first
     |refine lQ (p:=Hid (w=⟨v,1,c.num+1,v.tok⟩)) (cN ?_) fun HR=>?_
      ·rw[←n.out];unfold jN;simp[D.out,u.out,bq m,l]
      clear u0 u1 u3;replace a:=cN a.out.drew;refine rlx [1,0,1,0,1,0,2] (BxR W.heap.size b ob c o v) (by kernel_rfl) (fun _ _ _ _=>rfl) ?_ ?_
      ·exact a.out.rd
      simp only[dC,dB];refine dA (v:=vlV v) rfl (fun x j=>cU 56 _ rfl ⟨W.heap.size,0,none⟩ rfl (vlL v) _ j.1 underlying56 rfl (by kernel_rfl)) ?_;(try simp only[pA])
      repeat(first|(apply sW rfl;·(intro x;go_simp;with_reducible rfl))|(apply sR rfl;·(intro x j;obtain⟨O,m,l,Y,Q,R,h6,S⟩:=j;go_simp;with_reducible rfl)))
      refine eW (v:=.int .i64 (c.num+1)) (f:=217) (args:=#[.pointer (some ⟨b,0,none⟩)]) rfl (fun x j=>by go_simp;try rfl) (fun x j=>qX x b c.num j.2.1 hn1 hn2) ?_;(try simp only[pA])
      repeat(first|(apply sW rfl;·(intro x;go_simp;with_reducible rfl))|(apply sR rfl;·(intro x j;obtain⟨O,m,l,Y,Q,R,h6,S⟩:=j;go_simp;with_reducible rfl)))
      (try simp only[pA]);refine dI rfl (fun C hC=>?_);refine eM 56 _ _ rfl (W.heap.size+1) 0 56 _ _ (vlL v) rfl rfl a.out.bn (by kernel_rfl) (by simp[Value.oneCell']) (by simp) rfl ?_;intro W5 i y t;obtain⟨N,k2,A,k4,T⟩:=a.out.st B.out.2 i;refine hC _ _ (a.out.rdS B.out.2 i) ?_;clear hC C;refine cP ?_;(try simp only[pA])
     |rcases a6.out with⟨X,b5,s|s⟩|U
      all_goals
       first
        |refine lQ (p:=Hid (w=⟨zVl,5,0,0⟩)) (cN ?_) fun HR=>?_
         ·rw[←n.out];unfold jN;simp[D.out,u.out,bq m,l,X,bn s,U]
        |refine lQ (p:=Hid (w=⟨v,3,0,0⟩)) (cN ?_) fun HR=>?_
         ·rw[←n.out];unfold jN;simp[D.out,u.out,bq m,l,X,bn s,U]
       clear m l I;have b3:=cO a.out.kt.on.1 17 _ rfl;have t1:=cO a.out.kt.on.1 1 _ rfl;have b2:=a.out.kt.cl.cell 13 _ rfl;have b1:=MapI.get (W:=E.drew) a.out.kt.cl.maps.toks o.lock;refine eD [0,0,0,1,1,0,0,0,1,0,0,0,1,0,0,0,0,1,1,0,0,0] (by kernel_rfl) (fun _ _ _ _=>rfl) ?_;simp only[dC,dB];iterate 22 ((try simp only[pA]);first|(apply sB rfl rfl;·(intro x h;(try cases h rfl);go_simp;with_reducible rfl))|apply dN rfl|apply dL rfl)
       refine cP ?_;try simp only[pA]
       replace a:=cN a.out.drew;have M:=cN a.out.rd.1;go_wp2_with (first|(refine cV rfl 56 _ _ rfl (W.heap.size+1) 0 56 _ _ (vlL ⟨_,_,_,_⟩) rfl rfl a.out.bn (by kernel_rfl) (by simp[Value.oneCell']) (by simp) rfl ?_)|(refine cW rfl 56 _ rfl ⟨W.heap.size,0,none⟩ rfl (vlL v) _ M.out underlying56 rfl (by kernel_rfl) ?_));intro W5 i y t;obtain⟨N,k2,A,k4,T⟩:=a.out.st B.out.2 i
 all_goals
  go_wp2_with (first|(refine cV rfl 191 _ _ rfl (W.heap.size+2) 0 191 _ _ (rN _ _ _) rfl rfl A (by kernel_rfl) (by simp[Value.oneCell']) (by simp) rfl ?_));intro W6 z a3 L;have a0:=cN (N.fresh z (by omega));have a1:=cN (z.kept t (by simp));have a2:=cN L;clear i y t N k2 A k4 T z a3 L;go_wp2_with fail;(try simp only[Exit.inBlock,Exit.then]);exact bodyPost_ret (tE _ results226 _ (W.heap.size+1) (W.heap.size+2) _ _ _ _ _ rfl rfl a1.out a2.out) rfl ⟨by first|rfl|(rw[HR.out]<;>rfl),a0.out⟩
theorem aDR(h:Kt W F b g f c o ch tk hd wt ob an mv)(hn1:0≤c.num)(hn2:c.num≤1000)(hm:o.mine.length≤1000000000000)
 (hd1:0≤f.drift) (hd2:f.drift≤10) (ht1:0≤v.ttl) (ht2:v.ttl≤1000) (hs1:0≤v.seq) (hs2:v.seq≤2147483647) (hw1:0≤(c.wat o.lock).since) (hw2:(c.wat o.lock).since≤100000000000):
 Calls prog 201 #[.pointer (some ⟨b,0,none⟩),vlV v] W fun r W'=>r= .returned (.tuple #[vlV (eK f c o v).next,wA (eK f c o v).res (eK f c o v).own (eK f c o v).tok])∧Chg NoS W W':=by
 have y:=h.lt;have a:=Bx.mk' (v:=v) h;generalize M:aHj W v=W0 at a;have R:Hid (((W.alloc (.cells #[.int .i64 v.own,.int .i64 v.tok,.int .i64 v.ttl,.int .i64 v.seq] 56)).alloc (.cells #[.int .i64 0,.int .i64 0,.int .i64 0,.int .i64 0] 56)).alloc (.cells #[.int .i64 0,.int .i64 0,.int .i64 0] 191)=W0):=M;have u:Hid (Bx W W0 F b g f c o ch tk hd wt ob an mv v∧(b<W.heap.size∧ob<W.heap.size)):=⟨a,y⟩;have L:=cN (cR a.bv);have U:=a.kt.cl.cell 16 _ rfl;have o0:=cO a.kt.on.1 0 _ rfl;have n:=cN a.kt;clear M a y h;obtain⟨w,D⟩:=aLA (eK f c o v);rw[D];have m:=cN D;clear D;have H:(o.kind==1)=true∨(o.kind==1)=false∧((o.kind==2)=true∨(o.kind==2)=false∧((o.kind==3)=true∨(o.kind==3)=false)):=by
  cases (o.kind==1)<;>cases (o.kind==2)<;>cases (o.kind==3)<;>simp
 have i:((0:Int)==0)=true:=rfl;have j:((0:Int)==0)=true:=rfl;rcases H with k|⟨k,i|⟨i,j|j⟩⟩;all_goals first
  |first
    |have e:=aDZ W0 F b g f c o ch tk hd wt ob an mv v n.out hn1 hn2 hm hd1 hd2 ht1 ht2 hs1 hs2 hw1 hw2
     refine lQ (p:=jH f c o v=w) ?_ fun hA=>?_
     ·rw[←m.out];unfold eK;simp[bq k,bq i,bq j]
     rw[hA]at e;clear hA
    |have e:=aHR W0 F b g f c o ch tk hd wt ob an mv v n.out hn1 hn2 hm hd1 hd2 ht1 ht2 hs1 hs2 hw1 hw2
     refine lQ (p:=pG c o v=w) ?_ fun hA=>?_
     ·rw[←m.out];unfold eK;simp[bq k,bq i,bq j]
     rw[hA]at e;clear hA
    |have e:=aEw W0 F b g f c o ch tk hd wt ob an mv v n.out hn1 hn2 hm hd1 hd2 ht1 ht2 hs1 hs2 hw1 hw2
     refine lQ (p:=jN c o v=w) ?_ fun hA=>?_
     ·rw[←m.out];unfold eK;simp[bq k,bq i,bq j]
     rw[hA]at e;clear hA
   have S:=cN e;have O:Hid (w=w):=cN rfl;clear e n;go_enter func201,ntmps201;go_wp2_with (first|rw[R.out]|(refine cW rfl 56 _ rfl ⟨W.heap.size,0,none⟩ rfl (vlL v) _ L.out underlying56 rfl (by kernel_rfl) ?_)|((first|go_at_call 224|go_at_call 225|go_at_call 226);refine S.out.mono ?_;rintro r W3 ⟨rfl,t⟩;refine cQ ?_));have d:=cN (u.out.1.kept t);refine cN ?_;go_wp2_with (first|(refine cV rfl 56 _ _ rfl (W.heap.size+1) 0 56 _ _ (vlL w.next) rfl rfl d.out.bn (by kernel_rfl) (by simp[Value.oneCell']) (by simp) rfl ?_));intro T l z q;obtain⟨B,P,t,Q,N⟩:=d.out.st u.out.2 l
  |refine lQ (p:=Hid (w=⟨v,4,v.own,v.tok⟩)) (cN ?_) fun O=>?_
   ·rw[←m.out];unfold eK;simp[bq k,bq i,bq j]
   go_enter func201,ntmps201;go_wp2_with (first|rw[R.out]);have d:=cN u.out.1.drew;refine rlx [1,0,1,0,1,0,2] (BxR W.heap.size b ob c o v) (by kernel_rfl) (fun _ _ _ _=>rfl) ?_ ?_
   ·exact d.out.rd
   simp only[dC,dB];refine dA (v:=vlV v) rfl (fun x E=>cU 56 _ rfl ⟨W.heap.size,0,none⟩ rfl (vlL v) _ E.1 underlying56 rfl (by kernel_rfl)) ?_;(try simp only[pA])
   repeat(first|(apply sW rfl;·(intro x;go_simp;with_reducible rfl))|(apply sR rfl;·(intro x E;obtain⟨X,Z,V,h3,Y,h5,h6,h7⟩:=E;go_simp;with_reducible rfl)))
   (try simp only[pA]);refine dI rfl (fun C hC=>?_);refine eM 56 _ _ rfl (W.heap.size+1) 0 56 _ _ (vlL v) rfl rfl d.out.bn (by kernel_rfl) (by simp[Value.oneCell']) (by simp) rfl ?_;intro T l z q;obtain⟨B,P,t,Q,N⟩:=d.out.st u.out.2 l;refine hC _ _ (d.out.rdS u.out.2 l) ?_;clear hC C;refine cP ?_;(try simp only[pA])
 all_goals
  go_wp2_with (first|(refine cV rfl 191 _ _ rfl (W.heap.size+2) 0 191 _ _ (rN _ _ _) rfl rfl t (by kernel_rfl) (by simp[Value.oneCell']) (by simp) rfl ?_));intro W6 s K A;have G:=cN (B.fresh s (by omega));have I:=cN (s.kept q (by simp));have J:=cN A;clear l z q B P t Q N s K A;go_wp2_with fail;(try simp only[Exit.inBlock,Exit.then]);exact bodyPost_ret (tE _ results201 _ (W.heap.size+1) (W.heap.size+2) _ _ _ _ _ rfl rfl I.out J.out) rfl ⟨by first|rfl|(rw[O.out]<;>rfl),G.out⟩
end
section
open Go.Maps
def lU(W:World)(b:Nat)(ev:Value):Prop:=∃nm,W.heap[b]?=some (.cells #[.string ⟨#[97,112,112,101,110,100]⟩,.string nm,ev] 239 (0,0))
abbrev lV(b:Nat):Value:=.iface 234 (rQ b)
def EndsK(v:Value)(ev:Value)(W:World)(F:Nat→Prop)(d:Nat)(p:Dk×How)(e:Ending)(W':World):Prop:=DkTo W F d p.1 W'∧match p.2 with
 |.none=>e= .returned v
 |(.some (.some q))=>e= .panicked (rS q)
 |(.some .none)=>∃b,e= .returned (lV b)∧lU W' b ev∧W.heap.size≤b
theorem EndsK.dies{v ev:Value}{W:World}{F:Nat→Prop}{d:Nat}{k:Dk}(h:Disk W F d k):EndsK v ev W F d (k,(.some (.some (iP k)))) (.panicked (rS (iP k))) W:=⟨.of h,rfl⟩
theorem aE1:keyOf prog 9 vL=some (.string sL):=by kernel_rfl
theorem aGo:keyOf prog 9 yO=some (.string yH):=by kernel_rfl
theorem aEJ(w:World):(zeroValue 207).run prog w= .ok (.pointer none) w:=by kernel_rfl
theorem Chg.nos{S:Nat→Prop}{A B:World}(h:Chg NoS A B):Chg S A B:=h.mono (fun _ _ h=>h.elim)
theorem Chg.nos'{S:Nat→Prop}{A B C:World}(h:Chg S A B)(k:Chg NoS B C):Chg S A C:=h.trans k (fun _ _ h=>h.elim)
section
variable (fl:Nat) (fn:Option Nat)
theorem aGW:(fZ fl fn).atKey (.string sL) (.lit (.int .i64 (-1)))= .lit (.int .i64 fl):=by cases fn<;>rfl
theorem aHt:Maps.has (fZ fl fn) (.string sL)=true:=by cases fn<;>rfl
theorem aBm:Maps.size (fZ fl fn)≤2:=by cases fn<;>simp[fZ,Maps.size]
end
section
variable {W W':World}{F S:Nat→Prop}{d:Nat}{k:Dk}{nm km fl fk:Nat}{fn:Option Nat}{fv:Value}
theorem aBJ(h:oH W nm fl fn):(Instr.lookup 209 (.map (some nm)) vL true).run prog W= .ok (.tuple #[rQ fl,.bool true]) W:=by
 obtain⟨v,c,a,b⟩:=h.look_ok aAA underlying209 (aEJ W) (zd:=.lit (.int .i64 (-1))) (zp:=[]) rfl aE1;rw[aGW]at b;rw[aHt]at a;rw[pB b]at a;exact a
theorem xH{b:Nat}(h:oH W nm fl (some b)):(Instr.lookup 209 (.map (some nm)) yO true).run prog W= .ok (.tuple #[rQ b,.bool true]) W:=by
 obtain⟨v,f,a,c⟩:=h.look_ok aAA underlying209 (aEJ W) (zd:=.lit (.int .i64 (-1))) (zp:=[]) rfl aGo;have e:(fZ fl (some b)).atKey (.string yH) (.lit (.int .i64 (-1)))= .lit (.int .i64 b):=rfl;have d:Maps.has (fZ fl (some b)) (.string yH)=true:=rfl;rw[e]at c;rw[d]at a;rw[pB c]at a;exact a
theorem aKq(h:oH W nm fl none)(b:Nat):∃W',(Instr.mapUpdate 209 (.map (some nm)) yO (rQ b)).run prog W= .ok () W'∧oH W' nm fl (some b)∧Chg (fun x=>x=nm) W W'∧W'.heap.size=W.heap.size:=by
 obtain⟨W',d,a,c⟩:=h.store aAA underlying209 (by decide) aGo (aBT b);refine⟨W',d,?_,pS c,oF c⟩;have e:(fZ fl none).put (.string yH) (.lit (.int .i64 b))=fZ fl (some b):=rfl;rw[e]at a;exact nY a (aBm _ _)
theorem aJF{b:Nat}(h:oH W nm fl (some b))(ty:TypeId):∃W',(Builtin.delete_ #[209,9] ty #[.map (some nm),yO]).run prog W= .ok (.tuple #[]) W'∧oH W' nm fl none∧Chg (fun x=>x=nm) W W'∧W'.heap.size=W.heap.size:=by
 obtain⟨W',c,d,a⟩:=h.drop aAA underlying209 aGo ty;exact⟨W',c,d,pS a,oF a⟩
theorem aJS(h:oH W nm fl none)(b:Nat):∃W',(Instr.mapUpdate 209 (.map (some nm)) vL (rQ b)).run prog W= .ok () W'∧oH W' nm b none∧Chg (fun x=>x=nm) W W'∧W'.heap.size=W.heap.size:=by
 obtain⟨W',d,a,c⟩:=h.store aAA underlying209 (by decide) aE1 (aBT b);refine⟨W',d,?_,pS c,oF c⟩;have e:(fZ fl none).put (.string sL) (.lit (.int .i64 b))=fZ b none:=rfl;rw[e]at a;exact nY a (aBm _ _)
theorem DkAt.names'{fl':Nat}{fn':Option Nat}{k':Dk}(h:DkAt W F d k nm km fl fn fk fv)(hc:Chg (fun x=>x=nm) W W')(hn:oH W' nm fl' fn')(h0:k'.room=k.room)
 (h1:FileAt W' fl' k'.log k'.lsyn) (h2:F fl') (h3:NewAt W' F fl' fn' k'.new) (h4:OldAt W' F fl' fn' fk k'.old) (h5:k'.fail=k.fail):DkAt W' F d k' nm km fl' fn' fk fv:=by
 obtain⟨_,_,b⟩:=eH h.names;obtain⟨_,_,a⟩:=eH h.kept;refine⟨?_,h.fd,hn,eB h.kept (by rw[a];exact hc.kept a (fun e=>h.nk e.symm)),h.fnm,h.fkm,h.nk,h1,h2,h3,h4,?_,fun x hx=>aG (h.lt x hx) hc.size⟩
 ·show W'.heap[d]?=some (.cells (dkL k' nm km fv).toArray _ _);have e:dkL k' nm km fv=dkL k nm km fv:=by simp[dkL,h0]
  rw[e];exact hc.kept h.blk (fun e=>eX h.blk b (by simp) e)
 ·rw[h5];exact h.fail.kept b (by simp) hc
theorem FileAt.kept{b c:Nat}{t:List Int}{y:Int}{o:Obj}(h:FileAt W b t y)(hx:W.heap[c]?=some o)(ho:∀cs fr,o≠.cells cs 214 fr)(hc:Chg (fun k=>k=c) W W'):FileAt W' b t y:=hc.kept h (fun e=>eX h hx (fun e=>ho _ _ e.symm) e)
theorem DkAt.file{c:Nat}{k':Dk}{t:List Int}{y:Int}(h:DkAt W F d k nm km fl fn fk fv)(hx:FileAt W c t y)(hc:Chg (fun x=>x=c) W W')(h0:k'.room=k.room)
 (h1:FileAt W' fl k'.log k'.lsyn) (h3:NewAt W' F fl fn k'.new) (h4:OldAt W' F fl fn fk k'.old) (h5:k'.fail=k.fail):DkAt W' F d k' nm km fl fn fk fv:=by
 obtain⟨_,_,b⟩:=eH h.names;obtain⟨_,_,a⟩:=eH h.kept;refine⟨?_,h.fd,eB h.names (by rw[b];exact hc.kept b (fun e=>eX b hx (by simp) e)),eB h.kept (by rw[a];exact hc.kept a (fun e=>eX a hx (by simp) e)),h.fnm,h.fkm,h.nk,h1,h.flog,h3,h4,?_,fun x hx=>aG (h.lt x hx) hc.size⟩
 ·show W'.heap[d]?=some (.cells (dkL k' nm km fv).toArray _ _);have e:dkL k' nm km fv=dkL k nm km fv:=by simp[dkL,h0]
  rw[e];exact hc.kept h.blk (gA h.blk hx (by decide))
 ·rw[h5];exact h.fail.kept hx (by simp) hc
theorem gR{k k1:Dk}(h:fQ k=some k1):k1.room=k.room∧k1.log=k.log∧k1.lsyn=k.lsyn∧k1.new=k.new∧k1.old=k.old:=by
 unfold fQ at h;split at h
 ·obtain rfl:=aN h;exact⟨rfl,rfl,rfl,rfl,rfl⟩
 ·split at h
  ·cases h
  ·obtain rfl:=aN h;exact⟨rfl,rfl,rfl,rfl,rfl⟩
theorem kS{k k1:Dk}(h:fQ k=some k1)(hf:iC k):iC k1:=by
 unfold fQ at h;split at h
 ·obtain rfl:=aN h;exact hf
 ·rename_i n q b;split at h
  ·cases h
  ·obtain rfl:=aN h;intro p a;have:=hf _ b;simp at a;subst a;dsimp only at*;omega
end
theorem aFS(W:World)(F:Nat→Prop)(d:Nat)(k:Dk)(ev:Value)(h:Disk W F d k)(hok:iC k)(hnew:k.new=none)(hold:k.old=none):
 Calls prog 198 #[.pointer (some ⟨d,0,none⟩),yO] W fun e W'=>EndsK (.tuple #[]) ev W F d (dZ k lH) e W':=by
 obtain⟨i,o,j,y,m,p,h⟩:=h;cases hs:fQ k with
 |none=>
  have A:dZ k lH=(k,(.some (.some (iP k)))):=by unfold dZ;rw[hs]
  rw[A];have Q:=cN h;have z:Hid (Calls prog 185 #[.pointer (some ⟨d,0,none⟩)] W fun e W'=>e= .panicked (rS (iP k))∧W'=W):=nL W F d k i o j y m p h hs;clear h hs;go_enter func198,ntmps198;go_wp2_with (go_at_call 185;refine z.out.mono ?_;rintro r a ⟨rfl,rfl⟩);exact⟨rfl,EndsK.dies ⟨_,_,_,_,_,_,Q.out⟩⟩
 |some k1=>
  have A:dZ k lH=(lH k1,.none):=by unfold dZ;rw[hs]
  rw[A];have O:=gR hs;have z:Hid (Calls prog 185 #[.pointer (some ⟨d,0,none⟩)] W fun e W'=>e= .returned (.tuple #[])∧DkAt W' F d k1 i o j y m p∧Chg F W W'∧W'.heap.size=W.heap.size):=nK W F d k k1 i o j y m p h hok hs;obtain rfl:y=none:=by have:=h.new;rw[hnew]at this;exact this
  clear h hs;go_enter func198,ntmps198;go_wp2_with (go_at_call 185;refine z.out.mono ?_;rintro r a ⟨rfl,v,I,L⟩;refine cQ ?_);have g:Chg NoS a (a.alloc (.cells #[.string ⟨#[]⟩,.int .i64 0] 214)):=(Chg.refl _ _).alloc _;have t:FileAt (a.alloc (.cells #[.string ⟨#[]⟩,.int .i64 0] 214)) a.heap.size [] 0:=aA a _;have S:(a.alloc (.cells #[.string ⟨#[]⟩,.int .i64 0] 214)).heap.size=a.heap.size+1:=by simp
  have f:=v.apart g (fun _ _ h=>h);have D:=v.lt;generalize G:a.alloc (.cells #[.string ⟨#[]⟩,.int .i64 0] 214)=W2 at*;have P:=cN G;have T:=v.cell 1 _ rfl;obtain⟨C,c,s,b,q⟩:=aKq f.names a.heap.size;obtain⟨_,_,B⟩:=eH f.names;have n:DkAt W2 (fun x=>F x∨x=a.heap.size) d k1 i o j none m p:=f.grow (fun _ h=>Or.inl h) (fun x l=>by rcases l with l|l;exact f.lt x l;omega);have K:=O.2.2.2.2.trans hold;have H:DkAt C (fun x=>F x∨x=a.heap.size) d (lH k1) i o j (some a.heap.size) m p:=
   n.names' b s rfl (n.log.kept B (by simp) b) n.flog ⟨_,rfl,t.kept B (by simp) b,Or.inr rfl,fun e=>by have:=D j f.flog;omega⟩ (by
    have J:=n.old;rw[K]at J;show OldAt _ _ _ _ _ k1.old;rw[K];exact J) rfl
  have M:=cN H;have N:=cN ((I.nos' g).trans b (fun x _ e=>e▸f.fnm));have u:=cN c;clear G g t f v s b n H I B c z;have E:=cN L;have R:=cN q;clear L q;refine cN ?_;go_wp2_with (first|rw[P.out]|(at_mapUpdate;refine kT rfl 209 _ _ _ rfl (.map (some i)) yO (rQ a.heap.size) rfl rfl rfl (fun w=>w=C) ⟨C,u.out,rfl⟩ ?_;rintro _ rfl))
  (first|go_end0|((try simp only[Exit.inBlock,Exit.then]);refine bodyPost_ret (results_none rfl _ _ _) rfl ?_))
  exact⟨⟨_,⟨_,_,_,_,_,_,M.out⟩,N.out,fun x l=>l.elim Or.inl (fun e=>Or.inr (by have:=E.out;omega))⟩,rfl⟩
end
section
open Go.Maps
theorem kH(t:List Int):((strOfNums t).size:Int)=(t.length:Int):=by rw[dU]
section
variable (W:World) (F:Nat→Prop) (d:Nat) (k:Dk) (ev:Value)
theorem aEE(h:Disk W F d k)(hok:iC k)(hold:k.old=none):
 Calls prog 197 #[.pointer (some ⟨d,0,none⟩),vL] W fun e W'=>EndsK (.tuple #[]) ev W F d (dZ k mN) e W':=by
 obtain⟨m,s,c,g,i,t,h⟩:=h;cases hs:fQ k with
 |none=>
  have u:dZ k mN=(k,(.some (.some (iP k)))):=by unfold dZ;rw[hs]
  rw[u];have K:=cN h;have o:Hid (Calls prog 185 #[.pointer (some ⟨d,0,none⟩)] W fun e W'=>e= .panicked (rS (iP k))∧W'=W):=nL W F d k m s c g i t h hs;clear h hs;go_enter func197,ntmps197;go_wp2_with (go_at_call 185;refine o.out.mono ?_;rintro r n ⟨rfl,rfl⟩);exact⟨rfl,EndsK.dies ⟨_,_,_,_,_,_,K.out⟩⟩
 |some k1=>
  have u:dZ k mN=(mN k1,.none):=by unfold dZ;rw[hs]
  rw[u];have C:=gR hs;have o:Hid (Calls prog 185 #[.pointer (some ⟨d,0,none⟩)] W fun e W'=>e= .returned (.tuple #[])∧DkAt W' F d k1 m s c g i t∧Chg F W W'∧W'.heap.size=W.heap.size):=nK W F d k k1 m s c g i t h hok hs;clear h hs;go_enter func197,ntmps197;go_wp2_with (go_at_call 185;refine o.out.mono ?_;rintro r n ⟨rfl,a,A,_⟩;refine cQ ?_);have I:=C.2.2.2.2.trans hold;have v:=aBJ a.names;have P:=a.cell 1 _ rfl;have M:=cO a.log 0 _ rfl;have O:=cX a.log 1;have N:=cO a.log 1 _ rfl;have j:=kH k1.log;have f:=cY n c 1 (.int .i64 ((strOfNums k1.log).size:Int));have l:FileAt (n.setCell ⟨c,1,none⟩ (.int .i64 ((strOfNums k1.log).size:Int))) c k1.log k1.log.length:=by
   have:=dD a.log 1 (.int .i64 ((strOfNums k1.log).size:Int));rw[j]at this⊢;exact this
  generalize y:n.setCell ⟨c,1,none⟩ (.int .i64 ((strOfNums k1.log).size:Int))=W2 at*;have L:=cN y;have w:DkAt W2 F d (mN k1) m s c g i t:=a.file a.log f rfl l (by
   show NewAt W2 F c g k1.new;have q:=a.new;cases hk:k1.new with
   |none=>rw[hk]at q;exact q
   |some p=>rw[hk]at q;obtain⟨b,J,E,D,z⟩:=q;exact⟨b,J,f.kept E z,D,z⟩) (by
   show OldAt W2 F c g i k1.old;have B:=a.old;rw[I]at B⊢;exact B) rfl
  have G:=cN w;have H:=cN (A.trans f (fun x _ e=>e▸a.flog));clear y f l a w A o C j;refine cN ?_;go_wp2_with (first|rw[L.out])
  (first|go_end0|((try simp only[Exit.inBlock,Exit.then]);refine bodyPost_ret (results_none rfl _ _ _) rfl ?_))
  exact⟨⟨_,⟨_,_,_,_,_,_,G.out⟩,H.out,fun x hx=>Or.inl hx⟩,rfl⟩
theorem aDC(t:List Int)(y:Int)(h:Disk W F d k)(hok:iC k)(hnew:k.new=some (t,y))(hold:k.old=none):
 Calls prog 197 #[.pointer (some ⟨d,0,none⟩),yO] W fun e W'=>EndsK (.tuple #[]) ev W F d (dZ k hU) e W':=by
 obtain⟨n,q,g,v,i,s,h⟩:=h;cases hs:fQ k with
 |none=>
  have u:dZ k hU=(k,(.some (.some (iP k)))):=by unfold dZ;rw[hs]
  rw[u];have L:=cN h;have p:Hid (Calls prog 185 #[.pointer (some ⟨d,0,none⟩)] W fun e W'=>e= .panicked (rS (iP k))∧W'=W):=nL W F d k n q g v i s h hs;clear h hs;go_enter func197,ntmps197;go_wp2_with (go_at_call 185;refine p.out.mono ?_;rintro r o ⟨rfl,rfl⟩);exact⟨rfl,EndsK.dies ⟨_,_,_,_,_,_,L.out⟩⟩
 |some k1=>
  have u:dZ k hU=(hU k1,.none):=by unfold dZ;rw[hs]
  rw[u];have w:=gR hs;have p:Hid (Calls prog 185 #[.pointer (some ⟨d,0,none⟩)] W fun e W'=>e= .returned (.tuple #[])∧DkAt W' F d k1 n q g v i s∧Chg F W W'∧W'.heap.size=W.heap.size):=nK W F d k k1 n q g v i s h hok hs;clear h hs;go_enter func197,ntmps197;go_wp2_with (go_at_call 185;refine p.out.mono ?_;rintro r o ⟨rfl,c,C,_⟩;refine cQ ?_);have K:=w.2.2.2.2.trans hold;have H:=w.2.2.2.1.trans hnew;have G:=c.new;rw[H]at G;obtain⟨b,rfl,f,D,j⟩:=G;have z:=xH c.names;have Q:=c.cell 1 _ rfl;have N:=cO f 0 _ rfl;have P:=cX f 1;have O:=cO f 1 _ rfl;have l:=kH t;have a:=cY o b 1 (.int .i64 ((strOfNums t).size:Int));have m:FileAt (o.setCell ⟨b,1,none⟩ (.int .i64 ((strOfNums t).size:Int))) b t t.length:=by
   have:=dD f 1 (.int .i64 ((strOfNums t).size:Int));rw[l]at this⊢;exact this
  generalize B:o.setCell ⟨b,1,none⟩ (.int .i64 ((strOfNums t).size:Int))=W2 at*;have M:=cN B;have A:DkAt W2 F d (hU k1) n q g (some b) i s:=c.file f a rfl (a.kept c.log (Ne.symm j)) (by
   show NewAt W2 F g (some b) (hU k1).new;unfold hU;rw[H];exact⟨b,rfl,m,D,j⟩) (by
   show OldAt W2 F g (some b) i k1.old;have E:=c.old;rw[K]at E⊢;exact E) rfl
  have I:=cN A;have J:=cN (C.trans a (fun x _ e=>e▸D));clear B a m c A C p w l f;refine cN ?_;go_wp2_with (first|rw[M.out])
  (first|go_end0|((try simp only[Exit.inBlock,Exit.then]);refine bodyPost_ret (results_none rfl _ _ _) rfl ?_))
  exact⟨⟨_,⟨_,_,_,_,_,_,I.out⟩,J.out,fun x hx=>Or.inl hx⟩,rfl⟩
theorem aFY(t:List Int)(y:Int)(h:Disk W F d k)(hok:iC k)(hnew:k.new=some (t,y))(hold:k.old=none):
 Calls prog 200 #[.pointer (some ⟨d,0,none⟩),yO,vL] W fun e W'=>EndsK (.tuple #[]) ev W F d (dZ k gI) e W':=by
 obtain⟨a,v,s,G,g,z,h⟩:=h;cases hs:fQ k with
 |none=>
  have A:dZ k gI=(k,(.some (.some (iP k)))):=by unfold dZ;rw[hs]
  rw[A];have I:=cN h;have u:Hid (Calls prog 185 #[.pointer (some ⟨d,0,none⟩)] W fun e W'=>e= .panicked (rS (iP k))∧W'=W):=nL W F d k a v s G g z h hs;clear h hs;go_enter func200,ntmps200;go_wp2_with (go_at_call 185;refine u.out.mono ?_;rintro r C ⟨rfl,rfl⟩);exact⟨rfl,EndsK.dies ⟨_,_,_,_,_,_,I.out⟩⟩
 |some k1=>
  have A:dZ k gI=(gI k1,.none):=by unfold dZ;rw[hs]
  rw[A];have H:=gR hs;have u:Hid (Calls prog 185 #[.pointer (some ⟨d,0,none⟩)] W fun e W'=>e= .returned (.tuple #[])∧DkAt W' F d k1 a v s G g z∧Chg F W W'∧W'.heap.size=W.heap.size):=nK W F d k k1 a v s G g z h hok hs;clear h hs;go_enter func200,ntmps200;go_wp2_with (go_at_call 185;refine u.out.mono ?_;rintro r C ⟨rfl,c,Q,_⟩;refine cQ ?_);have e3:=H.2.2.2.2.trans hold;have l:=H.2.2.2.1.trans hnew;have S:=c.new;rw[l]at S;obtain⟨b,rfl,P,U,K⟩:=S;have R:=c.old;rw[e3]at R;obtain rfl:g=s:=R;have N:=xH c.names;have c1:=c.cell 1 _ rfl;obtain⟨_,_,D⟩:=eH c.names;have I:=cN (fun ty=>aJF c.names ty);have o:=cN c;have Y:Hid (∀j i,oH j a g none→Chg (fun x=>x=a) C j→oH i a b none→Chg (fun x=>x=a) j i→DkAt i F d (gI k1) a v b none g z∧Chg F W i):=fun j i m n p q=>by
   obtain⟨_,_,o2⟩:=eH m;have f:=n.trans q (fun _ _ h=>h);refine⟨c.names' f p ?_ ?_ U ?_ ?_ ?_,Q.trans f (fun x _ e=>e▸c.fnm)⟩
   ·unfold gI;rw[l]
   ·unfold gI;rw[l];exact P.kept D (by simp) f
   ·unfold gI;rw[l];rfl
   ·unfold gI;rw[l];exact⟨c.log.kept D (by simp) f,c.flog,Ne.symm K,by simp⟩
   ·unfold gI;rw[l]
  clear c Q u P H;refine cN ?_;go_wp2_with (first|(at_delete;refine rX rfl 209 9 _ _ rfl (.map (some a)) yO rfl rfl (fun w=>oH w a g none∧Chg (fun x=>x=a) C w) (by obtain⟨w,E,B,J,_⟩:=I.out _;exact⟨w,E,B,J⟩) ?_;rintro j ⟨m,n⟩;refine cQ ?_));have d1:=cO (n.kept o.out.blk (fun e=>eX o.out.blk D (by simp) e)) 1 _ rfl;have Z:=cN (aJS m b);have L:=cN m;have M:=cN n;clear m n;refine cN ?_;go_wp2_with (first|(at_mapUpdate;refine kT rfl 209 _ _ _ rfl (.map (some a)) vL (rQ b) rfl rfl rfl (fun w=>oH w a b none∧Chg (fun x=>x=a) j w) (by obtain⟨w,E,B,J,_⟩:=Z.out;exact⟨w,E,B,J⟩) ?_;rintro i ⟨p,q⟩;refine cQ ?_));obtain⟨T,O⟩:=Y.out j i L.out M.out p q;have V:=cN T;have X:=cN O;clear T O p q;refine cN ?_;go_wp2_with fail
  (first|go_end0|((try simp only[Exit.inBlock,Exit.then]);refine bodyPost_ret (results_none rfl _ _ _) rfl ?_))
  exact⟨⟨_,⟨_,_,_,_,_,_,V.out⟩,X.out,fun x hx=>Or.inl hx⟩,rfl⟩
end
end
theorem aBl(a:Addr)(j:Nat):(a.add j).block=a.block:=by
 unfold Addr.add;split<;>rfl
theorem aFv(W:World)(own:Nat→Nat)(y:Nat)(x:Rm)(V:RmV)(i:Nat)(c:Rc)(N:Int)(v:Vl)(h:RmAt W own y x V)(hi:i<x.cls.length)(hc:x.cls[i]=c)(ha:RcA N c)(hbs:RcB x.cf N c)(hN:N≤90000000000)(hv0:0≤v.ttl)(hv1:v.ttl≤1000)(hd0:0≤x.cf.drift)(hd1:x.cf.drift≤10):
 Calls prog 234 #[.pointer (some ⟨y,0,none⟩),.pointer (some ⟨V.bC i,0,none⟩),vlV v] W fun r W'=>r= .returned (.bool (rB x.cf c v))∧Below W.heap.size W W':=by
 obtain⟨B,hB⟩:=aLz (V.bC i);rw[←hB];have P:W.heap[B]?=some (.cells (rcL c (V.mv i) (V.hv i) (V.bv i)).toArray 182 (0,0)):=by
  have:=(h.cls i hi).blk;rw[hc]at this;rw[hB];exact this
 obtain⟨k,hk⟩:∃k:Nat,c.lock=(k:Int):=⟨c.lock.toNat,by have:=hbs.l0;omega⟩;have a8:k≤3:=by have:=hbs.l3;omega
 have b0:(k:Int)<4:=by omega
 have O:Below W.heap.size W (W.alloc (.cells #[.int .i64 v.own,.int .i64 v.tok,.int .i64 v.ttl,.int .i64 v.seq] 56)):=(aJ _ W).alloc (aE _) _;have hv:=aA W (.cells #[.int .i64 v.own,.int .i64 v.tok,.int .i64 v.ttl,.int .i64 v.seq] 56);have M:(W.alloc (.cells #[.int .i64 v.own,.int .i64 v.tok,.int .i64 v.ttl,.int .i64 v.seq] 56)).heap.size=W.heap.size+1:=by simp
 have Y:=h.alloc (.cells #[.int .i64 v.own,.int .i64 v.tok,.int .i64 v.ttl,.int .i64 v.seq] 56);have n:=dM (.cells #[.int .i64 v.own,.int .i64 v.tok,.int .i64 v.ttl,.int .i64 v.seq] 56) P;generalize J:W.alloc (.cells #[.int .i64 v.own,.int .i64 v.tok,.int .i64 v.ttl,.int .i64 v.seq] 56)=W0 at*;have a3:=cN J;have lk:W0.cell? ⟨B,39,none⟩=some (.int .i64 k):=by rw[←hk];exact cO n 39 _ rfl
 obtain⟨u,Z⟩:=aLA (c.wat k);have U:=ha.w k (by omega) (by omega);rw[Z]at U;have L:∀j z,(aCQ u)[j]?=some z→W0.cell? ((⟨B,13+k*6,none⟩:Addr).add j)=some z:=by
  rw[←Z];exact eL n (13+k*6) _ (aCA c _ _ _ k a8)
 have HT:Hid (rB x.cf c v=if u.on=false∨u.val.own≠v.own∨u.val.tok≠v.tok∨u.val.seq≠v.seq then false else decide (v.ttl*(10+x.cf.drift)≤10*(c.at_-u.at_-2))):=by
  show _=_;unfold rB;dsimp only;rw[hk,Z]
 have D:W0.cell? ⟨B,45,none⟩=some (.int .i64 c.at_):=cO n 45 _ rfl;have y4:=Y.cell 4 _ rfl;obtain⟨t,ht⟩:=aLA (rB x.cf c v);rw[ht];have a9:=cN ht;have g:=cN (aLq O M hv n);have F:=cN L;have Q:=cN Y.blk;have K:=cN (aLo hbs.a0 hbs.a1);clear J O hv M Y n P h hB hk Z L ht hc;go_enter func234,ntmps234;go_wp2_with (first|rw[a3.out]);refine rlx [0,0,0,0,0,1,0,0,0,1,2] (fun z=>z.cell? ⟨B,39,none⟩=some (.int .i64 k)∧∀j u',(aCQ u)[j]?=some u'→z.cell? ((⟨B,13+k*6,none⟩:Addr).add j)=some u') (by kernel_rfl) (fun _ _ _ _=>rfl) ?_ ?_
 ·exact⟨lk,fun j z hj=>F.out j z hj⟩
 simp only[dC,dB];iterate 9 (apply sB rfl rfl;·(intro x h;(try have h:=h rfl);(try dsimp only at h);go_simp;with_reducible rfl))
 try simp only[pA]
 refine dA (v:=aLk u) rfl (fun zz hx=>cU 179 _ rfl ⟨B,13+k*6,none⟩ rfl (aCQ u) _ hx.2 underlying179 rfl (by kernel_rfl)) ?_;(try simp only[pA]);refine dI rfl (fun C hC=>?_);go_simp;have G:=lk;have A:=dG g.out.2.2.2;refine hC _ _ ⟨(bJ _ _ _ (by simpa using A)).trans lk,fun j z hj=>(bJ _ _ _ (by rw[aBl];exact A)).trans (F.out j z hj)⟩ ?_;clear hC C G;refine cP ?_;(try simp only[pA]);clear lk D y4;go_wp2_with (refine cV rfl 179 _ _ rfl W0.heap.size 0 179 _ _ (aCQ u) rfl rfl (aA W0.drew _) (by kernel_rfl) (by simp[Value.oneCell']) (by simp) rfl ?_;intro l T a6 f;refine cQ ?_);have a:=((Chg.refl NoS W0).drew.alloc _).nos.trans T (fun _ _ h=>h);have E:=g.out.2.1;rw[E]at a f;have d:=a.kept g.out.2.2.1 (by omega);have R:=a.kept Q.out (fun e=>by have:=dG Q.out;omega);have S:=a.kept g.out.2.2.2 (fun e=>by omega);have b:=cN (g.out.1.trans (a.below (fun q hq=>by omega) g.out.1.size));have u0:l.cell? ⟨W.heap.size+1,0,none⟩=some (.bool u.on):=cO f 0 _ rfl;have u1:l.cell? ⟨W.heap.size+1,1,none⟩=some (.int .i64 u.val.own):=cO f 1 _ rfl;have u2:l.cell? ⟨W.heap.size+1,2,none⟩=some (.int .i64 u.val.tok):=cO f 2 _ rfl;have u4:l.cell? ⟨W.heap.size+1,4,none⟩=some (.int .i64 u.val.seq):=cO f 4 _ rfl;have u5:l.cell? ⟨W.heap.size+1,5,none⟩=some (.int .i64 u.at_):=cO f 5 _ rfl;have v0:l.cell? ⟨W.heap.size,0,none⟩=some (.int .i64 v.own):=cO d 0 _ rfl;have v1:l.cell? ⟨W.heap.size,1,none⟩=some (.int .i64 v.tok):=cO d 1 _ rfl;have v2:l.cell? ⟨W.heap.size,2,none⟩=some (.int .i64 v.ttl):=cO d 2 _ rfl
 have v3:l.cell? ⟨W.heap.size,3,none⟩=some (.int .i64 v.seq):=cO d 3 _ rfl;have D:l.cell? ⟨B,45,none⟩=some (.int .i64 c.at_):=cO S 45 _ rfl;have y4:l.cell? ⟨y,4,none⟩=some (.int .i64 x.cf.drift):=cO R 4 _ rfl;clear T a6 f a d R S;refine cN ?_;simp only[E];have m:=cN (a9.out.symm.trans HT.out);have s:(u.on=false)∨(u.on=true∧(u.val.own !=v.own)=true)∨(u.on=true∧(u.val.own !=v.own)=false∧(u.val.tok !=v.tok)=true)∨(u.on=true∧(u.val.own !=v.own)=false∧(u.val.tok !=v.tok)=false∧(u.val.seq !=v.seq)=true)∨(u.on=true∧(u.val.own !=v.own)=false∧(u.val.tok !=v.tok)=false∧(u.val.seq !=v.seq)=false):=by
  cases Y:u.on<;>cases h2:(u.val.own !=v.own)<;>cases h3:(u.val.tok !=v.tok)<;>cases h4:(u.val.seq !=v.seq)<;>simp
 rcases s with H|⟨H,I⟩|⟨H,I,X⟩|⟨H,I,X,p4⟩|⟨H,I,X,p4⟩
 ·have p:Hid (t=false):=by rw[m.out,if_pos (Or.inl H)];rfl
  go_wp2_with fail;go_ret;exact⟨by rw[p.out];rfl,b.out⟩
 ·have p:Hid (t=false):=by rw[m.out,if_pos (Or.inr (Or.inl (by simpa using I)))];rfl
  go_wp2_with fail;go_ret;exact⟨by rw[p.out];rfl,b.out⟩
 ·have p:Hid (t=false):=by rw[m.out,if_pos (Or.inr (Or.inr (Or.inl (by simpa using X))))];rfl
  go_wp2_with fail;go_ret;exact⟨by rw[p.out];rfl,b.out⟩
 ·have p:Hid (t=false):=by rw[m.out,if_pos (Or.inr (Or.inr (Or.inr (by simpa using p4))))];rfl
  go_wp2_with fail;go_ret;exact⟨by rw[p.out];rfl,b.out⟩
 ·have p:Hid (t=decide (v.ttl*(10+x.cf.drift)≤10*(c.at_-u.at_-2))):=by
   rw[m.out,if_neg]
   ·rfl
   ·intro o;rcases o with o|o|o|o
    ·rw[H]at o;cases o
    ·exact o (by simpa using I)
    ·exact o (by simpa using X)
    ·exact o (by simpa using p4)
  have a7:=K.out.1;have a2:=K.out.2;have w1:IntKind.i64.wrap (c.at_-u.at_)=c.at_-u.at_:=fV (by omega) (by omega);have b2:wrap64 (c.at_-u.at_)=c.at_-u.at_:=by unfold wrap64;omega
  have w2:IntKind.i64.wrap (c.at_-u.at_-2)=c.at_-u.at_-2:=fV (by omega) (by omega);have b1:wrap64 (c.at_-u.at_-2)=c.at_-u.at_-2:=by unfold wrap64;omega
  have w3:IntKind.i64.wrap (10*(c.at_-u.at_-2))=10*(c.at_-u.at_-2):=fV (by omega) (by omega);have w4:IntKind.i64.wrap (10+x.cf.drift)=10+x.cf.drift:=fV (by omega) (by omega);have a4:0≤v.ttl*(10+x.cf.drift):=Int.mul_nonneg hv0 (by omega);have a5:v.ttl*(10+x.cf.drift)≤1000*20:=Int.mul_le_mul hv1 (by omega) (by omega) (by omega);have w5:IntKind.i64.wrap (v.ttl*(10+x.cf.drift))=v.ttl*(10+x.cf.drift):=fV (by omega) (by omega);clear a7 a2 a4 a5;go_wp2_with fail;refine eD [0,0,0,1,0,1,0,0,0,0,1,0,0,0,0,1,0,0,0,0] (by kernel_rfl) (fun _ _ _ _=>rfl) ?_;simp only[dC,dB];iterate 20 (apply sB rfl rfl;·(intro x h;(try cases h rfl);go_simp;with_reducible rfl))
  refine cP ?_;try simp only[pA]
  go_wp2_with fail;go_ret;refine⟨by rw[p.out];simp,?_⟩;exact⟨b.out.os,b.out.tape,b.out.output,b.out.size,b.out.block⟩
section
open Go.Maps
theorem yY(W:World)(m:Nat)(es:Array MapEntry)(clk:Nat)(h:W.heap[m]?=some (.map es clk)):
 Calls prog 186 #[.map (some m)] W fun e W'=>e= .returned (.map (some W.heap.size))∧W'=W.alloc (.map es clk):=by
 have b:= @run_callFunc_extern prog 216 _ Extern.MapsClone.clone func216 (by kernel_rfl) (by kernel_rfl) (by kernel_rfl) (by kernel_rfl);have a:=run_maps_clone_sl (P:=prog) W 209 h;have d:=fun w=>run_eql_map_nil_sl (P:=prog) w 209 _ _ (some m) underlying209;have c:=fun w v=>run_typeAssert_map_sl (P:=prog) w 209 20 _ _ v underlying209;go_enter func186,ntmps186;go_wp2;go_ret;exact⟨rfl,rfl⟩
theorem aB2(W:World)(F:Nat→Prop)(d:Nat)(k:Dk)(ev:Value)(h:Disk W F d k)(hok:iC k)(hnew:k.new=none):
 Calls prog 163 #[.pointer (some ⟨d,0,none⟩)] W fun e W'=>EndsK (.tuple #[]) ev W F d (dZ k oJ) e W':=by
 obtain⟨g,w,i,u,s,o,h⟩:=h;cases hs:fQ k with
 |none=>
  have y:dZ k oJ=(k,(.some (.some (iP k)))):=by unfold dZ;rw[hs]
  rw[y];have P:=cN h;have v:Hid (Calls prog 185 #[.pointer (some ⟨d,0,none⟩)] W fun e W'=>e= .panicked (rS (iP k))∧W'=W):=nL W F d k g w i u s o h hs;clear h hs;go_enter func163,ntmps163;go_wp2_with (go_at_call 185;refine v.out.mono ?_;rintro r a ⟨rfl,rfl⟩);exact⟨rfl,EndsK.dies ⟨_,_,_,_,_,_,P.out⟩⟩
 |some k1=>
  have y:dZ k oJ=(oJ k1,.none):=by unfold dZ;rw[hs]
  rw[y];have H:=gR hs;have v:Hid (Calls prog 185 #[.pointer (some ⟨d,0,none⟩)] W fun e W'=>e= .returned (.tuple #[])∧DkAt W' F d k1 g w i u s o∧Chg F W W'∧W'.heap.size=W.heap.size):=nK W F d k k1 g w i u s o h hok hs;clear h hs;go_enter func163,ntmps163;go_wp2_with (go_at_call 185;refine v.out.mono ?_;rintro r a ⟨rfl,c,E,J⟩;refine cQ ?_);have O:=H.2.2.2.1.trans hnew;obtain rfl:u=none:=by have:=c.new;rw[O]at this;exact this
  obtain⟨m,b,z⟩:=eH c.names;have C:=cN (yY a g m b z);have T:=c.cell 1 _ rfl;have l:Chg NoS a (a.alloc (.map m b)):=(Chg.refl _ _).alloc _;have p:(a.alloc (.map m b)).heap[a.heap.size]?=some (.map m b):=aA a _;have R:(a.alloc (.map m b)).heap.size=a.heap.size+1:=by simp
  have t:=c.apart l (fun _ _ h=>h);generalize K:a.alloc (.map m b)=W2 at*;have I:oH W2 a.heap.size i none:=sC c.names (p.trans z.symm);have A:=c.lt;have f:DkAt W2 (fun x=>F x∨x=a.heap.size) d k1 g w i none s o:=t.grow (fun _ h=>Or.inl h) (fun x n=>by rcases n with n|n;exact t.lt x n;omega);have S:=f.froz 2;have U:=f.cell 2 _ rfl;have j:=cY W2 d 2 (.map (some a.heap.size));have q:=dD f.blk 2 (.map (some a.heap.size));generalize G:W2.setCell ⟨d,2,none⟩ (.map (some a.heap.size))=W3 at*;have N:=cN G;have D:DkAt W3 (fun x=>F x∨x=a.heap.size) d (oJ k1) g a.heap.size i none i o:=
   f.self j q f.names I f.fnm (Or.inr rfl) (fun e=>by have:=A g c.fnm;omega) rfl rfl rfl rfl f.fail
  have L:=cN D;have M:=cN ((E.nos' l).trans j (fun x _ e=>e▸t.fd));have B:=cN J;clear G j q f D t p l I E J c v H K z;refine cN ?_;go_wp2_with (first|rw[N.out]|(go_at_call 186;refine C.out.mono ?_;rintro r Q ⟨rfl,rfl⟩))
  (first|go_end0|((try simp only[Exit.inBlock,Exit.then]);refine bodyPost_ret (results_none rfl _ _ _) rfl ?_))
  exact⟨⟨_,⟨_,_,_,_,_,_,L.out⟩,M.out,fun x n=>n.elim Or.inl (fun e=>Or.inr (by have:=B.out;omega))⟩,rfl⟩
theorem pH(t:List Int)(n:Nat):(strOfNums t).extract 0 n=strOfNums (t.take n):=by
 apply ByteArray.ext;simp[strOfNums,List.map_take]
end
end Go.Proofs.YtbbdgokdfhdpiaaGreatDoor
