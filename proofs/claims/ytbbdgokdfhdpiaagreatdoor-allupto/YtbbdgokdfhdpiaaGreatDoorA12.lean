/- A part of the proof: PFol, PDk2, PDk3, RfTaken, PDk4. -/
import Derived.Maps.RangeWalk
import Derived.Shelf.SlMaps.Clone
import Derived.Test.YtbbdgokdfhdpiaaGreatDoorA11
namespace Go.Proofs.YtbbdgokdfhdpiaaGreatDoor
set_option linter.all false
set_option maxRecDepth 100000
set_option maxHeartbeats 40000000
open Go.Proofs.Tryz Go.RowKit
abbrev rP(r o t:Int):List Value:=[.int .i64 r,.int .i64 o,.int .i64 t]
theorem sP(fn:Func)(hr:fn.results=#[.cell 4 56,.cell 5 191])(tmps:Array Value)(x y:Nat)(v:Vl)(r o t:Int)(W:World)
 (h4:tmps.getD 4 undef= .pointer (some ⟨x,0,none⟩)) (h5:tmps.getD 5 undef= .pointer (some ⟨y,0,none⟩)) (bx:W.heap[x]?=some (.cells (vlL v).toArray 56 (0,0))) (by_:W.heap[y]?=some (.cells (rP r o t).toArray 191 (0,0))):
 (results fn tmps).run prog W= .ok (.tuple #[vlV v,wB r o t]) W:=by
 have b:=fB (P:=prog) W ⟨x,0,none⟩ 56 (vlL v) _ (cR bx) underlying56 rfl (by kernel_rfl);have a:=fB (P:=prog) W ⟨y,0,none⟩ 191 (rP r o t) _ (cR by_) underlying191 rfl (by kernel_rfl);unfold results;rw[hr];simp only[cK]at h4 h5;simp[h4,h5,asAddr,aT,b,a]
theorem aF9(W:World)(F:Nat→Prop)(ob:Nat)(an mv:Value)(o:On)(v:Vl)(h:OnAt W F ob an mv o):
 Calls prog 202 #[.pointer (some ⟨ob,0,none⟩),vlV v,.int .i64 o.att.bal] W fun r W'=>r= .returned (.bool (zR o v))∧Chg NoS W W':=by
 have f:=cO (dM (.cells #[.int .i64 v.own,.int .i64 v.tok,.int .i64 v.ttl,.int .i64 v.seq] 56) h.1) 0 _ rfl;have a:=aA W (.cells #[.int .i64 v.own,.int .i64 v.tok,.int .i64 v.ttl,.int .i64 v.seq] 56);have i:=cO a 1 _ rfl;have g:=cO a 3 _ rfl;clear h a;unfold zR;go_enter func202,ntmps202;by_cases e:o.kind=1
 ·have c:(o.kind==1)=true:=by simp[e]
  go_wp2_with fail;go_ret;exact⟨by simp_all,(Chg.refl _ _).alloc _⟩
 ·have c:(o.kind==1)=false:=by simp[e]
  by_cases d:o.kind=3
  ·have b:(o.kind==3)=true:=by simp[d]
   go_wp2_with fail;go_ret;exact⟨by simp_all,(Chg.refl _ _).alloc _⟩
  ·have b:(o.kind==3)=false:=by simp[d]
   go_wp2_with fail;go_ret;exact⟨by simp_all,(Chg.refl _ _).alloc _⟩
structure aLh(W W0:World)(v:Vl):Prop where
 chg:Chg NoS W W0
 size:W0.heap.size=W.heap.size+3
 bv:W0.heap[W.heap.size]?=some (.cells (vlL v).toArray 56 (0,0))
 bn:W0.heap[W.heap.size+1]?=some (.cells (vlL zVl).toArray 56 (0,0))
 be:W0.heap[W.heap.size+2]?=some (.cells (rP 0 0 0).toArray 191 (0,0))
abbrev aH1(W:World)(v:Vl):World:=((W.alloc (.cells #[.int .i64 v.own,.int .i64 v.tok,.int .i64 v.ttl,.int .i64 v.seq] 56)).alloc (.cells #[.int .i64 0,.int .i64 0,.int .i64 0,.int .i64 0] 56)).alloc (.cells #[.int .i64 0,.int .i64 0,.int .i64 0] 191)
theorem aJZ(W:World)(v:Vl):aLh W (aH1 W v) v:=by
 refine⟨(Chg.alloc2 _ _ _).alloc _,by simp,dM _ (dM _ (aA W _)),dM _ ?_,?_⟩
 ·have h:=aA (W.alloc (.cells #[.int .i64 v.own,.int .i64 v.tok,.int .i64 v.ttl,.int .i64 v.seq] 56)) (.cells #[.int .i64 0,.int .i64 0,.int .i64 0,.int .i64 0] 56);have e:(W.alloc (.cells #[.int .i64 v.own,.int .i64 v.tok,.int .i64 v.ttl,.int .i64 v.seq] 56)).heap.size=W.heap.size+1:=by simp
  rw[e]at h;exact h
 ·have h:=aA ((W.alloc (.cells #[.int .i64 v.own,.int .i64 v.tok,.int .i64 v.ttl,.int .i64 v.seq] 56)).alloc (.cells #[.int .i64 0,.int .i64 0,.int .i64 0,.int .i64 0] 56)) (.cells #[.int .i64 0,.int .i64 0,.int .i64 0] 191);have e:((W.alloc (.cells #[.int .i64 v.own,.int .i64 v.tok,.int .i64 v.ttl,.int .i64 v.seq] 56)).alloc (.cells #[.int .i64 0,.int .i64 0,.int .i64 0,.int .i64 0] 56)).heap.size=W.heap.size+2:=by simp
  rw[e]at h;exact h
theorem Chg.fresh{S:Nat→Prop}{A B C:World}{x:Nat}(h:Chg S A B)(k:Chg (fun y=>y=x) B C)(hx:A.heap.size≤x):Chg S A C:=h.trans k (fun y hy e=>by omega)
section
variable {P:Program} {op:Oper} {a:Act} {w:World} {K:Act→World→Prop} {Q:Exit→Act→World→Prop}
theorem eM(ty:TypeId)(x y:Operand)(ho:op.op= .store ty x y)
 (g o:Nat) (t:TypeId) (cur cells:Array Value) (new:List Value) (hx:a.eval x= .pointer (some ⟨g,o,none⟩)) (hy:a.eval y= .agg cells)
 (hg:w.heap[g]?=some (.cells cur t (0,0))) (hi:(P.info? ty).map (·.size)=some cells.size) (h1:cells.all (·.oneCell')=true) (hfit:o+cells.size≤cur.size)
 (hnew:cur.toList.take o++cells.toList++cur.toList.drop (o+cells.size)=new)
 (h:∀w',Chg (fun k=>k=g) w w'→w'.heap.size=w.heap.size→w'.heap[g]?=some (.cells new.toArray t (0,0))→K (a.put op.dst undef) w'):op.wp P a w K Q:=by
 have b:=tM (P:=P) w g o ty t cur cells hg hi h1 hfit;rw[hnew]at b;have c:=h (w.setRow g new.toArray) (aBG _ _ _) (by simp[World.setRow]) (setRow_heap _ _ _ _ _ _ hg);unfold Oper.wp execOp;simp only[ho,hx,hy,aT,b,Result.andThen_ok,Sem.run_pure];exact c
theorem wt{ty:TypeId}{x y:Operand}{g o:Nat}{t:TypeId}{cur cells:Array Value}(hg:w.heap[g]?=some (.cells cur t (0,0)))(new:List Value)(ho:op.op= .store ty x y)(hx:a.eval x= .pointer (some ⟨g,o,none⟩))(hy:a.eval y= .agg cells)(hk:stB P ty o cells cur=true)
 (hnew:cur.toList.take o++cells.toList++cur.toList.drop (o+cells.size)=new)
 (h:∀w',Chg (fun k=>k=g) w w'→w'.heap.size=w.heap.size→w'.heap[g]?=some (.cells new.toArray t (0,0))→K (a.put op.dst undef) w'):op.wp P a w K Q:=
 have⟨h1,h2,h3⟩:=aEv hk
 eM ty x y ho g o t cur cells new hx hy hg h1 h2 h3 hnew h
end
theorem cQ{p:Prop}(h:Hid p):p:=h.out
structure Bx(W A:World)(F:Nat→Prop)(b g:Nat)(f:Cf)(c:Ct)(o:On)(ch tk hd wt ob:Nat)(an mv:Value)(v:Vl):Prop where
 chg:Chg NoS W A
 size:W.heap.size+3≤A.heap.size
 bv:A.heap[W.heap.size]?=some (.cells (vlL v).toArray 56 (0,0))
 bn:A.heap[W.heap.size+1]?=some (.cells (vlL zVl).toArray 56 (0,0))
 be:A.heap[W.heap.size+2]?=some (.cells (rP 0 0 0).toArray 191 (0,0))
 kt:Kt A F b g f c o ch tk hd wt ob an mv
section
variable {W A B:World}{F:Nat→Prop}{b g:Nat}{f:Cf}{c:Ct}{o:On}{ch tk hd wt ob:Nat}{an mv:Value}{v:Vl}
theorem Bx.kept(h:Bx W A F b g f c o ch tk hd wt ob an mv v)(hc:Chg NoS A B):Bx W B F b g f c o ch tk hd wt ob an mv v:=
 ⟨h.chg.trans hc (fun _ _ h=>h),cA h.size hc.size,hc.kept h.bv (fun h=>h),hc.kept h.bn (fun h=>h),hc.kept h.be (fun h=>h),h.kt.kept hc⟩
theorem Bx.drew(h:Bx W A F b g f c o ch tk hd wt ob an mv v):Bx W A.drew F b g f c o ch tk hd wt ob an mv v:=h.kept (Chg.refl _ _).drew
theorem Bx.mk'(hk:Kt W F b g f c o ch tk hd wt ob an mv):Bx W (aH1 W v) F b g f c o ch tk hd wt ob an mv v:=
 have h:=aJZ W v
 ⟨h.chg,by rw[h.size];omega,h.bv,h.bn,h.be,hk.kept h.chg⟩
theorem Kt.lt(hk:Kt W F b g f c o ch tk hd wt ob an mv):b<W.heap.size∧ob<W.heap.size:=⟨hk.cl.lt _ hk.cl.fb,hk.cl.lt _ hk.on.2.1⟩
theorem Bx.st(h:Bx W A F b g f c o ch tk hd wt ob an mv v)(hl:b<W.heap.size∧ob<W.heap.size)(hc:Chg (fun k=>k=W.heap.size+1) A B):
 Chg NoS W B∧B.heap[W.heap.size]?=some (.cells (vlL v).toArray 56 (0,0))∧B.heap[W.heap.size+2]?=some (.cells (rP 0 0 0).toArray 191 (0,0))∧
 (∀j x,(clL f c ch tk hd wt g (.pointer (some ⟨ob,0,none⟩)))[j]?=some x→B.cell? ⟨b,j,none⟩=some x)∧(∀j x,(xB o an mv)[j]?=some x→B.cell? ⟨ob,j,none⟩=some x):=
 ⟨h.chg.fresh hc (by omega),hc.kept h.bv (by simp),hc.kept h.be (by simp),fun j x hj=>cO (hc.kept h.kt.cl.blk (by omega)) j x (by simpa using hj),fun j x hj=>cO (hc.kept h.kt.on.1 (by omega)) j x (by simpa using hj)⟩
abbrev BxR(n b ob:Nat)(c:Ct)(o:On)(v:Vl)(x:World):Prop:=
 (∀j y,(vlL v)[j]?=some y→x.cell? ((⟨n,0,none⟩:Addr).add j)=some y)∧x.cell? ⟨b,7,none⟩=some (.int .i64 c.num)∧x.cell? ⟨n,0,none⟩=some (.int .i64 v.own)∧x.cell? ⟨n,1,none⟩=some (.int .i64 v.tok)∧x.cell? ⟨b,16,none⟩=some (.pointer (some ⟨ob,0,none⟩))∧x.cell? ⟨ob,2,none⟩=some (.int .i64 o.ttl)∧x.cell? ⟨ob,5,none⟩=some (.int .i64 o.att.bal)∧x.cell? ⟨n,3,none⟩=some (.int .i64 v.seq)
theorem Bx.rd(h:Bx W A F b g f c o ch tk hd wt ob an mv v):BxR W.heap.size b ob c o v A:=
 ⟨cR h.bv,h.kt.cl.cell 7 _ rfl,cO h.bv 0 _ rfl,cO h.bv 1 _ rfl,h.kt.cl.cell 16 _ rfl,cO h.kt.on.1 2 _ rfl,cO h.kt.on.1 5 _ rfl,cO h.bv 3 _ rfl⟩
theorem Bx.rdS(h:Bx W A F b g f c o ch tk hd wt ob an mv v)(hl:b<W.heap.size∧ob<W.heap.size)(hc:Chg (fun k=>k=W.heap.size+1) A B):BxR W.heap.size b ob c o v B:=by
 obtain⟨_,a,_,d,e⟩:=h.st hl hc;exact⟨cR a,d 7 _ rfl,cO a 0 _ rfl,cO a 1 _ rfl,d 16 _ rfl,e 2 _ rfl,e 5 _ rfl,cO a 3 _ rfl⟩
end
theorem aDY(W:World)(F:Nat→Prop)(b g:Nat)(f:Cf)(c:Ct)(o:On)(ch tk hd wt ob:Nat)(an mv:Value)(v:Vl)(h:Kt W F b g f c o ch tk hd wt ob an mv)(hn1:0≤c.num)(hn2:c.num≤1000)(hm:o.mine.length≤1000000000000)
 (hd1:0≤f.drift) (hd2:f.drift≤10) (ht1:0≤v.ttl) (ht2:v.ttl≤1000) (hs1:0≤v.seq) (hs2:v.seq≤2147483647) (hw1:0≤(c.wat o.lock).since) (hw2:(c.wat o.lock).since≤100000000000):
 Calls prog 224 #[.pointer (some ⟨b,0,none⟩),vlV v] W fun r W'=>r= .returned (.tuple #[vlV (jL f c o v).next,wB (jL f c o v).res (jL f c o v).own (jL f c o v).tok])∧Chg NoS W W':=by
 have S:=h.lt;have j:=Bx.mk' (v:=v) h;generalize hX:aH1 W v=W0 at j;have HX:Hid (((W.alloc (.cells #[.int .i64 v.own,.int .i64 v.tok,.int .i64 v.ttl,.int .i64 v.seq] 56)).alloc (.cells #[.int .i64 0,.int .i64 0,.int .i64 0,.int .i64 0] 56)).alloc (.cells #[.int .i64 0,.int .i64 0,.int .i64 0] 191)=W0):=hX;have A:Hid (Bx W W0 F b g f c o ch tk hd wt ob an mv v∧(b<W.heap.size∧ob<W.heap.size)):=⟨j,S⟩;have a7:=j.kt.cl.cell 16 _ rfl;have o5:=cO j.kt.on.1 5 _ rfl;have v1:W0.cell? ⟨W.heap.size,1,none⟩=some (.int .i64 v.tok):=cO j.bv 1 _ rfl;have Q:∀q,tQ o v.tok=q→Hid (Calls prog 236 #[.pointer (some ⟨ob,0,none⟩),.int .i64 v.tok] W0.drew fun r W'=>r= .returned (.bool q)∧W'=W0.drew):=fun q e=>e▸aBD W0.drew F ob an mv o v.tok j.kt.on hm;have R:∀q,tE o v.tok=q→Hid (Calls prog 237 #[.pointer (some ⟨ob,0,none⟩),.int .i64 v.tok] W0.drew fun r W'=>r= .returned (.bool q)∧Chg NoS W0.drew W'):=fun q e=>e▸aAt W0.drew F ob an mv o v.tok j.kt.on hm;clear hX j S h;obtain⟨w,hw⟩:=aLx (jL f c o v);rw[hw];have y:=cN hw;clear hw;obtain⟨qm,N⟩:=aLx (tQ o v.tok);have HM:=Q qm N;have s:=cN N;obtain⟨qa,M⟩:=aLx (tE o v.tok);have HA:=R qa M;have z:=cN M;obtain⟨Z,U⟩:=aLx (zX f c o v);have O:=cN U;clear N M U Q R;go_enter func224,ntmps224;go_wp2_with (rw[HX.out]);refine eD [0,0,0,1,0,0,0,1,0,0,0,1,0,0] (by kernel_rfl) (fun _ _ _ _=>rfl) ?_;simp only[dC,dB];iterate 14 (apply sB rfl rfl;·(intro x h;(try cases h rfl);go_simp;with_reducible rfl))
 refine cP ?_;try simp only[pA]
 go_wp2_with (go_at_call 236;refine HM.out.mono ?_;rintro r w' ⟨rfl,hW⟩;have a3:=hW.symm;subst a3;clear hW;refine cQ ?_);refine cN ?_;cases qm;all_goals first
  |have G:Hid (tQ o v.tok=true):=s
   refine lV (p:=Hid (w=⟨v,1,c.num+1,v.tok⟩)) (cN ?_) fun HR=>?_
   ·rw[←y.out];unfold jL;simp[s.out]
   have a:=cN A.out.1.drew.drew;go_wp2_with fail;refine rlx [1,0,1,0,1,0,2] (BxR W.heap.size b ob c o v) (by kernel_rfl) (fun _ _ _ _=>rfl) ?_ ?_
   ·exact a.out.rd
   simp only[dC,dB];refine dA (v:=vlV v) rfl (fun x d=>cU 56 _ rfl ⟨W.heap.size,0,none⟩ rfl (vlL v) _ d.1 underlying56 rfl (by kernel_rfl)) ?_;(try simp only[pA])
   repeat(first|(apply sW rfl;·(intro x;go_simp;with_reducible rfl))|(apply sR rfl;·(intro x d;obtain⟨J,m,k,l,I,D,E,H⟩:=d;go_simp;with_reducible rfl)))
   refine eW (v:=.int .i64 (c.num+1)) (f:=217) (args:=#[.pointer (some ⟨b,0,none⟩)]) rfl (fun x d=>by go_simp;try rfl) (fun x d=>rC x b c.num d.2.1 hn1 hn2) ?_;(try simp only[pA])
   repeat(first|(apply sW rfl;·(intro x;go_simp;with_reducible rfl))|(apply sR rfl;·(intro x d;obtain⟨J,m,k,l,I,D,E,H⟩:=d;go_simp;with_reducible rfl)))
   (try simp only[pA]);refine dI rfl (fun C hC=>?_);refine eM 56 _ _ rfl (W.heap.size+1) 0 56 _ _ (vlL v) rfl rfl a.out.bn (by kernel_rfl) (by simp[Value.oneCell']) (by simp) rfl ?_;intro Y i u n;obtain⟨P,X,B,K,V⟩:=a.out.st A.out.2 i;refine hC _ _ (a.out.rdS A.out.2 i) ?_;clear hC C;refine cP ?_;(try simp only[pA])
  |go_wp2_with (go_at_call 237;refine HA.out.mono ?_;rintro r W3 ⟨rfl,B⟩;refine cQ ?_)
   have a:=cN (A.out.1.drew.kept B);refine cN ?_;cases qa;all_goals first
    |have G:Hid (tE o v.tok=true):=z
     refine lV (p:=Hid (w=⟨zVl,5,0,0⟩)) (cN ?_) fun HR=>?_
     ·rw[←y.out];unfold jL;simp[s.out,z.out]
     go_wp2_with (first|(refine cV rfl 56 _ _ rfl (W.heap.size+1) 0 56 _ _ (vlL zVl) rfl rfl a.out.bn (by kernel_rfl) (by simp[Value.oneCell']) (by simp) rfl ?_));intro Y i u n;obtain⟨P,X,B,K,V⟩:=a.out.st A.out.2 i
    |replace a:=cN a.out.drew
     have t:=aAz W3.drew F b g f c o ch tk hd wt ob an mv v a.out.kt hd1 hd2 ht1 ht2 hw1 hw2;rw[O.out]at t;have a1:=cN t;clear t;clear B;have a0:(v.own==0)=true∨(v.own==0)=false∧((v.own==c.num+1)=true∨(v.own==c.num+1)=false∧(Z=true∨Z=false)):=by
      cases (v.own==0)<;>cases (v.own==c.num+1)<;>cases Z<;>simp
     have k:((0:Int)==0)=true:=rfl;have l:=True.intro;rcases a0 with m|⟨m,k|⟨k,l|l⟩⟩;all_goals
      go_wp2_with fail;refine rlx [0,1,0,0,0,1,0,1,0,0,0,0,1] (BxR W.heap.size b ob c o v) (by kernel_rfl) (fun _ _ _ _=>rfl) ?_ ?_
      ·exact a.out.rd
      simp only[dC,dB];iterate 7 ((try simp only[pA]);first|(apply sW rfl;·(intro x;go_simp;with_reducible rfl))|(apply sR rfl;·(intro x d;obtain⟨J,m,k,l,I,D,E,H⟩:=d;go_simp;with_reducible rfl))|apply dN rfl|apply dL rfl)
      (try simp only[pA]);first
       |refine eW (v:=.int .i64 (c.num+1)) (f:=217) (args:=#[.pointer (some ⟨b,0,none⟩)]) rfl (fun x d=>by go_simp;try rfl) (fun x d=>rC x b c.num d.2.1 hn1 hn2) ?_
       |refine dL rfl ?_
      iterate 4 ((try simp only[pA]);first|(apply sW rfl;·(intro x;go_simp;with_reducible rfl))|(apply sR rfl;·(intro x d;obtain⟨J,m,k,l,I,D,E,H⟩:=d;go_simp;with_reducible rfl))|apply dN rfl|apply dL rfl)
      (try simp only[pA]);first
       |refine wQ (v:=vlV v) rfl (fun x d=>cU 56 _ rfl ⟨W.heap.size,0,none⟩ rfl (vlL v) _ d.1 underlying56 rfl (by kernel_rfl)) ?_
       |refine dL rfl ?_
      refine cP ?_;(try simp only[pA]);go_wp2_with (go_at_call 238;refine a1.out.mono ?_;rintro r W4 ⟨rfl,K⟩);first
       |replace a:=cN (a.out.kept K).drew
        clear K
       |replace a:=cN a.out.drew
      first
       |refine lV (p:=Hid (w=⟨v,2,v.own,v.tok⟩)) (cN ?_) fun HR=>?_
        ·rw[←y.out];unfold jL;simp[s.out,z.out,O.out,bq m,bq k,l]
        refine rlx [1,0,1,0,1,0,2] (BxR W.heap.size b ob c o v) (by kernel_rfl) (fun _ _ _ _=>rfl) ?_ ?_
        ·exact a.out.rd
        simp only[dC,dB];refine dA (v:=vlV v) rfl (fun x d=>cU 56 _ rfl ⟨W.heap.size,0,none⟩ rfl (vlL v) _ d.1 underlying56 rfl (by kernel_rfl)) ?_;(try simp only[pA])
        repeat(first|(apply sW rfl;·(intro x;go_simp;with_reducible rfl))|(apply sR rfl;·(intro x d;obtain⟨J,m,k,l,I,D,E,H⟩:=d;go_simp;with_reducible rfl)))
        (try simp only[pA]);refine dI rfl (fun C hC=>?_);refine eM 56 _ _ rfl (W.heap.size+1) 0 56 _ _ (vlL v) rfl rfl a.out.bn (by kernel_rfl) (by simp[Value.oneCell']) (by simp) rfl ?_;intro Y i u n;obtain⟨P,X,B,K,V⟩:=a.out.st A.out.2 i;refine hC _ _ (a.out.rdS A.out.2 i) ?_;clear hC C;refine cP ?_;(try simp only[pA])
       |refine lV (p:=Hid (w=⟨⟨c.num+1,o.att.bal,o.ttl,1⟩,1,c.num+1,o.att.bal⟩)) (cN ?_) fun HR=>?_
        ·rw[←y.out];unfold jL;simp[s.out,z.out,O.out,bq m,bq k,l]
        refine rlx [0,1,0,0,0,0,0,1,0,0,1,0,0] (BxR W.heap.size b ob c o v) (by kernel_rfl) (fun _ _ _ _=>rfl) ?_ ?_
        ·exact a.out.rd
        simp only[dC,dB];iterate 1 (first|(apply sW rfl;·(intro x;go_simp;with_reducible rfl))|(apply sR rfl;·(intro x d;obtain⟨J,m,k,l,I,D,E,H⟩:=d;go_simp;with_reducible rfl)))
        refine eW (v:=.int .i64 (c.num+1)) (f:=217) (args:=#[.pointer (some ⟨b,0,none⟩)]) rfl (fun x d=>by go_simp;try rfl) (fun x d=>rC x b c.num d.2.1 hn1 hn2) ?_;(try simp only[pA]);iterate 8 (first|(apply sW rfl;·(intro x;go_simp;with_reducible rfl))|(apply sR rfl;·(intro x d;obtain⟨J,m,k,l,I,D,E,H⟩:=d;go_simp;with_reducible rfl)))
        refine eW (v:=.int .i64 (c.num+1)) (f:=217) (args:=#[.pointer (some ⟨b,0,none⟩)]) rfl (fun x d=>by go_simp;try rfl) (fun x d=>rC x b c.num d.2.1 hn1 hn2) ?_;(try simp only[pA]);iterate 2 (first|(apply sW rfl;·(intro x;go_simp;with_reducible rfl))|(apply sR rfl;·(intro x d;obtain⟨J,m,k,l,I,D,E,H⟩:=d;go_simp;with_reducible rfl)))
        refine cP ?_;(try simp only[pA]);refine cV rfl 56 _ _ rfl (W.heap.size+1) 0 56 _ _ (vlL ⟨c.num+1,o.att.bal,o.ttl,1⟩) rfl rfl a.out.bn (by kernel_rfl) (by simp[Value.oneCell']) (by simp) rfl ?_;intro Y i u n;obtain⟨P,X,B,K,V⟩:=a.out.st A.out.2 i;(try simp only[pA])
 all_goals
  go_wp2_with (first|(refine cV rfl 191 _ _ rfl (W.heap.size+2) 0 191 _ _ (rP _ _ _) rfl rfl B (by kernel_rfl) (by simp[Value.oneCell']) (by simp) rfl ?_));intro W6 L a2 T;have a6:=cN (P.fresh L (by omega));have a4:=cN (L.kept n (by simp));have a5:=cN T;clear i u n P X B K V L a2 T;go_wp2_with fail;(try simp only[Exit.inBlock,Exit.then]);exact bodyPost_ret (sP _ results224 _ (W.heap.size+1) (W.heap.size+2) _ _ _ _ _ rfl rfl a4.out a5.out) rfl ⟨by first|rfl|(rw[HR.out]<;>rfl),a6.out⟩
theorem Bx.upd{W A B:World}{F:Nat→Prop}{b g:Nat}{f:Cf}{c:Ct}{o:On}{ch tk hd wt ob:Nat}{an mv:Value}{v:Vl}(h:Bx W A F b g f c o ch tk hd wt ob an mv v)(hk:Kt W F b g f c o ch tk hd wt ob an mv)(hc:Chg (fun k=>k=W.heap.size) A B)(u:Vl)(hb:B.heap[W.heap.size]?=some (.cells (vlL u).toArray 56 (0,0))):Bx W B F b g f c o ch tk hd wt ob an mv u:=
 have hw:Chg NoS W B:=h.chg.fresh hc (aE _)
 ⟨hw,cA h.size hc.size,hb,hc.kept h.bn (by simp),hc.kept h.be (by simp),hk.kept hw⟩
theorem aJD(a b:Int):(if b<a then b else a)=min a b:=by
 split<;>omega
section
variable (W:World) (F:Nat→Prop) (b g:Nat) (f:Cf) (c:Ct) (o:On) (ch tk hd wt ob:Nat) (an mv:Value) (v:Vl)
theorem aHh(h:Kt W F b g f c o ch tk hd wt ob an mv)(hn1:0≤c.num)(hn2:c.num≤1000)(hm:o.mine.length≤1000000000000)
 (hd1:0≤f.drift) (hd2:f.drift≤10) (ht1:0≤v.ttl) (ht2:v.ttl≤1000) (hs1:0≤v.seq) (hs2:v.seq≤2147483647) (hw1:0≤(c.wat o.lock).since) (hw2:(c.wat o.lock).since≤100000000000):
 Calls prog 225 #[.pointer (some ⟨b,0,none⟩),vlV v] W fun r W'=>r= .returned (.tuple #[vlV (qD c o v).next,wB (qD c o v).res (qD c o v).own (qD c o v).tok])∧Chg NoS W W':=by
 have E:=h.lt;have j:=Bx.mk' (v:=v) h;generalize hX:aH1 W v=W0 at j;have HX:Hid (((W.alloc (.cells #[.int .i64 v.own,.int .i64 v.tok,.int .i64 v.ttl,.int .i64 v.seq] 56)).alloc (.cells #[.int .i64 0,.int .i64 0,.int .i64 0,.int .i64 0] 56)).alloc (.cells #[.int .i64 0,.int .i64 0,.int .i64 0] 191)=W0):=hX;have L:Hid (Bx W W0 F b g f c o ch tk hd wt ob an mv v∧(b<W.heap.size∧ob<W.heap.size)):=⟨j,E⟩;have HK:=cN h;have J:∀q,oL c o v=q→Hid (Calls prog 239 #[.pointer (some ⟨b,0,none⟩),vlV v] W0 fun r W'=>r= .returned (.bool q)∧Chg NoS W0 W'):=fun q e=>e▸aDN W0 F b g f c o ch tk hd wt ob an mv v j.kt hn1 hn2;have V:=cN (cR j.bv);clear hX j E h;obtain⟨w,R⟩:=aLx (qD c o v);rw[R];have A:=cN R;clear R;obtain⟨q,N⟩:=aLx (oL c o v);have HO:=J q N;have P:=cN N;clear N J;go_enter func225,ntmps225;go_wp2_with (first|rw[HX.out]|(first|(refine cW rfl 56 _ rfl ⟨W.heap.size,0,none⟩ rfl (vlL v) _ V.out underlying56 rfl (by kernel_rfl) ?_))|(go_at_call 239;refine HO.out.mono ?_;rintro r W3 ⟨rfl,u⟩;refine cQ ?_));have a:=cN (L.out.1.kept u);refine cN ?_;cases q;all_goals first
  |have G:Hid (oL c o v=false):=P
   refine lV (p:=Hid (w=⟨v,3,0,0⟩)) (cN ?_) fun HR=>?_
   ·rw[←A.out];unfold qD;simp[P.out]
   have K:=cN a.out.rd.1;go_wp2_with (first|(refine cV rfl 56 _ _ rfl (W.heap.size+1) 0 56 _ _ (vlL v) rfl rfl a.out.bn (by kernel_rfl) (by simp[Value.oneCell']) (by simp) rfl ?_)|(refine cW rfl 56 _ rfl ⟨W.heap.size,0,none⟩ rfl (vlL v) _ K.out underlying56 rfl (by kernel_rfl) ?_));intro W5 i y n;obtain⟨Q,k2,u,k4,k5⟩:=a.out.st L.out.2 i
  |have w1:IntKind.i64.wrap (v.seq+1)=v.seq+1:=fX (by omega) (by omega)
   obtain⟨m,D⟩:=aLx (min (v.seq+1) 2147483647);have B:=cN D;clear D;refine lV (p:=Hid (w=⟨⟨v.own,v.tok,o.ttl,m⟩,1,c.num+1,v.tok⟩)) (cN ?_) fun HR=>?_
   ·rw[←A.out];unfold qD;simp[P.out,B.out]
   replace a:=cN a.out.drew;go_wp2_with fail;refine rlx [0,0,0,1,0,0,0,1,0,1,0,0,0] (BxR W.heap.size b ob c o v) (by kernel_rfl) (fun _ _ _ _=>rfl) ?_ ?_
   ·exact a.out.rd
   simp only[dC,dB];iterate 13 (first|(apply sW rfl;·(intro x;go_simp;with_reducible rfl))|(apply sR rfl;·(intro x k;obtain⟨h0,h1,h2,h3,h4,h5,h6,h7⟩:=k;go_simp;with_reducible rfl)))
   refine cP ?_;(try simp only[pA]);(try rw[aJD]);(try rw[B.out]);generalize W3.drew=Wd at a⊢;have t:=a.out;have n2:=cO t.bv 2 _ rfl;have z2:=cX t.bv 2;have O:=cY Wd W.heap.size 2 (.int .i64 o.ttl);have d:=t.upd HK.out O ⟨v.own,v.tok,o.ttl,v.seq⟩ (dD t.bv 2 _);generalize z:Wd.setCell ⟨W.heap.size,2,none⟩ (.int .i64 o.ttl)=W4 at O d;have U:=cN z;have n3:=cO d.bv 3 _ rfl;have z3:=cX d.bv 3;have M:=cY W4 W.heap.size 3 (.int .i64 m);have s:=d.upd HK.out M ⟨v.own,v.tok,o.ttl,m⟩ (dD d.bv 3 _);generalize H:W4.setCell ⟨W.heap.size,3,none⟩ (.int .i64 m)=W5 at M s;have S:=cN H;replace a:=cN s.drew;clear t d s z H O M;go_wp2_with (first|rw[U.out]|rw[S.out]);clear n2 z2 n3 z3;refine rlx [1,0,1,0,1,0,2] (BxR W.heap.size b ob c o ⟨v.own,v.tok,o.ttl,m⟩) (by kernel_rfl) (fun _ _ _ _=>rfl) ?_ ?_
   ·exact a.out.rd
   simp only[dC,dB];refine dA (v:=vlV ⟨v.own,v.tok,o.ttl,m⟩) rfl (fun x k=>cU 56 _ rfl ⟨W.heap.size,0,none⟩ rfl (vlL ⟨v.own,v.tok,o.ttl,m⟩) _ k.1 underlying56 rfl (by kernel_rfl)) ?_;(try simp only[pA])
   repeat(first|(apply sW rfl;·(intro x;go_simp;with_reducible rfl))|(apply sR rfl;·(intro x k;obtain⟨h0,h1,h2,h3,h4,h5,h6,h7⟩:=k;go_simp;with_reducible rfl)))
   refine eW (v:=.int .i64 (c.num+1)) (f:=217) (args:=#[.pointer (some ⟨b,0,none⟩)]) rfl (fun x k=>by go_simp;try rfl) (fun x k=>rC x b c.num k.2.1 hn1 hn2) ?_;(try simp only[pA])
   repeat(first|(apply sW rfl;·(intro x;go_simp;with_reducible rfl))|(apply sR rfl;·(intro x k;obtain⟨h0,h1,h2,h3,h4,h5,h6,h7⟩:=k;go_simp;with_reducible rfl)))
   (try simp only[pA]);refine dI rfl (fun C hC=>?_);refine eM 56 _ _ rfl (W.heap.size+1) 0 56 _ _ (vlL ⟨v.own,v.tok,o.ttl,m⟩) rfl rfl a.out.bn (by kernel_rfl) (by simp[Value.oneCell']) (by simp) rfl ?_;intro W5 i y n;obtain⟨Q,k2,u,k4,k5⟩:=a.out.st L.out.2 i;refine hC _ _ (a.out.rdS L.out.2 i) ?_;clear hC C;refine cP ?_;(try simp only[pA])
 all_goals
  go_wp2_with (first|(refine cV rfl 191 _ _ rfl (W.heap.size+2) 0 191 _ _ (rP _ _ _) rfl rfl u (by kernel_rfl) (by simp[Value.oneCell']) (by simp) rfl ?_));intro W6 l T I;have Z:=cN (Q.fresh l (by omega));have X:=cN (l.kept n (by simp));have Y:=cN I;clear i y n Q k2 u k4 k5 l T I;go_wp2_with fail;(try simp only[Exit.inBlock,Exit.then]);exact bodyPost_ret (sP _ results225 _ (W.heap.size+1) (W.heap.size+2) _ _ _ _ _ rfl rfl X.out Y.out) rfl ⟨by first|rfl|(rw[HR.out]<;>rfl),Z.out⟩
theorem aET(h:Kt W F b g f c o ch tk hd wt ob an mv)(hn1:0≤c.num)(hn2:c.num≤1000)(hm:o.mine.length≤1000000000000)
 (hd1:0≤f.drift) (hd2:f.drift≤10) (ht1:0≤v.ttl) (ht2:v.ttl≤1000) (hs1:0≤v.seq) (hs2:v.seq≤2147483647) (hw1:0≤(c.wat o.lock).since) (hw2:(c.wat o.lock).since≤100000000000):
 Calls prog 226 #[.pointer (some ⟨b,0,none⟩),vlV v] W fun r W'=>r= .returned (.tuple #[vlV (jN c o v).next,wB (jN c o v).res (jN c o v).own (jN c o v).tok])∧Chg NoS W W':=by
 have I:=h.lt;have d:=Bx.mk' (v:=v) h;generalize hX:aH1 W v=W0 at d;have HX:Hid (((W.alloc (.cells #[.int .i64 v.own,.int .i64 v.tok,.int .i64 v.ttl,.int .i64 v.seq] 56)).alloc (.cells #[.int .i64 0,.int .i64 0,.int .i64 0,.int .i64 0] 56)).alloc (.cells #[.int .i64 0,.int .i64 0,.int .i64 0] 191)=W0):=hX;have A:Hid (Bx W W0 F b g f c o ch tk hd wt ob an mv v∧(b<W.heap.size∧ob<W.heap.size)):=⟨d,I⟩;obtain⟨p,b5,rfl,b0,_⟩:=uZ d.kt.on.2.2.2.1;have a9:=h.on.2.2.2.1;have a2:=d.kt.cl.cell 16 _ rfl;have v0:W0.cell? ⟨W.heap.size,0,none⟩=some (.int .i64 v.own):=cO d.bv 0 _ rfl;have v3:W0.cell? ⟨W.heap.size,3,none⟩=some (.int .i64 v.seq):=cO d.bv 3 _ rfl;have L:∀q,oL c o v=q→Hid (Calls prog 239 #[.pointer (some ⟨b,0,none⟩),vlV v] W0 fun r W'=>r= .returned (.bool q)∧Chg NoS W0 W'):=fun q e=>e▸aDN W0 F b g f c o ch tk hd wt ob an _ v d.kt hn1 hn2;have a5:=cN (cR d.bv);clear hX d I h;obtain⟨w,hw⟩:=aLx (jN c o v);rw[hw];have n:=cN hw;clear hw;obtain⟨q,P⟩:=aLx (oL c o v);have HO:=L q P;have E:=cN P;obtain⟨Z,J⟩:=aLx (tQ o v.seq);have u:=cN J;clear P L J;go_enter func226,ntmps226;go_wp2_with (first|rw[HX.out]|(first|(refine cW rfl 56 _ rfl ⟨W.heap.size,0,none⟩ rfl (vlL v) _ a5.out underlying56 rfl (by kernel_rfl) ?_))|(go_at_call 239;refine HO.out.mono ?_;rintro r D ⟨rfl,B⟩;refine cQ ?_));have a:=cN (A.out.1.kept B);refine cN ?_;clear a2 v0 v3;have u0:D.cell? ⟨W.heap.size,0,none⟩=some (.int .i64 v.own):=cO a.out.bv 0 _ rfl
 have u1:D.cell? ⟨W.heap.size,1,none⟩=some (.int .i64 v.tok):=cO a.out.bv 1 _ rfl;have u3:D.cell? ⟨W.heap.size,3,none⟩=some (.int .i64 v.seq):=cO a.out.bv 3 _ rfl;cases q;all_goals first
  |have G:Hid (oL c o v=true):=E
   refine lV (p:=Hid (w=⟨⟨0,v.tok,0,o.att.bal⟩,1,c.num+1,v.tok⟩)) (cN ?_) fun HR=>?_
   ·rw[←n.out];unfold jN;simp[E.out]
   replace a:=cN a.out.drew;go_wp2_with fail;clear u0 u1 u3;refine rlx [0,1,0,0,0,0,1,0,0,1,0,1,0,2] (BxR W.heap.size b ob c o v) (by kernel_rfl) (fun _ _ _ _=>rfl) ?_ ?_
   ·exact a.out.rd
   simp only[dC,dB];iterate 9 (first|(apply sW rfl;·(intro x;go_simp;with_reducible rfl))|(apply sR rfl;·(intro x j;obtain⟨V,m,l,X,U,O,S,T⟩:=j;go_simp;with_reducible rfl)))
   refine eW (v:=.int .i64 (c.num+1)) (f:=217) (args:=#[.pointer (some ⟨b,0,none⟩)]) rfl (fun x j=>by go_simp;try rfl) (fun x j=>rC x b c.num j.2.1 hn1 hn2) ?_;(try simp only[pA]);iterate 3 (first|(apply sW rfl;·(intro x;go_simp;with_reducible rfl))|(apply sR rfl;·(intro x j;obtain⟨V,m,l,X,U,O,S,T⟩:=j;go_simp;with_reducible rfl)))
   (try simp only[pA]);refine dI rfl (fun C hC=>?_);refine eM 56 _ _ rfl (W.heap.size+1) 0 56 _ _ (vlL ⟨0,v.tok,0,o.att.bal⟩) rfl rfl a.out.bn (by kernel_rfl) (by simp[Value.oneCell']) (by simp) rfl ?_;intro W5 i y t;obtain⟨N,R,B,k4,Q⟩:=a.out.st A.out.2 i;refine hC _ _ (a.out.rdS A.out.2 i) ?_;clear hC C;refine cP ?_;(try simp only[pA])
  |have k:=aBD D F ob an _ o v.seq a.out.kt.on hm
   rw[u.out]at k;have H:=cN k;clear k;have a0:(v.own==0)=true∧(Z=true∨Z=false)∨(v.own==0)=false:=by cases (v.own==0)<;>cases Z<;>simp
   have a1:Hid (0<o.mine.length∧(0:Int)<(o.mine.length:Int)∧((v.tok !=c.toks o.lock)=true∨(v.tok !=c.toks o.lock)=false)∨o.mine.length=0):=cN (by
    rcases cC o.mine.length with h|h
    ·exact Or.inr h
    ·exact Or.inl ⟨h,by omega,by cases (v.tok !=c.toks o.lock)<;>simp⟩)
   have l:=True.intro;have s:((0:Int) !=0)=false:=rfl;have hp:=True.intro;have Y:=True.intro;rcases a0 with⟨m,l|l⟩|m;all_goals
    go_wp2_with (first|(go_at_call 236;refine H.out.mono ?_;rintro r w' ⟨rfl,hW⟩;have a4:=hW.symm;subst a4;clear hW;refine cQ ?_));try(refine cN ?_;go_wp2_with fail)
    first
     |refine lV (p:=Hid (w=⟨v,1,c.num+1,v.tok⟩)) (cN ?_) fun HR=>?_
      ·rw[←n.out];unfold jN;simp[E.out,u.out,bq m,l]
      clear u0 u1 u3;replace a:=cN a.out.drew;refine rlx [1,0,1,0,1,0,2] (BxR W.heap.size b ob c o v) (by kernel_rfl) (fun _ _ _ _=>rfl) ?_ ?_
      ·exact a.out.rd
      simp only[dC,dB];refine dA (v:=vlV v) rfl (fun x j=>cU 56 _ rfl ⟨W.heap.size,0,none⟩ rfl (vlL v) _ j.1 underlying56 rfl (by kernel_rfl)) ?_;(try simp only[pA])
      repeat(first|(apply sW rfl;·(intro x;go_simp;with_reducible rfl))|(apply sR rfl;·(intro x j;obtain⟨V,m,l,X,U,O,S,T⟩:=j;go_simp;with_reducible rfl)))
      refine eW (v:=.int .i64 (c.num+1)) (f:=217) (args:=#[.pointer (some ⟨b,0,none⟩)]) rfl (fun x j=>by go_simp;try rfl) (fun x j=>rC x b c.num j.2.1 hn1 hn2) ?_;(try simp only[pA])
      repeat(first|(apply sW rfl;·(intro x;go_simp;with_reducible rfl))|(apply sR rfl;·(intro x j;obtain⟨V,m,l,X,U,O,S,T⟩:=j;go_simp;with_reducible rfl)))
      (try simp only[pA]);refine dI rfl (fun C hC=>?_);refine eM 56 _ _ rfl (W.heap.size+1) 0 56 _ _ (vlL v) rfl rfl a.out.bn (by kernel_rfl) (by simp[Value.oneCell']) (by simp) rfl ?_;intro W5 i y t;obtain⟨N,R,B,k4,Q⟩:=a.out.st A.out.2 i;refine hC _ _ (a.out.rdS A.out.2 i) ?_;clear hC C;refine cP ?_;(try simp only[pA])
     |rcases a1.out with⟨hp,b3,s|s⟩|Y
      all_goals
       first
        |refine lV (p:=Hid (w=⟨zVl,5,0,0⟩)) (cN ?_) fun HR=>?_
         ·rw[←n.out];unfold jN;simp[E.out,u.out,bq m,l,hp,bn s,Y]
        |refine lV (p:=Hid (w=⟨v,3,0,0⟩)) (cN ?_) fun HR=>?_
         ·rw[←n.out];unfold jN;simp[E.out,u.out,bq m,l,hp,bn s,Y]
       clear m l H;have b2:=cO a.out.kt.on.1 17 _ rfl;have t1:=cO a.out.kt.on.1 1 _ rfl;have b4:=a.out.kt.cl.cell 13 _ rfl;have b1:=MapI.get (W:=D.drew) a.out.kt.cl.maps.toks o.lock;refine eD [0,0,0,1,1,0,0,0,1,0,0,0,1,0,0,0,0,1,1,0,0,0] (by kernel_rfl) (fun _ _ _ _=>rfl) ?_;simp only[dC,dB];iterate 22 ((try simp only[pA]);first|(apply sB rfl rfl;·(intro x h;(try cases h rfl);go_simp;with_reducible rfl))|apply dN rfl|apply dL rfl)
       refine cP ?_;try simp only[pA]
       replace a:=cN a.out.drew;have M:=cN a.out.rd.1;go_wp2_with (first|(refine cV rfl 56 _ _ rfl (W.heap.size+1) 0 56 _ _ (vlL ⟨_,_,_,_⟩) rfl rfl a.out.bn (by kernel_rfl) (by simp[Value.oneCell']) (by simp) rfl ?_)|(refine cW rfl 56 _ rfl ⟨W.heap.size,0,none⟩ rfl (vlL v) _ M.out underlying56 rfl (by kernel_rfl) ?_));intro W5 i y t;obtain⟨N,R,B,k4,Q⟩:=a.out.st A.out.2 i
 all_goals
  go_wp2_with (first|(refine cV rfl 191 _ _ rfl (W.heap.size+2) 0 191 _ _ (rP _ _ _) rfl rfl B (by kernel_rfl) (by simp[Value.oneCell']) (by simp) rfl ?_));intro W6 z a3 K;have a8:=cN (N.fresh z (by omega));have a6:=cN (z.kept t (by simp));have a7:=cN K;clear i y t N R B k4 Q z a3 K;go_wp2_with fail;(try simp only[Exit.inBlock,Exit.then]);exact bodyPost_ret (sP _ results226 _ (W.heap.size+1) (W.heap.size+2) _ _ _ _ _ rfl rfl a6.out a7.out) rfl ⟨by first|rfl|(rw[HR.out]<;>rfl),a8.out⟩
theorem aEm(h:Kt W F b g f c o ch tk hd wt ob an mv)(hn1:0≤c.num)(hn2:c.num≤1000)(hm:o.mine.length≤1000000000000)
 (hd1:0≤f.drift) (hd2:f.drift≤10) (ht1:0≤v.ttl) (ht2:v.ttl≤1000) (hs1:0≤v.seq) (hs2:v.seq≤2147483647) (hw1:0≤(c.wat o.lock).since) (hw2:(c.wat o.lock).since≤100000000000):
 Calls prog 201 #[.pointer (some ⟨b,0,none⟩),vlV v] W fun r W'=>r= .returned (.tuple #[vlV (eJ f c o v).next,wB (eJ f c o v).res (eJ f c o v).own (eJ f c o v).tok])∧Chg NoS W W':=by
 have z:=h.lt;have e:=Bx.mk' (v:=v) h;generalize R:aH1 W v=W0 at e;have O:Hid (((W.alloc (.cells #[.int .i64 v.own,.int .i64 v.tok,.int .i64 v.ttl,.int .i64 v.seq] 56)).alloc (.cells #[.int .i64 0,.int .i64 0,.int .i64 0,.int .i64 0] 56)).alloc (.cells #[.int .i64 0,.int .i64 0,.int .i64 0] 191)=W0):=R;have t:Hid (Bx W W0 F b g f c o ch tk hd wt ob an mv v∧(b<W.heap.size∧ob<W.heap.size)):=⟨e,z⟩;have I:=cN (cR e.bv);have U:=e.kt.cl.cell 16 _ rfl;have X:=cO e.kt.on.1 0 _ rfl;have n:=cN e.kt;clear R e z h;obtain⟨w,E⟩:=aLx (eJ f c o v);rw[E];have m:=cN E;clear E;have G:(o.kind==1)=true∨(o.kind==1)=false∧((o.kind==2)=true∨(o.kind==2)=false∧((o.kind==3)=true∨(o.kind==3)=false)):=by
  cases (o.kind==1)<;>cases (o.kind==2)<;>cases (o.kind==3)<;>simp
 have i:((0:Int)==0)=true:=rfl;have j:((0:Int)==0)=true:=rfl;rcases G with l|⟨l,i|⟨i,j|j⟩⟩;all_goals first
  |first
    |have d:=aDY W0 F b g f c o ch tk hd wt ob an mv v n.out hn1 hn2 hm hd1 hd2 ht1 ht2 hs1 hs2 hw1 hw2
     refine lV (p:=jL f c o v=w) ?_ fun hA=>?_
     ·rw[←m.out];unfold eJ;simp[bq l,bq i,bq j]
     rw[hA]at d;clear hA
    |have d:=aHh W0 F b g f c o ch tk hd wt ob an mv v n.out hn1 hn2 hm hd1 hd2 ht1 ht2 hs1 hs2 hw1 hw2
     refine lV (p:=qD c o v=w) ?_ fun hA=>?_
     ·rw[←m.out];unfold eJ;simp[bq l,bq i,bq j]
     rw[hA]at d;clear hA
    |have d:=aET W0 F b g f c o ch tk hd wt ob an mv v n.out hn1 hn2 hm hd1 hd2 ht1 ht2 hs1 hs2 hw1 hw2
     refine lV (p:=jN c o v=w) ?_ fun hA=>?_
     ·rw[←m.out];unfold eJ;simp[bq l,bq i,bq j]
     rw[hA]at d;clear hA
   have T:=cN d;have P:Hid (w=w):=cN rfl;clear d n;go_enter func201,ntmps201;go_wp2_with (first|rw[O.out]|(refine cW rfl 56 _ rfl ⟨W.heap.size,0,none⟩ rfl (vlL v) _ I.out underlying56 rfl (by kernel_rfl) ?_)|((first|go_at_call 224|go_at_call 225|go_at_call 226);refine T.out.mono ?_;rintro r V ⟨rfl,u⟩;refine cQ ?_));have a:=cN (t.out.1.kept u);refine cN ?_;go_wp2_with (first|(refine cV rfl 56 _ _ rfl (W.heap.size+1) 0 56 _ _ (vlL w.next) rfl rfl a.out.bn (by kernel_rfl) (by simp[Value.oneCell']) (by simp) rfl ?_));intro S k y s;obtain⟨D,N,u,Q,M⟩:=a.out.st t.out.2 k
  |refine lV (p:=Hid (w=⟨v,4,v.own,v.tok⟩)) (cN ?_) fun P=>?_
   ·rw[←m.out];unfold eJ;simp[bq l,bq i,bq j]
   go_enter func201,ntmps201;go_wp2_with (first|rw[O.out]);have a:=cN t.out.1.drew;refine rlx [1,0,1,0,1,0,2] (BxR W.heap.size b ob c o v) (by kernel_rfl) (fun _ _ _ _=>rfl) ?_ ?_
   ·exact a.out.rd
   simp only[dC,dB];refine dA (v:=vlV v) rfl (fun x B=>cU 56 _ rfl ⟨W.heap.size,0,none⟩ rfl (vlL v) _ B.1 underlying56 rfl (by kernel_rfl)) ?_;(try simp only[pA])
   repeat(first|(apply sW rfl;·(intro x;go_simp;with_reducible rfl))|(apply sR rfl;·(intro x B;obtain⟨h0,h1,h2,h3,h4,Y,h6,h7⟩:=B;go_simp;with_reducible rfl)))
   (try simp only[pA]);refine dI rfl (fun C hC=>?_);refine eM 56 _ _ rfl (W.heap.size+1) 0 56 _ _ (vlL v) rfl rfl a.out.bn (by kernel_rfl) (by simp[Value.oneCell']) (by simp) rfl ?_;intro S k y s;obtain⟨D,N,u,Q,M⟩:=a.out.st t.out.2 k;refine hC _ _ (a.out.rdS t.out.2 k) ?_;clear hC C;refine cP ?_;(try simp only[pA])
 all_goals
  go_wp2_with (first|(refine cV rfl 191 _ _ rfl (W.heap.size+2) 0 191 _ _ (rP _ _ _) rfl rfl u (by kernel_rfl) (by simp[Value.oneCell']) (by simp) rfl ?_));intro Z q H A;have L:=cN (D.fresh q (by omega));have J:=cN (q.kept s (by simp));have K:=cN A;clear k y s D N u Q M q H A;go_wp2_with fail;(try simp only[Exit.inBlock,Exit.then]);exact bodyPost_ret (sP _ results201 _ (W.heap.size+1) (W.heap.size+2) _ _ _ _ _ rfl rfl J.out K.out) rfl ⟨by first|rfl|(rw[P.out]<;>rfl),L.out⟩
end
section
open Go.RowKit Go.Maps
def lW(W:World)(b:Nat)(ev:Value):Prop:=∃nm,W.heap[b]?=some (.cells #[.string ⟨#[97,112,112,101,110,100]⟩,.string nm,ev] 239 (0,0))
abbrev lX(b:Nat):Value:=.iface 234 (rQ b)
def EndsK(v:Value)(ev:Value)(W:World)(F:Nat→Prop)(d:Nat)(p:Dk×How)(e:Ending)(W':World):Prop:=DkTo W F d p.1 W'∧match p.2 with
 |.none=>e= .returned v
 |(.some (.some q))=>e= .panicked (rT q)
 |(.some .none)=>∃b,e= .returned (lX b)∧lW W' b ev∧W.heap.size≤b
theorem EndsK.dies{v ev:Value}{W:World}{F:Nat→Prop}{d:Nat}{k:Dk}(h:Disk W F d k):EndsK v ev W F d (k,(.some (.some (iP k)))) (.panicked (rT (iP k))) W:=⟨.of h,rfl⟩
theorem aGa:keyOf prog 9 vO=some (.string sI):=by kernel_rfl
theorem aE7:keyOf prog 9 xF=some (.string xZ):=by kernel_rfl
theorem aDX(w:World):(zeroValue 207).run prog w= .ok (.pointer none) w:=by kernel_rfl
theorem Chg.nos{S:Nat→Prop}{A B:World}(h:Chg NoS A B):Chg S A B:=h.mono (fun _ _ h=>h.elim)
theorem Chg.nos'{S:Nat→Prop}{A B C:World}(h:Chg S A B)(k:Chg NoS B C):Chg S A C:=h.trans k (fun _ _ h=>h.elim)
section
variable (fl:Nat) (fn:Option Nat)
theorem aHd:(fY fl fn).atKey (.string sI) (.lit (.int .i64 (-1)))= .lit (.int .i64 fl):=by cases fn<;>rfl
theorem aHj:Maps.has (fY fl fn) (.string sI)=true:=by cases fn<;>rfl
theorem aBm:Maps.size (fY fl fn)≤2:=by cases fn<;>simp[fY,Maps.size]
end
section
variable {W W':World}{F S:Nat→Prop}{d:Nat}{k:Dk}{nm km fl fk:Nat}{fn:Option Nat}{fv:Value}
theorem aA6(h:oI W nm fl fn):(Instr.lookup 209 (.map (some nm)) vO true).run prog W= .ok (.tuple #[rQ fl,.bool true]) W:=by
 obtain⟨v,c,a,b⟩:=h.look_ok aAs underlying209 (aDX W) (zd:=.lit (.int .i64 (-1))) (zp:=[]) rfl aGa;rw[aHd]at b;rw[aHj]at a;rw[oZ b]at a;exact a
theorem xI{b:Nat}(h:oI W nm fl (some b)):(Instr.lookup 209 (.map (some nm)) xF true).run prog W= .ok (.tuple #[rQ b,.bool true]) W:=by
 obtain⟨v,f,a,c⟩:=h.look_ok aAs underlying209 (aDX W) (zd:=.lit (.int .i64 (-1))) (zp:=[]) rfl aE7;have e:(fY fl (some b)).atKey (.string xZ) (.lit (.int .i64 (-1)))= .lit (.int .i64 b):=rfl;have d:Maps.has (fY fl (some b)) (.string xZ)=true:=rfl;rw[e]at c;rw[d]at a;rw[oZ c]at a;exact a
theorem aJH(h:oI W nm fl none)(b:Nat):∃W',(Instr.mapUpdate 209 (.map (some nm)) xF (rQ b)).run prog W= .ok () W'∧oI W' nm fl (some b)∧Chg (fun x=>x=nm) W W'∧W'.heap.size=W.heap.size:=by
 obtain⟨W',d,a,c⟩:=h.store aAs underlying209 (by decide) aE7 (aBp b);refine⟨W',d,?_,pU c,oD c⟩;have e:(fY fl none).put (.string xZ) (.lit (.int .i64 b))=fY fl (some b):=rfl;rw[e]at a;exact nR a (aBm _ _)
theorem aKd{b:Nat}(h:oI W nm fl (some b))(ty:TypeId):∃W',(Builtin.delete_ #[209,9] ty #[.map (some nm),xF]).run prog W= .ok (.tuple #[]) W'∧oI W' nm fl none∧Chg (fun x=>x=nm) W W'∧W'.heap.size=W.heap.size:=by
 obtain⟨W',d,c,a⟩:=h.drop aAs underlying209 aE7 ty;exact⟨W',d,c,pU a,oD a⟩
theorem aKi(h:oI W nm fl none)(b:Nat):∃W',(Instr.mapUpdate 209 (.map (some nm)) vO (rQ b)).run prog W= .ok () W'∧oI W' nm b none∧Chg (fun x=>x=nm) W W'∧W'.heap.size=W.heap.size:=by
 obtain⟨W',d,a,c⟩:=h.store aAs underlying209 (by decide) aGa (aBp b);refine⟨W',d,?_,pU c,oD c⟩;have e:(fY fl none).put (.string sI) (.lit (.int .i64 b))=fY b none:=rfl;rw[e]at a;exact nR a (aBm _ _)
theorem DkAt.names'{fl':Nat}{fn':Option Nat}{k':Dk}(h:DkAt W F d k nm km fl fn fk fv)(hc:Chg (fun x=>x=nm) W W')(hn:oI W' nm fl' fn')(h0:k'.room=k.room)
 (h1:FileAt W' fl' k'.log k'.lsyn) (h2:F fl') (h3:NewAt W' F fl' fn' k'.new) (h4:OldAt W' F fl' fn' fk k'.old) (h5:k'.fail=k.fail):DkAt W' F d k' nm km fl' fn' fk fv:=by
 obtain⟨_,_,b⟩:=eH h.names;obtain⟨_,_,a⟩:=eH h.kept;refine⟨?_,h.fd,hn,eB h.kept (by rw[a];exact hc.kept a (fun e=>h.nk e.symm)),h.fnm,h.fkm,h.nk,h1,h2,h3,h4,?_,fun x hx=>aG (h.lt x hx) hc.size⟩
 ·show W'.heap[d]?=some (.cells (dkL k' nm km fv).toArray _ _);have e:dkL k' nm km fv=dkL k nm km fv:=by simp[dkL,h0]
  rw[e];exact hc.kept h.blk (fun e=>eX h.blk b (by simp) e)
 ·rw[h5];exact h.fail.kept b (by simp) hc
theorem FileAt.kept{b c:Nat}{t:List Int}{y:Int}{o:Obj}(h:FileAt W b t y)(hx:W.heap[c]?=some o)(ho:∀cs fr,o≠.cells cs 214 fr)(hc:Chg (fun k=>k=c) W W'):FileAt W' b t y:=hc.kept h (fun e=>eX h hx (fun e=>ho _ _ e.symm) e)
theorem DkAt.file{c:Nat}{k':Dk}{t:List Int}{y:Int}(h:DkAt W F d k nm km fl fn fk fv)(hx:FileAt W c t y)(hc:Chg (fun x=>x=c) W W')(h0:k'.room=k.room)
 (h1:FileAt W' fl k'.log k'.lsyn) (h3:NewAt W' F fl fn k'.new) (h4:OldAt W' F fl fn fk k'.old) (h5:k'.fail=k.fail):DkAt W' F d k' nm km fl fn fk fv:=by
 obtain⟨_,_,b⟩:=eH h.names;obtain⟨_,_,a⟩:=eH h.kept;refine⟨?_,h.fd,eB h.names (by rw[b];exact hc.kept b (fun e=>eX b hx (by simp) e)),eB h.kept (by rw[a];exact hc.kept a (fun e=>eX a hx (by simp) e)),h.fnm,h.fkm,h.nk,h1,h.flog,h3,h4,?_,fun x hx=>aG (h.lt x hx) hc.size⟩
 ·show W'.heap[d]?=some (.cells (dkL k' nm km fv).toArray _ _);have e:dkL k' nm km fv=dkL k nm km fv:=by simp[dkL,h0]
  rw[e];exact hc.kept h.blk (gA h.blk hx (by decide))
 ·rw[h5];exact h.fail.kept hx (by simp) hc
theorem gR{k k1:Dk}(h:fQ k=some k1):k1.room=k.room∧k1.log=k.log∧k1.lsyn=k.lsyn∧k1.new=k.new∧k1.old=k.old:=by
 unfold fQ at h;split at h
 ·obtain rfl:=aN h;exact⟨rfl,rfl,rfl,rfl,rfl⟩
 ·split at h
  ·cases h
  ·obtain rfl:=aN h;exact⟨rfl,rfl,rfl,rfl,rfl⟩
theorem kQ{k k1:Dk}(h:fQ k=some k1)(hf:hP k):hP k1:=by
 unfold fQ at h;split at h
 ·obtain rfl:=aN h;exact hf
 ·rename_i n q b;split at h
  ·cases h
  ·obtain rfl:=aN h;intro p a;have:=hf _ b;simp at a;subst a;dsimp only at*;omega
end
theorem aGm(W:World)(F:Nat→Prop)(d:Nat)(k:Dk)(ev:Value)(h:Disk W F d k)(hok:hP k)(hnew:k.new=none)(hold:k.old=none):
 Calls prog 198 #[.pointer (some ⟨d,0,none⟩),xF] W fun e W'=>EndsK (.tuple #[]) ev W F d (dZ k lJ) e W':=by
 obtain⟨l,n,i,v,m,p,h⟩:=h;cases hs:fQ k with
 |none=>
  have C:dZ k lJ=(k,(.some (.some (iP k)))):=by unfold dZ;rw[hs]
  rw[C];have M:=cN h;have y:Hid (Calls prog 185 #[.pointer (some ⟨d,0,none⟩)] W fun e W'=>e= .panicked (rT (iP k))∧W'=W):=nK W F d k l n i v m p h hs;clear h hs;go_enter func198,ntmps198;go_wp2_with (go_at_call 185;refine y.out.mono ?_;rintro r a ⟨rfl,rfl⟩);exact⟨rfl,EndsK.dies ⟨_,_,_,_,_,_,M.out⟩⟩
 |some k1=>
  have C:dZ k lJ=(lJ k1,.none):=by unfold dZ;rw[hs]
  rw[C];have O:=gR hs;have y:Hid (Calls prog 185 #[.pointer (some ⟨d,0,none⟩)] W fun e W'=>e= .returned (.tuple #[])∧DkAt W' F d k1 l n i v m p∧Chg F W W'∧W'.heap.size=W.heap.size):=nL W F d k k1 l n i v m p h hok hs;obtain rfl:v=none:=by have:=h.new;rw[hnew]at this;exact this
  clear h hs;go_enter func198,ntmps198;go_wp2_with (go_at_call 185;refine y.out.mono ?_;rintro r a ⟨rfl,z,H,G⟩;refine cQ ?_);have g:Chg NoS a (a.alloc (.cells #[.string ⟨#[]⟩,.int .i64 0] 214)):=(Chg.refl _ _).alloc _;have s:FileAt (a.alloc (.cells #[.string ⟨#[]⟩,.int .i64 0] 214)) a.heap.size [] 0:=aA a _;have R:(a.alloc (.cells #[.string ⟨#[]⟩,.int .i64 0] 214)).heap.size=a.heap.size+1:=by simp
  have f:=z.apart g (fun _ _ h=>h);have E:=z.lt;generalize L:a.alloc (.cells #[.string ⟨#[]⟩,.int .i64 0] 214)=W2 at*;have P:=cN L;have T:=z.cell 1 _ rfl;obtain⟨A,c,t,b,q⟩:=aJH f.names a.heap.size;obtain⟨_,_,B⟩:=eH f.names;have o:DkAt W2 (fun x=>F x∨x=a.heap.size) d k1 l n i none m p:=f.grow (fun _ h=>Or.inl h) (fun x j=>by rcases j with j|j;exact f.lt x j;omega);have J:=O.2.2.2.2.trans hold;have I:DkAt A (fun x=>F x∨x=a.heap.size) d (lJ k1) l n i (some a.heap.size) m p:=
   o.names' b t rfl (o.log.kept B (by simp) b) o.flog ⟨_,rfl,s.kept B (by simp) b,Or.inr rfl,fun e=>by have:=E i f.flog;omega⟩ (by
    have K:=o.old;rw[J]at K;show OldAt _ _ _ _ _ k1.old;rw[J];exact K) rfl
  have Q:=cN I;have N:=cN ((H.nos' g).trans b (fun x _ e=>e▸f.fnm));have u:=cN c;clear L g s f z t b o I H B c y;have D:=cN G;have S:=cN q;clear G q;refine cN ?_;go_wp2_with (first|rw[P.out]|(at_mapUpdate;refine kU rfl 209 _ _ _ rfl (.map (some l)) xF (rQ a.heap.size) rfl rfl rfl (fun w=>w=A) ⟨A,u.out,rfl⟩ ?_;rintro _ rfl))
  (first|go_end0|((try simp only[Exit.inBlock,Exit.then]);refine bodyPost_ret (results_none rfl _ _ _) rfl ?_))
  exact⟨⟨_,⟨_,_,_,_,_,_,Q.out⟩,N.out,fun x j=>j.elim Or.inl (fun e=>Or.inr (by have:=D.out;omega))⟩,rfl⟩
end
section
open Go.RowKit Go.Maps
theorem kI(t:List Int):((strOfNums t).size:Int)=(t.length:Int):=by rw[dU]
section
variable (W:World) (F:Nat→Prop) (d:Nat) (k:Dk) (ev:Value)
theorem aEq(h:Disk W F d k)(hok:hP k)(hold:k.old=none):
 Calls prog 197 #[.pointer (some ⟨d,0,none⟩),vO] W fun e W'=>EndsK (.tuple #[]) ev W F d (dZ k mY) e W':=by
 obtain⟨s,m,c,g,i,t,h⟩:=h;cases hs:fQ k with
 |none=>
  have u:dZ k mY=(k,(.some (.some (iP k)))):=by unfold dZ;rw[hs]
  rw[u];have G:=cN h;have o:Hid (Calls prog 185 #[.pointer (some ⟨d,0,none⟩)] W fun e W'=>e= .panicked (rT (iP k))∧W'=W):=nK W F d k s m c g i t h hs;clear h hs;go_enter func197,ntmps197;go_wp2_with (go_at_call 185;refine o.out.mono ?_;rintro r q ⟨rfl,rfl⟩);exact⟨rfl,EndsK.dies ⟨_,_,_,_,_,_,G.out⟩⟩
 |some k1=>
  have u:dZ k mY=(mY k1,.none):=by unfold dZ;rw[hs]
  rw[u];have B:=gR hs;have o:Hid (Calls prog 185 #[.pointer (some ⟨d,0,none⟩)] W fun e W'=>e= .returned (.tuple #[])∧DkAt W' F d k1 s m c g i t∧Chg F W W'∧W'.heap.size=W.heap.size):=nL W F d k k1 s m c g i t h hok hs;clear h hs;go_enter func197,ntmps197;go_wp2_with (go_at_call 185;refine o.out.mono ?_;rintro r q ⟨rfl,a,y,_⟩;refine cQ ?_);have L:=B.2.2.2.2.trans hold;have v:=aA6 a.names;have O:=a.cell 1 _ rfl;have N:=cO a.log 0 _ rfl;have M:=cX a.log 1;have P:=cO a.log 1 _ rfl;have j:=kI k1.log;have f:=cY q c 1 (.int .i64 ((strOfNums k1.log).size:Int));have l:FileAt (q.setCell ⟨c,1,none⟩ (.int .i64 ((strOfNums k1.log).size:Int))) c k1.log k1.log.length:=by
   have:=dD a.log 1 (.int .i64 ((strOfNums k1.log).size:Int));rw[j]at this⊢;exact this
  generalize w:q.setCell ⟨c,1,none⟩ (.int .i64 ((strOfNums k1.log).size:Int))=W2 at*;have J:=cN w;have A:DkAt W2 F d (mY k1) s m c g i t:=a.file a.log f rfl l (by
   show NewAt W2 F c g k1.new;have n:=a.new;cases hk:k1.new with
   |none=>rw[hk]at n;exact n
   |some p=>rw[hk]at n;obtain⟨b,H,E,D,z⟩:=n;exact⟨b,H,f.kept E z,D,z⟩) (by
   show OldAt W2 F c g i k1.old;have C:=a.old;rw[L]at C⊢;exact C) rfl
  have K:=cN A;have I:=cN (y.trans f (fun x _ e=>e▸a.flog));clear w f l a A y o B j;refine cN ?_;go_wp2_with (first|rw[J.out])
  (first|go_end0|((try simp only[Exit.inBlock,Exit.then]);refine bodyPost_ret (results_none rfl _ _ _) rfl ?_))
  exact⟨⟨_,⟨_,_,_,_,_,_,K.out⟩,I.out,fun x hx=>Or.inl hx⟩,rfl⟩
theorem aEu(t:List Int)(y:Int)(h:Disk W F d k)(hok:hP k)(hnew:k.new=some (t,y))(hold:k.old=none):
 Calls prog 197 #[.pointer (some ⟨d,0,none⟩),xF] W fun e W'=>EndsK (.tuple #[]) ev W F d (dZ k iC) e W':=by
 obtain⟨q,n,f,u,i,s,h⟩:=h;cases hs:fQ k with
 |none=>
  have w:dZ k iC=(k,(.some (.some (iP k)))):=by unfold dZ;rw[hs]
  rw[w];have I:=cN h;have o:Hid (Calls prog 185 #[.pointer (some ⟨d,0,none⟩)] W fun e W'=>e= .panicked (rT (iP k))∧W'=W):=nK W F d k q n f u i s h hs;clear h hs;go_enter func197,ntmps197;go_wp2_with (go_at_call 185;refine o.out.mono ?_;rintro r p ⟨rfl,rfl⟩);exact⟨rfl,EndsK.dies ⟨_,_,_,_,_,_,I.out⟩⟩
 |some k1=>
  have w:dZ k iC=(iC k1,.none):=by unfold dZ;rw[hs]
  rw[w];have v:=gR hs;have o:Hid (Calls prog 185 #[.pointer (some ⟨d,0,none⟩)] W fun e W'=>e= .returned (.tuple #[])∧DkAt W' F d k1 q n f u i s∧Chg F W W'∧W'.heap.size=W.heap.size):=nL W F d k k1 q n f u i s h hok hs;clear h hs;go_enter func197,ntmps197;go_wp2_with (go_at_call 185;refine o.out.mono ?_;rintro r p ⟨rfl,c,C,_⟩;refine cQ ?_);have M:=v.2.2.2.2.trans hold;have B:=v.2.2.2.1.trans hnew;have D:=c.new;rw[B]at D;obtain⟨b,rfl,g,G,l⟩:=D;have z:=xI c.names;have P:=c.cell 1 _ rfl;have O:=cO g 0 _ rfl;have N:=cX g 1;have Q:=cO g 1 _ rfl;have j:=kI t;have a:=cY p b 1 (.int .i64 ((strOfNums t).size:Int));have m:FileAt (p.setCell ⟨b,1,none⟩ (.int .i64 ((strOfNums t).size:Int))) b t t.length:=by
   have:=dD g 1 (.int .i64 ((strOfNums t).size:Int));rw[j]at this⊢;exact this
  generalize A:p.setCell ⟨b,1,none⟩ (.int .i64 ((strOfNums t).size:Int))=W2 at*;have K:=cN A;have E:DkAt W2 F d (iC k1) q n f (some b) i s:=c.file g a rfl (a.kept c.log (Ne.symm l)) (by
   show NewAt W2 F f (some b) (iC k1).new;unfold iC;rw[B];exact⟨b,rfl,m,G,l⟩) (by
   show OldAt W2 F f (some b) i k1.old;have H:=c.old;rw[M]at H⊢;exact H) rfl
  have L:=cN E;have J:=cN (C.trans a (fun x _ e=>e▸G));clear A a m c E C o v j g;refine cN ?_;go_wp2_with (first|rw[K.out])
  (first|go_end0|((try simp only[Exit.inBlock,Exit.then]);refine bodyPost_ret (results_none rfl _ _ _) rfl ?_))
  exact⟨⟨_,⟨_,_,_,_,_,_,L.out⟩,J.out,fun x hx=>Or.inl hx⟩,rfl⟩
theorem aFm(t:List Int)(y:Int)(h:Disk W F d k)(hok:hP k)(hnew:k.new=some (t,y))(hold:k.old=none):
 Calls prog 200 #[.pointer (some ⟨d,0,none⟩),xF,vO] W fun e W'=>EndsK (.tuple #[]) ev W F d (dZ k gI) e W':=by
 obtain⟨a,u,s,C,j,z,h⟩:=h;cases hs:fQ k with
 |none=>
  have J:dZ k gI=(k,(.some (.some (iP k)))):=by unfold dZ;rw[hs]
  rw[J];have D:=cN h;have v:Hid (Calls prog 185 #[.pointer (some ⟨d,0,none⟩)] W fun e W'=>e= .panicked (rT (iP k))∧W'=W):=nK W F d k a u s C j z h hs;clear h hs;go_enter func200,ntmps200;go_wp2_with (go_at_call 185;refine v.out.mono ?_;rintro r H ⟨rfl,rfl⟩);exact⟨rfl,EndsK.dies ⟨_,_,_,_,_,_,D.out⟩⟩
 |some k1=>
  have J:dZ k gI=(gI k1,.none):=by unfold dZ;rw[hs]
  rw[J];have I:=gR hs;have v:Hid (Calls prog 185 #[.pointer (some ⟨d,0,none⟩)] W fun e W'=>e= .returned (.tuple #[])∧DkAt W' F d k1 a u s C j z∧Chg F W W'∧W'.heap.size=W.heap.size):=nL W F d k k1 a u s C j z h hok hs;clear h hs;go_enter func200,ntmps200;go_wp2_with (go_at_call 185;refine v.out.mono ?_;rintro r H ⟨rfl,c,P,_⟩;refine cQ ?_);have e3:=I.2.2.2.2.trans hold;have l:=I.2.2.2.1.trans hnew;have R:=c.new;rw[l]at R;obtain⟨b,rfl,Q,X,L⟩:=R;have T:=c.old;rw[e3]at T;obtain rfl:j=s:=T;have N:=xI c.names;have c1:=c.cell 1 _ rfl;obtain⟨_,_,G⟩:=eH c.names;have D:=cN (fun ty=>aKd c.names ty);have o:=cN c;have Y:Hid (∀g i,oI g a j none→Chg (fun x=>x=a) H g→oI i a b none→Chg (fun x=>x=a) g i→DkAt i F d (gI k1) a u b none j z∧Chg F W i):=fun g i n m p q=>by
   obtain⟨_,_,o2⟩:=eH n;have f:=m.trans q (fun _ _ h=>h);refine⟨c.names' f p ?_ ?_ X ?_ ?_ ?_,P.trans f (fun x _ e=>e▸c.fnm)⟩
   ·unfold gI;rw[l]
   ·unfold gI;rw[l];exact Q.kept G (by simp) f
   ·unfold gI;rw[l];rfl
   ·unfold gI;rw[l];exact⟨c.log.kept G (by simp) f,c.flog,Ne.symm L,by simp⟩
   ·unfold gI;rw[l]
  clear c P v Q I;refine cN ?_;go_wp2_with (first|(at_delete;refine tF rfl 209 9 _ _ rfl (.map (some a)) xF rfl rfl (fun w=>oI w a j none∧Chg (fun x=>x=a) H w) (by obtain⟨w,E,B,A,_⟩:=D.out _;exact⟨w,E,B,A⟩) ?_;rintro g ⟨n,m⟩;refine cQ ?_));have d1:=cO (m.kept o.out.blk (fun e=>eX o.out.blk G (by simp) e)) 1 _ rfl;have U:=cN (aKi n b);have K:=cN n;have M:=cN m;clear n m;refine cN ?_;go_wp2_with (first|(at_mapUpdate;refine kU rfl 209 _ _ _ rfl (.map (some a)) vO (rQ b) rfl rfl rfl (fun w=>oI w a b none∧Chg (fun x=>x=a) g w) (by obtain⟨w,E,B,A,_⟩:=U.out;exact⟨w,E,B,A⟩) ?_;rintro i ⟨p,q⟩;refine cQ ?_));obtain⟨O,S⟩:=Y.out g i K.out M.out p q;have Z:=cN O;have V:=cN S;clear O S p q;refine cN ?_;go_wp2_with fail
  (first|go_end0|((try simp only[Exit.inBlock,Exit.then]);refine bodyPost_ret (results_none rfl _ _ _) rfl ?_))
  exact⟨⟨_,⟨_,_,_,_,_,_,Z.out⟩,V.out,fun x hx=>Or.inl hx⟩,rfl⟩
end
end
theorem aBP(a:Addr)(j:Nat):(a.add j).block=a.block:=by
 unfold Addr.add;split<;>rfl
theorem aFH(W:World)(own:Nat→Nat)(y:Nat)(x:Rm)(V:RmV)(i:Nat)(c:Rc)(N:Int)(v:Vl)(h:RmAt W own y x V)(hi:i<x.cls.length)(hc:x.cls[i]=c)(ha:RcA N c)(hbs:RcB x.cf N c)(hN:N≤90000000000)(hv0:0≤v.ttl)(hv1:v.ttl≤1000)(hd0:0≤x.cf.drift)(hd1:x.cf.drift≤10):
 Calls prog 234 #[.pointer (some ⟨y,0,none⟩),.pointer (some ⟨V.bC i,0,none⟩),vlV v] W fun r W'=>r= .returned (.bool (qZ x.cf c v))∧Below W.heap.size W W':=by
 obtain⟨B,hB⟩:=aLw (V.bC i);rw[←hB];have L:W.heap[B]?=some (.cells (rcL c (V.mv i) (V.hv i) (V.bv i)).toArray 182 (0,0)):=by
  have:=(h.cls i hi).blk;rw[hc]at this;rw[hB];exact this
 obtain⟨k,hk⟩:∃k:Nat,c.lock=(k:Int):=⟨c.lock.toNat,by have:=hbs.l0;omega⟩;have a8:k≤3:=by have:=hbs.l3;omega
 have b1:(k:Int)<4:=by omega
 have O:Below W.heap.size W (W.alloc (.cells #[.int .i64 v.own,.int .i64 v.tok,.int .i64 v.ttl,.int .i64 v.seq] 56)):=(aJ _ W).alloc (aE _) _;have hv:=aA W (.cells #[.int .i64 v.own,.int .i64 v.tok,.int .i64 v.ttl,.int .i64 v.seq] 56);have M:(W.alloc (.cells #[.int .i64 v.own,.int .i64 v.tok,.int .i64 v.ttl,.int .i64 v.seq] 56)).heap.size=W.heap.size+1:=by simp
 have X:=h.alloc (.cells #[.int .i64 v.own,.int .i64 v.tok,.int .i64 v.ttl,.int .i64 v.seq] 56);have m:=dM (.cells #[.int .i64 v.own,.int .i64 v.tok,.int .i64 v.ttl,.int .i64 v.seq] 56) L;generalize P:W.alloc (.cells #[.int .i64 v.own,.int .i64 v.tok,.int .i64 v.ttl,.int .i64 v.seq] 56)=W0 at*;have a6:=cN P;have lk:W0.cell? ⟨B,39,none⟩=some (.int .i64 k):=by rw[←hk];exact cO m 39 _ rfl
 obtain⟨u,Z⟩:=aLx (c.wat k);have U:=ha.w k (by omega) (by omega);rw[Z]at U;have T:∀j z,(aCV u)[j]?=some z→W0.cell? ((⟨B,13+k*6,none⟩:Addr).add j)=some z:=by
  rw[←Z];exact eL m (13+k*6) _ (aCE c _ _ _ k a8)
 have HT:Hid (qZ x.cf c v=if u.on=false∨u.val.own≠v.own∨u.val.tok≠v.tok∨u.val.seq≠v.seq then false else decide (v.ttl*(10+x.cf.drift)≤10*(c.at_-u.at_-2))):=by
  show _=_;unfold qZ;dsimp only;rw[hk,Z]
 have A:W0.cell? ⟨B,45,none⟩=some (.int .i64 c.at_):=cO m 45 _ rfl;have y4:=X.cell 4 _ rfl;obtain⟨t,ht⟩:=aLx (qZ x.cf c v);rw[ht];have a4:=cN ht;have g:=cN (aLn O M hv m);have D:=cN T;have Q:=cN X.blk;have J:=cN (aLl hbs.a0 hbs.a1);clear P O hv M X m L h hB hk Z T ht hc;go_enter func234,ntmps234;go_wp2_with (first|rw[a6.out]);refine rlx [0,0,0,0,0,1,0,0,0,1,2] (fun z=>z.cell? ⟨B,39,none⟩=some (.int .i64 k)∧∀j u',(aCV u)[j]?=some u'→z.cell? ((⟨B,13+k*6,none⟩:Addr).add j)=some u') (by kernel_rfl) (fun _ _ _ _=>rfl) ?_ ?_
 ·exact⟨lk,fun j z hj=>D.out j z hj⟩
 simp only[dC,dB];iterate 9 (apply sB rfl rfl;·(intro x h;(try have h:=h rfl);(try dsimp only at h);go_simp;with_reducible rfl))
 try simp only[pA]
 refine dA (v:=aLi u) rfl (fun zz hx=>cU 179 _ rfl ⟨B,13+k*6,none⟩ rfl (aCV u) _ hx.2 underlying179 rfl (by kernel_rfl)) ?_;(try simp only[pA]);refine dI rfl (fun C hC=>?_);go_simp;have G:=lk;have F:=dG g.out.2.2.2;refine hC _ _ ⟨(bJ _ _ _ (by simpa using F)).trans lk,fun j z hj=>(bJ _ _ _ (by rw[aBP];exact F)).trans (D.out j z hj)⟩ ?_;clear hC C G;refine cP ?_;(try simp only[pA]);clear lk A y4;go_wp2_with (refine cV rfl 179 _ _ rfl W0.heap.size 0 179 _ _ (aCV u) rfl rfl (aA W0.drew _) (by kernel_rfl) (by simp[Value.oneCell']) (by simp) rfl ?_;intro l S a2 f;refine cQ ?_);have a:=((Chg.refl NoS W0).drew.alloc _).nos.trans S (fun _ _ h=>h);have E:=g.out.2.1;rw[E]at a f;have d:=a.kept g.out.2.2.1 (by omega);have K:=a.kept Q.out (fun e=>by have:=dG Q.out;omega);have R:=a.kept g.out.2.2.2 (fun e=>by omega);have b:=cN (g.out.1.trans (a.below (fun q hq=>by omega) g.out.1.size));have u0:l.cell? ⟨W.heap.size+1,0,none⟩=some (.bool u.on):=cO f 0 _ rfl;have u1:l.cell? ⟨W.heap.size+1,1,none⟩=some (.int .i64 u.val.own):=cO f 1 _ rfl;have u2:l.cell? ⟨W.heap.size+1,2,none⟩=some (.int .i64 u.val.tok):=cO f 2 _ rfl;have u4:l.cell? ⟨W.heap.size+1,4,none⟩=some (.int .i64 u.val.seq):=cO f 4 _ rfl;have u5:l.cell? ⟨W.heap.size+1,5,none⟩=some (.int .i64 u.at_):=cO f 5 _ rfl;have v0:l.cell? ⟨W.heap.size,0,none⟩=some (.int .i64 v.own):=cO d 0 _ rfl;have v1:l.cell? ⟨W.heap.size,1,none⟩=some (.int .i64 v.tok):=cO d 1 _ rfl;have v2:l.cell? ⟨W.heap.size,2,none⟩=some (.int .i64 v.ttl):=cO d 2 _ rfl
 have v3:l.cell? ⟨W.heap.size,3,none⟩=some (.int .i64 v.seq):=cO d 3 _ rfl;have A:l.cell? ⟨B,45,none⟩=some (.int .i64 c.at_):=cO R 45 _ rfl;have y4:l.cell? ⟨y,4,none⟩=some (.int .i64 x.cf.drift):=cO K 4 _ rfl;clear S a2 f a d K R;refine cN ?_;simp only[E];have n:=cN (a4.out.symm.trans HT.out);have s:(u.on=false)∨(u.on=true∧(u.val.own !=v.own)=true)∨(u.on=true∧(u.val.own !=v.own)=false∧(u.val.tok !=v.tok)=true)∨(u.on=true∧(u.val.own !=v.own)=false∧(u.val.tok !=v.tok)=false∧(u.val.seq !=v.seq)=true)∨(u.on=true∧(u.val.own !=v.own)=false∧(u.val.tok !=v.tok)=false∧(u.val.seq !=v.seq)=false):=by
  cases X:u.on<;>cases h2:(u.val.own !=v.own)<;>cases h3:(u.val.tok !=v.tok)<;>cases h4:(u.val.seq !=v.seq)<;>simp
 rcases s with H|⟨H,I⟩|⟨H,I,Y⟩|⟨H,I,Y,p4⟩|⟨H,I,Y,p4⟩
 ·have p:Hid (t=false):=by rw[n.out,if_pos (Or.inl H)];rfl
  go_wp2_with fail;go_ret;exact⟨by rw[p.out];rfl,b.out⟩
 ·have p:Hid (t=false):=by rw[n.out,if_pos (Or.inr (Or.inl (by simpa using I)))];rfl
  go_wp2_with fail;go_ret;exact⟨by rw[p.out];rfl,b.out⟩
 ·have p:Hid (t=false):=by rw[n.out,if_pos (Or.inr (Or.inr (Or.inl (by simpa using Y))))];rfl
  go_wp2_with fail;go_ret;exact⟨by rw[p.out];rfl,b.out⟩
 ·have p:Hid (t=false):=by rw[n.out,if_pos (Or.inr (Or.inr (Or.inr (by simpa using p4))))];rfl
  go_wp2_with fail;go_ret;exact⟨by rw[p.out];rfl,b.out⟩
 ·have p:Hid (t=decide (v.ttl*(10+x.cf.drift)≤10*(c.at_-u.at_-2))):=by
   rw[n.out,if_neg]
   ·rfl
   ·intro o;rcases o with o|o|o|o
    ·rw[H]at o;cases o
    ·exact o (by simpa using I)
    ·exact o (by simpa using Y)
    ·exact o (by simpa using p4)
  have a3:=J.out.1;have a9:=J.out.2;have w1:IntKind.i64.wrap (c.at_-u.at_)=c.at_-u.at_:=fX (by omega) (by omega);have b2:wrap64 (c.at_-u.at_)=c.at_-u.at_:=by unfold wrap64;omega
  have w2:IntKind.i64.wrap (c.at_-u.at_-2)=c.at_-u.at_-2:=fX (by omega) (by omega);have b0:wrap64 (c.at_-u.at_-2)=c.at_-u.at_-2:=by unfold wrap64;omega
  have w3:IntKind.i64.wrap (10*(c.at_-u.at_-2))=10*(c.at_-u.at_-2):=fX (by omega) (by omega);have w4:IntKind.i64.wrap (10+x.cf.drift)=10+x.cf.drift:=fX (by omega) (by omega);have a7:0≤v.ttl*(10+x.cf.drift):=Int.mul_nonneg hv0 (by omega);have a5:v.ttl*(10+x.cf.drift)≤1000*20:=Int.mul_le_mul hv1 (by omega) (by omega) (by omega);have w5:IntKind.i64.wrap (v.ttl*(10+x.cf.drift))=v.ttl*(10+x.cf.drift):=fX (by omega) (by omega);clear a3 a9 a7 a5;go_wp2_with fail;refine eD [0,0,0,1,0,1,0,0,0,0,1,0,0,0,0,1,0,0,0,0] (by kernel_rfl) (fun _ _ _ _=>rfl) ?_;simp only[dC,dB];iterate 20 (apply sB rfl rfl;·(intro x h;(try cases h rfl);go_simp;with_reducible rfl))
  refine cP ?_;try simp only[pA]
  go_wp2_with fail;go_ret;refine⟨by rw[p.out];simp,?_⟩;exact⟨b.out.os,b.out.tape,b.out.output,b.out.size,b.out.block⟩
section
open Go.RowKit Go.Maps
theorem zP(W:World)(m:Nat)(es:Array MapEntry)(clk:Nat)(h:W.heap[m]?=some (.map es clk)):
 Calls prog 186 #[.map (some m)] W fun e W'=>e= .returned (.map (some W.heap.size))∧W'=W.alloc (.map es clk):=by
 have c:= @run_callFunc_extern prog 216 _ Extern.MapsClone.clone func216 (by kernel_rfl) (by kernel_rfl) (by kernel_rfl) (by kernel_rfl);have b:=run_maps_clone_sl (P:=prog) W 209 h;have a:=fun w=>run_eql_map_nil_sl (P:=prog) w 209 _ _ (some m) underlying209;have d:=fun w v=>run_typeAssert_map_sl (P:=prog) w 209 20 _ _ v underlying209;go_enter func186,ntmps186;go_wp2;go_ret;exact⟨rfl,rfl⟩
theorem aB9(W:World)(F:Nat→Prop)(d:Nat)(k:Dk)(ev:Value)(h:Disk W F d k)(hok:hP k)(hnew:k.new=none):
 Calls prog 163 #[.pointer (some ⟨d,0,none⟩)] W fun e W'=>EndsK (.tuple #[]) ev W F d (dZ k oJ) e W':=by
 obtain⟨i,u,g,t,s,o,h⟩:=h;cases hs:fQ k with
 |none=>
  have z:dZ k oJ=(k,(.some (.some (iP k)))):=by unfold dZ;rw[hs]
  rw[z];have L:=cN h;have v:Hid (Calls prog 185 #[.pointer (some ⟨d,0,none⟩)] W fun e W'=>e= .panicked (rT (iP k))∧W'=W):=nK W F d k i u g t s o h hs;clear h hs;go_enter func163,ntmps163;go_wp2_with (go_at_call 185;refine v.out.mono ?_;rintro r a ⟨rfl,rfl⟩);exact⟨rfl,EndsK.dies ⟨_,_,_,_,_,_,L.out⟩⟩
 |some k1=>
  have z:dZ k oJ=(oJ k1,.none):=by unfold dZ;rw[hs]
  rw[z];have I:=gR hs;have v:Hid (Calls prog 185 #[.pointer (some ⟨d,0,none⟩)] W fun e W'=>e= .returned (.tuple #[])∧DkAt W' F d k1 i u g t s o∧Chg F W W'∧W'.heap.size=W.heap.size):=nL W F d k k1 i u g t s o h hok hs;clear h hs;go_enter func163,ntmps163;go_wp2_with (go_at_call 185;refine v.out.mono ?_;rintro r a ⟨rfl,f,G,D⟩;refine cQ ?_);have M:=I.2.2.2.1.trans hnew;obtain rfl:t=none:=by have:=f.new;rw[M]at this;exact this
  obtain⟨m,b,y⟩:=eH f.names;have A:=cN (zP a i m b y);have T:=f.cell 1 _ rfl;have j:Chg NoS a (a.alloc (.map m b)):=(Chg.refl _ _).alloc _;have p:(a.alloc (.map m b)).heap[a.heap.size]?=some (.map m b):=aA a _;have Q:(a.alloc (.map m b)).heap.size=a.heap.size+1:=by simp
  have w:=f.apart j (fun _ _ h=>h);generalize P:a.alloc (.map m b)=W2 at*;have E:oI W2 a.heap.size g none:=sS f.names (p.trans y.symm);have C:=f.lt;have c:DkAt W2 (fun x=>F x∨x=a.heap.size) d k1 i u g none s o:=w.grow (fun _ h=>Or.inl h) (fun x n=>by rcases n with n|n;exact w.lt x n;omega);have S:=c.froz 2;have U:=c.cell 2 _ rfl;have l:=cY W2 d 2 (.map (some a.heap.size));have q:=dD c.blk 2 (.map (some a.heap.size));generalize J:W2.setCell ⟨d,2,none⟩ (.map (some a.heap.size))=W3 at*;have K:=cN J;have H:DkAt W3 (fun x=>F x∨x=a.heap.size) d (oJ k1) i a.heap.size g none g o:=
   c.self l q c.names E c.fnm (Or.inr rfl) (fun e=>by have:=C i f.fnm;omega) rfl rfl rfl rfl c.fail
  have O:=cN H;have N:=cN ((G.nos' j).trans l (fun x _ e=>e▸w.fd));have B:=cN D;clear J l q c H w p j E G D f v I P y;refine cN ?_;go_wp2_with (first|rw[K.out]|(go_at_call 186;refine A.out.mono ?_;rintro r R ⟨rfl,rfl⟩))
  (first|go_end0|((try simp only[Exit.inBlock,Exit.then]);refine bodyPost_ret (results_none rfl _ _ _) rfl ?_))
  exact⟨⟨_,⟨_,_,_,_,_,_,O.out⟩,N.out,fun x n=>n.elim Or.inl (fun e=>Or.inr (by have:=B.out;omega))⟩,rfl⟩
theorem pX(t:List Int)(n:Nat):(strOfNums t).extract 0 n=strOfNums (t.take n):=by
 apply ByteArray.ext;simp[strOfNums,List.map_take]
end
end Go.Proofs.YtbbdgokdfhdpiaaGreatDoor
