/- A part of the proof: PMor7, PMor8, KpSet, KpDo, KpHdM, KpSt. -/
import Derived.Test.YtbbdgokdfhdpiaaGreatDoorC20
import Derived.Test.YtbbdgokdfhdpiaaGreatDoorC22
namespace Go.Proofs.YtbbdgokdfhdpiaaGreatDoor
set_option linter.all false
set_option maxRecDepth 100000
set_option maxHeartbeats 40000000
open Go.Proofs.Tryz Go.RowKit
theorem MOk.vl{f:Cf}{m:Mg}(h:MOk f m):yW m.val:=⟨h.v.t1,h.v.t2,h.v.s1,h.v.s2⟩
theorem aEU(a:Ac)(m:Mg):(iN a m).1.num=a.num:=by
 have b:∀r,(fR a r).1.num=a.num:=fun r=>by unfold fR;split<;>rfl
 unfold iN;dsimp only;split
 ·have h:=b (eO m (pG a m.lock));cases he:fR a (eO m (pG a m.lock))with
  |mk a1 hw=>
   rw[he]at h;cases hw using kT with
   |fine=>
    dsimp only at h⊢;split
    ·exact h
    ·exact h
   |full=>exact h
   |dies q=>exact h
 ·rfl
theorem aBy{x:Mo}{N:Int}(hok:MoOk N x)(hN:N≤90000000000){i:Int}(hi:dD i x.cls.length=true){m:Mg}(hm:MOk x.cf m){W:World}{F G:Nat→Prop}{b g:Nat}{av cv:Value}{net:List Mg}(hnl:(net.length:Int)≤90000000000)(hs:Sys W F G b g x.cf av cv (clM x i) net x.tr):
 Calls prog 86 #[.pointer (some ⟨b,0,none⟩),mgV m] W fun r W'=>r= .returned (.tuple #[])∧After W F G b g x.cf av cv (gF x.cf (clM x i) m) (net++cF (gG x.cf (clM x i) m)) (x.tr++gG x.cf (clM x i) m) W':=by
 have a:=dE hok.conf;obtain⟨c,d⟩:=hok.cl hi;have e:=hok.tl;exact aDx W F G b g x.cf av cv (clM x i) net x.tr m hs a.1.1 a.1.2 a.2.2.2.2.1.1 a.2.2.2.2.1.2 (wX hok hi hN) hm.vl hm.e1 hm.e2 (by have:=hm.k1;omega)
  (fun o ho=>by
   have q:=c.on o ho;refine⟨⟨q.g1,by have:=q.g2;omega,q.t1,q.t2,q.r1,by have:=q.r2;omega,q.a1,by have:=q.a2;omega⟩,⟨q.v.t1,q.v.t2,q.v.s1,q.v.s2⟩,by have:=q.mine;omega,by have:=q.ans;omega⟩)
  (fun l=>by have:=c.core.w l;omega) (by omega) (by omega)
theorem qT{x:Mo}{N:Int}(hok:MoOk N x)(hN:N≤90000000000){i:Int}(hi:dD i x.acs.length=true){m:Mg}(hm:MOk x.cf m)(hA:m.kind=1∨m.kind=3){W:World}{F G:Nat→Prop}{B:Nat}{eb:Addr}{b g:Nat}{av cv:Value}{net:List Mg}(hnl:(net.length:Int)≤90000000000)(hs:ASys W F G b g av cv (acM x i) net x.tr)(hgl:GlAt W B eb)(hFB:∀k,F k→B≤k)(hGB:∀k,G k→B≤k):
 Calls prog 85 #[.pointer (some ⟨b,0,none⟩),mgV m] W fun e W'=>e= .returned (.int .i64 (rK (acM x i) m))∧AfterA W F G b g av cv (iZ (acM x i) m) (net++cF (kL (acM x i) m)) (x.tr++kL (acM x i) m) W':=by
 have c:=dE hok.conf;obtain⟨a,d,j⟩:=hok.ac hi;have s:=hok.tl;have p:=c.2.2.2.2.2.2.2;have l:=a.dk.len;refine aDS W F G B eb b g av cv (acM x i) net x.tr m hs hgl hFB hGB (a.acOk j c.2.2.2.2.2.1.1 c.2.2.2.2.2.1.2 p) (by omega) (fun h=>a.new (by omega)) a.dk.old (fun hst q hq=>?_) (aEU _ _) (fun hst=>bP (aAf a hst d hm hA).2.2 (by decide)) hm.l1 hm.l2 (by omega) (by omega)
 ·have f:=(aAf a hst d hm hA).1;unfold HowOk at f;dsimp only at f;rw[hq]at f;obtain⟨n,⟨r,o,t⟩,_⟩:=f;exact⟨⟨r,o,by omega⟩,n⟩
theorem sK(W:World)(own:Nat→Nat)(g B:Nat)(eb:Addr)(x:Mo)(N i:Int)(h:Moor W own g x)(hgl:GlAt W B eb)(hB:∀k,own k≠0→B≤k)(hok:MoOk N x)(hN:N≤80000000000):
 Calls prog 39 #[.pointer (some ⟨g,0,none⟩),.int .i64 i] W fun r W'=>r= .returned (.int .i64 (kD x i))∧MoTo W own g (fA x i) W':=by
 have HM:=bY h;have d7:=bY hok;obtain⟨av,cv,bA,bC,h⟩:=h;obtain⟨nv,tv,hb,R,c5,b9,b5,b6⟩:=h.cells;obtain⟨p,c6,rfl⟩:=qI R;have c2:W.cell? ⟨g,2,none⟩=some (.slice p x.net.length c6):=bZ hb 2 _ rfl;have c8:=hok.nl;have HI:=bY (mM W g i p x.net.length c6 (by omega) c2);unfold kD fA;by_cases O:dD i x.net.length=true
 ·rw[if_pos O,if_pos O];have b8:=hok.msg O;have a3:=hok.drop i;have d2:eI x i={x with net:=x.net.eraseIdx i.toNat}:=by unfold eI;rw[if_pos O]
  rw[d2]at a3⊢;rw[O]at HI;obtain⟨h0,h1⟩:=(dC _ _).1 O;obtain⟨a0,em⟩:=pQ O;obtain⟨j,rfl⟩:∃j:Nat,i=j:=⟨i.toNat,by omega⟩;have hj:j<x.net.length:=by omega
  have ej:((j:Int).toNat)=j:=by omega
  rw[ej]at a3⊢;have c3:jM x (j:Int)=x.net[j]'hj:=em;have a5:=R;rcases R.2 with⟨e,e0⟩|⟨k,d5,d6,e,hr⟩
  ·omega
  ·cases e;have b0:=aE2 hj a5;rw[←c3]at b0;generalize hm:jM x (j:Int)=m at*;have HC:=bY b0;have d4:=bY (aA W (.cells (mgL m).toArray 66));have a4:Chg NoS W (W.alloc (.cells (mgL m).toArray 66)):=(Chg.refl _ _).alloc _;have c1:(W.alloc (.cells (mgL m).toArray 66)).heap.size=W.heap.size+1:=by simp
   have a7:=hgl.kept a4 (fun _ h=>h.elim);have c7:=HM.out.kept a4 (fun _ _ h=>h);generalize b4:W.alloc (.cells (mgL m).toArray 66)=W1 at*;have a9:Hid (W.alloc (.cells #[.int .i64 m.kind,.int .i64 m.src,.int .i64 m.dst,.int .i64 m.lock,.int .i64 m.bal,.int .i64 m.base,.int .i64 m.val.own,.int .i64 m.val.tok,.int .i64 m.val.ttl,.int .i64 m.val.seq] 66)=W1):=b4;have HR:=bY (xZ W1 own g x N j c7 hok (by omega) hj);have d3:=bY (aHj c1 a4 a7);have D:=bY b8;have b1:=bY a3;have HB:=bY (aHi hB HM.out.lt);have HG:=bY c8;have HZ:Hid (∀n,MoTo W1 own g {x with net:=x.net.eraseIdx j} n→∃a,Moor n a g {x with net:=x.net.eraseIdx j}∧Chg (fun k=>own k≠0) W n∧(∀k,a k≠0→own k≠0∨W.heap.size≤k)∧n.heap[W.heap.size]?=some (.cells (mgL m).toArray 66 (0,0))∧GlAt n B eb∧(∀k,a k≠0→B≤k)):=by
    rintro n ⟨a,C,u,z⟩;have hh:=d3.out;have d8:=hh.2.2.hB;refine⟨a,C,(hh.2.1.mono (fun _ _ h=>h.elim)).trans u (fun k _ h=>h),fun k hk=>?_,u.kept d4.out (fun h=>by have:=HB.out.2 _ h;omega),hh.2.2.kept u (fun k hk=>HB.out.1 k hk),fun k hk=>?_⟩
    ·rcases z k hk with h|h
     ·exact Or.inl h
     ·right;omega
    ·rcases z k hk with h|h
     ·exact HB.out.1 k h
     ·omega
   have hA:∀(P:Prop),(iT m=true→(m.kind=1∨m.kind=3)):=fun _ h=>by simpa[iT]using h
   clear b0 hb R c5 b9 b5 b6 h hok O a0 hr a5 em c3 hm b4 a4 c1 a7 c7 b8 a3 hj hgl hB c8 d2 h0;by_cases J:m.kind=1
   ·have e1:(m.kind==1)=true:=by simp[J]
    have Q:iT m=true:=by simp[iT,J]
    rw[if_pos Q,if_pos Q];have M:m.kind=1∨m.kind=3:=Or.inl J;clear J hA Q;go_enter func39,ntmps39;go_wp2_with (first|rw[a9.out]|(go_at_call 83;refine HI.out.mono ?_;rintro e w' ⟨rfl,hW⟩;have X:=hW.symm;subst X;clear hW)|(refine cG rfl 66 _ rfl ⟨k,j*10,none⟩ rfl (mgL m) _ HC.out underlying66 rfl (by kernel_rfl) ?_)|(go_at_call 84;refine HR.out.mono ?_;rintro e n ⟨rfl,F⟩;refine cB ?_));refine bY ?_;obtain⟨a,U,u,z,b,A,E⟩:=HZ.out n F;obtain⟨a8,a1,a2,b2,C⟩:=U;obtain⟨b7,b3,I,_⟩:=C.cells;obtain⟨p2,s,rfl,o⟩:=jW C.rav;have l:=b1.out;have w:dD m.dst x.acs.length=true:=(dC _ _).2 ⟨D.out.d1,by have h1:=l.na;have C:=(D.out.toA M).2;have h3:x.acs.length=fS x.cf:=h1;rw[h3];unfold fS;omega⟩;have d:dD m.dst ({x with net:=x.net.eraseIdx j}:Mo).acs.length=true:=w;obtain⟨Z,eq⟩:=lY d;obtain⟨d0,d1⟩:=(dC _ _).1 w;have y:m.dst=((m.dst.toNat:Nat):Int):=by omega
    have c:m.dst.toNat<x.acs.length:=by omega
    obtain⟨k2,rfl,ck⟩:=o m.dst.toNat c;have c0:n.cell? ⟨g,0,none⟩=some (.slice (some ⟨k2,0,none⟩) x.acs.length s):=bZ I 0 _ rfl;have cd:n.cell? ⟨W.heap.size,2,none⟩=some (.int .i64 m.dst):=bZ b 2 _ rfl;have c9:n.cell? ⟨W.heap.size,0,none⟩=some (.int .i64 m.kind):=bZ b 0 _ rfl;have ed:m.dst.toNat=m.dst.toNat:=rfl;have t:=(C.drew).asys m.dst.toNat c;have G:acM {x with net:=x.net.eraseIdx j} m.dst=x.acs[m.dst.toNat]'c:=eq;have f:ASys n.drew (fun k=>a k=3+2*m.dst.toNat) (fun k=>a k=1) (a2 m.dst.toNat) g (.slice (some ⟨k2,0,none⟩) x.acs.length s) a1 (acM {x with net:=x.net.eraseIdx j} m.dst) (x.net.eraseIdx j) x.tr:=by rw[G];exact t
    have HT:=bY (qT (N:=N) l (by omega) d D.out M (by have:=l.nl;exact Int.le_trans this (by omega)) f (A.kept (S:=NoS) (Chg.refl _ _).drew (fun _ h=>h.elim)) (fun q Z=>E q (by omega)) (fun q Z=>E q (by omega)));have HL:=bY (cC (cs:=mgL m) (W:=n.drew) b);have H2:=bY C;have H:=bY (aHi u z);have hx1:(m.dst.toNat:Int)<(x.acs.length:Int):=by omega
    have V:=bY c;clear F u z A E o l w d Z eq G t f C c I;generalize Y:m.dst.toNat=jd at*;have c4:(0:Int)≤(jd:Int):=by omega
    rw[y]at cd;have a6:=bY b;have T:=bY y;clear b y d0 d1 ed Y;go_wp2_with fail;refine dR [0,0,0,1,0,1,0,1,1] (by kernel_rfl) (fun _ _ _ _=>rfl) ?_;simp only[cK,cJ];iterate 8 (apply sB rfl rfl;·(intro x h;(try cases h rfl);go_simp;with_reducible rfl))
    try simp only[pA]
    refine cH (v:=mgV m) rfl (fun x hx=>cE 66 _ rfl ⟨W.heap.size,0,none⟩ rfl (mgL m) _ (by subst hx;exact HL.out) underlying66 rfl (by kernel_rfl)) ?_;refine cA ?_;(try simp only[pA]);go_wp2_with (go_at_call 85;refine HT.out.mono ?_;rintro r W5 ⟨rfl,k1⟩);go_ret;refine⟨rfl,?_⟩;have K:=H2.out.drew.acceptorTo jd V.out k1;refine MoTo.trans (own1:=a) H.out.1 H.out.2 (MoTo.drew ?_);have e:(m.dst).toNat=jd:=by have:=T.out;omega
    unfold jL;rw[e];exact K
   ·have e1:(m.kind==1)=false:=by simp[J]
    by_cases L:m.kind=3
    ·have e3:(m.kind==3)=true:=by simp[L]
     have Q:iT m=true:=by simp[iT,L]
     rw[if_pos Q,if_pos Q];have M:m.kind=1∨m.kind=3:=Or.inr L;clear J hA Q L;go_enter func39,ntmps39;go_wp2_with (first|rw[a9.out]|(go_at_call 83;refine HI.out.mono ?_;rintro e w' ⟨rfl,hW⟩;have X:=hW.symm;subst X;clear hW)|(refine cG rfl 66 _ rfl ⟨k,j*10,none⟩ rfl (mgL m) _ HC.out underlying66 rfl (by kernel_rfl) ?_)|(go_at_call 84;refine HR.out.mono ?_;rintro e n ⟨rfl,F⟩;refine cB ?_));refine bY ?_;obtain⟨a,U,u,z,b,A,E⟩:=HZ.out n F;obtain⟨a8,a1,a2,b2,C⟩:=U;obtain⟨b7,b3,I,_⟩:=C.cells;obtain⟨p2,s,rfl,o⟩:=jW C.rav;have l:=b1.out;have w:dD m.dst x.acs.length=true:=(dC _ _).2 ⟨D.out.d1,by have h1:=l.na;have C:=(D.out.toA M).2;have h3:x.acs.length=fS x.cf:=h1;rw[h3];unfold fS;omega⟩;have d:dD m.dst ({x with net:=x.net.eraseIdx j}:Mo).acs.length=true:=w;obtain⟨Z,eq⟩:=lY d;obtain⟨d0,d1⟩:=(dC _ _).1 w;have y:m.dst=((m.dst.toNat:Nat):Int):=by omega
     have c:m.dst.toNat<x.acs.length:=by omega
     obtain⟨k2,rfl,ck⟩:=o m.dst.toNat c;have c0:n.cell? ⟨g,0,none⟩=some (.slice (some ⟨k2,0,none⟩) x.acs.length s):=bZ I 0 _ rfl;have cd:n.cell? ⟨W.heap.size,2,none⟩=some (.int .i64 m.dst):=bZ b 2 _ rfl;have c9:n.cell? ⟨W.heap.size,0,none⟩=some (.int .i64 m.kind):=bZ b 0 _ rfl;have ed:m.dst.toNat=m.dst.toNat:=rfl;have t:=(C.drew).asys m.dst.toNat c;have G:acM {x with net:=x.net.eraseIdx j} m.dst=x.acs[m.dst.toNat]'c:=eq;have f:ASys n.drew (fun k=>a k=3+2*m.dst.toNat) (fun k=>a k=1) (a2 m.dst.toNat) g (.slice (some ⟨k2,0,none⟩) x.acs.length s) a1 (acM {x with net:=x.net.eraseIdx j} m.dst) (x.net.eraseIdx j) x.tr:=by rw[G];exact t
     have HT:=bY (qT (N:=N) l (by omega) d D.out M (by have:=l.nl;exact Int.le_trans this (by omega)) f (A.kept (S:=NoS) (Chg.refl _ _).drew (fun _ h=>h.elim)) (fun q Z=>E q (by omega)) (fun q Z=>E q (by omega)));have HL:=bY (cC (cs:=mgL m) (W:=n.drew) b);have H2:=bY C;have H:=bY (aHi u z);have hx1:(m.dst.toNat:Int)<(x.acs.length:Int):=by omega
     have V:=bY c;clear F u z A E o l w d Z eq G t f C c I;generalize Y:m.dst.toNat=jd at*;have c4:(0:Int)≤(jd:Int):=by omega
     rw[y]at cd;have a6:=bY b;have T:=bY y;clear b y d0 d1 ed Y;go_wp2_with fail;refine dR [0,0,0,1,0,1,0,1,1] (by kernel_rfl) (fun _ _ _ _=>rfl) ?_;simp only[cK,cJ];iterate 8 (apply sB rfl rfl;·(intro x h;(try cases h rfl);go_simp;with_reducible rfl))
     try simp only[pA]
     refine cH (v:=mgV m) rfl (fun x hx=>cE 66 _ rfl ⟨W.heap.size,0,none⟩ rfl (mgL m) _ (by subst hx;exact HL.out) underlying66 rfl (by kernel_rfl)) ?_;refine cA ?_;(try simp only[pA]);go_wp2_with (go_at_call 85;refine HT.out.mono ?_;rintro r W5 ⟨rfl,k1⟩);go_ret;refine⟨rfl,?_⟩;have K:=H2.out.drew.acceptorTo jd V.out k1;refine MoTo.trans (own1:=a) H.out.1 H.out.2 (MoTo.drew ?_);have e:(m.dst).toNat=jd:=by have:=T.out;omega
     unfold jL;rw[e];exact K
    ·have e3:(m.kind==3)=false:=by simp[L]
     have Q:¬iT m=true:=by simp[iT,J,L]
     rw[if_neg Q,if_neg Q];have M:¬(m.kind=1∨m.kind=3):=by omega
     clear J hA Q L;go_enter func39,ntmps39;go_wp2_with (first|rw[a9.out]|(go_at_call 83;refine HI.out.mono ?_;rintro e w' ⟨rfl,hW⟩;have X:=hW.symm;subst X;clear hW)|(refine cG rfl 66 _ rfl ⟨k,j*10,none⟩ rfl (mgL m) _ HC.out underlying66 rfl (by kernel_rfl) ?_)|(go_at_call 84;refine HR.out.mono ?_;rintro e n ⟨rfl,F⟩;refine cB ?_));refine bY ?_;obtain⟨a,U,u,z,b,A,E⟩:=HZ.out n F;obtain⟨a8,a1,a2,b2,C⟩:=U;obtain⟨b7,b3,I,_⟩:=C.cells;obtain⟨p2,s,rfl,o⟩:=jW C.rcv;have l:=b1.out;have w:dD m.dst x.cls.length=true:=(dC _ _).2 ⟨D.out.d1,by have h1:=l.nc;have C:=(D.out.toC M).2;have h3:x.cls.length=x.cf.clients.toNat:=h1;rw[h3];omega⟩;have d:dD m.dst ({x with net:=x.net.eraseIdx j}:Mo).cls.length=true:=w;obtain⟨Z,eq⟩:=nJ d;obtain⟨d0,d1⟩:=(dC _ _).1 w;have y:m.dst=((m.dst.toNat:Nat):Int):=by omega
     have c:m.dst.toNat<x.cls.length:=by omega
     obtain⟨k2,rfl,ck⟩:=o m.dst.toNat c;have c0:n.cell? ⟨g,1,none⟩=some (.slice (some ⟨k2,0,none⟩) x.cls.length s):=bZ I 1 _ rfl;have cd:n.cell? ⟨W.heap.size,2,none⟩=some (.int .i64 m.dst):=bZ b 2 _ rfl;have c9:n.cell? ⟨W.heap.size,0,none⟩=some (.int .i64 m.kind):=bZ b 0 _ rfl;have ed:m.dst.toNat=m.dst.toNat:=rfl;have t:=(C.drew).sys m.dst.toNat c;have G:clM {x with net:=x.net.eraseIdx j} m.dst=x.cls[m.dst.toNat]'c:=eq;have f:Sys n.drew (fun k=>a k=4+2*m.dst.toNat) (fun k=>a k=1) (b2 m.dst.toNat) g x.cf a8 (.slice (some ⟨k2,0,none⟩) x.cls.length s) (clM {x with net:=x.net.eraseIdx j} m.dst) (x.net.eraseIdx j) x.tr:=by rw[G];exact t
     have HT:=bY (aBy (N:=N) l (by omega) d D.out (by have:=l.nl;exact Int.le_trans this (by omega)) f);have HL:=bY (cC (cs:=mgL m) (W:=n.drew) b);have H2:=bY C;have H:=bY (aHi u z);have hx1:(m.dst.toNat:Int)<(x.cls.length:Int):=by omega
     have V:=bY c;clear F u z A E o l w d Z eq G t f C c I;generalize Y:m.dst.toNat=jd at*;have c4:(0:Int)≤(jd:Int):=by omega
     rw[y]at cd;have a6:=bY b;have T:=bY y;clear b y d0 d1 ed Y;go_wp2_with fail;refine dR [0,0,0,1,0,1,0,1,1] (by kernel_rfl) (fun _ _ _ _=>rfl) ?_;simp only[cK,cJ];iterate 8 (apply sB rfl rfl;·(intro x h;(try cases h rfl);go_simp;with_reducible rfl))
     try simp only[pA]
     refine cH (v:=mgV m) rfl (fun x hx=>cE 66 _ rfl ⟨W.heap.size,0,none⟩ rfl (mgL m) _ (by subst hx;exact HL.out) underlying66 rfl (by kernel_rfl)) ?_;refine cA ?_;(try simp only[pA]);go_wp2_with (go_at_call 86;refine HT.out.mono ?_;rintro r W5 ⟨rfl,k1⟩);go_ret;refine⟨rfl,?_⟩;have K:=H2.out.drew.clientTo jd V.out k1;refine MoTo.trans (own1:=a) H.out.1 H.out.2 (MoTo.drew ?_);have e:(m.dst).toNat=jd:=by have:=T.out;omega
     unfold gX;rw[e];exact K
 ·rw[if_neg O,if_neg O];have a0:dD i x.net.length=false:=by simpa using O
  rw[a0]at HI;clear hb R c5 b9 b5 b6 h hok O a0;go_enter func39,ntmps39;go_wp2_with (go_at_call 83;refine HI.out.mono ?_;rintro e w' ⟨rfl,rfl⟩);go_ret;exact⟨rfl,MoTo.of HM.out⟩
structure KW(W:World)(B:Nat)(eb:Addr)(own:Nat→Nat)(g:Nat)(x:Mo)(N:Int):Prop where
 mo:Moor W own g x
 gl:GlAt W B eb
 ow:∀k,own k≠0→B≤k
 ok:MoOk N x
def KTo(W:World)(B:Nat)(eb:Addr)(own:Nat→Nat)(g:Nat)(x:Mo)(N:Int)(W':World):Prop:=∃own',KW W' B eb own' g x N∧Chg (fun k=>own k≠0) W W'∧∀k,own' k≠0→own k≠0∨W.heap.size≤k
section
variable {W W':World}{B:Nat}{eb:Addr}{own:Nat→Nat}{g:Nat}{x x':Mo}{N N':Int}
theorem KW.go(h:KW W B eb own g x N)(hm:MoTo W own g x' W')(hok:MoOk N' x'):KTo W B eb own g x' N' W':=by
 obtain⟨a,d,b,c⟩:=hm;refine⟨a,⟨d,h.gl.kept b h.ow,fun k hk=>?_,hok⟩,b,c⟩;rcases c k hk with e|e
 ·exact h.ow k e
 ·exact bP h.gl.hB e
theorem KTo.refl(h:KW W B eb own g x N):KTo W B eb own g x N W:=⟨own,h,Chg.refl _ _,fun _ h=>Or.inl h⟩
theorem KTo.trans(h:KTo W B eb own g x N W'){W'':World}(k:∀own',KW W' B eb own' g x N→KTo W' B eb own' g x' N' W''):KTo W B eb own g x' N' W'':=by
 obtain⟨l,i,a,b⟩:=h;obtain⟨j,c,d,f⟩:=k l i;refine⟨j,c,a.trans d (fun q hq h'=>?_),fun q hq=>?_⟩
 ·rcases b q h' with e|e
  ·exact e
  ·omega
 ·rcases f q hq with e|e
  ·exact b q e
  ·right;have:=a.size;omega
theorem KTo.step{y y':Mo}{N2:Int}{wr W1:World}{o':Nat→Nat}(hw:KW wr B eb o' g y N)(hc:Chg (fun k=>own k≠0) W wr)(hg:∀k,o' k≠0→own k≠0∨W.heap.size≤k)(hq:MoTo wr o' g y' W1)(hok:MoOk N2 y'):KTo W B eb own g y' N2 W1:=by
 obtain⟨d,a,b,c⟩:=hw.go hq hok;refine⟨d,a,hc.trans b (fun q hq h'=>?_),fun q hq=>?_⟩
 ·rcases hg q h' with e|e
  ·exact e
  ·omega
 ·rcases c q hq with e|e
  ·exact hg q e
  ·right;have:=hc.size;omega
theorem KW.kept(h:KW W B eb own g x N){S:Nat→Prop}(hc:Chg S W W')(hn:∀k,own k≠0→¬S k)(hS:∀k,S k→B≤k):KW W' B eb own g x N:=⟨h.mo.kept hc hn,h.gl.kept hc hS,h.ow,h.ok⟩
theorem KW.chg0(h:KW W B eb own g x N)(hc:Chg NoS W W'):KW W' B eb own g x N:=h.kept hc (fun _ _ e=>e) (fun _ e=>e.elim)
theorem KTo.chg0(h:KTo W B eb own g x N W'){W'':World}(hc:Chg NoS W' W''):KTo W B eb own g x N W'':=by
 obtain⟨o,a,b,c⟩:=h;exact⟨o,a.chg0 hc,b.trans hc (fun _ _ e=>e.elim),c⟩
theorem KTo.comp{o2:Nat→Nat}{W2:World}(c:Chg (fun k=>own k≠0) W W2)(g2:∀k,o2 k≠0→own k≠0∨W.heap.size≤k)(h:KTo W2 B eb o2 g x N W'):KTo W B eb own g x N W':=by
 obtain⟨o,b,a,d⟩:=h;refine⟨o,b,c.trans a (fun q hq h'=>?_),fun q hq=>?_⟩
 ·rcases g2 q h' with e|e
  ·exact e
  ·omega
 ·rcases d q hq with e|e
  ·exact g2 q e
  ·right;have:=c.size;omega
theorem KTo.junk{W1 W3 W8:World}{S:Nat→Prop}(h:KTo W1 B eb own g x N W3)(hc1:Chg NoS W W1)(hc:Chg S W3 W8)(hS:∀k,S k→W.heap.size≤k∧k<W1.heap.size)(ho:∀k,own k≠0→k<W.heap.size)(hB:B≤W.heap.size):KTo W B eb own g x N W8:=by
 obtain⟨o,c,b,a⟩:=h;refine⟨o,c.kept hc (fun k hk hs=>?_) (fun k hs=>bP hB (hS k hs).1),?_,fun k hk=>(a k hk).imp id fun e=>bP hc1.size e⟩
 ·have:=hS k hs;rcases a k hk with e|e
  ·have:=ho k e;omega
  ·omega
 ·refine((hc1.mono (T:=fun k=>own k≠0) (fun _ _ e=>e.elim)).trans b (fun _ _ e=>e)).trans hc (fun k hk hs=>?_);have:=hS k hs;omega
theorem KTo.mono(h:KTo W B eb own g x N W')(hN:N≤N'):KTo W B eb own g x N' W':=by
 obtain⟨o,a,b,c⟩:=h;exact⟨o,⟨a.mo,a.gl,a.ow,a.ok.mono hN⟩,b,c⟩
theorem KTo.before(h:KTo W' B eb own g x N W){W0:World}(hc:Chg NoS W0 W'):KTo W0 B eb own g x N W:=by
 obtain⟨o,a,b,c⟩:=h;exact⟨o,a,hc.mono (fun _ _ e=>e.elim) |>.trans b (fun _ _ e=>e),fun k hk=>(c k hk).imp id fun e=>bP hc.size e⟩
end
def gV:Nat→Mo→Mo
 |0,x=>x
 |n+1,x=>if x.net.length=0 then x else gV n (fA x 0)
theorem aDI(a:Ac)(m:Mg):rK a m≠1:=by
 unfold rK;split
 ·decide
 ·split<;>decide
theorem aAb{x:Mo}(h:x.net.length=0):kD x 0=1:=by
 unfold kD;rw[if_neg (by rw[dC];omega)]
theorem aAn{x:Mo}(h:x.net.length≠0):kD x 0≠1:=by
 unfold kD;rw[if_pos (by rw[dC];omega)];split
 ·exact aDI _ _
 ·decide
theorem vW(W:World)(B:Nat)(eb:Addr)(own:Nat→Nat)(g:Nat)(x:Mo)(N:Int)(most:Nat)(h:KW W B eb own g x N)(hm:(most:Int)≤10000000000)(hN:N+6*most≤80000000000):
 Calls prog 46 #[.pointer (some ⟨g,0,none⟩),.int .i64 (most:Int)] W fun r W'=>r= .returned (.tuple #[])∧KTo W B eb own g (gV most x) (N+6*most) W':=by
 have H:=bY h;clear h;go_enter func46,ntmps46;go_wp2_with fail;go_loopw [4] (fun i wr=>∃k:Nat,k≤most∧i= .int .i64 k∧Hid (∃y,KTo W B eb own g y (N+6*k) wr∧gV most x=gV (most-k) y)) (fun i _=>most-(intOf i).toNat)
 case atStart=>exact⟨0,aI _,rfl,x,KTo.mono (.refl H.out) (by omega),rfl⟩
 case round=>
  obtain⟨k,C,rfl,w⟩:=hrel;obtain⟨y,⟨s,b,m,l⟩,c⟩:=w.out;by_cases A:k<most
  ·have q:(k:Int)<(most:Int):=by omega
   have t:=bY (sK wr s g B eb y (N+6*k) 0 b.mo b.gl b.ow b.ok (by omega));have a:=bY (aHj b m l);have f:most-k=(most-(k+1))+1:=by omega
   rw[f]at c;by_cases j:y.net.length=0
   ·have u:(kD y 0==1)=true:=by simp[aAb j]
    rw[gV,if_pos j]at c;have n:=bY c;have z:=bY (show fA y 0=y by unfold fA;rw[if_neg (by rw[dC];omega)]);clear b m l c f j;go_wp2_with (go_at_call 39;refine t.out.mono ?_;rintro e v ⟨rfl,d⟩;have o:=bY d;clear d)
    (first|go_end0|((try simp only[Exit.inBlock,Exit.then]);refine bodyPost_ret (results_none rfl _ _ _) rfl ?_))
    have d:=o.out;rw[z.out]at d;rw[n.out];exact⟨rfl,KTo.mono (KTo.step a.out.1 a.out.2.1 a.out.2.2 d a.out.1.ok) (by omega)⟩
   ·have u:(kD y 0==1)=false:=by simp[aAn j]
    rw[gV,if_neg j]at c;have n:=bY c;clear b m l c f j;go_wp2_with (go_at_call 39;refine t.out.mono ?_;rintro e v ⟨rfl,d⟩;have o:=bY d;clear d);go_roundw
    case rel=>
     refine⟨k+1,by omega,by go_num,fA y 0,?_,n.out⟩;exact KTo.mono (KTo.step a.out.1 a.out.2.1 a.out.2.2 o.out (a.out.1.ok.deliver 0)) (by omega)
    case measure=>simp[intOf]<;>omega
  ·have p:k=most:=by omega
   subst p;have q:¬(k:Int)<(k:Int):=by omega
   have n:=bY c;have a:=bY (aHj b m l);clear c b m l;go_wp2_with fail
   (first|go_end0|((try simp only[Exit.inBlock,Exit.then]);refine bodyPost_ret (results_none rfl _ _ _) rfl ?_))
   refine⟨rfl,?_⟩;rw[n.out,Nat.sub_self];exact⟨s,a.out.1,a.out.2.1,a.out.2.2⟩
def qW(x:Mo)(i k l t:Int):Mo:=if oX x i k l t≠0 then fI x i k l t else gV 200 (fI x i k l t)
def jH(x:Mo)(i k l t:Int):Ev:=if oX x i k l t≠0 then zEv else(kV (qW x i k l t).tr i (qW x i k l t).tr.length).1
theorem uZ(x:Mo):tR x 0=x.tr:=by
 unfold tR;rw[show(min (max (0:Int) 0) (x.tr.length:Int)).toNat=0 by omega]
 rfl
theorem oJ(W:World)(B:Nat)(eb:Addr)(own:Nat→Nat)(g:Nat)(x:Mo)(N:Int)(i k l t:Int)(h:KW W B eb own g x N)(hN:N≤70000000000):
 Calls prog 27 #[.pointer (some ⟨g,0,none⟩),.int .i64 i,.int .i64 k,.int .i64 l,.int .i64 t] W fun r W'=>r= .returned (evV (jH x i k l t))∧KTo W B eb own g (qW x i k l t) (N+1206) W':=by
 have G:=aA W (.cells #[.int .i64 0,.int .i64 0,.int .i64 0,.int .i64 0,.int .i64 0,.int .i64 0,.int .i64 0,.int .i64 0,.int .i64 0,.int .i64 0,.int .i64 0,.int .i64 0,.int .i64 0,.int .i64 0,.int .i64 0,.int .i64 0,.int .i64 0,.int .i64 0,.int .i64 0] 70);have o:Chg NoS W (W.alloc (.cells #[.int .i64 0,.int .i64 0,.int .i64 0,.int .i64 0,.int .i64 0,.int .i64 0,.int .i64 0,.int .i64 0,.int .i64 0,.int .i64 0,.int .i64 0,.int .i64 0,.int .i64 0,.int .i64 0,.int .i64 0,.int .i64 0,.int .i64 0,.int .i64 0,.int .i64 0] 70)):=(Chg.refl _ _).alloc _;have D:∀q,own q≠0→q<W.heap.size:=h.mo.lt;have a3:=h.gl.hB;generalize F:W.alloc (.cells #[.int .i64 0,.int .i64 0,.int .i64 0,.int .i64 0,.int .i64 0,.int .i64 0,.int .i64 0,.int .i64 0,.int .i64 0,.int .i64 0,.int .i64 0,.int .i64 0,.int .i64 0,.int .i64 0,.int .i64 0,.int .i64 0,.int .i64 0,.int .i64 0,.int .i64 0] 70)=W1 at G o;have h1:=h.chg0 o;have b7:=bY F;have A:W1.heap.size=W.heap.size+1:=by rw[←F];simp
 have c4:Hid (W1.heap[W.heap.size]?=some (.cells (evL zEv).toArray 70 (0,0))):=G;have a:=bY (aHk h1 o A D);have HB:=bY (wF W1 own g x N i k l t h1.mo h1.ok (by omega));clear h h1 G F o A D;go_enter func27,ntmps27;go_wp2_with (first|rw[b7.out]|(go_at_call 37;refine HB.out.mono ?_;rintro e R ⟨rfl,w⟩;have HQ:=bY w;clear w;refine cB ?_));have b3:KTo W1 B eb own g (fI x i k l t) (N+6) R:=a.out.1.go HQ.out (a.out.1.ok.begin i k l t);obtain⟨o2,P,O,g2⟩:=b3;have n:R.heap[W.heap.size]?=some (.cells (evL zEv).toArray 70 (0,0)):=(O.block _ (by have:=a.out.2.2.1;omega) (fun e=>by have:=a.out.2.2.2 _ e;omega)).trans c4.out;by_cases E:oX x i k l t=0
 ·have b0:(oX x i k l t !=0)=false:=by simp[E]
  have HS:=bY (vW R B eb o2 g (fI x i k l t) (N+6) 200 P (by decide) (by omega));have b:=bY (aHk P O g2 n);have H0:=bY E;clear P O g2 n E;refine bY ?_;go_wp2_with (go_at_call 46;refine HS.out.mono ?_;rintro e K ⟨rfl,w⟩;have a1:=bY w;clear w;refine cB ?_);obtain⟨o3,Q,c3,g3⟩:=a1.out;have Z:K.heap[W.heap.size]?=some (.cells (evL zEv).toArray 70 (0,0)):=(c3.block _ (by have:=a.out.2.2.1;have:=b.out.2.1.size;omega) (fun e=>by
   rcases b.out.2.2.1 _ e with e|e
   ·have:=a.out.2.2.2 _ e;omega
   ·have:=a.out.2.2.1;omega)).trans b.out.2.2.2
  have HT:=bY (yB K o3 g (gV 200 (fI x i k l t)) (N+6+6*(200:Nat)) 0 Q.mo Q.ok (by omega));rw[uZ]at HT;have c9:=Q.ok.tl;have s:=bY (aHk Q c3 g3 Z);have HD:Hid (qW x i k l t=gV 200 (fI x i k l t)):=if_neg (by rw[H0.out];decide);have HE:Hid (jH x i k l t=(kV (gV 200 (fI x i k l t)).tr i (gV 200 (fI x i k l t)).tr.length).1):=by
   show jH x i k l t=_;unfold jH;rw[if_neg (by rw[H0.out];decide),HD.out]
  generalize gV 200 (fI x i k l t)=y at*;clear Q c3 g3 Z a1 HS;refine bY ?_;go_wp2_with (go_at_call 17;refine HT.out.mono ?_;rintro e W4 ⟨v,rfl,hv,a8⟩;refine cB ?_);obtain⟨p,c8,rfl,hl,_⟩:=LsAt.of_owns (f:=evL) (sz:=19) (fun _=>rfl) hv rfl;have HN:=bY (aDd W4 p c8 y.tr i hl (by omega));have X:Chg NoS K W4:=Chg.below' a8;have M:=bY X;clear hv a8 X hl;refine bY ?_;go_wp2_with (first|(go_at_call 64;refine HN.out.mono ?_;rintro e c ⟨rfl,w⟩;have m:=bY w;clear w;refine cB ?_));have a6:c.heap[W.heap.size]?=some (.cells (evL zEv).toArray 70 (0,0)):=(m.out.block _ (by have:=a.out.2.2.1;have:=b.out.2.1.size;have:=s.out.2.1.size;have:=M.out.size;omega) (fun e=>e)).trans ((M.out.block _ (by have:=a.out.2.2.1;have:=b.out.2.1.size;have:=s.out.2.1.size;omega) (fun e=>e)).trans s.out.2.2.2);have C:W.heap.size<c.heap.size:=by have:=a.out.2.2.1;have:=b.out.2.1.size;have:=s.out.2.1.size;have:=M.out.size;have:=m.out.size;omega
  have d:=aA c (.cells #[.int .i64 0,.int .i64 0,.int .i64 0,.int .i64 0,.int .i64 0,.int .i64 0,.int .i64 0,.int .i64 0,.int .i64 0,.int .i64 0,.int .i64 0,.int .i64 0,.int .i64 0,.int .i64 0,.int .i64 0,.int .i64 0,.int .i64 0,.int .i64 0,.int .i64 0] 70);have I:(c.alloc (.cells #[.int .i64 0,.int .i64 0,.int .i64 0,.int .i64 0,.int .i64 0,.int .i64 0,.int .i64 0,.int .i64 0,.int .i64 0,.int .i64 0,.int .i64 0,.int .i64 0,.int .i64 0,.int .i64 0,.int .i64 0,.int .i64 0,.int .i64 0,.int .i64 0,.int .i64 0] 70)).heap[W.heap.size]?=some (.cells (evL zEv).toArray 70 (0,0)):=cO _ a6;have H:Chg NoS c (c.alloc (.cells #[.int .i64 0,.int .i64 0,.int .i64 0,.int .i64 0,.int .i64 0,.int .i64 0,.int .i64 0,.int .i64 0,.int .i64 0,.int .i64 0,.int .i64 0,.int .i64 0,.int .i64 0,.int .i64 0,.int .i64 0,.int .i64 0,.int .i64 0,.int .i64 0,.int .i64 0] 70)):=(Chg.refl _ _).alloc _;generalize U:c.alloc (.cells #[.int .i64 0,.int .i64 0,.int .i64 0,.int .i64 0,.int .i64 0,.int .i64 0,.int .i64 0,.int .i64 0,.int .i64 0,.int .i64 0,.int .i64 0,.int .i64 0,.int .i64 0,.int .i64 0,.int .i64 0,.int .i64 0,.int .i64 0,.int .i64 0,.int .i64 0] 70)=W6 at d I H;have b8:=bY U;have b2:Hid (W6.heap[c.heap.size]?=some (.cells (evL zEv).toArray 70 (0,0))):=d;have L:=bY (aHj I H C);generalize (kV y.tr i y.tr.length).1=e at HE⊢;generalize (kV y.tr i y.tr.length).2=eb2;clear a6 C d U I H;refine bY ?_
  go_wp2_with (first|rw[b8.out]|(refine cD rfl 70 _ _ rfl c.heap.size 0 70 _ _ (evL e) rfl rfl b2.out (by kernel_rfl) (by simp[Value.oneCell']) (by simp) rfl ?_;intro W7 T c5 V;have S:=bY T;have c1:=bY V;clear T c5 V;refine cB ?_));have a7:W7.heap[W.heap.size]?=some (.cells (evL zEv).toArray 70 (0,0)):=(S.out.block _ (by have:=L.out.2.1.size;have:=L.out.2.2;omega) (fun e=>by have:=L.out.2.2;omega)).trans L.out.1;have a9:=bY a7;have c7:Hid (∀j u,(evL e)[j]?=some u→W7.cell? ((⟨c.heap.size,0,none⟩:Addr).add j)=some u):=cC c1.out;clear a7;refine bY ?_;go_wp2_with (first|(refine cD rfl 70 _ _ rfl W.heap.size 0 70 _ _ (evL e) rfl rfl a9.out (by kernel_rfl) (by simp[Value.oneCell']) (by simp) rfl ?_;intro W8 Y b5 a5;have c6:=bY Y;have b9:=bY a5;clear Y b5 a5;refine cB ?_)|(refine cG rfl 70 _ rfl ⟨c.heap.size,0,none⟩ rfl (evL e) _ c7.out underlying70 rfl (by kernel_rfl) ?_));refine bY ?_;go_wp2_with fail;rw[HE.out,HD.out];refine bodyPost_ret (yY _ results27 _ W.heap.size e _ rfl b9.out) rfl ⟨rfl,?_⟩;have z1:=a.out.2.2.1;have z2:=b.out.2.1.size;have z3:=s.out.2.1.size;have z4:=M.out.size;have z5:=m.out.size;have hn:Chg (fun k=>k=W.heap.size) K W8:=by
   have a2:=((M.out.trans m.out (fun _ _ z=>z)).trans L.out.2.1 (fun _ _ z=>z)).fresh S.out (by omega);exact(a2.mono (fun _ _ e=>e.elim)).trans c6.out (fun _ _ e=>e)
  have J:KTo R B eb o2 g y (N+1206) K:=KTo.mono ⟨o3,s.out.1,s.out.2.1,s.out.2.2.1⟩ (by omega);exact(J.comp b.out.2.1 b.out.2.2.1).junk a.out.2.1 hn (fun k e=>by subst e;omega) a.out.2.2.2 a3
 ·have b0:(oX x i k l t !=0)=true:=by simp[E]
  have b:=bY (aHj P O g2);have b6:=bY n;have HD:Hid (qW x i k l t=fI x i k l t):=if_pos E;have HE:Hid (jH x i k l t=zEv):=if_pos E;clear P O g2 n E;refine bY ?_;go_wp2_with (first|(refine cD rfl 70 _ _ rfl W.heap.size 0 70 _ _ (evL zEv) rfl rfl b6.out (by kernel_rfl) (by simp[Value.oneCell']) (by simp) rfl ?_;intro K a0 b1 a4;have b4:=bY a0;have c0:=bY a4;clear a0 b1 a4;refine cB ?_));refine bY ?_;go_wp2_with fail;rw[HE.out,HD.out];refine bodyPost_ret (yY _ results27 _ W.heap.size zEv _ rfl c0.out) rfl ⟨rfl,?_⟩;have z1:=a.out.2.2.1;have J:KTo W1 B eb own g (fI x i k l t) (N+1206) R:=KTo.mono ⟨o2,b.out.1,b.out.2.1,b.out.2.2⟩ (by omega);exact J.junk a.out.2.1 b4.out (fun k e=>by subst e;omega) a.out.2.2.2 a3
def cfH:Cf:=⟨1,2,3,3,0,3,400⟩
def hx0:Mo:=kN cfH
def hx1:Mo:=qW hx0 0 1 2 10
def hx2:Mo:=qW hx1 1 1 2 5
def hx3:Mo:=qW hx2 1 4 2 0
def hx4:Mo:=qW hx3 0 2 2 7
def hx5:Mo:=qW hx4 0 3 2 0
def isE(e:Ev)(res own tok:Int):Bool:=e.res==res&&e.own==own&&e.tok==tok
def aGv:Bool:=isE (jH hx0 0 1 2 10) 1 1 256&&tQ hx1 0 2&&isE (jH hx1 1 1 2 5) 2 1 256&&isE (jH hx2 1 4 2 0) 4 1 256&&isE (jH hx3 0 2 2 7) 1 1 256&&isE (jH hx4 0 3 2 0) 1 1 256&& !(tQ hx5 0 2)&&isE (jH hx5 1 1 2 5) 1 2 1281
theorem aCC:aGv=true:=by decide+kernel
theorem tV{e:Ev}{r o t:Int}(h:isE e r o t=true):e.res=r∧e.own=o∧e.tok=t:=by
 unfold isE at h;simpa[and_assoc]using h
structure St where
 kind:Int
 x:Int
 y:Int
 z:Int
def pP(x:Mo)(o:St):Int:=if 3≤o.kind∧o.kind≤5∧0<x.net.length then cI o.x x.net.length else -1
def eN(c:Cf)(x:Mo)(a:Int→Int→Int)(d:Int→Bool)(o:St):Mo:=
 if o.kind=1 then fI x (cI o.x c.clients) (1+cI o.y 4) (cI (o.y.tdiv 4) 4) (1+cI o.z 30)
 else if o.kind=2 then mW c x a d (cI o.x c.clients)
 else if o.kind=3 then fA x (pP x o)
 else if o.kind=4 then eI x (pP x o)
 else if o.kind=5 then kI x (pP x o)
 else if o.kind=6 then kQ x (cI o.x (2*c.f+1)) (cI o.y 9) (cI o.z 30)
 else if o.kind=7 then jB x (cI o.x (2*c.f+1))
 else if o.kind=8 then jX x (cI o.x c.clients)
 else if o.kind=9 then gR x (cI o.x c.clients)
 else if o.kind=10 then gV 300 x else x
def fK(c:Cf)(x:Mo)(a:Int→Int→Int)(d:Int→Bool)(o:St):Int→Int→Int:=
 if o.kind=2 then nR c x a d (cI o.x c.clients)
 else if o.kind=8∧jO x (cI o.x c.clients)=0∨o.kind=9∧gD x (cI o.x c.clients)=0 then iD a (cI o.x c.clients)else a
def fH(c:Cf)(x:Mo)(d:Int→Bool)(o:St):Int→Bool:=
 if o.kind=8∧jO x (cI o.x c.clients)=0 then fun p=>if p=cI o.x c.clients then true else d p
 else if o.kind=9∧gD x (cI o.x c.clients)=0 then fun p=>if p=cI o.x c.clients then false else d p else d
structure KF(W:World)(B:Nat)(eb:Addr)(b:Nat)(own:Nat→Nat)(g:Nat)(c:Cf)(x:Mo)(a:Int→Int→Int)(d:Int→Bool)(N M:Int):Prop where
 kw:KW W B eb own g x N
 fl:FlB W b c g a d
 ob:own b=0
 bB:B≤b
 cf:x.cf=c
 ab:∀p q,0≤a p q∧a p q≤M
def KFTo(W:World)(B:Nat)(eb:Addr)(b:Nat)(own:Nat→Nat)(g:Nat)(c:Cf)(x:Mo)(a:Int→Int→Int)(d:Int→Bool)(N M:Int)(W':World):Prop:=
 ∃own',KF W' B eb b own' g c x a d N M∧Chg (fun k=>k=b∨own k≠0) W W'∧∀k,own' k≠0→own k≠0∨W.heap.size≤k
section
variable {W W' W1:World}{B:Nat}{eb:Addr}{b:Nat}{own:Nat→Nat}{g:Nat}{c:Cf}{x x':Mo}{a a':Int→Int→Int}{d d':Int→Bool}{N N' M M':Int}
theorem KF.flw(h:KF W B eb b own g c x a d N M):FlW W b own g c x a d:=⟨h.fl,h.kw.mo,h.ob⟩
theorem KF.chg0(h:KF W B eb b own g c x a d N M)(hc:Chg NoS W W'):KF W' B eb b own g c x a d N M:=
 ⟨h.kw.chg0 hc,h.fl.of_heap (hc.block _ h.fl.lt (fun e=>e)),h.ob,h.bB,h.cf,h.ab⟩
theorem KF.goF(h:KF W B eb b own g c x a d N M)(hm:FlTo W b own g c x' a' d' W')(hok:MoOk N' x')(hcf:x'.cf=x.cf)(hab:∀p q,0≤a' p q∧a' p q≤M'):KFTo W B eb b own g c x' a' d' N' M' W':=by
 obtain⟨o,f,i,j⟩:=hm;refine⟨o,⟨⟨f.mo,h.kw.gl.kept i (fun k hk=>?_),fun k hk=>?_,hok⟩,f.fl,f.ob,h.bB,hcf.trans h.cf,hab⟩,i,j⟩
 ·rcases hk with e|e
  ·rw[e];exact h.bB
  ·exact h.kw.ow k e
 ·rcases j k hk with e|e
  ·exact h.kw.ow k e
  ·exact bP h.kw.gl.hB e
theorem KF.go(h:KF W B eb b own g c x a d N M)(hm:MoTo W own g x' W')(hok:MoOk N' x')(hcf:x'.cf=x.cf):KFTo W B eb b own g c x' a d N' M W':=h.goF (h.flw.go hm) hok hcf h.ab
theorem KF.goK(h:KF W B eb b own g c x a d N M)(hk:KTo W B eb own g x' N' W')(hcf:x'.cf=x.cf):KFTo W B eb b own g c x' a d N' M W':=by
 obtain⟨o,e,f,i⟩:=hk;exact h.go ⟨o,e.mo,f,i⟩ e.ok hcf
theorem KFTo.mono(h:KFTo W B eb b own g c x a d N M W')(hN:N≤N')(hM:M≤M'):KFTo W B eb b own g c x a d N' M' W':=by
 obtain⟨o,e,f,i⟩:=h;exact⟨o,⟨⟨e.kw.mo,e.kw.gl,e.kw.ow,e.kw.ok.mono hN⟩,e.fl,e.ob,e.bB,e.cf,fun p q=>⟨(e.ab p q).1,Int.le_trans (e.ab p q).2 hM⟩⟩,f,i⟩
theorem KFTo.chg0(h:KFTo W B eb b own g c x a d N M W1)(hc:Chg NoS W1 W'):KFTo W B eb b own g c x a d N M W':=by
 obtain⟨o,f,i,j⟩:=h;exact⟨o,f.chg0 hc,i.trans hc (fun _ _ e=>e.elim),j⟩
theorem KFTo.before{W0:World}(h:KFTo W1 B eb b own g c x a d N M W')(hc:Chg NoS W0 W1):KFTo W0 B eb b own g c x a d N M W':=by
 obtain⟨o,f,i,j⟩:=h;exact⟨o,f,(hc.mono (T:=fun k=>k=b∨own k≠0) (fun _ _ e=>e.elim)).trans i (fun _ _ e=>e),fun k hk=>(j k hk).imp id fun e=>bP hc.size e⟩
theorem KFTo.fleet(h:KFTo W B eb b own g c x a d N M W1)(hb:FlB W' b c g a' d')(hc:Chg (fun k=>k=b) W1 W')(hab:∀p q,0≤a' p q∧a' p q≤M'):KFTo W B eb b own g c x a' d' N M' W':=by
 obtain⟨o,f,i,j⟩:=h;exact⟨o,⟨f.kw.kept hc (fun k hk e=>by subst e;exact hk f.ob) (fun k e=>by rw[e];exact f.bB),hb,f.ob,f.bB,f.cf,hab⟩,i.trans hc (fun k _ e=>Or.inl e),j⟩
theorem KFTo.trans(h:KFTo W B eb b own g c x a d N M W1)(k:∀own',KF W1 B eb b own' g c x a d N M→KFTo W1 B eb b own' g c x' a' d' N' M' W'):KFTo W B eb b own g c x' a' d' N' M' W':=by
 obtain⟨r,o,i,j⟩:=h;obtain⟨p,l,m,n⟩:=k r o;refine⟨p,l,i.trans m (fun q hq f=>?_),fun q hq=>?_⟩
 ·rcases f with f|f
  ·exact Or.inl f
  ·rcases j q f with e|e
   ·exact Or.inr e
   ·omega
 ·rcases n q hq with e|e
  ·exact j q e
  ·right;have:=i.size;omega
end
section
variable (x:Mo)
theorem aAU(i k l t:Int):(fI x i k l t).cf=x.cf:=by unfold fI;split<;>rfl
theorem aCJ(i:Int):(jQ x i).cf=x.cf:=by unfold jQ;split<;>rfl
theorem aCD(i:Int):(jX x i).cf=x.cf:=by unfold jX;split<;>rfl
theorem yZ(i:Int):(gR x i).cf=x.cf:=by unfold gR;split<;>rfl
theorem sI(i:Int):(eI x i).cf=x.cf:=by unfold eI;split<;>rfl
theorem aAu(i:Int):(kI x i).cf=x.cf:=by unfold kI;split<;>rfl
theorem aCO(i n q:Int):(kQ x i n q).cf=x.cf:=by unfold kQ;split<;>rfl
theorem aBw(i:Int):(jB x i).cf=x.cf:=by unfold jB;split<;>rfl
theorem mG(i:Int):(fA x i).cf=x.cf:=by
 unfold fA;split
 ·split
  ·exact(aEK _ _ _ _).trans (sI x i)
  ·exact(aEN _ _ _ _).trans (sI x i)
 ·rfl
end
theorem zI:∀(n:Nat) (x:Mo),(gV n x).cf=x.cf
 |0,x=>rfl
 |n+1,x=>by
  unfold gV;split
  ·rfl
  ·exact(zI n _).trans (mG x 0)
structure mN(o:St):Prop where
 x1: -9223372036854775808≤o.x
 x2:o.x≤9223372036854775807
 y1: -9223372036854775808≤o.y
 y2:o.y≤9223372036854775807
 z1: -9223372036854775808≤o.z
 z2:o.z≤9223372036854775807
theorem aEB(c:Cf)(x:Mo)(a:Int→Int→Int)(d:Int→Bool)(i:Int):(mW c x a d i).cf=x.cf:=by
 unfold mW;split
 ·rfl
 ·exact aCJ x i
theorem aFk{N:Int}{x:Mo}(h:MoOk N x)(c:Cf)(a:Int→Int→Int)(d:Int→Bool)(i:Int):MoOk (N+6) (mW c x a d i):=by
 unfold mW;split
 ·exact h.mono (by omega)
 ·exact h.tick i
theorem aFo{c:Cf}{a:Int→Int→Int}{M:Int}(l1:1≤c.clients)(l2:c.clients≤4)(hd:0≤c.drift)(h:∀p q,0≤a p q∧a p q≤M)(x:Mo)(d:Int→Bool)(i:Int):∀p q,0≤nR c x a d i p q∧nR c x a d i p q≤M+10:=fun p q=>by
 have h1:=h p q;have h2:=h p i;have h3:=h i q;unfold nR;split
 ·omega
 ·split
  ·omega
  ·unfold jE;split
   ·omega
   ·split<;>omega
theorem aG3{y:Int}(h1: -9223372036854775808≤y)(h2:y≤9223372036854775807): -9223372036854775808≤y.tdiv 4∧y.tdiv 4≤9223372036854775807:=by
 by_cases h:0≤y
 ·rw[Int.tdiv_eq_ediv_of_nonneg h];omega
 ·have e:y.tdiv 4= -((-y).tdiv 4):=by rw[Int.neg_tdiv,Int.neg_neg]
  rw[e,Int.tdiv_eq_ediv_of_nonneg (by omega)];omega
end Go.Proofs.YtbbdgokdfhdpiaaGreatDoor
