/- A part of the proof: PMor7, PMor8, KpSet, KpDo, KpHdM, KpSt. -/
import Derived.Test.YtbbdgokdfhdpiaaGreatDoorD20
import Derived.Test.YtbbdgokdfhdpiaaGreatDoorD22
namespace Go.Proofs.YtbbdgokdfhdpiaaGreatDoor
set_option linter.all false
set_option maxRecDepth 100000
set_option maxHeartbeats 40000000
open Go.Proofs.Tryz Go.RowKit
theorem MOk.vl{f:Cf}{m:Mg}(h:MOk f m):aAL m.val:=⟨h.v.t1,h.v.t2,h.v.s1,h.v.s2⟩
theorem aHb(a:Ac)(m:Mg):(iW a m).1.num=a.num:=by
 have b:∀r,(fY a r).1.num=a.num:=fun r=>by unfold fY;split<;>rfl
 unfold iW;dsimp only;split
 ·have h:=b (fA m (rY a m.lock));cases he:fY a (fA m (rY a m.lock))with
  |mk a1 hw=>
   rw[he]at h;cases hw using lS with
   |fine=>
    dsimp only at h⊢;split
    ·exact h
    ·exact h
   |full=>exact h
   |dies q=>exact h
 ·rfl
theorem aCY{x:Mo}{N:Int}(hok:MoOk N x)(hN:N≤90000000000){i:Int}(hi:dL i x.cls.length=true){m:Mg}(hm:MOk x.cf m){W:World}{F G:Nat→Prop}{b g:Nat}{av cv:Value}{net:List Mg}(hnl:(net.length:Int)≤90000000000)(hs:Sys W F G b g x.cf av cv (clM x i) net x.tr):
 Calls prog 86 #[.pointer (some ⟨b,0,none⟩),mgV m] W fun r W'=>r= .returned (.tuple #[])∧After W F G b g x.cf av cv (gS x.cf (clM x i) m) (net++cJ (gT x.cf (clM x i) m)) (x.tr++gT x.cf (clM x i) m) W':=by
 have a:=dO hok.conf;obtain⟨c,d⟩:=hok.cl hi;have e:=hok.tl;exact aFs W F G b g x.cf av cv (clM x i) net x.tr m hs a.1.1 a.1.2 a.2.2.2.2.1.1 a.2.2.2.2.1.2 (zK hok hi hN) hm.vl hm.e1 hm.e2 (by have:=hm.k1;omega)
  (fun o ho=>by
   have q:=c.on o ho;refine⟨⟨q.g1,by have:=q.g2;omega,q.t1,q.t2,q.r1,by have:=q.r2;omega,q.a1,by have:=q.a2;omega⟩,⟨q.v.t1,q.v.t2,q.v.s1,q.v.s2⟩,by have:=q.mine;omega,by have:=q.ans;omega⟩)
  (fun l=>by have:=c.core.w l;omega) (by omega) (by omega)
theorem sE{x:Mo}{N:Int}(hok:MoOk N x)(hN:N≤90000000000){i:Int}(hi:dL i x.acs.length=true){m:Mg}(hm:MOk x.cf m)(hA:m.kind=1∨m.kind=3){W:World}{F G:Nat→Prop}{B:Nat}{eb:Addr}{b g:Nat}{av cv:Value}{net:List Mg}(hnl:(net.length:Int)≤90000000000)(hs:ASys W F G b g av cv (acM x i) net x.tr)(hgl:GlAt W B eb)(hFB:∀k,F k→B≤k)(hGB:∀k,G k→B≤k):
 Calls prog 85 #[.pointer (some ⟨b,0,none⟩),mgV m] W fun e W'=>e= .returned (.int .i64 (tB (acM x i) m))∧AfterA W F G b g av cv (jJ (acM x i) m) (net++cJ (lG (acM x i) m)) (x.tr++lG (acM x i) m) W':=by
 have c:=dO hok.conf;obtain⟨a,d,j⟩:=hok.ac hi;have s:=hok.tl;have p:=c.2.2.2.2.2.2.2;have l:=a.dk.len;refine aFW W F G B eb b g av cv (acM x i) net x.tr m hs hgl hFB hGB (a.acOk j c.2.2.2.2.2.1.1 c.2.2.2.2.2.1.2 p) (by omega) (fun h=>a.new (by omega)) a.dk.old (fun hst q hq=>?_) (aHb _ _) (fun hst=>bU (aBq a hst d hm hA).2.2 (by decide)) hm.l1 hm.l2 (by omega) (by omega)
 ·have f:=(aBq a hst d hm hA).1;unfold HowOk at f;dsimp only at f;rw[hq]at f;obtain⟨n,⟨r,o,t⟩,_⟩:=f;exact⟨⟨r,o,by omega⟩,n⟩
theorem uJ(W:World)(own:Nat→Nat)(g B:Nat)(eb:Addr)(x:Mo)(N i:Int)(h:Moor W own g x)(hgl:GlAt W B eb)(hB:∀k,own k≠0→B≤k)(hok:MoOk N x)(hN:N≤80000000000):
 Calls prog 39 #[.pointer (some ⟨g,0,none⟩),.int .i64 i] W fun r W'=>r= .returned (.int .i64 (kX x i))∧MoTo W own g (fG x i) W':=by
 have HM:=cB h;have d7:=cB hok;obtain⟨av,cv,bA,bC,h⟩:=h;obtain⟨nv,tv,hb,R,c5,b9,b5,b6⟩:=h.cells;obtain⟨p,c6,rfl⟩:=rQ R;have c2:W.cell? ⟨g,2,none⟩=some (.slice p x.net.length c6):=cC hb 2 _ rfl;have c8:=hok.nl;have HI:=cB (nJ W g i p x.net.length c6 (by omega) c2);unfold kX fG;by_cases O:dL i x.net.length=true
 ·rw[if_pos O,if_pos O];have b8:=hok.msg O;have a3:=hok.drop i;have d2:eN x i={x with net:=x.net.eraseIdx i.toNat}:=by unfold eN;rw[if_pos O]
  rw[d2]at a3⊢;rw[O]at HI;obtain⟨h0,h1⟩:=(dK _ _).1 O;obtain⟨a0,em⟩:=qZ O;obtain⟨j,rfl⟩:∃j:Nat,i=j:=⟨i.toNat,by omega⟩;have hj:j<x.net.length:=by omega
  have ej:((j:Int).toNat)=j:=by omega
  rw[ej]at a3⊢;have c3:kC x (j:Int)=x.net[j]'hj:=em;have a5:=R;rcases R.2 with⟨e,e0⟩|⟨k,d5,d6,e,hr⟩
  ·omega
  ·cases e;have b0:=aHk hj a5;rw[←c3]at b0;generalize hm:kC x (j:Int)=m at*;have HC:=cB b0;have d4:=cB (aA W (.cells (mgL m).toArray 66));have a4:Chg NoS W (W.alloc (.cells (mgL m).toArray 66)):=(Chg.refl _ _).alloc _;have c1:(W.alloc (.cells (mgL m).toArray 66)).heap.size=W.heap.size+1:=by simp
   have a7:=hgl.kept a4 (fun _ h=>h.elim);have c7:=HM.out.kept a4 (fun _ _ h=>h);generalize b4:W.alloc (.cells (mgL m).toArray 66)=W1 at*;have a9:Hid (W.alloc (.cells #[.int .i64 m.kind,.int .i64 m.src,.int .i64 m.dst,.int .i64 m.lock,.int .i64 m.bal,.int .i64 m.base,.int .i64 m.val.own,.int .i64 m.val.tok,.int .i64 m.val.ttl,.int .i64 m.val.seq] 66)=W1):=b4;have HR:=cB (aAm W1 own g x N j c7 hok (by omega) hj);have d3:=cB (aJX c1 a4 a7);have D:=cB b8;have b1:=cB a3;have HB:=cB (aJW hB HM.out.lt);have HG:=cB c8;have HZ:Hid (∀n,MoTo W1 own g {x with net:=x.net.eraseIdx j} n→∃a,Moor n a g {x with net:=x.net.eraseIdx j}∧Chg (fun k=>own k≠0) W n∧(∀k,a k≠0→own k≠0∨W.heap.size≤k)∧n.heap[W.heap.size]?=some (.cells (mgL m).toArray 66 (0,0))∧GlAt n B eb∧(∀k,a k≠0→B≤k)):=by
    rintro n ⟨a,C,u,z⟩;have hh:=d3.out;have d8:=hh.2.2.hB;refine⟨a,C,(hh.2.1.mono (fun _ _ h=>h.elim)).trans u (fun k _ h=>h),fun k hk=>?_,u.kept d4.out (fun h=>by have:=HB.out.2 _ h;omega),hh.2.2.kept u (fun k hk=>HB.out.1 k hk),fun k hk=>?_⟩
    ·rcases z k hk with h|h
     ·exact Or.inl h
     ·right;omega
    ·rcases z k hk with h|h
     ·exact HB.out.1 k h
     ·omega
   have hA:∀(P:Prop),(jD m=true→(m.kind=1∨m.kind=3)):=fun _ h=>by simpa[jD]using h
   clear b0 hb R c5 b9 b5 b6 h hok O a0 hr a5 em c3 hm b4 a4 c1 a7 c7 b8 a3 hj hgl hB c8 d2 h0;by_cases J:m.kind=1
   ·have e1:(m.kind==1)=true:=by simp[J]
    have Q:jD m=true:=by simp[jD,J]
    rw[if_pos Q,if_pos Q];have M:m.kind=1∨m.kind=3:=Or.inl J;clear J hA Q;go_enter func39,ntmps39;go_wp2_with (first|rw[a9.out]|(go_at_call 83;refine HI.out.mono ?_;rintro e w' ⟨rfl,hW⟩;have X:=hW.symm;subst X;clear hW)|(refine cI rfl 66 _ rfl ⟨k,j*10,none⟩ rfl (mgL m) _ HC.out underlying66 rfl (by kernel_rfl) ?_)|(go_at_call 84;refine HR.out.mono ?_;rintro e n ⟨rfl,F⟩;refine cE ?_));refine cB ?_;obtain⟨a,U,u,z,b,A,E⟩:=HZ.out n F;obtain⟨a8,a1,a2,b2,C⟩:=U;obtain⟨b7,b3,I,_⟩:=C.cells;obtain⟨p2,s,rfl,o⟩:=mD C.rav;have l:=b1.out;have w:dL m.dst x.acs.length=true:=(dK _ _).2 ⟨D.out.d1,by have h1:=l.na;have C:=(D.out.toA M).2;have h3:x.acs.length=gB x.cf:=h1;rw[h3];unfold gB;omega⟩;have d:dL m.dst ({x with net:=x.net.eraseIdx j}:Mo).acs.length=true:=w;obtain⟨Z,eq⟩:=pV d;obtain⟨d0,d1⟩:=(dK _ _).1 w;have y:m.dst=((m.dst.toNat:Nat):Int):=by omega
    have c:m.dst.toNat<x.acs.length:=by omega
    obtain⟨k2,rfl,ck⟩:=o m.dst.toNat c;have c0:n.cell? ⟨g,0,none⟩=some (.slice (some ⟨k2,0,none⟩) x.acs.length s):=cC I 0 _ rfl;have cd:n.cell? ⟨W.heap.size,2,none⟩=some (.int .i64 m.dst):=cC b 2 _ rfl;have c9:n.cell? ⟨W.heap.size,0,none⟩=some (.int .i64 m.kind):=cC b 0 _ rfl;have ed:m.dst.toNat=m.dst.toNat:=rfl;have t:=(C.drew).asys m.dst.toNat c;have G:acM {x with net:=x.net.eraseIdx j} m.dst=x.acs[m.dst.toNat]'c:=eq;have f:ASys n.drew (fun k=>a k=3+2*m.dst.toNat) (fun k=>a k=1) (a2 m.dst.toNat) g (.slice (some ⟨k2,0,none⟩) x.acs.length s) a1 (acM {x with net:=x.net.eraseIdx j} m.dst) (x.net.eraseIdx j) x.tr:=by rw[G];exact t
    have HT:=cB (sE (N:=N) l (by omega) d D.out M (by have:=l.nl;exact Int.le_trans this (by omega)) f (A.kept (S:=NoS) (Chg.refl _ _).drew (fun _ h=>h.elim)) (fun q Z=>E q (by omega)) (fun q Z=>E q (by omega)));have HL:=cB (cF (cs:=mgL m) (W:=n.drew) b);have H2:=cB C;have H:=cB (aJW u z);have hx1:(m.dst.toNat:Int)<(x.acs.length:Int):=by omega
    have V:=cB c;clear F u z A E o l w d Z eq G t f C c I;generalize Y:m.dst.toNat=jd at*;have c4:(0:Int)≤(jd:Int):=by omega
    rw[y]at cd;have a6:=cB b;have T:=cB y;clear b y d0 d1 ed Y;go_wp2_with fail;refine dJ [0,0,0,1,0,1,0,1,1] (by kernel_rfl) (fun _ _ _ _=>rfl) ?_;simp only[cL,cK];iterate 8 (apply sB rfl rfl;·(intro x h;(try cases h rfl);go_simp;with_reducible rfl))
    try simp only[pA]
    refine cM (v:=mgV m) rfl (fun x hx=>cG 66 _ rfl ⟨W.heap.size,0,none⟩ rfl (mgL m) _ (by subst hx;exact HL.out) underlying66 rfl (by kernel_rfl)) ?_;refine cD ?_;(try simp only[pA]);go_wp2_with (go_at_call 85;refine HT.out.mono ?_;rintro r W5 ⟨rfl,k1⟩);go_ret;refine⟨rfl,?_⟩;have K:=H2.out.drew.acceptorTo jd V.out k1;refine MoTo.trans (own1:=a) H.out.1 H.out.2 (MoTo.drew ?_);have e:(m.dst).toNat=jd:=by have:=T.out;omega
    unfold kB;rw[e];exact K
   ·have e1:(m.kind==1)=false:=by simp[J]
    by_cases L:m.kind=3
    ·have e3:(m.kind==3)=true:=by simp[L]
     have Q:jD m=true:=by simp[jD,L]
     rw[if_pos Q,if_pos Q];have M:m.kind=1∨m.kind=3:=Or.inr L;clear J hA Q L;go_enter func39,ntmps39;go_wp2_with (first|rw[a9.out]|(go_at_call 83;refine HI.out.mono ?_;rintro e w' ⟨rfl,hW⟩;have X:=hW.symm;subst X;clear hW)|(refine cI rfl 66 _ rfl ⟨k,j*10,none⟩ rfl (mgL m) _ HC.out underlying66 rfl (by kernel_rfl) ?_)|(go_at_call 84;refine HR.out.mono ?_;rintro e n ⟨rfl,F⟩;refine cE ?_));refine cB ?_;obtain⟨a,U,u,z,b,A,E⟩:=HZ.out n F;obtain⟨a8,a1,a2,b2,C⟩:=U;obtain⟨b7,b3,I,_⟩:=C.cells;obtain⟨p2,s,rfl,o⟩:=mD C.rav;have l:=b1.out;have w:dL m.dst x.acs.length=true:=(dK _ _).2 ⟨D.out.d1,by have h1:=l.na;have C:=(D.out.toA M).2;have h3:x.acs.length=gB x.cf:=h1;rw[h3];unfold gB;omega⟩;have d:dL m.dst ({x with net:=x.net.eraseIdx j}:Mo).acs.length=true:=w;obtain⟨Z,eq⟩:=pV d;obtain⟨d0,d1⟩:=(dK _ _).1 w;have y:m.dst=((m.dst.toNat:Nat):Int):=by omega
     have c:m.dst.toNat<x.acs.length:=by omega
     obtain⟨k2,rfl,ck⟩:=o m.dst.toNat c;have c0:n.cell? ⟨g,0,none⟩=some (.slice (some ⟨k2,0,none⟩) x.acs.length s):=cC I 0 _ rfl;have cd:n.cell? ⟨W.heap.size,2,none⟩=some (.int .i64 m.dst):=cC b 2 _ rfl;have c9:n.cell? ⟨W.heap.size,0,none⟩=some (.int .i64 m.kind):=cC b 0 _ rfl;have ed:m.dst.toNat=m.dst.toNat:=rfl;have t:=(C.drew).asys m.dst.toNat c;have G:acM {x with net:=x.net.eraseIdx j} m.dst=x.acs[m.dst.toNat]'c:=eq;have f:ASys n.drew (fun k=>a k=3+2*m.dst.toNat) (fun k=>a k=1) (a2 m.dst.toNat) g (.slice (some ⟨k2,0,none⟩) x.acs.length s) a1 (acM {x with net:=x.net.eraseIdx j} m.dst) (x.net.eraseIdx j) x.tr:=by rw[G];exact t
     have HT:=cB (sE (N:=N) l (by omega) d D.out M (by have:=l.nl;exact Int.le_trans this (by omega)) f (A.kept (S:=NoS) (Chg.refl _ _).drew (fun _ h=>h.elim)) (fun q Z=>E q (by omega)) (fun q Z=>E q (by omega)));have HL:=cB (cF (cs:=mgL m) (W:=n.drew) b);have H2:=cB C;have H:=cB (aJW u z);have hx1:(m.dst.toNat:Int)<(x.acs.length:Int):=by omega
     have V:=cB c;clear F u z A E o l w d Z eq G t f C c I;generalize Y:m.dst.toNat=jd at*;have c4:(0:Int)≤(jd:Int):=by omega
     rw[y]at cd;have a6:=cB b;have T:=cB y;clear b y d0 d1 ed Y;go_wp2_with fail;refine dJ [0,0,0,1,0,1,0,1,1] (by kernel_rfl) (fun _ _ _ _=>rfl) ?_;simp only[cL,cK];iterate 8 (apply sB rfl rfl;·(intro x h;(try cases h rfl);go_simp;with_reducible rfl))
     try simp only[pA]
     refine cM (v:=mgV m) rfl (fun x hx=>cG 66 _ rfl ⟨W.heap.size,0,none⟩ rfl (mgL m) _ (by subst hx;exact HL.out) underlying66 rfl (by kernel_rfl)) ?_;refine cD ?_;(try simp only[pA]);go_wp2_with (go_at_call 85;refine HT.out.mono ?_;rintro r W5 ⟨rfl,k1⟩);go_ret;refine⟨rfl,?_⟩;have K:=H2.out.drew.acceptorTo jd V.out k1;refine MoTo.trans (own1:=a) H.out.1 H.out.2 (MoTo.drew ?_);have e:(m.dst).toNat=jd:=by have:=T.out;omega
     unfold kB;rw[e];exact K
    ·have e3:(m.kind==3)=false:=by simp[L]
     have Q:¬jD m=true:=by simp[jD,J,L]
     rw[if_neg Q,if_neg Q];have M:¬(m.kind=1∨m.kind=3):=by omega
     clear J hA Q L;go_enter func39,ntmps39;go_wp2_with (first|rw[a9.out]|(go_at_call 83;refine HI.out.mono ?_;rintro e w' ⟨rfl,hW⟩;have X:=hW.symm;subst X;clear hW)|(refine cI rfl 66 _ rfl ⟨k,j*10,none⟩ rfl (mgL m) _ HC.out underlying66 rfl (by kernel_rfl) ?_)|(go_at_call 84;refine HR.out.mono ?_;rintro e n ⟨rfl,F⟩;refine cE ?_));refine cB ?_;obtain⟨a,U,u,z,b,A,E⟩:=HZ.out n F;obtain⟨a8,a1,a2,b2,C⟩:=U;obtain⟨b7,b3,I,_⟩:=C.cells;obtain⟨p2,s,rfl,o⟩:=mD C.rcv;have l:=b1.out;have w:dL m.dst x.cls.length=true:=(dK _ _).2 ⟨D.out.d1,by have h1:=l.nc;have C:=(D.out.toC M).2;have h3:x.cls.length=x.cf.clients.toNat:=h1;rw[h3];omega⟩;have d:dL m.dst ({x with net:=x.net.eraseIdx j}:Mo).cls.length=true:=w;obtain⟨Z,eq⟩:=oI d;obtain⟨d0,d1⟩:=(dK _ _).1 w;have y:m.dst=((m.dst.toNat:Nat):Int):=by omega
     have c:m.dst.toNat<x.cls.length:=by omega
     obtain⟨k2,rfl,ck⟩:=o m.dst.toNat c;have c0:n.cell? ⟨g,1,none⟩=some (.slice (some ⟨k2,0,none⟩) x.cls.length s):=cC I 1 _ rfl;have cd:n.cell? ⟨W.heap.size,2,none⟩=some (.int .i64 m.dst):=cC b 2 _ rfl;have c9:n.cell? ⟨W.heap.size,0,none⟩=some (.int .i64 m.kind):=cC b 0 _ rfl;have ed:m.dst.toNat=m.dst.toNat:=rfl;have t:=(C.drew).sys m.dst.toNat c;have G:clM {x with net:=x.net.eraseIdx j} m.dst=x.cls[m.dst.toNat]'c:=eq;have f:Sys n.drew (fun k=>a k=4+2*m.dst.toNat) (fun k=>a k=1) (b2 m.dst.toNat) g x.cf a8 (.slice (some ⟨k2,0,none⟩) x.cls.length s) (clM {x with net:=x.net.eraseIdx j} m.dst) (x.net.eraseIdx j) x.tr:=by rw[G];exact t
     have HT:=cB (aCY (N:=N) l (by omega) d D.out (by have:=l.nl;exact Int.le_trans this (by omega)) f);have HL:=cB (cF (cs:=mgL m) (W:=n.drew) b);have H2:=cB C;have H:=cB (aJW u z);have hx1:(m.dst.toNat:Int)<(x.cls.length:Int):=by omega
     have V:=cB c;clear F u z A E o l w d Z eq G t f C c I;generalize Y:m.dst.toNat=jd at*;have c4:(0:Int)≤(jd:Int):=by omega
     rw[y]at cd;have a6:=cB b;have T:=cB y;clear b y d0 d1 ed Y;go_wp2_with fail;refine dJ [0,0,0,1,0,1,0,1,1] (by kernel_rfl) (fun _ _ _ _=>rfl) ?_;simp only[cL,cK];iterate 8 (apply sB rfl rfl;·(intro x h;(try cases h rfl);go_simp;with_reducible rfl))
     try simp only[pA]
     refine cM (v:=mgV m) rfl (fun x hx=>cG 66 _ rfl ⟨W.heap.size,0,none⟩ rfl (mgL m) _ (by subst hx;exact HL.out) underlying66 rfl (by kernel_rfl)) ?_;refine cD ?_;(try simp only[pA]);go_wp2_with (go_at_call 86;refine HT.out.mono ?_;rintro r W5 ⟨rfl,k1⟩);go_ret;refine⟨rfl,?_⟩;have K:=H2.out.drew.clientTo jd V.out k1;refine MoTo.trans (own1:=a) H.out.1 H.out.2 (MoTo.drew ?_);have e:(m.dst).toNat=jd:=by have:=T.out;omega
     unfold iG;rw[e];exact K
 ·rw[if_neg O,if_neg O];have a0:dL i x.net.length=false:=by simpa using O
  rw[a0]at HI;clear hb R c5 b9 b5 b6 h hok O a0;go_enter func39,ntmps39;go_wp2_with (go_at_call 83;refine HI.out.mono ?_;rintro e w' ⟨rfl,rfl⟩);go_ret;exact⟨rfl,MoTo.of HM.out⟩
structure KW(W:World)(B:Nat)(eb:Addr)(own:Nat→Nat)(g:Nat)(x:Mo)(N:Int):Prop where
 mo:Moor W own g x
 gl:GlAt W B eb
 ow:∀k,own k≠0→B≤k
 ok:MoOk N x
def KTo(W:World)(B:Nat)(eb:Addr)(own:Nat→Nat)(g:Nat)(x:Mo)(N:Int)(W':World):Prop:=∃own',KW W' B eb own' g x N∧Chg (fun k=>own k≠0) W W'∧∀k,own' k≠0→own k≠0∨W.heap.size≤k
section
variable {W W':World}{B:Nat}{eb:Addr}{own:Nat→Nat}{g:Nat}{x x':Mo}{N N':Int}
theorem KW.go(h:KW W B eb own g x N)(hm:MoTo W own g x' W')(hok:MoOk N' x'):KTo W B eb own g x' N' W':=by
 obtain⟨a,d,b,c⟩:=hm;refine⟨a,⟨d,h.gl.kept b h.ow,fun k hk=>?_,hok⟩,b,c⟩;rcases c k hk with e|e
 ·exact h.ow k e
 ·exact bU h.gl.hB e
theorem KTo.refl(h:KW W B eb own g x N):KTo W B eb own g x N W:=⟨own,h,Chg.refl _ _,fun _ h=>Or.inl h⟩
theorem KTo.trans(h:KTo W B eb own g x N W'){W'':World}(k:∀own',KW W' B eb own' g x N→KTo W' B eb own' g x' N' W''):KTo W B eb own g x' N' W'':=by
 obtain⟨l,i,a,b⟩:=h;obtain⟨j,c,d,f⟩:=k l i;refine⟨j,c,a.trans d (fun q hq h'=>?_),fun q hq=>?_⟩
 ·rcases b q h' with e|e
  ·exact e
  ·omega
 ·rcases f q hq with e|e
  ·exact b q e
  ·right;have:=a.size;omega
theorem KTo.step{y y':Mo}{N2:Int}{wr W1:World}{o':Nat→Nat}(hw:KW wr B eb o' g y N)(hc:Chg (fun k=>own k≠0) W wr)(hg:∀k,o' k≠0→own k≠0∨W.heap.size≤k)(hq:MoTo wr o' g y' W1)(hok:MoOk N2 y'):KTo W B eb own g y' N2 W1:=by
 obtain⟨d,a,b,c⟩:=hw.go hq hok;refine⟨d,a,hc.trans b (fun q hq h'=>?_),fun q hq=>?_⟩
 ·rcases hg q h' with e|e
  ·exact e
  ·omega
 ·rcases c q hq with e|e
  ·exact hg q e
  ·right;have:=hc.size;omega
theorem KW.kept(h:KW W B eb own g x N){S:Nat→Prop}(hc:Chg S W W')(hn:∀k,own k≠0→¬S k)(hS:∀k,S k→B≤k):KW W' B eb own g x N:=⟨h.mo.kept hc hn,h.gl.kept hc hS,h.ow,h.ok⟩
theorem KW.chg0(h:KW W B eb own g x N)(hc:Chg NoS W W'):KW W' B eb own g x N:=h.kept hc (fun _ _ e=>e) (fun _ e=>e.elim)
theorem KTo.chg0(h:KTo W B eb own g x N W'){W'':World}(hc:Chg NoS W' W''):KTo W B eb own g x N W'':=by
 obtain⟨o,a,b,c⟩:=h;exact⟨o,a.chg0 hc,b.trans hc (fun _ _ e=>e.elim),c⟩
theorem KTo.comp{o2:Nat→Nat}{W2:World}(c:Chg (fun k=>own k≠0) W W2)(g2:∀k,o2 k≠0→own k≠0∨W.heap.size≤k)(h:KTo W2 B eb o2 g x N W'):KTo W B eb own g x N W':=by
 obtain⟨o,b,a,d⟩:=h;refine⟨o,b,c.trans a (fun q hq h'=>?_),fun q hq=>?_⟩
 ·rcases g2 q h' with e|e
  ·exact e
  ·omega
 ·rcases d q hq with e|e
  ·exact g2 q e
  ·right;have:=c.size;omega
theorem KTo.junk{W1 W3 W8:World}{S:Nat→Prop}(h:KTo W1 B eb own g x N W3)(hc1:Chg NoS W W1)(hc:Chg S W3 W8)(hS:∀k,S k→W.heap.size≤k∧k<W1.heap.size)(ho:∀k,own k≠0→k<W.heap.size)(hB:B≤W.heap.size):KTo W B eb own g x N W8:=by
 obtain⟨o,c,b,a⟩:=h;refine⟨o,c.kept hc (fun k hk hs=>?_) (fun k hs=>bU hB (hS k hs).1),?_,fun k hk=>(a k hk).imp id fun e=>bU hc1.size e⟩
 ·have:=hS k hs;rcases a k hk with e|e
  ·have:=ho k e;omega
  ·omega
 ·refine((hc1.mono (T:=fun k=>own k≠0) (fun _ _ e=>e.elim)).trans b (fun _ _ e=>e)).trans hc (fun k hk hs=>?_);have:=hS k hs;omega
theorem KTo.mono(h:KTo W B eb own g x N W')(hN:N≤N'):KTo W B eb own g x N' W':=by
 obtain⟨o,a,b,c⟩:=h;exact⟨o,⟨a.mo,a.gl,a.ow,a.ok.mono hN⟩,b,c⟩
theorem KTo.before(h:KTo W' B eb own g x N W){W0:World}(hc:Chg NoS W0 W'):KTo W0 B eb own g x N W:=by
 obtain⟨o,a,b,c⟩:=h;exact⟨o,a,hc.mono (fun _ _ e=>e.elim) |>.trans b (fun _ _ e=>e),fun k hk=>(c k hk).imp id fun e=>bU hc.size e⟩
end
def iE:Nat→Mo→Mo
 |0,x=>x
 |n+1,x=>if x.net.length=0 then x else iE n (fG x 0)
theorem aFF(a:Ac)(m:Mg):tB a m≠1:=by
 unfold tB;split
 ·decide
 ·split<;>decide
theorem aBm{x:Mo}(h:x.net.length=0):kX x 0=1:=by
 unfold kX;rw[if_neg (by rw[dK];omega)]
theorem aBB{x:Mo}(h:x.net.length≠0):kX x 0≠1:=by
 unfold kX;rw[if_pos (by rw[dK];omega)];split
 ·exact aFF _ _
 ·decide
theorem yF(W:World)(B:Nat)(eb:Addr)(own:Nat→Nat)(g:Nat)(x:Mo)(N:Int)(most:Nat)(h:KW W B eb own g x N)(hm:(most:Int)≤10000000000)(hN:N+6*most≤80000000000):
 Calls prog 46 #[.pointer (some ⟨g,0,none⟩),.int .i64 (most:Int)] W fun r W'=>r= .returned (.tuple #[])∧KTo W B eb own g (iE most x) (N+6*most) W':=by
 have H:=cB h;clear h;go_enter func46,ntmps46;go_wp2_with fail;go_loopw [4] (fun i wr=>∃k:Nat,k≤most∧i= .int .i64 k∧Hid (∃y,KTo W B eb own g y (N+6*k) wr∧iE most x=iE (most-k) y)) (fun i _=>most-(intOf i).toNat)
 case atStart=>exact⟨0,aI _,rfl,x,KTo.mono (.refl H.out) (by omega),rfl⟩
 case round=>
  obtain⟨k,C,rfl,w⟩:=hrel;obtain⟨y,⟨s,b,m,l⟩,c⟩:=w.out;by_cases A:k<most
  ·have q:(k:Int)<(most:Int):=by omega
   have t:=cB (uJ wr s g B eb y (N+6*k) 0 b.mo b.gl b.ow b.ok (by omega));have a:=cB (aJX b m l);have f:most-k=(most-(k+1))+1:=by omega
   rw[f]at c;by_cases j:y.net.length=0
   ·have u:(kX y 0==1)=true:=by simp[aBm j]
    rw[iE,if_pos j]at c;have n:=cB c;have z:=cB (show fG y 0=y by unfold fG;rw[if_neg (by rw[dK];omega)]);clear b m l c f j;go_wp2_with (go_at_call 39;refine t.out.mono ?_;rintro e v ⟨rfl,d⟩;have o:=cB d;clear d)
    (first|go_end0|((try simp only[Exit.inBlock,Exit.then]);refine bodyPost_ret (results_none rfl _ _ _) rfl ?_))
    have d:=o.out;rw[z.out]at d;rw[n.out];exact⟨rfl,KTo.mono (KTo.step a.out.1 a.out.2.1 a.out.2.2 d a.out.1.ok) (by omega)⟩
   ·have u:(kX y 0==1)=false:=by simp[aBB j]
    rw[iE,if_neg j]at c;have n:=cB c;clear b m l c f j;go_wp2_with (go_at_call 39;refine t.out.mono ?_;rintro e v ⟨rfl,d⟩;have o:=cB d;clear d);go_roundw
    case rel=>
     refine⟨k+1,by omega,by go_num,fG y 0,?_,n.out⟩;exact KTo.mono (KTo.step a.out.1 a.out.2.1 a.out.2.2 o.out (a.out.1.ok.deliver 0)) (by omega)
    case measure=>simp[intOf]<;>omega
  ·have p:k=most:=by omega
   subst p;have q:¬(k:Int)<(k:Int):=by omega
   have n:=cB c;have a:=cB (aJX b m l);clear c b m l;go_wp2_with fail
   (first|go_end0|((try simp only[Exit.inBlock,Exit.then]);refine bodyPost_ret (results_none rfl _ _ _) rfl ?_))
   refine⟨rfl,?_⟩;rw[n.out,Nat.sub_self];exact⟨s,a.out.1,a.out.2.1,a.out.2.2⟩
def sI(x:Mo)(i k l t:Int):Mo:=if qB x i k l t≠0 then fO x i k l t else iE 200 (fO x i k l t)
def jV(x:Mo)(i k l t:Int):Ev:=if qB x i k l t≠0 then zEv else(lU (sI x i k l t).tr i (sI x i k l t).tr.length).1
theorem xC(x:Mo):vR x 0=x.tr:=by
 unfold vR;rw[show(min (max (0:Int) 0) (x.tr.length:Int)).toNat=0 by omega]
 rfl
theorem pK(W:World)(B:Nat)(eb:Addr)(own:Nat→Nat)(g:Nat)(x:Mo)(N:Int)(i k l t:Int)(h:KW W B eb own g x N)(hN:N≤70000000000):
 Calls prog 27 #[.pointer (some ⟨g,0,none⟩),.int .i64 i,.int .i64 k,.int .i64 l,.int .i64 t] W fun r W'=>r= .returned (evV (jV x i k l t))∧KTo W B eb own g (sI x i k l t) (N+1206) W':=by
 have G:=aA W (.cells #[.int .i64 0,.int .i64 0,.int .i64 0,.int .i64 0,.int .i64 0,.int .i64 0,.int .i64 0,.int .i64 0,.int .i64 0,.int .i64 0,.int .i64 0,.int .i64 0,.int .i64 0,.int .i64 0,.int .i64 0,.int .i64 0,.int .i64 0,.int .i64 0,.int .i64 0] 70);have o:Chg NoS W (W.alloc (.cells #[.int .i64 0,.int .i64 0,.int .i64 0,.int .i64 0,.int .i64 0,.int .i64 0,.int .i64 0,.int .i64 0,.int .i64 0,.int .i64 0,.int .i64 0,.int .i64 0,.int .i64 0,.int .i64 0,.int .i64 0,.int .i64 0,.int .i64 0,.int .i64 0,.int .i64 0] 70)):=(Chg.refl _ _).alloc _;have D:∀q,own q≠0→q<W.heap.size:=h.mo.lt;have a3:=h.gl.hB;generalize F:W.alloc (.cells #[.int .i64 0,.int .i64 0,.int .i64 0,.int .i64 0,.int .i64 0,.int .i64 0,.int .i64 0,.int .i64 0,.int .i64 0,.int .i64 0,.int .i64 0,.int .i64 0,.int .i64 0,.int .i64 0,.int .i64 0,.int .i64 0,.int .i64 0,.int .i64 0,.int .i64 0] 70)=W1 at G o;have h1:=h.chg0 o;have b7:=cB F;have A:W1.heap.size=W.heap.size+1:=by rw[←F];simp
 have c4:Hid (W1.heap[W.heap.size]?=some (.cells (evL zEv).toArray 70 (0,0))):=G;have a:=cB (aJY h1 o A D);have HB:=cB (yP W1 own g x N i k l t h1.mo h1.ok (by omega));clear h h1 G F o A D;go_enter func27,ntmps27;go_wp2_with (first|rw[b7.out]|(go_at_call 37;refine HB.out.mono ?_;rintro e R ⟨rfl,w⟩;have HQ:=cB w;clear w;refine cE ?_));have b3:KTo W1 B eb own g (fO x i k l t) (N+6) R:=a.out.1.go HQ.out (a.out.1.ok.begin i k l t);obtain⟨o2,P,O,g2⟩:=b3;have n:R.heap[W.heap.size]?=some (.cells (evL zEv).toArray 70 (0,0)):=(O.block _ (by have:=a.out.2.2.1;omega) (fun e=>by have:=a.out.2.2.2 _ e;omega)).trans c4.out;by_cases E:qB x i k l t=0
 ·have b0:(qB x i k l t !=0)=false:=by simp[E]
  have HS:=cB (yF R B eb o2 g (fO x i k l t) (N+6) 200 P (by decide) (by omega));have b:=cB (aJY P O g2 n);have H0:=cB E;clear P O g2 n E;refine cB ?_;go_wp2_with (go_at_call 46;refine HS.out.mono ?_;rintro e K ⟨rfl,w⟩;have a1:=cB w;clear w;refine cE ?_);obtain⟨o3,Q,c3,g3⟩:=a1.out;have Z:K.heap[W.heap.size]?=some (.cells (evL zEv).toArray 70 (0,0)):=(c3.block _ (by have:=a.out.2.2.1;have:=b.out.2.1.size;omega) (fun e=>by
   rcases b.out.2.2.1 _ e with e|e
   ·have:=a.out.2.2.2 _ e;omega
   ·have:=a.out.2.2.1;omega)).trans b.out.2.2.2
  have HT:=cB (aAo K o3 g (iE 200 (fO x i k l t)) (N+6+6*(200:Nat)) 0 Q.mo Q.ok (by omega));rw[xC]at HT;have c9:=Q.ok.tl;have s:=cB (aJY Q c3 g3 Z);have HD:Hid (sI x i k l t=iE 200 (fO x i k l t)):=if_neg (by rw[H0.out];decide);have HE:Hid (jV x i k l t=(lU (iE 200 (fO x i k l t)).tr i (iE 200 (fO x i k l t)).tr.length).1):=by
   show jV x i k l t=_;unfold jV;rw[if_neg (by rw[H0.out];decide),HD.out]
  generalize iE 200 (fO x i k l t)=y at*;clear Q c3 g3 Z a1 HS;refine cB ?_;go_wp2_with (go_at_call 17;refine HT.out.mono ?_;rintro e W4 ⟨v,rfl,hv,a8⟩;refine cE ?_);obtain⟨p,c8,rfl,hl,_⟩:=LsAt.of_owns (f:=evL) (sz:=19) (fun _=>rfl) hv rfl;have HN:=cB (aE2 W4 p c8 y.tr i hl (by omega));have X:Chg NoS K W4:=Chg.below' a8;have M:=cB X;clear hv a8 X hl;refine cB ?_;go_wp2_with (first|(go_at_call 64;refine HN.out.mono ?_;rintro e c ⟨rfl,w⟩;have m:=cB w;clear w;refine cE ?_));have a6:c.heap[W.heap.size]?=some (.cells (evL zEv).toArray 70 (0,0)):=(m.out.block _ (by have:=a.out.2.2.1;have:=b.out.2.1.size;have:=s.out.2.1.size;have:=M.out.size;omega) (fun e=>e)).trans ((M.out.block _ (by have:=a.out.2.2.1;have:=b.out.2.1.size;have:=s.out.2.1.size;omega) (fun e=>e)).trans s.out.2.2.2);have C:W.heap.size<c.heap.size:=by have:=a.out.2.2.1;have:=b.out.2.1.size;have:=s.out.2.1.size;have:=M.out.size;have:=m.out.size;omega
  have d:=aA c (.cells #[.int .i64 0,.int .i64 0,.int .i64 0,.int .i64 0,.int .i64 0,.int .i64 0,.int .i64 0,.int .i64 0,.int .i64 0,.int .i64 0,.int .i64 0,.int .i64 0,.int .i64 0,.int .i64 0,.int .i64 0,.int .i64 0,.int .i64 0,.int .i64 0,.int .i64 0] 70);have I:(c.alloc (.cells #[.int .i64 0,.int .i64 0,.int .i64 0,.int .i64 0,.int .i64 0,.int .i64 0,.int .i64 0,.int .i64 0,.int .i64 0,.int .i64 0,.int .i64 0,.int .i64 0,.int .i64 0,.int .i64 0,.int .i64 0,.int .i64 0,.int .i64 0,.int .i64 0,.int .i64 0] 70)).heap[W.heap.size]?=some (.cells (evL zEv).toArray 70 (0,0)):=cX _ a6;have H:Chg NoS c (c.alloc (.cells #[.int .i64 0,.int .i64 0,.int .i64 0,.int .i64 0,.int .i64 0,.int .i64 0,.int .i64 0,.int .i64 0,.int .i64 0,.int .i64 0,.int .i64 0,.int .i64 0,.int .i64 0,.int .i64 0,.int .i64 0,.int .i64 0,.int .i64 0,.int .i64 0,.int .i64 0] 70)):=(Chg.refl _ _).alloc _;generalize U:c.alloc (.cells #[.int .i64 0,.int .i64 0,.int .i64 0,.int .i64 0,.int .i64 0,.int .i64 0,.int .i64 0,.int .i64 0,.int .i64 0,.int .i64 0,.int .i64 0,.int .i64 0,.int .i64 0,.int .i64 0,.int .i64 0,.int .i64 0,.int .i64 0,.int .i64 0,.int .i64 0] 70)=W6 at d I H;have b8:=cB U;have b2:Hid (W6.heap[c.heap.size]?=some (.cells (evL zEv).toArray 70 (0,0))):=d;have L:=cB (aJX I H C);generalize (lU y.tr i y.tr.length).1=e at HE⊢;generalize (lU y.tr i y.tr.length).2=eb2;clear a6 C d U I H;refine cB ?_
  go_wp2_with (first|rw[b8.out]|(refine cH rfl 70 _ _ rfl c.heap.size 0 70 _ _ (evL e) rfl rfl b2.out (by kernel_rfl) (by simp[Value.oneCell']) (by simp) rfl ?_;intro W7 T c5 V;have S:=cB T;have c1:=cB V;clear T c5 V;refine cE ?_));have a7:W7.heap[W.heap.size]?=some (.cells (evL zEv).toArray 70 (0,0)):=(S.out.block _ (by have:=L.out.2.1.size;have:=L.out.2.2;omega) (fun e=>by have:=L.out.2.2;omega)).trans L.out.1;have a9:=cB a7;have c7:Hid (∀j u,(evL e)[j]?=some u→W7.cell? ((⟨c.heap.size,0,none⟩:Addr).add j)=some u):=cF c1.out;clear a7;refine cB ?_;go_wp2_with (first|(refine cH rfl 70 _ _ rfl W.heap.size 0 70 _ _ (evL e) rfl rfl a9.out (by kernel_rfl) (by simp[Value.oneCell']) (by simp) rfl ?_;intro W8 Y b5 a5;have c6:=cB Y;have b9:=cB a5;clear Y b5 a5;refine cE ?_)|(refine cI rfl 70 _ rfl ⟨c.heap.size,0,none⟩ rfl (evL e) _ c7.out underlying70 rfl (by kernel_rfl) ?_));refine cB ?_;go_wp2_with fail;rw[HE.out,HD.out];refine bodyPost_ret (oV _ results27 _ W.heap.size e _ rfl b9.out) rfl ⟨rfl,?_⟩;have z1:=a.out.2.2.1;have z2:=b.out.2.1.size;have z3:=s.out.2.1.size;have z4:=M.out.size;have z5:=m.out.size;have hn:Chg (fun k=>k=W.heap.size) K W8:=by
   have a2:=((M.out.trans m.out (fun _ _ z=>z)).trans L.out.2.1 (fun _ _ z=>z)).fresh S.out (by omega);exact(a2.mono (fun _ _ e=>e.elim)).trans c6.out (fun _ _ e=>e)
  have J:KTo R B eb o2 g y (N+1206) K:=KTo.mono ⟨o3,s.out.1,s.out.2.1,s.out.2.2.1⟩ (by omega);exact(J.comp b.out.2.1 b.out.2.2.1).junk a.out.2.1 hn (fun k e=>by subst e;omega) a.out.2.2.2 a3
 ·have b0:(qB x i k l t !=0)=true:=by simp[E]
  have b:=cB (aJX P O g2);have b6:=cB n;have HD:Hid (sI x i k l t=fO x i k l t):=if_pos E;have HE:Hid (jV x i k l t=zEv):=if_pos E;clear P O g2 n E;refine cB ?_;go_wp2_with (first|(refine cH rfl 70 _ _ rfl W.heap.size 0 70 _ _ (evL zEv) rfl rfl b6.out (by kernel_rfl) (by simp[Value.oneCell']) (by simp) rfl ?_;intro K a0 b1 a4;have b4:=cB a0;have c0:=cB a4;clear a0 b1 a4;refine cE ?_));refine cB ?_;go_wp2_with fail;rw[HE.out,HD.out];refine bodyPost_ret (oV _ results27 _ W.heap.size zEv _ rfl c0.out) rfl ⟨rfl,?_⟩;have z1:=a.out.2.2.1;have J:KTo W1 B eb own g (fO x i k l t) (N+1206) R:=KTo.mono ⟨o2,b.out.1,b.out.2.1,b.out.2.2⟩ (by omega);exact J.junk a.out.2.1 b4.out (fun k e=>by subst e;omega) a.out.2.2.2 a3
def cfH:Cf:=⟨1,2,3,3,0,3,400⟩
def hx0:Mo:=lI cfH
def hx1:Mo:=sI hx0 0 1 2 10
def hx2:Mo:=sI hx1 1 1 2 5
def hx3:Mo:=sI hx2 1 4 2 0
def hx4:Mo:=sI hx3 0 2 2 7
def hx5:Mo:=sI hx4 0 3 2 0
def isE(e:Ev)(res own tok:Int):Bool:=e.res==res&&e.own==own&&e.tok==tok
def aI2:Bool:=isE (jV hx0 0 1 2 10) 1 1 256&&vQ hx1 0 2&&isE (jV hx1 1 1 2 5) 2 1 256&&isE (jV hx2 1 4 2 0) 4 1 256&&isE (jV hx3 0 2 2 7) 1 1 256&&isE (jV hx4 0 3 2 0) 1 1 256&& !(vQ hx5 0 2)&&isE (jV hx5 1 1 2 5) 1 2 1281
theorem aEi:aI2=true:=by decide+kernel
theorem vU{e:Ev}{r o t:Int}(h:isE e r o t=true):e.res=r∧e.own=o∧e.tok=t:=by
 unfold isE at h;simpa[and_assoc]using h
structure St where
 kind:Int
 x:Int
 y:Int
 z:Int
def qY(x:Mo)(o:St):Int:=if 3≤o.kind∧o.kind≤5∧0<x.net.length then cO o.x x.net.length else -1
def eZ(c:Cf)(x:Mo)(a:Int→Int→Int)(d:Int→Bool)(o:St):Mo:=
 if o.kind=1 then fO x (cO o.x c.clients) (1+cO o.y 4) (cO (o.y.tdiv 4) 4) (1+cO o.z 30)
 else if o.kind=2 then nT c x a d (cO o.x c.clients)
 else if o.kind=3 then fG x (qY x o)
 else if o.kind=4 then eN x (qY x o)
 else if o.kind=5 then lE x (qY x o)
 else if o.kind=6 then lM x (cO o.x (2*c.f+1)) (cO o.y 9) (cO o.z 30)
 else if o.kind=7 then jM x (cO o.x (2*c.f+1))
 else if o.kind=8 then kP x (cO o.x c.clients)
 else if o.kind=9 then iB x (cO o.x c.clients)
 else if o.kind=10 then iE 300 x else x
def fQ(c:Cf)(x:Mo)(a:Int→Int→Int)(d:Int→Bool)(o:St):Int→Int→Int:=
 if o.kind=2 then oP c x a d (cO o.x c.clients)
 else if o.kind=8∧kE x (cO o.x c.clients)=0∨o.kind=9∧gO x (cO o.x c.clients)=0 then iP a (cO o.x c.clients)else a
def fN(c:Cf)(x:Mo)(d:Int→Bool)(o:St):Int→Bool:=
 if o.kind=8∧kE x (cO o.x c.clients)=0 then fun p=>if p=cO o.x c.clients then true else d p
 else if o.kind=9∧gO x (cO o.x c.clients)=0 then fun p=>if p=cO o.x c.clients then false else d p else d
structure KF(W:World)(B:Nat)(eb:Addr)(b:Nat)(own:Nat→Nat)(g:Nat)(c:Cf)(x:Mo)(a:Int→Int→Int)(d:Int→Bool)(N M:Int):Prop where
 kw:KW W B eb own g x N
 fl:FlB W b c g a d
 ob:own b=0
 bB:B≤b
 cf:x.cf=c
 ab:∀p q,0≤a p q∧a p q≤M
def KFTo(W:World)(B:Nat)(eb:Addr)(b:Nat)(own:Nat→Nat)(g:Nat)(c:Cf)(x:Mo)(a:Int→Int→Int)(d:Int→Bool)(N M:Int)(W':World):Prop:=
 ∃own',KF W' B eb b own' g c x a d N M∧Chg (fun k=>k=b∨own k≠0) W W'∧∀k,own' k≠0→own k≠0∨W.heap.size≤k
section
variable {W W' W1:World}{B:Nat}{eb:Addr}{b:Nat}{own:Nat→Nat}{g:Nat}{c:Cf}{x x':Mo}{a a':Int→Int→Int}{d d':Int→Bool}{N N' M M':Int}
theorem KF.flw(h:KF W B eb b own g c x a d N M):FlW W b own g c x a d:=⟨h.fl,h.kw.mo,h.ob⟩
theorem KF.chg0(h:KF W B eb b own g c x a d N M)(hc:Chg NoS W W'):KF W' B eb b own g c x a d N M:=
 ⟨h.kw.chg0 hc,h.fl.of_heap (hc.block _ h.fl.lt (fun e=>e)),h.ob,h.bB,h.cf,h.ab⟩
theorem KF.goF(h:KF W B eb b own g c x a d N M)(hm:FlTo W b own g c x' a' d' W')(hok:MoOk N' x')(hcf:x'.cf=x.cf)(hab:∀p q,0≤a' p q∧a' p q≤M'):KFTo W B eb b own g c x' a' d' N' M' W':=by
 obtain⟨o,f,i,j⟩:=hm;refine⟨o,⟨⟨f.mo,h.kw.gl.kept i (fun k hk=>?_),fun k hk=>?_,hok⟩,f.fl,f.ob,h.bB,hcf.trans h.cf,hab⟩,i,j⟩
 ·rcases hk with e|e
  ·rw[e];exact h.bB
  ·exact h.kw.ow k e
 ·rcases j k hk with e|e
  ·exact h.kw.ow k e
  ·exact bU h.kw.gl.hB e
theorem KF.go(h:KF W B eb b own g c x a d N M)(hm:MoTo W own g x' W')(hok:MoOk N' x')(hcf:x'.cf=x.cf):KFTo W B eb b own g c x' a d N' M W':=h.goF (h.flw.go hm) hok hcf h.ab
theorem KF.goK(h:KF W B eb b own g c x a d N M)(hk:KTo W B eb own g x' N' W')(hcf:x'.cf=x.cf):KFTo W B eb b own g c x' a d N' M W':=by
 obtain⟨o,e,f,i⟩:=hk;exact h.go ⟨o,e.mo,f,i⟩ e.ok hcf
theorem KFTo.mono(h:KFTo W B eb b own g c x a d N M W')(hN:N≤N')(hM:M≤M'):KFTo W B eb b own g c x a d N' M' W':=by
 obtain⟨o,e,f,i⟩:=h;exact⟨o,⟨⟨e.kw.mo,e.kw.gl,e.kw.ow,e.kw.ok.mono hN⟩,e.fl,e.ob,e.bB,e.cf,fun p q=>⟨(e.ab p q).1,Int.le_trans (e.ab p q).2 hM⟩⟩,f,i⟩
theorem KFTo.chg0(h:KFTo W B eb b own g c x a d N M W1)(hc:Chg NoS W1 W'):KFTo W B eb b own g c x a d N M W':=by
 obtain⟨o,f,i,j⟩:=h;exact⟨o,f.chg0 hc,i.trans hc (fun _ _ e=>e.elim),j⟩
theorem KFTo.before{W0:World}(h:KFTo W1 B eb b own g c x a d N M W')(hc:Chg NoS W0 W1):KFTo W0 B eb b own g c x a d N M W':=by
 obtain⟨o,f,i,j⟩:=h;exact⟨o,f,(hc.mono (T:=fun k=>k=b∨own k≠0) (fun _ _ e=>e.elim)).trans i (fun _ _ e=>e),fun k hk=>(j k hk).imp id fun e=>bU hc.size e⟩
theorem KFTo.fleet(h:KFTo W B eb b own g c x a d N M W1)(hb:FlB W' b c g a' d')(hc:Chg (fun k=>k=b) W1 W')(hab:∀p q,0≤a' p q∧a' p q≤M'):KFTo W B eb b own g c x a' d' N M' W':=by
 obtain⟨o,f,i,j⟩:=h;exact⟨o,⟨f.kw.kept hc (fun k hk e=>by subst e;exact hk f.ob) (fun k e=>by rw[e];exact f.bB),hb,f.ob,f.bB,f.cf,hab⟩,i.trans hc (fun k _ e=>Or.inl e),j⟩
theorem KFTo.trans(h:KFTo W B eb b own g c x a d N M W1)(k:∀own',KF W1 B eb b own' g c x a d N M→KFTo W1 B eb b own' g c x' a' d' N' M' W'):KFTo W B eb b own g c x' a' d' N' M' W':=by
 obtain⟨r,o,i,j⟩:=h;obtain⟨p,l,m,n⟩:=k r o;refine⟨p,l,i.trans m (fun q hq f=>?_),fun q hq=>?_⟩
 ·rcases f with f|f
  ·exact Or.inl f
  ·rcases j q f with e|e
   ·exact Or.inr e
   ·omega
 ·rcases n q hq with e|e
  ·exact j q e
  ·right;have:=i.size;omega
end
section
variable (x:Mo)
theorem aCd(i k l t:Int):(fO x i k l t).cf=x.cf:=by unfold fO;split<;>rfl
theorem aEr(i:Int):(kG x i).cf=x.cf:=by unfold kG;split<;>rfl
theorem aEj(i:Int):(kP x i).cf=x.cf:=by unfold kP;split<;>rfl
theorem aAO(i:Int):(iB x i).cf=x.cf:=by unfold iB;split<;>rfl
theorem uG(i:Int):(eN x i).cf=x.cf:=by unfold eN;split<;>rfl
theorem aBK(i:Int):(lE x i).cf=x.cf:=by unfold lE;split<;>rfl
theorem aEy(i n q:Int):(lM x i n q).cf=x.cf:=by unfold lM;split<;>rfl
theorem aCU(i:Int):(jM x i).cf=x.cf:=by unfold jM;split<;>rfl
theorem nF(i:Int):(fG x i).cf=x.cf:=by
 unfold fG;split
 ·split
  ·exact(aGX _ _ _ _).trans (uG x i)
  ·exact(aG1 _ _ _ _).trans (uG x i)
 ·rfl
end
theorem aAX:∀(n:Nat) (x:Mo),(iE n x).cf=x.cf
 |0,x=>rfl
 |n+1,x=>by
  unfold iE;split
  ·rfl
  ·exact(aAX n _).trans (nF x 0)
structure nL(o:St):Prop where
 x1: -9223372036854775808≤o.x
 x2:o.x≤9223372036854775807
 y1: -9223372036854775808≤o.y
 y2:o.y≤9223372036854775807
 z1: -9223372036854775808≤o.z
 z2:o.z≤9223372036854775807
theorem aGM(c:Cf)(x:Mo)(a:Int→Int→Int)(d:Int→Bool)(i:Int):(nT c x a d i).cf=x.cf:=by
 unfold nT;split
 ·rfl
 ·exact aEr x i
theorem aHH{N:Int}{x:Mo}(h:MoOk N x)(c:Cf)(a:Int→Int→Int)(d:Int→Bool)(i:Int):MoOk (N+6) (nT c x a d i):=by
 unfold nT;split
 ·exact h.mono (by omega)
 ·exact h.tick i
theorem aHM{c:Cf}{a:Int→Int→Int}{M:Int}(l1:1≤c.clients)(l2:c.clients≤4)(hd:0≤c.drift)(h:∀p q,0≤a p q∧a p q≤M)(x:Mo)(d:Int→Bool)(i:Int):∀p q,0≤oP c x a d i p q∧oP c x a d i p q≤M+10:=fun p q=>by
 have h1:=h p q;have h2:=h p i;have h3:=h i q;unfold oP;split
 ·omega
 ·split
  ·omega
  ·unfold jP;split
   ·omega
   ·split<;>omega
theorem aJG{y:Int}(h1: -9223372036854775808≤y)(h2:y≤9223372036854775807): -9223372036854775808≤y.tdiv 4∧y.tdiv 4≤9223372036854775807:=by
 by_cases h:0≤y
 ·rw[Int.tdiv_eq_ediv_of_nonneg h];omega
 ·have e:y.tdiv 4= -((-y).tdiv 4):=by rw[Int.neg_tdiv,Int.neg_neg]
  rw[e,Int.tdiv_eq_ediv_of_nonneg (by omega)];omega
end Go.Proofs.YtbbdgokdfhdpiaaGreatDoor
