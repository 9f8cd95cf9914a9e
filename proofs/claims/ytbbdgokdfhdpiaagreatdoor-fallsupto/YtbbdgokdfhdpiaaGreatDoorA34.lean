/- A part. -/
import Derived.Test.YtbbdgokdfhdpiaaGreatDoorA28
import Derived.Test.YtbbdgokdfhdpiaaGreatDoorA31
namespace Go.Proofs.YtbbdgokdfhdpiaaGreatDoor
set_option linter.all false
set_option maxRecDepth 100000
set_option maxHeartbeats 0
open Go.Proofs.Tryz Go.RowKit
theorem aCV(W:World)(own:Nat→Nat)(g B:Nat)(eb:Addr)(x:Mo)(N i:Int)(h:Moor W own g x)(hgl:GlAt W B eb)(hB:∀k,own k≠0→B≤k)(hok:MoOk N x)(hN:N≤80000000000):
 Calls prog 39 #[.pointer (some ⟨g,0,none⟩),.int .i64 i] W fun r W'=>r= .returned (.int .i64 (rL x i))∧MoTo W own g (kZ x i) W':=by
 have HM:=cN h;have d8:=cN hok;obtain⟨av,cv,bA,bC,h⟩:=h;obtain⟨nv,tv,hb,R,c5,b9,b5,b6⟩:=h.cells;obtain⟨p,c6,rfl⟩:=vF R;have c2:W.cell? ⟨g,2,none⟩=some (.slice p x.net.length c6):=cO hb 2 _ rfl;have c9:=hok.nl;have HI:=cN (pN W g i p x.net.length c6 (by omega) c2);unfold rL kZ;by_cases O:dT i x.net.length=true
 ·rw[if_pos O,if_pos O];have b8:=hok.msg O;have a3:=hok.drop i;have d3:iS x i={x with net:=x.net.eraseIdx i.toNat}:=by unfold iS;rw[if_pos O]
  rw[d3]at a3⊢;rw[O]at HI;obtain⟨h0,h1⟩:=(dY _ _).1 O;obtain⟨a0,em⟩:=rI O;obtain⟨j,rfl⟩:∃j:Nat,i=j:=⟨i.toNat,by omega⟩;have hj:j<x.net.length:=by omega
  have ej:((j:Int).toNat)=j:=by omega
  rw[ej]at a3⊢;have c3:jG x (j:Int)=x.net[j]'hj:=em;have a5:=R;rcases R.2 with⟨e,e0⟩|⟨k,d6,d7,e,hr⟩
  ·omega
  ·cases e;have b0:=aJd hj a5;rw[←c3]at b0;generalize hm:jG x (j:Int)=m at*;have HC:=cN b0;have d5:=cN (aA W (.cells (mgL m).toArray 66));have a4:Chg NoS W (W.alloc (.cells (mgL m).toArray 66)):=(Chg.refl _ _).alloc _;have c1:(W.alloc (.cells (mgL m).toArray 66)).heap.size=W.heap.size+1:=by simp
   have a7:=hgl.kept a4 (fun _ h=>h.elim);have c7:=HM.out.kept a4 (fun _ _ h=>h);generalize b4:W.alloc (.cells (mgL m).toArray 66)=W1 at*;have a9:Hid (W.alloc (.cells #[.int .i64 m.kind,.int .i64 m.src,.int .i64 m.dst,.int .i64 m.lock,.int .i64 m.bal,.int .i64 m.base,.int .i64 m.val.own,.int .i64 m.val.tok,.int .i64 m.val.ttl,.int .i64 m.val.seq] 66)=W1):=b4;have HR:=cN (aBQ W1 own g x N j c7 hok (by omega) hj);have d4:=cN (aLp c1 a4 a7);have D:=cN b8;have b1:=cN a3;have HB:=cN (aLo hB HM.out.lt);have HG:=cN c9;have HZ:Hid (∀n,MoTo W1 own g {x with net:=x.net.eraseIdx j} n→∃a,Moor n a g {x with net:=x.net.eraseIdx j}∧Chg (fun k=>own k≠0) W n∧(∀k,a k≠0→own k≠0∨W.heap.size≤k)∧n.heap[W.heap.size]?=some (.cells (mgL m).toArray 66 (0,0))∧GlAt n B eb∧(∀k,a k≠0→B≤k)):=by
    rintro n ⟨a,C,u,z⟩;have hh:=d4.out;have d9:=hh.2.2.hB;refine⟨a,C,(hh.2.1.mono (fun _ _ h=>h.elim)).trans u (fun k _ h=>h),fun k hk=>?_,u.kept d5.out (fun h=>by have:=HB.out.2 _ h;omega),hh.2.2.kept u (fun k hk=>HB.out.1 k hk),fun k hk=>?_⟩
    ·rcases z k hk with h|h
     ·exact Or.inl h
     ·right;omega
    ·rcases z k hk with h|h
     ·exact HB.out.1 k h
     ·omega
   have hA:∀(P:Prop),(hO m=true→(m.kind=1∨m.kind=3)):=fun _ h=>by simpa[hO]using h
   clear b0 hb R c5 b9 b5 b6 h hok O a0 hr a5 em c3 hm b4 a4 c1 a7 c7 b8 a3 hj hgl hB c9 d3 h0;by_cases J:m.kind=1
   ·have e1:(m.kind==1)=true:=by simp[J]
    have Q:hO m=true:=by simp[hO,J]
    rw[if_pos Q,if_pos Q];have M:m.kind=1∨m.kind=3:=Or.inl J;clear J hA Q;go_enter func39,ntmps39;go_wp2_with (first|rw[a9.out]|(go_at_call 83;refine HI.out.mono ?_;rintro e w' ⟨rfl,hW⟩;have X:=hW.symm;subst X;clear hW)|(refine cW rfl 66 _ rfl ⟨k,j*10,none⟩ rfl (mgL m) _ HC.out underlying66 rfl (by kernel_rfl) ?_)|(go_at_call 84;refine HR.out.mono ?_;rintro e n ⟨rfl,F⟩;refine cQ ?_));refine cN ?_;obtain⟨a,U,u,z,b,A,E⟩:=HZ.out n F;obtain⟨a8,a1,a2,b2,C⟩:=U;obtain⟨b7,b3,I,_⟩:=C.cells;obtain⟨p2,s,rfl,o⟩:=fK C.rav;have l:=b1.out;have w:dT m.dst x.acs.length=true:=(dY _ _).2 ⟨D.out.d1,by have h1:=l.na;have C:=(D.out.toA M).2;have h3:x.acs.length=gJ x.cf:=h1;rw[h3];unfold gJ;omega⟩;have d:dT m.dst ({x with net:=x.net.eraseIdx j}:Mo).acs.length=true:=w;obtain⟨Z,eq⟩:=qK d;obtain⟨d0,d1⟩:=(dY _ _).1 w;have y:m.dst=((m.dst.toNat:Nat):Int):=by omega
    have c:m.dst.toNat<x.acs.length:=by omega
    obtain⟨k2,rfl,ck⟩:=o m.dst.toNat c;have c0:n.cell? ⟨g,0,none⟩=some (.slice (some ⟨k2,0,none⟩) x.acs.length s):=cO I 0 _ rfl;have cd:n.cell? ⟨W.heap.size,2,none⟩=some (.int .i64 m.dst):=cO b 2 _ rfl;have d2:n.cell? ⟨W.heap.size,0,none⟩=some (.int .i64 m.kind):=cO b 0 _ rfl;have ed:m.dst.toNat=m.dst.toNat:=rfl;have t:=(C.drew).asys m.dst.toNat c;have G:acM {x with net:=x.net.eraseIdx j} m.dst=x.acs[m.dst.toNat]'c:=eq;have f:ASys n.drew (fun k=>a k=3+2*m.dst.toNat) (fun k=>a k=1) (a2 m.dst.toNat) g (.slice (some ⟨k2,0,none⟩) x.acs.length s) a1 (acM {x with net:=x.net.eraseIdx j} m.dst) (x.net.eraseIdx j) x.tr:=by rw[G];exact t
    have HT:=cN (vO (N:=N) l (by omega) d D.out M (by have:=l.nl;exact Int.le_trans this (by omega)) f (A.kept (S:=NoS) (Chg.refl _ _).drew (fun _ h=>h.elim)) (fun q Z=>E q (by omega)) (fun q Z=>E q (by omega)));have HL:=cN (cR (cs:=mgL m) (W:=n.drew) b);have H2:=cN C;have H:=cN (aLo u z);have c8:(m.dst.toNat:Int)<(x.acs.length:Int):=by omega
    have V:=cN c;clear F u z A E o l w d Z eq G t f C c I;generalize Y:m.dst.toNat=jd at*;have c4:(0:Int)≤(jd:Int):=by omega
    rw[y]at cd;have a6:=cN b;have T:=cN y;clear b y d0 d1 ed Y;go_wp2_with fail;refine eD [0,0,0,1,0,1,0,1,1] (by kernel_rfl) (fun _ _ _ _=>rfl) ?_;simp only[dC,dB];iterate 8 (apply sB rfl rfl;·(intro x h;(try cases h rfl);go_simp;with_reducible rfl))
    try simp only[pA]
    refine dA (v:=mgV m) rfl (fun x hx=>cU 66 _ rfl ⟨W.heap.size,0,none⟩ rfl (mgL m) _ (by subst hx;exact HL.out) underlying66 rfl (by kernel_rfl)) ?_;refine cP ?_;(try simp only[pA]);go_wp2_with (go_at_call 85;refine HT.out.mono ?_;rintro r W5 ⟨rfl,k1⟩);go_ret;refine⟨rfl,?_⟩;have K:=H2.out.drew.acceptorTo jd V.out k1;refine MoTo.trans (own1:=a) H.out.1 H.out.2 (MoTo.drew ?_);have e:(m.dst).toNat=jd:=by have:=T.out;omega
    unfold mF;rw[e];exact K
   ·have e1:(m.kind==1)=false:=by simp[J]
    by_cases L:m.kind=3
    ·have e3:(m.kind==3)=true:=by simp[L]
     have Q:hO m=true:=by simp[hO,L]
     rw[if_pos Q,if_pos Q];have M:m.kind=1∨m.kind=3:=Or.inr L;clear J hA Q L;go_enter func39,ntmps39;go_wp2_with (first|rw[a9.out]|(go_at_call 83;refine HI.out.mono ?_;rintro e w' ⟨rfl,hW⟩;have X:=hW.symm;subst X;clear hW)|(refine cW rfl 66 _ rfl ⟨k,j*10,none⟩ rfl (mgL m) _ HC.out underlying66 rfl (by kernel_rfl) ?_)|(go_at_call 84;refine HR.out.mono ?_;rintro e n ⟨rfl,F⟩;refine cQ ?_));refine cN ?_;obtain⟨a,U,u,z,b,A,E⟩:=HZ.out n F;obtain⟨a8,a1,a2,b2,C⟩:=U;obtain⟨b7,b3,I,_⟩:=C.cells;obtain⟨p2,s,rfl,o⟩:=fK C.rav;have l:=b1.out;have w:dT m.dst x.acs.length=true:=(dY _ _).2 ⟨D.out.d1,by have h1:=l.na;have C:=(D.out.toA M).2;have h3:x.acs.length=gJ x.cf:=h1;rw[h3];unfold gJ;omega⟩;have d:dT m.dst ({x with net:=x.net.eraseIdx j}:Mo).acs.length=true:=w;obtain⟨Z,eq⟩:=qK d;obtain⟨d0,d1⟩:=(dY _ _).1 w;have y:m.dst=((m.dst.toNat:Nat):Int):=by omega
     have c:m.dst.toNat<x.acs.length:=by omega
     obtain⟨k2,rfl,ck⟩:=o m.dst.toNat c;have c0:n.cell? ⟨g,0,none⟩=some (.slice (some ⟨k2,0,none⟩) x.acs.length s):=cO I 0 _ rfl;have cd:n.cell? ⟨W.heap.size,2,none⟩=some (.int .i64 m.dst):=cO b 2 _ rfl;have d2:n.cell? ⟨W.heap.size,0,none⟩=some (.int .i64 m.kind):=cO b 0 _ rfl;have ed:m.dst.toNat=m.dst.toNat:=rfl;have t:=(C.drew).asys m.dst.toNat c;have G:acM {x with net:=x.net.eraseIdx j} m.dst=x.acs[m.dst.toNat]'c:=eq;have f:ASys n.drew (fun k=>a k=3+2*m.dst.toNat) (fun k=>a k=1) (a2 m.dst.toNat) g (.slice (some ⟨k2,0,none⟩) x.acs.length s) a1 (acM {x with net:=x.net.eraseIdx j} m.dst) (x.net.eraseIdx j) x.tr:=by rw[G];exact t
     have HT:=cN (vO (N:=N) l (by omega) d D.out M (by have:=l.nl;exact Int.le_trans this (by omega)) f (A.kept (S:=NoS) (Chg.refl _ _).drew (fun _ h=>h.elim)) (fun q Z=>E q (by omega)) (fun q Z=>E q (by omega)));have HL:=cN (cR (cs:=mgL m) (W:=n.drew) b);have H2:=cN C;have H:=cN (aLo u z);have c8:(m.dst.toNat:Int)<(x.acs.length:Int):=by omega
     have V:=cN c;clear F u z A E o l w d Z eq G t f C c I;generalize Y:m.dst.toNat=jd at*;have c4:(0:Int)≤(jd:Int):=by omega
     rw[y]at cd;have a6:=cN b;have T:=cN y;clear b y d0 d1 ed Y;go_wp2_with fail;refine eD [0,0,0,1,0,1,0,1,1] (by kernel_rfl) (fun _ _ _ _=>rfl) ?_;simp only[dC,dB];iterate 8 (apply sB rfl rfl;·(intro x h;(try cases h rfl);go_simp;with_reducible rfl))
     try simp only[pA]
     refine dA (v:=mgV m) rfl (fun x hx=>cU 66 _ rfl ⟨W.heap.size,0,none⟩ rfl (mgL m) _ (by subst hx;exact HL.out) underlying66 rfl (by kernel_rfl)) ?_;refine cP ?_;(try simp only[pA]);go_wp2_with (go_at_call 85;refine HT.out.mono ?_;rintro r W5 ⟨rfl,k1⟩);go_ret;refine⟨rfl,?_⟩;have K:=H2.out.drew.acceptorTo jd V.out k1;refine MoTo.trans (own1:=a) H.out.1 H.out.2 (MoTo.drew ?_);have e:(m.dst).toNat=jd:=by have:=T.out;omega
     unfold mF;rw[e];exact K
    ·have e3:(m.kind==3)=false:=by simp[L]
     have Q:¬hO m=true:=by simp[hO,J,L]
     rw[if_neg Q,if_neg Q];have M:¬(m.kind=1∨m.kind=3):=by omega
     clear J hA Q L;go_enter func39,ntmps39;go_wp2_with (first|rw[a9.out]|(go_at_call 83;refine HI.out.mono ?_;rintro e w' ⟨rfl,hW⟩;have X:=hW.symm;subst X;clear hW)|(refine cW rfl 66 _ rfl ⟨k,j*10,none⟩ rfl (mgL m) _ HC.out underlying66 rfl (by kernel_rfl) ?_)|(go_at_call 84;refine HR.out.mono ?_;rintro e n ⟨rfl,F⟩;refine cQ ?_));refine cN ?_;obtain⟨a,U,u,z,b,A,E⟩:=HZ.out n F;obtain⟨a8,a1,a2,b2,C⟩:=U;obtain⟨b7,b3,I,_⟩:=C.cells;obtain⟨p2,s,rfl,o⟩:=fK C.rcv;have l:=b1.out;have w:dT m.dst x.cls.length=true:=(dY _ _).2 ⟨D.out.d1,by have h1:=l.nc;have C:=(D.out.toC M).2;have h3:x.cls.length=x.cf.clients.toNat:=h1;rw[h3];omega⟩;have d:dT m.dst ({x with net:=x.net.eraseIdx j}:Mo).cls.length=true:=w;obtain⟨Z,eq⟩:=mQ d;obtain⟨d0,d1⟩:=(dY _ _).1 w;have y:m.dst=((m.dst.toNat:Nat):Int):=by omega
     have c:m.dst.toNat<x.cls.length:=by omega
     obtain⟨k2,rfl,ck⟩:=o m.dst.toNat c;have c0:n.cell? ⟨g,1,none⟩=some (.slice (some ⟨k2,0,none⟩) x.cls.length s):=cO I 1 _ rfl;have cd:n.cell? ⟨W.heap.size,2,none⟩=some (.int .i64 m.dst):=cO b 2 _ rfl;have d2:n.cell? ⟨W.heap.size,0,none⟩=some (.int .i64 m.kind):=cO b 0 _ rfl;have ed:m.dst.toNat=m.dst.toNat:=rfl;have t:=(C.drew).sys m.dst.toNat c;have G:clM {x with net:=x.net.eraseIdx j} m.dst=x.cls[m.dst.toNat]'c:=eq;have f:Sys n.drew (fun k=>a k=4+2*m.dst.toNat) (fun k=>a k=1) (b2 m.dst.toNat) g x.cf a8 (.slice (some ⟨k2,0,none⟩) x.cls.length s) (clM {x with net:=x.net.eraseIdx j} m.dst) (x.net.eraseIdx j) x.tr:=by rw[G];exact t
     have HT:=cN (aET (N:=N) l (by omega) d D.out (by have:=l.nl;exact Int.le_trans this (by omega)) f);have HL:=cN (cR (cs:=mgL m) (W:=n.drew) b);have H2:=cN C;have H:=cN (aLo u z);have c8:(m.dst.toNat:Int)<(x.cls.length:Int):=by omega
     have V:=cN c;clear F u z A E o l w d Z eq G t f C c I;generalize Y:m.dst.toNat=jd at*;have c4:(0:Int)≤(jd:Int):=by omega
     rw[y]at cd;have a6:=cN b;have T:=cN y;clear b y d0 d1 ed Y;go_wp2_with fail;refine eD [0,0,0,1,0,1,0,1,1] (by kernel_rfl) (fun _ _ _ _=>rfl) ?_;simp only[dC,dB];iterate 8 (apply sB rfl rfl;·(intro x h;(try cases h rfl);go_simp;with_reducible rfl))
     try simp only[pA]
     refine dA (v:=mgV m) rfl (fun x hx=>cU 66 _ rfl ⟨W.heap.size,0,none⟩ rfl (mgL m) _ (by subst hx;exact HL.out) underlying66 rfl (by kernel_rfl)) ?_;refine cP ?_;(try simp only[pA]);go_wp2_with (go_at_call 86;refine HT.out.mono ?_;rintro r W5 ⟨rfl,k1⟩);go_ret;refine⟨rfl,?_⟩;have K:=H2.out.drew.clientTo jd V.out k1;refine MoTo.trans (own1:=a) H.out.1 H.out.2 (MoTo.drew ?_);have e:(m.dst).toNat=jd:=by have:=T.out;omega
     unfold gB;rw[e];exact K
 ·rw[if_neg O,if_neg O];have a0:dT i x.net.length=false:=by simpa using O
  rw[a0]at HI;clear hb R c5 b9 b5 b6 h hok O a0;go_enter func39,ntmps39;go_wp2_with (go_at_call 83;refine HI.out.mono ?_;rintro e w' ⟨rfl,rfl⟩);go_ret;exact⟨rfl,MoTo.of HM.out⟩
end Go.Proofs.YtbbdgokdfhdpiaaGreatDoor
