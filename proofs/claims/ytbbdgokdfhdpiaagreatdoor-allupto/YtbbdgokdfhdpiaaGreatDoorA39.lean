/- A part of the proof: PMor8. -/
import Derived.Test.YtbbdgokdfhdpiaaGreatDoorA35
import Derived.Test.YtbbdgokdfhdpiaaGreatDoorA36
namespace Go.Proofs.YtbbdgokdfhdpiaaGreatDoor
set_option linter.all false
set_option maxRecDepth 100000
set_option maxHeartbeats 40000000
open Go.Proofs.Tryz Go.RowKit
theorem aCN(W:World)(own:Nat→Nat)(g B:Nat)(eb:Addr)(x:Mo)(N i:Int)(h:Moor W own g x)(hgl:GlAt W B eb)(hB:∀k,own k≠0→B≤k)(hok:MoOk N x)(hN:N≤80000000000):
 Calls prog 39 #[.pointer (some ⟨g,0,none⟩),.int .i64 i] W fun r W'=>r= .returned (.int .i64 (rF x i))∧MoTo W own g (lH x i) W':=by
 have HM:=cN h;have d9:=cN hok;obtain⟨av,cv,bA,bC,h⟩:=h;obtain⟨nv,tv,hb,U,c9,c4,b9,b4⟩:=h.cells;obtain⟨p,b5,rfl⟩:=vD U;have c2:W.cell? ⟨g,2,none⟩=some (.slice p x.net.length b5):=cO hb 2 _ rfl;have d3:=hok.nl;have HI:=cN (qB W g i p x.net.length b5 (by omega) c2);unfold rF lH;by_cases O:dT i x.net.length=true
 ·rw[if_pos O,if_pos O];have b7:=hok.msg O;have a2:=hok.drop i;have c7:iR x i={x with net:=x.net.eraseIdx i.toNat}:=by unfold iR;rw[if_pos O]
  rw[c7]at a2⊢;rw[O]at HI;obtain⟨h0,h1⟩:=(dY _ _).1 O;obtain⟨a0,em⟩:=rR O;obtain⟨j,rfl⟩:∃j:Nat,i=j:=⟨i.toNat,by omega⟩;have hj:j<x.net.length:=by omega
  have ej:((j:Int).toNat)=j:=by omega
  rw[ej]at a2⊢;have c3:jK x (j:Int)=x.net[j]'hj:=em;have a6:=U;rcases U.2 with⟨e,e0⟩|⟨k,d6,d7,e,hr⟩
  ·omega
  ·cases e;have b2:=aIw hj a6;rw[←c3]at b2;generalize hm:jK x (j:Int)=m at*;have HC:=cN b2;have d5:=cN (aA W (.cells (mgL m).toArray 66));have a4:Chg NoS W (W.alloc (.cells (mgL m).toArray 66)):=(Chg.refl _ _).alloc _;have b6:(W.alloc (.cells (mgL m).toArray 66)).heap.size=W.heap.size+1:=by simp
   have a7:=hgl.kept a4 (fun _ h=>h.elim);have b8:=HM.out.kept a4 (fun _ _ h=>h);generalize c1:W.alloc (.cells (mgL m).toArray 66)=W1 at*;have b0:Hid (W.alloc (.cells #[.int .i64 m.kind,.int .i64 m.src,.int .i64 m.dst,.int .i64 m.lock,.int .i64 m.bal,.int .i64 m.base,.int .i64 m.val.own,.int .i64 m.val.tok,.int .i64 m.val.ttl,.int .i64 m.val.seq] 66)=W1):=c1;have HR:=cN (aBb W1 own g x N j b8 hok (by omega) hj);have d4:=cN (aLm b6 a4 a7);have D:=cN b7;have a9:=cN a2;have HB:=cN (aLl hB HM.out.lt);have HG:=cN d3;have HZ:Hid (∀n,MoTo W1 own g {x with net:=x.net.eraseIdx j} n→∃a,Moor n a g {x with net:=x.net.eraseIdx j}∧Chg (fun k=>own k≠0) W n∧(∀k,a k≠0→own k≠0∨W.heap.size≤k)∧n.heap[W.heap.size]?=some (.cells (mgL m).toArray 66 (0,0))∧GlAt n B eb∧(∀k,a k≠0→B≤k)):=by
    rintro n ⟨a,C,u,z⟩;have hh:=d4.out;have d8:=hh.2.2.hB;refine⟨a,C,(hh.2.1.mono (fun _ _ h=>h.elim)).trans u (fun k _ h=>h),fun k hk=>?_,u.kept d5.out (fun h=>by have:=HB.out.2 _ h;omega),hh.2.2.kept u (fun k hk=>HB.out.1 k hk),fun k hk=>?_⟩
    ·rcases z k hk with h|h
     ·exact Or.inl h
     ·right;omega
    ·rcases z k hk with h|h
     ·exact HB.out.1 k h
     ·omega
   have hA:∀(P:Prop),(hU m=true→(m.kind=1∨m.kind=3)):=fun _ h=>by simpa[hU]using h
   clear b2 hb U c9 c4 b9 b4 h hok O a0 hr a6 em c3 hm c1 a4 b6 a7 b8 b7 a2 hj hgl hB d3 c7 h0;by_cases G:m.kind=1
   ·have e1:(m.kind==1)=true:=by simp[G]
    have Q:hU m=true:=by simp[hU,G]
    rw[if_pos Q,if_pos Q];have M:m.kind=1∨m.kind=3:=Or.inl G;clear G hA Q;go_enter func39,ntmps39;go_wp2_with (first|rw[b0.out]|(go_at_call 83;refine HI.out.mono ?_;rintro e w' ⟨rfl,hW⟩;have X:=hW.symm;subst X;clear hW)|(refine cW rfl 66 _ rfl ⟨k,j*10,none⟩ rfl (mgL m) _ HC.out underlying66 rfl (by kernel_rfl) ?_)|(go_at_call 84;refine HR.out.mono ?_;rintro e n ⟨rfl,F⟩;refine cQ ?_));refine cN ?_;obtain⟨a,Y,u,z,c,A,E⟩:=HZ.out n F;obtain⟨a8,a3,a1,b1,C⟩:=Y;obtain⟨c6,c5,J,_⟩:=C.cells;obtain⟨p2,o,rfl,s⟩:=fK C.rav;have l:=a9.out;have w:dT m.dst x.acs.length=true:=(dY _ _).2 ⟨D.out.d1,by have h1:=l.na;have C:=(D.out.toA M).2;have h3:x.acs.length=gJ x.cf:=h1;rw[h3];unfold gJ;omega⟩;have d:dT m.dst ({x with net:=x.net.eraseIdx j}:Mo).acs.length=true:=w;obtain⟨Z,eq⟩:=qQ d;obtain⟨d0,d1⟩:=(dY _ _).1 w;have y:m.dst=((m.dst.toNat:Nat):Int):=by omega
    have b:m.dst.toNat<x.acs.length:=by omega
    obtain⟨k2,rfl,ck⟩:=s m.dst.toNat b;have c0:n.cell? ⟨g,0,none⟩=some (.slice (some ⟨k2,0,none⟩) x.acs.length o):=cO J 0 _ rfl;have cd:n.cell? ⟨W.heap.size,2,none⟩=some (.int .i64 m.dst):=cO c 2 _ rfl;have d2:n.cell? ⟨W.heap.size,0,none⟩=some (.int .i64 m.kind):=cO c 0 _ rfl;have ed:m.dst.toNat=m.dst.toNat:=rfl;have t:=(C.drew).asys m.dst.toNat b;have H:acM {x with net:=x.net.eraseIdx j} m.dst=x.acs[m.dst.toNat]'b:=eq;have f:ASys n.drew (fun k=>a k=3+2*m.dst.toNat) (fun k=>a k=1) (a1 m.dst.toNat) g (.slice (some ⟨k2,0,none⟩) x.acs.length o) a3 (acM {x with net:=x.net.eraseIdx j} m.dst) (x.net.eraseIdx j) x.tr:=by rw[H];exact t
    have HT:=cN (vT (N:=N) l (by omega) d D.out M (by have:=l.nl;exact Int.le_trans this (by omega)) f (A.kept (S:=NoS) (Chg.refl _ _).drew (fun _ h=>h.elim)) (fun q Z=>E q (by omega)) (fun q Z=>E q (by omega)));have HL:=cN (cR (cs:=mgL m) (W:=n.drew) c);have H2:=cN C;have I:=cN (aLl u z);have c8:(m.dst.toNat:Int)<(x.acs.length:Int):=by omega
    have T:=cN b;clear F u z A E s l w d Z eq H t f C b J;generalize R:m.dst.toNat=jd at*;have b3:(0:Int)≤(jd:Int):=by omega
    rw[y]at cd;have a5:=cN c;have V:=cN y;clear c y d0 d1 ed R;go_wp2_with fail;refine eD [0,0,0,1,0,1,0,1,1] (by kernel_rfl) (fun _ _ _ _=>rfl) ?_;simp only[dC,dB];iterate 8 (apply sB rfl rfl;·(intro x h;(try cases h rfl);go_simp;with_reducible rfl))
    try simp only[pA]
    refine dA (v:=mgV m) rfl (fun x hx=>cU 66 _ rfl ⟨W.heap.size,0,none⟩ rfl (mgL m) _ (by subst hx;exact HL.out) underlying66 rfl (by kernel_rfl)) ?_;refine cP ?_;(try simp only[pA]);go_wp2_with (go_at_call 85;refine HT.out.mono ?_;rintro r W5 ⟨rfl,k1⟩);go_ret;refine⟨rfl,?_⟩;have K:=H2.out.drew.acceptorTo jd T.out k1;refine MoTo.trans (own1:=a) I.out.1 I.out.2 (MoTo.drew ?_);have e:(m.dst).toNat=jd:=by have:=V.out;omega
    unfold mB;rw[e];exact K
   ·have e1:(m.kind==1)=false:=by simp[G]
    by_cases L:m.kind=3
    ·have e3:(m.kind==3)=true:=by simp[L]
     have Q:hU m=true:=by simp[hU,L]
     rw[if_pos Q,if_pos Q];have M:m.kind=1∨m.kind=3:=Or.inr L;clear G hA Q L;go_enter func39,ntmps39;go_wp2_with (first|rw[b0.out]|(go_at_call 83;refine HI.out.mono ?_;rintro e w' ⟨rfl,hW⟩;have X:=hW.symm;subst X;clear hW)|(refine cW rfl 66 _ rfl ⟨k,j*10,none⟩ rfl (mgL m) _ HC.out underlying66 rfl (by kernel_rfl) ?_)|(go_at_call 84;refine HR.out.mono ?_;rintro e n ⟨rfl,F⟩;refine cQ ?_));refine cN ?_;obtain⟨a,Y,u,z,c,A,E⟩:=HZ.out n F;obtain⟨a8,a3,a1,b1,C⟩:=Y;obtain⟨c6,c5,J,_⟩:=C.cells;obtain⟨p2,o,rfl,s⟩:=fK C.rav;have l:=a9.out;have w:dT m.dst x.acs.length=true:=(dY _ _).2 ⟨D.out.d1,by have h1:=l.na;have C:=(D.out.toA M).2;have h3:x.acs.length=gJ x.cf:=h1;rw[h3];unfold gJ;omega⟩;have d:dT m.dst ({x with net:=x.net.eraseIdx j}:Mo).acs.length=true:=w;obtain⟨Z,eq⟩:=qQ d;obtain⟨d0,d1⟩:=(dY _ _).1 w;have y:m.dst=((m.dst.toNat:Nat):Int):=by omega
     have b:m.dst.toNat<x.acs.length:=by omega
     obtain⟨k2,rfl,ck⟩:=s m.dst.toNat b;have c0:n.cell? ⟨g,0,none⟩=some (.slice (some ⟨k2,0,none⟩) x.acs.length o):=cO J 0 _ rfl;have cd:n.cell? ⟨W.heap.size,2,none⟩=some (.int .i64 m.dst):=cO c 2 _ rfl;have d2:n.cell? ⟨W.heap.size,0,none⟩=some (.int .i64 m.kind):=cO c 0 _ rfl;have ed:m.dst.toNat=m.dst.toNat:=rfl;have t:=(C.drew).asys m.dst.toNat b;have H:acM {x with net:=x.net.eraseIdx j} m.dst=x.acs[m.dst.toNat]'b:=eq;have f:ASys n.drew (fun k=>a k=3+2*m.dst.toNat) (fun k=>a k=1) (a1 m.dst.toNat) g (.slice (some ⟨k2,0,none⟩) x.acs.length o) a3 (acM {x with net:=x.net.eraseIdx j} m.dst) (x.net.eraseIdx j) x.tr:=by rw[H];exact t
     have HT:=cN (vT (N:=N) l (by omega) d D.out M (by have:=l.nl;exact Int.le_trans this (by omega)) f (A.kept (S:=NoS) (Chg.refl _ _).drew (fun _ h=>h.elim)) (fun q Z=>E q (by omega)) (fun q Z=>E q (by omega)));have HL:=cN (cR (cs:=mgL m) (W:=n.drew) c);have H2:=cN C;have I:=cN (aLl u z);have c8:(m.dst.toNat:Int)<(x.acs.length:Int):=by omega
     have T:=cN b;clear F u z A E s l w d Z eq H t f C b J;generalize R:m.dst.toNat=jd at*;have b3:(0:Int)≤(jd:Int):=by omega
     rw[y]at cd;have a5:=cN c;have V:=cN y;clear c y d0 d1 ed R;go_wp2_with fail;refine eD [0,0,0,1,0,1,0,1,1] (by kernel_rfl) (fun _ _ _ _=>rfl) ?_;simp only[dC,dB];iterate 8 (apply sB rfl rfl;·(intro x h;(try cases h rfl);go_simp;with_reducible rfl))
     try simp only[pA]
     refine dA (v:=mgV m) rfl (fun x hx=>cU 66 _ rfl ⟨W.heap.size,0,none⟩ rfl (mgL m) _ (by subst hx;exact HL.out) underlying66 rfl (by kernel_rfl)) ?_;refine cP ?_;(try simp only[pA]);go_wp2_with (go_at_call 85;refine HT.out.mono ?_;rintro r W5 ⟨rfl,k1⟩);go_ret;refine⟨rfl,?_⟩;have K:=H2.out.drew.acceptorTo jd T.out k1;refine MoTo.trans (own1:=a) I.out.1 I.out.2 (MoTo.drew ?_);have e:(m.dst).toNat=jd:=by have:=V.out;omega
     unfold mB;rw[e];exact K
    ·have e3:(m.kind==3)=false:=by simp[L]
     have Q:¬hU m=true:=by simp[hU,G,L]
     rw[if_neg Q,if_neg Q];have M:¬(m.kind=1∨m.kind=3):=by omega
     clear G hA Q L;go_enter func39,ntmps39;go_wp2_with (first|rw[b0.out]|(go_at_call 83;refine HI.out.mono ?_;rintro e w' ⟨rfl,hW⟩;have X:=hW.symm;subst X;clear hW)|(refine cW rfl 66 _ rfl ⟨k,j*10,none⟩ rfl (mgL m) _ HC.out underlying66 rfl (by kernel_rfl) ?_)|(go_at_call 84;refine HR.out.mono ?_;rintro e n ⟨rfl,F⟩;refine cQ ?_));refine cN ?_;obtain⟨a,Y,u,z,c,A,E⟩:=HZ.out n F;obtain⟨a8,a3,a1,b1,C⟩:=Y;obtain⟨c6,c5,J,_⟩:=C.cells;obtain⟨p2,o,rfl,s⟩:=fK C.rcv;have l:=a9.out;have w:dT m.dst x.cls.length=true:=(dY _ _).2 ⟨D.out.d1,by have h1:=l.nc;have C:=(D.out.toC M).2;have h3:x.cls.length=x.cf.clients.toNat:=h1;rw[h3];omega⟩;have d:dT m.dst ({x with net:=x.net.eraseIdx j}:Mo).cls.length=true:=w;obtain⟨Z,eq⟩:=mL d;obtain⟨d0,d1⟩:=(dY _ _).1 w;have y:m.dst=((m.dst.toNat:Nat):Int):=by omega
     have b:m.dst.toNat<x.cls.length:=by omega
     obtain⟨k2,rfl,ck⟩:=s m.dst.toNat b;have c0:n.cell? ⟨g,1,none⟩=some (.slice (some ⟨k2,0,none⟩) x.cls.length o):=cO J 1 _ rfl;have cd:n.cell? ⟨W.heap.size,2,none⟩=some (.int .i64 m.dst):=cO c 2 _ rfl;have d2:n.cell? ⟨W.heap.size,0,none⟩=some (.int .i64 m.kind):=cO c 0 _ rfl;have ed:m.dst.toNat=m.dst.toNat:=rfl;have t:=(C.drew).sys m.dst.toNat b;have H:clM {x with net:=x.net.eraseIdx j} m.dst=x.cls[m.dst.toNat]'b:=eq;have f:Sys n.drew (fun k=>a k=4+2*m.dst.toNat) (fun k=>a k=1) (b1 m.dst.toNat) g x.cf a8 (.slice (some ⟨k2,0,none⟩) x.cls.length o) (clM {x with net:=x.net.eraseIdx j} m.dst) (x.net.eraseIdx j) x.tr:=by rw[H];exact t
     have HT:=cN (aEG (N:=N) l (by omega) d D.out (by have:=l.nl;exact Int.le_trans this (by omega)) f);have HL:=cN (cR (cs:=mgL m) (W:=n.drew) c);have H2:=cN C;have I:=cN (aLl u z);have c8:(m.dst.toNat:Int)<(x.cls.length:Int):=by omega
     have T:=cN b;clear F u z A E s l w d Z eq H t f C b J;generalize R:m.dst.toNat=jd at*;have b3:(0:Int)≤(jd:Int):=by omega
     rw[y]at cd;have a5:=cN c;have V:=cN y;clear c y d0 d1 ed R;go_wp2_with fail;refine eD [0,0,0,1,0,1,0,1,1] (by kernel_rfl) (fun _ _ _ _=>rfl) ?_;simp only[dC,dB];iterate 8 (apply sB rfl rfl;·(intro x h;(try cases h rfl);go_simp;with_reducible rfl))
     try simp only[pA]
     refine dA (v:=mgV m) rfl (fun x hx=>cU 66 _ rfl ⟨W.heap.size,0,none⟩ rfl (mgL m) _ (by subst hx;exact HL.out) underlying66 rfl (by kernel_rfl)) ?_;refine cP ?_;(try simp only[pA]);go_wp2_with (go_at_call 86;refine HT.out.mono ?_;rintro r W5 ⟨rfl,k1⟩);go_ret;refine⟨rfl,?_⟩;have K:=H2.out.drew.clientTo jd T.out k1;refine MoTo.trans (own1:=a) I.out.1 I.out.2 (MoTo.drew ?_);have e:(m.dst).toNat=jd:=by have:=V.out;omega
     unfold gC;rw[e];exact K
 ·rw[if_neg O,if_neg O];have a0:dT i x.net.length=false:=by simpa using O
  rw[a0]at HI;clear hb U c9 c4 b9 b4 h hok O a0;go_enter func39,ntmps39;go_wp2_with (go_at_call 83;refine HI.out.mono ?_;rintro e w' ⟨rfl,rfl⟩);go_ret;exact⟨rfl,MoTo.of HM.out⟩
end Go.Proofs.YtbbdgokdfhdpiaaGreatDoor
