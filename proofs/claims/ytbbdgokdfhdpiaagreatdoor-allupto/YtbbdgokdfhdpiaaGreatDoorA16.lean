/- A part. -/
import Derived.Test.YtbbdgokdfhdpiaaGreatDoorA14
namespace Go.Proofs.YtbbdgokdfhdpiaaGreatDoor
set_option linter.all false
set_option maxRecDepth 100000
set_option maxHeartbeats 0
open Go.Proofs.Tryz Go.RowKit
theorem aER(c:Rc)(res own tok:Int):dJ (jX c res own tok)=[]:=rfl
theorem qI(x:Rm)(i:Nat)(c:Rc)(res own tok:Int):dP x i (fP c res tok) (jX c res own tok)={x with cls:=x.cls.set i (fP c res tok),tr:=x.tr++jX c res own tok}:=by
 unfold dP;rw[aER,aC]
section
variable (c:Rc) (kind base:Int) (v:Vl) (n:Nat)
theorem aAi:gV c kind base v (n+1)=gV c kind base v n++[sentEv ⟨kind,c.id,(n:Int),c.lock,c.bal,base,v⟩]:=by
 unfold gV;rw[List.range_succ,bU]
 rfl
theorem vP:(gV c kind base v n).length=n:=by simp[gV]
end
section
variable (x:Rm) (i:Nat) (c:Rc)
theorem aAg(e:List Ev)(m:Mg):dP x i c (e++[sentEv m])=jA (dP x i c e) m:=by
 unfold dP jA;dsimp only;rw[jB,rM (sentEv m) rfl,aS,aS]
 rfl
theorem fX:dP x i c []={x with cls:=x.cls.set i c}:=by
 unfold dP;rw[fF,aC,aC]
theorem aBa(e:List Ev):(dP x i c e).net.length≤x.net.length+e.length:=by
 unfold dP;dsimp only;rw[aD];have:=lS e;omega
theorem aCD(e:List Ev):(dP x i c e).tr.length=x.tr.length+e.length:=by
 unfold dP;dsimp only;rw[aD]
end
theorem mD{w:World}{base:Nat}{v:Value}{n:Nat}{xs:List Value}{t:TypeId}{sz:Nat}(h:w.ownsRow base t sz v n xs):∃p cap,v= .slice p n cap∧(0<n→∃g,p=some ⟨g,0,none⟩):=by
 rcases h.2 with⟨rfl,rfl⟩|⟨g,cap,a,rfl,_⟩
 ·exact⟨none,0,rfl,fun h=>absurd h (by omega)⟩
 ·exact⟨some ⟨g,0,none⟩,cap,rfl,fun _=>⟨g,rfl⟩⟩
theorem aCL{W:World}{t:TypeId}{sz:Nat}:W.ownsRow 0 t sz (.slice none 0 0) 0 []:=aZ _ _ _ _
section
variable (W:World) (own:Nat→Nat) (y:Nat) (x:Rm) (V:RmV) (i:Nat) (c:Rc)
theorem aBR(f:Cf)(N:Int)(h:RmAt W own y x V)(hi:i<x.cls.length)(hc:x.cls[i]=c)(ha:RcA N c)(hbs:RcB f N c)(hN:N≤90000000000)(hx5:x.acs.length≤5)(hn:x.net.length≤99999999990)(ht:x.tr.length≤99999999990):
 Calls prog 150 #[.pointer (some ⟨y,0,none⟩),.pointer (some ⟨V.bC i,0,none⟩)] W fun r W'=>r= .returned (.tuple #[])∧RmTo W own y V (dP x i (mW c) (kJ x.acs.length c)) W':=by
 obtain⟨B,F⟩:=aLz (V.bC i);rw[←F];have e9:=cN F;have o:W.heap[B]?=some (.cells (rcL c (V.mv i) (V.hv i) (V.bv i)).toArray 182 (0,0)):=by
  have:=(h.cls i hi).blk;rw[hc]at this;rw[F];exact this
 have r4:W.cell? ⟨B,4,none⟩=some (.int .i64 c.round):=cO o 4 _ rfl;have w4:IntKind.i64.wrap (c.round+1)=c.round+1:=fV (by have:=ha.r0;omega) (by have:=ha.r1;omega);have f5:=ha.r0;have f4:=ha.r1;by_cases l:1000<c.round+1
 ·have S:mW c=fP c 6 0:=if_pos l;have T:kJ x.acs.length c=jX c 6 0 0:=if_pos l;have a1:=cN (vI W own y x V i c f N h hi hc ha hbs hN 6 0 0 (by omega));rw[←F]at a1;have d2:=cN (qI x i c 6 0 0);rw[S,T,d2.out];have e0:decide (1000<c.round+1)=true:=by simp[l]
  clear l S T o F h hc;go_enter func150,ntmps150;go_wp2_with (go_at_call 180;refine a1.out.mono ?_;rintro e U ⟨rfl,b⟩)
  ((try simp only[Exit.inBlock,Exit.then]);refine bodyPost_ret (results_none rfl _ _ _) rfl ?_)
  exact⟨rfl,b⟩
 ·have S:mW c=qZ c:=if_neg l;have T:kJ x.acs.length c=gV (qZ c) 1 0 zVl x.acs.length:=if_neg l;rw[S,T];have e0:decide (1000<c.round+1)=false:=by simp;omega
  have z4:=cX o 4;have E:(W.setCell ⟨B,4,none⟩ (.int .i64 (c.round+1))).heap[B]?=some (.cells (rcL {c with round:=c.round+1} (V.mv i) (V.hv i) (V.bv i)).toArray 182 (0,0)):=dD o 4 _;have b4:=cY W B 4 (.int .i64 (c.round+1));generalize X:W.setCell ⟨B,4,none⟩ (.int .i64 (c.round+1))=U at*;have d4:=cN X;have f0:U.cell? ⟨B,42,none⟩=some (.int .i64 c.tries):=cO E 42 _ rfl;have b9:=cX E 42;have f1:IntKind.i64.wrap (c.tries+1)=c.tries+1:=fV (by have:=hbs.n0;omega) (by have:=hbs.n8;omega);have g:(U.setCell ⟨B,42,none⟩ (.int .i64 (c.tries+1))).heap[B]?=some (.cells (rcL {c with round:=c.round+1,tries:=c.tries+1} (V.mv i) (V.hv i) (V.bv i)).toArray 182 (0,0)):=dD E 42 _;have a4:=b4.trans (cY U B 42 (.int .i64 (c.tries+1))) (fun _ _ h=>h);generalize a0:U.setCell ⟨B,42,none⟩ (.int .i64 (c.tries+1))=W2 at*;have e7:=cN a0;have c6:W2.cell? ⟨B,4,none⟩=some (.int .i64 (c.round+1)):=cO g 4 _ rfl;have c1:W2.cell? ⟨B,1,none⟩=some (.int .i64 c.inc):=cO g 1 _ rfl;have c2:W2.cell? ⟨B,0,none⟩=some (.int .i64 c.id):=cO g 0 _ rfl;have w5:IntKind.i64.wrap (256*(c.round+1))=256*(c.round+1):=fV (by omega) (by omega);have w6:IntKind.i64.wrap (4*c.inc)=4*c.inc:=fV (by have:=ha.i0;omega) (by have:=ha.i1;omega);have w7:IntKind.i64.wrap (256*(c.round+1)+4*c.inc)=256*(c.round+1)+4*c.inc:=fV (by have:=ha.i0;omega) (by have:=ha.i1;omega);have w8:IntKind.i64.wrap (256*(c.round+1)+4*c.inc+c.id)=256*(c.round+1)+4*c.inc+c.id:=fV (by have:=ha.i0;have:=ha.d0;omega) (by have:=ha.i1;have:=ha.d3;omega);have f2:=cX g 44
  have c8:W2.cell? ⟨B,44,none⟩=some (.int .i64 c.bal):=cO g 44 _ rfl;have a7:(W2.setCell ⟨B,44,none⟩ (.int .i64 (256*(c.round+1)+4*c.inc+c.id))).heap[B]?=some (.cells (rcL {c with round:=c.round+1,tries:=c.tries+1,bal:=256*(c.round+1)+4*c.inc+c.id} (V.mv i) (V.hv i) (V.bv i)).toArray 182 (0,0)):=dD g 44 _;have a8:=a4.trans (cY W2 B 44 (.int .i64 (256*(c.round+1)+4*c.inc+c.id))) (fun _ _ h=>h);generalize b3:W2.setCell ⟨B,44,none⟩ (.int .i64 (256*(c.round+1)+4*c.inc+c.id))=W3 at*;have d6:=cN b3;have d:W3.drew.heap[B]?=some (.cells (rcL {c with round:=c.round+1,tries:=c.tries+1,bal:=256*(c.round+1)+4*c.inc+c.id} (V.mv i) (V.hv i) (V.bv i)).toArray 182 (0,0)):=a7;have t:=a8.drew;obtain⟨m,q⟩:=aLA (W3.drew);rw[q]at d t;have b5:=cN q;have r3:m.cell? ⟨B,3,none⟩=some (.int .i64 c.clock):=cO d 3 _ rfl;have d7:m.cell? ⟨B,45,none⟩=some (.int .i64 c.at_):=cO d 45 _ rfl;have c9:=cX d 45;have D:(m.setCell ⟨B,45,none⟩ (.int .i64 c.clock)).heap[B]?=some (.cells (rcL {c with round:=c.round+1,tries:=c.tries+1,bal:=256*(c.round+1)+4*c.inc+c.id,at_:=c.clock} (V.mv i) (V.hv i) (V.bv i)).toArray 182 (0,0)):=dD d 45 _;have a3:=t.trans (cY m B 45 (.int .i64 c.clock)) (fun _ _ h=>h);generalize a2:m.setCell ⟨B,45,none⟩ (.int .i64 c.clock)=W4 at*;have e5:=cN a2;have e8:W4.cell? ⟨B,46,none⟩=some (V.hv i):=cO D 46 _ rfl;have d8:=cX D 46
  have C:(W4.setCell ⟨B,46,none⟩ (.slice none 0 0)).heap[B]?=some (.cells (rcL {c with round:=c.round+1,tries:=c.tries+1,bal:=256*(c.round+1)+4*c.inc+c.id,at_:=c.clock,heard:=[]} (V.mv i) (.slice none 0 0) (V.bv i)).toArray 182 (0,0)):=dD D 46 _;have b1:=a3.trans (cY W4 B 46 (.slice none 0 0)) (fun _ _ h=>h);generalize a9:W4.setCell ⟨B,46,none⟩ (.slice none 0 0)=W5 at*;have d1:=cN a9;have e3:W5.cell? ⟨B,47,none⟩=some (.bool c.asked):=cO C 47 _ rfl;have c4:=cX C 47;have z:(W5.setCell ⟨B,47,none⟩ (.bool false)).heap[B]?=some (.cells (rcL {c with round:=c.round+1,tries:=c.tries+1,bal:=256*(c.round+1)+4*c.inc+c.id,at_:=c.clock,heard:=[],asked:=false} (V.mv i) (.slice none 0 0) (V.bv i)).toArray 182 (0,0)):=dD C 47 _;have a6:=b1.trans (cY W5 B 47 (.bool false)) (fun _ _ h=>h);generalize Y:W5.setCell ⟨B,47,none⟩ (.bool false)=W6 at*;have d5:=cN Y;have e6:W6.cell? ⟨B,71,none⟩=some (V.bv i):=cO z 71 _ rfl;have c0:=cX z 71;have b2:(W6.setCell ⟨B,71,none⟩ (.slice none 0 0)).heap[B]?=some (.cells (rcL (qZ c) (V.mv i) (.slice none 0 0) (.slice none 0 0)).toArray 182 (0,0)):=dD z 71 _;have I:=a6.trans (cY W6 B 71 (.slice none 0 0)) (fun _ _ h=>h);generalize b0:W6.setCell ⟨B,71,none⟩ (.slice none 0 0)=W7 at*;have d9:=cN b0;have H:own B=7+5*i:=by rw[F];exact h.clo i hi
  have b:RmTo W own y V {x with cls:=x.cls.set i (qZ c)} W7:=by
   refine h.client hi (c':=qZ c) (mv':=V.mv i) (hv':=.slice none 0 0) (bv':=.slice none 0 0) (I.mono (fun k _ e=>by subst e;exact Or.inl H)) ⟨by rw[←F];exact b2,?_,aCL,aCL⟩ (fun k u=>Or.inl (h.mo i hi k u)) (fun k u=>by cases u) (fun k u=>by cases u) (fun k _ u=>by cases u);have hm:=(h.cls i hi).mine;rw[hc]at hm;exact I.row hm (fun k u e=>by have:=h.mo i hi k u;subst e;omega)
  have a5:=cN b;clear b X a0 b3 a2 a9 Y b0 o E g a7 d D C z b2 b4 a4 a8 t a3 b1 a6 I H l S T h F q;obtain⟨n,Q⟩:=aLA (x.acs.length);rw[Q]at hx5⊢;have e4:=cN Q;clear Q;obtain⟨a,M⟩:=aLA (qZ c);rw[M]at a5⊢;have f7:=cN M;clear M;go_enter func150,ntmps150;go_wp2_with (first|rw[d4.out]|rw[e7.out]);clear r4 z4 f0 b9 w4;refine eD [0,0,0,0,1,0,0,0,0,1,0,0,0,0,0,1,0,0,0] (by kernel_rfl) (fun _ _ _ _=>rfl) ?_;simp only[dC,dB];iterate 19 (apply sB rfl rfl;·(intro x h;(try cases h rfl);go_simp;with_reducible rfl))
  refine cP ?_;try simp only[pA]
  go_wp2_with (first|rw[d6.out]|rw[b5.out]|rw[e5.out]|rw[d1.out]|rw[d5.out]|rw[d9.out]);clear c6 c1 c2 w5 w6 w7 w8 f2 c8 r3 d7 c9 e8 d8 e3 c4 e6 c0 f1;go_loopw [4] (fun j wr=>∃(k:Nat),k≤n∧j= .int .i64 k∧RmTo W own y V (dP x i a (gV a 1 0 zVl k)) wr) (fun j _=>n-(intOf j).toNat)
  case atStart=>exact⟨0,aI _,rfl,by have:=fX x i a;rw[show gV a 1 0 zVl 0=[]from rfl,this];exact a5.out⟩
  case round=>
   obtain⟨k,u,rfl,b⟩:=hrel;have HT:=cN b;obtain⟨b7,V1,R,J,w,s,P⟩:=b;have K:=R.rav;have p:(dP x i a (gV a 1 0 zVl k)).acs.length=n:=e4.out;have O:=aBa x i a (gV a 1 0 zVl k);have L:=aCD x i a (gV a 1 0 zVl k);rw[vP]at O L;obtain⟨pa,b6,A,_⟩:=mD K;rw[p]at A;have c7:wr.cell? ⟨y,7,none⟩=some (.slice pa n b6):=by rw[←A];exact R.cell 7 _ rfl
   by_cases c5:k<n
   ·have v:wr.heap[B]?=some (.cells (rcL a (V1.mv i) (V1.hv i) (V1.bv i)).toArray 182 (0,0)):=by
     have:=(R.cls i (by simpa[dP]using hi)).blk;rw[w,←e9.out]at this;simpa[dP]using this
    have d0:wr.cell? ⟨B,0,none⟩=some (.int .i64 a.id):=cO v 0 _ rfl;have f3:wr.cell? ⟨B,39,none⟩=some (.int .i64 a.lock):=cO v 39 _ rfl;have f6:wr.cell? ⟨B,44,none⟩=some (.int .i64 a.bal):=cO v 44 _ rfl;have HS:=cN (sY wr.drew b7 y _ V1 ⟨1,a.id,(k:Int),a.lock,a.bal,0,zVl⟩ R.drew (by omega) (by omega));have H1:=cN (aLq J w s P);clear R J w s P K O L p A v HT;go_wp2_with fail;clear c7;refine eD [0,0,0,0,1,0,0,0,0,0,1,0,0,0,1,0] (by kernel_rfl) (fun _ _ _ _=>rfl) ?_;simp only[dC,dB];iterate 16 (apply sB rfl rfl;·(intro x h;(try cases h rfl);go_simp;with_reducible rfl))
    refine cP ?_;try simp only[pA]
    go_wp2_with (go_at_call 158;refine HS.out.mono ?_;rintro e W9 ⟨rfl,b⟩);have G:RmTo W own y V (dP x i a (gV a 1 0 zVl (k+1))) W9:=by
     rw[aAi,aAg];exact RmTo.trans H1.out.1 H1.out.2.1 H1.out.2.2.1 H1.out.2.2.2 b.drew
    have c3:=cN G;clear b G;go_wp2_with fail;go_roundw
    case rel=>exact⟨k+1,by omega,by go_num,c3.out⟩
    case measure=>simp[intOf];omega
   ·have b8:k=n:=by omega
    subst b8;clear R J w s P K O L p A c5;go_wp2_with fail;go_end0;exact⟨rfl,HT.out⟩
theorem zC(N:Int)(h:RmAt W own y x V)(hi:i<x.cls.length)(hc:x.cls[i]=c)(ha:RcA N c)(hbs:RcB x.cf N c)(hN:N≤90000000000)(hx5:x.acs.length≤5)(hn:x.net.length≤99999999990)(ht:x.tr.length≤99999999990):
 Calls prog 151 #[.pointer (some ⟨y,0,none⟩),.pointer (some ⟨V.bC i,0,none⟩)] W fun r W'=>r= .returned (.tuple #[])∧RmTo W own y V (dP x i (tQ x.cf c) (qY x.cf x.acs.length c)) W':=by
 obtain⟨B,g⟩:=aLz (V.bC i);have d:W.heap[B]?=some (.cells (rcL c (V.mv i) (V.hv i) (V.bv i)).toArray 182 (0,0)):=by
  have:=(h.cls i hi).blk;rw[hc]at this;rw[g];exact this
 have o:W.cell? ⟨B,42,none⟩=some (.int .i64 c.tries):=cO d 42 _ rfl;have p:W.cell? ⟨y,3,none⟩=some (.int .i64 x.cf.tries):=h.cell 3 _ rfl;by_cases a:c.tries<x.cf.tries
 ·have f:tQ x.cf c=mW c:=if_pos a;have j:qY x.cf x.acs.length c=kJ x.acs.length c:=if_pos a;rw[f,j];have m:decide (c.tries<x.cf.tries)=true:=by simp[a]
  have k:=cN (aBR W.drew own y x V i c x.cf N h.drew hi hc ha hbs hN hx5 hn ht);rw[←g]at k⊢;clear a f j h d g hc;go_enter func151,ntmps151;go_wp2_with fail;refine eD [0,0,0,1,0,0,0,0,1,0] (by kernel_rfl) (fun _ _ _ _=>rfl) ?_;simp only[dC,dB];iterate 10 (apply sB rfl rfl;·(intro x h;(try cases h rfl);go_simp;with_reducible rfl))
  refine cP ?_;try simp only[pA]
  go_wp2_with (go_at_call 150;refine k.out.mono ?_;rintro e n ⟨rfl,b⟩)
  ((try simp only[Exit.inBlock,Exit.then]);refine bodyPost_ret (results_none rfl _ _ _) rfl ?_)
  exact⟨rfl,b.drew⟩
 ·have f:tQ x.cf c=fP c 5 0:=if_neg a;have j:qY x.cf x.acs.length c=jX c 5 0 0:=if_neg a;have m:decide (c.tries<x.cf.tries)=false:=by simp;omega
  have l:=cN (vI W.drew own y x V i c x.cf N h.drew hi hc ha hbs hN 5 0 0 (by omega));rw[f,j,qI];rw[←g]at l⊢;clear a f j h d g hc;go_enter func151,ntmps151;go_wp2_with fail;refine eD [0,0,0,1,0,0,0,0,1,0] (by kernel_rfl) (fun _ _ _ _=>rfl) ?_;simp only[dC,dB];iterate 10 (apply sB rfl rfl;·(intro x h;(try cases h rfl);go_simp;with_reducible rfl))
  refine cP ?_;try simp only[pA]
  go_wp2_with (go_at_call 180;refine l.out.mono ?_;rintro e n ⟨rfl,b⟩);go_end0;exact⟨rfl,b.drew⟩
end
abbrev RaAt(W:World)(b:Nat)(f:Cf)(a:Ra):Prop:=W.heap[b]?=some (.cells (raL f a).toArray 176 (0,0))
def RaTo(W:World)(b:Nat)(f:Cf)(a:Ra)(W':World):Prop:=RaAt W' b f a∧Chg (fun k=>k=b) W W'
theorem RaTo.of{W:World}{b:Nat}{f:Cf}{a:Ra}(h:RaAt W b f a):RaTo W b f a W:=⟨h,Chg.refl _ _⟩
theorem RaTo.trans{A B C:World}{b:Nat}{f:Cf}{a a1:Ra}(h:RaTo A b f a1 B)(k:RaTo B b f a C):RaTo A b f a C:=⟨k.1,h.2.trans k.2 (fun _ _ h=>h)⟩
section
variable {A B:World} {b:Nat} {f:Cf} {a:Ra}
theorem RaAt.below(h:RaAt A b f a)(hb:Below A.heap.size A B):RaAt B b f a:=(hb.block b (dG h)).trans h
theorem RaTo.below(h:RaAt A b f a)(hb:Below A.heap.size A B):RaTo A b f a B:=⟨RaAt.below h hb,(Chg.of_below (S:=NoS) hb).mono (fun _ _ h=>h.elim)⟩
end
section
variable (W:World) (b:Nat) (f:Cf) (a:Ra)
theorem zF(h:RaAt W b f a)(h1: -1≤a.left)(h2:a.left≤9223372036854775807):
 Calls prog 184 #[.pointer (some ⟨b,0,none⟩)] W fun r W'=>r= .returned (.bool (!(decide (a.left=0))))∧RaTo W b f (if a.left=0 then a else stepR a) W':=by
 have k:W.cell? ⟨b,10,none⟩=some (.int .i64 a.left):=cO h 10 _ rfl;have o:=cX h 10;by_cases c:a.left=0
 ·have l:(a.left==0)=true:=by simp[c]
  have m:=cN h;rw[if_pos c];simp only[c,decide_true,Bool.not_true];rw[c]at k;clear h c l;go_enter func184,ntmps184;go_wp2_with fail;go_ret;exact⟨rfl,RaTo.of m.out⟩
 ·have l:(a.left==0)=false:=by simp[c]
  rw[if_neg c];simp only[c,decide_false,Bool.not_false];by_cases d:0<a.left
  ·have g:=cY W b 10 (.int .i64 (a.left-1));have e:=dD h 10 (.int .i64 (a.left-1));have p:IntKind.i64.wrap (a.left-1)=a.left-1:=fV (by omega) (by omega);have q:wrap64 (a.left-1)=a.left-1:=by unfold wrap64;omega
   have i:Hid (RaTo W b f (stepR a) (W.setCell ⟨b,10,none⟩ (.int .i64 (a.left-1)))):=by
    refine⟨?_,g⟩;unfold stepR;rw[if_pos d];exact e
   have j:decide (0<a.left)=true:=by simp[d]
   clear h c g e d;generalize a.left=n at*;go_enter func184,ntmps184;go_wp2_with fail;go_ret;exact⟨rfl,i.out⟩
  ·have i:Hid (RaTo W b f (stepR a) W):=by
    refine⟨?_,Chg.refl _ _⟩;unfold stepR;rw[if_neg d];exact h
   have j:decide (0<a.left)=false:=by simp[d]
   clear h c d;go_enter func184,ntmps184;go_wp2_with fail;go_ret;exact⟨rfl,i.out⟩
theorem pQ(s:List Int)(h:RaAt W b f a):
 Calls prog 161 #[.pointer (some ⟨b,0,none⟩),.string (strOfNums s)] W fun r W'=>r= .returned (.tuple #[])∧RaTo W b f (fW a s) W':=by
 have k:=cX h 7;have i:=cX h 8;have j:=cX h 9;have d:=cX h 10;have l:W.cell? ⟨b,7,none⟩=some (.string (strOfNums a.log)):=cO h 7 _ rfl;have m:W.cell? ⟨b,8,none⟩=some (.bool a.up):=cO h 8 _ rfl;have g:W.cell? ⟨b,9,none⟩=some (.bool a.silent):=cO h 9 _ rfl;have e:W.cell? ⟨b,10,none⟩=some (.int .i64 a.left):=cO h 10 _ rfl;have c:Hid (RaTo W b f (fW a s) ((((W.setCell ⟨b,7,none⟩ (.string (strOfNums s))).setCell ⟨b,8,none⟩ (.bool false)).setCell ⟨b,9,none⟩ (.bool false)).setCell ⟨b,10,none⟩ (.int .i64 (-1)))):=by
  refine⟨?_,?_⟩
  ·exact dD (dD (dD (dD h 7 _) 8 _) 9 _) 10 _
  ·exact(((cY _ _ _ _).trans (cY _ _ _ _) (fun _ _ h=>h)).trans (cY _ _ _ _) (fun _ _ h=>h)).trans (cY _ _ _ _) (fun _ _ h=>h)
 clear h;go_enter func161,ntmps161;go_wp2_with fail;go_end0;exact⟨rfl,c.out⟩
theorem aCj(h:RaAt W b f a)(hl:a.log.length≤1000000000):
 Calls prog 159 #[.pointer (some ⟨b,0,none⟩)] W fun r W'=>r= .returned (.bool (aAR f.compact a))∧W'=W.drew:=by
 have d:W.cell? ⟨b,7,none⟩=some (.string (strOfNums a.log)):=cO h 7 _ rfl;have e:W.cell? ⟨b,5,none⟩=some (.int .i64 f.compact):=cO h 5 _ rfl;have g:=kH a.log;unfold aAR;have c:IntKind.i64.wrap (((a.log.length:Nat):Int) / 25)=((a.log.length:Nat):Int) / 25:=fV (by omega) (by omega);clear h;go_enter func159,ntmps159;go_wp2_with fail;refine eD [0,0,0,1,1,0,0,0,0,0,1,0,0] (by kernel_rfl) (fun _ _ _ _=>rfl) ?_;simp only[dC,dB];iterate 13 (apply sB rfl rfl;·(intro x h;(try cases h rfl);go_simp;with_reducible rfl))
 refine cP ?_;try simp only[pA]
 go_wp2_with fail;go_ret;exact⟨by simp[c],rfl⟩
theorem xC(h:RaAt W b f a)(hl:a.log.length≤1000000000)(hby:∀x ∈ a.log,0≤x∧x<256):
 Calls prog 149 #[.pointer (some ⟨b,0,none⟩)] W fun r W'=>∃v,r= .returned v∧W'.ownsRow W.heap.size 58 7 v (eG (dO a.log) 4).length (cellsOf (eG (dO a.log) 4))∧Below W.heap.size W W':=by
 have j:W.cell? ⟨b,7,none⟩=some (.string (strOfNums a.log)):=cO h 7 _ rfl;have c:=qR (strOfNums a.log) W (by rw[dU];omega);rw[nJ hby]at c;generalize (eG (dO a.log) 4)=T at c⊢;generalize (dO a.log).length=N at c;have g:=cN c;clear c h;go_enter func149,ntmps149;go_wp2_with (go_at_call 103;refine g.out.mono ?_;rintro e k ⟨v,rfl,d,i⟩);go_ret;exact⟨v,rfl,d,i⟩
end
section
open Go.Maps
theorem aB0(W:World)(d nm:Nat)(room:Int)(es:Array MapEntry)(clk:Nat)(h:W.heap[d]?=some (.cells #[.int .i64 room,.map (some nm),.map none,.pointer none] 212 (0,0)))(o1:W.heap[nm]?=some (.map es clk)):
 Calls prog 163 #[.pointer (some ⟨d,0,none⟩)] W fun e W'=>e= .returned (.tuple #[])∧W'.heap[d]?=some (.cells #[.int .i64 room,.map (some nm),.map (some W.heap.size),.pointer none] 212 (0,0))∧W'.heap[W.heap.size]?=some (.map es clk)∧Chg (fun x=>x=d) W W'∧W'.heap.size=W.heap.size+1:=by
 have l:Hid (Calls prog 185 #[.pointer (some ⟨d,0,none⟩)] W fun e W'=>e= .returned (.tuple #[])∧W'=W):=by
  have z:=cO h 3 _ rfl;clear h;show Calls _ _ _ _ _;go_enter func185,ntmps185;go_wp2
  (first|go_end0|((try simp only[Exit.inBlock,Exit.then]);refine bodyPost_ret (results_none rfl _ _ _) rfl ?_))
  exact⟨rfl,rfl⟩
 have k:=cN (yY W nm es clk o1);have v:=cO h 1 _ rfl;have t:=dG h;have b:Chg NoS W (W.alloc (.map es clk)):=(Chg.refl _ _).alloc _;have i:(W.alloc (.map es clk)).heap[W.heap.size]?=some (.map es clk):=aA W _;have g:(W.alloc (.map es clk)).heap.size=W.heap.size+1:=by simp
 have a:=b.kept h (fun h=>h);generalize o:W.alloc (.map es clk)=W2 at*;have u:=cX a 2;have y:=cO a 2 _ rfl;have c:=cY W2 d 2 (.map (some W.heap.size));have j:=dD a 2 (.map (some W.heap.size));have f:(W2.setCell ⟨d,2,none⟩ (.map (some W.heap.size))).heap.size=W.heap.size+1:=by simpa using g
 generalize n:W2.setCell ⟨d,2,none⟩ (.map (some W.heap.size))=W3 at*;have q:=cN n;have m:=c.kept i (by omega);have p:=cN (aLq j m ((b.mono (fun _ _ h=>h.elim):Chg (fun x=>x=d) W W2).trans c (fun x _ e=>e)) f);clear n c j i b o o1 m f g a h;go_enter func163,ntmps163;go_wp2_with (first|rw[q.out]|(go_at_call 185;refine l.out.mono ?_;rintro r w ⟨rfl,rfl⟩)|(go_at_call 186;refine k.out.mono ?_;rintro r s ⟨rfl,rfl⟩))
 (first|go_end0|((try simp only[Exit.inBlock,Exit.then]);refine bodyPost_ret (results_none rfl _ _ _) rfl ?_))
 exact⟨rfl,p.out⟩
theorem aFn{P:Program}{ops:Array Oper}{rest:List Oper}{o:Oper}{a:Act}{W:World}{Q:Exit→Act→World→Prop}(hg:o.guard=none)(t:TypeId)(m x y:Operand)(hop:o.op= .insert t m x y)(mv kv vv:Value)(hm:a.eval m=mv)(hx:a.eval x=kv)(hy:a.eval y=vv)(R:World→Prop)
 (hr:∃W',(Instr.mapUpdate t mv kv vv).run P W= .ok () W'∧R W') (h:∀W',R W'→wpList P ops Q rest (a.put o.dst undef) W'):wpList P ops Q (o::rest) a W:=by
 obtain⟨W',b,c⟩:=hr;refine xA hg W' ?_ (h W' c);simp[execOp,hop,hm,hx,hy,b,Result.andThen]
theorem aEx(W:World)(room:Int):
 Calls prog 122 #[.int .i64 room,vL] W fun e W'=>∃d F',e= .returned (.pointer (some ⟨d,0,none⟩))∧Disk W' F' d (aI8 room)∧Chg NoS W W'∧∀x,F' x→W.heap.size≤x:=by
 have a0:= @aCB prog;have R:(W.alloc (.map #[] 0)).ownsMap (H:=Unit) prog 9 rG W.heap.size 0 (.map []):=World.ownsMap_made _ _ _ _;have B:Chg NoS W (W.alloc (.map #[] 0)):=(Chg.refl _ _).alloc _;have c:(W.alloc (.map #[] 0)).heap.size=W.heap.size+1:=by simp
 generalize l:W.alloc (.map #[] 0)=W1 at*;have K:=cN l;have u:Chg NoS W1 (W1.alloc (.cells #[.string ⟨#[]⟩,.int .i64 0] 214)):=(Chg.refl _ _).alloc _;have y:FileAt (W1.alloc (.cells #[.string ⟨#[]⟩,.int .i64 0] 214)) (W.heap.size+1) [] 0:=by rw[←c];exact aA W1 _
 have v:(W1.alloc (.cells #[.string ⟨#[]⟩,.int .i64 0] 214)).heap.size=W.heap.size+2:=by simp[c]
 have L:=R.alloc (.cells #[.string ⟨#[]⟩,.int .i64 0] 214);generalize m:W1.alloc (.cells #[.string ⟨#[]⟩,.int .i64 0] 214)=W2 at*;have n:=cN m;obtain⟨a,g,M,D⟩:=L.store aAA underlying209 (by decide) aE1 (aBT (W.heap.size+1));have E:oH a W.heap.size (W.heap.size+1) none:=M.mono (by decide);have i:=pS D;have k:=(oF D).trans v;have A:FileAt a (W.heap.size+1) [] 0:=i.kept y (by omega);have f:Chg NoS a (a.alloc (.cells #[.int .i64 room,.map (some W.heap.size),.map none,.pointer none] 212)):=(Chg.refl _ _).alloc _;have z:(a.alloc (.cells #[.int .i64 room,.map (some W.heap.size),.map none,.pointer none] 212)).heap[W.heap.size+2]?=some (.cells #[.int .i64 room,.map (some W.heap.size),.map none,.pointer none] 212 (0,0)):=by rw[←k];exact aA a _
 have p:(a.alloc (.cells #[.int .i64 room,.map (some W.heap.size),.map none,.pointer none] 212)).heap.size=W.heap.size+3:=by simp[k]
 generalize s:a.alloc (.cells #[.int .i64 room,.map (some W.heap.size),.map none,.pointer none] 212)=W4 at*;have J:=cN s;have j:oH W4 W.heap.size (W.heap.size+1) none:=eB E (f.block _ E.lt (fun h=>h));have t:FileAt W4 (W.heap.size+1) [] 0:=f.kept A (fun h=>h);obtain⟨Q,o,F⟩:=eH j;have I:=cN (aB0 W4 (W.heap.size+2) W.heap.size room Q o z F);have S:Hid (Chg (fun x=>x=W.heap.size) W W4):=by
  have V:Chg (fun x=>x=W.heap.size) W W2:=(B.nos.nos' u);exact(V.trans i (fun _ _ h=>h)).nos' f
 have Y:Hid (∀b,b.heap[W.heap.size+2]?=some (.cells #[.int .i64 room,.map (some W.heap.size),.map (some W4.heap.size),.pointer none] 212 (0,0))→b.heap[W4.heap.size]?=some (.map Q o)→Chg (fun x=>x=W.heap.size+2) W4 b→b.heap.size=W4.heap.size+1→
  Disk b (fun x=>W.heap.size≤x∧x<W.heap.size+4) (W.heap.size+2) (aI8 room)∧Chg NoS W b):=fun b h1 h2 h3 h4=>by
  refine⟨⟨W.heap.size,W4.heap.size,W.heap.size+1,none,W.heap.size+1,.pointer none,⟨h1,by omega,eB j (h3.block _ j.lt (by omega)),sC j (h2.trans F.symm),by omega,by omega,by omega,h3.kept t (by omega),by omega,rfl,rfl,rfl,fun x hx=>by omega⟩⟩,?_⟩;have q:=(S.out.mono (fun _ _ h=>Or.inl h):Chg (fun x=>x=W.heap.size∨x=W.heap.size+2) W W4).trans h3 (fun x _ h=>Or.inr h);exact q.mono (fun x hx h=>by omega)
 have C:=cN g;have Z:=cN p;have G:=cN c;clear l m s g R L M D E j B u i f y A z c v p t F S;go_enter func122,ntmps122;go_wp2_with (first|rw[K.out]|(rw[G.out,n.out])|rw[n.out]|rw[J.out]|(refine aFn rfl 209 _ _ _ rfl (.map (some W.heap.size)) vL (rQ (W.heap.size+1)) rfl rfl rfl (fun w=>w=a) ⟨a,C.out,rfl⟩ ?_;rintro _ rfl)|(go_at_call 163;refine I.out.mono ?_;rintro r b ⟨rfl,P,N,T,O⟩;refine cQ ?_));obtain⟨U,X⟩:=Y.out b P N T O;clear P N T O;refine cN ?_;go_wp2_with fail;go_ret;exact⟨_,_,rfl,U,X,fun x hx=>hx.1⟩
end
end Go.Proofs.YtbbdgokdfhdpiaaGreatDoor
