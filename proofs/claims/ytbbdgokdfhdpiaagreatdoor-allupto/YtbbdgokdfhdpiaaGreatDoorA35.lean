/- A part. -/
import Derived.Test.YtbbdgokdfhdpiaaGreatDoorA22
import Derived.Test.YtbbdgokdfhdpiaaGreatDoorA33
namespace Go.Proofs.YtbbdgokdfhdpiaaGreatDoor
set_option linter.all false
set_option maxRecDepth 100000
set_option maxHeartbeats 0
open Go.Proofs.Tryz Go.RowKit
def uB(x:Rm)(i:Int):Int:=if dT i x.acs.length=true then tD (tB x i)else 1
def tZ(x:Rm)(i:Int):Rm:=if dT i x.acs.length=true then gF x i.toNat (oR x.cf (tB x i)) (rY (tB x i) i)else x
theorem aGp(W:World)(own:Nat→Nat)(y:Nat)(x:Rm)(V:RmV)(N i:Int)(h:RmAt W own y x V)(hok:tS N x)(hN:N≤80000000000):
 Calls prog 121 #[.pointer (some ⟨y,0,none⟩),.int .i64 i] W fun r W'=>r= .returned (.int .i64 (uB x i))∧RmTo W own y V (tZ x i) W':=by
 obtain⟨ie,a7,a8,b0,b1⟩:=info_parts nT;obtain⟨pc,b3,F,G⟩:=fK h.rav;have y7:W.cell? ⟨y,7,none⟩=some (.slice pc x.acs.length b3):=by rw[←F];exact h.cell 7 _ rfl
 have b7:=hok.n5;have c2:=hok.tr;have HT:=cN (RmTo.of h);unfold uB tZ;rcases kN i x.acs.length with⟨h0,S⟩|⟨h0,c6,S⟩|⟨k,rfl,R⟩
 ·rw[S];simp only[aU,if_false];clear h F G S;go_enter func121,ntmps121;go_wp2_with fail;go_ret;exact⟨rfl,HT.out⟩
 ·rw[S];simp only[aU,if_false];clear h F G S;go_enter func121,ntmps121;go_wp2_with fail;go_ret;exact⟨rfl,HT.out⟩
 ·rw[kQ k _ R,pP R,bB];simp only[if_true];obtain⟨g,rfl,hg⟩:=G k R;obtain⟨B,hB⟩:=aLz (V.bA k);have c3:W.cell? ⟨g,k,none⟩=some (.pointer (some ⟨B,0,none⟩)):=by rw[hB];exact hg
  have D:=hok.acs k R;obtain⟨a,ha⟩:=aLA (x.acs[k]);rw[ha]at D⊢;have u:RaAt W B x.cf a:=by have:=h.acs k R;rw[ha]at this;rw[hB];exact this
  have b8:W.cell? ⟨B,8,none⟩=some (.bool a.up):=cO u 8 _ rfl;have b9:W.cell? ⟨B,9,none⟩=some (.bool a.silent):=cO u 9 _ rfl;have p1:decide ((k:Int)<0)=false:=by simp
  have p2:decide ((x.acs.length:Int)≤(k:Int))=false:=by simp;omega
  have H:=cN h;have I:=cN (aLo hB ha);cases hu:a.up with
  |false=>
   rw[hu]at b8;have X:tD a=0:=if_neg (by rw[hu];simp);have U:oR x.cf a=jF x.cf a:=(if_neg (by rw[hu];simp)).trans (if_neg (by rw[hu];decide));have Y:rY a k=[jD k]:=(if_neg (by rw[hu];simp)).trans (if_neg (by rw[hu];decide));rw[X,U,Y];clear h F G hg X U Y hu ha hB u;go_enter func121,ntmps121;have a2:W.cell? ⟨y,10,none⟩=some V.tv:=H.out.cell 10 _ rfl;have d:=H.out.tr;have t:=aA W (.cells (evL (jD k)).toArray 70);go_wp2_with (first|(at_builtin;refine wpList_append_lies _ rfl _ _ 43 rfl 0 70 ie _ 19 152 underlying43 a7 a8 b0 b1 rfl (by decide) V.tv (x.tr).length (cZ evL (x.tr)) rfl (d.alloc _) ⟨W.heap.size,0,none⟩ 1 1 (evL (jD k)) rfl rfl (cR t) (nU _) (by decide) (by unfold maxLen;(try simp only[aD,aK]);omega) (by(try simp only[aD,aK]);omega) (aI _) (W.heap.size+1) (by simp) ?_;intro gt Q w f b p P;refine cQ ?_));have c:=H.out.trAppend (e:=jD k) (W1:=W.alloc (.cells (evL (jD k)).toArray 70)) ((Chg.refl _ _).alloc _) ⟨b.os,b.tape,b.output,b.size,b.block⟩ f (p.imp (fun h=>h) (fun h=>by simp;omega));have s:Chg (fun q=>some q=V.tv.ownBlock) W w:=(((Chg.refl NoS W).alloc _).mono (T:=fun q=>some q=V.tv.ownBlock) (fun _ _ h=>h.elim)).trans (Chg.of_grown ⟨b.os,b.tape,b.output,b.size,b.block⟩) (fun _ _ h=>h);have C:=s.kept H.out.blk (fun e=>by have:=H.out.tvo _ e.symm;have:=H.out.yo;omega);have c1:w.cell? ⟨y,10,none⟩=some V.tv:=cO C 10 _ rfl;have b4:=cX C 10;generalize J:w.setCell ⟨y,10,none⟩ (.slice (some ⟨gt,0,none⟩) ((x.tr).length+1) Q)=W14 at*;have a5:=cN J;obtain⟨M,V4,h4,A,L,m,K⟩:=c
   have v:k<(x).acs.length:=by simpa using R
   have o:RaAt W14 B x.cf (a):=by
    have:=h4.acs k v;rw[A]at this;have hb:V.bA k=B:=(I.out.1.symm);rw[hb]at this;rw[←I.out.2];exact this
   have a4:=cN (aAn W14 B x.cf (a) o D.len D.by_ D.l0 D.l1);have j:=cN (aLr h4 A L m K);clear s C f b p P t a2 d J h4 A L m K o;refine cN ?_;go_wp2_with (first|rw[a5.out]|(go_at_call 162;refine a4.out.mono ?_;rintro e a6 ⟨rfl,c⟩));go_ret;have h5:=j.out.1.acceptor v (jF x.cf (a)) (by rw[j.out.2.1,(I.out.1.symm)];exact c.2) (by rw[j.out.2.1,(I.out.1.symm)];exact c.1);have a3:Chg (fun z=>M z≠0) W14 a6:=c.2.mono (fun z _ e=>by subst e;have:=j.out.1.aco k v;rw[j.out.2.1,(I.out.1.symm)]at this;omega);have O:=RmTo.trans (V:=V) j.out.2.1 j.out.2.2.1 j.out.2.2.2.1 j.out.2.2.2.2 (RmTo.trans (V:=V4) (V1:=V4) rfl rfl a3 (fun _ h=>Or.inl h) (RmTo.of h5));refine⟨rfl,?_⟩;have e4:gF x k (jF x.cf a) [jD k]={x with acs:=x.acs.set k (jF x.cf a),tr:=x.tr++[jD k]}:=by
    unfold gF;rw[fE _ (by show(5:Int)≠1;decide),aC]
   rw[e4];exact O
  |true=>
   rw[hu]at b8;cases hs:a.silent with
   |false=>
    rw[hs]at b9;have X:tD a=3:=if_pos ⟨hu,hs⟩;have U:oR x.cf a=a:=if_pos ⟨hu,hs⟩;have Y:rY a k=[]:=if_pos ⟨hu,hs⟩;rw[X,U,Y,sF,←ha,bH];clear h F G hg X U Y hu hs ha hB u;go_enter func121,ntmps121;go_wp2_with fail;go_ret;exact⟨rfl,HT.out⟩
   |true=>
    rw[hs]at b9;have X:tD a=0:=if_neg (by rw[hs];simp);have U:oR x.cf a=jF x.cf (fW a a.log):=(if_neg (by rw[hs];simp)).trans (if_pos hu);have Y:rY a k=[eO k,jD k]:=(if_neg (by rw[hs];simp)).trans (if_pos hu);rw[X,U,Y];have d7:W.cell? ⟨B,7,none⟩=some (.string (strOfNums a.log)):=cO u 7 _ rfl;have b6:=cN (pQ W B x.cf a a.log u);clear h F G hg X U Y hu hs ha hB u;go_enter func121,ntmps121;go_wp2_with (go_at_call 161;refine b6.out.mono ?_;rintro e W3 ⟨rfl,c⟩;refine cQ ?_);have h3:=H.out.acceptor R (fW a a.log) (by rw[←I.out.1];exact c.2) (by rw[←I.out.1];exact c.1);have c0:=cN (mG W3 own y {x with acs:=x.acs.set k (fW a a.log)} V k (fW a a.log) h3 (by simpa using R) (by simp) (by simpa using b7) (by show x.tr.length≤_;omega));have a1:Chg (fun z=>own z≠0) W W3:=c.2.mono (fun z _ e=>by subst e;rw[I.out.1];have:=H.out.aco k R;omega);have b5:=cN a1;clear c h3 b8 b9 d7 a1;refine cN ?_;go_wp2_with (go_at_call 157;refine c0.out.mono ?_;rintro e W4 ⟨rfl,c⟩;refine cQ ?_);obtain⟨own1,V1,S,a9,b2,a0,Z⟩:=c;have e5:jQ (fW a a.log) (k:Int)=[eO k]:=rfl;rw[e5]at S;have HH:=cN S;have l:=cN (aLq a9 b2 a0 Z);clear S a9 b2 a0 Z e5;refine cN ?_;have a2:W4.cell? ⟨y,10,none⟩=some V1.tv:=HH.out.cell 10 _ rfl;have d:=HH.out.tr;obtain⟨n,hn⟩:=aLz ((x.tr++[eO k]).length);have c4:n≤x.tr.length+1:=by rw[hn];simp
    have c5:x.tr.length+1≤n:=by rw[hn];simp
    rw[←hn]at d;have Hn:=cN hn;clear hn;have t:=aA W4 (.cells (evL (jD k)).toArray 70);go_wp2_with (first|(at_builtin;refine wpList_append_lies _ rfl _ _ 43 rfl 0 70 ie _ 19 152 underlying43 a7 a8 b0 b1 rfl (by decide) V1.tv n (cZ evL (x.tr++[eO k])) rfl (d.alloc _) ⟨W4.heap.size,0,none⟩ 1 1 (evL (jD k)) rfl rfl (cR t) (nU _) (by decide) (by unfold maxLen;(try simp only[aD,aK]);omega) (by(try simp only[aD,aK]);omega) (aI _) (W4.heap.size+1) (by simp) ?_;intro gt Q w f b p P;refine cQ ?_));have E:=f;rw[Hn.out]at E;have c:=HH.out.trAppend (e:=jD k) (W1:=W4.alloc (.cells (evL (jD k)).toArray 70)) ((Chg.refl _ _).alloc _) ⟨b.os,b.tape,b.output,b.size,b.block⟩ E (p.imp (fun h=>h) (fun h=>by simp;omega));dsimp only at c;rw[←Hn.out]at c;have s:Chg (fun q=>some q=V1.tv.ownBlock) W4 w:=(((Chg.refl NoS W4).alloc _).mono (T:=fun q=>some q=V1.tv.ownBlock) (fun _ _ h=>h.elim)).trans (Chg.of_grown ⟨b.os,b.tape,b.output,b.size,b.block⟩) (fun _ _ h=>h);have C:=s.kept HH.out.blk (fun e=>by have:=HH.out.tvo _ e.symm;have:=HH.out.yo;omega);have c1:w.cell? ⟨y,10,none⟩=some V1.tv:=cO C 10 _ rfl;have b4:=cX C 10;generalize J:w.setCell ⟨y,10,none⟩ (.slice (some ⟨gt,0,none⟩) (n+1) Q)=W14 at*;have a5:=cN J;obtain⟨M,V4,h4,A,L,m,K⟩:=c;have v:k<({x with acs:=x.acs.set k (fW a a.log),tr:=x.tr++[eO k]}).acs.length:=by simpa using R
    have o:RaAt W14 B x.cf (fW a a.log):=by
     have:=h4.acs k v;rw[A]at this;have hb:V1.bA k=B:=(show V1.bA k=B from by rw[l.out.1];exact I.out.1.symm);rw[hb]at this;simpa using this
    have a4:=cN (aAn W14 B x.cf (fW a a.log) o D.len D.by_ (by show(-1:Int)≤ -1;decide) (by show(-1:Int)≤_;decide));have j:=cN (aLr h4 A L m K);clear s C f b p P t a2 d J h4 A L m K o;refine cN ?_;go_wp2_with (first|rw[a5.out]|(go_at_call 162;refine a4.out.mono ?_;rintro e a6 ⟨rfl,c⟩));go_ret;have h5:=j.out.1.acceptor v (jF x.cf (fW a a.log)) (by rw[j.out.2.1,(show V1.bA k=B from by rw[l.out.1];exact I.out.1.symm)];exact c.2) (by rw[j.out.2.1,(show V1.bA k=B from by rw[l.out.1];exact I.out.1.symm)];exact c.1);have a3:Chg (fun z=>M z≠0) W14 a6:=c.2.mono (fun z _ e=>by subst e;have:=j.out.1.aco k v;rw[j.out.2.1,(show V1.bA k=z from by rw[l.out.1];exact I.out.1.symm)]at this;omega);have O:=RmTo.trans (V:=V1) j.out.2.1 j.out.2.2.1 j.out.2.2.2.1 j.out.2.2.2.2 (RmTo.trans (V:=V4) (V1:=V4) rfl rfl a3 (fun _ h=>Or.inl h) (RmTo.of h5));refine⟨rfl,RmTo.trans (own1:=own) (V1:=V) rfl rfl b5.out (fun _ h=>Or.inl h) (RmTo.trans l.out.1 l.out.2.1 l.out.2.2.1 l.out.2.2.2 ?_)⟩;have e4:gF x k (jF x.cf (fW a a.log)) [eO k,jD k]={x with acs:=x.acs.set k (jF x.cf (fW a a.log)),tr:=x.tr++[eO k]++[jD k]}:=by
     unfold gF;rw[show dJ [eO (k:Int),jD k]=[]from rfl,aC];simp
    rw[e4];simpa using O
theorem aHr(W:World)(own:Nat→Nat)(y:Nat)(x:Rm)(V:RmV)(N:Int)(q:Nat)(k:Int)(lk:Nat)(t u:Int)(h:RmAt W own y x V)(hok:tS N x)(hN:N≤80000000000)(hq:q<x.cls.length)(c:Rc)(hc:x.cls[q]=c)(hu:c.up=true)(hbz:c.busy=false)(hl3:lk≤3)(hku:(1≤k∧k≤2∧u=t∧1≤t∧t≤1000)∨(3≤k∧k≤4∧u=0)):
 Calls prog 113 #[.pointer (some ⟨y,0,none⟩),.int .i64 q,.int .i64 k,.int .i64 lk,.int .i64 t] W fun r W'=>r= .returned (.int .i64 0)∧RmTo W own y V (dP x q (mW (nI c k lk u)) (kG c.id k lk u::kJ x.acs.length (nI c k lk u))) W':=by
 obtain⟨ie,i3,i4,j2,k2⟩:=info_parts nT;obtain⟨pc,g9,d9,g1⟩:=fK h.rcv;have y8:W.cell? ⟨y,8,none⟩=some (.slice pc x.cls.length g9):=by rw[←d9];exact h.cell 8 _ rfl
 have k7:=hok.c4;have i9:=hok.n5;have k6:=hok.tr;have k9:=hok.net;obtain⟨g,rfl,hg⟩:=g1 q hq;obtain⟨B,hB⟩:=aLz (V.bC q);have h7:W.cell? ⟨g,q,none⟩=some (.pointer (some ⟨B,0,none⟩)):=by rw[hB];exact hg
 have F:=(hok.cls q hq).1;rw[hc]at F;have e6:c.id=(q:Int):=by have:=hok.ids q hq;rw[hc]at this;exact this
 have f:=hok.rest q hq;rw[hc]at f;have Y:RcAt W B c (V.mv q) (V.hv q) (V.bv q):=by have:=h.cls q hq;rw[hc]at this;rw[hB];exact this
 have b8:=Y.blk;have b2:W.cell? ⟨B,2,none⟩=some (.bool true):=by rw[←hu];exact Y.cell 2 _ rfl
 have j9:W.cell? ⟨B,37,none⟩=some (.bool false):=by rw[←hbz];exact Y.cell 37 _ rfl
 have i2:=cX b8 37;have f1:decide ((q:Int)<0)=false:=by simp
 have f2:decide ((x.cls.length:Int)≤(q:Int))=false:=by simp;omega
 have f3:decide (k<1)=false:=by simp;omega
 have f4:decide (4<k)=false:=by simp;omega
 have f5:decide ((lk:Int)<0)=false:=by simp
 have f6:decide ((3:Int)<(lk:Int))=false:=by simp;omega
 have l0:(lk:Int)<4:=by omega
 have g5:(W.setCell ⟨B,37,none⟩ (.bool true)).heap[B]?=some (.cells (rcL {c with busy:=true} (V.mv q) (V.hv q) (V.bv q)).toArray 182 (0,0)):=dD b8 37 _;have g7:=cY W B 37 (.bool true);generalize c5:W.setCell ⟨B,37,none⟩ (.bool true)=W1 at*;have i5:=cN c5;have H:=cN h;have HB:=cN (aLp hB hc e6);have H1:=cN (aLo g7 g5);clear c5 g7 h d9 g1 hg Y b8 hB hc e6 hbz hu;have i8:=cN hku;have c9:=F.k0;have a6:=F.k1;have hw:(k≤2∧u=t∧c.clock+t<c.til lk)∨(k≤2∧u=t∧¬c.clock+t<c.til lk)∨k=3∧u=0∨k=4∧u=0:=by omega
 have w3:wrap64 c.clock=c.clock:=by unfold wrap64;omega
 have w2:IntKind.i64.wrap c.clock=c.clock:=fV (by omega) (by omega);have a8:(0:Int)≤u∧u≤1000:=by omega
 have b6:=cN a8;clear hku a8;rcases hw with⟨i,rfl,a⟩|⟨i,rfl,a⟩|⟨i,c0⟩|⟨i,c0⟩;all_goals
  have hK:=i8.out;first
   |have f7:decide (k≤2)=true:=by simp;omega
    have f8:decide (u<1)=false:=by simp;omega
    have f9:decide (1000<u)=false:=by simp;omega
    have j7:decide (2<k)=false:=by simp;omega
    have d1:(k==3)=false:=by simp;omega
    have w1:IntKind.i64.wrap (c.clock+u)=c.clock+u:=fV (by omega) (by omega);have HC:=cN (aLo i a);clear hK i a c9 a6
   |have f7:decide (k≤2)=false:=by simp;omega
    have j7:decide (2<k)=true:=by simp;omega
    have HC:=cN (aLo i c0);clear hK c9 a6 c0;first
     |have d1:(k==3)=true:=by rw[i];rfl
      clear i
     |have d1:(k==3)=false:=by rw[i];rfl
      clear i
  go_enter func113,ntmps113;go_wp2_with (first|rw[i5.out]|(refine ws H1.out.2 (rcL {c with busy:=true,kind:=k,lock:=(lk:Int),ttl:=u} (V.mv q) (V.hv q) (V.bv q)) rfl rfl rfl rfl (by kernel_rfl) (by first|rfl|(rw[HC.out.2];rfl)) ?_;intro W2 d8 h5 K;refine cQ ?_));have a7:=H1.out.1.trans d8 (fun _ _ h=>h);clear d8 h5 y8 h7 b2 j9 i2 g5 H1;have d3:W2.cell? ⟨B,3,none⟩=some (.int .i64 c.clock):=cO K 3 _ rfl;have j1:W2.cell? ⟨B,41,none⟩=some (.int .i64 c.began):=cO K 41 _ rfl;have i7:=cX K 41;have X:(W2.setCell ⟨B,41,none⟩ (.int .i64 c.clock)).heap[B]?=some (.cells (rcL {c with busy:=true,kind:=k,lock:=(lk:Int),ttl:=u,began:=c.clock} (V.mv q) (V.hv q) (V.bv q)).toArray 182 (0,0)):=dD K 41 _;have e1:=a7.trans (cY W2 B 41 (.int .i64 c.clock)) (fun _ _ h=>h);generalize g2:W2.setCell ⟨B,41,none⟩ (.int .i64 c.clock)=W3 at*;have j0:=cN g2;have h6:W3.cell? ⟨B,42,none⟩=some (.int .i64 c.tries):=cO X 42 _ rfl;have h3:=cX X 42;have a3:(W3.setCell ⟨B,42,none⟩ (.int .i64 0)).heap[B]?=some (.cells (rcL {c with busy:=true,kind:=k,lock:=(lk:Int),ttl:=u,began:=c.clock,tries:=0} (V.mv q) (V.hv q) (V.bv q)).toArray 182 (0,0)):=dD X 42 _;have a4:=e1.trans (cY W3 B 42 (.int .i64 0)) (fun _ _ h=>h);generalize d6:W3.setCell ⟨B,42,none⟩ (.int .i64 0)=W4 at*;have j3:=cN d6;have j8:W4.cell? ⟨B,43,none⟩=some (V.mv q):=cO a3 43 _ rfl;have h8:=cX a3 43
  have a2:(W4.setCell ⟨B,43,none⟩ (.slice none 0 0)).heap[B]?=some (.cells (rcL {c with busy:=true,kind:=k,lock:=(lk:Int),ttl:=u,began:=c.clock,tries:=0,mine:=[]} (.slice none 0 0) (V.hv q) (V.bv q)).toArray 182 (0,0)):=dD a3 43 _;have f0:=a4.trans (cY W4 B 43 (.slice none 0 0)) (fun _ _ h=>h);generalize e2:W4.setCell ⟨B,43,none⟩ (.slice none 0 0)=W5 at*;have h9:=cN e2;have j5:W5.cell? ⟨B,44,none⟩=some (.int .i64 c.bal):=cO a2 44 _ rfl;have k3:=cX a2 44;obtain⟨p,b⟩:=aLz (({c with busy:=true,kind:=k,lock:=(lk:Int),ttl:=u,began:=c.clock,tries:=0,mine:=[],bal:=0}:Rc));have a0:(W5.setCell ⟨B,44,none⟩ (.int .i64 0)).heap[B]?=some (.cells (rcL p (.slice none 0 0) (V.hv q) (V.bv q)).toArray 182 (0,0)):=by rw[b];exact dD a2 44 _
  have e0:=f0.trans (cY W5 B 44 (.int .i64 0)) (fun _ _ h=>h);generalize d2:W5.setCell ⟨B,44,none⟩ (.int .i64 0)=W6 at*;have i6:=cN d2;have m:W6.drew.heap[B]?=some (.cells (rcL p (.slice none 0 0) (V.hv q) (V.bv q)).toArray 182 (0,0)):=a0;have O:=e0.drew;obtain⟨l,P⟩:=aLA (W6.drew);rw[P]at m O;have b5:=cN P;have e3:W6.cell? ⟨B,3,none⟩=some (.int .i64 c.clock):=by have:=cO a0 3 (.int .i64 p.clock) rfl;rw[b]at this;exact this
  have eT:W6.cell? ⟨B,9+lk,none⟩=some (.int .i64 (c.til lk)):=by have:=cO a0 (9+lk) (.int .i64 (p.til lk)) (by rw[List.getElem?_toArray];exact oY p _ _ _ lk hl3);rw[b]at this;exact this
  have g3:l.cell? ⟨B,3,none⟩=some (.int .i64 c.clock):=by have:=cO m 3 (.int .i64 p.clock) rfl;rw[b]at this;exact this
  have gT:l.cell? ⟨B,9+lk,none⟩=some (.int .i64 (c.til lk)):=by have:=cO m (9+lk) (.int .i64 (p.til lk)) (by rw[List.getElem?_toArray];exact oY p _ _ _ lk hl3);rw[b]at this;exact this
  have zT:=cX m (9+lk);have d5:=cN b;have H6:=cN (aLo O m);clear g2 d6 e2 d2 P K X a3 a2 a0 m a7 e1 a4 f0 e0 O b;refine cN ?_;go_wp2_with (first|rw[j0.out]|rw[j3.out]|rw[h9.out]|rw[i6.out]);clear j1 i7 h6 h3 j8 h8 j5 k3 d3;obtain⟨s,A⟩:=aLz (nI c k lk u);have S:s={p with til:=aFC c k lk u}:=by rw[A,d5.out];rfl
  have a1:p.til=c.til:=by rw[d5.out]
  first
   |have a:=HC.out.2
    have Q:decide (c.clock+u<c.til lk)=true:=by simp[a]
    rw[show aFC c k lk u=upd p.til lk (c.clock+u)from a1▸if_pos (Or.inr HC.out)]at S;clear a;have I:(l.setCell ⟨B,9+lk,none⟩ (.int .i64 (c.clock+u))).heap[B]?=some (.cells (rcL s (.slice none 0 0) (V.hv q) (V.bv q)).toArray 182 (0,0)):=by
     rw[S,←yF p _ _ _ lk hl3];exact dD H6.out.2 (9+lk) _
    have d:=H6.out.1.trans (cY l B (9+lk) (.int .i64 (c.clock+u))) (fun _ _ h=>h);generalize o:l.setCell ⟨B,9+lk,none⟩ (.int .i64 (c.clock+u))=E at*;have U:=cN o;clear o S
   |have a:=HC.out.1
    rw[show aFC c k lk u=upd p.til lk c.clock from a1▸(if_pos (Or.inl a)).trans (by rw[HC.out.2,Int.add_zero])]at S;clear a;have I:(l.setCell ⟨B,9+lk,none⟩ (.int .i64 (c.clock))).heap[B]?=some (.cells (rcL s (.slice none 0 0) (V.hv q) (V.bv q)).toArray 182 (0,0)):=by
     rw[S,←yF p _ _ _ lk hl3];exact dD H6.out.2 (9+lk) _
    have d:=H6.out.1.trans (cY l B (9+lk) (.int .i64 (c.clock))) (fun _ _ h=>h);generalize o:l.setCell ⟨B,9+lk,none⟩ (.int .i64 (c.clock))=E at*;have U:=cN o;clear o S
   |have Q:True∨decide (c.clock+u<c.til lk)=false:=Or.inl trivial
    rw[show aFC c k lk u=p.til from a1▸if_neg (by have:=HC.out;omega)]at S;have I:l.heap[B]?=some (.cells (rcL s (.slice none 0 0) (V.hv q) (V.bv q)).toArray 182 (0,0)):=by rw[S];exact H6.out.2
    have d:=H6.out.1;obtain⟨E,o⟩:=aLA (l);rw[o]at I d;have U:=cN o;clear o S Q;try have Q:decide (c.clock+u<c.til lk)=false:=by have:=HC.out;simp;omega
  clear a1;have b1:own B=7+5*q:=by rw[HB.out.1];exact H.out.clo q hq
  have J:RmTo W own y V {x with cls:=x.cls.set q s} E:=by
   refine H.out.client hq (c':=s) (mv':=.slice none 0 0) (hv':=V.hv q) (bv':=V.bv q) (d.mono (fun k _ e=>by subst e;exact Or.inl b1)) ⟨by rw[←HB.out.1];exact I,by rw[A];exact aCL,?_,?_⟩ (fun k i=>by cases i) (fun k i=>Or.inl (H.out.ho q hq k i)) (fun k i=>Or.inl (H.out.bo q hq k i)) (fun k i=>by cases i)
   ·have hm:=(H.out.cls q hq).heard;rw[HB.out.2.1]at hm;rw[A];exact d.row hm (fun k i e=>by have:=H.out.ho q hq k i;subst e;omega)
   ·have hm:=(H.out.cls q hq).back;rw[HB.out.2.1]at hm;rw[A];exact d.row hm (fun k i e=>by have:=H.out.bo q hq k i;subst e;omega)
  obtain⟨k4,V1,h1,e4,d4,b0,g4⟩:=J;have b7:E.cell? ⟨y,10,none⟩=some V1.tv:=h1.cell 10 _ rfl;have b9:Hid (∀j v,([.int .i64 k,.int .i64 lk,.int .i64 u]:List Value)[j]?=some v→E.cell? ((⟨B,38,none⟩:Addr).add j)=some v):=
   eL I 38 _ (fun j v hj=>by
    have l1:j<3:=(aF.1 hj).1;rw[A];rcases j with _|_|_|j<;>first|exact hj|omega)
  have M:=cN h1;have L:=cN (aLq e4 d4 b0 g4);have c1:=cN A;clear h1 e4 d4 b0 g4 I d A b1;refine eD [0,0,0,0,0,0,0,0,0,0,0,1,0,0,0,1,0,0,0,0,0] (by kernel_rfl) (fun _ _ _ _=>rfl) ?_;simp only[dC,dB];iterate 21 ((try simp only[pA]);first|(apply sB rfl rfl;·(intro x h;(try cases h rfl);go_simp;with_reducible rfl))|apply dN rfl|apply dL rfl)
  refine cP ?_;try simp only[pA]
  go_wp2_with (first|rw[b5.out]|rw[U.out]);try
   refine eD [0,0,0,0,0,1,0,0,0,0,0] (by kernel_rfl) (fun _ _ _ _=>rfl) ?_;simp only[dC,dB];iterate 11 (apply sB rfl rfl;·(intro x h;(try cases h rfl);go_simp;with_reducible rfl))
   refine cP ?_;try simp only[pA]
   go_wp2_with (first|rw[b5.out]|rw[U.out])
  clear e3 eT g3 gT zT;refine rlx [0,0,0,0,1,0,0,0,0,1,0,2] (fun z=>z.cell? ⟨y,10,none⟩=some V1.tv∧∀j v,([.int .i64 k,.int .i64 lk,.int .i64 u]:List Value)[j]?=some v→z.cell? ((⟨B,38,none⟩:Addr).add j)=some v) (by kernel_rfl) (fun _ _ _ _=>rfl) ?_ ?_
  ·exact⟨b7,fun j u hj=>b9.out j u hj⟩
  simp only[dC,dB];iterate 9 (apply sB rfl rfl;·(intro x h;(try have h:=h rfl);(try dsimp only at h);go_simp;with_reducible rfl))
  try simp only[pA]
  refine dA (v:=.agg #[.int .i64 k,.int .i64 lk,.int .i64 u]) rfl (fun zz hx=>cU 68 _ rfl ⟨B,38,none⟩ rfl ([.int .i64 k,.int .i64 lk,.int .i64 u]) _ hx.2 underlying68 rfl (by kernel_rfl)) ?_;iterate 1 (apply sB rfl rfl;·(intro x h;(try have h:=h rfl);(try dsimp only at h);go_simp;with_reducible rfl))
  try simp only[pA]
  (try simp only[pA]);refine dI rfl (fun C hC=>?_);go_simp;have j6:Hid (kG (q:Int) k lk u=kG c.id k lk u):=by rw[HB.out.2.2];exact rfl
  have G:Chg NoS E.drew (E.drew.alloc (.cells (evL (kG (q:Int) k lk u)).toArray 70)):=(Chg.refl _ _).alloc _;have b4:=aA E.drew (.cells (evL (kG (q:Int) k lk u)).toArray 70);refine hC _ _ ⟨G.cellN b7,fun j u hj=>by
   have e:(⟨B,38,none⟩:Addr).add j=⟨B,38+j,none⟩:=by unfold Addr.add;split<;>simp_all
   have:=b9.out j u hj;rw[e]at this⊢;exact G.cellN this⟩ ?_
  clear hC C;refine cP ?_;refine wpList_append_lies _ rfl _ _ 43 rfl 0 70 ie _ 19 152 underlying43 i3 i4 j2 k2 rfl (by decide) V1.tv x.tr.length (cZ evL x.tr) rfl (G.row (show E.drew.ownsRow 0 70 19 V1.tv x.tr.length (cZ evL x.tr)from M.out.tr) (fun _ _ h=>h)) ⟨E.heap.size,0,none⟩ 1 1 (evL (kG (q:Int) k lk u)) rfl rfl (cR b4) (nU _) (by decide) (by unfold maxLen;omega) (by omega) (aI _) (E.heap.size+1) (by simp) ?_;intro gt h2 W9 R n a9 h0;have D:(E.drew.alloc (.cells (evL (kG (q:Int) k lk u)).toArray 70)).grownBy W9 V1.tv.ownBlock:=⟨n.os,n.tape,n.output,n.size,n.block⟩;have J:=M.out.trAppend (e:=kG (q:Int) k lk u) (W1:=E.drew.alloc (.cells (evL (kG (q:Int) k lk u)).toArray 70)) G.of_drew D R (a9.imp (fun h=>h) (fun h=>by simp;omega));have b3:Chg (fun q=>some q=V1.tv.ownBlock) E W9:=(G.of_drew.mono (T:=fun q=>some q=V1.tv.ownBlock) (fun _ _ h=>h.elim)).trans (Chg.of_grown D) (fun _ _ h=>h);have c2:=b3.kept M.out.blk (fun e=>by have:=M.out.tvo _ e.symm;have:=M.out.yo;omega);have l2:W9.cell? ⟨y,10,none⟩=some V1.tv:=cO c2 10 _ rfl;have k5:=cX c2 10;generalize c7:W9.setCell ⟨y,10,none⟩ (.slice (some ⟨gt,0,none⟩) (x.tr.length+1) h2)=W10 at*;have j4:=cN c7;obtain⟨g8,V4,h4,e7,c3,a5,d7⟩:=J;have g6:({x with cls:=x.cls.set q s,tr:=x.tr++[kG (q:Int) k lk u]}:Rm).cls[q]'(by simpa using hq)=s:=by simp
  have g0:V4.bC q=B:=by rw[c3,L.out.2.1];exact HB.out.1.symm
  have e5:=cN (aBR W10 g8 y {x with cls:=x.cls.set q s,tr:=x.tr++[kG (q:Int) k lk u]} V4 q s x.cf N h4 (by simpa using hq) g6
   (by rw[c1.out];exact⟨F.d0,F.d3,F.i0,F.i1,F.k0,F.k1,F.r0,F.r1,F.w⟩)
   (by rw[c1.out];exact⟨by show 0≤(lk:Int);omega,by show(lk:Int)≤3;omega,by show(0:Int)≤u;exact b6.out.1,by show(u:Int)≤1000;exact b6.out.2,F.k0,F.k1,by show(0:Int)≤0;omega,by show(0:Int)≤8;omega,f.1,f.2.1,by show((0:Nat):Int)≤N;omega,f.2.2.1,f.2.2.2⟩) (by omega) i9 (by show x.net.length≤_;omega) (by show(x.tr++[kG (q:Int) k lk u]).length≤_;rw[aD,aK];omega))
  rw[g0]at e5;have H4:=cN (aLq e7 c3 a5 d7);clear b3 c2 R n D a9 h0 b4 G b7 c7 h4 e7 c3 a5 d7 g6 g0 b9;go_wp2_with (first|rw[j4.out]|(go_at_call 150;refine e5.out.mono ?_;rintro e k8 ⟨rfl,J⟩));go_ret;refine⟨rfl,RmTo.trans L.out.1 L.out.2.1 L.out.2.2.1 L.out.2.2.2 (RmTo.trans H4.out.1 H4.out.2.1 H4.out.2.2.1 H4.out.2.2.2 ?_)⟩;have e9:dP x q (mW (nI c k lk u)) (kG c.id k lk u::kJ x.acs.length (nI c k lk u))=dP {x with cls:=x.cls.set q s,tr:=x.tr++[kG (q:Int) k lk u]} q (mW s) (kJ x.acs.length s):=by
   rw[c1.out,j6.out];unfold dP;rw[show dJ (kG c.id k lk u::kJ x.acs.length (nI c k lk u))=dJ (kJ x.acs.length (nI c k lk u))from rfl];simp
  rw[e9];exact J
end Go.Proofs.YtbbdgokdfhdpiaaGreatDoor
