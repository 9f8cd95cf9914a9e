/- A part of the proof: RfTop8, RfTop9, RfMk, PMor2, PMor5. -/
import Derived.Test.YtbbdgokdfhdpiaaGreatDoorA31
import Derived.Test.YtbbdgokdfhdpiaaGreatDoorA32
namespace Go.Proofs.YtbbdgokdfhdpiaaGreatDoor
set_option linter.all false
set_option maxRecDepth 100000
set_option maxHeartbeats 40000000
open Go.Proofs.Tryz Go.RowKit
def pP(x:Rm)(i n q:Int):Bool:= !(dT i x.acs.length)||decide (n<0)||decide (q<0)
def tH(x:Rm)(i n q:Int):Int:=if pP x i n q=true then 1 else yZ (tJ x i)
def sU(x:Rm)(i n q:Int):Rm:=if pP x i n q=true then x else gF x i.toNat (uG (tJ x i) n q) (zD (tJ x i) i n)
theorem tG(x:Rm)(i:Nat)(a:Ra):gF x i a []={x with acs:=x.acs.set i a}:=by
 unfold gF;rw[fF,aC,aC]
theorem aHg(W:World)(own:Nat→Nat)(y:Nat)(x:Rm)(V:RmV)(N i n q:Int)(h:RmAt W own y x V)(hok:tU N x)(hN:N≤80000000000):
 Calls prog 120 #[.pointer (some ⟨y,0,none⟩),.int .i64 i,.int .i64 n,.int .i64 q] W fun r W'=>r= .returned (.int .i64 (tH x i n q))∧RmTo W own y V (sU x i n q) W':=by
 obtain⟨pc,R,s,f⟩:=fK h.rav;have y7:W.cell? ⟨y,7,none⟩=some (.slice pc x.acs.length R):=by rw[←s];exact h.cell 7 _ rfl
 have a1:=hok.n5;have b3:=hok.tr;have HT:=cN (RmTo.of h);by_cases b:pP x i n q=true
 ·have A:tH x i n q=1:=if_pos b;have C:sU x i n q=x:=if_pos b;rw[A,C];have a0:(decide (i<0)=true)∨(decide (i<0)=false∧decide ((x.acs.length:Int)≤i)=true)∨(decide (i<0)=false∧decide ((x.acs.length:Int)≤i)=false∧decide (n<0)=true)∨(decide (i<0)=false∧decide ((x.acs.length:Int)≤i)=false∧decide (n<0)=false∧decide (q<0)=true):=by
   unfold pP at b;by_cases O:i<0
   ·left;simp[O]
   ·right;by_cases U:(x.acs.length:Int)≤i
    ·left;simp[U];omega
    ·right;have X:dT i x.acs.length=true:=by rw[dY];omega
     rw[X]at b;by_cases h4:n<0
     ·left;simp[h4];omega
     ·right;simp[h4]at b;simp[b];omega
  clear h s f b A C;rcases a0 with Y|⟨Y,p2⟩|⟨Y,p2,p3⟩|⟨Y,p2,p3,p4⟩;all_goals
   go_enter func120,ntmps120;go_wp2_with fail;go_ret;exact⟨rfl,HT.out⟩
 ·have a6:dT i x.acs.length=true∧¬n<0∧¬q<0:=by
   unfold pP at b;simp only[Bool.or_eq_true,Bool.not_eq_true',aM,not_or,Bool.not_eq_false]at b;exact⟨b.1.1,b.1.2,b.2⟩
  obtain⟨T,J,F⟩:=a6;obtain⟨h0,O⟩:=(dY _ _).1 T;obtain⟨k,rfl⟩:∃k:Nat,i=(k:Int):=⟨i.toNat,by omega⟩;have v:k<x.acs.length:=by omega
  have A:tH x k n q=yZ x.acs[k]:=by unfold tH;rw[if_neg b,qC v]
  have C:sU x k n q=gF x k (uG x.acs[k] n q) (zD x.acs[k] k n):=by unfold sU;rw[if_neg b,qC v,bB]
  rw[A,C];obtain⟨g,rfl,S⟩:=f k v;obtain⟨B,t⟩:=aLw (V.bA k);have b4:W.cell? ⟨g,k,none⟩=some (.pointer (some ⟨B,0,none⟩)):=by rw[t];exact S
  obtain⟨a,D⟩:=aLx (x.acs[k]);rw[D];have d:RaAt W B x.cf a:=by have:=h.acs k v;rw[D]at this;rw[t];exact this
  have b8:W.cell? ⟨B,8,none⟩=some (.bool a.up):=cO d 8 _ rfl;have Y:decide ((k:Int)<0)=false:=by simp
  have p2:decide ((x.acs.length:Int)≤(k:Int))=false:=by simp;omega
  have p3:decide (n<0)=false:=by simp;omega
  have p4:decide (q<0)=false:=by simp;omega
  cases hu:a.up with
  |false=>
   have M:yZ a=2:=if_pos hu;have E:uG a n q=a:=if_pos hu;have w:zD a k n=[]:=if_pos hu;rw[M,E,w,tG,←D,bH];rw[hu]at b8;clear h s f S b A C M E w D t d J F h0 O T;go_enter func120,ntmps120;go_wp2_with fail;go_ret;exact⟨rfl,HT.out⟩
  |true=>
   rw[hu]at b8;have m:¬a.up=false:=by rw[hu];decide
   have M:yZ a=0:=if_neg m;have E:uG a n q=if n=0 then fV {a with left:=n,keep:=q} a.log else{a with left:=n,keep:=q}:=if_neg m
   have w:zD a k n=if n=0 then[eO k]else[]:=if_neg m
   rw[M];have b0:W.cell? ⟨B,10,none⟩=some (.int .i64 a.left):=cO d 10 _ rfl;have a8:=cX d 10;have l:RaAt (W.setCell ⟨B,10,none⟩ (.int .i64 n)) B x.cf {a with left:=n}:=dD d 10 _;have L:=cY W B 10 (.int .i64 n);generalize G:W.setCell ⟨B,10,none⟩ (.int .i64 n)=W1 at*;have Q:=cN G;have a4:W1.cell? ⟨B,11,none⟩=some (.int .i64 a.keep):=cO l 11 _ rfl;have b1:=cX l 11;have o:RaAt (W1.setCell ⟨B,11,none⟩ (.int .i64 q)) B x.cf {a with left:=n,keep:=q}:=dD l 11 _;have p:=L.trans (cY W1 B 11 (.int .i64 q)) (fun _ _ h=>h);generalize I:W1.setCell ⟨B,11,none⟩ (.int .i64 q)=W2 at*;have P:=cN I;have u:∀{Z:World},Chg (fun z=>z=B) W Z→Chg (fun z=>own z≠0) W Z:=fun hz=>hz.mono (fun z _ e=>by subst e;rw[t];have:=h.aco k v;omega);by_cases c:n=0
   ·have a9:(n==0)=true:=by simp[c]
    rw[E,w,if_pos c,if_pos c];have d7:W2.cell? ⟨B,7,none⟩=some (.string (strOfNums a.log)):=cO o 7 _ rfl;have a2:=cN (pN W2 B x.cf {a with left:=n,keep:=q} a.log o);have H:=cN (aLn h p t D);have a7:=cN (fun (Z:World) (hz:Chg (fun z=>z=B) W Z)=>u hz);clear h s f S b A C M E w D t d l o L p G I J F h0 O T hu m u;have b2:=cN c;clear c;go_enter func120,ntmps120;go_wp2_with (first|rw[Q.out]|rw[P.out]|(go_at_call 161;refine a2.out.mono ?_;rintro e W3 ⟨rfl,j⟩;refine cQ ?_));have K:Chg (fun z=>z=B) W W3:=H.out.2.1.trans j.2 (fun _ _ h=>h);have X:=H.out.1.acceptor v (fV {a with left:=n,keep:=q} a.log) (by rw[←H.out.2.2.1];exact K) (by rw[←H.out.2.2.1];exact j.1);have a3:=cN (mG W3 own y {x with acs:=x.acs.set k (fV {a with left:=n,keep:=q} a.log)} V k (fV {a with left:=n,keep:=q} a.log) X (by simpa using v) (by simp) (by simpa using a1) (by show x.tr.length≤_;omega));have a5:=cN (a7.out W3 K);clear j K X b8 b0 a8 a4 b1 d7;refine cN ?_;go_wp2_with (go_at_call 157;refine a3.out.mono ?_;rintro e W4 ⟨rfl,j⟩);go_ret;refine⟨rfl,RmTo.trans (own1:=own) (V1:=V) rfl rfl a5.out (fun _ h=>Or.inl h) ?_⟩;have e4:gF x k (fV {a with left:=n,keep:=q} a.log) [eO k]={x with acs:=x.acs.set k (fV {a with left:=n,keep:=q} a.log),tr:=x.tr++[eO k]}:=by
     unfold gF;rw[fE _ (by show(4:Int)≠1;decide),aC]
    rw[e4];exact j
   ·have a9:(n==0)=false:=by simp[c]
    rw[E,w,if_neg c,if_neg c,tG];have U:=h.acceptor v {a with left:=n,keep:=q} (by rw[←t];exact p) (by rw[←t];exact o);have HR:=cN (RmTo.trans (V:=V) (V1:=V) rfl rfl (u p) (fun _ h=>Or.inl h) (RmTo.of U));clear h s f S b A C M E w D t d l o L p G I J F h0 O T hu m u U c;go_enter func120,ntmps120;go_wp2_with (first|rw[Q.out]|rw[P.out]);go_ret;exact⟨rfl,HR.out⟩
def uC(x:Rm)(i:Int):Int:=if dT i x.acs.length=true then sC (tJ x i)else 1
def uK(x:Rm)(i:Int):Rm:=if dT i x.acs.length=true then gF x i.toNat (oT x.cf (tJ x i)) (tK (tJ x i) i)else x
theorem aE2(W:World)(own:Nat→Nat)(y:Nat)(x:Rm)(V:RmV)(N i:Int)(h:RmAt W own y x V)(hok:tU N x)(hN:N≤80000000000):
 Calls prog 121 #[.pointer (some ⟨y,0,none⟩),.int .i64 i] W fun r W'=>r= .returned (.int .i64 (uC x i))∧RmTo W own y V (uK x i) W':=by
 obtain⟨ie,a8,a9,a7,b1⟩:=info_parts nS;obtain⟨pc,b3,G,F⟩:=fK h.rav;have y7:W.cell? ⟨y,7,none⟩=some (.slice pc x.acs.length b3):=by rw[←G];exact h.cell 7 _ rfl
 have b6:=hok.n5;have c3:=hok.tr;have HT:=cN (RmTo.of h);unfold uC uK;rcases kY i x.acs.length with⟨h0,S⟩|⟨h0,c4,S⟩|⟨k,rfl,R⟩
 ·rw[S];simp only[aU,if_false];clear h G F S;go_enter func121,ntmps121;go_wp2_with fail;go_ret;exact⟨rfl,HT.out⟩
 ·rw[S];simp only[aU,if_false];clear h G F S;go_enter func121,ntmps121;go_wp2_with fail;go_ret;exact⟨rfl,HT.out⟩
 ·rw[kS k _ R,qC R,bB];simp only[if_true];obtain⟨g,rfl,hg⟩:=F k R;obtain⟨B,hB⟩:=aLw (V.bA k);have c6:W.cell? ⟨g,k,none⟩=some (.pointer (some ⟨B,0,none⟩)):=by rw[hB];exact hg
  have D:=hok.acs k R;obtain⟨a,ha⟩:=aLx (x.acs[k]);rw[ha]at D⊢;have w:RaAt W B x.cf a:=by have:=h.acs k R;rw[ha]at this;rw[hB];exact this
  have b8:W.cell? ⟨B,8,none⟩=some (.bool a.up):=cO w 8 _ rfl;have b9:W.cell? ⟨B,9,none⟩=some (.bool a.silent):=cO w 9 _ rfl;have p1:decide ((k:Int)<0)=false:=by simp
  have p2:decide ((x.acs.length:Int)≤(k:Int))=false:=by simp;omega
  have H:=cN h;have I:=cN (aLl hB ha);cases hu:a.up with
  |false=>
   rw[hu]at b8;have U:sC a=0:=if_neg (by rw[hu];simp);have X:oT x.cf a=jF x.cf a:=(if_neg (by rw[hu];simp)).trans (if_neg (by rw[hu];decide));have Y:tK a k=[jE k]:=(if_neg (by rw[hu];simp)).trans (if_neg (by rw[hu];decide));rw[U,X,Y];clear h G F hg U X Y hu ha hB w;go_enter func121,ntmps121;have a5:W.cell? ⟨y,10,none⟩=some V.tv:=H.out.cell 10 _ rfl;have d:=H.out.tr;have s:=aA W (.cells (evL (jE k)).toArray 70);go_wp2_with (first|(at_builtin;refine wpList_append_lies _ rfl _ _ 43 rfl 0 70 ie _ 19 152 underlying43 a8 a9 a7 b1 rfl (by decide) V.tv (x.tr).length (cZ evL (x.tr)) rfl (d.alloc _) ⟨W.heap.size,0,none⟩ 1 1 (evL (jE k)) rfl rfl (cR s) (nY _) (by decide) (by unfold maxLen;(try simp only[aD,aK]);omega) (by(try simp only[aD,aK]);omega) (aI _) (W.heap.size+1) (by simp) ?_;intro gt M A f b o P;refine cQ ?_));have c:=H.out.trAppend (e:=jE k) (W1:=W.alloc (.cells (evL (jE k)).toArray 70)) ((Chg.refl _ _).alloc _) ⟨b.os,b.tape,b.output,b.size,b.block⟩ f (o.imp (fun h=>h) (fun h=>by simp;omega));have t:Chg (fun q=>some q=V.tv.ownBlock) W A:=(((Chg.refl NoS W).alloc _).mono (T:=fun q=>some q=V.tv.ownBlock) (fun _ _ h=>h.elim)).trans (Chg.of_grown ⟨b.os,b.tape,b.output,b.size,b.block⟩) (fun _ _ h=>h);have u:=t.kept H.out.blk (fun e=>by have:=H.out.tvo _ e.symm;have:=H.out.yo;omega);have b5:A.cell? ⟨y,10,none⟩=some V.tv:=cO u 10 _ rfl;have c1:=cX u 10;generalize K:A.setCell ⟨y,10,none⟩ (.slice (some ⟨gt,0,none⟩) ((x.tr).length+1) M)=W14 at*;have a6:=cN K;obtain⟨Q,V4,h4,C,J,p,L⟩:=c
   have v:k<(x).acs.length:=by simpa using R
   have m:RaAt W14 B x.cf (a):=by
    have:=h4.acs k v;rw[C]at this;have hb:V.bA k=B:=(I.out.1.symm);rw[hb]at this;rw[←I.out.2];exact this
   have a3:=cN (zU W14 B x.cf (a) m D.len D.by_ D.l0 D.l1);have j:=cN (aLo h4 C J p L);clear t u f b o P s a5 d K h4 C J p L m;refine cN ?_;go_wp2_with (first|rw[a6.out]|(go_at_call 162;refine a3.out.mono ?_;rintro e a2 ⟨rfl,c⟩));go_ret;have h5:=j.out.1.acceptor v (jF x.cf (a)) (by rw[j.out.2.1,(I.out.1.symm)];exact c.2) (by rw[j.out.2.1,(I.out.1.symm)];exact c.1);have a4:Chg (fun z=>Q z≠0) W14 a2:=c.2.mono (fun z _ e=>by subst e;have:=j.out.1.aco k v;rw[j.out.2.1,(I.out.1.symm)]at this;omega);have O:=RmTo.trans (V:=V) j.out.2.1 j.out.2.2.1 j.out.2.2.2.1 j.out.2.2.2.2 (RmTo.trans (V:=V4) (V1:=V4) rfl rfl a4 (fun _ h=>Or.inl h) (RmTo.of h5));refine⟨rfl,?_⟩;have e4:gF x k (jF x.cf a) [jE k]={x with acs:=x.acs.set k (jF x.cf a),tr:=x.tr++[jE k]}:=by
    unfold gF;rw[fE _ (by show(5:Int)≠1;decide),aC]
   rw[e4];exact O
  |true=>
   rw[hu]at b8;cases hs:a.silent with
   |false=>
    rw[hs]at b9;have U:sC a=3:=if_pos ⟨hu,hs⟩;have X:oT x.cf a=a:=if_pos ⟨hu,hs⟩;have Y:tK a k=[]:=if_pos ⟨hu,hs⟩;rw[U,X,Y,tG,←ha,bH];clear h G F hg U X Y hu hs ha hB w;go_enter func121,ntmps121;go_wp2_with fail;go_ret;exact⟨rfl,HT.out⟩
   |true=>
    rw[hs]at b9;have U:sC a=0:=if_neg (by rw[hs];simp);have X:oT x.cf a=jF x.cf (fV a a.log):=(if_neg (by rw[hs];simp)).trans (if_pos hu);have Y:tK a k=[eO k,jE k]:=(if_neg (by rw[hs];simp)).trans (if_pos hu);rw[U,X,Y];have d7:W.cell? ⟨B,7,none⟩=some (.string (strOfNums a.log)):=cO w 7 _ rfl;have c0:=cN (pN W B x.cf a a.log w);clear h G F hg U X Y hu hs ha hB w;go_enter func121,ntmps121;go_wp2_with (go_at_call 161;refine c0.out.mono ?_;rintro e W3 ⟨rfl,c⟩;refine cQ ?_);have h3:=H.out.acceptor R (fV a a.log) (by rw[←I.out.1];exact c.2) (by rw[←I.out.1];exact c.1);have b7:=cN (mG W3 own y {x with acs:=x.acs.set k (fV a a.log)} V k (fV a a.log) h3 (by simpa using R) (by simp) (by simpa using b6) (by show x.tr.length≤_;omega));have a1:Chg (fun z=>own z≠0) W W3:=c.2.mono (fun z _ e=>by subst e;rw[I.out.1];have:=H.out.aco k R;omega);have b4:=cN a1;clear c h3 b8 b9 d7 a1;refine cN ?_;go_wp2_with (go_at_call 157;refine b7.out.mono ?_;rintro e W4 ⟨rfl,c⟩;refine cQ ?_);obtain⟨own1,V1,S,b2,b0,Z,a0⟩:=c;have e5:jS (fV a a.log) (k:Int)=[eO k]:=rfl;rw[e5]at S;have HH:=cN S;have l:=cN (aLn b2 b0 Z a0);clear S b2 b0 Z a0 e5;refine cN ?_;have a5:W4.cell? ⟨y,10,none⟩=some V1.tv:=HH.out.cell 10 _ rfl;have d:=HH.out.tr;obtain⟨n,hn⟩:=aLw ((x.tr++[eO k]).length);have c5:n≤x.tr.length+1:=by rw[hn];simp
    have c2:x.tr.length+1≤n:=by rw[hn];simp
    rw[←hn]at d;have Hn:=cN hn;clear hn;have s:=aA W4 (.cells (evL (jE k)).toArray 70);go_wp2_with (first|(at_builtin;refine wpList_append_lies _ rfl _ _ 43 rfl 0 70 ie _ 19 152 underlying43 a8 a9 a7 b1 rfl (by decide) V1.tv n (cZ evL (x.tr++[eO k])) rfl (d.alloc _) ⟨W4.heap.size,0,none⟩ 1 1 (evL (jE k)) rfl rfl (cR s) (nY _) (by decide) (by unfold maxLen;(try simp only[aD,aK]);omega) (by(try simp only[aD,aK]);omega) (aI _) (W4.heap.size+1) (by simp) ?_;intro gt M A f b o P;refine cQ ?_));have E:=f;rw[Hn.out]at E;have c:=HH.out.trAppend (e:=jE k) (W1:=W4.alloc (.cells (evL (jE k)).toArray 70)) ((Chg.refl _ _).alloc _) ⟨b.os,b.tape,b.output,b.size,b.block⟩ E (o.imp (fun h=>h) (fun h=>by simp;omega));dsimp only at c;rw[←Hn.out]at c;have t:Chg (fun q=>some q=V1.tv.ownBlock) W4 A:=(((Chg.refl NoS W4).alloc _).mono (T:=fun q=>some q=V1.tv.ownBlock) (fun _ _ h=>h.elim)).trans (Chg.of_grown ⟨b.os,b.tape,b.output,b.size,b.block⟩) (fun _ _ h=>h);have u:=t.kept HH.out.blk (fun e=>by have:=HH.out.tvo _ e.symm;have:=HH.out.yo;omega);have b5:A.cell? ⟨y,10,none⟩=some V1.tv:=cO u 10 _ rfl;have c1:=cX u 10;generalize K:A.setCell ⟨y,10,none⟩ (.slice (some ⟨gt,0,none⟩) (n+1) M)=W14 at*;have a6:=cN K;obtain⟨Q,V4,h4,C,J,p,L⟩:=c;have v:k<({x with acs:=x.acs.set k (fV a a.log),tr:=x.tr++[eO k]}).acs.length:=by simpa using R
    have m:RaAt W14 B x.cf (fV a a.log):=by
     have:=h4.acs k v;rw[C]at this;have hb:V1.bA k=B:=(show V1.bA k=B from by rw[l.out.1];exact I.out.1.symm);rw[hb]at this;simpa using this
    have a3:=cN (zU W14 B x.cf (fV a a.log) m D.len D.by_ (by show(-1:Int)≤ -1;decide) (by show(-1:Int)≤_;decide));have j:=cN (aLo h4 C J p L);clear t u f b o P s a5 d K h4 C J p L m;refine cN ?_;go_wp2_with (first|rw[a6.out]|(go_at_call 162;refine a3.out.mono ?_;rintro e a2 ⟨rfl,c⟩));go_ret;have h5:=j.out.1.acceptor v (jF x.cf (fV a a.log)) (by rw[j.out.2.1,(show V1.bA k=B from by rw[l.out.1];exact I.out.1.symm)];exact c.2) (by rw[j.out.2.1,(show V1.bA k=B from by rw[l.out.1];exact I.out.1.symm)];exact c.1);have a4:Chg (fun z=>Q z≠0) W14 a2:=c.2.mono (fun z _ e=>by subst e;have:=j.out.1.aco k v;rw[j.out.2.1,(show V1.bA k=z from by rw[l.out.1];exact I.out.1.symm)]at this;omega);have O:=RmTo.trans (V:=V1) j.out.2.1 j.out.2.2.1 j.out.2.2.2.1 j.out.2.2.2.2 (RmTo.trans (V:=V4) (V1:=V4) rfl rfl a4 (fun _ h=>Or.inl h) (RmTo.of h5));refine⟨rfl,RmTo.trans (own1:=own) (V1:=V) rfl rfl b4.out (fun _ h=>Or.inl h) (RmTo.trans l.out.1 l.out.2.1 l.out.2.2.1 l.out.2.2.2 ?_)⟩;have e4:gF x k (jF x.cf (fV a a.log)) [eO k,jE k]={x with acs:=x.acs.set k (jF x.cf (fV a a.log)),tr:=x.tr++[eO k]++[jE k]}:=by
     unfold gF;rw[show dJ [eO (k:Int),jE k]=[]from rfl,aC];simp
    rw[e4];simpa using O
theorem wS(f:Nat→Nat)(n b:Nat):mZ (fun j=>if j=n then b else f j) (n+1)=mZ f n++[rE b]:=by
 unfold mZ;rw[List.range_succ,bU]
 congr 1
 ·refine List.map_congr_left (fun j hj=>?_);have:=List.mem_range.1 hj;have a:j≠n:=by omega
  simp only[if_neg a]
 ·simp
section
variable {W W1 W2:World} {own:Nat→Nat} {y:Nat} {x:Rm} {V:RmV}
theorem RmAt.addA(h:RmAt W own y x V){n gt cap:Nat}{a:Ra}(h01:Chg NoS W W1)(hn:W.heap.size≤n)
 (hb:W1.heap[n]?=some (.cells (raL x.cf a).toArray 176 (0,0))) (h12:W1.grownBy W2 V.av.ownBlock)
 (hown:W2.ownsRow 0 174 1 (.slice (some ⟨gt,0,none⟩) (x.acs.length+1) cap) (x.acs.length+1) (mZ V.bA x.acs.length++[rE n]))
 (hat:V.av.ownBlock=some gt∨W1.heap.size≤gt):
 ∃own' V',RmAt (W2.setCell ⟨y,7,none⟩ (.slice (some ⟨gt,0,none⟩) (x.acs.length+1) cap)) own' y {x with acs:=x.acs++[a]} V'∧Chg (fun q=>own q≠0) W (W2.setCell ⟨y,7,none⟩ (.slice (some ⟨gt,0,none⟩) (x.acs.length+1) cap))∧∀q,own' q≠0→own q≠0∨W.heap.size≤q:=by
 have hc2:Chg (fun q=>own q=4∨own q=1) W W2:=(h01.mono (T:=fun q=>own q=4∨own q=1) (fun _ _ h=>h.elim)).trans (Chg.of_grown h12) (fun q _ e=>Or.inl (h.avo q e.symm));have hc3:=cY W2 y 7 (.slice (some ⟨gt,0,none⟩) (x.acs.length+1) cap);have hc:Chg (fun q=>own q=4∨own q=1) W (W2.setCell ⟨y,7,none⟩ (.slice (some ⟨gt,0,none⟩) (x.acs.length+1) cap)):=hc2.trans hc3 (fun q _ e=>by subst e;exact Or.inr h.yo);have hn1:n<W1.heap.size:=dG hb;have hyl:y<W.heap.size:=h.lt y (by rw[h.yo];decide);have hnb:(W2.setCell ⟨y,7,none⟩ (.slice (some ⟨gt,0,none⟩) (x.acs.length+1) cap)).heap[n]?=some (.cells (raL x.cf a).toArray 176 (0,0)):=
  hc3.kept ((h12.block n hn1 (fun e=>by have:=h.avo n e.symm;have:=h.lt n (by omega);omega)).trans hb) (by omega)
 have hyb:W2.heap[y]?=_:=((h12.block y (aG hyl h01.size) (fun e=>by have:=h.avo y e.symm;rw[h.yo]at this;omega)).trans ((h01.block y hyl (fun h=>h)).trans h.blk));have hyb2:=dD hyb 7 (.slice (some ⟨gt,0,none⟩) (x.acs.length+1) cap);have hgtl:=eY hown gt rfl;have hgy:gt≠y:=fun e=>by
  rcases hat with h'|h'
  ·have:=h.avo gt h';rw[e,h.yo]at this;omega
  ·have:=h01.size;omega
 have hrow:=hc3.row hown (fun q hq e=>by have:gt=q:=(by simpa[Value.ownBlock]using hq);omega);have hgn:gt≠n:=fun e=>by
  rcases hat with h'|h'
  ·have:=h.lt gt (by rw[h.avo gt h'];decide);omega
  ·omega
 have hs2:W2.heap.size≤(W2.setCell ⟨y,7,none⟩ (.slice (some ⟨gt,0,none⟩) (x.acs.length+1) cap)).heap.size:=hc3.size;have hs12:=h12.size;have hs01:=h01.size;generalize hW3:W2.setCell ⟨y,7,none⟩ (.slice (some ⟨gt,0,none⟩) (x.acs.length+1) cap)=W3 at*
 let f:Nat→Nat:=fun q=>if q=n then 6+5*x.acs.length else if q=gt then 4 else 0
 have hold:∀{q p:Nat},p≠0→own q=p→lS W own f q=p:=fun hp h'=>uD h.lt hp h';have hblk:∀q,own q≠0→own q≠4→own q≠1→W3.heap[q]?=W.heap[q]?:=fun q h0 h5 h1=>hc.block q (h.lt q h0) (fun e=>by omega);have hnew:lS W own f n=6+5*x.acs.length:=by rw[gK hn];simp[f]
 have hgw:∀q,gt=q→lS W own f q=4:=fun q e=>by
  subst e;rcases hat with h'|h'
  ·exact hold (by decide) (h.avo gt h')
  ·rw[gK (by omega)];simp only[f,if_neg hgn,if_true]
 refine⟨lS W own f,{V with av:=.slice (some ⟨gt,0,none⟩) (x.acs.length+1) cap,bA:=fun j=>if j=x.acs.length then n else V.bA j},?_,hc.mono (fun q _ hq=>by omega),fun q hq=>?_⟩
 ·exact{
   blk:=hyb2
   yo:=hold (by decide) h.yo
   net:=dF h.net fun q hq=>by have:=h.nvo q hq;exact hblk q (by omega) (by omega) (by omega)
   tr:=dF h.tr fun q hq=>by have:=h.tvo q hq;exact hblk q (by omega) (by omega) (by omega)
   rav:=by
    show W3.ownsRow 0 _ 1 (.slice (some ⟨gt,0,none⟩) (x.acs.length+1) cap) (x.acs++[a]).length (mZ (fun j=>if j=x.acs.length then n else V.bA j) (x.acs++[a]).length);rw[aD,aK,wS];exact hrow
   rcv:=dF h.rcv fun q hq=>by have:=h.cvo q hq;exact hblk q (by omega) (by omega) (by omega)
   nvo:=fun q hq=>hold (by decide) (h.nvo q hq)
   tvo:=fun q hq=>hold (by decide) (h.tvo q hq)
   avo:=fun q hq=>hgw q (by simpa[Value.ownBlock]using hq)
   cvo:=fun q hq=>hold (by decide) (h.cvo q hq)
   acs:=fun j hj=>by
    have hj1:j<x.acs.length+1:=by simpa using hj
    by_cases hji:j=x.acs.length
    ·subst hji;simp only[if_true,List.getElem_concat_length];exact hnb
    ·have hj':j<x.acs.length:=by omega
     simp only[if_neg hji,cD hj'];have:=h.aco j hj';exact(hblk (V.bA j) (by omega) (by omega) (by omega)).trans (h.acs j hj')
   aco:=fun j hj=>by
    have hj1:j<x.acs.length+1:=by simpa using hj
    by_cases hji:j=x.acs.length
    ·subst hji;simp only[if_true];exact hnew
    ·simp only[if_neg hji];exact hold (by omega) (h.aco j (by omega))
   cls:=fun j hj=>by
    have q1:=h.clo j hj;exact(h.cls j hj).of_heap (hblk (V.bC j) (by omega) (by omega) (by omega)) (fun q hq=>by have:=h.mo j hj q hq;exact hblk q (by omega) (by omega) (by omega)) (fun q hq=>by have:=h.ho j hj q hq;exact hblk q (by omega) (by omega) (by omega)) (fun q hq=>by have:=h.bo j hj q hq;exact hblk q (by omega) (by omega) (by omega))
   clo:=fun j hj=>hold (by omega) (h.clo j hj)
   mo:=fun j hj q hq=>hold (by omega) (h.mo j hj q hq)
   ho:=fun j hj q hq=>hold (by omega) (h.ho j hj q hq)
   bo:=fun j hj q hq=>hold (by omega) (h.bo j hj q hq)
   lt:=fun q hq=>by
    rcases Nat.lt_or_ge q W.heap.size with h'|h'
    ·omega
    ·rw[gK h']at hq;simp only[f]at hq;split at hq
     ·omega
     ·split at hq
      ·omega
      ·exact absurd rfl hq}
 ·rcases Nat.lt_or_ge q W.heap.size with h'|h'
  ·rw[pB h']at hq;exact Or.inl hq
  ·exact Or.inr h'
theorem RmAt.addC(h:RmAt W own y x V){n gt cap:Nat}{a:Rc}(h01:Chg NoS W W1)(hn:W.heap.size≤n)
 (hb:W1.heap[n]?=some (.cells (rcL a eU eU eU).toArray 182 (0,0))) (h12:W1.grownBy W2 V.cv.ownBlock)
 (hm:a.mine=[]) (hh:a.heard=[]) (hbk:a.back=[])
 (hown:W2.ownsRow 0 177 1 (.slice (some ⟨gt,0,none⟩) (x.cls.length+1) cap) (x.cls.length+1) (mZ V.bC x.cls.length++[rE n]))
 (hat:V.cv.ownBlock=some gt∨W1.heap.size≤gt):
 ∃own' V',RmAt (W2.setCell ⟨y,8,none⟩ (.slice (some ⟨gt,0,none⟩) (x.cls.length+1) cap)) own' y {x with cls:=x.cls++[a]} V'∧Chg (fun q=>own q≠0) W (W2.setCell ⟨y,8,none⟩ (.slice (some ⟨gt,0,none⟩) (x.cls.length+1) cap))∧∀q,own' q≠0→own q≠0∨W.heap.size≤q:=by
 have hc2:Chg (fun q=>own q=5∨own q=1) W W2:=(h01.mono (T:=fun q=>own q=5∨own q=1) (fun _ _ h=>h.elim)).trans (Chg.of_grown h12) (fun q _ e=>Or.inl (h.cvo q e.symm));have hc3:=cY W2 y 8 (.slice (some ⟨gt,0,none⟩) (x.cls.length+1) cap);have hc:Chg (fun q=>own q=5∨own q=1) W (W2.setCell ⟨y,8,none⟩ (.slice (some ⟨gt,0,none⟩) (x.cls.length+1) cap)):=hc2.trans hc3 (fun q _ e=>by subst e;exact Or.inr h.yo);have hn1:n<W1.heap.size:=dG hb;have hyl:y<W.heap.size:=h.lt y (by rw[h.yo];decide);have hnb:(W2.setCell ⟨y,8,none⟩ (.slice (some ⟨gt,0,none⟩) (x.cls.length+1) cap)).heap[n]?=some (.cells (rcL a eU eU eU).toArray 182 (0,0)):=
  hc3.kept ((h12.block n hn1 (fun e=>by have:=h.cvo n e.symm;have:=h.lt n (by omega);omega)).trans hb) (by omega)
 have hyb:W2.heap[y]?=_:=((h12.block y (aG hyl h01.size) (fun e=>by have:=h.cvo y e.symm;rw[h.yo]at this;omega)).trans ((h01.block y hyl (fun h=>h)).trans h.blk));have hyb2:=dD hyb 8 (.slice (some ⟨gt,0,none⟩) (x.cls.length+1) cap);have hgtl:=eY hown gt rfl;have hgy:gt≠y:=fun e=>by
  rcases hat with h'|h'
  ·have:=h.cvo gt h';rw[e,h.yo]at this;omega
  ·have:=h01.size;omega
 have hrow:=hc3.row hown (fun q hq e=>by have:gt=q:=(by simpa[Value.ownBlock]using hq);omega);have hgn:gt≠n:=fun e=>by
  rcases hat with h'|h'
  ·have:=h.lt gt (by rw[h.cvo gt h'];decide);omega
  ·omega
 have hs2:W2.heap.size≤(W2.setCell ⟨y,8,none⟩ (.slice (some ⟨gt,0,none⟩) (x.cls.length+1) cap)).heap.size:=hc3.size;have hs12:=h12.size;have hs01:=h01.size;generalize hW3:W2.setCell ⟨y,8,none⟩ (.slice (some ⟨gt,0,none⟩) (x.cls.length+1) cap)=W3 at*
 let f:Nat→Nat:=fun q=>if q=n then 7+5*x.cls.length else if q=gt then 5 else 0
 have hold:∀{q p:Nat},p≠0→own q=p→lS W own f q=p:=fun hp h'=>uD h.lt hp h';have hblk:∀q,own q≠0→own q≠5→own q≠1→W3.heap[q]?=W.heap[q]?:=fun q h0 h5 h1=>hc.block q (h.lt q h0) (fun e=>by omega);have hnew:lS W own f n=7+5*x.cls.length:=by rw[gK hn];simp[f]
 have hgw:∀q,gt=q→lS W own f q=5:=fun q e=>by
  subst e;rcases hat with h'|h'
  ·exact hold (by decide) (h.cvo gt h')
  ·rw[gK (by omega)];simp only[f,if_neg hgn,if_true]
 refine⟨lS W own f,{V with cv:=.slice (some ⟨gt,0,none⟩) (x.cls.length+1) cap,bC:=fun j=>if j=x.cls.length then n else V.bC j,mv:=fun j=>if j=x.cls.length then eU else V.mv j,hv:=fun j=>if j=x.cls.length then eU else V.hv j,bv:=fun j=>if j=x.cls.length then eU else V.bv j},?_,hc.mono (fun q _ hq=>by omega),fun q hq=>?_⟩
 ·exact{
   blk:=hyb2
   yo:=hold (by decide) h.yo
   net:=dF h.net fun q hq=>by have:=h.nvo q hq;exact hblk q (by omega) (by omega) (by omega)
   tr:=dF h.tr fun q hq=>by have:=h.tvo q hq;exact hblk q (by omega) (by omega) (by omega)
   rav:=dF h.rav fun q hq=>by have:=h.avo q hq;exact hblk q (by omega) (by omega) (by omega)
   rcv:=by
    show W3.ownsRow 0 _ 1 (.slice (some ⟨gt,0,none⟩) (x.cls.length+1) cap) (x.cls++[a]).length (mZ (fun j=>if j=x.cls.length then n else V.bC j) (x.cls++[a]).length);rw[aD,aK,wS];exact hrow
   nvo:=fun q hq=>hold (by decide) (h.nvo q hq)
   tvo:=fun q hq=>hold (by decide) (h.tvo q hq)
   avo:=fun q hq=>hold (by decide) (h.avo q hq)
   cvo:=fun q hq=>hgw q (by simpa[Value.ownBlock]using hq)
   acs:=fun j hj=>by have:=h.aco j hj;exact(hblk (V.bA j) (by omega) (by omega) (by omega)).trans (h.acs j hj)
   aco:=fun j hj=>hold (by omega) (h.aco j hj)
   cls:=fun j hj=>by
    have hj1:j<x.cls.length+1:=by simpa using hj
    by_cases hji:j=x.cls.length
    ·subst hji;simp only[if_true,List.getElem_concat_length];exact⟨hnb,by rw[hm];exact aZ _ _ _ _,by rw[hh];exact aZ _ _ _ _,by rw[hbk];exact aZ _ _ _ _⟩
    ·have hj':j<x.cls.length:=by omega
     simp only[if_neg hji,cD hj'];have q1:=h.clo j hj';exact(h.cls j hj').of_heap (hblk (V.bC j) (by omega) (by omega) (by omega)) (fun q hq=>by have:=h.mo j hj' q hq;exact hblk q (by omega) (by omega) (by omega)) (fun q hq=>by have:=h.ho j hj' q hq;exact hblk q (by omega) (by omega) (by omega)) (fun q hq=>by have:=h.bo j hj' q hq;exact hblk q (by omega) (by omega) (by omega))
   clo:=fun j hj=>by
    have hj1:j<x.cls.length+1:=by simpa using hj
    by_cases hji:j=x.cls.length
    ·subst hji;simp only[if_true];exact hnew
    ·simp only[if_neg hji];exact hold (by omega) (h.clo j (by omega))
   mo:=fun j hj q hq=>by
    have hj1:j<x.cls.length+1:=by simpa using hj
    by_cases hji:j=x.cls.length
    ·subst hji;simp only[if_true]at hq;cases hq
    ·simp only[if_neg hji]at hq;exact hold (by omega) (h.mo j (by omega) q hq)
   ho:=fun j hj q hq=>by
    have hj1:j<x.cls.length+1:=by simpa using hj
    by_cases hji:j=x.cls.length
    ·subst hji;simp only[if_true]at hq;cases hq
    ·simp only[if_neg hji]at hq;exact hold (by omega) (h.ho j (by omega) q hq)
   bo:=fun j hj q hq=>by
    have hj1:j<x.cls.length+1:=by simpa using hj
    by_cases hji:j=x.cls.length
    ·subst hji;simp only[if_true]at hq;cases hq
    ·simp only[if_neg hji]at hq;exact hold (by omega) (h.bo j (by omega) q hq)
   lt:=fun q hq=>by
    rcases Nat.lt_or_ge q W.heap.size with h'|h'
    ·omega
    ·rw[gK h']at hq;simp only[f]at hq;split at hq
     ·omega
     ·split at hq
      ·omega
      ·exact absurd rfl hq}
 ·rcases Nat.lt_or_ge q W.heap.size with h'|h'
  ·rw[pB h']at hq;exact Or.inl hq
  ·exact Or.inr h'
end
theorem aIi{W:World}{y:Nat}{f:Cf}(h:W.heap[y]?=some (.cells (rmL f eU eU eU eU).toArray 173 (0,0))):
 RmAt W (fun q=>if q=y then 1 else 0) y ⟨f,[],[],[],[]⟩ ⟨eU,eU,eU,eU,fun _=>0,fun _=>0,fun _=>eU,fun _=>eU,fun _=>eU⟩ where
 blk:=h
 yo:=if_pos rfl
 net:=aZ _ _ _ _
 tr:=aZ _ _ _ _
 rav:=aZ _ _ _ _
 rcv:=aZ _ _ _ _
 nvo:=fun k hk=>by cases hk
 tvo:=fun k hk=>by cases hk
 avo:=fun k hk=>by cases hk
 cvo:=fun k hk=>by cases hk
 acs:=fun i hi=>absurd hi (Nat.not_lt_zero _)
 aco:=fun i hi=>absurd hi (Nat.not_lt_zero _)
 cls:=fun i hi=>absurd hi (Nat.not_lt_zero _)
 clo:=fun i hi=>absurd hi (Nat.not_lt_zero _)
 mo:=fun i hi=>absurd hi (Nat.not_lt_zero _)
 ho:=fun i hi=>absurd hi (Nat.not_lt_zero _)
 bo:=fun i hi=>absurd hi (Nat.not_lt_zero _)
 lt:=fun k hk=>by
  by_cases e:k=y
  ·subst e;exact dG h
  ·simp[e]at hk
section
variable {f:Cf}{i:Nat}{a:Ac}
theorem AOk.acOk(h:AOk f i a)(hi:i≤4)(hc1:2≤f.compact)(hc2:f.compact≤16)(hr:f.room≤2000):xN a:=by
 have e:=h.num;have d:=h.comp;have c:=h.dk.len;refine⟨by omega,by omega,by omega,by omega,fun r hr=>⟨(h.rows r hr).l1,(h.rows r hr).l2⟩,fun p hp=>?_,by omega⟩;have b:=h.dk.fail p hp;exact⟨b.1,b.2.1⟩
theorem AOk.crOk(h:AOk f i a)(hr:f.room≤2000):aHP a.dk:=by
 have c:=h.dk.syn;have b:=h.dk.len;have e:fC a.dk=(a.dk.log,a.dk.lsyn):=by unfold fC;rw[h.dk.old]
 refine⟨?_,?_,?_⟩<;>rw[e]<;>dsimp only<;>omega
theorem AOk.stOk(h:AOk f i a)(hi:i≤4)(hc1:2≤f.compact)(hc2:f.compact≤16)(hr:f.room≤2000):aK6 a:=
 ⟨h.acOk hi hc1 hc2 hr,h.dk.by_,h.crOk hr,fun h2=>⟨h.nofail h2,h.new (by omega),h.dk.old⟩,fun _=>h.dk.old⟩
end
theorem aFz(a:Ac)(n:Int):dJ (tP a n)=[]:=by
 unfold tP;split
 ·rfl
 ·split
  ·exact fE _ (show(4:Int)≠1 by decide)
  ·rfl
theorem aEc(a:Ac):dJ (nM a)=[]:=by
 unfold nM;split
 ·rfl
 ·split
  ·rfl
  ·exact fE _ (show(5:Int)≠1 by decide)
section
variable (W:World) (own:Nat→Nat)
theorem aE1(g B:Nat)(eb:Addr)(x:Mo)(N i:Int)(h:Moor W own g x)(hgl:GlAt W B eb)(hB:∀k,own k≠0→B≤k)(hok:MoOk N x)(hN:N≤90000000000):
 Calls prog 43 #[.pointer (some ⟨g,0,none⟩),.int .i64 i] W fun r W'=>r= .returned (.int .i64 (xW x i))∧MoTo W own g (oR x i) W':=by
 obtain⟨L,P,G,D,h⟩:=h;have u:=hok.na;have n:=fJ hok.conf;have z:x.acs.length≤5:=by rw[u];unfold gJ;omega
 obtain⟨O,S,w,_⟩:=h.cells;obtain⟨p,o,rfl,f⟩:=fK h.rav;have E:W.cell? ⟨g,0,none⟩=some (.slice p x.acs.length o):=cO w 0 _ rfl;have s:=cN (nC W g i p x.acs.length o (by omega) E);have H:=cN h;have F:=cN f;clear w f;unfold xW oR;by_cases b:dT i x.acs.length=true
 ·rw[if_pos b,if_pos b];rw[b]at s;obtain⟨M,R⟩:=(dY _ _).1 b;obtain⟨d,v,l⟩:=hok.ac b;obtain⟨c,m⟩:=qQ b;obtain⟨j,rfl⟩:∃j:Nat,i=j:=⟨i.toNat,by omega⟩;have t:j<x.acs.length:=by omega
  obtain⟨k,rfl,Q⟩:=F.out j t;have a:=h.asys j t;have y:((j:Int).toNat)=j:=by omega
  simp only[y]at m d l;rw[←m]at a;have J:=cN (aHN W _ _ B eb _ g _ _ (acM x j) x.net x.tr a hgl (fun q hq=>hB q (by omega)) (fun q hq=>hB q (by omega)) (d.stOk l n.2.2.2.2.2.1.1 n.2.2.2.2.2.1.2 n.2.2.2.2.2.2.2) d.st (by have:=hok.nl;omega) (by have:=hok.tl;omega));clear d v m a c h hok l;go_enter func43,ntmps43;go_wp2_with (first|(go_at_call 58;refine s.out.mono ?_;rintro e A ⟨rfl,rfl⟩)|(go_at_call 88;refine J.out.mono ?_;rintro r K ⟨rfl,I⟩));go_ret;refine⟨rfl,?_⟩;have:=H.out.acceptorTo j t I;unfold mB;simp only[y];have C:=aEc (acM x j);rw[C,aC];exact this
 ·rw[if_neg b,if_neg b];have c:dT i x.acs.length=false:=by simpa using b
  rw[c]at s;clear h hok b c;go_enter func43,ntmps43;go_wp2_with (go_at_call 58;refine s.out.mono ?_;rintro e A ⟨rfl,rfl⟩);go_ret;exact⟨rfl,MoTo.of ⟨_,_,G,D,H.out⟩⟩
theorem aHE(g:Nat)(x:Mo)(N i n q:Int)(h:Moor W own g x)(hok:MoOk N x)(hN:N≤90000000000):
 Calls prog 42 #[.pointer (some ⟨g,0,none⟩),.int .i64 i,.int .i64 n,.int .i64 q] W fun r W'=>r= .returned (.int .i64 (aBo x i n q))∧MoTo W own g (sL x i n q) W':=by
 obtain⟨O,R,v,u,h⟩:=h;have y:=hok.na;have A:=fJ hok.conf;have F:x.acs.length≤5:=by rw[y];unfold gJ;omega
 obtain⟨Q,U,C,_⟩:=h.cells;obtain⟨p,s,rfl,f⟩:=fK h.rav;have I:W.cell? ⟨g,0,none⟩=some (.slice p x.acs.length s):=cO C 0 _ rfl;have d:=cN (nC W g i p x.acs.length s (by omega) I);have H:=cN h;have J:=cN f;clear C f;unfold aBo sL qN;by_cases a:dT i x.acs.length=true
 ·rw[a];by_cases D:n<0
  ·have e:(!true||decide (n<0)||decide (q<0))=true:=by simp[D]
   rw[if_pos e,if_pos e];rw[a]at d;clear h hok a e;go_enter func42,ntmps42;go_wp2_with (go_at_call 58;refine d.out.mono ?_;rintro e t ⟨rfl,rfl⟩);go_ret;exact⟨rfl,MoTo.of ⟨_,_,v,u,H.out⟩⟩
  ·by_cases B:q<0
   ·have e:(!true||decide (n<0)||decide (q<0))=true:=by simp[B]
    rw[if_pos e,if_pos e];rw[a]at d;clear h hok a e;go_enter func42,ntmps42;go_wp2_with (go_at_call 58;refine d.out.mono ?_;rintro e t ⟨rfl,rfl⟩);go_ret;exact⟨rfl,MoTo.of ⟨_,_,v,u,H.out⟩⟩
   ·have e:¬(!true||decide (n<0)||decide (q<0))=true:=by simp[D,B]
    rw[if_neg e,if_neg e];clear e;rw[a]at d;obtain⟨P,T⟩:=(dY _ _).1 a;obtain⟨m,z,o⟩:=hok.ac a;obtain⟨c,l⟩:=qQ a;obtain⟨j,rfl⟩:∃j:Nat,i=j:=⟨i.toNat,by omega⟩;have w:j<x.acs.length:=by omega
    obtain⟨k,rfl,S⟩:=J.out j w;have b:=h.asys j w;have E:((j:Int).toNat)=j:=by omega
    simp only[E]at l m o;rw[←l]at b;have L:=cN (aGV W _ _ _ g _ _ (acM x j) x.net x.tr n q b (m.crOk A.2.2.2.2.2.2.2) (by omega) (by have:=hok.nl;omega) (by have:=hok.tl;omega));clear m z l b c h hok o;go_enter func42,ntmps42;go_wp2_with (first|(go_at_call 58;refine d.out.mono ?_;rintro e t ⟨rfl,rfl⟩)|(go_at_call 87;refine L.out.mono ?_;rintro r M ⟨rfl,K⟩));go_ret;refine⟨rfl,?_⟩;have:=H.out.acceptorTo j w K;unfold mB;simp only[E];have G:=aFz (acM x j) n;rw[G,aC];exact this
 ·have e:(!dT i x.acs.length||decide (n<0)||decide (q<0))=true:=by simp[a]
  rw[if_pos e,if_pos e];clear e;have c:dT i x.acs.length=false:=by simpa using a
  rw[c]at d;clear h hok a c;go_enter func42,ntmps42;go_wp2_with (go_at_call 58;refine d.out.mono ?_;rintro e t ⟨rfl,rfl⟩);go_ret;exact⟨rfl,MoTo.of ⟨_,_,v,u,H.out⟩⟩
theorem aJf(g:Nat)(x:Mo)(N i:Int)(h:Moor W own g x)(hok:MoOk N x):
 Calls prog 21 #[.pointer (some ⟨g,0,none⟩),.int .i64 i] W fun r W'=>r= .returned (.tuple #[.string (strOfNums (aKa x i)),.int .i64 (aJ3 x i)])∧W'=W:=by
 obtain⟨F,K,I,E,h⟩:=h;have q:=hok.na;have C:=fJ hok.conf;have v:x.acs.length≤5:=by rw[q];unfold gJ;omega
 obtain⟨J,O,t,_⟩:=h.cells;obtain⟨p,n,rfl,d⟩:=fK h.rav;have y:W.cell? ⟨g,0,none⟩=some (.slice p x.acs.length n):=cO t 0 _ rfl;have o:=cN (nC W g i p x.acs.length n (by omega) y);have H:=cN h;have z:=cN d;clear t d;unfold aJ3 aKa;by_cases b:dT i x.acs.length=true
 ·rw[if_pos b,if_pos b];rw[b]at o;obtain⟨G,M⟩:=(dY _ _).1 b;obtain⟨m,s,l⟩:=hok.ac b;obtain⟨c,f⟩:=qQ b;obtain⟨j,rfl⟩:∃j:Nat,i=j:=⟨i.toNat,by omega⟩;have u:j<x.acs.length:=by omega
  obtain⟨k,rfl,L⟩:=z.out j u;have a:=h.asys j u;have A:((j:Int).toNat)=j:=by omega
  simp only[A]at f m l;rw[←f]at a;have B:=cN (aAP W _ _ g (acM x j) a.acc);clear m s f a c h hok l;go_enter func21,ntmps21;go_wp2_with (first|(go_at_call 58;refine o.out.mono ?_;rintro e w ⟨rfl,rfl⟩)|(go_at_call 60;refine B.out.mono ?_;rintro r D ⟨rfl,rfl⟩))
  go_ret2
  exact⟨rfl,rfl⟩
 ·rw[if_neg b,if_neg b];have c:dT i x.acs.length=false:=by simpa using b
  rw[c]at o;clear h hok b c;go_enter func21,ntmps21;go_wp2_with (go_at_call 58;refine o.out.mono ?_;rintro e w ⟨rfl,rfl⟩)
  go_ret2
  exact⟨rfl,rfl⟩
theorem aFE(g:Nat)(x:Mo)(N i:Int)(h:Moor W own g x)(hok:MoOk N x):
 Calls prog 20 #[.pointer (some ⟨g,0,none⟩),.int .i64 i] W fun r W'=>∃v,r= .returned (.tuple #[v,.int .i64 (tB x i)])∧W'.ownsRow W.heap.size 58 7 v (oH x i).length (cellsOf (oH x i))∧Below W.heap.size W W':=by
 obtain⟨L,Q,O,K,h⟩:=h;have A:=hok.na;have o:=fJ hok.conf;have E:x.acs.length≤5:=by rw[A];unfold gJ;omega
 obtain⟨P,T,C,_⟩:=h.cells;obtain⟨p,u,rfl,n⟩:=fK h.rav;have G:W.cell? ⟨g,0,none⟩=some (.slice p x.acs.length u):=cO C 0 _ rfl;have s:=cN (nC W g i p x.acs.length u (by omega) G);have H:=cN h;have I:=cN n;clear C n;unfold oH tB;by_cases m:dT i x.acs.length=true
 ·rw[if_pos m];rw[m]at s;obtain⟨M,S⟩:=(dY _ _).1 m;obtain⟨l,t,d⟩:=hok.ac m;obtain⟨c,f⟩:=qQ m;obtain⟨j,rfl⟩:∃j:Nat,i=j:=⟨i.toNat,by omega⟩;have D:j<x.acs.length:=by omega
  obtain⟨k,rfl,R⟩:=I.out j D;have a:=h.asys j D;have J:((j:Int).toNat)=j:=by omega
  simp only[J]at f l d;rw[←f]at a;have q:=aFS W _ _ g (acM x j) a.acc (l.acOk d o.2.2.2.2.2.1.1 o.2.2.2.2.2.1.2 o.2.2.2.2.2.2.2);by_cases b:(acM x j).st=2
  ·rw[if_pos b,if_neg (by decide)];simp only[if_pos b]at q;have z:=cN q;clear l t f a c h hok d q b;go_enter func20,ntmps20;go_wp2_with (first|(go_at_call 58;refine s.out.mono ?_;rintro e B ⟨rfl,rfl⟩)|(go_at_call 59;refine z.out.mono ?_;rintro r F ⟨rfl,rfl⟩))
   go_ret2
   exact⟨_,rfl,⟨rfl,Or.inl ⟨rfl,rfl⟩⟩,aJ _ _⟩
  ·rw[if_neg b,if_pos rfl];simp only[if_neg b]at q;have z:=cN q;clear l t f a c h hok d q b;go_enter func20,ntmps20;go_wp2_with (first|(go_at_call 58;refine s.out.mono ?_;rintro e B ⟨rfl,rfl⟩)|(go_at_call 59;refine z.out.mono ?_;rintro r F ⟨v,rfl,w,y⟩))
   go_ret2
   exact⟨v,rfl,w,y⟩
 ·rw[if_neg m,if_neg (by decide)];have c:dT i x.acs.length=false:=by simpa using m
  rw[c]at s;clear h hok m c;go_enter func20,ntmps20;go_wp2_with (go_at_call 58;refine s.out.mono ?_;rintro e B ⟨rfl,rfl⟩)
  go_ret2
  exact⟨_,rfl,⟨rfl,Or.inl ⟨rfl,rfl⟩⟩,aJ _ _⟩
end
section
variable (W:World) (own:Nat→Nat) (g:Nat) (x:Mo)
theorem aJz(N:Int)(h:Moor W own g x)(hok:MoOk N x)(hN:N≤90000000000):
 Calls prog 36 #[.pointer (some ⟨g,0,none⟩)] W fun r W'=>∃v,r= .returned v∧W'.ownsRow W.heap.size 66 10 v x.net.length (cZ mgL x.net)∧Below W.heap.size W W':=by
 obtain⟨B,D,C,A,h⟩:=h;obtain⟨o,F,i,a,d,t,z,s⟩:=h.cells;have E:W.cell? ⟨g,2,none⟩=some o:=cO i 2 _ rfl;have y:=hok.nl;rcases a.2 with⟨rfl,n⟩|⟨k,f,w,rfl,p⟩
 ·have c:=cN (aEW W);go_enter func36,ntmps36;go_wp2_with (go_at_call 79;refine c.out.mono ?_;rintro e m ⟨rfl,rfl⟩);go_ret;exact⟨_,rfl,⟨a.1,Or.inl ⟨rfl,n⟩⟩,aJ _ _⟩
 ·have c:=cN (aEV W ⟨k,0,none⟩ f x.net (by omega) (fun j u hj=>by
   have e:(⟨k,0,none⟩:Addr).add j=⟨k,j,none⟩:=by rw[Addr.add_lit,Nat.zero_add]
   have b:=(aF.1 hj).1;rw[eV mgL (k:=10) (fun _=>rfl)]at b;rw[e,a.cellAt j b];exact hj))
  clear p i a d h;go_enter func36,ntmps36;go_wp2_with (go_at_call 79;refine c.out.mono ?_;rintro e m ⟨v,rfl,q,l⟩);go_ret;exact⟨v,rfl,q,l⟩
theorem aFD(N n:Int)(h:Moor W own g x)(hok:MoOk N x)(hN:N≤90000000000):
 Calls prog 17 #[.pointer (some ⟨g,0,none⟩),.int .i64 n] W fun r W'=>∃v,r= .returned v∧W'.ownsRow W.heap.size 70 19 v (qY x n).length (cZ evL (qY x n))∧Below W.heap.size W W':=by
 obtain⟨V,cv,Y,U,h⟩:=h;obtain⟨Z,L,B,m,c,O,Q,M⟩:=h.cells;have R:W.cell? ⟨g,3,none⟩=some L:=cO B 3 _ rfl;have l:=hok.tl;have s:(0:Int)≤min (max n 0) (x.tr.length:Int):=by omega
 obtain⟨k,D⟩:∃k:Nat,min (max n 0) (x.tr.length:Int)=k:=⟨(min (max n 0) (x.tr.length:Int)).toNat,by omega⟩;have f:k≤x.tr.length:=by omega
 have z:qY x n=x.tr.drop k:=by unfold qY;rw[D];rfl
 rw[z];rcases c.2 with⟨rfl,J⟩|⟨q,b,P,rfl,y⟩
 ·have w:=cN (aD8 W.drew);have t:k=0:=by omega
  subst t;have G:x.tr=[]:=List.length_eq_zero_iff.1 J;have F:min (max n 0) (0:Int)=0:=by omega
  rw[G];clear D s l f z h hok m c B;go_enter func17,ntmps17;go_wp2_with fail;refine eD [0,0,0,1,0,0,0,0,0,1,1,0,0] (by kernel_rfl) (fun _ _ _ _=>rfl) ?_;simp only[dC,dB];iterate 13 (apply sB rfl rfl;·(intro x h;(try cases h rfl);go_simp;with_reducible rfl))
  refine cP ?_;try simp only[pA]
  go_wp2_with (go_at_call 49;refine w.out.mono ?_;rintro e I ⟨rfl,rfl⟩);go_ret;exact⟨_,rfl,⟨rfl,Or.inl ⟨rfl,rfl⟩⟩,(aJ _ _).drew⟩
 ·have S:=y.2.1;have C:x.tr.length≤b:=y.2.2.1;have p:=y.2.2.2.1;have d:(x.tr.drop k).length=x.tr.length-k:=aV;obtain⟨A,X,a⟩:∃A:Addr,(if b=k then(some ⟨q,0,none⟩:Option Addr)else some ⟨q,k*19,none⟩)=some A∧∀j u,(cZ evL (x.tr.drop k))[j]?=some u→W.drew.cell? (A.add j)=some u:=by
   by_cases E:b=k
   ·refine⟨⟨q,0,none⟩,by rw[if_pos E],fun j u hj=>?_⟩;rw[List.drop_eq_nil_of_le (by omega)]at hj;cases hj
   ·refine⟨⟨q,k*19,none⟩,by rw[if_neg E],fun j u hj=>?_⟩;rw[Addr.add_lit];have e:(cZ evL x.tr)[k*19+j]?=some u:=by
     have H:cZ evL x.tr=cZ evL (x.tr.take k)++cZ evL (x.tr.drop k):=by
      unfold cZ;rw[←List.flatMap_append,cH]
     rw[H,bN (by rw[eV evL (k:=19) (fun _=>rfl),bD];omega),eV evL (k:=19) (fun _=>rfl),bD,show k*19+j-min k x.tr.length*19=j by rw[Nat.min_eq_left f];omega];exact hj
    have o:=(aF.1 e).1;rw[eV evL (k:=19) (fun _=>rfl)]at o;show W.cell? ⟨q,k*19+j,none⟩=some u;rw[c.cellAt _ o];exact e
  have w:=cN (aEs W.drew A (b-k) (x.tr.drop k) (by omega) a);rw[d]at w⊢;have T:(0:Int)≤(k:Int):=by omega
  have b2:(k:Int)≤(x.tr.length:Int):=by omega
  have b3:(x.tr.length:Int)≤(b:Int):=by omega
  have b4:(b:Int)≤9223372036854775807:=by unfold maxLen at p;omega
  clear s l z y h hok m c B a d C p f;go_enter func17,ntmps17;go_wp2_with fail;refine eD [0,0,0,1,0,0,0,0,0,1,1,0,0] (by kernel_rfl) (fun _ _ _ _=>rfl) ?_;simp only[dC,dB];iterate 13 (apply sB rfl rfl;·(intro x h;(try cases h rfl);go_simp;with_reducible rfl))
  refine cP ?_;try simp only[pA]
  go_wp2_with (go_at_call 49;refine w.out.mono ?_;rintro e I ⟨v,rfl,K,i⟩);go_ret;exact⟨v,rfl,K,⟨i.os,i.tape,i.output,i.size,i.block⟩⟩
end
end Go.Proofs.YtbbdgokdfhdpiaaGreatDoor
