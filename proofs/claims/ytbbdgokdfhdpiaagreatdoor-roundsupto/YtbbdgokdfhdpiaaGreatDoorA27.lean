/- A part. -/
import Derived.Test.YtbbdgokdfhdpiaaGreatDoorA17
import Derived.Test.YtbbdgokdfhdpiaaGreatDoorA23
namespace Go.Proofs.YtbbdgokdfhdpiaaGreatDoor
set_option linter.all false
set_option maxRecDepth 100000
set_option maxHeartbeats 0
open Go.Proofs.Tryz Go.RowKit
section
open Go.Maps
def Nx(W:World)(F:Nat→Prop)(b g d tb:Nat)(a:Ac)(W':World):Prop:=∃FD':Nat→Prop,∃F':Nat→Prop,AcAt W' FD' b g d tb a∧(∀x,InF FD' b tb x→F' x)∧(∀x,F' x→x<W'.heap.size)∧Chg F W W'∧∀x,F' x→F x∨W.heap.size≤x
theorem Nx.to{W W':World}{F:Nat→Prop}{b g d tb:Nat}{a:Ac}(h:Nx W F b g d tb a W'):AcTo W F b g a W':=by
 obtain⟨c,e,j,f,l,i,k⟩:=h;exact⟨e,⟨c,d,tb,j,f,l⟩,i,k⟩
theorem Nx.of{W:World}{FD F:Nat→Prop}{b g d tb:Nat}{a:Ac}(h:AcAt W FD b g d tb a)(hin:∀x,InF FD b tb x→F x)(hlt:∀x,F x→x<W.heap.size):Nx W F b g d tb a W:=⟨FD,F,h,hin,hlt,Chg.refl _ _,fun _ h=>Or.inl h⟩
theorem Nx.trans{A B C:World}{F F1:Nat→Prop}{b g d tb:Nat}{a:Ac}(hc:Chg F A B)(hf:∀x,F1 x→F x∨A.heap.size≤x)(h:Nx B F1 b g d tb a C):Nx A F b g d tb a C:=by
 obtain⟨c,e,j,f,l,i,k⟩:=h;refine⟨c,e,j,f,l,hc.trans i (fun x hx h'=>?_),fun x hx=>?_⟩
 ·rcases hf x h' with h|h
  ·exact h
  ·omega
 ·rcases k x hx with h|h
  ·exact hf x h
  ·right;have:=hc.size;omega
theorem Nx.nos{A B C:World}{F:Nat→Prop}{b g d tb:Nat}{a:Ac}(h:Nx A F b g d tb a B)(hc:Chg NoS B C):Nx A F b g d tb a C:=by
 obtain⟨c,e,j,f,l,i,k⟩:=h;exact⟨c,e,j.kept hc (fun _ _ h=>h),f,fun x hx=>aG (l x hx) hc.size,i.nos' hc,k⟩
theorem aBH{f:FuncId}{args:Array Value}{v ev:Value}{W0 W:World}{FD F F0:Nat→Prop}{b g d tb:Nat}{a:Ac}{p:Dk×How}(h:AcAt W FD b g d tb a)(hin:∀x,InF FD b tb x→F x)(hlt:∀x,F x→x<W.heap.size)(hc0:Chg F0 W0 W)(hf0:∀x,F x→F0 x∨W0.heap.size≤x)
 (hc:Calls prog f args W fun e W'=>EndsK v ev W FD d p e W'):match p.2 with
 |.none=>Calls prog f args W fun e W'=>e= .returned v∧Nx W0 F0 b g d tb {a with dk:=p.1} W'
 |(.some (.some q))=>Calls prog f args W fun e W'=>e= .panicked (rS q)∧Nx W0 F0 b g d tb {a with dk:=p.1} W'
 |(.some .none)=>Calls prog f args W fun e W'=>∃fb,e= .returned (lV fb)∧lU W' fb ev∧W0.heap.size≤fb∧Nx W0 F0 b g d tb {a with dk:=p.1} W':=by
 have hn:∀W',DkTo W FD d p.1 W'→Nx W0 F0 b g d tb {a with dk:=p.1} W':=fun W' ht=>by
  obtain⟨FD',F',h1,h2,h3,h4,h5,h6⟩:=h.to hin hlt ht;exact Nx.trans hc0 hf0 ⟨FD',F',h1,h2,h3,h4,h6⟩
 have hk:=aF9 hc;obtain⟨k,h1⟩:=p;cases h1 using mM with
 |fine=>exact hk.mono fun e W' ⟨h1,h2⟩=>⟨h1,hn _ h2⟩
 |dies q=>exact hk.mono fun e W' ⟨h1,h2⟩=>⟨h1,hn _ h2⟩
 |full=>exact hk.mono fun e W' ⟨b,h2,h3,h4,h5⟩=>⟨b,h2,h3,cA hc0.size h4,hn _ h5⟩
theorem qM{k k1:Dk}{go:Dk→Dk}(h:dZ k go=(k1,.none)):∃k0,fQ k=some k0∧k1=go k0:=by
 unfold dZ at h;cases hs:fQ k with
 |none=>rw[hs]at h;cases h
 |some k0=>rw[hs]at h;exact⟨k0,rfl,(Prod.mk.inj h).1.symm⟩
theorem vT{k k1:Dk}{s:List Int}{put:Dk→List Int→Dk}(h:eP k s put=(k1,.none)):∃k0,fQ k=some k0∧k1=put k0 s:=by
 unfold eP at h;cases hs:fQ k with
 |none=>rw[hs]at h;cases h
 |some k0=>
  rw[hs]at h;dsimp only at h;split at h
  ·cases h
  ·exact⟨k0,rfl,(Prod.mk.inj h).1.symm⟩
theorem qN{k:Dk}{go:Dk→Dk}:(dZ k go).2≠(.some .none):=by
 unfold dZ;cases fQ k<;>simp
theorem aB6{k:Dk}(h:iC k):iC (gI k):=by
 unfold gI;split
 ·exact h
 ·exact h
theorem pK(W:World)(F:Nat→Prop)(B:Nat)(eb:Addr)(b g:Nat)(a:Ac)(h:Acc W F b g a)(hgl:GlAt W B eb)(hFB:∀x,F x→B≤x)(hok:yA a)(hnew:a.dk.new=none)(hold:a.dk.old=none):
 Calls prog 174 #[.pointer (some ⟨b,0,none⟩)] W fun e W'=>tM .nilIface (oO eb) W F b g (eJ a) e W':=by
 obtain⟨FD,d,tb,h,d7,b3⟩:=h;obtain⟨s,hs⟩:=aLz (fA a.rows);have e7:=cN hs;have b5:(s.length:Int)≤100:=by
  have N:=zM (eG a.rows 4);have J:=aCh a.rows;rw[hs];unfold fA;omega
 have b4:∀k hw,fU a.dk s=(k,hw)→eJ a=({a with dk:=k},hw):=fun k hw e=>by unfold eJ;rw[←hs,e]
 have z:=cN b4;have e5:=cN b5;have c2:=h.cell 2 _ rfl;have b2:=cN (aBH h d7 b3 (Chg.refl F W) (fun _ h=>Or.inl h) (aFS W FD d a.dk (oO eb) h.disk hok.fo hnew hold));have M:=cN (aLr hgl hFB hok hnew hold);clear b4 hs b5 h d7 b3 hgl hFB hok hnew hold;go_enter func174,ntmps174;obtain⟨m,n⟩:=aLA ((dZ a.dk lH).1);have N:=b2.out;rw[n]at N;have d1:=cN n;clear n b2;cases hp:(dZ a.dk lH).2 using mM with
 |full=>exact absurd hp qN
 |dies q=>
  have e:dZ a.dk lH=(m,(.some (.some q))):=by rw[←d1.out,←hp]
  have j:Hid (eJ a=({a with dk:=m},(.some (.some q)))):=z.out _ _ (by unfold fU;rw[e];rfl);rw[hp]at N;have H1:=cN N;clear N hp e;go_wp2_with (first|(go_at_call 198;refine H1.out.mono ?_;rintro e W1 ⟨rfl,c⟩;refine cQ ?_));have y:=cN c;clear c;refine cN ?_;go_wp2_with fail;refine⟨rfl,?_⟩;rw[j.out];exact⟨y.out.to,rfl⟩
 |fine=>
  have e1:dZ a.dk lH=(m,.none):=by rw[←d1.out,←hp]
  rw[hp]at N;have H1:=cN N;have l:=cN e1;clear N hp e1;go_wp2_with (first|(go_at_call 198;refine H1.out.mono ?_;rintro e W1 ⟨rfl,S,F1,a1,i1,l1,q1,f1⟩;refine cQ ?_));obtain⟨k0,f,n⟩:=qM l.out;have i:=gR f;have a9:iC m:=by have G:=kS f M.out.2.2.1.fo;rw[n];exact G
  have c1:m.old=none:=by have G:=i.2.2.2.2.trans M.out.2.2.2.2;rw[n];exact G
  have b1:m.new=some ([],0):=by rw[n];rfl
  have V:m.log=a.dk.log:=by rw[n];exact i.2.1
  have L:yA {a with dk:=m}:={M.out.2.2.1 with fo:=a9,l1:=by show((m.log.length:Nat):Int)≤_;rw[V];exact M.out.2.2.1.l1};have c7:=cN (fun x (hx:x=W1.drew)=>hx▸zS W1.drew F1 b g {a with dk:=m} ⟨S,d,tb,a1.kept (Chg.refl NoS W1).drew (fun _ _ h=>h),i1,l1⟩ L);have d2:=a1.cell 2 _ rfl;have o:=cN (aLr a1 i1 l1 q1 f1);have p:=cN (aLr a9 c1 b1 V L);clear a1 i1 l1 q1 f1 a9 c1 b1 V L i f n c2;refine cN ?_;go_wp2_with fail;refine rlx [0,0,0,1,0,2] (fun x=>x.cell? ⟨b,2,none⟩=some (.pointer (some ⟨d,0,none⟩))) (by kernel_rfl) (fun _ _ _ _=>rfl) ?_ ?_
  ·exact d2
  simp only[dC,dB];iterate 5 (apply sB rfl rfl;·(intro x h;(try have h:=h rfl);(try dsimp only at h);go_simp;with_reducible rfl))
  try simp only[pA]
  refine dI rfl (fun C hC=>?_);go_simp;refine(c7.out _ rfl).mono ?_;rintro e W2 ⟨rfl,b7⟩;have u:=b7.of_drew;have a2:=o.out.1.kept u (fun _ _ h=>h);refine hC _ _ (a2.cell 2 _ rfl) ?_;clear hC C;refine cP ?_;have es:fA ({a with dk:=m}:Ac).rows=s:=e7.out.symm;rw[es];have E:=M.out.1.kept ((o.out.2.2.2.1.nos' u:Chg F W W2)) (fun x hx=>M.out.2.1 x hx);have O:¬S 0:=fun hx=>by
   rcases o.out.2.2.2.2 0 (o.out.2.1 0 (Or.inl hx))with h|h
   ·have:=M.out.2.1 0 h;have:=E.b0;omega
   ·have:=M.out.1.hB;have:=E.b0;omega
  have e6:hP m=0:=by unfold hP;rw[p.out.2.2.1];rfl
  have b9:=cN (aBH a2 o.out.2.1 (fun x hx=>aG (o.out.2.2.1 x hx) u.size) (o.out.2.2.2.1.nos' u:Chg F W W2) o.out.2.2.2.2
   (aCb W2 S d m _ _ s [] 0 a2.disk p.out.1 E.err O p.out.2.2.1 p.out.2.1 (by have:=e5.out;omega) (by rw[p.out.2.2.2.1];have:=M.out.2.2.1.l1;omega) (by omega)))
  clear b7 u a2 E O e6 es d2 c7;obtain⟨w,r⟩:=aLA ((eP m s iQ).1);have J:=b9.out;rw[r]at J;have a7:=cN r;clear r b9;cases hp:(eP m s iQ).2 using mM with
  |dies q=>
   have e:eP m s iQ=(w,(.some (.some q))):=by rw[←a7.out,←hp]
   have j:Hid (eJ a=({a with dk:=w},(.some (.some q)))):=z.out _ _ (by unfold fU;rw[l.out];unfold iF;dsimp only;rw[e]);rw[hp]at J;have H2:=cN J;clear J hp e;go_wp2_with (first|(go_at_call 196;refine H2.out.mono ?_;rintro e W3 ⟨rfl,c⟩;refine cQ ?_));have y:=cN c;clear c;refine cN ?_;go_wp2_with fail;refine⟨rfl,?_⟩;rw[j.out];exact⟨y.out.to,rfl⟩
  |full=>
   have e:eP m s iQ=(w,(.some .none)):=by rw[←a7.out,←hp]
   have j:Hid (eJ a=({a with dk:=w},(.some .none))):=z.out _ _ (by unfold fU;rw[l.out];unfold iF;dsimp only;rw[e]);rw[hp]at J;have H2:=cN J;clear J hp e;go_wp2_with (first|(go_at_call 196;refine H2.out.mono ?_;rintro e W3 ⟨fb,rfl,d4,b8,c⟩;refine cQ ?_));have y:=cN (aLp c d4 b8);clear c d4 b8;refine cN ?_;go_wp2_with fail;go_ret;rw[j.out];exact⟨y.out.1.to,fb,rfl,y.out.2.1,y.out.2.2⟩
  |fine=>
   have e2:eP m s iQ=(w,.none):=by rw[←a7.out,←hp]
   rw[hp]at J;have H2:=cN J;have v:=cN e2;clear J hp e2;go_wp2_with (first|(go_at_call 196;refine H2.out.mono ?_;rintro e W3 ⟨rfl,d9,F3,a3,i3,l3,q3,f3⟩;refine cQ ?_));obtain⟨k0,f,r⟩:=vT v.out;have i:=gR f;have Y:iC w:=by have G:=kS f p.out.1;rw[r];exact G
   have Z:w.old=none:=by have G:=i.2.2.2.2.trans p.out.2.1;rw[r];exact G
   have a8:w.new=some (s,0):=by rw[r];unfold iQ;rw[i.2.2.2.1,p.out.2.2.1];rfl
   have c3:=a3.cell 2 _ rfl;have d0:=cN (aBH a3 i3 l3 q3 f3 (aDC W3 d9 d w (oO eb) s 0 a3.disk Y a8 Z));have U:=cN (aLp Y Z a8);clear a3 i3 l3 q3 f3 Y Z a8 i f r;obtain⟨H,t⟩:=aLA ((dZ w hU).1);have P:=d0.out;rw[t]at P;have c0:=cN t;clear t d0;refine cN ?_;cases hp:(dZ w hU).2 using mM with
   |full=>exact absurd hp qN
   |dies q=>
    have e:dZ w hU=(H,(.some (.some q))):=by rw[←c0.out,←hp]
    have j:Hid (eJ a=({a with dk:=H},(.some (.some q)))):=z.out _ _ (by unfold fU;rw[l.out];unfold iF;dsimp only;rw[v.out];dsimp only;rw[e]);rw[hp]at P;have H3:=cN P;clear P hp e;go_wp2_with (first|(go_at_call 197;refine H3.out.mono ?_;rintro e W4 ⟨rfl,c⟩;refine cQ ?_));have y:=cN c;clear c;refine cN ?_;go_wp2_with fail;refine⟨rfl,?_⟩;rw[j.out];exact⟨y.out.to,rfl⟩
   |fine=>
    have e3:dZ w hU=(H,.none):=by rw[←c0.out,←hp]
    rw[hp]at P;have H3:=cN P;have D:=cN e3;clear P hp e3;go_wp2_with (first|(go_at_call 197;refine H3.out.mono ?_;rintro e W4 ⟨rfl,e0,F4,a4,i4,l4,q4,f4⟩;refine cQ ?_));obtain⟨k0,f,t⟩:=qM D.out;have i:=gR f;have T:iC H:=by have G:=kS f U.out.1;rw[t];exact G
    have a6:H.old=none:=by have G:=i.2.2.2.2.trans U.out.2.1;rw[t];exact G
    have X:H.new=some (s,(s.length:Int)):=by rw[t];unfold hU;rw[i.2.2.2.1,U.out.2.2]
    have c4:=a4.cell 2 _ rfl;have d5:=cN (aBH a4 i4 l4 q4 f4 (aFY W4 e0 d H (oO eb) s s.length a4.disk T X a6));have d6:=cN (aLp T a6 X);clear a4 i4 l4 q4 f4 T a6 X i f t c3;obtain⟨I,A⟩:=aLA ((dZ H gI).1);have R:=d5.out;rw[A]at R;have c8:=cN A;clear A d5;refine cN ?_;cases hp:(dZ H gI).2 using mM with
    |full=>exact absurd hp qN
    |dies q=>
     have e:dZ H gI=(I,(.some (.some q))):=by rw[←c8.out,←hp]
     have j:Hid (eJ a=({a with dk:=I},(.some (.some q)))):=z.out _ _ (by unfold fU;rw[l.out];unfold iF;dsimp only;rw[v.out];dsimp only;rw[D.out];dsimp only;rw[e]);rw[hp]at R;have H4:=cN R;clear R hp e;go_wp2_with (first|(go_at_call 200;refine H4.out.mono ?_;rintro e W5 ⟨rfl,c⟩;refine cQ ?_));have y:=cN c;clear c;refine cN ?_;go_wp2_with fail;refine⟨rfl,?_⟩;rw[j.out];exact⟨y.out.to,rfl⟩
    |fine=>
     have e4:dZ H gI=(I,.none):=by rw[←c8.out,←hp]
     rw[hp]at R;have H4:=cN R;have K:=cN e4;clear R hp e4;go_wp2_with (first|(go_at_call 200;refine H4.out.mono ?_;rintro e W5 ⟨rfl,d8,F5,a5,i5,l5,q5,f5⟩;refine cQ ?_));obtain⟨k0,f,A⟩:=qM K.out;have i:=gR f;have b6:iC I:=by have G:=kS f d6.out.1;rw[A];exact aB6 G
     have d3:I.new=none:=by rw[A];unfold gI;rw[i.2.2.2.1,d6.out.2.2]
     have c5:=a5.cell 2 _ rfl;have c9:=cN (aBH a5 i5 l5 q5 f5 (aB2 W5 d8 d I (oO eb) a5.disk b6 d3));clear a5 i5 l5 q5 f5 b6 d3 i f A c4;obtain⟨k5,a0⟩:=aLA ((dZ I oJ).1);have Q:=c9.out;rw[a0]at Q;have c6:=cN a0;clear a0 c9;refine cN ?_;cases hp:(dZ I oJ).2 using mM with
     |full=>exact absurd hp qN
     |dies q=>
      have e:dZ I oJ=(k5,(.some (.some q))):=by rw[←c6.out,←hp]
      have j:Hid (eJ a=({a with dk:=k5},(.some (.some q)))):=z.out _ _ (by unfold fU;rw[l.out];unfold iF;dsimp only;rw[v.out];dsimp only;rw[D.out];dsimp only;rw[K.out];dsimp only;rw[e]);rw[hp]at Q;have H5:=cN Q;clear Q hp e;go_wp2_with (first|(go_at_call 163;refine H5.out.mono ?_;rintro e W6 ⟨rfl,c⟩;refine cQ ?_));have y:=cN c;clear c;refine cN ?_;go_wp2_with fail;refine⟨rfl,?_⟩;rw[j.out];exact⟨y.out.to,rfl⟩
     |fine=>
      have e:dZ I oJ=(k5,.none):=by rw[←c6.out,←hp]
      have j:Hid (eJ a=({a with dk:=k5},.none)):=z.out _ _ (by unfold fU;rw[l.out];unfold iF;dsimp only;rw[v.out];dsimp only;rw[D.out];dsimp only;rw[K.out];dsimp only;rw[e]);rw[hp]at Q;have H5:=cN Q;clear Q hp e;go_wp2_with (first|(go_at_call 163;refine H5.out.mono ?_;rintro e W6 ⟨rfl,c⟩;refine cQ ?_));have y:=cN c;clear c;refine cN ?_;go_wp2_with fail;go_ret;rw[j.out];exact⟨y.out.to,rfl⟩
end
section
open Go.Maps
theorem aBE(W:World)(F:Nat→Prop)(B:Nat)(eb:Addr)(b g:Nat)(a:Ac)(h:Acc W F b g a)(hgl:GlAt W B eb)(hFB:∀x,F x→B≤x)(hok:yA a)(hby:∀x ∈ a.dk.log,0≤x∧x<256)(hnew:a.dk.new=none)(hold:a.dk.old=none):
 Calls prog 134 #[.pointer (some ⟨b,0,none⟩)] W fun e W'=>tM .nilIface (oO eb) W F b g (fR a) e W':=by
 have b2:=cN (aBD W F b g a h);have a1:(strOfNums a.dk.log).size≤1000000000000:=by rw[dU];have:=hok.l1;omega
 have M:=vV (strOfNums a.dk.log) W a1;rw[nJ hby]at M;obtain⟨l,H⟩:=aLz (dO a.dk.log);rw[←H]at M;have a2:∀r ∈ l,0≤r.lock∧r.lock≤3:=by rw[H];exact uV _ _
 have b4:25*(l.length:Int)≤a.dk.log.length:=by
  have:=aCr (strOfNums a.dk.log);rw[nJ hby,←H,dU]at this;omega
 have a4:fR a=if 25*(l.length:Int)<a.dk.log.length∨mB a=true then eJ {a with rows:=l}else({a with rows:=l},.none):=by unfold fR;rw[←H]
 have b0:=cN M;have X:=cN a4;have a8:=cN a2;have E:=cN (aLs h hgl hFB hok hnew hold);have b8:=kH a.dk.log;clear M a4 a2 H hby a1 h hgl hFB hok hnew hold;go_enter func134,ntmps134;go_wp2_with (first|(go_at_call 60;refine b2.out.mono ?_;rintro e w' ⟨rfl,L⟩;have b1:=L.symm;subst b1;clear L)|(go_at_call 61;refine b0.out.mono ?_;rintro e W1 ⟨m,n,rfl,K,hn,b6,R⟩;refine cQ ?_));have Y:=Chg.below' R;have G:aBv W1 m l:=nY K (by rw[vX a8.out K];exact oP _);obtain⟨FD,d,tb,ha,N,a3⟩:=E.out.1;have s:=ha.kept Y (fun _ _ h=>h);have c3:=s.cell 3 _ rfl;have z3:=s.froz 3;have A:=cY W1 b 3 (.map (some m));have a7:=dD s.blk 3 (.map (some m));generalize a5:W1.setCell ⟨b,3,none⟩ (.map (some m))=W2 at*;have v:=cN a5;obtain⟨_,_,o⟩:=eH G;have b9:=dG ha.blk;have b5:=G.lt;have a9:AcAt W2 FD b g d m {a with rows:=l}:=⟨a7,s.disk.of_heap A.size (fun x i=>A.block x (s.disk.lt x i) (fun e=>s.nb (e▸i))),eB G (A.block _ G.lt (by omega)),s.nb,fun i=>by have:=ha.disk.lt m i;omega⟩;have w:=(Y.nos:Chg F W W1).trans A (fun x _ e=>e▸N b (Or.inr (Or.inl rfl)));have b7:=A.size;have J:Acc W2 (fun x=>F x∨x=m) b g {a with rows:=l}:=⟨FD,d,m,a9,fun x i=>by
  rcases i with i|i|i
  ·exact Or.inl (N x (Or.inl i))
  ·exact Or.inl (N x (Or.inr (Or.inl i)))
  ·exact Or.inr i,fun x i=>by
  rcases i with i|i
  ·have:=a3 x i;have:=w.size;omega
  ·omega⟩
 have a6:∀x,(F x∨x=m)→F x∨W.heap.size≤x:=fun x i=>i.elim Or.inl (fun e=>Or.inr (by omega));have S:yA {a with rows:=l}:={E.out.2.2.2.1 with lk:=a8.out};have T:=E.out.2.1.kept w E.out.2.2.1;have U:∀x,(F x∨x=m)→B≤x:=fun x i=>by
  rcases i with i|i
  ·exact E.out.2.2.1 x i
  ·have:=E.out.2.1.hB;omega
 have O:=cN (aBx W2 _ b g _ J (by have:=E.out.2.2.2.1.l1;show(a.dk.log.length:Int)≤_;omega));have j:=cN (aLs J w a6 S T U);clear J w a6 S T U a9 s ha a7 A a5 Y G K R N a3 o;have u:Hid (∀(x:World) p e W',Chg NoS W2 x→tM .nilIface (oO eb) x (fun y=>F y∨y=m) b g p e W'→tM .nilIface (oO eb) W F b g p e W'):=fun x p e W' i c=>by
  obtain⟨Q,h2⟩:=c;have a0:=j.out.2.1.nos' i;refine⟨AcTo.trans a0 (fun y hy=>j.out.2.2.1 y hy) Q,?_⟩;obtain⟨P,hw⟩:=p;cases hw using mM with
  |fine=>exact h2
  |dies q=>exact h2
  |full=>obtain⟨z,g1,g2,g3⟩:=h2;exact⟨z,g1,g2,cA a0.size g3⟩
 refine cN ?_;by_cases Q:25*(l.length:Int)<a.dk.log.length
 ·have b3:decide (25*(l.length:Int)<a.dk.log.length)=true:=by simpa using Q
  have t:=cN (X.out.trans (if_pos (Or.inl Q)));have Z:=cN (pK W2 _ B eb b g {a with rows:=l} j.out.1 j.out.2.2.2.2.1 j.out.2.2.2.2.2 j.out.2.2.2.1 E.out.2.2.2.2.1 E.out.2.2.2.2.2);clear Q;obtain⟨p,V⟩:=aLz (eJ {a with rows:=l});have HP:=cN V;have f:=Z.out;rw[←V]at f;clear V;obtain⟨P,hw⟩:=p;have k:=cN (t.out.trans HP.out.symm);cases hw using mM with
  |fine=>
   have D:Hid (Calls prog 174 #[.pointer (some ⟨b,0,none⟩)] W2 fun e W'=>e= .returned .nilIface∧tM .nilIface (oO eb) W2 (fun y=>F y∨y=m) b g (P,.none) e W'):=f.mono fun e W' c=>⟨c.2,c⟩;clear f;go_wp2_with (first|rw[v.out]|(go_at_call 174;refine D.out.mono ?_;rintro e W3 ⟨rfl,c⟩;refine cQ ?_));have C:=cN (u.out _ _ _ _ (Chg.refl _ _) c);clear c;refine cN ?_;go_wp2_with fail;go_ret;rw[k.out];exact C.out
  |dies q=>
   have D:Hid (Calls prog 174 #[.pointer (some ⟨b,0,none⟩)] W2 fun e W'=>e= .panicked (rS q)∧tM .nilIface (oO eb) W2 (fun y=>F y∨y=m) b g (P,(.some (.some q))) e W'):=f.mono fun e W' c=>⟨c.2,c⟩;clear f;go_wp2_with (first|rw[v.out]|(go_at_call 174;refine D.out.mono ?_;rintro e W3 ⟨rfl,c⟩;refine cQ ?_));have C:=cN (u.out _ _ _ _ (Chg.refl _ _) c);clear c;refine cN ?_;go_wp2_with fail;refine⟨rfl,?_⟩;rw[k.out];exact C.out
  |full=>
   have D:Hid (Calls prog 174 #[.pointer (some ⟨b,0,none⟩)] W2 fun e W'=>∃z,e= .returned (lV z)∧tM .nilIface (oO eb) W2 (fun y=>F y∨y=m) b g (P,(.some .none)) (.returned (lV z)) W'):=f.mono fun e W' c=>by
    obtain⟨z,g1,g2⟩:=c.2;subst g1;exact⟨z,rfl,c⟩
   clear f;go_wp2_with (first|rw[v.out]|(go_at_call 174;refine D.out.mono ?_;rintro e W3 ⟨z,rfl,c⟩;refine cQ ?_));have C:=cN (u.out _ _ _ _ (Chg.refl _ _) c);clear c;refine cN ?_;go_wp2_with fail;go_ret;rw[k.out];exact C.out
 ·have b3:decide (25*(l.length:Int)<a.dk.log.length)=false:=by simpa using Q
  cases hq:mB a with
  |true=>
   have t:=cN (X.out.trans (if_pos (Or.inr hq)));have I:Hid (Calls prog 173 #[.pointer (some ⟨b,0,none⟩)] W2 fun e W'=>e= .returned (.bool true)∧W'=W2.drew):=by
    have h:=O.out;have e:mB {a with rows:=l}=true:=hq;rw[e]at h;exact h
   have Z:=cN (pK W2.drew _ B eb b g {a with rows:=l} (j.out.1.kept (Chg.refl NoS W2).drew (fun _ _ h=>h)) (j.out.2.2.2.2.1.kept (Chg.refl NoS W2).drew (fun _ h=>h.elim)) j.out.2.2.2.2.2 j.out.2.2.2.1 E.out.2.2.2.2.1 E.out.2.2.2.2.2);clear Q hq O;obtain⟨p,V⟩:=aLz (eJ {a with rows:=l});have HP:=cN V;have f:=Z.out;rw[←V]at f;clear V;obtain⟨P,hw⟩:=p;have k:=cN (t.out.trans HP.out.symm);cases hw using mM with
   |fine=>
    have D:Hid (Calls prog 174 #[.pointer (some ⟨b,0,none⟩)] W2.drew fun e W'=>e= .returned .nilIface∧tM .nilIface (oO eb) W2.drew (fun y=>F y∨y=m) b g (P,.none) e W'):=f.mono fun e W' c=>⟨c.2,c⟩;clear f;go_wp2_with (first|rw[v.out]|(go_at_call 173;refine I.out.mono ?_;rintro e w' ⟨rfl,L⟩;subst L)|(go_at_call 174;refine D.out.mono ?_;rintro e W3 ⟨rfl,c⟩;refine cQ ?_));have C:=cN (u.out _ _ _ _ (Chg.refl NoS W2).drew c);clear c;refine cN ?_;go_wp2_with fail;go_ret;rw[k.out];exact C.out
   |dies q=>
    have D:Hid (Calls prog 174 #[.pointer (some ⟨b,0,none⟩)] W2.drew fun e W'=>e= .panicked (rS q)∧tM .nilIface (oO eb) W2.drew (fun y=>F y∨y=m) b g (P,(.some (.some q))) e W'):=f.mono fun e W' c=>⟨c.2,c⟩;clear f;go_wp2_with (first|rw[v.out]|(go_at_call 173;refine I.out.mono ?_;rintro e w' ⟨rfl,L⟩;subst L)|(go_at_call 174;refine D.out.mono ?_;rintro e W3 ⟨rfl,c⟩;refine cQ ?_));have C:=cN (u.out _ _ _ _ (Chg.refl NoS W2).drew c);clear c;refine cN ?_;go_wp2_with fail;refine⟨rfl,?_⟩;rw[k.out];exact C.out
   |full=>
    have D:Hid (Calls prog 174 #[.pointer (some ⟨b,0,none⟩)] W2.drew fun e W'=>∃z,e= .returned (lV z)∧tM .nilIface (oO eb) W2.drew (fun y=>F y∨y=m) b g (P,(.some .none)) (.returned (lV z)) W'):=f.mono fun e W' c=>by
     obtain⟨z,g1,g2⟩:=c.2;subst g1;exact⟨z,rfl,c⟩
    clear f;go_wp2_with (first|rw[v.out]|(go_at_call 173;refine I.out.mono ?_;rintro e w' ⟨rfl,L⟩;subst L)|(go_at_call 174;refine D.out.mono ?_;rintro e W3 ⟨z,rfl,c⟩;refine cQ ?_));have C:=cN (u.out _ _ _ _ (Chg.refl NoS W2).drew c);clear c;refine cN ?_;go_wp2_with fail;go_ret;rw[k.out];exact C.out
  |false=>
   have t:=cN (X.out.trans (if_neg (by rw[hq];simp;omega)));have I:Hid (Calls prog 173 #[.pointer (some ⟨b,0,none⟩)] W2 fun e W'=>e= .returned (.bool false)∧W'=W2.drew):=by
    have h:=O.out;have e:mB {a with rows:=l}=false:=hq;rw[e]at h;exact h
   clear Q hq O;go_wp2_with (first|rw[v.out]|(go_at_call 173;refine I.out.mono ?_;rintro e w' ⟨rfl,L⟩;subst L));go_ret;rw[t.out];exact u.out _ _ _ _ (Chg.refl NoS W2).drew ⟨.of (j.out.1.kept (Chg.refl NoS W2).drew (fun _ _ h=>h)),rfl⟩
end
section
open Go.Maps
theorem aBV(pa pe:Nat)(w:World):
 CallsD prog 127 #[.pointer (some ⟨pa,0,none⟩),.pointer (some ⟨pe,0,none⟩)] .returning w fun e u' w'=>e= .returned (.tuple #[])∧u'= .returning∧w'=w:=by
 refine callsD_of_wpS func127 rfl fun c₀ cs hu=>?_;apply wpS_seq;apply wpS_region;simp[wpOpsS,go_sem,recoverD,hu,ntmps127,Exit.thenS];refine wpS_of_wp ?_;go_wp2;cases c₀;simp_all [bodyPostS,results,results127]
theorem aBY(q:Int)(w:World):(Instr.typeAssert (.iface 199 (.agg #[.int .i64 q])) 20 199 true).run prog w= .ok (.tuple #[.agg #[.int .i64 q],.bool true]) w:=by
 simp[Instr.typeAssert,run_underlying underlying199]
theorem aGV(pa pe:Value)(x:Value):(#[pa,pe]++(Array.replicate 13 undef).setIfInBounds 3 x:Array Value)=#[pa,pe,undef,undef,undef,x,undef,undef,undef,undef,undef,undef,undef,undef,undef]:=by
 rfl
theorem aHc(W:World)(F G:Nat→Prop)(b g:Nat)(av cv:Value)(a:Ac)(net:List Mg)(tr:List Ev)(q:Int)(pa pe:Nat)(h:ASys W F G b g av cv a net tr)(hk:aH8 a.dk)(hq:0≤q)(hn:net.length≤100000000000)(ht:tr.length≤100000000000)
 (ha:W.heap[pa]?=some (.cells #[.pointer (some ⟨b,0,none⟩)] 114 (0,0))) (he:W.heap[pe]?=some (.cells #[.int .i64 0] 48 (0,0))) (hpF:¬F pe) (hpG:¬G pe):
 CallsD prog 127 #[.pointer (some ⟨pa,0,none⟩),.pointer (some ⟨pe,0,none⟩)] (.panicking (rS q)) W fun e u' w'=>e= .returned (.tuple #[])∧u'= .panicking [{v:=.iface 199 (.agg #[.int .i64 q]),recovered:=true}]∧
  ∃W1,AfterA W F G b g av cv (crashA a q) net (tr++[eO a.num]) W1∧W1.heap[pe]?=W.heap[pe]?∧w'=W1.setCell ⟨pe,0,none⟩ (.int .i64 6):=by
 have hta:=aBY q;have hc1:Chg NoS W (W.alloc (.cells #[.int .i64 q] 199)):=(Chg.refl _ _).alloc _;have hb1:=aA W (.cells #[.int .i64 q] 199);have a1:=dM (.cells #[.int .i64 q] 199) ha;have e1:=dM (.cells #[.int .i64 q] 199) he;have hpe:=dG he;have h1:=h.kept hc1 (fun _ _ h=>h) (fun _ _ h=>h);have hs1:(W.alloc (.cells #[.int .i64 q] 199)).heap.size=W.heap.size+1:=by simp
 generalize hX1:W.alloc (.cells #[.int .i64 q] 199)=W1 at*;have HX1:=cN hX1;have k0:W1.cell? ⟨pa,0,none⟩=some (.pointer (some ⟨b,0,none⟩)):=cO a1 0 _ rfl;have k1:W1.cell? ⟨W.heap.size,0,none⟩=some (.int .i64 q):=cO hb1 0 _ rfl;have HCR:=cN (wI W1 F G b g av cv a net tr q h1 hk hq hn ht);have HC1:=cN hc1;have HS1:=cN hs1;have HE1:=cN e1;have HE:=cN he;have HH:=cN h;have HPE:=cN hpe;clear hX1 hc1 hb1 a1 e1 h1 hs1 ha he h hk hn ht hpe;refine callsD_of_wpS func127 rfl fun c₀ cs hu=>?_;apply wpS_seq;apply wpS_region;simp[wpOpsS,go_sem,recoverD,hu,ntmps127,Exit.thenS];refine wpS_of_wp ?_;try rw[aGV]
 go_wp2_with (first|rw[HX1.out]|(go_at_call 128;refine HCR.out.mono ?_;rintro e w2 ⟨rfl,haf⟩;have HAF:=cN haf;clear haf;refine cQ ?_));refine cN ?_;have hpe2:w2.heap[pe]?=W1.heap[pe]?:=by
  obtain⟨F',G',_,hw⟩:=HAF.out;exact hw.chg.block pe (by have:=HS1.out;have:=HPE.out;omega) (fun h=>h.elim hpF hpG)
 have e2:=hpe2.trans HE1.out;have f2:=cX e2 0;have g2:=cO e2 0 _ rfl;have HE2:=cN (hpe2.trans (HE1.out.trans HE.out.symm));clear hpe2 e2;go_wp2;cases c₀;simp_all [bodyPostS,results,results127];exact⟨w2,AfterA.trans ⟨HC1.out.mono (fun _ _ h=>h.elim),fun _ h=>Or.inl h,fun _ h=>Or.inl h⟩ HAF.out,HE2.out,rfl⟩
end
abbrev fG(b:Nat):Value:=.pointer (some ⟨b,0,none⟩)
abbrev pO(f:Nat→Nat)(n:Nat):List Value:=(List.range n).map fun i=>fG (f i)
structure MoAt(W:World)(own:Nat→Nat)(g:Nat)(x:Mo)(av cv:Value)(bA bC:Nat→Nat):Prop where
 nt:NtAt W (fun k=>own k=1) g av cv x.net x.tr
 rav:W.ownsRow 0 114 1 av x.acs.length (pO bA x.acs.length)
 rcv:W.ownsRow 0 96 1 cv x.cls.length (pO bC x.cls.length)
 avb:∀k,av.ownBlock=some k→own k=2
 cvb:∀k,cv.ownBlock=some k→own k=2
 acc:∀i (h:i<x.acs.length),Acc W (fun k=>own k=3+2*i) (bA i) g x.acs[i]
 cls:∀i (h:i<x.cls.length),∃ch tk hd wt dv,ClAt W (fun k=>own k=4+2*i) (bC i) g x.cf x.cls[i] ch tk hd wt dv
 lt:∀k,own k≠0→k<W.heap.size
def Moor(W:World)(own:Nat→Nat)(g:Nat)(x:Mo):Prop:=∃av cv bA bC,MoAt W own g x av cv bA bC
def MoTo(W:World)(own:Nat→Nat)(g:Nat)(x:Mo)(W':World):Prop:=∃own',Moor W' own' g x∧Chg (fun k=>own k≠0) W W'∧∀k,own' k≠0→own k≠0∨W.heap.size≤k
theorem NtAt.grow{W:World}{G G':Nat→Prop}{g:Nat}{av cv:Value}{net:List Mg}{tr:List Ev}(h:NtAt W G g av cv net tr)(hg:∀k,G k→G' k)(hlt:∀k,G' k→k<W.heap.size):NtAt W G' g av cv net tr:=by
 obtain⟨a,b,f,d,j,e,i,c,l⟩:=h;exact⟨a,b,f,hg _ d,j,e,fun k hk=>hg _ (i k hk),fun k hk=>hg _ (c k hk),hlt⟩
theorem Acc.grow{W:World}{F F':Nat→Prop}{b g:Nat}{a:Ac}(h:Acc W F b g a)(hf:∀k,F k→F' k)(hlt:∀k,F' k→k<W.heap.size):Acc W F' b g a:=by
 obtain⟨i,d,c,f,e,j⟩:=h;exact⟨i,d,c,f,fun x hx=>hf _ (e x hx),hlt⟩
section
variable {W W':World}{own:Nat→Nat}{g:Nat}{x:Mo}{av cv:Value}{bA bC:Nat→Nat}
theorem MoAt.of_heap(h:MoAt W own g x av cv bA bC)(hs:W.heap.size≤W'.heap.size)(hb:∀k,own k≠0→W'.heap[k]?=W.heap[k]?):MoAt W' own g x av cv bA bC:=by
 refine⟨h.nt.of_heap hs (fun k hk=>hb k (by simp only[hk];decide)),dF h.rav (fun k hk=>hb k (by rw[h.avb k hk];decide)),dF h.rcv (fun k hk=>hb k (by rw[h.cvb k hk];decide)),h.avb,h.cvb,fun i hi=>?_,fun i hi=>?_,fun k hk=>aG (h.lt k hk) hs⟩
 ·obtain⟨n,d,c,a,b,m⟩:=h.acc i hi;exact⟨n,d,c,a.of_heap hs (fun k hk=>hb k (by have:=b k hk;omega)),b,fun k hk=>aG (m k hk) hs⟩
 ·obtain⟨j,f,e,wt,l,a⟩:=h.cls i hi;exact⟨j,f,e,wt,l,a.of_heap hs (fun k hk=>hb k (by omega))⟩
theorem Moor.of_heap(h:Moor W own g x)(hs:W.heap.size≤W'.heap.size)(hb:∀k,own k≠0→W'.heap[k]?=W.heap[k]?):Moor W' own g x:=by
 obtain⟨d,b,c,a,h⟩:=h;exact⟨d,b,c,a,h.of_heap hs hb⟩
theorem Moor.lt(h:Moor W own g x):∀k,own k≠0→k<W.heap.size:=by
 obtain⟨d,b,c,a,h⟩:=h;exact h.lt
theorem Moor.kept{S:Nat→Prop}(h:Moor W own g x)(hc:Chg S W W')(hn:∀k,own k≠0→¬S k):Moor W' own g x:=
 h.of_heap hc.size fun k hk=>hc.block k (h.lt k hk) (hn k hk)
theorem MoAt.kept{S:Nat→Prop}(h:MoAt W own g x av cv bA bC)(hc:Chg S W W')(hn:∀k,own k≠0→¬S k):MoAt W' own g x av cv bA bC:=
 h.of_heap hc.size fun k hk=>hc.block k (h.lt k hk) (hn k hk)
theorem MoAt.drew(h:MoAt W own g x av cv bA bC):MoAt W.drew own g x av cv bA bC:=h.kept (S:=NoS) (Chg.refl _ _).drew (fun _ _ h=>h)
theorem MoTo.of(h:Moor W own g x):MoTo W own g x W:=⟨own,h,Chg.refl _ _,fun _ h=>Or.inl h⟩
theorem MoTo.kept{S:Nat→Prop}(h:Moor W own g x)(hc:Chg S W W')(hn:∀k,own k≠0→¬S k)(hS:∀k,k<W.heap.size→¬S k):MoTo W own g x W':=⟨own,h.kept hc hn,hc.mono (fun k hk hs=>(hS k hk hs).elim),fun _ h=>Or.inl h⟩
theorem MoTo.trans{A B C:World}{own1:Nat→Nat}{x:Mo}(hc:Chg (fun k=>own k≠0) A B)(hf:∀k,own1 k≠0→own k≠0∨A.heap.size≤k)(h:MoTo B own1 g x C):MoTo A own g x C:=by
 obtain⟨a,c,b,d⟩:=h;refine⟨a,c,hc.trans b (fun k hk h'=>?_),fun k hk=>?_⟩
 ·rcases hf k h' with h|h
  ·exact h
  ·omega
 ·rcases d k hk with h|h
  ·exact hf k h
  ·right;have:=hc.size;omega
theorem MoTo.drew(h:MoTo W.drew own g x W'):MoTo W own g x W':=by
 obtain⟨b,c,a,d⟩:=h;exact⟨b,c,⟨a.os,a.tape,a.output,a.size,a.block⟩,d⟩
theorem MoAt.sys(h:MoAt W own g x av cv bA bC)(i:Nat)(hi:i<x.cls.length):Sys W (fun k=>own k=4+2*i) (fun k=>own k=1) (bC i) g x.cf av cv x.cls[i] x.net x.tr:=
 ⟨h.cls i hi,h.nt,fun k hk hk'=>by omega⟩
theorem MoAt.asys(h:MoAt W own g x av cv bA bC)(i:Nat)(hi:i<x.acs.length):ASys W (fun k=>own k=3+2*i) (fun k=>own k=1) (bA i) g av cv x.acs[i] x.net x.tr:=
 ⟨h.acc i hi,h.nt,fun k hk hk'=>by omega⟩
def jM(W:World)(own:Nat→Nat)(F G:Nat→Prop) [DecidablePred F] [DecidablePred G] (p:Nat):Nat→Nat:=fun k=>if k<W.heap.size then own k else if F k then p else if G k then 1 else 0
theorem vD{F G:Nat→Prop} [DecidablePred F] [DecidablePred G] {p k:Nat}(hk:k<W.heap.size):jM W own F G p k=own k:=by unfold jM;rw[if_pos hk]
theorem aHp{F G:Nat→Prop} [DecidablePred F] [DecidablePred G] {p k:Nat}(hk:W.heap.size≤k):jM W own F G p k=p∨jM W own F G p k=1∨jM W own F G p k=0:=by
 unfold jM;rw[if_neg (by omega)];split
 ·exact Or.inl rfl
 ·split
  ·exact Or.inr (Or.inl rfl)
  ·exact Or.inr (Or.inr rfl)
theorem aGE{F F0 G:Nat→Prop} [DecidablePred F] [DecidablePred G] {p k:Nat}(hF0:∀k,F0 k→own k=p)(hf:∀k,F k→F0 k∨W.heap.size≤k)(hk:F k):jM W own F G p k=p:=by
 unfold jM;split
 ·rcases hf k hk with h|h
  ·exact hF0 k h
  ·omega
 ·rfl
theorem aDh{F G G0:Nat→Prop} [DecidablePred F] [DecidablePred G] {p k:Nat}(hap:∀k,F k→¬G k)(hG0:∀k,G0 k→own k=1)(hg:∀k,G k→G0 k∨W.heap.size≤k)(hk:G k):jM W own F G p k=1:=by
 unfold jM;split
 ·rcases hg k hk with h|h
  ·exact hG0 k h
  ·omega
 ·rw[if_neg (fun h=>hap k h hk)]
theorem aBI{F G:Nat→Prop} [DecidablePred F] [DecidablePred G] {p:Nat}(hlt:∀k,own k≠0→k<W.heap.size)(hs:W.heap.size≤W'.heap.size)(hF:∀k,F k→k<W'.heap.size)(hG:∀k,G k→k<W'.heap.size):∀k,jM W own F G p k≠0→k<W'.heap.size:=fun k hk=>by
 unfold jM at hk;split at hk
 ·have:=hlt k hk;omega
 ·split at hk
  ·rename_i h;exact hF k h
  ·split at hk
   ·rename_i h;exact hG k h
   ·exact absurd rfl hk
theorem gG{F G:Nat→Prop} [DecidablePred F] [DecidablePred G] {p q:Nat}(hq0:q≠0)(hq1:q≠1)(hqp:q≠p)(hlt:∀k,own k≠0→k<W.heap.size)(k:Nat):jM W own F G p k=q↔own k=q:=by
 by_cases a:k<W.heap.size
 ·rw[vD a]
 ·constructor
  ·intro h;rcases aHp (own:=own) (F:=F) (G:=G) (p:=p) (Nat.le_of_not_lt a)with b|b|b<;>omega
  ·intro h;exact absurd (hlt k (by omega)) a
theorem MoAt.clientTo(h:MoAt W own g x av cv bA bC)(i:Nat)(hi:i<x.cls.length){c':Ct}{net':List Mg}{tr':List Ev}(ha:After W (fun k=>own k=4+2*i) (fun k=>own k=1) (bC i) g x.cf av cv c' net' tr' W'):
 MoTo W own g {x with cls:=x.cls.set i c',net:=net',tr:=tr'} W':=by
 classical
 obtain⟨F',G',hs,hw⟩:=ha;have hsz:=hw.chg.size;have hF:=hs.ltF;have hG:=hs.nt.lt;have hF':∀k,F' k→jM W own F' G' (4+2*i) k=4+2*i:=fun k hk=>aGE (F0:=fun k=>own k=4+2*i) (fun _ h=>h) hw.f hk;have hG':∀k,G' k→jM W own F' G' (4+2*i) k=1:=fun k hk=>aDh (G0:=fun k=>own k=1) hs.apart (fun _ h=>h) hw.g hk;have hlt:=aBI (own:=own) (p:=4+2*i) h.lt hsz hF hG;have hblk:∀k,own k≠0→own k≠1→own k≠4+2*i→W'.heap[k]?=W.heap[k]?:=fun k h0 h1 h2=>hw.chg.block k (h.lt k h0) (fun hs=>by omega);refine⟨jM W own F' G' (4+2*i),⟨av,cv,bA,bC,?_⟩,hw.chg.mono (fun k _ hk=>by omega),fun k hk=>?_⟩
 ·refine⟨hs.nt.grow hG' (fun k hk=>hlt k (by omega)),dF h.rav (fun k hk=>hblk k (by rw[h.avb k hk];decide) (by rw[h.avb k hk];decide) (by rw[h.avb k hk];omega)),?_,?_,?_,?_,?_,hlt⟩
  ·have:=dF (w':=W') h.rcv (fun k hk=>hblk k (by rw[h.cvb k hk];decide) (by rw[h.cvb k hk];decide) (by rw[h.cvb k hk];omega));simpa using this
  ·exact fun k hk=>(gG (by decide) (by decide) (by omega) h.lt k).2 (h.avb k hk)
  ·exact fun k hk=>(gG (by decide) (by decide) (by omega) h.lt k).2 (h.cvb k hk)
  ·intro j hj;have e:(fun k=>jM W own F' G' (4+2*i) k=3+2*j)=(fun k=>own k=3+2*j):=funext fun k=>propext (gG (by omega) (by omega) (by omega) h.lt k);rw[e];exact(h.acc j hj).kept hw.chg (fun k hk hs=>by omega)
  ·intro j hj;have hj':j<x.cls.length:=by simpa using hj
   by_cases hji:j=i
   ·subst hji;obtain⟨ch,tk,hd,wt,dv,hc⟩:=hs.cl;refine⟨ch,tk,hd,wt,dv,?_⟩;simp only[bZ];exact hc.grow hF' (fun k hk=>hlt k (by omega))
   ·have e:(fun k=>jM W own F' G' (4+2*i) k=4+2*j)=(fun k=>own k=4+2*j):=funext fun k=>propext (gG (by omega) (by omega) (by omega) h.lt k);obtain⟨ch,tk,hd,wt,dv,hc⟩:=h.cls j hj';refine⟨ch,tk,hd,wt,dv,?_⟩;simp only[List.getElem_set_ne (Ne.symm hji)];rw[e];exact hc.kept hw.chg (fun k hk hs=>by omega)
 ·by_cases hk':k<W.heap.size
  ·rw[vD hk']at hk;exact Or.inl hk
  ·exact Or.inr (by omega)
theorem MoAt.acceptorTo(h:MoAt W own g x av cv bA bC)(i:Nat)(hi:i<x.acs.length){a':Ac}{net':List Mg}{tr':List Ev}(ha:AfterA W (fun k=>own k=3+2*i) (fun k=>own k=1) (bA i) g av cv a' net' tr' W'):
 MoTo W own g {x with acs:=x.acs.set i a',net:=net',tr:=tr'} W':=by
 classical
 obtain⟨F',G',hs,hw⟩:=ha;have hsz:=hw.chg.size;have hF:=hs.acc.lt;have hG:=hs.nt.lt;have hF':∀k,F' k→jM W own F' G' (3+2*i) k=3+2*i:=fun k hk=>aGE (F0:=fun k=>own k=3+2*i) (fun _ h=>h) hw.f hk;have hG':∀k,G' k→jM W own F' G' (3+2*i) k=1:=fun k hk=>aDh (G0:=fun k=>own k=1) hs.apart (fun _ h=>h) hw.g hk;have hlt:=aBI (own:=own) (p:=3+2*i) h.lt hsz hF hG;have hblk:∀k,own k≠0→own k≠1→own k≠3+2*i→W'.heap[k]?=W.heap[k]?:=fun k h0 h1 h2=>hw.chg.block k (h.lt k h0) (fun hs=>by omega);refine⟨jM W own F' G' (3+2*i),⟨av,cv,bA,bC,?_⟩,hw.chg.mono (fun k _ hk=>by omega),fun k hk=>?_⟩
 ·refine⟨hs.nt.grow hG' (fun k hk=>hlt k (by omega)),?_,dF h.rcv (fun k hk=>hblk k (by rw[h.cvb k hk];decide) (by rw[h.cvb k hk];decide) (by rw[h.cvb k hk];omega)),?_,?_,?_,?_,hlt⟩
  ·have:=dF (w':=W') h.rav (fun k hk=>hblk k (by rw[h.avb k hk];decide) (by rw[h.avb k hk];decide) (by rw[h.avb k hk];omega));simpa using this
  ·exact fun k hk=>(gG (by decide) (by decide) (by omega) h.lt k).2 (h.avb k hk)
  ·exact fun k hk=>(gG (by decide) (by decide) (by omega) h.lt k).2 (h.cvb k hk)
  ·intro j hj;have hj':j<x.acs.length:=by simpa using hj
   by_cases hji:j=i
   ·subst hji;simp only[bZ];exact hs.acc.grow hF' (fun k hk=>hlt k (by omega))
   ·have e:(fun k=>jM W own F' G' (3+2*i) k=3+2*j)=(fun k=>own k=3+2*j):=funext fun k=>propext (gG (by omega) (by omega) (by omega) h.lt k);simp only[List.getElem_set_ne (Ne.symm hji)];rw[e];exact(h.acc j hj').kept hw.chg (fun k hk hs=>by omega)
  ·intro j hj;have e:(fun k=>jM W own F' G' (3+2*i) k=4+2*j)=(fun k=>own k=4+2*j):=funext fun k=>propext (gG (by omega) (by omega) (by omega) h.lt k);obtain⟨ch,tk,hd,wt,dv,hc⟩:=h.cls j hj;refine⟨ch,tk,hd,wt,dv,?_⟩;rw[e];exact hc.kept hw.chg (fun k hk hs=>by omega)
 ·by_cases hk':k<W.heap.size
  ·rw[vD hk']at hk;exact Or.inl hk
  ·exact Or.inr (by omega)
theorem MoAt.netTo(h:MoAt W own g x av cv bA bC){G':Nat→Prop}{net':List Mg}{tr':List Ev}(hn:NtAt W' G' g av cv net' tr')(hc:Chg (fun k=>own k=1) W W')(hg:∀k,G' k→own k=1∨W.heap.size≤k):
 MoTo W own g {x with net:=net',tr:=tr'} W':=by
 classical
 have hsz:=hc.size;have hG':∀k,G' k→jM W own (fun _=>False) G' 1 k=1:=fun k hk=>aDh (G0:=fun k=>own k=1) (fun _ h=>h.elim) (fun _ h=>h) hg hk;have hlt:=aBI (own:=own) (F:=fun _=>False) (p:=1) h.lt hsz (fun _ h=>h.elim) hn.lt;have hblk:∀k,own k≠0→own k≠1→W'.heap[k]?=W.heap[k]?:=fun k h0 h1=>hc.block k (h.lt k h0) (fun hs=>by omega);refine⟨jM W own (fun _=>False) G' 1,⟨av,cv,bA,bC,?_⟩,hc.mono (fun k _ hk=>by omega),fun k hk=>?_⟩
 ·refine⟨hn.grow hG' (fun k hk=>hlt k (by omega)),dF h.rav (fun k hk=>hblk k (by rw[h.avb k hk];decide) (by rw[h.avb k hk];decide)),dF h.rcv (fun k hk=>hblk k (by rw[h.cvb k hk];decide) (by rw[h.cvb k hk];decide)),?_,?_,?_,?_,hlt⟩
  ·exact fun k hk=>(gG (by decide) (by decide) (by decide) h.lt k).2 (h.avb k hk)
  ·exact fun k hk=>(gG (by decide) (by decide) (by decide) h.lt k).2 (h.cvb k hk)
  ·intro j hj;have e:(fun k=>jM W own (fun _=>False) G' 1 k=3+2*j)=(fun k=>own k=3+2*j):=funext fun k=>propext (gG (by omega) (by omega) (by omega) h.lt k);rw[e];exact(h.acc j hj).kept hc (fun k hk hs=>by omega)
  ·intro j hj;have e:(fun k=>jM W own (fun _=>False) G' 1 k=4+2*j)=(fun k=>own k=4+2*j):=funext fun k=>propext (gG (by omega) (by omega) (by omega) h.lt k);obtain⟨ch,tk,hd,wt,dv,hcl⟩:=h.cls j hj;refine⟨ch,tk,hd,wt,dv,?_⟩;rw[e];exact hcl.kept hc (fun k hk hs=>by omega)
 ·by_cases hk':k<W.heap.size
  ·rw[vD hk']at hk;exact Or.inl hk
  ·exact Or.inr (by omega)
end
theorem fK{W:World}{t:TypeId}{v:Value}{f:Nat→Nat}{n:Nat}(h:W.ownsRow 0 t 1 v n (pO f n)):∃(p:Option Addr) (cap:Nat),v= .slice p n cap∧∀i,i<n→∃k,p=some ⟨k,0,none⟩∧W.cell? ⟨k,i,none⟩=some (fG (f i)):=by
 rcases h.2 with⟨rfl,rfl⟩|⟨k,cap,a,rfl,b⟩
 ·exact⟨none,0,rfl,fun i hi=>by omega⟩
 ·refine⟨some ⟨k,0,none⟩,cap,rfl,fun i hi=>⟨k,rfl,?_⟩⟩;rw[h.cellAt i (by omega)];simp[hi]
theorem vF{W:World}{t:TypeId}{sz:Nat}{v:Value}{n:Nat}{xs:List Value}(h:W.ownsRow 0 t sz v n xs):∃(p:Option Addr) (cap:Nat),v= .slice p n cap:=by
 rcases h.2 with⟨rfl,rfl⟩|⟨k,cap,a,rfl,b⟩
 ·exact⟨none,0,rfl⟩
 ·exact⟨_,cap,rfl⟩
theorem aDo(i:Int)(n:Nat):wiB i 0 ((n:Int)-1)=dT i n:=by
 unfold wiB dT
 congr 1
 apply decide_eq_decide.2;omega
theorem aFT(c:Ct):dJ (uM c)=[]:=by
 unfold uM;split
 ·rfl
 ·exact fE _ (show(4:Int)≠1 by decide)
theorem aC5(c:Ct):dJ (nE c)=[]:=by
 unfold nE;split
 ·rfl
 ·exact fE _ (show(5:Int)≠1 by decide)
theorem MoAt.cells{W:World}{own:Nat→Nat}{g:Nat}{x:Mo}{av cv:Value}{bA bC:Nat→Nat}(h:MoAt W own g x av cv bA bC):∃nv tv,W.heap[g]?=some (.cells #[av,cv,nv,tv] 100 (0,0))∧W.ownsRow 0 66 10 nv x.net.length (cZ mgL x.net)∧W.ownsRow 0 70 19 tv x.tr.length (cZ evL x.tr)∧(∀k,nv.ownBlock=some k→own k=1)∧(∀k,tv.ownBlock=some k→own k=1)∧own g=1:=by
 obtain⟨nv,tv,d,b,f,c,e,a,i⟩:=h.nt;exact⟨nv,tv,d,f,c,e,a,b⟩
section
variable (W:World) (g:Nat) (i:Int) (p:Option Addr) (n cap:Nat)
theorem mS(hn:n≤1000000000000)(hc:W.cell? ⟨g,0,none⟩=some (.slice p n cap)):
 Calls prog 58 #[.pointer (some ⟨g,0,none⟩),.int .i64 i] W fun r W'=>r= .returned (.bool (dT i n))∧W'=W:=by
 have b:IntKind.i64.wrap ((n:Int)-1)=(n:Int)-1:=fV (by omega) (by omega);rw[←aDo];go_enter func58,ntmps58;go_wp2_with (go_at_call 80;refine(iI _ _ _ _).mono ?_;rintro e a ⟨rfl,rfl⟩);go_ret;exact⟨rfl,rfl⟩
theorem lD(hn:n≤1000000000000)(hc:W.cell? ⟨g,1,none⟩=some (.slice p n cap)):
 Calls prog 47 #[.pointer (some ⟨g,0,none⟩),.int .i64 i] W fun r W'=>r= .returned (.bool (dT i n))∧W'=W:=by
 have b:IntKind.i64.wrap ((n:Int)-1)=(n:Int)-1:=fV (by omega) (by omega);rw[←aDo];go_enter func47,ntmps47;go_wp2_with (go_at_call 80;refine(iI _ _ _ _).mono ?_;rintro e a ⟨rfl,rfl⟩);go_ret;exact⟨rfl,rfl⟩
theorem pN(hn:n≤1000000000000)(hc:W.cell? ⟨g,2,none⟩=some (.slice p n cap)):
 Calls prog 83 #[.pointer (some ⟨g,0,none⟩),.int .i64 i] W fun r W'=>r= .returned (.bool (dT i n))∧W'=W:=by
 have b:IntKind.i64.wrap ((n:Int)-1)=(n:Int)-1:=fV (by omega) (by omega);rw[←aDo];go_enter func83,ntmps83;go_wp2_with (go_at_call 80;refine(iI _ _ _ _).mono ?_;rintro e a ⟨rfl,rfl⟩);go_ret;exact⟨rfl,rfl⟩
end
section
variable (W:World) (own:Nat→Nat) (g:Nat) (x:Mo) (N i:Int)
theorem aIe(h:Moor W own g x)(hok:MoOk N x)(hN:N≤90000000000):
 Calls prog 82 #[.pointer (some ⟨g,0,none⟩),.int .i64 i] W fun r W'=>r= .returned (.int .i64 (aBC x i))∧MoTo W own g (tF x i) W':=by
 obtain⟨O,I,B,A,h⟩:=h;have F:=hok.nc;have n:=fL hok.conf;obtain⟨M,J,v,_⟩:=h.cells;obtain⟨p,m,rfl,f⟩:=fK h.rcv;have C:W.cell? ⟨g,1,none⟩=some (.slice p x.cls.length m):=cO v 1 _ rfl;have s:=cN (lD W g i p x.cls.length m (by omega) C);have H:=cN h;have D:=cN f;clear v f;unfold aBC tF;by_cases c:dT i x.cls.length=true
 ·rw[if_pos c,if_pos c];rw[c]at s;obtain⟨G,K⟩:=(dY _ _).1 c;obtain⟨a,u⟩:=hok.cl c;obtain⟨d,l⟩:=mQ c;obtain⟨j,rfl⟩:∃j:Nat,i=j:=⟨i.toNat,by omega⟩;have t:j<x.cls.length:=by omega
  obtain⟨k,rfl,L⟩:=D.out j t;have b:=h.sys j t;have w:((j:Int).toNat)=j:=by omega
  simp only[w]at l a;rw[←l]at b;have E:=cN (aJg W _ _ _ g x.cf _ _ (clM x j) x.net x.tr b n.1.1 n.1.2 ⟨by rw[a.core.num];omega,by rw[a.core.num];omega,a.core.i1,a.core.i2,a.core.c1,by have:=a.core.c2;omega,a.core.r1,a.core.r2⟩ (by have:=a.core.c2;omega) (fun o ho=>have q:=a.on o ho;⟨q.g1,by have:=q.g2;omega,q.t1,q.t2,q.r1,by have:=q.r2;omega,q.a1,by have:=q.a2;omega⟩) (by have:=hok.nl;omega) (by have:=hok.tl;omega));clear a u l b d h hok;go_enter func82,ntmps82;go_wp2_with (first|(go_at_call 47;refine s.out.mono ?_;rintro e z ⟨rfl,rfl⟩)|(go_at_call 125;refine E.out.mono ?_;rintro r P ⟨rfl,y⟩));go_ret;refine⟨rfl,?_⟩;have:=H.out.clientTo j t y;unfold gB;simp only[w];exact this
 ·rw[if_neg c,if_neg c];have d:dT i x.cls.length=false:=by simpa using c
  rw[d]at s;clear h hok c d;go_enter func82,ntmps82;go_wp2_with (go_at_call 47;refine s.out.mono ?_;rintro e z ⟨rfl,rfl⟩);go_ret;exact⟨rfl,MoTo.of ⟨_,_,B,A,H.out⟩⟩
theorem aHF(h:Moor W own g x)(hok:MoOk N x)(hN:N≤90000000000):
 Calls prog 44 #[.pointer (some ⟨g,0,none⟩),.int .i64 i] W fun r W'=>r= .returned (.int .i64 (aBf x i))∧MoTo W own g (rW x i) W':=by
 obtain⟨M,G,y,w,h⟩:=h;have D:=hok.nc;have E:=fL hok.conf;obtain⟨L,I,s,_⟩:=h.cells;obtain⟨p,m,rfl,f⟩:=fK h.rcv;have z:W.cell? ⟨g,1,none⟩=some (.slice p x.cls.length m):=cO s 1 _ rfl;have n:=cN (lD W g i p x.cls.length m (by omega) z);have H:=cN h;have B:=cN f;clear s f;unfold aBf rW;by_cases b:dT i x.cls.length=true
 ·rw[if_pos b,if_pos b];rw[b]at n;obtain⟨F,J⟩:=(dY _ _).1 b;obtain⟨d,q⟩:=hok.cl b;obtain⟨c,l⟩:=mQ b;obtain⟨j,rfl⟩:∃j:Nat,i=j:=⟨i.toNat,by omega⟩;have o:j<x.cls.length:=by omega
  obtain⟨k,rfl,K⟩:=B.out j o;have a:=h.sys j o;have t:((j:Int).toNat)=j:=by omega
  simp only[t]at l d;rw[←l]at a;have C:=cN (aIo W _ _ _ g x.cf _ _ (clM x j) x.net x.tr a (by rw[d.core.num];omega) (by rw[d.core.num];omega) (by have:=hok.nl;omega) (by have:=hok.tl;omega));clear d q l a c h hok;go_enter func44,ntmps44;go_wp2_with (first|(go_at_call 47;refine n.out.mono ?_;rintro e v ⟨rfl,rfl⟩)|(go_at_call 89;refine C.out.mono ?_;rintro r O ⟨rfl,u⟩));go_ret;refine⟨rfl,?_⟩;have:=H.out.clientTo j o u;unfold gB;simp only[t];have A:=aFT (clM x j);rw[A,aC];exact this
 ·rw[if_neg b,if_neg b];have c:dT i x.cls.length=false:=by simpa using b
  rw[c]at n;clear h hok b c;go_enter func44,ntmps44;go_wp2_with (go_at_call 47;refine n.out.mono ?_;rintro e v ⟨rfl,rfl⟩);go_ret;exact⟨rfl,MoTo.of ⟨_,_,y,w,H.out⟩⟩
theorem aEK(h:Moor W own g x)(hok:MoOk N x)(hN:N≤90000000000):
 Calls prog 26 #[.pointer (some ⟨g,0,none⟩),.int .i64 i] W fun r W'=>r= .returned (.int .i64 (uE x i))∧MoTo W own g (nC x i) W':=by
 obtain⟨M,G,y,w,h⟩:=h;have D:=hok.nc;have E:=fL hok.conf;obtain⟨L,I,s,_⟩:=h.cells;obtain⟨p,m,rfl,f⟩:=fK h.rcv;have z:W.cell? ⟨g,1,none⟩=some (.slice p x.cls.length m):=cO s 1 _ rfl;have n:=cN (lD W g i p x.cls.length m (by omega) z);have H:=cN h;have B:=cN f;clear s f;unfold uE nC;by_cases c:dT i x.cls.length=true
 ·rw[if_pos c,if_pos c];rw[c]at n;obtain⟨F,J⟩:=(dY _ _).1 c;obtain⟨a,q⟩:=hok.cl c;obtain⟨d,l⟩:=mQ c;obtain⟨j,rfl⟩:∃j:Nat,i=j:=⟨i.toNat,by omega⟩;have o:j<x.cls.length:=by omega
  obtain⟨k,rfl,K⟩:=B.out j o;have b:=h.sys j o;have t:((j:Int).toNat)=j:=by omega
  simp only[t]at l a;rw[←l]at b;have C:=cN (aFW W _ _ _ g x.cf _ _ (clM x j) x.net x.tr b a.dn ⟨by rw[a.core.num];omega,by rw[a.core.num];omega,a.core.i1,a.core.i2,a.core.c1,by have:=a.core.c2;omega,a.core.r1,a.core.r2⟩ (by have:=hok.nl;omega) (by have:=hok.tl;omega));clear a q l b d h hok;go_enter func26,ntmps26;go_wp2_with (first|(go_at_call 47;refine n.out.mono ?_;rintro e v ⟨rfl,rfl⟩)|(go_at_call 63;refine C.out.mono ?_;rintro r O ⟨rfl,u⟩));go_ret;refine⟨rfl,?_⟩;have:=H.out.clientTo j o u;unfold gB;simp only[t];have A:=aC5 (clM x j);rw[A,aC];exact this
 ·rw[if_neg c,if_neg c];have d:dT i x.cls.length=false:=by simpa using c
  rw[d]at n;clear h hok c d;go_enter func26,ntmps26;go_wp2_with (go_at_call 47;refine n.out.mono ?_;rintro e v ⟨rfl,rfl⟩);go_ret;exact⟨rfl,MoTo.of ⟨_,_,y,w,H.out⟩⟩
end
def zP(fl:Option (Int×Int))(left keep:Int):Prop:=(fl=none∧left= -1)∨(∃n q,fl=some (n,q)∧left=n∧keep=q∧0≤n)
structure aBN(a:Ac)(r:Ra):Prop where
 log:r.log=a.dk.log
 up:r.up=decide (a.st≠2)
 silent:r.silent=decide (a.st=1)
 fl:zP a.dk.fail r.left r.keep
section
variable {g:Cf}{k:Dk}{r:Ra}{a:Ac}{i:Nat}
theorem pZ(h:zP k.fail r.left r.keep):(fQ k=none∧r.left=0∧iP k=r.keep)∨(∃fl,fQ k=some {k with fail:=fl}∧r.left≠0∧zP fl (stepR r).left (stepR r).keep):=by
 rcases h with⟨h1,h2⟩|⟨n,q,h1,h2,h3,h4⟩
 ·right;refine⟨k.fail,(by unfold fQ;split<;>first|rfl|(rename_i e;rw[h1]at e;cases e)),by omega,?_⟩;unfold stepR;rw[if_neg (by omega)];exact Or.inl ⟨h1,h2⟩
 ·by_cases h0:n=0
  ·left;refine⟨by unfold fQ;rw[h1];simp[h0],by omega,by unfold iP;rw[h1];exact h3.symm⟩
  ·right;refine⟨some (n-1,q),by unfold fQ;rw[h1];simp[h0],by omega,?_⟩;unfold stepR;rw[if_pos (by omega)];exact Or.inr ⟨n-1,q,rfl,by show r.left-1=n-1;omega,h3,by omega⟩
theorem kW(r:Ra):(stepR r).log=r.log∧(stepR r).up=r.up∧(stepR r).silent=r.silent∧(stepR r).keep=r.keep:=by
 unfold stepR;split<;>exact⟨rfl,rfl,rfl,rfl⟩
def aLg(p:Dk×How)(r:Ra):Prop:=match p.2 with
 |.none=>r.log=p.1.log∧r.up=true∧r.silent=false∧zP p.1.fail r.left r.keep
 |(.some .none)=>r.log=p.1.log∧r.up=true∧r.silent=true∧zP p.1.fail r.left r.keep
 |(.some (.some q))=>r.log=(fM p.1 q).log∧r.up=false∧r.silent=false∧r.left= -1
theorem aHO(h:DOk g k)(hnew:k.new=none)(hl:r.log=k.log)(hu:r.up=true)(hs:r.silent=false)(hf:zP k.fail r.left r.keep)(w:Rw)(hw:okB w=true):
 aLg (lY k (dW w)) (dR g.room r w).1∧((dR g.room r w).2=true↔(lY k (dW w)).2= .none):=by
 have x:=pL hw;have y:∀(c:Option (Int×Int)) q,0≤q→(fM {k with fail:=c} q).log=k.log:=fun c q b=>by
  rw[pY (t:=k.log) (by unfold fB;dsimp only;rw[h.old,h.syn]) b]
 rw[←h.room];unfold lY eP dZ dR;rcases pZ hf with⟨d,n,o⟩|⟨c,d,n,o⟩
 ·rw[d,if_pos n];have b:0≤iP k:=by
   obtain⟨q,b,m⟩:=jC d;rw[m];exact(h.fail _ b).2.2
  refine⟨⟨?_,rfl,rfl,rfl⟩,by simp[iF]⟩;show r.log=(fM k (iP k)).log;rw[hl];exact(y k.fail _ b).symm
 ·rw[d,if_neg n];dsimp only;have u:jS {k with fail:=c}=k.log.length:=by unfold jS hP;dsimp only;rw[hnew];simp
  rw[u,hl];obtain⟨B,z,A,I⟩:=kW r;by_cases a:k.room<(k.log.length:Int)+(dW w).length
  ·rw[if_pos a,if_pos a];refine⟨⟨by show(stepR r).log=_;rw[B];exact hl,by show(stepR r).up=true;rw[z];exact hu,rfl,o⟩,by simp[iF]⟩
  ·rw[if_neg a,if_neg a];dsimp only[iF,lI];have v:∀p,c=some p→0≤p.1∧p.1≤9223372036854775807∧0≤p.2:=by
    obtain⟨⟨H,e⟩,C⟩:=jZ d h.fail;exact C
   rcases pZ (k:={k with fail:=c,log:=k.log++dW w}) (r:=stepR r) o with⟨i,j,f⟩|⟨F,i,j,f⟩
   ·rw[i,if_pos j];have b:0≤iP {k with fail:=c,log:=k.log++dW w}:=by
     obtain⟨q,b,m⟩:=jC i;rw[m];exact(v _ b).2.2
    have G:0≤(stepR r).keep:=by rw[←f];exact b
    refine⟨⟨?_,rfl,rfl,rfl⟩,by simp⟩;show k.log++(dW w).take (min (stepR r).keep ((dW w).length:Int)).toNat=(fM {k with fail:=c,log:=k.log++dW w} _).log;rw[f];have s:fB ({k with fail:=c,log:=k.log++dW w}:Dk)=(k.log++dW w,k.lsyn):=by unfold fB;dsimp only;rw[h.old]
    unfold fM;rw[s];dsimp only;unfold wY;rw[h.syn,aD,x,show((k.log.length:Int)+min (stepR r).keep (((k.log.length+25:Nat):Int)-(k.log.length:Int))).toNat=k.log.length+(min (stepR r).keep ((25:Nat):Int)).toNat by omega,List.take_append,aY (l:=k.log) (by omega)];simp
   ·rw[i,if_neg j];obtain⟨J,E,D,K⟩:=kW (stepR r);refine⟨⟨rfl,by show(stepR (stepR r)).up=true;rw[E,z];exact hu,by show(stepR (stepR r)).silent=false;rw[D,A];exact hs,f⟩,by simp⟩
theorem zW(h:DOk g k)(hnew:k.new=none)(hl:r.log=k.log)(hu:r.up=true)(hs:r.silent=false)(hf:zP k.fail r.left r.keep)(s:List Int):
 aLg (fU k s) (kF g.room s 5 r):=by
 have U:=h.old;have a:∀(fl:Option (Int×Int)) (nw:Option (List Int×Int)) q,0≤q→(fM {k with fail:=fl,new:=nw} q).log=k.log:=fun fl nw q A=>by
  rw[pY (t:=k.log) (by unfold fB;dsimp only;rw[h.old,h.syn]) A]
 have u:∀{k1 k2:Dk},fQ k1=some k2→(∀p,k1.fail=some p→0≤p.1∧p.1≤9223372036854775807∧0≤p.2)→(∀p,k2.fail=some p→0≤p.1∧p.1≤9223372036854775807∧0≤p.2):=fun hh hf=>(jZ hh hf).2;have c:∀{k1:Dk},fQ k1=none→(∀p,k1.fail=some p→0≤p.1∧p.1≤9223372036854775807∧0≤p.2)→0≤iP k1:=fun hh hf=>by
  obtain⟨q,A,Y⟩:=jC hh;rw[Y];exact(hf _ A).2.2
 unfold fU eP dZ;rw[←h.room];have c5:kF k.room s 5 r=if r.left=0 then fW r r.log else kF k.room s 4 (stepR r):=rfl
 rw[c5];obtain⟨z,Q,V,r4⟩:=kW r;rcases pZ hf with⟨j,C,R⟩|⟨B,j,C,R⟩
 ·rw[j,if_pos C];refine⟨?_,rfl,rfl,rfl⟩;show r.log=(fM k (iP k)).log;rw[hl];exact(a k.fail k.new _ (c j h.fail)).symm
 ·rw[j,if_neg C];dsimp only[iF,lH];have n:=u j h.fail;have c4:kF k.room s 4 (stepR r)=if(stepR r).left=0 then fW (stepR r) (stepR r).log else(if(3=3∧k.room<((stepR (stepR r)).log.length:Int)+s.length)then{stepR (stepR r)with silent:=true}else kF k.room s 3 (stepR (stepR r))):=rfl
  rw[c4];obtain⟨M,T,q3,q4⟩:=kW (stepR r);rcases pZ (k:={k with fail:=B,new:=some ([],0)}) (r:=stepR r) R with⟨i,y,o⟩|⟨v,i,y,o⟩
  ·rw[i,if_pos y];refine⟨?_,rfl,rfl,rfl⟩;show(stepR r).log=(fM {k with fail:=B,new:=some ([],0)} _).log;rw[z,hl];exact(a B _ _ (c i n)).symm
  ·rw[i,if_neg y];dsimp only;have m:=u i n;have I:jS {k with fail:=v,new:=some ([],0)}=k.log.length:=by unfold jS hP;dsimp only;simp
   rw[I,M,z,hl];by_cases b:k.room<(k.log.length:Int)+s.length
   ·rw[if_pos b,if_pos ⟨rfl,b⟩];refine⟨rfl,by show(stepR (stepR r)).up=true;rw[T,Q,hu],rfl,o⟩
   ·rw[if_neg b,if_neg (fun e=>b e.2)];dsimp only[iQ];rw[List.nil_append];have c3:∀x,kF k.room s 3 x=if x.left=0 then fW x x.log else kF k.room s 2 (stepR x):=fun x=>rfl
    have c2:∀x,kF k.room s 2 x=if x.left=0 then fW x x.log else kF k.room s 1 (stepR x):=fun x=>rfl
    have c1:∀x,kF k.room s 1 x=if x.left=0 then fW x x.log else{stepR x with log:=s}:=fun x=>rfl
    have O:(stepR (stepR r)).log=k.log∧(stepR (stepR r)).up=true∧(stepR (stepR r)).silent=false:=⟨by rw[M,z,hl],by rw[T,Q,hu],by rw[q3,V,hs]⟩;rw[c3];generalize stepR (stepR r)=x at o O;obtain⟨H,x2,X⟩:=O;obtain⟨L,y2,y3,y4⟩:=kW x;rcases pZ (k:={k with fail:=v,new:=some (s,0)}) (r:=x) o with⟨f,D,P⟩|⟨F,f,D,P⟩
    ·rw[f,if_pos D];refine⟨?_,rfl,rfl,rfl⟩;show x.log=(fM {k with fail:=v,new:=some (s,0)} _).log;rw[H];exact(a v _ _ (c f m)).symm
    ·rw[f,if_neg D];dsimp only[hU];have l:=u f m;rw[c2];obtain⟨z1,Z,z3,z4⟩:=kW (stepR x);rcases pZ (k:={k with fail:=F,new:=some (s,(s.length:Int))}) (r:=stepR x) P with⟨d,E,K⟩|⟨S,d,E,K⟩
     ·rw[d,if_pos E];refine⟨?_,rfl,rfl,rfl⟩;show(stepR x).log=(fM {k with fail:=F,new:=some (s,(s.length:Int))} _).log;rw[L,H];exact(a F _ _ (c d l)).symm
     ·rw[d,if_neg E];dsimp only[gI];have J:=u d l;rw[c1];obtain⟨w1,w2,W,w4⟩:=kW (stepR (stepR x));rcases pZ (k:={k with fail:=S,log:=s,lsyn:=s.length,new:=none,old:=some (k.log,k.lsyn)}) (r:=stepR (stepR x)) K with⟨w,G,N⟩|⟨f5,w,G,N⟩
      ·rw[w,if_pos G];refine⟨?_,rfl,rfl,rfl⟩;show(stepR (stepR x)).log=(fM {k with fail:=S,log:=s,lsyn:=s.length,new:=none,old:=some (k.log,k.lsyn)} _).log;rw[pY (t:=k.log) (by unfold fB;dsimp only;rw[h.syn]) (c w J),z1,L,H]
      ·rw[w,if_neg G];dsimp only[oJ];refine⟨rfl,by show(stepR (stepR (stepR x))).up=true;rw[w2,Z,y2,x2],by show(stepR (stepR (stepR x))).silent=false;rw[W,z3,y3,X],N⟩
theorem aFU{us bs:List Rw}(h:∀k:Nat,dX us k=dX bs k):fA us=fA bs:=by unfold fA;rw[aBG h 4]
theorem aKg(h:AOk g i a)(hs:aBN a r)(hst:a.st≠2)(lock:Int)(h0:0≤lock):uC r lock=qD a lock:=by
 unfold uC qD;rw[hs.log,←h.tab hst];cases hl:dX a.rows lock.toNat with
 |none=>rfl
 |some w=>
  have:=(pT hl).2;obtain⟨l,p,q,e,d,b,c⟩:=w;show(⟨l,p,q,e,d,b,c⟩:Rw)=⟨lock,p,q,e,d,b,c⟩;have:l=lock:=by dsimp only at this;omega
  rw[this]
theorem xW{r:Ra}(h:r.up=true)(i:Int):jQ r i=[]∧pI r=0:=by unfold jQ pI;rw[if_pos h,if_pos h];exact⟨rfl,rfl⟩
theorem aCg{r:Ra}(h:r.up=false)(i:Int):jQ r i=[eO i]∧pI r=6:=by unfold jQ pI;rw[if_neg (by simp[h]),if_neg (by simp[h])];exact⟨rfl,rfl⟩
theorem aIa(h:AOk g i a)(hs:aBN a r){m:Mg}(hm:MOk g m)(hA:m.kind=1∨m.kind=3)(hdst:m.dst=a.num):
 mX g r m=wK a m∧aBN (sU a m) (gQ g r m)∧mP g r m=mZ a m:=by
 unfold mX mP wK sU mZ;by_cases n:a.st≠0
 ·have x:r.up=false∨r.silent=true:=by
   have:=h.st;rw[hs.up,hs.silent];rcases(show a.st=2∨a.st=1 by omega)with e|e<;>simp[e]
  have e:gQ g r m=r:=by unfold gQ;rw[if_pos x]
  rw[if_pos n,if_pos n,if_pos n,if_pos x,if_pos x,e];exact⟨rfl,hs,rfl⟩
 ·have b:a.st=0:=by omega
  have z:r.up=true:=by rw[hs.up,b];rfl
  have B:r.silent=false:=by rw[hs.silent,b];rfl
  have x:¬(r.up=false∨r.silent=true):=by rw[z,B];simp
  rw[if_neg n,if_neg n,if_neg n,if_neg x,if_neg x];have G:=aKg h hs (by omega) m.lock hm.l1;obtain⟨C,Q⟩:=aGF h m.lock hm.l1 hm.l2;have E:(kD r m)=(if mV m (qD a m.lock)=true then some (iR m (qD a m.lock))else none,mH a (kA m (qD a m.lock)) m):=by
   unfold kD aJk mH;dsimp only;rw[G,hdst]
  have P:gQ g r m=match (kD r m).1 with
   |none=>r
   |some w=>if(dR g.room r w).2=false then(dR g.room r w).1 else if aAR g.compact (dR g.room r w).1=true then gY g.room (dR g.room r w).1 else(dR g.room r w).1:=by
   unfold gQ;rw[if_neg x]
   rfl
  rw[P,E];unfold jE;dsimp only;by_cases f:mV m (qD a m.lock)=true
  ·rw[if_pos f,if_pos f];dsimp only;have L:=(aCk hm C).1;generalize iR m (qD a m.lock)=w at L;obtain⟨J,H⟩:=aHO h.dk (h.new (by omega)) hs.log z B hs.fl w L.ok;have p:=aCl h b L;unfold gN at p⊢;unfold HowOk at p;cases hk:lY a.dk (dW w)with
   |mk k1 hw1=>
    rw[hk]at J H p;cases hw1 using mM with
    |fine=>
     dsimp only at p⊢;have F:=H.2 rfl;obtain⟨I,K,O,N⟩:(dR g.room r w).1.log=k1.log∧(dR g.room r w).1.up=true∧(dR g.room r w).1.silent=false∧zP k1.fail (dR g.room r w).1.left (dR g.room r w).1.keep:=J;rw[F];simp only[Bool.true_eq_false,if_false];have A:aAR g.compact (dR g.room r w).1=mB {a with dk:=k1,rows:=a.rows++[w]}:=by
      unfold aAR mB;rw[I,show({a with dk:=k1,rows:=a.rows++[w]}:Ac).compact=g.compact from h.comp]
     rw[A];by_cases c:mB {a with dk:=k1,rows:=a.rows++[w]}=true
     ·rw[if_pos c,if_pos c];have s:=p;have D:fA (dO (dR g.room r w).1.log)=fA (a.rows++[w]):=by
       rw[I];exact aFU (fun k=>(s.tab (by show a.st≠2;omega) k).symm)
      have o:=zW s.dk (s.new (by show a.st≠1;omega)) I K O N (fA (a.rows++[w]));have M:gY g.room (dR g.room r w).1=kF g.room (fA (a.rows++[w])) 5 (dR g.room r w).1:=by unfold gY;rw[D]
      rw[M];unfold eJ;dsimp only;generalize kF g.room (fA (a.rows++[w])) 5 (dR g.room r w).1=rr at o;cases hck:fU k1 (fA (a.rows++[w]))with
      |mk k2 hw2=>
       rw[hck]at o;cases hw2 using mM with
       |fine=>
        obtain⟨u,d,t,v⟩:rr.log=k2.log∧rr.up=true∧rr.silent=false∧zP k2.fail rr.left rr.keep:=o;obtain⟨l,j⟩:=xW d m.dst;rw[l,j];exact⟨rfl,⟨u,by rw[d];show true=decide (a.st≠2);simp[b],by rw[t];show false=decide (a.st=1);simp[b],v⟩,rfl⟩
       |full=>
        obtain⟨u,d,t,v⟩:rr.log=k2.log∧rr.up=true∧rr.silent=true∧zP k2.fail rr.left rr.keep:=o;obtain⟨l,j⟩:=xW d m.dst;rw[l,j];exact⟨rfl,⟨u,d,t,v⟩,rfl⟩
       |dies q=>
        obtain⟨u,d,t,v⟩:rr.log=(fM k2 q).log∧rr.up=false∧rr.silent=false∧rr.left= -1:=o;obtain⟨l,j⟩:=aCg d m.dst;rw[l,j,hdst];exact⟨rfl,⟨u,d,t,Or.inl ⟨rfl,v⟩⟩,rfl⟩
     ·rw[if_neg c,if_neg c];obtain⟨l,j⟩:=xW K m.dst;rw[l,j];exact⟨rfl,⟨I,by rw[K];show true=decide (a.st≠2);simp[b],by rw[O];show false=decide (a.st=1);simp[b],N⟩,rfl⟩
    |full=>
     have y:(dR g.room r w).2=false:=by
      cases hb:(dR g.room r w).2 with
      |false=>rfl
      |true=>have:=H.1 hb;cases this
     obtain⟨u,d,t,v⟩:(dR g.room r w).1.log=k1.log∧(dR g.room r w).1.up=true∧(dR g.room r w).1.silent=true∧zP k1.fail (dR g.room r w).1.left (dR g.room r w).1.keep:=J;rw[y];simp only[if_true];obtain⟨l,j⟩:=xW d m.dst;rw[l,j];exact⟨rfl,⟨u,d,t,v⟩,rfl⟩
    |dies q=>
     have y:(dR g.room r w).2=false:=by
      cases hb:(dR g.room r w).2 with
      |false=>rfl
      |true=>have:=H.1 hb;cases this
     obtain⟨u,d,t,v⟩:(dR g.room r w).1.log=(fM k1 q).log∧(dR g.room r w).1.up=false∧(dR g.room r w).1.silent=false∧(dR g.room r w).1.left= -1:=J;rw[y];simp only[if_true];obtain⟨l,j⟩:=aCg d m.dst;rw[l,j,hdst];exact⟨rfl,⟨u,d,t,Or.inl ⟨rfl,v⟩⟩,rfl⟩
  ·rw[if_neg f,if_neg f];obtain⟨l,j⟩:=xW z m.dst;dsimp only;rw[l,j];exact⟨rfl,hs,rfl⟩
theorem aIV(h:AOk g i a)(hs:aBN a r){n q:Int}(hn:0≤n)(hq:0≤q):
 zG r=aBn a∧aBN (yN a n q) (uF r n q)∧yT r a.num n=tN a n:=by
 unfold zG aBn uF yN yT tN;by_cases b:a.st=2
 ·have c:r.up=false:=by rw[hs.up,b];rfl
  rw[if_pos b,if_pos b,if_pos b,if_pos c,if_pos c,if_pos c];exact⟨rfl,hs,rfl⟩
 ·have c:¬r.up=false:=by rw[hs.up];simp[b]
  rw[if_neg b,if_neg b,if_neg b,if_neg c,if_neg c,if_neg c];by_cases d:n=0
  ·rw[if_pos d,if_pos d,if_pos d];exact⟨rfl,⟨by show r.log=(fM a.dk q).log;rw[(rE h.dk hq).2];exact hs.log,rfl,rfl,Or.inl ⟨rfl,rfl⟩⟩,rfl⟩
  ·rw[if_neg d,if_neg d,if_neg d];exact⟨rfl,⟨hs.log,hs.up,hs.silent,Or.inr ⟨n,q,rfl,rfl,rfl,hn⟩⟩,rfl⟩
theorem aBc(h:AOk g i a)(hst:a.st=2)(hl:r.log=a.dk.log)(hsi:r.silent=false)(hleft:r.left= -1):aBN (uP (fR {a with st:=0}).1 (fR {a with st:=0}).2) (jF g r):=by
 have hfl:=h.nofail hst;have hnew:=h.new (by omega);have hnd:=aCz (f:=g) {a with st:=0} h.dk hnew hfl;unfold fR at hnd⊢;unfold jF;dsimp only at hnd⊢;have hlong:mB {a with st:=0}=decide (g.compact<(a.dk.log.length:Int) / 25):=by
  unfold mB;rw[show({a with st:=0}:Ac).compact=g.compact from h.comp]
 have hle:25*(dO a.dk.log).length≤a.dk.log.length:=pE a.dk.log.length a.dk.log;have hcond:(25*((dO r.log).length:Int)<(r.log.length:Int)∨g.compact<25*((dO r.log).length:Int) / 25)↔(25*((dO a.dk.log).length:Int)<(a.dk.log.length:Int)∨mB {a with st:=0}=true):=by
  rw[hlong,hl];simp only[aM];omega
 by_cases hc:25*((dO a.dk.log).length:Int)<(a.dk.log.length:Int)∨mB {a with st:=0}=true
 ·rw[if_pos hc]at hnd⊢;rw[if_pos (hcond.2 hc)];have hcs:=zW (r:={r with up:=true}) h.dk hnew hl rfl hsi (Or.inl ⟨hfl,hleft⟩) (fA (dO a.dk.log));have hcr:gY g.room {r with up:=true}=kF g.room (fA (dO a.dk.log)) 5 {r with up:=true}:=by unfold gY;rw[show({r with up:=true}:Ra).log=a.dk.log from hl]
  rw[hcr];unfold eJ at hnd⊢;dsimp only at hnd⊢;generalize kF g.room (fA (dO a.dk.log)) 5 {r with up:=true}=rr at hcs;cases hck:fU a.dk (fA (dO a.dk.log))with
  |mk k2 hw2=>
   rw[hck]at hcs hnd;cases hw2 using mM with
   |fine=>
    obtain⟨v1,v2,v3,v4⟩:rr.log=k2.log∧rr.up=true∧rr.silent=false∧zP k2.fail rr.left rr.keep:=hcs;exact⟨v1,v2,v3,v4⟩
   |full=>
    obtain⟨v1,v2,v3,v4⟩:rr.log=k2.log∧rr.up=true∧rr.silent=true∧zP k2.fail rr.left rr.keep:=hcs;exact⟨v1,v2,v3,v4⟩
   |dies q=>exact absurd rfl (hnd q)
 ·rw[if_neg hc];rw[if_neg (fun e=>hc (hcond.1 e))];exact⟨hl,rfl,hsi,Or.inl ⟨hfl,hleft⟩⟩
theorem aG5(h:AOk g i a)(hs:aBN a r):tD r=uT a∧aBN (iL a) (oR g r)∧rY r a.num=nP a:=by
 by_cases d:a.st=0
 ·have c:r.up=true∧r.silent=false:=by rw[hs.up,hs.silent,d];exact⟨rfl,rfl⟩
  unfold tD uT oR iL rY nP;rw[if_pos d,if_pos d,if_pos d,if_pos c,if_pos c,if_pos c];exact⟨rfl,hs,rfl⟩
 ·have l:=h.st;have c:¬(r.up=true∧r.silent=false):=by
   rw[hs.up,hs.silent];rcases(show a.st=2∨a.st=1 by omega)with e|e<;>simp[e]
  rw[aDH a d];unfold tD uT oR rY nP;rw[if_neg d,if_neg d,if_neg c,if_neg c,if_neg c];by_cases j:a.st=1
  ·have b:r.up=true:=by rw[hs.up,j];rfl
   rw[if_pos j,if_pos j,if_pos b,if_pos b];refine⟨rfl,?_,rfl⟩;exact aBc (rT h.num h.comp (rE h.dk (by decide:(0:Int)≤0)).1) rfl (by show r.log=(fM a.dk 0).log;rw[(rE h.dk (by decide:(0:Int)≤0)).2];exact hs.log) rfl rfl
  ·have k:a.st=2:=by omega
   have b:r.up=false:=by rw[hs.up,k];rfl
   rw[if_neg j,if_neg j,if_neg (by rw[b];simp),if_neg (by rw[b];simp)];refine⟨rfl,?_,rfl⟩;have f:r.left= -1:=by
    rcases hs.fl with⟨_,e⟩|⟨n,q,e,_⟩
    ·exact e
    ·rw[h.nofail k]at e;cases e
   exact aBc h k hs.log (by rw[hs.silent,k];rfl) f
end
end Go.Proofs.YtbbdgokdfhdpiaaGreatDoor
