/- A part of the proof: PAc4, PAc9. -/
import Derived.Test.YtbbdgokdfhdpiaaGreatDoorA17
import Derived.Test.YtbbdgokdfhdpiaaGreatDoorA27
namespace Go.Proofs.YtbbdgokdfhdpiaaGreatDoor
set_option linter.all false
set_option maxRecDepth 100000
set_option maxHeartbeats 40000000
open Go.Proofs.Tryz Go.RowKit
section
open Go.RowKit Go.Maps
def Nx(W:World)(F:Nat→Prop)(b g d tb:Nat)(a:Ac)(W':World):Prop:=∃FD':Nat→Prop,∃F':Nat→Prop,AcAt W' FD' b g d tb a∧(∀x,InF FD' b tb x→F' x)∧(∀x,F' x→x<W'.heap.size)∧Chg F W W'∧∀x,F' x→F x∨W.heap.size≤x
theorem Nx.to{W W':World}{F:Nat→Prop}{b g d tb:Nat}{a:Ac}(h:Nx W F b g d tb a W'):AcTo W F b g a W':=by
 obtain⟨c,j,k,e,l,i,f⟩:=h;exact⟨j,⟨c,d,tb,k,e,l⟩,i,f⟩
theorem Nx.of{W:World}{FD F:Nat→Prop}{b g d tb:Nat}{a:Ac}(h:AcAt W FD b g d tb a)(hin:∀x,InF FD b tb x→F x)(hlt:∀x,F x→x<W.heap.size):Nx W F b g d tb a W:=⟨FD,F,h,hin,hlt,Chg.refl _ _,fun _ h=>Or.inl h⟩
theorem Nx.trans{A B C:World}{F F1:Nat→Prop}{b g d tb:Nat}{a:Ac}(hc:Chg F A B)(hf:∀x,F1 x→F x∨A.heap.size≤x)(h:Nx B F1 b g d tb a C):Nx A F b g d tb a C:=by
 obtain⟨c,j,k,e,l,i,f⟩:=h;refine⟨c,j,k,e,l,hc.trans i (fun x hx h'=>?_),fun x hx=>?_⟩
 ·rcases hf x h' with h|h
  ·exact h
  ·omega
 ·rcases f x hx with h|h
  ·exact hf x h
  ·right;have:=hc.size;omega
theorem Nx.nos{A B C:World}{F:Nat→Prop}{b g d tb:Nat}{a:Ac}(h:Nx A F b g d tb a B)(hc:Chg NoS B C):Nx A F b g d tb a C:=by
 obtain⟨c,j,k,e,l,i,f⟩:=h;exact⟨c,j,k.kept hc (fun _ _ h=>h),e,fun x hx=>aG (l x hx) hc.size,i.nos' hc,f⟩
theorem aBc{f:FuncId}{args:Array Value}{v ev:Value}{W0 W:World}{FD F F0:Nat→Prop}{b g d tb:Nat}{a:Ac}{p:Dk×How}(h:AcAt W FD b g d tb a)(hin:∀x,InF FD b tb x→F x)(hlt:∀x,F x→x<W.heap.size)(hc0:Chg F0 W0 W)(hf0:∀x,F x→F0 x∨W0.heap.size≤x)
 (hc:Calls prog f args W fun e W'=>EndsK v ev W FD d p e W'):match p.2 with
 |.none=>Calls prog f args W fun e W'=>e= .returned v∧Nx W0 F0 b g d tb {a with dk:=p.1} W'
 |(.some (.some q))=>Calls prog f args W fun e W'=>e= .panicked (rT q)∧Nx W0 F0 b g d tb {a with dk:=p.1} W'
 |(.some .none)=>Calls prog f args W fun e W'=>∃fb,e= .returned (lX fb)∧lW W' fb ev∧W0.heap.size≤fb∧Nx W0 F0 b g d tb {a with dk:=p.1} W':=by
 have hn:∀W',DkTo W FD d p.1 W'→Nx W0 F0 b g d tb {a with dk:=p.1} W':=fun W' ht=>by
  obtain⟨FD',F',h1,h2,h3,h4,h5,h6⟩:=h.to hin hlt ht;exact Nx.trans hc0 hf0 ⟨FD',F',h1,h2,h3,h4,h6⟩
 have hk:=aE9 hc;obtain⟨k,h1⟩:=p;cases h1 using nB with
 |fine=>exact hk.mono fun e W' ⟨h1,h2⟩=>⟨h1,hn _ h2⟩
 |dies q=>exact hk.mono fun e W' ⟨h1,h2⟩=>⟨h1,hn _ h2⟩
 |full=>exact hk.mono fun e W' ⟨b,h2,h3,h4,h5⟩=>⟨b,h2,h3,cA hc0.size h4,hn _ h5⟩
theorem qF{k k1:Dk}{go:Dk→Dk}(h:dZ k go=(k1,.none)):∃k0,fQ k=some k0∧k1=go k0:=by
 unfold dZ at h;cases hs:fQ k with
 |none=>rw[hs]at h;cases h
 |some k0=>rw[hs]at h;exact⟨k0,rfl,(Prod.mk.inj h).1.symm⟩
theorem vQ{k k1:Dk}{s:List Int}{put:Dk→List Int→Dk}(h:eP k s put=(k1,.none)):∃k0,fQ k=some k0∧k1=put k0 s:=by
 unfold eP at h;cases hs:fQ k with
 |none=>rw[hs]at h;cases h
 |some k0=>
  rw[hs]at h;dsimp only at h;split at h
  ·cases h
  ·exact⟨k0,rfl,(Prod.mk.inj h).1.symm⟩
theorem qR{k:Dk}{go:Dk→Dk}:(dZ k go).2≠(.some .none):=by
 unfold dZ;cases fQ k<;>simp
theorem aBZ{k:Dk}(h:hP k):hP (gI k):=by
 unfold gI;split
 ·exact h
 ·exact h
theorem pW(W:World)(F:Nat→Prop)(B:Nat)(eb:Addr)(b g:Nat)(a:Ac)(h:Acc W F b g a)(hgl:GlAt W B eb)(hFB:∀x,F x→B≤x)(hok:xN a)(hnew:a.dk.new=none)(hold:a.dk.old=none):
 Calls prog 174 #[.pointer (some ⟨b,0,none⟩)] W fun e W'=>tN .nilIface (oQ eb) W F b g (eK a) e W':=by
 obtain⟨FD,d,tb,h,c0,d6⟩:=h;obtain⟨s,hs⟩:=aLw (eZ a.rows);have d8:=cN hs;have c1:(s.length:Int)≤100:=by
  have N:=tX (eG a.rows 4);have J:=aCt a.rows;rw[hs];unfold eZ;omega
 have d5:∀k hw,fU a.dk s=(k,hw)→eK a=({a with dk:=k},hw):=fun k hw e=>by unfold eK;rw[←hs,e]
 have z:=cN d5;have e0:=cN c1;have c2:=h.cell 2 _ rfl;have d0:=cN (aBc h c0 d6 (Chg.refl F W) (fun _ h=>Or.inl h) (aGm W FD d a.dk (oQ eb) h.disk hok.fo hnew hold));have M:=cN (aLo hgl hFB hok hnew hold);clear d5 hs c1 h c0 d6 hgl hFB hok hnew hold;go_enter func174,ntmps174;obtain⟨m,n⟩:=aLx ((dZ a.dk lJ).1);have N:=d0.out;rw[n]at N;have d3:=cN n;clear n d0;cases hp:(dZ a.dk lJ).2 using nB with
 |full=>exact absurd hp qR
 |dies q=>
  have e:dZ a.dk lJ=(m,(.some (.some q))):=by rw[←d3.out,←hp]
  have j:Hid (eK a=({a with dk:=m},(.some (.some q)))):=z.out _ _ (by unfold fU;rw[e];rfl);rw[hp]at N;have H1:=cN N;clear N hp e;go_wp2_with (first|(go_at_call 198;refine H1.out.mono ?_;rintro e W1 ⟨rfl,c⟩;refine cQ ?_));have y:=cN c;clear c;refine cN ?_;go_wp2_with fail;refine⟨rfl,?_⟩;rw[j.out];exact⟨y.out.to,rfl⟩
 |fine=>
  have e1:dZ a.dk lJ=(m,.none):=by rw[←d3.out,←hp]
  rw[hp]at N;have H1:=cN N;have l:=cN e1;clear N hp e1;go_wp2_with (first|(go_at_call 198;refine H1.out.mono ?_;rintro e W1 ⟨rfl,V,F1,a1,i1,l1,q1,f1⟩;refine cQ ?_));obtain⟨k0,f,n⟩:=qF l.out;have i:=gR f;have a0:hP m:=by have G:=kQ f M.out.2.2.1.fo;rw[n];exact G
  have d1:m.old=none:=by have G:=i.2.2.2.2.trans M.out.2.2.2.2;rw[n];exact G
  have b6:m.new=some ([],0):=by rw[n];rfl
  have U:m.log=a.dk.log:=by rw[n];exact i.2.1
  have L:xN {a with dk:=m}:={M.out.2.2.1 with fo:=a0,l1:=by show((m.log.length:Nat):Int)≤_;rw[U];exact M.out.2.2.1.l1};have c7:=cN (fun x (hx:x=W1.drew)=>hx▸zH W1.drew F1 b g {a with dk:=m} ⟨V,d,tb,a1.kept (Chg.refl NoS W1).drew (fun _ _ h=>h),i1,l1⟩ L);have d2:=a1.cell 2 _ rfl;have t:=cN (aLo a1 i1 l1 q1 f1);have r:=cN (aLo a0 d1 b6 U L);clear a1 i1 l1 q1 f1 a0 d1 b6 U L i f n c2;refine cN ?_;go_wp2_with fail;refine rlx [0,0,0,1,0,2] (fun x=>x.cell? ⟨b,2,none⟩=some (.pointer (some ⟨d,0,none⟩))) (by kernel_rfl) (fun _ _ _ _=>rfl) ?_ ?_
  ·exact d2
  simp only[dC,dB];iterate 5 (apply sB rfl rfl;·(intro x h;(try have h:=h rfl);(try dsimp only at h);go_simp;with_reducible rfl))
  try simp only[pA]
  refine dI rfl (fun C hC=>?_);go_simp;refine(c7.out _ rfl).mono ?_;rintro e W2 ⟨rfl,b4⟩;have u:=b4.of_drew;have a2:=t.out.1.kept u (fun _ _ h=>h);refine hC _ _ (a2.cell 2 _ rfl) ?_;clear hC C;refine cP ?_;have es:eZ ({a with dk:=m}:Ac).rows=s:=d8.out.symm;rw[es];have E:=M.out.1.kept ((t.out.2.2.2.1.nos' u:Chg F W W2)) (fun x hx=>M.out.2.1 x hx);have O:¬V 0:=fun hx=>by
   rcases t.out.2.2.2.2 0 (t.out.2.1 0 (Or.inl hx))with h|h
   ·have:=M.out.2.1 0 h;have:=E.b0;omega
   ·have:=M.out.1.hB;have:=E.b0;omega
  have e7:iD m=0:=by unfold iD;rw[r.out.2.2.1];rfl
  have d7:=cN (aBc a2 t.out.2.1 (fun x hx=>aG (t.out.2.2.1 x hx) u.size) (t.out.2.2.2.1.nos' u:Chg F W W2) t.out.2.2.2.2
   (aB4 W2 V d m _ _ s [] 0 a2.disk r.out.1 E.err O r.out.2.2.1 r.out.2.1 (by have:=e0.out;omega) (by rw[r.out.2.2.2.1];have:=M.out.2.2.1.l1;omega) (by omega)))
  clear b4 u a2 E O e7 es d2 c7;obtain⟨w,p⟩:=aLx ((eP m s iQ).1);have J:=d7.out;rw[p]at J;have a8:=cN p;clear p d7;cases hp:(eP m s iQ).2 using nB with
  |dies q=>
   have e:eP m s iQ=(w,(.some (.some q))):=by rw[←a8.out,←hp]
   have j:Hid (eK a=({a with dk:=w},(.some (.some q)))):=z.out _ _ (by unfold fU;rw[l.out];unfold iG;dsimp only;rw[e]);rw[hp]at J;have H2:=cN J;clear J hp e;go_wp2_with (first|(go_at_call 196;refine H2.out.mono ?_;rintro e W3 ⟨rfl,c⟩;refine cQ ?_));have y:=cN c;clear c;refine cN ?_;go_wp2_with fail;refine⟨rfl,?_⟩;rw[j.out];exact⟨y.out.to,rfl⟩
  |full=>
   have e:eP m s iQ=(w,(.some .none)):=by rw[←a8.out,←hp]
   have j:Hid (eK a=({a with dk:=w},(.some .none))):=z.out _ _ (by unfold fU;rw[l.out];unfold iG;dsimp only;rw[e]);rw[hp]at J;have H2:=cN J;clear J hp e;go_wp2_with (first|(go_at_call 196;refine H2.out.mono ?_;rintro e W3 ⟨fb,rfl,b5,b9,c⟩;refine cQ ?_));have y:=cN (aLm c b5 b9);clear c b5 b9;refine cN ?_;go_wp2_with fail;go_ret;rw[j.out];exact⟨y.out.1.to,fb,rfl,y.out.2.1,y.out.2.2⟩
  |fine=>
   have e2:eP m s iQ=(w,.none):=by rw[←a8.out,←hp]
   rw[hp]at J;have H2:=cN J;have v:=cN e2;clear J hp e2;go_wp2_with (first|(go_at_call 196;refine H2.out.mono ?_;rintro e W3 ⟨rfl,e5,F3,a3,i3,l3,q3,f3⟩;refine cQ ?_));obtain⟨k0,f,p⟩:=vQ v.out;have i:=gR f;have a7:hP w:=by have G:=kQ f r.out.1;rw[p];exact G
   have Z:w.old=none:=by have G:=i.2.2.2.2.trans r.out.2.1;rw[p];exact G
   have T:w.new=some (s,0):=by rw[p];unfold iQ;rw[i.2.2.2.1,r.out.2.2.1];rfl
   have c3:=a3.cell 2 _ rfl;have c6:=cN (aBc a3 i3 l3 q3 f3 (aEu W3 e5 d w (oQ eb) s 0 a3.disk a7 T Z));have S:=cN (aLm a7 Z T);clear a3 i3 l3 q3 f3 a7 Z T i f p;obtain⟨H,o⟩:=aLx ((dZ w iC).1);have R:=c6.out;rw[o]at R;have c8:=cN o;clear o c6;refine cN ?_;cases hp:(dZ w iC).2 using nB with
   |full=>exact absurd hp qR
   |dies q=>
    have e:dZ w iC=(H,(.some (.some q))):=by rw[←c8.out,←hp]
    have j:Hid (eK a=({a with dk:=H},(.some (.some q)))):=z.out _ _ (by unfold fU;rw[l.out];unfold iG;dsimp only;rw[v.out];dsimp only;rw[e]);rw[hp]at R;have H3:=cN R;clear R hp e;go_wp2_with (first|(go_at_call 197;refine H3.out.mono ?_;rintro e W4 ⟨rfl,c⟩;refine cQ ?_));have y:=cN c;clear c;refine cN ?_;go_wp2_with fail;refine⟨rfl,?_⟩;rw[j.out];exact⟨y.out.to,rfl⟩
   |fine=>
    have e3:dZ w iC=(H,.none):=by rw[←c8.out,←hp]
    rw[hp]at R;have H3:=cN R;have D:=cN e3;clear R hp e3;go_wp2_with (first|(go_at_call 197;refine H3.out.mono ?_;rintro e W4 ⟨rfl,d9,F4,a4,i4,l4,q4,f4⟩;refine cQ ?_));obtain⟨k0,f,o⟩:=qF D.out;have i:=gR f;have X:hP H:=by have G:=kQ f S.out.1;rw[o];exact G
    have a6:H.old=none:=by have G:=i.2.2.2.2.trans S.out.2.1;rw[o];exact G
    have a9:H.new=some (s,(s.length:Int)):=by rw[o];unfold iC;rw[i.2.2.2.1,S.out.2.2]
    have c4:=a4.cell 2 _ rfl;have b2:=cN (aBc a4 i4 l4 q4 f4 (aFm W4 d9 d H (oQ eb) s s.length a4.disk X a9 a6));have c9:=cN (aLm X a6 a9);clear a4 i4 l4 q4 f4 X a6 a9 i f o c3;obtain⟨I,A⟩:=aLx ((dZ H gI).1);have Q:=b2.out;rw[A]at Q;have b3:=cN A;clear A b2;refine cN ?_;cases hp:(dZ H gI).2 using nB with
    |full=>exact absurd hp qR
    |dies q=>
     have e:dZ H gI=(I,(.some (.some q))):=by rw[←b3.out,←hp]
     have j:Hid (eK a=({a with dk:=I},(.some (.some q)))):=z.out _ _ (by unfold fU;rw[l.out];unfold iG;dsimp only;rw[v.out];dsimp only;rw[D.out];dsimp only;rw[e]);rw[hp]at Q;have H4:=cN Q;clear Q hp e;go_wp2_with (first|(go_at_call 200;refine H4.out.mono ?_;rintro e W5 ⟨rfl,c⟩;refine cQ ?_));have y:=cN c;clear c;refine cN ?_;go_wp2_with fail;refine⟨rfl,?_⟩;rw[j.out];exact⟨y.out.to,rfl⟩
    |fine=>
     have e4:dZ H gI=(I,.none):=by rw[←b3.out,←hp]
     rw[hp]at Q;have H4:=cN Q;have K:=cN e4;clear Q hp e4;go_wp2_with (first|(go_at_call 200;refine H4.out.mono ?_;rintro e W5 ⟨rfl,e6,F5,a5,i5,l5,q5,f5⟩;refine cQ ?_));obtain⟨k0,f,A⟩:=qF K.out;have i:=gR f;have d4:hP I:=by have G:=kQ f c9.out.1;rw[A];exact aBZ G
     have b7:I.new=none:=by rw[A];unfold gI;rw[i.2.2.2.1,c9.out.2.2]
     have c5:=a5.cell 2 _ rfl;have b8:=cN (aBc a5 i5 l5 q5 f5 (aB9 W5 e6 d I (oQ eb) a5.disk d4 b7));clear a5 i5 l5 q5 f5 d4 b7 i f A c4;obtain⟨k5,Y⟩:=aLx ((dZ I oJ).1);have P:=b8.out;rw[Y]at P;have b1:=cN Y;clear Y b8;refine cN ?_;cases hp:(dZ I oJ).2 using nB with
     |full=>exact absurd hp qR
     |dies q=>
      have e:dZ I oJ=(k5,(.some (.some q))):=by rw[←b1.out,←hp]
      have j:Hid (eK a=({a with dk:=k5},(.some (.some q)))):=z.out _ _ (by unfold fU;rw[l.out];unfold iG;dsimp only;rw[v.out];dsimp only;rw[D.out];dsimp only;rw[K.out];dsimp only;rw[e]);rw[hp]at P;have H5:=cN P;clear P hp e;go_wp2_with (first|(go_at_call 163;refine H5.out.mono ?_;rintro e W6 ⟨rfl,c⟩;refine cQ ?_));have y:=cN c;clear c;refine cN ?_;go_wp2_with fail;refine⟨rfl,?_⟩;rw[j.out];exact⟨y.out.to,rfl⟩
     |fine=>
      have e:dZ I oJ=(k5,.none):=by rw[←b1.out,←hp]
      have j:Hid (eK a=({a with dk:=k5},.none)):=z.out _ _ (by unfold fU;rw[l.out];unfold iG;dsimp only;rw[v.out];dsimp only;rw[D.out];dsimp only;rw[K.out];dsimp only;rw[e]);rw[hp]at P;have H5:=cN P;clear P hp e;go_wp2_with (first|(go_at_call 163;refine H5.out.mono ?_;rintro e W6 ⟨rfl,c⟩;refine cQ ?_));have y:=cN c;clear c;refine cN ?_;go_wp2_with fail;go_ret;rw[j.out];exact⟨y.out.to,rfl⟩
end
section
open Go.RowKit Go.Maps
theorem aAW(W:World)(F:Nat→Prop)(B:Nat)(eb:Addr)(b g:Nat)(a:Ac)(h:Acc W F b g a)(hgl:GlAt W B eb)(hFB:∀x,F x→B≤x)(hok:xN a)(hby:∀x ∈ a.dk.log,0≤x∧x<256)(hnew:a.dk.new=none)(hold:a.dk.old=none):
 Calls prog 134 #[.pointer (some ⟨b,0,none⟩)] W fun e W'=>tN .nilIface (oQ eb) W F b g (fS a) e W':=by
 have b3:=cN (aAP W F b g a h);have a1:(strOfNums a.dk.log).size≤1000000000000:=by rw[dU];have:=hok.l1;omega
 have M:=vU (strOfNums a.dk.log) W a1;rw[nN hby]at M;obtain⟨l,H⟩:=aLw (dO a.dk.log);rw[←H]at M;have a2:∀r ∈ l,0≤r.lock∧r.lock≤3:=by rw[H];exact uF _ _
 have b5:25*(l.length:Int)≤a.dk.log.length:=by
  have:=aCq (strOfNums a.dk.log);rw[nN hby,←H,dU]at this;omega
 have a4:fS a=if 25*(l.length:Int)<a.dk.log.length∨mD a=true then eK {a with rows:=l}else({a with rows:=l},.none):=by unfold fS;rw[←H]
 have b0:=cN M;have X:=cN a4;have a3:=cN a2;have D:=cN (aLp h hgl hFB hok hnew hold);have b6:=kI a.dk.log;clear M a4 a2 H hby a1 h hgl hFB hok hnew hold;go_enter func134,ntmps134;go_wp2_with (first|(go_at_call 60;refine b3.out.mono ?_;rintro e w' ⟨rfl,L⟩;have b2:=L.symm;subst b2;clear L)|(go_at_call 61;refine b0.out.mono ?_;rintro e W1 ⟨m,n,rfl,J,hn,b7,S⟩;refine cQ ?_));have Z:=Chg.below' S;have G:aA8 W1 m l:=nR J (by rw[xD a3.out J];exact oV _);obtain⟨FD,d,tb,ha,N,a8⟩:=D.out.1;have s:=ha.kept Z (fun _ _ h=>h);have c3:=s.cell 3 _ rfl;have z3:=s.froz 3;have A:=cY W1 b 3 (.map (some m));have a9:=dD s.blk 3 (.map (some m));generalize a5:W1.setCell ⟨b,3,none⟩ (.map (some m))=W2 at*;have u:=cN a5;obtain⟨_,_,o⟩:=eH G;have b9:=dG ha.blk;have b4:=G.lt;have a7:AcAt W2 FD b g d m {a with rows:=l}:=⟨a9,s.disk.of_heap A.size (fun x i=>A.block x (s.disk.lt x i) (fun e=>s.nb (e▸i))),eB G (A.block _ G.lt (by omega)),s.nb,fun i=>by have:=ha.disk.lt m i;omega⟩;have w:=(Z.nos:Chg F W W1).trans A (fun x _ e=>e▸N b (Or.inr (Or.inl rfl)));have b8:=A.size;have K:Acc W2 (fun x=>F x∨x=m) b g {a with rows:=l}:=⟨FD,d,m,a7,fun x i=>by
  rcases i with i|i|i
  ·exact Or.inl (N x (Or.inl i))
  ·exact Or.inl (N x (Or.inr (Or.inl i)))
  ·exact Or.inr i,fun x i=>by
  rcases i with i|i
  ·have:=a8 x i;have:=w.size;omega
  ·omega⟩
 have a0:∀x,(F x∨x=m)→F x∨W.heap.size≤x:=fun x i=>i.elim Or.inl (fun e=>Or.inr (by omega));have R:xN {a with rows:=l}:={D.out.2.2.2.1 with lk:=a3.out};have U:=D.out.2.1.kept w D.out.2.2.1;have T:∀x,(F x∨x=m)→B≤x:=fun x i=>by
  rcases i with i|i
  ·exact D.out.2.2.1 x i
  ·have:=D.out.2.1.hB;omega
 have O:=cN (aA2 W2 _ b g _ K (by have:=D.out.2.2.2.1.l1;show(a.dk.log.length:Int)≤_;omega));have j:=cN (aLp K w a0 R U T);clear K w a0 R U T a7 s ha a9 A a5 Z G J S N a8 o;have v:Hid (∀(x:World) p e W',Chg NoS W2 x→tN .nilIface (oQ eb) x (fun y=>F y∨y=m) b g p e W'→tN .nilIface (oQ eb) W F b g p e W'):=fun x p e W' i c=>by
  obtain⟨Q,h2⟩:=c;have a6:=j.out.2.1.nos' i;refine⟨AcTo.trans a6 (fun y hy=>j.out.2.2.1 y hy) Q,?_⟩;obtain⟨P,hw⟩:=p;cases hw using nB with
  |fine=>exact h2
  |dies q=>exact h2
  |full=>obtain⟨z,g1,g2,g3⟩:=h2;exact⟨z,g1,g2,cA a6.size g3⟩
 refine cN ?_;by_cases Q:25*(l.length:Int)<a.dk.log.length
 ·have b1:decide (25*(l.length:Int)<a.dk.log.length)=true:=by simpa using Q
  have t:=cN (X.out.trans (if_pos (Or.inl Q)));have Y:=cN (pW W2 _ B eb b g {a with rows:=l} j.out.1 j.out.2.2.2.2.1 j.out.2.2.2.2.2 j.out.2.2.2.1 D.out.2.2.2.2.1 D.out.2.2.2.2.2);clear Q;obtain⟨p,V⟩:=aLw (eK {a with rows:=l});have HP:=cN V;have f:=Y.out;rw[←V]at f;clear V;obtain⟨P,hw⟩:=p;have k:=cN (t.out.trans HP.out.symm);cases hw using nB with
  |fine=>
   have C:Hid (Calls prog 174 #[.pointer (some ⟨b,0,none⟩)] W2 fun e W'=>e= .returned .nilIface∧tN .nilIface (oQ eb) W2 (fun y=>F y∨y=m) b g (P,.none) e W'):=f.mono fun e W' c=>⟨c.2,c⟩;clear f;go_wp2_with (first|rw[u.out]|(go_at_call 174;refine C.out.mono ?_;rintro e W3 ⟨rfl,c⟩;refine cQ ?_));have E:=cN (v.out _ _ _ _ (Chg.refl _ _) c);clear c;refine cN ?_;go_wp2_with fail;go_ret;rw[k.out];exact E.out
  |dies q=>
   have C:Hid (Calls prog 174 #[.pointer (some ⟨b,0,none⟩)] W2 fun e W'=>e= .panicked (rT q)∧tN .nilIface (oQ eb) W2 (fun y=>F y∨y=m) b g (P,(.some (.some q))) e W'):=f.mono fun e W' c=>⟨c.2,c⟩;clear f;go_wp2_with (first|rw[u.out]|(go_at_call 174;refine C.out.mono ?_;rintro e W3 ⟨rfl,c⟩;refine cQ ?_));have E:=cN (v.out _ _ _ _ (Chg.refl _ _) c);clear c;refine cN ?_;go_wp2_with fail;refine⟨rfl,?_⟩;rw[k.out];exact E.out
  |full=>
   have C:Hid (Calls prog 174 #[.pointer (some ⟨b,0,none⟩)] W2 fun e W'=>∃z,e= .returned (lX z)∧tN .nilIface (oQ eb) W2 (fun y=>F y∨y=m) b g (P,(.some .none)) (.returned (lX z)) W'):=f.mono fun e W' c=>by
    obtain⟨z,g1,g2⟩:=c.2;subst g1;exact⟨z,rfl,c⟩
   clear f;go_wp2_with (first|rw[u.out]|(go_at_call 174;refine C.out.mono ?_;rintro e W3 ⟨z,rfl,c⟩;refine cQ ?_));have E:=cN (v.out _ _ _ _ (Chg.refl _ _) c);clear c;refine cN ?_;go_wp2_with fail;go_ret;rw[k.out];exact E.out
 ·have b1:decide (25*(l.length:Int)<a.dk.log.length)=false:=by simpa using Q
  cases hq:mD a with
  |true=>
   have t:=cN (X.out.trans (if_pos (Or.inr hq)));have I:Hid (Calls prog 173 #[.pointer (some ⟨b,0,none⟩)] W2 fun e W'=>e= .returned (.bool true)∧W'=W2.drew):=by
    have h:=O.out;have e:mD {a with rows:=l}=true:=hq;rw[e]at h;exact h
   have Y:=cN (pW W2.drew _ B eb b g {a with rows:=l} (j.out.1.kept (Chg.refl NoS W2).drew (fun _ _ h=>h)) (j.out.2.2.2.2.1.kept (Chg.refl NoS W2).drew (fun _ h=>h.elim)) j.out.2.2.2.2.2 j.out.2.2.2.1 D.out.2.2.2.2.1 D.out.2.2.2.2.2);clear Q hq O;obtain⟨p,V⟩:=aLw (eK {a with rows:=l});have HP:=cN V;have f:=Y.out;rw[←V]at f;clear V;obtain⟨P,hw⟩:=p;have k:=cN (t.out.trans HP.out.symm);cases hw using nB with
   |fine=>
    have C:Hid (Calls prog 174 #[.pointer (some ⟨b,0,none⟩)] W2.drew fun e W'=>e= .returned .nilIface∧tN .nilIface (oQ eb) W2.drew (fun y=>F y∨y=m) b g (P,.none) e W'):=f.mono fun e W' c=>⟨c.2,c⟩;clear f;go_wp2_with (first|rw[u.out]|(go_at_call 173;refine I.out.mono ?_;rintro e w' ⟨rfl,L⟩;subst L)|(go_at_call 174;refine C.out.mono ?_;rintro e W3 ⟨rfl,c⟩;refine cQ ?_));have E:=cN (v.out _ _ _ _ (Chg.refl NoS W2).drew c);clear c;refine cN ?_;go_wp2_with fail;go_ret;rw[k.out];exact E.out
   |dies q=>
    have C:Hid (Calls prog 174 #[.pointer (some ⟨b,0,none⟩)] W2.drew fun e W'=>e= .panicked (rT q)∧tN .nilIface (oQ eb) W2.drew (fun y=>F y∨y=m) b g (P,(.some (.some q))) e W'):=f.mono fun e W' c=>⟨c.2,c⟩;clear f;go_wp2_with (first|rw[u.out]|(go_at_call 173;refine I.out.mono ?_;rintro e w' ⟨rfl,L⟩;subst L)|(go_at_call 174;refine C.out.mono ?_;rintro e W3 ⟨rfl,c⟩;refine cQ ?_));have E:=cN (v.out _ _ _ _ (Chg.refl NoS W2).drew c);clear c;refine cN ?_;go_wp2_with fail;refine⟨rfl,?_⟩;rw[k.out];exact E.out
   |full=>
    have C:Hid (Calls prog 174 #[.pointer (some ⟨b,0,none⟩)] W2.drew fun e W'=>∃z,e= .returned (lX z)∧tN .nilIface (oQ eb) W2.drew (fun y=>F y∨y=m) b g (P,(.some .none)) (.returned (lX z)) W'):=f.mono fun e W' c=>by
     obtain⟨z,g1,g2⟩:=c.2;subst g1;exact⟨z,rfl,c⟩
    clear f;go_wp2_with (first|rw[u.out]|(go_at_call 173;refine I.out.mono ?_;rintro e w' ⟨rfl,L⟩;subst L)|(go_at_call 174;refine C.out.mono ?_;rintro e W3 ⟨z,rfl,c⟩;refine cQ ?_));have E:=cN (v.out _ _ _ _ (Chg.refl NoS W2).drew c);clear c;refine cN ?_;go_wp2_with fail;go_ret;rw[k.out];exact E.out
  |false=>
   have t:=cN (X.out.trans (if_neg (by rw[hq];simp;omega)));have I:Hid (Calls prog 173 #[.pointer (some ⟨b,0,none⟩)] W2 fun e W'=>e= .returned (.bool false)∧W'=W2.drew):=by
    have h:=O.out;have e:mD {a with rows:=l}=false:=hq;rw[e]at h;exact h
   clear Q hq O;go_wp2_with (first|rw[u.out]|(go_at_call 173;refine I.out.mono ?_;rintro e w' ⟨rfl,L⟩;subst L));go_ret;rw[t.out];exact v.out _ _ _ _ (Chg.refl NoS W2).drew ⟨.of (j.out.1.kept (Chg.refl NoS W2).drew (fun _ _ h=>h)),rfl⟩
end
end Go.Proofs.YtbbdgokdfhdpiaaGreatDoor
