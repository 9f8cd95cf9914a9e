/- A part of the proof: PMor1, PMor4, PMor6, MemNew, PCNew, KpTk, SafAc. -/
import Derived.Lib.SliceRun
import Derived.Recover
import Derived.Test.YtbbdgokdfhdpiaaGreatDoorD12
import Derived.Test.YtbbdgokdfhdpiaaGreatDoorD14
namespace Go.Proofs.YtbbdgokdfhdpiaaGreatDoor
set_option linter.all false
set_option maxRecDepth 100000
set_option maxHeartbeats 40000000
open Go.Proofs.Tryz Go.RowKit
theorem mD{W:World}{t:TypeId}{v:Value}{f:Nat→Nat}{n:Nat}(h:W.ownsRow 0 t 1 v n (sF f n)):∃(p:Option Addr) (cap:Nat),v= .slice p n cap∧∀i,i<n→∃k,p=some ⟨k,0,none⟩∧W.cell? ⟨k,i,none⟩=some (mH (f i)):=by
 rcases h.2 with⟨rfl,rfl⟩|⟨k,cap,a,rfl,b⟩
 ·exact⟨none,0,rfl,fun i hi=>by omega⟩
 ·refine⟨some ⟨k,0,none⟩,cap,rfl,fun i hi=>⟨k,rfl,?_⟩⟩;rw[h.cellAt i (by omega)];simp[hi]
theorem rQ{W:World}{t:TypeId}{sz:Nat}{v:Value}{n:Nat}{xs:List Value}(h:W.ownsRow 0 t sz v n xs):∃(p:Option Addr) (cap:Nat),v= .slice p n cap:=by
 rcases h.2 with⟨rfl,rfl⟩|⟨k,cap,a,rfl,b⟩
 ·exact⟨none,0,rfl⟩
 ·exact⟨_,cap,rfl⟩
theorem aBE(i:Int)(n:Nat):wiB i 0 ((n:Int)-1)=dL i n:=by
 unfold wiB dL
 congr 1
 apply decide_eq_decide.2;omega
theorem aDK(c:Ct):cJ (jU c)=[]:=by
 unfold jU;split
 ·rfl
 ·exact fH _ (show(4:Int)≠1 by decide)
theorem aBr(c:Ct):cJ (fW c)=[]:=by
 unfold fW;split
 ·rfl
 ·exact fH _ (show(5:Int)≠1 by decide)
theorem MoAt.cells{W:World}{own:Nat→Nat}{g:Nat}{x:Mo}{av cv:Value}{bA bC:Nat→Nat}(h:MoAt W own g x av cv bA bC):∃nv tv,W.heap[g]?=some (.cells #[av,cv,nv,tv] 100 (0,0))∧W.ownsRow 0 66 10 nv x.net.length (cQ mgL x.net)∧W.ownsRow 0 70 19 tv x.tr.length (cQ evL x.tr)∧(∀k,nv.ownBlock=some k→own k=1)∧(∀k,tv.ownBlock=some k→own k=1)∧own g=1:=by
 obtain⟨nv,tv,d,b,f,c,e,a,i⟩:=h.nt;exact⟨nv,tv,d,f,c,e,a,b⟩
section
variable (W:World) (g:Nat) (i:Int) (p:Option Addr) (n cap:Nat)
theorem qX(hn:n≤1000000000000)(hc:W.cell? ⟨g,0,none⟩=some (.slice p n cap)):
 Calls prog 58 #[.pointer (some ⟨g,0,none⟩),.int .i64 i] W fun r W'=>r= .returned (.bool (dL i n))∧W'=W:=by
 have b:IntKind.i64.wrap ((n:Int)-1)=(n:Int)-1:=dZ (by omega) (by omega);rw[←aBE];go_enter func58,ntmps58;go_wp2_with (go_at_call 80;refine(hU _ _ _ _).mono ?_;rintro e a ⟨rfl,rfl⟩);go_ret;exact⟨rfl,rfl⟩
theorem lK(hn:n≤1000000000000)(hc:W.cell? ⟨g,1,none⟩=some (.slice p n cap)):
 Calls prog 47 #[.pointer (some ⟨g,0,none⟩),.int .i64 i] W fun r W'=>r= .returned (.bool (dL i n))∧W'=W:=by
 have b:IntKind.i64.wrap ((n:Int)-1)=(n:Int)-1:=dZ (by omega) (by omega);rw[←aBE];go_enter func47,ntmps47;go_wp2_with (go_at_call 80;refine(hU _ _ _ _).mono ?_;rintro e a ⟨rfl,rfl⟩);go_ret;exact⟨rfl,rfl⟩
theorem nJ(hn:n≤1000000000000)(hc:W.cell? ⟨g,2,none⟩=some (.slice p n cap)):
 Calls prog 83 #[.pointer (some ⟨g,0,none⟩),.int .i64 i] W fun r W'=>r= .returned (.bool (dL i n))∧W'=W:=by
 have b:IntKind.i64.wrap ((n:Int)-1)=(n:Int)-1:=dZ (by omega) (by omega);rw[←aBE];go_enter func83,ntmps83;go_wp2_with (go_at_call 80;refine(hU _ _ _ _).mono ?_;rintro e a ⟨rfl,rfl⟩);go_ret;exact⟨rfl,rfl⟩
end
section
variable (W:World) (own:Nat→Nat) (g:Nat) (x:Mo) (N i:Int)
theorem aF8(h:Moor W own g x)(hok:MoOk N x)(hN:N≤90000000000):
 Calls prog 82 #[.pointer (some ⟨g,0,none⟩),.int .i64 i] W fun r W'=>r= .returned (.int .i64 (nY x i))∧MoTo W own g (kG x i) W':=by
 obtain⟨O,I,B,A,h⟩:=h;have F:=hok.nc;have n:=dO hok.conf;obtain⟨M,J,v,_⟩:=h.cells;obtain⟨p,m,rfl,f⟩:=mD h.rcv;have C:W.cell? ⟨g,1,none⟩=some (.slice p x.cls.length m):=cC v 1 _ rfl;have s:=cB (lK W g i p x.cls.length m (by omega) C);have H:=cB h;have D:=cB f;clear v f;unfold nY kG;by_cases c:dL i x.cls.length=true
 ·rw[if_pos c,if_pos c];rw[c]at s;obtain⟨G,K⟩:=(dK _ _).1 c;obtain⟨a,u⟩:=hok.cl c;obtain⟨d,l⟩:=oI c;obtain⟨j,rfl⟩:∃j:Nat,i=j:=⟨i.toNat,by omega⟩;have t:j<x.cls.length:=by omega
  obtain⟨k,rfl,L⟩:=D.out j t;have b:=h.sys j t;have w:((j:Int).toNat)=j:=by omega
  simp only[w]at l a;rw[←l]at b;have E:=cB (aHo W _ _ _ g x.cf _ _ (clM x j) x.net x.tr b n.1.1 n.1.2 ⟨by rw[a.core.num];omega,by rw[a.core.num];omega,a.core.i1,a.core.i2,a.core.c1,by have:=a.core.c2;omega,a.core.r1,a.core.r2⟩ (by have:=a.core.c2;omega) (fun o ho=>have q:=a.on o ho;⟨q.g1,by have:=q.g2;omega,q.t1,q.t2,q.r1,by have:=q.r2;omega,q.a1,by have:=q.a2;omega⟩) (by have:=hok.nl;omega) (by have:=hok.tl;omega));clear a u l b d h hok;go_enter func82,ntmps82;go_wp2_with (first|(go_at_call 47;refine s.out.mono ?_;rintro e z ⟨rfl,rfl⟩)|(go_at_call 125;refine E.out.mono ?_;rintro r P ⟨rfl,y⟩));go_ret;refine⟨rfl,?_⟩;have:=H.out.clientTo j t y;unfold iG;simp only[w];exact this
 ·rw[if_neg c,if_neg c];have d:dL i x.cls.length=false:=by simpa using c
  rw[d]at s;clear h hok c d;go_enter func82,ntmps82;go_wp2_with (go_at_call 47;refine s.out.mono ?_;rintro e z ⟨rfl,rfl⟩);go_ret;exact⟨rfl,MoTo.of ⟨_,_,B,A,H.out⟩⟩
theorem aFu(h:Moor W own g x)(hok:MoOk N x)(hN:N≤90000000000):
 Calls prog 44 #[.pointer (some ⟨g,0,none⟩),.int .i64 i] W fun r W'=>r= .returned (.int .i64 (kE x i))∧MoTo W own g (kP x i) W':=by
 obtain⟨M,G,y,w,h⟩:=h;have D:=hok.nc;have E:=dO hok.conf;obtain⟨L,I,s,_⟩:=h.cells;obtain⟨p,m,rfl,f⟩:=mD h.rcv;have z:W.cell? ⟨g,1,none⟩=some (.slice p x.cls.length m):=cC s 1 _ rfl;have n:=cB (lK W g i p x.cls.length m (by omega) z);have H:=cB h;have B:=cB f;clear s f;unfold kE kP;by_cases b:dL i x.cls.length=true
 ·rw[if_pos b,if_pos b];rw[b]at n;obtain⟨F,J⟩:=(dK _ _).1 b;obtain⟨d,q⟩:=hok.cl b;obtain⟨c,l⟩:=oI b;obtain⟨j,rfl⟩:∃j:Nat,i=j:=⟨i.toNat,by omega⟩;have o:j<x.cls.length:=by omega
  obtain⟨k,rfl,K⟩:=B.out j o;have a:=h.sys j o;have t:((j:Int).toNat)=j:=by omega
  simp only[t]at l d;rw[←l]at a;have C:=cB (aGh W _ _ _ g x.cf _ _ (clM x j) x.net x.tr a (by rw[d.core.num];omega) (by rw[d.core.num];omega) (by have:=hok.nl;omega) (by have:=hok.tl;omega));clear d q l a c h hok;go_enter func44,ntmps44;go_wp2_with (first|(go_at_call 47;refine n.out.mono ?_;rintro e v ⟨rfl,rfl⟩)|(go_at_call 89;refine C.out.mono ?_;rintro r O ⟨rfl,u⟩));go_ret;refine⟨rfl,?_⟩;have:=H.out.clientTo j o u;unfold iG;simp only[t];have A:=aDK (clM x j);rw[A,aC];exact this
 ·rw[if_neg b,if_neg b];have c:dL i x.cls.length=false:=by simpa using b
  rw[c]at n;clear h hok b c;go_enter func44,ntmps44;go_wp2_with (go_at_call 47;refine n.out.mono ?_;rintro e v ⟨rfl,rfl⟩);go_ret;exact⟨rfl,MoTo.of ⟨_,_,y,w,H.out⟩⟩
theorem aCQ(h:Moor W own g x)(hok:MoOk N x)(hN:N≤90000000000):
 Calls prog 26 #[.pointer (some ⟨g,0,none⟩),.int .i64 i] W fun r W'=>r= .returned (.int .i64 (gO x i))∧MoTo W own g (iB x i) W':=by
 obtain⟨M,G,y,w,h⟩:=h;have D:=hok.nc;have E:=dO hok.conf;obtain⟨L,I,s,_⟩:=h.cells;obtain⟨p,m,rfl,f⟩:=mD h.rcv;have z:W.cell? ⟨g,1,none⟩=some (.slice p x.cls.length m):=cC s 1 _ rfl;have n:=cB (lK W g i p x.cls.length m (by omega) z);have H:=cB h;have B:=cB f;clear s f;unfold gO iB;by_cases c:dL i x.cls.length=true
 ·rw[if_pos c,if_pos c];rw[c]at n;obtain⟨F,J⟩:=(dK _ _).1 c;obtain⟨a,q⟩:=hok.cl c;obtain⟨d,l⟩:=oI c;obtain⟨j,rfl⟩:∃j:Nat,i=j:=⟨i.toNat,by omega⟩;have o:j<x.cls.length:=by omega
  obtain⟨k,rfl,K⟩:=B.out j o;have b:=h.sys j o;have t:((j:Int).toNat)=j:=by omega
  simp only[t]at l a;rw[←l]at b;have C:=cB (aDM W _ _ _ g x.cf _ _ (clM x j) x.net x.tr b a.dn ⟨by rw[a.core.num];omega,by rw[a.core.num];omega,a.core.i1,a.core.i2,a.core.c1,by have:=a.core.c2;omega,a.core.r1,a.core.r2⟩ (by have:=hok.nl;omega) (by have:=hok.tl;omega));clear a q l b d h hok;go_enter func26,ntmps26;go_wp2_with (first|(go_at_call 47;refine n.out.mono ?_;rintro e v ⟨rfl,rfl⟩)|(go_at_call 63;refine C.out.mono ?_;rintro r O ⟨rfl,u⟩));go_ret;refine⟨rfl,?_⟩;have:=H.out.clientTo j o u;unfold iG;simp only[t];have A:=aBr (clM x j);rw[A,aC];exact this
 ·rw[if_neg c,if_neg c];have d:dL i x.cls.length=false:=by simpa using c
  rw[d]at n;clear h hok c d;go_enter func26,ntmps26;go_wp2_with (go_at_call 47;refine n.out.mono ?_;rintro e v ⟨rfl,rfl⟩);go_ret;exact⟨rfl,MoTo.of ⟨_,_,y,w,H.out⟩⟩
end
theorem NtAt.newNet{W':World}{G:Nat→Prop}{g:Nat}{av cv tv nv':Value}{net':List Mg}{tr:List Ev}(hb:W'.heap[g]?=some (.cells #[av,cv,nv',tv] 100 (0,0)))(hg:G g)(hn:W'.ownsRow 0 66 10 nv' net'.length (cQ mgL net'))(ht:W'.ownsRow 0 70 19 tv tr.length (cQ evL tr))(hno:∀k,nv'.ownBlock=some k→G k)(hto:∀k,tv.ownBlock=some k→G k)(hlt:∀k,G k→k<W'.heap.size):NtAt W' G g av cv net' tr:=
 ⟨nv',tv,hb,hg,hn,ht,hno,hto,hlt⟩
section
variable (W:World) (own:Nat→Nat) (g:Nat) (x:Mo)
theorem aAm(N:Int)(i:Nat)(h:Moor W own g x)(hok:MoOk N x)(hN:N≤90000000000)(hi:i<x.net.length):
 Calls prog 84 #[.pointer (some ⟨g,0,none⟩),.int .i64 i] W fun r W'=>r= .returned (.tuple #[])∧MoTo W own g {x with net:=x.net.eraseIdx i} W':=by
 obtain⟨av,cv,bA,bC,h⟩:=h;obtain⟨nv,tv,hb,hnv,htv,hnb,htb,hg1⟩:=h.cells;have c2:W.cell? ⟨g,2,none⟩=some nv:=cC hb 2 _ rfl;have hnl:=hok.nl;have w1:IntKind.i64.wrap ((i:Int)+1)=(i:Int)+1:=dZ (by omega) (by omega);have HD:=cB (aDy W nv x.net i hi (by omega) hnv);have H:=cB h;have HB:=cB (aJZ hb htv hnb htb hg1);have hgn:=fS hnv hb (by decide);have hnt:=pO htv hnv (by decide);have HGN:=cB (aJW hgn hnt);clear hb hnv htv hnb htb hg1 h hok hgn hnt;go_enter func84,ntmps84;go_wp2_with (go_at_call 126;refine HD.out.mono ?_;rintro e W1 ⟨v,rfl,hv,hvb,hc1⟩;have HV:=cB (aJX hv hvb hc1);clear hv hvb hc1;refine cE ?_);refine cB ?_;obtain⟨p',cap',rfl⟩:=rQ HV.out.1;have hb1:=HV.out.2.2.kept HB.out.1 (fun e=>HGN.out.1 g e.symm rfl);have d2:=cC hb1 2 _ rfl;have z2:=cV hb1 2;have hb2:=cU hb1 2 (.slice p' (x.net.eraseIdx i).length cap');have hc2:=cZ W1 g 2 (.slice p' (x.net.eraseIdx i).length cap');generalize hX2:W1.setCell ⟨g,2,none⟩ (.slice p' (x.net.eraseIdx i).length cap')=W2 at*;have HX2:=cB hX2;have hc:=(HV.out.2.2.mono (T:=fun k=>some k=nv.ownBlock∨k=g) (fun _ _ h=>Or.inl h)).trans hc2 (fun _ _ h=>Or.inr h);have hv2:=hc2.row HV.out.1 (fun k hk e=>by
  rw[HV.out.2.1]at hk;exact HGN.out.1 k hk e)
 have ht2:=hc.row HB.out.2.1 (fun k hk e=>by
  rcases e with e|e
  ·exact HGN.out.2 k hk e.symm
  ·exact fS HB.out.2.1 HB.out.1 (by decide) k hk e)
 have hnt2:NtAt W2 (fun k=>own k=1) g av cv (x.net.eraseIdx i) x.tr:=NtAt.newNet (by simpa using hb2) HB.out.2.2.2.2 hv2 ht2 (fun k hk=>HB.out.2.2.1 k (HV.out.2.1▸hk)) HB.out.2.2.2.1 (fun k hk=>aG (H.out.lt k (by simp only[hk];decide)) hc.size);have hto:=H.out.netTo hnt2 (hc.mono (fun k _ hk=>by
  rcases hk with hk|hk
  ·exact HB.out.2.2.1 k hk.symm
  ·rw[hk];exact HB.out.2.2.2.2)) (fun k hk=>Or.inl hk)
 have HTO:=cB hto;clear hb1 hb2 hc2 hc hv2 ht2 hnt2 hto hX2 c2;go_wp2_with (rw[HX2.out]);first|go_end0|skip
 exact⟨rfl,HTO.out⟩
theorem aEU(N i:Int)(h:Moor W own g x)(hok:MoOk N x)(hN:N≤90000000000):
 Calls prog 40 #[.pointer (some ⟨g,0,none⟩),.int .i64 i] W fun r W'=>r= .returned (.int .i64 (aBH x i))∧MoTo W own g (eN x i) W':=by
 have H:=cB h;have m:=cB hok;obtain⟨B,v,w,t,h⟩:=h;obtain⟨A,y,k,b,_⟩:=h.cells;obtain⟨p,d,rfl⟩:=rQ b;have l:W.cell? ⟨g,2,none⟩=some (.slice p x.net.length d):=cC k 2 _ rfl;have f:=cB (nJ W g i p x.net.length d (by have:=hok.nl;omega) l);unfold aBH eN;by_cases a:dL i x.net.length=true
 ·rw[if_pos a,if_pos a];rw[a]at f;obtain⟨u,z⟩:=(dK _ _).1 a;obtain⟨j,rfl⟩:∃j:Nat,i=j:=⟨i.toNat,by omega⟩;have q:=cB (aAm W own g x N j H.out m.out hN (by omega));clear k b h hok a l;go_enter func40,ntmps40;go_wp2_with (first|(go_at_call 83;refine f.out.mono ?_;rintro e o ⟨rfl,rfl⟩)|(go_at_call 84;refine q.out.mono ?_;rintro e C ⟨rfl,n⟩));go_ret;refine⟨rfl,?_⟩;have s:((j:Int).toNat)=j:=by omega
  rw[s];exact n
 ·rw[if_neg a,if_neg a];have c:dL i x.net.length=false:=by simpa using a
  rw[c]at f;clear k b h hok a c l;go_enter func40,ntmps40;go_wp2_with (go_at_call 83;refine f.out.mono ?_;rintro e o ⟨rfl,rfl⟩);go_ret;exact⟨rfl,MoTo.of H.out⟩
end
theorem aHk{W:World}{k cap:Nat}{net:List Mg}{i:Nat}(hi:i<net.length)(h:W.ownsRow 0 66 10 (.slice (some ⟨k,0,none⟩) net.length cap) net.length (cQ mgL net)):∀j u,(mgL net[i])[j]?=some u→W.cell? ((⟨k,i*10,none⟩:Addr).add j)=some u:=fun j u hj=>by
 have hj10:j<10:=(aF.1 hj).1;rw[Addr.add_lit];have e:=tM mgL (k:=10) (fun _=>rfl) net i hi j hj10;rw[h.cellAt _ (by omega),e];exact hj
theorem aEV(W:World)(own:Nat→Nat)(g:Nat)(x:Mo)(N i:Int)(h:Moor W own g x)(hok:MoOk N x)(hN:N≤90000000000):
 Calls prog 41 #[.pointer (some ⟨g,0,none⟩),.int .i64 i] W fun r W'=>r= .returned (.int .i64 (aBH x i))∧MoTo W own g (lE x i) W':=by
 have HM:=cB h;have c4:=cB hok;obtain⟨i1,ji,b2,b9,b1⟩:=info_parts tR;obtain⟨av,cv,bA,bC,h⟩:=h;obtain⟨nv,tv,Q,c,A,K,I,J⟩:=h.cells;obtain⟨p,o,rfl⟩:=rQ c;have c2:W.cell? ⟨g,2,none⟩=some (.slice p x.net.length o):=cC Q 2 _ rfl;have a7:=hok.nl;have HI:=cB (nJ W g i p x.net.length o (by omega) c2);unfold aBH lE;by_cases t:dL i x.net.length=true
 ·rw[if_pos t,if_pos t];rw[t]at HI;obtain⟨h0,h1⟩:=(dK _ _).1 t;obtain⟨w,em⟩:=qZ t;obtain⟨j,rfl⟩:∃j:Nat,i=j:=⟨i.toNat,by omega⟩;have R:j<x.net.length:=by omega
  have a4:kC x (j:Int)=x.net[j]'R:=em;rw[a4];have E:=c;rcases c.2 with⟨e,e0⟩|⟨k,c0,c1,e,hr⟩
  ·omega
  ·cases e;have a2:=aHk R E;generalize hm:x.net[j]'R=m at*;have HC:=cB a2;have u:=cB (aJ0 Q c A K I J);have H:=cB h;have c6:=cB R;have V:=fS c Q (by decide);have a0:=pO A c (by decide);have a6:=cB (aJW V a0);have a1:=cB a7;clear a2 Q c A K I J h hok t w hr E em a4 hm V a0 a7 R;go_enter func41,ntmps41;go_wp2_with (go_at_call 83;refine HI.out.mono ?_;rintro e w' ⟨rfl,hW⟩;have b6:=hW.symm;subst b6;clear hW);refine rlx [0,0,0,0,1,0,0,0,1,0,0,1,2] (fun w'=>w'.cell? ⟨g,2,none⟩=some (.slice (some ⟨k,0,none⟩) x.net.length o)∧∀q y,(mgL m)[q]?=some y→w'.cell? ((⟨k,j*10,none⟩:Addr).add q)=some y) (by kernel_rfl) (fun _ _ _ _=>rfl) ?_ ?_
   ·exact⟨c2,HC.out⟩
   simp only[cL,cK];iterate 11 (apply sB rfl rfl;·(intro x h;(try have h:=h rfl);(try dsimp only at h);go_simp;with_reducible rfl))
   try simp only[pA]
   refine cM (v:=mgV m) rfl (fun x hx=>cG 66 _ rfl ⟨k,j*10,none⟩ rfl (mgL m) _ hx.2 underlying66 rfl (by kernel_rfl)) ?_;(try simp only[pA]);refine dC rfl (fun C hC=>?_);go_simp;have X:=u.out.1;have b7:=H.out.lt k (by rw[u.out.2.2.2.1 k rfl];decide);have P:=cX (.cells (mgL m).toArray 66) X;have Z:∀q y,(mgL m)[q]?=some y→(W.alloc (.cells (mgL m).toArray 66)).cell? ((⟨k,j*10,none⟩:Addr).add q)=some y:=fun q y a=>by
    have e:=HC.out q y a;rw[Addr.add_lit]at e⊢;exact(aW (Below.heap_alloc W _ k b7)).trans e
   refine hC _ _ ⟨cC (W:=(W.alloc _).drew) P 2 _ rfl,Z⟩ ?_;clear hC C Z X;refine cD ?_;have F:=aA W (.cells (mgL m).toArray 66);have b5:(W.alloc (.cells (mgL m).toArray 66)).heap.size=W.heap.size+1:=by simp
   have s:Chg NoS W (W.alloc (.cells (mgL m).toArray 66)):=(Chg.refl NoS W).alloc _;have S:=s.row u.out.2.1 (fun _ _ h=>h);have a3:=s.row u.out.2.2.1 (fun _ _ h=>h);have b8:=H.out.kept s (fun _ _ h=>h);generalize b0:W.alloc (.cells (mgL m).toArray 66)=W1 at*;refine wpList_append_lies _ rfl _ _ 88 rfl 0 66 i1 _ 10 80 underlying88 ji b2 b9 b1 rfl (by decide) (.slice (some ⟨k,0,none⟩) x.net.length o) x.net.length (cQ mgL x.net) rfl S.drew ⟨W.heap.size,0,none⟩ 1 1 (mgL m) rfl rfl (cF (W:=W1.drew) F) (vC m) (by decide) (by have:=a1.out;unfold maxLen;omega) (by have:=a1.out;omega) (aI _) (W.heap.size+1) b5 ?_;intro G f W2 d b D a9;have z:Chg (fun q=>some q=(Value.slice (some ⟨k,0,none⟩) x.net.length o).ownBlock) W1 W2:=Chg.of_grown ⟨b.os,b.tape,b.output,b.size,b.block⟩;have l:=z.kept P (fun e=>a6.out.1 g e.symm rfl);have M:=z.row a3 (fun q a e=>a6.out.2 q a e.symm);have d2:=cC l 2 _ rfl;have z2:=cV l 2;have Y:=cU l 2 (.slice (some ⟨G,0,none⟩) (x.net.length+1) f);have n:=cZ W2 g 2 (.slice (some ⟨G,0,none⟩) (x.net.length+1) f);have c5:=fS d l (by decide) G rfl;have c3:=cW u.out.1;generalize a8:W2.setCell ⟨g,2,none⟩ (.slice (some ⟨G,0,none⟩) (x.net.length+1) f)=W3 at*;have b4:=cB a8;have L:=n.row d (fun q a e=>by
    have:q=G:=by simpa[Value.ownBlock]using a.symm
    omega)
   have a5:=n.row M (fun q a e=>fS M l (by decide) q a e);have e1:=(jQ mgL x.net m).symm;rw[e1]at L;have O:=((s.mono (T:=fun q=>own q=1) (fun _ _ h=>h.elim)).trans z (fun q a e=>u.out.2.2.2.1 q e.symm)).trans n (fun q a e=>by rw[e];exact u.out.2.2.2.2.2);have B:NtAt W3 (fun q=>own q=1∨q=G) g av cv (x.net++[m]) x.tr:=NtAt.newNet (nv':=.slice (some ⟨G,0,none⟩) (x.net.length+1) f) (tv:=tv) (by simpa using Y) (Or.inl u.out.2.2.2.2.2) (by rw[aD,aK];exact L) a5 (fun q a=>Or.inr (by simpa[Value.ownBlock]using a.symm)) (fun q a=>Or.inl (u.out.2.2.2.2.1 q a)) (fun q a=>by
    rcases a with a|a
    ·exact aG (H.out.lt q (by rw[a];decide)) O.size
    ·have:=n.size;omega)
   have U:=H.out.netTo B O (fun q a=>by
    rcases a with a|a
    ·exact Or.inl a
    ·rcases D with h|h
     ·exact Or.inl (u.out.2.2.2.1 q (by rw[a];exact h))
     ·right;omega)
   have b3:=cB U;clear P l Y s z n L a3 M a5 B O U b0 a8 d b D a9 F S b8 e1 c2;(try simp only[pA]);go_wp2_with (rw[b4.out]);go_ret;refine⟨rfl,?_⟩;exact b3.out
 ·rw[if_neg t,if_neg t];have w:dL i x.net.length=false:=by simpa using t
  rw[w]at HI;clear Q c A K I J h hok t w;go_enter func41,ntmps41;go_wp2_with (go_at_call 83;refine HI.out.mono ?_;rintro e w' ⟨rfl,rfl⟩);go_ret;exact⟨rfl,MoTo.of HM.out⟩
def moN(f:Cf)(k c:Nat):Mo:=⟨f,(List.range k).map (fun (i:Nat)=>rX f i),(List.range c).map (fun (i:Nat)=>wC i),[],[]⟩
section
variable (f:Cf) (k c:Nat)
theorem rE:(moN f k c).acs.length=k:=by simp[moN]
theorem rH:(moN f k c).cls.length=c:=by simp[moN]
theorem aEn{i:Nat}(h:i<(moN f k c).acs.length):(moN f k c).acs[i]=rX f i:=by simp[moN]
theorem aEB{i:Nat}(h:i<(moN f k c).cls.length):(moN f k c).cls[i]=wC i:=by simp[moN]
end
theorem xZ(b:Nat→Nat)(k x:Nat):sF (fun i=>if i=k then x else b i) (k+1)=sF b k++[mH x]:=by
 unfold sF;rw[List.range_succ,bO]
 congr 1
 ·apply List.map_congr_left;intro i a;have:=List.mem_range.1 a;show mH (if i=k then x else b i)=mH (b i);rw[if_neg (by omega)]
 ·simp
def fC(W0 W1:World)(own:Nat→Nat)(p:Nat)(row:Option Nat):Nat→Nat:=fun q=>if q<W0.heap.size then own q else if q<W1.heap.size then p else if row=some q then 2 else 0
section
variable {W0 W1 W2 W3:World} {own:Nat→Nat} {g:Nat} {f:Cf} {k c b:Nat} {av cv v':Value} {bA bC:Nat→Nat}
theorem aIP(h:MoAt W0 own g (moN f k c) av cv bA bC)
 (hA:Acc W1 (fun q=>W0.heap.size≤q∧q<W1.heap.size) b g (rX f k)) (h01:Chg NoS W0 W1) (h12:Chg NoS W1 W2) (h23:W2.grownBy W3 av.ownBlock)
 (hrow:W3.ownsRow 0 114 1 v' (k+1) (sF bA k++[mH b])) (hat:v'.ownBlock=av.ownBlock∨∃q,v'.ownBlock=some q∧W2.heap.size≤q∧q<W3.heap.size):
 ∃own',MoAt (W3.setCell ⟨g,0,none⟩ v') own' g (moN f (k+1) c) v' cv (fun i=>if i=k then b else bA i) bC∧(∀q,own' q≠0→own q≠0∨W0.heap.size≤q)∧Chg (fun q=>own q≠0) W0 (W3.setCell ⟨g,0,none⟩ v'):=by
 obtain⟨nv,Y,w,x,z,C,E,A⟩:=h.cells;have S:=h01.size;have Q:=h12.size;have R:=h23.size;have a0:=cW w;have j:=h.avb;have s:=((h01.mono (T:=fun q=>some q=av.ownBlock) (fun _ _ h=>h.elim)).trans h12 (fun _ _ h=>h.elim)).trans (Chg.of_grown h23) (fun _ _ h=>h);have M:=s.kept w (fun e=>by have:=j g e.symm;omega);have o:=cZ W3 g 0 v';have L:=cU M 0 v';have d:=(s.mono (T:=fun q=>some q=av.ownBlock∨q=g) (fun _ _ h=>Or.inl h)).trans o (fun _ _ h=>Or.inr h);have U:(W3.setCell ⟨g,0,none⟩ v').heap.size=W3.heap.size:=by simp
 generalize W3.setCell ⟨g,0,none⟩ v'=W4 at*;have H:=((h12.mono (T:=fun q=>some q=av.ownBlock∨q=g) (fun _ _ h=>h.elim)).trans (Chg.of_grown h23) (fun _ _ h=>Or.inl h)).trans o (fun _ _ h=>Or.inr h);have O:∀q,v'.ownBlock=some q→q≠g:=fun q a e=>by
  rcases hat with l|⟨P,l,y,_⟩
  ·rw[l]at a;have I:=j q a;rw[e]at I;omega
  ·rw[l]at a;cases a;omega
 have n:∀q,q<W0.heap.size→fC W0 W1 own (3+2*k) v'.ownBlock q=own q:=fun q a=>by unfold fC;rw[if_pos a]
 have F:∀q,W0.heap.size≤q→q<W1.heap.size→fC W0 W1 own (3+2*k) v'.ownBlock q=(3+2*k):=fun q a u=>by unfold fC;rw[if_neg (by omega),if_pos u]
 have v2:∀q,v'.ownBlock=some q→fC W0 W1 own (3+2*k) v'.ownBlock q=2:=fun q a=>by
  rcases hat with l|⟨P,l,y,_⟩
  ·rw[l]at a;have e:=j q a;have r:=h.lt q (by omega);rw[n q r];exact e
  ·rw[l]at a;cases a;unfold fC;rw[if_neg (by omega),if_neg (by omega),if_pos l]
 have G:∀q,W0.heap.size≤q→fC W0 W1 own (3+2*k) v'.ownBlock q=(3+2*k)∨fC W0 W1 own (3+2*k) v'.ownBlock q=2∨fC W0 W1 own (3+2*k) v'.ownBlock q=0:=fun q a=>by
  unfold fC;rw[if_neg (by omega)];split
  ·exact Or.inl rfl
  ·split
   ·exact Or.inr (Or.inl rfl)
   ·exact Or.inr (Or.inr rfl)
 have m:∀p,p≠0→p≠2→p≠(3+2*k)→∀q,fC W0 W1 own (3+2*k) v'.ownBlock q=p↔own q=p:=fun p h0 I hp q=>by
  by_cases a:q<W0.heap.size
  ·rw[n q a]
  ·constructor
   ·intro e;rcases G q (by omega)with l|l|l<;>omega
   ·intro e;exact absurd (h.lt q (by omega)) a
 have r:∀q,fC W0 W1 own (3+2*k) v'.ownBlock q≠0→q<W4.heap.size:=fun q a=>by
  unfold fC at a;split at a
  ·omega
  ·split at a
   ·omega
   ·split at a
    ·rename_i e;rcases hat with l|⟨P,l,y,h3⟩
     ·rw[l]at e;have:=h.lt q (by rw[j q e];decide);omega
     ·rw[l]at e;cases e;omega
    ·exact absurd rfl a
 refine⟨fC W0 W1 own (3+2*k) v'.ownBlock,?_,fun q a=>?_,d.mono (fun q _ a=>?_)⟩
 ·have t:∀p,p≠0→p≠1→p≠2→∀q,own q=p→¬(some q=av.ownBlock∨q=g):=fun p h0 h1 I q a e=>by
   rcases e with e|e
   ·have:=j q e.symm;omega
   ·rw[e]at a;omega
  refine⟨?_,?_,?_,?_,?_,?_,?_,r⟩
  ·have e:=funext fun q=>propext (m 1 (by decide) (by decide) (by omega) q);rw[e];refine⟨nv,Y,by simpa using L,A,?_,?_,C,E,fun q a=>by have:=h.lt q (by omega);omega⟩
   ·exact d.row x (fun q a e=>by
     rcases e with e|e
     ·have:=j q e.symm;have:=C q a;omega
     ·exact fS x w (by decide) q a e)
   ·exact d.row z (fun q a e=>by
     rcases e with e|e
     ·have:=j q e.symm;have:=E q a;omega
     ·exact fS z w (by decide) q a e)
  ·rw[rE,xZ];exact o.row hrow (fun q a e=>O q a e)
  ·have:=d.row h.rcv (fun q a e=>by
    rcases e with e|e
    ·exact pO h.rcv h.rav (by decide) q a e.symm
    ·exact fS h.rcv w (by decide) q a e)
   simpa[rH]using this
  ·exact v2
  ·exact fun q a=>by rw[n q (h.lt q (by rw[h.cvb q a];decide))];exact h.cvb q a
  ·intro i J;have N:i<(k+1):=by simpa[rE]using J
   rw[aEn];by_cases B:i=k
   ·subst B;rw[if_pos rfl];have K:=hA.kept H (fun q a e=>by
     rcases e with e|e
     ·have:=h.lt q (by rw[j q e.symm];decide);omega
     ·omega)
    exact K.grow (fun q a=>F q a.1 a.2) (fun q a=>r q (by omega))
   ·rw[if_neg B];have v:i<(moN f k c).acs.length:=by rw[rE];omega
    have e:(fun q=>fC W0 W1 own (3+2*k) v'.ownBlock q=3+2*i)=(fun q=>own q=3+2*i):=funext fun q=>propext (m _ (by omega) (by omega) (by omega) q);rw[e];have:=h.acc i v;rw[aEn]at this;exact this.kept d (fun q a=>t _ (by omega) (by omega) (by omega) q a)
  ·intro i J;have N:i<c:=by simpa[rH]using J
   rw[aEB];have v:i<(moN f k c).cls.length:=by rw[rH];omega
   have e:(fun q=>fC W0 W1 own (3+2*k) v'.ownBlock q=4+2*i)=(fun q=>own q=4+2*i):=funext fun q=>propext (m _ (by omega) (by omega) (by omega) q);rw[e];obtain⟨W,Z,V,wt,X,D⟩:=h.cls i v;rw[aEB]at D;exact⟨W,Z,V,wt,X,D.kept d (fun q a=>t _ (by omega) (by omega) (by omega) q a)⟩
 ·by_cases u:q<W0.heap.size
  ·rw[n q u]at a;exact Or.inl a
  ·exact Or.inr (by omega)
 ·rcases a with a|a
  ·rw[j q a.symm];decide
  ·rw[a,A];decide
theorem aIU(h:MoAt W0 own g (moN f k c) av cv bA bC)
 (hA:∃ch tk hd wt dv,ClAt W1 (fun q=>W0.heap.size≤q∧q<W1.heap.size) b g f (wC c) ch tk hd wt dv) (h01:Chg NoS W0 W1) (h12:Chg NoS W1 W2) (h23:W2.grownBy W3 cv.ownBlock)
 (hrow:W3.ownsRow 0 96 1 v' (c+1) (sF bC c++[mH b])) (hat:v'.ownBlock=cv.ownBlock∨∃q,v'.ownBlock=some q∧W2.heap.size≤q∧q<W3.heap.size):
 ∃own',MoAt (W3.setCell ⟨g,1,none⟩ v') own' g (moN f k (c+1)) av v' bA (fun i=>if i=c then b else bC i)∧(∀q,own' q≠0→own q≠0∨W0.heap.size≤q)∧Chg (fun q=>own q≠0) W0 (W3.setCell ⟨g,1,none⟩ v'):=by
 obtain⟨W,V,x,y,A,D,E,B⟩:=h.cells;have S:=h01.size;have Q:=h12.size;have R:=h23.size;have Y:=cW x;have j:=h.cvb;have t:=((h01.mono (T:=fun q=>some q=cv.ownBlock) (fun _ _ h=>h.elim)).trans h12 (fun _ _ h=>h.elim)).trans (Chg.of_grown h23) (fun _ _ h=>h);have M:=t.kept x (fun e=>by have:=j g e.symm;omega);have o:=cZ W3 g 1 v';have L:=cU M 1 v';have d:=(t.mono (T:=fun q=>some q=cv.ownBlock∨q=g) (fun _ _ h=>Or.inl h)).trans o (fun _ _ h=>Or.inr h);have U:(W3.setCell ⟨g,1,none⟩ v').heap.size=W3.heap.size:=by simp
 generalize W3.setCell ⟨g,1,none⟩ v'=W4 at*;have H:=((h12.mono (T:=fun q=>some q=cv.ownBlock∨q=g) (fun _ _ h=>h.elim)).trans (Chg.of_grown h23) (fun _ _ h=>Or.inl h)).trans o (fun _ _ h=>Or.inr h);have O:∀q,v'.ownBlock=some q→q≠g:=fun q a e=>by
  rcases hat with l|⟨P,l,z,_⟩
  ·rw[l]at a;have I:=j q a;rw[e]at I;omega
  ·rw[l]at a;cases a;omega
 have n:∀q,q<W0.heap.size→fC W0 W1 own (4+2*c) v'.ownBlock q=own q:=fun q a=>by unfold fC;rw[if_pos a]
 have F:∀q,W0.heap.size≤q→q<W1.heap.size→fC W0 W1 own (4+2*c) v'.ownBlock q=(4+2*c):=fun q a v=>by unfold fC;rw[if_neg (by omega),if_pos v]
 have X:∀q,v'.ownBlock=some q→fC W0 W1 own (4+2*c) v'.ownBlock q=2:=fun q a=>by
  rcases hat with l|⟨P,l,z,_⟩
  ·rw[l]at a;have e:=j q a;have r:=h.lt q (by omega);rw[n q r];exact e
  ·rw[l]at a;cases a;unfold fC;rw[if_neg (by omega),if_neg (by omega),if_pos l]
 have G:∀q,W0.heap.size≤q→fC W0 W1 own (4+2*c) v'.ownBlock q=(4+2*c)∨fC W0 W1 own (4+2*c) v'.ownBlock q=2∨fC W0 W1 own (4+2*c) v'.ownBlock q=0:=fun q a=>by
  unfold fC;rw[if_neg (by omega)];split
  ·exact Or.inl rfl
  ·split
   ·exact Or.inr (Or.inl rfl)
   ·exact Or.inr (Or.inr rfl)
 have m:∀p,p≠0→p≠2→p≠(4+2*c)→∀q,fC W0 W1 own (4+2*c) v'.ownBlock q=p↔own q=p:=fun p h0 I hp q=>by
  by_cases a:q<W0.heap.size
  ·rw[n q a]
  ·constructor
   ·intro e;rcases G q (by omega)with l|l|l<;>omega
   ·intro e;exact absurd (h.lt q (by omega)) a
 have r:∀q,fC W0 W1 own (4+2*c) v'.ownBlock q≠0→q<W4.heap.size:=fun q a=>by
  unfold fC at a;split at a
  ·omega
  ·split at a
   ·omega
   ·split at a
    ·rename_i e;rcases hat with l|⟨P,l,z,Z⟩
     ·rw[l]at e;have:=h.lt q (by rw[j q e];decide);omega
     ·rw[l]at e;cases e;omega
    ·exact absurd rfl a
 refine⟨fC W0 W1 own (4+2*c) v'.ownBlock,?_,fun q a=>?_,d.mono (fun q _ a=>?_)⟩
 ·have u:∀p,p≠0→p≠1→p≠2→∀q,own q=p→¬(some q=cv.ownBlock∨q=g):=fun p h0 h1 I q a e=>by
   rcases e with e|e
   ·have:=j q e.symm;omega
   ·rw[e]at a;omega
  refine⟨?_,?_,?_,?_,?_,?_,?_,r⟩
  ·have e:=funext fun q=>propext (m 1 (by decide) (by decide) (by omega) q);rw[e];refine⟨W,V,by simpa using L,B,?_,?_,D,E,fun q a=>by have:=h.lt q (by omega);omega⟩
   ·exact d.row y (fun q a e=>by
     rcases e with e|e
     ·have:=j q e.symm;have:=D q a;omega
     ·exact fS y x (by decide) q a e)
   ·exact d.row A (fun q a e=>by
     rcases e with e|e
     ·have:=j q e.symm;have:=E q a;omega
     ·exact fS A x (by decide) q a e)
  ·have:=d.row h.rav (fun q a e=>by
    rcases e with e|e
    ·exact pO h.rav h.rcv (by decide) q a e.symm
    ·exact fS h.rav x (by decide) q a e)
   simpa[rE]using this
  ·rw[rH,xZ];exact o.row hrow (fun q a e=>O q a e)
  ·exact fun q a=>by rw[n q (h.lt q (by rw[h.avb q a];decide))];exact h.avb q a
  ·exact X
  ·intro i J;have N:i<k:=by simpa[rE]using J
   rw[aEn];have w:i<(moN f k c).acs.length:=by rw[rE];omega
   have e:(fun q=>fC W0 W1 own (4+2*c) v'.ownBlock q=3+2*i)=(fun q=>own q=3+2*i):=funext fun q=>propext (m _ (by omega) (by omega) (by omega) q);rw[e];have:=h.acc i w;rw[aEn]at this;exact this.kept d (fun q a=>u _ (by omega) (by omega) (by omega) q a)
  ·intro i J;have N:i<(c+1):=by simpa[rH]using J
   rw[aEB];by_cases C:i=c
   ·subst C;rw[if_pos rfl];obtain⟨ch,tk,hd,wt,dv,s⟩:=hA;have K:=s.kept H (fun q a e=>by
     rcases e with e|e
     ·have:=h.lt q (by rw[j q e.symm];decide);omega
     ·omega)
    exact⟨ch,tk,hd,wt,dv,K.grow (fun q a=>F q a.1 a.2) (fun q a=>r q (by omega))⟩
   ·rw[if_neg C];have w:i<(moN f k c).cls.length:=by rw[rH];omega
    have e:(fun q=>fC W0 W1 own (4+2*c) v'.ownBlock q=4+2*i)=(fun q=>own q=4+2*i):=funext fun q=>propext (m _ (by omega) (by omega) (by omega) q);rw[e];obtain⟨ch,tk,hd,wt,dv,s⟩:=h.cls i w;rw[aEB]at s;exact⟨ch,tk,hd,wt,dv,s.kept d (fun q a=>u _ (by omega) (by omega) (by omega) q a)⟩
 ·by_cases v:q<W0.heap.size
  ·rw[n q v]at a;exact Or.inl a
  ·exact Or.inr (by omega)
 ·rcases a with a|a
  ·rw[j q a.symm];decide
  ·rw[a,B];decide
end
abbrev cgL(f:Cf):List Value:=[.int .i64 f.f,.int .i64 f.clients,.int .i64 f.patience,.int .i64 f.tries,.int .i64 f.drift,.int .i64 f.compact,.int .i64 f.room]
abbrev cgV(f:Cf):Value:=.agg #[.int .i64 f.f,.int .i64 f.clients,.int .i64 f.patience,.int .i64 f.tries,.int .i64 f.drift,.int .i64 f.compact,.int .i64 f.room]
structure Four(W A:World)(c t h k:Bool)(xc xt xh xk:Nat):Prop where
 chg:Chg NoS W A
 oc:c=true→A.heap[xc]?=some (.chan 0 #[] false 0 0 false)∧W.heap.size≤xc
 ot:t=true→A.heap[xt]?=some (.map #[] 0)∧W.heap.size≤xt
 oh:h=true→A.heap[xh]?=some (.map #[] 0)∧W.heap.size≤xh
 ok:k=true→A.heap[xk]?=some (.map #[] 0)∧W.heap.size≤xk
 th:t=true→h=true→xt≠xh
 tk:t=true→k=true→xt≠xk
 hk:h=true→k=true→xh≠xk
theorem Four.drew{W A:World}{c t h k:Bool}{xc xt xh xk:Nat}(q:Four W A c t h k xc xt xh xk):Four W A.drew c t h k xc xt xh xk:=⟨q.chg.drew,q.oc,q.ot,q.oh,q.ok,q.th,q.tk,q.hk⟩
theorem Four.begin(W:World):Four W W false false false false 0 0 0 0:=⟨Chg.refl _ _,by simp,by simp,by simp,by simp,by simp,by simp,by simp⟩
section
variable {W A:World}{c t h k:Bool}{xc xt xh xk:Nat}
theorem Four.addC(q:Four W A false t h k xc xt xh xk):Four W (A.alloc (.chan 0 #[] false 0 0 false)) true t h k A.heap.size xt xh xk:=
 ⟨q.chg.alloc _,fun _=>⟨aA A _,q.chg.size⟩,fun e=>⟨cX _ (q.ot e).1,(q.ot e).2⟩,fun e=>⟨cX _ (q.oh e).1,(q.oh e).2⟩,fun e=>⟨cX _ (q.ok e).1,(q.ok e).2⟩,q.th,q.tk,q.hk⟩
theorem Four.addT(q:Four W A c false h k xc xt xh xk):Four W (A.alloc (.map #[] 0)) c true h k xc A.heap.size xh xk:=
 ⟨q.chg.alloc _,fun e=>⟨cX _ (q.oc e).1,(q.oc e).2⟩,fun _=>⟨aA A _,q.chg.size⟩,fun e=>⟨cX _ (q.oh e).1,(q.oh e).2⟩,fun e=>⟨cX _ (q.ok e).1,(q.ok e).2⟩,fun _ e=>by have:=cW (q.oh e).1;omega,fun _ e=>by have:=cW (q.ok e).1;omega,q.hk⟩
theorem Four.addH(q:Four W A c t false k xc xt xh xk):Four W (A.alloc (.map #[] 0)) c t true k xc xt A.heap.size xk:=
 ⟨q.chg.alloc _,fun e=>⟨cX _ (q.oc e).1,(q.oc e).2⟩,fun e=>⟨cX _ (q.ot e).1,(q.ot e).2⟩,fun _=>⟨aA A _,q.chg.size⟩,fun e=>⟨cX _ (q.ok e).1,(q.ok e).2⟩,fun e _=>by have:=cW (q.ot e).1;omega,q.tk,fun _ e=>by have:=cW (q.ok e).1;omega⟩
theorem Four.addK(q:Four W A c t h false xc xt xh xk):Four W (A.alloc (.map #[] 0)) c t h true xc xt xh A.heap.size:=
 ⟨q.chg.alloc _,fun e=>⟨cX _ (q.oc e).1,(q.oc e).2⟩,fun e=>⟨cX _ (q.ot e).1,(q.ot e).2⟩,fun e=>⟨cX _ (q.oh e).1,(q.oh e).2⟩,fun _=>⟨aA A _,q.chg.size⟩,q.th,fun e _=>by have:=cW (q.ot e).1;omega,fun e _=>by have:=cW (q.oh e).1;omega⟩
end
theorem aGn{W A:World}{ch tk hd wt:Nat}(q:Four W A true true true true ch tk hd wt)(f:Cf)(num:Int)(g:Nat):
 ClAt (A.alloc (.cells (clL f (wC num) ch tk hd wt g (.pointer none)).toArray 150)) (fun q=>W.heap.size≤q∧q<A.heap.size+1) A.heap.size g f (wC num) ch tk hd wt (.pointer none):=by
 have k:∀{x:Nat} {o:Obj},A.heap[x]?=some o→(A.alloc (.cells (clL f (wC num) ch tk hd wt g (.pointer none)).toArray 150)).heap[x]?=some o:=fun hx=>cX _ hx;have l:∀{x:Nat} {o:Obj},A.heap[x]?=some o→x<A.heap.size+1:=fun hx=>by have:=cW hx;omega
 have m:=q.chg.size;obtain⟨d,e⟩:=q.oc rfl;obtain⟨b,h⟩:=q.ot rfl;obtain⟨c,j⟩:=q.oh rfl;obtain⟨a,i⟩:=q.ok rfl;refine⟨aA A _,⟨m,by omega⟩,k d,⟨e,l d⟩,⟨⟨_,_,⟨[],0,k b,by simp,rfl,fun _=>rfl⟩,fun _=>rfl⟩,⟨_,_,⟨[],0,k c,by simp,rfl,fun _=>rfl⟩,fun _=>rfl⟩,⟨_,_,⟨[],0,k a,by simp,rfl,fun _=>rfl⟩,fun _=>rfl⟩,q.th rfl rfl,q.tk rfl rfl,q.hk rfl rfl,⟨h,l b⟩,⟨j,l c⟩,⟨i,l a⟩⟩,rfl,fun x hx=>by have:=hx.2;simp;omega⟩
theorem aF1(W:World)(f:Cf)(num:Int)(g:Nat):
 Calls prog 78 #[cgV f,.int .i64 num,vL g] W fun r W'=>∃b ch tk hd wt,r= .returned (.pointer (some ⟨b,0,none⟩))∧ClAt W' (fun q=>W.heap.size≤q∧q<W'.heap.size) b g f (wC num) ch tk hd wt (.pointer none)∧Chg NoS W W':=by
 have E:=aA W (.cells #[.int .i64 f.f,.int .i64 f.clients,.int .i64 f.patience,.int .i64 f.tries,.int .i64 f.drift,.int .i64 f.compact,.int .i64 f.room] 30);have B:Chg NoS W (W.alloc (.cells #[.int .i64 f.f,.int .i64 f.clients,.int .i64 f.patience,.int .i64 f.tries,.int .i64 f.drift,.int .i64 f.compact,.int .i64 f.room] 30)):=(Chg.refl _ _).alloc _;go_enter func78,ntmps78;go_wp2_with fail;generalize W.alloc (.cells #[.int .i64 f.f,.int .i64 f.clients,.int .i64 f.patience,.int .i64 f.tries,.int .i64 f.drift,.int .i64 f.compact,.int .i64 f.room] 30)=W0 at*;refine nX [(1,0),(0,1),(0,3)] 7 (fun x=>∀j y,(cgL f)[j]?=some y→x.cell? ((⟨W.heap.size,0,none⟩:Addr).add j)=some y) (by kernel_rfl) (by kernel_rfl) (fun _ _ d _ _ h=>by cases d<;>exact h) ?_ ?_
 ·exact cF (W:=W0.drew) E
 simp only[iY,cA,bZ];refine cM (v:=cgV f) rfl (fun x hx=>cG 30 _ rfl ⟨W.heap.size,0,none⟩ rfl (cgL f) _ hx underlying30 rfl (by kernel_rfl)) ?_;refine kA (v:=?_) rfl ?_ ?_;rotate_left 1;(·(intro x;go_simp;with_reducible rfl));refine kA (v:=?_) rfl ?_ ?_;rotate_left 1;(·(intro x;go_simp;with_reducible rfl));refine cD ?_;(try simp only[pA]);have u:Hid (∀x,Chg NoS W0 x→∀j y,(cgL f)[j]?=some y→x.cell? ((⟨W.heap.size,0,none⟩:Addr).add j)=some y):=fun x hx=>cF (hx.kept E (fun h=>h));have D:=cB B;clear E B;obtain⟨I,i⟩:∃I:Nat→Array Bool→Act→World→Prop,Hid (∀n s a w,I n s a w↔∃(c t h k:Bool) (l o m p:Nat),n=(!c).toNat+(!t).toNat+(!h).toNat+(!k).toNat∧s=#[true,true,c,true,t,h,k,false,false,false]∧
  a={tmps:=#[cgV f,.int .i64 num,vL g,.pointer (some ⟨W.heap.size,0,none⟩),undef,undef,.pointer none,cgV f,.int .i64 num,cond c (.chan (some l)) undef,vL g,cond t (.map (some o)) undef,cond h (.map (some m)) undef,cond k (.map (some p)) undef,undef,undef],defers:=[]}∧Four W0 w c t h k l o m p):=⟨_,fun _ _ _ _=>Iff.rfl⟩
 refine zV 3 I ?_ ?_ ?_ 4 _ _ _ ?_
 ·intro n s a w A;obtain⟨c,t,h,k,l,o,m,p,e,rfl,rfl,q⟩:=(i.out _ _ _ _).1 A;exact u.out w q.chg
 ·intro s a w A;obtain⟨c,t,h,k,l,o,m,p,e,rfl,rfl,q⟩:=(i.out _ _ _ _).1 A;clear A;obtain⟨rfl,rfl,rfl,rfl⟩:c=true∧t=true∧h=true∧k=true:=by cases c<;>cases t<;>cases h<;>cases k<;>first|exact⟨rfl,rfl,rfl,rfl⟩|exact absurd e (by decide)
  simp only[cond_true];have Q:=cB q;clear q e;refine cY [7] (by kernel_rfl) (by simp) (aB.2 ⟨?_,by simp⟩);intro C z;refine cR rfl rfl ?_;go_simp;refine z _ _ (u.out _ Q.out.chg) ?_;clear z C;(try simp only[pA]);refine cY [8] (by kernel_rfl) (by simp) (aB.2 ⟨?_,by simp⟩);intro C z;refine cR rfl rfl ?_;go_simp;refine z _ _ (u.out _ (Q.out.chg.alloc _)) ?_;clear z C;(try simp only[pA]);refine cY [9] (by kernel_rfl) (by simp) (aB.2 ⟨?_,by simp⟩);intro C z;refine cR rfl rfl ?_;go_simp;refine z _ _ (u.out _ (Q.out.chg.alloc _)) ?_;clear z C;(try simp only[pA]);refine oO (by kernel_rfl) ?_;go_wp2_with fail;go_ret;have F:=aGn Q.out f num g;refine⟨w.heap.size,l,o,m,p,rfl,?_,(D.out.trans (S:=NoS) Q.out.chg (fun _ _ h=>h)).alloc _⟩;have G:=D.out.size;have:=ClAt.grow F (F':=fun q=>W.heap.size≤q∧q<(w.alloc (.cells (clL f (wC num) l o m p g (.pointer none)).toArray 150)).heap.size) (fun q hq=>⟨by omega,by simp;omega⟩) (fun q hq=>hq.2);exact this
 ·intro n s a w A;obtain⟨c,t,h,k,l,o,m,p,e,rfl,rfl,q⟩:=(i.out _ _ _ _).1 A;have Q:=cB q;clear q A;cases c<;>cases t<;>cases h<;>cases k
  ·refine⟨[2,4,5,6],by kernel_rfl,by simp,?_⟩;simp only[cond_true,cond_false];refine aB.2 ⟨?_,aB.2 ⟨?_,aB.2 ⟨?_,aB.2 ⟨?_,by simp⟩⟩⟩⟩
   ·refine cR rfl rfl ?_;go_simp;rw[iM];go_simp;exact(i.out _ _ _ _).2 ⟨true,false,false,false,w.heap.size,o,m,p,aX e,rfl,rfl,Q.out.addC⟩
   ·refine cR rfl rfl ?_;go_simp;exact(i.out _ _ _ _).2 ⟨false,true,false,false,l,w.heap.size,m,p,aX e,rfl,rfl,Q.out.addT⟩
   ·refine cR rfl rfl ?_;go_simp;exact(i.out _ _ _ _).2 ⟨false,false,true,false,l,o,w.heap.size,p,aX e,rfl,rfl,Q.out.addH⟩
   ·refine cR rfl rfl ?_;go_simp;exact(i.out _ _ _ _).2 ⟨false,false,false,true,l,o,m,w.heap.size,aX e,rfl,rfl,Q.out.addK⟩
  ·refine⟨[2,4,5],by kernel_rfl,by simp,?_⟩;simp only[cond_true,cond_false];refine aB.2 ⟨?_,aB.2 ⟨?_,aB.2 ⟨?_,by simp⟩⟩⟩
   ·refine cR rfl rfl ?_;go_simp;rw[iM];go_simp;exact(i.out _ _ _ _).2 ⟨true,false,false,true,w.heap.size,o,m,p,aX e,rfl,rfl,Q.out.addC⟩
   ·refine cR rfl rfl ?_;go_simp;exact(i.out _ _ _ _).2 ⟨false,true,false,true,l,w.heap.size,m,p,aX e,rfl,rfl,Q.out.addT⟩
   ·refine cR rfl rfl ?_;go_simp;exact(i.out _ _ _ _).2 ⟨false,false,true,true,l,o,w.heap.size,p,aX e,rfl,rfl,Q.out.addH⟩
  ·refine⟨[2,4,6],by kernel_rfl,by simp,?_⟩;simp only[cond_true,cond_false];refine aB.2 ⟨?_,aB.2 ⟨?_,aB.2 ⟨?_,by simp⟩⟩⟩
   ·refine cR rfl rfl ?_;go_simp;rw[iM];go_simp;exact(i.out _ _ _ _).2 ⟨true,false,true,false,w.heap.size,o,m,p,aX e,rfl,rfl,Q.out.addC⟩
   ·refine cR rfl rfl ?_;go_simp;exact(i.out _ _ _ _).2 ⟨false,true,true,false,l,w.heap.size,m,p,aX e,rfl,rfl,Q.out.addT⟩
   ·refine cR rfl rfl ?_;go_simp;exact(i.out _ _ _ _).2 ⟨false,false,true,true,l,o,m,w.heap.size,aX e,rfl,rfl,Q.out.addK⟩
  ·refine⟨[2,4],by kernel_rfl,by simp,?_⟩;simp only[cond_true,cond_false];refine aB.2 ⟨?_,aB.2 ⟨?_,by simp⟩⟩
   ·refine cR rfl rfl ?_;go_simp;rw[iM];go_simp;exact(i.out _ _ _ _).2 ⟨true,false,true,true,w.heap.size,o,m,p,aX e,rfl,rfl,Q.out.addC⟩
   ·refine cR rfl rfl ?_;go_simp;exact(i.out _ _ _ _).2 ⟨false,true,true,true,l,w.heap.size,m,p,aX e,rfl,rfl,Q.out.addT⟩
  ·refine⟨[2,5,6],by kernel_rfl,by simp,?_⟩;simp only[cond_true,cond_false];refine aB.2 ⟨?_,aB.2 ⟨?_,aB.2 ⟨?_,by simp⟩⟩⟩
   ·refine cR rfl rfl ?_;go_simp;rw[iM];go_simp;exact(i.out _ _ _ _).2 ⟨true,true,false,false,w.heap.size,o,m,p,aX e,rfl,rfl,Q.out.addC⟩
   ·refine cR rfl rfl ?_;go_simp;exact(i.out _ _ _ _).2 ⟨false,true,true,false,l,o,w.heap.size,p,aX e,rfl,rfl,Q.out.addH⟩
   ·refine cR rfl rfl ?_;go_simp;exact(i.out _ _ _ _).2 ⟨false,true,false,true,l,o,m,w.heap.size,aX e,rfl,rfl,Q.out.addK⟩
  ·refine⟨[2,5],by kernel_rfl,by simp,?_⟩;simp only[cond_true,cond_false];refine aB.2 ⟨?_,aB.2 ⟨?_,by simp⟩⟩
   ·refine cR rfl rfl ?_;go_simp;rw[iM];go_simp;exact(i.out _ _ _ _).2 ⟨true,true,false,true,w.heap.size,o,m,p,aX e,rfl,rfl,Q.out.addC⟩
   ·refine cR rfl rfl ?_;go_simp;exact(i.out _ _ _ _).2 ⟨false,true,true,true,l,o,w.heap.size,p,aX e,rfl,rfl,Q.out.addH⟩
  ·refine⟨[2,6],by kernel_rfl,by simp,?_⟩;simp only[cond_true,cond_false];refine aB.2 ⟨?_,aB.2 ⟨?_,by simp⟩⟩
   ·refine cR rfl rfl ?_;go_simp;rw[iM];go_simp;exact(i.out _ _ _ _).2 ⟨true,true,true,false,w.heap.size,o,m,p,aX e,rfl,rfl,Q.out.addC⟩
   ·refine cR rfl rfl ?_;go_simp;exact(i.out _ _ _ _).2 ⟨false,true,true,true,l,o,m,w.heap.size,aX e,rfl,rfl,Q.out.addK⟩
  ·refine⟨[2],by kernel_rfl,by simp,?_⟩;simp only[cond_true,cond_false];refine aB.2 ⟨?_,by simp⟩
   ·refine cR rfl rfl ?_;go_simp;rw[iM];go_simp;exact(i.out _ _ _ _).2 ⟨true,true,true,true,w.heap.size,o,m,p,aX e,rfl,rfl,Q.out.addC⟩
  ·refine⟨[4,5,6],by kernel_rfl,by simp,?_⟩;simp only[cond_true,cond_false];refine aB.2 ⟨?_,aB.2 ⟨?_,aB.2 ⟨?_,by simp⟩⟩⟩
   ·refine cR rfl rfl ?_;go_simp;exact(i.out _ _ _ _).2 ⟨true,true,false,false,l,w.heap.size,m,p,aX e,rfl,rfl,Q.out.addT⟩
   ·refine cR rfl rfl ?_;go_simp;exact(i.out _ _ _ _).2 ⟨true,false,true,false,l,o,w.heap.size,p,aX e,rfl,rfl,Q.out.addH⟩
   ·refine cR rfl rfl ?_;go_simp;exact(i.out _ _ _ _).2 ⟨true,false,false,true,l,o,m,w.heap.size,aX e,rfl,rfl,Q.out.addK⟩
  ·refine⟨[4,5],by kernel_rfl,by simp,?_⟩;simp only[cond_true,cond_false];refine aB.2 ⟨?_,aB.2 ⟨?_,by simp⟩⟩
   ·refine cR rfl rfl ?_;go_simp;exact(i.out _ _ _ _).2 ⟨true,true,false,true,l,w.heap.size,m,p,aX e,rfl,rfl,Q.out.addT⟩
   ·refine cR rfl rfl ?_;go_simp;exact(i.out _ _ _ _).2 ⟨true,false,true,true,l,o,w.heap.size,p,aX e,rfl,rfl,Q.out.addH⟩
  ·refine⟨[4,6],by kernel_rfl,by simp,?_⟩;simp only[cond_true,cond_false];refine aB.2 ⟨?_,aB.2 ⟨?_,by simp⟩⟩
   ·refine cR rfl rfl ?_;go_simp;exact(i.out _ _ _ _).2 ⟨true,true,true,false,l,w.heap.size,m,p,aX e,rfl,rfl,Q.out.addT⟩
   ·refine cR rfl rfl ?_;go_simp;exact(i.out _ _ _ _).2 ⟨true,false,true,true,l,o,m,w.heap.size,aX e,rfl,rfl,Q.out.addK⟩
  ·refine⟨[4],by kernel_rfl,by simp,?_⟩;simp only[cond_true,cond_false];refine aB.2 ⟨?_,by simp⟩
   ·refine cR rfl rfl ?_;go_simp;exact(i.out _ _ _ _).2 ⟨true,true,true,true,l,w.heap.size,m,p,aX e,rfl,rfl,Q.out.addT⟩
  ·refine⟨[5,6],by kernel_rfl,by simp,?_⟩;simp only[cond_true,cond_false];refine aB.2 ⟨?_,aB.2 ⟨?_,by simp⟩⟩
   ·refine cR rfl rfl ?_;go_simp;exact(i.out _ _ _ _).2 ⟨true,true,true,false,l,o,w.heap.size,p,aX e,rfl,rfl,Q.out.addH⟩
   ·refine cR rfl rfl ?_;go_simp;exact(i.out _ _ _ _).2 ⟨true,true,false,true,l,o,m,w.heap.size,aX e,rfl,rfl,Q.out.addK⟩
  ·refine⟨[5],by kernel_rfl,by simp,?_⟩;simp only[cond_true,cond_false];refine aB.2 ⟨?_,by simp⟩
   ·refine cR rfl rfl ?_;go_simp;exact(i.out _ _ _ _).2 ⟨true,true,true,true,l,o,w.heap.size,p,aX e,rfl,rfl,Q.out.addH⟩
  ·refine⟨[6],by kernel_rfl,by simp,?_⟩;simp only[cond_true,cond_false];refine aB.2 ⟨?_,by simp⟩
   ·refine cR rfl rfl ?_;go_simp;exact(i.out _ _ _ _).2 ⟨true,true,true,true,l,o,m,w.heap.size,aX e,rfl,rfl,Q.out.addK⟩
  ·cases e
 ·exact(i.out _ _ _ _).2 ⟨false,false,false,false,0,0,0,0,rfl,rfl,rfl,(Four.begin W0).drew⟩
structure FlW(W:World)(b:Nat)(own:Nat→Nat)(g:Nat)(c:Cf)(x:Mo)(a:Int→Int→Int)(d:Int→Bool):Prop where
 fl:FlB W b c g a d
 mo:Moor W own g x
 ob:own b=0
def FlTo(W:World)(b:Nat)(own:Nat→Nat)(g:Nat)(c:Cf)(x:Mo)(a:Int→Int→Int)(d:Int→Bool)(W':World):Prop:=∃own',FlW W' b own' g c x a d∧Chg (fun k=>k=b∨own k≠0) W W'∧∀k,own' k≠0→own k≠0∨W.heap.size≤k
section
variable {W W':World}{b:Nat}{own:Nat→Nat}{g:Nat}{c:Cf}{x x':Mo}{a a':Int→Int→Int}{d d':Int→Bool}
theorem FlW.go(h:FlW W b own g c x a d)(hm:MoTo W own g x' W'):FlTo W b own g c x' a d W':=by
 obtain⟨f,m,j,l⟩:=hm;have i:=h.fl.lt;refine⟨f,⟨h.fl.of_heap (j.block b i (fun e=>e h.ob)),m,?_⟩,j.mono (fun k _ hk=>Or.inr hk),l⟩;refine aH fun hn=>?_;rcases l b hn with e|e
 ·exact e h.ob
 ·omega
theorem FlTo.of(h:FlW W b own g c x a d):FlTo W b own g c x a d W:=⟨own,h,Chg.refl _ _,fun _ h=>Or.inl h⟩
theorem FlTo.fleet(h:FlTo W b own g c x a d W'){W'':World}(hb:FlB W'' b c g a' d')(hc:Chg (fun k=>k=b) W' W''):FlTo W b own g c x a' d' W'':=by
 obtain⟨f,i,j,l⟩:=h;exact⟨f,⟨hb,i.mo.kept hc (fun k hk e=>by subst e;exact hk i.ob),i.ob⟩,j.trans hc (fun k _ e=>Or.inl e),l⟩
end
def kF(c:Cf)(a:Int→Int→Int)(d:Int→Bool)(i:Int)(n:Nat):Bool:=(List.range n).any fun (k:Nat)=>decide ((k:Int)≠i)&& !(d k)&&decide (20<a k i+10)
theorem aC2(c:Cf)(a:Int→Int→Int)(d:Int→Bool)(i:Int)(n:Nat):kF c a d i (n+1)=(kF c a d i n||(decide ((n:Int)≠i)&& !(d n)&&decide (20<a n i+10))):=by
 unfold kF;rw[List.range_succ,List.any_append];simp
def jP(c:Cf)(a:Int→Int→Int)(i n:Int):Int→Int→Int:=fun p q=>if p<n∧p≠i∧q=i then a p i+10 else if p=i∧q<n∧q≠i then max 0 (a i q-(10+c.drift))else a p q
def nT(c:Cf)(x:Mo)(a:Int→Int→Int)(d:Int→Bool)(i:Int):Mo:=if kF c a d i c.clients.toNat=true then x else kG x i
def oP(c:Cf)(x:Mo)(a:Int→Int→Int)(d:Int→Bool)(i:Int):Int→Int→Int:=if kF c a d i c.clients.toNat=true then a else if nY x i≠0 then a else jP c a i c.clients
theorem aDm(a:Int→Int→Int)(k i u v:Int)(p q:Int):uR (uR a k i u) k i v p q=uR a k i v p q:=by
 unfold uR;split<;>rfl
theorem aAS(c:Cf)(a:Int→Int→Int)(m i:Int)(hmi:m≠i){v:Int}(hv:v=max 0 (a i m-(10+c.drift)))(p q:Int):uR (uR (jP c a i m) m i (a m i+10)) i m v p q=jP c a i (m+1) p q:=by
 subst hv;unfold uR jP;by_cases b:p=m<;>by_cases d:q=i<;>by_cases f:p=i<;>by_cases e:q=m<;>(try subst b)<;>(try subst d)<;>(try subst f)<;>(try subst e)<;>(repeat' split)<;>first|rfl|omega
theorem aFz(W:World)(b:Nat)(own:Nat→Nat)(g:Nat)(c:Cf)(x:Mo)(a:Int→Int→Int)(d:Int→Bool)(N:Int)(h:FlW W b own g c x a d)(hok:MoOk N x)(hN:N≤90000000000)(hc1:1≤c.clients)(hc4:c.clients≤4)(hd0:0≤c.drift)(hd1:c.drift≤10)
 (hab:∀p q,0≤a p q∧a p q≤1000000000000) (i:Nat) (hi:i<4):
 Calls prog 38 #[.pointer (some ⟨b,0,none⟩),.int .i64 (i:Int)] W fun r W'=>r= .returned (.tuple #[])∧FlTo W b own g c (nT c x a d i) (oP c x a d i) d W':=by
 have z:=cB hi;have HT:=cB (aF8 W own g x N i h.mo hok hN);have H:=cB h;have c3:decide ((i:Int)<0)=false:=by simp
 have c2:decide ((4:Int)≤(i:Int))=false:=by simp;omega
 have b6:(i:Int)<4:=by omega
 have V:W.cell? ⟨b,1,none⟩=some (.int .i64 c.clients):=cC h.fl 1 _ rfl;have c7:W.cell? ⟨b,7,none⟩=some (.pointer (some ⟨g,0,none⟩)):=cC h.fl 7 _ rfl;obtain⟨M,Q⟩:∃n:Nat,c.clients=n:=⟨c.clients.toNat,by omega⟩;have o:=cB Q;rw[Q]at V;clear hok;go_enter func38,ntmps38;go_wp2_with fail;go_loopw [4] (fun k wr=>∃n:Nat,n≤M∧k= .int .i64 n∧W=wr∧Hid (kF c a d i n=false)) (fun k _=>M-(intOf k).toNat)
 case atStart=>exact⟨0,aI _,rfl,rfl,rfl⟩
 case round=>
  obtain⟨n,hn,rfl,rfl,O⟩:=hrel;by_cases a2:n<M
  ·have G:(n:Int)<(M:Int):=by omega
   have E:n<4:=by omega
   have a6:decide ((n:Int)<0)=false:=by simp
   have a0:decide ((4:Int)≤(n:Int))=false:=by simp;omega
   have ca:=H.out.fl.ah E z.out;have cd:=H.out.fl.dn E;have b7:=hab n i;have b5:IntKind.i64.wrap (a n i+10)=a n i+10:=dZ (by omega) (by omega);have F:=cB (aC2 c a d i n);by_cases f:(n:Int)=(i:Int)
   ·have b1:((n:Int) !=(i:Int))=false:=by simp[f]
    have A:=cB f;clear f;go_wp2_with fail;go_roundw
    case rel=>exact⟨n+1,by omega,by go_num,trivial,by show kF c a d i (n+1)=false;rw[F.out,O.out];simp[A.out]⟩
    case measure=>simp[intOf]<;>omega
   ·have b1:((n:Int) !=(i:Int))=true:=by simp[f]
    have A:=cB f;clear f;cases hdn:d n with
    |true=>
     rw[hdn]at cd;go_wp2_with fail;go_roundw
     case rel=>exact⟨n+1,by omega,by go_num,trivial,by show kF c a d i (n+1)=false;rw[F.out,O.out,hdn];simp⟩
     case measure=>simp[intOf]<;>omega
    |false=>
     rw[hdn]at cd;by_cases L:20<a n i+10
     ·have b2:decide (20<a n i+10)=true:=by simp[L]
      have y:Hid (kF c a d i c.clients.toNat=true):=by
       show kF c a d i c.clients.toNat=true;unfold kF;rw[List.any_eq_true];refine⟨n,List.mem_range.2 (by rw[o.out];omega),?_⟩;simp[A.out,hdn,L]
      clear L;go_wp2_with fail
      (first|go_end0|((try simp only[Exit.inBlock,Exit.then]);refine bodyPost_ret (results_none rfl _ _ _) rfl ?_))
      unfold nT oP;rw[if_pos y.out,if_pos y.out];exact⟨rfl,FlTo.of H.out⟩
     ·have b2:decide (20<a n i+10)=false:=by simp[L]
      have a7:=cB L;clear L;go_wp2_with fail;go_roundw
      case rel=>exact⟨n+1,by omega,by go_num,trivial,by show kF c a d i (n+1)=false;rw[F.out,O.out];simp;intro _ _;have:=a7.out;omega⟩
      case measure=>simp[intOf]<;>omega
  ·have a9:n=M:=by omega
   subst a9;have G:¬(n:Int)<(n:Int):=by omega
   go_wp2_with (go_at_call 82;refine HT.out.mono ?_;rintro e W1 ⟨rfl,hq⟩;have U:=cB hq;clear hq;refine cE ?_);refine cB ?_;by_cases I:nY x i=0
   ·have b0:(nY x i !=0)=false:=by simp[I]
    have A:=cB I;have H2:Hid (FlTo W b own g c (kG x i) (jP c a i (0:Nat)) d W1):=(H.out.go U.out).fleet (W'':=W1) (by
     obtain⟨o',w,_⟩:=H.out.go U.out;exact w.fl.congr (fun p q p0 p1 q0 Z=>by unfold jP;rw[if_neg (by omega),if_neg (by omega)]) (fun _ _ _=>rfl)) (Chg.refl _ _)
    clear U I V c7;go_wp2_with fail;go_loopw [6] (fun k wr=>∃m:Nat,m≤n∧k= .int .i64 m∧Hid (FlTo W b own g c (kG x i) (jP c a i (m:Nat)) d wr)) (fun k _=>n-(intOf k).toNat)
    case atStart=>exact⟨0,aI _,rfl,H2⟩
    case round=>
     obtain⟨m,hm,rfl,J⟩:=hrel;obtain⟨o',t,_,_⟩:=J.out;have V:wr.cell? ⟨b,1,none⟩=some (.int .i64 c.clients):=cC t.fl 1 _ rfl;rw[o.out]at V;by_cases a2:m<n
     ·have G:(m:Int)<(n:Int):=by omega
      have E:n≤4:=by have:=o.out;omega
      have j:m<4:=by omega
      have a6:decide ((m:Int)<0)=false:=by simp
      have a0:decide ((4:Int)≤(m:Int))=false:=by simp;omega
      have b4:(m:Int)<4:=by omega
      by_cases f:(m:Int)=(i:Int)
      ·have b1:((m:Int)==(i:Int))=true:=by simp[f]
       have v:=cB f;clear f t;go_wp2_with fail;go_roundw
       case rel=>
        refine⟨m+1,by omega,by go_num,?_⟩;show FlTo W b own g c (kG x i) (jP c a i ((m+1:Nat):Int)) d wr;refine J.out.fleet (W'':=wr) ?_ (Chg.refl _ _);obtain⟨o2,t,_,_⟩:=J.out;have:=v.out;exact t.fl.congr (fun p q p0 p1 q0 Z=>by
         unfold jP
         repeat' split
         all_goals first|rfl|(exfalso;omega)) (fun _ _ _=>rfl)
       case measure=>simp[intOf]<;>omega
      ·have b1:((m:Int)==(i:Int))=false:=by simp[f]
       have v1:jP c a i (m:Nat) (m:Nat) i=a m i:=by unfold jP;rw[if_neg (by omega),if_neg (by omega)]
       have v2:jP c a i (m:Nat) i (m:Nat)=a i m:=by unfold jP;rw[if_neg (by omega),if_neg (by omega)]
       have Z:=hab m i;have q2:=hab i m;have ca:=t.fl.ah j z.out;rw[v1]at ca;have b9:IntKind.i64.wrap (a m i+10)=a m i+10:=dZ (by omega) (by omega);have b8:IntKind.i64.wrap (10+c.drift)=10+c.drift:=dZ (by omega) (by omega);have c0:IntKind.i64.wrap (a i m-(10+c.drift))=a i m-(10+c.drift):=dZ (by omega) (by omega);obtain⟨X,hX⟩:=t.fl.open_;have f1:=cV hX (8+m*4+i);have w:=t.fl.setA j z.out (a m i+10);have hc1:Chg (fun k=>k=b) wr (wr.setCell ⟨b,8+m*4+i,none⟩ (.int .i64 (a m i+10))):=(Chg.refl _ _).setCell _ _ (fun _=>rfl);generalize S:wr.setCell ⟨b,8+m*4+i,none⟩ (.int .i64 (a m i+10))=W2 at w hc1;have l:=cB S;obtain⟨X2,a3⟩:=w.open_;have f2:=cV a3 (8+i*4+m);have a5:=w.ah z.out j;have v3:uR (jP c a i (m:Nat)) (m:Nat) i (a m i+10) i (m:Nat)=a i m:=by unfold uR;rw[if_neg (fun e=>f e.2),v2]
       rw[v3]at a5;have c4:W2.cell? ⟨b,4,none⟩=some (.int .i64 c.drift):=cC w 4 _ rfl;have K:=w.setA z.out j (a i m-(10+c.drift));have u:=hc1.setCell ⟨b,8+i*4+m,none⟩ (.int .i64 (a i m-(10+c.drift))) (fun _=>rfl);generalize T:W2.setCell ⟨b,8+i*4+m,none⟩ (.int .i64 (a i m-(10+c.drift)))=W3 at K u;have s:=cB T;obtain⟨X3,a8⟩:=K.open_;have f3:=cV a8 (8+i*4+m);have a1:=K.ah z.out j;have v4:uR (uR (jP c a i (m:Nat)) (m:Nat) i (a m i+10)) i (m:Nat) (a i m-(10+c.drift)) i (m:Nat)=a i m-(10+c.drift):=by unfold uR;rw[if_pos ⟨rfl,rfl⟩]
       rw[v4]at a1;have h3:=K.setA z.out j 0;have C:=u.setCell ⟨b,8+i*4+m,none⟩ (.int .i64 0) (fun _=>rfl);generalize R:W3.setCell ⟨b,8+i*4+m,none⟩ (.int .i64 0)=W4 at h3 C;have B:=cB R;have Y:=cB (aJY K u h3 C);have v:=cB f;clear t w hc1 K u h3 C S T R v1 v2 v3 v4 f;by_cases P:a i m-(10+c.drift)<0
       ·have b3:decide (a i m-(10+c.drift)<0)=true:=by simp[P]
        have D:=cB P;clear P;go_wp2_with (first|rw[l.out]|rw[s.out]|rw[B.out]);refine dJ [0,0,0,0,0,0,0,0,0,0,1,0,0,0,0,0] (by kernel_rfl) (fun _ _ _ _=>rfl) ?_;simp only[cL,cK];iterate 16 (apply sB rfl rfl;·(intro x h;(try cases h rfl);go_simp;with_reducible rfl))
        refine cD ?_;try simp only[pA]
        go_wp2_with (first|rw[l.out]|rw[s.out]|rw[B.out]);refine dJ [0,0,0,0,0,0,0,0,0,0,1,0,0,0,0,1,0,0,0,0,0,0] (by kernel_rfl) (fun _ _ _ _=>rfl) ?_;simp only[cL,cK];iterate 22 (apply sB rfl rfl;·(intro x h;(try cases h rfl);go_simp;with_reducible rfl))
        refine cD ?_;try simp only[pA]
        go_wp2_with (first|rw[l.out]|rw[s.out]|rw[B.out]);go_roundw
        case rel=>
         refine⟨m+1,by omega,by go_num,?_⟩;refine J.out.fleet ((show FlB W4.drew.drew b c g _ d from Y.out.2.2.1).congr (fun p q p0 p1 q0 Z=>(aDm _ _ _ _ _ p q).trans (aAS c a m i v.out (by have:=D.out;omega) p q)) (fun _ _ _=>rfl)) Y.out.2.2.2.drew.drew
        case measure=>simp[intOf]<;>omega
       ·have b3:decide (a i m-(10+c.drift)<0)=false:=by simp;omega
        have D:=cB P;clear P;go_wp2_with (first|rw[l.out]|rw[s.out]);refine dJ [0,0,0,0,0,0,0,0,0,0,1,0,0,0,0,0] (by kernel_rfl) (fun _ _ _ _=>rfl) ?_;simp only[cL,cK];iterate 16 (apply sB rfl rfl;·(intro x h;(try cases h rfl);go_simp;with_reducible rfl))
        refine cD ?_;try simp only[pA]
        go_wp2_with (first|rw[l.out]|rw[s.out]);refine dJ [0,0,0,0,0,0,0,0,0,0,1,0,0,0,0,1,0,0,0,0,0,0] (by kernel_rfl) (fun _ _ _ _=>rfl) ?_;simp only[cL,cK];iterate 22 (apply sB rfl rfl;·(intro x h;(try cases h rfl);go_simp;with_reducible rfl))
        refine cD ?_;try simp only[pA]
        go_wp2_with (first|rw[l.out]|rw[s.out]);go_roundw
        case rel=>
         refine⟨m+1,by omega,by go_num,?_⟩;refine J.out.fleet ((show FlB W3.drew.drew b c g _ d from Y.out.1).congr (fun p q p0 p1 q0 Z=>aAS c a m i v.out (by have:=D.out;omega) p q) (fun _ _ _=>rfl)) Y.out.2.1.drew.drew
        case measure=>simp[intOf]<;>omega
     ·have a4:m=n:=by omega
      subst a4;have G:¬(m:Int)<(m:Int):=by omega
      clear t;go_wp2_with fail
      (first|go_end0|((try simp only[Exit.inBlock,Exit.then]);refine bodyPost_ret (results_none rfl _ _ _) rfl ?_))
      have y:kF c a d i c.clients.toNat=false:=by rw[o.out,aZ];exact O.out
      unfold nT oP;rw[if_neg (by rw[y];decide),if_neg (by rw[y];decide),if_neg (by rw[A.out];decide),o.out];exact⟨rfl,J.out⟩
   ·have b0:(nY x i !=0)=true:=by simp[I]
    have A:=cB I;clear I;go_wp2_with fail
    (first|go_end0|((try simp only[Exit.inBlock,Exit.then]);refine bodyPost_ret (results_none rfl _ _ _) rfl ?_))
    have y:kF c a d i c.clients.toNat=false:=by rw[o.out,aZ];exact O.out
    unfold nT oP;rw[if_neg (by rw[y];decide),if_neg (by rw[y];decide),if_pos A.out];exact⟨rfl,H.out.go U.out⟩
def eQ(a:Ac)(l:Int):Rw:={(dS (dU a.dk.log) l.toNat).getD zRw with lock:=l}
def mW(L:List Int)(l:Int):Rw:={(dS (dU L) l.toNat).getD zRw with lock:=l}
theorem kW(a:Ac)(l:Int):eQ a l=mW a.dk.log l:=rfl
theorem aHa{f:Cf}{i:Nat}{a:Ac}(h:AOk f i a)(hst:a.st≠2)(l:Int):rY a l=eQ a l:=by
 unfold rY eQ;rw[h.tab hst]
theorem aDL{L:List Int}(h:25*(dU L).length=L.length){r:Rw}(hr:okB r=true)(h0:0≤r.lock){l:Int}(l0:0≤l):mW (L++dR r) l=if l=r.lock then r else mW L l:=by
 unfold mW;rw[pL h hr,mL];by_cases e:l=r.lock
 ·rw[if_pos e,if_pos (by omega)];subst e
  rfl
 ·rw[if_neg e,if_neg (by omega)]
theorem aFm{L:List Int}{rs:List Rw}(hr:∀r ∈ rs,RwOk r)(ht:∀k,dS rs k=dS (dU L) k)(l:Int):mW (gU rs) l=mW L l:=by
 obtain⟨a,_,_⟩:=qA hr;unfold mW;rw[a,yZ (fun r hr'=>⟨(hr r hr').l1,(hr r hr').l2⟩),ht]
theorem aEf{m:Mg}{r:Rw}(h:nN m r=false):fA m r=r:=by
 unfold nN at h;unfold fA;by_cases a:m.bal<r.prom
 ·rw[if_pos a]
 ·rw[if_neg a]at h⊢;by_cases b:m.kind=1
  ·rw[if_pos b]at h⊢;have:r.prom=m.bal:=by
    simp only[decide_eq_false_iff_not]at h;omega
   rw[←this]
  ·rw[if_neg b]at h;cases h
theorem wS{f:Cf}{a:Ac}(hd:DOk f a.dk)(hnew:a.dk.new=none)(htab:∀k,dS a.rows k=dS (dU a.dk.log) k)(hrows:∀r ∈ a.rows,RwOk r)(l:Int):
 (((dA a).2= .none∨(dA a).2=(.some .none))→eQ (dA a).1 l=eQ a l)∧∀q,(dA a).2=(.some (.some q))→eQ (crashA (dA a).1 q) l=eQ a l:=by
 unfold dA;rcases tE hd hnew (gU a.rows)with⟨g,b,_⟩|⟨g,b,_⟩|⟨e,q,b,c,i,d⟩
 ·rw[b];refine⟨fun _=>?_,fun q c=>(by cases c)⟩;exact aFm hrows htab l
 ·rw[b];exact⟨fun _=>rfl,fun q c=>(by cases c)⟩
 ·rw[b];refine⟨fun h=>(by rcases h with h|h<;>cases h),fun q' hq'=>?_⟩;cases hq';show mW (gC e q).log l=_;rw[d]
  rfl
theorem uF(a:Ac)(h:How):(mY a h).dk=a.dk:=by
 unfold mY;split<;>rfl
section
variable {f:Cf} {i:Nat} {a:Ac}
theorem aHP(h:AOk f i a)(hst:a.st=0){m:Mg}(hm:MOk f m)(hA:m.kind=1∨m.kind=3):
 ∃e d,lG a m=e++d∧(d=[]∨d=[gD a.num])∧
  (((e=[]∨e=[fI (lB a (decMsg m (eQ a m.lock)) m)])∧∀l,0≤l→eQ (jJ a m) l=if l=m.lock then fA m (eQ a m.lock)else eQ a l)∨
   (e=[]∧∀l,0≤l→eQ (jJ a m) l=eQ a l)):=by
 have x:=aHa h (by omega) m.lock;obtain⟨H,v⟩:=aBl h m.lock hm.l1 hm.l2;unfold lG jJ;rw[if_neg (by omega),if_neg (by omega)];unfold iW;dsimp only;rw[x]at H v⊢;by_cases z:nN m (eQ a m.lock)=true
 ·rw[if_pos z];obtain⟨s,o⟩:=vV hm H;rw[v]at o;generalize N:fA m (eQ a m.lock)=R at s o⊢;have b:∀l,0≤l→mW (a.dk.log++dR R) l=if l=m.lock then R else eQ a l:=fun l l0=>by
   rw[aDL (h.full hst) s.ok s.l1 l0,o];rfl
  unfold fY;rcases zW h.dk (h.new (by omega)) (h.full hst) s with⟨y,t,F⟩|⟨y,t,F⟩|⟨G,q,t,L,K,F,p,M,C,k⟩
  ·rw[t];dsimp only;have r:=vW h hst s;unfold fY at r;rw[t]at r;have c:AOk f i {a with dk:={a.dk with fail:=y,log:=a.dk.log++dR R,lsyn:=(a.dk.log++dR R).length},rows:=a.rows++[R]}:=r;generalize n:({a with dk:={a.dk with fail:=y,log:=a.dk.log++dR R,lsyn:=(a.dk.log++dR R).length},rows:=a.rows++[R]}:Ac)=a1 at c⊢;have j:∀l,eQ a1 l=mW (a.dk.log++dR R) l:=fun l=>by rw[←n];rfl
   have I:a1.st=0:=by rw[←n];exact hst
   have J:a1.num=a.num:=by rw[←n]
   by_cases g:mJ a1=true
   ·rw[if_pos g];have u:=fun l=>wS c.dk (c.new (by omega)) (c.tab (by omega)) c.rows l;generalize dA a1=cp at u;obtain⟨A,D⟩:=cp;dsimp only at u⊢;cases D using lS with
    |fine=>
     refine⟨_,[],(aC _).symm,Or.inl rfl,Or.inl ⟨Or.inr rfl,fun l l0=>?_⟩⟩;show eQ (mY A .none) l=_;rw[kW,uF,←kW,(u l).1 (Or.inl rfl),j,b l l0]
    |full=>
     refine⟨_,[],(aC _).symm,Or.inl rfl,Or.inl ⟨Or.inr rfl,fun l l0=>?_⟩⟩;show eQ (mY A (.some .none)) l=_;rw[kW,uF,←kW,(u l).1 (Or.inr rfl),j,b l l0]
    |dies q=>
     refine⟨_,_,rfl,Or.inr rfl,Or.inl ⟨Or.inr rfl,fun l l0=>?_⟩⟩;show eQ (crashA A q) l=_;rw[(u l).2 q rfl,j,b l l0]
   ·rw[if_neg g];refine⟨_,[],(aC _).symm,Or.inl rfl,Or.inl ⟨Or.inr rfl,fun l l0=>?_⟩⟩;show eQ (mY a1 .none) l=_;rw[kW,uF,←kW,j,b l l0]
  ·rw[t];dsimp only;exact⟨[],[],rfl,Or.inl rfl,Or.inr ⟨rfl,fun l l0=>rfl⟩⟩
  ·rw[t];dsimp only;refine⟨[],[gD a.num],rfl,Or.inr rfl,?_⟩;by_cases w:p.length=25
   ·left;refine⟨Or.inl rfl,fun l l0=>?_⟩;show mW (gC G q).log l=_;have E:p=dR R:=by rw[C,w,aY (by rw[lT s.ok];omega)]
    rw[k,E,b l l0]
   ·right;refine⟨rfl,fun l l0=>?_⟩;show mW (gC G q).log l=mW a.dk.log l;unfold mW;rw[k,aAr (h.full hst) (by omega)]
 ·have B:nN m (eQ a m.lock)=false:=by simpa using z
  rw[if_neg z];refine⟨_,[],(aC _).symm,Or.inl rfl,Or.inl ⟨Or.inr rfl,fun l l0=>?_⟩⟩;show eQ (mY a .none) l=_;rw[aEf B];show eQ a l=_;split
  ·rename_i e;rw[e]
  ·rfl
theorem aHL(h:AOk f i a){n q:Int}(hq:0≤q)(l:Int):eQ (qM a n q) l=eQ a l:=by
 unfold qM;split
 ·rfl
 ·split
  ·show mW (gC a.dk q).log l=_;rw[(nE h.dk hq).2];rfl
  ·rfl
theorem aEQ(h:AOk f i a)(l:Int):eQ (gE a) l=eQ a l:=by
 by_cases o:a.st=0
 ·unfold gE;rw[if_pos o]
 ·rw[yE a o];have n:AOk f i (if a.st=1 then crashA a 0 else a)∧(if a.st=1 then crashA a 0 else a).st=2∧(if a.st=1 then crashA a 0 else a).dk.log=a.dk.log:=by
   split
   ·exact⟨pJ h.num h.comp (nE h.dk (by decide)).1,rfl,(nE h.dk (by decide)).2⟩
   ·rename_i s;have:=h.st;exact⟨h,by omega,rfl⟩
  generalize t:(if a.st=1 then crashA a 0 else a)=b at n;obtain⟨c,k,j⟩:=n;rw[kW,uF,←kW];have d:=wE (f:=f) {b with st:=0} c.dk (c.new (by omega)) (c.nofail k);unfold fF at d⊢;dsimp only at d⊢;have e:eQ a l=mW b.dk.log l:=by rw[j];rfl
  rw[e];split
  ·rename_i p;rw[if_pos p]at d;have g:=wS (f:=f) (a:={b with st:=0,rows:=dU b.dk.log}) c.dk (c.new (by omega)) (fun _=>rfl) c.dk.rows l;generalize dA {b with st:=0,rows:=dU b.dk.log}=cp at g d;obtain⟨r,m⟩:=cp;cases m using lS with
   |fine=>exact g.1 (Or.inl rfl)
   |full=>exact g.1 (Or.inr rfl)
   |dies q=>exact absurd rfl (d q)
  ·rfl
end
end Go.Proofs.YtbbdgokdfhdpiaaGreatDoor
