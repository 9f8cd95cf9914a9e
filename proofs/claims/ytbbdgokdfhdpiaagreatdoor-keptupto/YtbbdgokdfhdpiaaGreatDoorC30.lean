/- A part of the proof: KptW. -/
import Derived.Test.YtbbdgokdfhdpiaaGreatDoorC28
import Derived.Test.YtbbdgokdfhdpiaaGreatDoorC29
namespace Go.Proofs.YtbbdgokdfhdpiaaGreatDoor
set_option linter.all false
set_option maxRecDepth 100000
set_option maxHeartbeats 40000000
open Go.Proofs.Tryz Go.RowKit
section
variable {W0 wr:World}{eb:Addr}{b g:Nat}{c:Cf}{n:Nat}{x:Mo}
theorem RunAt.table(h:RunAt W0 wr eb b g c n x)(j:Int):
 Calls prog 20 #[.pointer (some ⟨g,0,none⟩),.int .i64 j] wr fun r W'=>∃p cap,r= .returned (.tuple #[.slice p (gY x j).length cap,.int .i64 (kY x j)])∧LsAt rwL 7 W' p (gY x j)∧RunAt W0 W' eb b g c n x∧Chg NoS wr W':=by
 obtain⟨own,a,d,s,e,m,q⟩:=h;refine(aBM wr own g x _ j e.kw.mo e.kw.ok).mono ?_;rintro r W' ⟨v,o,k,i⟩;obtain⟨p,cap,rfl,l,_⟩:=LsAt.of_owns (f:=rwL) (sz:=7) (fun _=>rfl) k rfl;exact⟨p,cap,o,l,RunAt.chg0 ⟨own,a,d,s,e,m,q⟩ (Chg.below' i),Chg.below' i⟩
theorem RunAt.log(h:RunAt W0 wr eb b g c n x)(j:Int):
 Calls prog 21 #[.pointer (some ⟨g,0,none⟩),.int .i64 j] wr fun r W'=>r= .returned (.tuple #[.string (strOfNums (lZ x j)),.int .i64 (aC8 x j)])∧W'=wr:=by
 obtain⟨own,a,d,s,e,f,i⟩:=h;exact aFp wr own g x _ j e.kw.mo e.kw.ok
theorem RunAt.trace(h:RunAt W0 wr eb b g c n x)(hn:n≤10000000):
 Calls prog 17 #[.pointer (some ⟨g,0,none⟩),.int .i64 0] wr fun r W'=>∃p cap,r= .returned (.slice p x.tr.length cap)∧LsAt evL 19 W' p x.tr∧RunAt W0 W' eb b g c n x∧Chg NoS wr W':=by
 obtain⟨own,a,d,s,e,l,o⟩:=h;refine(yB wr own g x _ 0 e.kw.mo e.kw.ok (by omega)).mono ?_;rintro r W' ⟨v,m,i,j⟩;rw[uZ]at i;obtain⟨p,cap,rfl,k,_⟩:=LsAt.of_owns (f:=evL) (sz:=19) (fun _=>rfl) i rfl;exact⟨p,cap,m,k,RunAt.chg0 ⟨own,a,d,s,e,l,o⟩ (Chg.below' j),Chg.below' j⟩
theorem RunAt.trl(h:RunAt W0 wr eb b g c n x)(hn:n≤10000000):x.tr.length≤100000000000:=by
 obtain⟨own,a,d,s,e,f,i⟩:=h;have:=e.kw.ok.tl;omega
theorem RunAt.acs(h:RunAt W0 wr eb b g c n x){j:Int}(h0:0≤j)(h1:j<2*c.f+1):dD j x.acs.length=true:=by
 obtain⟨own,a,d,s,e,i,k⟩:=h;rw[dC,e.kw.ok.na,e.cf];unfold fS;omega
theorem RunAt.row(h:RunAt W0 wr eb b g c n x){j:Int}(hj:dD j x.acs.length=true)(ht:kY x j=0){k:Nat}(hk:k<4):
 (gH x.tr j k x.tr.length).1≤(iY (gY x j) k).prom∧(gH x.tr j k x.tr.length).2≤(iY (gY x j) k).acc∧(iY (gY x j) k).acc≤(iY (gY x j) k).prom:=by
 obtain⟨own,a,d,s,e,f,i⟩:=h;exact aEH f e.kw.ok hj ht hk
theorem RunAt.klog(h:RunAt W0 wr eb b g c n x){j:Int}(hj:dD j x.acs.length=true)(ht:kY x j=0):aC8 x j=0∧25*(dH (lZ x j)).length=(lZ x j).length∧eH (dH (lZ x j)) 4=gY x j∧cV (strOfNums (lZ x j))=lZ x j∧(lZ x j).length≤2000:=by
 obtain⟨own,a,d,s,e,k,p⟩:=h;obtain⟨l,m,o⟩:=aEC k e.kw.ok hj ht;have i:=(e.kw.ok.ac hj).1;have q:=dE e.kw.ok.conf;have f:lZ x j=(acM x j).dk.log:=by unfold lZ;rw[if_pos hj]
 refine⟨l,m,o,oR (by rw[f];exact i.dk.by_),?_⟩;rw[f];have:=i.dk.len;omega
end
theorem aG6(y:Int): -1≤y.tmod 2∧y.tmod 2≤1:=by
 by_cases h:0≤y
 ·rw[Int.tmod_eq_emod_of_nonneg h];omega
 ·have e:y.tmod 2= -((-y).tmod 2):=by rw[Int.neg_tmod,Int.neg_neg]
  rw[e,Int.tmod_eq_emod_of_nonneg (by omega)];omega
theorem nY(b off j:Nat):(⟨b,off,none⟩:Addr).add j=⟨b,off+j,none⟩:=by unfold Addr.add;split<;>simp_all
theorem zC{x:Mo}{j:Int}(hj:dD j x.acs.length=true):kY x j=2∨kY x j=0:=by
 unfold kY;rw[if_pos hj];split
 ·exact Or.inl rfl
 ·exact Or.inr rfl
theorem aE8(W:World)(eb:Addr)(hgl:GlAt W W.heap.size eb)(p q:Option Addr)(ll lc len cap:Nat)(l:Nat→Int)(o:Nat→St)(wh:Int)(hw1: -9223372036854775808≤wh)(hw2:wh≤9223372036854775807)(hl:RawAt W p ll l)(hll:ll≤9223372036854775807)(hs:ScAt W q len o)(hlen:len≤9000000):
 Calls prog 9 #[.slice p ll lc,.slice q len cap,.int .i64 wh] W fun r W'=>r= .returned (.bool true)∧Below W.heap.size W W':=by
 have hq:∀g f,q=some ⟨g,f,none⟩→0<len→g<W.heap.size:=fun g f e h0=>by
  obtain⟨b,f',e',hb,_⟩:=hs 0 h0;rw[e]at e';cases e';exact hb
 have HC:=bY (aCk W p ll lc l hl hll);have HS:=bY hs;have HQ:=bY hq;have HG:=bY hgl;have a4:=aA5 ll l;have c6:=aFs ll l;have c4:aBb (jT ll l):=⟨a4.2.2.2.2.2.2,a4.2.2.2.2.2.1.1⟩;generalize jT ll l=c at*;have g8:=a4.1.1;have f8:=a4.1.2;have f1:=bY (fun w=>dT wh (2*c.f+1) w hw1 hw2 (by omega) (by omega));have e6:=dN (c:=wh) (n:=2*c.f+1) (by omega);generalize cI wh (2*c.f+1)=j at*;have f7:IntKind.i64.wrap (2*c.f)=2*c.f:=dW (by omega) (by omega);have g5:IntKind.i64.wrap (2*c.f+1)=2*c.f+1:=dW (by omega) (by omega);have a6:=bY (aHj c6 c4 e6);clear hs hq hgl hl a4 c6 c4 e6;go_enter func9,ntmps9;go_wp2_with (go_at_call 14;refine HC.out.mono ?_;rintro e W1 ⟨rfl,hc⟩;have e5:=bY hc;clear hc;refine cB ?_);have HM:=bY (aBP W1 W.heap.size eb (HG.out.kept e5.out (fun _ e=>e.elim)) c a6.out.1);refine bY ?_;go_wp2_with (go_at_call 13;refine HM.out.mono ?_;rintro e W2 ⟨b,own,g,rfl,h1,h2,h3,h4⟩;have HR:=bY (aDA HG.out a6.out.1 a6.out.2.1 e5.out h1 h2 h3 h4);clear h1 h2 h3 h4;refine cB ?_);have c0:=HR.out.cell0;refine bY ?_;go_wp2_with (go_at_call 19;refine(f1.out _).mono ?_;rintro e w ⟨rfl,hw⟩;rw[hw];clear hw w);clear c0;go_loopw [9] (fun i wr=>∃n:Nat,n≤len∧i= .int .i64 n∧Hid (∃x,RunAt W wr eb b g c n x)) (fun i _=>len-(intOf i).toNat)
 case atStart=>exact⟨0,aI _,rfl,_,HR.out⟩
 case round=>
  clear HR;obtain⟨n,hn,rfl,HX⟩:=hrel;by_cases d6:n<len
  ·obtain⟨x,hx⟩:=HX.out;obtain⟨sb,sf,rfl,f9,f0,e1⟩:=HS.out n d6;have f2:(n:Int)<(len:Int):=by omega
   have c2:=HQ.out sb sf rfl (by omega);obtain⟨ob,e9,eo,_,b8,d5⟩:=(HS.out.bel hx.bel (fun g' f' e=>by cases e;exact c2)) n d6;cases eo;have e7:=bY (hx.step (by omega) (o n) e1);have e4:=bY b8;have c5:=bY (aHi c2 e1);clear hx f0 b8 e1 d5 c2;go_wp2_with (first|(go_at_call 15;refine e7.out.mono ?_;rintro e W3 ⟨rfl,hy⟩;have HY:=bY hy;clear hy;refine cB ?_)|(refine cG rfl 34 _ rfl ⟨sb,sf+n*4,none⟩ rfl (stL (o n)) _ e4.out underlying34 rfl (by kernel_rfl) ?_));obtain⟨y,hy⟩:=HY.out;have V:=bY hy;obtain⟨ob,e9,eo,_,b8,d5⟩:=(HS.out.bel hy.bel (fun g' f' e=>by cases e;exact c5.out.1)) n d6;cases eo;have cz:W3.cell? ⟨sb,sf+n*4+3,none⟩=some (.int .i64 (o n).z):=by
    have:=b8 3 _ rfl;rw[nY]at this;exact this
   have hz:=c5.out.2;have g4:=hz.z1;have g0:=hz.z2;clear hy e7 e4 HX HY b8 d5 hz;generalize (o n).z=zz at*;have g6:=aG6 zz;have f5:IntKind.i64.wrap (zz.tmod 2)=zz.tmod 2:=dW (by omega) (by omega);have f6:IntKind.i64.wrap ((n:Int)+1)=(n:Int)+1:=dW (by omega) (by omega);by_cases e2:zz.tmod 2=0
   ·have b2:(zz.tmod 2 !=0)=false:=by simp[e2]
    clear e2;have a8:=a6.out.2.2;have HJ:=bY (V.out.acs a8.1 a8.2);have c7:=V.out.cell7;have a5:=bY (V.out.table j);refine bY ?_;go_wp2_with (go_at_call 20;refine a5.out.mono ?_;rintro e W4 ⟨pt,ct,rfl,t,A,B⟩;have e0:=bY t;have s:=bY A;clear t A B;refine cB ?_);clear c7 cz a5;rcases zC HJ.out with K|K
    ·rw[K];clear K;refine bY ?_;go_wp2_with fail;go_roundw
     case rel=>exact⟨n+1,by omega,by go_num,y,s.out⟩
     case measure=>simp[intOf]<;>omega
    ·obtain⟨k1,k2,k3,k4,k5⟩:=s.out.klog HJ.out K;have c3:=bY (fun (k:Nat) (hk:k<4)=>s.out.row HJ.out K hk);have c7:=s.out.cell7;have Y:=bY (s.out.log j);rw[k1]at Y;have Q:=bY (pS (strOfNums (lZ y j)) W4 (by rw[dO];omega));have b6:25*((dH (cV (strOfNums (lZ y j)))).length:Int)=((strOfNums (lZ y j)).size:Int):=by
      rw[dO,k4,←k2];omega
     rw[b6,k4,k3]at Q;have f4:(gY y j).length≤4:=by rw[←k3];exact sG _ 4
     generalize strOfNums (lZ y j)=S at*;generalize hT:gY y j=T at*;rw[K];clear k1 k2 k3 k4 k5 K hT b6;refine bY ?_;go_wp2_with (first|(go_at_call 21;refine Y.out.mono ?_;rintro e w ⟨rfl,hw⟩;rw[hw];clear hw w)|(go_at_call 22;refine Q.out.mono ?_;rintro e W5 ⟨v,rfl,hv,hb⟩;refine cB ?_));obtain⟨pr,cr,rfl,a3,_⟩:=LsAt.of_owns (f:=rwL) (sz:=7) (fun _=>rfl) hv rfl;have X:Chg NoS W4 W5:=Chg.below' hb;have d:=s.out.chg0 X;have c7:=d.cell7;have U:=bY (aHi a3 (e0.out.chg0 X));have b5:=bY (d.trace (by omega));have f3:=d.trl (by omega);clear hv hb X d a3 Q Y;refine bY ?_;go_wp2_with (go_at_call 17;refine b5.out.mono ?_;rintro e W6 ⟨d4,d7,rfl,t,A,B⟩;have F:=bY (aHj t (U.out.1.chg0 B) (U.out.2.chg0 B));have c9:=bY A;clear t A B;refine cB ?_);clear c7 b5 U;refine bY ?_;go_wp2_with fail;go_loopw [17] (fun k wr=>∃m:Nat,m≤T.length∧k= .int .i64 m∧Hid (RunAt W wr eb b g c (n+1) y∧Chg NoS W6 wr)) (fun k _=>T.length-(intOf k).toNat)
     case atStart=>exact⟨0,aI _,rfl,c9.out,Chg.refl _ _⟩
     case round=>
      obtain⟨m,hm,rfl,a⟩:=hrel;by_cases b1:m<T.length
      ·obtain⟨ga,rfl,_,P⟩:=(F.out.2.1.chg0 a.out.2) m b1;obtain⟨gb,rfl,_,Z⟩:=(F.out.2.2.chg0 a.out.2) m b1;obtain⟨r,hr⟩:=aHu (T[m]);rw[hr]at P Z;have E:(m:Int)<(T.length:Int):=by omega
       have d9:=bY (show∀i u,(rwL r)[i]?=some u→wr.drew.cell? ((⟨ga,m*7,none⟩:Addr).add i)=some u from fun i u hi=>by rw[nY];exact P i u hi);have d3:=bY (show∀i u,(rwL r)[i]?=some u→wr.drew.cell? ((⟨gb,m*7,none⟩:Addr).add i)=some u from fun i u hi=>by rw[nY];exact Z i u hi);clear P Z hr;obtain⟨r0,r1,r2,r3,r4,r5,r6⟩:=r;go_wp2_with fail;refine dR [0,0,0,1,0,0,0,1,0] (by kernel_rfl) (fun _ _ _ _=>rfl) ?_;simp only[cK,cJ];iterate 3 (apply sB rfl rfl;·(intro x h;(try cases h rfl);go_simp;with_reducible rfl))
       try simp only[pA]
       refine cH (v:=rwV ⟨r0,r1,r2,r3,r4,r5,r6⟩) rfl (fun zz hx=>cE 58 _ rfl ⟨ga,m*7,none⟩ rfl (rwL ⟨r0,r1,r2,r3,r4,r5,r6⟩) _ (by subst hx;exact d9.out) underlying58 rfl (by kernel_rfl)) ?_;(try simp only[pA]);iterate 3 (apply sB rfl rfl;·(intro x h;(try cases h rfl);go_simp;with_reducible rfl))
       try simp only[pA]
       refine cH (v:=rwV ⟨r0,r1,r2,r3,r4,r5,r6⟩) rfl (fun zz hx=>cE 58 _ rfl ⟨gb,m*7,none⟩ rfl (rwL ⟨r0,r1,r2,r3,r4,r5,r6⟩) _ (by subst hx;exact d3.out) underlying58 rfl (by kernel_rfl)) ?_;(try simp only[pA]);iterate 1 (apply sB rfl rfl;·(intro x h;(try cases h rfl);go_simp;with_reducible rfl))
       refine cA ?_;try simp only[pA]
       go_wp2_with fail;go_roundw
       case rel=>exact⟨m+1,by omega,by go_num,a.out.1.chg0 ((Chg.refl _ _).drew),a.out.2.drew⟩
       case measure=>simp[intOf]<;>omega
      ·have E:¬(m:Int)<(T.length:Int):=by omega
       go_wp2_with fail;go_loopw [18] (fun k wr=>∃m:Nat,m≤4∧k= .int .i64 m∧Hid (RunAt W wr eb b g c (n+1) y∧Chg NoS W6 wr)) (fun k _=>4-(intOf k).toNat)
       case atStart=>exact⟨0,by decide,rfl,a⟩
       case round=>
        clear a E;obtain⟨m,hm,rfl,a⟩:=hrel;by_cases d0:m<4
        ·have E:(m:Int)<4:=by omega
         have a9:=bY (zO wr d4 d7 y.tr j m (F.out.1.chg0 a.out.2) (by omega));have I:=c3.out m d0;generalize gH y.tr j m y.tr.length=lp at*;obtain⟨d8,e3⟩:=lp;dsimp only at I;go_wp2_with (go_at_call 23;refine a9.out.mono ?_;rintro e W7 ⟨rfl,hq⟩;have N:=bY hq;clear hq;refine cB ?_);have L:=a.out.2.trans N.out (fun _ _ z=>z);have b4:=bY (zB W7 pt ct T m (F.out.2.2.chg0 L) (by omega));have a0:=bY L;generalize iY T m=R at*;clear L a9;refine bY ?_;go_wp2_with (go_at_call 24;refine b4.out.mono ?_;rintro e H ⟨rfl,hq⟩;have D:=bY hq;clear hq;refine cB ?_);have M:=aA H (.cells #[.int .i64 0,.int .i64 0,.int .i64 0,.int .i64 0,.int .i64 0,.int .i64 0,.int .i64 0] 58);have O:Chg NoS H (H.alloc (.cells #[.int .i64 0,.int .i64 0,.int .i64 0,.int .i64 0,.int .i64 0,.int .i64 0,.int .i64 0] 58)):=(Chg.refl _ _).alloc _;generalize a2:H.alloc (.cells #[.int .i64 0,.int .i64 0,.int .i64 0,.int .i64 0,.int .i64 0,.int .i64 0,.int .i64 0] 58)=W9 at M O;have b7:=bY a2;have a7:Hid (W9.heap[H.heap.size]?=some (.cells (rwL zRw).toArray 58 (0,0))):=M;have a1:=bY O;clear M O a2 b4;refine bY ?_;go_wp2_with (first|rw[b7.out]|(refine cD rfl 58 _ _ rfl H.heap.size 0 58 _ _ (rwL R) rfl rfl a7.out (by kernel_rfl) (by simp[Value.oneCell']) (by simp) rfl ?_;intro G b0 c8 b9;have J:=bY b0;have C:=bY b9;clear b0 c8 b9;refine cB ?_));have b3:Chg NoS W6 G:=((a0.out.trans D.out (fun _ _ z=>z)).trans a1.out (fun _ _ z=>z)).fresh J.out (by have:=a0.out.size;have:=D.out.size;omega)
         have c1:Chg NoS wr G:=(((N.out.trans D.out (fun _ _ z=>z))).trans a1.out (fun _ _ z=>z)).fresh J.out (by have:=N.out.size;have:=D.out.size;omega);have HN:=bY (aHi (a.out.1.chg0 c1) b3);have d1:G.cell? ⟨H.heap.size,1,none⟩=some (.int .i64 R.prom):=bZ C.out 1 _ rfl;have d2:G.cell? ⟨H.heap.size,2,none⟩=some (.int .i64 R.acc):=bZ C.out 2 _ rfl;have g1:decide (R.prom<d8)=false:=by simp;omega
         have g2:decide (R.acc<e3)=false:=by simp;omega
         have g3:decide (R.prom<R.acc)=false:=by simp;omega
         clear b3 c1 I b7 a7 C;refine bY ?_;go_wp2_with fail;go_roundw
         case rel=>exact⟨m+1,by omega,by go_num,HN⟩
         case measure=>simp[intOf]<;>omega
        ·have E:¬(m:Int)<4:=by omega
         go_wp2_with fail;go_roundw
         case rel=>exact⟨n+1,by omega,by go_num,y,a.out.1⟩
         case measure=>simp[intOf]<;>omega
   ·have b2:(zz.tmod 2 !=0)=true:=by simp[e2]
    clear e2;by_cases g7:n+1<len
    ·have e8:(n:Int)+1<(len:Int):=by omega
     refine bY ?_;go_wp2_with fail;go_roundw
     case rel=>exact⟨n+1,by omega,by go_num,y,V.out⟩
     case measure=>simp[intOf]<;>omega
    ·have e8:¬(n:Int)+1<(len:Int):=by omega
     have a8:=a6.out.2.2;have HJ:=bY (V.out.acs a8.1 a8.2);have c7:=V.out.cell7;have a5:=bY (V.out.table j);refine bY ?_;go_wp2_with (go_at_call 20;refine a5.out.mono ?_;rintro e W4 ⟨pt,ct,rfl,t,A,B⟩;have e0:=bY t;have s:=bY A;clear t A B;refine cB ?_);clear c7 cz a5;rcases zC HJ.out with K|K
     ·rw[K];clear K;refine bY ?_;go_wp2_with fail;go_roundw
      case rel=>exact⟨n+1,by omega,by go_num,y,s.out⟩
      case measure=>simp[intOf]<;>omega
     ·obtain⟨k1,k2,k3,k4,k5⟩:=s.out.klog HJ.out K;have c3:=bY (fun (k:Nat) (hk:k<4)=>s.out.row HJ.out K hk);have c7:=s.out.cell7;have Y:=bY (s.out.log j);rw[k1]at Y;have Q:=bY (pS (strOfNums (lZ y j)) W4 (by rw[dO];omega));have b6:25*((dH (cV (strOfNums (lZ y j)))).length:Int)=((strOfNums (lZ y j)).size:Int):=by
       rw[dO,k4,←k2];omega
      rw[b6,k4,k3]at Q;have f4:(gY y j).length≤4:=by rw[←k3];exact sG _ 4
      generalize strOfNums (lZ y j)=S at*;generalize hT:gY y j=T at*;rw[K];clear k1 k2 k3 k4 k5 K hT b6;refine bY ?_;go_wp2_with (first|(go_at_call 21;refine Y.out.mono ?_;rintro e w ⟨rfl,hw⟩;rw[hw];clear hw w)|(go_at_call 22;refine Q.out.mono ?_;rintro e W5 ⟨v,rfl,hv,hb⟩;refine cB ?_));obtain⟨pr,cr,rfl,a3,_⟩:=LsAt.of_owns (f:=rwL) (sz:=7) (fun _=>rfl) hv rfl;have X:Chg NoS W4 W5:=Chg.below' hb;have d:=s.out.chg0 X;have c7:=d.cell7;have U:=bY (aHi a3 (e0.out.chg0 X));have b5:=bY (d.trace (by omega));have f3:=d.trl (by omega);clear hv hb X d a3 Q Y;refine bY ?_;go_wp2_with (go_at_call 17;refine b5.out.mono ?_;rintro e W6 ⟨d4,d7,rfl,t,A,B⟩;have F:=bY (aHj t (U.out.1.chg0 B) (U.out.2.chg0 B));have c9:=bY A;clear t A B;refine cB ?_);clear c7 b5 U;refine bY ?_;go_wp2_with fail;go_loopw [17] (fun k wr=>∃m:Nat,m≤T.length∧k= .int .i64 m∧Hid (RunAt W wr eb b g c (n+1) y∧Chg NoS W6 wr)) (fun k _=>T.length-(intOf k).toNat)
      case atStart=>exact⟨0,aI _,rfl,c9.out,Chg.refl _ _⟩
      case round=>
       obtain⟨m,hm,rfl,a⟩:=hrel;by_cases b1:m<T.length
       ·obtain⟨ga,rfl,_,P⟩:=(F.out.2.1.chg0 a.out.2) m b1;obtain⟨gb,rfl,_,Z⟩:=(F.out.2.2.chg0 a.out.2) m b1;obtain⟨r,hr⟩:=aHu (T[m]);rw[hr]at P Z;have E:(m:Int)<(T.length:Int):=by omega
        have d9:=bY (show∀i u,(rwL r)[i]?=some u→wr.drew.cell? ((⟨ga,m*7,none⟩:Addr).add i)=some u from fun i u hi=>by rw[nY];exact P i u hi);have d3:=bY (show∀i u,(rwL r)[i]?=some u→wr.drew.cell? ((⟨gb,m*7,none⟩:Addr).add i)=some u from fun i u hi=>by rw[nY];exact Z i u hi);clear P Z hr;obtain⟨r0,r1,r2,r3,r4,r5,r6⟩:=r;go_wp2_with fail;refine dR [0,0,0,1,0,0,0,1,0] (by kernel_rfl) (fun _ _ _ _=>rfl) ?_;simp only[cK,cJ];iterate 3 (apply sB rfl rfl;·(intro x h;(try cases h rfl);go_simp;with_reducible rfl))
        try simp only[pA]
        refine cH (v:=rwV ⟨r0,r1,r2,r3,r4,r5,r6⟩) rfl (fun zz hx=>cE 58 _ rfl ⟨ga,m*7,none⟩ rfl (rwL ⟨r0,r1,r2,r3,r4,r5,r6⟩) _ (by subst hx;exact d9.out) underlying58 rfl (by kernel_rfl)) ?_;(try simp only[pA]);iterate 3 (apply sB rfl rfl;·(intro x h;(try cases h rfl);go_simp;with_reducible rfl))
        try simp only[pA]
        refine cH (v:=rwV ⟨r0,r1,r2,r3,r4,r5,r6⟩) rfl (fun zz hx=>cE 58 _ rfl ⟨gb,m*7,none⟩ rfl (rwL ⟨r0,r1,r2,r3,r4,r5,r6⟩) _ (by subst hx;exact d3.out) underlying58 rfl (by kernel_rfl)) ?_;(try simp only[pA]);iterate 1 (apply sB rfl rfl;·(intro x h;(try cases h rfl);go_simp;with_reducible rfl))
        refine cA ?_;try simp only[pA]
        go_wp2_with fail;go_roundw
        case rel=>exact⟨m+1,by omega,by go_num,a.out.1.chg0 ((Chg.refl _ _).drew),a.out.2.drew⟩
        case measure=>simp[intOf]<;>omega
       ·have E:¬(m:Int)<(T.length:Int):=by omega
        go_wp2_with fail;go_loopw [18] (fun k wr=>∃m:Nat,m≤4∧k= .int .i64 m∧Hid (RunAt W wr eb b g c (n+1) y∧Chg NoS W6 wr)) (fun k _=>4-(intOf k).toNat)
        case atStart=>exact⟨0,by decide,rfl,a⟩
        case round=>
         clear a E;obtain⟨m,hm,rfl,a⟩:=hrel;by_cases d0:m<4
         ·have E:(m:Int)<4:=by omega
          have a9:=bY (zO wr d4 d7 y.tr j m (F.out.1.chg0 a.out.2) (by omega));have I:=c3.out m d0;generalize gH y.tr j m y.tr.length=lp at*;obtain⟨d8,e3⟩:=lp;dsimp only at I;go_wp2_with (go_at_call 23;refine a9.out.mono ?_;rintro e W7 ⟨rfl,hq⟩;have N:=bY hq;clear hq;refine cB ?_);have L:=a.out.2.trans N.out (fun _ _ z=>z);have b4:=bY (zB W7 pt ct T m (F.out.2.2.chg0 L) (by omega));have a0:=bY L;generalize iY T m=R at*;clear L a9;refine bY ?_;go_wp2_with (go_at_call 24;refine b4.out.mono ?_;rintro e H ⟨rfl,hq⟩;have D:=bY hq;clear hq;refine cB ?_);have M:=aA H (.cells #[.int .i64 0,.int .i64 0,.int .i64 0,.int .i64 0,.int .i64 0,.int .i64 0,.int .i64 0] 58);have O:Chg NoS H (H.alloc (.cells #[.int .i64 0,.int .i64 0,.int .i64 0,.int .i64 0,.int .i64 0,.int .i64 0,.int .i64 0] 58)):=(Chg.refl _ _).alloc _;generalize a2:H.alloc (.cells #[.int .i64 0,.int .i64 0,.int .i64 0,.int .i64 0,.int .i64 0,.int .i64 0,.int .i64 0] 58)=W9 at M O;have b7:=bY a2;have a7:Hid (W9.heap[H.heap.size]?=some (.cells (rwL zRw).toArray 58 (0,0))):=M;have a1:=bY O;clear M O a2 b4;refine bY ?_;go_wp2_with (first|rw[b7.out]|(refine cD rfl 58 _ _ rfl H.heap.size 0 58 _ _ (rwL R) rfl rfl a7.out (by kernel_rfl) (by simp[Value.oneCell']) (by simp) rfl ?_;intro G b0 c8 b9;have J:=bY b0;have C:=bY b9;clear b0 c8 b9;refine cB ?_));have b3:Chg NoS W6 G:=((a0.out.trans D.out (fun _ _ z=>z)).trans a1.out (fun _ _ z=>z)).fresh J.out (by have:=a0.out.size;have:=D.out.size;omega)
          have c1:Chg NoS wr G:=(((N.out.trans D.out (fun _ _ z=>z))).trans a1.out (fun _ _ z=>z)).fresh J.out (by have:=N.out.size;have:=D.out.size;omega);have HN:=bY (aHi (a.out.1.chg0 c1) b3);have d1:G.cell? ⟨H.heap.size,1,none⟩=some (.int .i64 R.prom):=bZ C.out 1 _ rfl;have d2:G.cell? ⟨H.heap.size,2,none⟩=some (.int .i64 R.acc):=bZ C.out 2 _ rfl;have g1:decide (R.prom<d8)=false:=by simp;omega
          have g2:decide (R.acc<e3)=false:=by simp;omega
          have g3:decide (R.prom<R.acc)=false:=by simp;omega
          clear b3 c1 I b7 a7 C;refine bY ?_;go_wp2_with fail;go_roundw
          case rel=>exact⟨m+1,by omega,by go_num,HN⟩
          case measure=>simp[intOf]<;>omega
         ·have E:¬(m:Int)<4:=by omega
          go_wp2_with fail;go_roundw
          case rel=>exact⟨n+1,by omega,by go_num,y,a.out.1⟩
          case measure=>simp[intOf]<;>omega
  ·have f2:¬(n:Int)<(len:Int):=by omega
   go_wp2_with fail;go_ret;obtain⟨x,hx⟩:=HX.out;exact⟨rfl,hx.bel⟩
end Go.Proofs.YtbbdgokdfhdpiaaGreatDoor
