/- A part of the proof: OneW. -/
import Derived.Test.YtbbdgokdfhdpiaaGreatDoorD31
import Derived.Test.YtbbdgokdfhdpiaaGreatDoorD35
namespace Go.Proofs.YtbbdgokdfhdpiaaGreatDoor
set_option linter.all false
set_option maxRecDepth 100000
set_option maxHeartbeats 40000000
open Go.Proofs.Tryz Go.RowKit
theorem aER{t:List Ev}{lk:Int}{out l':List Bt}{i:Nat}{e:Ev}(h:lP t lk out i e=some l'):l'.length≤out.length+1:=by
 by_cases a:e.kind≠1∨e.msg.lock≠lk
 ·rw[tI h a];omega
 ·by_cases d:e.msg.kind=3
  ·cases c:gF out e.msg.bal with
   |none=>
    obtain⟨g,_,_,_,_,b⟩:=aA7 h a d c;rw[b,aD];exact aE _
   |some k=>rw[(wT h a d c).2];omega
  ·by_cases b:e.msg.kind=4
   ·obtain⟨k,c,f⟩:=aA5 h a b;rw[f];split
    ·omega
    ·rw[bP];omega
   ·rw[wY h d b];omega
theorem vD{t:List Ev}{lk:Int}:∀{n l},iA t lk n=some l→l.length≤n
 |0,l,h=>by
  obtain rfl:=aN (show some ([]:List Bt)=some l from h);exact aE _
 |n+1,l,h=>by
  obtain⟨l0,h0⟩:=pP h (Nat.le_succ n);have h1:=vD h0;obtain⟨l',h2,h3⟩:=sL h0 h (Nat.lt_succ_self n) rfl;obtain rfl:l'=l:=aN (h2.symm.trans h);have:=aER h3;omega
section
variable {W0 wr:World}{eb:Addr}{b g:Nat}{c:Cf}{n:Nat}{x:Mo}
theorem RunAt.traceO(h:RunAt W0 wr eb b g c n x)(hn:n≤10000000):
 Calls prog 17 #[.pointer (some ⟨g,0,none⟩),.int .i64 0] wr fun r W'=>∃p cap,r= .returned (.slice p x.tr.length cap)∧LsAt evL 19 W' p x.tr∧RunAt W0 W' eb b g c n x∧x.tr.length≤100000000000:=by
 obtain⟨own,a,d,s,e,k,m⟩:=h;refine(aAo wr own g x _ 0 e.kw.mo e.kw.ok (by omega)).mono ?_;rintro r W' ⟨v,l,i,o⟩;rw[xC]at i;obtain⟨p,cap,rfl,j,_⟩:=LsAt.of_owns (f:=evL) (sz:=19) (fun _=>rfl) i rfl;have:=e.kw.ok.tl;exact⟨p,cap,l,j,RunAt.chg0 ⟨own,a,d,s,e,k,m⟩ (Chg.below' o),by omega⟩
theorem RunAt.lock(h:RunAt W0 wr eb b g c n x){pt:Option Addr}(ct:Nat)(hT:LsAt evL 19 wr pt x.tr)(ht:x.tr.length≤100000000000)(lk:Int):
 Calls prog 18 #[.slice pt x.tr.length ct,.int .i64 lk,.int .i64 c.f] wr fun r W'=>r= .returned (.bool true)∧Chg NoS wr W':=by
 obtain⟨own,a,d,s,D,z,U⟩:=h;have H:=dO D.kw.ok.conf;rw[D.cf]at H;have p:=z.rch.every (by omega) (by omega);have j:s.tr=x.tr:=z.abs.tr;have F:=MiR.nodes (by omega) (by omega) z.rch;obtain⟨l,A,k⟩:=tJ (lock:=lk) p.v s.tr.length (aE _);have i:=aGo (by omega) p lk;unfold aHv at i;rw[A]at i;dsimp only at i;have o:∀e ∈ x.tr,e.kind=1→MOk x.cf e.msg:=fun e he hk=>by
  refine D.kw.ok.trm e.msg ?_;unfold cJ;exact bN.2 ⟨e,bV.2 ⟨he,by simp[qL,hk]⟩,rfl⟩
 have E:x.cf=c:=z.cf;rw[E]at o;have w:∀e ∈ x.tr,e.kind=1→0≤e.msg.src∧e.msg.src≤1000000:=fun e he hk=>by
  have t:=o e he hk;refine⟨t.s1,?_⟩;by_cases q:e.msg.kind=1∨e.msg.kind=3
  ·have:=(t.toA q).1;omega
  ·have:=(t.toC q).1;omega
 rw[j]at A i;cases hr:aBt l c.f with
 |none=>rw[hr]at i;cases i
 |some out=>
  rw[hr]at i;dsimp only at i;rw[aR]at i;refine aGB wr pt ct x.tr lk c.f l out hT (by omega) (fun e he hk=>by have:=F e (by rw[j];exact he) hk;omega) (aC5 wr pt ct x.tr lk l hT (by omega) w A) (by have:=vD A;omega) hr i.1 i.2 ?_;intro y M;obtain⟨B,V,I,W,L,T,S⟩:=k.el y M;have J:=p.v.i1.ask _ B;have C:=p.v.i1.bg _ J;have P:=p.v.i0.fr0 _ J;have R:=p.v.bd _ B;have u:=C.ac B;rw[j]at u;have t:=o _ (List.mem_of_getElem? u) rfl;have Q:y.m.bal≤256255:=t.b2;have O:=C.op;have G:=C.t0;rw[j]at G;have N:y.m.src=(s.bl y.m.bal).cl:=by rw[I];rfl
  have K:y.m.val=(s.bl y.m.bal).val:=by rw[I];rfl
  rw[L,N,K];refine⟨by omega,by omega,by omega,by omega,by omega⟩
end
theorem aIQ(W:World)(eb:Addr)(hgl:GlAt W W.heap.size eb)(p q:Option Addr)(ll lc len cap:Nat)(l:Nat→Int)(o:Nat→St)(hl:RawAt W p ll l)(hll:ll≤9223372036854775807)(hs:ScAt W q len o)(hlen:len≤9000000):
 Calls prog 8 #[.slice p ll lc,.slice q len cap] W fun r W'=>r= .returned (.bool true)∧Below W.heap.size W W':=by
 have t:∀g f,q=some ⟨g,f,none⟩→0<len→g<W.heap.size:=fun g f e h0=>by
  obtain⟨b,f',Y,hb,_⟩:=hs 0 h0;rw[e]at Y;cases Y;exact hb
 have HC:=cB (aDZ W p ll lc l hl hll);have HS:=cB hs;have HQ:=cB t;have T:=cB hgl;have s:=aCp ll l;have d:=aHQ ll l;have a:aCv (kL ll l):=⟨s.2.2.2.2.2.2,s.2.2.2.2.2.1.1⟩;generalize kL ll l=c at*;have j:=cB (aJW d a);clear hs t hgl hl s d a;go_enter func8,ntmps8;go_wp2_with (go_at_call 14;refine HC.out.mono ?_;rintro e W1 ⟨rfl,hc⟩;have y:=cB hc;clear hc;refine cE ?_);have HM:=cB (aDo W1 W.heap.size eb (T.out.kept y.out (fun _ e=>e.elim)) c j.out.1);refine cB ?_;go_wp2_with (go_at_call 13;refine HM.out.mono ?_;rintro e W2 ⟨b,own,g,rfl,V,S,h3,U⟩;have Z:=cB (aFw T.out j.out.1 j.out.2 y.out V S h3 U);clear V S h3 U;refine cE ?_);refine cB ?_;go_wp2_with fail;go_loopw [6] (fun i wr=>∃n:Nat,n≤len∧i= .int .i64 n∧Hid (∃x,RunAt W wr eb b g c n x)) (fun i _=>len-(intOf i).toNat)
 case atStart=>exact⟨0,aI _,rfl,_,Z.out⟩
 case round=>
  clear Z;obtain⟨n,hn,rfl,HX⟩:=hrel;by_cases w:n<len
  ·obtain⟨x,h⟩:=HX.out;obtain⟨sb,X,rfl,a1,O,D⟩:=HS.out n w;have G:(n:Int)<(len:Int):=by omega
   have E:=HQ.out sb X rfl (by omega);obtain⟨ob,a0,eo,_,v,R⟩:=(HS.out.bel h.bel (fun g' f' e=>by cases e;exact E)) n w;cases eo;have Q:=cB (h.step (by omega) (o n) D);have N:=cB v;clear h O v D R;go_wp2_with (first|(go_at_call 15;refine Q.out.mono ?_;rintro e W3 ⟨rfl,hy⟩;have HY:=cB hy;clear hy;refine cE ?_)|(refine cI rfl 34 _ rfl ⟨sb,X+n*4,none⟩ rfl (stL (o n)) _ N.out underlying34 rfl (by kernel_rfl) ?_));refine cB ?_;go_wp2_with fail;go_roundw
   case rel=>exact⟨n+1,by omega,by go_num,HY.out⟩
   case measure=>simp[intOf]<;>omega
  ·have G:¬(n:Int)<(len:Int):=by omega
   obtain⟨x,h⟩:=HX.out;have c7:=h.cell7;have J:=cB (h.traceO (by omega));clear h;go_wp2_with (go_at_call 17;refine J.out.mono ?_;rintro e W3 ⟨pt,ct,rfl,A,B,C⟩;have L:=cB A;have P:=cB B;have I:=cB C;clear A B C;refine cE ?_);clear c7;refine cB ?_;go_wp2_with fail;go_loopw [8] (fun k wr2=>∃m:Nat,m≤4∧k= .int .i64 m∧Hid (Chg NoS W3 wr2)) (fun k _=>4-(intOf k).toNat)
   case atStart=>exact⟨0,by decide,rfl,Chg.refl _ _⟩
   case round=>
    obtain⟨m,hm,rfl,F⟩:=hrel;have u:=P.out.chg0 F.out;have c0:=u.cell0;by_cases a2:m<4
    ·have K:(m:Int)<4:=by omega
     have H:=cB (u.lock ct (L.out.chg0 F.out) I.out m);clear u;go_wp2_with (go_at_call 18;refine H.out.mono ?_;rintro e W4 ⟨rfl,t⟩;have M:=cB t;clear t;refine cE ?_);refine cB ?_;go_wp2_with fail;go_roundw
     case rel=>exact⟨m+1,by omega,by go_num,F.out.trans M.out (fun _ _ z=>z)⟩
     case measure=>simp[intOf]<;>omega
    ·have K:¬(m:Int)<4:=by omega
     have HB:=cB u.bel;clear u;go_wp2_with fail;go_ret;exact⟨rfl,HB.out⟩
end Go.Proofs.YtbbdgokdfhdpiaaGreatDoor
