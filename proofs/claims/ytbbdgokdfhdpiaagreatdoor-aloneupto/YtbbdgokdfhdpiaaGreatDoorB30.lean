/- A part of the proof: AlnW. -/
import Derived.Test.YtbbdgokdfhdpiaaGreatDoorB28
import Derived.Test.YtbbdgokdfhdpiaaGreatDoorB29
namespace Go.Proofs.YtbbdgokdfhdpiaaGreatDoor
set_option linter.all false
set_option maxRecDepth 100000
set_option maxHeartbeats 40000000
open Go.Proofs.Tryz Go.RowKit
def cntH(x:Mo)(l:Int)(m:Nat):Nat:=((List.range m).filter fun (c:Nat)=>jH x c l).length
theorem zJ(x:Mo)(l:Int)(m:Nat):cntH x l (m+1)=cntH x l m+if jH x m l=true then 1 else 0:=by
 unfold cntH;rw[List.range_succ,List.filter_append,aD];by_cases h:jH x m l=true
 ·rw[if_pos h];simp[h]
 ·rw[if_neg h];simp[h]
theorem aCX{x:Mo}{l:Int}(h:∀p q:Nat,jH x p l=true→jH x q l=true→p=q):∀m,cntH x l m≤1
 |0=>by simp[cntH]
 |m+1=>by
  rw[zJ];have:=aCX h m;by_cases hm:jH x m l=true
  ·rw[if_pos hm];have h0:cntH x l m=0:=by
    unfold cntH;rw[List.length_eq_zero_iff,List.filter_eq_nil_iff];intro p hp hh;have:=h p m hh hm;have:=List.mem_range.1 hp;omega
   omega
  ·rw[if_neg hm];omega
section
variable {W0 wr:World} {eb:Addr} {b g:Nat} {c:Cf} {n:Nat} {x:Mo}
theorem aEa(h:RunAt W0 wr eb b g c n x)(l:Int):∀p q:Nat,jH x p l=true→jH x q l=true→p=q:=fun p q hp hq=>by
 obtain⟨own,a,d,s,h1,h2,h3⟩:=h;have hc:=dK h1.kw.ok.conf;rw[h1.cf]at hc;refine aH fun hn=>?_;unfold jH at hp hq;rw[aR]at hp hq;have ip:=pJ h1.kw.ok hp.1;have iq:=pJ h1.kw.ok hq.1;rw[h1.cf]at ip iq;exact aHH (f:=c) (by omega) (by omega) (by omega) h2.rch ip.1 ip.2 iq.1 iq.2 (by omega) (by rw[h2.abs.clAt hp.1];exact hp.2) (by rw[h2.abs.clAt hq.1];exact hq.2)
theorem RunAt.holds(h:RunAt W0 wr eb b g c n x)(i l:Int):
 Calls prog 16 #[.pointer (some ⟨g,0,none⟩),.int .i64 i,.int .i64 l] wr fun r W'=>r= .returned (.bool (jH x i l))∧RunAt W0 W' eb b g c n x:=by
 obtain⟨own,a,d,s,e,f,j⟩:=h;exact(rW wr own g x _ i l e.kw.mo e.kw.ok).mono fun r W' hh=>⟨hh.1,RunAt.chg0 ⟨own,a,d,s,e,f,j⟩ (Chg.below' hh.2)⟩
end
theorem aEn(W:World)(eb:Addr)(hgl:GlAt W W.heap.size eb)(p q:Option Addr)(ll lc len cap:Nat)(l:Nat→Int)(o:Nat→St)(hl:RawAt W p ll l)(hll:ll≤9223372036854775807)(hs:ScAt W q len o)(hlen:len≤9000000):
 Calls prog 6 #[.slice p ll lc,.slice q len cap] W fun r W'=>r= .returned (.bool true)∧Below W.heap.size W W':=by
 have v:∀g f,q=some ⟨g,f,none⟩→0<len→g<W.heap.size:=fun g f e h0=>by
  obtain⟨b,f',e',hb,_⟩:=hs 0 h0;rw[e]at e';cases e';exact hb
 have HC:=bZ (aCu W p ll lc l hl hll);have Z:=bZ hs;have HQ:=bZ v;have HG:=bZ hgl;have t:=aBj ll l;have w:=aFM ll l;have d:aBp (jZ ll l):=⟨t.2.2.2.2.2.2,t.2.2.2.2.2.1.1⟩;generalize jZ ll l=c at*;obtain⟨A,F⟩:∃n:Nat,c.clients=n:=⟨c.clients.toNat,by omega⟩;have a:=bZ (aHT F t.2.1 w d);clear hs v hgl hl t w d F;go_enter func6,ntmps6;go_wp2_with (go_at_call 14;refine HC.out.mono ?_;rintro e W1 ⟨rfl,Y⟩;have I:=bZ Y;clear Y;refine cC ?_);have HM:=bZ (aB2 W1 W.heap.size eb (HG.out.kept I.out (fun _ e=>e.elim)) c a.out.2.2.1);refine bZ ?_;go_wp2_with (go_at_call 13;refine HM.out.mono ?_;rintro e W2 ⟨b,own,g,rfl,h1,h2,X,h4⟩;have HR:=bZ (aDO HG.out a.out.2.2.1 a.out.2.2.2 I.out h1 h2 X h4);clear h1 h2 X h4;refine cC ?_);refine bZ ?_;go_wp2_with fail;go_loopw [6] (fun i wr=>∃n:Nat,n≤len∧i= .int .i64 n∧Hid (∃x,RunAt W wr eb b g c n x)) (fun i _=>len-(intOf i).toNat)
 case atStart=>exact⟨0,aI _,rfl,_,HR.out⟩
 case round=>
  clear HR;obtain⟨n,hn,rfl,Q⟩:=hrel;by_cases H:n<len
  ·obtain⟨x,D⟩:=Q.out;obtain⟨sb,sf,rfl,a7,S,J⟩:=Z.out n H;have V:(n:Int)<(len:Int):=by omega
   have P:=HQ.out sb sf rfl (by omega);obtain⟨ob,a2,eo,_,K,T⟩:=(Z.out.bel D.bel (fun g' f' e=>by cases e;exact P)) n H;cases eo;have O:=bZ (D.step (by omega) (o n) J);have G:=bZ K;clear D S K J T;go_wp2_with (first|(go_at_call 15;refine O.out.mono ?_;rintro e W3 ⟨rfl,E⟩;have HY:=bZ E;clear E;refine cC ?_)|(refine cI rfl 34 _ rfl ⟨sb,sf+n*4,none⟩ rfl (stL (o n)) _ G.out underlying34 rfl (by kernel_rfl) ?_));obtain⟨y,E⟩:=HY.out;have L:=bZ E;clear E O G Q HY;refine bZ ?_;go_wp2_with fail;go_loopw [7] (fun k wr=>∃m:Nat,m≤4∧k= .int .i64 m∧Hid (RunAt W wr eb b g c (n+1) y)) (fun k _=>4-(intOf k).toNat)
   case atStart=>exact⟨0,by decide,rfl,L⟩
   case round=>
    clear L;obtain⟨m,hm,rfl,h⟩:=hrel;by_cases a4:m<4
    ·have U:(m:Int)<4:=by omega
     go_wp2_with fail;go_loopw [8,9] (fun cnt k wr=>∃j:Nat,j≤A∧cnt= .int .i64 (cntH y m j:Nat)∧k= .int .i64 j∧Hid (RunAt W wr eb b g c (n+1) y)) (fun _ k _=>A-(intOf k).toNat)
     case atStart=>exact⟨0,aI _,rfl,rfl,h⟩
     case round=>
      clear h;obtain⟨j,hj,rfl,rfl,h⟩:=hrel;have c1:=h.out.cell1;have c7:=h.out.cell7;rw[a.out.1]at c1;have N:=bZ (aCX (aEa h.out m));have a3:=N.out j;have a0:A≤4:=by have:=a.out.1;have:=a.out.2.1.2;omega
      by_cases a6:j<A
      ·have R:(j:Int)<(A:Int):=by omega
       have s:=bZ (h.out.holds j m);have u:=bZ (zJ y m j);have a1:=N.out (j+1);generalize M:cntH y m j=cc at*;cases hh:jH y j m with
       |true=>
        rw[hh]at s;have z:=u.out;rw[if_pos hh]at z;have C:=bZ z;have hw:IntKind.i64.wrap ((cc:Int)+1)=(cc:Int)+1:=eN (by omega) (by omega);clear z M hh u;go_wp2_with (go_at_call 16;refine s.out.mono ?_;rintro e W4 ⟨rfl,v⟩;have B:=bZ v;clear v;refine cC ?_);refine bZ ?_;go_wp2_with fail;go_roundw
        case rel=>exact⟨j+1,by omega,by rw[C.out];go_num,by go_num,B⟩
        case measure=>simp[intOf]<;>omega
       |false=>
        rw[hh]at s;have z:=u.out;rw[if_neg (by rw[hh];decide),Nat.add_zero]at z;have C:=bZ z;clear z M hh u;go_wp2_with (go_at_call 16;refine s.out.mono ?_;rintro e W4 ⟨rfl,v⟩;have B:=bZ v;clear v;refine cC ?_);refine bZ ?_;go_wp2_with fail;go_roundw
        case rel=>exact⟨j+1,by omega,(by rw[C.out];first|rfl|go_num),by go_num,B⟩
        case measure=>simp[intOf]<;>omega
      ·have a5:j=A:=by omega
       have R:¬(j:Int)<(A:Int):=by omega
       generalize cntH y m j=cc at*;have a8:decide (1<(cc:Int))=false:=by simp;omega
       go_wp2_with fail;go_roundw
       case rel=>exact⟨m+1,by omega,by go_num,h⟩
       case measure=>simp[intOf]<;>omega
    ·have U:¬(m:Int)<4:=by omega
     go_wp2_with fail;go_roundw
     case rel=>exact⟨n+1,by omega,by go_num,_,h.out⟩
     case measure=>simp[intOf]<;>omega
  ·have V:¬(n:Int)<(len:Int):=by omega
   go_wp2_with fail;go_ret;obtain⟨x,D⟩:=Q.out;exact⟨rfl,D.bel⟩
end Go.Proofs.YtbbdgokdfhdpiaaGreatDoor
