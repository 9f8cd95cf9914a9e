/- A part of the proof: RfTopA. -/
import Derived.Test.YtbbdgokdfhdpiaaGreatDoorA34
import Derived.Test.YtbbdgokdfhdpiaaGreatDoorA35
namespace Go.Proofs.YtbbdgokdfhdpiaaGreatDoor
set_option linter.all false
set_option maxRecDepth 100000
set_option maxHeartbeats 40000000
open Go.Proofs.Tryz Go.RowKit
section
variable (W:World) (own:Nat→Nat) (y:Nat) (x:Rm) (V:RmV)
theorem aC3(i:Int)(h:RmAt W own y x V)(hi:dT i x.net.length=false):
 Calls prog 115 #[.pointer (some ⟨y,0,none⟩),.int .i64 i] W fun r W'=>r= .returned (.int .i64 1)∧RmTo W own y V x W':=by
 obtain⟨d,c,b,_⟩:=nU h.net;have a:=cN (pZ W y i d x.net.length c (by rw[←b];exact h.cell 9 _ rfl));rw[hi]at a;have f:=cN (RmTo.of h);clear b h hi;go_enter func115,ntmps115;go_wp2_with (go_at_call 152;refine a.out.mono ?_;rintro e g ⟨rfl,rfl⟩);go_ret;exact⟨rfl,f.out⟩
theorem aDh(N i:Int)(h:RmAt W own y x V)(hok:tU N x)(hN:N≤80000000000)(hroom:x.cf.room≤2000):
 Calls prog 115 #[.pointer (some ⟨y,0,none⟩),.int .i64 i] W fun r W'=>r= .returned (.int .i64 (kO x i))∧RmTo W own y V (kT x i) W':=by
 cases hi:dT i x.net.length with
 |false=>
  have l:kO x i=1:=by unfold kO;rw[hi];rfl
  have n:kT x i=x:=by unfold kT;rw[hi];rfl
  rw[l,n];exact aC3 W own y x V i h hi
 |true=>
  obtain⟨u,v⟩:=(dY _ _).1 hi;obtain⟨q,rfl⟩:∃q:Nat,i=(q:Int):=⟨i.toNat,by omega⟩;have g:q<x.net.length:=by omega
  have e:nH x q=x.net[q]:=by unfold nH;rw[bB,aQ,aP g];rfl
  have p:oU x q={x with net:=x.net.eraseIdx q}:=by unfold oU;rw[hi,if_pos rfl,bB]
  have l:kO x q=if hU x.net[q]=true then mS x.cf (tJ x x.net[q].dst) x.net[q]else 0:=by unfold kO;rw[hi,if_pos rfl,e]
  have n:kT x q=if hU x.net[q]=true then gF {x with net:=x.net.eraseIdx q} x.net[q].dst.toNat (gO x.cf (tJ x x.net[q].dst) x.net[q]) (nD x.cf (tJ x x.net[q].dst) x.net[q])else dP {x with net:=x.net.eraseIdx q} x.net[q].dst.toNat (fZ x.cf (nZ x x.net[q].dst) x.net[q]) (fL x.cf x.acs.length (nZ x x.net[q].dst) x.net[q]):=by unfold kT;rw[hi,if_pos rfl,e,p]
  rw[l,n];obtain⟨m,j⟩:=aLx (x.net[q]);have b:=hok.msgs m (by rw[←j];exact bF g);rw[j];obtain⟨d,o⟩:∃d:Nat,m.dst=(d:Int):=⟨m.dst.toNat,by have:=b.d0;omega⟩;rw[o,bB];by_cases c:hU m=true
  ·rw[if_pos c,if_pos c];have k:m.kind=1∨m.kind=3:=by simpa[hU]using c
   have f:d<x.acs.length:=by have:=b.toA k;omega
   obtain⟨a,t⟩:=aLx (x.acs[d]);have s:x.acs[d]?=some a:=by rw[aP f,t]
   rw[qC f,t];exact aDk W own y x V N q m d h hok hN g j o k a s hroom
  ·rw[if_neg c,if_neg c];have k:¬(m.kind=1∨m.kind=3):=by simpa[hU]using c
   have:=b.k1;have:=b.k5;exact aEj W own y x V N q m d h hok hN g j o (by omega)
theorem aFq(i k l t:Int)(h:RmAt W own y x V)(hbad:mH x i k l t=true):
 Calls prog 113 #[.pointer (some ⟨y,0,none⟩),.int .i64 i,.int .i64 k,.int .i64 l,.int .i64 t] W fun r W'=>r= .returned (.int .i64 1)∧RmTo W own y V x W':=by
 obtain⟨A,m,j,u⟩:=fK h.rcv;have F:W.cell? ⟨y,8,none⟩=some (.slice A x.cls.length m):=by rw[←j];exact h.cell 8 _ rfl
 have D:=cN (RmTo.of h);have s:decide (i<0)=true∨(decide (i<0)=false∧decide ((x.cls.length:Int)≤i)=true)∨
  (decide (i<0)=false∧decide ((x.cls.length:Int)≤i)=false∧decide (k<1)=true)∨
  (decide (i<0)=false∧decide ((x.cls.length:Int)≤i)=false∧decide (k<1)=false∧decide (4<k)=true)∨
  (decide (i<0)=false∧decide ((x.cls.length:Int)≤i)=false∧decide (k<1)=false∧decide (4<k)=false∧decide (l<0)=true)∨
  (decide (i<0)=false∧decide ((x.cls.length:Int)≤i)=false∧decide (k<1)=false∧decide (4<k)=false∧decide (l<0)=false∧decide (3<l)=true)∨
  (decide (i<0)=false∧decide ((x.cls.length:Int)≤i)=false∧decide (k<1)=false∧decide (4<k)=false∧decide (l<0)=false∧decide (3<l)=false∧decide (k≤2)=true∧decide (t<1)=true)∨
  (decide (i<0)=false∧decide ((x.cls.length:Int)≤i)=false∧decide (k<1)=false∧decide (4<k)=false∧decide (l<0)=false∧decide (3<l)=false∧decide (k≤2)=true∧decide (t<1)=false∧decide (1000<t)=true):=by
  unfold mH at hbad;by_cases c:i<0
  ·left;simp[c]
  ·right;by_cases a:(x.cls.length:Int)≤i
   ·left;simp[a];omega
   ·right;have B:dT i x.cls.length=true:=by rw[dY];omega
    rw[B]at hbad;by_cases e:k<1
    ·left;simp[c,a,e]
    ·right;by_cases f:4<k
     ·left;simp[c,a,e,f]
     ·right;by_cases o:l<0
      ·left;simp[c,a,e,f,o]
      ·right;by_cases p:3<l
       ·left;simp[c,a,e,f,o,p]
       ·right;simp only[Bool.or_eq_true,Bool.not_eq_true',aR,aM,decide_eq_false_iff_not]at hbad;rcases hbad with((hb|hb)|hb)|⟨hb,hb2⟩
        ·cases hb
        ·omega
        ·omega
        ·by_cases w:t<1
         ·left;simp[c,a,e,f,o,p,w,hb]
         ·right;have:1000<t:=by omega
          simp[c,a,e,f,o,p,w,hb,this]
 clear h j u hbad;rcases s with b|⟨b,d⟩|⟨b,d,g⟩|⟨b,d,g,n⟩|⟨b,d,g,n,q⟩|⟨b,d,g,n,q,v⟩|⟨b,d,g,n,q,v,C,z⟩|⟨b,d,g,n,q,v,C,z,E⟩;all_goals
  go_enter func113,ntmps113;go_wp2_with fail;go_ret;exact⟨rfl,D.out⟩
theorem aFb(q:Nat)(k l t:Int)(h:RmAt W own y x V)(hq:q<x.cls.length)(c:Rc)(hc:x.cls[q]=c)(hR:kL c≠0)(hk1:1≤k)(hk4:k≤4)(hl0:0≤l)(hl3:l≤3)(ht:k≤2→1≤t∧t≤1000):
 Calls prog 113 #[.pointer (some ⟨y,0,none⟩),.int .i64 q,.int .i64 k,.int .i64 l,.int .i64 t] W fun r W'=>r= .returned (.int .i64 (kL c))∧RmTo W own y V x W':=by
 obtain⟨D,j,i,e⟩:=fK h.rcv;have G:W.cell? ⟨y,8,none⟩=some (.slice D x.cls.length j):=by rw[←i];exact h.cell 8 _ rfl
 have z:=cN (RmTo.of h);obtain⟨g,rfl,v⟩:=e q hq;obtain⟨B,n⟩:=aLw (V.bC q);have E:W.cell? ⟨g,q,none⟩=some (.pointer (some ⟨B,0,none⟩)):=by rw[n];exact v
 have b:RcAt W B c (V.mv q) (V.hv q) (V.bv q):=by have:=h.cls q hq;rw[hc]at this;rw[n];exact this
 have w:W.cell? ⟨B,2,none⟩=some (.bool c.up):=b.cell 2 _ rfl;have u:W.cell? ⟨B,37,none⟩=some (.bool c.busy):=b.cell 37 _ rfl;have L:decide ((q:Int)<0)=false:=by simp
 have I:decide ((x.cls.length:Int)≤(q:Int))=false:=by simp;omega
 have K:decide (k<1)=false:=by simp;omega
 have F:decide (4<k)=false:=by simp;omega
 have H:decide (l<0)=false:=by simp;omega
 have J:decide ((3:Int)<l)=false:=by simp;omega
 have f:(decide (k≤2)=true∧decide (t<1)=false∧decide (1000<t)=false)∨decide (k≤2)=false:=by
  by_cases p:k≤2
  ·left;have:=ht p;simp[p];omega
  ·right;simp[p]
 have s:(c.up=false∧kL c=2)∨(c.up=true∧c.busy=true∧kL c=4):=by
  unfold kL at hR⊢;cases a:c.up with
  |false=>left;exact⟨rfl,rfl⟩
  |true=>
   right;cases m:c.busy with
   |true=>exact⟨rfl,rfl,rfl⟩
   |false=>rw[a,m]at hR;exact absurd rfl hR
 clear h i e v n b hc ht hR;rcases s with⟨a,d⟩|⟨a,m,d⟩
 ·rw[d];rw[a]at w;clear a d;rcases f with⟨o,C,A⟩|o;all_goals
   go_enter func113,ntmps113;go_wp2_with fail;go_ret;exact⟨rfl,z.out⟩
 ·rw[d];rw[a]at w;rw[m]at u;clear a d m;rcases f with⟨o,C,A⟩|o;all_goals
   go_enter func113,ntmps113;go_wp2_with fail;go_ret;exact⟨rfl,z.out⟩
theorem aFZ(N i k l t:Int)(h:RmAt W own y x V)(hok:tU N x)(hN:N≤80000000000):
 Calls prog 113 #[.pointer (some ⟨y,0,none⟩),.int .i64 i,.int .i64 k,.int .i64 l,.int .i64 t] W fun r W'=>r= .returned (.int .i64 (uR x i k l t))∧RmTo W own y V (uV x i k l t) W':=by
 unfold uR uV;by_cases b:mH x i k l t=true
 ·rw[if_pos b,if_pos b];exact aFq W own y x V i k l t h b
 ·rw[if_neg b,if_neg b];have s:dT i x.cls.length=true∧(1≤k∧k≤4)∧(0≤l∧l≤3)∧(k≤2→1≤t∧t≤1000):=by
   simp only[mH,Bool.or_eq_true,Bool.not_eq_true',aR,aM,decide_eq_false_iff_not,not_or,not_and,Bool.not_eq_false]at b;obtain⟨⟨⟨z,B⟩,D⟩,C⟩:=b;refine⟨z,?_,?_,fun hk=>?_⟩
   ·exact aH fun hh=>B (by omega)
   ·exact aH fun hh=>D (by omega)
   ·exact aH fun hh=>C hk (by omega)
  obtain⟨A,⟨j,g⟩,⟨v,u⟩,w⟩:=s;obtain⟨F,z⟩:=(dY _ _).1 A;obtain⟨q,rfl⟩:∃q:Nat,i=(q:Int):=⟨i.toNat,by omega⟩;have n:q<x.cls.length:=by omega
  rw[oG n,bB];obtain⟨c,m⟩:=aLx (x.cls[q]);rw[m];by_cases e:kL c≠0
  ·have o:rY c k l (qW k t)=c:=if_pos e;have p:xY x.acs.length c k l (qW k t)=[]:=if_pos e;have E:dP x q c []=x:=by rw[fW,←m,bH]
   rw[o,p,E];exact aFb W own y x V q k l t h n c m e j g v u w
  ·have a:kL c=0:=aH e;have f:c.up=true∧c.busy=false:=by
    unfold kL at a;cases hu:c.up with
    |false=>rw[hu]at a;simp at a
    |true=>
     cases b:c.busy with
     |true=>rw[hu,b]at a;simp at a
     |false=>exact⟨rfl,rfl⟩
   have o:rY c k l (qW k t)=mM (nO c k l (qW k t)):=if_neg e;have p:xY x.acs.length c k l (qW k t)=kJ c.id k l (qW k t)::kN x.acs.length (nO c k l (qW k t)):=if_neg e;rw[o,p,a];obtain⟨lk,rfl⟩:∃lk:Nat,l=(lk:Int):=⟨l.toNat,by omega⟩;refine aHT W own y x V N q k lk t _ h hok hN n c m f.1 f.2 (by omega) ?_;by_cases d:k≤2
   ·exact Or.inl ⟨j,d,if_pos d,w d⟩
   ·exact Or.inr ⟨by omega,g,if_neg d⟩
end
end Go.Proofs.YtbbdgokdfhdpiaaGreatDoor
