/- A part. -/
import Derived.Test.YtbbdgokdfhdpiaaGreatDoorA36
import Derived.Test.YtbbdgokdfhdpiaaGreatDoorA37
namespace Go.Proofs.YtbbdgokdfhdpiaaGreatDoor
set_option linter.all false
set_option maxRecDepth 100000
set_option maxHeartbeats 0
open Go.Proofs.Tryz Go.RowKit
section
variable (W:World) (own:Nat→Nat) (y:Nat) (x:Rm) (V:RmV)
theorem aDg(i:Int)(h:RmAt W own y x V)(hi:dT i x.net.length=false):
 Calls prog 115 #[.pointer (some ⟨y,0,none⟩),.int .i64 i] W fun r W'=>r= .returned (.int .i64 1)∧RmTo W own y V x W':=by
 obtain⟨d,c,a,_⟩:=nV h.net;have b:=cN (qC W y i d x.net.length c (by rw[←a];exact h.cell 9 _ rfl));rw[hi]at b;have f:=cN (RmTo.of h);clear a h hi;go_enter func115,ntmps115;go_wp2_with (go_at_call 152;refine b.out.mono ?_;rintro e g ⟨rfl,rfl⟩);go_ret;exact⟨rfl,f.out⟩
theorem aCJ(N i:Int)(h:RmAt W own y x V)(hok:tS N x)(hN:N≤80000000000)(hroom:x.cf.room≤2000):
 Calls prog 115 #[.pointer (some ⟨y,0,none⟩),.int .i64 i] W fun r W'=>r= .returned (.int .i64 (kV x i))∧RmTo W own y V (kY x i) W':=by
 cases hi:dT i x.net.length with
 |false=>
  have o:kV x i=1:=by unfold kV;rw[hi];rfl
  have n:kY x i=x:=by unfold kY;rw[hi];rfl
  rw[o,n];exact aDg W own y x V i h hi
 |true=>
  obtain⟨u,v⟩:=(dY _ _).1 hi;obtain⟨q,rfl⟩:∃q:Nat,i=(q:Int):=⟨i.toNat,by omega⟩;have g:q<x.net.length:=by omega
  have e:nG x q=x.net[q]:=by unfold nG;rw[bB,aQ,aP g];rfl
  have p:oV x q={x with net:=x.net.eraseIdx q}:=by unfold oV;rw[hi,if_pos rfl,bB]
  have o:kV x q=if hO x.net[q]=true then mX x.cf (tB x x.net[q].dst) x.net[q]else 0:=by unfold kV;rw[hi,if_pos rfl,e]
  have n:kY x q=if hO x.net[q]=true then gF {x with net:=x.net.eraseIdx q} x.net[q].dst.toNat (gQ x.cf (tB x x.net[q].dst) x.net[q]) (mP x.cf (tB x x.net[q].dst) x.net[q])else dP {x with net:=x.net.eraseIdx q} x.net[q].dst.toNat (fY x.cf (oB x x.net[q].dst) x.net[q]) (fI x.cf x.acs.length (oB x x.net[q].dst) x.net[q]):=by unfold kY;rw[hi,if_pos rfl,e,p]
  rw[o,n];obtain⟨m,j⟩:=aLA (x.net[q]);have b:=hok.msgs m (by rw[←j];exact bF g);rw[j];obtain⟨d,k⟩:∃d:Nat,m.dst=(d:Int):=⟨m.dst.toNat,by have:=b.d0;omega⟩;rw[k,bB];by_cases c:hO m=true
  ·rw[if_pos c,if_pos c];have l:m.kind=1∨m.kind=3:=by simpa[hO]using c
   have f:d<x.acs.length:=by have:=b.toA l;omega
   obtain⟨a,t⟩:=aLA (x.acs[d]);have s:x.acs[d]?=some a:=by rw[aP f,t]
   rw[pP f,t];exact aDi W own y x V N q m d h hok hN g j k l a s hroom
  ·rw[if_neg c,if_neg c];have l:¬(m.kind=1∨m.kind=3):=by simpa[hO]using c
   have:=b.k1;have:=b.k5;exact aE0 W own y x V N q m d h hok hN g j k (by omega)
theorem aGl(i k l t:Int)(h:RmAt W own y x V)(hbad:lZ x i k l t=true):
 Calls prog 113 #[.pointer (some ⟨y,0,none⟩),.int .i64 i,.int .i64 k,.int .i64 l,.int .i64 t] W fun r W'=>r= .returned (.int .i64 1)∧RmTo W own y V x W':=by
 obtain⟨C,m,j,s⟩:=fK h.rcv;have E:W.cell? ⟨y,8,none⟩=some (.slice C x.cls.length m):=by rw[←j];exact h.cell 8 _ rfl
 have D:=cN (RmTo.of h);have u:decide (i<0)=true∨(decide (i<0)=false∧decide ((x.cls.length:Int)≤i)=true)∨
  (decide (i<0)=false∧decide ((x.cls.length:Int)≤i)=false∧decide (k<1)=true)∨
  (decide (i<0)=false∧decide ((x.cls.length:Int)≤i)=false∧decide (k<1)=false∧decide (4<k)=true)∨
  (decide (i<0)=false∧decide ((x.cls.length:Int)≤i)=false∧decide (k<1)=false∧decide (4<k)=false∧decide (l<0)=true)∨
  (decide (i<0)=false∧decide ((x.cls.length:Int)≤i)=false∧decide (k<1)=false∧decide (4<k)=false∧decide (l<0)=false∧decide (3<l)=true)∨
  (decide (i<0)=false∧decide ((x.cls.length:Int)≤i)=false∧decide (k<1)=false∧decide (4<k)=false∧decide (l<0)=false∧decide (3<l)=false∧decide (k≤2)=true∧decide (t<1)=true)∨
  (decide (i<0)=false∧decide ((x.cls.length:Int)≤i)=false∧decide (k<1)=false∧decide (4<k)=false∧decide (l<0)=false∧decide (3<l)=false∧decide (k≤2)=true∧decide (t<1)=false∧decide (1000<t)=true):=by
  unfold lZ at hbad;by_cases b:i<0
  ·left;simp[b]
  ·right;by_cases a:(x.cls.length:Int)≤i
   ·left;simp[a];omega
   ·right;have B:dT i x.cls.length=true:=by rw[dY];omega
    rw[B]at hbad;by_cases e:k<1
    ·left;simp[b,a,e]
    ·right;by_cases g:4<k
     ·left;simp[b,a,e,g]
     ·right;by_cases o:l<0
      ·left;simp[b,a,e,g,o]
      ·right;by_cases q:3<l
       ·left;simp[b,a,e,g,o,q]
       ·right;simp only[Bool.or_eq_true,Bool.not_eq_true',aR,aM,decide_eq_false_iff_not]at hbad;rcases hbad with((hb|hb)|hb)|⟨hb,hb2⟩
        ·cases hb
        ·omega
        ·omega
        ·by_cases w:t<1
         ·left;simp[b,a,e,g,o,q,w,hb]
         ·right;have:1000<t:=by omega
          simp[b,a,e,g,o,q,w,hb,this]
 clear h j s hbad;rcases u with c|⟨c,d⟩|⟨c,d,f⟩|⟨c,d,f,n⟩|⟨c,d,f,n,p⟩|⟨c,d,f,n,p,v⟩|⟨c,d,f,n,p,v,z,A⟩|⟨c,d,f,n,p,v,z,A,F⟩;all_goals
  go_enter func113,ntmps113;go_wp2_with fail;go_ret;exact⟨rfl,D.out⟩
theorem aFs(q:Nat)(k l t:Int)(h:RmAt W own y x V)(hq:q<x.cls.length)(c:Rc)(hc:x.cls[q]=c)(hR:kK c≠0)(hk1:1≤k)(hk4:k≤4)(hl0:0≤l)(hl3:l≤3)(ht:k≤2→1≤t∧t≤1000):
 Calls prog 113 #[.pointer (some ⟨y,0,none⟩),.int .i64 q,.int .i64 k,.int .i64 l,.int .i64 t] W fun r W'=>r= .returned (.int .i64 (kK c))∧RmTo W own y V x W':=by
 obtain⟨D,j,i,f⟩:=fK h.rcv;have G:W.cell? ⟨y,8,none⟩=some (.slice D x.cls.length j):=by rw[←i];exact h.cell 8 _ rfl
 have z:=cN (RmTo.of h);obtain⟨g,rfl,v⟩:=f q hq;obtain⟨B,p⟩:=aLz (V.bC q);have E:W.cell? ⟨g,q,none⟩=some (.pointer (some ⟨B,0,none⟩)):=by rw[p];exact v
 have b:RcAt W B c (V.mv q) (V.hv q) (V.bv q):=by have:=h.cls q hq;rw[hc]at this;rw[p];exact this
 have w:W.cell? ⟨B,2,none⟩=some (.bool c.up):=b.cell 2 _ rfl;have s:W.cell? ⟨B,37,none⟩=some (.bool c.busy):=b.cell 37 _ rfl;have F:decide ((q:Int)<0)=false:=by simp
 have J:decide ((x.cls.length:Int)≤(q:Int))=false:=by simp;omega
 have L:decide (k<1)=false:=by simp;omega
 have K:decide (4<k)=false:=by simp;omega
 have H:decide (l<0)=false:=by simp;omega
 have I:decide ((3:Int)<l)=false:=by simp;omega
 have e:(decide (k≤2)=true∧decide (t<1)=false∧decide (1000<t)=false)∨decide (k≤2)=false:=by
  by_cases n:k≤2
  ·left;have:=ht n;simp[n];omega
  ·right;simp[n]
 have u:(c.up=false∧kK c=2)∨(c.up=true∧c.busy=true∧kK c=4):=by
  unfold kK at hR⊢;cases a:c.up with
  |false=>left;exact⟨rfl,rfl⟩
  |true=>
   right;cases m:c.busy with
   |true=>exact⟨rfl,rfl,rfl⟩
   |false=>rw[a,m]at hR;exact absurd rfl hR
 clear h i f v p b hc ht hR;rcases u with⟨a,d⟩|⟨a,m,d⟩
 ·rw[d];rw[a]at w;clear a d;rcases e with⟨o,C,A⟩|o;all_goals
   go_enter func113,ntmps113;go_wp2_with fail;go_ret;exact⟨rfl,z.out⟩
 ·rw[d];rw[a]at w;rw[m]at s;clear a d m;rcases e with⟨o,C,A⟩|o;all_goals
   go_enter func113,ntmps113;go_wp2_with fail;go_ret;exact⟨rfl,z.out⟩
theorem aF0(N i k l t:Int)(h:RmAt W own y x V)(hok:tS N x)(hN:N≤80000000000):
 Calls prog 113 #[.pointer (some ⟨y,0,none⟩),.int .i64 i,.int .i64 k,.int .i64 l,.int .i64 t] W fun r W'=>r= .returned (.int .i64 (uG x i k l t))∧RmTo W own y V (uK x i k l t) W':=by
 unfold uG uK;by_cases b:lZ x i k l t=true
 ·rw[if_pos b,if_pos b];exact aGl W own y x V i k l t h b
 ·rw[if_neg b,if_neg b];have v:dT i x.cls.length=true∧(1≤k∧k≤4)∧(0≤l∧l≤3)∧(k≤2→1≤t∧t≤1000):=by
   simp only[lZ,Bool.or_eq_true,Bool.not_eq_true',aR,aM,decide_eq_false_iff_not,not_or,not_and,Bool.not_eq_false]at b;obtain⟨⟨⟨z,A⟩,C⟩,B⟩:=b;refine⟨z,?_,?_,fun hk=>?_⟩
   ·exact aH fun hh=>A (by omega)
   ·exact aH fun hh=>C (by omega)
   ·exact aH fun hh=>B hk (by omega)
  obtain⟨D,⟨f,j⟩,⟨s,u⟩,w⟩:=v;obtain⟨F,z⟩:=(dY _ _).1 D;obtain⟨q,rfl⟩:∃q:Nat,i=(q:Int):=⟨i.toNat,by omega⟩;have n:q<x.cls.length:=by omega
  rw[oA n,bB];obtain⟨c,m⟩:=aLA (x.cls[q]);rw[m];by_cases e:kK c≠0
  ·have p:tC c k l (qV k t)=c:=if_pos e;have o:yE x.acs.length c k l (qV k t)=[]:=if_pos e;have E:dP x q c []=x:=by rw[fX,←m,bH]
   rw[p,o,E];exact aFs W own y x V q k l t h n c m e f j s u w
  ·have a:kK c=0:=aH e;have g:c.up=true∧c.busy=false:=by
    unfold kK at a;cases hu:c.up with
    |false=>rw[hu]at a;simp at a
    |true=>
     cases b:c.busy with
     |true=>rw[hu,b]at a;simp at a
     |false=>exact⟨rfl,rfl⟩
   have p:tC c k l (qV k t)=mW (nI c k l (qV k t)):=if_neg e;have o:yE x.acs.length c k l (qV k t)=kG c.id k l (qV k t)::kJ x.acs.length (nI c k l (qV k t)):=if_neg e;rw[p,o,a];obtain⟨lk,rfl⟩:∃lk:Nat,l=(lk:Int):=⟨l.toNat,by omega⟩;refine aHr W own y x V N q k lk t _ h hok hN n c m g.1 g.2 (by omega) ?_;by_cases d:k≤2
   ·exact Or.inl ⟨f,d,if_pos d,w d⟩
   ·exact Or.inr ⟨by omega,j,if_neg d⟩
end
end Go.Proofs.YtbbdgokdfhdpiaaGreatDoor
