/- A part of the proof: RfTop1, RfTop2, RfTop3, RfTop4, RfTop5, RfTop6, RfAft. -/
import Derived.Test.YtbbdgokdfhdpiaaGreatDoorA18
import Derived.Test.YtbbdgokdfhdpiaaGreatDoorA21
import Derived.Test.YtbbdgokdfhdpiaaGreatDoorA24
namespace Go.Proofs.YtbbdgokdfhdpiaaGreatDoor
set_option linter.all false
set_option maxRecDepth 100000
set_option maxHeartbeats 40000000
open Go.Proofs.Tryz Go.RowKit
structure aLf(x:Rm)(m:Mg):Prop where
 l0:0≤m.lock
 l3:m.lock≤3
 e0:0≤m.base
 e1:m.base≤256255
 v:lI m.val
 k1:1≤m.kind
 k5:m.kind≤5
 d0:0≤m.dst
 toA:m.kind=1∨m.kind=3→m.dst<(x.acs.length:Int)
 toC:¬(m.kind=1∨m.kind=3)→m.dst<(x.cls.length:Int)
structure aLj(a:Ra):Prop where
 len:a.log.length≤1000000000
 by_:∀x ∈ a.log,0≤x∧x<256
 l0: -1≤a.left
 l1:a.left≤9223372036854775807
 k0:0≤a.keep
structure tU(N:Int)(x:Rm):Prop where
 cls:∀i (h:i<x.cls.length),RcA N x.cls[i]∧(x.cls[i].busy=true→RcB x.cf N x.cls[i]∧x.cls[i].heard.length≤3∧x.cls[i].back.length≤3∧∀m ∈ x.cls[i].heard,lI m.val)
 acs:∀i (h:i<x.acs.length),aLj x.acs[i]
 n5:x.acs.length≤5
 c4:x.cls.length≤4
 net:(x.net.length:Int)≤N
 tr:(x.tr.length:Int)≤N
 msgs:∀m ∈ x.net,aLf x m
 f0:1≤x.cf.f
 f1:x.cf.f≤2
 d0:0≤x.cf.drift
 d1:x.cf.drift≤10
 rest:∀i (h:i<x.cls.length),0≤x.cls[i].at_∧x.cls[i].at_≤N∧x.cls[i].heard.length≤5∧x.cls[i].back.length≤5
 ids:∀i (h:i<x.cls.length),x.cls[i].id=(i:Int)
def nZ(x:Rm)(i:Int):Rc:=x.cls.getD i.toNat (gP 0 0 true)
def xG(x:Rm)(i:Int):Int:=if dT i x.cls.length=true then zF (nZ x i)else 1
def yB(x:Rm)(i:Int):Rm:=if dT i x.cls.length=true then dP x i.toNat (vZ x.cf (nZ x i)) (aAX x.cf x.acs.length (nZ x i))else x
def aAJ(x:Rm)(i l:Int):Bool:=dT i x.cls.length&&(dT l 4&&aDl (nZ x i) l)
def aDv(x:Rm)(i:Int):Bool:=dT i x.cls.length&&aE5 (nZ x i)
theorem oG{x:Rm}{k:Nat}(h:k<x.cls.length):nZ x (k:Int)=x.cls[k]:=by
 unfold nZ;rw[bB,aQ,aP h]
 rfl
theorem kS(k n:Nat)(h:k<n):dT (k:Int) n=true:=by rw[dY];omega
theorem kY(i:Int)(n:Nat):(decide (i<0)=true∧dT i n=false)∨(decide (i<0)=false∧decide ((n:Int)≤i)=true∧dT i n=false)∨∃k:Nat,i=(k:Int)∧k<n:=by
 by_cases b:i<0
 ·left;exact⟨by simp[b],by rw[sO];omega⟩
 ·by_cases a:(n:Int)≤i
  ·right;left;exact⟨by simp;omega,by simp[a],by rw[sO];omega⟩
  ·right;right;exact⟨i.toNat,by omega,by omega⟩
theorem aHJ(W:World)(own:Nat→Nat)(y:Nat)(x:Rm)(V:RmV)(N i:Int)(h:RmAt W own y x V)(hok:tU N x)(hN:N≤80000000000):
 Calls prog 114 #[.pointer (some ⟨y,0,none⟩),.int .i64 i] W fun r W'=>r= .returned (.int .i64 (xG x i))∧RmTo W own y V (yB x i) W':=by
 obtain⟨X,P,j,f⟩:=fK h.rcv;have y8:W.cell? ⟨y,8,none⟩=some (.slice X x.cls.length P):=by rw[←j];exact h.cell 8 _ rfl
 have Y:=hok.c4;unfold xG yB;rcases kY i x.cls.length with⟨Q,o⟩|⟨Q,a3,o⟩|⟨k,rfl,v⟩
 ·rw[o];simp only[aU,if_false];have L:=cN (RmTo.of h);clear h j f o;go_enter func114,ntmps114;go_wp2_with fail;go_ret;exact⟨rfl,L.out⟩
 ·rw[o];simp only[aU,if_false];have L:=cN (RmTo.of h);clear h j f o;go_enter func114,ntmps114;go_wp2_with fail;go_ret;exact⟨rfl,L.out⟩
 ·rw[kS k _ v,oG v,bB];simp only[if_true];obtain⟨c,u⟩:=aLx (x.cls[k]);obtain⟨m,s⟩:=hok.cls k v;rw[u]at m s⊢;obtain⟨g,rfl,J⟩:=f k v;obtain⟨B,t⟩:=aLw (V.bC k);have a7:W.cell? ⟨g,k,none⟩=some (.pointer (some ⟨B,0,none⟩)):=by rw[t];exact J
  have a:RcAt W B c (V.mv k) (V.hv k) (V.bv k):=by have:=h.cls k v;rw[u]at this;rw[t];exact this
  have U:W.cell? ⟨B,2,none⟩=some (.bool c.up):=a.cell 2 _ rfl;have a2:decide ((k:Int)<0)=false:=by simp
  have Z:decide ((x.cls.length:Int)≤(k:Int))=false:=by simp;omega
  cases hu:c.up with
  |false=>
   have E:zF c=2:=if_pos hu;have z:vZ x.cf c=c:=if_pos hu;have A:aAX x.cf x.acs.length c=[]:=if_pos hu;rw[E,z,A,fW,←u,bH];rw[hu]at U;have L:=cN (RmTo.of h);clear h j f J E z A u t a;go_enter func114,ntmps114;go_wp2_with fail;go_ret;exact⟨rfl,L.out⟩
  |true=>
   rw[hu]at U;have n:¬c.up=false:=by rw[hu];decide
   have E:zF c=0:=if_neg n;have z:vZ x.cf c=if c.busy=true∧x.cf.patience≤c.clock+1-c.at_ then tS x.cf {c with clock:=c.clock+1}else{c with clock:=c.clock+1}:=if_neg n
   have A:aAX x.cf x.acs.length c=if c.busy=true∧x.cf.patience≤c.clock+1-c.at_ then qV x.cf x.acs.length {c with clock:=c.clock+1}else[]:=if_neg n
   rw[E];have b3:W.cell? ⟨B,3,none⟩=some (.int .i64 c.clock):=a.cell 3 _ rfl;have z3:W.frozen? ⟨B,3,none⟩=false:=cX a.blk 3;have w1:IntKind.i64.wrap (c.clock+1)=c.clock+1:=fX (by have:=m.k0;omega) (by have:=m.k1;omega);have d:(W.setCell ⟨B,3,none⟩ (.int .i64 (c.clock+1))).heap[B]?=some (.cells (rcL {c with clock:=c.clock+1} (V.mv k) (V.hv k) (V.bv k)).toArray 182 (0,0)):=dD a.blk 3 _;have p:=cY W B 3 (.int .i64 (c.clock+1));have o:=h.cells v {c with clock:=c.clock+1} (by rw[←t];exact p) (by rw[←t];exact d) (by rw[u]) (by rw[u]) (by rw[u]);have D:Chg (fun q=>own q≠0) W (W.setCell ⟨B,3,none⟩ (.int .i64 (c.clock+1))):=p.mono (fun q _ e=>by subst e;have:=h.clo k v;rw[t];omega);generalize C:W.setCell ⟨B,3,none⟩ (.int .i64 (c.clock+1))=W1 at*;have H:=cN C;have M:W1.cell? ⟨B,37,none⟩=some (.bool c.busy):=cO d 37 _ rfl;have d3:W1.cell? ⟨B,3,none⟩=some (.int .i64 (c.clock+1)):=cO d 3 _ rfl;have a5:W1.cell? ⟨B,45,none⟩=some (.int .i64 c.at_):=cO d 45 _ rfl;have y2:W1.cell? ⟨y,2,none⟩=some (.int .i64 x.cf.patience):=o.cell 2 _ rfl;have K:=cN (aLl o D);cases hbz:c.busy with
   |false=>
    rw[hbz]at M;have I:¬(c.busy=true∧x.cf.patience≤c.clock+1-c.at_):=by rw[hbz];simp
    rw[z,A,if_neg I,if_neg I,fW];clear h j f J E z A u t a d p o D C I hu n s;go_enter func114,ntmps114;go_wp2_with (first|rw[H.out]);refine eD [0,0,0,1,0,0,0,0,1,0,0,0,1,0,0,0,0,0,1,0,0] (by kernel_rfl) (fun _ _ _ _=>rfl) ?_;simp only[dC,dB];iterate 21 ((try simp only[pA]);first|(apply sB rfl rfl;·(intro x h;(try cases h rfl);go_simp;with_reducible rfl))|apply dN rfl|apply dL rfl)
    refine cP ?_;try simp only[pA]
    go_wp2_with fail;go_ret;exact⟨rfl,RmTo.trans (own1:=own) (V1:=V) rfl rfl K.out.2 (fun _ h=>Or.inl h) (RmTo.of K.out.1 |>.after (S:=NoS) (Chg.refl _ _).drew (fun _ _ h=>h))⟩
   |true=>
    rw[hbz]at M;obtain⟨b,a8,a6,a4⟩:=s hbz;have G:({x with cls:=x.cls.set k {c with clock:=c.clock+1}}:Rm).cls[k]'(by simpa using v)={c with clock:=c.clock+1}:=by simp
    have O:=cN (zI W1.drew own y {x with cls:=x.cls.set k {c with clock:=c.clock+1}} V k {c with clock:=c.clock+1} (N+1) o.drew (by simpa using v) G ⟨m.d0,m.d3,m.i0,m.i1,by have:=m.k0;show 0≤c.clock+1;omega,by have:=m.k1;show c.clock+1≤N+1;omega,m.r0,m.r1,fun l Q h3=>by have:=m.w l Q h3;exact⟨this.1,by show(c.wat l).at_≤N+1;omega⟩⟩ ⟨b.l0,b.l3,b.t0,b.t1,b.g0,by have:=b.g1;show c.began≤N+1;omega,b.n0,b.n8,b.a0,by have:=b.a1;show c.at_≤N+1;omega,by have:=b.mine;show(c.mine.length:Int)≤N+1;omega,b.heard,b.back⟩ (by omega) hok.n5 (by have:=hok.net;show x.net.length≤_;omega) (by have:=hok.tr;show x.tr.length≤_;omega));rw[←t,sV]at O;have w2:IntKind.i64.wrap (c.clock+1-c.at_)=c.clock+1-c.at_:=fX (by have:=m.k0;have:=b.a1;omega) (by have:=m.k1;have:=b.a0;omega);by_cases F:x.cf.patience≤c.clock+1-c.at_
    ·have R:decide (x.cf.patience≤c.clock+1-c.at_)=true:=by simp[F]
     rw[z,A,if_pos ⟨hbz,F⟩,if_pos ⟨hbz,F⟩];clear h j f J E z A u t a d p o D C hu n s F G;go_enter func114,ntmps114;go_wp2_with (first|rw[H.out]);refine eD [0,0,0,1,0,0,0,0,1,0,0,0,1,0,0,0,0,0,1,0,0] (by kernel_rfl) (fun _ _ _ _=>rfl) ?_;simp only[dC,dB];iterate 21 ((try simp only[pA]);first|(apply sB rfl rfl;·(intro x h;(try cases h rfl);go_simp;with_reducible rfl))|apply dN rfl|apply dL rfl)
     refine cP ?_;try simp only[pA]
     go_wp2_with (go_at_call 151;refine O.out.mono ?_;rintro e W2 ⟨rfl,T⟩);go_ret;exact⟨rfl,RmTo.trans (own1:=own) (V1:=V) rfl rfl K.out.2 (fun _ h=>Or.inl h) T.drew⟩
    ·have R:decide (x.cf.patience≤c.clock+1-c.at_)=false:=by simp;omega
     rw[z,A,if_neg (fun h=>F h.2),if_neg (fun h=>F h.2),fW];clear h j f J E z A u t a d p o D C hu n s F G;go_enter func114,ntmps114;go_wp2_with (first|rw[H.out]);refine eD [0,0,0,1,0,0,0,0,1,0,0,0,1,0,0,0,0,0,1,0,0] (by kernel_rfl) (fun _ _ _ _=>rfl) ?_;simp only[dC,dB];iterate 21 ((try simp only[pA]);first|(apply sB rfl rfl;·(intro x h;(try cases h rfl);go_simp;with_reducible rfl))|apply dN rfl|apply dL rfl)
     refine cP ?_;try simp only[pA]
     go_wp2_with fail;go_ret;exact⟨rfl,RmTo.trans (own1:=own) (V1:=V) rfl rfl K.out.2 (fun _ h=>Or.inl h) (RmTo.of K.out.1 |>.after (S:=NoS) (Chg.refl _ _).drew (fun _ _ h=>h))⟩
section
variable (W:World) (own:Nat→Nat) (y:Nat) (x:Rm) (V:RmV)
theorem aFy(N i l:Int)(h:RmAt W own y x V)(hok:tU N x):
 Calls prog 108 #[.pointer (some ⟨y,0,none⟩),.int .i64 i,.int .i64 l] W fun r W'=>r= .returned (.bool (aAJ x i l))∧Below W.heap.size W W':=by
 obtain⟨v,n,d,a⟩:=fK h.rcv;have H:W.cell? ⟨y,8,none⟩=some (.slice v x.cls.length n):=by rw[←d];exact h.cell 8 _ rfl
 have A:=hok.c4;unfold aAJ;rcases kY i x.cls.length with⟨w,m⟩|⟨w,E,m⟩|⟨k,rfl,p⟩
 ·rw[m];simp only[Bool.false_and];clear h d a m;go_enter func108,ntmps108;go_wp2_with fail;go_ret;exact⟨rfl,aJ _ _⟩
 ·rw[m];simp only[Bool.false_and];clear h d a m;go_enter func108,ntmps108;go_wp2_with fail;go_ret;exact⟨rfl,aJ _ _⟩
 ·rw[kS k _ p,oG p];simp only[Bool.true_and];obtain⟨c,f⟩:=aLx (x.cls[k]);rw[f];obtain⟨g,rfl,o⟩:=a k p;obtain⟨B,e⟩:=aLw (V.bC k);have F:W.cell? ⟨g,k,none⟩=some (.pointer (some ⟨B,0,none⟩)):=by rw[e];exact o
  have b:RcAt W B c (V.mv k) (V.hv k) (V.bv k):=by have:=h.cls k p;rw[f]at this;rw[e];exact this
  have z:W.cell? ⟨B,2,none⟩=some (.bool c.up):=b.cell 2 _ rfl;have K:W.cell? ⟨B,3,none⟩=some (.int .i64 c.clock):=b.cell 3 _ rfl;have D:decide ((k:Int)<0)=false:=by simp
  have C:decide ((x.cls.length:Int)≤(k:Int))=false:=by simp;omega
  rcases kY l 4 with⟨u,j⟩|⟨u,s,j⟩|⟨q,rfl,t⟩
  ·rw[j];simp only[Bool.false_and];clear h d a o f e b j;go_enter func108,ntmps108;go_wp2_with fail;go_ret;exact⟨rfl,aJ _ _⟩
  ·rw[j];simp only[Bool.false_and];have L:decide (3<l)=true:=by simp at s;simp;omega
   clear h d a o f e b j;go_enter func108,ntmps108;go_wp2_with fail;go_ret;exact⟨rfl,aJ _ _⟩
  ·rw[kS q _ t];simp only[Bool.true_and];have bq:W.cell? ⟨B,9+q,none⟩=some (.int .i64 (c.til q)):=b.cell (9+q) _ (oY _ _ _ _ q (by omega));have G:decide ((q:Int)<0)=false:=by simp
   have I:decide (3<(q:Int))=false:=by simp;omega
   have J:(q:Int)<4:=by omega
   unfold aDl;cases hu:c.up;all_goals
    rw[hu]at z;clear h d a o f e b hu;go_enter func108,ntmps108;go_wp2_with fail;refine eD [0,0,0,1,0,0,0,0,0,0,1,0,0,0,1,0,0,0] (by kernel_rfl) (fun _ _ _ _=>rfl) ?_;simp only[dC,dB];iterate 18 ((try simp only[pA]);first|(apply sB rfl rfl;·(intro x h;(try cases h rfl);go_simp;with_reducible rfl))|apply dN rfl|apply dL rfl)
    refine cP ?_;try simp only[pA]
    go_wp2_with fail;go_ret;exact⟨by simp,⟨rfl,rfl,rfl,aE _,fun _ _=>rfl⟩⟩
theorem aHC(N i:Int)(h:RmAt W own y x V)(hok:tU N x):
 Calls prog 110 #[.pointer (some ⟨y,0,none⟩),.int .i64 i] W fun r W'=>r= .returned (.bool (aDv x i))∧Below W.heap.size W W':=by
 obtain⟨p,j,b,a⟩:=fK h.rcv;have A:W.cell? ⟨y,8,none⟩=some (.slice p x.cls.length j):=by rw[←b];exact h.cell 8 _ rfl
 have u:=hok.c4;unfold aDv;by_cases f:0≤i
 ·have q:decide (0≤i)=true:=by simp[f]
  by_cases v:i<(x.cls.length:Int)
  ·obtain⟨k,rfl⟩:∃k:Nat,i=(k:Int):=⟨i.toNat,by omega⟩;have l:k<x.cls.length:=by omega
   rw[kS k _ l,oG l];simp only[Bool.true_and];obtain⟨c,n⟩:=aLx (x.cls[k]);rw[n];obtain⟨g,rfl,o⟩:=a k l;obtain⟨B,m⟩:=aLw (V.bC k);have z:W.cell? ⟨g,k,none⟩=some (.pointer (some ⟨B,0,none⟩)):=by rw[m];exact o
   have d:RcAt W B c (V.mv k) (V.hv k) (V.bv k):=by have:=h.cls k l;rw[n]at this;rw[m];exact this
   have s:W.cell? ⟨B,2,none⟩=some (.bool c.up):=d.cell 2 _ rfl;have w:W.cell? ⟨B,37,none⟩=some (.bool c.busy):=d.cell 37 _ rfl;have t:decide ((k:Int)<(x.cls.length:Int))=true:=by simp;omega
   unfold aE5;cases hu:c.up;all_goals
    rw[hu]at s;clear h b a o n m d hu f;go_enter func110,ntmps110;go_wp2_with fail;go_ret;exact⟨by simp,⟨rfl,rfl,rfl,aE _,fun _ _=>rfl⟩⟩
  ·have t:decide (i<(x.cls.length:Int))=false:=by simp;omega
   have e:dT i x.cls.length=false:=by rw[sO];omega
   rw[e];simp only[Bool.false_and];clear h b a e;go_enter func110,ntmps110;go_wp2_with fail;go_ret;exact⟨by simp,⟨rfl,rfl,rfl,aE _,fun _ _=>rfl⟩⟩
 ·have q:decide (0≤i)=false:=by simp;omega
  have e:dT i x.cls.length=false:=by rw[sO];omega
  rw[e];simp only[Bool.false_and];clear h b a e;go_enter func110,ntmps110;go_wp2_with fail;go_ret;exact⟨by simp,⟨rfl,rfl,rfl,aE _,fun _ _=>rfl⟩⟩
end
theorem pZ(W:World)(y:Nat)(i:Int)(p:Option Addr)(n cap:Nat)(hc:W.cell? ⟨y,9,none⟩=some (.slice p n cap)):
 Calls prog 152 #[.pointer (some ⟨y,0,none⟩),.int .i64 i] W fun r W'=>r= .returned (.bool (dT i n))∧W'=W:=by
 by_cases a:0≤i
 ·have d:decide (0≤i)=true:=by simp[a]
  by_cases b:i<(n:Int)
  ·have e:decide (i<(n:Int))=true:=by simp[b]
   have c:dT i n=true:=by rw[dY];exact⟨a,b⟩
   rw[c];clear c a b;go_enter func152,ntmps152;go_wp2_with fail;go_ret;exact⟨by simp,rfl⟩
  ·have e:decide (i<(n:Int))=false:=by simp;omega
   have c:dT i n=false:=by rw[sO];omega
   rw[c];clear c a b;go_enter func152,ntmps152;go_wp2_with fail;go_ret;exact⟨by simp,rfl⟩
 ·have d:decide (0≤i)=false:=by simp;omega
  have c:dT i n=false:=by rw[sO];omega
  rw[c];clear c a;go_enter func152,ntmps152;go_wp2_with fail;go_ret;exact⟨by simp,rfl⟩
def tJ(x:Rm)(i:Int):Ra:=x.acs.getD i.toNat oM
theorem qC{x:Rm}{k:Nat}(h:k<x.acs.length):tJ x (k:Int)=x.acs[k]:=by
 unfold tJ;rw[bB,aQ,aP h]
 rfl
def aGC(x:Rm)(i:Int):Int:=if dT i x.acs.length=true then 0 else 1
def aGE(x:Rm)(i:Int):List Int:=if dT i x.acs.length=true then(tJ x i).log else[]
def vG(x:Rm)(i:Int):Int:=if dT i x.acs.length=true then(if(tJ x i).up=false then 2 else 0)else 1
def yE(x:Rm)(i:Int):List Rw:=if vG x i=0 then eG (dO (tJ x i).log) 4 else[]
section
variable (W:World) (own:Nat→Nat) (y:Nat) (x:Rm) (V:RmV) (N i:Int)
theorem aJa(h:RmAt W own y x V)(hok:tU N x):
 Calls prog 112 #[.pointer (some ⟨y,0,none⟩),.int .i64 i] W fun r W'=>r= .returned (.tuple #[.string (strOfNums (aGE x i)),.int .i64 (aGC x i)])∧Below W.heap.size W W':=by
 obtain⟨n,f,b,a⟩:=fK h.rav;have w:W.cell? ⟨y,7,none⟩=some (.slice n x.acs.length f):=by rw[←b];exact h.cell 7 _ rfl
 have p:=hok.n5;unfold aGC aGE;rcases kY i x.acs.length with⟨o,c⟩|⟨o,t,c⟩|⟨k,rfl,j⟩
 ·rw[c];simp only[aU,if_false];have e:strOfNums []=⟨#[]⟩:=rfl;rw[e];clear h b a c;go_enter func112,ntmps112;go_wp2_with fail
  go_ret2
  exact⟨rfl,aJ _ _⟩
 ·rw[c];simp only[aU,if_false];have e:strOfNums []=⟨#[]⟩:=rfl;rw[e];clear h b a c;go_enter func112,ntmps112;go_wp2_with fail
  go_ret2
  exact⟨rfl,aJ _ _⟩
 ·rw[kS k _ j,qC j];simp only[if_true];obtain⟨g,rfl,m⟩:=a k j;obtain⟨B,l⟩:=aLw (V.bA k);have u:W.cell? ⟨g,k,none⟩=some (.pointer (some ⟨B,0,none⟩)):=by rw[l];exact m
  have d:RaAt W B x.cf x.acs[k]:=by rw[l];exact h.acs k j
  have v:W.cell? ⟨B,7,none⟩=some (.string (strOfNums x.acs[k].log)):=cO d 7 _ rfl;generalize x.acs[k].log=L at*;have s:decide ((k:Int)<0)=false:=by simp
  have q:decide ((x.acs.length:Int)≤(k:Int))=false:=by simp;omega
  clear h b a m l d;go_enter func112,ntmps112;go_wp2_with fail
  go_ret2
  exact⟨rfl,aJ _ _⟩
theorem aFW(h:RmAt W own y x V)(hok:tU N x):
 Calls prog 111 #[.pointer (some ⟨y,0,none⟩),.int .i64 i] W fun r W'=>∃v,r= .returned (.tuple #[v,.int .i64 (vG x i)])∧W'.ownsRow W.heap.size 58 7 v (yE x i).length (cellsOf (yE x i))∧Below W.heap.size W W':=by
 obtain⟨t,m,c,b⟩:=fK h.rav;have G:W.cell? ⟨y,7,none⟩=some (.slice t x.acs.length m):=by rw[←c];exact h.cell 7 _ rfl
 have z:=hok.n5;unfold yE vG;rcases kY i x.acs.length with⟨u,l⟩|⟨u,D,l⟩|⟨k,rfl,j⟩
 ·rw[l];simp only[aU,if_false];rw[if_neg (by decide)];clear h c b l;go_enter func111,ntmps111;go_wp2_with fail
  go_ret2
  exact⟨_,rfl,aZ _ _ _ _,aJ _ _⟩
 ·rw[l];simp only[aU,if_false];rw[if_neg (by decide)];clear h c b l;go_enter func111,ntmps111;go_wp2_with fail
  go_ret2
  exact⟨_,rfl,aZ _ _ _ _,aJ _ _⟩
 ·rw[kS k _ j,qC j];simp only[if_true];obtain⟨g,rfl,o⟩:=b k j;obtain⟨B,n⟩:=aLw (V.bA k);have E:W.cell? ⟨g,k,none⟩=some (.pointer (some ⟨B,0,none⟩)):=by rw[n];exact o
  have d:RaAt W B x.cf x.acs[k]:=by rw[n];exact h.acs k j
  have f:=hok.acs k j;have p:=cN (wY W B x.cf x.acs[k] d f.len f.by_);generalize x.acs[k]=a at*;have q:W.cell? ⟨B,8,none⟩=some (.bool a.up):=cO d 8 _ rfl;have C:decide ((k:Int)<0)=false:=by simp
  have A:decide ((x.acs.length:Int)≤(k:Int))=false:=by simp;omega
  cases hu:a.up with
  |false=>
   rw[hu]at q;simp only[if_true];rw[if_neg (by decide)];clear h c b o n d hu;go_enter func111,ntmps111;go_wp2_with fail
   go_ret2
   exact⟨_,rfl,aZ _ _ _ _,aJ _ _⟩
  |true=>
   rw[hu]at q;simp only[Bool.true_eq_false,if_false,if_true];generalize eG (dO a.log) 4=T at*;clear h c b o n d hu f;go_enter func111,ntmps111;go_wp2_with (go_at_call 149;refine p.out.mono ?_;rintro e F ⟨v,rfl,w,s⟩)
   go_ret2
   exact⟨v,rfl,w,s⟩
end
theorem aGZ(f:Nat→Nat)(n k b:Nat)(hk:k<n):(mZ f n).set k (rE b)=mZ (fun j=>if j=k then b else f j) n:=by
 apply List.ext_getElem
 ·simp
 ·intro j d a;have c:j<n:=by simpa using a
  rw[List.getElem_set];by_cases e:k=j
  ·subst e;simp
  ·rw[if_neg e];simp[Ne.symm e]
abbrev eU:Value:=.slice none 0 0
theorem RmAt.renew{W W1:World}{own:Nat→Nat}{y:Nat}{x:Rm}{V:RmV}(h:RmAt W own y x V){k:Nat}(hk:k<x.cls.length){n g cap:Nat}{c':Rc}(h01:Chg NoS W W1)(hn:W.heap.size≤n)
 (hb:W1.heap[n]?=some (.cells (rcL c' eU eU eU).toArray 182 (0,0))) (hm:c'.mine=[]) (hh:c'.heard=[]) (hbk:c'.back=[]) (hcv:V.cv= .slice (some ⟨g,0,none⟩) x.cls.length cap):
 ∃own' V',RmAt (W1.setCell ⟨g,k,none⟩ (rE n)) own' y {x with cls:=x.cls.set k c'} V'∧V'.tv=V.tv∧Chg (fun q=>own q≠0) W (W1.setCell ⟨g,k,none⟩ (rE n))∧∀q,own' q≠0→own q≠0∨W.heap.size≤q:=by
 have hog:own g=5:=h.cvo g (by rw[hcv];rfl);have hgl:g<W.heap.size:=h.lt g (by omega);have hn1:n<W1.heap.size:=dG hb;have hc1:=cY W1 g k (rE n);have hc:Chg (fun q=>own q=5) W (W1.setCell ⟨g,k,none⟩ (rE n)):=(h01.mono (T:=fun q=>own q=5) (fun _ _ h=>h.elim)).trans hc1 (fun q _ e=>by subst e;exact hog);have hng:n≠g:=by omega
 have hnb:=hc1.kept hb hng;have hrow1:=h01.row h.rcv (fun _ _ h=>h);rw[hcv]at hrow1;have hrow2:=(hrow1.stored k (rE n)).1;rw[aGZ _ _ _ _ hk]at hrow2;generalize hW2:W1.setCell ⟨g,k,none⟩ (rE n)=W2 at*;have hs2:W1.heap.size≤W2.heap.size:=hc1.size;have hs1:=h01.size
 let f:Nat→Nat:=fun q=>if q=n then 7+5*k else 0
 have hold:∀{q p:Nat},p≠0→own q=p→lS W own f q=p:=fun hp h'=>uD h.lt hp h';have hblk:∀q,own q≠0→own q≠5→W2.heap[q]?=W.heap[q]?:=fun q h0 h5=>hc.block q (h.lt q h0) h5;have hnew:lS W own f n=7+5*k:=by rw[gK hn];simp[f]
 refine⟨lS W own f,{V with bC:=fun j=>if j=k then n else V.bC j,mv:=fun j=>if j=k then eU else V.mv j,hv:=fun j=>if j=k then eU else V.hv j,bv:=fun j=>if j=k then eU else V.bv j},?_,rfl,hc.mono (fun q _ hq=>by omega),fun q hq=>?_⟩
 ·exact{
   blk:=(hblk y (by rw[h.yo];decide) (by rw[h.yo];decide)).trans h.blk
   yo:=hold (by decide) h.yo
   net:=dF h.net fun q hq=>by have:=h.nvo q hq;exact hblk q (by omega) (by omega)
   tr:=dF h.tr fun q hq=>by have:=h.tvo q hq;exact hblk q (by omega) (by omega)
   rav:=dF h.rav fun q hq=>by have:=h.avo q hq;exact hblk q (by omega) (by omega)
   rcv:=by
    show W2.ownsRow 0 _ 1 V.cv (x.cls.set k c').length (mZ _ (x.cls.set k c').length);rw[bV,hcv];exact hrow2
   nvo:=fun q hq=>hold (by decide) (h.nvo q hq)
   tvo:=fun q hq=>hold (by decide) (h.tvo q hq)
   avo:=fun q hq=>hold (by decide) (h.avo q hq)
   cvo:=fun q hq=>hold (by decide) (h.cvo q hq)
   acs:=fun j hj=>by have:=h.aco j hj;exact(hblk (V.bA j) (by omega) (by omega)).trans (h.acs j hj)
   aco:=fun j hj=>hold (by omega) (h.aco j hj)
   cls:=fun j hj=>by
    have hj':j<x.cls.length:=by simpa using hj
    by_cases hji:j=k
    ·subst hji;simp only[bZ,if_true];exact⟨hnb,by rw[hm];exact aZ _ _ _ _,by rw[hh];exact aZ _ _ _ _,by rw[hbk];exact aZ _ _ _ _⟩
    ·simp only[List.getElem_set_ne (Ne.symm hji),if_neg hji];have q1:=h.clo j hj';exact(h.cls j hj').of_heap (hblk (V.bC j) (by omega) (by omega)) (fun q hq=>by have:=h.mo j hj' q hq;exact hblk q (by omega) (by omega)) (fun q hq=>by have:=h.ho j hj' q hq;exact hblk q (by omega) (by omega)) (fun q hq=>by have:=h.bo j hj' q hq;exact hblk q (by omega) (by omega))
   clo:=fun j hj=>by
    have hj':j<x.cls.length:=by simpa using hj
    by_cases hji:j=k
    ·subst hji;simp only[if_true];exact hnew
    ·simp only[if_neg hji];exact hold (by omega) (h.clo j hj')
   mo:=fun j hj q hq=>by
    have hj':j<x.cls.length:=by simpa using hj
    by_cases hji:j=k
    ·subst hji;simp only[if_true]at hq;cases hq
    ·simp only[if_neg hji]at hq;exact hold (by omega) (h.mo j hj' q hq)
   ho:=fun j hj q hq=>by
    have hj':j<x.cls.length:=by simpa using hj
    by_cases hji:j=k
    ·subst hji;simp only[if_true]at hq;cases hq
    ·simp only[if_neg hji]at hq;exact hold (by omega) (h.ho j hj' q hq)
   bo:=fun j hj q hq=>by
    have hj':j<x.cls.length:=by simpa using hj
    by_cases hji:j=k
    ·subst hji;simp only[if_true]at hq;cases hq
    ·simp only[if_neg hji]at hq;exact hold (by omega) (h.bo j hj' q hq)
   lt:=fun q hq=>by
    rcases Nat.lt_or_ge q W.heap.size with h'|h'
    ·omega
    ·rw[gK h']at hq;simp only[f]at hq;split at hq
     ·omega
     ·exact absurd rfl hq}
 ·rcases Nat.lt_or_ge q W.heap.size with h'|h'
  ·rw[pB h']at hq;exact Or.inl hq
  ·exact Or.inr h'
def xJ(x:Rm)(i:Int):Int:=if dT i x.cls.length=true then aBi (nZ x i)else 1
def xR(x:Rm)(i:Int):Rm:=if dT i x.cls.length=true then dP x i.toNat (wV (nZ x i)) (aBx (nZ x i) i)else x
theorem aHR(W:World)(own:Nat→Nat)(y:Nat)(x:Rm)(V:RmV)(N i:Int)(h:RmAt W own y x V)(hok:tU N x)(hN:N≤80000000000):
 Calls prog 118 #[.pointer (some ⟨y,0,none⟩),.int .i64 i] W fun r W'=>r= .returned (.int .i64 (xJ x i))∧RmGo W own y (xR x i) W':=by
 obtain⟨ie,a3,a4,a0,a5⟩:=info_parts nS;obtain⟨pc,s,d,j⟩:=fK h.rcv;have Z:W.cell? ⟨y,8,none⟩=some (.slice pc x.cls.length s):=by rw[←d];exact h.cell 8 _ rfl
 have b9:=hok.c4;unfold xJ xR;rcases kY i x.cls.length with⟨h0,K⟩|⟨h0,c1,K⟩|⟨k,rfl,A⟩
 ·rw[K];simp only[aU,if_false];have J:=cN (RmGo.of h);clear h d j K;go_enter func118,ntmps118;go_wp2_with fail;go_ret;exact⟨rfl,J.out⟩
 ·rw[K];simp only[aU,if_false];have J:=cN (RmGo.of h);clear h d j K;go_enter func118,ntmps118;go_wp2_with fail;go_ret;exact⟨rfl,J.out⟩
 ·rw[kS k _ A,oG A,bB];simp only[if_true];obtain⟨c,F⟩:=aLx (x.cls[k]);rw[F];obtain⟨g,rfl,hg⟩:=j k A;obtain⟨B,X⟩:=aLw (V.bC k);have a9:W.cell? ⟨g,k,none⟩=some (.pointer (some ⟨B,0,none⟩)):=by rw[X];exact hg
  have f:RcAt W B c (V.mv k) (V.hv k) (V.bv k):=by have:=h.cls k A;rw[F]at this;rw[X];exact this
  have b2:W.cell? ⟨B,2,none⟩=some (.bool c.up):=f.cell 2 _ rfl;have c0:decide ((k:Int)<0)=false:=by simp
  have c3:decide ((x.cls.length:Int)≤(k:Int))=false:=by simp;omega
  cases hu:c.up with
  |false=>
   have E:aBi c=2:=if_pos hu;have G:wV c=c:=if_pos hu;have D:aBx c k=[]:=if_pos hu;rw[E,G,D,fW,←F,bH];rw[hu]at b2;have J:=cN (RmGo.of h);clear h d j hg E G D F X f;go_enter func118,ntmps118;go_wp2_with fail;go_ret;exact⟨rfl,J.out⟩
  |true=>
   rw[hu]at b2;have n:¬c.up=false:=by rw[hu];decide
   have E:aBi c=0:=if_neg n;have G:wV c=gP c.id c.inc false:=if_neg n;have D:aBx c k=[eO (-1-(k:Int))]:=if_neg n;rw[E,G,D];have b0:W.cell? ⟨B,0,none⟩=some (.int .i64 c.id):=f.cell 0 _ rfl;have Y:W.cell? ⟨B,1,none⟩=some (.int .i64 c.inc):=f.cell 1 _ rfl;have zg:W.frozen? ⟨g,k,none⟩=false:=by have:=h.rcv;rw[d]at this;exact this.frozenAt k
   have H:=cN h;have c5:=cN f;have P:=cN d;have w1:IntKind.i64.wrap (-1-(k:Int))= -1-(k:Int):=fX (by omega) (by omega);have b8:wrap64 (-1-(k:Int))= -1-(k:Int):=by unfold wrap64;omega
   clear h d j hg E G D F X f hu n;go_enter func118,ntmps118;go_wp2_with fail;refine rlx [0,0,0,1,0,0,0,0,1,0,0,0,1,0,2,0] (fun z=>z.cell? ⟨y,8,none⟩=some (.slice (some ⟨g,0,none⟩) x.cls.length s)∧z.cell? ⟨B,0,none⟩=some (.int .i64 c.id)∧z.cell? ⟨B,1,none⟩=some (.int .i64 c.inc)) (by kernel_rfl) (fun _ _ _ _=>rfl) ?_ ?_
   ·exact⟨Z,b0,Y⟩
   simp only[dC,dB];iterate 14 (apply sB rfl rfl;·(intro x h;(try have h:=h rfl);(try dsimp only at h);go_simp;with_reducible rfl))
   try simp only[pA]
   refine dI rfl (fun C hC=>?_);go_simp;have hZ:((zeroCells182.setIfInBounds 0 (.int .i64 c.id)).setIfInBounds 1 (.int .i64 c.inc))=(rcL (gP c.id c.inc false) eU eU eU).toArray:=rfl;have b:Chg NoS W (W.alloc (.cells (rcL (gP c.id c.inc false) eU eU eU).toArray 182)).drew:=((Chg.refl _ _).alloc _).drew;have O:(W.alloc (.cells (rcL (gP c.id c.inc false) eU eU eU).toArray 182)).drew.heap[W.heap.size]?=_:=aA W (.cells (rcL (gP c.id c.inc false) eU eU eU).toArray 182);have a1:(W.alloc (.cells (rcL (gP c.id c.inc false) eU eU eU).toArray 182)).drew.heap.size=W.heap.size+1:=by simp
   refine hC _ _ ⟨b.cellN Z,b.cellN b0,b.cellN Y⟩ ?_;clear hC C;(try simp only[pA]);iterate 1 (apply sB rfl rfl;·(intro x h;(try have h:=h rfl);(try dsimp only at h);go_simp;with_reducible rfl))
   refine cP ?_;try simp only[pA]
   rw[hZ];obtain⟨b4,I,U,p,M,R⟩:=H.out.renew A b (aE _) O rfl rfl rfl P.out;have b7:=b.cellN a9;have c2:(W.alloc (.cells (rcL (gP c.id c.inc false) eU eU eU).toArray 182)).drew.frozen? ⟨g,k,none⟩=false:=by
    have:=b.row H.out.rcv (fun _ _ h=>h);rw[P.out]at this;exact this.frozenAt k
   generalize a2:(W.alloc (.cells (rcL (gP c.id c.inc false) eU eU eU).toArray 182)).drew=W1 at*;generalize Q:W1.setCell ⟨g,k,none⟩ (rE W.heap.size)=W2 at*;have a7:=cN Q;have w:=cN (aLn U p M R);have a6:W2.cell? ⟨y,10,none⟩=some I.tv:=U.cell 10 _ rfl;have m:=U.tr;have b5:=hok.tr;have t:=aA W2 (.cells (evL (eO (-1-(k:Int)))).toArray 70);clear hZ b O a1 a2 Q U p M R Z b0 Y b2;go_wp2_with (first|rw[a7.out]|(at_builtin;refine wpList_append_lies _ rfl _ _ 43 rfl 0 70 ie _ 19 152 underlying43 a3 a4 a0 a5 rfl (by decide) I.tv x.tr.length (cZ evL x.tr) rfl (m.alloc _) ⟨W2.heap.size,0,none⟩ 1 1 (evL (eO (-1-(k:Int)))) rfl rfl (cR t) (nY _) (by decide) (by unfold maxLen;omega) (by omega) (aI _) (W2.heap.size+1) (by simp) ?_;intro gt b3 W3 l a o S;refine cQ ?_));have L:=w.out.1.trAppend (e:=eO (-1-(k:Int))) (W1:=W2.alloc (.cells (evL (eO (-1-(k:Int)))).toArray 70)) ((Chg.refl _ _).alloc _) ⟨a.os,a.tape,a.output,a.size,a.block⟩ l (o.imp (fun h=>h) (fun h=>by simp;omega));have u:Chg (fun q=>some q=I.tv.ownBlock) W2 W3:=(((Chg.refl NoS W2).alloc _).mono (T:=fun q=>some q=I.tv.ownBlock) (fun _ _ h=>h.elim)).trans (Chg.of_grown ⟨a.os,a.tape,a.output,a.size,a.block⟩) (fun _ _ h=>h);have v:=u.kept w.out.1.blk (fun e=>by have:=w.out.1.tvo _ e.symm;have:=w.out.1.yo;omega);have b6:W3.cell? ⟨y,10,none⟩=some I.tv:=cO v 10 _ rfl;have c6:=cX v 10;have a8:=cN L;clear L u v l a o S t a6 m;refine cN ?_;go_wp2_with fail;go_ret;refine⟨rfl,RmGo.trans w.out.2.2.1 w.out.2.2.2 ?_⟩
   have e4:dP x k (gP c.id c.inc false) [eO (-1-(k:Int))]={x with cls:=x.cls.set k (gP c.id c.inc false),tr:=x.tr++[eO (-1-(k:Int))]}:=by
    unfold dP;rw[fE _ (by show(4:Int)≠1;decide),aC]
   rw[e4];exact a8.out.go
def rG(x:Rm)(i:Int):Int:=if dT i x.cls.length=true then nE (nZ x i)else 1
def rI(x:Rm)(i:Int):Rm:=if dT i x.cls.length=true then dP x i.toNat (oA (nZ x i)) (rM (nZ x i) i)else x
theorem aEi(W:World)(own:Nat→Nat)(y:Nat)(x:Rm)(V:RmV)(N i:Int)(h:RmAt W own y x V)(hok:tU N x)(hN:N≤80000000000):
 Calls prog 119 #[.pointer (some ⟨y,0,none⟩),.int .i64 i] W fun r W'=>r= .returned (.int .i64 (rG x i))∧RmGo W own y (rI x i) W':=by
 obtain⟨ie,a2,a3,a0,a4⟩:=info_parts nS;obtain⟨pc,A,b,l⟩:=fK h.rcv;have y8:W.cell? ⟨y,8,none⟩=some (.slice pc x.cls.length A):=by rw[←b];exact h.cell 8 _ rfl
 have c0:=hok.c4;unfold rG rI;rcases kY i x.cls.length with⟨h0,O⟩|⟨h0,c2,O⟩|⟨k,rfl,J⟩
 ·rw[O];simp only[aU,if_false];have F:=cN (RmGo.of h);clear h b l O;go_enter func119,ntmps119;go_wp2_with fail;go_ret;exact⟨rfl,F.out⟩
 ·rw[O];simp only[aU,if_false];have F:=cN (RmGo.of h);clear h b l O;go_enter func119,ntmps119;go_wp2_with fail;go_ret;exact⟨rfl,F.out⟩
 ·rw[kS k _ J,oG J,bB];simp only[if_true];obtain⟨c,t⟩:=aLx (x.cls[k]);rw[t];obtain⟨g,rfl,hg⟩:=l k J;obtain⟨B,L⟩:=aLw (V.bC k);have b3:W.cell? ⟨g,k,none⟩=some (.pointer (some ⟨B,0,none⟩)):=by rw[L];exact hg
  have d:RcAt W B c (V.mv k) (V.hv k) (V.bv k):=by have:=h.cls k J;rw[t]at this;rw[L];exact this
  have b2:W.cell? ⟨B,2,none⟩=some (.bool c.up):=d.cell 2 _ rfl;have c1:decide ((k:Int)<0)=false:=by simp
  have c5:decide ((x.cls.length:Int)≤(k:Int))=false:=by simp;omega
  cases hu:c.up with
  |true=>
   have j:nE c=3:=if_pos hu;have u:oA c=c:=if_pos (by rw[j];decide);have s:rM c k=[]:=if_pos (by rw[j];decide);rw[j,u,s,fW,←t,bH];rw[hu]at b2;have F:=cN (RmGo.of h);clear h b l hg j u s t L d;go_enter func119,ntmps119;go_wp2_with fail;go_ret;exact⟨rfl,F.out⟩
  |false=>
  rw[hu]at b2;have I:¬c.up=true:=by rw[hu];decide
  by_cases m:63≤c.inc
  ·have j:nE c=5:=(if_neg I).trans (if_pos m);have u:oA c=c:=if_pos (by rw[j];decide);have s:rM c k=[]:=if_pos (by rw[j];decide);rw[j,u,s,fW,←t,bH];have Z:W.cell? ⟨B,1,none⟩=some (.int .i64 c.inc):=d.cell 1 _ rfl;have a7:decide (63≤c.inc)=true:=by simp[m]
   have F:=cN (RmGo.of h);clear h b l hg j u s t L d m;go_enter func119,ntmps119;go_wp2_with fail;go_ret;exact⟨rfl,F.out⟩
  ·have a7:decide (63≤c.inc)=false:=by simp;omega
   have j:nE c=0:=(if_neg I).trans (if_neg m);have u:oA c=gP c.id (c.inc+1) true:=if_neg (by rw[j];decide);have s:rM c k=[jE (-1-(k:Int))]:=if_neg (by rw[j];decide);rw[j,u,s];have p:=(hok.cls k J).1;rw[t]at p;have w3:IntKind.i64.wrap (c.inc+1)=c.inc+1:=fX (by have:=p.i0;omega) (by have:=p.i1;omega);clear p m;have b0:W.cell? ⟨B,0,none⟩=some (.int .i64 c.id):=d.cell 0 _ rfl;have Z:W.cell? ⟨B,1,none⟩=some (.int .i64 c.inc):=d.cell 1 _ rfl;have zg:W.frozen? ⟨g,k,none⟩=false:=by have:=h.rcv;rw[b]at this;exact this.frozenAt k
   have H:=cN h;have c6:=cN d;have S:=cN b;have w1:IntKind.i64.wrap (-1-(k:Int))= -1-(k:Int):=fX (by omega) (by omega);have b9:wrap64 (-1-(k:Int))= -1-(k:Int):=by unfold wrap64;omega
   clear h b l hg j u s t L d hu I;go_enter func119,ntmps119;go_wp2_with fail;refine rlx [0,0,0,1,0,0,0,0,1,0,0,0,1,0,0,2,0] (fun z=>z.cell? ⟨y,8,none⟩=some (.slice (some ⟨g,0,none⟩) x.cls.length A)∧z.cell? ⟨B,0,none⟩=some (.int .i64 c.id)∧z.cell? ⟨B,1,none⟩=some (.int .i64 c.inc)) (by kernel_rfl) (fun _ _ _ _=>rfl) ?_ ?_
   ·exact⟨y8,b0,Z⟩
   simp only[dC,dB];iterate 15 (apply sB rfl rfl;·(intro x h;(try have h:=h rfl);(try dsimp only at h);go_simp;with_reducible rfl))
   try simp only[pA]
   refine dI rfl (fun C hC=>?_);go_simp;have hZ:((zeroCells182.setIfInBounds 0 (.int .i64 c.id)).setIfInBounds 1 (.int .i64 (c.inc+1))).setIfInBounds 2 (.bool true)=(rcL (gP c.id (c.inc+1) true) eU eU eU).toArray:=rfl;have f:Chg NoS W (W.alloc (.cells (rcL (gP c.id (c.inc+1) true) eU eU eU).toArray 182)).drew:=((Chg.refl _ _).alloc _).drew;have R:(W.alloc (.cells (rcL (gP c.id (c.inc+1) true) eU eU eU).toArray 182)).drew.heap[W.heap.size]?=_:=aA W (.cells (rcL (gP c.id (c.inc+1) true) eU eU eU).toArray 182);have a1:(W.alloc (.cells (rcL (gP c.id (c.inc+1) true) eU eU eU).toArray 182)).drew.heap.size=W.heap.size+1:=by simp
   refine hC _ _ ⟨f.cellN y8,f.cellN b0,f.cellN Z⟩ ?_;clear hC C;(try simp only[pA]);iterate 1 (apply sB rfl rfl;·(intro x h;(try have h:=h rfl);(try dsimp only at h);go_simp;with_reducible rfl))
   refine cP ?_;try simp only[pA]
   rw[hZ];obtain⟨b5,M,h2,w,Q,X⟩:=H.out.renew J f (aE _) R rfl rfl rfl S.out;have b8:=f.cellN b3;have c3:(W.alloc (.cells (rcL (gP c.id (c.inc+1) true) eU eU eU).toArray 182)).drew.frozen? ⟨g,k,none⟩=false:=by
    have:=f.row H.out.rcv (fun _ _ h=>h);rw[S.out]at this;exact this.frozenAt k
   generalize a9:(W.alloc (.cells (rcL (gP c.id (c.inc+1) true) eU eU eU).toArray 182)).drew=W1 at*;generalize U:W1.setCell ⟨g,k,none⟩ (rE W.heap.size)=W2 at*;have a6:=cN U;have K:=cN (aLn h2 w Q X);have a5:W2.cell? ⟨y,10,none⟩=some M.tv:=h2.cell 10 _ rfl;have o:=h2.tr;have b6:=hok.tr;have D:=aA W2 (.cells (evL (jE (-1-(k:Int)))).toArray 70);clear hZ f R a1 a9 U h2 w Q X y8 b0 Z b2;go_wp2_with (first|rw[a6.out]|(at_builtin;refine wpList_append_lies _ rfl _ _ 43 rfl 0 70 ie _ 19 152 underlying43 a2 a3 a0 a4 rfl (by decide) M.tv x.tr.length (cZ evL x.tr) rfl (o.alloc _) ⟨W2.heap.size,0,none⟩ 1 1 (evL (jE (-1-(k:Int)))) rfl rfl (cR D) (nY _) (by decide) (by unfold maxLen;omega) (by omega) (aI _) (W2.heap.size+1) (by simp) ?_;intro gt b4 W3 n a v Y;refine cQ ?_));have P:=K.out.1.trAppend (e:=jE (-1-(k:Int))) (W1:=W2.alloc (.cells (evL (jE (-1-(k:Int)))).toArray 70)) ((Chg.refl _ _).alloc _) ⟨a.os,a.tape,a.output,a.size,a.block⟩ n (v.imp (fun h=>h) (fun h=>by simp;omega));have E:Chg (fun q=>some q=M.tv.ownBlock) W2 W3:=(((Chg.refl NoS W2).alloc _).mono (T:=fun q=>some q=M.tv.ownBlock) (fun _ _ h=>h.elim)).trans (Chg.of_grown ⟨a.os,a.tape,a.output,a.size,a.block⟩) (fun _ _ h=>h);have G:=E.kept K.out.1.blk (fun e=>by have:=K.out.1.tvo _ e.symm;have:=K.out.1.yo;omega);have b7:W3.cell? ⟨y,10,none⟩=some M.tv:=cO G 10 _ rfl;have c7:=cX G 10;have a8:=cN P;clear P E G n a v Y D a5 o;refine cN ?_;go_wp2_with fail;go_ret;refine⟨rfl,RmGo.trans K.out.2.2.1 K.out.2.2.2 ?_⟩
   have e4:dP x k (gP c.id (c.inc+1) true) [jE (-1-(k:Int))]={x with cls:=x.cls.set k (gP c.id (c.inc+1) true),tr:=x.tr++[jE (-1-(k:Int))]}:=by
    unfold dP;rw[fE _ (by show(5:Int)≠1;decide),aC]
   rw[e4];exact a8.out.go
theorem aCd(fn:Func)(hr:fn.results=#[.cell 4 66])(tmps:Array Value)(x:Nat)(m:Mg)(W:World)(h4:tmps.getD 4 undef= .pointer (some ⟨x,0,none⟩))(hb:W.heap[x]?=some (.cells (mgL m).toArray 66 (0,0))):
 (results fn tmps).run prog W= .ok (mgV m) W:=by
 have a:(loadVar 66 ⟨x,0,none⟩).run prog W= .ok (mgV m) W:=fB W ⟨x,0,none⟩ 66 (mgL m) _ (cR hb) underlying66 rfl (by kernel_rfl);unfold results;rw[hr];simp only[cK]at h4;simp[h4,asAddr,aT,a]
theorem vW{α:Type}(f:α→List Value)(a b:List α):cZ f (a++b)=cZ f a++cZ f b:=by simp[cZ]
theorem wL(l:List Mg):∀u ∈ cZ mgL l,u.oneCell'=true:=fun u hu=>by
 obtain⟨m,_,hm⟩:=List.mem_flatMap.1 hu;exact oS m u hm
theorem xC(l:List Mg):(cZ mgL l).length=l.length*10:=eV mgL (fun _=>rfl) l
theorem wM(W:World)(own:Nat→Nat)(y:Nat)(x:Rm)(V:RmV)(k:Nat)(h:RmAt W own y x V)(hk:k<x.net.length)(hn:x.net.length≤100000000000):
 Calls prog 153 #[.pointer (some ⟨y,0,none⟩),.int .i64 k] W fun r W'=>r= .returned (mgV x.net[k])∧RmTo W own y V {x with net:=x.net.eraseIdx k} W':=by
 obtain⟨i1,ji,jz0,jz1,jz2⟩:=info_parts nA;obtain⟨pn,capn,hnv,hnr⟩:=nU h.net;obtain⟨g,rfl,hgl,hgc⟩:=hnr k hk;have hog:own g=2:=h.nvo g (by rw[hnv];rfl);have hcap:x.net.length≤capn:=by
  have:=h.net;rw[hnv]at this;rcases this.2 with⟨e,h0⟩|⟨g',cap',cur,e,_,_,hc,_⟩
  ·omega
  ·cases e;exact hc
 have hall:∀(q:Nat) (hq:q<x.net.length),∀j u,(mgL x.net[q])[j]?=some u→W.cell? ⟨g,q*10+j,none⟩=some u:=fun q hq j u hj=>by
  obtain⟨g',e,_,hc⟩:=hnr q hq;cases e;exact hc j u hj
 obtain⟨m,hm⟩:=aLx (x.net[k]);rw[hm];have hgm:=hall k hk;rw[hm]at hgm;have hpart:∀(a b:Nat),b≤x.net.length→∀j u,(cZ mgL ((x.net.take b).drop a))[j]?=some u→W.cell? ⟨g,a*10+j,none⟩=some u:=by
  intro a b hb j u hj;have hjl:j<((x.net.take b).drop a).length*10:=by
   have:=(aF.1 hj).1;rw[xC]at this;exact this
  have hq:j / 10<((x.net.take b).drop a).length:=by omega
  have e1:j=(j / 10)*10+j % 10:=by omega
  rw[e1,lY mgL (fun _=>rfl) _ _ hq _ (by omega)]at hj;have hl:((x.net.take b).drop a).length=b-a:=by simp;omega
  have e2:((x.net.take b).drop a)[j / 10]=x.net[a+j / 10]'(by omega):=by simp
  rw[e2]at hj;have:=hall (a+j / 10) (by omega) (j % 10) u hj;rw[show a*10+j=(a+j / 10)*10+j % 10 by omega];exact this
 have hb0:=aA W (.cells #[.int .i64 0,.int .i64 0,.int .i64 0,.int .i64 0,.int .i64 0,.int .i64 0,.int .i64 0,.int .i64 0,.int .i64 0,.int .i64 0] 66);have hn0:Chg NoS W (W.alloc (.cells #[.int .i64 0,.int .i64 0,.int .i64 0,.int .i64 0,.int .i64 0,.int .i64 0,.int .i64 0,.int .i64 0,.int .i64 0,.int .i64 0] 66)):=(Chg.refl _ _).alloc _;have hs0:(W.alloc (.cells #[.int .i64 0,.int .i64 0,.int .i64 0,.int .i64 0,.int .i64 0,.int .i64 0,.int .i64 0,.int .i64 0,.int .i64 0,.int .i64 0] 66)).heap.size=W.heap.size+1:=by simp
 generalize hX0:W.alloc (.cells #[.int .i64 0,.int .i64 0,.int .i64 0,.int .i64 0,.int .i64 0,.int .i64 0,.int .i64 0,.int .i64 0,.int .i64 0,.int .i64 0] 66)=W0 at*;have HX0:=cN hX0;have y9:W0.cell? ⟨y,9,none⟩=some (.slice (some ⟨g,0,none⟩) x.net.length capn):=by rw[←hnv];exact hn0.cellN (h.cell 9 _ rfl)
 have HLM:=cN (show∀j u,(mgL m)[j]?=some u→W0.cell? ((⟨g,k*10,none⟩:Addr).add j)=some u from fun j u hj=>by
  have e:(⟨g,k*10,none⟩:Addr).add j=⟨g,k*10+j,none⟩:=by unfold Addr.add;split<;>simp_all
  rw[e];exact hn0.cellN (hgm j u hj))
 have HP:=cN hpart;have H:=cN h;have H0:=cN (aLm hb0 hn0 hs0);have HG:=cN (aLm hnv hog hgl);have hkl:(k:Int)<(x.net.length:Int):=by omega
 clear hX0 hb0 hn0 hs0 hpart h hnv hnr hgc hall hgm hm hog;go_enter func153,ntmps153;go_wp2_with (first|rw[HX0.out]|(refine cW rfl 66 _ rfl ⟨g,k*10,none⟩ rfl (mgL m) _ HLM.out underlying66 rfl (by kernel_rfl) ?_)|(refine cV rfl 66 _ _ rfl (W0.heap.size) 0 66 _ _ (mgL m) rfl rfl (aA W0 _) (by kernel_rfl) (by simp[Value.oneCell']) (by simp) rfl ?_;intro W1 hc1 hs1 bn1;refine cQ ?_));have hc01:Chg (fun q=>q=W0.heap.size) W0 W1:=((Chg.refl NoS W0).alloc _).nos.trans hc1 (fun _ _ h=>h);have hs00:=H0.out.2.2;have hs1':W1.heap.size=W.heap.size+2:=by rw[hs1];simp[hs00]
 rw[hs00]at hc01 bn1;have hcw1:Chg NoS W W1:=⟨hc01.os.trans H0.out.2.1.os,hc01.tape.trans H0.out.2.1.tape,hc01.output.trans H0.out.2.1.output,by omega,fun q hq _=>(hc01.block q (by omega) (by omega)).trans (H0.out.2.1.block q hq (fun h=>h))⟩;have hres1:=hc01.kept H0.out.1 (by omega);have y91:W1.cell? ⟨y,9,none⟩=some (.slice (some ⟨g,0,none⟩) x.net.length capn):=by rw[←HG.out.1];exact hcw1.cellN (H.out.cell 9 _ rfl)
 have H1:=cN (aLn hcw1 hres1 bn1 hs1');have HLP:=cN (show∀j u,(cZ mgL (x.net.take k))[j]?=some u→W1.cell? ((⟨g,0,none⟩:Addr).add j)=some u from fun j u hj=>by
  have e:(⟨g,0,none⟩:Addr).add j=⟨g,0*10+j,none⟩:=by unfold Addr.add;split<;>simp_all
  rw[e];exact hcw1.cellN (HP.out 0 k (by omega) j u (by simpa using hj)))
 clear hc1 hs1 bn1 hc01 hs1' hcw1 hres1 y9 HLM hs00;refine cN ?_;have hlk:(x.net.take k).length=k:=by rw[bD];omega
 go_wp2_with (refine wpList_append_own_at _ rfl _ _ 88 rfl W.heap.size 66 i1 _ 10 80 underlying88 ji jz0 jz1 jz2 rfl (by decide) (.slice none 0 0) 0 [] rfl (aZ _ _ _ _) ⟨g,0,none⟩ k _ (cZ mgL (x.net.take k)) rfl (by rw[xC,hlk]) HLP.out (wL _) (by unfold maxLen;omega) (by omega) (by have:=H1.out.2.2.2;omega) ?_;intro v1 W2 hown2 hgr2 hq2 hat2;refine cQ ?_);rw[Nat.zero_add,List.nil_append]at hown2;have hcw2:Chg NoS W W2:=H1.out.1.trans ⟨hgr2.os,hgr2.tape,hgr2.output,hgr2.size,fun q hq _=>hgr2.block q hq (by simp[Value.ownBlock])⟩ (fun _ _ h=>h);have hs12:W1.heap.size≤W2.heap.size:=hgr2.size;have hres2:=(hgr2.block _ (dG H1.out.2.1) (by simp[Value.ownBlock])).trans H1.out.2.1;have hbox2:=(hgr2.block _ (dG H1.out.2.2.1) (by simp[Value.ownBlock])).trans H1.out.2.2.1;have y92:W2.cell? ⟨y,9,none⟩=some (.slice (some ⟨g,0,none⟩) x.net.length capn):=by rw[←HG.out.1];exact hcw2.cellN (H.out.cell 9 _ rfl)
 have HLP2:=cN (show∀j u,(cZ mgL (x.net.drop (k+1)))[j]?=some u→W2.cell? ((⟨g,(k+1)*10,none⟩:Addr).add j)=some u from fun j u hj=>by
  have e:(⟨g,(k+1)*10,none⟩:Addr).add j=⟨g,(k+1)*10+j,none⟩:=by unfold Addr.add;split<;>simp_all
  rw[e];exact hcw2.cellN (HP.out (k+1) x.net.length (aE _) j u (by rw[bR];exact hj)))
 have hv1b:∀q,v1.ownBlock=some q→q=W1.heap.size:=fun q hq=>by
  rcases hat2 with e|e
  ·rw[e]at hq;cases hq
  ·rw[e]at hq;cases hq;rfl
 have H2:=cN (aLp hcw2 hres2 hbox2 hown2 hs12 hv1b);have w1:IntKind.i64.wrap ((k:Int)+1)=(k:Int)+1:=fX (by omega) (by omega);have HSZ:=cN H1.out.2.2.2;clear hcw2 hres2 hbox2 hs12 hgr2 hq2 hat2 y91 HLP H1 hv1b;refine cN ?_;have hld:(x.net.drop (k+1)).length=x.net.length-(k+1):=by simp
 have hk1:(k:Int)+1≤(capn:Int):=by omega
 have hk2:(x.net.length:Int)≤(capn:Int):=by omega
 have hk3:(k:Int)+1≤(x.net.length:Int):=by omega
 by_cases hce:capn=k+1
 ·subst hce;have hl0:x.net.length-(k+1)=0:=by omega
  have hdn:x.net.drop (k+1)=[]:=List.drop_eq_nil_of_le (by omega);go_wp2_with (refine wpList_append_own_at _ rfl _ _ 88 rfl W.heap.size 66 i1 _ 10 80 underlying88 ji jz0 jz1 jz2 rfl (by decide) v1 k (cZ mgL (x.net.take k)) rfl H2.out.2.2.2.1 ⟨g,0,none⟩ 0 _ (cZ mgL (x.net.drop (k+1))) rfl (by rw[hdn];rfl) (by rw[hdn];intro j u hj;cases hj) (wL _) (by unfold maxLen;omega) (by omega) (by have:=H2.out.1.size;omega) ?_;intro v2 W3 hown3 hgr3 hq3 hat3;refine cQ ?_);have hown3':W3.ownsRow W.heap.size 66 10 v2 (x.net.eraseIdx k).length (cZ mgL (x.net.eraseIdx k)):=by
   have e1:x.net.eraseIdx k=x.net.take k++x.net.drop (k+1):=List.eraseIdx_eq_take_drop_succ _ _;have e2:(x.net.eraseIdx k).length=k+0:=by rw[List.length_eraseIdx_of_lt hk];omega
   rw[e2,e1,vW];exact hown3
  obtain⟨p2,cap2,rfl,_⟩:=mF hown3';have hcw3:Chg NoS W W3:=H2.out.1.trans (Chg.of_grown hgr3) (fun q hq e=>by have:=H2.out.2.2.2.2.2 q e.symm;have:=HSZ.out;omega);have hno1:∀q,some q=v1.ownBlock→q=W.heap.size+2:=fun q e=>by rw[H2.out.2.2.2.2.2 q e.symm];exact HSZ.out
  have hres3:=(hgr3.block _ (dG H2.out.2.1) (fun e=>by have:=hno1 _ e;omega)).trans H2.out.2.1;have hbox3:=(hgr3.block _ (dG H2.out.2.2.1) (fun e=>by have:=hno1 _ e;omega)).trans H2.out.2.2.1;have hyb3:=hcw3.kept H.out.blk (fun h=>h);have hyl:=dG H.out.blk;have y93:W3.cell? ⟨y,9,none⟩=some V.nv:=cO hyb3 9 _ rfl;have z93:=cX hyb3 9;have hc34:=cY W3 y 9 (.slice p2 (x.net.eraseIdx k).length cap2);have hyb4:=dD hyb3 9 (.slice p2 (x.net.eraseIdx k).length cap2);have hres4:=hc34.kept hres3 (by omega);have hbox4:=hc34.kept hbox3 (by omega);have hv2y:∀q,(Value.slice p2 (x.net.eraseIdx k).length cap2).ownBlock=some q→W.heap.size+2≤q:=fun q hq=>by
   rcases hat3 with e|e
   ·rw[e]at hq;have:=hno1 q hq.symm;omega
   ·rw[e]at hq;have:=HSZ.out;have:=H2.out.2.2.2.2.1;injection hq with e';omega
  have hrow4:=hc34.row hown3' (fun q hq e=>by have:=hv2y q hq;omega);generalize hX4:W3.setCell ⟨y,9,none⟩ (.slice p2 (x.net.eraseIdx k).length cap2)=W4 at*;have HX4:=cN hX4;have HLB:=cN (show∀j u,(mgL m)[j]?=some u→W4.cell? ((⟨W0.heap.size,0,none⟩:Addr).add j)=some u from by rw[H0.out.2.2];exact cR hbox4);have H4:=cN (aLp hcw3 hc34 hyb4 hres4 hrow4 hv2y);clear hX4 hcw3 hno1 hres3 hbox3 hyb3 hc34 hyb4 hres4 hbox4 hv2y hrow4 hown3 hown3' hgr3 hq3 hat3;refine cN ?_;go_wp2_with (first|rw[HX4.out]|(refine cW rfl 66 _ rfl ⟨W0.heap.size,0,none⟩ rfl (mgL m) _ HLB.out underlying66 rfl (by kernel_rfl) ?_)|(refine cV rfl 66 _ _ rfl (W.heap.size) 0 66 _ _ (mgL m) rfl rfl H4.out.2.2.2.1 (by kernel_rfl) (by simp[Value.oneCell']) (by simp) rfl ?_;intro W5 hc5 hs5 bn5;refine cQ ?_));have H5:=cN (aLl hc5 bn5);clear hc5 hs5 bn5;refine cN ?_;go_wp2_with fail;refine bodyPost_ret (aCd _ results153 _ W.heap.size m _ rfl H5.out.2) rfl ⟨rfl,?_⟩;have hcF:Chg (fun q=>own q=1∨own q=2∨own q=3) W W5:=((H4.out.1.mono (T:=fun q=>own q=1∨own q=2∨own q=3) (fun _ _ h=>h.elim)).trans H4.out.2.1 (fun q _ e=>by subst e;exact Or.inl H.out.yo)).trans H5.out.1 (fun q hq e=>by omega)
  exact H.out.nets (nv':=.slice p2 (x.net.eraseIdx k).length cap2) (tv':=V.tv) hcF (H5.out.1.kept H4.out.2.2.1 (by omega)) (H5.out.1.row (gL H4.out.2.2.2.2.1 (aI _)) (fun q hq e=>by have:=H4.out.2.2.2.2.2 q hq;omega)) ((((H4.out.1.row H.out.tr (fun _ _ h=>h)) |> fun r=>H4.out.2.1.row r (fun q hq e=>by have:=H.out.tvo q hq;rw[e,H.out.yo]at this;omega)) |> fun r=>H5.out.1.row r (fun q hq e=>by have:=H.out.lt q (by rw[H.out.tvo q hq];decide);omega))) (fun q hq=>Or.inr (by have:=H4.out.2.2.2.2.2 q hq;omega)) (fun q hq=>Or.inl (H.out.tvo q hq))
 ·have hne1:k+1≠capn:=fun e=>hce e.symm;have hne2:¬capn-(k+1)=0:=by omega
  have hne3:((capn:Int)-((k:Int)+1)==0)=false:=by simp;omega
  have hne4:(capn-(k+1)==0)=false:=by simp;omega
  have hne5:(k:Int)+1<(capn:Int):=by omega
  have hne6:¬capn≤k+1:=by omega
  have hne7:¬capn-(k+1)≤0:=by omega
  clear hce;go_wp2_with (refine wpList_append_own_at _ rfl _ _ 88 rfl W.heap.size 66 i1 _ 10 80 underlying88 ji jz0 jz1 jz2 rfl (by decide) v1 k (cZ mgL (x.net.take k)) rfl H2.out.2.2.2.1 ⟨g,(k+1)*10,none⟩ (x.net.length-(k+1)) _ (cZ mgL (x.net.drop (k+1))) rfl (by rw[xC,hld]) HLP2.out (wL _) (by unfold maxLen;omega) (by omega) (by have:=H2.out.1.size;omega) ?_;intro v2 W3 hown3 hgr3 hq3 hat3;refine cQ ?_);have hown3':W3.ownsRow W.heap.size 66 10 v2 (x.net.eraseIdx k).length (cZ mgL (x.net.eraseIdx k)):=by
   have e1:x.net.eraseIdx k=x.net.take k++x.net.drop (k+1):=List.eraseIdx_eq_take_drop_succ _ _;have e2:(x.net.eraseIdx k).length=k+(x.net.length-(k+1)):=by rw[List.length_eraseIdx_of_lt hk];omega
   rw[e2,e1,vW];exact hown3
  obtain⟨p2,cap2,rfl,_⟩:=mF hown3';have hcw3:Chg NoS W W3:=H2.out.1.trans (Chg.of_grown hgr3) (fun q hq e=>by have:=H2.out.2.2.2.2.2 q e.symm;have:=HSZ.out;omega);have hno1:∀q,some q=v1.ownBlock→q=W.heap.size+2:=fun q e=>by rw[H2.out.2.2.2.2.2 q e.symm];exact HSZ.out
  have hres3:=(hgr3.block _ (dG H2.out.2.1) (fun e=>by have:=hno1 _ e;omega)).trans H2.out.2.1;have hbox3:=(hgr3.block _ (dG H2.out.2.2.1) (fun e=>by have:=hno1 _ e;omega)).trans H2.out.2.2.1;have hyb3:=hcw3.kept H.out.blk (fun h=>h);have hyl:=dG H.out.blk;have y93:W3.cell? ⟨y,9,none⟩=some V.nv:=cO hyb3 9 _ rfl;have z93:=cX hyb3 9;have hc34:=cY W3 y 9 (.slice p2 (x.net.eraseIdx k).length cap2);have hyb4:=dD hyb3 9 (.slice p2 (x.net.eraseIdx k).length cap2);have hres4:=hc34.kept hres3 (by omega);have hbox4:=hc34.kept hbox3 (by omega);have hv2y:∀q,(Value.slice p2 (x.net.eraseIdx k).length cap2).ownBlock=some q→W.heap.size+2≤q:=fun q hq=>by
   rcases hat3 with e|e
   ·rw[e]at hq;have:=hno1 q hq.symm;omega
   ·rw[e]at hq;have:=HSZ.out;have:=H2.out.2.2.2.2.1;injection hq with e';omega
  have hrow4:=hc34.row hown3' (fun q hq e=>by have:=hv2y q hq;omega);generalize hX4:W3.setCell ⟨y,9,none⟩ (.slice p2 (x.net.eraseIdx k).length cap2)=W4 at*;have HX4:=cN hX4;have HLB:=cN (show∀j u,(mgL m)[j]?=some u→W4.cell? ((⟨W0.heap.size,0,none⟩:Addr).add j)=some u from by rw[H0.out.2.2];exact cR hbox4);have H4:=cN (aLp hcw3 hc34 hyb4 hres4 hrow4 hv2y);clear hX4 hcw3 hno1 hres3 hbox3 hyb3 hc34 hyb4 hres4 hbox4 hv2y hrow4 hown3 hown3' hgr3 hq3 hat3;refine cN ?_;go_wp2_with (first|rw[HX4.out]|(refine cW rfl 66 _ rfl ⟨W0.heap.size,0,none⟩ rfl (mgL m) _ HLB.out underlying66 rfl (by kernel_rfl) ?_)|(refine cV rfl 66 _ _ rfl (W.heap.size) 0 66 _ _ (mgL m) rfl rfl H4.out.2.2.2.1 (by kernel_rfl) (by simp[Value.oneCell']) (by simp) rfl ?_;intro W5 hc5 hs5 bn5;refine cQ ?_));have H5:=cN (aLl hc5 bn5);clear hc5 hs5 bn5;refine cN ?_;go_wp2_with fail;refine bodyPost_ret (aCd _ results153 _ W.heap.size m _ rfl H5.out.2) rfl ⟨rfl,?_⟩;have hcF:Chg (fun q=>own q=1∨own q=2∨own q=3) W W5:=((H4.out.1.mono (T:=fun q=>own q=1∨own q=2∨own q=3) (fun _ _ h=>h.elim)).trans H4.out.2.1 (fun q _ e=>by subst e;exact Or.inl H.out.yo)).trans H5.out.1 (fun q hq e=>by omega)
  exact H.out.nets (nv':=.slice p2 (x.net.eraseIdx k).length cap2) (tv':=V.tv) hcF (H5.out.1.kept H4.out.2.2.1 (by omega)) (H5.out.1.row (gL H4.out.2.2.2.2.1 (aI _)) (fun q hq e=>by have:=H4.out.2.2.2.2.2 q hq;omega)) ((((H4.out.1.row H.out.tr (fun _ _ h=>h)) |> fun r=>H4.out.2.1.row r (fun q hq e=>by have:=H.out.tvo q hq;rw[e,H.out.yo]at this;omega)) |> fun r=>H5.out.1.row r (fun q hq e=>by have:=H.out.lt q (by rw[H.out.tvo q hq];decide);omega))) (fun q hq=>Or.inr (by have:=H4.out.2.2.2.2.2 q hq;omega)) (fun q hq=>Or.inl (H.out.tvo q hq))
def qO(x:Rm)(i:Int):Int:=if dT i x.net.length=true then 0 else 1
def oU(x:Rm)(i:Int):Rm:=if dT i x.net.length=true then{x with net:=x.net.eraseIdx i.toNat}else x
def xK(x:Rm)(i:Int):Rm:=if dT i x.net.length=true then{x with net:=x.net++[x.net.getD i.toNat zMg]}else x
section
variable (W:World) (own:Nat→Nat) (y:Nat) (x:Rm) (V:RmV) (N i:Int)
theorem aHw(h:RmAt W own y x V)(hok:tU N x)(hN:N≤80000000000):
 Calls prog 116 #[.pointer (some ⟨y,0,none⟩),.int .i64 i] W fun r W'=>r= .returned (.int .i64 (qO x i))∧RmTo W own y V (oU x i) W':=by
 obtain⟨g,c,b,_⟩:=nU h.net;have a:=cN (pZ W y i g x.net.length c (by rw[←b];exact h.cell 9 _ rfl));have m:=hok.net;unfold qO oU;cases hi:dT i x.net.length with
 |false=>
  rw[hi]at a;simp only[aU,if_false];have j:=cN (RmTo.of h);clear h b hi;go_enter func116,ntmps116;go_wp2_with (go_at_call 152;refine a.out.mono ?_;rintro e l ⟨rfl,rfl⟩);go_ret;exact⟨rfl,j.out⟩
 |true=>
  rw[hi]at a;simp only[if_true];obtain⟨o,p⟩:=(dY _ _).1 hi;obtain⟨k,rfl⟩:∃k:Nat,i=(k:Int):=⟨i.toNat,by omega⟩;rw[bB];have f:=cN (wM W own y x V k h (by omega) (by omega));clear h b hi;go_enter func116,ntmps116;go_wp2_with (first|(go_at_call 152;refine a.out.mono ?_;rintro e l ⟨rfl,rfl⟩)|(go_at_call 153;refine f.out.mono ?_;rintro e n ⟨rfl,d⟩));go_ret;exact⟨rfl,d⟩
theorem aHv(h:RmAt W own y x V)(hok:tU N x)(hN:N≤80000000000):
 Calls prog 117 #[.pointer (some ⟨y,0,none⟩),.int .i64 i] W fun r W'=>r= .returned (.int .i64 (qO x i))∧RmTo W own y V (xK x i) W':=by
 obtain⟨U,X,O,L,M⟩:=info_parts nA;obtain⟨Y,c,f,s⟩:=nU h.net;have n:=cN (pZ W y i Y x.net.length c (by rw[←f];exact h.cell 9 _ rfl));have a1:=hok.net;unfold qO xK;cases hi:dT i x.net.length with
 |false=>
  rw[hi]at n;simp only[aU,if_false];have Z:=cN (RmTo.of h);clear h f hi s;go_enter func117,ntmps117;go_wp2_with (go_at_call 152;refine n.out.mono ?_;rintro e W1 ⟨rfl,rfl⟩);go_ret;exact⟨rfl,Z.out⟩
 |true=>
  rw[hi]at n;simp only[if_true];obtain⟨h0,h1⟩:=(dY _ _).1 hi;obtain⟨k,rfl⟩:∃k:Nat,i=(k:Int):=⟨i.toNat,by omega⟩;have Q:k<x.net.length:=by omega
  obtain⟨g,rfl,a2,w⟩:=s k Q;have G:x.net.getD ((k:Int)).toNat zMg=x.net[k]:=by rw[bB,aQ,aP Q];rfl
  rw[G];obtain⟨m,R⟩:=aLx (x.net[k]);rw[R]at w⊢;have K:W.cell? ⟨y,9,none⟩=some (.slice (some ⟨g,0,none⟩) x.net.length c):=by rw[←f];exact h.cell 9 _ rfl
  have E:∀j u,(mgL m)[j]?=some u→W.cell? ((⟨g,k*10,none⟩:Addr).add j)=some u:=fun j u hj=>by
   have e:(⟨g,k*10,none⟩:Addr).add j=⟨g,k*10+j,none⟩:=by unfold Addr.add;split<;>simp_all
   rw[e];exact w j u hj
  have D:=cN E;have H:=cN h;have A:=cN f;have a0:(k:Int)<(x.net.length:Int):=by omega
  clear h f hi s G R w E;go_enter func117,ntmps117;go_wp2_with (go_at_call 152;refine n.out.mono ?_;rintro e W1 ⟨rfl,rfl⟩);refine rlx [0,0,0,0,1,0,0,0,1,0,0,1,2] (fun z=>z.cell? ⟨y,9,none⟩=some (.slice (some ⟨g,0,none⟩) x.net.length c)∧∀j u,(mgL m)[j]?=some u→z.cell? ((⟨g,k*10,none⟩:Addr).add j)=some u) (by kernel_rfl) (fun _ _ _ _=>rfl) ?_ ?_
  ·exact⟨K,fun j u hj=>D.out j u hj⟩
  simp only[dC,dB];iterate 11 (apply sB rfl rfl;·(intro x h;(try have h:=h rfl);(try dsimp only at h);go_simp;with_reducible rfl))
  try simp only[pA]
  refine dA (v:=mgV m) rfl (fun zz hx=>cU 66 _ rfl ⟨g,k*10,none⟩ rfl (mgL m) _ hx.2 underlying66 rfl (by kernel_rfl)) ?_;(try simp only[pA]);refine dI rfl (fun C hC=>?_);go_simp;have d:Chg NoS W1.drew (W1.drew.alloc (.cells (mgL m).toArray 66)):=(Chg.refl _ _).alloc _;have F:=aA W1.drew (.cells (mgL m).toArray 66);refine hC _ _ ⟨d.cellN K,fun j u hj=>by
   have e:(⟨g,k*10,none⟩:Addr).add j=⟨g,k*10+j,none⟩:=by unfold Addr.add;split<;>simp_all
   have:=D.out j u hj;rw[e]at this⊢;exact d.cellN this⟩ ?_
  clear hC C;refine cP ?_;refine wpList_append_lies _ rfl _ _ 88 rfl 0 66 U _ 10 80 underlying88 X O L M rfl (by decide) (.slice (some ⟨g,0,none⟩) x.net.length c) x.net.length (cZ mgL x.net) rfl (by have:=d.row (show W1.drew.ownsRow 0 66 10 V.nv x.net.length (cZ mgL x.net)from H.out.net) (fun _ _ h=>h);rw[A.out]at this;exact this) ⟨W1.heap.size,0,none⟩ 1 1 (mgL m) rfl rfl (cR F) (oS m) (by decide) (by unfold maxLen;omega) (by omega) (aI _) (W1.heap.size+1) (by simp) ?_;intro gn S J l a p I;have b:(W1.drew.alloc (.cells (mgL m).toArray 66)).grownBy J V.nv.ownBlock:=by rw[A.out];exact⟨a.os,a.tape,a.output,a.size,a.block⟩
  have B:=H.out.netAppend (m:=m) (W1:=W1.drew.alloc (.cells (mgL m).toArray 66)) d.of_drew b l (p.imp (fun h=>by rw[A.out];exact h) (fun h=>by simp;omega));have o:Chg (fun q=>some q=V.nv.ownBlock) W1 J:=(d.of_drew.mono (T:=fun q=>some q=V.nv.ownBlock) (fun _ _ h=>h.elim)).trans (Chg.of_grown b) (fun _ _ h=>h);have t:=o.kept H.out.blk (fun e=>by have:=H.out.nvo _ e.symm;have:=H.out.yo;omega);have d9:J.cell? ⟨y,9,none⟩=some V.nv:=cO t 9 _ rfl;have z9:=cX t 9;have P:=cN B;clear B o t l a b p I d F K;(try simp only[pA]);go_wp2_with fail;go_ret;exact⟨rfl,P.out⟩
end
def sK(x:Rm)(n:Int):List Ev:=x.tr.drop (min (max n 0) x.tr.length).toNat
theorem aFV(W:World)(own:Nat→Nat)(y:Nat)(x:Rm)(V:RmV)(N n:Int)(h:RmAt W own y x V)(hok:tU N x)(hN:N≤80000000000)(m:Nat)(hm:(sK x n).length=m):
 Calls prog 146 #[.pointer (some ⟨y,0,none⟩),.int .i64 n] W fun r W'=>(∃p cap,r= .returned (.slice p m cap)∧∀i (hi:i<(sK x n).length),∃q o,p=some ⟨q,o,none⟩∧∀j u,(evL (sK x n)[i])[j]?=some u→W.cell? ⟨q,o+(i*19+j),none⟩=some u)∧W'=W:=by
 have C:W.cell? ⟨y,10,none⟩=some V.tv:=h.cell 10 _ rfl;have c:=h.tr;have B:=hok.tr;obtain⟨k,G⟩:∃k:Nat,min (max n 0) (x.tr.length:Int)=k:=⟨(min (max n 0) (x.tr.length:Int)).toNat,by omega⟩;have l:k≤x.tr.length:=by omega
 have F:sK x n=x.tr.drop k:=by unfold sK;rw[G];rfl
 rw[F]at hm⊢;have g:(decide (n<0)=true∧k=0)∨(decide (n<0)=false∧decide ((x.tr.length:Int)<n)=true∧k=x.tr.length)∨(decide (n<0)=false∧decide ((x.tr.length:Int)<n)=false∧n=(k:Int)):=by
  by_cases v:n<0
  ·left;simp[v];omega
  ·right;by_cases Q:(x.tr.length:Int)<n
   ·left;simp[v,Q];omega
   ·right;simp[v,Q];omega
 rcases c.2 with⟨f,v⟩|⟨q,cap,T,f,I⟩
 ·have H:x.tr=[]:=List.length_eq_zero_iff.1 v;rw[f]at C;have P:x.tr.drop k=[]:=by rw[H];simp
  rw[P]at hm⊢;have L:m=0:=hm.symm;subst L;have O:k=0:=by rw[H]at l;simpa using l
  subst O;rw[v]at g;have X:=cN f;clear G B l F hok h c f H P hm;rcases g with⟨z,t⟩|⟨z,t,R⟩|⟨z,t,rfl⟩
  ·clear t;go_enter func146,ntmps146;go_wp2_with fail;go_ret;first|exact⟨⟨_,_,rfl,fun i hi=>absurd hi (Nat.not_lt_zero _)⟩,rfl⟩|(simp;done)|rfl
  ·clear R;have S:decide ((0:Int)<n)=true:=t;go_enter func146,ntmps146;go_wp2_with fail;go_ret;first|exact⟨⟨_,_,rfl,fun i hi=>absurd hi (Nat.not_lt_zero _)⟩,rfl⟩|(simp;done)|rfl
  ·go_enter func146,ntmps146;go_wp2_with fail;go_ret;first|exact⟨⟨_,_,rfl,fun i hi=>absurd hi (Nat.not_lt_zero _)⟩,rfl⟩|(simp;done)|rfl
 ·rw[f]at C;have K:x.tr.length≤cap:=I.2.2.1;have D:=I.2.2.2.1;have d:(x.tr.drop k).length=x.tr.length-k:=aV;have a:∀i (hi:i<(x.tr.drop k).length) j u,(evL (x.tr.drop k)[i])[j]?=some u→W.cell? ⟨q,k*19+(i*19+j),none⟩=some u:=by
   intro i hi j u b;have E:j<19:=(aF.1 b).1;rw[List.getElem_drop]at b;have e:=lY evL (k:=19) (fun _=>rfl) x.tr (k+i) (by omega) j E;rw[b]at e;have M:(k+i)*19+j<x.tr.length*19:=by omega
   rw[f]at c;have:=c.cellAt ((k+i)*19+j) M;rw[show k*19+(i*19+j)=(k+i)*19+j by omega,this];exact e
  have U:(0:Int)≤(k:Int):=by omega
  have Y:(k:Int)≤(x.tr.length:Int):=by omega
  have Z:(x.tr.length:Int)≤(cap:Int):=by omega
  have b4:(cap:Int)≤9223372036854775807:=by unfold maxLen at D;omega
  have A:∀i (hi:i<(x.tr.drop k).length),∃q' o,(if cap=k then(some ⟨q,0,none⟩:Option Addr)else some ⟨q,k*19,none⟩)=some ⟨q',o,none⟩∧∀j u,(evL (x.tr.drop k)[i])[j]?=some u→W.cell? ⟨q',o+(i*19+j),none⟩=some u:=fun i hi=>
   ⟨q,k*19,by rw[if_neg (by omega)],fun j u b=>a i hi j u b⟩
  have s:=cN A;have w:=cN a;have J:m=x.tr.length-k:=hm.symm.trans d;subst J;clear G B F hok h c f a K D I A d hm;rcases g with⟨z,rfl⟩|⟨z,t,rfl⟩|⟨z,t,rfl⟩
  ·go_enter func146,ntmps146;go_wp2_with fail;all_goals go_ret
   all_goals(first|exact⟨⟨_,_,rfl⟩,rfl⟩|(refine⟨⟨_,_,rfl,fun i hi=>?_⟩,rfl⟩;first|exact s.out i hi|exact⟨q,_,rfl,w.out i hi⟩|(simp at hi;done)|(simp at hi;omega))|(refine⟨⟨_,⟨_,rfl⟩,fun i hi=>?_⟩,rfl⟩;first|exact⟨q,_,rfl,fun j u b=>w.out i (by simpa using hi) j u (by simpa using b)⟩|(exfalso;omega)))
  ·go_enter func146,ntmps146;go_wp2_with fail;all_goals go_ret
   all_goals(first|exact⟨⟨_,_,rfl⟩,rfl⟩|(refine⟨⟨_,_,rfl,fun i hi=>?_⟩,rfl⟩;first|exact s.out i hi|exact⟨q,_,rfl,w.out i hi⟩|(simp at hi;done)|(simp at hi;omega))|(refine⟨⟨_,⟨_,rfl⟩,fun i hi=>?_⟩,rfl⟩;first|exact⟨q,_,rfl,fun j u b=>w.out i (by simpa using hi) j u (by simpa using b)⟩|(exfalso;omega)))
  ·go_enter func146,ntmps146;go_wp2_with fail;all_goals go_ret
   all_goals(first|exact⟨⟨_,_,rfl⟩,rfl⟩|(refine⟨⟨_,_,rfl,fun i hi=>?_⟩,rfl⟩;first|exact s.out i hi|exact⟨q,_,rfl,w.out i hi⟩|(simp at hi;done)|(simp at hi;omega))|(refine⟨⟨_,⟨_,rfl⟩,fun i hi=>?_⟩,rfl⟩;first|exact⟨q,_,rfl,fun j u b=>w.out i (by simpa using hi) j u (by simpa using b)⟩|(exfalso;omega)))
end Go.Proofs.YtbbdgokdfhdpiaaGreatDoor
