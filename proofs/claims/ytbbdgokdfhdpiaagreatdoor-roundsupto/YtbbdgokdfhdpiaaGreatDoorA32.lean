/- A part. -/
import Derived.Test.YtbbdgokdfhdpiaaGreatDoorA21
import Derived.Test.YtbbdgokdfhdpiaaGreatDoorA27
namespace Go.Proofs.YtbbdgokdfhdpiaaGreatDoor
set_option linter.all false
set_option maxRecDepth 100000
set_option maxHeartbeats 0
open Go.Proofs.Tryz Go.RowKit
structure aLm(x:Rm)(m:Mg):Prop where
 l0:0≤m.lock
 l3:m.lock≤3
 e0:0≤m.base
 e1:m.base≤256255
 v:lG m.val
 k1:1≤m.kind
 k5:m.kind≤5
 d0:0≤m.dst
 toA:m.kind=1∨m.kind=3→m.dst<(x.acs.length:Int)
 toC:¬(m.kind=1∨m.kind=3)→m.dst<(x.cls.length:Int)
structure aLi(a:Ra):Prop where
 len:a.log.length≤1000000000
 by_:∀x ∈ a.log,0≤x∧x<256
 l0: -1≤a.left
 l1:a.left≤9223372036854775807
 k0:0≤a.keep
structure tS(N:Int)(x:Rm):Prop where
 cls:∀i (h:i<x.cls.length),RcA N x.cls[i]∧(x.cls[i].busy=true→RcB x.cf N x.cls[i]∧x.cls[i].heard.length≤3∧x.cls[i].back.length≤3∧∀m ∈ x.cls[i].heard,lG m.val)
 acs:∀i (h:i<x.acs.length),aLi x.acs[i]
 n5:x.acs.length≤5
 c4:x.cls.length≤4
 net:(x.net.length:Int)≤N
 tr:(x.tr.length:Int)≤N
 msgs:∀m ∈ x.net,aLm x m
 f0:1≤x.cf.f
 f1:x.cf.f≤2
 d0:0≤x.cf.drift
 d1:x.cf.drift≤10
 rest:∀i (h:i<x.cls.length),0≤x.cls[i].at_∧x.cls[i].at_≤N∧x.cls[i].heard.length≤5∧x.cls[i].back.length≤5
 ids:∀i (h:i<x.cls.length),x.cls[i].id=(i:Int)
def oB(x:Rm)(i:Int):Rc:=x.cls.getD i.toNat (gM 0 0 true)
def yK(x:Rm)(i:Int):Int:=if dT i x.cls.length=true then zA (oB x i)else 1
def xY(x:Rm)(i:Int):Rm:=if dT i x.cls.length=true then dP x i.toNat (wG x.cf (oB x i)) (aBe x.cf x.acs.length (oB x i))else x
def aAE(x:Rm)(i l:Int):Bool:=dT i x.cls.length&&(dT l 4&&aDm (oB x i) l)
def aC7(x:Rm)(i:Int):Bool:=dT i x.cls.length&&aFA (oB x i)
theorem oA{x:Rm}{k:Nat}(h:k<x.cls.length):oB x (k:Int)=x.cls[k]:=by
 unfold oB;rw[bB,aQ,aP h]
 rfl
theorem kQ(k n:Nat)(h:k<n):dT (k:Int) n=true:=by rw[dY];omega
theorem kN(i:Int)(n:Nat):(decide (i<0)=true∧dT i n=false)∨(decide (i<0)=false∧decide ((n:Int)≤i)=true∧dT i n=false)∨∃k:Nat,i=(k:Int)∧k<n:=by
 by_cases b:i<0
 ·left;exact⟨by simp[b],by rw[tH];omega⟩
 ·by_cases a:(n:Int)≤i
  ·right;left;exact⟨by simp;omega,by simp[a],by rw[tH];omega⟩
  ·right;right;exact⟨i.toNat,by omega,by omega⟩
theorem aH4(W:World)(own:Nat→Nat)(y:Nat)(x:Rm)(V:RmV)(N i:Int)(h:RmAt W own y x V)(hok:tS N x)(hN:N≤80000000000):
 Calls prog 114 #[.pointer (some ⟨y,0,none⟩),.int .i64 i] W fun r W'=>r= .returned (.int .i64 (yK x i))∧RmTo W own y V (xY x i) W':=by
 obtain⟨X,P,f,d⟩:=fK h.rcv;have y8:W.cell? ⟨y,8,none⟩=some (.slice X x.cls.length P):=by rw[←f];exact h.cell 8 _ rfl
 have a5:=hok.c4;unfold yK xY;rcases kN i x.cls.length with⟨Q,o⟩|⟨Q,a7,o⟩|⟨k,rfl,v⟩
 ·rw[o];simp only[aU,if_false];have L:=cN (RmTo.of h);clear h f d o;go_enter func114,ntmps114;go_wp2_with fail;go_ret;exact⟨rfl,L.out⟩
 ·rw[o];simp only[aU,if_false];have L:=cN (RmTo.of h);clear h f d o;go_enter func114,ntmps114;go_wp2_with fail;go_ret;exact⟨rfl,L.out⟩
 ·rw[kQ k _ v,oA v,bB];simp only[if_true];obtain⟨c,u⟩:=aLA (x.cls[k]);obtain⟨m,p⟩:=hok.cls k v;rw[u]at m p⊢;obtain⟨g,rfl,J⟩:=d k v;obtain⟨B,t⟩:=aLz (V.bC k);have a2:W.cell? ⟨g,k,none⟩=some (.pointer (some ⟨B,0,none⟩)):=by rw[t];exact J
  have a:RcAt W B c (V.mv k) (V.hv k) (V.bv k):=by have:=h.cls k v;rw[u]at this;rw[t];exact this
  have U:W.cell? ⟨B,2,none⟩=some (.bool c.up):=a.cell 2 _ rfl;have Y:decide ((k:Int)<0)=false:=by simp
  have a3:decide ((x.cls.length:Int)≤(k:Int))=false:=by simp;omega
  cases hu:c.up with
  |false=>
   have F:zA c=2:=if_pos hu;have z:wG x.cf c=c:=if_pos hu;have A:aBe x.cf x.acs.length c=[]:=if_pos hu;rw[F,z,A,fX,←u,bH];rw[hu]at U;have L:=cN (RmTo.of h);clear h f d J F z A u t a;go_enter func114,ntmps114;go_wp2_with fail;go_ret;exact⟨rfl,L.out⟩
  |true=>
   rw[hu]at U;have n:¬c.up=false:=by rw[hu];decide
   have F:zA c=0:=if_neg n;have z:wG x.cf c=if c.busy=true∧x.cf.patience≤c.clock+1-c.at_ then tQ x.cf {c with clock:=c.clock+1}else{c with clock:=c.clock+1}:=if_neg n
   have A:aBe x.cf x.acs.length c=if c.busy=true∧x.cf.patience≤c.clock+1-c.at_ then qY x.cf x.acs.length {c with clock:=c.clock+1}else[]:=if_neg n
   rw[F];have b3:W.cell? ⟨B,3,none⟩=some (.int .i64 c.clock):=a.cell 3 _ rfl;have z3:W.frozen? ⟨B,3,none⟩=false:=cX a.blk 3;have w1:IntKind.i64.wrap (c.clock+1)=c.clock+1:=fV (by have:=m.k0;omega) (by have:=m.k1;omega);have j:(W.setCell ⟨B,3,none⟩ (.int .i64 (c.clock+1))).heap[B]?=some (.cells (rcL {c with clock:=c.clock+1} (V.mv k) (V.hv k) (V.bv k)).toArray 182 (0,0)):=dD a.blk 3 _;have s:=cY W B 3 (.int .i64 (c.clock+1));have o:=h.cells v {c with clock:=c.clock+1} (by rw[←t];exact s) (by rw[←t];exact j) (by rw[u]) (by rw[u]) (by rw[u]);have D:Chg (fun q=>own q≠0) W (W.setCell ⟨B,3,none⟩ (.int .i64 (c.clock+1))):=s.mono (fun q _ e=>by subst e;have:=h.clo k v;rw[t];omega);generalize C:W.setCell ⟨B,3,none⟩ (.int .i64 (c.clock+1))=W1 at*;have I:=cN C;have O:W1.cell? ⟨B,37,none⟩=some (.bool c.busy):=cO j 37 _ rfl;have d3:W1.cell? ⟨B,3,none⟩=some (.int .i64 (c.clock+1)):=cO j 3 _ rfl;have a4:W1.cell? ⟨B,45,none⟩=some (.int .i64 c.at_):=cO j 45 _ rfl;have y2:W1.cell? ⟨y,2,none⟩=some (.int .i64 x.cf.patience):=o.cell 2 _ rfl;have K:=cN (aLo o D);cases hbz:c.busy with
   |false=>
    rw[hbz]at O;have G:¬(c.busy=true∧x.cf.patience≤c.clock+1-c.at_):=by rw[hbz];simp
    rw[z,A,if_neg G,if_neg G,fX];clear h f d J F z A u t a j s o D C G hu n p;go_enter func114,ntmps114;go_wp2_with (first|rw[I.out]);refine eD [0,0,0,1,0,0,0,0,1,0,0,0,1,0,0,0,0,0,1,0,0] (by kernel_rfl) (fun _ _ _ _=>rfl) ?_;simp only[dC,dB];iterate 21 ((try simp only[pA]);first|(apply sB rfl rfl;·(intro x h;(try cases h rfl);go_simp;with_reducible rfl))|apply dN rfl|apply dL rfl)
    refine cP ?_;try simp only[pA]
    go_wp2_with fail;go_ret;exact⟨rfl,RmTo.trans (own1:=own) (V1:=V) rfl rfl K.out.2 (fun _ h=>Or.inl h) (RmTo.of K.out.1 |>.after (S:=NoS) (Chg.refl _ _).drew (fun _ _ h=>h))⟩
   |true=>
    rw[hbz]at O;obtain⟨b,Z,a6,a8⟩:=p hbz;have H:({x with cls:=x.cls.set k {c with clock:=c.clock+1}}:Rm).cls[k]'(by simpa using v)={c with clock:=c.clock+1}:=by simp
    have M:=cN (zC W1.drew own y {x with cls:=x.cls.set k {c with clock:=c.clock+1}} V k {c with clock:=c.clock+1} (N+1) o.drew (by simpa using v) H ⟨m.d0,m.d3,m.i0,m.i1,by have:=m.k0;show 0≤c.clock+1;omega,by have:=m.k1;show c.clock+1≤N+1;omega,m.r0,m.r1,fun l Q h3=>by have:=m.w l Q h3;exact⟨this.1,by show(c.wat l).at_≤N+1;omega⟩⟩ ⟨b.l0,b.l3,b.t0,b.t1,b.g0,by have:=b.g1;show c.began≤N+1;omega,b.n0,b.n8,b.a0,by have:=b.a1;show c.at_≤N+1;omega,by have:=b.mine;show(c.mine.length:Int)≤N+1;omega,b.heard,b.back⟩ (by omega) hok.n5 (by have:=hok.net;show x.net.length≤_;omega) (by have:=hok.tr;show x.tr.length≤_;omega));rw[←t,sQ]at M;have w2:IntKind.i64.wrap (c.clock+1-c.at_)=c.clock+1-c.at_:=fV (by have:=m.k0;have:=b.a1;omega) (by have:=m.k1;have:=b.a0;omega);by_cases E:x.cf.patience≤c.clock+1-c.at_
    ·have R:decide (x.cf.patience≤c.clock+1-c.at_)=true:=by simp[E]
     rw[z,A,if_pos ⟨hbz,E⟩,if_pos ⟨hbz,E⟩];clear h f d J F z A u t a j s o D C hu n p E H;go_enter func114,ntmps114;go_wp2_with (first|rw[I.out]);refine eD [0,0,0,1,0,0,0,0,1,0,0,0,1,0,0,0,0,0,1,0,0] (by kernel_rfl) (fun _ _ _ _=>rfl) ?_;simp only[dC,dB];iterate 21 ((try simp only[pA]);first|(apply sB rfl rfl;·(intro x h;(try cases h rfl);go_simp;with_reducible rfl))|apply dN rfl|apply dL rfl)
     refine cP ?_;try simp only[pA]
     go_wp2_with (go_at_call 151;refine M.out.mono ?_;rintro e W2 ⟨rfl,T⟩);go_ret;exact⟨rfl,RmTo.trans (own1:=own) (V1:=V) rfl rfl K.out.2 (fun _ h=>Or.inl h) T.drew⟩
    ·have R:decide (x.cf.patience≤c.clock+1-c.at_)=false:=by simp;omega
     rw[z,A,if_neg (fun h=>E h.2),if_neg (fun h=>E h.2),fX];clear h f d J F z A u t a j s o D C hu n p E H;go_enter func114,ntmps114;go_wp2_with (first|rw[I.out]);refine eD [0,0,0,1,0,0,0,0,1,0,0,0,1,0,0,0,0,0,1,0,0] (by kernel_rfl) (fun _ _ _ _=>rfl) ?_;simp only[dC,dB];iterate 21 ((try simp only[pA]);first|(apply sB rfl rfl;·(intro x h;(try cases h rfl);go_simp;with_reducible rfl))|apply dN rfl|apply dL rfl)
     refine cP ?_;try simp only[pA]
     go_wp2_with fail;go_ret;exact⟨rfl,RmTo.trans (own1:=own) (V1:=V) rfl rfl K.out.2 (fun _ h=>Or.inl h) (RmTo.of K.out.1 |>.after (S:=NoS) (Chg.refl _ _).drew (fun _ _ h=>h))⟩
section
variable (W:World) (own:Nat→Nat) (y:Nat) (x:Rm) (V:RmV)
theorem aFm(N i l:Int)(h:RmAt W own y x V)(hok:tS N x):
 Calls prog 108 #[.pointer (some ⟨y,0,none⟩),.int .i64 i,.int .i64 l] W fun r W'=>r= .returned (.bool (aAE x i l))∧Below W.heap.size W W':=by
 obtain⟨z,n,d,b⟩:=fK h.rcv;have J:W.cell? ⟨y,8,none⟩=some (.slice z x.cls.length n):=by rw[←d];exact h.cell 8 _ rfl
 have E:=hok.c4;unfold aAE;rcases kN i x.cls.length with⟨t,e⟩|⟨t,F,e⟩|⟨k,rfl,p⟩
 ·rw[e];simp only[Bool.false_and];clear h d b e;go_enter func108,ntmps108;go_wp2_with fail;go_ret;exact⟨rfl,aJ _ _⟩
 ·rw[e];simp only[Bool.false_and];clear h d b e;go_enter func108,ntmps108;go_wp2_with fail;go_ret;exact⟨rfl,aJ _ _⟩
 ·rw[kQ k _ p,oA p];simp only[Bool.true_and];obtain⟨c,m⟩:=aLA (x.cls[k]);rw[m];obtain⟨g,rfl,o⟩:=b k p;obtain⟨B,j⟩:=aLz (V.bC k);have C:W.cell? ⟨g,k,none⟩=some (.pointer (some ⟨B,0,none⟩)):=by rw[j];exact o
  have a:RcAt W B c (V.mv k) (V.hv k) (V.bv k):=by have:=h.cls k p;rw[m]at this;rw[j];exact this
  have w:W.cell? ⟨B,2,none⟩=some (.bool c.up):=a.cell 2 _ rfl;have H:W.cell? ⟨B,3,none⟩=some (.int .i64 c.clock):=a.cell 3 _ rfl;have A:decide ((k:Int)<0)=false:=by simp
  have D:decide ((x.cls.length:Int)≤(k:Int))=false:=by simp;omega
  rcases kN l 4 with⟨v,f⟩|⟨v,s,f⟩|⟨q,rfl,u⟩
  ·rw[f];simp only[Bool.false_and];clear h d b o m j a f;go_enter func108,ntmps108;go_wp2_with fail;go_ret;exact⟨rfl,aJ _ _⟩
  ·rw[f];simp only[Bool.false_and];have K:decide (3<l)=true:=by simp at s;simp;omega
   clear h d b o m j a f;go_enter func108,ntmps108;go_wp2_with fail;go_ret;exact⟨rfl,aJ _ _⟩
  ·rw[kQ q _ u];simp only[Bool.true_and];have bq:W.cell? ⟨B,9+q,none⟩=some (.int .i64 (c.til q)):=a.cell (9+q) _ (oY _ _ _ _ q (by omega));have G:decide ((q:Int)<0)=false:=by simp
   have I:decide (3<(q:Int))=false:=by simp;omega
   have L:(q:Int)<4:=by omega
   unfold aDm;cases hu:c.up;all_goals
    rw[hu]at w;clear h d b o m j a hu;go_enter func108,ntmps108;go_wp2_with fail;refine eD [0,0,0,1,0,0,0,0,0,0,1,0,0,0,1,0,0,0] (by kernel_rfl) (fun _ _ _ _=>rfl) ?_;simp only[dC,dB];iterate 18 ((try simp only[pA]);first|(apply sB rfl rfl;·(intro x h;(try cases h rfl);go_simp;with_reducible rfl))|apply dN rfl|apply dL rfl)
    refine cP ?_;try simp only[pA]
    go_wp2_with fail;go_ret;exact⟨by simp,⟨rfl,rfl,rfl,aE _,fun _ _=>rfl⟩⟩
theorem aG7(N i:Int)(h:RmAt W own y x V)(hok:tS N x):
 Calls prog 110 #[.pointer (some ⟨y,0,none⟩),.int .i64 i] W fun r W'=>r= .returned (.bool (aC7 x i))∧Below W.heap.size W W':=by
 obtain⟨t,j,b,a⟩:=fK h.rcv;have A:W.cell? ⟨y,8,none⟩=some (.slice t x.cls.length j):=by rw[←b];exact h.cell 8 _ rfl
 have z:=hok.c4;unfold aC7;by_cases f:0≤i
 ·have p:decide (0≤i)=true:=by simp[f]
  by_cases u:i<(x.cls.length:Int)
  ·obtain⟨k,rfl⟩:∃k:Nat,i=(k:Int):=⟨i.toNat,by omega⟩;have l:k<x.cls.length:=by omega
   rw[kQ k _ l,oA l];simp only[Bool.true_and];obtain⟨c,n⟩:=aLA (x.cls[k]);rw[n];obtain⟨g,rfl,o⟩:=a k l;obtain⟨B,m⟩:=aLz (V.bC k);have v:W.cell? ⟨g,k,none⟩=some (.pointer (some ⟨B,0,none⟩)):=by rw[m];exact o
   have d:RcAt W B c (V.mv k) (V.hv k) (V.bv k):=by have:=h.cls k l;rw[n]at this;rw[m];exact this
   have s:W.cell? ⟨B,2,none⟩=some (.bool c.up):=d.cell 2 _ rfl;have w:W.cell? ⟨B,37,none⟩=some (.bool c.busy):=d.cell 37 _ rfl;have q:decide ((k:Int)<(x.cls.length:Int))=true:=by simp;omega
   unfold aFA;cases hu:c.up;all_goals
    rw[hu]at s;clear h b a o n m d hu f;go_enter func110,ntmps110;go_wp2_with fail;go_ret;exact⟨by simp,⟨rfl,rfl,rfl,aE _,fun _ _=>rfl⟩⟩
  ·have q:decide (i<(x.cls.length:Int))=false:=by simp;omega
   have e:dT i x.cls.length=false:=by rw[tH];omega
   rw[e];simp only[Bool.false_and];clear h b a e;go_enter func110,ntmps110;go_wp2_with fail;go_ret;exact⟨by simp,⟨rfl,rfl,rfl,aE _,fun _ _=>rfl⟩⟩
 ·have p:decide (0≤i)=false:=by simp;omega
  have e:dT i x.cls.length=false:=by rw[tH];omega
  rw[e];simp only[Bool.false_and];clear h b a e;go_enter func110,ntmps110;go_wp2_with fail;go_ret;exact⟨by simp,⟨rfl,rfl,rfl,aE _,fun _ _=>rfl⟩⟩
end
theorem qC(W:World)(y:Nat)(i:Int)(p:Option Addr)(n cap:Nat)(hc:W.cell? ⟨y,9,none⟩=some (.slice p n cap)):
 Calls prog 152 #[.pointer (some ⟨y,0,none⟩),.int .i64 i] W fun r W'=>r= .returned (.bool (dT i n))∧W'=W:=by
 by_cases a:0≤i
 ·have e:decide (0≤i)=true:=by simp[a]
  by_cases b:i<(n:Int)
  ·have d:decide (i<(n:Int))=true:=by simp[b]
   have c:dT i n=true:=by rw[dY];exact⟨a,b⟩
   rw[c];clear c a b;go_enter func152,ntmps152;go_wp2_with fail;go_ret;exact⟨by simp,rfl⟩
  ·have d:decide (i<(n:Int))=false:=by simp;omega
   have c:dT i n=false:=by rw[tH];omega
   rw[c];clear c a b;go_enter func152,ntmps152;go_wp2_with fail;go_ret;exact⟨by simp,rfl⟩
 ·have e:decide (0≤i)=false:=by simp;omega
  have c:dT i n=false:=by rw[tH];omega
  rw[c];clear c a;go_enter func152,ntmps152;go_wp2_with fail;go_ret;exact⟨by simp,rfl⟩
def tB(x:Rm)(i:Int):Ra:=x.acs.getD i.toNat oL
theorem pP{x:Rm}{k:Nat}(h:k<x.acs.length):tB x (k:Int)=x.acs[k]:=by
 unfold tB;rw[bB,aQ,aP h]
 rfl
def aGS(x:Rm)(i:Int):Int:=if dT i x.acs.length=true then 0 else 1
def aGw(x:Rm)(i:Int):List Int:=if dT i x.acs.length=true then(tB x i).log else[]
def vG(x:Rm)(i:Int):Int:=if dT i x.acs.length=true then(if(tB x i).up=false then 2 else 0)else 1
def yM(x:Rm)(i:Int):List Rw:=if vG x i=0 then eG (dO (tB x i).log) 4 else[]
section
variable (W:World) (own:Nat→Nat) (y:Nat) (x:Rm) (V:RmV) (N i:Int)
theorem aJx(h:RmAt W own y x V)(hok:tS N x):
 Calls prog 112 #[.pointer (some ⟨y,0,none⟩),.int .i64 i] W fun r W'=>r= .returned (.tuple #[.string (strOfNums (aGw x i)),.int .i64 (aGS x i)])∧Below W.heap.size W W':=by
 obtain⟨o,f,b,a⟩:=fK h.rav;have v:W.cell? ⟨y,7,none⟩=some (.slice o x.acs.length f):=by rw[←b];exact h.cell 7 _ rfl
 have t:=hok.n5;unfold aGS aGw;rcases kN i x.acs.length with⟨n,c⟩|⟨n,u,c⟩|⟨k,rfl,j⟩
 ·rw[c];simp only[aU,if_false];have e:strOfNums []=⟨#[]⟩:=rfl;rw[e];clear h b a c;go_enter func112,ntmps112;go_wp2_with fail
  go_ret2
  exact⟨rfl,aJ _ _⟩
 ·rw[c];simp only[aU,if_false];have e:strOfNums []=⟨#[]⟩:=rfl;rw[e];clear h b a c;go_enter func112,ntmps112;go_wp2_with fail
  go_ret2
  exact⟨rfl,aJ _ _⟩
 ·rw[kQ k _ j,pP j];simp only[if_true];obtain⟨g,rfl,m⟩:=a k j;obtain⟨B,l⟩:=aLz (V.bA k);have q:W.cell? ⟨g,k,none⟩=some (.pointer (some ⟨B,0,none⟩)):=by rw[l];exact m
  have d:RaAt W B x.cf x.acs[k]:=by rw[l];exact h.acs k j
  have w:W.cell? ⟨B,7,none⟩=some (.string (strOfNums x.acs[k].log)):=cO d 7 _ rfl;generalize x.acs[k].log=L at*;have p:decide ((k:Int)<0)=false:=by simp
  have s:decide ((x.acs.length:Int)≤(k:Int))=false:=by simp;omega
  clear h b a m l d;go_enter func112,ntmps112;go_wp2_with fail
  go_ret2
  exact⟨rfl,aJ _ _⟩
theorem aFg(h:RmAt W own y x V)(hok:tS N x):
 Calls prog 111 #[.pointer (some ⟨y,0,none⟩),.int .i64 i] W fun r W'=>∃v,r= .returned (.tuple #[v,.int .i64 (vG x i)])∧W'.ownsRow W.heap.size 58 7 v (yM x i).length (cellsOf (yM x i))∧Below W.heap.size W W':=by
 obtain⟨w,m,c,b⟩:=fK h.rav;have F:W.cell? ⟨y,7,none⟩=some (.slice w x.acs.length m):=by rw[←c];exact h.cell 7 _ rfl
 have D:=hok.n5;unfold yM vG;rcases kN i x.acs.length with⟨s,l⟩|⟨s,E,l⟩|⟨k,rfl,j⟩
 ·rw[l];simp only[aU,if_false];rw[if_neg (by decide)];clear h c b l;go_enter func111,ntmps111;go_wp2_with fail
  go_ret2
  exact⟨_,rfl,aZ _ _ _ _,aJ _ _⟩
 ·rw[l];simp only[aU,if_false];rw[if_neg (by decide)];clear h c b l;go_enter func111,ntmps111;go_wp2_with fail
  go_ret2
  exact⟨_,rfl,aZ _ _ _ _,aJ _ _⟩
 ·rw[kQ k _ j,pP j];simp only[if_true];obtain⟨g,rfl,o⟩:=b k j;obtain⟨B,n⟩:=aLz (V.bA k);have A:W.cell? ⟨g,k,none⟩=some (.pointer (some ⟨B,0,none⟩)):=by rw[n];exact o
  have d:RaAt W B x.cf x.acs[k]:=by rw[n];exact h.acs k j
  have f:=hok.acs k j;have p:=cN (xC W B x.cf x.acs[k] d f.len f.by_);generalize x.acs[k]=a at*;have q:W.cell? ⟨B,8,none⟩=some (.bool a.up):=cO d 8 _ rfl;have z:decide ((k:Int)<0)=false:=by simp
  have C:decide ((x.acs.length:Int)≤(k:Int))=false:=by simp;omega
  cases hu:a.up with
  |false=>
   rw[hu]at q;simp only[if_true];rw[if_neg (by decide)];clear h c b o n d hu;go_enter func111,ntmps111;go_wp2_with fail
   go_ret2
   exact⟨_,rfl,aZ _ _ _ _,aJ _ _⟩
  |true=>
   rw[hu]at q;simp only[Bool.true_eq_false,if_false,if_true];generalize eG (dO a.log) 4=T at*;clear h c b o n d hu f;go_enter func111,ntmps111;go_wp2_with (go_at_call 149;refine p.out.mono ?_;rintro e G ⟨v,rfl,u,t⟩)
   go_ret2
   exact⟨v,rfl,u,t⟩
end
theorem aHx(f:Nat→Nat)(n k b:Nat)(hk:k<n):(nD f n).set k (rJ b)=nD (fun j=>if j=k then b else f j) n:=by
 apply List.ext_getElem
 ·simp
 ·intro j d a;have c:j<n:=by simpa using a
  rw[List.getElem_set];by_cases e:k=j
  ·subst e;simp
  ·rw[if_neg e];simp[Ne.symm e]
abbrev eU:Value:=.slice none 0 0
theorem RmAt.renew{W W1:World}{own:Nat→Nat}{y:Nat}{x:Rm}{V:RmV}(h:RmAt W own y x V){k:Nat}(hk:k<x.cls.length){n g cap:Nat}{c':Rc}(h01:Chg NoS W W1)(hn:W.heap.size≤n)
 (hb:W1.heap[n]?=some (.cells (rcL c' eU eU eU).toArray 182 (0,0))) (hm:c'.mine=[]) (hh:c'.heard=[]) (hbk:c'.back=[]) (hcv:V.cv= .slice (some ⟨g,0,none⟩) x.cls.length cap):
 ∃own' V',RmAt (W1.setCell ⟨g,k,none⟩ (rJ n)) own' y {x with cls:=x.cls.set k c'} V'∧V'.tv=V.tv∧Chg (fun q=>own q≠0) W (W1.setCell ⟨g,k,none⟩ (rJ n))∧∀q,own' q≠0→own q≠0∨W.heap.size≤q:=by
 have hog:own g=5:=h.cvo g (by rw[hcv];rfl);have hgl:g<W.heap.size:=h.lt g (by omega);have hn1:n<W1.heap.size:=dG hb;have hc1:=cY W1 g k (rJ n);have hc:Chg (fun q=>own q=5) W (W1.setCell ⟨g,k,none⟩ (rJ n)):=(h01.mono (T:=fun q=>own q=5) (fun _ _ h=>h.elim)).trans hc1 (fun q _ e=>by subst e;exact hog);have hng:n≠g:=by omega
 have hnb:=hc1.kept hb hng;have hrow1:=h01.row h.rcv (fun _ _ h=>h);rw[hcv]at hrow1;have hrow2:=(hrow1.stored k (rJ n)).1;rw[aHx _ _ _ _ hk]at hrow2;generalize hW2:W1.setCell ⟨g,k,none⟩ (rJ n)=W2 at*;have hs2:W1.heap.size≤W2.heap.size:=hc1.size;have hs1:=h01.size
 let f:Nat→Nat:=fun q=>if q=n then 7+5*k else 0
 have hold:∀{q p:Nat},p≠0→own q=p→lO W own f q=p:=fun hp h'=>uO h.lt hp h';have hblk:∀q,own q≠0→own q≠5→W2.heap[q]?=W.heap[q]?:=fun q h0 h5=>hc.block q (h.lt q h0) h5;have hnew:lO W own f n=7+5*k:=by rw[gK hn];simp[f]
 refine⟨lO W own f,{V with bC:=fun j=>if j=k then n else V.bC j,mv:=fun j=>if j=k then eU else V.mv j,hv:=fun j=>if j=k then eU else V.hv j,bv:=fun j=>if j=k then eU else V.bv j},?_,rfl,hc.mono (fun q _ hq=>by omega),fun q hq=>?_⟩
 ·exact{
   blk:=(hblk y (by rw[h.yo];decide) (by rw[h.yo];decide)).trans h.blk
   yo:=hold (by decide) h.yo
   net:=dF h.net fun q hq=>by have:=h.nvo q hq;exact hblk q (by omega) (by omega)
   tr:=dF h.tr fun q hq=>by have:=h.tvo q hq;exact hblk q (by omega) (by omega)
   rav:=dF h.rav fun q hq=>by have:=h.avo q hq;exact hblk q (by omega) (by omega)
   rcv:=by
    show W2.ownsRow 0 _ 1 V.cv (x.cls.set k c').length (nD _ (x.cls.set k c').length);rw[bV,hcv];exact hrow2
   nvo:=fun q hq=>hold (by decide) (h.nvo q hq)
   tvo:=fun q hq=>hold (by decide) (h.tvo q hq)
   avo:=fun q hq=>hold (by decide) (h.avo q hq)
   cvo:=fun q hq=>hold (by decide) (h.cvo q hq)
   acs:=fun j hj=>by have:=h.aco j hj;exact(hblk (V.bA j) (by omega) (by omega)).trans (h.acs j hj)
   aco:=fun j hj=>hold (by omega) (h.aco j hj)
   cls:=fun j hj=>by
    have hj':j<x.cls.length:=by simpa using hj
    by_cases hji:j=k
    ·subst hji;simp only[bZ,if_true];exact⟨hnb,by rw[hm];exact aZ _ _ _ _,by rw[hh];exact aZ _ _ _ _,by rw[hbk];exact aZ _ _ _ _⟩
    ·simp only[List.getElem_set_ne (Ne.symm hji),if_neg hji];have q1:=h.clo j hj';exact(h.cls j hj').of_heap (hblk (V.bC j) (by omega) (by omega)) (fun q hq=>by have:=h.mo j hj' q hq;exact hblk q (by omega) (by omega)) (fun q hq=>by have:=h.ho j hj' q hq;exact hblk q (by omega) (by omega)) (fun q hq=>by have:=h.bo j hj' q hq;exact hblk q (by omega) (by omega))
   clo:=fun j hj=>by
    have hj':j<x.cls.length:=by simpa using hj
    by_cases hji:j=k
    ·subst hji;simp only[if_true];exact hnew
    ·simp only[if_neg hji];exact hold (by omega) (h.clo j hj')
   mo:=fun j hj q hq=>by
    have hj':j<x.cls.length:=by simpa using hj
    by_cases hji:j=k
    ·subst hji;simp only[if_true]at hq;cases hq
    ·simp only[if_neg hji]at hq;exact hold (by omega) (h.mo j hj' q hq)
   ho:=fun j hj q hq=>by
    have hj':j<x.cls.length:=by simpa using hj
    by_cases hji:j=k
    ·subst hji;simp only[if_true]at hq;cases hq
    ·simp only[if_neg hji]at hq;exact hold (by omega) (h.ho j hj' q hq)
   bo:=fun j hj q hq=>by
    have hj':j<x.cls.length:=by simpa using hj
    by_cases hji:j=k
    ·subst hji;simp only[if_true]at hq;cases hq
    ·simp only[if_neg hji]at hq;exact hold (by omega) (h.bo j hj' q hq)
   lt:=fun q hq=>by
    rcases Nat.lt_or_ge q W.heap.size with h'|h'
    ·omega
    ·rw[gK h']at hq;simp only[f]at hq;split at hq
     ·omega
     ·exact absurd rfl hq}
 ·rcases Nat.lt_or_ge q W.heap.size with h'|h'
  ·rw[oX h']at hq;exact Or.inl hq
  ·exact Or.inr h'
def yR(x:Rm)(i:Int):Int:=if dT i x.cls.length=true then aAQ (oB x i)else 1
def xK(x:Rm)(i:Int):Rm:=if dT i x.cls.length=true then dP x i.toNat (wV (oB x i)) (aAP (oB x i) i)else x
theorem aHd(W:World)(own:Nat→Nat)(y:Nat)(x:Rm)(V:RmV)(N i:Int)(h:RmAt W own y x V)(hok:tS N x)(hN:N≤80000000000):
 Calls prog 118 #[.pointer (some ⟨y,0,none⟩),.int .i64 i] W fun r W'=>r= .returned (.int .i64 (yR x i))∧RmGo W own y (xK x i) W':=by
 obtain⟨ie,a4,a5,a7,a9⟩:=info_parts nT;obtain⟨pc,s,d,j⟩:=fK h.rcv;have Z:W.cell? ⟨y,8,none⟩=some (.slice pc x.cls.length s):=by rw[←d];exact h.cell 8 _ rfl
 have c0:=hok.c4;unfold yR xK;rcases kN i x.cls.length with⟨h0,J⟩|⟨h0,c2,J⟩|⟨k,rfl,E⟩
 ·rw[J];simp only[aU,if_false];have I:=cN (RmGo.of h);clear h d j J;go_enter func118,ntmps118;go_wp2_with fail;go_ret;exact⟨rfl,I.out⟩
 ·rw[J];simp only[aU,if_false];have I:=cN (RmGo.of h);clear h d j J;go_enter func118,ntmps118;go_wp2_with fail;go_ret;exact⟨rfl,I.out⟩
 ·rw[kQ k _ E,oA E,bB];simp only[if_true];obtain⟨c,D⟩:=aLA (x.cls[k]);rw[D];obtain⟨g,rfl,hg⟩:=j k E;obtain⟨B,U⟩:=aLz (V.bC k);have a2:W.cell? ⟨g,k,none⟩=some (.pointer (some ⟨B,0,none⟩)):=by rw[U];exact hg
  have f:RcAt W B c (V.mv k) (V.hv k) (V.bv k):=by have:=h.cls k E;rw[D]at this;rw[U];exact this
  have b2:W.cell? ⟨B,2,none⟩=some (.bool c.up):=f.cell 2 _ rfl;have c3:decide ((k:Int)<0)=false:=by simp
  have b7:decide ((x.cls.length:Int)≤(k:Int))=false:=by simp;omega
  cases hu:c.up with
  |false=>
   have A:aAQ c=2:=if_pos hu;have F:wV c=c:=if_pos hu;have K:aAP c k=[]:=if_pos hu;rw[A,F,K,fX,←D,bH];rw[hu]at b2;have I:=cN (RmGo.of h);clear h d j hg A F K D U f;go_enter func118,ntmps118;go_wp2_with fail;go_ret;exact⟨rfl,I.out⟩
  |true=>
   rw[hu]at b2;have n:¬c.up=false:=by rw[hu];decide
   have A:aAQ c=0:=if_neg n;have F:wV c=gM c.id c.inc false:=if_neg n;have K:aAP c k=[eO (-1-(k:Int))]:=if_neg n;rw[A,F,K];have Y:W.cell? ⟨B,0,none⟩=some (.int .i64 c.id):=f.cell 0 _ rfl;have b1:W.cell? ⟨B,1,none⟩=some (.int .i64 c.inc):=f.cell 1 _ rfl;have zg:W.frozen? ⟨g,k,none⟩=false:=by have:=h.rcv;rw[d]at this;exact this.frozenAt k
   have H:=cN h;have b9:=cN f;have O:=cN d;have w1:IntKind.i64.wrap (-1-(k:Int))= -1-(k:Int):=fV (by omega) (by omega);have b8:wrap64 (-1-(k:Int))= -1-(k:Int):=by unfold wrap64;omega
   clear h d j hg A F K D U f hu n;go_enter func118,ntmps118;go_wp2_with fail;refine rlx [0,0,0,1,0,0,0,0,1,0,0,0,1,0,2,0] (fun z=>z.cell? ⟨y,8,none⟩=some (.slice (some ⟨g,0,none⟩) x.cls.length s)∧z.cell? ⟨B,0,none⟩=some (.int .i64 c.id)∧z.cell? ⟨B,1,none⟩=some (.int .i64 c.inc)) (by kernel_rfl) (fun _ _ _ _=>rfl) ?_ ?_
   ·exact⟨Z,Y,b1⟩
   simp only[dC,dB];iterate 14 (apply sB rfl rfl;·(intro x h;(try have h:=h rfl);(try dsimp only at h);go_simp;with_reducible rfl))
   try simp only[pA]
   refine dI rfl (fun C hC=>?_);go_simp;have hZ:((zeroCells182.setIfInBounds 0 (.int .i64 c.id)).setIfInBounds 1 (.int .i64 c.inc))=(rcL (gM c.id c.inc false) eU eU eU).toArray:=rfl;have b:Chg NoS W (W.alloc (.cells (rcL (gM c.id c.inc false) eU eU eU).toArray 182)).drew:=((Chg.refl _ _).alloc _).drew;have Q:(W.alloc (.cells (rcL (gM c.id c.inc false) eU eU eU).toArray 182)).drew.heap[W.heap.size]?=_:=aA W (.cells (rcL (gM c.id c.inc false) eU eU eU).toArray 182);have a1:(W.alloc (.cells (rcL (gM c.id c.inc false) eU eU eU).toArray 182)).drew.heap.size=W.heap.size+1:=by simp
   refine hC _ _ ⟨b.cellN Z,b.cellN Y,b.cellN b1⟩ ?_;clear hC C;(try simp only[pA]);iterate 1 (apply sB rfl rfl;·(intro x h;(try have h:=h rfl);(try dsimp only at h);go_simp;with_reducible rfl))
   refine cP ?_;try simp only[pA]
   rw[hZ];obtain⟨b3,G,X,o,M,P⟩:=H.out.renew E b (aE _) Q rfl rfl rfl O.out;have c5:=b.cellN a2;have c1:(W.alloc (.cells (rcL (gM c.id c.inc false) eU eU eU).toArray 182)).drew.frozen? ⟨g,k,none⟩=false:=by
    have:=b.row H.out.rcv (fun _ _ h=>h);rw[O.out]at this;exact this.frozenAt k
   generalize a6:(W.alloc (.cells (rcL (gM c.id c.inc false) eU eU eU).toArray 182)).drew=W1 at*;generalize R:W1.setCell ⟨g,k,none⟩ (rJ W.heap.size)=W2 at*;have a8:=cN R;have w:=cN (aLq X o M P);have a0:W2.cell? ⟨y,10,none⟩=some G.tv:=X.cell 10 _ rfl;have l:=X.tr;have b5:=hok.tr;have u:=aA W2 (.cells (evL (eO (-1-(k:Int)))).toArray 70);clear hZ b Q a1 a6 R X o M P Z Y b1 b2;go_wp2_with (first|rw[a8.out]|(at_builtin;refine wpList_append_lies _ rfl _ _ 43 rfl 0 70 ie _ 19 152 underlying43 a4 a5 a7 a9 rfl (by decide) G.tv x.tr.length (cZ evL x.tr) rfl (l.alloc _) ⟨W2.heap.size,0,none⟩ 1 1 (evL (eO (-1-(k:Int)))) rfl rfl (cR u) (nU _) (by decide) (by unfold maxLen;omega) (by omega) (aI _) (W2.heap.size+1) (by simp) ?_;intro gt b4 W3 m a p S;refine cQ ?_));have L:=w.out.1.trAppend (e:=eO (-1-(k:Int))) (W1:=W2.alloc (.cells (evL (eO (-1-(k:Int)))).toArray 70)) ((Chg.refl _ _).alloc _) ⟨a.os,a.tape,a.output,a.size,a.block⟩ m (p.imp (fun h=>h) (fun h=>by simp;omega));have t:Chg (fun q=>some q=G.tv.ownBlock) W2 W3:=(((Chg.refl NoS W2).alloc _).mono (T:=fun q=>some q=G.tv.ownBlock) (fun _ _ h=>h.elim)).trans (Chg.of_grown ⟨a.os,a.tape,a.output,a.size,a.block⟩) (fun _ _ h=>h);have v:=t.kept w.out.1.blk (fun e=>by have:=w.out.1.tvo _ e.symm;have:=w.out.1.yo;omega);have c6:W3.cell? ⟨y,10,none⟩=some G.tv:=cO v 10 _ rfl;have b6:=cX v 10;have a3:=cN L;clear L t v m a p S u a0 l;refine cN ?_;go_wp2_with fail;go_ret;refine⟨rfl,RmGo.trans w.out.2.2.1 w.out.2.2.2 ?_⟩
   have e4:dP x k (gM c.id c.inc false) [eO (-1-(k:Int))]={x with cls:=x.cls.set k (gM c.id c.inc false),tr:=x.tr++[eO (-1-(k:Int))]}:=by
    unfold dP;rw[fE _ (by show(4:Int)≠1;decide),aC]
   rw[e4];exact a3.out.go
def rP(x:Rm)(i:Int):Int:=if dT i x.cls.length=true then mO (oB x i)else 1
def rD(x:Rm)(i:Int):Rm:=if dT i x.cls.length=true then dP x i.toNat (nZ (oB x i)) (rU (oB x i) i)else x
theorem aD0(W:World)(own:Nat→Nat)(y:Nat)(x:Rm)(V:RmV)(N i:Int)(h:RmAt W own y x V)(hok:tS N x)(hN:N≤80000000000):
 Calls prog 119 #[.pointer (some ⟨y,0,none⟩),.int .i64 i] W fun r W'=>r= .returned (.int .i64 (rP x i))∧RmGo W own y (rD x i) W':=by
 obtain⟨ie,a4,a5,a7,b3⟩:=info_parts nT;obtain⟨pc,A,b,l⟩:=fK h.rcv;have y8:W.cell? ⟨y,8,none⟩=some (.slice pc x.cls.length A):=by rw[←b];exact h.cell 8 _ rfl
 have c1:=hok.c4;unfold rP rD;rcases kN i x.cls.length with⟨h0,O⟩|⟨h0,c3,O⟩|⟨k,rfl,J⟩
 ·rw[O];simp only[aU,if_false];have F:=cN (RmGo.of h);clear h b l O;go_enter func119,ntmps119;go_wp2_with fail;go_ret;exact⟨rfl,F.out⟩
 ·rw[O];simp only[aU,if_false];have F:=cN (RmGo.of h);clear h b l O;go_enter func119,ntmps119;go_wp2_with fail;go_ret;exact⟨rfl,F.out⟩
 ·rw[kQ k _ J,oA J,bB];simp only[if_true];obtain⟨c,s⟩:=aLA (x.cls[k]);rw[s];obtain⟨g,rfl,hg⟩:=l k J;obtain⟨B,L⟩:=aLz (V.bC k);have a2:W.cell? ⟨g,k,none⟩=some (.pointer (some ⟨B,0,none⟩)):=by rw[L];exact hg
  have d:RcAt W B c (V.mv k) (V.hv k) (V.bv k):=by have:=h.cls k J;rw[s]at this;rw[L];exact this
  have b2:W.cell? ⟨B,2,none⟩=some (.bool c.up):=d.cell 2 _ rfl;have c5:decide ((k:Int)<0)=false:=by simp
  have b8:decide ((x.cls.length:Int)≤(k:Int))=false:=by simp;omega
  cases hu:c.up with
  |true=>
   have j:mO c=3:=if_pos hu;have t:nZ c=c:=if_pos (by rw[j];decide);have u:rU c k=[]:=if_pos (by rw[j];decide);rw[j,t,u,fX,←s,bH];rw[hu]at b2;have F:=cN (RmGo.of h);clear h b l hg j t u s L d;go_enter func119,ntmps119;go_wp2_with fail;go_ret;exact⟨rfl,F.out⟩
  |false=>
  rw[hu]at b2;have G:¬c.up=true:=by rw[hu];decide
  by_cases m:63≤c.inc
  ·have j:mO c=5:=(if_neg G).trans (if_pos m);have t:nZ c=c:=if_pos (by rw[j];decide);have u:rU c k=[]:=if_pos (by rw[j];decide);rw[j,t,u,fX,←s,bH];have Z:W.cell? ⟨B,1,none⟩=some (.int .i64 c.inc):=d.cell 1 _ rfl;have a8:decide (63≤c.inc)=true:=by simp[m]
   have F:=cN (RmGo.of h);clear h b l hg j t u s L d m;go_enter func119,ntmps119;go_wp2_with fail;go_ret;exact⟨rfl,F.out⟩
  ·have a8:decide (63≤c.inc)=false:=by simp;omega
   have j:mO c=0:=(if_neg G).trans (if_neg m);have t:nZ c=gM c.id (c.inc+1) true:=if_neg (by rw[j];decide);have u:rU c k=[jD (-1-(k:Int))]:=if_neg (by rw[j];decide);rw[j,t,u];have p:=(hok.cls k J).1;rw[s]at p;have w3:IntKind.i64.wrap (c.inc+1)=c.inc+1:=fV (by have:=p.i0;omega) (by have:=p.i1;omega);clear p m;have b0:W.cell? ⟨B,0,none⟩=some (.int .i64 c.id):=d.cell 0 _ rfl;have Z:W.cell? ⟨B,1,none⟩=some (.int .i64 c.inc):=d.cell 1 _ rfl;have zg:W.frozen? ⟨g,k,none⟩=false:=by have:=h.rcv;rw[b]at this;exact this.frozenAt k
   have H:=cN h;have c0:=cN d;have R:=cN b;have w1:IntKind.i64.wrap (-1-(k:Int))= -1-(k:Int):=fV (by omega) (by omega);have b9:wrap64 (-1-(k:Int))= -1-(k:Int):=by unfold wrap64;omega
   clear h b l hg j t u s L d hu G;go_enter func119,ntmps119;go_wp2_with fail;refine rlx [0,0,0,1,0,0,0,0,1,0,0,0,1,0,0,2,0] (fun z=>z.cell? ⟨y,8,none⟩=some (.slice (some ⟨g,0,none⟩) x.cls.length A)∧z.cell? ⟨B,0,none⟩=some (.int .i64 c.id)∧z.cell? ⟨B,1,none⟩=some (.int .i64 c.inc)) (by kernel_rfl) (fun _ _ _ _=>rfl) ?_ ?_
   ·exact⟨y8,b0,Z⟩
   simp only[dC,dB];iterate 15 (apply sB rfl rfl;·(intro x h;(try have h:=h rfl);(try dsimp only at h);go_simp;with_reducible rfl))
   try simp only[pA]
   refine dI rfl (fun C hC=>?_);go_simp;have hZ:((zeroCells182.setIfInBounds 0 (.int .i64 c.id)).setIfInBounds 1 (.int .i64 (c.inc+1))).setIfInBounds 2 (.bool true)=(rcL (gM c.id (c.inc+1) true) eU eU eU).toArray:=rfl;have f:Chg NoS W (W.alloc (.cells (rcL (gM c.id (c.inc+1) true) eU eU eU).toArray 182)).drew:=((Chg.refl _ _).alloc _).drew;have U:(W.alloc (.cells (rcL (gM c.id (c.inc+1) true) eU eU eU).toArray 182)).drew.heap[W.heap.size]?=_:=aA W (.cells (rcL (gM c.id (c.inc+1) true) eU eU eU).toArray 182);have a1:(W.alloc (.cells (rcL (gM c.id (c.inc+1) true) eU eU eU).toArray 182)).drew.heap.size=W.heap.size+1:=by simp
   refine hC _ _ ⟨f.cellN y8,f.cellN b0,f.cellN Z⟩ ?_;clear hC C;(try simp only[pA]);iterate 1 (apply sB rfl rfl;·(intro x h;(try have h:=h rfl);(try dsimp only at h);go_simp;with_reducible rfl))
   refine cP ?_;try simp only[pA]
   rw[hZ];obtain⟨b4,M,h2,v,Q,S⟩:=H.out.renew J f (aE _) U rfl rfl rfl R.out;have c6:=f.cellN a2;have c2:(W.alloc (.cells (rcL (gM c.id (c.inc+1) true) eU eU eU).toArray 182)).drew.frozen? ⟨g,k,none⟩=false:=by
    have:=f.row H.out.rcv (fun _ _ h=>h);rw[R.out]at this;exact this.frozenAt k
   generalize a6:(W.alloc (.cells (rcL (gM c.id (c.inc+1) true) eU eU eU).toArray 182)).drew=W1 at*;generalize X:W1.setCell ⟨g,k,none⟩ (rJ W.heap.size)=W2 at*;have a9:=cN X;have K:=cN (aLq h2 v Q S);have a0:W2.cell? ⟨y,10,none⟩=some M.tv:=h2.cell 10 _ rfl;have n:=h2.tr;have b6:=hok.tr;have E:=aA W2 (.cells (evL (jD (-1-(k:Int)))).toArray 70);clear hZ f U a1 a6 X h2 v Q S y8 b0 Z b2;go_wp2_with (first|rw[a9.out]|(at_builtin;refine wpList_append_lies _ rfl _ _ 43 rfl 0 70 ie _ 19 152 underlying43 a4 a5 a7 b3 rfl (by decide) M.tv x.tr.length (cZ evL x.tr) rfl (n.alloc _) ⟨W2.heap.size,0,none⟩ 1 1 (evL (jD (-1-(k:Int)))) rfl rfl (cR E) (nU _) (by decide) (by unfold maxLen;omega) (by omega) (aI _) (W2.heap.size+1) (by simp) ?_;intro gt b5 W3 o a w Y;refine cQ ?_));have P:=K.out.1.trAppend (e:=jD (-1-(k:Int))) (W1:=W2.alloc (.cells (evL (jD (-1-(k:Int)))).toArray 70)) ((Chg.refl _ _).alloc _) ⟨a.os,a.tape,a.output,a.size,a.block⟩ o (w.imp (fun h=>h) (fun h=>by simp;omega));have D:Chg (fun q=>some q=M.tv.ownBlock) W2 W3:=(((Chg.refl NoS W2).alloc _).mono (T:=fun q=>some q=M.tv.ownBlock) (fun _ _ h=>h.elim)).trans (Chg.of_grown ⟨a.os,a.tape,a.output,a.size,a.block⟩) (fun _ _ h=>h);have I:=D.kept K.out.1.blk (fun e=>by have:=K.out.1.tvo _ e.symm;have:=K.out.1.yo;omega);have c7:W3.cell? ⟨y,10,none⟩=some M.tv:=cO I 10 _ rfl;have b7:=cX I 10;have a3:=cN P;clear P D I o a w Y E a0 n;refine cN ?_;go_wp2_with fail;go_ret;refine⟨rfl,RmGo.trans K.out.2.2.1 K.out.2.2.2 ?_⟩
   have e4:dP x k (gM c.id (c.inc+1) true) [jD (-1-(k:Int))]={x with cls:=x.cls.set k (gM c.id (c.inc+1) true),tr:=x.tr++[jD (-1-(k:Int))]}:=by
    unfold dP;rw[fE _ (by show(5:Int)≠1;decide),aC]
   rw[e4];exact a3.out.go
theorem aCv(fn:Func)(hr:fn.results=#[.cell 4 66])(tmps:Array Value)(x:Nat)(m:Mg)(W:World)(h4:tmps.getD 4 undef= .pointer (some ⟨x,0,none⟩))(hb:W.heap[x]?=some (.cells (mgL m).toArray 66 (0,0))):
 (results fn tmps).run prog W= .ok (mgV m) W:=by
 have a:(loadVar 66 ⟨x,0,none⟩).run prog W= .ok (mgV m) W:=fC W ⟨x,0,none⟩ 66 (mgL m) _ (cR hb) underlying66 rfl (by kernel_rfl);unfold results;rw[hr];simp only[cK]at h4;simp[h4,asAddr,aT,a]
theorem vR{α:Type}(f:α→List Value)(a b:List α):cZ f (a++b)=cZ f a++cZ f b:=by simp[cZ]
theorem wW(l:List Mg):∀u ∈ cZ mgL l,u.oneCell'=true:=fun u hu=>by
 obtain⟨m,_,hm⟩:=List.mem_flatMap.1 hu;exact oT m u hm
theorem wT(l:List Mg):(cZ mgL l).length=l.length*10:=eV mgL (fun _=>rfl) l
theorem xB(W:World)(own:Nat→Nat)(y:Nat)(x:Rm)(V:RmV)(k:Nat)(h:RmAt W own y x V)(hk:k<x.net.length)(hn:x.net.length≤100000000000):
 Calls prog 153 #[.pointer (some ⟨y,0,none⟩),.int .i64 k] W fun r W'=>r= .returned (mgV x.net[k])∧RmTo W own y V {x with net:=x.net.eraseIdx k} W':=by
 obtain⟨i1,ji,jz0,jz1,jz2⟩:=info_parts mJ;obtain⟨pn,capn,hnv,hnr⟩:=nV h.net;obtain⟨g,rfl,hgl,hgc⟩:=hnr k hk;have hog:own g=2:=h.nvo g (by rw[hnv];rfl);have hcap:x.net.length≤capn:=by
  have:=h.net;rw[hnv]at this;rcases this.2 with⟨e,h0⟩|⟨g',cap',cur,e,_,_,hc,_⟩
  ·omega
  ·cases e;exact hc
 have hall:∀(q:Nat) (hq:q<x.net.length),∀j u,(mgL x.net[q])[j]?=some u→W.cell? ⟨g,q*10+j,none⟩=some u:=fun q hq j u hj=>by
  obtain⟨g',e,_,hc⟩:=hnr q hq;cases e;exact hc j u hj
 obtain⟨m,hm⟩:=aLA (x.net[k]);rw[hm];have hgm:=hall k hk;rw[hm]at hgm;have hpart:∀(a b:Nat),b≤x.net.length→∀j u,(cZ mgL ((x.net.take b).drop a))[j]?=some u→W.cell? ⟨g,a*10+j,none⟩=some u:=by
  intro a b hb j u hj;have hjl:j<((x.net.take b).drop a).length*10:=by
   have:=(aF.1 hj).1;rw[wT]at this;exact this
  have hq:j / 10<((x.net.take b).drop a).length:=by omega
  have e1:j=(j / 10)*10+j % 10:=by omega
  rw[e1,lX mgL (fun _=>rfl) _ _ hq _ (by omega)]at hj;have hl:((x.net.take b).drop a).length=b-a:=by simp;omega
  have e2:((x.net.take b).drop a)[j / 10]=x.net[a+j / 10]'(by omega):=by simp
  rw[e2]at hj;have:=hall (a+j / 10) (by omega) (j % 10) u hj;rw[show a*10+j=(a+j / 10)*10+j % 10 by omega];exact this
 have hb0:=aA W (.cells #[.int .i64 0,.int .i64 0,.int .i64 0,.int .i64 0,.int .i64 0,.int .i64 0,.int .i64 0,.int .i64 0,.int .i64 0,.int .i64 0] 66);have hn0:Chg NoS W (W.alloc (.cells #[.int .i64 0,.int .i64 0,.int .i64 0,.int .i64 0,.int .i64 0,.int .i64 0,.int .i64 0,.int .i64 0,.int .i64 0,.int .i64 0] 66)):=(Chg.refl _ _).alloc _;have hs0:(W.alloc (.cells #[.int .i64 0,.int .i64 0,.int .i64 0,.int .i64 0,.int .i64 0,.int .i64 0,.int .i64 0,.int .i64 0,.int .i64 0,.int .i64 0] 66)).heap.size=W.heap.size+1:=by simp
 generalize hX0:W.alloc (.cells #[.int .i64 0,.int .i64 0,.int .i64 0,.int .i64 0,.int .i64 0,.int .i64 0,.int .i64 0,.int .i64 0,.int .i64 0,.int .i64 0] 66)=W0 at*;have HX0:=cN hX0;have y9:W0.cell? ⟨y,9,none⟩=some (.slice (some ⟨g,0,none⟩) x.net.length capn):=by rw[←hnv];exact hn0.cellN (h.cell 9 _ rfl)
 have HLM:=cN (show∀j u,(mgL m)[j]?=some u→W0.cell? ((⟨g,k*10,none⟩:Addr).add j)=some u from fun j u hj=>by
  have e:(⟨g,k*10,none⟩:Addr).add j=⟨g,k*10+j,none⟩:=by unfold Addr.add;split<;>simp_all
  rw[e];exact hn0.cellN (hgm j u hj))
 have HP:=cN hpart;have H:=cN h;have H0:=cN (aLp hb0 hn0 hs0);have HG:=cN (aLp hnv hog hgl);have hkl:(k:Int)<(x.net.length:Int):=by omega
 clear hX0 hb0 hn0 hs0 hpart h hnv hnr hgc hall hgm hm hog;go_enter func153,ntmps153;go_wp2_with (first|rw[HX0.out]|(refine cW rfl 66 _ rfl ⟨g,k*10,none⟩ rfl (mgL m) _ HLM.out underlying66 rfl (by kernel_rfl) ?_)|(refine cV rfl 66 _ _ rfl (W0.heap.size) 0 66 _ _ (mgL m) rfl rfl (aA W0 _) (by kernel_rfl) (by simp[Value.oneCell']) (by simp) rfl ?_;intro W1 hc1 hs1 bn1;refine cQ ?_));have hc01:Chg (fun q=>q=W0.heap.size) W0 W1:=((Chg.refl NoS W0).alloc _).nos.trans hc1 (fun _ _ h=>h);have hs00:=H0.out.2.2;have hs1':W1.heap.size=W.heap.size+2:=by rw[hs1];simp[hs00]
 rw[hs00]at hc01 bn1;have hcw1:Chg NoS W W1:=⟨hc01.os.trans H0.out.2.1.os,hc01.tape.trans H0.out.2.1.tape,hc01.output.trans H0.out.2.1.output,by omega,fun q hq _=>(hc01.block q (by omega) (by omega)).trans (H0.out.2.1.block q hq (fun h=>h))⟩;have hres1:=hc01.kept H0.out.1 (by omega);have y91:W1.cell? ⟨y,9,none⟩=some (.slice (some ⟨g,0,none⟩) x.net.length capn):=by rw[←HG.out.1];exact hcw1.cellN (H.out.cell 9 _ rfl)
 have H1:=cN (aLq hcw1 hres1 bn1 hs1');have HLP:=cN (show∀j u,(cZ mgL (x.net.take k))[j]?=some u→W1.cell? ((⟨g,0,none⟩:Addr).add j)=some u from fun j u hj=>by
  have e:(⟨g,0,none⟩:Addr).add j=⟨g,0*10+j,none⟩:=by unfold Addr.add;split<;>simp_all
  rw[e];exact hcw1.cellN (HP.out 0 k (by omega) j u (by simpa using hj)))
 clear hc1 hs1 bn1 hc01 hs1' hcw1 hres1 y9 HLM hs00;refine cN ?_;have hlk:(x.net.take k).length=k:=by rw[bD];omega
 go_wp2_with (refine wpList_append_own_at _ rfl _ _ 88 rfl W.heap.size 66 i1 _ 10 80 underlying88 ji jz0 jz1 jz2 rfl (by decide) (.slice none 0 0) 0 [] rfl (aZ _ _ _ _) ⟨g,0,none⟩ k _ (cZ mgL (x.net.take k)) rfl (by rw[wT,hlk]) HLP.out (wW _) (by unfold maxLen;omega) (by omega) (by have:=H1.out.2.2.2;omega) ?_;intro v1 W2 hown2 hgr2 hq2 hat2;refine cQ ?_);rw[Nat.zero_add,List.nil_append]at hown2;have hcw2:Chg NoS W W2:=H1.out.1.trans ⟨hgr2.os,hgr2.tape,hgr2.output,hgr2.size,fun q hq _=>hgr2.block q hq (by simp[Value.ownBlock])⟩ (fun _ _ h=>h);have hs12:W1.heap.size≤W2.heap.size:=hgr2.size;have hres2:=(hgr2.block _ (dG H1.out.2.1) (by simp[Value.ownBlock])).trans H1.out.2.1;have hbox2:=(hgr2.block _ (dG H1.out.2.2.1) (by simp[Value.ownBlock])).trans H1.out.2.2.1;have y92:W2.cell? ⟨y,9,none⟩=some (.slice (some ⟨g,0,none⟩) x.net.length capn):=by rw[←HG.out.1];exact hcw2.cellN (H.out.cell 9 _ rfl)
 have HLP2:=cN (show∀j u,(cZ mgL (x.net.drop (k+1)))[j]?=some u→W2.cell? ((⟨g,(k+1)*10,none⟩:Addr).add j)=some u from fun j u hj=>by
  have e:(⟨g,(k+1)*10,none⟩:Addr).add j=⟨g,(k+1)*10+j,none⟩:=by unfold Addr.add;split<;>simp_all
  rw[e];exact hcw2.cellN (HP.out (k+1) x.net.length (aE _) j u (by rw[bR];exact hj)))
 have hv1b:∀q,v1.ownBlock=some q→q=W1.heap.size:=fun q hq=>by
  rcases hat2 with e|e
  ·rw[e]at hq;cases hq
  ·rw[e]at hq;cases hq;rfl
 have H2:=cN (aLs hcw2 hres2 hbox2 hown2 hs12 hv1b);have w1:IntKind.i64.wrap ((k:Int)+1)=(k:Int)+1:=fV (by omega) (by omega);have HSZ:=cN H1.out.2.2.2;clear hcw2 hres2 hbox2 hs12 hgr2 hq2 hat2 y91 HLP H1 hv1b;refine cN ?_;have hld:(x.net.drop (k+1)).length=x.net.length-(k+1):=by simp
 have hk1:(k:Int)+1≤(capn:Int):=by omega
 have hk2:(x.net.length:Int)≤(capn:Int):=by omega
 have hk3:(k:Int)+1≤(x.net.length:Int):=by omega
 by_cases hce:capn=k+1
 ·subst hce;have hl0:x.net.length-(k+1)=0:=by omega
  have hdn:x.net.drop (k+1)=[]:=List.drop_eq_nil_of_le (by omega);go_wp2_with (refine wpList_append_own_at _ rfl _ _ 88 rfl W.heap.size 66 i1 _ 10 80 underlying88 ji jz0 jz1 jz2 rfl (by decide) v1 k (cZ mgL (x.net.take k)) rfl H2.out.2.2.2.1 ⟨g,0,none⟩ 0 _ (cZ mgL (x.net.drop (k+1))) rfl (by rw[hdn];rfl) (by rw[hdn];intro j u hj;cases hj) (wW _) (by unfold maxLen;omega) (by omega) (by have:=H2.out.1.size;omega) ?_;intro v2 W3 hown3 hgr3 hq3 hat3;refine cQ ?_);have hown3':W3.ownsRow W.heap.size 66 10 v2 (x.net.eraseIdx k).length (cZ mgL (x.net.eraseIdx k)):=by
   have e1:x.net.eraseIdx k=x.net.take k++x.net.drop (k+1):=List.eraseIdx_eq_take_drop_succ _ _;have e2:(x.net.eraseIdx k).length=k+0:=by rw[List.length_eraseIdx_of_lt hk];omega
   rw[e2,e1,vR];exact hown3
  obtain⟨p2,cap2,rfl,_⟩:=mD hown3';have hcw3:Chg NoS W W3:=H2.out.1.trans (Chg.of_grown hgr3) (fun q hq e=>by have:=H2.out.2.2.2.2.2 q e.symm;have:=HSZ.out;omega);have hno1:∀q,some q=v1.ownBlock→q=W.heap.size+2:=fun q e=>by rw[H2.out.2.2.2.2.2 q e.symm];exact HSZ.out
  have hres3:=(hgr3.block _ (dG H2.out.2.1) (fun e=>by have:=hno1 _ e;omega)).trans H2.out.2.1;have hbox3:=(hgr3.block _ (dG H2.out.2.2.1) (fun e=>by have:=hno1 _ e;omega)).trans H2.out.2.2.1;have hyb3:=hcw3.kept H.out.blk (fun h=>h);have hyl:=dG H.out.blk;have y93:W3.cell? ⟨y,9,none⟩=some V.nv:=cO hyb3 9 _ rfl;have z93:=cX hyb3 9;have hc34:=cY W3 y 9 (.slice p2 (x.net.eraseIdx k).length cap2);have hyb4:=dD hyb3 9 (.slice p2 (x.net.eraseIdx k).length cap2);have hres4:=hc34.kept hres3 (by omega);have hbox4:=hc34.kept hbox3 (by omega);have hv2y:∀q,(Value.slice p2 (x.net.eraseIdx k).length cap2).ownBlock=some q→W.heap.size+2≤q:=fun q hq=>by
   rcases hat3 with e|e
   ·rw[e]at hq;have:=hno1 q hq.symm;omega
   ·rw[e]at hq;have:=HSZ.out;have:=H2.out.2.2.2.2.1;injection hq with e';omega
  have hrow4:=hc34.row hown3' (fun q hq e=>by have:=hv2y q hq;omega);generalize hX4:W3.setCell ⟨y,9,none⟩ (.slice p2 (x.net.eraseIdx k).length cap2)=W4 at*;have HX4:=cN hX4;have HLB:=cN (show∀j u,(mgL m)[j]?=some u→W4.cell? ((⟨W0.heap.size,0,none⟩:Addr).add j)=some u from by rw[H0.out.2.2];exact cR hbox4);have H4:=cN (aLs hcw3 hc34 hyb4 hres4 hrow4 hv2y);clear hX4 hcw3 hno1 hres3 hbox3 hyb3 hc34 hyb4 hres4 hbox4 hv2y hrow4 hown3 hown3' hgr3 hq3 hat3;refine cN ?_;go_wp2_with (first|rw[HX4.out]|(refine cW rfl 66 _ rfl ⟨W0.heap.size,0,none⟩ rfl (mgL m) _ HLB.out underlying66 rfl (by kernel_rfl) ?_)|(refine cV rfl 66 _ _ rfl (W.heap.size) 0 66 _ _ (mgL m) rfl rfl H4.out.2.2.2.1 (by kernel_rfl) (by simp[Value.oneCell']) (by simp) rfl ?_;intro W5 hc5 hs5 bn5;refine cQ ?_));have H5:=cN (aLo hc5 bn5);clear hc5 hs5 bn5;refine cN ?_;go_wp2_with fail;refine bodyPost_ret (aCv _ results153 _ W.heap.size m _ rfl H5.out.2) rfl ⟨rfl,?_⟩;have hcF:Chg (fun q=>own q=1∨own q=2∨own q=3) W W5:=((H4.out.1.mono (T:=fun q=>own q=1∨own q=2∨own q=3) (fun _ _ h=>h.elim)).trans H4.out.2.1 (fun q _ e=>by subst e;exact Or.inl H.out.yo)).trans H5.out.1 (fun q hq e=>by omega)
  exact H.out.nets (nv':=.slice p2 (x.net.eraseIdx k).length cap2) (tv':=V.tv) hcF (H5.out.1.kept H4.out.2.2.1 (by omega)) (H5.out.1.row (gL H4.out.2.2.2.2.1 (aI _)) (fun q hq e=>by have:=H4.out.2.2.2.2.2 q hq;omega)) ((((H4.out.1.row H.out.tr (fun _ _ h=>h)) |> fun r=>H4.out.2.1.row r (fun q hq e=>by have:=H.out.tvo q hq;rw[e,H.out.yo]at this;omega)) |> fun r=>H5.out.1.row r (fun q hq e=>by have:=H.out.lt q (by rw[H.out.tvo q hq];decide);omega))) (fun q hq=>Or.inr (by have:=H4.out.2.2.2.2.2 q hq;omega)) (fun q hq=>Or.inl (H.out.tvo q hq))
 ·have hne1:k+1≠capn:=fun e=>hce e.symm;have hne2:¬capn-(k+1)=0:=by omega
  have hne3:((capn:Int)-((k:Int)+1)==0)=false:=by simp;omega
  have hne4:(capn-(k+1)==0)=false:=by simp;omega
  have hne5:(k:Int)+1<(capn:Int):=by omega
  have hne6:¬capn≤k+1:=by omega
  have hne7:¬capn-(k+1)≤0:=by omega
  clear hce;go_wp2_with (refine wpList_append_own_at _ rfl _ _ 88 rfl W.heap.size 66 i1 _ 10 80 underlying88 ji jz0 jz1 jz2 rfl (by decide) v1 k (cZ mgL (x.net.take k)) rfl H2.out.2.2.2.1 ⟨g,(k+1)*10,none⟩ (x.net.length-(k+1)) _ (cZ mgL (x.net.drop (k+1))) rfl (by rw[wT,hld]) HLP2.out (wW _) (by unfold maxLen;omega) (by omega) (by have:=H2.out.1.size;omega) ?_;intro v2 W3 hown3 hgr3 hq3 hat3;refine cQ ?_);have hown3':W3.ownsRow W.heap.size 66 10 v2 (x.net.eraseIdx k).length (cZ mgL (x.net.eraseIdx k)):=by
   have e1:x.net.eraseIdx k=x.net.take k++x.net.drop (k+1):=List.eraseIdx_eq_take_drop_succ _ _;have e2:(x.net.eraseIdx k).length=k+(x.net.length-(k+1)):=by rw[List.length_eraseIdx_of_lt hk];omega
   rw[e2,e1,vR];exact hown3
  obtain⟨p2,cap2,rfl,_⟩:=mD hown3';have hcw3:Chg NoS W W3:=H2.out.1.trans (Chg.of_grown hgr3) (fun q hq e=>by have:=H2.out.2.2.2.2.2 q e.symm;have:=HSZ.out;omega);have hno1:∀q,some q=v1.ownBlock→q=W.heap.size+2:=fun q e=>by rw[H2.out.2.2.2.2.2 q e.symm];exact HSZ.out
  have hres3:=(hgr3.block _ (dG H2.out.2.1) (fun e=>by have:=hno1 _ e;omega)).trans H2.out.2.1;have hbox3:=(hgr3.block _ (dG H2.out.2.2.1) (fun e=>by have:=hno1 _ e;omega)).trans H2.out.2.2.1;have hyb3:=hcw3.kept H.out.blk (fun h=>h);have hyl:=dG H.out.blk;have y93:W3.cell? ⟨y,9,none⟩=some V.nv:=cO hyb3 9 _ rfl;have z93:=cX hyb3 9;have hc34:=cY W3 y 9 (.slice p2 (x.net.eraseIdx k).length cap2);have hyb4:=dD hyb3 9 (.slice p2 (x.net.eraseIdx k).length cap2);have hres4:=hc34.kept hres3 (by omega);have hbox4:=hc34.kept hbox3 (by omega);have hv2y:∀q,(Value.slice p2 (x.net.eraseIdx k).length cap2).ownBlock=some q→W.heap.size+2≤q:=fun q hq=>by
   rcases hat3 with e|e
   ·rw[e]at hq;have:=hno1 q hq.symm;omega
   ·rw[e]at hq;have:=HSZ.out;have:=H2.out.2.2.2.2.1;injection hq with e';omega
  have hrow4:=hc34.row hown3' (fun q hq e=>by have:=hv2y q hq;omega);generalize hX4:W3.setCell ⟨y,9,none⟩ (.slice p2 (x.net.eraseIdx k).length cap2)=W4 at*;have HX4:=cN hX4;have HLB:=cN (show∀j u,(mgL m)[j]?=some u→W4.cell? ((⟨W0.heap.size,0,none⟩:Addr).add j)=some u from by rw[H0.out.2.2];exact cR hbox4);have H4:=cN (aLs hcw3 hc34 hyb4 hres4 hrow4 hv2y);clear hX4 hcw3 hno1 hres3 hbox3 hyb3 hc34 hyb4 hres4 hbox4 hv2y hrow4 hown3 hown3' hgr3 hq3 hat3;refine cN ?_;go_wp2_with (first|rw[HX4.out]|(refine cW rfl 66 _ rfl ⟨W0.heap.size,0,none⟩ rfl (mgL m) _ HLB.out underlying66 rfl (by kernel_rfl) ?_)|(refine cV rfl 66 _ _ rfl (W.heap.size) 0 66 _ _ (mgL m) rfl rfl H4.out.2.2.2.1 (by kernel_rfl) (by simp[Value.oneCell']) (by simp) rfl ?_;intro W5 hc5 hs5 bn5;refine cQ ?_));have H5:=cN (aLo hc5 bn5);clear hc5 hs5 bn5;refine cN ?_;go_wp2_with fail;refine bodyPost_ret (aCv _ results153 _ W.heap.size m _ rfl H5.out.2) rfl ⟨rfl,?_⟩;have hcF:Chg (fun q=>own q=1∨own q=2∨own q=3) W W5:=((H4.out.1.mono (T:=fun q=>own q=1∨own q=2∨own q=3) (fun _ _ h=>h.elim)).trans H4.out.2.1 (fun q _ e=>by subst e;exact Or.inl H.out.yo)).trans H5.out.1 (fun q hq e=>by omega)
  exact H.out.nets (nv':=.slice p2 (x.net.eraseIdx k).length cap2) (tv':=V.tv) hcF (H5.out.1.kept H4.out.2.2.1 (by omega)) (H5.out.1.row (gL H4.out.2.2.2.2.1 (aI _)) (fun q hq e=>by have:=H4.out.2.2.2.2.2 q hq;omega)) ((((H4.out.1.row H.out.tr (fun _ _ h=>h)) |> fun r=>H4.out.2.1.row r (fun q hq e=>by have:=H.out.tvo q hq;rw[e,H.out.yo]at this;omega)) |> fun r=>H5.out.1.row r (fun q hq e=>by have:=H.out.lt q (by rw[H.out.tvo q hq];decide);omega))) (fun q hq=>Or.inr (by have:=H4.out.2.2.2.2.2 q hq;omega)) (fun q hq=>Or.inl (H.out.tvo q hq))
def qF(x:Rm)(i:Int):Int:=if dT i x.net.length=true then 0 else 1
def oV(x:Rm)(i:Int):Rm:=if dT i x.net.length=true then{x with net:=x.net.eraseIdx i.toNat}else x
def xQ(x:Rm)(i:Int):Rm:=if dT i x.net.length=true then{x with net:=x.net++[x.net.getD i.toNat zMg]}else x
section
variable (W:World) (own:Nat→Nat) (y:Nat) (x:Rm) (V:RmV) (N i:Int)
theorem aHS(h:RmAt W own y x V)(hok:tS N x)(hN:N≤80000000000):
 Calls prog 116 #[.pointer (some ⟨y,0,none⟩),.int .i64 i] W fun r W'=>r= .returned (.int .i64 (qF x i))∧RmTo W own y V (oV x i) W':=by
 obtain⟨g,c,b,_⟩:=nV h.net;have a:=cN (qC W y i g x.net.length c (by rw[←b];exact h.cell 9 _ rfl));have m:=hok.net;unfold qF oV;cases hi:dT i x.net.length with
 |false=>
  rw[hi]at a;simp only[aU,if_false];have l:=cN (RmTo.of h);clear h b hi;go_enter func116,ntmps116;go_wp2_with (go_at_call 152;refine a.out.mono ?_;rintro e j ⟨rfl,rfl⟩);go_ret;exact⟨rfl,l.out⟩
 |true=>
  rw[hi]at a;simp only[if_true];obtain⟨p,o⟩:=(dY _ _).1 hi;obtain⟨k,rfl⟩:∃k:Nat,i=(k:Int):=⟨i.toNat,by omega⟩;rw[bB];have f:=cN (xB W own y x V k h (by omega) (by omega));clear h b hi;go_enter func116,ntmps116;go_wp2_with (first|(go_at_call 152;refine a.out.mono ?_;rintro e j ⟨rfl,rfl⟩)|(go_at_call 153;refine f.out.mono ?_;rintro e n ⟨rfl,d⟩));go_ret;exact⟨rfl,d⟩
theorem aHH(h:RmAt W own y x V)(hok:tS N x)(hN:N≤80000000000):
 Calls prog 117 #[.pointer (some ⟨y,0,none⟩),.int .i64 i] W fun r W'=>r= .returned (.int .i64 (qF x i))∧RmTo W own y V (xQ x i) W':=by
 obtain⟨Y,U,M,P,L⟩:=info_parts mJ;obtain⟨X,c,f,w⟩:=nV h.net;have n:=cN (qC W y i X x.net.length c (by rw[←f];exact h.cell 9 _ rfl));have a1:=hok.net;unfold qF xQ;cases hi:dT i x.net.length with
 |false=>
  rw[hi]at n;simp only[aU,if_false];have Z:=cN (RmTo.of h);clear h f hi w;go_enter func117,ntmps117;go_wp2_with (go_at_call 152;refine n.out.mono ?_;rintro e W1 ⟨rfl,rfl⟩);go_ret;exact⟨rfl,Z.out⟩
 |true=>
  rw[hi]at n;simp only[if_true];obtain⟨h0,h1⟩:=(dY _ _).1 hi;obtain⟨k,rfl⟩:∃k:Nat,i=(k:Int):=⟨i.toNat,by omega⟩;have Q:k<x.net.length:=by omega
  obtain⟨g,rfl,a2,A⟩:=w k Q;have B:x.net.getD ((k:Int)).toNat zMg=x.net[k]:=by rw[bB,aQ,aP Q];rfl
  rw[B];obtain⟨m,R⟩:=aLA (x.net[k]);rw[R]at A⊢;have J:W.cell? ⟨y,9,none⟩=some (.slice (some ⟨g,0,none⟩) x.net.length c):=by rw[←f];exact h.cell 9 _ rfl
  have F:∀j u,(mgL m)[j]?=some u→W.cell? ((⟨g,k*10,none⟩:Addr).add j)=some u:=fun j u hj=>by
   have e:(⟨g,k*10,none⟩:Addr).add j=⟨g,k*10+j,none⟩:=by unfold Addr.add;split<;>simp_all
   rw[e];exact A j u hj
  have E:=cN F;have H:=cN h;have s:=cN f;have a0:(k:Int)<(x.net.length:Int):=by omega
  clear h f hi w B R A F;go_enter func117,ntmps117;go_wp2_with (go_at_call 152;refine n.out.mono ?_;rintro e W1 ⟨rfl,rfl⟩);refine rlx [0,0,0,0,1,0,0,0,1,0,0,1,2] (fun z=>z.cell? ⟨y,9,none⟩=some (.slice (some ⟨g,0,none⟩) x.net.length c)∧∀j u,(mgL m)[j]?=some u→z.cell? ((⟨g,k*10,none⟩:Addr).add j)=some u) (by kernel_rfl) (fun _ _ _ _=>rfl) ?_ ?_
  ·exact⟨J,fun j u hj=>E.out j u hj⟩
  simp only[dC,dB];iterate 11 (apply sB rfl rfl;·(intro x h;(try have h:=h rfl);(try dsimp only at h);go_simp;with_reducible rfl))
  try simp only[pA]
  refine dA (v:=mgV m) rfl (fun zz hx=>cU 66 _ rfl ⟨g,k*10,none⟩ rfl (mgL m) _ hx.2 underlying66 rfl (by kernel_rfl)) ?_;(try simp only[pA]);refine dI rfl (fun C hC=>?_);go_simp;have d:Chg NoS W1.drew (W1.drew.alloc (.cells (mgL m).toArray 66)):=(Chg.refl _ _).alloc _;have G:=aA W1.drew (.cells (mgL m).toArray 66);refine hC _ _ ⟨d.cellN J,fun j u hj=>by
   have e:(⟨g,k*10,none⟩:Addr).add j=⟨g,k*10+j,none⟩:=by unfold Addr.add;split<;>simp_all
   have:=E.out j u hj;rw[e]at this⊢;exact d.cellN this⟩ ?_
  clear hC C;refine cP ?_;refine wpList_append_lies _ rfl _ _ 88 rfl 0 66 Y _ 10 80 underlying88 U M P L rfl (by decide) (.slice (some ⟨g,0,none⟩) x.net.length c) x.net.length (cZ mgL x.net) rfl (by have:=d.row (show W1.drew.ownsRow 0 66 10 V.nv x.net.length (cZ mgL x.net)from H.out.net) (fun _ _ h=>h);rw[s.out]at this;exact this) ⟨W1.heap.size,0,none⟩ 1 1 (mgL m) rfl rfl (cR G) (oT m) (by decide) (by unfold maxLen;omega) (by omega) (aI _) (W1.heap.size+1) (by simp) ?_;intro gn S K l a p I;have b:(W1.drew.alloc (.cells (mgL m).toArray 66)).grownBy K V.nv.ownBlock:=by rw[s.out];exact⟨a.os,a.tape,a.output,a.size,a.block⟩
  have D:=H.out.netAppend (m:=m) (W1:=W1.drew.alloc (.cells (mgL m).toArray 66)) d.of_drew b l (p.imp (fun h=>by rw[s.out];exact h) (fun h=>by simp;omega));have o:Chg (fun q=>some q=V.nv.ownBlock) W1 K:=(d.of_drew.mono (T:=fun q=>some q=V.nv.ownBlock) (fun _ _ h=>h.elim)).trans (Chg.of_grown b) (fun _ _ h=>h);have t:=o.kept H.out.blk (fun e=>by have:=H.out.nvo _ e.symm;have:=H.out.yo;omega);have d9:K.cell? ⟨y,9,none⟩=some V.nv:=cO t 9 _ rfl;have z9:=cX t 9;have O:=cN D;clear D o t l a b p I d G J;(try simp only[pA]);go_wp2_with fail;go_ret;exact⟨rfl,O.out⟩
end
def gF(x:Rm)(i:Nat)(a:Ra)(e:List Ev):Rm:={x with acs:=x.acs.set i a,net:=x.net++dJ e,tr:=x.tr++e}
theorem mG(W:World)(own:Nat→Nat)(y:Nat)(x:Rm)(V:RmV)(k:Nat)(a:Ra)(h:RmAt W own y x V)(hk:k<x.acs.length)(ha:x.acs[k]=a)(hn:x.acs.length≤5)(ht:x.tr.length≤100000000000):
 Calls prog 157 #[.pointer (some ⟨y,0,none⟩),.int .i64 k] W fun r W'=>r= .returned (.int .i64 (pI a))∧RmTo W own y V {x with tr:=x.tr++jQ a k} W':=by
 obtain⟨ie,jie,je0,je1,je2⟩:=info_parts nT;obtain⟨pc,capc,hcv,hcr⟩:=fK h.rav;have y7:W.cell? ⟨y,7,none⟩=some (.slice pc x.acs.length capc):=by rw[←hcv];exact h.cell 7 _ rfl
 obtain⟨g,rfl,hg⟩:=hcr k hk;obtain⟨B,hB⟩:=aLz (V.bA k);have hg':W.cell? ⟨g,k,none⟩=some (.pointer (some ⟨B,0,none⟩)):=by rw[hB];exact hg
 have hra:RaAt W B x.cf a:=by have:=h.acs k hk;rw[ha]at this;rw[hB];exact this
 have b8:W.cell? ⟨B,8,none⟩=some (.bool a.up):=cO hra 8 _ rfl;have hkl:(k:Int)<(x.acs.length:Int):=by omega
 unfold pI jQ;cases hu:a.up with
 |true=>
  rw[hu]at b8;simp only[if_true];rw[aC];have HT:=cN (RmTo.of h);clear h hcv hcr hg hB hra hu;go_enter func157,ntmps157;go_wp2_with fail;go_ret;exact⟨rfl,HT.out⟩
 |false=>
  rw[hu]at b8;simp only[aU,if_false];have y10:W.cell? ⟨y,10,none⟩=some V.tv:=h.cell 10 _ rfl;have hrowt:=h.tr;have hbox:=aA W (.cells (evL (eO k)).toArray 70);have H:=cN h;clear h hcv hcr hg hB hra hu;go_enter func157,ntmps157;go_wp2_with (at_builtin;refine wpList_append_lies _ rfl _ _ 43 rfl 0 70 ie _ 19 152 underlying43 jie je0 je1 je2 rfl (by decide) V.tv x.tr.length (cZ evL x.tr) rfl (hrowt.alloc _) ⟨W.heap.size,0,none⟩ 1 1 (evL (eO k)) rfl rfl (cR hbox) (nU _) (by decide) (by unfold maxLen;omega) (by omega) (aI _) (W.heap.size+1) (by simp) ?_;intro gt cap2 W3 hown3 hgr3 hat3 hlt3;refine cQ ?_);have hto:=H.out.trAppend (e:=eO k) (W1:=W.alloc (.cells (evL (eO k)).toArray 70)) ((Chg.refl _ _).alloc _) ⟨hgr3.os,hgr3.tape,hgr3.output,hgr3.size,hgr3.block⟩ hown3 (hat3.imp (fun h=>h) (fun h=>by simp;omega));have hn01:Chg (fun q=>some q=V.tv.ownBlock) W W3:=(((Chg.refl NoS W).alloc _).mono (T:=fun q=>some q=V.tv.ownBlock) (fun _ _ h=>h.elim)).trans (Chg.of_grown ⟨hgr3.os,hgr3.tape,hgr3.output,hgr3.size,hgr3.block⟩) (fun _ _ h=>h);have hy3:=hn01.kept H.out.blk (fun e=>by have:=H.out.tvo _ e.symm;have:=H.out.yo;omega);have d10:W3.cell? ⟨y,10,none⟩=some V.tv:=cO hy3 10 _ rfl;have z10:=cX hy3 10;have HTO:=cN hto;clear hto hn01 hy3 hown3 hgr3 hat3 hlt3 hbox y10 hrowt;refine cN ?_;go_wp2_with fail;go_ret;exact⟨rfl,HTO.out⟩
def tA(x:Rm)(n:Int):List Ev:=x.tr.drop (min (max n 0) x.tr.length).toNat
theorem aFR(W:World)(own:Nat→Nat)(y:Nat)(x:Rm)(V:RmV)(N n:Int)(h:RmAt W own y x V)(hok:tS N x)(hN:N≤80000000000)(m:Nat)(hm:(tA x n).length=m):
 Calls prog 146 #[.pointer (some ⟨y,0,none⟩),.int .i64 n] W fun r W'=>(∃p cap,r= .returned (.slice p m cap)∧∀i (hi:i<(tA x n).length),∃q o,p=some ⟨q,o,none⟩∧∀j u,(evL (tA x n)[i])[j]?=some u→W.cell? ⟨q,o+(i*19+j),none⟩=some u)∧W'=W:=by
 have B:W.cell? ⟨y,10,none⟩=some V.tv:=h.cell 10 _ rfl;have c:=h.tr;have D:=hok.tr;obtain⟨k,F⟩:∃k:Nat,min (max n 0) (x.tr.length:Int)=k:=⟨(min (max n 0) (x.tr.length:Int)).toNat,by omega⟩;have g:k≤x.tr.length:=by omega
 have G:tA x n=x.tr.drop k:=by unfold tA;rw[F];rfl
 rw[G]at hm⊢;have l:(decide (n<0)=true∧k=0)∨(decide (n<0)=false∧decide ((x.tr.length:Int)<n)=true∧k=x.tr.length)∨(decide (n<0)=false∧decide ((x.tr.length:Int)<n)=false∧n=(k:Int)):=by
  by_cases w:n<0
  ·left;simp[w];omega
  ·right;by_cases Q:(x.tr.length:Int)<n
   ·left;simp[w,Q];omega
   ·right;simp[w,Q];omega
 rcases c.2 with⟨f,w⟩|⟨q,cap,T,f,H⟩
 ·have I:x.tr=[]:=List.length_eq_zero_iff.1 w;rw[f]at B;have P:x.tr.drop k=[]:=by rw[I];simp
  rw[P]at hm⊢;have L:m=0:=hm.symm;subst L;have K:k=0:=by rw[I]at g;simpa using g
  subst K;rw[w]at l;have HV:=cN f;clear F D g G hok h c f I P hm;rcases l with⟨z,v⟩|⟨z,v,R⟩|⟨z,v,rfl⟩
  ·clear v;go_enter func146,ntmps146;go_wp2_with fail;go_ret;first|exact⟨⟨_,_,rfl,fun i hi=>absurd hi (Nat.not_lt_zero _)⟩,rfl⟩|(simp;done)|rfl
  ·clear R;have S:decide ((0:Int)<n)=true:=v;go_enter func146,ntmps146;go_wp2_with fail;go_ret;first|exact⟨⟨_,_,rfl,fun i hi=>absurd hi (Nat.not_lt_zero _)⟩,rfl⟩|(simp;done)|rfl
  ·go_enter func146,ntmps146;go_wp2_with fail;go_ret;first|exact⟨⟨_,_,rfl,fun i hi=>absurd hi (Nat.not_lt_zero _)⟩,rfl⟩|(simp;done)|rfl
 ·rw[f]at B;have O:x.tr.length≤cap:=H.2.2.1;have A:=H.2.2.2.1;have d:(x.tr.drop k).length=x.tr.length-k:=aV;have a:∀i (hi:i<(x.tr.drop k).length) j u,(evL (x.tr.drop k)[i])[j]?=some u→W.cell? ⟨q,k*19+(i*19+j),none⟩=some u:=by
   intro i hi j u b;have E:j<19:=(aF.1 b).1;rw[List.getElem_drop]at b;have e:=lX evL (k:=19) (fun _=>rfl) x.tr (k+i) (by omega) j E;rw[b]at e;have J:(k+i)*19+j<x.tr.length*19:=by omega
   rw[f]at c;have:=c.cellAt ((k+i)*19+j) J;rw[show k*19+(i*19+j)=(k+i)*19+j by omega,this];exact e
  have U:(0:Int)≤(k:Int):=by omega
  have Y:(k:Int)≤(x.tr.length:Int):=by omega
  have X:(x.tr.length:Int)≤(cap:Int):=by omega
  have Z:(cap:Int)≤9223372036854775807:=by unfold maxLen at A;omega
  have C:∀i (hi:i<(x.tr.drop k).length),∃q' o,(if cap=k then(some ⟨q,0,none⟩:Option Addr)else some ⟨q,k*19,none⟩)=some ⟨q',o,none⟩∧∀j u,(evL (x.tr.drop k)[i])[j]?=some u→W.cell? ⟨q',o+(i*19+j),none⟩=some u:=fun i hi=>
   ⟨q,k*19,by rw[if_neg (by omega)],fun j u b=>a i hi j u b⟩
  have s:=cN C;have t:=cN a;have M:m=x.tr.length-k:=hm.symm.trans d;subst M;clear F D G hok h c f a O A H C d hm;rcases l with⟨z,rfl⟩|⟨z,v,rfl⟩|⟨z,v,rfl⟩
  ·go_enter func146,ntmps146;go_wp2_with fail;all_goals go_ret
   all_goals(first|exact⟨⟨_,_,rfl⟩,rfl⟩|(refine⟨⟨_,_,rfl,fun i hi=>?_⟩,rfl⟩;first|exact s.out i hi|exact⟨q,_,rfl,t.out i hi⟩|(simp at hi;done)|(simp at hi;omega))|(refine⟨⟨_,⟨_,rfl⟩,fun i hi=>?_⟩,rfl⟩;first|exact⟨q,_,rfl,fun j u b=>t.out i (by simpa using hi) j u (by simpa using b)⟩|(exfalso;omega)))
  ·go_enter func146,ntmps146;go_wp2_with fail;all_goals go_ret
   all_goals(first|exact⟨⟨_,_,rfl⟩,rfl⟩|(refine⟨⟨_,_,rfl,fun i hi=>?_⟩,rfl⟩;first|exact s.out i hi|exact⟨q,_,rfl,t.out i hi⟩|(simp at hi;done)|(simp at hi;omega))|(refine⟨⟨_,⟨_,rfl⟩,fun i hi=>?_⟩,rfl⟩;first|exact⟨q,_,rfl,fun j u b=>t.out i (by simpa using hi) j u (by simpa using b)⟩|(exfalso;omega)))
  ·go_enter func146,ntmps146;go_wp2_with fail;all_goals go_ret
   all_goals(first|exact⟨⟨_,_,rfl⟩,rfl⟩|(refine⟨⟨_,_,rfl,fun i hi=>?_⟩,rfl⟩;first|exact s.out i hi|exact⟨q,_,rfl,t.out i hi⟩|(simp at hi;done)|(simp at hi;omega))|(refine⟨⟨_,⟨_,rfl⟩,fun i hi=>?_⟩,rfl⟩;first|exact⟨q,_,rfl,fun j u b=>t.out i (by simpa using hi) j u (by simpa using b)⟩|(exfalso;omega)))
end Go.Proofs.YtbbdgokdfhdpiaaGreatDoor
