/- A part of the proof: RfHr5, RfHrAll. -/
import Derived.Test.YtbbdgokdfhdpiaaGreatDoorA21
namespace Go.Proofs.YtbbdgokdfhdpiaaGreatDoor
set_option linter.all false
set_option maxRecDepth 100000
set_option maxHeartbeats 40000000
open Go.Proofs.Tryz Go.RowKit
theorem aDE(W:World)(own:Nat→Nat)(y:Nat)(x:Rm)(V:RmV)(i:Nat)(c:Rc)(N:Int)(m:Mg)(h:RmAt W own y x V)(hi:i<x.cls.length)(hc:x.cls[i]=c)(ha:RcA N c)(hbs:c.busy=true→RcB x.cf N c∧c.heard.length≤3∧c.back.length≤3∧∀m ∈ c.heard,lI m.val)(hN:N≤90000000000)(hx5:x.acs.length≤5)(hn:x.net.length≤99999999990)(ht:x.tr.length≤99999999990)(hm:lI m.val)(hm0:0≤m.base)(hm1:m.base≤256255)(hf0:1≤x.cf.f)(hf1:x.cf.f≤2)(hd0:0≤x.cf.drift)(hd1:x.cf.drift≤10)(hup:c.up=true)(hbz:c.busy=true)(hbl:m.bal=c.bal)(hk5:m.kind=5):
 Calls prog 154 #[.pointer (some ⟨y,0,none⟩),.pointer (some ⟨V.bC i,0,none⟩),mgV m] W fun r W'=>r= .returned (.tuple #[])∧RmTo W own y V (dP x i (fZ x.cf c m) (fL x.cf x.acs.length c m)) W':=by
 obtain⟨B,s⟩:=aLw (V.bC i);rw[←s];have l:=aA W (.cells #[.int .i64 m.kind,.int .i64 m.src,.int .i64 m.dst,.int .i64 m.lock,.int .i64 m.bal,.int .i64 m.base,.int .i64 m.val.own,.int .i64 m.val.tok,.int .i64 m.val.ttl,.int .i64 m.val.seq] 66);have j:HrSt W (W.alloc (.cells #[.int .i64 m.kind,.int .i64 m.src,.int .i64 m.dst,.int .i64 m.lock,.int .i64 m.bal,.int .i64 m.base,.int .i64 m.val.own,.int .i64 m.val.tok,.int .i64 m.val.ttl,.int .i64 m.val.seq] 66)) own y x V m:=⟨h.alloc _,l,(aJ _ W).alloc (aE _) _⟩;generalize F:W.alloc (.cells #[.int .i64 m.kind,.int .i64 m.src,.int .i64 m.dst,.int .i64 m.lock,.int .i64 m.bal,.int .i64 m.base,.int .i64 m.val.own,.int .i64 m.val.tok,.int .i64 m.val.ttl,.int .i64 m.val.seq] 66)=W0 at*;have C:=cN F;have a:=cN j;have b:=cN (aLl hc s);have P:W0.cell? ⟨B,2,none⟩=some (.bool c.up):=(j.rc hi hc s).cell 2 _ rfl;have D:W0.cell? ⟨B,37,none⟩=some (.bool c.busy):=(j.rc hi hc s).cell 37 _ rfl;have A:W0.cell? ⟨B,44,none⟩=some (.int .i64 c.bal):=(j.rc hi hc s).cell 44 _ rfl;have O:W0.cell? ⟨W.heap.size,4,none⟩=some (.int .i64 m.bal):=cO l 4 _ rfl;have M:W0.cell? ⟨W.heap.size,0,none⟩=some (.int .i64 m.kind):=cO l 0 _ rfl;clear F l j h s;have q:iO c m=false:=by unfold iO;rw[hup,hbz,hbl];simp
 have Z:(m.bal !=c.bal)=false:=by rw[hbl];simp
 have d:¬iO c m=true:=by rw[q];decide
 obtain⟨hbs,X,U,T⟩:=hbs hbz;have Q:IntKind.i64.wrap (Int.tdiv m.base 256)=m.base / 256:=by rw[Int.tdiv_eq_ediv_of_nonneg hm0];exact fX (by omega) (by omega)
 have L:IntKind.i64.wrap (m.base / 256)=m.base / 256:=fX (by omega) (by omega);have Y:(m.kind==5)=true:=by simp[hk5]
 have m5:W0.cell? ⟨W.heap.size,5,none⟩=some (.int .i64 m.base):=cO a.out.bm 5 _ rfl;have b4:W0.cell? ⟨B,4,none⟩=some (.int .i64 c.round):=(a.out.rc hi b.out.1 b.out.2).cell 4 _ rfl;have z4:W0.frozen? ⟨B,4,none⟩=false:=cX (a.out.rc hi b.out.1 b.out.2).blk 4;by_cases t:c.round<m.base / 256
 ·have K:decide (c.round<m.base / 256)=true:=by simp[t]
  have v:Hid (dP x i (fZ x.cf c m) (fL x.cf x.acs.length c m)=dP x i (tS x.cf {c with round:=m.base / 256}) (qV x.cf x.acs.length {c with round:=m.base / 256})):=by
   show _=_;unfold fZ fL;rw[if_neg d,if_neg d,if_pos hk5,if_pos hk5,if_pos t]
  obtain⟨z,u⟩:=aLx (dP x i (fZ x.cf c m) (fL x.cf x.acs.length c m));rw[u]at v⊢;have p:=cY W0.drew.drew B 4 (.int .i64 (m.base / 256));have E:(W0.drew.drew.setCell ⟨B,4,none⟩ (.int .i64 (m.base / 256))).heap[B]?=some (.cells (rcL {c with round:=m.base / 256} (V.mv i) (V.hv i) (V.bv i)).toArray 182 (0,0)):=dD (show W0.drew.drew.heap[B]?=_ from(a.out.rc hi b.out.1 b.out.2).blk) 4 _;have G:=a.out.rm.drew.drew.cells hi {c with round:=m.base / 256} (by rw[←b.out.2];exact p) (by rw[←b.out.2];exact E) (by rw[b.out.1]) (by rw[b.out.1]) (by rw[b.out.1]);have g:=cN (zI _ own y {x with cls:=x.cls.set i {c with round:=m.base / 256}} V i {c with round:=m.base / 256} N G (by simpa using hi) (by simp) ⟨ha.d0,ha.d3,ha.i0,ha.i1,ha.k0,ha.k1,by show 0≤m.base / 256;omega,by show m.base / 256≤1000;omega,ha.w⟩ ⟨hbs.l0,hbs.l3,hbs.t0,hbs.t1,hbs.g0,hbs.g1,hbs.n0,hbs.n8,hbs.a0,hbs.a1,hbs.mine,hbs.heard,hbs.back⟩ hN hx5 hn ht);rw[←b.out.2,sV]at g;have I:=cN (show Chg (fun k=>own k≠0) W0 _ from p.of_drew.of_drew.mono (fun k _ e=>by subst e;rw[b.out.2];have:=a.out.rm.clo i hi;omega));have n:W0.drew.drew.setCell ⟨B,4,none⟩ (.int .i64 (m.base / 256))=(W0.setCell ⟨B,4,none⟩ (.int .i64 (m.base / 256))).drew.drew:=rfl;generalize H:W0.drew.drew.setCell ⟨B,4,none⟩ (.int .i64 (m.base / 256))=W1 at*;have J:=cN n.symm;clear H n G E p q u hc hk5 hbl t;go_enter func154,ntmps154;go_wp2_with (first|rw[C.out]);refine eD [0,0,0,1,0,0,0,0,0,1,0,0,0,0,1,0,0,0,1,0,0] (by kernel_rfl) (fun _ _ _ _=>rfl) ?_;simp only[dC,dB]
  iterate 21 ((try simp only[pA]);first|(apply sB rfl rfl;·(intro x h;(try cases h rfl);go_simp;with_reducible rfl))|apply dN rfl|apply dL rfl)
  refine cP ?_;try simp only[pA]
  go_wp2_with fail;clear P D A O M;refine eD [0,1,0,0,0,0,1,0] (by kernel_rfl) (fun _ _ _ _=>rfl) ?_;simp only[dC,dB];iterate 8 (apply sB rfl rfl;·(intro x h;(try cases h rfl);go_simp;with_reducible rfl))
  refine cP ?_;try simp only[pA]
  go_wp2_with (first|rw[J.out]|(go_at_call 151;refine g.out.mono ?_;rintro e R ⟨rfl,o⟩));go_end0;refine⟨rfl,?_⟩;rw[v.out];exact RmTo.behind (S:=NoS) (Chg.of_below a.out.be) (fun _ _ h=>h.elim) (RmTo.trans (own1:=own) (V1:=V) rfl rfl I.out (fun _ h=>Or.inl h) o)
 ·have K:decide (c.round<m.base / 256)=false:=by simp;omega
  have v:Hid (dP x i (fZ x.cf c m) (fL x.cf x.acs.length c m)=dP x i (tS x.cf c) (qV x.cf x.acs.length c)):=by
   show _=_;unfold fZ fL;rw[if_neg d,if_neg d,if_pos hk5,if_pos hk5,if_neg t]
  obtain⟨z,u⟩:=aLx (dP x i (fZ x.cf c m) (fL x.cf x.acs.length c m));rw[u]at v⊢;have g:=cN (zI W0.drew.drew own y x V i c N a.out.rm.drew.drew hi hc ha hbs hN hx5 hn ht);rw[←b.out.2]at g;clear q u hc hk5 hbl t;go_enter func154,ntmps154;go_wp2_with (first|rw[C.out]);refine eD [0,0,0,1,0,0,0,0,0,1,0,0,0,0,1,0,0,0,1,0,0] (by kernel_rfl) (fun _ _ _ _=>rfl) ?_;simp only[dC,dB];iterate 21 ((try simp only[pA]);first|(apply sB rfl rfl;·(intro x h;(try cases h rfl);go_simp;with_reducible rfl))|apply dN rfl|apply dL rfl)
  refine cP ?_;try simp only[pA]
  go_wp2_with fail;clear P D A O M;refine eD [0,1,0,0,0,0,1,0] (by kernel_rfl) (fun _ _ _ _=>rfl) ?_;simp only[dC,dB];iterate 8 (apply sB rfl rfl;·(intro x h;(try cases h rfl);go_simp;with_reducible rfl))
  refine cP ?_;try simp only[pA]
  go_wp2_with (go_at_call 151;refine g.out.mono ?_;rintro e R ⟨rfl,o⟩);go_end0;refine⟨rfl,?_⟩;rw[v.out];exact RmTo.behind (S:=NoS) (Chg.of_below a.out.be) (fun _ _ h=>h.elim) o.drew.drew
theorem aGj(W:World)(own:Nat→Nat)(y:Nat)(x:Rm)(V:RmV)(i:Nat)(c:Rc)(N:Int)(m:Mg)(h:RmAt W own y x V)(hi:i<x.cls.length)(hc:x.cls[i]=c)(ha:RcA N c)(hbs:c.busy=true→RcB x.cf N c∧c.heard.length≤3∧c.back.length≤3∧∀m ∈ c.heard,lI m.val)(hN:N≤90000000000)(hx5:x.acs.length≤5)(hn:x.net.length≤99999999990)(ht:x.tr.length≤99999999990)(hm:lI m.val)(hm0:0≤m.base)(hm1:m.base≤256255)(hf0:1≤x.cf.f)(hf1:x.cf.f≤2)(hd0:0≤x.cf.drift)(hd1:x.cf.drift≤10):
 Calls prog 154 #[.pointer (some ⟨y,0,none⟩),.pointer (some ⟨V.bC i,0,none⟩),mgV m] W fun r W'=>r= .returned (.tuple #[])∧RmTo W own y V (dP x i (fZ x.cf c m) (fL x.cf x.acs.length c m)) W':=by
 by_cases a:iO c m=true
 ·exact aDO W own y x V i c N m h hi hc ha hbs hN hx5 hn ht hm hm0 hm1 hf0 hf1 hd0 hd1 a
 ·have d:c.up=true:=by unfold iO at a;cases h1:c.up<;>simp_all
  have b:c.busy=true:=by unfold iO at a;cases h1:c.busy<;>simp_all
  have e:m.bal=c.bal:=by
   unfold iO at a;rw[d,b]at a;simpa using a
  by_cases j:m.kind=5
  ·exact aDE W own y x V i c N m h hi hc ha hbs hN hx5 hn ht hm hm0 hm1 hf0 hf1 hd0 hd1 d b e j
  ·by_cases g:m.kind=2
   ·exact aBt W own y x V i c N m h hi hc ha hbs hN hx5 hn ht hm hm0 hm1 hf0 hf1 hd0 hd1 d b e g
   ·by_cases k:m.kind=4
    ·exact aAx W own y x V i c N m h hi hc ha hbs hN hx5 hn ht hm hm0 hm1 hf0 hf1 hd0 hd1 d b e k
    ·exact aDm W own y x V i c N m h hi hc ha hbs hN hx5 hn ht hm hm0 hm1 hf0 hf1 hd0 hd1 d b e j g k
end Go.Proofs.YtbbdgokdfhdpiaaGreatDoor
