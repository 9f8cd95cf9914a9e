/- A part. -/
import Derived.Test.YtbbdgokdfhdpiaaGreatDoorA21
namespace Go.Proofs.YtbbdgokdfhdpiaaGreatDoor
set_option linter.all false
set_option maxRecDepth 100000
set_option maxHeartbeats 0
open Go.Proofs.Tryz Go.RowKit
theorem aEO(W:World)(own:Nat→Nat)(y:Nat)(x:Rm)(V:RmV)(i:Nat)(c:Rc)(N:Int)(m:Mg)(h:RmAt W own y x V)(hi:i<x.cls.length)(hc:x.cls[i]=c)(ha:RcA N c)(hbs:c.busy=true→RcB x.cf N c∧c.heard.length≤3∧c.back.length≤3∧∀m ∈ c.heard,lG m.val)(hN:N≤90000000000)(hx5:x.acs.length≤5)(hn:x.net.length≤99999999990)(ht:x.tr.length≤99999999990)(hm:lG m.val)(hm0:0≤m.base)(hm1:m.base≤256255)(hf0:1≤x.cf.f)(hf1:x.cf.f≤2)(hd0:0≤x.cf.drift)(hd1:x.cf.drift≤10)(hup:c.up=true)(hbz:c.busy=true)(hbl:m.bal=c.bal)(hk5:m.kind=5):
 Calls prog 154 #[.pointer (some ⟨y,0,none⟩),.pointer (some ⟨V.bC i,0,none⟩),mgV m] W fun r W'=>r= .returned (.tuple #[])∧RmTo W own y V (dP x i (fY x.cf c m) (fI x.cf x.acs.length c m)) W':=by
 obtain⟨B,s⟩:=aLz (V.bC i);rw[←s];have l:=aA W (.cells #[.int .i64 m.kind,.int .i64 m.src,.int .i64 m.dst,.int .i64 m.lock,.int .i64 m.bal,.int .i64 m.base,.int .i64 m.val.own,.int .i64 m.val.tok,.int .i64 m.val.ttl,.int .i64 m.val.seq] 66);have g:HrSt W (W.alloc (.cells #[.int .i64 m.kind,.int .i64 m.src,.int .i64 m.dst,.int .i64 m.lock,.int .i64 m.bal,.int .i64 m.base,.int .i64 m.val.own,.int .i64 m.val.tok,.int .i64 m.val.ttl,.int .i64 m.val.seq] 66)) own y x V m:=⟨h.alloc _,l,(aJ _ W).alloc (aE _) _⟩;generalize A:W.alloc (.cells #[.int .i64 m.kind,.int .i64 m.src,.int .i64 m.dst,.int .i64 m.lock,.int .i64 m.bal,.int .i64 m.base,.int .i64 m.val.own,.int .i64 m.val.tok,.int .i64 m.val.ttl,.int .i64 m.val.seq] 66)=W0 at*;have C:=cN A;have a:=cN g;have b:=cN (aLo hc s);have O:W0.cell? ⟨B,2,none⟩=some (.bool c.up):=(g.rc hi hc s).cell 2 _ rfl;have D:W0.cell? ⟨B,37,none⟩=some (.bool c.busy):=(g.rc hi hc s).cell 37 _ rfl;have E:W0.cell? ⟨B,44,none⟩=some (.int .i64 c.bal):=(g.rc hi hc s).cell 44 _ rfl;have P:W0.cell? ⟨W.heap.size,4,none⟩=some (.int .i64 m.bal):=cO l 4 _ rfl;have M:W0.cell? ⟨W.heap.size,0,none⟩=some (.int .i64 m.kind):=cO l 0 _ rfl;clear A l g h s;have o:iO c m=false:=by unfold iO;rw[hup,hbz,hbl];simp
 have Y:(m.bal !=c.bal)=false:=by rw[hbl];simp
 have d:¬iO c m=true:=by rw[o];decide
 obtain⟨hbs,T,U,X⟩:=hbs hbz;have Q:IntKind.i64.wrap (Int.tdiv m.base 256)=m.base / 256:=by rw[Int.tdiv_eq_ediv_of_nonneg hm0];exact fV (by omega) (by omega)
 have L:IntKind.i64.wrap (m.base / 256)=m.base / 256:=fV (by omega) (by omega);have q5:(m.kind==5)=true:=by simp[hk5]
 have m5:W0.cell? ⟨W.heap.size,5,none⟩=some (.int .i64 m.base):=cO a.out.bm 5 _ rfl;have b4:W0.cell? ⟨B,4,none⟩=some (.int .i64 c.round):=(a.out.rc hi b.out.1 b.out.2).cell 4 _ rfl;have Z:W0.frozen? ⟨B,4,none⟩=false:=cX (a.out.rc hi b.out.1 b.out.2).blk 4;by_cases v:c.round<m.base / 256
 ·have J:decide (c.round<m.base / 256)=true:=by simp[v]
  have t:Hid (dP x i (fY x.cf c m) (fI x.cf x.acs.length c m)=dP x i (tQ x.cf {c with round:=m.base / 256}) (qY x.cf x.acs.length {c with round:=m.base / 256})):=by
   show _=_;unfold fY fI;rw[if_neg d,if_neg d,if_pos hk5,if_pos hk5,if_pos v]
  obtain⟨z,u⟩:=aLA (dP x i (fY x.cf c m) (fI x.cf x.acs.length c m));rw[u]at t⊢;have q:=cY W0.drew.drew B 4 (.int .i64 (m.base / 256));have F:(W0.drew.drew.setCell ⟨B,4,none⟩ (.int .i64 (m.base / 256))).heap[B]?=some (.cells (rcL {c with round:=m.base / 256} (V.mv i) (V.hv i) (V.bv i)).toArray 182 (0,0)):=dD (show W0.drew.drew.heap[B]?=_ from(a.out.rc hi b.out.1 b.out.2).blk) 4 _;have G:=a.out.rm.drew.drew.cells hi {c with round:=m.base / 256} (by rw[←b.out.2];exact q) (by rw[←b.out.2];exact F) (by rw[b.out.1]) (by rw[b.out.1]) (by rw[b.out.1]);have j:=cN (zC _ own y {x with cls:=x.cls.set i {c with round:=m.base / 256}} V i {c with round:=m.base / 256} N G (by simpa using hi) (by simp) ⟨ha.d0,ha.d3,ha.i0,ha.i1,ha.k0,ha.k1,by show 0≤m.base / 256;omega,by show m.base / 256≤1000;omega,ha.w⟩ ⟨hbs.l0,hbs.l3,hbs.t0,hbs.t1,hbs.g0,hbs.g1,hbs.n0,hbs.n8,hbs.a0,hbs.a1,hbs.mine,hbs.heard,hbs.back⟩ hN hx5 hn ht);rw[←b.out.2,sQ]at j;have I:=cN (show Chg (fun k=>own k≠0) W0 _ from q.of_drew.of_drew.mono (fun k _ e=>by subst e;rw[b.out.2];have:=a.out.rm.clo i hi;omega));have n:W0.drew.drew.setCell ⟨B,4,none⟩ (.int .i64 (m.base / 256))=(W0.setCell ⟨B,4,none⟩ (.int .i64 (m.base / 256))).drew.drew:=rfl;generalize H:W0.drew.drew.setCell ⟨B,4,none⟩ (.int .i64 (m.base / 256))=W1 at*;have K:=cN n.symm;clear H n G F q o u hc hk5 hbl v;go_enter func154,ntmps154;go_wp2_with (first|rw[C.out]);refine eD [0,0,0,1,0,0,0,0,0,1,0,0,0,0,1,0,0,0,1,0,0] (by kernel_rfl) (fun _ _ _ _=>rfl) ?_;simp only[dC,dB]
  iterate 21 ((try simp only[pA]);first|(apply sB rfl rfl;·(intro x h;(try cases h rfl);go_simp;with_reducible rfl))|apply dN rfl|apply dL rfl)
  refine cP ?_;try simp only[pA]
  go_wp2_with fail;clear O D E P M;refine eD [0,1,0,0,0,0,1,0] (by kernel_rfl) (fun _ _ _ _=>rfl) ?_;simp only[dC,dB];iterate 8 (apply sB rfl rfl;·(intro x h;(try cases h rfl);go_simp;with_reducible rfl))
  refine cP ?_;try simp only[pA]
  go_wp2_with (first|rw[K.out]|(go_at_call 151;refine j.out.mono ?_;rintro e R ⟨rfl,p⟩));go_end0;refine⟨rfl,?_⟩;rw[t.out];exact RmTo.behind (S:=NoS) (Chg.of_below a.out.be) (fun _ _ h=>h.elim) (RmTo.trans (own1:=own) (V1:=V) rfl rfl I.out (fun _ h=>Or.inl h) p)
 ·have J:decide (c.round<m.base / 256)=false:=by simp;omega
  have t:Hid (dP x i (fY x.cf c m) (fI x.cf x.acs.length c m)=dP x i (tQ x.cf c) (qY x.cf x.acs.length c)):=by
   show _=_;unfold fY fI;rw[if_neg d,if_neg d,if_pos hk5,if_pos hk5,if_neg v]
  obtain⟨z,u⟩:=aLA (dP x i (fY x.cf c m) (fI x.cf x.acs.length c m));rw[u]at t⊢;have j:=cN (zC W0.drew.drew own y x V i c N a.out.rm.drew.drew hi hc ha hbs hN hx5 hn ht);rw[←b.out.2]at j;clear o u hc hk5 hbl v;go_enter func154,ntmps154;go_wp2_with (first|rw[C.out]);refine eD [0,0,0,1,0,0,0,0,0,1,0,0,0,0,1,0,0,0,1,0,0] (by kernel_rfl) (fun _ _ _ _=>rfl) ?_;simp only[dC,dB];iterate 21 ((try simp only[pA]);first|(apply sB rfl rfl;·(intro x h;(try cases h rfl);go_simp;with_reducible rfl))|apply dN rfl|apply dL rfl)
  refine cP ?_;try simp only[pA]
  go_wp2_with fail;clear O D E P M;refine eD [0,1,0,0,0,0,1,0] (by kernel_rfl) (fun _ _ _ _=>rfl) ?_;simp only[dC,dB];iterate 8 (apply sB rfl rfl;·(intro x h;(try cases h rfl);go_simp;with_reducible rfl))
  refine cP ?_;try simp only[pA]
  go_wp2_with (go_at_call 151;refine j.out.mono ?_;rintro e R ⟨rfl,p⟩);go_end0;refine⟨rfl,?_⟩;rw[t.out];exact RmTo.behind (S:=NoS) (Chg.of_below a.out.be) (fun _ _ h=>h.elim) p.drew.drew
theorem aF6(W:World)(own:Nat→Nat)(y:Nat)(x:Rm)(V:RmV)(i:Nat)(c:Rc)(N:Int)(m:Mg)(h:RmAt W own y x V)(hi:i<x.cls.length)(hc:x.cls[i]=c)(ha:RcA N c)(hbs:c.busy=true→RcB x.cf N c∧c.heard.length≤3∧c.back.length≤3∧∀m ∈ c.heard,lG m.val)(hN:N≤90000000000)(hx5:x.acs.length≤5)(hn:x.net.length≤99999999990)(ht:x.tr.length≤99999999990)(hm:lG m.val)(hm0:0≤m.base)(hm1:m.base≤256255)(hf0:1≤x.cf.f)(hf1:x.cf.f≤2)(hd0:0≤x.cf.drift)(hd1:x.cf.drift≤10):
 Calls prog 154 #[.pointer (some ⟨y,0,none⟩),.pointer (some ⟨V.bC i,0,none⟩),mgV m] W fun r W'=>r= .returned (.tuple #[])∧RmTo W own y V (dP x i (fY x.cf c m) (fI x.cf x.acs.length c m)) W':=by
 by_cases a:iO c m=true
 ·exact aEk W own y x V i c N m h hi hc ha hbs hN hx5 hn ht hm hm0 hm1 hf0 hf1 hd0 hd1 a
 ·have b:c.up=true:=by unfold iO at a;cases h1:c.up<;>simp_all
  have d:c.busy=true:=by unfold iO at a;cases h1:c.busy<;>simp_all
  have e:m.bal=c.bal:=by
   unfold iO at a;rw[b,d]at a;simpa using a
  by_cases k:m.kind=5
  ·exact aEO W own y x V i c N m h hi hc ha hbs hN hx5 hn ht hm hm0 hm1 hf0 hf1 hd0 hd1 b d e k
  ·by_cases g:m.kind=2
   ·exact aA8 W own y x V i c N m h hi hc ha hbs hN hx5 hn ht hm hm0 hm1 hf0 hf1 hd0 hd1 b d e g
   ·by_cases j:m.kind=4
    ·exact aAv W own y x V i c N m h hi hc ha hbs hN hx5 hn ht hm hm0 hm1 hf0 hf1 hd0 hd1 b d e j
    ·exact aDb W own y x V i c N m h hi hc ha hbs hN hx5 hn ht hm hm0 hm1 hf0 hf1 hd0 hd1 b d e k g j
end Go.Proofs.YtbbdgokdfhdpiaaGreatDoor
