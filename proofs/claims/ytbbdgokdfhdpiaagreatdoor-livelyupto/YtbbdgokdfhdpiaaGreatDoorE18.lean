/- A part of the proof: PAc5, PAc6, PAc7, PTk1, MemMo. -/
import Derived.LaidEql
import Derived.Recover
import Derived.RowKitTokens
import Derived.Stop.Asserts
import Derived.Test.YtbbdgokdfhdpiaaGreatDoorE16
namespace Go.Proofs.YtbbdgokdfhdpiaaGreatDoor
set_option linter.all false
set_option maxRecDepth 100000
set_option maxHeartbeats 40000000
open Go.Proofs.Tryz Go.RowKit
section
open Go.RowKit Go.Maps
theorem aGQ{W:World}{tb:Nat}{rs:List Rw}(h:xV W tb rs)(l:Int)(hl0:0≤l)(hl3:l≤3):(Instr.lookup 118 (.map (some tb)) (.int .i64 l) false).run prog W= .ok (rwV ((dQ rs l.toNat).getD zRw)) W:=by
 have b:keyOf prog 3 (.int .i64 l)=some (.int .i64 l):=keyOf_int_mk underlying3 (aBt hl0 (by omega));obtain⟨v,d,c,a⟩:=h.lookup aEk underlying118 (aDx W) (wF zRw) b;have e:=aAy (vP zRw) l.toNat rs.length rs rfl;rw[Int.toNat_of_nonneg hl0]at e;rw[e]at a;rw[c];cases hq:dQ rs l.toNat with
 |none=>rw[hq]at a;rw[xC a];rfl
 |some r=>rw[hq]at a;rw[xC a];rfl
theorem aEj(fn:Func)(hr:fn.results=#[.cell 4 58])(tmps:Array Value)(x:Nat)(r:Rw)(W:World)(h4:tmps.getD 4 undef= .pointer (some ⟨x,0,none⟩))(hb:W.heap[x]?=some (.cells (rwL r).toArray 58 (0,0))):
 (results fn tmps).run prog W= .ok (rwV r) W:=by
 have a:(loadVar 58 ⟨x,0,none⟩).run prog W= .ok (rwV r) W:=fD W ⟨x,0,none⟩ 58 (rwL r) _ (cE hb) underlying58 rfl (by kernel_rfl);unfold results;rw[hr];simp only[bX]at h4;simp[h4,asAddr,aT,a]
theorem pK(fn:Func)(hr:fn.results=#[.cell 4 58,.cell 5 66,.tmp 6])(tmps:Array Value)(x y:Nat)(r:Rw)(m:Mg)(q:Bool)(W:World)(h4:tmps.getD 4 undef= .pointer (some ⟨x,0,none⟩))(h5:tmps.getD 5 undef= .pointer (some ⟨y,0,none⟩))(h6:tmps.getD 6 undef= .bool q)(hb:W.heap[x]?=some (.cells (rwL r).toArray 58 (0,0)))(hc:W.heap[y]?=some (.cells (mgL m).toArray 66 (0,0))):
 (results fn tmps).run prog W= .ok (.tuple #[rwV r,mgV m,.bool q]) W:=by
 have b:(loadVar 58 ⟨x,0,none⟩).run prog W= .ok (rwV r) W:=fD W ⟨x,0,none⟩ 58 (rwL r) _ (cE hb) underlying58 rfl (by kernel_rfl);have a:(loadVar 66 ⟨y,0,none⟩).run prog W= .ok (mgV m) W:=fD W ⟨y,0,none⟩ 66 (mgL m) _ (cE hc) underlying66 rfl (by kernel_rfl);unfold results;rw[hr];simp only[bX]at h4 h5 h6;simp[h4,h5,h6,asAddr,aT,b,a]
theorem aGJ(W:World)(F:Nat→Prop)(b g:Nat)(a:Ac)(l:Int)(h:Acc W F b g a)(hl0:0≤l)(hl3:l≤3):
 Calls prog 170 #[.pointer (some ⟨b,0,none⟩),.int .i64 l] W fun e W'=>e= .returned (rwV (gH a l))∧Chg NoS W W':=by
 obtain⟨FD,d,tb,h,_,_⟩:=h;obtain⟨R,C⟩:=aIe ((dQ a.rows l.toNat).getD zRw);have A:=fun x (hx:Chg NoS W x)=>aGQ (h.kept hx (fun _ _ h=>h)).table l hl0 hl3;rw[←C]at A;have U:gH a l={R with lock:=l}:=by unfold gH;rw[C]
 rw[U];have V:=cA A;have HA:=cA h;have i:Chg NoS W (W.alloc (.cells #[.int .i64 0,.int .i64 0,.int .i64 0,.int .i64 0,.int .i64 0,.int .i64 0,.int .i64 0] 58)):=(Chg.refl _ _).alloc _;have w:=aA W (.cells #[.int .i64 0,.int .i64 0,.int .i64 0,.int .i64 0,.int .i64 0,.int .i64 0,.int .i64 0] 58);have f:(W.alloc (.cells #[.int .i64 0,.int .i64 0,.int .i64 0,.int .i64 0,.int .i64 0,.int .i64 0,.int .i64 0] 58)).heap.size=W.heap.size+1:=by simp
 generalize p:W.alloc (.cells #[.int .i64 0,.int .i64 0,.int .i64 0,.int .i64 0,.int .i64 0,.int .i64 0,.int .i64 0] 58)=W1 at*;have T:=cA p;have Y:=(h.kept i (fun _ _ h=>h)).cell 3 _ rfl;have z:=V.out W1 i;have o:=aA W1 (.cells #[.int .i64 0,.int .i64 0,.int .i64 0,.int .i64 0,.int .i64 0,.int .i64 0,.int .i64 0] 58);have n:Chg NoS W1 (W1.alloc (.cells #[.int .i64 0,.int .i64 0,.int .i64 0,.int .i64 0,.int .i64 0,.int .i64 0,.int .i64 0] 58)):=(Chg.refl _ _).alloc _;have M:(W1.alloc (.cells #[.int .i64 0,.int .i64 0,.int .i64 0,.int .i64 0,.int .i64 0,.int .i64 0,.int .i64 0] 58)).heap.size=W.heap.size+2:=by simp[f]
 have j:=n.kept w (fun h=>h);generalize q:W1.alloc (.cells #[.int .i64 0,.int .i64 0,.int .i64 0,.int .i64 0,.int .i64 0,.int .i64 0,.int .i64 0] 58)=W2 at*;rw[f]at o;have H:=cA q;have I:=cA f;have N:=cA o;have L:=cA (i.trans (S:=NoS) n (fun _ _ h=>h));have y:=cA j;clear p q w i n o j M f h A U C;go_enter func170,ntmps170;go_wp2_with (first|rw[T.out]|(rw[H.out,I.out])|(refine cG rfl 58 _ _ rfl (W.heap.size+1) 0 58 _ _ (rwL R) rfl rfl N.out (by kernel_rfl) (by simp[Value.oneCell']) (by simp) rfl ?_;intro B k E c;refine cD ?_));have X:=cB c 0 _ rfl;have Z:=cY c 0;have m:=dA B (W.heap.size+1) 0 (.int .i64 l);have v:(B.setCell ⟨W.heap.size+1,0,none⟩ (.int .i64 l)).heap[W.heap.size+1]?=some (.cells (rwL {R with lock:=l}).toArray 58 (0,0)):=cO c 0 (.int .i64 l);have s:=m.kept (k.kept y.out (by omega)) (by omega);generalize t:B.setCell ⟨W.heap.size+1,0,none⟩ (.int .i64 l)=W4 at*;have O:=cA t;have P:=cA (cE v);have D:=cA s;have Q:=cA (((L.out.nos:Chg (fun x=>x=W.heap.size+1) W W2).trans k (fun _ _ h=>h)).trans m (fun _ _ h=>h));clear t k E c m v s;refine cA ?_;go_wp2_with (first|rw[O.out]|(refine cJ rfl 58 _ rfl ⟨W.heap.size+1,0,none⟩ rfl (rwL {R with lock:=l}) _ P.out underlying58 rfl (by kernel_rfl) ?_)|(refine cG rfl 58 _ _ rfl W.heap.size 0 58 _ _ (rwL {R with lock:=l}) rfl rfl D.out (by kernel_rfl) (by simp[Value.oneCell']) (by simp) rfl ?_;intro W5 r G u;refine cD ?_));have J:=cA u
 have K:Hid (Chg NoS W W5):=((Q.out.mono (fun _ _ h=>Or.inl h):Chg (fun x=>x=W.heap.size+1∨x=W.heap.size) W W4).trans r (fun _ _ h=>Or.inr h)).mono (fun x hx h=>by omega);clear r G u X Z Y z;refine cA ?_;go_wp2_with fail;exact bodyPost_ret (aEj _ results170 _ W.heap.size {R with lock:=l} _ rfl J.out) rfl ⟨rfl,K.out⟩
abbrev aC6(r:Rw):Vl:=⟨r.own,r.tok,r.ttl,r.seq⟩
theorem aDw(r:Rw):∀j x,(vlL (aC6 r))[j]?=some x→(rwL r).toArray[3+j]?=some x:=by
 intro j x a;have b:j<4:=(aF.1 a).1;rcases j with _|_|_|_|j
 ·exact a
 ·exact a
 ·exact a
 ·exact a
 ·omega
theorem aGR(m:Mg):∀j x,(vlL m.val)[j]?=some x→(mgL m).toArray[6+j]?=some x:=by
 intro j x a;have b:j<4:=(aF.1 a).1;rcases j with _|_|_|_|j
 ·exact a
 ·exact a
 ·exact a
 ·exact a
 ·omega
structure DecAt(W0 W:World)(m:Mg)(r:Rw):Prop where
 bm:W.heap[W0.heap.size]?=some (.cells (mgL m).toArray 66 (0,0))
 br:W.heap[W0.heap.size+1]?=some (.cells (rwL r).toArray 58 (0,0))
 ba:W.heap[W0.heap.size+2]?=some (.cells (rwL zRw).toArray 58 (0,0))
 bx:W.heap[W0.heap.size+3]?=some (.cells (mgL zMg).toArray 66 (0,0))
 ch:Chg NoS W0 W
theorem DecAt.drew{W0 W:World}{m:Mg}{r:Rw}(h:DecAt W0 W m r):DecAt W0 W.drew m r:=⟨h.bm,h.br,h.ba,h.bx,h.ch.drew⟩
theorem aCr(W:World)(m:Mg)(r:Rw):
 Calls prog 169 #[mgV m,rwV r] W fun e W'=>e= .returned (.tuple #[rwV (dX m r),mgV (decMsg m r),.bool (jT m r)])∧Chg NoS W W':=by
 have b6:=aA W (.cells #[.int .i64 m.kind,.int .i64 m.src,.int .i64 m.dst,.int .i64 m.lock,.int .i64 m.bal,.int .i64 m.base,.int .i64 m.val.own,.int .i64 m.val.tok,.int .i64 m.val.ttl,.int .i64 m.val.seq] 66);have b9:Chg NoS W (W.alloc (.cells #[.int .i64 m.kind,.int .i64 m.src,.int .i64 m.dst,.int .i64 m.lock,.int .i64 m.bal,.int .i64 m.base,.int .i64 m.val.own,.int .i64 m.val.tok,.int .i64 m.val.ttl,.int .i64 m.val.seq] 66)):=(Chg.refl _ _).alloc _;have p:(W.alloc (.cells #[.int .i64 m.kind,.int .i64 m.src,.int .i64 m.dst,.int .i64 m.lock,.int .i64 m.bal,.int .i64 m.base,.int .i64 m.val.own,.int .i64 m.val.tok,.int .i64 m.val.ttl,.int .i64 m.val.seq] 66)).heap.size=W.heap.size+1:=by simp
 generalize a1:W.alloc (.cells #[.int .i64 m.kind,.int .i64 m.src,.int .i64 m.dst,.int .i64 m.lock,.int .i64 m.bal,.int .i64 m.base,.int .i64 m.val.own,.int .i64 m.val.tok,.int .i64 m.val.ttl,.int .i64 m.val.seq] 66)=W1 at*;have T:=cA a1;have K:=aA W1 (.cells #[.int .i64 r.lock,.int .i64 r.prom,.int .i64 r.acc,.int .i64 r.own,.int .i64 r.tok,.int .i64 r.ttl,.int .i64 r.seq] 58);have Q:Chg NoS W1 (W1.alloc (.cells #[.int .i64 r.lock,.int .i64 r.prom,.int .i64 r.acc,.int .i64 r.own,.int .i64 r.tok,.int .i64 r.ttl,.int .i64 r.seq] 58)):=(Chg.refl _ _).alloc _;have o:(W1.alloc (.cells #[.int .i64 r.lock,.int .i64 r.prom,.int .i64 r.acc,.int .i64 r.own,.int .i64 r.tok,.int .i64 r.ttl,.int .i64 r.seq] 58)).heap.size=W.heap.size+2:=by simp[p]
 generalize a6:W1.alloc (.cells #[.int .i64 r.lock,.int .i64 r.prom,.int .i64 r.acc,.int .i64 r.own,.int .i64 r.tok,.int .i64 r.ttl,.int .i64 r.seq] 58)=W2 at*;have Z:=cA a6;have O:=aA W2 (.cells #[.int .i64 0,.int .i64 0,.int .i64 0,.int .i64 0,.int .i64 0,.int .i64 0,.int .i64 0] 58);have G:Chg NoS W2 (W2.alloc (.cells #[.int .i64 0,.int .i64 0,.int .i64 0,.int .i64 0,.int .i64 0,.int .i64 0,.int .i64 0] 58)):=(Chg.refl _ _).alloc _;have t:(W2.alloc (.cells #[.int .i64 0,.int .i64 0,.int .i64 0,.int .i64 0,.int .i64 0,.int .i64 0,.int .i64 0] 58)).heap.size=W.heap.size+3:=by simp[o]
 generalize b8:W2.alloc (.cells #[.int .i64 0,.int .i64 0,.int .i64 0,.int .i64 0,.int .i64 0,.int .i64 0,.int .i64 0] 58)=W3 at*;have U:=cA b8;have hx4:=aA W3 (.cells #[.int .i64 0,.int .i64 0,.int .i64 0,.int .i64 0,.int .i64 0,.int .i64 0,.int .i64 0,.int .i64 0,.int .i64 0,.int .i64 0] 66);have z:Chg NoS W3 (W3.alloc (.cells #[.int .i64 0,.int .i64 0,.int .i64 0,.int .i64 0,.int .i64 0,.int .i64 0,.int .i64 0,.int .i64 0,.int .i64 0,.int .i64 0] 66)):=(Chg.refl _ _).alloc _;generalize a8:W3.alloc (.cells #[.int .i64 0,.int .i64 0,.int .i64 0,.int .i64 0,.int .i64 0,.int .i64 0,.int .i64 0,.int .i64 0,.int .i64 0,.int .i64 0] 66)=W4 at*;have Y:=cA a8;rw[p]at K;rw[o]at O;rw[t]at hx4;have d:Hid (DecAt W W4 m r):=⟨z.kept (G.kept (Q.kept b6 (fun h=>h)) (fun h=>h)) (fun h=>h),z.kept (G.kept K (fun h=>h)) (fun h=>h),z.kept O (fun h=>h),hx4,((b9.trans Q (fun _ _ h=>h)).trans G (fun _ _ h=>h)).trans z (fun _ _ h=>h)⟩;have m4:=cB d.out.bm 4 _ rfl;have r1:=cB d.out.br 1 _ rfl;clear a1 a6 b8 a8 b6 K O hx4 b9 Q G z;have HS:=cA (aH4 p o t);by_cases k:m.bal<r.prom
 ·have H:dX m r=r:=if_pos k;have I:decMsg m r={zMg with kind:=5,base:=r.prom}:=if_pos k;have J:jT m r=false:=if_pos k;rw[H,I,J];have hb:decide (m.bal<r.prom)=true:=by simpa using k
  clear H I J k;go_enter func169,ntmps169;go_wp2_with (first|rw[T.out]|rw[Z.out]|rw[U.out]|rw[Y.out]);clear p o t;refine rlx [1,0,1,0,2] (fun x=>x.cell? ⟨W.heap.size+1,1,none⟩=some (.int .i64 r.prom)∧∀j y,(rwL r)[j]?=some y→x.cell? ((⟨W.heap.size+1,0,none⟩:Addr).add j)=some y) (by kernel_rfl) (fun _ _ _ _=>rfl) ?_ ?_
  ·exact⟨r1,cE (W:=W4.drew) d.out.br⟩
  simp only[cM,cL];refine cK (v:=rwV r) rfl (fun x hx=>cF 58 _ rfl ⟨W.heap.size+1,0,none⟩ rfl (rwL r) _ hx.2 underlying58 rfl (by kernel_rfl)) ?_;iterate 3 (apply sB rfl rfl;·(intro x h;(try have h:=h rfl);(try dsimp only at h);go_simp;with_reducible rfl))
  try simp only[pA]
  refine dC rfl (fun C hC=>?_);refine gB 58 _ _ rfl (W.heap.size+2) 0 58 _ _ (rwL r) rfl rfl d.out.drew.ba (by kernel_rfl) (by simp[Value.oneCell']) (by simp) rfl ?_;intro s b c2 b2;have a:=b.kept d.out.drew.br (by omega);refine hC _ _ ⟨cB a 1 _ rfl,cE a⟩ ?_;clear hC C;refine cC ?_;have B:=b.kept d.out.drew.bx (by omega);have f:=cA (aH3 b2 B);have V:=cA ((d.out.drew.ch.nos:Chg (fun x=>x=W.heap.size+2) W _).trans b (fun _ _ h=>h));clear b c2 b2 a B m4 r1;(try simp only[pA]);go_wp2_with (first|(refine cG rfl 66 _ _ rfl (W.heap.size+3) 0 66 _ _ (mgL {zMg with kind:=5,base:=r.prom}) rfl rfl f.out.2 (by kernel_rfl) (by simp[Value.oneCell']) (by simp) rfl ?_;intro W6 c M u;refine cD ?_));have b3:=c.kept f.out.1 (by omega);have g:=cA (aH3 b3 u);have N:Hid (Chg NoS W W6):=((V.out.mono (fun _ _ h=>Or.inl h):Chg (fun x=>x=W.heap.size+2∨x=W.heap.size+3) W s).trans c (fun _ _ h=>Or.inr h)).mono (fun x hx h=>by omega);clear c M u b3;refine cA ?_;go_wp2_with fail;exact bodyPost_ret (pK _ results169 _ (W.heap.size+2) (W.heap.size+3) r {zMg with kind:=5,base:=r.prom} false _ rfl rfl rfl g.out.1 g.out.2) rfl ⟨rfl,N.out⟩
 ·have hb:decide (m.bal<r.prom)=false:=by simpa using k
  by_cases F:m.kind=1
  ·obtain⟨q,hq⟩:=aIe (decide (r.prom<m.bal));have H:dX m r={r with prom:=m.bal}:=(if_neg k).trans (if_pos F);have I:decMsg m r={zMg with kind:=2,base:=r.acc,val:=aC6 r}:=(if_neg k).trans (if_pos F);have J:jT m r=q:=by rw[hq];exact(if_neg k).trans (if_pos F)
   rw[H,I,J];have hk:(m.kind==1)=true:=by simp[F]
   have m0:=cB d.out.bm 0 _ rfl;have z1:=cY d.out.br 1;have b:=dA W4 (W.heap.size+1) 1 (.int .i64 m.bal);have a:(W4.setCell ⟨W.heap.size+1,1,none⟩ (.int .i64 m.bal)).heap[W.heap.size+1]?=some (.cells (rwL {r with prom:=m.bal}).toArray 58 (0,0)):=cO d.out.br 1 (.int .i64 m.bal);have a9:=b.kept d.out.ba (by omega);have B:=b.kept d.out.bx (by omega);generalize A:W4.setCell ⟨W.heap.size+1,1,none⟩ (.int .i64 m.bal)=s at*;have S:=cA A;have HQ:=cA hq;have f:=cA (aH4 a a9 B);have V:=cA ((d.out.ch.nos:Chg (fun x=>x=W.heap.size+1) W W4).trans b (fun _ _ h=>h));have r2:=cB a 2 _ rfl;clear H I J k F A b a a9 B hq;go_enter func169,ntmps169;go_wp2_with (first|rw[T.out]|rw[Z.out]|rw[U.out]|rw[Y.out]|rw[S.out]);clear p o t;rw[←HQ.out];refine rlx [1,0,1,0,1,0,0,2] (fun x=>x.cell? ⟨W.heap.size+1,2,none⟩=some (.int .i64 r.acc)∧(∀j y,(rwL {r with prom:=m.bal})[j]?=some y→x.cell? ((⟨W.heap.size+1,0,none⟩:Addr).add j)=some y)∧(∀j y,(vlL (aC6 r))[j]?=some y→x.cell? ((⟨W.heap.size+1,3,none⟩:Addr).add j)=some y)) (by kernel_rfl) (fun _ _ _ _=>rfl) ?_ ?_
   ·exact⟨r2,cE (W:=s.drew) f.out.1,fF (W:=s.drew) f.out.1 3 _ (aDw {r with prom:=m.bal})⟩
   simp only[cM,cL];refine cK (v:=rwV {r with prom:=m.bal}) rfl (fun x hx=>cF 58 _ rfl ⟨W.heap.size+1,0,none⟩ rfl (rwL {r with prom:=m.bal}) _ hx.2.1 underlying58 rfl (by kernel_rfl)) ?_;iterate 3 (apply sB rfl rfl;·(intro x h;(try have h:=h rfl);(try dsimp only at h);go_simp;with_reducible rfl))
   try simp only[pA]
   refine cK (v:=vlV (aC6 r)) rfl (fun x hx=>cF 56 _ rfl ⟨W.heap.size+1,3,none⟩ rfl (vlL (aC6 r)) _ hx.2.2 underlying56 rfl (by kernel_rfl)) ?_;iterate 2 (apply sB rfl rfl;·(intro x h;(try have h:=h rfl);(try dsimp only at h);go_simp;with_reducible rfl))
   try simp only[pA]
   refine dC rfl (fun C hC=>?_);refine gB 58 _ _ rfl (W.heap.size+2) 0 58 _ _ (rwL {r with prom:=m.bal}) rfl rfl (show s.drew.heap[W.heap.size+2]?=_ from f.out.2.1) (by kernel_rfl) (by simp[Value.oneCell']) (by simp) rfl ?_;intro W6 c M u;have i:=c.kept (show s.drew.heap[W.heap.size+1]?=_ from f.out.1) (by omega);refine hC _ _ ⟨cB i 2 _ rfl,cE i,fF i 3 _ (aDw {r with prom:=m.bal})⟩ ?_;clear hC C;refine cC ?_;have b4:=c.kept (show s.drew.heap[W.heap.size+3]?=_ from f.out.2.2) (by omega);have g:=cA (aH3 u b4);have N:=cA (((V.out.mono (fun _ _ h=>Or.inl h):Chg (fun x=>x=W.heap.size+1∨x=W.heap.size+2) W s).drew).trans c (fun _ _ h=>Or.inr h));clear c M u i b4 m4 r1 m0 z1 r2;(try simp only[pA]);go_wp2_with (first|(refine cG rfl 66 _ _ rfl (W.heap.size+3) 0 66 _ _ (mgL {zMg with kind:=2,base:=r.acc,val:=aC6 r}) rfl rfl g.out.2 (by kernel_rfl) (by simp[Value.oneCell']) (by simp) rfl ?_;intro W7 n X w;refine cD ?_));have a5:=n.kept g.out.1 (by omega);have b1:=cA (aH3 a5 w);have L:Hid (Chg NoS W W7):=((N.out.mono (fun _ _ h=>Or.inl h):Chg (fun x=>(x=W.heap.size+1∨x=W.heap.size+2)∨x=W.heap.size+3) W W6).trans n (fun _ _ h=>Or.inr h)).mono (fun x hx h=>by omega);clear n X w a5;refine cA ?_;go_wp2_with fail;exact bodyPost_ret (pK _ results169 _ (W.heap.size+2) (W.heap.size+3) {r with prom:=m.bal} {zMg with kind:=2,base:=r.acc,val:=aC6 r} q _ rfl rfl rfl b1.out.1 b1.out.2) rfl ⟨rfl,L.out⟩
  ·have H:dX m r=⟨r.lock,m.bal,m.bal,m.val.own,m.val.tok,m.val.ttl,m.val.seq⟩:=(if_neg k).trans (if_neg F);have I:decMsg m r={zMg with kind:=4}:=(if_neg k).trans (if_neg F);have J:jT m r=true:=(if_neg k).trans (if_neg F);rw[H,I,J];have hk:(m.kind==1)=false:=by simp[F]
   have m0:=cB d.out.bm 0 _ rfl;clear H I J k F;go_enter func169,ntmps169;go_wp2_with (first|rw[T.out]|rw[Z.out]|rw[U.out]|rw[Y.out]);clear p o t;have HM:Hid (∀x,Chg (fun y=>y=W.heap.size+1) W4 x→x.cell? ⟨W.heap.size,4,none⟩=some (.int .i64 m.bal)∧∀j y,(vlL m.val)[j]?=some y→x.cell? ((⟨W.heap.size,6,none⟩:Addr).add j)=some y):=fun x hx=>by
    have hb:=hx.kept d.out.bm (by omega);exact⟨cB hb 4 _ rfl,fF hb 6 _ (aGR m)⟩
   refine rlx [0,1,0,1,0,1,0,2,0,2,0] (fun x=>x.cell? ⟨W.heap.size,4,none⟩=some (.int .i64 m.bal)∧∀j y,(vlL m.val)[j]?=some y→x.cell? ((⟨W.heap.size,6,none⟩:Addr).add j)=some y) (by kernel_rfl) (fun _ _ _ _=>rfl) ?_ ?_
   ·exact HM.out _ (Chg.refl _ W4).drew
   simp only[cM,cL];iterate 5 (apply sB rfl rfl;·(intro x h;(try have h:=h rfl);(try dsimp only at h);go_simp;with_reducible rfl))
   try simp only[pA]
   refine cK (v:=vlV m.val) rfl (fun x hx=>cF 56 _ rfl ⟨W.heap.size,6,none⟩ rfl (vlL m.val) _ hx.2 underlying56 rfl (by kernel_rfl)) ?_;iterate 1 (apply sB rfl rfl;·(intro x h;(try have h:=h rfl);(try dsimp only at h);go_simp;with_reducible rfl))
   try simp only[pA]
   have r1:=cB d.out.drew.br 1 _ rfl;have z1:=cY d.out.drew.br 1;have b:=dA W4.drew (W.heap.size+1) 1 (.int .i64 m.bal);have a:(W4.drew.setCell ⟨W.heap.size+1,1,none⟩ (.int .i64 m.bal)).heap[W.heap.size+1]?=some (.cells (rwL {r with prom:=m.bal}).toArray 58 (0,0)):=cO d.out.drew.br 1 (.int .i64 m.bal);generalize A:W4.drew.setCell ⟨W.heap.size+1,1,none⟩ (.int .i64 m.bal)=s at*;have S:=cA A;have E:=b.of_drew;refine dC rfl (fun C hC=>?_);go_simp;try rw[S.out]
   refine hC _ _ (HM.out _ E) ?_;clear hC C;iterate 1 (apply sB rfl rfl;·(intro x h;(try have h:=h rfl);(try dsimp only at h);go_simp;with_reducible rfl))
   try simp only[pA]
   have r2:=cB a 2 _ rfl;have z2:=cY a 2;have c:=dA s (W.heap.size+1) 2 (.int .i64 m.bal);have i:(s.setCell ⟨W.heap.size+1,2,none⟩ (.int .i64 m.bal)).heap[W.heap.size+1]?=some (.cells (rwL {r with prom:=m.bal,acc:=m.bal}).toArray 58 (0,0)):=cO a 2 (.int .i64 m.bal);generalize a4:s.setCell ⟨W.heap.size+1,2,none⟩ (.int .i64 m.bal)=W6 at*;have c5:=cA a4;have D:=E.trans c (fun _ _ h=>h);refine dC rfl (fun C hC=>?_);go_simp;try rw[c5.out]
   refine hC _ _ (HM.out _ D) ?_;clear hC C;iterate 1 (apply sB rfl rfl;·(intro x h;(try have h:=h rfl);(try dsimp only at h);go_simp;with_reducible rfl))
   refine cC ?_;try simp only[pA]
   have g:=cA i;have c0:=cA D;clear b a A E r1 z1 r2 z2 c i a4 D m4 m0;go_wp2_with (first|(refine cG rfl 56 _ _ rfl (W.heap.size+1) 3 58 _ _ (rwL ⟨r.lock,m.bal,m.bal,m.val.own,m.val.tok,m.val.ttl,m.val.seq⟩) rfl rfl g.out (by kernel_rfl) (by simp[Value.oneCell']) (by simp) rfl ?_;intro W7 n X w;refine cD ?_));have l:=c0.out.trans n (fun _ _ h=>h);have c4:=cA (cE w);have a2:=cA (aH3 (l.kept d.out.ba (by omega)) (l.kept d.out.bx (by omega)));have L:=cA ((d.out.ch.nos:Chg (fun x=>x=W.heap.size+1) W W4).trans l (fun _ _ h=>h));clear n X w l;refine cA ?_;go_wp2_with (first|(refine cJ rfl 58 _ rfl ⟨W.heap.size+1,0,none⟩ rfl (rwL ⟨r.lock,m.bal,m.bal,m.val.own,m.val.tok,m.val.ttl,m.val.seq⟩) _ c4.out underlying58 rfl (by kernel_rfl) ?_)|(refine cG rfl 58 _ _ rfl (W.heap.size+2) 0 58 _ _ (rwL ⟨r.lock,m.bal,m.bal,m.val.own,m.val.tok,m.val.ttl,m.val.seq⟩) rfl rfl a2.out.1 (by kernel_rfl) (by simp[Value.oneCell']) (by simp) rfl ?_;intro W8 R c3 b5;refine cD ?_));have a0:=R.kept a2.out.2 (by omega);have b0:=cA (aH3 b5 a0);have c6:=cA ((L.out.mono (fun _ _ h=>Or.inl h):Chg (fun x=>x=W.heap.size+1∨x=W.heap.size+2) W W7).trans R (fun _ _ h=>Or.inr h));clear R c3 b5 a0;refine cA ?_;go_wp2_with (first|(refine cG rfl 66 _ _ rfl (W.heap.size+3) 0 66 _ _ (mgL {zMg with kind:=4}) rfl rfl b0.out.2 (by kernel_rfl) (by simp[Value.oneCell']) (by simp) rfl ?_;intro W9 P c7 a3;refine cD ?_));have b7:=P.kept b0.out.1 (by omega);have a7:=cA (aH3 b7 a3)
   have c1:Hid (Chg NoS W W9):=((c6.out.mono (fun _ _ h=>Or.inl h):Chg (fun x=>(x=W.heap.size+1∨x=W.heap.size+2)∨x=W.heap.size+3) W W8).trans P (fun _ _ h=>Or.inr h)).mono (fun x hx h=>by omega);clear P c7 a3 b7;refine cA ?_;go_wp2_with fail;exact bodyPost_ret (pK _ results169 _ (W.heap.size+2) (W.heap.size+3) ⟨r.lock,m.bal,m.bal,m.val.own,m.val.tok,m.val.ttl,m.val.seq⟩ {zMg with kind:=4} true _ rfl rfl rfl a7.out.1 a7.out.2) rfl ⟨rfl,c1.out⟩
end
section
open Go.RowKit Go.Maps
structure ASys(W:World)(F G:Nat→Prop)(b g:Nat)(av cv:Value)(a:Ac)(net:List Mg)(tr:List Ev):Prop where
 acc:Acc W F b g a
 nt:NtAt W G g av cv net tr
 apart:∀k,F k→¬G k
def AfterA(W:World)(F G:Nat→Prop)(b g:Nat)(av cv:Value)(a:Ac)(net:List Mg)(tr:List Ev)(W':World):Prop:=∃F' G',ASys W' F' G' b g av cv a net tr∧Went W W' F F' G G'
theorem AfterA.trans{A B C:World}{F F1 G G1:Nat→Prop}{b g:Nat}{av cv:Value}{a:Ac}{net:List Mg}{tr:List Ev}(h:Went A B F F1 G G1)(k:AfterA B F1 G1 b g av cv a net tr C):AfterA A F G b g av cv a net tr C:=by
 obtain⟨e,d,c,f⟩:=k;exact⟨e,d,c,h.trans f⟩
theorem ASys.kept{W W':World}{F G S:Nat→Prop}{b g:Nat}{av cv:Value}{a:Ac}{net:List Mg}{tr:List Ev}(h:ASys W F G b g av cv a net tr)(hc:Chg S W W')(hf:∀k,F k→¬S k)(hg:∀k,G k→¬S k):ASys W' F G b g av cv a net tr:=
 ⟨h.acc.kept hc hf,h.nt.kept hc hg,h.apart⟩
theorem ASys.drew{W:World}{F G:Nat→Prop}{b g:Nat}{av cv:Value}{a:Ac}{net:List Mg}{tr:List Ev}(h:ASys W F G b g av cv a net tr):ASys W.drew F G b g av cv a net tr:=
 h.kept (Chg.refl NoS W).drew (fun _ _ h=>h) (fun _ _ h=>h)
theorem ASys.went{W W':World}{F G:Nat→Prop}{b g:Nat}{av cv:Value}{a a':Ac}{net:List Mg}{tr:List Ev}(h:ASys W F G b g av cv a net tr)(k:AcTo W F b g a' W'):∃F',ASys W' F' G b g av cv a' net tr∧Went W W' F F' G G:=by
 obtain⟨F',f,d,e⟩:=k;refine⟨F',⟨f,h.nt.kept d (fun x hx hf=>h.apart x hf hx),fun x hx hg=>?_⟩,⟨d.mono (fun _ _ h=>Or.inl h),e,fun _ h=>Or.inl h⟩⟩;rcases e x hx with c|c
 ·exact h.apart x c hg
 ·have:=h.nt.lt x hg;omega
section
variable (W:World) (F G:Nat→Prop) (b g:Nat) (av cv:Value) (a:Ac) (net:List Mg) (tr:List Ev)
theorem nN(e:Ev)(h:ASys W F G b g av cv a net tr)(hn:net.length≤100000000000)(ht:tr.length≤100000000000):
 Calls prog 77 #[.pointer (some ⟨g,0,none⟩),evV e] W fun r W'=>r= .returned (.tuple #[])∧∃G',ASys W' F G' b g av cv a (net++cH [e]) (tr++[e])∧Chg G W W'∧∀k,G' k→G k∨W.heap.size≤k:=by
 refine(wU W G g av cv net tr e h.nt hn ht).mono ?_;rintro r W' ⟨j,G',c,f,i⟩;refine⟨j,G',⟨h.acc.kept f h.apart,c,fun k hk hk'=>?_⟩,f,i⟩;rcases i k hk' with d|d
 ·exact h.apart k hk d
 ·have:=h.acc.lt k hk;omega
theorem aBx(x m:Mg)(h:ASys W F G b g av cv a net tr)(hn:net.length≤100000000000)(ht:tr.length≤100000000000):
 Calls prog 172 #[.pointer (some ⟨b,0,none⟩),mgV x,mgV m] W fun r W'=>r= .returned (.tuple #[])∧∃G',ASys W' F G' b g av cv a (net++[jK a x m]) (tr++[fC (jK a x m)])∧Chg G W W'∧∀k,G' k→G k∨W.heap.size≤k:=by
 have hx1:=aA W (.cells #[.int .i64 x.kind,.int .i64 x.src,.int .i64 x.dst,.int .i64 x.lock,.int .i64 x.bal,.int .i64 x.base,.int .i64 x.val.own,.int .i64 x.val.tok,.int .i64 x.val.ttl,.int .i64 x.val.seq] 66);have Z:Chg NoS W (W.alloc (.cells #[.int .i64 x.kind,.int .i64 x.src,.int .i64 x.dst,.int .i64 x.lock,.int .i64 x.bal,.int .i64 x.base,.int .i64 x.val.own,.int .i64 x.val.tok,.int .i64 x.val.ttl,.int .i64 x.val.seq] 66)):=(Chg.refl _ _).alloc _;have u:(W.alloc (.cells #[.int .i64 x.kind,.int .i64 x.src,.int .i64 x.dst,.int .i64 x.lock,.int .i64 x.bal,.int .i64 x.base,.int .i64 x.val.own,.int .i64 x.val.tok,.int .i64 x.val.ttl,.int .i64 x.val.seq] 66)).heap.size=W.heap.size+1:=by simp
 generalize L:W.alloc (.cells #[.int .i64 x.kind,.int .i64 x.src,.int .i64 x.dst,.int .i64 x.lock,.int .i64 x.bal,.int .i64 x.base,.int .i64 x.val.own,.int .i64 x.val.tok,.int .i64 x.val.ttl,.int .i64 x.val.seq] 66)=W1 at*;have b0:=cA L;have t:=aA W1 (.cells #[.int .i64 m.kind,.int .i64 m.src,.int .i64 m.dst,.int .i64 m.lock,.int .i64 m.bal,.int .i64 m.base,.int .i64 m.val.own,.int .i64 m.val.tok,.int .i64 m.val.ttl,.int .i64 m.val.seq] 66);have w:Chg NoS W1 (W1.alloc (.cells #[.int .i64 m.kind,.int .i64 m.src,.int .i64 m.dst,.int .i64 m.lock,.int .i64 m.bal,.int .i64 m.base,.int .i64 m.val.own,.int .i64 m.val.tok,.int .i64 m.val.ttl,.int .i64 m.val.seq] 66)):=(Chg.refl _ _).alloc _;have a6:(W1.alloc (.cells #[.int .i64 m.kind,.int .i64 m.src,.int .i64 m.dst,.int .i64 m.lock,.int .i64 m.bal,.int .i64 m.base,.int .i64 m.val.own,.int .i64 m.val.tok,.int .i64 m.val.ttl,.int .i64 m.val.seq] 66)).heap.size=W.heap.size+2:=by simp[u]
 generalize M:W1.alloc (.cells #[.int .i64 m.kind,.int .i64 m.src,.int .i64 m.dst,.int .i64 m.lock,.int .i64 m.bal,.int .i64 m.base,.int .i64 m.val.own,.int .i64 m.val.tok,.int .i64 m.val.ttl,.int .i64 m.val.seq] 66)=W2 at*;have a4:=cA M;rw[u]at t;have K:W2.heap[W.heap.size]?=some (.cells (mgL x).toArray 66 (0,0)):=w.kept hx1 (fun h=>h);have R:W2.heap[W.heap.size+1]?=some (.cells (mgL m).toArray 66 (0,0)):=t;have l:=Z.trans (S:=NoS) w (fun _ _ h=>h);have A:¬F W.heap.size:=fun hx=>by have:=h.acc.lt _ hx;omega
 have s:¬G W.heap.size:=fun hx=>by have:=h.nt.lt _ hx;omega
 have p:Hid (∀y,Chg (fun k=>k=W.heap.size) W2 y→y.cell? ⟨b,0,none⟩=some (.int .i64 a.num)∧y.cell? ⟨b,5,none⟩=some (tY g)∧y.cell? ⟨W.heap.size+1,1,none⟩=some (.int .i64 m.src)∧y.cell? ⟨W.heap.size+1,3,none⟩=some (.int .i64 m.lock)∧y.cell? ⟨W.heap.size+1,4,none⟩=some (.int .i64 m.bal)∧ASys y F G b g av cv a net tr∧Chg NoS W y):=fun y hy=>by
  have hb:=hy.kept R (by omega);have hs:=(h.kept l (fun _ _ h=>h) (fun _ _ h=>h)).kept hy (fun k hk e=>A (e▸hk)) (fun k hk e=>s (e▸hk));obtain⟨FD,d,tb,ha,_,_⟩:=hs.acc;exact⟨ha.cell 0 _ rfl,ha.cell 5 _ rfl,cB hb 1 _ rfl,cB hb 3 _ rfl,cB hb 4 _ rfl,hs,l.trans (S:=NoS) hy (fun x hx e=>by omega)⟩
 have B:=cA K;have b2:=cA (aH3 A s);clear L M hx1 t Z w a6 R K l A s h;go_enter func172,ntmps172;go_wp2_with (first|rw[b0.out]|rw[a4.out]);clear u;refine rlx [0,0,0,1,0,1,0,2,0] (fun y=>y.cell? ⟨b,0,none⟩=some (.int .i64 a.num)∧y.cell? ⟨W.heap.size+1,1,none⟩=some (.int .i64 m.src)) (by kernel_rfl) (fun _ _ _ _=>rfl) ?_ ?_
 ·obtain⟨q1,_,q3,_⟩:=p.out _ (Chg.refl _ W2).drew;exact⟨q1,q3⟩
 simp only[cM,cL];iterate 7 (apply sB rfl rfl;·(intro x h;(try have h:=h rfl);(try dsimp only at h);go_simp;with_reducible rfl))
 try simp only[pA]
 have c1:=cB (W:=W2.drew) B.out 1 _ rfl;have z1:=cY (W:=W2.drew) B.out 1;have Y:=dA W2.drew W.heap.size 1 (.int .i64 a.num);have o:(W2.drew.setCell ⟨W.heap.size,1,none⟩ (.int .i64 a.num)).heap[W.heap.size]?=some (.cells (mgL {x with src:=a.num}).toArray 66 (0,0)):=cO (W:=W2.drew) B.out 1 (.int .i64 a.num);generalize U:W2.drew.setCell ⟨W.heap.size,1,none⟩ (.int .i64 a.num)=W3 at*;have a2:=cA U;have c:=Y.of_drew;refine dC rfl (fun C hC=>?_);go_simp;try rw[a2.out]
 refine hC _ _ ⟨(p.out _ c).1,(p.out _ c).2.2.1⟩ ?_;clear hC C;iterate 1 (apply sB rfl rfl;·(intro x h;(try have h:=h rfl);(try dsimp only at h);go_simp;with_reducible rfl))
 refine cC ?_;try simp only[pA]
 have d2:=cB o 2 _ rfl;have y2:=cY o 2;have Q:=dA W3 W.heap.size 2 (.int .i64 m.src);have D:(W3.setCell ⟨W.heap.size,2,none⟩ (.int .i64 m.src)).heap[W.heap.size]?=some (.cells (mgL {x with src:=a.num,dst:=m.src}).toArray 66 (0,0)):=cO o 2 (.int .i64 m.src);generalize P:W3.setCell ⟨W.heap.size,2,none⟩ (.int .i64 m.src)=W4 at*;have a9:=cA P;have X:=cA (c.trans Q (fun _ _ h=>h));have i:=cA D;clear Y o U c Q D P c1 z1;go_wp2_with (first|rw[a9.out]);clear d2 y2;refine rlx [0,1,0,1,0,2,0] (fun y=>y.cell? ⟨W.heap.size+1,3,none⟩=some (.int .i64 m.lock)∧y.cell? ⟨W.heap.size+1,4,none⟩=some (.int .i64 m.bal)) (by kernel_rfl) (fun _ _ _ _=>rfl) ?_ ?_
 ·obtain⟨_,_,_,q4,q5,_⟩:=p.out _ X.out.drew;exact⟨q4,q5⟩
 simp only[cM,cL];iterate 5 (apply sB rfl rfl;·(intro x h;(try have h:=h rfl);(try dsimp only at h);go_simp;with_reducible rfl))
 try simp only[pA]
 have c3:=cB (W:=W4.drew) i.out 3 _ rfl;have z3:=cY (W:=W4.drew) i.out 3;have N:=dA W4.drew W.heap.size 3 (.int .i64 m.lock);have n:(W4.drew.setCell ⟨W.heap.size,3,none⟩ (.int .i64 m.lock)).heap[W.heap.size]?=some (.cells (mgL {x with src:=a.num,dst:=m.src,lock:=m.lock}).toArray 66 (0,0)):=cO (W:=W4.drew) i.out 3 (.int .i64 m.lock);generalize E:W4.drew.setCell ⟨W.heap.size,3,none⟩ (.int .i64 m.lock)=W5 at*;have a8:=cA E;have f:=X.out.trans N.of_drew (fun _ _ h=>h);refine dC rfl (fun C hC=>?_);go_simp;try rw[a8.out]
 refine hC _ _ ⟨(p.out _ f).2.2.2.1,(p.out _ f).2.2.2.2.1⟩ ?_;clear hC C;iterate 1 (apply sB rfl rfl;·(intro x h;(try have h:=h rfl);(try dsimp only at h);go_simp;with_reducible rfl))
 refine cC ?_;try simp only[pA]
 have d4:=cB n 4 _ rfl;have y4:=cY n 4;have V:=dA W5 W.heap.size 4 (.int .i64 m.bal);have J:(W5.setCell ⟨W.heap.size,4,none⟩ (.int .i64 m.bal)).heap[W.heap.size]?=some (.cells (mgL (jK a x m)).toArray 66 (0,0)):=cO n 4 (.int .i64 m.bal);generalize T:W5.setCell ⟨W.heap.size,4,none⟩ (.int .i64 m.bal)=W6 at*;have b1:=cA T;have H:=cA (f.trans V (fun _ _ h=>h));have a1:=cA J;clear N n E f V J T c3 z3;go_wp2_with (first|rw[b1.out]);clear d4 y4;refine rlx [0,0,0,1,1,0] (fun y=>y.cell? ⟨b,5,none⟩=some (tY g)∧∀j z,(mgL (jK a x m))[j]?=some z→y.cell? ((⟨W.heap.size,0,none⟩:Addr).add j)=some z) (by kernel_rfl) (fun _ _ _ _=>rfl) ?_ ?_
 ·obtain⟨_,q2,_⟩:=p.out _ H.out.drew;exact⟨q2,cE (W:=W6.drew) a1.out⟩
 simp only[cM,cL];iterate 4 (apply sB rfl rfl;·(intro x h;(try have h:=h rfl);(try dsimp only at h);go_simp;with_reducible rfl))
 try simp only[pA]
 refine cK (v:=mgV (jK a x m)) rfl (fun y hy=>cF 66 _ rfl ⟨W.heap.size,0,none⟩ rfl (mgL (jK a x m)) _ hy.2 underlying66 rfl (by kernel_rfl)) ?_;iterate 1 (apply sB rfl rfl;·(intro x h;(try have h:=h rfl);(try dsimp only at h);go_simp;with_reducible rfl))
 refine cC ?_;try simp only[pA]
 obtain⟨_,_,_,_,_,q,a0⟩:=p.out W6.drew H.out.drew;have a7:Hid (Calls prog 77 #[.pointer (some ⟨g,0,none⟩),evV (fC (jK a x m))] W6.drew fun r W'=>r= .returned (.tuple #[])∧∃G',ASys W' F G' b g av cv a (net++cH [fC (jK a x m)]) (tr++[fC (jK a x m)])∧Chg G W6.drew W'∧∀k,G' k→G k∨W6.drew.heap.size≤k):=nN W6.drew F G b g av cv a net tr (fC (jK a x m)) q hn ht;have I:=cA a0;clear q a0;go_wp2_with fail;refine a7.out.mono ?_;rintro r W7 ⟨rfl,G7,O,a5,a3⟩;go_wp2_with fail
 (first|go_end0|((try simp only[Exit.inBlock,Exit.then]);refine bodyPost_ret (results_none rfl _ _ _) rfl ?_))
 rw[pW _ rfl]at O;exact⟨rfl,G7,O,(I.out.nos:Chg G W W6.drew).trans a5 (fun _ _ h=>h),fun k hk=>by
  rcases a3 k hk with h|h
  ·exact Or.inl h
  ·exact Or.inr (bP I.out.size h)⟩
end
end
section
open Go.RowKit Go.Maps
theorem aFx{W:World}{tb:Nat}{rs:List Rw}(h:xV W tb rs)(ty:TypeId):∃W',(Builtin.clear_ #[118] ty #[.map (some tb)]).run prog W= .ok (.tuple #[]) W'∧xV W' tb []∧Chg (fun x=>x=tb) W W'∧W'.heap.size=W.heap.size:=by
 obtain⟨c,a,b,_⟩:=h;refine⟨ChangeMaps.setBlock W tb (.map #[] a),?_,⟨#[],a,jC b _,⟨by simp,MapKept.stamped_empty a,by simp⟩,by simp,rfl⟩,iL _ _ _,by simp[ChangeMaps.setBlock]⟩;simp[Builtin.clear_,aT,run_underlying underlying118,MapKept.run_getObj_map b,MapKept.run_setObj_map _ b,Result.andThen,ChangeMaps.setBlock]
structure aED(k:Dk):Prop where
 y0:0≤(eP k).2
 y1:(eP k).2≤((eP k).1.length:Int)
 l1:((eP k).1.length:Int)≤1000000000000
section
variable (W:World) (F G:Nat→Prop) (b g:Nat) (av cv:Value) (a:Ac) (net:List Mg) (tr:List Ev)
theorem rS(q:Int)(h:ASys W F G b g av cv a net tr)(hk:aED a.dk)(hq:0≤q)(hn:net.length≤100000000000)(ht:tr.length≤100000000000):
 Calls prog 128 #[.pointer (some ⟨b,0,none⟩),.int .i64 q] W fun r W'=>r= .returned (.tuple #[])∧AfterA W F G b g av cv (crashA a q) net (tr++[gJ a.num]) W':=by
 have HS:=cA h;obtain⟨FD,d,i,I,y,o⟩:=h.acc;have c2:=I.cell 2 _ rfl;have J:=cA (aH4 I y o);have v:=cA (aCP W FD d a.dk q I.disk hk.y0 hk.y1 hk.l1 hq);clear I y o h hk;go_enter func128,ntmps128;go_wp2_with (first|(go_at_call 166;refine v.out.mono ?_;rintro e U ⟨rfl,u⟩;refine cD ?_));obtain⟨z,X,c,H,Y,T,_,D⟩:=J.out.1.to J.out.2.1 J.out.2.2 u;have c3:=c.cell 3 _ rfl;obtain⟨_,_,V⟩:=dK c.table;have HK:Hid (∀f,xV f i []→Chg (fun x=>x=i) U f→∀W3,Chg (fun x=>x=b) f W3→W3.heap[b]?=some (.cells (acL (crashA a q) d i g).toArray 162 (0,0))→∃F',ASys W3 F' G b g av cv (crashA a q) net tr∧Went W W3 F F' G G):=fun f l j W3 k3 m=>by
  have Q:=j.kept c.blk (fun e=>dR c.blk V (by simp) e);have n:Disk f z d (gI a.dk q):=c.disk.of_heap j.size (fun x hx=>j.block x (c.disk.lt x hx) (fun e=>c.ntb (e▸hx)));have M:=n.of_heap k3.size (fun x hx=>k3.block x (n.lt x hx) (fun e=>c.nb (e▸hx)));obtain⟨_,_,o2⟩:=dK l;have S:xV W3 i []:=dF l (k3.block _ l.lt (fun e=>dR Q o2 (by simp) e.symm));have C:Acc W3 X b g (crashA a q):=⟨z,d,i,⟨m,M,S,c.nb,c.ntb⟩,H,fun x hx=>aG (Y x hx) (bP j.size k3.size)⟩;refine HS.out.went ⟨X,C,(T.trans j (fun x hx e=>?_)).trans k3 (fun x hx e=>?_),D⟩
  ·subst e;rcases D _ (H _ (Or.inr (Or.inr rfl)))with h|h
   ·exact h
   ·omega
  ·subst e;rcases D _ (H _ (Or.inr (Or.inl rfl)))with h|h
   ·exact h
   ·omega
 have P:=cA (fun ty=>aFx c.table ty);have k:=cA (aH3 c.blk V);clear c H Y T D u c2;refine cA ?_;go_wp2_with (first|(refine nE rfl 118 _ rfl (.map (some i)) rfl (fun w=>xV w i []∧Chg (fun x=>x=i) U w) (by obtain⟨w,g1,g2,g3,_⟩:=P.out _;exact⟨w,g1,g2,g3⟩) ?_;rintro f ⟨l,j⟩;refine cD ?_));have E:=j.kept k.out.1 (fun e=>dR k.out.1 k.out.2 (by simp) e);have d4:=cB E 4 _ rfl;have z4:=cY E 4;have B:=dA f b 4 (.int .i64 2);have m:(f.setCell ⟨b,4,none⟩ (.int .i64 2)).heap[b]?=some (.cells (acL (crashA a q) d i g).toArray 162 (0,0)):=cO E 4 (.int .i64 2);generalize A:f.setCell ⟨b,4,none⟩ (.int .i64 2)=W3 at*;have K:=cA A;obtain⟨Z,p,t⟩:=HK.out f l j W3 B m;have e5:=cB m 5 _ rfl;have e0:=cB m 0 _ rfl;have R:=cA (nN W3.drew Z G b g av cv (crashA a q) net tr (gJ a.num) p.drew hn ht);have N:=cA t;clear p t A B m l j E c3 v;refine cA ?_;go_wp2_with (first|rw[K.out]);clear d4 z4;refine dZ [0,0,0,1,0,0,0,1,0] (by kernel_rfl) (fun _ _ _ _=>rfl) ?_;simp only[cM,cL];iterate 9 (apply sB rfl rfl;·(intro x h;(try cases h rfl);go_simp;with_reducible rfl))
 refine cC ?_;try simp only[pA]
 go_wp2_with fail;refine R.out.mono ?_;rintro r W4 ⟨rfl,G4,s,O,L⟩;go_wp2_with fail
 (first|go_end0|((try simp only[Exit.inBlock,Exit.then]);refine bodyPost_ret (results_none rfl _ _ _) rfl ?_))
 rw[fL _ (show(4:Int)≠1 by decide),aC]at s;refine⟨rfl,Z,G4,s,N.out.trans ⟨O.of_drew.mono (fun _ _ h=>Or.inr h),fun _ h=>Or.inl h,L⟩⟩
theorem aDZ(n q:Int)(h:ASys W F G b g av cv a net tr)(hk:aED a.dk)(hq:0≤q)(hn:net.length≤100000000000)(ht:tr.length≤100000000000):
 Calls prog 87 #[.pointer (some ⟨b,0,none⟩),.int .i64 n,.int .i64 q] W fun r W'=>r= .returned (.int .i64 (aAb a))∧AfterA W F G b g av cv (oO a n q) net (tr++oF a n) W':=by
 have x:=cA h;obtain⟨N,d,E,o,i,f⟩:=h.acc;have O:=o.cell 4 _ rfl;by_cases c:a.st=2
 ·have l:aAb a=2:=if_pos c;have k:oO a n q=a:=if_pos c;have m:oF a n=[]:=if_pos c;rw[l,k,m,aC];have z:(a.st==2)=true:=by simp[c]
  clear l k m c o i f h hk;go_enter func87,ntmps87;go_wp2_with fail;go_ret;exact⟨rfl,F,G,x.out,Went.refl _ _ _⟩
 ·have z:(a.st==2)=false:=by simp[c]
  by_cases j:n=0
  ·have l:aAb a=0:=if_neg c;have k:oO a n q=crashA a q:=(if_neg c).trans (if_pos j);have m:oF a n=[gJ a.num]:=(if_neg c).trans (if_pos j);rw[l,k,m];have u:(n==0)=true:=by simp[j]
   have w:=cA (rS W F G b g av cv a net tr q h hk hq hn ht);clear l k m c j o i f h hk;go_enter func87,ntmps87;go_wp2_with (go_at_call 128;refine w.out.mono ?_;rintro e D ⟨rfl,y⟩);go_ret;exact⟨rfl,y⟩
  ·have l:aAb a=0:=if_neg c;have k:oO a n q={a with dk:={a.dk with fail:=some (n,q)}}:=(if_neg c).trans (if_neg j);have m:oF a n=[]:=(if_neg c).trans (if_neg j);rw[l,k,m,aC];have u:(n==0)=false:=by simp[j]
   have s:=cA (aDN W N d a.dk n q o.disk);have P:=o.cell 2 _ rfl;have p:=cA (aH4 o i f);clear l k m c j o i f h hk;go_enter func87,ntmps87;go_wp2_with (go_at_call 133;refine s.out.mono ?_;rintro e D ⟨rfl,t⟩);go_ret;obtain⟨v,I,L,K,M,C,_,B⟩:=p.out.1.to p.out.2.1 p.out.2.2 t;obtain⟨A,J,H⟩:=x.out.went ⟨I,⟨v,d,E,L,K,M⟩,C,B⟩;exact⟨rfl,A,G,J,H⟩
end
end
section
open Go.RowKit Go.Maps
theorem yZ(pa pe:Nat)(w:World):
 CallsD prog 127 #[.pointer (some ⟨pa,0,none⟩),.pointer (some ⟨pe,0,none⟩)] .returning w fun e u' w'=>e= .returned (.tuple #[])∧u'= .returning∧w'=w:=by
 refine callsD_of_wpS func127 rfl fun c₀ cs hu=>?_;apply wpS_seq;apply wpS_region;simp[wpOpsS,go_sem,recoverD,hu,ntmps127,Exit.thenS];refine wpS_of_wp ?_;go_wp2;cases c₀;simp_all [bodyPostS,results,results127]
theorem zC(q:Int)(w:World):(Instr.typeAssert (.iface 199 (.agg #[.int .i64 q])) 20 199 true).run prog w= .ok (.tuple #[.agg #[.int .i64 q],.bool true]) w:=by
 simp[Instr.typeAssert,run_underlying underlying199]
theorem aDG(pa pe:Value)(x:Value):(#[pa,pe]++(Array.replicate 13 undef).setIfInBounds 3 x:Array Value)=#[pa,pe,undef,undef,undef,x,undef,undef,undef,undef,undef,undef,undef,undef,undef]:=by
 rfl
theorem aDU(W:World)(F G:Nat→Prop)(b g:Nat)(av cv:Value)(a:Ac)(net:List Mg)(tr:List Ev)(q:Int)(pa pe:Nat)(h:ASys W F G b g av cv a net tr)(hk:aED a.dk)(hq:0≤q)(hn:net.length≤100000000000)(ht:tr.length≤100000000000)
 (ha:W.heap[pa]?=some (.cells #[.pointer (some ⟨b,0,none⟩)] 114 (0,0))) (he:W.heap[pe]?=some (.cells #[.int .i64 0] 48 (0,0))) (hpF:¬F pe) (hpG:¬G pe):
 CallsD prog 127 #[.pointer (some ⟨pa,0,none⟩),.pointer (some ⟨pe,0,none⟩)] (.panicking (oM q)) W fun e u' w'=>e= .returned (.tuple #[])∧u'= .panicking [{v:=.iface 199 (.agg #[.int .i64 q]),recovered:=true}]∧
  ∃W1,AfterA W F G b g av cv (crashA a q) net (tr++[gJ a.num]) W1∧W1.heap[pe]?=W.heap[pe]?∧w'=W1.setCell ⟨pe,0,none⟩ (.int .i64 6):=by
 have hta:=zC q;have hc1:Chg NoS W (W.alloc (.cells #[.int .i64 q] 199)):=(Chg.refl _ _).alloc _;have hb1:=aA W (.cells #[.int .i64 q] 199);have a1:=cR (.cells #[.int .i64 q] 199) ha;have e1:=cR (.cells #[.int .i64 q] 199) he;have hpe:=cX he;have h1:=h.kept hc1 (fun _ _ h=>h) (fun _ _ h=>h);have hs1:(W.alloc (.cells #[.int .i64 q] 199)).heap.size=W.heap.size+1:=by simp
 generalize hX1:W.alloc (.cells #[.int .i64 q] 199)=W1 at*;have HX1:=cA hX1;have k0:W1.cell? ⟨pa,0,none⟩=some (.pointer (some ⟨b,0,none⟩)):=cB a1 0 _ rfl;have k1:W1.cell? ⟨W.heap.size,0,none⟩=some (.int .i64 q):=cB hb1 0 _ rfl;have HCR:=cA (rS W1 F G b g av cv a net tr q h1 hk hq hn ht);have HC1:=cA hc1;have HS1:=cA hs1;have HE1:=cA e1;have HE:=cA he;have HH:=cA h;have HPE:=cA hpe;clear hX1 hc1 hb1 a1 e1 h1 hs1 ha he h hk hn ht hpe;refine callsD_of_wpS func127 rfl fun c₀ cs hu=>?_;apply wpS_seq;apply wpS_region;simp[wpOpsS,go_sem,recoverD,hu,ntmps127,Exit.thenS];refine wpS_of_wp ?_;try rw[aDG]
 go_wp2_with (first|rw[HX1.out]|(go_at_call 128;refine HCR.out.mono ?_;rintro e w2 ⟨rfl,haf⟩;have HAF:=cA haf;clear haf;refine cD ?_));refine cA ?_;have hpe2:w2.heap[pe]?=W1.heap[pe]?:=by
  obtain⟨F',G',_,hw⟩:=HAF.out;exact hw.chg.block pe (by have:=HS1.out;have:=HPE.out;omega) (fun h=>h.elim hpF hpG)
 have e2:=hpe2.trans HE1.out;have f2:=cY e2 0;have g2:=cB e2 0 _ rfl;have HE2:=cA (hpe2.trans (HE1.out.trans HE.out.symm));clear hpe2 e2;go_wp2;cases c₀;simp_all [bodyPostS,results,results127];exact⟨w2,AfterA.trans ⟨HC1.out.mono (fun _ _ h=>h.elim),fun _ h=>Or.inl h,fun _ h=>Or.inl h⟩ HAF.out,HE2.out,rfl⟩
end
abbrev lN(b:Nat):Value:=.pointer (some ⟨b,0,none⟩)
abbrev rC(f:Nat→Nat)(n:Nat):List Value:=(List.range n).map fun i=>lN (f i)
structure MoAt(W:World)(own:Nat→Nat)(g:Nat)(x:Mo)(av cv:Value)(bA bC:Nat→Nat):Prop where
 nt:NtAt W (fun k=>own k=1) g av cv x.net x.tr
 rav:W.ownsRow 0 114 1 av x.acs.length (rC bA x.acs.length)
 rcv:W.ownsRow 0 96 1 cv x.cls.length (rC bC x.cls.length)
 avb:∀k,av.ownBlock=some k→own k=2
 cvb:∀k,cv.ownBlock=some k→own k=2
 acc:∀i (h:i<x.acs.length),Acc W (fun k=>own k=3+2*i) (bA i) g x.acs[i]
 cls:∀i (h:i<x.cls.length),∃ch tk hd wt dv,ClAt W (fun k=>own k=4+2*i) (bC i) g x.cf x.cls[i] ch tk hd wt dv
 lt:∀k,own k≠0→k<W.heap.size
def Moor(W:World)(own:Nat→Nat)(g:Nat)(x:Mo):Prop:=∃av cv bA bC,MoAt W own g x av cv bA bC
def MoTo(W:World)(own:Nat→Nat)(g:Nat)(x:Mo)(W':World):Prop:=∃own',Moor W' own' g x∧Chg (fun k=>own k≠0) W W'∧∀k,own' k≠0→own k≠0∨W.heap.size≤k
theorem NtAt.grow{W:World}{G G':Nat→Prop}{g:Nat}{av cv:Value}{net:List Mg}{tr:List Ev}(h:NtAt W G g av cv net tr)(hg:∀k,G k→G' k)(hlt:∀k,G' k→k<W.heap.size):NtAt W G' g av cv net tr:=by
 obtain⟨a,b,f,d,j,e,i,c,l⟩:=h;exact⟨a,b,f,hg _ d,j,e,fun k hk=>hg _ (i k hk),fun k hk=>hg _ (c k hk),hlt⟩
theorem Acc.grow{W:World}{F F':Nat→Prop}{b g:Nat}{a:Ac}(h:Acc W F b g a)(hf:∀k,F k→F' k)(hlt:∀k,F' k→k<W.heap.size):Acc W F' b g a:=by
 obtain⟨i,d,c,f,e,j⟩:=h;exact⟨i,d,c,f,fun x hx=>hf _ (e x hx),hlt⟩
section
variable {W W':World}{own:Nat→Nat}{g:Nat}{x:Mo}{av cv:Value}{bA bC:Nat→Nat}
theorem MoAt.of_heap(h:MoAt W own g x av cv bA bC)(hs:W.heap.size≤W'.heap.size)(hb:∀k,own k≠0→W'.heap[k]?=W.heap[k]?):MoAt W' own g x av cv bA bC:=by
 refine⟨h.nt.of_heap hs (fun k hk=>hb k (by simp only[hk];decide)),fU h.rav (fun k hk=>hb k (by rw[h.avb k hk];decide)),fU h.rcv (fun k hk=>hb k (by rw[h.cvb k hk];decide)),h.avb,h.cvb,fun i hi=>?_,fun i hi=>?_,fun k hk=>aG (h.lt k hk) hs⟩
 ·obtain⟨n,d,c,a,b,m⟩:=h.acc i hi;exact⟨n,d,c,a.of_heap hs (fun k hk=>hb k (by have:=b k hk;omega)),b,fun k hk=>aG (m k hk) hs⟩
 ·obtain⟨j,f,e,wt,l,a⟩:=h.cls i hi;exact⟨j,f,e,wt,l,a.of_heap hs (fun k hk=>hb k (by omega))⟩
theorem Moor.of_heap(h:Moor W own g x)(hs:W.heap.size≤W'.heap.size)(hb:∀k,own k≠0→W'.heap[k]?=W.heap[k]?):Moor W' own g x:=by
 obtain⟨d,b,c,a,h⟩:=h;exact⟨d,b,c,a,h.of_heap hs hb⟩
theorem Moor.lt(h:Moor W own g x):∀k,own k≠0→k<W.heap.size:=by
 obtain⟨d,b,c,a,h⟩:=h;exact h.lt
theorem Moor.kept{S:Nat→Prop}(h:Moor W own g x)(hc:Chg S W W')(hn:∀k,own k≠0→¬S k):Moor W' own g x:=
 h.of_heap hc.size fun k hk=>hc.block k (h.lt k hk) (hn k hk)
theorem MoAt.kept{S:Nat→Prop}(h:MoAt W own g x av cv bA bC)(hc:Chg S W W')(hn:∀k,own k≠0→¬S k):MoAt W' own g x av cv bA bC:=
 h.of_heap hc.size fun k hk=>hc.block k (h.lt k hk) (hn k hk)
theorem MoAt.drew(h:MoAt W own g x av cv bA bC):MoAt W.drew own g x av cv bA bC:=h.kept (S:=NoS) (Chg.refl _ _).drew (fun _ _ h=>h)
theorem MoTo.of(h:Moor W own g x):MoTo W own g x W:=⟨own,h,Chg.refl _ _,fun _ h=>Or.inl h⟩
theorem MoTo.kept{S:Nat→Prop}(h:Moor W own g x)(hc:Chg S W W')(hn:∀k,own k≠0→¬S k)(hS:∀k,k<W.heap.size→¬S k):MoTo W own g x W':=⟨own,h.kept hc hn,hc.mono (fun k hk hs=>(hS k hk hs).elim),fun _ h=>Or.inl h⟩
theorem MoTo.trans{A B C:World}{own1:Nat→Nat}{x:Mo}(hc:Chg (fun k=>own k≠0) A B)(hf:∀k,own1 k≠0→own k≠0∨A.heap.size≤k)(h:MoTo B own1 g x C):MoTo A own g x C:=by
 obtain⟨a,c,b,d⟩:=h;refine⟨a,c,hc.trans b (fun k hk h'=>?_),fun k hk=>?_⟩
 ·rcases hf k h' with h|h
  ·exact h
  ·omega
 ·rcases d k hk with h|h
  ·exact hf k h
  ·right;have:=hc.size;omega
theorem MoTo.drew(h:MoTo W.drew own g x W'):MoTo W own g x W':=by
 obtain⟨b,c,a,d⟩:=h;exact⟨b,c,⟨a.os,a.tape,a.output,a.size,a.block⟩,d⟩
theorem MoAt.sys(h:MoAt W own g x av cv bA bC)(i:Nat)(hi:i<x.cls.length):Sys W (fun k=>own k=4+2*i) (fun k=>own k=1) (bC i) g x.cf av cv x.cls[i] x.net x.tr:=
 ⟨h.cls i hi,h.nt,fun k hk hk'=>by omega⟩
theorem MoAt.asys(h:MoAt W own g x av cv bA bC)(i:Nat)(hi:i<x.acs.length):ASys W (fun k=>own k=3+2*i) (fun k=>own k=1) (bA i) g av cv x.acs[i] x.net x.tr:=
 ⟨h.acc i hi,h.nt,fun k hk hk'=>by omega⟩
def iV(W:World)(own:Nat→Nat)(F G:Nat→Prop) [DecidablePred F] [DecidablePred G] (p:Nat):Nat→Nat:=fun k=>if k<W.heap.size then own k else if F k then p else if G k then 1 else 0
theorem qL{F G:Nat→Prop} [DecidablePred F] [DecidablePred G] {p k:Nat}(hk:k<W.heap.size):iV W own F G p k=own k:=by unfold iV;rw[if_pos hk]
theorem aD2{F G:Nat→Prop} [DecidablePred F] [DecidablePred G] {p k:Nat}(hk:W.heap.size≤k):iV W own F G p k=p∨iV W own F G p k=1∨iV W own F G p k=0:=by
 unfold iV;rw[if_neg (by omega)];split
 ·exact Or.inl rfl
 ·split
  ·exact Or.inr (Or.inl rfl)
  ·exact Or.inr (Or.inr rfl)
theorem aDo{F F0 G:Nat→Prop} [DecidablePred F] [DecidablePred G] {p k:Nat}(hF0:∀k,F0 k→own k=p)(hf:∀k,F k→F0 k∨W.heap.size≤k)(hk:F k):iV W own F G p k=p:=by
 unfold iV;split
 ·rcases hf k hk with h|h
  ·exact hF0 k h
  ·omega
 ·rfl
theorem aAM{F G G0:Nat→Prop} [DecidablePred F] [DecidablePred G] {p k:Nat}(hap:∀k,F k→¬G k)(hG0:∀k,G0 k→own k=1)(hg:∀k,G k→G0 k∨W.heap.size≤k)(hk:G k):iV W own F G p k=1:=by
 unfold iV;split
 ·rcases hg k hk with h|h
  ·exact hG0 k h
  ·omega
 ·rw[if_neg (fun h=>hap k h hk)]
theorem yK{F G:Nat→Prop} [DecidablePred F] [DecidablePred G] {p:Nat}(hlt:∀k,own k≠0→k<W.heap.size)(hs:W.heap.size≤W'.heap.size)(hF:∀k,F k→k<W'.heap.size)(hG:∀k,G k→k<W'.heap.size):∀k,iV W own F G p k≠0→k<W'.heap.size:=fun k hk=>by
 unfold iV at hk;split at hk
 ·have:=hlt k hk;omega
 ·split at hk
  ·rename_i h;exact hF k h
  ·split at hk
   ·rename_i h;exact hG k h
   ·exact absurd rfl hk
theorem gE{F G:Nat→Prop} [DecidablePred F] [DecidablePred G] {p q:Nat}(hq0:q≠0)(hq1:q≠1)(hqp:q≠p)(hlt:∀k,own k≠0→k<W.heap.size)(k:Nat):iV W own F G p k=q↔own k=q:=by
 by_cases a:k<W.heap.size
 ·rw[qL a]
 ·constructor
  ·intro h;rcases aD2 (own:=own) (F:=F) (G:=G) (p:=p) (Nat.le_of_not_lt a)with b|b|b<;>omega
  ·intro h;exact absurd (hlt k (by omega)) a
theorem MoAt.clientTo(h:MoAt W own g x av cv bA bC)(i:Nat)(hi:i<x.cls.length){c':Ct}{net':List Mg}{tr':List Ev}(ha:After W (fun k=>own k=4+2*i) (fun k=>own k=1) (bC i) g x.cf av cv c' net' tr' W'):
 MoTo W own g {x with cls:=x.cls.set i c',net:=net',tr:=tr'} W':=by
 classical
 obtain⟨F',G',hs,hw⟩:=ha;have hsz:=hw.chg.size;have hF:=hs.ltF;have hG:=hs.nt.lt;have hF':∀k,F' k→iV W own F' G' (4+2*i) k=4+2*i:=fun k hk=>aDo (F0:=fun k=>own k=4+2*i) (fun _ h=>h) hw.f hk;have hG':∀k,G' k→iV W own F' G' (4+2*i) k=1:=fun k hk=>aAM (G0:=fun k=>own k=1) hs.apart (fun _ h=>h) hw.g hk;have hlt:=yK (own:=own) (p:=4+2*i) h.lt hsz hF hG;have hblk:∀k,own k≠0→own k≠1→own k≠4+2*i→W'.heap[k]?=W.heap[k]?:=fun k h0 h1 h2=>hw.chg.block k (h.lt k h0) (fun hs=>by omega);refine⟨iV W own F' G' (4+2*i),⟨av,cv,bA,bC,?_⟩,hw.chg.mono (fun k _ hk=>by omega),fun k hk=>?_⟩
 ·refine⟨hs.nt.grow hG' (fun k hk=>hlt k (by omega)),fU h.rav (fun k hk=>hblk k (by rw[h.avb k hk];decide) (by rw[h.avb k hk];decide) (by rw[h.avb k hk];omega)),?_,?_,?_,?_,?_,hlt⟩
  ·have:=fU (w':=W') h.rcv (fun k hk=>hblk k (by rw[h.cvb k hk];decide) (by rw[h.cvb k hk];decide) (by rw[h.cvb k hk];omega));simpa using this
  ·exact fun k hk=>(gE (by decide) (by decide) (by omega) h.lt k).2 (h.avb k hk)
  ·exact fun k hk=>(gE (by decide) (by decide) (by omega) h.lt k).2 (h.cvb k hk)
  ·intro j hj;have e:(fun k=>iV W own F' G' (4+2*i) k=3+2*j)=(fun k=>own k=3+2*j):=funext fun k=>propext (gE (by omega) (by omega) (by omega) h.lt k);rw[e];exact(h.acc j hj).kept hw.chg (fun k hk hs=>by omega)
  ·intro j hj;have hj':j<x.cls.length:=by simpa using hj
   by_cases hji:j=i
   ·subst hji;obtain⟨ch,tk,hd,wt,dv,hc⟩:=hs.cl;refine⟨ch,tk,hd,wt,dv,?_⟩;simp only[bO];exact hc.grow hF' (fun k hk=>hlt k (by omega))
   ·have e:(fun k=>iV W own F' G' (4+2*i) k=4+2*j)=(fun k=>own k=4+2*j):=funext fun k=>propext (gE (by omega) (by omega) (by omega) h.lt k);obtain⟨ch,tk,hd,wt,dv,hc⟩:=h.cls j hj';refine⟨ch,tk,hd,wt,dv,?_⟩;simp only[List.getElem_set_ne (Ne.symm hji)];rw[e];exact hc.kept hw.chg (fun k hk hs=>by omega)
 ·by_cases hk':k<W.heap.size
  ·rw[qL hk']at hk;exact Or.inl hk
  ·exact Or.inr (by omega)
theorem MoAt.acceptorTo(h:MoAt W own g x av cv bA bC)(i:Nat)(hi:i<x.acs.length){a':Ac}{net':List Mg}{tr':List Ev}(ha:AfterA W (fun k=>own k=3+2*i) (fun k=>own k=1) (bA i) g av cv a' net' tr' W'):
 MoTo W own g {x with acs:=x.acs.set i a',net:=net',tr:=tr'} W':=by
 classical
 obtain⟨F',G',hs,hw⟩:=ha;have hsz:=hw.chg.size;have hF:=hs.acc.lt;have hG:=hs.nt.lt;have hF':∀k,F' k→iV W own F' G' (3+2*i) k=3+2*i:=fun k hk=>aDo (F0:=fun k=>own k=3+2*i) (fun _ h=>h) hw.f hk;have hG':∀k,G' k→iV W own F' G' (3+2*i) k=1:=fun k hk=>aAM (G0:=fun k=>own k=1) hs.apart (fun _ h=>h) hw.g hk;have hlt:=yK (own:=own) (p:=3+2*i) h.lt hsz hF hG;have hblk:∀k,own k≠0→own k≠1→own k≠3+2*i→W'.heap[k]?=W.heap[k]?:=fun k h0 h1 h2=>hw.chg.block k (h.lt k h0) (fun hs=>by omega);refine⟨iV W own F' G' (3+2*i),⟨av,cv,bA,bC,?_⟩,hw.chg.mono (fun k _ hk=>by omega),fun k hk=>?_⟩
 ·refine⟨hs.nt.grow hG' (fun k hk=>hlt k (by omega)),?_,fU h.rcv (fun k hk=>hblk k (by rw[h.cvb k hk];decide) (by rw[h.cvb k hk];decide) (by rw[h.cvb k hk];omega)),?_,?_,?_,?_,hlt⟩
  ·have:=fU (w':=W') h.rav (fun k hk=>hblk k (by rw[h.avb k hk];decide) (by rw[h.avb k hk];decide) (by rw[h.avb k hk];omega));simpa using this
  ·exact fun k hk=>(gE (by decide) (by decide) (by omega) h.lt k).2 (h.avb k hk)
  ·exact fun k hk=>(gE (by decide) (by decide) (by omega) h.lt k).2 (h.cvb k hk)
  ·intro j hj;have hj':j<x.acs.length:=by simpa using hj
   by_cases hji:j=i
   ·subst hji;simp only[bO];exact hs.acc.grow hF' (fun k hk=>hlt k (by omega))
   ·have e:(fun k=>iV W own F' G' (3+2*i) k=3+2*j)=(fun k=>own k=3+2*j):=funext fun k=>propext (gE (by omega) (by omega) (by omega) h.lt k);simp only[List.getElem_set_ne (Ne.symm hji)];rw[e];exact(h.acc j hj').kept hw.chg (fun k hk hs=>by omega)
  ·intro j hj;have e:(fun k=>iV W own F' G' (3+2*i) k=4+2*j)=(fun k=>own k=4+2*j):=funext fun k=>propext (gE (by omega) (by omega) (by omega) h.lt k);obtain⟨ch,tk,hd,wt,dv,hc⟩:=h.cls j hj;refine⟨ch,tk,hd,wt,dv,?_⟩;rw[e];exact hc.kept hw.chg (fun k hk hs=>by omega)
 ·by_cases hk':k<W.heap.size
  ·rw[qL hk']at hk;exact Or.inl hk
  ·exact Or.inr (by omega)
theorem MoAt.netTo(h:MoAt W own g x av cv bA bC){G':Nat→Prop}{net':List Mg}{tr':List Ev}(hn:NtAt W' G' g av cv net' tr')(hc:Chg (fun k=>own k=1) W W')(hg:∀k,G' k→own k=1∨W.heap.size≤k):
 MoTo W own g {x with net:=net',tr:=tr'} W':=by
 classical
 have hsz:=hc.size;have hG':∀k,G' k→iV W own (fun _=>False) G' 1 k=1:=fun k hk=>aAM (G0:=fun k=>own k=1) (fun _ h=>h.elim) (fun _ h=>h) hg hk;have hlt:=yK (own:=own) (F:=fun _=>False) (p:=1) h.lt hsz (fun _ h=>h.elim) hn.lt;have hblk:∀k,own k≠0→own k≠1→W'.heap[k]?=W.heap[k]?:=fun k h0 h1=>hc.block k (h.lt k h0) (fun hs=>by omega);refine⟨iV W own (fun _=>False) G' 1,⟨av,cv,bA,bC,?_⟩,hc.mono (fun k _ hk=>by omega),fun k hk=>?_⟩
 ·refine⟨hn.grow hG' (fun k hk=>hlt k (by omega)),fU h.rav (fun k hk=>hblk k (by rw[h.avb k hk];decide) (by rw[h.avb k hk];decide)),fU h.rcv (fun k hk=>hblk k (by rw[h.cvb k hk];decide) (by rw[h.cvb k hk];decide)),?_,?_,?_,?_,hlt⟩
  ·exact fun k hk=>(gE (by decide) (by decide) (by decide) h.lt k).2 (h.avb k hk)
  ·exact fun k hk=>(gE (by decide) (by decide) (by decide) h.lt k).2 (h.cvb k hk)
  ·intro j hj;have e:(fun k=>iV W own (fun _=>False) G' 1 k=3+2*j)=(fun k=>own k=3+2*j):=funext fun k=>propext (gE (by omega) (by omega) (by omega) h.lt k);rw[e];exact(h.acc j hj).kept hc (fun k hk hs=>by omega)
  ·intro j hj;have e:(fun k=>iV W own (fun _=>False) G' 1 k=4+2*j)=(fun k=>own k=4+2*j):=funext fun k=>propext (gE (by omega) (by omega) (by omega) h.lt k);obtain⟨ch,tk,hd,wt,dv,hcl⟩:=h.cls j hj;refine⟨ch,tk,hd,wt,dv,?_⟩;rw[e];exact hcl.kept hc (fun k hk hs=>by omega)
 ·by_cases hk':k<W.heap.size
  ·rw[qL hk']at hk;exact Or.inl hk
  ·exact Or.inr (by omega)
end
end Go.Proofs.YtbbdgokdfhdpiaaGreatDoor
