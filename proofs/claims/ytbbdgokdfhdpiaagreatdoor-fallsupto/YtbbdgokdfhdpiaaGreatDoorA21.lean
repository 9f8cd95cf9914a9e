/- A part. -/
import Derived.Test.YtbbdgokdfhdpiaaGreatDoorA13
import Derived.Test.YtbbdgokdfhdpiaaGreatDoorA16
namespace Go.Proofs.YtbbdgokdfhdpiaaGreatDoor
set_option linter.all false
set_option maxRecDepth 100000
set_option maxHeartbeats 0
open Go.Proofs.Tryz Go.RowKit
theorem aHZ(l:List Mg)(k:Nat)(hk:k<l.length):jP (l.take (k+1))=pU (jP (l.take k)) l[k]:=by
 rw[List.take_succ_eq_append_getElem hk,aA6]
structure lG(v:Vl):Prop where
 t0:0≤v.ttl
 t1:v.ttl≤1000
 s0:0≤v.seq
 s1:v.seq≤2147483647
theorem aKe(l:List Mg)(h:∀m ∈ l,lG m.val):lG (jP l).2:=by
 have b:∀(l:List Mg) (p:Int×Vl),lG p.2→(∀m ∈ l,lG m.val)→lG (l.foldl pU p).2:=by
  intro l;induction l with
  |nil=>intro p a _;exact a
  |cons m l ih=>
   intro p a c;refine ih _ ?_ (fun m' h'=>c m' (cF _ h'));unfold pU;split
   ·exact c m (cE ..)
   ·exact a
 exact b l _ ⟨by decide,by decide,by decide,by decide⟩ h
structure DcSt(W0 W:World)(own:Nat→Nat)(y:Nat)(x:Rm)(V:RmV)(v:Vl):Prop where
 rm:RmAt W own y x V
 bv:W.heap[W0.heap.size]?=some (.cells (vlL v).toArray 56 (0,0))
 be:Below W0.heap.size W0 W
 o:own W0.heap.size=0
theorem DcSt.put{W0 W W':World}{own:Nat→Nat}{y:Nat}{x:Rm}{V:RmV}{v v':Vl}(h:DcSt W0 W own y x V v)(hc:Chg (fun k=>k=W0.heap.size) W W')(hb:W'.heap[W0.heap.size]?=some (.cells (vlL v').toArray 56 (0,0))):DcSt W0 W' own y x V v':=
 ⟨h.rm.kept hc (fun k hk e=>by subst e;exact hk h.o),hb,h.be.trans (hc.below (fun k hk=>by omega) h.be.size),h.o⟩
theorem nV{W:World}{v:Value}{l:List Mg}(h:W.ownsRow 0 66 10 v l.length (cZ mgL l)):∃p cap,v= .slice p l.length cap∧∀(k:Nat) (hk:k<l.length),∃g,p=some ⟨g,0,none⟩∧g<W.heap.size∧∀j u,(mgL l[k])[j]?=some u→W.cell? ⟨g,k*10+j,none⟩=some u:=by
 have b:=h.lt;have c:=h;rcases h.2 with⟨rfl,d⟩|⟨g,cap,e,rfl,_⟩
 ·exact⟨none,0,by rw[d],fun k hk=>by omega⟩
 ·refine⟨some ⟨g,0,none⟩,cap,rfl,fun k hk=>⟨g,rfl,(b g rfl).2,fun j u hj=>?_⟩⟩;have a:j<10:=by
   have:=(aF.1 hj).1;simpa using this
  rw[c.cellAt (k*10+j) (by omega),lX mgL (fun _=>rfl) l k hk j a];exact hj
theorem aCd:(prog.info? 3).map (fun i=>(i.zero,i.size,i.bytes))=some (some (.int .i64 0),1,8):=by kernel_rfl
theorem aC2(W:World)(own:Nat→Nat)(y:Nat)(x:Rm)(V:RmV)(i:Nat)(c:Rc)(N:Int)(h:RmAt W own y x V)(hi:i<x.cls.length)(hc:x.cls[i]=c)(ha:RcA N c)(hbs:RcB x.cf N c)(hN:N≤90000000000)(hx5:x.acs.length≤5)(hn:x.net.length≤99999999990)(ht:x.tr.length≤99999999990)(hv:∀m ∈ c.heard,lG m.val)(hd0:0≤x.cf.drift)(hd1:x.cf.drift≤10):
 Calls prog 181 #[.pointer (some ⟨y,0,none⟩),.pointer (some ⟨V.bC i,0,none⟩)] W fun r W'=>r= .returned (.tuple #[])∧RmTo W own y V (dP x i (kU x.cf c) (lB x.cf x.acs.length c)) W':=by
 obtain⟨ir,q3,q5,q0,o2⟩:=info_parts aCd;have a9:=aKe c.heard hv;obtain⟨B,hB⟩:=aLz (V.bC i);rw[←hB];have r2:=hbs.heard;obtain⟨w,hw⟩:=aLA (iV x.cf c (jP c.heard).2);obtain⟨⟨d,P,Q,O⟩,ok⟩:=w;have a6:=cN (fun Z (hZ:RmAt Z own y x V)=>aDv Z own y x V i c N (jP c.heard).2 hZ hi hc ha hbs hN a9.t0 a9.t1 a9.s0 a9.s1 hd0 hd1);rw[hw,←hB]at a6;dsimp only at a6;have f8:kU x.cf c=if ok=false then fP c 5 0 else jK c ⟨d,P,Q,O⟩:=by unfold kU;rw[hw]
 have g7:lB x.cf x.acs.length c=if ok=false then jX c 5 0 0 else gV (jK c ⟨d,P,Q,O⟩) 3 (jP c.heard).1 d x.acs.length:=by unfold lB;rw[hw]
 obtain⟨dS,j3⟩:=aLA (kU x.cf c);obtain⟨dE,m2⟩:=aLA (lB x.cf x.acs.length c);rw[j3]at f8⊢;rw[m2]at g7⊢;have m7:=cN f8;have g9:=cN g7;have HC:=cN (aLo hc hB);have j9:=cN (fun Z (hZ:RmAt Z own y x V)=>vI Z own y x V i c x.cf N hZ hi hc ha hbs hN 5 0 0 (by omega));rw[←hB]at j9;have k4:=aA W (.cells #[.int .i64 0,.int .i64 0,.int .i64 0,.int .i64 0] 56);have l3:DcSt W (W.alloc (.cells #[.int .i64 0,.int .i64 0,.int .i64 0,.int .i64 0] 56)) own y x V zVl:=⟨h.alloc _,k4,(aJ _ W).alloc (aE _) _,vB h (aE _)⟩;generalize m0:W.alloc (.cells #[.int .i64 0,.int .i64 0,.int .i64 0,.int .i64 0] 56)=W0 at*;have l1:=cN m0;have f4:=cN l3;clear m0 k4 l3 hw f8 g7 j3 m2 hc hB h a9 hv;go_enter func181,ntmps181;go_wp2_with (first|rw[l1.out]|(refine cV rfl 56 _ _ rfl (W.heap.size) 0 56 _ _ (vlL zVl) rfl rfl f4.out.bv (by kernel_rfl) (by simp[Value.oneCell']) (by simp) rfl ?_;intro W1 k2 p7 m4;refine cQ ?_));have k8:=cN (f4.out.put k2 m4);clear k2 p7 m4;refine cN ?_;go_wp2_with fail;go_loopw [4,6] (fun bb i' wr=>∃(k:Nat),k≤c.heard.length∧i'= .int .i64 k∧bb= .int .i64 (jP (c.heard.take k)).1∧DcSt W wr own y x V (jP (c.heard.take k)).2) (fun _ i' _=>c.heard.length-(intOf i').toNat)
 case atStart=>exact⟨0,aI _,rfl,rfl,k8.out⟩
 case round=>
  clear k8 f4 l1;obtain⟨k,hk,rfl,rfl,E⟩:=hrel;have d2:=cN E;have s:=E.rm.cls i hi;rw[HC.out.1]at s;obtain⟨ph,n8,i4,i3⟩:=nV s.heard;have q6:wr.cell? ⟨B,46,none⟩=some (.slice ph c.heard.length n8):=by rw[HC.out.2,←i4];exact s.cell 46 _ rfl
  by_cases c4:k<c.heard.length
  ·obtain⟨g,rfl,r1,g0⟩:=i3 k c4;have j0:=aHZ c.heard k c4;have r4:(k:Int)<(c.heard.length:Int):=by omega
   generalize c.heard[k]=m at*;obtain⟨p1,p2⟩:∃a b,a=(jP (c.heard.take k)).1∧b=(jP (c.heard.take k)).2:=⟨_,_,rfl,rfl⟩;obtain⟨vb,h5,l2⟩:=p2;have c5:wr.cell? ⟨g,k*10+5,none⟩=some (.int .i64 m.base):=g0 5 _ rfl;have d4:Hid (∀j u,(vlL m.val)[j]?=some u→wr.cell? ((⟨g,k*10+6,none⟩:Addr).add j)=some u):=fun j u hj=>by
    have r5:j<4:=(aF.1 hj).1;have e:(⟨g,k*10+6,none⟩:Addr).add j=⟨g,k*10+(6+j),none⟩:=by unfold Addr.add;split<;>simp_all [Nat.add_assoc]
    rw[e];refine g0 (6+j) u ?_;rcases j with _|_|_|_|j<;>first|exact hj|omega
   have m1:=cN j0;rw[←h5];have HP:=cN (aLo h5 l2);clear i3 g0 s i4 j0 h5 l2 E;by_cases b3:p1<m.base
   ·have hb:decide (p1<m.base)=true:=by simp[b3]
    have b2:Hid (jP (c.heard.take (k+1))=(m.base,m.val)):=by
     show _=_;rw[m1.out];unfold pU;rw[←HP.out.1,if_pos b3]
    clear b3;go_wp2_with (first|(refine cW rfl 56 _ rfl ⟨g,k*10+6,none⟩ rfl (vlL m.val) _ d4.out underlying56 rfl (by kernel_rfl) ?_)|(refine cV rfl 56 _ _ rfl (W.heap.size) 0 56 _ _ (vlL m.val) rfl rfl d2.out.bv (by kernel_rfl) (by simp[Value.oneCell']) (by simp) rfl ?_;intro W2 k7 o1 j1;refine cQ ?_));have n9:=cN (d2.out.put k7 j1);clear k7 o1 j1;refine cN ?_;go_wp2_with fail;go_roundw
    case rel=>exact⟨k+1,by omega,by go_num,by rw[b2.out],by rw[b2.out];exact n9.out⟩
    case measure=>simp[intOf];omega
   ·have hb:decide (p1<m.base)=false:=by simp;omega
    have b2:Hid (jP (c.heard.take (k+1))=jP (c.heard.take k)):=by
     show _=_;rw[m1.out];unfold pU;rw[←HP.out.1,if_neg b3]
    clear b3;go_wp2_with fail;go_roundw
    case rel=>exact⟨k+1,by omega,by go_num,by rw[b2.out,←HP.out.1],by rw[b2.out];exact d2.out⟩
    case measure=>simp[intOf];omega
  ·have f2:k=c.heard.length:=by omega
   subst f2;rw[bR]at E⊢;obtain⟨bs,d9⟩:=aLA ((jP c.heard).1);obtain⟨v,j6⟩:=aLA ((jP c.heard).2);rw[j6]at E a6;rw[d9]at g9⊢;have HD:=cN E;have d4:=cN (show∀j u,(vlL v)[j]?=some u→wr.cell? ((⟨W.heap.size,0,none⟩:Addr).add j)=some u from cR E.bv);have m9:=cN (a6.out wr E.rm);clear E s i4 i3 j6 d9 d2 a6;go_wp2_with (first|(refine cW rfl 56 _ rfl ⟨W.heap.size,0,none⟩ rfl (vlL v) _ d4.out underlying56 rfl (by kernel_rfl) ?_)|(go_at_call 215;refine m9.out.mono ?_;rintro e K ⟨rfl,g6⟩;refine cQ ?_));have h3:=HD.out.rm.kept (Chg.of_below (S:=NoS) g6) (fun _ _ h=>h);have j7:Below W.heap.size W K:=HD.out.be.trans (g6.mono HD.out.be.size);have H3:=cN (aLo h3 j7);clear q6 d4 g6 h3 j7 m9;refine cN ?_;have f0:=dM (.cells #[.int .i64 0,.int .i64 0,.int .i64 0,.int .i64 0,.int .i64 0,.int .i64 0,.int .i64 0,.int .i64 0,.int .i64 0,.int .i64 0,.int .i64 0,.int .i64 0,.int .i64 0,.int .i64 0,.int .i64 0,.int .i64 0,.int .i64 0,.int .i64 0,.int .i64 0] 70) (aA K (.cells #[.int .i64 0,.int .i64 0,.int .i64 0,.int .i64 0] 56));have b7:=aA (K.alloc (.cells #[.int .i64 0,.int .i64 0,.int .i64 0,.int .i64 0] 56)) (.cells #[.int .i64 0,.int .i64 0,.int .i64 0,.int .i64 0,.int .i64 0,.int .i64 0,.int .i64 0,.int .i64 0,.int .i64 0,.int .i64 0,.int .i64 0,.int .i64 0,.int .i64 0,.int .i64 0,.int .i64 0,.int .i64 0,.int .i64 0,.int .i64 0,.int .i64 0] 70)
   have i7:Chg NoS K ((K.alloc (.cells #[.int .i64 0,.int .i64 0,.int .i64 0,.int .i64 0] 56)).alloc (.cells #[.int .i64 0,.int .i64 0,.int .i64 0,.int .i64 0,.int .i64 0,.int .i64 0,.int .i64 0,.int .i64 0,.int .i64 0,.int .i64 0,.int .i64 0,.int .i64 0,.int .i64 0,.int .i64 0,.int .i64 0,.int .i64 0,.int .i64 0,.int .i64 0,.int .i64 0] 70)):=((Chg.refl _ _).alloc _).alloc _;generalize k5:(K.alloc (.cells #[.int .i64 0,.int .i64 0,.int .i64 0,.int .i64 0] 56)).alloc (.cells #[.int .i64 0,.int .i64 0,.int .i64 0,.int .i64 0,.int .i64 0,.int .i64 0,.int .i64 0,.int .i64 0,.int .i64 0,.int .i64 0,.int .i64 0,.int .i64 0,.int .i64 0,.int .i64 0,.int .i64 0,.int .i64 0,.int .i64 0,.int .i64 0,.int .i64 0] 70)=W4 at*;have l8:=cN k5;simp only[bK]at b7;have h4:=cN (aLo f0 b7);have j5:=cN i7;clear k5 f0 b7 i7;go_wp2_with (first|rw[l8.out]|(refine cV rfl 56 _ _ rfl (K.heap.size) 0 56 _ _ (vlL d) rfl rfl h4.out.1 (by kernel_rfl) (by simp[Value.oneCell']) (by simp) rfl ?_;intro W5 i0 o9 l6;refine cQ ?_));have d7:=i0.kept h4.out.2 (by omega);have e8:Chg (fun q=>q=K.heap.size) K W5:=j5.out.nos.trans i0 (fun _ _ h=>h);have H5:=cN (aLp l6 d7 e8);clear i0 o9 l6 d7 e8;refine cN ?_;go_wp2_with (first|(refine cV rfl 70 _ _ rfl (K.heap.size+1) 0 70 _ _ (evL (fEv P Q O)) rfl rfl H5.out.2.1 (by kernel_rfl) (by simp[Value.oneCell']) (by simp) rfl ?_;intro p g5 o0 f7;refine cQ ?_))
   have b5:Chg (fun q=>q=K.heap.size∨q=K.heap.size+1) K p:=(H5.out.2.2.mono (fun _ _ h=>Or.inl h)).trans g5 (fun _ _ h=>Or.inr h);have b6:=g5.kept H5.out.1 (by omega);have h6:=H3.out.1.kept b5 (fun q hq e=>by have:=H3.out.1.lt q hq;omega);have o7:own K.heap.size=0:=vB H3.out.1 (aE _);have o8:own (K.heap.size+1)=0:=vB H3.out.1 (by omega);have l4:Below W.heap.size W p:=H3.out.2.trans (b5.below (fun q hq=>by have:=H3.out.2.size;omega) H3.out.2.size);obtain⟨n3,g1⟩:=aLA (K.heap.size);simp only[g1];rw[g1]at b6 o7 o8 f7;have o:=cN (aLs h6 b6 f7 o7 o8 l4);clear g5 o0 f7 b5 b6 h6 o7 o8 l4 H5 h4 j5 l8 H3 HD g1;refine cN ?_;cases ok
   ·have f9:Hid (dP x i dS dE={x with cls:=x.cls.set i (fP c 5 0),tr:=x.tr++jX c 5 0 0}):=by
     show _=_;rw[m7.out,g9.out];simp only[if_true,ite_true];rw[qI]
    have p8:=cN (j9.out p o.out.1);go_wp2_with (go_at_call 180;refine p8.out.mono ?_;rintro e W7 ⟨rfl,D⟩)
    ((try simp only[Exit.inBlock,Exit.then]);refine bodyPost_ret (results_none rfl _ _ _) rfl ?_)
    refine⟨rfl,?_⟩;rw[f9.out];exact RmTo.behind (S:=NoS) (Chg.of_below o.out.2.2.2.2.2) (fun _ _ h=>h.elim) D
   ·have f9:Hid (dP x i dS dE=dP x i (jK c ⟨d,P,Q,O⟩) (gV (jK c ⟨d,P,Q,O⟩) 3 bs d x.acs.length)):=by
     show _=_;rw[m7.out,g9.out];simp only[reduceCtorEq,if_false,ite_false]
    have s:=o.out.1.cls i hi;rw[HC.out.1]at s;rw[←HC.out.2]at s;have l5:p.cell? ⟨B,38,none⟩=some (.int .i64 c.kind):=s.cell 38 _ rfl;have c8:p.cell? ⟨B,44,none⟩=some (.int .i64 c.bal):=s.cell 44 _ rfl;have n1:p.cell? ⟨n3,1,none⟩=some (.int .i64 d.tok):=cO o.out.2.1 1 _ rfl;have m3:p.cell? ⟨n3,3,none⟩=some (.int .i64 d.seq):=cO o.out.2.1 3 _ rfl;have H:=cN s;clear s;have p9:((c.kind==1)=true∧(d.tok==c.bal)=true∧tR c d=true)∨((c.kind==1)=false∧(c.kind==3)=true∧(d.seq==c.bal)=true∧tR c d=true)∨((c.kind==1)=true∧(d.tok==c.bal)=false∧(c.kind==3)=false∧tR c d=false)∨((c.kind==1)=false∧(c.kind==3)=true∧(d.seq==c.bal)=false∧tR c d=false)∨((c.kind==1)=false∧(c.kind==3)=false∧tR c d=false):=by
     unfold tR;by_cases a1:c.kind=1<;>by_cases a2:c.kind=3<;>by_cases a3:d.tok=c.bal<;>by_cases a4:d.seq=c.bal<;>simp[a1,a2,a3,a4]<;>omega
    rcases p9 with⟨k1,t1,hm⟩|⟨k1,k3,t1,hm⟩|⟨k1,t1,k3,hm⟩|⟨k1,k3,t1,hm⟩|⟨k1,k3,hm⟩;all_goals
     go_wp2_with fail;refine eD [0,0,0,0,1,0,0,0,1,0,0,0,1,0,0,0,0,0,0,0,1,0,0,0,1,0,0,0,1,0,0,0] (by kernel_rfl) (fun _ _ _ _=>rfl) ?_;simp only[dC,dB];iterate 32 ((try simp only[pA]);first|(apply sB rfl rfl;·(intro x h;(try cases h rfl);go_simp;with_reducible rfl))|apply dN rfl|apply dL rfl)
     refine cP ?_;try simp only[pA]
     have c3:own B=7+5*i:=by rw[HC.out.2];exact o.out.1.clo i hi
    all_goals first
     |have HM:Hid (tR c d=true):=cN hm
      go_wp2_with fail;clear l5 n1 m3;have h7:p.cell? ⟨B,43,none⟩=some (V.mv i):=H.out.cell 43 _ rfl;refine rlx [0,0,0,0,1,0,0,0,1,2] (fun z=>z.cell? ⟨B,43,none⟩=some (V.mv i)∧z.cell? ⟨B,44,none⟩=some (.int .i64 c.bal)) (by kernel_rfl) (fun _ _ _ _=>rfl) ?_ ?_
      ·exact⟨h7,c8⟩
      simp only[dC,dB];iterate 9 (apply sB rfl rfl;·(intro x h;(try have h:=h rfl);(try dsimp only at h);go_simp;with_reducible rfl))
      try simp only[pA]
      refine dI rfl (fun C hC=>?_);go_simp;have a5:Chg NoS p.drew.drew (p.drew.drew.alloc (.cells #[.int .i64 c.bal] 3)):=(Chg.refl _ _).alloc _;have m8:=aA p.drew.drew (.cells #[.int .i64 c.bal] 3);refine hC _ _ ⟨a5.cellN h7,a5.cellN c8⟩ ?_;clear hC C;refine cP ?_;have r3:=hbs.mine;refine wpList_append_lies _ rfl _ _ 25 rfl 0 3 ir _ 1 8 underlying25 q3 q5 q0 o2 rfl (by decide) (V.mv i) c.mine.length (iE c.mine) rfl (a5.row (show p.drew.drew.ownsRow 0 3 1 (V.mv i) c.mine.length (iE c.mine)from H.out.mine) (fun _ _ h=>h)) ⟨p.heap.size,0,none⟩ 1 1 [.int .i64 c.bal] rfl rfl (cR (cs:=[.int .i64 c.bal]) m8) (by simp[Value.oneCell']) (by decide) (by unfold maxLen;omega) (by omega) (aI _) (p.heap.size+1) (by simp) ?_;intro R l W7 M t f1 n5;have b8:Chg (fun q=>some q=(V.mv i).ownBlock) p W7:=(a5.of_drew.of_drew.mono (T:=fun q=>some q=(V.mv i).ownBlock) (fun _ _ h=>h.elim)).trans (Chg.of_grown ⟨t.os,t.tape,t.output,t.size,t.block⟩) (fun _ _ h=>h);have X:=o.out.1.mo i hi;have b1:=b8.kept H.out.blk (fun e=>by have:=X _ e.symm;omega);have o3:W7.cell? ⟨B,43,none⟩=some (V.mv i):=cO b1 43 _ rfl;have p0:=cX b1 43;have g3:=(b8.mono (T:=fun q=>own q=7+5*i∨own q=8+5*i) (fun q _ hq=>Or.inr (X q hq.symm))).trans (cY W7 B 43 (.slice (some ⟨R,0,none⟩) (c.mine.length+1) l)) (fun q _ e=>by subst e;exact Or.inl c3)
      have a7:(W7.setCell ⟨B,43,none⟩ (.slice (some ⟨R,0,none⟩) (c.mine.length+1) l)).heap[B]?=some (.cells (rcL {c with mine:=c.mine++[c.bal]} (.slice (some ⟨R,0,none⟩) (c.mine.length+1) l) (V.hv i) (V.bv i)).toArray 182 (0,0)):=dD b1 43 _;have q8:R≠B:=fN M b1 (by decide) R rfl;have c0:=(cY W7 B 43 (.slice (some ⟨R,0,none⟩) (c.mine.length+1) l)).row M (fun q hq=>by simp[Value.ownBlock]at hq;omega);have d8:own R=8+5*i∨p.heap.size≤R:=by
       rcases f1 with h'|h'
       ·exact Or.inl (X R h')
       ·right;omega
      generalize l7:W7.setCell ⟨B,43,none⟩ (.slice (some ⟨R,0,none⟩) (c.mine.length+1) l)=W8 at*;have p3:=cN l7;have h0:=cN (aLo c0 d8);clear l7 t f1 n5 M b8 a5 m8 X q8 c0 d8 c8 h7;have l9:Hid (jK c ⟨d,P,Q,O⟩={c with mine:=c.mine++[c.bal],asked:=true,next:=d,fres:=P,fown:=Q,ftok:=O}):=by
       show _=_;unfold jK;dsimp only;rw[HM.out];rfl
      have L:Hid (W8.ownsRow 0 3 1 (.slice (some ⟨R,0,none⟩) (c.mine.length+1) l) (c.mine++[c.bal]).length (iE (c.mine++[c.bal]))∧∀q,(Value.slice (some ⟨R,0,none⟩) (c.mine.length+1) l).ownBlock=some q→own q=8+5*i∨p.heap.size≤q):=by
       have e1:(c.mine++[c.bal]).length=c.mine.length+1:=by simp
       have e2:iE (c.mine++[c.bal])=iE c.mine++[.int .i64 c.bal]:=by simp[iE]
       rw[e1,e2];exact⟨h0.out.1,fun q hq=>by have:R=q:=(by simpa[Value.ownBlock]using hq);subst this;exact h0.out.2⟩
      clear h0;generalize c.mine++[c.bal]=mn at*;obtain⟨mv,b0⟩:=aLz (Value.slice (some ⟨R,0,none⟩) (c.mine.length+1) l);rw[←b0]at a7 L;clear b0
     |have HM:Hid (tR c d=false):=cN hm
      clear l5 n1 m3 c8;have L:Hid (p.drew.ownsRow 0 3 1 (V.mv i) c.mine.length (iE c.mine)∧∀q,(V.mv i).ownBlock=some q→own q=8+5*i∨p.heap.size≤q):=⟨H.out.mine,fun q hq=>Or.inl (o.out.1.mo i hi q hq)⟩;obtain⟨mn,d1⟩:=aLz (c.mine);have a7:p.drew.heap[B]?=some (.cells (rcL {c with mine:=mn} (V.mv i) (V.hv i) (V.bv i)).toArray 182 (0,0)):=by rw[d1];exact H.out.blk
      have g3:Chg (fun q=>own q=7+5*i∨own q=8+5*i) p p.drew:=((Chg.refl NoS p).drew).nos;have l9:Hid (jK c ⟨d,P,Q,O⟩={c with mine:=mn,asked:=true,next:=d,fres:=P,fown:=Q,ftok:=O}):=by
       rw[d1];show _=_;unfold jK;dsimp only;rw[HM.out];rfl
      rw[←d1]at L;obtain⟨mv,b0⟩:=aLz (V.mv i);rw[←b0]at L a7;generalize p.drew=W8 at*;clear d1 b0
    all_goals
     (try simp only[pA]);have I:=a7;have p6:W8.cell? ⟨B,47,none⟩=some (.bool c.asked):=cO I 47 _ rfl;have o5:=cX I 47;have j8:(W8.setCell ⟨B,47,none⟩ (.bool true)).heap[B]?=some (.cells (rcL {c with mine:=mn,asked:=true} mv (V.hv i) (V.bv i)).toArray 182 (0,0)):=dD I 47 _;have c9:=g3.trans (cY W8 B 47 (.bool true)) (fun q _ e=>by subst e;exact Or.inl c3);generalize f5:W8.setCell ⟨B,47,none⟩ (.bool true)=W9 at*;have q2:=cN f5;have k0:=cN j8;have i9:=cN c9;have f3:=c9.kept o.out.2.1 (fun e=>by have:=o.out.2.2.2.1;omega);have i8:=c9.kept o.out.2.2.1 (fun e=>by have:=o.out.2.2.2.2.1;omega);have k9:=cN (show∀j u,(vlL d)[j]?=some u→W9.cell? ((⟨n3,0,none⟩:Addr).add j)=some u from cR f3);have g2:=cN (aLo f3 i8);have a8:=cN c3;have p5:=cN I;have n0:=cN (show Chg (fun q=>q=B) W8 W9 from by rw[←f5];exact cY W8 B 47 (.bool true));clear f5 j8 c9 f3 i8 I c3;go_wp2_with (first|rw[q2.out]|rw[p3.out]|(refine cW rfl 56 _ rfl ⟨n3,0,none⟩ rfl (vlL d) _ k9.out underlying56 rfl (by kernel_rfl) ?_)|(refine cV rfl 56 _ _ rfl (B) 48 182 _ _ (rcL {c with mine:=mn,asked:=true,next:=d} mv (V.hv i) (V.bv i)) rfl rfl k0.out (by kernel_rfl) (by simp[Value.oneCell']) (by simp) rfl ?_;intro q7 J n2 d5;refine cQ ?_));have o6:=cN (n0.out.trans J (fun _ _ h=>h));have c1:=i9.out.trans J (fun q _ e=>by subst e;exact Or.inl a8.out);have e3:=J.kept g2.out.2 (fun e=>by have h1:=a8.out;rw[←e]at h1;have:=o.out.2.2.2.2.1;omega);have e5:=J.kept g2.out.1 (fun e=>by have h1:=a8.out;rw[←e]at h1;have:=o.out.2.2.2.1;omega)
     have m5:=cN (show∀j u,(evL (fEv P Q O))[j]?=some u→q7.cell? ((⟨n3+1,0,none⟩:Addr).add j)=some u from cR e3);have e7:=cN d5;have b9:=cN (aLo c1 e5);clear J n2 d5 c1 e3 e5 p6 o5;try clear o3 p0 b1
     clear a7 g3;refine cN ?_;go_wp2_with (first|(refine cW rfl 70 _ rfl ⟨n3+1,0,none⟩ rfl (evL (fEv P Q O)) _ m5.out underlying70 rfl (by kernel_rfl) ?_)|(refine cV rfl 70 _ _ rfl (B) 52 182 _ _ (rcL {c with mine:=mn,asked:=true,next:=d,fres:=P,fown:=Q,ftok:=O} mv (V.hv i) (V.bv i)) rfl rfl e7.out (by kernel_rfl) (by simp[Value.oneCell']) (by simp) rfl ?_;intro g8 Y n7 e9;refine cQ ?_));have F:=b9.out.1.trans Y (fun q _ e=>by subst e;exact Or.inl a8.out);have d6:=Y.kept b9.out.2 (fun e=>by have h1:=a8.out;rw[←e]at h1;have:=o.out.2.2.2.1;omega);obtain⟨f,i1⟩:=aLA (jK c ⟨d,P,Q,O⟩);have A:f={c with mine:=mn,asked:=true,next:=d,fres:=P,fown:=Q,ftok:=O}:=by
      rw[←i1,l9.out]
     have D:RmTo p own y V {x with cls:=x.cls.set i f} g8:=by
      refine o.out.1.client hi (c':=f) (mv':=mv) (hv':=V.hv i) (bv':=V.bv i) (F.mono (fun q _ e=>by omega)) ⟨by rw[A,←HC.out.2];exact e9,?_,?_,?_⟩ L.out.2 (fun q hq=>Or.inl (o.out.1.ho i hi q hq)) (fun q hq=>Or.inl (o.out.1.bo i hi q hq)) (fun q h1 h2=>by have:=o.out.1.bo i hi q h2;exact o.out.1.lt q (by omega))
      ·rw[A];exact(o6.out.trans Y (fun _ _ h=>h)).row L.out.1 (fun q hq e=>fN L.out.1 p5.out (by decide) q hq e)
      ·rw[A];exact F.row H.out.heard (fun q hq e=>by have:=o.out.1.ho i hi q hq;omega)
      ·rw[A];exact F.row H.out.back (fun q hq e=>by have:=o.out.1.bo i hi q hq;omega)
     obtain⟨a0,V1,m6,l0,j4,e6,i5⟩:=D;have k6:a0 n3=0:=by
      rcases cC (a0 n3)with e|e
      ·exact e
      ·have:=i5 n3 (by omega);have h2:=o.out.2.2.2.1;have h3:=dG o.out.2.1;omega
     have e0:=cN (show dP x i dS dE=dP x i f (gV f 3 bs d x.acs.length)from by rw[f9.out,i1]);have G:=cN (aLt m6 l0 j4 e6 i5 k6 d6);have q9:=cN A;clear Y n7 e9 F d6 m6 l0 j4 e6 i5 k6 e7 b9 m5 k0 i9 g2 k9 H i1 A;refine cN ?_;obtain⟨n,i6⟩:=aLA (x.acs.length);rw[i6]at hx5 e0;have q1:=cN i6;clear i6;go_wp2_with fail;go_loopw [10] (fun j wr=>∃(k:Nat),k≤n∧j= .int .i64 k∧RmTo g8 a0 y V1 (dP x i f (gV f 3 bs d k)) wr) (fun j _=>n-(intOf j).toNat)
     case atStart=>exact⟨0,aI _,rfl,by have:=fX x i f;rw[show gV f 3 bs d 0=[]from rfl,this];exact RmTo.of G.out.1⟩
     case round=>
      obtain⟨k,hk,rfl,D⟩:=hrel;have HT:=cN D;obtain⟨n4,V2,h2,f6,c6,U,g4⟩:=D;have h8:=h2.rav;have b4:(dP x i f (gV f 3 bs d k)).acs.length=n:=q1.out;have i2:=aBa x i f (gV f 3 bs d k);have h9:=aCD x i f (gV f 3 bs d k);rw[vP]at i2 h9;obtain⟨pa,n6,d3,_⟩:=mD h8;rw[b4]at d3;have c7:wr.cell? ⟨y,7,none⟩=some (.slice pa n n6):=by rw[←d3];exact h2.cell 7 _ rfl
      by_cases c4:k<n
      ·have c2:wr.heap[B]?=some (.cells (rcL f (V2.mv i) (V2.hv i) (V2.bv i)).toArray 182 (0,0)):=by
        have:=(h2.cls i (by simpa[dP]using hi)).blk;rw[c6,G.out.2.2.1,←HC.out.2]at this;simpa[dP]using this
       have d0:wr.cell? ⟨B,0,none⟩=some (.int .i64 f.id):=cO c2 0 _ rfl;have r0:wr.cell? ⟨B,39,none⟩=some (.int .i64 f.lock):=cO c2 39 _ rfl;have r6:wr.cell? ⟨B,44,none⟩=some (.int .i64 f.bal):=cO c2 44 _ rfl;have j2:=U.kept G.out.2.2.2.2.2.2 (fun e=>e G.out.2.2.2.2.2.1);have p4:=cN (show∀j u,(vlL d)[j]?=some u→wr.drew.cell? ((⟨n3,0,none⟩:Addr).add j)=some u from cR (W:=wr.drew) j2);have HS:=cN (sY wr.drew n4 y _ V2 ⟨3,f.id,(k:Int),f.lock,f.bal,bs,d⟩ h2.drew (by omega) (by omega));have H2:=cN (aLq f6 c6 U g4);clear h2 f6 c6 U g4 h8 i2 h9 b4 d3 c2 HT j2;go_wp2_with fail;clear c7;refine eD [0,0,0,0,1,0,0,0,0,0,1,0,0,0,1,0,1,0] (by kernel_rfl) (fun _ _ _ _=>rfl) ?_;simp only[dC,dB];iterate 16 (apply sB rfl rfl;·(intro x h;(try cases h rfl);go_simp;with_reducible rfl))
       try simp only[pA]
       refine dA (v:=vlV d) rfl (fun zz hx=>cU 56 _ rfl ⟨n3,0,none⟩ rfl (vlL d) _ (by subst hx;exact p4.out) underlying56 rfl (by kernel_rfl)) ?_;(try simp only[pA]);iterate 1 (apply sB rfl rfl;·(intro x h;(try cases h rfl);go_simp;with_reducible rfl))
       refine cP ?_;try simp only[pA]
       go_wp2_with (go_at_call 158;refine HS.out.mono ?_;rintro e q4 ⟨rfl,D⟩);have e4:RmTo g8 a0 y V1 (dP x i f (gV f 3 bs d (k+1))) q4:=by
        rw[aAi,aAg];exact RmTo.trans H2.out.1 H2.out.2.1 H2.out.2.2.1 H2.out.2.2.2 D.drew
       have o4:=cN e4;clear D e4;go_wp2_with fail;go_roundw
       case rel=>exact⟨k+1,by omega,by go_num,o4.out⟩
       case measure=>simp[intOf];omega
      ·have f2:k=n:=by omega
       subst f2;clear h2 f6 c6 U g4 h8 i2 h9 b4 d3 c4;go_wp2_with fail;go_end0;refine⟨rfl,?_⟩;rw[e0.out];exact RmTo.behind (S:=NoS) (Chg.of_below o.out.2.2.2.2.2) (fun _ _ h=>h.elim) (RmTo.trans G.out.2.1 G.out.2.2.1 G.out.2.2.2.1 G.out.2.2.2.2.1 HT.out)
theorem sQ(x:Rm)(i:Nat)(c' d:Rc)(e:List Ev):dP {x with cls:=x.cls.set i c'} i d e=dP x i d e:=by
 unfold dP;dsimp only;rw[List.set_set]
structure HrSt(W0 W:World)(own:Nat→Nat)(y:Nat)(x:Rm)(V:RmV)(m:Mg):Prop where
 rm:RmAt W own y x V
 bm:W.heap[W0.heap.size]?=some (.cells (mgL m).toArray 66 (0,0))
 be:Below W0.heap.size W0 W
section
variable {W0 W:World} {own:Nat→Nat} {y:Nat} {x:Rm} {V:RmV} {m:Mg}
theorem HrSt.drew(h:HrSt W0 W own y x V m):HrSt W0 W.drew own y x V m:=⟨h.rm.drew,h.bm,⟨h.be.os,h.be.tape,h.be.output,h.be.size,h.be.block⟩⟩
theorem HrSt.rc(h:HrSt W0 W own y x V m){i:Nat}(hi:i<x.cls.length){c:Rc}(hc:x.cls[i]=c){B:Nat}(hB:B=V.bC i):RcAt W B c (V.mv i) (V.hv i) (V.bv i):=by
 have:=h.rm.cls i hi;rw[hc]at this;rw[hB];exact this
end
section
variable (W:World) (own:Nat→Nat) (y:Nat) (x:Rm) (V:RmV) (i:Nat) (c:Rc) (N:Int) (m:Mg)
theorem aEk(h:RmAt W own y x V)(hi:i<x.cls.length)(hc:x.cls[i]=c)(ha:RcA N c)(hbs:c.busy=true→RcB x.cf N c∧c.heard.length≤3∧c.back.length≤3∧∀m ∈ c.heard,lG m.val)(hN:N≤90000000000)(hx5:x.acs.length≤5)(hn:x.net.length≤99999999990)(ht:x.tr.length≤99999999990)(hm:lG m.val)(hm0:0≤m.base)(hm1:m.base≤256255)(hf0:1≤x.cf.f)(hf1:x.cf.f≤2)(hd0:0≤x.cf.drift)(hd1:x.cf.drift≤10)(hdf:iO c m=true):
 Calls prog 154 #[.pointer (some ⟨y,0,none⟩),.pointer (some ⟨V.bC i,0,none⟩),mgV m] W fun r W'=>r= .returned (.tuple #[])∧RmTo W own y V (dP x i (fY x.cf c m) (fI x.cf x.acs.length c m)) W':=by
 obtain⟨B,d⟩:=aLz (V.bC i);rw[←d];have b:=aA W (.cells #[.int .i64 m.kind,.int .i64 m.src,.int .i64 m.dst,.int .i64 m.lock,.int .i64 m.bal,.int .i64 m.base,.int .i64 m.val.own,.int .i64 m.val.tok,.int .i64 m.val.ttl,.int .i64 m.val.seq] 66);have a:HrSt W (W.alloc (.cells #[.int .i64 m.kind,.int .i64 m.src,.int .i64 m.dst,.int .i64 m.lock,.int .i64 m.bal,.int .i64 m.base,.int .i64 m.val.own,.int .i64 m.val.tok,.int .i64 m.val.ttl,.int .i64 m.val.seq] 66)) own y x V m:=⟨h.alloc _,b,(aJ _ W).alloc (aE _) _⟩;generalize e:W.alloc (.cells #[.int .i64 m.kind,.int .i64 m.src,.int .i64 m.dst,.int .i64 m.lock,.int .i64 m.bal,.int .i64 m.base,.int .i64 m.val.own,.int .i64 m.val.tok,.int .i64 m.val.ttl,.int .i64 m.val.seq] 66)=W0 at*;have j:=cN e;have g:=cN a;have u:=cN (aLo hc d);have w:W0.cell? ⟨B,2,none⟩=some (.bool c.up):=(a.rc hi hc d).cell 2 _ rfl;have q:W0.cell? ⟨B,37,none⟩=some (.bool c.busy):=(a.rc hi hc d).cell 37 _ rfl;have s:W0.cell? ⟨B,44,none⟩=some (.int .i64 c.bal):=(a.rc hi hc d).cell 44 _ rfl;have A:W0.cell? ⟨W.heap.size,4,none⟩=some (.int .i64 m.bal):=cO b 4 _ rfl;have v:W0.cell? ⟨W.heap.size,0,none⟩=some (.int .i64 m.kind):=cO b 0 _ rfl;clear e b a h d;have l:Hid (dP x i (fY x.cf c m) (fI x.cf x.acs.length c m)=x):=by
  show _=_;unfold fY fI;rw[if_pos hdf,if_pos hdf,fX,←hc,bH]
 obtain⟨z,n⟩:=aLA (dP x i (fY x.cf c m) (fI x.cf x.acs.length c m));rw[n]at l⊢;have k:c.up=false∨(c.up=true∧c.busy=false)∨(c.up=true∧c.busy=true∧(m.bal !=c.bal)=true):=by
  unfold iO at hdf;cases h1:c.up<;>cases h2:c.busy<;>simp_all [bne]
 clear hdf n hc;rcases k with o|⟨o,p⟩|⟨o,p,t⟩;all_goals
  go_enter func154,ntmps154;go_wp2_with (first|rw[j.out]);refine eD [0,0,0,1,0,0,0,0,0,1,0,0,0,0,1,0,0,0,1,0,0] (by kernel_rfl) (fun _ _ _ _=>rfl) ?_;simp only[dC,dB];iterate 21 ((try simp only[pA]);first|(apply sB rfl rfl;·(intro x h;(try cases h rfl);go_simp;with_reducible rfl))|apply dN rfl|apply dL rfl)
  refine cP ?_;try simp only[pA]
  go_wp2_with fail
  ((try simp only[Exit.inBlock,Exit.then]);refine bodyPost_ret (results_none rfl _ _ _) rfl ?_)
  refine⟨rfl,?_⟩;rw[l.out];exact RmTo.behind (S:=NoS) (Chg.of_below g.out.be) (fun _ _ h=>h.elim) (RmTo.of g.out.rm |>.after (S:=NoS) (Chg.refl _ _).drew (fun _ _ h=>h))
theorem aDb(h:RmAt W own y x V)(hi:i<x.cls.length)(hc:x.cls[i]=c)(ha:RcA N c)(hbs:c.busy=true→RcB x.cf N c∧c.heard.length≤3∧c.back.length≤3∧∀m ∈ c.heard,lG m.val)(hN:N≤90000000000)(hx5:x.acs.length≤5)(hn:x.net.length≤99999999990)(ht:x.tr.length≤99999999990)(hm:lG m.val)(hm0:0≤m.base)(hm1:m.base≤256255)(hf0:1≤x.cf.f)(hf1:x.cf.f≤2)(hd0:0≤x.cf.drift)(hd1:x.cf.drift≤10)(hup:c.up=true)(hbz:c.busy=true)(hbl:m.bal=c.bal)(hk5:m.kind≠5)(hk2:m.kind≠2)(hk4:m.kind≠4):
 Calls prog 154 #[.pointer (some ⟨y,0,none⟩),.pointer (some ⟨V.bC i,0,none⟩),mgV m] W fun r W'=>r= .returned (.tuple #[])∧RmTo W own y V (dP x i (fY x.cf c m) (fI x.cf x.acs.length c m)) W':=by
 obtain⟨B,e⟩:=aLz (V.bC i);rw[←e];have b:=aA W (.cells #[.int .i64 m.kind,.int .i64 m.src,.int .i64 m.dst,.int .i64 m.lock,.int .i64 m.bal,.int .i64 m.base,.int .i64 m.val.own,.int .i64 m.val.tok,.int .i64 m.val.ttl,.int .i64 m.val.seq] 66);have a:HrSt W (W.alloc (.cells #[.int .i64 m.kind,.int .i64 m.src,.int .i64 m.dst,.int .i64 m.lock,.int .i64 m.bal,.int .i64 m.base,.int .i64 m.val.own,.int .i64 m.val.tok,.int .i64 m.val.ttl,.int .i64 m.val.seq] 66)) own y x V m:=⟨h.alloc _,b,(aJ _ W).alloc (aE _) _⟩;generalize g:W.alloc (.cells #[.int .i64 m.kind,.int .i64 m.src,.int .i64 m.dst,.int .i64 m.lock,.int .i64 m.bal,.int .i64 m.base,.int .i64 m.val.own,.int .i64 m.val.tok,.int .i64 m.val.ttl,.int .i64 m.val.seq] 66)=W0 at*;have l:=cN g;have k:=cN a;have w:=cN (aLo hc e);have E:W0.cell? ⟨B,2,none⟩=some (.bool c.up):=(a.rc hi hc e).cell 2 _ rfl;have q:W0.cell? ⟨B,37,none⟩=some (.bool c.busy):=(a.rc hi hc e).cell 37 _ rfl;have s:W0.cell? ⟨B,44,none⟩=some (.int .i64 c.bal):=(a.rc hi hc e).cell 44 _ rfl;have F:W0.cell? ⟨W.heap.size,4,none⟩=some (.int .i64 m.bal):=cO b 4 _ rfl;have D:W0.cell? ⟨W.heap.size,0,none⟩=some (.int .i64 m.kind):=cO b 0 _ rfl;clear g b a h e;have j:iO c m=false:=by unfold iO;rw[hup,hbz,hbl];simp
 have v:(m.bal !=c.bal)=false:=by rw[hbl];simp
 have d:¬iO c m=true:=by rw[j];decide
 obtain⟨hbs,p,t,u⟩:=hbs hbz;have n:Hid (dP x i (fY x.cf c m) (fI x.cf x.acs.length c m)=x):=by
  show _=_;unfold fY fI;rw[if_neg d,if_neg d,if_neg hk5,if_neg hk5,if_neg hk2,if_neg hk2,if_neg hk4,if_neg hk4,fX,←hc,bH]
 obtain⟨z,o⟩:=aLA (dP x i (fY x.cf c m) (fI x.cf x.acs.length c m));rw[o]at n⊢;have A:(m.kind==5)=false:=by simp[hk5]
 have G:(m.kind==2)=false:=by simp[hk2]
 have C:(m.kind==4)=false:=by simp[hk4]
 clear j o hc hk5 hk2 hk4 hbl;go_enter func154,ntmps154;go_wp2_with (first|rw[l.out]);refine eD [0,0,0,1,0,0,0,0,0,1,0,0,0,0,1,0,0,0,1,0,0] (by kernel_rfl) (fun _ _ _ _=>rfl) ?_;simp only[dC,dB];iterate 21 ((try simp only[pA]);first|(apply sB rfl rfl;·(intro x h;(try cases h rfl);go_simp;with_reducible rfl))|apply dN rfl|apply dL rfl)
 refine cP ?_;try simp only[pA]
 go_wp2_with fail;go_end0;refine⟨rfl,?_⟩;rw[n.out];exact RmTo.behind (S:=NoS) (Chg.of_below k.out.be) (fun _ _ h=>h.elim) (RmTo.of k.out.rm |>.after (S:=NoS) (Chg.refl _ _).drew (fun _ _ h=>h))
end
theorem aA8(W:World)(own:Nat→Nat)(y:Nat)(x:Rm)(V:RmV)(i:Nat)(c:Rc)(N:Int)(m:Mg)(h:RmAt W own y x V)(hi:i<x.cls.length)(hc:x.cls[i]=c)(ha:RcA N c)(hbs:c.busy=true→RcB x.cf N c∧c.heard.length≤3∧c.back.length≤3∧∀m ∈ c.heard,lG m.val)(hN:N≤90000000000)(hx5:x.acs.length≤5)(hn:x.net.length≤99999999990)(ht:x.tr.length≤99999999990)(hm:lG m.val)(hm0:0≤m.base)(hm1:m.base≤256255)(hf0:1≤x.cf.f)(hf1:x.cf.f≤2)(hd0:0≤x.cf.drift)(hd1:x.cf.drift≤10)(hup:c.up=true)(hbz:c.busy=true)(hbl:m.bal=c.bal)(hk2:m.kind=2):
 Calls prog 154 #[.pointer (some ⟨y,0,none⟩),.pointer (some ⟨V.bC i,0,none⟩),mgV m] W fun r W'=>r= .returned (.tuple #[])∧RmTo W own y V (dP x i (fY x.cf c m) (fI x.cf x.acs.length c m)) W':=by
 obtain⟨B,hB⟩:=aLz (V.bC i);rw[←hB];have Q:=aA W (.cells #[.int .i64 m.kind,.int .i64 m.src,.int .i64 m.dst,.int .i64 m.lock,.int .i64 m.bal,.int .i64 m.base,.int .i64 m.val.own,.int .i64 m.val.tok,.int .i64 m.val.ttl,.int .i64 m.val.seq] 66);have F:HrSt W (W.alloc (.cells #[.int .i64 m.kind,.int .i64 m.src,.int .i64 m.dst,.int .i64 m.lock,.int .i64 m.bal,.int .i64 m.base,.int .i64 m.val.own,.int .i64 m.val.tok,.int .i64 m.val.ttl,.int .i64 m.val.seq] 66)) own y x V m:=⟨h.alloc _,Q,(aJ _ W).alloc (aE _) _⟩;generalize c8:W.alloc (.cells #[.int .i64 m.kind,.int .i64 m.src,.int .i64 m.dst,.int .i64 m.lock,.int .i64 m.bal,.int .i64 m.base,.int .i64 m.val.own,.int .i64 m.val.tok,.int .i64 m.val.ttl,.int .i64 m.val.seq] 66)=W0 at*;have c5:=cN c8;have b5:=cN F;have HC:=cN (aLo hc hB);have b2:W0.cell? ⟨B,2,none⟩=some (.bool c.up):=(F.rc hi hc hB).cell 2 _ rfl;have e9:W0.cell? ⟨B,37,none⟩=some (.bool c.busy):=(F.rc hi hc hB).cell 37 _ rfl;have e4:W0.cell? ⟨B,44,none⟩=some (.int .i64 c.bal):=(F.rc hi hc hB).cell 44 _ rfl;have m4:W0.cell? ⟨W.heap.size,4,none⟩=some (.int .i64 m.bal):=cO Q 4 _ rfl;have m0:W0.cell? ⟨W.heap.size,0,none⟩=some (.int .i64 m.kind):=cO Q 0 _ rfl;clear c8 Q F h hB;have b9:iO c m=false:=by unfold iO;rw[hup,hbz,hbl];simp
 have p3:(m.bal !=c.bal)=false:=by rw[hbl];simp
 have I:¬iO c m=true:=by rw[b9];decide
 obtain⟨hbs,f5,f3,d6⟩:=hbs hbz;obtain⟨ir,e7,e8,e6,e0⟩:=info_parts mJ;have q5:(m.kind==5)=false:=by simp[hk2]
 have q2:(m.kind==2)=true:=by simp[hk2]
 have O:Hid (fY x.cf c m=(if(c.heard.any fun z=>z.src==m.src)=true then c else if c.asked=true then c else if((c.heard++[m]).length:Int)=x.cf.f+1 then kU x.cf {c with heard:=c.heard++[m]}else{c with heard:=c.heard++[m]})):=by
  show _=_;unfold fY;rw[if_neg I,if_neg (by omega),if_pos hk2]
 have X:Hid (fI x.cf x.acs.length c m=(if(c.heard.any fun z=>z.src==m.src)=true then[]else if c.asked=true then[]else if((c.heard++[m]).length:Int)=x.cf.f+1 then lB x.cf x.acs.length {c with heard:=c.heard++[m]}else[])):=by
  show _=_;unfold fI;rw[if_neg I,if_neg (by omega),if_pos hk2]
 obtain⟨z,hz⟩:=aLA (dP x i (fY x.cf c m) (fI x.cf x.acs.length c m));rw[hz];have HZ:=cN hz;clear b9 I hz hk2 hbl;go_enter func154,ntmps154;go_wp2_with (first|rw[c5.out]);refine eD [0,0,0,1,0,0,0,0,0,1,0,0,0,0,1,0,0,0,1,0,0] (by kernel_rfl) (fun _ _ _ _=>rfl) ?_;simp only[dC,dB];iterate 21 ((try simp only[pA]);first|(apply sB rfl rfl;·(intro x h;(try cases h rfl);go_simp;with_reducible rfl))|apply dN rfl|apply dL rfl)
 refine cP ?_;try simp only[pA]
 go_wp2_with fail;clear b2 e9 e4 m4 m0;go_loopw [6] (fun j wr=>∃(k:Nat),k≤c.heard.length∧j= .int .i64 k∧(∀(q:Nat) (b:q<c.heard.length),q<k→c.heard[q].src≠m.src)∧HrSt W wr own y x V m) (fun j _=>c.heard.length-(intOf j).toNat)
 case atStart=>exact⟨0,aI _,rfl,fun q _ h=>absurd h (by omega),b5.out.drew⟩
 case round=>
  clear b5 c5;obtain⟨k,hk,rfl,d1,U⟩:=hrel;have a:=cN U;have n:=U.rc hi HC.out.1 HC.out.2;obtain⟨ph,d7,H,b4⟩:=nV n.heard;have Y:wr.cell? ⟨B,46,none⟩=some (.slice ph c.heard.length d7):=by rw[←H];exact n.cell 46 _ rfl
  have m1:wr.cell? ⟨W.heap.size,1,none⟩=some (.int .i64 m.src):=cO U.bm 1 _ rfl;have b3:=cN d1;clear d1 U;by_cases b0:k<c.heard.length
  ·obtain⟨g,rfl,f2,b6⟩:=b4 k b0;have f4:(k:Int)<(c.heard.length:Int):=by omega
   have J:c.heard[k] ∈ c.heard:=bF b0;have M:c.heard[k].src≠m.src→∀(q:Nat) (b:q<c.heard.length),q<k+1→c.heard[q].src≠m.src:=fun M q b hqk=>by
    rcases Nat.lt_or_ge q k with h'|h'
    ·exact b3.out q b h'
    ·have:q=k:=by omega
     subst this;exact M
   have c6:=cN M;clear M b3;generalize c.heard[k]=mh at*;have c1:wr.cell? ⟨g,k*10+1,none⟩=some (.int .i64 mh.src):=b6 1 _ rfl;clear b4 b6 n H;by_cases he:mh.src=m.src
   ·have c3:(mh.src==m.src)=true:=by simp[he]
    have Z:Hid (z=x):=by
     have ha:(c.heard.any fun z=>z.src==m.src)=true:=by rw[List.any_eq_true];exact⟨mh,J,c3⟩
     show _=_;rw[←HZ.out,O.out,X.out,if_pos ha,if_pos ha,fX,←HC.out.1,bH]
    clear he J;go_wp2_with fail;refine eD [0,0,0,1,0,0,0,1,0,1,0] (by kernel_rfl) (fun _ _ _ _=>rfl) ?_;simp only[dC,dB];iterate 11 (apply sB rfl rfl;·(intro x h;(try cases h rfl);go_simp;with_reducible rfl))
    refine cP ?_;try simp only[pA]
    go_wp2_with fail
    ((try simp only[Exit.inBlock,Exit.then]);refine bodyPost_ret (results_none rfl _ _ _) rfl ?_)
    refine⟨rfl,?_⟩;rw[Z.out];exact RmTo.behind (S:=NoS) (Chg.of_below a.out.be) (fun _ _ h=>h.elim) (RmTo.of a.out.rm |>.after (S:=NoS) (Chg.refl _ _).drew (fun _ _ h=>h))
   ·have c3:(mh.src==m.src)=false:=by simp[he]
    have HE:=cN (c6.out he);clear he J c6;go_wp2_with fail;refine eD [0,0,0,1,0,0,0,1,0,1,0] (by kernel_rfl) (fun _ _ _ _=>rfl) ?_;simp only[dC,dB];iterate 11 (apply sB rfl rfl;·(intro x h;(try cases h rfl);go_simp;with_reducible rfl))
    refine cP ?_;try simp only[pA]
    go_wp2_with fail;go_roundw
    case rel=>exact⟨k+1,by omega,by go_num,HE.out,a.out.drew⟩
    case measure=>simp[intOf];omega
  ·have d9:k=c.heard.length:=by omega
   subst d9;have a4:¬(c.heard.any fun z=>z.src==m.src)=true:=by
    rw[List.any_eq_true];intro⟨mh,hm1,e3⟩;obtain⟨q,b,e2⟩:=List.mem_iff_getElem.1 hm1;exact b3.out q b b (by rw[e2];simpa using e3)
   have a9:wr.cell? ⟨B,47,none⟩=some (.bool c.asked):=n.cell 47 _ rfl;have P:=cN n;have t:=cN a4;clear a4 b4 b0;cases hask:c.asked with
   |true=>
    rw[hask]at a9;have Z:Hid (z=x):=by
     show _=_;rw[←HZ.out,O.out,X.out,if_neg t.out,if_neg t.out,if_pos hask,if_pos hask,fX,←HC.out.1,bH]
    clear hask H n;go_wp2_with fail
    ((try simp only[Exit.inBlock,Exit.then]);refine bodyPost_ret (results_none rfl _ _ _) rfl ?_)
    refine⟨rfl,?_⟩;rw[Z.out];exact RmTo.behind (S:=NoS) (Chg.of_below a.out.be) (fun _ _ h=>h.elim) (RmTo.of a.out.rm)
   |false=>
    rw[hask]at a9;have o:¬c.asked=true:=by rw[hask];decide
    have Z:Hid (z=if((c.heard++[m]).length:Int)=x.cf.f+1 then dP x i (kU x.cf {c with heard:=c.heard++[m]}) (lB x.cf x.acs.length {c with heard:=c.heard++[m]})else dP x i {c with heard:=c.heard++[m]} []):=by
     show _=_;rw[←HZ.out,O.out,X.out,if_neg t.out,if_neg t.out,if_neg o,if_neg o];by_cases b:((c.heard++[m]).length:Int)=x.cf.f+1
     ·rw[if_pos b,if_pos b,if_pos b]
     ·rw[if_neg b,if_neg b,if_neg b]
    clear hask o n HZ O X;go_wp2_with fail;clear a9 m1;rw[←H]at Y;clear H;refine rlx [0,0,0,0,1,1,2] (fun z=>z.cell? ⟨B,46,none⟩=some (V.hv i)∧∀j u,(mgL m)[j]?=some u→z.cell? ((⟨W.heap.size,0,none⟩:Addr).add j)=some u) (by kernel_rfl) (fun _ _ _ _=>rfl) ?_ ?_
    ·exact⟨Y,cR (W:=wr.drew) a.out.bm⟩
    simp only[dC,dB];iterate 5 (apply sB rfl rfl;·(intro x h;(try have h:=h rfl);(try dsimp only at h);go_simp;with_reducible rfl))
    try simp only[pA]
    refine dA (v:=mgV m) rfl (fun zz hx=>cU 66 _ rfl ⟨W.heap.size,0,none⟩ rfl (mgL m) _ hx.2 underlying66 rfl (by kernel_rfl)) ?_;(try simp only[pA]);refine dI rfl (fun C hC=>?_);go_simp;have E:Chg NoS wr.drew (wr.drew.alloc (.cells (mgL m).toArray 66)):=(Chg.refl _ _).alloc _;have c9:=aA wr.drew (.cells (mgL m).toArray 66);refine hC _ _ ⟨E.cellN Y,cR (E.kept a.out.bm (fun h=>h))⟩ ?_;clear hC C;refine cP ?_;refine wpList_append_lies _ rfl _ _ 88 rfl 0 66 ir _ 10 80 underlying88 e7 e8 e6 e0 rfl (by decide) (V.hv i) c.heard.length (cZ mgL c.heard) rfl (E.row (show wr.drew.ownsRow 0 66 10 (V.hv i) c.heard.length (cZ mgL c.heard)from P.out.heard) (fun _ _ h=>h)) ⟨wr.heap.size,0,none⟩ 1 1 (mgL m) rfl rfl (cR c9) (oT m) (by decide) (by unfold maxLen;omega) (by omega) (aI _) (wr.heap.size+1) (by simp) ?_;intro A d W7 p l a6 d5;have K:Chg (fun q=>some q=(V.hv i).ownBlock) wr W7:=(E.of_drew.mono (T:=fun q=>some q=(V.hv i).ownBlock) (fun _ _ h=>h.elim)).trans (Chg.of_grown ⟨l.os,l.tape,l.output,l.size,l.block⟩) (fun _ _ h=>h);have e1:own B=7+5*i:=by rw[HC.out.2];exact a.out.rm.clo i hi
    have s:=a.out.rm.ho i hi;have G:=K.kept P.out.blk (fun e=>by have:=s _ e.symm;omega);have b7:W7.cell? ⟨B,46,none⟩=some (V.hv i):=cO G 46 _ rfl;have c0:=cX G 46;have R:=(K.mono (T:=fun q=>own q=7+5*i∨own q=9+5*i) (fun q _ b=>Or.inr (s q b.symm))).trans (cY W7 B 46 (.slice (some ⟨A,0,none⟩) (c.heard.length+1) d)) (fun q _ e=>by subst e;exact Or.inl e1);have a8:(W7.setCell ⟨B,46,none⟩ (.slice (some ⟨A,0,none⟩) (c.heard.length+1) d)).heap[B]?=some (.cells (rcL {c with heard:=c.heard++[m]} (V.mv i) (.slice (some ⟨A,0,none⟩) (c.heard.length+1) d) (V.bv i)).toArray 182 (0,0)):=dD G 46 _;have f0:A≠B:=fN p G (by decide) A rfl;have L:=(cY W7 B 46 (.slice (some ⟨A,0,none⟩) (c.heard.length+1) d)).row p (fun q b=>by simp[Value.ownBlock]at b;omega);have a2:own A=9+5*i∨wr.heap.size≤A:=by
     rcases a6 with h'|h'
     ·exact Or.inl (s A h')
     ·right;omega
    generalize c7:W7.setCell ⟨B,46,none⟩ (.slice (some ⟨A,0,none⟩) (c.heard.length+1) d)=W8 at*;have c2:=cN c7;have a7:RmTo wr own y V {x with cls:=x.cls.set i {c with heard:=c.heard++[m]}} W8:=by
     refine a.out.rm.client hi (c':={c with heard:=c.heard++[m]}) (mv':=V.mv i) (hv':=.slice (some ⟨A,0,none⟩) (c.heard.length+1) d) (bv':=V.bv i) (R.mono (fun q _ e=>by omega)) ⟨by rw[←HC.out.2];exact a8,?_,?_,?_⟩ (fun q b=>Or.inl (a.out.rm.mo i hi q b)) (fun q b=>by have:A=q:=(by simpa[Value.ownBlock]using b);subst this;exact a2) (fun q b=>Or.inl (a.out.rm.bo i hi q b)) (fun q h1 h2=>by have:=a.out.rm.bo i hi q h2;exact a.out.rm.lt q (by omega))
     ·exact R.row P.out.mine (fun q b e=>by have:=a.out.rm.mo i hi q b;omega)
     ·show W8.ownsRow 0 _ 10 _ (c.heard++[m]).length (cZ mgL (c.heard++[m]));rw[aD,aK,kO];exact L
     ·exact R.row P.out.back (fun q b e=>by have:=a.out.rm.bo i hi q b;omega)
    obtain⟨d8,V1,h1,c4,d4,a5,a3⟩:=a7;have f1:W8.cell? ⟨B,46,none⟩=some (.slice (some ⟨A,0,none⟩) (c.heard.length+1) d):=cO a8 46 _ rfl;have y0:W8.cell? ⟨y,0,none⟩=some (.int .i64 x.cf.f):=h1.cell 0 _ rfl;have w1:IntKind.i64.wrap (x.cf.f+1)=x.cf.f+1:=fV (by omega) (by omega);have D:=cN (aLr h1 c4 d4 a5 a3);clear c7 l a6 d5 p K E c9 s f0 L a2 Y h1 c4 d4 a5 a3 G a8 R;(try simp only[pA]);by_cases b:((c.heard++[m]).length:Int)=x.cf.f+1
    ·have hR:=Z.out;rw[if_pos b]at hR;have b1:=cN hR;have e5:(((c.heard.length:Int)+1)==x.cf.f+1)=true:=by simp at b;simp;omega
     have d2:({x with cls:=x.cls.set i {c with heard:=c.heard++[m]}}:Rm).cls[i]'(by simpa using hi)={c with heard:=c.heard++[m]}:=by simp
     have b8:=cN (aC2 W8.drew d8 y {x with cls:=x.cls.set i {c with heard:=c.heard++[m]}} V1 i {c with heard:=c.heard++[m]} N D.out.1.drew (by simpa using hi) d2 ⟨ha.d0,ha.d3,ha.i0,ha.i1,ha.k0,ha.k1,ha.r0,ha.r1,ha.w⟩ ⟨hbs.l0,hbs.l3,hbs.t0,hbs.t1,hbs.g0,hbs.g1,hbs.n0,hbs.n8,hbs.a0,hbs.a1,hbs.mine,by show(c.heard++[m]).length≤5;simp;omega,hbs.back⟩ hN hx5 hn ht (fun mm hmm=>by rcases aO.1 hmm with h|h;exact d6 mm h;rw[List.mem_singleton.1 h];exact hm) hd0 hd1);rw[D.out.2.2.1,←HC.out.2,sQ]at b8;clear hR b d2 Z;go_wp2_with (first|rw[c2.out]);clear b7 c0;refine eD [0,0,0,1,1,0,0,0,0,1,0,0] (by kernel_rfl) (fun _ _ _ _=>rfl) ?_;simp only[dC,dB];iterate 12 (apply sB rfl rfl;·(intro x h;(try cases h rfl);go_simp;with_reducible rfl))
     refine cP ?_;try simp only[pA]
     go_wp2_with (go_at_call 181;refine b8.out.mono ?_;rintro e W9 ⟨rfl,a7⟩);go_end0;refine⟨rfl,?_⟩;rw[b1.out];exact RmTo.behind (S:=NoS) (Chg.of_below a.out.be) (fun _ _ h=>h.elim) (RmTo.trans D.out.2.1 D.out.2.2.1 D.out.2.2.2.1 D.out.2.2.2.2 a7.drew)
    ·have hR:=Z.out;rw[if_neg b,fX]at hR;have b1:=cN hR;have e5:(((c.heard.length:Int)+1)==x.cf.f+1)=false:=by simp at b;simp;omega
     clear hR b Z;go_wp2_with (first|rw[c2.out]);clear b7 c0;refine eD [0,0,0,1,1,0,0,0,0,1,0,0] (by kernel_rfl) (fun _ _ _ _=>rfl) ?_;simp only[dC,dB];iterate 12 (apply sB rfl rfl;·(intro x h;(try cases h rfl);go_simp;with_reducible rfl))
     refine cP ?_;try simp only[pA]
     go_wp2_with fail;go_end0;refine⟨rfl,?_⟩;rw[b1.out];exact RmTo.behind (S:=NoS) (Chg.of_below a.out.be) (fun _ _ h=>h.elim) (RmTo.trans D.out.2.1 D.out.2.2.1 D.out.2.2.2.1 D.out.2.2.2.2 (RmTo.of D.out.1 |>.after (S:=NoS) (Chg.refl _ _).drew (fun _ _ h=>h)))
theorem aAv(W:World)(own:Nat→Nat)(y:Nat)(x:Rm)(V:RmV)(i:Nat)(c:Rc)(N:Int)(m:Mg)(h:RmAt W own y x V)(hi:i<x.cls.length)(hc:x.cls[i]=c)(ha:RcA N c)(hbs:c.busy=true→RcB x.cf N c∧c.heard.length≤3∧c.back.length≤3∧∀m ∈ c.heard,lG m.val)(hN:N≤90000000000)(hx5:x.acs.length≤5)(hn:x.net.length≤99999999990)(ht:x.tr.length≤99999999990)(hm:lG m.val)(hm0:0≤m.base)(hm1:m.base≤256255)(hf0:1≤x.cf.f)(hf1:x.cf.f≤2)(hd0:0≤x.cf.drift)(hd1:x.cf.drift≤10)(hup:c.up=true)(hbz:c.busy=true)(hbl:m.bal=c.bal)(hk4:m.kind=4):
 Calls prog 154 #[.pointer (some ⟨y,0,none⟩),.pointer (some ⟨V.bC i,0,none⟩),mgV m] W fun r W'=>r= .returned (.tuple #[])∧RmTo W own y V (dP x i (fY x.cf c m) (fI x.cf x.acs.length c m)) W':=by
 obtain⟨B,hB⟩:=aLz (V.bC i);rw[←hB];have Q:=aA W (.cells #[.int .i64 m.kind,.int .i64 m.src,.int .i64 m.dst,.int .i64 m.lock,.int .i64 m.bal,.int .i64 m.base,.int .i64 m.val.own,.int .i64 m.val.tok,.int .i64 m.val.ttl,.int .i64 m.val.seq] 66);have E:HrSt W (W.alloc (.cells #[.int .i64 m.kind,.int .i64 m.src,.int .i64 m.dst,.int .i64 m.lock,.int .i64 m.bal,.int .i64 m.base,.int .i64 m.val.own,.int .i64 m.val.tok,.int .i64 m.val.ttl,.int .i64 m.val.seq] 66)) own y x V m:=⟨h.alloc _,Q,(aJ _ W).alloc (aE _) _⟩;generalize b5:W.alloc (.cells #[.int .i64 m.kind,.int .i64 m.src,.int .i64 m.dst,.int .i64 m.lock,.int .i64 m.bal,.int .i64 m.base,.int .i64 m.val.own,.int .i64 m.val.tok,.int .i64 m.val.ttl,.int .i64 m.val.seq] 66)=W0 at*;have b3:=cN b5;have A:=cN E;have O:=cN (aLo hc hB);have b2:W0.cell? ⟨B,2,none⟩=some (.bool c.up):=(E.rc hi hc hB).cell 2 _ rfl;have d1:W0.cell? ⟨B,37,none⟩=some (.bool c.busy):=(E.rc hi hc hB).cell 37 _ rfl;have c3:W0.cell? ⟨B,44,none⟩=some (.int .i64 c.bal):=(E.rc hi hc hB).cell 44 _ rfl;have m4:W0.cell? ⟨W.heap.size,4,none⟩=some (.int .i64 m.bal):=cO Q 4 _ rfl;have m0:W0.cell? ⟨W.heap.size,0,none⟩=some (.int .i64 m.kind):=cO Q 0 _ rfl;clear b5 Q E h hB;have a8:iO c m=false:=by unfold iO;rw[hup,hbz,hbl];simp
 have p3:(m.bal !=c.bal)=false:=by rw[hbl];simp
 have I:¬iO c m=true:=by rw[a8];decide
 obtain⟨hbs,d8,d7,d5⟩:=hbs hbz;obtain⟨ir,c7,c9,c6,c1⟩:=info_parts aCd;have q5:(m.kind==5)=false:=by simp[hk4]
 have q2:(m.kind==2)=false:=by simp[hk4]
 have q4:(m.kind==4)=true:=by simp[hk4]
 have D:Hid (fY x.cf c m=(if vN c.back m.src=true then c else if((c.back++[m.src]).length:Int)=x.cf.f+1 then fP {c with back:=c.back++[m.src]} c.fres c.ftok else{c with back:=c.back++[m.src]})):=by
  show _=_;unfold fY;rw[if_neg I,if_neg (by omega),if_neg (by omega),if_pos hk4]
 have G:Hid (fI x.cf x.acs.length c m=(if vN c.back m.src=true then[]else if((c.back++[m.src]).length:Int)=x.cf.f+1 then jX {c with back:=c.back++[m.src]} c.fres c.fown c.ftok else[])):=by
  show _=_;unfold fI;rw[if_neg I,if_neg (by omega),if_neg (by omega),if_pos hk4]
 obtain⟨z,hz⟩:=aLA (dP x i (fY x.cf c m) (fI x.cf x.acs.length c m));rw[hz];have HZ:=cN hz;obtain⟨qh,a4⟩:=aLz (vN c.back m.src);rw[←a4]at D G;have m1:W0.cell? ⟨W.heap.size,1,none⟩=some (.int .i64 m.src):=cO A.out.bm 1 _ rfl;have t:W0.cell? ⟨B,71,none⟩=some (V.bv i):=(A.out.rc hi O.out.1 O.out.2).cell 71 _ rfl;have K:=cN (aAX W0.drew.drew (V.bv i) c.back m.src (A.out.drew.drew.rc hi O.out.1 O.out.2).back (by omega));rw[←a4]at K;clear a8 I hz hk4 hbl a4;have c4:qh=true∨qh=false:=by cases qh<;>simp
 go_enter func154,ntmps154;go_wp2_with (first|rw[b3.out]);refine eD [0,0,0,1,0,0,0,0,0,1,0,0,0,0,1,0,0,0,1,0,0] (by kernel_rfl) (fun _ _ _ _=>rfl) ?_;simp only[dC,dB];iterate 21 ((try simp only[pA]);first|(apply sB rfl rfl;·(intro x h;(try cases h rfl);go_simp;with_reducible rfl))|apply dN rfl|apply dL rfl)
 refine cP ?_;try simp only[pA]
 go_wp2_with fail;clear b2 d1 c3 m4 m0;refine eD [0,0,0,1,0,1,1,0] (by kernel_rfl) (fun _ _ _ _=>rfl) ?_;simp only[dC,dB];iterate 6 (apply sB rfl rfl;·(intro x h;(try cases h rfl);go_simp;with_reducible rfl))
 try simp only[pA]
 refine eW (v:=.bool qh) (f:=182) (args:=#[V.bv i,.int .i64 m.src]) rfl (fun z hz=>by subst hz;go_simp;try rfl) (fun z hz=>by subst hz;exact K.out) ?_;(try simp only[pA]);iterate 1 (apply sB rfl rfl;·(intro x h;(try cases h rfl);go_simp;with_reducible rfl))
 refine cP ?_;try simp only[pA]
 clear m1 t;generalize a5:W0.drew.drew=wr;have a:=cN (show HrSt W wr own y x V m from a5▸A.out.drew.drew);clear a5 K b3 A;rcases c4 with o|o
 ·have HR:Hid (z=x):=by
   show _=_;rw[←HZ.out,D.out,G.out,if_pos o,if_pos o,fX,←O.out.1,bH]
  clear D G HZ;subst o;go_wp2_with fail
  ((try simp only[Exit.inBlock,Exit.then]);refine bodyPost_ret (results_none rfl _ _ _) rfl ?_)
  refine⟨rfl,?_⟩;rw[HR.out];exact RmTo.behind (S:=NoS) (Chg.of_below a.out.be) (fun _ _ h=>h.elim) (RmTo.of a.out.rm)
 ·have L:¬qh=true:=by rw[o];decide
  have HR:Hid (z=if((c.back++[m.src]).length:Int)=x.cf.f+1 then dP x i (fP {c with back:=c.back++[m.src]} c.fres c.ftok) (jX {c with back:=c.back++[m.src]} c.fres c.fown c.ftok)else dP x i {c with back:=c.back++[m.src]} []):=by
   show _=_;rw[←HZ.out,D.out,G.out,if_neg L,if_neg L];by_cases b:((c.back++[m.src]).length:Int)=x.cf.f+1
   ·rw[if_pos b,if_pos b,if_pos b]
   ·rw[if_neg b,if_neg b,if_neg b]
  clear HZ D G L;subst o;have F:=cN (a.out.rc hi O.out.1 O.out.2);go_wp2_with fail;have t:wr.cell? ⟨B,71,none⟩=some (V.bv i):=F.out.cell 71 _ rfl;have m1:wr.cell? ⟨W.heap.size,1,none⟩=some (.int .i64 m.src):=cO a.out.bm 1 _ rfl;refine rlx [0,0,0,0,1,0,1,2] (fun z=>z.cell? ⟨B,71,none⟩=some (V.bv i)∧z.cell? ⟨W.heap.size,1,none⟩=some (.int .i64 m.src)) (by kernel_rfl) (fun _ _ _ _=>rfl) ?_ ?_
  ·exact⟨t,m1⟩
  simp only[dC,dB];iterate 7 (apply sB rfl rfl;·(intro x h;(try have h:=h rfl);(try dsimp only at h);go_simp;with_reducible rfl))
  try simp only[pA]
  refine dI rfl (fun C hC=>?_);go_simp;have s:Chg NoS wr.drew (wr.drew.alloc (.cells #[.int .i64 m.src] 3)):=(Chg.refl _ _).alloc _;have b6:=aA wr.drew (.cells #[.int .i64 m.src] 3);refine hC _ _ ⟨s.cellN t,s.cellN m1⟩ ?_;clear hC C;refine cP ?_;refine wpList_append_lies _ rfl _ _ 25 rfl 0 3 ir _ 1 8 underlying25 c7 c9 c6 c1 rfl (by decide) (V.bv i) c.back.length (iE c.back) rfl (s.row (show wr.drew.ownsRow 0 3 1 (V.bv i) c.back.length (iE c.back)from F.out.back) (fun _ _ h=>h)) ⟨wr.heap.size,0,none⟩ 1 1 [.int .i64 m.src] rfl rfl (cR (cs:=[.int .i64 m.src]) b6) (by simp[Value.oneCell']) (by decide) (by unfold maxLen;omega) (by omega) (aI _) (wr.heap.size+1) (by simp) ?_;intro n d W7 k g Z b9;have J:Chg (fun q=>some q=(V.bv i).ownBlock) wr W7:=(s.of_drew.mono (T:=fun q=>some q=(V.bv i).ownBlock) (fun _ _ h=>h.elim)).trans (Chg.of_grown ⟨g.os,g.tape,g.output,g.size,g.block⟩) (fun _ _ h=>h);have c2:own B=7+5*i:=by rw[O.out.2];exact a.out.rm.clo i hi
  have l:=a.out.rm.bo i hi;have H:=J.kept F.out.blk (fun e=>by have:=l _ e.symm;omega);have a6:W7.cell? ⟨B,71,none⟩=some (V.bv i):=cO H 71 _ rfl;have a9:=cX H 71;have R:=(J.mono (T:=fun q=>own q=7+5*i∨own q=10+5*i) (fun q _ b=>Or.inr (l q b.symm))).trans (cY W7 B 71 (.slice (some ⟨n,0,none⟩) (c.back.length+1) d)) (fun q _ e=>by subst e;exact Or.inl c2);have P:(W7.setCell ⟨B,71,none⟩ (.slice (some ⟨n,0,none⟩) (c.back.length+1) d)).heap[B]?=some (.cells (rcL {c with back:=c.back++[m.src]} (V.mv i) (V.hv i) (.slice (some ⟨n,0,none⟩) (c.back.length+1) d)).toArray 182 (0,0)):=dD H 71 _;have d2:n≠B:=fN k H (by decide) n rfl;have M:=(cY W7 B 71 (.slice (some ⟨n,0,none⟩) (c.back.length+1) d)).row k (fun q b=>by simp[Value.ownBlock]at b;omega);have U:own n=10+5*i∨wr.heap.size≤n:=by
   rcases Z with h'|h'
   ·exact Or.inl (l n h')
   ·right;omega
  generalize b4:W7.setCell ⟨B,71,none⟩ (.slice (some ⟨n,0,none⟩) (c.back.length+1) d)=W8 at*;have b0:=cN b4;have a2:RmTo wr own y V {x with cls:=x.cls.set i {c with back:=c.back++[m.src]}} W8:=by
   refine a.out.rm.client hi (c':={c with back:=c.back++[m.src]}) (mv':=V.mv i) (hv':=V.hv i) (bv':=.slice (some ⟨n,0,none⟩) (c.back.length+1) d) (R.mono (fun q _ e=>by omega)) ⟨by rw[←O.out.2];exact P,?_,?_,?_⟩ (fun q b=>Or.inl (a.out.rm.mo i hi q b)) (fun q b=>Or.inl (a.out.rm.ho i hi q b)) (fun q b=>by have:n=q:=(by simpa[Value.ownBlock]using b);subst this;exact U) (fun q h1 h2=>by have:=a.out.rm.mo i hi q h1;exact a.out.rm.lt q (by omega))
   ·exact R.row F.out.mine (fun q b e=>by have:=a.out.rm.mo i hi q b;omega)
   ·exact R.row F.out.heard (fun q b e=>by have:=a.out.rm.ho i hi q b;omega)
   ·show W8.ownsRow 0 _ 1 _ (c.back++[m.src]).length (iE (c.back++[m.src]));have e1:(c.back++[m.src]).length=c.back.length+1:=by simp
    have e2:iE (c.back++[m.src])=iE c.back++[.int .i64 m.src]:=by simp[iE]
    rw[e1,e2];exact M
  obtain⟨c0,V1,h1,b1,b8,Y,X⟩:=a2;have d6:W8.cell? ⟨B,71,none⟩=some (.slice (some ⟨n,0,none⟩) (c.back.length+1) d):=cO P 71 _ rfl;have c8:=cN (show∀j u,(evL (fEv c.fres c.fown c.ftok))[j]?=some u→W8.drew.cell? ((⟨B,52,none⟩:Addr).add j)=some u from eL (W:=W8.drew) P 52 _ (fun j u hj=>by
   have d4:j<19:=(aF.1 hj).1;rcases j with _|_|_|_|_|_|_|_|_|_|_|_|_|_|_|_|_|_|_|j<;>first|exact hj|omega))
  have y0:W8.cell? ⟨y,0,none⟩=some (.int .i64 x.cf.f):=h1.cell 0 _ rfl;have w1:IntKind.i64.wrap (x.cf.f+1)=x.cf.f+1:=fV (by omega) (by omega);have p:=cN (aLr h1 b1 b8 Y X);clear b4 g Z b9 k J s b6 l d2 M U t m1 h1 b1 b8 Y X H P R;(try simp only[pA]);by_cases b:((c.back++[m.src]).length:Int)=x.cf.f+1
  ·have hR:=HR.out;rw[if_pos b,←sQ x i {c with back:=c.back++[m.src]},qI]at hR;have a3:=cN hR;have c5:(((c.back.length:Int)+1)==x.cf.f+1)=true:=by simp at b;simp;omega
   have b7:({x with cls:=x.cls.set i {c with back:=c.back++[m.src]}}:Rm).cls[i]'(by simpa using hi)={c with back:=c.back++[m.src]}:=by simp
   have a7:=cN (vI W8.drew c0 y {x with cls:=x.cls.set i {c with back:=c.back++[m.src]}} V1 i {c with back:=c.back++[m.src]} x.cf N p.out.1.drew (by simpa using hi) b7 ⟨ha.d0,ha.d3,ha.i0,ha.i1,ha.k0,ha.k1,ha.r0,ha.r1,ha.w⟩ ⟨hbs.l0,hbs.l3,hbs.t0,hbs.t1,hbs.g0,hbs.g1,hbs.n0,hbs.n8,hbs.a0,hbs.a1,hbs.mine,hbs.heard,by show(c.back++[m.src]).length≤5;simp;omega⟩ hN c.fres c.fown c.ftok (by show x.tr.length≤_;omega));rw[p.out.2.2.1,←O.out.2]at a7;clear hR b b7 HR;go_wp2_with (first|rw[b0.out]);clear a6 a9;refine eD [0,0,0,1,1,0,0,0,0,1,0,0] (by kernel_rfl) (fun _ _ _ _=>rfl) ?_;simp only[dC,dB];iterate 12 (apply sB rfl rfl;·(intro x h;(try cases h rfl);go_simp;with_reducible rfl))
   refine cP ?_;try simp only[pA]
   go_wp2_with (first|(refine cW rfl 70 _ rfl ⟨B,52,none⟩ rfl (evL (fEv c.fres c.fown c.ftok)) _ c8.out underlying70 rfl (by kernel_rfl) ?_)|(go_at_call 180;refine a7.out.mono ?_;rintro e W9 ⟨rfl,a2⟩));go_end0;refine⟨rfl,?_⟩;rw[a3.out];exact RmTo.behind (S:=NoS) (Chg.of_below a.out.be) (fun _ _ h=>h.elim) (RmTo.trans p.out.2.1 p.out.2.2.1 p.out.2.2.2.1 p.out.2.2.2.2 a2.drew)
  ·have hR:=HR.out;rw[if_neg b,fX]at hR;have a3:=cN hR;have c5:(((c.back.length:Int)+1)==x.cf.f+1)=false:=by simp at b;simp;omega
   clear hR b HR;go_wp2_with (first|rw[b0.out]);clear a6 a9;refine eD [0,0,0,1,1,0,0,0,0,1,0,0] (by kernel_rfl) (fun _ _ _ _=>rfl) ?_;simp only[dC,dB];iterate 12 (apply sB rfl rfl;·(intro x h;(try cases h rfl);go_simp;with_reducible rfl))
   refine cP ?_;try simp only[pA]
   go_wp2_with fail;go_end0;refine⟨rfl,?_⟩;rw[a3.out];exact RmTo.behind (S:=NoS) (Chg.of_below a.out.be) (fun _ _ h=>h.elim) (RmTo.trans p.out.2.1 p.out.2.2.1 p.out.2.2.2.1 p.out.2.2.2.2 (RmTo.of p.out.1 |>.after (S:=NoS) (Chg.refl _ _).drew (fun _ _ h=>h)))
end Go.Proofs.YtbbdgokdfhdpiaaGreatDoor
