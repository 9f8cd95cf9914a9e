/- A part of the proof: RfDec, RfHr, RfHr2, RfHr4. -/
import Derived.Test.YtbbdgokdfhdpiaaGreatDoorA13
import Derived.Test.YtbbdgokdfhdpiaaGreatDoorA16
namespace Go.Proofs.YtbbdgokdfhdpiaaGreatDoor
set_option linter.all false
set_option maxRecDepth 100000
set_option maxHeartbeats 40000000
open Go.Proofs.Tryz Go.RowKit
theorem aHn(l:List Mg)(k:Nat)(hk:k<l.length):jR (l.take (k+1))=pV (jR (l.take k)) l[k]:=by
 rw[List.take_succ_eq_append_getElem hk,aAQ]
structure lI(v:Vl):Prop where
 t0:0≤v.ttl
 t1:v.ttl≤1000
 s0:0≤v.seq
 s1:v.seq≤2147483647
theorem aJB(l:List Mg)(h:∀m ∈ l,lI m.val):lI (jR l).2:=by
 have b:∀(l:List Mg) (p:Int×Vl),lI p.2→(∀m ∈ l,lI m.val)→lI (l.foldl pV p).2:=by
  intro l;induction l with
  |nil=>intro p a _;exact a
  |cons m l ih=>
   intro p a c;refine ih _ ?_ (fun m' h'=>c m' (cF _ h'));unfold pV;split
   ·exact c m (cE ..)
   ·exact a
 exact b l _ ⟨by decide,by decide,by decide,by decide⟩ h
structure DcSt(W0 W:World)(own:Nat→Nat)(y:Nat)(x:Rm)(V:RmV)(v:Vl):Prop where
 rm:RmAt W own y x V
 bv:W.heap[W0.heap.size]?=some (.cells (vlL v).toArray 56 (0,0))
 be:Below W0.heap.size W0 W
 o:own W0.heap.size=0
theorem DcSt.put{W0 W W':World}{own:Nat→Nat}{y:Nat}{x:Rm}{V:RmV}{v v':Vl}(h:DcSt W0 W own y x V v)(hc:Chg (fun k=>k=W0.heap.size) W W')(hb:W'.heap[W0.heap.size]?=some (.cells (vlL v').toArray 56 (0,0))):DcSt W0 W' own y x V v':=
 ⟨h.rm.kept hc (fun k hk e=>by subst e;exact hk h.o),hb,h.be.trans (hc.below (fun k hk=>by omega) h.be.size),h.o⟩
theorem nU{W:World}{v:Value}{l:List Mg}(h:W.ownsRow 0 66 10 v l.length (cZ mgL l)):∃p cap,v= .slice p l.length cap∧∀(k:Nat) (hk:k<l.length),∃g,p=some ⟨g,0,none⟩∧g<W.heap.size∧∀j u,(mgL l[k])[j]?=some u→W.cell? ⟨g,k*10+j,none⟩=some u:=by
 have b:=h.lt;have d:=h;rcases h.2 with⟨rfl,c⟩|⟨g,cap,e,rfl,_⟩
 ·exact⟨none,0,by rw[c],fun k hk=>by omega⟩
 ·refine⟨some ⟨g,0,none⟩,cap,rfl,fun k hk=>⟨g,rfl,(b g rfl).2,fun j u hj=>?_⟩⟩;have a:j<10:=by
   have:=(aF.1 hj).1;simpa using this
  rw[d.cellAt (k*10+j) (by omega),lY mgL (fun _=>rfl) l k hk j a];exact hj
theorem aCF:(prog.info? 3).map (fun i=>(i.zero,i.size,i.bytes))=some (some (.int .i64 0),1,8):=by kernel_rfl
theorem aCZ(W:World)(own:Nat→Nat)(y:Nat)(x:Rm)(V:RmV)(i:Nat)(c:Rc)(N:Int)(h:RmAt W own y x V)(hi:i<x.cls.length)(hc:x.cls[i]=c)(ha:RcA N c)(hbs:RcB x.cf N c)(hN:N≤90000000000)(hx5:x.acs.length≤5)(hn:x.net.length≤99999999990)(ht:x.tr.length≤99999999990)(hv:∀m ∈ c.heard,lI m.val)(hd0:0≤x.cf.drift)(hd1:x.cf.drift≤10):
 Calls prog 181 #[.pointer (some ⟨y,0,none⟩),.pointer (some ⟨V.bC i,0,none⟩)] W fun r W'=>r= .returned (.tuple #[])∧RmTo W own y V (dP x i (kV x.cf c) (lB x.cf x.acs.length c)) W':=by
 obtain⟨ir,q6,p5,o1,p6⟩:=info_parts aCF;have b0:=aJB c.heard hv;obtain⟨B,hB⟩:=aLw (V.bC i);rw[←hB];have r3:=hbs.heard;obtain⟨w,hw⟩:=aLx (iV x.cf c (jR c.heard).2);obtain⟨⟨d,R,P,O⟩,ok⟩:=w;have b2:=cN (fun Z (hZ:RmAt Z own y x V)=>aCX Z own y x V i c N (jR c.heard).2 hZ hi hc ha hbs hN b0.t0 b0.t1 b0.s0 b0.s1 hd0 hd1);rw[hw,←hB]at b2;dsimp only at b2;have f9:kV x.cf c=if ok=false then fP c 5 0 else jG c ⟨d,R,P,O⟩:=by unfold kV;rw[hw]
 have g0:lB x.cf x.acs.length c=if ok=false then jV c 5 0 0 else gV (jG c ⟨d,R,P,O⟩) 3 (jR c.heard).1 d x.acs.length:=by unfold lB;rw[hw]
 obtain⟨dS,j8⟩:=aLx (kV x.cf c);obtain⟨dE,j1⟩:=aLx (lB x.cf x.acs.length c);rw[j8]at f9⊢;rw[j1]at g0⊢;have i7:=cN f9;have g6:=cN g0;have HC:=cN (aLl hc hB);have m7:=cN (fun Z (hZ:RmAt Z own y x V)=>vA Z own y x V i c x.cf N hZ hi hc ha hbs hN 5 0 0 (by omega));rw[←hB]at m7;have j0:=aA W (.cells #[.int .i64 0,.int .i64 0,.int .i64 0,.int .i64 0] 56);have l5:DcSt W (W.alloc (.cells #[.int .i64 0,.int .i64 0,.int .i64 0,.int .i64 0] 56)) own y x V zVl:=⟨h.alloc _,j0,(aJ _ W).alloc (aE _) _,vF h (aE _)⟩;generalize k6:W.alloc (.cells #[.int .i64 0,.int .i64 0,.int .i64 0,.int .i64 0] 56)=W0 at*;have l2:=cN k6;have f5:=cN l5;clear k6 j0 l5 hw f9 g0 j8 j1 hc hB h b0 hv;go_enter func181,ntmps181;go_wp2_with (first|rw[l2.out]|(refine cV rfl 56 _ _ rfl (W.heap.size) 0 56 _ _ (vlL zVl) rfl rfl f5.out.bv (by kernel_rfl) (by simp[Value.oneCell']) (by simp) rfl ?_;intro W1 l7 o5 j5;refine cQ ?_));have j4:=cN (f5.out.put l7 j5);clear l7 o5 j5;refine cN ?_;go_wp2_with fail;go_loopw [4,6] (fun bb i' wr=>∃(k:Nat),k≤c.heard.length∧i'= .int .i64 k∧bb= .int .i64 (jR (c.heard.take k)).1∧DcSt W wr own y x V (jR (c.heard.take k)).2) (fun _ i' _=>c.heard.length-(intOf i').toNat)
 case atStart=>exact⟨0,aI _,rfl,rfl,j4.out⟩
 case round=>
  clear j4 f5 l2;obtain⟨k,hk,rfl,rfl,E⟩:=hrel;have d2:=cN E;have s:=E.rm.cls i hi;rw[HC.out.1]at s;obtain⟨ph,n2,i3,g3⟩:=nU s.heard;have p9:wr.cell? ⟨B,46,none⟩=some (.slice ph c.heard.length n2):=by rw[HC.out.2,←i3];exact s.cell 46 _ rfl
  by_cases d4:k<c.heard.length
  ·obtain⟨g,rfl,r6,g7⟩:=g3 k d4;have k9:=aHn c.heard k d4;have r2:(k:Int)<(c.heard.length:Int):=by omega
   generalize c.heard[k]=m at*;obtain⟨p1,p2⟩:∃a b,a=(jR (c.heard.take k)).1∧b=(jR (c.heard.take k)).2:=⟨_,_,rfl,rfl⟩;obtain⟨vb,i2,m3⟩:=p2;have c5:wr.cell? ⟨g,k*10+5,none⟩=some (.int .i64 m.base):=g7 5 _ rfl;have c4:Hid (∀j u,(vlL m.val)[j]?=some u→wr.cell? ((⟨g,k*10+6,none⟩:Addr).add j)=some u):=fun j u hj=>by
    have r1:j<4:=(aF.1 hj).1;have e:(⟨g,k*10+6,none⟩:Addr).add j=⟨g,k*10+(6+j),none⟩:=by unfold Addr.add;split<;>simp_all [Nat.add_assoc]
    rw[e];refine g7 (6+j) u ?_;rcases j with _|_|_|_|j<;>first|exact hj|omega
   have m6:=cN k9;rw[←i2];have HP:=cN (aLl i2 m3);clear g3 g7 s i3 k9 i2 m3 E;by_cases b1:p1<m.base
   ·have hb:decide (p1<m.base)=true:=by simp[b1]
    have a7:Hid (jR (c.heard.take (k+1))=(m.base,m.val)):=by
     show _=_;rw[m6.out];unfold pV;rw[←HP.out.1,if_pos b1]
    clear b1;go_wp2_with (first|(refine cW rfl 56 _ rfl ⟨g,k*10+6,none⟩ rfl (vlL m.val) _ c4.out underlying56 rfl (by kernel_rfl) ?_)|(refine cV rfl 56 _ _ rfl (W.heap.size) 0 56 _ _ (vlL m.val) rfl rfl d2.out.bv (by kernel_rfl) (by simp[Value.oneCell']) (by simp) rfl ?_;intro W2 j3 q4 m0;refine cQ ?_));have o2:=cN (d2.out.put j3 m0);clear j3 q4 m0;refine cN ?_;go_wp2_with fail;go_roundw
    case rel=>exact⟨k+1,by omega,by go_num,by rw[a7.out],by rw[a7.out];exact o2.out⟩
    case measure=>simp[intOf];omega
   ·have hb:decide (p1<m.base)=false:=by simp;omega
    have a7:Hid (jR (c.heard.take (k+1))=jR (c.heard.take k)):=by
     show _=_;rw[m6.out];unfold pV;rw[←HP.out.1,if_neg b1]
    clear b1;go_wp2_with fail;go_roundw
    case rel=>exact⟨k+1,by omega,by go_num,by rw[a7.out,←HP.out.1],by rw[a7.out];exact d2.out⟩
    case measure=>simp[intOf];omega
  ·have g4:k=c.heard.length:=by omega
   subst g4;rw[bR]at E⊢;obtain⟨bs,e9⟩:=aLx ((jR c.heard).1);obtain⟨v,l9⟩:=aLx ((jR c.heard).2);rw[l9]at E b2;rw[e9]at g6⊢;have HD:=cN E;have c4:=cN (show∀j u,(vlL v)[j]?=some u→wr.cell? ((⟨W.heap.size,0,none⟩:Addr).add j)=some u from cR E.bv);have m5:=cN (b2.out wr E.rm);clear E s i3 g3 l9 e9 d2 b2;go_wp2_with (first|(refine cW rfl 56 _ rfl ⟨W.heap.size,0,none⟩ rfl (vlL v) _ c4.out underlying56 rfl (by kernel_rfl) ?_)|(go_at_call 215;refine m5.out.mono ?_;rintro e K ⟨rfl,g2⟩;refine cQ ?_));have h3:=HD.out.rm.kept (Chg.of_below (S:=NoS) g2) (fun _ _ h=>h);have j9:Below W.heap.size W K:=HD.out.be.trans (g2.mono HD.out.be.size);have H3:=cN (aLl h3 j9);clear p9 c4 g2 h3 j9 m5;refine cN ?_;have f0:=dM (.cells #[.int .i64 0,.int .i64 0,.int .i64 0,.int .i64 0,.int .i64 0,.int .i64 0,.int .i64 0,.int .i64 0,.int .i64 0,.int .i64 0,.int .i64 0,.int .i64 0,.int .i64 0,.int .i64 0,.int .i64 0,.int .i64 0,.int .i64 0,.int .i64 0,.int .i64 0] 70) (aA K (.cells #[.int .i64 0,.int .i64 0,.int .i64 0,.int .i64 0] 56));have b8:=aA (K.alloc (.cells #[.int .i64 0,.int .i64 0,.int .i64 0,.int .i64 0] 56)) (.cells #[.int .i64 0,.int .i64 0,.int .i64 0,.int .i64 0,.int .i64 0,.int .i64 0,.int .i64 0,.int .i64 0,.int .i64 0,.int .i64 0,.int .i64 0,.int .i64 0,.int .i64 0,.int .i64 0,.int .i64 0,.int .i64 0,.int .i64 0,.int .i64 0,.int .i64 0] 70)
   have l6:Chg NoS K ((K.alloc (.cells #[.int .i64 0,.int .i64 0,.int .i64 0,.int .i64 0] 56)).alloc (.cells #[.int .i64 0,.int .i64 0,.int .i64 0,.int .i64 0,.int .i64 0,.int .i64 0,.int .i64 0,.int .i64 0,.int .i64 0,.int .i64 0,.int .i64 0,.int .i64 0,.int .i64 0,.int .i64 0,.int .i64 0,.int .i64 0,.int .i64 0,.int .i64 0,.int .i64 0] 70)):=((Chg.refl _ _).alloc _).alloc _;generalize l1:(K.alloc (.cells #[.int .i64 0,.int .i64 0,.int .i64 0,.int .i64 0] 56)).alloc (.cells #[.int .i64 0,.int .i64 0,.int .i64 0,.int .i64 0,.int .i64 0,.int .i64 0,.int .i64 0,.int .i64 0,.int .i64 0,.int .i64 0,.int .i64 0,.int .i64 0,.int .i64 0,.int .i64 0,.int .i64 0,.int .i64 0,.int .i64 0,.int .i64 0,.int .i64 0] 70)=W4 at*;have m2:=cN l1;simp only[bK]at b8;have g5:=cN (aLl f0 b8);have j2:=cN l6;clear l1 f0 b8 l6;go_wp2_with (first|rw[m2.out]|(refine cV rfl 56 _ _ rfl (K.heap.size) 0 56 _ _ (vlL d) rfl rfl g5.out.1 (by kernel_rfl) (by simp[Value.oneCell']) (by simp) rfl ?_;intro W5 f2 n9 l4;refine cQ ?_));have d7:=f2.kept g5.out.2 (by omega);have d9:Chg (fun q=>q=K.heap.size) K W5:=j2.out.nos.trans f2 (fun _ _ h=>h);have H5:=cN (aLm l4 d7 d9);clear f2 n9 l4 d7 d9;refine cN ?_;go_wp2_with (first|(refine cV rfl 70 _ _ rfl (K.heap.size+1) 0 70 _ _ (evL (fEv R P O)) rfl rfl H5.out.2.1 (by kernel_rfl) (by simp[Value.oneCell']) (by simp) rfl ?_;intro o h8 p7 f4;refine cQ ?_))
   have b9:Chg (fun q=>q=K.heap.size∨q=K.heap.size+1) K o:=(H5.out.2.2.mono (fun _ _ h=>Or.inl h)).trans h8 (fun _ _ h=>Or.inr h);have b4:=h8.kept H5.out.1 (by omega);have h6:=H3.out.1.kept b9 (fun q hq e=>by have:=H3.out.1.lt q hq;omega);have o7:own K.heap.size=0:=vF H3.out.1 (aE _);have o8:own (K.heap.size+1)=0:=vF H3.out.1 (by omega);have l0:Below W.heap.size W o:=H3.out.2.trans (b9.below (fun q hq=>by have:=H3.out.2.size;omega) H3.out.2.size);obtain⟨n3,i6⟩:=aLx (K.heap.size);simp only[i6];rw[i6]at b4 o7 o8 f4;have p:=cN (aLp h6 b4 f4 o7 o8 l0);clear h8 p7 f4 b9 b4 h6 o7 o8 l0 H5 g5 j2 m2 H3 HD i6;refine cN ?_;cases ok
   ·have h7:Hid (dP x i dS dE={x with cls:=x.cls.set i (fP c 5 0),tr:=x.tr++jV c 5 0 0}):=by
     show _=_;rw[i7.out,g6.out];simp only[if_true,ite_true];rw[qK]
    have q2:=cN (m7.out o p.out.1);go_wp2_with (go_at_call 180;refine q2.out.mono ?_;rintro e W7 ⟨rfl,D⟩)
    ((try simp only[Exit.inBlock,Exit.then]);refine bodyPost_ret (results_none rfl _ _ _) rfl ?_)
    refine⟨rfl,?_⟩;rw[h7.out];exact RmTo.behind (S:=NoS) (Chg.of_below p.out.2.2.2.2.2) (fun _ _ h=>h.elim) D
   ·have h7:Hid (dP x i dS dE=dP x i (jG c ⟨d,R,P,O⟩) (gV (jG c ⟨d,R,P,O⟩) 3 bs d x.acs.length)):=by
     show _=_;rw[i7.out,g6.out];simp only[reduceCtorEq,if_false,ite_false]
    have s:=p.out.1.cls i hi;rw[HC.out.1]at s;rw[←HC.out.2]at s;have k7:o.cell? ⟨B,38,none⟩=some (.int .i64 c.kind):=s.cell 38 _ rfl;have d3:o.cell? ⟨B,44,none⟩=some (.int .i64 c.bal):=s.cell 44 _ rfl;have n1:o.cell? ⟨n3,1,none⟩=some (.int .i64 d.tok):=cO p.out.2.1 1 _ rfl;have k2:o.cell? ⟨n3,3,none⟩=some (.int .i64 d.seq):=cO p.out.2.1 3 _ rfl;have H:=cN s;clear s;have q0:((c.kind==1)=true∧(d.tok==c.bal)=true∧tR c d=true)∨((c.kind==1)=false∧(c.kind==3)=true∧(d.seq==c.bal)=true∧tR c d=true)∨((c.kind==1)=true∧(d.tok==c.bal)=false∧(c.kind==3)=false∧tR c d=false)∨((c.kind==1)=false∧(c.kind==3)=true∧(d.seq==c.bal)=false∧tR c d=false)∨((c.kind==1)=false∧(c.kind==3)=false∧tR c d=false):=by
     unfold tR;by_cases a1:c.kind=1<;>by_cases a2:c.kind=3<;>by_cases a3:d.tok=c.bal<;>by_cases a4:d.seq=c.bal<;>simp[a1,a2,a3,a4]<;>omega
    rcases q0 with⟨k1,t1,hm⟩|⟨k1,k3,t1,hm⟩|⟨k1,t1,k3,hm⟩|⟨k1,k3,t1,hm⟩|⟨k1,k3,hm⟩;all_goals
     go_wp2_with fail;refine eD [0,0,0,0,1,0,0,0,1,0,0,0,1,0,0,0,0,0,0,0,1,0,0,0,1,0,0,0,1,0,0,0] (by kernel_rfl) (fun _ _ _ _=>rfl) ?_;simp only[dC,dB];iterate 32 ((try simp only[pA]);first|(apply sB rfl rfl;·(intro x h;(try cases h rfl);go_simp;with_reducible rfl))|apply dN rfl|apply dL rfl)
     refine cP ?_;try simp only[pA]
     have c3:own B=7+5*i:=by rw[HC.out.2];exact p.out.1.clo i hi
    all_goals first
     |have HM:Hid (tR c d=true):=cN hm
      go_wp2_with fail;clear k7 n1 k2;have i0:o.cell? ⟨B,43,none⟩=some (V.mv i):=H.out.cell 43 _ rfl;refine rlx [0,0,0,0,1,0,0,0,1,2] (fun z=>z.cell? ⟨B,43,none⟩=some (V.mv i)∧z.cell? ⟨B,44,none⟩=some (.int .i64 c.bal)) (by kernel_rfl) (fun _ _ _ _=>rfl) ?_ ?_
      ·exact⟨i0,d3⟩
      simp only[dC,dB];iterate 9 (apply sB rfl rfl;·(intro x h;(try have h:=h rfl);(try dsimp only at h);go_simp;with_reducible rfl))
      try simp only[pA]
      refine dI rfl (fun C hC=>?_);go_simp;have a6:Chg NoS o.drew.drew (o.drew.drew.alloc (.cells #[.int .i64 c.bal] 3)):=(Chg.refl _ _).alloc _;have m4:=aA o.drew.drew (.cells #[.int .i64 c.bal] 3);refine hC _ _ ⟨a6.cellN i0,a6.cellN d3⟩ ?_;clear hC C;refine cP ?_;have r0:=hbs.mine;refine wpList_append_lies _ rfl _ _ 25 rfl 0 3 ir _ 1 8 underlying25 q6 p5 o1 p6 rfl (by decide) (V.mv i) c.mine.length (iF c.mine) rfl (a6.row (show o.drew.drew.ownsRow 0 3 1 (V.mv i) c.mine.length (iF c.mine)from H.out.mine) (fun _ _ h=>h)) ⟨o.heap.size,0,none⟩ 1 1 [.int .i64 c.bal] rfl rfl (cR (cs:=[.int .i64 c.bal]) m4) (by simp[Value.oneCell']) (by decide) (by unfold maxLen;omega) (by omega) (aI _) (o.heap.size+1) (by simp) ?_;intro Q l W7 M A d5 n8;have b5:Chg (fun q=>some q=(V.mv i).ownBlock) o W7:=(a6.of_drew.of_drew.mono (T:=fun q=>some q=(V.mv i).ownBlock) (fun _ _ h=>h.elim)).trans (Chg.of_grown ⟨A.os,A.tape,A.output,A.size,A.block⟩) (fun _ _ h=>h);have Y:=p.out.1.mo i hi;have a5:=b5.kept H.out.blk (fun e=>by have:=Y _ e.symm;omega);have p4:W7.cell? ⟨B,43,none⟩=some (V.mv i):=cO a5 43 _ rfl;have p3:=cX a5 43;have f8:=(b5.mono (T:=fun q=>own q=7+5*i∨own q=8+5*i) (fun q _ hq=>Or.inr (Y q hq.symm))).trans (cY W7 B 43 (.slice (some ⟨Q,0,none⟩) (c.mine.length+1) l)) (fun q _ e=>by subst e;exact Or.inl c3)
      have a8:(W7.setCell ⟨B,43,none⟩ (.slice (some ⟨Q,0,none⟩) (c.mine.length+1) l)).heap[B]?=some (.cells (rcL {c with mine:=c.mine++[c.bal]} (.slice (some ⟨Q,0,none⟩) (c.mine.length+1) l) (V.hv i) (V.bv i)).toArray 182 (0,0)):=dD a5 43 _;have q3:Q≠B:=fN M a5 (by decide) Q rfl;have c1:=(cY W7 B 43 (.slice (some ⟨Q,0,none⟩) (c.mine.length+1) l)).row M (fun q hq=>by simp[Value.ownBlock]at hq;omega);have d8:own Q=8+5*i∨o.heap.size≤Q:=by
       rcases d5 with h'|h'
       ·exact Or.inl (Y Q h')
       ·right;omega
      generalize l8:W7.setCell ⟨B,43,none⟩ (.slice (some ⟨Q,0,none⟩) (c.mine.length+1) l)=W8 at*;have o3:=cN l8;have f6:=cN (aLl c1 d8);clear l8 A d5 n8 M b5 a6 m4 Y q3 c1 d8 d3 i0;have i9:Hid (jG c ⟨d,R,P,O⟩={c with mine:=c.mine++[c.bal],asked:=true,next:=d,fres:=R,fown:=P,ftok:=O}):=by
       show _=_;unfold jG;dsimp only;rw[HM.out];rfl
      have L:Hid (W8.ownsRow 0 3 1 (.slice (some ⟨Q,0,none⟩) (c.mine.length+1) l) (c.mine++[c.bal]).length (iF (c.mine++[c.bal]))∧∀q,(Value.slice (some ⟨Q,0,none⟩) (c.mine.length+1) l).ownBlock=some q→own q=8+5*i∨o.heap.size≤q):=by
       have e1:(c.mine++[c.bal]).length=c.mine.length+1:=by simp
       have e2:iF (c.mine++[c.bal])=iF c.mine++[.int .i64 c.bal]:=by simp[iF]
       rw[e1,e2];exact⟨f6.out.1,fun q hq=>by have:Q=q:=(by simpa[Value.ownBlock]using hq);subst this;exact f6.out.2⟩
      clear f6;generalize c.mine++[c.bal]=mn at*;obtain⟨mv,a9⟩:=aLw (Value.slice (some ⟨Q,0,none⟩) (c.mine.length+1) l);rw[←a9]at a8 L;clear a9
     |have HM:Hid (tR c d=false):=cN hm
      clear k7 n1 k2 d3;have L:Hid (o.drew.ownsRow 0 3 1 (V.mv i) c.mine.length (iF c.mine)∧∀q,(V.mv i).ownBlock=some q→own q=8+5*i∨o.heap.size≤q):=⟨H.out.mine,fun q hq=>Or.inl (p.out.1.mo i hi q hq)⟩;obtain⟨mn,c6⟩:=aLw (c.mine);have a8:o.drew.heap[B]?=some (.cells (rcL {c with mine:=mn} (V.mv i) (V.hv i) (V.bv i)).toArray 182 (0,0)):=by rw[c6];exact H.out.blk
      have f8:Chg (fun q=>own q=7+5*i∨own q=8+5*i) o o.drew:=((Chg.refl NoS o).drew).nos;have i9:Hid (jG c ⟨d,R,P,O⟩={c with mine:=mn,asked:=true,next:=d,fres:=R,fown:=P,ftok:=O}):=by
       rw[c6];show _=_;unfold jG;dsimp only;rw[HM.out];rfl
      rw[←c6]at L;obtain⟨mv,a9⟩:=aLw (V.mv i);rw[←a9]at L a8;generalize o.drew=W8 at*;clear c6 a9
    all_goals
     (try simp only[pA]);have J:=a8;have q7:W8.cell? ⟨B,47,none⟩=some (.bool c.asked):=cO J 47 _ rfl;have o9:=cX J 47;have l3:(W8.setCell ⟨B,47,none⟩ (.bool true)).heap[B]?=some (.cells (rcL {c with mine:=mn,asked:=true} mv (V.hv i) (V.bv i)).toArray 182 (0,0)):=dD J 47 _;have d1:=f8.trans (cY W8 B 47 (.bool true)) (fun q _ e=>by subst e;exact Or.inl c3);generalize h5:W8.setCell ⟨B,47,none⟩ (.bool true)=W9 at*;have p0:=cN h5;have i8:=cN l3;have k8:=cN d1;have h0:=d1.kept p.out.2.1 (fun e=>by have:=p.out.2.2.2.1;omega);have m9:=d1.kept p.out.2.2.1 (fun e=>by have:=p.out.2.2.2.2.1;omega);have j6:=cN (show∀j u,(vlL d)[j]?=some u→W9.cell? ((⟨n3,0,none⟩:Addr).add j)=some u from cR h0);have h9:=cN (aLl h0 m9);have b3:=cN c3;have q5:=cN J;have n5:=cN (show Chg (fun q=>q=B) W8 W9 from by rw[←h5];exact cY W8 B 47 (.bool true));clear h5 l3 d1 h0 m9 J c3;go_wp2_with (first|rw[p0.out]|rw[o3.out]|(refine cW rfl 56 _ rfl ⟨n3,0,none⟩ rfl (vlL d) _ j6.out underlying56 rfl (by kernel_rfl) ?_)|(refine cV rfl 56 _ _ rfl (B) 48 182 _ _ (rcL {c with mine:=mn,asked:=true,next:=d} mv (V.hv i) (V.bv i)) rfl rfl i8.out (by kernel_rfl) (by simp[Value.oneCell']) (by simp) rfl ?_;intro q1 I n7 e6;refine cQ ?_));have o6:=cN (n5.out.trans I (fun _ _ h=>h));have c0:=k8.out.trans I (fun q _ e=>by subst e;exact Or.inl b3.out);have e5:=I.kept h9.out.2 (fun e=>by have h1:=b3.out;rw[←e]at h1;have:=p.out.2.2.2.2.1;omega);have e8:=I.kept h9.out.1 (fun e=>by have h1:=b3.out;rw[←e]at h1;have:=p.out.2.2.2.1;omega)
     have k4:=cN (show∀j u,(evL (fEv R P O))[j]?=some u→q1.cell? ((⟨n3+1,0,none⟩:Addr).add j)=some u from cR e5);have e0:=cN e6;have b7:=cN (aLl c0 e8);clear I n7 e6 c0 e5 e8 q7 o9;try clear p4 p3 a5
     clear a8 f8;refine cN ?_;go_wp2_with (first|(refine cW rfl 70 _ rfl ⟨n3+1,0,none⟩ rfl (evL (fEv R P O)) _ k4.out underlying70 rfl (by kernel_rfl) ?_)|(refine cV rfl 70 _ _ rfl (B) 52 182 _ _ (rcL {c with mine:=mn,asked:=true,next:=d,fres:=R,fown:=P,ftok:=O} mv (V.hv i) (V.bv i)) rfl rfl e0.out (by kernel_rfl) (by simp[Value.oneCell']) (by simp) rfl ?_;intro g8 a0 n6 f1;refine cQ ?_));have F:=b7.out.1.trans a0 (fun q _ e=>by subst e;exact Or.inl b3.out);have e3:=a0.kept b7.out.2 (fun e=>by have h1:=b3.out;rw[←e]at h1;have:=p.out.2.2.2.1;omega);obtain⟨f,g9⟩:=aLx (jG c ⟨d,R,P,O⟩);have t:f={c with mine:=mn,asked:=true,next:=d,fres:=R,fown:=P,ftok:=O}:=by
      rw[←g9,i9.out]
     have D:RmTo o own y V {x with cls:=x.cls.set i f} g8:=by
      refine p.out.1.client hi (c':=f) (mv':=mv) (hv':=V.hv i) (bv':=V.bv i) (F.mono (fun q _ e=>by omega)) ⟨by rw[t,←HC.out.2];exact f1,?_,?_,?_⟩ L.out.2 (fun q hq=>Or.inl (p.out.1.ho i hi q hq)) (fun q hq=>Or.inl (p.out.1.bo i hi q hq)) (fun q h1 h2=>by have:=p.out.1.bo i hi q h2;exact p.out.1.lt q (by omega))
      ·rw[t];exact(o6.out.trans a0 (fun _ _ h=>h)).row L.out.1 (fun q hq e=>fN L.out.1 q5.out (by decide) q hq e)
      ·rw[t];exact F.row H.out.heard (fun q hq e=>by have:=p.out.1.ho i hi q hq;omega)
      ·rw[t];exact F.row H.out.back (fun q hq e=>by have:=p.out.1.bo i hi q hq;omega)
     obtain⟨U,V1,j7,m1,k5,e4,h4⟩:=D;have k0:U n3=0:=by
      rcases cC (U n3)with e|e
      ·exact e
      ·have:=h4 n3 (by omega);have h2:=p.out.2.2.2.1;have h3:=dG p.out.2.1;omega
     have d6:=cN (show dP x i dS dE=dP x i f (gV f 3 bs d x.acs.length)from by rw[h7.out,g9]);have G:=cN (aLq j7 m1 k5 e4 h4 k0 e3);have q9:=cN t;clear a0 n6 f1 F e3 j7 m1 k5 e4 h4 k0 e0 b7 k4 i8 k8 h9 j6 H g9 t;refine cN ?_;obtain⟨n,i1⟩:=aLx (x.acs.length);rw[i1]at hx5 d6;have o4:=cN i1;clear i1;go_wp2_with fail;go_loopw [10] (fun j wr=>∃(k:Nat),k≤n∧j= .int .i64 k∧RmTo g8 U y V1 (dP x i f (gV f 3 bs d k)) wr) (fun j _=>n-(intOf j).toNat)
     case atStart=>exact⟨0,aI _,rfl,by have:=fW x i f;rw[show gV f 3 bs d 0=[]from rfl,this];exact RmTo.of G.out.1⟩
     case round=>
      obtain⟨k,hk,rfl,D⟩:=hrel;have HT:=cN D;obtain⟨n4,V2,h2,f7,c8,X,i4⟩:=D;have g1:=h2.rav;have b6:(dP x i f (gV f 3 bs d k)).acs.length=n:=o4.out;have i5:=aA7 x i f (gV f 3 bs d k);have f3:=aCb x i f (gV f 3 bs d k);rw[vV]at i5 f3;obtain⟨pa,n0,c2,_⟩:=mF g1;rw[b6]at c2;have c7:wr.cell? ⟨y,7,none⟩=some (.slice pa n n0):=by rw[←c2];exact h2.cell 7 _ rfl
      by_cases d4:k<n
      ·have c9:wr.heap[B]?=some (.cells (rcL f (V2.mv i) (V2.hv i) (V2.bv i)).toArray 182 (0,0)):=by
        have:=(h2.cls i (by simpa[dP]using hi)).blk;rw[c8,G.out.2.2.1,←HC.out.2]at this;simpa[dP]using this
       have d0:wr.cell? ⟨B,0,none⟩=some (.int .i64 f.id):=cO c9 0 _ rfl;have r4:wr.cell? ⟨B,39,none⟩=some (.int .i64 f.lock):=cO c9 39 _ rfl;have r5:wr.cell? ⟨B,44,none⟩=some (.int .i64 f.bal):=cO c9 44 _ rfl;have m8:=X.kept G.out.2.2.2.2.2.2 (fun e=>e G.out.2.2.2.2.2.1);have p8:=cN (show∀j u,(vlL d)[j]?=some u→wr.drew.cell? ((⟨n3,0,none⟩:Addr).add j)=some u from cR (W:=wr.drew) m8);have HS:=cN (sF wr.drew n4 y _ V2 ⟨3,f.id,(k:Int),f.lock,f.bal,bs,d⟩ h2.drew (by omega) (by omega));have H2:=cN (aLn f7 c8 X i4);clear h2 f7 c8 X i4 g1 i5 f3 b6 c2 c9 HT m8;go_wp2_with fail;clear c7;refine eD [0,0,0,0,1,0,0,0,0,0,1,0,0,0,1,0,1,0] (by kernel_rfl) (fun _ _ _ _=>rfl) ?_;simp only[dC,dB];iterate 16 (apply sB rfl rfl;·(intro x h;(try cases h rfl);go_simp;with_reducible rfl))
       try simp only[pA]
       refine dA (v:=vlV d) rfl (fun zz hx=>cU 56 _ rfl ⟨n3,0,none⟩ rfl (vlL d) _ (by subst hx;exact p8.out) underlying56 rfl (by kernel_rfl)) ?_;(try simp only[pA]);iterate 1 (apply sB rfl rfl;·(intro x h;(try cases h rfl);go_simp;with_reducible rfl))
       refine cP ?_;try simp only[pA]
       go_wp2_with (go_at_call 158;refine HS.out.mono ?_;rintro e q8 ⟨rfl,D⟩);have e7:RmTo g8 U y V1 (dP x i f (gV f 3 bs d (k+1))) q8:=by
        rw[aAd,aAi];exact RmTo.trans H2.out.1 H2.out.2.1 H2.out.2.2.1 H2.out.2.2.2 D.drew
       have o0:=cN e7;clear D e7;go_wp2_with fail;go_roundw
       case rel=>exact⟨k+1,by omega,by go_num,o0.out⟩
       case measure=>simp[intOf];omega
      ·have g4:k=n:=by omega
       subst g4;clear h2 f7 c8 X i4 g1 i5 f3 b6 c2 d4;go_wp2_with fail;go_end0;refine⟨rfl,?_⟩;rw[d6.out];exact RmTo.behind (S:=NoS) (Chg.of_below p.out.2.2.2.2.2) (fun _ _ h=>h.elim) (RmTo.trans G.out.2.1 G.out.2.2.1 G.out.2.2.2.1 G.out.2.2.2.2.1 HT.out)
theorem sV(x:Rm)(i:Nat)(c' d:Rc)(e:List Ev):dP {x with cls:=x.cls.set i c'} i d e=dP x i d e:=by
 unfold dP;dsimp only;rw[List.set_set]
structure HrSt(W0 W:World)(own:Nat→Nat)(y:Nat)(x:Rm)(V:RmV)(m:Mg):Prop where
 rm:RmAt W own y x V
 bm:W.heap[W0.heap.size]?=some (.cells (mgL m).toArray 66 (0,0))
 be:Below W0.heap.size W0 W
section
variable {W0 W:World} {own:Nat→Nat} {y:Nat} {x:Rm} {V:RmV} {m:Mg}
theorem HrSt.drew(h:HrSt W0 W own y x V m):HrSt W0 W.drew own y x V m:=⟨h.rm.drew,h.bm,⟨h.be.os,h.be.tape,h.be.output,h.be.size,h.be.block⟩⟩
theorem HrSt.rc(h:HrSt W0 W own y x V m){i:Nat}(hi:i<x.cls.length){c:Rc}(hc:x.cls[i]=c){B:Nat}(hB:B=V.bC i):RcAt W B c (V.mv i) (V.hv i) (V.bv i):=by
 have:=h.rm.cls i hi;rw[hc]at this;rw[hB];exact this
end
section
variable (W:World) (own:Nat→Nat) (y:Nat) (x:Rm) (V:RmV) (i:Nat) (c:Rc) (N:Int) (m:Mg)
theorem aDO(h:RmAt W own y x V)(hi:i<x.cls.length)(hc:x.cls[i]=c)(ha:RcA N c)(hbs:c.busy=true→RcB x.cf N c∧c.heard.length≤3∧c.back.length≤3∧∀m ∈ c.heard,lI m.val)(hN:N≤90000000000)(hx5:x.acs.length≤5)(hn:x.net.length≤99999999990)(ht:x.tr.length≤99999999990)(hm:lI m.val)(hm0:0≤m.base)(hm1:m.base≤256255)(hf0:1≤x.cf.f)(hf1:x.cf.f≤2)(hd0:0≤x.cf.drift)(hd1:x.cf.drift≤10)(hdf:iO c m=true):
 Calls prog 154 #[.pointer (some ⟨y,0,none⟩),.pointer (some ⟨V.bC i,0,none⟩),mgV m] W fun r W'=>r= .returned (.tuple #[])∧RmTo W own y V (dP x i (fZ x.cf c m) (fL x.cf x.acs.length c m)) W':=by
 obtain⟨B,d⟩:=aLw (V.bC i);rw[←d];have b:=aA W (.cells #[.int .i64 m.kind,.int .i64 m.src,.int .i64 m.dst,.int .i64 m.lock,.int .i64 m.bal,.int .i64 m.base,.int .i64 m.val.own,.int .i64 m.val.tok,.int .i64 m.val.ttl,.int .i64 m.val.seq] 66);have a:HrSt W (W.alloc (.cells #[.int .i64 m.kind,.int .i64 m.src,.int .i64 m.dst,.int .i64 m.lock,.int .i64 m.bal,.int .i64 m.base,.int .i64 m.val.own,.int .i64 m.val.tok,.int .i64 m.val.ttl,.int .i64 m.val.seq] 66)) own y x V m:=⟨h.alloc _,b,(aJ _ W).alloc (aE _) _⟩;generalize g:W.alloc (.cells #[.int .i64 m.kind,.int .i64 m.src,.int .i64 m.dst,.int .i64 m.lock,.int .i64 m.bal,.int .i64 m.base,.int .i64 m.val.own,.int .i64 m.val.tok,.int .i64 m.val.ttl,.int .i64 m.val.seq] 66)=W0 at*;have k:=cN g;have e:=cN a;have w:=cN (aLl hc d);have A:W0.cell? ⟨B,2,none⟩=some (.bool c.up):=(a.rc hi hc d).cell 2 _ rfl;have s:W0.cell? ⟨B,37,none⟩=some (.bool c.busy):=(a.rc hi hc d).cell 37 _ rfl;have q:W0.cell? ⟨B,44,none⟩=some (.int .i64 c.bal):=(a.rc hi hc d).cell 44 _ rfl;have u:W0.cell? ⟨W.heap.size,4,none⟩=some (.int .i64 m.bal):=cO b 4 _ rfl;have t:W0.cell? ⟨W.heap.size,0,none⟩=some (.int .i64 m.kind):=cO b 0 _ rfl;clear g b a h d;have n:Hid (dP x i (fZ x.cf c m) (fL x.cf x.acs.length c m)=x):=by
  show _=_;unfold fZ fL;rw[if_pos hdf,if_pos hdf,fW,←hc,bH]
 obtain⟨z,l⟩:=aLx (dP x i (fZ x.cf c m) (fL x.cf x.acs.length c m));rw[l]at n⊢;have j:c.up=false∨(c.up=true∧c.busy=false)∨(c.up=true∧c.busy=true∧(m.bal !=c.bal)=true):=by
  unfold iO at hdf;cases h1:c.up<;>cases h2:c.busy<;>simp_all [bne]
 clear hdf l hc;rcases j with o|⟨o,p⟩|⟨o,p,v⟩;all_goals
  go_enter func154,ntmps154;go_wp2_with (first|rw[k.out]);refine eD [0,0,0,1,0,0,0,0,0,1,0,0,0,0,1,0,0,0,1,0,0] (by kernel_rfl) (fun _ _ _ _=>rfl) ?_;simp only[dC,dB];iterate 21 ((try simp only[pA]);first|(apply sB rfl rfl;·(intro x h;(try cases h rfl);go_simp;with_reducible rfl))|apply dN rfl|apply dL rfl)
  refine cP ?_;try simp only[pA]
  go_wp2_with fail
  ((try simp only[Exit.inBlock,Exit.then]);refine bodyPost_ret (results_none rfl _ _ _) rfl ?_)
  refine⟨rfl,?_⟩;rw[n.out];exact RmTo.behind (S:=NoS) (Chg.of_below e.out.be) (fun _ _ h=>h.elim) (RmTo.of e.out.rm |>.after (S:=NoS) (Chg.refl _ _).drew (fun _ _ h=>h))
theorem aDm(h:RmAt W own y x V)(hi:i<x.cls.length)(hc:x.cls[i]=c)(ha:RcA N c)(hbs:c.busy=true→RcB x.cf N c∧c.heard.length≤3∧c.back.length≤3∧∀m ∈ c.heard,lI m.val)(hN:N≤90000000000)(hx5:x.acs.length≤5)(hn:x.net.length≤99999999990)(ht:x.tr.length≤99999999990)(hm:lI m.val)(hm0:0≤m.base)(hm1:m.base≤256255)(hf0:1≤x.cf.f)(hf1:x.cf.f≤2)(hd0:0≤x.cf.drift)(hd1:x.cf.drift≤10)(hup:c.up=true)(hbz:c.busy=true)(hbl:m.bal=c.bal)(hk5:m.kind≠5)(hk2:m.kind≠2)(hk4:m.kind≠4):
 Calls prog 154 #[.pointer (some ⟨y,0,none⟩),.pointer (some ⟨V.bC i,0,none⟩),mgV m] W fun r W'=>r= .returned (.tuple #[])∧RmTo W own y V (dP x i (fZ x.cf c m) (fL x.cf x.acs.length c m)) W':=by
 obtain⟨B,e⟩:=aLw (V.bC i);rw[←e];have b:=aA W (.cells #[.int .i64 m.kind,.int .i64 m.src,.int .i64 m.dst,.int .i64 m.lock,.int .i64 m.bal,.int .i64 m.base,.int .i64 m.val.own,.int .i64 m.val.tok,.int .i64 m.val.ttl,.int .i64 m.val.seq] 66);have a:HrSt W (W.alloc (.cells #[.int .i64 m.kind,.int .i64 m.src,.int .i64 m.dst,.int .i64 m.lock,.int .i64 m.bal,.int .i64 m.base,.int .i64 m.val.own,.int .i64 m.val.tok,.int .i64 m.val.ttl,.int .i64 m.val.seq] 66)) own y x V m:=⟨h.alloc _,b,(aJ _ W).alloc (aE _) _⟩;generalize j:W.alloc (.cells #[.int .i64 m.kind,.int .i64 m.src,.int .i64 m.dst,.int .i64 m.lock,.int .i64 m.bal,.int .i64 m.base,.int .i64 m.val.own,.int .i64 m.val.tok,.int .i64 m.val.ttl,.int .i64 m.val.seq] 66)=W0 at*;have l:=cN j;have g:=cN a;have E:=cN (aLl hc e);have G:W0.cell? ⟨B,2,none⟩=some (.bool c.up):=(a.rc hi hc e).cell 2 _ rfl;have q:W0.cell? ⟨B,37,none⟩=some (.bool c.busy):=(a.rc hi hc e).cell 37 _ rfl;have p:W0.cell? ⟨B,44,none⟩=some (.int .i64 c.bal):=(a.rc hi hc e).cell 44 _ rfl;have C:W0.cell? ⟨W.heap.size,4,none⟩=some (.int .i64 m.bal):=cO b 4 _ rfl;have w:W0.cell? ⟨W.heap.size,0,none⟩=some (.int .i64 m.kind):=cO b 0 _ rfl;clear j b a h e;have k:iO c m=false:=by unfold iO;rw[hup,hbz,hbl];simp
 have D:(m.bal !=c.bal)=false:=by rw[hbl];simp
 have d:¬iO c m=true:=by rw[k];decide
 obtain⟨hbs,u,t,s⟩:=hbs hbz;have o:Hid (dP x i (fZ x.cf c m) (fL x.cf x.acs.length c m)=x):=by
  show _=_;unfold fZ fL;rw[if_neg d,if_neg d,if_neg hk5,if_neg hk5,if_neg hk2,if_neg hk2,if_neg hk4,if_neg hk4,fW,←hc,bH]
 obtain⟨z,n⟩:=aLx (dP x i (fZ x.cf c m) (fL x.cf x.acs.length c m));rw[n]at o⊢;have A:(m.kind==5)=false:=by simp[hk5]
 have v:(m.kind==2)=false:=by simp[hk2]
 have F:(m.kind==4)=false:=by simp[hk4]
 clear k n hc hk5 hk2 hk4 hbl;go_enter func154,ntmps154;go_wp2_with (first|rw[l.out]);refine eD [0,0,0,1,0,0,0,0,0,1,0,0,0,0,1,0,0,0,1,0,0] (by kernel_rfl) (fun _ _ _ _=>rfl) ?_;simp only[dC,dB];iterate 21 ((try simp only[pA]);first|(apply sB rfl rfl;·(intro x h;(try cases h rfl);go_simp;with_reducible rfl))|apply dN rfl|apply dL rfl)
 refine cP ?_;try simp only[pA]
 go_wp2_with fail;go_end0;refine⟨rfl,?_⟩;rw[o.out];exact RmTo.behind (S:=NoS) (Chg.of_below g.out.be) (fun _ _ h=>h.elim) (RmTo.of g.out.rm |>.after (S:=NoS) (Chg.refl _ _).drew (fun _ _ h=>h))
end
theorem aBt(W:World)(own:Nat→Nat)(y:Nat)(x:Rm)(V:RmV)(i:Nat)(c:Rc)(N:Int)(m:Mg)(h:RmAt W own y x V)(hi:i<x.cls.length)(hc:x.cls[i]=c)(ha:RcA N c)(hbs:c.busy=true→RcB x.cf N c∧c.heard.length≤3∧c.back.length≤3∧∀m ∈ c.heard,lI m.val)(hN:N≤90000000000)(hx5:x.acs.length≤5)(hn:x.net.length≤99999999990)(ht:x.tr.length≤99999999990)(hm:lI m.val)(hm0:0≤m.base)(hm1:m.base≤256255)(hf0:1≤x.cf.f)(hf1:x.cf.f≤2)(hd0:0≤x.cf.drift)(hd1:x.cf.drift≤10)(hup:c.up=true)(hbz:c.busy=true)(hbl:m.bal=c.bal)(hk2:m.kind=2):
 Calls prog 154 #[.pointer (some ⟨y,0,none⟩),.pointer (some ⟨V.bC i,0,none⟩),mgV m] W fun r W'=>r= .returned (.tuple #[])∧RmTo W own y V (dP x i (fZ x.cf c m) (fL x.cf x.acs.length c m)) W':=by
 obtain⟨B,hB⟩:=aLw (V.bC i);rw[←hB];have P:=aA W (.cells #[.int .i64 m.kind,.int .i64 m.src,.int .i64 m.dst,.int .i64 m.lock,.int .i64 m.bal,.int .i64 m.base,.int .i64 m.val.own,.int .i64 m.val.tok,.int .i64 m.val.ttl,.int .i64 m.val.seq] 66);have F:HrSt W (W.alloc (.cells #[.int .i64 m.kind,.int .i64 m.src,.int .i64 m.dst,.int .i64 m.lock,.int .i64 m.bal,.int .i64 m.base,.int .i64 m.val.own,.int .i64 m.val.tok,.int .i64 m.val.ttl,.int .i64 m.val.seq] 66)) own y x V m:=⟨h.alloc _,P,(aJ _ W).alloc (aE _) _⟩;generalize c3:W.alloc (.cells #[.int .i64 m.kind,.int .i64 m.src,.int .i64 m.dst,.int .i64 m.lock,.int .i64 m.bal,.int .i64 m.base,.int .i64 m.val.own,.int .i64 m.val.tok,.int .i64 m.val.ttl,.int .i64 m.val.seq] 66)=W0 at*;have c6:=cN c3;have b5:=cN F;have HC:=cN (aLl hc hB);have b2:W0.cell? ⟨B,2,none⟩=some (.bool c.up):=(F.rc hi hc hB).cell 2 _ rfl;have e4:W0.cell? ⟨B,37,none⟩=some (.bool c.busy):=(F.rc hi hc hB).cell 37 _ rfl;have e6:W0.cell? ⟨B,44,none⟩=some (.int .i64 c.bal):=(F.rc hi hc hB).cell 44 _ rfl;have m4:W0.cell? ⟨W.heap.size,4,none⟩=some (.int .i64 m.bal):=cO P 4 _ rfl;have m0:W0.cell? ⟨W.heap.size,0,none⟩=some (.int .i64 m.kind):=cO P 0 _ rfl;clear c3 P F h hB;have b9:iO c m=false:=by unfold iO;rw[hup,hbz,hbl];simp
 have p3:(m.bal !=c.bal)=false:=by rw[hbl];simp
 have J:¬iO c m=true:=by rw[b9];decide
 obtain⟨hbs,f5,f2,d5⟩:=hbs hbz;obtain⟨ir,e8,e2,d9,e3⟩:=info_parts nA;have q5:(m.kind==5)=false:=by simp[hk2]
 have q2:(m.kind==2)=true:=by simp[hk2]
 have M:Hid (fZ x.cf c m=(if(c.heard.any fun z=>z.src==m.src)=true then c else if c.asked=true then c else if((c.heard++[m]).length:Int)=x.cf.f+1 then kV x.cf {c with heard:=c.heard++[m]}else{c with heard:=c.heard++[m]})):=by
  show _=_;unfold fZ;rw[if_neg J,if_neg (by omega),if_pos hk2]
 have X:Hid (fL x.cf x.acs.length c m=(if(c.heard.any fun z=>z.src==m.src)=true then[]else if c.asked=true then[]else if((c.heard++[m]).length:Int)=x.cf.f+1 then lB x.cf x.acs.length {c with heard:=c.heard++[m]}else[])):=by
  show _=_;unfold fL;rw[if_neg J,if_neg (by omega),if_pos hk2]
 obtain⟨z,hz⟩:=aLx (dP x i (fZ x.cf c m) (fL x.cf x.acs.length c m));rw[hz];have HZ:=cN hz;clear b9 J hz hk2 hbl;go_enter func154,ntmps154;go_wp2_with (first|rw[c6.out]);refine eD [0,0,0,1,0,0,0,0,0,1,0,0,0,0,1,0,0,0,1,0,0] (by kernel_rfl) (fun _ _ _ _=>rfl) ?_;simp only[dC,dB];iterate 21 ((try simp only[pA]);first|(apply sB rfl rfl;·(intro x h;(try cases h rfl);go_simp;with_reducible rfl))|apply dN rfl|apply dL rfl)
 refine cP ?_;try simp only[pA]
 go_wp2_with fail;clear b2 e4 e6 m4 m0;go_loopw [6] (fun j wr=>∃(k:Nat),k≤c.heard.length∧j= .int .i64 k∧(∀(q:Nat) (b:q<c.heard.length),q<k→c.heard[q].src≠m.src)∧HrSt W wr own y x V m) (fun j _=>c.heard.length-(intOf j).toNat)
 case atStart=>exact⟨0,aI _,rfl,fun q _ h=>absurd h (by omega),b5.out.drew⟩
 case round=>
  clear b5 c6;obtain⟨k,hk,rfl,d1,Y⟩:=hrel;have a:=cN Y;have n:=Y.rc hi HC.out.1 HC.out.2;obtain⟨ph,d7,H,b1⟩:=nU n.heard;have R:wr.cell? ⟨B,46,none⟩=some (.slice ph c.heard.length d7):=by rw[←H];exact n.cell 46 _ rfl
  have m1:wr.cell? ⟨W.heap.size,1,none⟩=some (.int .i64 m.src):=cO Y.bm 1 _ rfl;have a8:=cN d1;clear d1 Y;by_cases b3:k<c.heard.length
  ·obtain⟨g,rfl,f4,c7⟩:=b1 k b3;have f3:(k:Int)<(c.heard.length:Int):=by omega
   have K:c.heard[k] ∈ c.heard:=bF b3;have O:c.heard[k].src≠m.src→∀(q:Nat) (b:q<c.heard.length),q<k+1→c.heard[q].src≠m.src:=fun O q b hqk=>by
    rcases Nat.lt_or_ge q k with h'|h'
    ·exact a8.out q b h'
    ·have:q=k:=by omega
     subst this;exact O
   have b7:=cN O;clear O a8;generalize c.heard[k]=mh at*;have c1:wr.cell? ⟨g,k*10+1,none⟩=some (.int .i64 mh.src):=c7 1 _ rfl;clear b1 c7 n H;by_cases he:mh.src=m.src
   ·have c9:(mh.src==m.src)=true:=by simp[he]
    have Z:Hid (z=x):=by
     have ha:(c.heard.any fun z=>z.src==m.src)=true:=by rw[List.any_eq_true];exact⟨mh,K,c9⟩
     show _=_;rw[←HZ.out,M.out,X.out,if_pos ha,if_pos ha,fW,←HC.out.1,bH]
    clear he K;go_wp2_with fail;refine eD [0,0,0,1,0,0,0,1,0,1,0] (by kernel_rfl) (fun _ _ _ _=>rfl) ?_;simp only[dC,dB];iterate 11 (apply sB rfl rfl;·(intro x h;(try cases h rfl);go_simp;with_reducible rfl))
    refine cP ?_;try simp only[pA]
    go_wp2_with fail
    ((try simp only[Exit.inBlock,Exit.then]);refine bodyPost_ret (results_none rfl _ _ _) rfl ?_)
    refine⟨rfl,?_⟩;rw[Z.out];exact RmTo.behind (S:=NoS) (Chg.of_below a.out.be) (fun _ _ h=>h.elim) (RmTo.of a.out.rm |>.after (S:=NoS) (Chg.refl _ _).drew (fun _ _ h=>h))
   ·have c9:(mh.src==m.src)=false:=by simp[he]
    have HE:=cN (b7.out he);clear he K b7;go_wp2_with fail;refine eD [0,0,0,1,0,0,0,1,0,1,0] (by kernel_rfl) (fun _ _ _ _=>rfl) ?_;simp only[dC,dB];iterate 11 (apply sB rfl rfl;·(intro x h;(try cases h rfl);go_simp;with_reducible rfl))
    refine cP ?_;try simp only[pA]
    go_wp2_with fail;go_roundw
    case rel=>exact⟨k+1,by omega,by go_num,HE.out,a.out.drew⟩
    case measure=>simp[intOf];omega
  ·have e5:k=c.heard.length:=by omega
   subst e5;have a6:¬(c.heard.any fun z=>z.src==m.src)=true:=by
    rw[List.any_eq_true];intro⟨mh,hm1,f0⟩;obtain⟨q,b,e0⟩:=List.mem_iff_getElem.1 hm1;exact a8.out q b b (by rw[e0];simpa using f0)
   have a9:wr.cell? ⟨B,47,none⟩=some (.bool c.asked):=n.cell 47 _ rfl;have U:=cN n;have s:=cN a6;clear a6 b1 b3;cases hask:c.asked with
   |true=>
    rw[hask]at a9;have Z:Hid (z=x):=by
     show _=_;rw[←HZ.out,M.out,X.out,if_neg s.out,if_neg s.out,if_pos hask,if_pos hask,fW,←HC.out.1,bH]
    clear hask H n;go_wp2_with fail
    ((try simp only[Exit.inBlock,Exit.then]);refine bodyPost_ret (results_none rfl _ _ _) rfl ?_)
    refine⟨rfl,?_⟩;rw[Z.out];exact RmTo.behind (S:=NoS) (Chg.of_below a.out.be) (fun _ _ h=>h.elim) (RmTo.of a.out.rm)
   |false=>
    rw[hask]at a9;have p:¬c.asked=true:=by rw[hask];decide
    have Z:Hid (z=if((c.heard++[m]).length:Int)=x.cf.f+1 then dP x i (kV x.cf {c with heard:=c.heard++[m]}) (lB x.cf x.acs.length {c with heard:=c.heard++[m]})else dP x i {c with heard:=c.heard++[m]} []):=by
     show _=_;rw[←HZ.out,M.out,X.out,if_neg s.out,if_neg s.out,if_neg p,if_neg p];by_cases b:((c.heard++[m]).length:Int)=x.cf.f+1
     ·rw[if_pos b,if_pos b,if_pos b]
     ·rw[if_neg b,if_neg b,if_neg b]
    clear hask p n HZ M X;go_wp2_with fail;clear a9 m1;rw[←H]at R;clear H;refine rlx [0,0,0,0,1,1,2] (fun z=>z.cell? ⟨B,46,none⟩=some (V.hv i)∧∀j u,(mgL m)[j]?=some u→z.cell? ((⟨W.heap.size,0,none⟩:Addr).add j)=some u) (by kernel_rfl) (fun _ _ _ _=>rfl) ?_ ?_
    ·exact⟨R,cR (W:=wr.drew) a.out.bm⟩
    simp only[dC,dB];iterate 5 (apply sB rfl rfl;·(intro x h;(try have h:=h rfl);(try dsimp only at h);go_simp;with_reducible rfl))
    try simp only[pA]
    refine dA (v:=mgV m) rfl (fun zz hx=>cU 66 _ rfl ⟨W.heap.size,0,none⟩ rfl (mgL m) _ hx.2 underlying66 rfl (by kernel_rfl)) ?_;(try simp only[pA]);refine dI rfl (fun C hC=>?_);go_simp;have G:Chg NoS wr.drew (wr.drew.alloc (.cells (mgL m).toArray 66)):=(Chg.refl _ _).alloc _;have d4:=aA wr.drew (.cells (mgL m).toArray 66);refine hC _ _ ⟨G.cellN R,cR (G.kept a.out.bm (fun h=>h))⟩ ?_;clear hC C;refine cP ?_;refine wpList_append_lies _ rfl _ _ 88 rfl 0 66 ir _ 10 80 underlying88 e8 e2 d9 e3 rfl (by decide) (V.hv i) c.heard.length (cZ mgL c.heard) rfl (G.row (show wr.drew.ownsRow 0 66 10 (V.hv i) c.heard.length (cZ mgL c.heard)from U.out.heard) (fun _ _ h=>h)) ⟨wr.heap.size,0,none⟩ 1 1 (mgL m) rfl rfl (cR d4) (oS m) (by decide) (by unfold maxLen;omega) (by omega) (aI _) (wr.heap.size+1) (by simp) ?_;intro A d W7 o l a2 d8;have I:Chg (fun q=>some q=(V.hv i).ownBlock) wr W7:=(G.of_drew.mono (T:=fun q=>some q=(V.hv i).ownBlock) (fun _ _ h=>h.elim)).trans (Chg.of_grown ⟨l.os,l.tape,l.output,l.size,l.block⟩) (fun _ _ h=>h);have e1:own B=7+5*i:=by rw[HC.out.2];exact a.out.rm.clo i hi
    have t:=a.out.rm.ho i hi;have E:=I.kept U.out.blk (fun e=>by have:=t _ e.symm;omega);have c4:W7.cell? ⟨B,46,none⟩=some (V.hv i):=cO E 46 _ rfl;have c0:=cX E 46;have Q:=(I.mono (T:=fun q=>own q=7+5*i∨own q=9+5*i) (fun q _ b=>Or.inr (t q b.symm))).trans (cY W7 B 46 (.slice (some ⟨A,0,none⟩) (c.heard.length+1) d)) (fun q _ e=>by subst e;exact Or.inl e1);have b0:(W7.setCell ⟨B,46,none⟩ (.slice (some ⟨A,0,none⟩) (c.heard.length+1) d)).heap[B]?=some (.cells (rcL {c with heard:=c.heard++[m]} (V.mv i) (.slice (some ⟨A,0,none⟩) (c.heard.length+1) d) (V.bv i)).toArray 182 (0,0)):=dD E 46 _;have e7:A≠B:=fN o E (by decide) A rfl;have L:=(cY W7 B 46 (.slice (some ⟨A,0,none⟩) (c.heard.length+1) d)).row o (fun q b=>by simp[Value.ownBlock]at b;omega);have a3:own A=9+5*i∨wr.heap.size≤A:=by
     rcases a2 with h'|h'
     ·exact Or.inl (t A h')
     ·right;omega
    generalize c8:W7.setCell ⟨B,46,none⟩ (.slice (some ⟨A,0,none⟩) (c.heard.length+1) d)=W8 at*;have b8:=cN c8;have a7:RmTo wr own y V {x with cls:=x.cls.set i {c with heard:=c.heard++[m]}} W8:=by
     refine a.out.rm.client hi (c':={c with heard:=c.heard++[m]}) (mv':=V.mv i) (hv':=.slice (some ⟨A,0,none⟩) (c.heard.length+1) d) (bv':=V.bv i) (Q.mono (fun q _ e=>by omega)) ⟨by rw[←HC.out.2];exact b0,?_,?_,?_⟩ (fun q b=>Or.inl (a.out.rm.mo i hi q b)) (fun q b=>by have:A=q:=(by simpa[Value.ownBlock]using b);subst this;exact a3) (fun q b=>Or.inl (a.out.rm.bo i hi q b)) (fun q h1 h2=>by have:=a.out.rm.bo i hi q h2;exact a.out.rm.lt q (by omega))
     ·exact Q.row U.out.mine (fun q b e=>by have:=a.out.rm.mo i hi q b;omega)
     ·show W8.ownsRow 0 _ 10 _ (c.heard++[m]).length (cZ mgL (c.heard++[m]));rw[aD,aK,kW];exact L
     ·exact Q.row U.out.back (fun q b e=>by have:=a.out.rm.bo i hi q b;omega)
    obtain⟨d6,V1,h1,d2,c2,a5,a4⟩:=a7;have f1:W8.cell? ⟨B,46,none⟩=some (.slice (some ⟨A,0,none⟩) (c.heard.length+1) d):=cO b0 46 _ rfl;have y0:W8.cell? ⟨y,0,none⟩=some (.int .i64 x.cf.f):=h1.cell 0 _ rfl;have w1:IntKind.i64.wrap (x.cf.f+1)=x.cf.f+1:=fX (by omega) (by omega);have D:=cN (aLo h1 d2 c2 a5 a4);clear c8 l a2 d8 o I G d4 t e7 L a3 R h1 d2 c2 a5 a4 E b0 Q;(try simp only[pA]);by_cases b:((c.heard++[m]).length:Int)=x.cf.f+1
    ·have hR:=Z.out;rw[if_pos b]at hR;have b4:=cN hR;have e9:(((c.heard.length:Int)+1)==x.cf.f+1)=true:=by simp at b;simp;omega
     have b6:({x with cls:=x.cls.set i {c with heard:=c.heard++[m]}}:Rm).cls[i]'(by simpa using hi)={c with heard:=c.heard++[m]}:=by simp
     have c5:=cN (aCZ W8.drew d6 y {x with cls:=x.cls.set i {c with heard:=c.heard++[m]}} V1 i {c with heard:=c.heard++[m]} N D.out.1.drew (by simpa using hi) b6 ⟨ha.d0,ha.d3,ha.i0,ha.i1,ha.k0,ha.k1,ha.r0,ha.r1,ha.w⟩ ⟨hbs.l0,hbs.l3,hbs.t0,hbs.t1,hbs.g0,hbs.g1,hbs.n0,hbs.n8,hbs.a0,hbs.a1,hbs.mine,by show(c.heard++[m]).length≤5;simp;omega,hbs.back⟩ hN hx5 hn ht (fun mm hmm=>by rcases aO.1 hmm with h|h;exact d5 mm h;rw[List.mem_singleton.1 h];exact hm) hd0 hd1);rw[D.out.2.2.1,←HC.out.2,sV]at c5;clear hR b b6 Z;go_wp2_with (first|rw[b8.out]);clear c4 c0;refine eD [0,0,0,1,1,0,0,0,0,1,0,0] (by kernel_rfl) (fun _ _ _ _=>rfl) ?_;simp only[dC,dB];iterate 12 (apply sB rfl rfl;·(intro x h;(try cases h rfl);go_simp;with_reducible rfl))
     refine cP ?_;try simp only[pA]
     go_wp2_with (go_at_call 181;refine c5.out.mono ?_;rintro e W9 ⟨rfl,a7⟩);go_end0;refine⟨rfl,?_⟩;rw[b4.out];exact RmTo.behind (S:=NoS) (Chg.of_below a.out.be) (fun _ _ h=>h.elim) (RmTo.trans D.out.2.1 D.out.2.2.1 D.out.2.2.2.1 D.out.2.2.2.2 a7.drew)
    ·have hR:=Z.out;rw[if_neg b,fW]at hR;have b4:=cN hR;have e9:(((c.heard.length:Int)+1)==x.cf.f+1)=false:=by simp at b;simp;omega
     clear hR b Z;go_wp2_with (first|rw[b8.out]);clear c4 c0;refine eD [0,0,0,1,1,0,0,0,0,1,0,0] (by kernel_rfl) (fun _ _ _ _=>rfl) ?_;simp only[dC,dB];iterate 12 (apply sB rfl rfl;·(intro x h;(try cases h rfl);go_simp;with_reducible rfl))
     refine cP ?_;try simp only[pA]
     go_wp2_with fail;go_end0;refine⟨rfl,?_⟩;rw[b4.out];exact RmTo.behind (S:=NoS) (Chg.of_below a.out.be) (fun _ _ h=>h.elim) (RmTo.trans D.out.2.1 D.out.2.2.1 D.out.2.2.2.1 D.out.2.2.2.2 (RmTo.of D.out.1 |>.after (S:=NoS) (Chg.refl _ _).drew (fun _ _ h=>h)))
theorem aAx(W:World)(own:Nat→Nat)(y:Nat)(x:Rm)(V:RmV)(i:Nat)(c:Rc)(N:Int)(m:Mg)(h:RmAt W own y x V)(hi:i<x.cls.length)(hc:x.cls[i]=c)(ha:RcA N c)(hbs:c.busy=true→RcB x.cf N c∧c.heard.length≤3∧c.back.length≤3∧∀m ∈ c.heard,lI m.val)(hN:N≤90000000000)(hx5:x.acs.length≤5)(hn:x.net.length≤99999999990)(ht:x.tr.length≤99999999990)(hm:lI m.val)(hm0:0≤m.base)(hm1:m.base≤256255)(hf0:1≤x.cf.f)(hf1:x.cf.f≤2)(hd0:0≤x.cf.drift)(hd1:x.cf.drift≤10)(hup:c.up=true)(hbz:c.busy=true)(hbl:m.bal=c.bal)(hk4:m.kind=4):
 Calls prog 154 #[.pointer (some ⟨y,0,none⟩),.pointer (some ⟨V.bC i,0,none⟩),mgV m] W fun r W'=>r= .returned (.tuple #[])∧RmTo W own y V (dP x i (fZ x.cf c m) (fL x.cf x.acs.length c m)) W':=by
 obtain⟨B,hB⟩:=aLw (V.bC i);rw[←hB];have P:=aA W (.cells #[.int .i64 m.kind,.int .i64 m.src,.int .i64 m.dst,.int .i64 m.lock,.int .i64 m.bal,.int .i64 m.base,.int .i64 m.val.own,.int .i64 m.val.tok,.int .i64 m.val.ttl,.int .i64 m.val.seq] 66);have D:HrSt W (W.alloc (.cells #[.int .i64 m.kind,.int .i64 m.src,.int .i64 m.dst,.int .i64 m.lock,.int .i64 m.bal,.int .i64 m.base,.int .i64 m.val.own,.int .i64 m.val.tok,.int .i64 m.val.ttl,.int .i64 m.val.seq] 66)) own y x V m:=⟨h.alloc _,P,(aJ _ W).alloc (aE _) _⟩;generalize b1:W.alloc (.cells #[.int .i64 m.kind,.int .i64 m.src,.int .i64 m.dst,.int .i64 m.lock,.int .i64 m.bal,.int .i64 m.base,.int .i64 m.val.own,.int .i64 m.val.tok,.int .i64 m.val.ttl,.int .i64 m.val.seq] 66)=W0 at*;have b5:=cN b1;have s:=cN D;have O:=cN (aLl hc hB);have b2:W0.cell? ⟨B,2,none⟩=some (.bool c.up):=(D.rc hi hc hB).cell 2 _ rfl;have c7:W0.cell? ⟨B,37,none⟩=some (.bool c.busy):=(D.rc hi hc hB).cell 37 _ rfl;have c8:W0.cell? ⟨B,44,none⟩=some (.int .i64 c.bal):=(D.rc hi hc hB).cell 44 _ rfl;have m4:W0.cell? ⟨W.heap.size,4,none⟩=some (.int .i64 m.bal):=cO P 4 _ rfl;have m0:W0.cell? ⟨W.heap.size,0,none⟩=some (.int .i64 m.kind):=cO P 0 _ rfl;clear b1 P D h hB;have a8:iO c m=false:=by unfold iO;rw[hup,hbz,hbl];simp
 have p3:(m.bal !=c.bal)=false:=by rw[hbl];simp
 have K:¬iO c m=true:=by rw[a8];decide
 obtain⟨hbs,d8,d7,d5⟩:=hbs hbz;obtain⟨ir,d1,c5,c1,c6⟩:=info_parts aCF;have q5:(m.kind==5)=false:=by simp[hk4]
 have q2:(m.kind==2)=false:=by simp[hk4]
 have q4:(m.kind==4)=true:=by simp[hk4]
 have t:Hid (fZ x.cf c m=(if vM c.back m.src=true then c else if((c.back++[m.src]).length:Int)=x.cf.f+1 then fP {c with back:=c.back++[m.src]} c.fres c.ftok else{c with back:=c.back++[m.src]})):=by
  show _=_;unfold fZ;rw[if_neg K,if_neg (by omega),if_neg (by omega),if_pos hk4]
 have H:Hid (fL x.cf x.acs.length c m=(if vM c.back m.src=true then[]else if((c.back++[m.src]).length:Int)=x.cf.f+1 then jV {c with back:=c.back++[m.src]} c.fres c.fown c.ftok else[])):=by
  show _=_;unfold fL;rw[if_neg K,if_neg (by omega),if_neg (by omega),if_pos hk4]
 obtain⟨z,hz⟩:=aLx (dP x i (fZ x.cf c m) (fL x.cf x.acs.length c m));rw[hz];have HZ:=cN hz;obtain⟨qh,a3⟩:=aLw (vM c.back m.src);rw[←a3]at t H;have m1:W0.cell? ⟨W.heap.size,1,none⟩=some (.int .i64 m.src):=cO s.out.bm 1 _ rfl;have F:W0.cell? ⟨B,71,none⟩=some (V.bv i):=(s.out.rc hi O.out.1 O.out.2).cell 71 _ rfl;have L:=cN (aBO W0.drew.drew (V.bv i) c.back m.src (s.out.drew.drew.rc hi O.out.1 O.out.2).back (by omega));rw[←a3]at L;clear a8 K hz hk4 hbl a3;have c2:qh=true∨qh=false:=by cases qh<;>simp
 go_enter func154,ntmps154;go_wp2_with (first|rw[b5.out]);refine eD [0,0,0,1,0,0,0,0,0,1,0,0,0,0,1,0,0,0,1,0,0] (by kernel_rfl) (fun _ _ _ _=>rfl) ?_;simp only[dC,dB];iterate 21 ((try simp only[pA]);first|(apply sB rfl rfl;·(intro x h;(try cases h rfl);go_simp;with_reducible rfl))|apply dN rfl|apply dL rfl)
 refine cP ?_;try simp only[pA]
 go_wp2_with fail;clear b2 c7 c8 m4 m0;refine eD [0,0,0,1,0,1,1,0] (by kernel_rfl) (fun _ _ _ _=>rfl) ?_;simp only[dC,dB];iterate 6 (apply sB rfl rfl;·(intro x h;(try cases h rfl);go_simp;with_reducible rfl))
 try simp only[pA]
 refine eW (v:=.bool qh) (f:=182) (args:=#[V.bv i,.int .i64 m.src]) rfl (fun z hz=>by subst hz;go_simp;try rfl) (fun z hz=>by subst hz;exact L.out) ?_;(try simp only[pA]);iterate 1 (apply sB rfl rfl;·(intro x h;(try cases h rfl);go_simp;with_reducible rfl))
 refine cP ?_;try simp only[pA]
 clear m1 F;generalize a6:W0.drew.drew=wr;have a:=cN (show HrSt W wr own y x V m from a6▸s.out.drew.drew);clear a6 L b5 s;rcases c2 with o|o
 ·have HR:Hid (z=x):=by
   show _=_;rw[←HZ.out,t.out,H.out,if_pos o,if_pos o,fW,←O.out.1,bH]
  clear t H HZ;subst o;go_wp2_with fail
  ((try simp only[Exit.inBlock,Exit.then]);refine bodyPost_ret (results_none rfl _ _ _) rfl ?_)
  refine⟨rfl,?_⟩;rw[HR.out];exact RmTo.behind (S:=NoS) (Chg.of_below a.out.be) (fun _ _ h=>h.elim) (RmTo.of a.out.rm)
 ·have J:¬qh=true:=by rw[o];decide
  have HR:Hid (z=if((c.back++[m.src]).length:Int)=x.cf.f+1 then dP x i (fP {c with back:=c.back++[m.src]} c.fres c.ftok) (jV {c with back:=c.back++[m.src]} c.fres c.fown c.ftok)else dP x i {c with back:=c.back++[m.src]} []):=by
   show _=_;rw[←HZ.out,t.out,H.out,if_neg J,if_neg J];by_cases b:((c.back++[m.src]).length:Int)=x.cf.f+1
   ·rw[if_pos b,if_pos b,if_pos b]
   ·rw[if_neg b,if_neg b,if_neg b]
  clear HZ t H J;subst o;have G:=cN (a.out.rc hi O.out.1 O.out.2);go_wp2_with fail;have F:wr.cell? ⟨B,71,none⟩=some (V.bv i):=G.out.cell 71 _ rfl;have m1:wr.cell? ⟨W.heap.size,1,none⟩=some (.int .i64 m.src):=cO a.out.bm 1 _ rfl;refine rlx [0,0,0,0,1,0,1,2] (fun z=>z.cell? ⟨B,71,none⟩=some (V.bv i)∧z.cell? ⟨W.heap.size,1,none⟩=some (.int .i64 m.src)) (by kernel_rfl) (fun _ _ _ _=>rfl) ?_ ?_
  ·exact⟨F,m1⟩
  simp only[dC,dB];iterate 7 (apply sB rfl rfl;·(intro x h;(try have h:=h rfl);(try dsimp only at h);go_simp;with_reducible rfl))
  try simp only[pA]
  refine dI rfl (fun C hC=>?_);go_simp;have E:Chg NoS wr.drew (wr.drew.alloc (.cells #[.int .i64 m.src] 3)):=(Chg.refl _ _).alloc _;have b8:=aA wr.drew (.cells #[.int .i64 m.src] 3);refine hC _ _ ⟨E.cellN F,E.cellN m1⟩ ?_;clear hC C;refine cP ?_;refine wpList_append_lies _ rfl _ _ 25 rfl 0 3 ir _ 1 8 underlying25 d1 c5 c1 c6 rfl (by decide) (V.bv i) c.back.length (iF c.back) rfl (E.row (show wr.drew.ownsRow 0 3 1 (V.bv i) c.back.length (iF c.back)from G.out.back) (fun _ _ h=>h)) ⟨wr.heap.size,0,none⟩ 1 1 [.int .i64 m.src] rfl rfl (cR (cs:=[.int .i64 m.src]) b8) (by simp[Value.oneCell']) (by decide) (by unfold maxLen;omega) (by omega) (aI _) (wr.heap.size+1) (by simp) ?_;intro n d W7 k g U c0;have I:Chg (fun q=>some q=(V.bv i).ownBlock) wr W7:=(E.of_drew.mono (T:=fun q=>some q=(V.bv i).ownBlock) (fun _ _ h=>h.elim)).trans (Chg.of_grown ⟨g.os,g.tape,g.output,g.size,g.block⟩) (fun _ _ h=>h);have c4:own B=7+5*i:=by rw[O.out.2];exact a.out.rm.clo i hi
  have l:=a.out.rm.bo i hi;have A:=I.kept G.out.blk (fun e=>by have:=l _ e.symm;omega);have b3:W7.cell? ⟨B,71,none⟩=some (V.bv i):=cO A 71 _ rfl;have a9:=cX A 71;have Q:=(I.mono (T:=fun q=>own q=7+5*i∨own q=10+5*i) (fun q _ b=>Or.inr (l q b.symm))).trans (cY W7 B 71 (.slice (some ⟨n,0,none⟩) (c.back.length+1) d)) (fun q _ e=>by subst e;exact Or.inl c4);have R:(W7.setCell ⟨B,71,none⟩ (.slice (some ⟨n,0,none⟩) (c.back.length+1) d)).heap[B]?=some (.cells (rcL {c with back:=c.back++[m.src]} (V.mv i) (V.hv i) (.slice (some ⟨n,0,none⟩) (c.back.length+1) d)).toArray 182 (0,0)):=dD A 71 _;have c9:n≠B:=fN k A (by decide) n rfl;have M:=(cY W7 B 71 (.slice (some ⟨n,0,none⟩) (c.back.length+1) d)).row k (fun q b=>by simp[Value.ownBlock]at b;omega);have X:own n=10+5*i∨wr.heap.size≤n:=by
   rcases U with h'|h'
   ·exact Or.inl (l n h')
   ·right;omega
  generalize b6:W7.setCell ⟨B,71,none⟩ (.slice (some ⟨n,0,none⟩) (c.back.length+1) d)=W8 at*;have a7:=cN b6;have a2:RmTo wr own y V {x with cls:=x.cls.set i {c with back:=c.back++[m.src]}} W8:=by
   refine a.out.rm.client hi (c':={c with back:=c.back++[m.src]}) (mv':=V.mv i) (hv':=V.hv i) (bv':=.slice (some ⟨n,0,none⟩) (c.back.length+1) d) (Q.mono (fun q _ e=>by omega)) ⟨by rw[←O.out.2];exact R,?_,?_,?_⟩ (fun q b=>Or.inl (a.out.rm.mo i hi q b)) (fun q b=>Or.inl (a.out.rm.ho i hi q b)) (fun q b=>by have:n=q:=(by simpa[Value.ownBlock]using b);subst this;exact X) (fun q h1 h2=>by have:=a.out.rm.mo i hi q h1;exact a.out.rm.lt q (by omega))
   ·exact Q.row G.out.mine (fun q b e=>by have:=a.out.rm.mo i hi q b;omega)
   ·exact Q.row G.out.heard (fun q b e=>by have:=a.out.rm.ho i hi q b;omega)
   ·show W8.ownsRow 0 _ 1 _ (c.back++[m.src]).length (iF (c.back++[m.src]));have e1:(c.back++[m.src]).length=c.back.length+1:=by simp
    have e2:iF (c.back++[m.src])=iF c.back++[.int .i64 m.src]:=by simp[iF]
    rw[e1,e2];exact M
  obtain⟨b9,V1,h1,b7,b0,Z,Y⟩:=a2;have d6:W8.cell? ⟨B,71,none⟩=some (.slice (some ⟨n,0,none⟩) (c.back.length+1) d):=cO R 71 _ rfl;have c3:=cN (show∀j u,(evL (fEv c.fres c.fown c.ftok))[j]?=some u→W8.drew.cell? ((⟨B,52,none⟩:Addr).add j)=some u from eL (W:=W8.drew) R 52 _ (fun j u hj=>by
   have d4:j<19:=(aF.1 hj).1;rcases j with _|_|_|_|_|_|_|_|_|_|_|_|_|_|_|_|_|_|_|j<;>first|exact hj|omega))
  have y0:W8.cell? ⟨y,0,none⟩=some (.int .i64 x.cf.f):=h1.cell 0 _ rfl;have w1:IntKind.i64.wrap (x.cf.f+1)=x.cf.f+1:=fX (by omega) (by omega);have p:=cN (aLo h1 b7 b0 Z Y);clear b6 g U c0 k I E b8 l c9 M X F m1 h1 b7 b0 Z Y A R Q;(try simp only[pA]);by_cases b:((c.back++[m.src]).length:Int)=x.cf.f+1
  ·have hR:=HR.out;rw[if_pos b,←sV x i {c with back:=c.back++[m.src]},qK]at hR;have a4:=cN hR;have d2:(((c.back.length:Int)+1)==x.cf.f+1)=true:=by simp at b;simp;omega
   have a5:({x with cls:=x.cls.set i {c with back:=c.back++[m.src]}}:Rm).cls[i]'(by simpa using hi)={c with back:=c.back++[m.src]}:=by simp
   have b4:=cN (vA W8.drew b9 y {x with cls:=x.cls.set i {c with back:=c.back++[m.src]}} V1 i {c with back:=c.back++[m.src]} x.cf N p.out.1.drew (by simpa using hi) a5 ⟨ha.d0,ha.d3,ha.i0,ha.i1,ha.k0,ha.k1,ha.r0,ha.r1,ha.w⟩ ⟨hbs.l0,hbs.l3,hbs.t0,hbs.t1,hbs.g0,hbs.g1,hbs.n0,hbs.n8,hbs.a0,hbs.a1,hbs.mine,hbs.heard,by show(c.back++[m.src]).length≤5;simp;omega⟩ hN c.fres c.fown c.ftok (by show x.tr.length≤_;omega));rw[p.out.2.2.1,←O.out.2]at b4;clear hR b a5 HR;go_wp2_with (first|rw[a7.out]);clear b3 a9;refine eD [0,0,0,1,1,0,0,0,0,1,0,0] (by kernel_rfl) (fun _ _ _ _=>rfl) ?_;simp only[dC,dB];iterate 12 (apply sB rfl rfl;·(intro x h;(try cases h rfl);go_simp;with_reducible rfl))
   refine cP ?_;try simp only[pA]
   go_wp2_with (first|(refine cW rfl 70 _ rfl ⟨B,52,none⟩ rfl (evL (fEv c.fres c.fown c.ftok)) _ c3.out underlying70 rfl (by kernel_rfl) ?_)|(go_at_call 180;refine b4.out.mono ?_;rintro e W9 ⟨rfl,a2⟩));go_end0;refine⟨rfl,?_⟩;rw[a4.out];exact RmTo.behind (S:=NoS) (Chg.of_below a.out.be) (fun _ _ h=>h.elim) (RmTo.trans p.out.2.1 p.out.2.2.1 p.out.2.2.2.1 p.out.2.2.2.2 a2.drew)
  ·have hR:=HR.out;rw[if_neg b,fW]at hR;have a4:=cN hR;have d2:(((c.back.length:Int)+1)==x.cf.f+1)=false:=by simp at b;simp;omega
   clear hR b HR;go_wp2_with (first|rw[a7.out]);clear b3 a9;refine eD [0,0,0,1,1,0,0,0,0,1,0,0] (by kernel_rfl) (fun _ _ _ _=>rfl) ?_;simp only[dC,dB];iterate 12 (apply sB rfl rfl;·(intro x h;(try cases h rfl);go_simp;with_reducible rfl))
   refine cP ?_;try simp only[pA]
   go_wp2_with fail;go_end0;refine⟨rfl,?_⟩;rw[a4.out];exact RmTo.behind (S:=NoS) (Chg.of_below a.out.be) (fun _ _ h=>h.elim) (RmTo.trans p.out.2.1 p.out.2.2.1 p.out.2.2.2.1 p.out.2.2.2.2 (RmTo.of p.out.1 |>.after (S:=NoS) (Chg.refl _ _).drew (fun _ _ h=>h)))
end Go.Proofs.YtbbdgokdfhdpiaaGreatDoor
