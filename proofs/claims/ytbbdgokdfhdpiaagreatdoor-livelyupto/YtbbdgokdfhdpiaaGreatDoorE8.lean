/- A part of the proof: PNet, PCli, PSend, PMap, PHold, KpLow, PWatch. -/
import Derived.Maps.OwnSet
import Derived.OwnWalk
import Derived.Test.YtbbdgokdfhdpiaaGreatDoorE2
import Derived.Test.YtbbdgokdfhdpiaaGreatDoorE6
namespace Go.Proofs.YtbbdgokdfhdpiaaGreatDoor
set_option linter.all false
set_option maxRecDepth 100000
set_option maxHeartbeats 40000000
open Go.Proofs.Tryz Go.RowKit
def NtAt(W:World)(G:Nat→Prop)(g:Nat)(av cv:Value)(net:List Mg)(tr:List Ev):Prop:=
 ∃nv tv,W.heap[g]?=some (.cells #[av,cv,nv,tv] 100 (0,0))∧G g∧
  W.ownsRow 0 66 10 nv net.length (cQ mgL net)∧W.ownsRow 0 70 19 tv tr.length (cQ evL tr)∧
  (∀k,nv.ownBlock=some k→G k)∧(∀k,tv.ownBlock=some k→G k)∧(∀k,G k→k<W.heap.size)
theorem sJ:(prog.info? 66).map (fun i=>(i.zero,i.size,i.bytes))=some (some (mgV zMg),10,80):=by kernel_rfl
theorem aDk:(prog.info? 70).map (fun i=>(i.zero,i.size,i.bytes))=some (some (evV zEv),19,152):=by kernel_rfl
theorem aDl(e:Ev):∀u ∈ evL e,u.oneCell'=true:=by simp[evL,Value.oneCell']
theorem tP(m:Mg):∀u ∈ mgL m,u.oneCell'=true:=by simp[mgL,Value.oneCell']
theorem pW(e:Ev)(h:e.kind=1):cH [e]=[e.msg]:=by simp[cH,pG,h]
theorem fL(e:Ev)(h:e.kind≠1):cH [e]=[]:=by simp[cH,pG,h]
theorem wU(W:World)(G:Nat→Prop)(g:Nat)(av cv:Value)(net:List Mg)(tr:List Ev)(e:Ev)(h:NtAt W G g av cv net tr)(hn:net.length≤100000000000)(ht:tr.length≤100000000000):
 Calls prog 77 #[.pointer (some ⟨g,0,none⟩),evV e] W fun r W'=>r= .returned (.tuple #[])∧
  ∃G',NtAt W' G' g av cv (net++cH [e]) (tr++[e])∧Chg G W W'∧∀k,G' k→G k∨W.heap.size≤k:=by
 obtain⟨I,R,hg,K,U,a0,Y,b4,e0⟩:=h;obtain⟨i0,hi,e1,f0,e7⟩:=info_parts aDk;obtain⟨i1,ji,e2,f3,d7⟩:=info_parts sJ;have f7:=cX hg;have e4:=gA a0 hg (by decide);have a9:=gA U hg (by decide);have c5:=oS U a0 (by decide);have d8:=cA c5;clear c5;obtain⟨k,nd,⟨u,s,w,t,y,b,⟨p,v,n,m⟩⟩,ok,ol,ot,M,ow,tk,bl⟩:=e;generalize hE:(⟨k,nd,⟨u,s,w,t,y,b,⟨p,v,n,m⟩⟩,ok,ol,ot,M,ow,tk,bl⟩:Ev)=E;have HE:=cA hE;have b7:evL E=evL ⟨k,nd,⟨u,s,w,t,y,b,⟨p,v,n,m⟩⟩,ok,ol,ot,M,ow,tk,bl⟩:=by rw[hE]
 have X:=cA b7;have b6:evV E=evV ⟨k,nd,⟨u,s,w,t,y,b,⟨p,v,n,m⟩⟩,ok,ol,ot,M,ow,tk,bl⟩:=by rw[hE]
 rw[b6];clear hE b7 b6;have bW:∀o:Obj,(W.alloc o).heap[g]?=some (.cells #[av,cv,I,R] 100 (0,0)):=fun o=>cR o hg;go_enter func77,ntmps77;go_wp2_with fail;generalize B:W.alloc (.cells #[.int .i64 k,.int .i64 nd,.int .i64 u,.int .i64 s,.int .i64 w,.int .i64 t,.int .i64 y,.int .i64 b,.int .i64 p,.int .i64 v,.int .i64 n,.int .i64 m,.int .i64 ok,.int .i64 ol,.int .i64 ot,.int .i64 M,.int .i64 ow,.int .i64 tk,.int .i64 bl] 70)=W0;have bE:W0.heap[W.heap.size]?=some (.cells (evL E).toArray 70 (0,0)):=by
  rw[←B,aA,X.out]
 have bG:W0.heap[g]?=some (.cells #[av,cv,I,R] 100 (0,0)):=by rw[←B];exact bW _
 have c4:Chg G W W0:=by rw[←B];exact(Chg.refl _ _).alloc _
 have b0:W0.heap.size=W.heap.size+1:=by rw[←B];simp
 have a2:W0.ownsRow 0 66 10 I net.length (cQ mgL net):=by rw[←B];exact U.alloc _
 have a5:W0.ownsRow 0 70 19 R tr.length (cQ evL tr):=by rw[←B];exact a0.alloc _
 have c3:W0.cell? ⟨g,3,none⟩=some R:=cB bG 3 _ rfl;clear B bW;refine rlx [0,0,0,0,1,1,2] (fun w'=>w'.cell? ⟨g,3,none⟩=some R∧∀j x,(evL E)[j]?=some x→w'.cell? ((⟨W.heap.size,0,none⟩:Addr).add j)=some x) (by kernel_rfl) (fun _ _ _ _=>rfl) ?_ ?_
 ·exact⟨c3,cE bE⟩
 simp only[cM,cL];iterate 5 (apply sB rfl rfl;·(intro x h;(try have h:=h rfl);(try dsimp only at h);go_simp;with_reducible rfl))
 try simp only[pA]
 refine cK rfl (fun x hx=>cF 70 _ rfl ⟨W.heap.size,0,none⟩ rfl _ _ hx.2 underlying70 rfl (by kernel_rfl)) ?_;(try simp only[pA]);refine dC rfl (fun C hC=>?_);rw[X.out];go_simp;refine hC _ _ ⟨cB (cR _ bG) 3 _ rfl,cE (cR _ bE)⟩ ?_;clear hC C;refine cC ?_;generalize z:W0.alloc (.cells #[.int .i64 k,.int .i64 nd,.int .i64 u,.int .i64 s,.int .i64 w,.int .i64 t,.int .i64 y,.int .i64 b,.int .i64 p,.int .i64 v,.int .i64 n,.int .i64 m,.int .i64 ok,.int .i64 ol,.int .i64 ot,.int .i64 M,.int .i64 ow,.int .i64 tk,.int .i64 bl] 70)=W1;have bS:W1.heap[W.heap.size+1]?=some (.cells (evL E).toArray 70 (0,0)):=by
  rw[←z,←b0,aA,X.out]
 have b8:W1.heap[W.heap.size]?=some (.cells (evL E).toArray 70 (0,0)):=by rw[←z];exact cR _ bE
 have c7:W1.heap[g]?=some (.cells #[av,cv,I,R] 100 (0,0)):=by rw[←z];exact cR _ bG
 have c8:Chg G W W1:=by rw[←z];exact c4.alloc _
 have e8:W1.heap.size=W.heap.size+2:=by rw[←z];simp[b0]
 have a7:W1.ownsRow 0 66 10 I net.length (cQ mgL net):=by rw[←z];exact a2.alloc _
 have a1:W1.ownsRow 0 70 19 R tr.length (cQ evL tr):=by rw[←z];exact a5.alloc _
 clear z c4 b0 a2 a5 bG bE c3;refine wpList_append_lies _ rfl _ _ 43 rfl 0 70 i0 _ 19 152 underlying43 hi e1 f0 e7 rfl (by decide) R tr.length (cQ evL tr) rfl a1.drew ⟨W.heap.size+1,0,none⟩ 1 1 (evL E) rfl rfl (cE bS) (aDl E) (by decide) (by unfold maxLen;omega) (by omega) (aI _) (W.heap.size+2) e8 ?_;intro J A T c i a4 d6;have d:W1.grownBy T R.ownBlock:=⟨i.os,i.tape,i.output,i.size,i.block⟩;have D:=(Chg.of_grown d).kept c7 (fun e=>e4 g e.symm rfl);have Z:=(Chg.of_grown d).kept b8 (fun e=>by have:=rK a0 _ e.symm;omega);have F:=(Chg.of_grown d).row a7 (fun q a e=>d8.out q a e.symm);have b2:=c8.grown d (fun q a _=>b4 q a);have f6:W.heap.size+2≤T.heap.size:=by have:=d.size;omega
 clear i d c7 b8 c8 a7 a1 bS;simp only[pA];have d3:T.cell? ⟨g,3,none⟩=some R:=cB D 3 _ rfl;have e3:=cY D 3;have d0:T.cell? ⟨W.heap.size,0,none⟩=some (.int .i64 k):=by
  rw[X.out]at Z;exact cB Z 0 _ rfl
 have f2:g≠W.heap.size:=by omega
 by_cases hk:k=1
 ·have d9:(k==1)=true:=by simp[hk]
  have HK:=cA hk;clear hk;go_wp2_with fail;have f5:=gA c D (by decide) J rfl;have c9:=oS F c (by decide);have N:=cO D 3 (.slice (some ⟨J,0,none⟩) (tr.length+1) A);have L:=yI Z ⟨g,3,none⟩ (.slice (some ⟨J,0,none⟩) (tr.length+1) A) (fun e=>f2 e.symm);have H:Chg (fun q=>q=g) T (T.setCell ⟨g,3,none⟩ (.slice (some ⟨J,0,none⟩) (tr.length+1) A)):=(Chg.refl _ _).setCell _ _ (fun _=>rfl);have P:=H.row F (fun q a=>a9 q a);have O:=H.row c (fun q a=>by simp[Value.ownBlock]at a;omega);have b3:=b2.setCell ⟨g,3,none⟩ (.slice (some ⟨J,0,none⟩) (tr.length+1) A) (fun _=>K);have b5:(T.setCell ⟨g,3,none⟩ (.slice (some ⟨J,0,none⟩) (tr.length+1) A)).heap.size=T.heap.size:=by simp
  generalize T.setCell ⟨g,3,none⟩ (.slice (some ⟨J,0,none⟩) (tr.length+1) A)=W3 at N L P O b3 b5⊢;clear H d3 e3 d0 F b2 c;have c2:W3.cell? ⟨g,2,none⟩=some I:=cB N 2 _ rfl;refine rlx [0,0,0,0,1,0,1,2] (fun w'=>w'.cell? ⟨g,2,none⟩=some I∧∀j x,(mgL E.msg)[j]?=some x→w'.cell? ((⟨W.heap.size,2,none⟩:Addr).add j)=some x) (by kernel_rfl) (fun _ _ _ _=>rfl) ?_ ?_
  ·exact⟨c2,fF L 2 _ (aDm E)⟩
  simp only[cM,cL];iterate 6 (apply sB rfl rfl;·(intro x h;(try have h:=h rfl);(try dsimp only at h);go_simp;with_reducible rfl))
  try simp only[pA]
  refine cK rfl (fun x hx=>cF 66 _ rfl ⟨W.heap.size,2,none⟩ rfl _ _ hx.2 underlying66 rfl (by kernel_rfl)) ?_;(try simp only[pA]);refine dC rfl (fun C hC=>?_);have HM:Hid (E.msg=⟨u,s,w,t,y,b,⟨p,v,n,m⟩⟩):=by
   show E.msg=_;rw[←HE.out]
  rw[HM.out];go_simp;refine hC _ _ ⟨cB (cR _ N) 2 _ rfl,fF (cR _ L) 2 _ (aDm E)⟩ ?_;clear hC C;refine cC ?_;have b1:=aA W3 (.cells #[.int .i64 u,.int .i64 s,.int .i64 w,.int .i64 t,.int .i64 y,.int .i64 b,.int .i64 p,.int .i64 v,.int .i64 n,.int .i64 m] 66);have c6:=cR (.cells #[.int .i64 u,.int .i64 s,.int .i64 w,.int .i64 t,.int .i64 y,.int .i64 b,.int .i64 p,.int .i64 v,.int .i64 n,.int .i64 m] 66) N;have c1:=cR (.cells #[.int .i64 u,.int .i64 s,.int .i64 w,.int .i64 t,.int .i64 y,.int .i64 b,.int .i64 p,.int .i64 v,.int .i64 n,.int .i64 m] 66) L;have a8:=P.alloc (.cells #[.int .i64 u,.int .i64 s,.int .i64 w,.int .i64 t,.int .i64 y,.int .i64 b,.int .i64 p,.int .i64 v,.int .i64 n,.int .i64 m] 66);have a6:=O.alloc (.cells #[.int .i64 u,.int .i64 s,.int .i64 w,.int .i64 t,.int .i64 y,.int .i64 b,.int .i64 p,.int .i64 v,.int .i64 n,.int .i64 m] 66);have b9:=b3.alloc (.cells #[.int .i64 u,.int .i64 s,.int .i64 w,.int .i64 t,.int .i64 y,.int .i64 b,.int .i64 p,.int .i64 v,.int .i64 n,.int .i64 m] 66);have e6:(W3.alloc (.cells #[.int .i64 u,.int .i64 s,.int .i64 w,.int .i64 t,.int .i64 y,.int .i64 b,.int .i64 p,.int .i64 v,.int .i64 n,.int .i64 m] 66)).heap.size=W3.heap.size+1:=by simp
  generalize W3.alloc (.cells #[.int .i64 u,.int .i64 s,.int .i64 w,.int .i64 t,.int .i64 y,.int .i64 b,.int .i64 p,.int .i64 v,.int .i64 n,.int .i64 m] 66)=W4 at*;rw[b5]at b1;have c0:(mgL (⟨u,s,w,t,y,b,⟨p,v,n,m⟩⟩:Mg))=[.int .i64 u,.int .i64 s,.int .i64 w,.int .i64 t,.int .i64 y,.int .i64 b,.int .i64 p,.int .i64 v,.int .i64 n,.int .i64 m]:=rfl;refine wpList_append_lies _ rfl _ _ 88 rfl 0 66 i1 _ 10 80 underlying88 ji e2 f3 d7 rfl (by decide) I net.length (cQ mgL net) (by rfl) a8.drew ⟨T.heap.size,0,none⟩ 1 1 (mgL (⟨u,s,w,t,y,b,⟨p,v,n,m⟩⟩:Mg)) (by rfl) rfl (cE (by rw[c0];exact b1)) (tP _) (by decide) (by unfold maxLen;omega) (by omega) (aI _) (W3.heap.size+1) e6 ?_;intro gn a3 W5 Q l d1 d2;have f:W4.grownBy W5 I.ownBlock:=⟨l.os,l.tape,l.output,l.size,l.block⟩;have V:=(Chg.of_grown f).kept c6 (fun e=>a9 g e.symm rfl);have f1:=(Chg.of_grown f).kept c1 (fun e=>by have:=rK U _ e.symm;omega);have d4:=(Chg.of_grown f).row a6 (fun q a e=>c9 q e.symm a);have e9:=b9.grown f (fun q a _=>Y q a);have f8:=f.size;(try simp only[pA]);have d5:W5.cell? ⟨g,2,none⟩=some I:=cB V 2 _ rfl;have e5:=cY V 2;clear l f c0 b1 c6 c1 a8 a6 b9 N L P O b3 c2 f1 Z D;go_wp2_with fail;go_end0;have H:Chg (fun q=>q=g) W5 (W5.setCell ⟨g,2,none⟩ (.slice (some ⟨gn,0,none⟩) (net.length+1) a3)):=(Chg.refl _ _).setCell _ _ (fun _=>rfl);have f4:=gA Q V (by decide) gn rfl
  refine⟨rfl,fun q=>q=g∨q=gn∨q=J,⟨.slice (some ⟨gn,0,none⟩) (net.length+1) a3,.slice (some ⟨J,0,none⟩) (tr.length+1) A,?_,Or.inl rfl,?_,?_,fun q a=>Or.inr (Or.inl (by simpa[Value.ownBlock]using a.symm)),fun q a=>Or.inr (Or.inr (by simpa[Value.ownBlock]using a.symm)),?_⟩,e9.setCell _ _ (fun _=>K),?_⟩
  ·exact cO V 2 _
  ·rw[pW E (by rw[←HE.out];exact HK.out),aD,aK,nL,HM.out];exact H.row Q (fun q a=>by simp[Value.ownBlock]at a;omega)
  ·rw[aD,aK,nL];exact H.row d4 (fun q a=>by simp[Value.ownBlock]at a;omega)
  ·intro q a;simp;rcases a with rfl|rfl|rfl
   ·omega
   ·exact d2
   ·omega
  ·intro q a;rcases a with rfl|rfl|rfl
   ·exact Or.inl K
   ·rcases d1 with h|h
    ·exact Or.inl (Y _ h)
    ·right;omega
   ·rcases a4 with h|h
    ·exact Or.inl (b4 _ h)
    ·right;omega
 ·have d9:(k==1)=false:=by simp[hk]
  have HK:Hid (k≠1):=hk;clear hk;go_wp2_with fail;go_end0;refine⟨rfl,fun q=>q=g∨I.ownBlock=some q∨q=J,⟨I,.slice (some ⟨J,0,none⟩) (tr.length+1) A,?_,Or.inl rfl,?_,?_,fun q a=>Or.inr (Or.inl a),fun q a=>Or.inr (Or.inr (by simpa[Value.ownBlock]using a.symm)),?_⟩,b2.setCell _ _ (fun _=>K),?_⟩
  ·exact cO D 3 _
  ·rw[fL E (by rw[←HE.out];exact HK.out),aC];exact(Chg.setCell (S:=fun q=>q=g) (Chg.refl _ _) ⟨g,3,none⟩ _ (fun _=>rfl)).row F (fun q a=>a9 q a)
  ·rw[aD,aK,nL];have:=gA c D (by decide) J rfl;exact(Chg.setCell (S:=fun q=>q=g) (Chg.refl _ _) ⟨g,3,none⟩ _ (fun _=>rfl)).row c (fun q a=>by simp[Value.ownBlock]at a;omega)
  ·intro q a;simp;rcases a with rfl|a|rfl
   ·omega
   ·have:=e0 q (Y q a);omega
   ·exact d6
  ·intro q a;rcases a with rfl|a|rfl
   ·exact Or.inl K
   ·exact Or.inl (Y q a)
   ·rcases a4 with h|h
    ·exact Or.inl (b4 _ h)
    ·right;omega
abbrev wtV(w:Wt):Value:=.agg #[.int .i64 w.own,.int .i64 w.tok,.int .i64 w.seq,.int .i64 w.since]
abbrev tY(g:Nat):Value:=.func (.func 77) #[.pointer (some ⟨g,0,none⟩)] #[]
def MapI(W:World)(b:Nat)(f:Int→Int):Prop:=∃ft n,MapAt iK W b ft n∧∀k,(ft k).getD (.int .i64 0)= .int .i64 (f k)
def MapW(W:World)(b:Nat)(f:Int→Wt):Prop:=∃ft n,MapAt iK W b ft n∧∀k,(ft k).getD (wtV zWt)=wtV (f k)
def aA3(l:List Int):Int→Option Value:=fun k=>if l.contains k=true then some (.agg #[])else none
def AnsAt(W:World)(F:Nat→Prop)(v:Value)(t:At):Prop:=(v= .map none∧t.ans=[]∧t.awaited=0)∨∃am,v= .map (some am)∧MapAt iK W am (aA3 t.ans) t.ans.length∧F am
abbrev rT(o:On)(an mv:Value):List Value:=[.int .i64 o.kind,.int .i64 o.lock,.int .i64 o.ttl,.int .i64 o.began,.int .i64 o.tries,
 .int .i64 o.att.bal,.int .i64 o.att.began,.int .i64 o.att.awaited,an,.int .i64 o.att.base,.int .i64 o.att.val.own,.int .i64 o.att.val.tok,.int .i64 o.att.val.ttl,.int .i64 o.att.val.seq,.int .i64 o.att.eres,.int .i64 o.att.eown,.int .i64 o.att.etok,mv]
def OnAt(W:World)(F:Nat→Prop)(ob:Nat)(an mv:Value)(o:On):Prop:=
 W.heap[ob]?=some (.cells (rT o an mv).toArray 195 (0,0))∧F ob∧AnsAt W F an o.att∧
  W.ownsRow 0 3 1 mv o.mine.length (o.mine.map fun x=>.int .i64 x)∧(∀k,mv.ownBlock=some k→F k)
abbrev clL(f:Cf)(c:Ct)(ch tk hd wt g:Nat)(dv:Value):List Value:=[.int .i64 f.f,.int .i64 f.clients,.int .i64 f.patience,.int .i64 f.tries,.int .i64 f.drift,.int .i64 f.compact,.int .i64 f.room,
 .int .i64 c.num,.int .i64 c.inc,.chan (some ch),tY g,.int .i64 c.clock,.int .i64 c.round,.map (some tk),.map (some hd),.map (some wt),dv]
structure MapsAt(W:World)(F:Nat→Prop)(tk hd wt:Nat)(c:Ct):Prop where
 toks:MapI W tk c.toks
 holds:MapI W hd c.holds
 wat:MapW W wt c.wat
 th:tk≠hd
 tw:tk≠wt
 hw:hd≠wt
 ft:F tk
 fh:F hd
 fw:F wt
def DoAt(W:World)(F:Nat→Prop)(tk hd wt:Nat)(dv:Value):Option On→Prop
 |none=>dv= .pointer none
 |some o=>∃ob an mv,dv= .pointer (some ⟨ob,0,none⟩)∧OnAt W F ob an mv o∧an≠.map (some tk)∧an≠.map (some hd)∧an≠.map (some wt)
structure ClAt(W:World)(F:Nat→Prop)(b g:Nat)(f:Cf)(c:Ct)(ch tk hd wt:Nat)(dv:Value):Prop where
 blk:W.heap[b]?=some (.cells (clL f c ch tk hd wt g dv).toArray 150 (0,0))
 fb:F b
 chan:W.heap[ch]?=some (.chan 0 #[] (!c.up) 0 0 false)
 fc:F ch
 maps:MapsAt W F tk hd wt c
 doing:DoAt W F tk hd wt dv c.doing
 lt:∀k,F k→k<W.heap.size
section
variable {W W':World}
theorem MapI.of_heap{b:Nat}{f:Int→Int}(h:MapI W b f)(hb:W'.heap[b]?=W.heap[b]?):MapI W' b f:=by
 obtain⟨d,n,a,c⟩:=h;exact⟨d,n,a.of_heap hb,c⟩
theorem MapW.of_heap{b:Nat}{f:Int→Wt}(h:MapW W b f)(hb:W'.heap[b]?=W.heap[b]?):MapW W' b f:=by
 obtain⟨d,n,a,c⟩:=h;exact⟨d,n,a.of_heap hb,c⟩
theorem AnsAt.of_heap{F:Nat→Prop}{v:Value}{l:At}(h:AnsAt W F v l)(hb:∀k,F k→W'.heap[k]?=W.heap[k]?):AnsAt W' F v l:=by
 rcases h with h|⟨a,d,c,b⟩
 ·exact Or.inl h
 ·exact Or.inr ⟨a,d,c.of_heap (hb a b),b⟩
theorem OnAt.of_heap{F:Nat→Prop}{ob:Nat}{an mv:Value}{o:On}(h:OnAt W F ob an mv o)(hb:∀k,F k→W'.heap[k]?=W.heap[k]?):OnAt W' F ob an mv o:=by
 obtain⟨d,a,e,c,b⟩:=h;exact⟨(hb ob a).trans d,a,e.of_heap hb,fU c fun k hk=>hb k (b k hk),b⟩
theorem MapsAt.of_heap{F:Nat→Prop}{tk hd wt:Nat}{c:Ct}(h:MapsAt W F tk hd wt c)(hb:∀k,F k→W'.heap[k]?=W.heap[k]?):MapsAt W' F tk hd wt c:=
 {h with toks:=h.toks.of_heap (hb _ h.ft),holds:=h.holds.of_heap (hb _ h.fh),wat:=h.wat.of_heap (hb _ h.fw)}
theorem DoAt.of_heap{F:Nat→Prop}{tk hd wt:Nat}{dv:Value}{o:Option On}(h:DoAt W F tk hd wt dv o)(hb:∀k,F k→W'.heap[k]?=W.heap[k]?):DoAt W' F tk hd wt dv o:=by
 cases o with
 |none=>exact h
 |some o=>
  obtain⟨e,a,b,d,c,f⟩:=h;exact⟨e,a,b,d,c.of_heap hb,f⟩
theorem ClAt.of_heap{F:Nat→Prop}{b g:Nat}{f:Cf}{c:Ct}{ch tk hd wt:Nat}{dv:Value}(h:ClAt W F b g f c ch tk hd wt dv)(hs:W.heap.size≤W'.heap.size)(hb:∀k,F k→W'.heap[k]?=W.heap[k]?):ClAt W' F b g f c ch tk hd wt dv:=
 ⟨(hb b h.fb).trans h.blk,h.fb,(hb ch h.fc).trans h.chan,h.fc,h.maps.of_heap hb,h.doing.of_heap hb,fun k hk=>aG (h.lt k hk) hs⟩
theorem ClAt.kept{F S:Nat→Prop}{b g:Nat}{f:Cf}{c:Ct}{ch tk hd wt:Nat}{dv:Value}(h:ClAt W F b g f c ch tk hd wt dv)(hc:Chg S W W')(hn:∀k,F k→¬S k):ClAt W' F b g f c ch tk hd wt dv:=
 h.of_heap hc.size fun k hk=>hc.block k (h.lt k hk) (hn k hk)
end
structure Sys(W:World)(F G:Nat→Prop)(b g:Nat)(f:Cf)(av cv:Value)(c:Ct)(net:List Mg)(tr:List Ev):Prop where
 cl:∃ch tk hd wt dv,ClAt W F b g f c ch tk hd wt dv
 nt:NtAt W G g av cv net tr
 apart:∀k,F k→¬G k
structure Went(W W':World)(F F' G G':Nat→Prop):Prop where
 chg:Chg (fun k=>F k∨G k) W W'
 f:∀k,F' k→F k∨W.heap.size≤k
 g:∀k,G' k→G k∨W.heap.size≤k
theorem Went.refl(W:World)(F G:Nat→Prop):Went W W F F G G:=⟨Chg.refl _ _,fun _ h=>Or.inl h,fun _ h=>Or.inl h⟩
theorem Went.trans{A B C:World}{F F1 F2 G G1 G2:Nat→Prop}(h:Went A B F F1 G G1)(k:Went B C F1 F2 G1 G2):Went A C F F2 G G2:=
 ⟨h.chg.trans k.chg (fun x hx hs=>by
  rcases hs with hs|hs
  ·rcases h.f x hs with h'|h'
   ·exact Or.inl h'
   ·omega
  ·rcases h.g x hs with h'|h'
   ·exact Or.inr h'
   ·omega),
  fun x hx=>by
   rcases k.f x hx with h'|h'
   ·exact h.f x h'
   ·right;have:=h.chg.size;omega,
  fun x hx=>by
   rcases k.g x hx with h'|h'
   ·exact h.g x h'
   ·right;have:=h.chg.size;omega⟩
def After(W:World)(F G:Nat→Prop)(b g:Nat)(f:Cf)(av cv:Value)(c:Ct)(net:List Mg)(tr:List Ev)(W':World):Prop:=∃F' G',Sys W' F' G' b g f av cv c net tr∧Went W W' F F' G G'
theorem After.trans{A B C:World}{F F1 G G1:Nat→Prop}{b g:Nat}{f:Cf}{av cv:Value}{c:Ct}{net:List Mg}{tr:List Ev}(h:Went A B F F1 G G1)(k:After B F1 G1 b g f av cv c net tr C):After A F G b g f av cv c net tr C:=by
 obtain⟨e,d,a,i⟩:=k;exact⟨e,d,a,h.trans i⟩
theorem jE(W:World)(F G:Nat→Prop)(b g:Nat)(f:Cf)(av cv:Value)(c:Ct)(net:List Mg)(tr:List Ev)(e:Ev)(h:Sys W F G b g f av cv c net tr)(hn:net.length≤100000000000)(ht:tr.length≤100000000000):
 Calls prog 77 #[.pointer (some ⟨g,0,none⟩),evV e] W fun r W'=>r= .returned (.tuple #[])∧∃G',Sys W' F G' b g f av cv c (net++cH [e]) (tr++[e])∧Chg G W W'∧∀k,G' k→G k∨W.heap.size≤k:=by
 refine(wU W G g av cv net tr e h.nt hn ht).mono ?_;rintro r W' ⟨o,G',d,j,l⟩;obtain⟨p,n,m,wt,q,a⟩:=h.cl;refine⟨o,G',⟨⟨p,n,m,wt,q,a.kept j h.apart⟩,d,fun k hk hk'=>?_⟩,j,l⟩;rcases l k hk' with i|i
 ·exact h.apart k hk i
 ·have:=a.lt k hk;omega
section
variable (c:Ct) (o:On) (kind base:Int) (v:Vl) (n:Nat)
theorem aCW:fA c o kind base v (n+1)=fA c o kind base v n++[fC ⟨kind,c.num,(n:Int),o.lock,o.att.bal,base,v⟩]:=by
 simp[fA,List.range_succ]
theorem sY:(fA c o kind base v n).length=n:=by simp[fA]
theorem qZ:(cH (fA c o kind base v n)).length≤n:=by
 have:=lI (fA c o kind base v n)
 rwa [sY]at this
end
theorem NtAt.lt{W:World}{G:Nat→Prop}{g:Nat}{av cv:Value}{net:List Mg}{tr:List Ev}(h:NtAt W G g av cv net tr):∀k,G k→k<W.heap.size:=by
 obtain⟨_,_,_,_,_,_,_,_,h⟩:=h;exact h
theorem NtAt.of_heap{W W':World}{G:Nat→Prop}{g:Nat}{av cv:Value}{net:List Mg}{tr:List Ev}(h:NtAt W G g av cv net tr)(hs:W.heap.size≤W'.heap.size)(hb:∀k,G k→W'.heap[k]?=W.heap[k]?):NtAt W' G g av cv net tr:=by
 obtain⟨d,e,i,b,l,f,c,a,j⟩:=h;exact⟨d,e,(hb g b).trans i,b,fU l (fun k hk=>hb k (c k hk)),fU f (fun k hk=>hb k (a k hk)),c,a,fun k hk=>aG (j k hk) hs⟩
theorem NtAt.kept{W W':World}{G S:Nat→Prop}{g:Nat}{av cv:Value}{net:List Mg}{tr:List Ev}(h:NtAt W G g av cv net tr)(hc:Chg S W W')(hn:∀k,G k→¬S k):NtAt W' G g av cv net tr:=
 h.of_heap hc.size fun k hk=>hc.block k (h.lt k hk) (hn k hk)
theorem Sys.ltF{W:World}{F G:Nat→Prop}{b g:Nat}{f:Cf}{av cv:Value}{c:Ct}{net:List Mg}{tr:List Ev}(h:Sys W F G b g f av cv c net tr):∀k,F k→k<W.heap.size:=by
 obtain⟨⟨_,_,_,_,_,a⟩,_,_⟩:=h;exact a.lt
theorem Sys.kept{W W':World}{F G S:Nat→Prop}{b g:Nat}{f:Cf}{av cv:Value}{c:Ct}{net:List Mg}{tr:List Ev}(h:Sys W F G b g f av cv c net tr)(hc:Chg S W W')(hf:∀k,F k→¬S k)(hg:∀k,G k→¬S k):Sys W' F G b g f av cv c net tr:=by
 obtain⟨⟨l,j,i,wt,m,e⟩,a,d⟩:=h;exact⟨⟨l,j,i,wt,m,e.kept hc hf⟩,a.kept hc hg,d⟩
theorem Chg.of_drew{S:Nat→Prop}{A B:World}(h:Chg S A.drew B):Chg S A B:=⟨h.os,h.tape,h.output,h.size,h.block⟩
theorem Sys.drew{W:World}{F G:Nat→Prop}{b g:Nat}{f:Cf}{av cv:Value}{c:Ct}{net:List Mg}{tr:List Ev}(h:Sys W F G b g f av cv c net tr):Sys W.drew F G b g f av cv c net tr:=
 h.kept ((Chg.refl NoS W).drew) (fun _ _ h=>h) (fun _ _ h=>h)
theorem pN(W:World)(F G:Nat→Prop)(b g:Nat)(f:Cf)(av cv:Value)(c:Ct)(o:On)(net:List Mg)(tr:List Ev)(kind base:Int)(v:Vl)(h:Sys W F G b g f av cv c net tr)(hd:c.doing=some o)(hf1:1≤f.f)(hf2:f.f≤2)(hn:net.length≤99999999990)(ht:tr.length≤99999999990):
 Calls prog 165 #[.pointer (some ⟨b,0,none⟩),mgV ⟨kind,0,0,0,0,base,v⟩] W fun r W'=>r= .returned (.tuple #[])∧
  ∃G',Sys W' F G' b g f av cv c (net++cH (fA c o kind base v (dI f))) (tr++fA c o kind base v (dI f))∧Chg G W W'∧∀k,G' k→G k∨W.heap.size≤k:=by
 obtain⟨ch,tk,b3,wt,dv,m⟩:=h.cl;have L:=m.doing;rw[hd]at L;obtain⟨U,an,mv,rfl,⟨d,a5,_⟩,_⟩:=L;have a:=m.blk;have a1:=m.fb;have z:=m.lt;have T:=h.nt.lt;have a7:=h.apart;have HS:=cA h;have c0:W.cell? ⟨b,0,none⟩=some (.int .i64 f.f):=cB a 0 _ rfl;have HN:Hid (dI f=(2*f.f+1).toNat):=rfl;have a3:=z b a1;clear h m hd;go_enter func165,ntmps165;go_wp2_with fail;refine rlx [0,0,0,1,0,0,0,1,0,0,0,1,0,0,0,1,0,0,0,1,0,2,0,2,0] (fun x=>x.cell? ⟨b,7,none⟩=some (.int .i64 c.num)∧x.cell? ⟨b,16,none⟩=some (.pointer (some ⟨U,0,none⟩))∧x.cell? ⟨U,1,none⟩=some (.int .i64 o.lock)∧x.cell? ⟨U,5,none⟩=some (.int .i64 o.att.bal)) (by kernel_rfl) (fun _ _ _ _=>rfl) ?_ ?_
 ·exact⟨cB (cR _ a) 7 _ rfl,cB (cR _ a) 16 _ rfl,cB (cR _ d) 1 _ rfl,cB (cR _ d) 5 _ rfl⟩
 simp only[cM,cL];iterate 21 (apply sB rfl rfl;·(intro x h;(try have h:=h rfl);(try dsimp only at h);go_simp;with_reducible rfl))
 try simp only[pA]
 refine dC rfl (fun C hC=>?_);go_simp;refine hC _ _ ⟨cB (cR _ a) 7 _ rfl,cB (cR _ a) 16 _ rfl,cB (cR _ d) 1 _ rfl,cB (cR _ d) 5 _ rfl⟩ ?_;clear hC C;iterate 1 (apply sB rfl rfl;·(intro x h;(try have h:=h rfl);(try dsimp only at h);go_simp;with_reducible rfl))
 try simp only[pA]
 refine dC rfl (fun C hC=>?_);go_simp;refine hC _ _ ⟨cB (cR _ a) 7 _ rfl,cB (cR _ a) 16 _ rfl,cB (cR _ d) 1 _ rfl,cB (cR _ d) 5 _ rfl⟩ ?_;clear hC C;iterate 1 (apply sB rfl rfl;·(intro x h;(try have h:=h rfl);(try dsimp only at h);go_simp;with_reducible rfl))
 refine cC ?_;try simp only[pA]
 go_wp2_with fail;generalize s:(W.alloc (.cells #[.int .i64 kind,.int .i64 c.num,.int .i64 0,.int .i64 o.lock,.int .i64 o.att.bal,.int .i64 base,.int .i64 v.own,.int .i64 v.tok,.int .i64 v.ttl,.int .i64 v.seq] 66)).drew=W1;have bM:W1.heap[W.heap.size]?=some (.cells #[.int .i64 kind,.int .i64 c.num,.int .i64 0,.int .i64 o.lock,.int .i64 o.att.bal,.int .i64 base,.int .i64 v.own,.int .i64 v.tok,.int .i64 v.ttl,.int .i64 v.seq] 66 (0,0)):=by
  rw[←s];exact aA W _
 have R:Chg NoS W W1:=by rw[←s];exact((Chg.refl _ _).alloc _).drew
 have a8:W1.heap.size=W.heap.size+1:=by rw[←s];simp
 have Y:=cA (HS.out.kept R (fun _ _ h=>h) (fun _ _ h=>h));clear s c0 a d HS;go_loopw [35] (fun i wr=>∃(k:Nat),(k:Int)≤2*f.f+1∧i= .int .i64 k∧∃(J:Nat→Prop) (K:Int),Sys wr F J b g f av cv c (net++cH (fA c o kind base v k)) (tr++fA c o kind base v k)∧wr.heap[W.heap.size]?=some (.cells #[.int .i64 kind,.int .i64 c.num,.int .i64 K,.int .i64 o.lock,.int .i64 o.att.bal,.int .i64 base,.int .i64 v.own,.int .i64 v.tok,.int .i64 v.ttl,.int .i64 v.seq] 66 (0,0))∧Chg G W wr∧(∀q,J q→G q∨W.heap.size+1≤q)∧W.heap.size+1≤wr.heap.size) (fun i _=>(2*f.f+1).toNat-(intOf i).toNat)
 case atStart=>exact⟨0,by simp;omega,rfl,G,0,by simpa[fA,cH]using Y.out,bM,R.mono (fun _ _ h=>h.elim),fun q hq=>Or.inl hq,by omega⟩
 case round=>
  obtain⟨k,hk,rfl,J,K,l,p,H,n,O⟩:=hrel;by_cases a4:(k:Int)<2*f.f+1
  ·have N:¬J W.heap.size:=fun hq=>by
    rcases n _ hq with h'|h'
    ·have:=T _ h';omega
    ·omega
   have a0:¬F W.heap.size:=fun hq=>by have:=z _ hq;omega
   obtain⟨b2,b0,a2,b4,a9,u⟩:=l.cl;have D:=u.blk;have c4:wr.cell? ⟨b,10,none⟩=some (tY g):=cB D 10 _ rfl;have m2:=cB p 2 _ rfl;have f2:=cY p 2;have S:b≠W.heap.size:=by omega
   have Q:=cA l;clear l u;go_wp2_with fail;have E:(wr.setCell ⟨W.heap.size,2,none⟩ (.int .i64 (k:Int))).heap[W.heap.size]?=some (.cells (mgL ⟨kind,c.num,(k:Int),o.lock,o.att.bal,base,v⟩).toArray 66 (0,0)):=cO p 2 (.int .i64 (k:Int));have M:Chg (fun q=>q=W.heap.size) wr (wr.setCell ⟨W.heap.size,2,none⟩ (.int .i64 (k:Int))):=(Chg.refl _ _).setCell _ _ (fun _=>rfl);have B:=cA (Q.out.kept M (fun q hq e=>a0 (e▸hq)) (fun q hq e=>N (e▸hq)));have t:=H.setCell ⟨W.heap.size,2,none⟩ (.int .i64 (k:Int)) (fun h=>absurd h (Nat.lt_irrefl _));have w:W.heap.size+1≤(wr.setCell ⟨W.heap.size,2,none⟩ (.int .i64 (k:Int))).heap.size:=by simpa using O
   have P:(wr.setCell ⟨W.heap.size,2,none⟩ (.int .i64 (k:Int))).cell? ⟨b,10,none⟩=some (tY g):=cB (yI D ⟨W.heap.size,2,none⟩ _ S) 10 _ rfl;generalize wr.setCell ⟨W.heap.size,2,none⟩ (.int .i64 (k:Int))=W2 at E B t w P⊢;clear M H O p m2 f2 Q D c4;refine rlx [0,0,0,1,1,0] (fun x=>x.cell? ⟨b,10,none⟩=some (tY g)∧∀j y,(mgL ⟨kind,c.num,(k:Int),o.lock,o.att.bal,base,v⟩)[j]?=some y→x.cell? ((⟨W.heap.size,0,none⟩:Addr).add j)=some y) (by kernel_rfl) (fun _ _ _ _=>rfl) ?_ ?_
   ·exact⟨P,cE E⟩
   simp only[cM,cL];iterate 4 (apply sB rfl rfl;·(intro x h;(try have h:=h rfl);(try dsimp only at h);go_simp;with_reducible rfl))
   try simp only[pA]
   refine cK rfl (fun x hx=>cF 66 _ rfl ⟨W.heap.size,0,none⟩ rfl _ _ hx.2 underlying66 rfl (by kernel_rfl)) ?_;iterate 1 (apply sB rfl rfl;·(intro x h;(try have h:=h rfl);(try dsimp only at h);go_simp;with_reducible rfl))
   refine cC ?_;try simp only[pA]
   have a6:=sY c o kind base v k;have b1:=qZ c o kind base v k;have I:=jE W2.drew F J b g f av cv c _ _ (fC ⟨kind,c.num,(k:Int),o.lock,o.att.bal,base,v⟩) B.out.drew (by rw[aD];omega) (by rw[aD];omega);clear B;go_wp2_with fail;refine I.mono ?_;rintro r W3 ⟨rfl,G3,Z,A,X⟩;go_wp2_with fail;go_roundw
   case measure=>simp[intOf];omega
   case rel=>
    refine⟨k+1,by omega,by go_num,G3,k,?_,(A.kept (by exact E) N),t.trans A.of_drew (fun x hx hq=>(n x hq).elim id (fun h=>by omega)),fun q hq=>?_,bP w A.of_drew.size⟩
    ·rw[aCW,gL,←aS,←aS];exact Z
    ·rcases X q hq with h|h
     ·exact n q h
     ·right;simp at h;omega
  ·have V:k=dI f:=by rw[HN.out];omega
   subst V;go_wp2_with fail;go_end0;refine⟨rfl,J,l,H,fun q hq=>?_⟩;rcases n q hq with h|h
   ·exact Or.inl h
   ·right;omega
theorem aBm:∀w,(zeroValue 3).run prog w= .ok (iK 0) w:=by
 intro w;have h:(prog.info? 3).map (fun i=>(i.zero,i.size,i.bytes))=some (some (iK 0),1,8):=by kernel_rfl
 obtain⟨i,b,a,_⟩:=info_parts h;simp[zeroValue,typeInfo,aT,b,a]
theorem aGL:∀w,(zeroValue 292).run prog w= .ok (wtV zWt) w:=by
 intro w;have h:(prog.info? 292).map (fun i=>(i.zero,i.size,i.bytes))=some (some (wtV zWt),4,32):=by kernel_rfl
 obtain⟨i,b,a,_⟩:=info_parts h;simp[zeroValue,typeInfo,aT,b,a]
theorem aEQ:∀w,(zeroValue 206).run prog w= .ok (.agg #[]) w:=by
 intro w;have h:(prog.info? 206).map (fun i=>(i.zero,i.size,i.bytes))=some (some (.agg #[]),0,0):=by kernel_rfl
 obtain⟨i,b,a,_⟩:=info_parts h;simp[zeroValue,typeInfo,aT,b,a]
section
variable {W:World}{b:Nat}
section
variable {f:Int→Int}
theorem MapI.get(h:MapI W b f)(k:Int):(Instr.lookup 146 (.map (some b)) (iK k) false).run prog W= .ok (iK (f k)) W:=by
 obtain⟨d,n,a,c⟩:=h;have:=(a.lookup aBw underlying146 aBm k).1;rw[this,c k]
theorem MapI.get2(h:MapI W b f)(k:Int):∃ok,(Instr.lookup 146 (.map (some b)) (iK k) true).run prog W= .ok (.tuple #[iK (f k),.bool ok]) W∧(ok=false→f k=0):=by
 obtain⟨c,n,e,a⟩:=h;have:=(e.lookup aBw underlying146 aBm k).2;refine⟨(c k).isSome,by rw[this,a k],fun hk=>?_⟩;have d:=a k;cases hfk:c k with
 |none=>rw[hfk]at d;simpa using d.symm
 |some v=>rw[hfk]at hk;cases hk
theorem MapI.set(h:MapI W b f)(k v:Int):∃W',(Instr.mapUpdate 146 (.map (some b)) (iK k) (iK v)).run prog W= .ok () W'∧Chg (fun x=>x=b) W W'∧W'.heap.size=W.heap.size∧MapI W' b (upd f k v):=by
 obtain⟨l,n,a,c⟩:=h;obtain⟨W',g,d,i,e⟩:=a.update aBw underlying146 k (iK v);exact⟨W',g,d,i,_,_,e,fun x=>by by_cases j:x=k<;>simp[upd,j,c]⟩
theorem MapI.del(h:MapI W b f)(k:Int)(ty:TypeId):∃W',(Builtin.delete_ #[146,3] ty #[.map (some b),iK k]).run prog W= .ok (.tuple #[]) W'∧Chg (fun x=>x=b) W W'∧W'.heap.size=W.heap.size∧MapI W' b (upd f k 0):=by
 obtain⟨l,n,a,c⟩:=h;obtain⟨W',g,d,i,e⟩:=a.delete (ty:=ty) aBw underlying146 k;exact⟨W',g,d,i,_,_,e,fun x=>by by_cases j:x=k<;>simp[upd,j,c]⟩
theorem MapI.clr(h:MapI W b f)(ty:TypeId):∃W',(Builtin.clear_ #[146] ty #[.map (some b)]).run prog W= .ok (.tuple #[]) W'∧Chg (fun x=>x=b) W W'∧W'.heap.size=W.heap.size∧MapI W' b (fun _=>0):=by
 obtain⟨j,n,a,i⟩:=h;obtain⟨W',e,c,g,d⟩:=a.clear (ty:=ty) underlying146;exact⟨W',e,c,g,_,_,d,fun x=>rfl⟩
end
theorem MapI.made(W:World):MapI (W.alloc (.map #[] 0)) W.heap.size (fun _=>0):=⟨_,_,MapAt.made W,fun _=>rfl⟩
section
variable {f:Int→Wt}
theorem MapW.get(h:MapW W b f)(k:Int):(Instr.lookup 147 (.map (some b)) (iK k) false).run prog W= .ok (wtV (f k)) W:=by
 obtain⟨d,n,a,c⟩:=h;have:=(a.lookup aBw underlying147 aGL k).1;rw[this,c k]
theorem MapW.set(h:MapW W b f)(k:Int)(v:Wt):∃W',(Instr.mapUpdate 147 (.map (some b)) (iK k) (wtV v)).run prog W= .ok () W'∧Chg (fun x=>x=b) W W'∧W'.heap.size=W.heap.size∧MapW W' b (upd f k v):=by
 obtain⟨l,n,c,d⟩:=h;obtain⟨W',i,e,j,g⟩:=c.update aBw underlying147 k (wtV v);refine⟨W',i,e,j,_,_,g,fun x=>?_⟩;by_cases a:x=k
 ·simp[upd,a]
 ·simp only[upd,a,if_false];exact d x
theorem MapW.clr(h:MapW W b f)(ty:TypeId):∃W',(Builtin.clear_ #[147] ty #[.map (some b)]).run prog W= .ok (.tuple #[]) W'∧Chg (fun x=>x=b) W W'∧W'.heap.size=W.heap.size∧MapW W' b (fun _=>zWt):=by
 obtain⟨j,n,a,i⟩:=h;obtain⟨W',e,c,g,d⟩:=a.clear (ty:=ty) underlying147;exact⟨W',e,c,g,_,_,d,fun x=>rfl⟩
end
theorem MapW.made(W:World):MapW (W.alloc (.map #[] 0)) W.heap.size (fun _=>zWt):=⟨_,_,MapAt.made W,fun _=>rfl⟩
abbrev SetAt(W:World)(b:Nat)(l:List Int):Prop:=MapAt iK W b (aA3 l) l.length
section
variable {l:List Int}
theorem SetAt.has(h:SetAt W b l)(k:Int):(Instr.lookup 189 (.map (some b)) (iK k) true).run prog W= .ok (.tuple #[.agg #[],.bool (l.contains k)]) W:=by
 have:=(MapAt.lookup aBw h underlying189 aEQ k).2;rw[this];unfold aA3;cases l.contains k<;>rfl
theorem SetAt.put(h:SetAt W b l)(k:Int)(hk:l.contains k=false):∃W',(Instr.mapUpdate 189 (.map (some b)) (iK k) (.agg #[])).run prog W= .ok () W'∧Chg (fun x=>x=b) W W'∧W'.heap.size=W.heap.size∧SetAt W' b (l++[k]):=by
 obtain⟨W',f,e,j,d⟩:=MapAt.update aBw h underlying189 k (.agg #[]);refine⟨W',f,e,j,?_⟩;have m:(aA3 l k).isSome=false:=by unfold aA3;rw[hk];rfl
 rw[m,if_neg (by decide)]at d;have i:=d.congr (g:=aA3 (l++[k])) (fun a=>by
  unfold aA3;by_cases c:a=k
  ·simp[c]
  ·simp[c])
 show MapAt iK W' b (aA3 (l++[k])) (l++[k]).length;rw[aD];exact i
theorem SetAt.clr(h:SetAt W b l)(ty:TypeId):∃W',(Builtin.clear_ #[189] ty #[.map (some b)]).run prog W= .ok (.tuple #[]) W'∧Chg (fun x=>x=b) W W'∧W'.heap.size=W.heap.size∧SetAt W' b []:=by
 obtain⟨W',d,a,e,c⟩:=MapAt.clear (ty:=ty) h underlying189;exact⟨W',d,a,e,c.congr (fun _=>rfl)⟩
theorem SetAt.size(h:SetAt W b l)(ty:TypeId):(Builtin.len_ #[189] ty #[.map (some b)]).run prog W= .ok (iK l.length) W:=MapAt.len h underlying189
end
theorem SetAt.made(W:World):SetAt (W.alloc (.map #[] 0)) W.heap.size []:=(MapAt.made W).congr (fun _=>rfl)
end
section
variable {P:Program}{ops:Array Oper}{rest:List Oper}{o:Oper}{a:Act}{W:World}{Q:Exit→Act→World→Prop}
theorem sA(hg:o.guard=none)(v:Value)(W':World)(hrun:(execOp a.eval o).run P W= .ok (.value v) W')(h:wpList P ops Q rest (a.put o.dst v) W'):wpList P ops Q (o::rest) a W:=by
 refine wpList_plain hg fun K hK=>?_;unfold Oper.wp;rw[hrun,Oper.upon_value];exact hK _ _ h
theorem sG(hg:o.guard=none)(W':World)(hrun:(execOp a.eval o).run P W= .ok .skip W')(h:wpList P ops Q rest (a.put o.dst undef) W'):wpList P ops Q (o::rest) a W:=by
 refine wpList_plain hg fun K hK=>?_;unfold Oper.wp;rw[hrun];exact hK _ _ h
theorem jS(hg:o.guard=none)(t:TypeId)(m x y:Operand)(hop:o.op= .mapUpdate t m x y)(mv kv vv:Value)(hm:a.eval m=mv)(hx:a.eval x=kv)(hy:a.eval y=vv)(R:World→Prop)
 (hr:∃W',(Instr.mapUpdate t mv kv vv).run P W= .ok () W'∧R W') (h:∀W',R W'→wpList P ops Q rest (a.put o.dst undef) W'):wpList P ops Q (o::rest) a W:=by
 obtain⟨W',b,c⟩:=hr;refine sG hg W' ?_ (h W' c);simp[execOp,hop,hm,hx,hy,b,Result.andThen]
theorem oQ(hg:o.guard=none)(t k:TypeId)(m x:Operand)(hop:o.op= .call {callee:=.builtin .delete,args:=#[m,x],argTypes:=#[t,k]})(mv kv:Value)(hm:a.eval m=mv)(hx:a.eval x=kv)(R:World→Prop)
 (hr:∃W',(Builtin.delete_ #[t,k] o.type #[mv,kv]).run P W= .ok (.tuple #[]) W'∧R W') (h:∀W',R W'→wpList P ops Q rest (a.put o.dst (.tuple #[])) W'):wpList P ops Q (o::rest) a W:=by
 obtain⟨W',h1,h2⟩:=hr;refine sA hg _ W' ?_ (h W' h2);simp[execOp,hop,resolve,invoke,builtin,hm,hx,h1,Result.andThen]
theorem nE(hg:o.guard=none)(t:TypeId)(m:Operand)(hop:o.op= .call {callee:=.builtin .clear,args:=#[m],argTypes:=#[t]})(mv:Value)(hm:a.eval m=mv)(R:World→Prop)
 (hr:∃W',(Builtin.clear_ #[t] o.type #[mv]).run P W= .ok (.tuple #[]) W'∧R W') (h:∀W',R W'→wpList P ops Q rest (a.put o.dst (.tuple #[])) W'):wpList P ops Q (o::rest) a W:=by
 obtain⟨W',h1,h2⟩:=hr;refine sA hg _ W' ?_ (h W' h2);simp[execOp,hop,resolve,invoke,builtin,hm,h1,Result.andThen]
end
section
variable {W:World} {b:Nat}
theorem MapI.lt{f:Int→Int}(h:MapI W b f):b<W.heap.size:=by
 obtain⟨c,n,a,_⟩:=h;exact a.lt
theorem MapW.lt{f:Int→Wt}(h:MapW W b f):b<W.heap.size:=by
 obtain⟨c,n,a,_⟩:=h;exact a.lt
theorem MapI.obj{f:Int→Int}(h:MapI W b f):∃e k,W.heap[b]?=some (.map e k):=by
 obtain⟨d,n,⟨l,c,a,_⟩,_⟩:=h;exact⟨_,_,a⟩
theorem MapW.obj{f:Int→Wt}(h:MapW W b f):∃e k,W.heap[b]?=some (.map e k):=by
 obtain⟨d,n,⟨l,c,a,_⟩,_⟩:=h;exact⟨_,_,a⟩
end
theorem MapAt.obj{α:Type} [DecidableEq α] {inj:α→Value}{W:World}{b:Nat}{f:α→Option Value}{n:Nat}(h:MapAt inj W b f n):∃e k,W.heap[b]?=some (.map e k):=by
 obtain⟨l,c,a,_⟩:=h;exact⟨_,_,a⟩
theorem aAQ{W:World}{base:Nat}{e:TypeId}{size:Nat}{v:Value}{n:Nat}{xs:List Value}(h:W.ownsRow base e size v n xs){b:Nat}{x:Array MapEntry}{k:Nat}(hb:W.heap[b]?=some (.map x k)):∀q,v.ownBlock=some q→q≠b:=fun q hq=>by
 rcases lH h with⟨rfl,_⟩|⟨g,cap,cur,rfl,_,hg⟩
 ·cases hq
 ·have:g=q:=by simpa[Value.ownBlock]using hq
  subst this;exact dR hg hb (by simp)
theorem ClAt.maps'{W W':World}{F:Nat→Prop}{b g:Nat}{f:Cf}{c:Ct}{ch tk hd wt:Nat}{dv:Value}(h:ClAt W F b g f c ch tk hd wt dv)(hc:Chg (fun k=>k=tk∨k=hd∨k=wt) W W')(t' hl':Int→Int)(w':Int→Wt)
 (ht:MapI W' tk t') (hh:MapI W' hd hl') (hw:MapW W' wt w'):ClAt W' F b g f {c with toks:=t',holds:=hl',wat:=w'} ch tk hd wt dv:=by
 obtain⟨h1,h2,h3,h4,h5,h6,h7⟩:=h;obtain⟨e1,k1,o1⟩:=h5.toks.obj;obtain⟨e2,k2,o2⟩:=h5.holds.obj;obtain⟨e3,k3,o3⟩:=h5.wat.obj;have keep:∀{x:Nat} {ob:Obj},W.heap[x]?=some ob→(∀e k,ob≠.map e k)→W'.heap[x]?=some ob:=fun hx hne=>
  hc.kept hx (fun hk=>by
   rcases hk with rfl|rfl|rfl
   ·rw[o1]at hx;exact hne _ _ (aN hx).symm
   ·rw[o2]at hx;exact hne _ _ (aN hx).symm
   ·rw[o3]at hx;exact hne _ _ (aN hx).symm)
 refine⟨keep h1 (by simp),h2,keep h3 (by simp),h4,⟨ht,hh,hw,h5.th,h5.tw,h5.hw,h5.ft,h5.fh,h5.fw⟩,?_,fun k hk=>aG (h7 k hk) hc.size⟩;cases hd':c.doing with
 |none=>rw[hd']at h6;exact h6
 |some o=>
  rw[hd']at h6;obtain⟨ob,an,mv,r1,⟨r2,r3,r4,r5,r6⟩,r7,r8,r9⟩:=h6;refine⟨ob,an,mv,r1,⟨keep r2 (by simp),r3,?_,?_,r6⟩,r7,r8,r9⟩
  ·rcases r4 with r4|⟨am,q1,q2,q3⟩
   ·exact Or.inl r4
   ·refine Or.inr ⟨am,q1,q2.kept hc (fun hk=>?_),q3⟩;subst q1;rcases hk with rfl|rfl|rfl
    ·exact r7 rfl
    ·exact r8 rfl
    ·exact r9 rfl
  ·refine hc.row r5 (fun q hq hk=>?_);rcases hk with rfl|rfl|rfl
   ·exact aAQ r5 o1 _ hq rfl
   ·exact aAQ r5 o2 _ hq rfl
   ·exact aAQ r5 o3 _ hq rfl
abbrev S3(tk hd wt:Nat):Nat→Prop:=fun k=>k=tk∨k=hd∨k=wt
section
variable {S:Nat→Prop}
theorem Chg.one{b:Nat}{A B C:World}(h:Chg S A B)(k:Chg (fun x=>x=b) B C)(hb:S b):Chg S A C:=h.trans k (fun x _ hx=>by subst hx;exact hb)
theorem MapI.kept{W W':World}{b:Nat}{f:Int→Int}(h:MapI W b f)(hc:Chg S W W')(hn:¬S b):MapI W' b f:=h.of_heap (hc.block b h.lt hn)
theorem MapW.kept{W W':World}{b:Nat}{f:Int→Wt}(h:MapW W b f)(hc:Chg S W W')(hn:¬S b):MapW W' b f:=h.of_heap (hc.block b h.lt hn)
end
theorem eI{x:Int}(h1: -9223372036854775808≤x)(h2:x≤9223372036854775807):IntKind.i64.wrap x=x:=by rw[IntKind.wrap_i64];omega
section
variable {W:World}{F:Nat→Prop}{b g:Nat}{f:Cf}{c:Ct}{ch tk hd wt:Nat}{dv:Value}
theorem ClAt.cell(h:ClAt W F b g f c ch tk hd wt dv)(j:Nat)(v:Value)(hj:(clL f c ch tk hd wt g dv)[j]?=some v):W.cell? ⟨b,j,none⟩=some v:=cB h.blk j v (by simpa using hj)
theorem ClAt.froz(h:ClAt W F b g f c ch tk hd wt dv)(j:Nat):W.frozen? ⟨b,j,none⟩=false:=cY h.blk j
theorem ClAt.bt(h:ClAt W F b g f c ch tk hd wt dv):b≠tk:=by
 obtain⟨_,_,o⟩:=h.maps.toks.obj;exact dR h.blk o (by simp)
theorem ClAt.bh(h:ClAt W F b g f c ch tk hd wt dv):b≠hd:=by
 obtain⟨_,_,o⟩:=h.maps.holds.obj;exact dR h.blk o (by simp)
theorem ClAt.bw(h:ClAt W F b g f c ch tk hd wt dv):b≠wt:=by
 obtain⟨_,_,o⟩:=h.maps.wat.obj;exact dR h.blk o (by simp)
theorem ClAt.setT{W':World}(h:ClAt W F b g f c ch tk hd wt dv)(hc:Chg (fun k=>k=tk) W W'){t:Int→Int}(ht:MapI W' tk t):ClAt W' F b g f {c with toks:=t} ch tk hd wt dv:=
 h.maps' (hc.mono (fun _ _ h=>Or.inl h)) t c.holds c.wat ht (h.maps.holds.kept hc (fun e=>h.maps.th e.symm)) (h.maps.wat.kept hc (fun e=>h.maps.tw e.symm))
theorem ClAt.setH{W':World}(h:ClAt W F b g f c ch tk hd wt dv)(hc:Chg (fun k=>k=hd) W W'){t:Int→Int}(ht:MapI W' hd t):ClAt W' F b g f {c with holds:=t} ch tk hd wt dv:=
 h.maps' (hc.mono (fun _ _ h=>Or.inr (Or.inl h))) c.toks t c.wat (h.maps.toks.kept hc h.maps.th) ht (h.maps.wat.kept hc (fun e=>h.maps.hw e.symm))
theorem ClAt.setW{W':World}(h:ClAt W F b g f c ch tk hd wt dv)(hc:Chg (fun k=>k=wt) W W'){t:Int→Wt}(ht:MapW W' wt t):ClAt W' F b g f {c with wat:=t} ch tk hd wt dv:=
 h.maps' (hc.mono (fun _ _ h=>Or.inr (Or.inr h))) c.toks c.holds t (h.maps.toks.kept hc h.maps.tw) (h.maps.holds.kept hc h.maps.hw) ht
end
section
variable (W:World) (F:Nat→Prop) (b g:Nat) (f:Cf) (c:Ct) (ch tk hd wt:Nat) (dv:Value)
theorem wN(l:Int)(h:ClAt W F b g f c ch tk hd wt dv):
 Calls prog 188 #[.pointer (some ⟨b,0,none⟩),.int .i64 l] W fun r W'=>r= .returned (.tuple #[])∧ClAt W' F b g f (nZ c l) ch tk hd wt dv∧Chg (S3 tk hd wt) W W':=by
 have j:=cA h;have u:=h.cell 13 _ rfl;clear h;go_enter func188,ntmps188;go_wp2_with (at_delete;refine oQ rfl _ _ _ _ rfl _ _ rfl rfl _ (j.out.maps.toks.del _ _) ?_);intro w d k s;have i:=j.out.setT d s;have e:=cA i;have m:=cA d;have v:=i.cell 14 _ rfl;clear j i d k s;go_wp2_with (at_delete;refine oQ rfl _ _ _ _ rfl _ _ rfl rfl _ (e.out.maps.holds.del _ _) ?_);intro t a p q;have o:Hid (ClAt t F b g f (nZ c l) ch tk hd wt dv):=e.out.setH a q;have n:=cA ((m.out.mono (T:=S3 tk hd wt) (fun _ _ h=>Or.inl h)).one a (Or.inr (Or.inl rfl)));clear a p q e;go_wp2_with fail;go_end0;exact⟨rfl,o.out,n.out⟩
theorem aBs(ob:Nat)(an mv:Value)(o:On)(tok:Int)(h:ClAt W F b g f c ch tk hd wt dv)(hob:OnAt W F ob an mv o)(hb1:0≤o.began)(hb2:o.began≤1000000000000)(ht1:0≤o.ttl)(ht2:o.ttl≤1000000):
 Calls prog 187 #[.pointer (some ⟨b,0,none⟩),.pointer (some ⟨ob,0,none⟩),.int .i64 tok] W fun r W'=>r= .returned (.tuple #[])∧ClAt W' F b g f (kD c o tok) ch tk hd wt dv∧Chg (S3 tk hd wt) W W':=by
 have m:=cA h;have I:Hid (∀l,Calls prog 188 #[.pointer (some ⟨b,0,none⟩),.int .i64 l] W fun r W'=>r= .returned (.tuple #[])∧ClAt W' F b g f (nZ c l) ch tk hd wt dv∧Chg (S3 tk hd wt) W W'):=fun l=>wN W F b g f c ch tk hd wt dv l h;have a:=hob.1;have p:=cA a;have G:=cB a 0 _ rfl;have C:=cB a 1 _ rfl;clear h hob a;go_enter func187,ntmps187;by_cases j:o.kind=3
 ·have s:(o.kind==3)=true:=by simp[j]
  have q:=cA j;clear j;go_wp2_with (go_at_call 188;refine(I.out _).mono ?_;rintro r A ⟨rfl,k,E⟩)
  ((try simp only[Exit.inBlock,Exit.then]);refine bodyPost_ret (results_none rfl _ _ _) rfl ?_)
  refine⟨rfl,?_,E⟩;unfold kD;rw[if_pos q.out];exact k
 ·have s:(o.kind==3)=false:=by simp[j]
  have q:Hid (o.kind≠3):=j;clear j;have v:=m.out.cell 13 _ rfl;have K:IntKind.i64.wrap (o.began+o.ttl)=o.began+o.ttl:=eI (by omega) (by omega);go_wp2_with fail;refine dZ [0,0,0,1,0,0,0,0,1,0] (by kernel_rfl) (fun _ _ _ _=>rfl) ?_;simp only[cM,cL];iterate 10 (apply sB rfl rfl;·(intro x h;(try cases h rfl);go_simp;with_reducible rfl))
  refine cC ?_;try simp only[pA]
  refine jS rfl _ _ _ _ rfl _ _ _ rfl rfl rfl _ (MapI.set (W:=W.drew) m.out.maps.toks _ _) ?_;rintro A ⟨i,u,B⟩;have k:=m.out.setT i.of_drew B;have d:=cA k;have n:=cA i.of_drew;have a:=n.out.kept p.out (by obtain⟨_,_,H⟩:=m.out.maps.toks.obj;exact dR p.out H (by simp));have J:=k.cell 14 _ rfl;have N:=cB a 1 _ rfl;have M:=cB a 2 _ rfl;have L:=cB a 3 _ rfl;clear m k i u B a p G C v;go_wp2_with fail;refine dZ [0,0,0,1,0,0,0,0,1,0,0,0,1,0,0,0,0,1,0] (by kernel_rfl) (fun _ _ _ _=>rfl) ?_;simp only[cM,cL];iterate 19 (apply sB rfl rfl;·(intro x h;(try cases h rfl);go_simp;with_reducible rfl))
  refine cC ?_;try simp only[pA]
  refine jS rfl _ _ _ _ rfl _ _ _ rfl rfl rfl _ (MapI.set (W:=A.drew) d.out.maps.holds _ _) ?_;rintro D ⟨e,y,z⟩;have w:Hid (ClAt D F b g f (kD c o tok) ch tk hd wt dv):=by
   have:=d.out.setH e.of_drew z;unfold kD;rw[if_neg q.out];exact this
  have t:=cA ((n.out.mono (T:=S3 tk hd wt) (fun _ _ h=>Or.inl h)).one e.of_drew (Or.inr (Or.inl rfl)));clear e y z d;go_wp2_with fail;go_end0;exact⟨rfl,w.out,t.out⟩
end
abbrev opV(k l t:Int):Value:=.agg #[.int .i64 k,.int .i64 l,.int .i64 t]
theorem aE2{α:Type}(f:Int→α)(k:Int)(v:α)(h:f k=v):upd f k v=f:=by
 funext x
 unfold upd;split
 ·rename_i a;rw[a,h]
 ·rfl
section
variable (W:World)
theorem aBq(F:Nat→Prop)(b g:Nat)(f:Cf)(c:Ct)(ch tk hd wt:Nat)(dv:Value)(k l t:Int)(h:ClAt W F b g f c ch tk hd wt dv)(hc1:0≤c.clock)(hc2:c.clock≤1000000000000)(ht1:0≤t)(ht2:t≤1000000):
 Calls prog 123 #[.pointer (some ⟨b,0,none⟩),opV k l t] W fun r W'=>r= .returned (.tuple #[])∧ClAt W' F b g f (dJ c k l t) ch tk hd wt dv∧Chg (S3 tk hd wt) W W':=by
 have a:Hid (ClAt (W.alloc (.cells #[.int .i64 k,.int .i64 l,.int .i64 t] 68)) F b g f c ch tk hd wt dv):=h.kept (S:=NoS) ((Chg.refl _ _).alloc _) (fun _ _ h=>h);have y:Hid (Chg (S3 tk hd wt) W (W.alloc (.cells #[.int .i64 k,.int .i64 l,.int .i64 t] 68))):=(Chg.refl _ _).alloc _;have q:=aA W (.cells #[.int .i64 k,.int .i64 l,.int .i64 t] 68);clear h;go_enter func123,ntmps123;have N:IntKind.i64.wrap (c.clock+t)=c.clock+t:=eI (by omega) (by omega);have G:=cB q 0 _ rfl;have D:=cB q 1 _ rfl;have C:=cB q 2 _ rfl;have s:=a.out.cell 14 _ rfl;have u:=a.out.cell 11 _ rfl;by_cases j:k=3
 ·have A:(k==3)=true:=by simp[j]
  have i:=cA j;clear j;go_wp2_with fail;generalize W.alloc (.cells #[.int .i64 k,.int .i64 l,.int .i64 t] 68)=W0 at*;refine dZ [0,0,0,1,0,1] (by kernel_rfl) (fun _ _ _ _=>rfl) ?_;simp only[cM,cL];iterate 6 (apply sB rfl rfl;·(intro x h;(try cases h rfl);go_simp;with_reducible rfl))
  refine cC ?_;try simp only[pA]
  refine oQ rfl _ _ _ _ rfl _ _ rfl rfl _ (MapI.del (W:=W0.drew) a.out.maps.holds _ _) ?_;rintro z ⟨hc2,o,p⟩;have n:Hid (ClAt z F b g f (dJ c k l t) ch tk hd wt dv):=by
   unfold dJ;rw[if_pos i.out];exact a.out.setH hc2.of_drew p
  have m:=cA (y.out.one hc2.of_drew (Or.inr (Or.inl rfl)));clear hc2 o p a G D C s u q;go_wp2_with fail;go_end0;exact⟨rfl,n.out,m.out⟩
 ·have A:(k==3)=false:=by simp[j]
  by_cases d:k=1∨k=2
  ·have w:(k==1)=true∨(k==1)=false∧(k==2)=true:=by rcases d with rfl|rfl<;>simp
   have i:Hid (¬k=3∧(k=1∨k=2)):=⟨j,d⟩;clear j d;obtain⟨K,I,E⟩:=MapI.get2 (W:=(W.alloc (.cells #[.int .i64 k,.int .i64 l,.int .i64 t] 68)).drew) a.out.maps.holds l;generalize v:W.alloc (.cells #[.int .i64 k,.int .i64 l,.int .i64 t] 68)=W0 at*;have B:=cA v;clear v;rcases w with J|⟨J,O⟩;all_goals
    go_wp2_with fail;try rw[B.out]
    refine dZ [0,0,0,1,0,1,1,0,0,0,0,0] (by kernel_rfl) (fun _ _ _ _=>rfl) ?_;simp only[cM,cL];iterate 12 (apply sB rfl rfl;·(intro x h;(try cases h rfl);go_simp;with_reducible rfl))
    refine cC ?_;try simp only[pA]
    have H:=cA E;clear E;cases K with
    |false=>
     go_wp2_with fail;go_end0;refine⟨rfl,?_,y.out.drew⟩;have e:dJ c k l t=c:=by
      unfold dJ;rw[if_neg i.out.1,if_pos i.out.2,aE2];rw[(by first|exact H.out rfl|exact H.out trivial:c.holds l=0)];omega
     rw[e];exact a.out.kept (S:=NoS) (Chg.refl _ _).drew (fun _ _ h=>h)
    |true=>
     go_wp2_with fail;refine dZ [0,0,0,1,0,1,0,0,0,0,1,0,1,0,0] (by kernel_rfl) (fun _ _ _ _=>rfl) ?_;simp only[cM,cL];iterate 15 (apply sB rfl rfl;·(intro x h;(try cases h rfl);go_simp;with_reducible rfl))
     refine cC ?_;try simp only[pA]
     refine jS rfl _ _ _ _ rfl _ _ _ rfl rfl rfl _ (MapI.set (W:=W0.drew.drew) a.out.maps.holds _ _) ?_;rintro z ⟨hc2,o,p⟩;have n:Hid (ClAt z F b g f (dJ c k l t) ch tk hd wt dv):=by
      unfold dJ;rw[if_neg i.out.1,if_pos i.out.2];have e:(if c.clock+t<c.holds l then c.clock+t else c.holds l)=min (c.holds l) (c.clock+t):=by
       split<;>omega
      try rw[e]at p
      exact a.out.setH hc2.of_drew.of_drew p
     have m:=cA (y.out.one hc2.of_drew.of_drew (Or.inr (Or.inl rfl)));clear hc2 o p a G D C s u q;go_wp2_with fail;all_goals(go_end0;exact⟨rfl,n.out,m.out⟩)
  ·have M:(k==1)=false:=by simp;omega
   have L:(k==2)=false:=by simp;omega
   have i:Hid (¬k=3∧¬(k=1∨k=2)):=⟨j,d⟩;clear j d;go_wp2_with fail;go_end0;refine⟨rfl,?_,y.out⟩;have e:dJ c k l t=c:=by
    unfold dJ;rw[if_neg i.out.1,if_neg i.out.2]
   rw[e];exact a.out
theorem nY(b:Nat)(n:Int)(h:W.cell? ⟨b,7,none⟩=some (.int .i64 n))(h1:0≤n)(h2:n≤1000):
 Calls prog 217 #[.pointer (some ⟨b,0,none⟩)] W fun r W'=>r= .returned (.int .i64 (n+1))∧W'=W:=by
 go_enter func217,ntmps217;have a:IntKind.i64.wrap (n+1)=n+1:=eI (by omega) (by omega);go_wp2_with fail;go_ret;exact⟨rfl,rfl⟩
theorem Chg.alloc2(x y:Obj):Chg NoS W ((W.alloc x).alloc y):=((Chg.refl _ _).alloc _).alloc _
theorem aFu(w:Wt)(v:Vl):
 Calls prog 218 #[wtV w,vlV v] W fun r W'=>r= .returned (.bool (zK w v))∧Chg NoS W W':=by
 obtain⟨a,e,ws,g⟩:=w;obtain⟨d,b,f,c⟩:=v;go_enter func218,ntmps218;unfold zK;cases h1:a==d<;>cases h2:e==b<;>cases h3:ws==c<;>(
  go_wp2_with fail;go_ret;refine⟨by simp[*],?_⟩;exact Chg.alloc2 _ _ _)
end
def cI(c n:Int):Int:=(if c<0 then -(c+1)else c) % n
theorem dP{c n:Int}(h:0<n):0≤cI c n∧cI c n<n:=⟨Int.emod_nonneg _ (by omega),Int.emod_lt_of_pos _ h⟩
theorem dW(c n:Int)(W:World)(hc1: -9223372036854775808≤c)(hc2:c≤9223372036854775807)(hn:0<n)(hn2:n≤9223372036854775807):
 Calls prog 19 #[.int .i64 c,.int .i64 n] W fun e W'=>e= .returned (.int .i64 (cI c n))∧W'=W:=by
 obtain⟨a,b⟩:=dP (c:=c) hn;have h:n≠0:=by omega
 by_cases f:c<0
 ·have e:cI c n=(-(c+1)) % n:=by unfold cI;rw[if_pos f]
  have d:(-(c+1)) % n= -((c+1).tmod n):=by rw[←Int.neg_tmod,Int.tmod_eq_emod_of_nonneg (by omega)]
  rw[e,d];rw[e,d]at a b;have i:IntKind.i64.wrap (c+1)=c+1:=eI (by omega) (by omega);have j:IntKind.i64.wrap (-(c+1))= -(c+1):=eI (by omega) (by omega);have g:IntKind.i64.wrap (-((c+1).tmod n))= -((c+1).tmod n):=eI (by omega) (by omega);clear e d a b;go_enter func19,ntmps19;go_wp2;go_ret;exact⟨rfl,rfl⟩
 ·have e:cI c n=c % n:=by unfold cI;rw[if_neg f]
  have g:IntKind.i64.wrap (c % n)=c % n:=eI (by omega) (by omega);rw[e];clear e a b;go_enter func19,ntmps19;go_wp2;go_ret;exact⟨rfl,rfl⟩
theorem aFP(W:World)(p:Option Addr)(len cap i:Nat)(l:Nat→Int)(hi:i≤100)(hl:len≤9223372036854775807)(h:∀k,k<len→∃b o,p=some ⟨b,o,none⟩∧W.cell? ⟨b,o+k,none⟩=some (.int .i64 (l k))):
 Calls prog 35 #[.slice p len cap,.int .i64 (i:Int)] W fun e W'=>e= .returned (.int .i64 (if i<len then l i else 0))∧W'=W:=by
 by_cases a:i<len
 ·rw[if_pos a];obtain⟨b,o,rfl,f⟩:=h i a;have c:decide ((len:Int)≤(i:Int))=false:=by simp;omega
  have d:(i:Int)<(len:Int):=by omega
  clear h;go_enter func35,ntmps35;go_wp2;go_ret;exact⟨rfl,rfl⟩
 ·rw[if_neg a];have c:decide ((len:Int)≤(i:Int))=true:=by simp;omega
  clear h;go_enter func35,ntmps35;go_wp2;go_ret;exact⟨rfl,rfl⟩
theorem sI(W:World)(F:Nat→Prop)(b g:Nat)(f:Cf)(c:Ct)(ch tk hd wt:Nat)(dv:Value)(l:Int)(v:Vl)(h:ClAt W F b g f c ch tk hd wt dv)(hn1:0≤c.num)(hn2:c.num≤1000):
 Calls prog 189 #[.pointer (some ⟨b,0,none⟩),.int .i64 l,vlV v] W fun r W'=>r= .returned (.tuple #[])∧ClAt W' F b g f (lW c l v) ch tk hd wt dv∧Chg (S3 tk hd wt) W W':=by
 have m:Hid (ClAt (W.alloc (.cells #[.int .i64 v.own,.int .i64 v.tok,.int .i64 v.ttl,.int .i64 v.seq] 56)) F b g f c ch tk hd wt dv):=h.kept (S:=NoS) ((Chg.refl _ _).alloc _) (fun _ _ h=>h);have z:Hid (Chg (S3 tk hd wt) W (W.alloc (.cells #[.int .i64 v.own,.int .i64 v.tok,.int .i64 v.ttl,.int .i64 v.seq] 56))):=(Chg.refl _ _).alloc _;have A:Hid ((W.alloc (.cells #[.int .i64 v.own,.int .i64 v.tok,.int .i64 v.ttl,.int .i64 v.seq] 56)).heap[W.heap.size]?=some (.cells (vlL v).toArray 56 (0,0))):=aA W _;clear h;go_enter func189,ntmps189;go_wp2_with fail;generalize W.alloc (.cells #[.int .i64 v.own,.int .i64 v.tok,.int .i64 v.ttl,.int .i64 v.seq] 56)=W0 at*;have C:=cB A.out 0 _ rfl;have L:=cA (cE (W:=W0.drew) A.out);have n:=m.out.cell 15 _ rfl;have w:=MapW.get (W:=W0.drew) m.out.maps.wat l;by_cases k:v.own=0
 ·have D:(v.own==0)=true:=by simp[k]
  have t:=cA k;clear k;refine dZ [0,1,0,0,0,1,0,1,0,0,0,0,0,0,1,0,1,1] (by kernel_rfl) (fun _ _ _ _=>rfl) ?_;simp only[cM,cL];iterate 7 ((try simp only[pA]);first|(apply sB rfl rfl;·(intro x h;(try cases h rfl);go_simp;with_reducible rfl))|apply dU rfl|apply dO rfl)
  try simp only[pA]
  refine dO rfl ?_;(try simp only[pA]);iterate 10 ((try simp only[pA]);first|(apply sB rfl rfl;·(intro x h;(try cases h rfl);go_simp;with_reducible rfl))|apply dU rfl|apply dO rfl)
  refine cC ?_;try simp only[pA]
  go_wp2_with fail
  ((try simp only[Exit.inBlock,Exit.then]);refine bodyPost_ret (results_none rfl _ _ _) rfl ?_)
  refine⟨rfl,?_,z.out.drew⟩;unfold lW;rw[if_pos (Or.inl t.out)];exact m.out.kept (S:=NoS) (Chg.refl _ _).drew (fun _ _ h=>h)
 ·have D:(v.own==0)=false:=by simp[k]
  have B:=m.out.cell 7 _ rfl;by_cases a:v.own=c.num+1
  ·have J:(v.own==c.num+1)=true:=by simp[a]
   have t:=cA a;clear k a;refine dZ [0,1,0,0,0,1,0,1,0,0,0,0,0,0,1,0,1,1] (by kernel_rfl) (fun _ _ _ _=>rfl) ?_;simp only[cM,cL];iterate 7 ((try simp only[pA]);first|(apply sB rfl rfl;·(intro x h;(try cases h rfl);go_simp;with_reducible rfl))|apply dU rfl|apply dO rfl)
   try simp only[pA]
   refine dB (v:=.int .i64 (c.num+1)) (f:=217) (args:=#[.pointer (some ⟨b,0,none⟩)]) rfl (fun x hx=>by subst hx;go_simp;try rfl) (fun x hx=>by subst hx;exact nY _ b c.num B hn1 hn2) ?_;(try simp only[pA]);iterate 10 ((try simp only[pA]);first|(apply sB rfl rfl;·(intro x h;(try cases h rfl);go_simp;with_reducible rfl))|apply dU rfl|apply dO rfl)
   refine cC ?_;try simp only[pA]
   go_wp2_with fail
   ((try simp only[Exit.inBlock,Exit.then]);refine bodyPost_ret (results_none rfl _ _ _) rfl ?_)
   refine⟨rfl,?_,z.out.drew⟩;unfold lW;rw[if_pos (Or.inr (Or.inl t.out))];exact m.out.kept (S:=NoS) (Chg.refl _ _).drew (fun _ _ h=>h)
  ·have J:(v.own==c.num+1)=false:=by simp[a]
   have t:Hid (¬v.own=0∧¬v.own=c.num+1):=⟨k,a⟩;clear k a;refine dZ [0,1,0,0,0,1,0,1,0,0,0,0,0,0,1,0,1,1] (by kernel_rfl) (fun _ _ _ _=>rfl) ?_;simp only[cM,cL];iterate 7 ((try simp only[pA]);first|(apply sB rfl rfl;·(intro x h;(try cases h rfl);go_simp;with_reducible rfl))|apply dU rfl|apply dO rfl)
   try simp only[pA]
   refine dB (v:=.int .i64 (c.num+1)) (f:=217) (args:=#[.pointer (some ⟨b,0,none⟩)]) rfl (fun x hx=>by subst hx;go_simp;try rfl) (fun x hx=>by subst hx;exact nY _ b c.num B hn1 hn2) ?_;(try simp only[pA]);iterate 9 ((try simp only[pA]);first|(apply sB rfl rfl;·(intro x h;(try cases h rfl);go_simp;with_reducible rfl))|apply dU rfl|apply dO rfl)
   try simp only[pA]
   refine sD (v:=vlV v) rfl (fun x hx=>cF 56 _ rfl ⟨W.heap.size,0,none⟩ rfl (vlL v) _ (by subst hx;exact L.out) underlying56 rfl (by kernel_rfl)) ?_;refine cC ?_;(try simp only[pA]);have i:∀q,zK (c.wat l) v=q→Hid (Calls prog 218 #[wtV (c.wat l),vlV v] W0.drew fun r W'=>r= .returned (.bool q)∧Chg NoS W0.drew W'):=fun q e=>e▸aFu W0.drew (c.wat l) v;clear w L C B n;cases hw:zK (c.wat l) v;all_goals
    have s:=i _ hw;clear i;go_wp2_with (go_at_call 218;refine s.out.mono ?_;rintro r M ⟨rfl,y⟩);have d:=m.out.kept y.of_drew (fun _ _ h=>h);have j:=y.of_drew.kept A.out (fun h=>h);have u:=cA (z.out.trans y.of_drew (fun _ _ h=>h.elim));clear s
   ·have C:=cB j 0 _ rfl;have N:=cB j 1 _ rfl;have O:=cB j 3 _ rfl;have n:=d.cell 15 _ rfl;have E:=d.cell 11 _ rfl;have s:=cA hw;have p:=cA d;clear A j m d y z hw;go_wp2_with fail;refine dZ [0,0,0,1,0,0,1,0,1,0,1,0,0,0,1,0] (by kernel_rfl) (fun _ _ _ _=>rfl) ?_;simp only[cM,cL];iterate 16 (apply sB rfl rfl;·(intro x h;(try cases h rfl);go_simp;with_reducible rfl))
    refine cC ?_;try simp only[pA]
    refine jS rfl _ _ _ _ rfl _ _ (wtV ⟨v.own,v.tok,v.seq,c.clock⟩) rfl rfl rfl _ (MapW.set (W:=M.drew) p.out.maps.wat _ _) ?_;rintro P ⟨o,I,K⟩;have H:Hid (ClAt P F b g f (lW c l v) ch tk hd wt dv):=by
     have:=p.out.setW o.of_drew K;unfold lW;rw[if_neg (by simp[t.out,s.out])];exact this
    have G:=cA (u.out.one o.of_drew (Or.inr (Or.inr rfl)));clear o I K p C N O n E;go_wp2_with fail;go_end0;exact⟨rfl,H.out,G.out⟩
   ·have s:=cA hw
    ((try simp only[Exit.inBlock,Exit.then]);refine bodyPost_ret (results_none rfl _ _ _) rfl ?_)
    refine⟨rfl,?_,u.out⟩;unfold lW;rw[if_pos (Or.inr (Or.inr s.out))];exact d
end Go.Proofs.YtbbdgokdfhdpiaaGreatDoor
