/- A part. -/
import Derived.Test.YtbbdgokdfhdpiaaGreatDoorA5
import Derived.Test.YtbbdgokdfhdpiaaGreatDoorA6
namespace Go.Proofs.YtbbdgokdfhdpiaaGreatDoor
set_option linter.all false
set_option maxRecDepth 100000
set_option maxHeartbeats 0
open Go.Proofs.Tryz Go.RowKit
def NtAt(W:World)(G:Nat→Prop)(g:Nat)(av cv:Value)(net:List Mg)(tr:List Ev):Prop:=
 ∃nv tv,W.heap[g]?=some (.cells #[av,cv,nv,tv] 100 (0,0))∧G g∧
  W.ownsRow 0 66 10 nv net.length (cZ mgL net)∧W.ownsRow 0 70 19 tv tr.length (cZ evL tr)∧
  (∀k,nv.ownBlock=some k→G k)∧(∀k,tv.ownBlock=some k→G k)∧(∀k,G k→k<W.heap.size)
theorem mJ:(prog.info? 66).map (fun i=>(i.zero,i.size,i.bytes))=some (some (mgV zMg),10,80):=by kernel_rfl
theorem nT:(prog.info? 70).map (fun i=>(i.zero,i.size,i.bytes))=some (some (evV zEv),19,152):=by kernel_rfl
theorem nU(e:Ev):∀u ∈ evL e,u.oneCell'=true:=by simp[evL,Value.oneCell']
theorem oT(m:Mg):∀u ∈ mgL m,u.oneCell'=true:=by simp[mgL,Value.oneCell']
theorem rM(e:Ev)(h:e.kind=1):dJ [e]=[e.msg]:=by simp[dJ,aAm,h]
theorem fE(e:Ev)(h:e.kind≠1):dJ [e]=[]:=by simp[dJ,aAm,h]
theorem aA1(W:World)(G:Nat→Prop)(g:Nat)(av cv:Value)(net:List Mg)(tr:List Ev)(e:Ev)(h:NtAt W G g av cv net tr)(hn:net.length≤100000000000)(ht:tr.length≤100000000000):
 Calls prog 77 #[.pointer (some ⟨g,0,none⟩),evV e] W fun r W'=>r= .returned (.tuple #[])∧
  ∃G',NtAt W' G' g av cv (net++dJ [e]) (tr++[e])∧Chg G W W'∧∀k,G' k→G k∨W.heap.size≤k:=by
 obtain⟨I,R,hg,K,U,a0,Y,b4,e0⟩:=h;obtain⟨i0,hi,e1,f0,e7⟩:=info_parts nT;obtain⟨i1,ji,e2,f3,d7⟩:=info_parts mJ;have f7:=dG hg;have e4:=fN a0 hg (by decide);have a9:=fN U hg (by decide);have c5:=nS U a0 (by decide);have d8:=cN c5;clear c5;obtain⟨k,nd,⟨u,s,w,t,y,b,⟨p,v,n,m⟩⟩,ok,ol,ot,M,ow,tk,bl⟩:=e;generalize hE:(⟨k,nd,⟨u,s,w,t,y,b,⟨p,v,n,m⟩⟩,ok,ol,ot,M,ow,tk,bl⟩:Ev)=E;have HE:=cN hE;have b7:evL E=evL ⟨k,nd,⟨u,s,w,t,y,b,⟨p,v,n,m⟩⟩,ok,ol,ot,M,ow,tk,bl⟩:=by rw[hE]
 have X:=cN b7;have b6:evV E=evV ⟨k,nd,⟨u,s,w,t,y,b,⟨p,v,n,m⟩⟩,ok,ol,ot,M,ow,tk,bl⟩:=by rw[hE]
 rw[b6];clear hE b7 b6;have bW:∀o:Obj,(W.alloc o).heap[g]?=some (.cells #[av,cv,I,R] 100 (0,0)):=fun o=>dM o hg;go_enter func77,ntmps77;go_wp2_with fail;generalize B:W.alloc (.cells #[.int .i64 k,.int .i64 nd,.int .i64 u,.int .i64 s,.int .i64 w,.int .i64 t,.int .i64 y,.int .i64 b,.int .i64 p,.int .i64 v,.int .i64 n,.int .i64 m,.int .i64 ok,.int .i64 ol,.int .i64 ot,.int .i64 M,.int .i64 ow,.int .i64 tk,.int .i64 bl] 70)=W0;have bE:W0.heap[W.heap.size]?=some (.cells (evL E).toArray 70 (0,0)):=by
  rw[←B,aA,X.out]
 have bG:W0.heap[g]?=some (.cells #[av,cv,I,R] 100 (0,0)):=by rw[←B];exact bW _
 have c4:Chg G W W0:=by rw[←B];exact(Chg.refl _ _).alloc _
 have b0:W0.heap.size=W.heap.size+1:=by rw[←B];simp
 have a2:W0.ownsRow 0 66 10 I net.length (cZ mgL net):=by rw[←B];exact U.alloc _
 have a5:W0.ownsRow 0 70 19 R tr.length (cZ evL tr):=by rw[←B];exact a0.alloc _
 have c3:W0.cell? ⟨g,3,none⟩=some R:=cO bG 3 _ rfl;clear B bW;refine rlx [0,0,0,0,1,1,2] (fun w'=>w'.cell? ⟨g,3,none⟩=some R∧∀j x,(evL E)[j]?=some x→w'.cell? ((⟨W.heap.size,0,none⟩:Addr).add j)=some x) (by kernel_rfl) (fun _ _ _ _=>rfl) ?_ ?_
 ·exact⟨c3,cR bE⟩
 simp only[dC,dB];iterate 5 (apply sB rfl rfl;·(intro x h;(try have h:=h rfl);(try dsimp only at h);go_simp;with_reducible rfl))
 try simp only[pA]
 refine dA rfl (fun x hx=>cU 70 _ rfl ⟨W.heap.size,0,none⟩ rfl _ _ hx.2 underlying70 rfl (by kernel_rfl)) ?_;(try simp only[pA]);refine dI rfl (fun C hC=>?_);rw[X.out];go_simp;refine hC _ _ ⟨cO (dM _ bG) 3 _ rfl,cR (dM _ bE)⟩ ?_;clear hC C;refine cP ?_;generalize z:W0.alloc (.cells #[.int .i64 k,.int .i64 nd,.int .i64 u,.int .i64 s,.int .i64 w,.int .i64 t,.int .i64 y,.int .i64 b,.int .i64 p,.int .i64 v,.int .i64 n,.int .i64 m,.int .i64 ok,.int .i64 ol,.int .i64 ot,.int .i64 M,.int .i64 ow,.int .i64 tk,.int .i64 bl] 70)=W1;have bS:W1.heap[W.heap.size+1]?=some (.cells (evL E).toArray 70 (0,0)):=by
  rw[←z,←b0,aA,X.out]
 have b8:W1.heap[W.heap.size]?=some (.cells (evL E).toArray 70 (0,0)):=by rw[←z];exact dM _ bE
 have c7:W1.heap[g]?=some (.cells #[av,cv,I,R] 100 (0,0)):=by rw[←z];exact dM _ bG
 have c8:Chg G W W1:=by rw[←z];exact c4.alloc _
 have e8:W1.heap.size=W.heap.size+2:=by rw[←z];simp[b0]
 have a7:W1.ownsRow 0 66 10 I net.length (cZ mgL net):=by rw[←z];exact a2.alloc _
 have a1:W1.ownsRow 0 70 19 R tr.length (cZ evL tr):=by rw[←z];exact a5.alloc _
 clear z c4 b0 a2 a5 bG bE c3;refine wpList_append_lies _ rfl _ _ 43 rfl 0 70 i0 _ 19 152 underlying43 hi e1 f0 e7 rfl (by decide) R tr.length (cZ evL tr) rfl a1.drew ⟨W.heap.size+1,0,none⟩ 1 1 (evL E) rfl rfl (cR bS) (nU E) (by decide) (by unfold maxLen;omega) (by omega) (aI _) (W.heap.size+2) e8 ?_;intro J A T c i a4 d6;have d:W1.grownBy T R.ownBlock:=⟨i.os,i.tape,i.output,i.size,i.block⟩;have D:=(Chg.of_grown d).kept c7 (fun e=>e4 g e.symm rfl);have Z:=(Chg.of_grown d).kept b8 (fun e=>by have:=eY a0 _ e.symm;omega);have F:=(Chg.of_grown d).row a7 (fun q a e=>d8.out q a e.symm);have b2:=c8.grown d (fun q a _=>b4 q a);have f6:W.heap.size+2≤T.heap.size:=by have:=d.size;omega
 clear i d c7 b8 c8 a7 a1 bS;simp only[pA];have d3:T.cell? ⟨g,3,none⟩=some R:=cO D 3 _ rfl;have e3:=cX D 3;have d0:T.cell? ⟨W.heap.size,0,none⟩=some (.int .i64 k):=by
  rw[X.out]at Z;exact cO Z 0 _ rfl
 have f2:g≠W.heap.size:=by omega
 by_cases hk:k=1
 ·have d9:(k==1)=true:=by simp[hk]
  have HK:=cN hk;clear hk;go_wp2_with fail;have f5:=fN c D (by decide) J rfl;have c9:=nS F c (by decide);have N:=dD D 3 (.slice (some ⟨J,0,none⟩) (tr.length+1) A);have L:=aEB Z ⟨g,3,none⟩ (.slice (some ⟨J,0,none⟩) (tr.length+1) A) (fun e=>f2 e.symm);have H:Chg (fun q=>q=g) T (T.setCell ⟨g,3,none⟩ (.slice (some ⟨J,0,none⟩) (tr.length+1) A)):=(Chg.refl _ _).setCell _ _ (fun _=>rfl);have P:=H.row F (fun q a=>a9 q a);have O:=H.row c (fun q a=>by simp[Value.ownBlock]at a;omega);have b3:=b2.setCell ⟨g,3,none⟩ (.slice (some ⟨J,0,none⟩) (tr.length+1) A) (fun _=>K);have b5:(T.setCell ⟨g,3,none⟩ (.slice (some ⟨J,0,none⟩) (tr.length+1) A)).heap.size=T.heap.size:=by simp
  generalize T.setCell ⟨g,3,none⟩ (.slice (some ⟨J,0,none⟩) (tr.length+1) A)=W3 at N L P O b3 b5⊢;clear H d3 e3 d0 F b2 c;have c2:W3.cell? ⟨g,2,none⟩=some I:=cO N 2 _ rfl;refine rlx [0,0,0,0,1,0,1,2] (fun w'=>w'.cell? ⟨g,2,none⟩=some I∧∀j x,(mgL E.msg)[j]?=some x→w'.cell? ((⟨W.heap.size,2,none⟩:Addr).add j)=some x) (by kernel_rfl) (fun _ _ _ _=>rfl) ?_ ?_
  ·exact⟨c2,eL L 2 _ (aGB E)⟩
  simp only[dC,dB];iterate 6 (apply sB rfl rfl;·(intro x h;(try have h:=h rfl);(try dsimp only at h);go_simp;with_reducible rfl))
  try simp only[pA]
  refine dA rfl (fun x hx=>cU 66 _ rfl ⟨W.heap.size,2,none⟩ rfl _ _ hx.2 underlying66 rfl (by kernel_rfl)) ?_;(try simp only[pA]);refine dI rfl (fun C hC=>?_);have HM:Hid (E.msg=⟨u,s,w,t,y,b,⟨p,v,n,m⟩⟩):=by
   show E.msg=_;rw[←HE.out]
  rw[HM.out];go_simp;refine hC _ _ ⟨cO (dM _ N) 2 _ rfl,eL (dM _ L) 2 _ (aGB E)⟩ ?_;clear hC C;refine cP ?_;have b1:=aA W3 (.cells #[.int .i64 u,.int .i64 s,.int .i64 w,.int .i64 t,.int .i64 y,.int .i64 b,.int .i64 p,.int .i64 v,.int .i64 n,.int .i64 m] 66);have c6:=dM (.cells #[.int .i64 u,.int .i64 s,.int .i64 w,.int .i64 t,.int .i64 y,.int .i64 b,.int .i64 p,.int .i64 v,.int .i64 n,.int .i64 m] 66) N;have c1:=dM (.cells #[.int .i64 u,.int .i64 s,.int .i64 w,.int .i64 t,.int .i64 y,.int .i64 b,.int .i64 p,.int .i64 v,.int .i64 n,.int .i64 m] 66) L;have a8:=P.alloc (.cells #[.int .i64 u,.int .i64 s,.int .i64 w,.int .i64 t,.int .i64 y,.int .i64 b,.int .i64 p,.int .i64 v,.int .i64 n,.int .i64 m] 66);have a6:=O.alloc (.cells #[.int .i64 u,.int .i64 s,.int .i64 w,.int .i64 t,.int .i64 y,.int .i64 b,.int .i64 p,.int .i64 v,.int .i64 n,.int .i64 m] 66);have b9:=b3.alloc (.cells #[.int .i64 u,.int .i64 s,.int .i64 w,.int .i64 t,.int .i64 y,.int .i64 b,.int .i64 p,.int .i64 v,.int .i64 n,.int .i64 m] 66);have e6:(W3.alloc (.cells #[.int .i64 u,.int .i64 s,.int .i64 w,.int .i64 t,.int .i64 y,.int .i64 b,.int .i64 p,.int .i64 v,.int .i64 n,.int .i64 m] 66)).heap.size=W3.heap.size+1:=by simp
  generalize W3.alloc (.cells #[.int .i64 u,.int .i64 s,.int .i64 w,.int .i64 t,.int .i64 y,.int .i64 b,.int .i64 p,.int .i64 v,.int .i64 n,.int .i64 m] 66)=W4 at*;rw[b5]at b1;have c0:(mgL (⟨u,s,w,t,y,b,⟨p,v,n,m⟩⟩:Mg))=[.int .i64 u,.int .i64 s,.int .i64 w,.int .i64 t,.int .i64 y,.int .i64 b,.int .i64 p,.int .i64 v,.int .i64 n,.int .i64 m]:=rfl;refine wpList_append_lies _ rfl _ _ 88 rfl 0 66 i1 _ 10 80 underlying88 ji e2 f3 d7 rfl (by decide) I net.length (cZ mgL net) (by rfl) a8.drew ⟨T.heap.size,0,none⟩ 1 1 (mgL (⟨u,s,w,t,y,b,⟨p,v,n,m⟩⟩:Mg)) (by rfl) rfl (cR (by rw[c0];exact b1)) (oT _) (by decide) (by unfold maxLen;omega) (by omega) (aI _) (W3.heap.size+1) e6 ?_;intro gn a3 W5 Q l d1 d2;have f:W4.grownBy W5 I.ownBlock:=⟨l.os,l.tape,l.output,l.size,l.block⟩;have V:=(Chg.of_grown f).kept c6 (fun e=>a9 g e.symm rfl);have f1:=(Chg.of_grown f).kept c1 (fun e=>by have:=eY U _ e.symm;omega);have d4:=(Chg.of_grown f).row a6 (fun q a e=>c9 q e.symm a);have e9:=b9.grown f (fun q a _=>Y q a);have f8:=f.size;(try simp only[pA]);have d5:W5.cell? ⟨g,2,none⟩=some I:=cO V 2 _ rfl;have e5:=cX V 2;clear l f c0 b1 c6 c1 a8 a6 b9 N L P O b3 c2 f1 Z D;go_wp2_with fail;go_end0;have H:Chg (fun q=>q=g) W5 (W5.setCell ⟨g,2,none⟩ (.slice (some ⟨gn,0,none⟩) (net.length+1) a3)):=(Chg.refl _ _).setCell _ _ (fun _=>rfl);have f4:=fN Q V (by decide) gn rfl
  refine⟨rfl,fun q=>q=g∨q=gn∨q=J,⟨.slice (some ⟨gn,0,none⟩) (net.length+1) a3,.slice (some ⟨J,0,none⟩) (tr.length+1) A,?_,Or.inl rfl,?_,?_,fun q a=>Or.inr (Or.inl (by simpa[Value.ownBlock]using a.symm)),fun q a=>Or.inr (Or.inr (by simpa[Value.ownBlock]using a.symm)),?_⟩,e9.setCell _ _ (fun _=>K),?_⟩
  ·exact dD V 2 _
  ·rw[rM E (by rw[←HE.out];exact HK.out),aD,aK,kO,HM.out];exact H.row Q (fun q a=>by simp[Value.ownBlock]at a;omega)
  ·rw[aD,aK,kO];exact H.row d4 (fun q a=>by simp[Value.ownBlock]at a;omega)
  ·intro q a;simp;rcases a with rfl|rfl|rfl
   ·omega
   ·exact d2
   ·omega
  ·intro q a;rcases a with rfl|rfl|rfl
   ·exact Or.inl K
   ·rcases d1 with h|h
    ·exact Or.inl (Y _ h)
    ·right;omega
   ·rcases a4 with h|h
    ·exact Or.inl (b4 _ h)
    ·right;omega
 ·have d9:(k==1)=false:=by simp[hk]
  have HK:Hid (k≠1):=hk;clear hk;go_wp2_with fail;go_end0;refine⟨rfl,fun q=>q=g∨I.ownBlock=some q∨q=J,⟨I,.slice (some ⟨J,0,none⟩) (tr.length+1) A,?_,Or.inl rfl,?_,?_,fun q a=>Or.inr (Or.inl a),fun q a=>Or.inr (Or.inr (by simpa[Value.ownBlock]using a.symm)),?_⟩,b2.setCell _ _ (fun _=>K),?_⟩
  ·exact dD D 3 _
  ·rw[fE E (by rw[←HE.out];exact HK.out),aC];exact(Chg.setCell (S:=fun q=>q=g) (Chg.refl _ _) ⟨g,3,none⟩ _ (fun _=>rfl)).row F (fun q a=>a9 q a)
  ·rw[aD,aK,kO];have:=fN c D (by decide) J rfl;exact(Chg.setCell (S:=fun q=>q=g) (Chg.refl _ _) ⟨g,3,none⟩ _ (fun _=>rfl)).row c (fun q a=>by simp[Value.ownBlock]at a;omega)
  ·intro q a;simp;rcases a with rfl|a|rfl
   ·omega
   ·have:=e0 q (Y q a);omega
   ·exact d6
  ·intro q a;rcases a with rfl|a|rfl
   ·exact Or.inl K
   ·exact Or.inl (Y q a)
   ·rcases a4 with h|h
    ·exact Or.inl (b4 _ h)
    ·right;omega
abbrev wtV(w:Wt):Value:=.agg #[.int .i64 w.own,.int .i64 w.tok,.int .i64 w.seq,.int .i64 w.since]
abbrev yW(g:Nat):Value:=.func (.func 77) #[.pointer (some ⟨g,0,none⟩)] #[]
def MapI(W:World)(b:Nat)(f:Int→Int):Prop:=∃ft n,MapAt iK W b ft n∧∀k,(ft k).getD (.int .i64 0)= .int .i64 (f k)
def MapW(W:World)(b:Nat)(f:Int→Wt):Prop:=∃ft n,MapAt iK W b ft n∧∀k,(ft k).getD (wtV zWt)=wtV (f k)
def aDF(l:List Int):Int→Option Value:=fun k=>if l.contains k=true then some (.agg #[])else none
def AnsAt(W:World)(F:Nat→Prop)(v:Value)(t:At):Prop:=(v= .map none∧t.ans=[]∧t.awaited=0)∨∃am,v= .map (some am)∧MapAt iK W am (aDF t.ans) t.ans.length∧F am
abbrev wJ(o:On)(an mv:Value):List Value:=[.int .i64 o.kind,.int .i64 o.lock,.int .i64 o.ttl,.int .i64 o.began,.int .i64 o.tries,
 .int .i64 o.att.bal,.int .i64 o.att.began,.int .i64 o.att.awaited,an,.int .i64 o.att.base,.int .i64 o.att.val.own,.int .i64 o.att.val.tok,.int .i64 o.att.val.ttl,.int .i64 o.att.val.seq,.int .i64 o.att.eres,.int .i64 o.att.eown,.int .i64 o.att.etok,mv]
def OnAt(W:World)(F:Nat→Prop)(ob:Nat)(an mv:Value)(o:On):Prop:=
 W.heap[ob]?=some (.cells (wJ o an mv).toArray 195 (0,0))∧F ob∧AnsAt W F an o.att∧
  W.ownsRow 0 3 1 mv o.mine.length (o.mine.map fun x=>.int .i64 x)∧(∀k,mv.ownBlock=some k→F k)
abbrev clL(f:Cf)(c:Ct)(ch tk hd wt g:Nat)(dv:Value):List Value:=[.int .i64 f.f,.int .i64 f.clients,.int .i64 f.patience,.int .i64 f.tries,.int .i64 f.drift,.int .i64 f.compact,.int .i64 f.room,
 .int .i64 c.num,.int .i64 c.inc,.chan (some ch),yW g,.int .i64 c.clock,.int .i64 c.round,.map (some tk),.map (some hd),.map (some wt),dv]
structure MapsAt(W:World)(F:Nat→Prop)(tk hd wt:Nat)(c:Ct):Prop where
 toks:MapI W tk c.toks
 holds:MapI W hd c.holds
 wat:MapW W wt c.wat
 th:tk≠hd
 tw:tk≠wt
 hw:hd≠wt
 ft:F tk
 fh:F hd
 fw:F wt
def DoAt(W:World)(F:Nat→Prop)(tk hd wt:Nat)(dv:Value):Option On→Prop
 |none=>dv= .pointer none
 |some o=>∃ob an mv,dv= .pointer (some ⟨ob,0,none⟩)∧OnAt W F ob an mv o∧an≠.map (some tk)∧an≠.map (some hd)∧an≠.map (some wt)
structure ClAt(W:World)(F:Nat→Prop)(b g:Nat)(f:Cf)(c:Ct)(ch tk hd wt:Nat)(dv:Value):Prop where
 blk:W.heap[b]?=some (.cells (clL f c ch tk hd wt g dv).toArray 150 (0,0))
 fb:F b
 chan:W.heap[ch]?=some (.chan 0 #[] (!c.up) 0 0 false)
 fc:F ch
 maps:MapsAt W F tk hd wt c
 doing:DoAt W F tk hd wt dv c.doing
 lt:∀k,F k→k<W.heap.size
section
variable {W W':World}
theorem MapI.of_heap{b:Nat}{f:Int→Int}(h:MapI W b f)(hb:W'.heap[b]?=W.heap[b]?):MapI W' b f:=by
 obtain⟨d,n,a,c⟩:=h;exact⟨d,n,a.of_heap hb,c⟩
theorem MapW.of_heap{b:Nat}{f:Int→Wt}(h:MapW W b f)(hb:W'.heap[b]?=W.heap[b]?):MapW W' b f:=by
 obtain⟨d,n,a,c⟩:=h;exact⟨d,n,a.of_heap hb,c⟩
theorem AnsAt.of_heap{F:Nat→Prop}{v:Value}{l:At}(h:AnsAt W F v l)(hb:∀k,F k→W'.heap[k]?=W.heap[k]?):AnsAt W' F v l:=by
 rcases h with h|⟨a,d,c,b⟩
 ·exact Or.inl h
 ·exact Or.inr ⟨a,d,c.of_heap (hb a b),b⟩
theorem OnAt.of_heap{F:Nat→Prop}{ob:Nat}{an mv:Value}{o:On}(h:OnAt W F ob an mv o)(hb:∀k,F k→W'.heap[k]?=W.heap[k]?):OnAt W' F ob an mv o:=by
 obtain⟨d,a,e,c,b⟩:=h;exact⟨(hb ob a).trans d,a,e.of_heap hb,dF c fun k hk=>hb k (b k hk),b⟩
theorem MapsAt.of_heap{F:Nat→Prop}{tk hd wt:Nat}{c:Ct}(h:MapsAt W F tk hd wt c)(hb:∀k,F k→W'.heap[k]?=W.heap[k]?):MapsAt W' F tk hd wt c:=
 {h with toks:=h.toks.of_heap (hb _ h.ft),holds:=h.holds.of_heap (hb _ h.fh),wat:=h.wat.of_heap (hb _ h.fw)}
theorem DoAt.of_heap{F:Nat→Prop}{tk hd wt:Nat}{dv:Value}{o:Option On}(h:DoAt W F tk hd wt dv o)(hb:∀k,F k→W'.heap[k]?=W.heap[k]?):DoAt W' F tk hd wt dv o:=by
 cases o with
 |none=>exact h
 |some o=>
  obtain⟨e,a,b,d,c,f⟩:=h;exact⟨e,a,b,d,c.of_heap hb,f⟩
theorem ClAt.of_heap{F:Nat→Prop}{b g:Nat}{f:Cf}{c:Ct}{ch tk hd wt:Nat}{dv:Value}(h:ClAt W F b g f c ch tk hd wt dv)(hs:W.heap.size≤W'.heap.size)(hb:∀k,F k→W'.heap[k]?=W.heap[k]?):ClAt W' F b g f c ch tk hd wt dv:=
 ⟨(hb b h.fb).trans h.blk,h.fb,(hb ch h.fc).trans h.chan,h.fc,h.maps.of_heap hb,h.doing.of_heap hb,fun k hk=>aG (h.lt k hk) hs⟩
theorem ClAt.kept{F S:Nat→Prop}{b g:Nat}{f:Cf}{c:Ct}{ch tk hd wt:Nat}{dv:Value}(h:ClAt W F b g f c ch tk hd wt dv)(hc:Chg S W W')(hn:∀k,F k→¬S k):ClAt W' F b g f c ch tk hd wt dv:=
 h.of_heap hc.size fun k hk=>hc.block k (h.lt k hk) (hn k hk)
end
structure Sys(W:World)(F G:Nat→Prop)(b g:Nat)(f:Cf)(av cv:Value)(c:Ct)(net:List Mg)(tr:List Ev):Prop where
 cl:∃ch tk hd wt dv,ClAt W F b g f c ch tk hd wt dv
 nt:NtAt W G g av cv net tr
 apart:∀k,F k→¬G k
structure Went(W W':World)(F F' G G':Nat→Prop):Prop where
 chg:Chg (fun k=>F k∨G k) W W'
 f:∀k,F' k→F k∨W.heap.size≤k
 g:∀k,G' k→G k∨W.heap.size≤k
theorem Went.refl(W:World)(F G:Nat→Prop):Went W W F F G G:=⟨Chg.refl _ _,fun _ h=>Or.inl h,fun _ h=>Or.inl h⟩
theorem Went.trans{A B C:World}{F F1 F2 G G1 G2:Nat→Prop}(h:Went A B F F1 G G1)(k:Went B C F1 F2 G1 G2):Went A C F F2 G G2:=
 ⟨h.chg.trans k.chg (fun x hx hs=>by
  rcases hs with hs|hs
  ·rcases h.f x hs with h'|h'
   ·exact Or.inl h'
   ·omega
  ·rcases h.g x hs with h'|h'
   ·exact Or.inr h'
   ·omega),
  fun x hx=>by
   rcases k.f x hx with h'|h'
   ·exact h.f x h'
   ·right;have:=h.chg.size;omega,
  fun x hx=>by
   rcases k.g x hx with h'|h'
   ·exact h.g x h'
   ·right;have:=h.chg.size;omega⟩
def After(W:World)(F G:Nat→Prop)(b g:Nat)(f:Cf)(av cv:Value)(c:Ct)(net:List Mg)(tr:List Ev)(W':World):Prop:=∃F' G',Sys W' F' G' b g f av cv c net tr∧Went W W' F F' G G'
theorem After.trans{A B C:World}{F F1 G G1:Nat→Prop}{b g:Nat}{f:Cf}{av cv:Value}{c:Ct}{net:List Mg}{tr:List Ev}(h:Went A B F F1 G G1)(k:After B F1 G1 b g f av cv c net tr C):After A F G b g f av cv c net tr C:=by
 obtain⟨e,d,a,i⟩:=k;exact⟨e,d,a,h.trans i⟩
theorem jW(W:World)(F G:Nat→Prop)(b g:Nat)(f:Cf)(av cv:Value)(c:Ct)(net:List Mg)(tr:List Ev)(e:Ev)(h:Sys W F G b g f av cv c net tr)(hn:net.length≤100000000000)(ht:tr.length≤100000000000):
 Calls prog 77 #[.pointer (some ⟨g,0,none⟩),evV e] W fun r W'=>r= .returned (.tuple #[])∧∃G',Sys W' F G' b g f av cv c (net++dJ [e]) (tr++[e])∧Chg G W W'∧∀k,G' k→G k∨W.heap.size≤k:=by
 refine(aA1 W G g av cv net tr e h.nt hn ht).mono ?_;rintro r W' ⟨o,G',d,j,l⟩;obtain⟨p,n,m,wt,q,a⟩:=h.cl;refine⟨o,G',⟨⟨p,n,m,wt,q,a.kept j h.apart⟩,d,fun k hk hk'=>?_⟩,j,l⟩;rcases l k hk' with i|i
 ·exact h.apart k hk i
 ·have:=a.lt k hk;omega
section
variable (c:Ct) (o:On) (kind base:Int) (v:Vl) (n:Nat)
theorem aGb:gX c o kind base v (n+1)=gX c o kind base v n++[sentEv ⟨kind,c.num,(n:Int),o.lock,o.att.bal,base,v⟩]:=by
 simp[gX,List.range_succ]
theorem xP:(gX c o kind base v n).length=n:=by simp[gX]
theorem vM:(dJ (gX c o kind base v n)).length≤n:=by
 have:=lS (gX c o kind base v n)
 rwa [xP]at this
end
theorem NtAt.lt{W:World}{G:Nat→Prop}{g:Nat}{av cv:Value}{net:List Mg}{tr:List Ev}(h:NtAt W G g av cv net tr):∀k,G k→k<W.heap.size:=by
 obtain⟨_,_,_,_,_,_,_,_,h⟩:=h;exact h
theorem NtAt.of_heap{W W':World}{G:Nat→Prop}{g:Nat}{av cv:Value}{net:List Mg}{tr:List Ev}(h:NtAt W G g av cv net tr)(hs:W.heap.size≤W'.heap.size)(hb:∀k,G k→W'.heap[k]?=W.heap[k]?):NtAt W' G g av cv net tr:=by
 obtain⟨d,e,i,b,l,f,c,a,j⟩:=h;exact⟨d,e,(hb g b).trans i,b,dF l (fun k hk=>hb k (c k hk)),dF f (fun k hk=>hb k (a k hk)),c,a,fun k hk=>aG (j k hk) hs⟩
theorem NtAt.kept{W W':World}{G S:Nat→Prop}{g:Nat}{av cv:Value}{net:List Mg}{tr:List Ev}(h:NtAt W G g av cv net tr)(hc:Chg S W W')(hn:∀k,G k→¬S k):NtAt W' G g av cv net tr:=
 h.of_heap hc.size fun k hk=>hc.block k (h.lt k hk) (hn k hk)
theorem Sys.ltF{W:World}{F G:Nat→Prop}{b g:Nat}{f:Cf}{av cv:Value}{c:Ct}{net:List Mg}{tr:List Ev}(h:Sys W F G b g f av cv c net tr):∀k,F k→k<W.heap.size:=by
 obtain⟨⟨_,_,_,_,_,a⟩,_,_⟩:=h;exact a.lt
theorem Sys.kept{W W':World}{F G S:Nat→Prop}{b g:Nat}{f:Cf}{av cv:Value}{c:Ct}{net:List Mg}{tr:List Ev}(h:Sys W F G b g f av cv c net tr)(hc:Chg S W W')(hf:∀k,F k→¬S k)(hg:∀k,G k→¬S k):Sys W' F G b g f av cv c net tr:=by
 obtain⟨⟨l,j,i,wt,m,e⟩,a,d⟩:=h;exact⟨⟨l,j,i,wt,m,e.kept hc hf⟩,a.kept hc hg,d⟩
theorem Chg.of_drew{S:Nat→Prop}{A B:World}(h:Chg S A.drew B):Chg S A B:=⟨h.os,h.tape,h.output,h.size,h.block⟩
theorem Sys.drew{W:World}{F G:Nat→Prop}{b g:Nat}{f:Cf}{av cv:Value}{c:Ct}{net:List Mg}{tr:List Ev}(h:Sys W F G b g f av cv c net tr):Sys W.drew F G b g f av cv c net tr:=
 h.kept ((Chg.refl NoS W).drew) (fun _ _ h=>h) (fun _ _ h=>h)
theorem uA(W:World)(F G:Nat→Prop)(b g:Nat)(f:Cf)(av cv:Value)(c:Ct)(o:On)(net:List Mg)(tr:List Ev)(kind base:Int)(v:Vl)(h:Sys W F G b g f av cv c net tr)(hd:c.doing=some o)(hf1:1≤f.f)(hf2:f.f≤2)(hn:net.length≤99999999990)(ht:tr.length≤99999999990):
 Calls prog 165 #[.pointer (some ⟨b,0,none⟩),mgV ⟨kind,0,0,0,0,base,v⟩] W fun r W'=>r= .returned (.tuple #[])∧
  ∃G',Sys W' F G' b g f av cv c (net++dJ (gX c o kind base v (gJ f))) (tr++gX c o kind base v (gJ f))∧Chg G W W'∧∀k,G' k→G k∨W.heap.size≤k:=by
 obtain⟨ch,tk,b3,wt,dv,m⟩:=h.cl;have L:=m.doing;rw[hd]at L;obtain⟨U,an,mv,rfl,⟨d,a5,_⟩,_⟩:=L;have a:=m.blk;have a1:=m.fb;have z:=m.lt;have T:=h.nt.lt;have a7:=h.apart;have HS:=cN h;have c0:W.cell? ⟨b,0,none⟩=some (.int .i64 f.f):=cO a 0 _ rfl;have HN:Hid (gJ f=(2*f.f+1).toNat):=rfl;have a3:=z b a1;clear h m hd;go_enter func165,ntmps165;go_wp2_with fail;refine rlx [0,0,0,1,0,0,0,1,0,0,0,1,0,0,0,1,0,0,0,1,0,2,0,2,0] (fun x=>x.cell? ⟨b,7,none⟩=some (.int .i64 c.num)∧x.cell? ⟨b,16,none⟩=some (.pointer (some ⟨U,0,none⟩))∧x.cell? ⟨U,1,none⟩=some (.int .i64 o.lock)∧x.cell? ⟨U,5,none⟩=some (.int .i64 o.att.bal)) (by kernel_rfl) (fun _ _ _ _=>rfl) ?_ ?_
 ·exact⟨cO (dM _ a) 7 _ rfl,cO (dM _ a) 16 _ rfl,cO (dM _ d) 1 _ rfl,cO (dM _ d) 5 _ rfl⟩
 simp only[dC,dB];iterate 21 (apply sB rfl rfl;·(intro x h;(try have h:=h rfl);(try dsimp only at h);go_simp;with_reducible rfl))
 try simp only[pA]
 refine dI rfl (fun C hC=>?_);go_simp;refine hC _ _ ⟨cO (dM _ a) 7 _ rfl,cO (dM _ a) 16 _ rfl,cO (dM _ d) 1 _ rfl,cO (dM _ d) 5 _ rfl⟩ ?_;clear hC C;iterate 1 (apply sB rfl rfl;·(intro x h;(try have h:=h rfl);(try dsimp only at h);go_simp;with_reducible rfl))
 try simp only[pA]
 refine dI rfl (fun C hC=>?_);go_simp;refine hC _ _ ⟨cO (dM _ a) 7 _ rfl,cO (dM _ a) 16 _ rfl,cO (dM _ d) 1 _ rfl,cO (dM _ d) 5 _ rfl⟩ ?_;clear hC C;iterate 1 (apply sB rfl rfl;·(intro x h;(try have h:=h rfl);(try dsimp only at h);go_simp;with_reducible rfl))
 refine cP ?_;try simp only[pA]
 go_wp2_with fail;generalize s:(W.alloc (.cells #[.int .i64 kind,.int .i64 c.num,.int .i64 0,.int .i64 o.lock,.int .i64 o.att.bal,.int .i64 base,.int .i64 v.own,.int .i64 v.tok,.int .i64 v.ttl,.int .i64 v.seq] 66)).drew=W1;have bM:W1.heap[W.heap.size]?=some (.cells #[.int .i64 kind,.int .i64 c.num,.int .i64 0,.int .i64 o.lock,.int .i64 o.att.bal,.int .i64 base,.int .i64 v.own,.int .i64 v.tok,.int .i64 v.ttl,.int .i64 v.seq] 66 (0,0)):=by
  rw[←s];exact aA W _
 have R:Chg NoS W W1:=by rw[←s];exact((Chg.refl _ _).alloc _).drew
 have a8:W1.heap.size=W.heap.size+1:=by rw[←s];simp
 have Y:=cN (HS.out.kept R (fun _ _ h=>h) (fun _ _ h=>h));clear s c0 a d HS;go_loopw [35] (fun i wr=>∃(k:Nat),(k:Int)≤2*f.f+1∧i= .int .i64 k∧∃(J:Nat→Prop) (K:Int),Sys wr F J b g f av cv c (net++dJ (gX c o kind base v k)) (tr++gX c o kind base v k)∧wr.heap[W.heap.size]?=some (.cells #[.int .i64 kind,.int .i64 c.num,.int .i64 K,.int .i64 o.lock,.int .i64 o.att.bal,.int .i64 base,.int .i64 v.own,.int .i64 v.tok,.int .i64 v.ttl,.int .i64 v.seq] 66 (0,0))∧Chg G W wr∧(∀q,J q→G q∨W.heap.size+1≤q)∧W.heap.size+1≤wr.heap.size) (fun i _=>(2*f.f+1).toNat-(intOf i).toNat)
 case atStart=>exact⟨0,by simp;omega,rfl,G,0,by simpa[gX,dJ]using Y.out,bM,R.mono (fun _ _ h=>h.elim),fun q hq=>Or.inl hq,by omega⟩
 case round=>
  obtain⟨k,hk,rfl,J,K,l,p,H,n,O⟩:=hrel;by_cases a4:(k:Int)<2*f.f+1
  ·have N:¬J W.heap.size:=fun hq=>by
    rcases n _ hq with h'|h'
    ·have:=T _ h';omega
    ·omega
   have a0:¬F W.heap.size:=fun hq=>by have:=z _ hq;omega
   obtain⟨b2,b0,a2,b4,a9,u⟩:=l.cl;have D:=u.blk;have c4:wr.cell? ⟨b,10,none⟩=some (yW g):=cO D 10 _ rfl;have m2:=cO p 2 _ rfl;have f2:=cX p 2;have S:b≠W.heap.size:=by omega
   have Q:=cN l;clear l u;go_wp2_with fail;have E:(wr.setCell ⟨W.heap.size,2,none⟩ (.int .i64 (k:Int))).heap[W.heap.size]?=some (.cells (mgL ⟨kind,c.num,(k:Int),o.lock,o.att.bal,base,v⟩).toArray 66 (0,0)):=dD p 2 (.int .i64 (k:Int));have M:Chg (fun q=>q=W.heap.size) wr (wr.setCell ⟨W.heap.size,2,none⟩ (.int .i64 (k:Int))):=(Chg.refl _ _).setCell _ _ (fun _=>rfl);have B:=cN (Q.out.kept M (fun q hq e=>a0 (e▸hq)) (fun q hq e=>N (e▸hq)));have t:=H.setCell ⟨W.heap.size,2,none⟩ (.int .i64 (k:Int)) (fun h=>absurd h (cB _));have w:W.heap.size+1≤(wr.setCell ⟨W.heap.size,2,none⟩ (.int .i64 (k:Int))).heap.size:=by simpa using O
   have P:(wr.setCell ⟨W.heap.size,2,none⟩ (.int .i64 (k:Int))).cell? ⟨b,10,none⟩=some (yW g):=cO (aEB D ⟨W.heap.size,2,none⟩ _ S) 10 _ rfl;generalize wr.setCell ⟨W.heap.size,2,none⟩ (.int .i64 (k:Int))=W2 at E B t w P⊢;clear M H O p m2 f2 Q D c4;refine rlx [0,0,0,1,1,0] (fun x=>x.cell? ⟨b,10,none⟩=some (yW g)∧∀j y,(mgL ⟨kind,c.num,(k:Int),o.lock,o.att.bal,base,v⟩)[j]?=some y→x.cell? ((⟨W.heap.size,0,none⟩:Addr).add j)=some y) (by kernel_rfl) (fun _ _ _ _=>rfl) ?_ ?_
   ·exact⟨P,cR E⟩
   simp only[dC,dB];iterate 4 (apply sB rfl rfl;·(intro x h;(try have h:=h rfl);(try dsimp only at h);go_simp;with_reducible rfl))
   try simp only[pA]
   refine dA rfl (fun x hx=>cU 66 _ rfl ⟨W.heap.size,0,none⟩ rfl _ _ hx.2 underlying66 rfl (by kernel_rfl)) ?_;iterate 1 (apply sB rfl rfl;·(intro x h;(try have h:=h rfl);(try dsimp only at h);go_simp;with_reducible rfl))
   refine cP ?_;try simp only[pA]
   have a6:=xP c o kind base v k;have b1:=vM c o kind base v k;have I:=jW W2.drew F J b g f av cv c _ _ (sentEv ⟨kind,c.num,(k:Int),o.lock,o.att.bal,base,v⟩) B.out.drew (by rw[aD];omega) (by rw[aD];omega);clear B;go_wp2_with fail;refine I.mono ?_;rintro r W3 ⟨rfl,G3,Z,A,X⟩;go_wp2_with fail;go_roundw
   case measure=>simp[intOf];omega
   case rel=>
    refine⟨k+1,by omega,by go_num,G3,k,?_,(A.kept (by exact E) N),t.trans A.of_drew (fun x hx hq=>(n x hq).elim id (fun h=>by omega)),fun q hq=>?_,cA w A.of_drew.size⟩
    ·rw[aGb,jB,←aS,←aS];exact Z
    ·rcases X q hq with h|h
     ·exact n q h
     ·right;simp at h;omega
  ·have V:k=gJ f:=by rw[HN.out];omega
   subst V;go_wp2_with fail;go_end0;refine⟨rfl,J,l,H,fun q hq=>?_⟩;rcases n q hq with h|h
   ·exact Or.inl h
   ·right;omega
theorem aD1:∀w,(zeroValue 3).run prog w= .ok (iK 0) w:=by
 intro w;have h:(prog.info? 3).map (fun i=>(i.zero,i.size,i.bytes))=some (some (iK 0),1,8):=by kernel_rfl
 obtain⟨i,b,a,_⟩:=info_parts h;simp[zeroValue,typeInfo,aT,b,a]
theorem aJ4:∀w,(zeroValue 292).run prog w= .ok (wtV zWt) w:=by
 intro w;have h:(prog.info? 292).map (fun i=>(i.zero,i.size,i.bytes))=some (some (wtV zWt),4,32):=by kernel_rfl
 obtain⟨i,b,a,_⟩:=info_parts h;simp[zeroValue,typeInfo,aT,b,a]
theorem aIn:∀w,(zeroValue 206).run prog w= .ok (.agg #[]) w:=by
 intro w;have h:(prog.info? 206).map (fun i=>(i.zero,i.size,i.bytes))=some (some (.agg #[]),0,0):=by kernel_rfl
 obtain⟨i,b,a,_⟩:=info_parts h;simp[zeroValue,typeInfo,aT,b,a]
section
variable {W:World}{b:Nat}
section
variable {f:Int→Int}
theorem MapI.get(h:MapI W b f)(k:Int):(Instr.lookup 146 (.map (some b)) (iK k) false).run prog W= .ok (iK (f k)) W:=by
 obtain⟨d,n,a,c⟩:=h;have:=(a.lookup aEg underlying146 aD1 k).1;rw[this,c k]
theorem MapI.get2(h:MapI W b f)(k:Int):∃ok,(Instr.lookup 146 (.map (some b)) (iK k) true).run prog W= .ok (.tuple #[iK (f k),.bool ok]) W∧(ok=false→f k=0):=by
 obtain⟨c,n,e,a⟩:=h;have:=(e.lookup aEg underlying146 aD1 k).2;refine⟨(c k).isSome,by rw[this,a k],fun hk=>?_⟩;have d:=a k;cases hfk:c k with
 |none=>rw[hfk]at d;simpa using d.symm
 |some v=>rw[hfk]at hk;cases hk
theorem MapI.set(h:MapI W b f)(k v:Int):∃W',(Instr.mapUpdate 146 (.map (some b)) (iK k) (iK v)).run prog W= .ok () W'∧Chg (fun x=>x=b) W W'∧W'.heap.size=W.heap.size∧MapI W' b (upd f k v):=by
 obtain⟨l,n,a,c⟩:=h;obtain⟨W',g,d,i,e⟩:=a.update aEg underlying146 k (iK v);exact⟨W',g,d,i,_,_,e,fun x=>by by_cases j:x=k<;>simp[upd,j,c]⟩
theorem MapI.del(h:MapI W b f)(k:Int)(ty:TypeId):∃W',(Builtin.delete_ #[146,3] ty #[.map (some b),iK k]).run prog W= .ok (.tuple #[]) W'∧Chg (fun x=>x=b) W W'∧W'.heap.size=W.heap.size∧MapI W' b (upd f k 0):=by
 obtain⟨l,n,a,c⟩:=h;obtain⟨W',g,d,i,e⟩:=a.delete (ty:=ty) aEg underlying146 k;exact⟨W',g,d,i,_,_,e,fun x=>by by_cases j:x=k<;>simp[upd,j,c]⟩
theorem MapI.clr(h:MapI W b f)(ty:TypeId):∃W',(Builtin.clear_ #[146] ty #[.map (some b)]).run prog W= .ok (.tuple #[]) W'∧Chg (fun x=>x=b) W W'∧W'.heap.size=W.heap.size∧MapI W' b (fun _=>0):=by
 obtain⟨j,n,a,i⟩:=h;obtain⟨W',e,c,g,d⟩:=a.clear (ty:=ty) underlying146;exact⟨W',e,c,g,_,_,d,fun x=>rfl⟩
end
theorem MapI.made(W:World):MapI (W.alloc (.map #[] 0)) W.heap.size (fun _=>0):=⟨_,_,MapAt.made W,fun _=>rfl⟩
section
variable {f:Int→Wt}
theorem MapW.get(h:MapW W b f)(k:Int):(Instr.lookup 147 (.map (some b)) (iK k) false).run prog W= .ok (wtV (f k)) W:=by
 obtain⟨d,n,a,c⟩:=h;have:=(a.lookup aEg underlying147 aJ4 k).1;rw[this,c k]
theorem MapW.set(h:MapW W b f)(k:Int)(v:Wt):∃W',(Instr.mapUpdate 147 (.map (some b)) (iK k) (wtV v)).run prog W= .ok () W'∧Chg (fun x=>x=b) W W'∧W'.heap.size=W.heap.size∧MapW W' b (upd f k v):=by
 obtain⟨l,n,c,d⟩:=h;obtain⟨W',i,e,j,g⟩:=c.update aEg underlying147 k (wtV v);refine⟨W',i,e,j,_,_,g,fun x=>?_⟩;by_cases a:x=k
 ·simp[upd,a]
 ·simp only[upd,a,if_false];exact d x
theorem MapW.clr(h:MapW W b f)(ty:TypeId):∃W',(Builtin.clear_ #[147] ty #[.map (some b)]).run prog W= .ok (.tuple #[]) W'∧Chg (fun x=>x=b) W W'∧W'.heap.size=W.heap.size∧MapW W' b (fun _=>zWt):=by
 obtain⟨j,n,a,i⟩:=h;obtain⟨W',e,c,g,d⟩:=a.clear (ty:=ty) underlying147;exact⟨W',e,c,g,_,_,d,fun x=>rfl⟩
end
theorem MapW.made(W:World):MapW (W.alloc (.map #[] 0)) W.heap.size (fun _=>zWt):=⟨_,_,MapAt.made W,fun _=>rfl⟩
abbrev SetAt(W:World)(b:Nat)(l:List Int):Prop:=MapAt iK W b (aDF l) l.length
section
variable {l:List Int}
theorem SetAt.has(h:SetAt W b l)(k:Int):(Instr.lookup 189 (.map (some b)) (iK k) true).run prog W= .ok (.tuple #[.agg #[],.bool (l.contains k)]) W:=by
 have:=(MapAt.lookup aEg h underlying189 aIn k).2;rw[this];unfold aDF;cases l.contains k<;>rfl
theorem SetAt.put(h:SetAt W b l)(k:Int)(hk:l.contains k=false):∃W',(Instr.mapUpdate 189 (.map (some b)) (iK k) (.agg #[])).run prog W= .ok () W'∧Chg (fun x=>x=b) W W'∧W'.heap.size=W.heap.size∧SetAt W' b (l++[k]):=by
 obtain⟨W',f,e,j,d⟩:=MapAt.update aEg h underlying189 k (.agg #[]);refine⟨W',f,e,j,?_⟩;have m:(aDF l k).isSome=false:=by unfold aDF;rw[hk];rfl
 rw[m,if_neg (by decide)]at d;have i:=d.congr (g:=aDF (l++[k])) (fun a=>by
  unfold aDF;by_cases c:a=k
  ·simp[c]
  ·simp[c])
 show MapAt iK W' b (aDF (l++[k])) (l++[k]).length;rw[aD];exact i
theorem SetAt.clr(h:SetAt W b l)(ty:TypeId):∃W',(Builtin.clear_ #[189] ty #[.map (some b)]).run prog W= .ok (.tuple #[]) W'∧Chg (fun x=>x=b) W W'∧W'.heap.size=W.heap.size∧SetAt W' b []:=by
 obtain⟨W',d,a,e,c⟩:=MapAt.clear (ty:=ty) h underlying189;exact⟨W',d,a,e,c.congr (fun _=>rfl)⟩
theorem SetAt.size(h:SetAt W b l)(ty:TypeId):(Builtin.len_ #[189] ty #[.map (some b)]).run prog W= .ok (iK l.length) W:=MapAt.len h underlying189
end
theorem SetAt.made(W:World):SetAt (W.alloc (.map #[] 0)) W.heap.size []:=(MapAt.made W).congr (fun _=>rfl)
end
section
variable {P:Program}{ops:Array Oper}{rest:List Oper}{o:Oper}{a:Act}{W:World}{Q:Exit→Act→World→Prop}
theorem wS(hg:o.guard=none)(v:Value)(W':World)(hrun:(execOp a.eval o).run P W= .ok (.value v) W')(h:wpList P ops Q rest (a.put o.dst v) W'):wpList P ops Q (o::rest) a W:=by
 refine wpList_plain hg fun K hK=>?_;unfold Oper.wp;rw[hrun,Oper.upon_value];exact hK _ _ h
theorem xA(hg:o.guard=none)(W':World)(hrun:(execOp a.eval o).run P W= .ok .skip W')(h:wpList P ops Q rest (a.put o.dst undef) W'):wpList P ops Q (o::rest) a W:=by
 refine wpList_plain hg fun K hK=>?_;unfold Oper.wp;rw[hrun];exact hK _ _ h
theorem kT(hg:o.guard=none)(t:TypeId)(m x y:Operand)(hop:o.op= .mapUpdate t m x y)(mv kv vv:Value)(hm:a.eval m=mv)(hx:a.eval x=kv)(hy:a.eval y=vv)(R:World→Prop)
 (hr:∃W',(Instr.mapUpdate t mv kv vv).run P W= .ok () W'∧R W') (h:∀W',R W'→wpList P ops Q rest (a.put o.dst undef) W'):wpList P ops Q (o::rest) a W:=by
 obtain⟨W',b,c⟩:=hr;refine xA hg W' ?_ (h W' c);simp[execOp,hop,hm,hx,hy,b,Result.andThen]
theorem rX(hg:o.guard=none)(t k:TypeId)(m x:Operand)(hop:o.op= .call {callee:=.builtin .delete,args:=#[m,x],argTypes:=#[t,k]})(mv kv:Value)(hm:a.eval m=mv)(hx:a.eval x=kv)(R:World→Prop)
 (hr:∃W',(Builtin.delete_ #[t,k] o.type #[mv,kv]).run P W= .ok (.tuple #[]) W'∧R W') (h:∀W',R W'→wpList P ops Q rest (a.put o.dst (.tuple #[])) W'):wpList P ops Q (o::rest) a W:=by
 obtain⟨W',h1,h2⟩:=hr;refine wS hg _ W' ?_ (h W' h2);simp[execOp,hop,resolve,invoke,builtin,hm,hx,h1,Result.andThen]
theorem pX(hg:o.guard=none)(t:TypeId)(m:Operand)(hop:o.op= .call {callee:=.builtin .clear,args:=#[m],argTypes:=#[t]})(mv:Value)(hm:a.eval m=mv)(R:World→Prop)
 (hr:∃W',(Builtin.clear_ #[t] o.type #[mv]).run P W= .ok (.tuple #[]) W'∧R W') (h:∀W',R W'→wpList P ops Q rest (a.put o.dst (.tuple #[])) W'):wpList P ops Q (o::rest) a W:=by
 obtain⟨W',h1,h2⟩:=hr;refine wS hg _ W' ?_ (h W' h2);simp[execOp,hop,resolve,invoke,builtin,hm,h1,Result.andThen]
end
section
variable {W:World} {b:Nat}
theorem MapI.lt{f:Int→Int}(h:MapI W b f):b<W.heap.size:=by
 obtain⟨c,n,a,_⟩:=h;exact a.lt
theorem MapW.lt{f:Int→Wt}(h:MapW W b f):b<W.heap.size:=by
 obtain⟨c,n,a,_⟩:=h;exact a.lt
theorem MapI.obj{f:Int→Int}(h:MapI W b f):∃e k,W.heap[b]?=some (.map e k):=by
 obtain⟨d,n,⟨l,c,a,_⟩,_⟩:=h;exact⟨_,_,a⟩
theorem MapW.obj{f:Int→Wt}(h:MapW W b f):∃e k,W.heap[b]?=some (.map e k):=by
 obtain⟨d,n,⟨l,c,a,_⟩,_⟩:=h;exact⟨_,_,a⟩
end
theorem MapAt.obj{α:Type} [DecidableEq α] {inj:α→Value}{W:World}{b:Nat}{f:α→Option Value}{n:Nat}(h:MapAt inj W b f n):∃e k,W.heap[b]?=some (.map e k):=by
 obtain⟨l,c,a,_⟩:=h;exact⟨_,_,a⟩
theorem aDq{W:World}{base:Nat}{e:TypeId}{size:Nat}{v:Value}{n:Nat}{xs:List Value}(h:W.ownsRow base e size v n xs){b:Nat}{x:Array MapEntry}{k:Nat}(hb:W.heap[b]?=some (.map x k)):∀q,v.ownBlock=some q→q≠b:=fun q hq=>by
 rcases nN h with⟨rfl,_⟩|⟨g,cap,cur,rfl,_,hg⟩
 ·cases hq
 ·have:g=q:=by simpa[Value.ownBlock]using hq
  subst this;exact eX hg hb (by simp)
theorem ClAt.maps'{W W':World}{F:Nat→Prop}{b g:Nat}{f:Cf}{c:Ct}{ch tk hd wt:Nat}{dv:Value}(h:ClAt W F b g f c ch tk hd wt dv)(hc:Chg (fun k=>k=tk∨k=hd∨k=wt) W W')(t' hl':Int→Int)(w':Int→Wt)
 (ht:MapI W' tk t') (hh:MapI W' hd hl') (hw:MapW W' wt w'):ClAt W' F b g f {c with toks:=t',holds:=hl',wat:=w'} ch tk hd wt dv:=by
 obtain⟨h1,h2,h3,h4,h5,h6,h7⟩:=h;obtain⟨e1,k1,o1⟩:=h5.toks.obj;obtain⟨e2,k2,o2⟩:=h5.holds.obj;obtain⟨e3,k3,o3⟩:=h5.wat.obj;have keep:∀{x:Nat} {ob:Obj},W.heap[x]?=some ob→(∀e k,ob≠.map e k)→W'.heap[x]?=some ob:=fun hx hne=>
  hc.kept hx (fun hk=>by
   rcases hk with rfl|rfl|rfl
   ·rw[o1]at hx;exact hne _ _ (aN hx).symm
   ·rw[o2]at hx;exact hne _ _ (aN hx).symm
   ·rw[o3]at hx;exact hne _ _ (aN hx).symm)
 refine⟨keep h1 (by simp),h2,keep h3 (by simp),h4,⟨ht,hh,hw,h5.th,h5.tw,h5.hw,h5.ft,h5.fh,h5.fw⟩,?_,fun k hk=>aG (h7 k hk) hc.size⟩;cases hd':c.doing with
 |none=>rw[hd']at h6;exact h6
 |some o=>
  rw[hd']at h6;obtain⟨ob,an,mv,r1,⟨r2,r3,r4,r5,r6⟩,r7,r8,r9⟩:=h6;refine⟨ob,an,mv,r1,⟨keep r2 (by simp),r3,?_,?_,r6⟩,r7,r8,r9⟩
  ·rcases r4 with r4|⟨am,q1,q2,q3⟩
   ·exact Or.inl r4
   ·refine Or.inr ⟨am,q1,q2.kept hc (fun hk=>?_),q3⟩;subst q1;rcases hk with rfl|rfl|rfl
    ·exact r7 rfl
    ·exact r8 rfl
    ·exact r9 rfl
  ·refine hc.row r5 (fun q hq hk=>?_);rcases hk with rfl|rfl|rfl
   ·exact aDq r5 o1 _ hq rfl
   ·exact aDq r5 o2 _ hq rfl
   ·exact aDq r5 o3 _ hq rfl
abbrev S3(tk hd wt:Nat):Nat→Prop:=fun k=>k=tk∨k=hd∨k=wt
section
variable {S:Nat→Prop}
theorem Chg.one{b:Nat}{A B C:World}(h:Chg S A B)(k:Chg (fun x=>x=b) B C)(hb:S b):Chg S A C:=h.trans k (fun x _ hx=>by subst hx;exact hb)
theorem MapI.kept{W W':World}{b:Nat}{f:Int→Int}(h:MapI W b f)(hc:Chg S W W')(hn:¬S b):MapI W' b f:=h.of_heap (hc.block b h.lt hn)
theorem MapW.kept{W W':World}{b:Nat}{f:Int→Wt}(h:MapW W b f)(hc:Chg S W W')(hn:¬S b):MapW W' b f:=h.of_heap (hc.block b h.lt hn)
end
theorem fV{x:Int}(h1: -9223372036854775808≤x)(h2:x≤9223372036854775807):IntKind.i64.wrap x=x:=by rw[IntKind.wrap_i64];omega
section
variable {W:World}{F:Nat→Prop}{b g:Nat}{f:Cf}{c:Ct}{ch tk hd wt:Nat}{dv:Value}
theorem ClAt.cell(h:ClAt W F b g f c ch tk hd wt dv)(j:Nat)(v:Value)(hj:(clL f c ch tk hd wt g dv)[j]?=some v):W.cell? ⟨b,j,none⟩=some v:=cO h.blk j v (by simpa using hj)
theorem ClAt.froz(h:ClAt W F b g f c ch tk hd wt dv)(j:Nat):W.frozen? ⟨b,j,none⟩=false:=cX h.blk j
theorem ClAt.bt(h:ClAt W F b g f c ch tk hd wt dv):b≠tk:=by
 obtain⟨_,_,o⟩:=h.maps.toks.obj;exact eX h.blk o (by simp)
theorem ClAt.bh(h:ClAt W F b g f c ch tk hd wt dv):b≠hd:=by
 obtain⟨_,_,o⟩:=h.maps.holds.obj;exact eX h.blk o (by simp)
theorem ClAt.bw(h:ClAt W F b g f c ch tk hd wt dv):b≠wt:=by
 obtain⟨_,_,o⟩:=h.maps.wat.obj;exact eX h.blk o (by simp)
theorem ClAt.setT{W':World}(h:ClAt W F b g f c ch tk hd wt dv)(hc:Chg (fun k=>k=tk) W W'){t:Int→Int}(ht:MapI W' tk t):ClAt W' F b g f {c with toks:=t} ch tk hd wt dv:=
 h.maps' (hc.mono (fun _ _ h=>Or.inl h)) t c.holds c.wat ht (h.maps.holds.kept hc (fun e=>h.maps.th e.symm)) (h.maps.wat.kept hc (fun e=>h.maps.tw e.symm))
theorem ClAt.setH{W':World}(h:ClAt W F b g f c ch tk hd wt dv)(hc:Chg (fun k=>k=hd) W W'){t:Int→Int}(ht:MapI W' hd t):ClAt W' F b g f {c with holds:=t} ch tk hd wt dv:=
 h.maps' (hc.mono (fun _ _ h=>Or.inr (Or.inl h))) c.toks t c.wat (h.maps.toks.kept hc h.maps.th) ht (h.maps.wat.kept hc (fun e=>h.maps.hw e.symm))
theorem ClAt.setW{W':World}(h:ClAt W F b g f c ch tk hd wt dv)(hc:Chg (fun k=>k=wt) W W'){t:Int→Wt}(ht:MapW W' wt t):ClAt W' F b g f {c with wat:=t} ch tk hd wt dv:=
 h.maps' (hc.mono (fun _ _ h=>Or.inr (Or.inr h))) c.toks c.holds t (h.maps.toks.kept hc h.maps.tw) (h.maps.holds.kept hc h.maps.hw) ht
end
section
variable (W:World) (F:Nat→Prop) (b g:Nat) (f:Cf) (c:Ct) (ch tk hd wt:Nat) (dv:Value)
theorem aAU(l:Int)(h:ClAt W F b g f c ch tk hd wt dv):
 Calls prog 188 #[.pointer (some ⟨b,0,none⟩),.int .i64 l] W fun r W'=>r= .returned (.tuple #[])∧ClAt W' F b g f (oI c l) ch tk hd wt dv∧Chg (S3 tk hd wt) W W':=by
 have j:=cN h;have u:=h.cell 13 _ rfl;clear h;go_enter func188,ntmps188;go_wp2_with (at_delete;refine rX rfl _ _ _ _ rfl _ _ rfl rfl _ (j.out.maps.toks.del _ _) ?_);intro w d k s;have i:=j.out.setT d s;have e:=cN i;have m:=cN d;have v:=i.cell 14 _ rfl;clear j i d k s;go_wp2_with (at_delete;refine rX rfl _ _ _ _ rfl _ _ rfl rfl _ (e.out.maps.holds.del _ _) ?_);intro t a p q;have o:Hid (ClAt t F b g f (oI c l) ch tk hd wt dv):=e.out.setH a q;have n:=cN ((m.out.mono (T:=S3 tk hd wt) (fun _ _ h=>Or.inl h)).one a (Or.inr (Or.inl rfl)));clear a p q e;go_wp2_with fail;go_end0;exact⟨rfl,o.out,n.out⟩
theorem aEc(ob:Nat)(an mv:Value)(o:On)(tok:Int)(h:ClAt W F b g f c ch tk hd wt dv)(hob:OnAt W F ob an mv o)(hb1:0≤o.began)(hb2:o.began≤1000000000000)(ht1:0≤o.ttl)(ht2:o.ttl≤1000000):
 Calls prog 187 #[.pointer (some ⟨b,0,none⟩),.pointer (some ⟨ob,0,none⟩),.int .i64 tok] W fun r W'=>r= .returned (.tuple #[])∧ClAt W' F b g f (kP c o tok) ch tk hd wt dv∧Chg (S3 tk hd wt) W W':=by
 have m:=cN h;have I:Hid (∀l,Calls prog 188 #[.pointer (some ⟨b,0,none⟩),.int .i64 l] W fun r W'=>r= .returned (.tuple #[])∧ClAt W' F b g f (oI c l) ch tk hd wt dv∧Chg (S3 tk hd wt) W W'):=fun l=>aAU W F b g f c ch tk hd wt dv l h;have a:=hob.1;have p:=cN a;have G:=cO a 0 _ rfl;have C:=cO a 1 _ rfl;clear h hob a;go_enter func187,ntmps187;by_cases j:o.kind=3
 ·have s:(o.kind==3)=true:=by simp[j]
  have q:=cN j;clear j;go_wp2_with (go_at_call 188;refine(I.out _).mono ?_;rintro r A ⟨rfl,k,E⟩)
  ((try simp only[Exit.inBlock,Exit.then]);refine bodyPost_ret (results_none rfl _ _ _) rfl ?_)
  refine⟨rfl,?_,E⟩;unfold kP;rw[if_pos q.out];exact k
 ·have s:(o.kind==3)=false:=by simp[j]
  have q:Hid (o.kind≠3):=j;clear j;have v:=m.out.cell 13 _ rfl;have K:IntKind.i64.wrap (o.began+o.ttl)=o.began+o.ttl:=fV (by omega) (by omega);go_wp2_with fail;refine eD [0,0,0,1,0,0,0,0,1,0] (by kernel_rfl) (fun _ _ _ _=>rfl) ?_;simp only[dC,dB];iterate 10 (apply sB rfl rfl;·(intro x h;(try cases h rfl);go_simp;with_reducible rfl))
  refine cP ?_;try simp only[pA]
  refine kT rfl _ _ _ _ rfl _ _ _ rfl rfl rfl _ (MapI.set (W:=W.drew) m.out.maps.toks _ _) ?_;rintro A ⟨i,u,B⟩;have k:=m.out.setT i.of_drew B;have d:=cN k;have n:=cN i.of_drew;have a:=n.out.kept p.out (by obtain⟨_,_,H⟩:=m.out.maps.toks.obj;exact eX p.out H (by simp));have J:=k.cell 14 _ rfl;have N:=cO a 1 _ rfl;have M:=cO a 2 _ rfl;have L:=cO a 3 _ rfl;clear m k i u B a p G C v;go_wp2_with fail;refine eD [0,0,0,1,0,0,0,0,1,0,0,0,1,0,0,0,0,1,0] (by kernel_rfl) (fun _ _ _ _=>rfl) ?_;simp only[dC,dB];iterate 19 (apply sB rfl rfl;·(intro x h;(try cases h rfl);go_simp;with_reducible rfl))
  refine cP ?_;try simp only[pA]
  refine kT rfl _ _ _ _ rfl _ _ _ rfl rfl rfl _ (MapI.set (W:=A.drew) d.out.maps.holds _ _) ?_;rintro D ⟨e,y,z⟩;have w:Hid (ClAt D F b g f (kP c o tok) ch tk hd wt dv):=by
   have:=d.out.setH e.of_drew z;unfold kP;rw[if_neg q.out];exact this
  have t:=cN ((n.out.mono (T:=S3 tk hd wt) (fun _ _ h=>Or.inl h)).one e.of_drew (Or.inr (Or.inl rfl)));clear e y z d;go_wp2_with fail;go_end0;exact⟨rfl,w.out,t.out⟩
end
abbrev opV(k l t:Int):Value:=.agg #[.int .i64 k,.int .i64 l,.int .i64 t]
theorem aIA{α:Type}(f:Int→α)(k:Int)(v:α)(h:f k=v):upd f k v=f:=by
 funext x
 unfold upd;split
 ·rename_i a;rw[a,h]
 ·rfl
section
variable (W:World)
theorem aD8(F:Nat→Prop)(b g:Nat)(f:Cf)(c:Ct)(ch tk hd wt:Nat)(dv:Value)(k l t:Int)(h:ClAt W F b g f c ch tk hd wt dv)(hc1:0≤c.clock)(hc2:c.clock≤1000000000000)(ht1:0≤t)(ht2:t≤1000000):
 Calls prog 123 #[.pointer (some ⟨b,0,none⟩),opV k l t] W fun r W'=>r= .returned (.tuple #[])∧ClAt W' F b g f (eI c k l t) ch tk hd wt dv∧Chg (S3 tk hd wt) W W':=by
 have a:Hid (ClAt (W.alloc (.cells #[.int .i64 k,.int .i64 l,.int .i64 t] 68)) F b g f c ch tk hd wt dv):=h.kept (S:=NoS) ((Chg.refl _ _).alloc _) (fun _ _ h=>h);have y:Hid (Chg (S3 tk hd wt) W (W.alloc (.cells #[.int .i64 k,.int .i64 l,.int .i64 t] 68))):=(Chg.refl _ _).alloc _;have q:=aA W (.cells #[.int .i64 k,.int .i64 l,.int .i64 t] 68);clear h;go_enter func123,ntmps123;have N:IntKind.i64.wrap (c.clock+t)=c.clock+t:=fV (by omega) (by omega);have G:=cO q 0 _ rfl;have D:=cO q 1 _ rfl;have C:=cO q 2 _ rfl;have s:=a.out.cell 14 _ rfl;have u:=a.out.cell 11 _ rfl;by_cases j:k=3
 ·have A:(k==3)=true:=by simp[j]
  have i:=cN j;clear j;go_wp2_with fail;generalize W.alloc (.cells #[.int .i64 k,.int .i64 l,.int .i64 t] 68)=W0 at*;refine eD [0,0,0,1,0,1] (by kernel_rfl) (fun _ _ _ _=>rfl) ?_;simp only[dC,dB];iterate 6 (apply sB rfl rfl;·(intro x h;(try cases h rfl);go_simp;with_reducible rfl))
  refine cP ?_;try simp only[pA]
  refine rX rfl _ _ _ _ rfl _ _ rfl rfl _ (MapI.del (W:=W0.drew) a.out.maps.holds _ _) ?_;rintro z ⟨hc2,o,p⟩;have n:Hid (ClAt z F b g f (eI c k l t) ch tk hd wt dv):=by
   unfold eI;rw[if_pos i.out];exact a.out.setH hc2.of_drew p
  have m:=cN (y.out.one hc2.of_drew (Or.inr (Or.inl rfl)));clear hc2 o p a G D C s u q;go_wp2_with fail;go_end0;exact⟨rfl,n.out,m.out⟩
 ·have A:(k==3)=false:=by simp[j]
  by_cases d:k=1∨k=2
  ·have w:(k==1)=true∨(k==1)=false∧(k==2)=true:=by rcases d with rfl|rfl<;>simp
   have i:Hid (¬k=3∧(k=1∨k=2)):=⟨j,d⟩;clear j d;obtain⟨K,I,E⟩:=MapI.get2 (W:=(W.alloc (.cells #[.int .i64 k,.int .i64 l,.int .i64 t] 68)).drew) a.out.maps.holds l;generalize v:W.alloc (.cells #[.int .i64 k,.int .i64 l,.int .i64 t] 68)=W0 at*;have B:=cN v;clear v;rcases w with J|⟨J,O⟩;all_goals
    go_wp2_with fail;try rw[B.out]
    refine eD [0,0,0,1,0,1,1,0,0,0,0,0] (by kernel_rfl) (fun _ _ _ _=>rfl) ?_;simp only[dC,dB];iterate 12 (apply sB rfl rfl;·(intro x h;(try cases h rfl);go_simp;with_reducible rfl))
    refine cP ?_;try simp only[pA]
    have H:=cN E;clear E;cases K with
    |false=>
     go_wp2_with fail;go_end0;refine⟨rfl,?_,y.out.drew⟩;have e:eI c k l t=c:=by
      unfold eI;rw[if_neg i.out.1,if_pos i.out.2,aIA];rw[(by first|exact H.out rfl|exact H.out trivial:c.holds l=0)];omega
     rw[e];exact a.out.kept (S:=NoS) (Chg.refl _ _).drew (fun _ _ h=>h)
    |true=>
     go_wp2_with fail;refine eD [0,0,0,1,0,1,0,0,0,0,1,0,1,0,0] (by kernel_rfl) (fun _ _ _ _=>rfl) ?_;simp only[dC,dB];iterate 15 (apply sB rfl rfl;·(intro x h;(try cases h rfl);go_simp;with_reducible rfl))
     refine cP ?_;try simp only[pA]
     refine kT rfl _ _ _ _ rfl _ _ _ rfl rfl rfl _ (MapI.set (W:=W0.drew.drew) a.out.maps.holds _ _) ?_;rintro z ⟨hc2,o,p⟩;have n:Hid (ClAt z F b g f (eI c k l t) ch tk hd wt dv):=by
      unfold eI;rw[if_neg i.out.1,if_pos i.out.2];have e:(if c.clock+t<c.holds l then c.clock+t else c.holds l)=min (c.holds l) (c.clock+t):=by
       split<;>omega
      (try rw[e]at p);exact a.out.setH hc2.of_drew.of_drew p
     have m:=cN (y.out.one hc2.of_drew.of_drew (Or.inr (Or.inl rfl)));clear hc2 o p a G D C s u q;go_wp2_with fail;all_goals(go_end0;exact⟨rfl,n.out,m.out⟩)
  ·have M:(k==1)=false:=by simp;omega
   have L:(k==2)=false:=by simp;omega
   have i:Hid (¬k=3∧¬(k=1∨k=2)):=⟨j,d⟩;clear j d;go_wp2_with fail;go_end0;refine⟨rfl,?_,y.out⟩;have e:eI c k l t=c:=by
    unfold eI;rw[if_neg i.out.1,if_neg i.out.2]
   rw[e];exact a.out
theorem qX(b:Nat)(n:Int)(h:W.cell? ⟨b,7,none⟩=some (.int .i64 n))(h1:0≤n)(h2:n≤1000):
 Calls prog 217 #[.pointer (some ⟨b,0,none⟩)] W fun r W'=>r= .returned (.int .i64 (n+1))∧W'=W:=by
 go_enter func217,ntmps217;have a:IntKind.i64.wrap (n+1)=n+1:=fV (by omega) (by omega);go_wp2_with fail;go_ret;exact⟨rfl,rfl⟩
theorem Chg.alloc2(x y:Obj):Chg NoS W ((W.alloc x).alloc y):=((Chg.refl _ _).alloc _).alloc _
theorem aI1(w:Wt)(v:Vl):
 Calls prog 218 #[wtV w,vlV v] W fun r W'=>r= .returned (.bool (sZ w v))∧Chg NoS W W':=by
 obtain⟨a,e,ws,g⟩:=w;obtain⟨d,b,f,c⟩:=v;go_enter func218,ntmps218;unfold sZ;cases h1:a==d<;>cases h2:e==b<;>cases h3:ws==c<;>(
  go_wp2_with fail;go_ret;refine⟨by simp[*],?_⟩;exact Chg.alloc2 _ _ _)
end
theorem xD(W:World)(F:Nat→Prop)(b g:Nat)(f:Cf)(c:Ct)(ch tk hd wt:Nat)(dv:Value)(l:Int)(v:Vl)(h:ClAt W F b g f c ch tk hd wt dv)(hn1:0≤c.num)(hn2:c.num≤1000):
 Calls prog 189 #[.pointer (some ⟨b,0,none⟩),.int .i64 l,vlV v] W fun r W'=>r= .returned (.tuple #[])∧ClAt W' F b g f (nM c l v) ch tk hd wt dv∧Chg (S3 tk hd wt) W W':=by
 have m:Hid (ClAt (W.alloc (.cells #[.int .i64 v.own,.int .i64 v.tok,.int .i64 v.ttl,.int .i64 v.seq] 56)) F b g f c ch tk hd wt dv):=h.kept (S:=NoS) ((Chg.refl _ _).alloc _) (fun _ _ h=>h);have z:Hid (Chg (S3 tk hd wt) W (W.alloc (.cells #[.int .i64 v.own,.int .i64 v.tok,.int .i64 v.ttl,.int .i64 v.seq] 56))):=(Chg.refl _ _).alloc _;have A:Hid ((W.alloc (.cells #[.int .i64 v.own,.int .i64 v.tok,.int .i64 v.ttl,.int .i64 v.seq] 56)).heap[W.heap.size]?=some (.cells (vlL v).toArray 56 (0,0))):=aA W _;clear h;go_enter func189,ntmps189;go_wp2_with fail;generalize W.alloc (.cells #[.int .i64 v.own,.int .i64 v.tok,.int .i64 v.ttl,.int .i64 v.seq] 56)=W0 at*;have C:=cO A.out 0 _ rfl;have L:=cN (cR (W:=W0.drew) A.out);have n:=m.out.cell 15 _ rfl;have w:=MapW.get (W:=W0.drew) m.out.maps.wat l;by_cases k:v.own=0
 ·have D:(v.own==0)=true:=by simp[k]
  have t:=cN k;clear k;refine eD [0,1,0,0,0,1,0,1,0,0,0,0,0,0,1,0,1,1] (by kernel_rfl) (fun _ _ _ _=>rfl) ?_;simp only[dC,dB];iterate 7 ((try simp only[pA]);first|(apply sB rfl rfl;·(intro x h;(try cases h rfl);go_simp;with_reducible rfl))|apply dN rfl|apply dL rfl)
  try simp only[pA]
  refine dL rfl ?_;(try simp only[pA]);iterate 10 ((try simp only[pA]);first|(apply sB rfl rfl;·(intro x h;(try cases h rfl);go_simp;with_reducible rfl))|apply dN rfl|apply dL rfl)
  refine cP ?_;try simp only[pA]
  go_wp2_with fail
  ((try simp only[Exit.inBlock,Exit.then]);refine bodyPost_ret (results_none rfl _ _ _) rfl ?_)
  refine⟨rfl,?_,z.out.drew⟩;unfold nM;rw[if_pos (Or.inl t.out)];exact m.out.kept (S:=NoS) (Chg.refl _ _).drew (fun _ _ h=>h)
 ·have D:(v.own==0)=false:=by simp[k]
  have B:=m.out.cell 7 _ rfl;by_cases a:v.own=c.num+1
  ·have J:(v.own==c.num+1)=true:=by simp[a]
   have t:=cN a;clear k a;refine eD [0,1,0,0,0,1,0,1,0,0,0,0,0,0,1,0,1,1] (by kernel_rfl) (fun _ _ _ _=>rfl) ?_;simp only[dC,dB];iterate 7 ((try simp only[pA]);first|(apply sB rfl rfl;·(intro x h;(try cases h rfl);go_simp;with_reducible rfl))|apply dN rfl|apply dL rfl)
   try simp only[pA]
   refine eW (v:=.int .i64 (c.num+1)) (f:=217) (args:=#[.pointer (some ⟨b,0,none⟩)]) rfl (fun x hx=>by subst hx;go_simp;try rfl) (fun x hx=>by subst hx;exact qX _ b c.num B hn1 hn2) ?_;(try simp only[pA]);iterate 10 ((try simp only[pA]);first|(apply sB rfl rfl;·(intro x h;(try cases h rfl);go_simp;with_reducible rfl))|apply dN rfl|apply dL rfl)
   refine cP ?_;try simp only[pA]
   go_wp2_with fail
   ((try simp only[Exit.inBlock,Exit.then]);refine bodyPost_ret (results_none rfl _ _ _) rfl ?_)
   refine⟨rfl,?_,z.out.drew⟩;unfold nM;rw[if_pos (Or.inr (Or.inl t.out))];exact m.out.kept (S:=NoS) (Chg.refl _ _).drew (fun _ _ h=>h)
  ·have J:(v.own==c.num+1)=false:=by simp[a]
   have t:Hid (¬v.own=0∧¬v.own=c.num+1):=⟨k,a⟩;clear k a;refine eD [0,1,0,0,0,1,0,1,0,0,0,0,0,0,1,0,1,1] (by kernel_rfl) (fun _ _ _ _=>rfl) ?_;simp only[dC,dB];iterate 7 ((try simp only[pA]);first|(apply sB rfl rfl;·(intro x h;(try cases h rfl);go_simp;with_reducible rfl))|apply dN rfl|apply dL rfl)
   try simp only[pA]
   refine eW (v:=.int .i64 (c.num+1)) (f:=217) (args:=#[.pointer (some ⟨b,0,none⟩)]) rfl (fun x hx=>by subst hx;go_simp;try rfl) (fun x hx=>by subst hx;exact qX _ b c.num B hn1 hn2) ?_;(try simp only[pA]);iterate 9 ((try simp only[pA]);first|(apply sB rfl rfl;·(intro x h;(try cases h rfl);go_simp;with_reducible rfl))|apply dN rfl|apply dL rfl)
   try simp only[pA]
   refine wU (v:=vlV v) rfl (fun x hx=>cU 56 _ rfl ⟨W.heap.size,0,none⟩ rfl (vlL v) _ (by subst hx;exact L.out) underlying56 rfl (by kernel_rfl)) ?_;refine cP ?_;(try simp only[pA]);have i:∀q,sZ (c.wat l) v=q→Hid (Calls prog 218 #[wtV (c.wat l),vlV v] W0.drew fun r W'=>r= .returned (.bool q)∧Chg NoS W0.drew W'):=fun q e=>e▸aI1 W0.drew (c.wat l) v;clear w L C B n;cases hw:sZ (c.wat l) v;all_goals
    have s:=i _ hw;clear i;go_wp2_with (go_at_call 218;refine s.out.mono ?_;rintro r M ⟨rfl,y⟩);have d:=m.out.kept y.of_drew (fun _ _ h=>h);have j:=y.of_drew.kept A.out (fun h=>h);have u:=cN (z.out.trans y.of_drew (fun _ _ h=>h.elim));clear s
   ·have C:=cO j 0 _ rfl;have N:=cO j 1 _ rfl;have O:=cO j 3 _ rfl;have n:=d.cell 15 _ rfl;have E:=d.cell 11 _ rfl;have s:=cN hw;have p:=cN d;clear A j m d y z hw;go_wp2_with fail;refine eD [0,0,0,1,0,0,1,0,1,0,1,0,0,0,1,0] (by kernel_rfl) (fun _ _ _ _=>rfl) ?_;simp only[dC,dB];iterate 16 (apply sB rfl rfl;·(intro x h;(try cases h rfl);go_simp;with_reducible rfl))
    refine cP ?_;try simp only[pA]
    refine kT rfl _ _ _ _ rfl _ _ (wtV ⟨v.own,v.tok,v.seq,c.clock⟩) rfl rfl rfl _ (MapW.set (W:=M.drew) p.out.maps.wat _ _) ?_;rintro P ⟨o,I,K⟩;have H:Hid (ClAt P F b g f (nM c l v) ch tk hd wt dv):=by
     have:=p.out.setW o.of_drew K;unfold nM;rw[if_neg (by simp[t.out,s.out])];exact this
    have G:=cN (u.out.one o.of_drew (Or.inr (Or.inr rfl)));clear o I K p C N O n E;go_wp2_with fail;go_end0;exact⟨rfl,H.out,G.out⟩
   ·have s:=cN hw
    ((try simp only[Exit.inBlock,Exit.then]);refine bodyPost_ret (results_none rfl _ _ _) rfl ?_)
    refine⟨rfl,?_,u.out⟩;unfold nM;rw[if_pos (Or.inr (Or.inr s.out))];exact d
theorem aBj{v:Int}(h:0≤v)(h':v≤255):(eQ v 1)=[v]:=by
 show[v % 256]=[v];rw[Int.emod_eq_of_lt h (by omega)]
theorem pJ{v:Int}(h:0≤v)(h':v≤2147483647):iX (eQ v 4)=v:=by
 show v % 256+256*(v / 256 % 256+256*(v / 256 / 256 % 256+256*(v / 256 / 256 / 256 % 256+256*0)))=v;omega
theorem aJK{r:Rw}(h:okB r=true):(0≤r.lock∧r.lock≤3)∧(0≤r.prom∧r.prom≤2147483647)∧(0≤r.acc∧r.acc≤2147483647)∧(0≤r.own∧r.own≤4)∧(0≤r.tok∧r.tok≤2147483647)∧(0≤r.ttl∧r.ttl≤2147483647)∧(0≤r.seq∧r.seq≤2147483647):=by
 simp only[okB,wrB,aR,aM]at h;omega
theorem aKD{r:Rw}(h:(0≤r.lock∧r.lock≤3)∧(0≤r.prom∧r.prom≤2147483647)∧(0≤r.acc∧r.acc≤2147483647)∧(0≤r.own∧r.own≤4)∧(0≤r.tok∧r.tok≤2147483647)∧(0≤r.ttl∧r.ttl≤2147483647)∧(0≤r.seq∧r.seq≤2147483647)):okB r=true:=by
 simp only[okB,wrB,aR,aM];omega
theorem aEr(r:Rw)(rest:List Int):nF r++rest=[82]++(eQ r.lock 1++(eQ r.prom 4++(eQ r.acc 4++(eQ r.own 1++(eQ r.tok 4++(eQ r.ttl 4++(eQ r.seq 4++(eQ (lL (iJ r) 0 0) 2++rest)))))))):=by
 simp[nF,iJ]
theorem pM{a b:List Int}{n:Nat}(h:a.length=n):(a++b).drop n=b:=by subst h;simp
theorem aBd{a b:List Int}{n:Nat}(h:a.length=n):(a++b).take n=a:=by subst h;simp
theorem aEv{r:Rw}(h:okB r=true)(rest:List Int):lF (nF r++rest)=r:=by
 obtain⟨q,j,m,p,l,g,k⟩:=aJK h;have n:(nF r++rest).drop 2=eQ r.prom 4++(eQ r.acc 4++(eQ r.own 1++(eQ r.tok 4++(eQ r.ttl 4++(eQ r.seq 4++(eQ (lL (iJ r) 0 0) 2++rest)))))):=by
  rw[aEr,←aS];exact pM (by simp[gP])
 have i:(nF r++rest).drop 6=eQ r.acc 4++(eQ r.own 1++(eQ r.tok 4++(eQ r.ttl 4++(eQ r.seq 4++(eQ (lL (iJ r) 0 0) 2++rest))))):=by
  rw[show(6:Nat)=2+4 from rfl,←List.drop_drop,n];exact pM (by simp[gP])
 have d:(nF r++rest).drop 10=eQ r.own 1++(eQ r.tok 4++(eQ r.ttl 4++(eQ r.seq 4++(eQ (lL (iJ r) 0 0) 2++rest)))):=by
  rw[show(10:Nat)=6+4 from rfl,←List.drop_drop,i];exact pM (by simp[gP])
 have a:(nF r++rest).drop 11=eQ r.tok 4++(eQ r.ttl 4++(eQ r.seq 4++(eQ (lL (iJ r) 0 0) 2++rest))):=by
  rw[show(11:Nat)=10+1 from rfl,←List.drop_drop,d];exact pM (by simp[gP])
 have c:(nF r++rest).drop 15=eQ r.ttl 4++(eQ r.seq 4++(eQ (lL (iJ r) 0 0) 2++rest)):=by
  rw[show(15:Nat)=11+4 from rfl,←List.drop_drop,a];exact pM (by simp[gP])
 have e:(nF r++rest).drop 19=eQ r.seq 4++(eQ (lL (iJ r) 0 0) 2++rest):=by
  rw[show(19:Nat)=15+4 from rfl,←List.drop_drop,c];exact pM (by simp[gP])
 have o:(nF r++rest).getD 1 0=r.lock:=by
  rw[aEr,aBj q.1 (by omega)]
  rfl
 have f:(nF r++rest).getD 10 0=r.own:=by
  rw[aQ,show(nF r++rest)[10]?=((nF r++rest).drop 10)[0]? by rw[List.getElem?_drop],d,aBj p.1 (by omega)]
  rfl
 have t:∀(v:Int) (b:List Int),(eQ v 4++b).take 4=eQ v 4:=fun v b=>aBd (gP 4 v);unfold lF;rw[o,f,n,i,a,c,e,t,t,t,t,t,pJ j.1 j.2,pJ m.1 m.2,pJ l.1 l.2,pJ g.1 g.2,pJ k.1 k.2]
theorem aAJ{r:Rw}(h:okB r=true):dW r=nF r:=by unfold dW;rw[if_pos h]
theorem pL{r:Rw}(h:okB r=true):(dW r).length=25:=by rw[aAJ h,oC]
theorem aJa{r:Rw}(h:okB r=true):sV (dW r)=true:=by
 unfold sV;have:=aEv h [];rw[aC]at this;rw[aAJ h,this,aAJ h];simp
theorem uJ:∀(b n:Nat) (L:List Int),L.length≤n→n≤b→iN n L=iN L.length L
 |_,0,L,h,_=>by
  have:L=[]:=List.length_eq_zero_iff.1 (by omega);subst this;rfl
 |0,n+1,L,h,h'=>absurd h' (by omega)
 |b+1,n+1,L,h,h'=>by
  by_cases hc:25≤L.length∧sV (L.take 25)=true
  ·obtain⟨m,hm⟩:∃m,L.length=m+1:=⟨L.length-1,by omega⟩;have e1:=uJ b n (L.drop 25) (by rw[aV];omega) (by omega);have e2:=uJ b m (L.drop 25) (by rw[aV];omega) (by omega);rw[nQ n L hc,hm,nQ m L hc,e1,e2]
  ·rw[lW _ _ hc,lW _ _ hc]
theorem aD6(n:Nat)(L:List Int)(h:L.length≤n):iN n L=iN L.length L:=uJ n n L h (aE n)
theorem aF7{r:Rw}(h:okB r=true)(rest:List Int):dO (dW r++rest)=r::dO rest:=by
 have a:=pL h;unfold dO;obtain⟨n,b⟩:∃n,(dW r++rest).length=n+1:=⟨(dW r++rest).length-1,by rw[aD];omega⟩;rw[b,nQ n _ ⟨by rw[aD];omega,by rw[aBd a];exact aJa h⟩,aBd a,pM a];have e:lF (dW r)=r:=by
  have:=aEv h [];rw[aC]at this;rw[aAJ h];exact this
 have c:=aD6 n rest (by rw[aD]at b;omega);rw[e,c]
theorem aD4{L:List Int}(h:L.length<25):dO L=[]:=lW _ _ (by omega)
theorem sX:∀(rs:List Rw),(∀r ∈ rs,okB r=true)→∀(p:List Int),p.length<25→dO (rs.flatMap dW++p)=rs
 |[],_,p,hp=>aD4 hp
 |r::rs,h,p,hp=>by
  simp only[List.flatMap_cons,aS];rw[aF7 (h r (cE ..)),sX rs (fun x hx=>h x (cF _ hx)) p hp]
theorem aDX:∀(rs:List Rw),(∀r ∈ rs,okB r=true)→(rs.flatMap dW).length=25*rs.length
 |[],_=>rfl
 |r::rs,h=>by
  simp only[List.flatMap_cons,aD,bI];rw[pL (h r (cE ..)),aDX rs (fun x hx=>h x (cF _ hx))];omega
theorem wF:∀(f:Nat) (L:List Int),(∀r ∈ iN f L,okB r=true)∧L.take (25*(iN f L).length)=(iN f L).flatMap dW
 |0,L=>by simp[iN]
 |f+1,L=>by
  by_cases hc:25≤L.length∧sV (L.take 25)=true
  ·rw[nQ f L hc];obtain⟨h1,h2⟩:=wF f (L.drop 25);refine⟨fun r hr=>?_,?_⟩
   ·rcases List.mem_cons.1 hr with rfl|hr
    ·exact uI hc.2 (by simp;omega)
    ·exact h1 r hr
   ·have e:dW (lF (L.take 25))=L.take 25:=by have:=hc.2;unfold sV at this;simpa using this
    rw[List.flatMap_cons,e,←h2,bI,show 25*((iN f (L.drop 25)).length+1)=25+25*(iN f (L.drop 25)).length by omega,List.take_add]
  ·rw[lW _ _ hc];simp
theorem aED(L:List Int):∀r ∈ dO L,okB r=true:=(wF _ L).1
theorem aGa(L:List Int):L.take (25*(dO L).length)=(dO L).flatMap dW:=(wF _ L).2
theorem aBi{L:List Int}(h:25*(dO L).length=L.length):L=(dO L).flatMap dW:=by
 have:=aGa L
 rwa [h,bR]at this
theorem vY{L:List Int}(h:25*(dO L).length=L.length){r:Rw}(hr:okB r=true):dO (L++dW r)=dO L++[r]:=by
 have e:L++dW r=(dO L++[r]).flatMap dW++[]:=by
  rw[List.flatMap_append,aC,←aBi h];simp
 rw[e];exact sX _ (fun x a=>by
  rcases aO.1 a with a|a
  ·exact aED L x a
  ·simp at a;subst a;exact hr) [] (by decide)
theorem aGs{L p:List Int}(h:25*(dO L).length=L.length)(hp:p.length<25):dO (L++p)=dO L:=by
 have e:L++p=(dO L).flatMap dW++p:=by rw[←aBi h]
 rw[e];exact sX _ (aED L) p hp
theorem pT{rs:List Rw}{k:Nat}{r:Rw}(h:dX rs k=some r):r ∈ rs∧r.lock=(k:Int):=by
 unfold dX at h;have a:=List.mem_of_find?_eq_some h;have b:=List.find?_some h;exact⟨by simpa using a,by simpa using b⟩
theorem aH2{rs:List Rw}{n:Nat}{r:Rw}(h:r ∈ eG rs n):r ∈ rs:=by
 unfold eG at h;obtain⟨k,_,a⟩:=List.mem_filterMap.1 h;exact(pT a).1
theorem aBG{us bs:List Rw}(h:∀k:Nat,dX us k=dX bs k)(n:Nat):eG us n=eG bs n:=by
 unfold eG
 congr 1
 exact funext fun k=>h k
theorem aFF{rs:List Rw}(hl:∀r ∈ rs,0≤r.lock∧r.lock≤3)(k:Nat):dX (eG rs 4) k=dX rs k:=by
 have b:∀n,dX (eG rs n) k=if k<n then dX rs k else none:=by
  intro n;induction n with
  |zero=>simp[eG,dX]
  |succ n ih=>
   rw[pV];cases hn:dX rs n with
   |none=>
    rw[Option.toList_none,aC,ih];by_cases h:k<n
    ·rw[if_pos h,if_pos (by omega)]
    ·rw[if_neg h];by_cases a:k=n
     ·subst a;rw[if_pos (by omega),hn]
     ·rw[if_neg (by omega)]
   |some r=>
    rw[Option.toList_some,qL,ih];have c:=(pT hn).2;by_cases a:k=n
    ·subst a;rw[if_pos c,if_pos (by omega),hn]
    ·rw[if_neg (by omega)];by_cases h:k<n
     ·rw[if_pos h,if_pos (by omega)]
     ·rw[if_neg h,if_neg (by omega)]
 rw[b];by_cases h:k<4
 ·rw[if_pos h]
 ·rw[if_neg h];cases hk:dX rs k with
  |none=>rfl
  |some r=>have d:=pT hk;have:=hl r d.1;omega
end Go.Proofs.YtbbdgokdfhdpiaaGreatDoor
