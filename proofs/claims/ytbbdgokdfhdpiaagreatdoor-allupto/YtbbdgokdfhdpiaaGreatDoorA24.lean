/- A part of the proof: PAc8, MemMo, PMor1, SimAc, MemNew, LwBase. -/
import Derived.Test.YtbbdgokdfhdpiaaGreatDoorA2
import Derived.Test.YtbbdgokdfhdpiaaGreatDoorA19
namespace Go.Proofs.YtbbdgokdfhdpiaaGreatDoor
set_option linter.all false
set_option maxRecDepth 100000
set_option maxHeartbeats 40000000
open Go.Proofs.Tryz Go.RowKit
section
open Go.RowKit Go.Maps
theorem aBv(W:World)(B:Nat)(eb:Addr)(b:Nat)(hgl:GlAt W B eb):
 Calls prog 129 #[.pointer (some ⟨b,0,none⟩),.nilIface] W fun e W'=>e= .returned (.tuple #[])∧Chg NoS W W':=by
 have a:Chg NoS W (W.alloc (.cells #[.pointer none] 234)):=(Chg.refl _ _).alloc _;generalize c:W.alloc (.cells #[.pointer none] 234)=W1 at*;have f:=cN c;have i:=(hgl.kept a (fun _ h=>h.elim)).err;have d:=cN (aKA eb W1);have g:=cN a;clear c a hgl;go_enter func129,ntmps129;go_wp2_with (first|rw[f.out]|(go_at_call 167;refine d.out.mono ?_;rintro e j ⟨rfl,rfl⟩))
 (first|go_end0|((try simp only[Exit.inBlock,Exit.then]);refine bodyPost_ret (results_none rfl _ _ _) rfl ?_))
 exact⟨rfl,g.out⟩
theorem zJ(W:World)(F:Nat→Prop)(B:Nat)(eb:Addr)(b g fb:Nat)(a:Ac)(h:Acc W F b g a)(hgl:GlAt W B eb)(hf:lW W fb (oQ eb)):
 Calls prog 129 #[.pointer (some ⟨b,0,none⟩),lX fb] W fun e W'=>e= .returned (.tuple #[])∧Acc W' F b g {a with st:=1}∧Chg (fun x=>x=b) W W':=by
 obtain⟨nm,hf⟩:=hf;obtain⟨FD,d,tb,ha,hin,hlt⟩:=h;have hc1:Chg NoS W (W.alloc (.cells #[.pointer none] 234)):=(Chg.refl _ _).alloc _;have hb1:=aA W (.cells #[.pointer none] 234);generalize hX1:W.alloc (.cells #[.pointer none] 234)=W1 at*;have HX1:=cN hX1;have hg1:=hgl.kept hc1 (fun _ h=>h.elim);have hev:=hg1.err;have hf1:=hc1.kept hf (fun h=>h);have HIS:=cN (aIA fb eb W1 (cO hf1 2 _ rfl));have HAS:=cN (aIu fb W.heap.size W1 hg1.typ (aG hg1.b1 hg1.hB) hb1);have HH:=cN (aLp ha hin hlt hc1 hf1 (dG hf));clear hX1 hc1 hgl hg1 hf1 hf hb1 ha hin hlt;go_enter func129,ntmps129;go_wp2_with (first|rw[HX1.out]|(go_at_call 167;refine HIS.out.mono ?_;rintro e w' ⟨rfl,rfl⟩)|(go_at_call 168;refine HAS.out.mono ?_;rintro e W2 ⟨rfl,k2,b2⟩;refine cQ ?_));have t0:=cO b2 0 _ rfl;have hf2:=k2.kept HH.out.2.2.2.2.1 (by have:=HH.out.2.2.2.2.2;omega);have f0:=cO hf2 0 _ rfl;have hc2:=HH.out.2.2.2.1.trans (S:=NoS) k2 (fun x hx e=>by omega);have ha2:=HH.out.1.kept hc2 (fun _ _ h=>h);have c4:=ha2.cell 4 _ rfl;have z4:=ha2.froz 4;have hc3:=cY W2 b 4 (.int .i64 1);have hb3:=dD ha2.blk 4 (.int .i64 1);generalize hX3:W2.setCell ⟨b,4,none⟩ (.int .i64 1)=W3 at*;have HX3:=cN hX3;have HR:Hid (Acc W3 F b g {a with st:=1}∧Chg (fun x=>x=b) W W3):=by
  refine⟨⟨FD,d,tb,⟨hb3,ha2.disk.of_heap hc3.size (fun x hx=>hc3.block x (ha2.disk.lt x hx) (fun e=>ha2.nb (e▸hx))),eB ha2.table (hc3.block _ ha2.table.lt (fun e=>ha2.bt e.symm)),ha2.nb,ha2.ntb⟩,HH.out.2.1,fun x hx=>aG (HH.out.2.2.1 x hx) (cA hc2.size hc3.size)⟩,(hc2.nos:Chg (fun x=>x=b) W W2).trans hc3 (fun _ _ h=>h)⟩
 clear hX3 hc3 hb3 ha2 hc2 hf2 b2 k2;refine cN ?_;go_wp2_with (first|rw[HX3.out])
 (first|go_end0|((try simp only[Exit.inBlock,Exit.then]);refine bodyPost_ret (results_none rfl _ _ _) rfl ?_))
 exact⟨rfl,HR.out⟩
end
abbrev fG(b:Nat):Value:=.pointer (some ⟨b,0,none⟩)
abbrev qA(f:Nat→Nat)(n:Nat):List Value:=(List.range n).map fun i=>fG (f i)
structure MoAt(W:World)(own:Nat→Nat)(g:Nat)(x:Mo)(av cv:Value)(bA bC:Nat→Nat):Prop where
 nt:NtAt W (fun k=>own k=1) g av cv x.net x.tr
 rav:W.ownsRow 0 114 1 av x.acs.length (qA bA x.acs.length)
 rcv:W.ownsRow 0 96 1 cv x.cls.length (qA bC x.cls.length)
 avb:∀k,av.ownBlock=some k→own k=2
 cvb:∀k,cv.ownBlock=some k→own k=2
 acc:∀i (h:i<x.acs.length),Acc W (fun k=>own k=3+2*i) (bA i) g x.acs[i]
 cls:∀i (h:i<x.cls.length),∃ch tk hd wt dv,ClAt W (fun k=>own k=4+2*i) (bC i) g x.cf x.cls[i] ch tk hd wt dv
 lt:∀k,own k≠0→k<W.heap.size
def Moor(W:World)(own:Nat→Nat)(g:Nat)(x:Mo):Prop:=∃av cv bA bC,MoAt W own g x av cv bA bC
def MoTo(W:World)(own:Nat→Nat)(g:Nat)(x:Mo)(W':World):Prop:=∃own',Moor W' own' g x∧Chg (fun k=>own k≠0) W W'∧∀k,own' k≠0→own k≠0∨W.heap.size≤k
theorem NtAt.grow{W:World}{G G':Nat→Prop}{g:Nat}{av cv:Value}{net:List Mg}{tr:List Ev}(h:NtAt W G g av cv net tr)(hg:∀k,G k→G' k)(hlt:∀k,G' k→k<W.heap.size):NtAt W G' g av cv net tr:=by
 obtain⟨a,j,i,b,f,e,c,d,l⟩:=h;exact⟨a,j,i,hg _ b,f,e,fun k hk=>hg _ (c k hk),fun k hk=>hg _ (d k hk),hlt⟩
theorem Acc.grow{W:World}{F F':Nat→Prop}{b g:Nat}{a:Ac}(h:Acc W F b g a)(hf:∀k,F k→F' k)(hlt:∀k,F' k→k<W.heap.size):Acc W F' b g a:=by
 obtain⟨e,d,c,i,f,j⟩:=h;exact⟨e,d,c,i,fun x hx=>hf _ (f x hx),hlt⟩
section
variable {W W':World}{own:Nat→Nat}{g:Nat}{x:Mo}{av cv:Value}{bA bC:Nat→Nat}
theorem MoAt.of_heap(h:MoAt W own g x av cv bA bC)(hs:W.heap.size≤W'.heap.size)(hb:∀k,own k≠0→W'.heap[k]?=W.heap[k]?):MoAt W' own g x av cv bA bC:=by
 refine⟨h.nt.of_heap hs (fun k hk=>hb k (by simp only[hk];decide)),dF h.rav (fun k hk=>hb k (by rw[h.avb k hk];decide)),dF h.rcv (fun k hk=>hb k (by rw[h.cvb k hk];decide)),h.avb,h.cvb,fun i hi=>?_,fun i hi=>?_,fun k hk=>aG (h.lt k hk) hs⟩
 ·obtain⟨f,d,e,a,b,m⟩:=h.acc i hi;exact⟨f,d,e,a.of_heap hs (fun k hk=>hb k (by have:=b k hk;omega)),b,fun k hk=>aG (m k hk) hs⟩
 ·obtain⟨l,c,n,wt,j,a⟩:=h.cls i hi;exact⟨l,c,n,wt,j,a.of_heap hs (fun k hk=>hb k (by omega))⟩
theorem Moor.of_heap(h:Moor W own g x)(hs:W.heap.size≤W'.heap.size)(hb:∀k,own k≠0→W'.heap[k]?=W.heap[k]?):Moor W' own g x:=by
 obtain⟨b,d,c,a,h⟩:=h;exact⟨b,d,c,a,h.of_heap hs hb⟩
theorem Moor.lt(h:Moor W own g x):∀k,own k≠0→k<W.heap.size:=by
 obtain⟨b,d,c,a,h⟩:=h;exact h.lt
theorem Moor.kept{S:Nat→Prop}(h:Moor W own g x)(hc:Chg S W W')(hn:∀k,own k≠0→¬S k):Moor W' own g x:=
 h.of_heap hc.size fun k hk=>hc.block k (h.lt k hk) (hn k hk)
theorem MoAt.kept{S:Nat→Prop}(h:MoAt W own g x av cv bA bC)(hc:Chg S W W')(hn:∀k,own k≠0→¬S k):MoAt W' own g x av cv bA bC:=
 h.of_heap hc.size fun k hk=>hc.block k (h.lt k hk) (hn k hk)
theorem MoAt.drew(h:MoAt W own g x av cv bA bC):MoAt W.drew own g x av cv bA bC:=h.kept (S:=NoS) (Chg.refl _ _).drew (fun _ _ h=>h)
theorem MoTo.of(h:Moor W own g x):MoTo W own g x W:=⟨own,h,Chg.refl _ _,fun _ h=>Or.inl h⟩
theorem MoTo.kept{S:Nat→Prop}(h:Moor W own g x)(hc:Chg S W W')(hn:∀k,own k≠0→¬S k)(hS:∀k,k<W.heap.size→¬S k):MoTo W own g x W':=⟨own,h.kept hc hn,hc.mono (fun k hk hs=>(hS k hk hs).elim),fun _ h=>Or.inl h⟩
theorem MoTo.trans{A B C:World}{own1:Nat→Nat}{x:Mo}(hc:Chg (fun k=>own k≠0) A B)(hf:∀k,own1 k≠0→own k≠0∨A.heap.size≤k)(h:MoTo B own1 g x C):MoTo A own g x C:=by
 obtain⟨a,d,b,c⟩:=h;refine⟨a,d,hc.trans b (fun k hk h'=>?_),fun k hk=>?_⟩
 ·rcases hf k h' with h|h
  ·exact h
  ·omega
 ·rcases c k hk with h|h
  ·exact hf k h
  ·right;have:=hc.size;omega
theorem MoTo.drew(h:MoTo W.drew own g x W'):MoTo W own g x W':=by
 obtain⟨b,d,a,c⟩:=h;exact⟨b,d,⟨a.os,a.tape,a.output,a.size,a.block⟩,c⟩
theorem MoAt.sys(h:MoAt W own g x av cv bA bC)(i:Nat)(hi:i<x.cls.length):Sys W (fun k=>own k=4+2*i) (fun k=>own k=1) (bC i) g x.cf av cv x.cls[i] x.net x.tr:=
 ⟨h.cls i hi,h.nt,fun k hk hk'=>by omega⟩
theorem MoAt.asys(h:MoAt W own g x av cv bA bC)(i:Nat)(hi:i<x.acs.length):ASys W (fun k=>own k=3+2*i) (fun k=>own k=1) (bA i) g av cv x.acs[i] x.net x.tr:=
 ⟨h.acc i hi,h.nt,fun k hk hk'=>by omega⟩
def jO(W:World)(own:Nat→Nat)(F G:Nat→Prop) [DecidablePred F] [DecidablePred G] (p:Nat):Nat→Nat:=fun k=>if k<W.heap.size then own k else if F k then p else if G k then 1 else 0
theorem vK{F G:Nat→Prop} [DecidablePred F] [DecidablePred G] {p k:Nat}(hk:k<W.heap.size):jO W own F G p k=own k:=by unfold jO;rw[if_pos hk]
theorem aGT{F G:Nat→Prop} [DecidablePred F] [DecidablePred G] {p k:Nat}(hk:W.heap.size≤k):jO W own F G p k=p∨jO W own F G p k=1∨jO W own F G p k=0:=by
 unfold jO;rw[if_neg (by omega)];split
 ·exact Or.inl rfl
 ·split
  ·exact Or.inr (Or.inl rfl)
  ·exact Or.inr (Or.inr rfl)
theorem aGG{F F0 G:Nat→Prop} [DecidablePred F] [DecidablePred G] {p k:Nat}(hF0:∀k,F0 k→own k=p)(hf:∀k,F k→F0 k∨W.heap.size≤k)(hk:F k):jO W own F G p k=p:=by
 unfold jO;split
 ·rcases hf k hk with h|h
  ·exact hF0 k h
  ·omega
 ·rfl
theorem aC4{F G G0:Nat→Prop} [DecidablePred F] [DecidablePred G] {p k:Nat}(hap:∀k,F k→¬G k)(hG0:∀k,G0 k→own k=1)(hg:∀k,G k→G0 k∨W.heap.size≤k)(hk:G k):jO W own F G p k=1:=by
 unfold jO;split
 ·rcases hg k hk with h|h
  ·exact hG0 k h
  ·omega
 ·rw[if_neg (fun h=>hap k h hk)]
theorem aAM{F G:Nat→Prop} [DecidablePred F] [DecidablePred G] {p:Nat}(hlt:∀k,own k≠0→k<W.heap.size)(hs:W.heap.size≤W'.heap.size)(hF:∀k,F k→k<W'.heap.size)(hG:∀k,G k→k<W'.heap.size):∀k,jO W own F G p k≠0→k<W'.heap.size:=fun k hk=>by
 unfold jO at hk;split at hk
 ·have:=hlt k hk;omega
 ·split at hk
  ·rename_i h;exact hF k h
  ·split at hk
   ·rename_i h;exact hG k h
   ·exact absurd rfl hk
theorem gG{F G:Nat→Prop} [DecidablePred F] [DecidablePred G] {p q:Nat}(hq0:q≠0)(hq1:q≠1)(hqp:q≠p)(hlt:∀k,own k≠0→k<W.heap.size)(k:Nat):jO W own F G p k=q↔own k=q:=by
 by_cases a:k<W.heap.size
 ·rw[vK a]
 ·constructor
  ·intro h;rcases aGT (own:=own) (F:=F) (G:=G) (p:=p) (Nat.le_of_not_lt a)with b|b|b<;>omega
  ·intro h;exact absurd (hlt k (by omega)) a
theorem MoAt.clientTo(h:MoAt W own g x av cv bA bC)(i:Nat)(hi:i<x.cls.length){c':Ct}{net':List Mg}{tr':List Ev}(ha:After W (fun k=>own k=4+2*i) (fun k=>own k=1) (bC i) g x.cf av cv c' net' tr' W'):
 MoTo W own g {x with cls:=x.cls.set i c',net:=net',tr:=tr'} W':=by
 classical
 obtain⟨F',G',hs,hw⟩:=ha;have hsz:=hw.chg.size;have hF:=hs.ltF;have hG:=hs.nt.lt;have hF':∀k,F' k→jO W own F' G' (4+2*i) k=4+2*i:=fun k hk=>aGG (F0:=fun k=>own k=4+2*i) (fun _ h=>h) hw.f hk;have hG':∀k,G' k→jO W own F' G' (4+2*i) k=1:=fun k hk=>aC4 (G0:=fun k=>own k=1) hs.apart (fun _ h=>h) hw.g hk;have hlt:=aAM (own:=own) (p:=4+2*i) h.lt hsz hF hG;have hblk:∀k,own k≠0→own k≠1→own k≠4+2*i→W'.heap[k]?=W.heap[k]?:=fun k h0 h1 h2=>hw.chg.block k (h.lt k h0) (fun hs=>by omega);refine⟨jO W own F' G' (4+2*i),⟨av,cv,bA,bC,?_⟩,hw.chg.mono (fun k _ hk=>by omega),fun k hk=>?_⟩
 ·refine⟨hs.nt.grow hG' (fun k hk=>hlt k (by omega)),dF h.rav (fun k hk=>hblk k (by rw[h.avb k hk];decide) (by rw[h.avb k hk];decide) (by rw[h.avb k hk];omega)),?_,?_,?_,?_,?_,hlt⟩
  ·have:=dF (w':=W') h.rcv (fun k hk=>hblk k (by rw[h.cvb k hk];decide) (by rw[h.cvb k hk];decide) (by rw[h.cvb k hk];omega));simpa using this
  ·exact fun k hk=>(gG (by decide) (by decide) (by omega) h.lt k).2 (h.avb k hk)
  ·exact fun k hk=>(gG (by decide) (by decide) (by omega) h.lt k).2 (h.cvb k hk)
  ·intro j hj;have e:(fun k=>jO W own F' G' (4+2*i) k=3+2*j)=(fun k=>own k=3+2*j):=funext fun k=>propext (gG (by omega) (by omega) (by omega) h.lt k);rw[e];exact(h.acc j hj).kept hw.chg (fun k hk hs=>by omega)
  ·intro j hj;have hj':j<x.cls.length:=by simpa using hj
   by_cases hji:j=i
   ·subst hji;obtain⟨ch,tk,hd,wt,dv,hc⟩:=hs.cl;refine⟨ch,tk,hd,wt,dv,?_⟩;simp only[bZ];exact hc.grow hF' (fun k hk=>hlt k (by omega))
   ·have e:(fun k=>jO W own F' G' (4+2*i) k=4+2*j)=(fun k=>own k=4+2*j):=funext fun k=>propext (gG (by omega) (by omega) (by omega) h.lt k);obtain⟨ch,tk,hd,wt,dv,hc⟩:=h.cls j hj';refine⟨ch,tk,hd,wt,dv,?_⟩;simp only[List.getElem_set_ne (Ne.symm hji)];rw[e];exact hc.kept hw.chg (fun k hk hs=>by omega)
 ·by_cases hk':k<W.heap.size
  ·rw[vK hk']at hk;exact Or.inl hk
  ·exact Or.inr (by omega)
theorem MoAt.acceptorTo(h:MoAt W own g x av cv bA bC)(i:Nat)(hi:i<x.acs.length){a':Ac}{net':List Mg}{tr':List Ev}(ha:AfterA W (fun k=>own k=3+2*i) (fun k=>own k=1) (bA i) g av cv a' net' tr' W'):
 MoTo W own g {x with acs:=x.acs.set i a',net:=net',tr:=tr'} W':=by
 classical
 obtain⟨F',G',hs,hw⟩:=ha;have hsz:=hw.chg.size;have hF:=hs.acc.lt;have hG:=hs.nt.lt;have hF':∀k,F' k→jO W own F' G' (3+2*i) k=3+2*i:=fun k hk=>aGG (F0:=fun k=>own k=3+2*i) (fun _ h=>h) hw.f hk;have hG':∀k,G' k→jO W own F' G' (3+2*i) k=1:=fun k hk=>aC4 (G0:=fun k=>own k=1) hs.apart (fun _ h=>h) hw.g hk;have hlt:=aAM (own:=own) (p:=3+2*i) h.lt hsz hF hG;have hblk:∀k,own k≠0→own k≠1→own k≠3+2*i→W'.heap[k]?=W.heap[k]?:=fun k h0 h1 h2=>hw.chg.block k (h.lt k h0) (fun hs=>by omega);refine⟨jO W own F' G' (3+2*i),⟨av,cv,bA,bC,?_⟩,hw.chg.mono (fun k _ hk=>by omega),fun k hk=>?_⟩
 ·refine⟨hs.nt.grow hG' (fun k hk=>hlt k (by omega)),?_,dF h.rcv (fun k hk=>hblk k (by rw[h.cvb k hk];decide) (by rw[h.cvb k hk];decide) (by rw[h.cvb k hk];omega)),?_,?_,?_,?_,hlt⟩
  ·have:=dF (w':=W') h.rav (fun k hk=>hblk k (by rw[h.avb k hk];decide) (by rw[h.avb k hk];decide) (by rw[h.avb k hk];omega));simpa using this
  ·exact fun k hk=>(gG (by decide) (by decide) (by omega) h.lt k).2 (h.avb k hk)
  ·exact fun k hk=>(gG (by decide) (by decide) (by omega) h.lt k).2 (h.cvb k hk)
  ·intro j hj;have hj':j<x.acs.length:=by simpa using hj
   by_cases hji:j=i
   ·subst hji;simp only[bZ];exact hs.acc.grow hF' (fun k hk=>hlt k (by omega))
   ·have e:(fun k=>jO W own F' G' (3+2*i) k=3+2*j)=(fun k=>own k=3+2*j):=funext fun k=>propext (gG (by omega) (by omega) (by omega) h.lt k);simp only[List.getElem_set_ne (Ne.symm hji)];rw[e];exact(h.acc j hj').kept hw.chg (fun k hk hs=>by omega)
  ·intro j hj;have e:(fun k=>jO W own F' G' (3+2*i) k=4+2*j)=(fun k=>own k=4+2*j):=funext fun k=>propext (gG (by omega) (by omega) (by omega) h.lt k);obtain⟨ch,tk,hd,wt,dv,hc⟩:=h.cls j hj;refine⟨ch,tk,hd,wt,dv,?_⟩;rw[e];exact hc.kept hw.chg (fun k hk hs=>by omega)
 ·by_cases hk':k<W.heap.size
  ·rw[vK hk']at hk;exact Or.inl hk
  ·exact Or.inr (by omega)
theorem MoAt.netTo(h:MoAt W own g x av cv bA bC){G':Nat→Prop}{net':List Mg}{tr':List Ev}(hn:NtAt W' G' g av cv net' tr')(hc:Chg (fun k=>own k=1) W W')(hg:∀k,G' k→own k=1∨W.heap.size≤k):
 MoTo W own g {x with net:=net',tr:=tr'} W':=by
 classical
 have hsz:=hc.size;have hG':∀k,G' k→jO W own (fun _=>False) G' 1 k=1:=fun k hk=>aC4 (G0:=fun k=>own k=1) (fun _ h=>h.elim) (fun _ h=>h) hg hk;have hlt:=aAM (own:=own) (F:=fun _=>False) (p:=1) h.lt hsz (fun _ h=>h.elim) hn.lt;have hblk:∀k,own k≠0→own k≠1→W'.heap[k]?=W.heap[k]?:=fun k h0 h1=>hc.block k (h.lt k h0) (fun hs=>by omega);refine⟨jO W own (fun _=>False) G' 1,⟨av,cv,bA,bC,?_⟩,hc.mono (fun k _ hk=>by omega),fun k hk=>?_⟩
 ·refine⟨hn.grow hG' (fun k hk=>hlt k (by omega)),dF h.rav (fun k hk=>hblk k (by rw[h.avb k hk];decide) (by rw[h.avb k hk];decide)),dF h.rcv (fun k hk=>hblk k (by rw[h.cvb k hk];decide) (by rw[h.cvb k hk];decide)),?_,?_,?_,?_,hlt⟩
  ·exact fun k hk=>(gG (by decide) (by decide) (by decide) h.lt k).2 (h.avb k hk)
  ·exact fun k hk=>(gG (by decide) (by decide) (by decide) h.lt k).2 (h.cvb k hk)
  ·intro j hj;have e:(fun k=>jO W own (fun _=>False) G' 1 k=3+2*j)=(fun k=>own k=3+2*j):=funext fun k=>propext (gG (by omega) (by omega) (by omega) h.lt k);rw[e];exact(h.acc j hj).kept hc (fun k hk hs=>by omega)
  ·intro j hj;have e:(fun k=>jO W own (fun _=>False) G' 1 k=4+2*j)=(fun k=>own k=4+2*j):=funext fun k=>propext (gG (by omega) (by omega) (by omega) h.lt k);obtain⟨ch,tk,hd,wt,dv,hcl⟩:=h.cls j hj;refine⟨ch,tk,hd,wt,dv,?_⟩;rw[e];exact hcl.kept hc (fun k hk hs=>by omega)
 ·by_cases hk':k<W.heap.size
  ·rw[vK hk']at hk;exact Or.inl hk
  ·exact Or.inr (by omega)
end
theorem fK{W:World}{t:TypeId}{v:Value}{f:Nat→Nat}{n:Nat}(h:W.ownsRow 0 t 1 v n (qA f n)):∃(p:Option Addr) (cap:Nat),v= .slice p n cap∧∀i,i<n→∃k,p=some ⟨k,0,none⟩∧W.cell? ⟨k,i,none⟩=some (fG (f i)):=by
 rcases h.2 with⟨rfl,rfl⟩|⟨k,cap,a,rfl,b⟩
 ·exact⟨none,0,rfl,fun i hi=>by omega⟩
 ·refine⟨some ⟨k,0,none⟩,cap,rfl,fun i hi=>⟨k,rfl,?_⟩⟩;rw[h.cellAt i (by omega)];simp[hi]
theorem vD{W:World}{t:TypeId}{sz:Nat}{v:Value}{n:Nat}{xs:List Value}(h:W.ownsRow 0 t sz v n xs):∃(p:Option Addr) (cap:Nat),v= .slice p n cap:=by
 rcases h.2 with⟨rfl,rfl⟩|⟨k,cap,a,rfl,b⟩
 ·exact⟨none,0,rfl⟩
 ·exact⟨_,cap,rfl⟩
theorem aC8(i:Int)(n:Nat):wiB i 0 ((n:Int)-1)=dT i n:=by
 unfold wiB dT
 congr 1
 apply decide_eq_decide.2;omega
theorem aF3(c:Ct):dJ (uX c)=[]:=by
 unfold uX;split
 ·rfl
 ·exact fE _ (show(4:Int)≠1 by decide)
theorem aDb(c:Ct):dJ (nF c)=[]:=by
 unfold nF;split
 ·rfl
 ·exact fE _ (show(5:Int)≠1 by decide)
theorem MoAt.cells{W:World}{own:Nat→Nat}{g:Nat}{x:Mo}{av cv:Value}{bA bC:Nat→Nat}(h:MoAt W own g x av cv bA bC):∃nv tv,W.heap[g]?=some (.cells #[av,cv,nv,tv] 100 (0,0))∧W.ownsRow 0 66 10 nv x.net.length (cZ mgL x.net)∧W.ownsRow 0 70 19 tv x.tr.length (cZ evL x.tr)∧(∀k,nv.ownBlock=some k→own k=1)∧(∀k,tv.ownBlock=some k→own k=1)∧own g=1:=by
 obtain⟨nv,tv,f,a,e,d,b,c,i⟩:=h.nt;exact⟨nv,tv,f,e,d,b,c,a⟩
section
variable (W:World) (g:Nat) (i:Int) (p:Option Addr) (n cap:Nat)
theorem nC(hn:n≤1000000000000)(hc:W.cell? ⟨g,0,none⟩=some (.slice p n cap)):
 Calls prog 58 #[.pointer (some ⟨g,0,none⟩),.int .i64 i] W fun r W'=>r= .returned (.bool (dT i n))∧W'=W:=by
 have b:IntKind.i64.wrap ((n:Int)-1)=(n:Int)-1:=fX (by omega) (by omega);rw[←aC8];go_enter func58,ntmps58;go_wp2_with (go_at_call 80;refine(iI _ _ _ _).mono ?_;rintro e a ⟨rfl,rfl⟩);go_ret;exact⟨rfl,rfl⟩
theorem lF(hn:n≤1000000000000)(hc:W.cell? ⟨g,1,none⟩=some (.slice p n cap)):
 Calls prog 47 #[.pointer (some ⟨g,0,none⟩),.int .i64 i] W fun r W'=>r= .returned (.bool (dT i n))∧W'=W:=by
 have b:IntKind.i64.wrap ((n:Int)-1)=(n:Int)-1:=fX (by omega) (by omega);rw[←aC8];go_enter func47,ntmps47;go_wp2_with (go_at_call 80;refine(iI _ _ _ _).mono ?_;rintro e a ⟨rfl,rfl⟩);go_ret;exact⟨rfl,rfl⟩
theorem qB(hn:n≤1000000000000)(hc:W.cell? ⟨g,2,none⟩=some (.slice p n cap)):
 Calls prog 83 #[.pointer (some ⟨g,0,none⟩),.int .i64 i] W fun r W'=>r= .returned (.bool (dT i n))∧W'=W:=by
 have b:IntKind.i64.wrap ((n:Int)-1)=(n:Int)-1:=fX (by omega) (by omega);rw[←aC8];go_enter func83,ntmps83;go_wp2_with (go_at_call 80;refine(iI _ _ _ _).mono ?_;rintro e a ⟨rfl,rfl⟩);go_ret;exact⟨rfl,rfl⟩
end
section
variable (W:World) (own:Nat→Nat) (g:Nat) (x:Mo) (N i:Int)
theorem aG6(h:Moor W own g x)(hok:MoOk N x)(hN:N≤90000000000):
 Calls prog 82 #[.pointer (some ⟨g,0,none⟩),.int .i64 i] W fun r W'=>r= .returned (.int .i64 (aAN x i))∧MoTo W own g (sZ x i) W':=by
 obtain⟨I,L,C,A,h⟩:=h;have F:=hok.nc;have m:=fJ hok.conf;obtain⟨K,P,v,_⟩:=h.cells;obtain⟨p,n,rfl,f⟩:=fK h.rcv;have z:W.cell? ⟨g,1,none⟩=some (.slice p x.cls.length n):=cO v 1 _ rfl;have s:=cN (lF W g i p x.cls.length n (by omega) z);have H:=cN h;have B:=cN f;clear v f;unfold aAN sZ;by_cases c:dT i x.cls.length=true
 ·rw[if_pos c,if_pos c];rw[c]at s;obtain⟨J,O⟩:=(dY _ _).1 c;obtain⟨a,u⟩:=hok.cl c;obtain⟨d,l⟩:=mL c;obtain⟨j,rfl⟩:∃j:Nat,i=j:=⟨i.toNat,by omega⟩;have t:j<x.cls.length:=by omega
  obtain⟨k,rfl,M⟩:=B.out j t;have b:=h.sys j t;have w:((j:Int).toNat)=j:=by omega
  simp only[w]at l a;rw[←l]at b;have E:=cN (aIm W _ _ _ g x.cf _ _ (clM x j) x.net x.tr b m.1.1 m.1.2 ⟨by rw[a.core.num];omega,by rw[a.core.num];omega,a.core.i1,a.core.i2,a.core.c1,by have:=a.core.c2;omega,a.core.r1,a.core.r2⟩ (by have:=a.core.c2;omega) (fun o ho=>have q:=a.on o ho;⟨q.g1,by have:=q.g2;omega,q.t1,q.t2,q.r1,by have:=q.r2;omega,q.a1,by have:=q.a2;omega⟩) (by have:=hok.nl;omega) (by have:=hok.tl;omega));clear a u l b d h hok;go_enter func82,ntmps82;go_wp2_with (first|(go_at_call 47;refine s.out.mono ?_;rintro e y ⟨rfl,rfl⟩)|(go_at_call 125;refine E.out.mono ?_;rintro r G ⟨rfl,D⟩));go_ret;refine⟨rfl,?_⟩;have:=H.out.clientTo j t D;unfold gC;simp only[w];exact this
 ·rw[if_neg c,if_neg c];have d:dT i x.cls.length=false:=by simpa using c
  rw[d]at s;clear h hok c d;go_enter func82,ntmps82;go_wp2_with (go_at_call 47;refine s.out.mono ?_;rintro e y ⟨rfl,rfl⟩);go_ret;exact⟨rfl,MoTo.of ⟨_,_,C,A,H.out⟩⟩
theorem aHu(h:Moor W own g x)(hok:MoOk N x)(hN:N≤90000000000):
 Calls prog 44 #[.pointer (some ⟨g,0,none⟩),.int .i64 i] W fun r W'=>r= .returned (.int .i64 (aAS x i))∧MoTo W own g (sX x i) W':=by
 obtain⟨G,K,A,y,h⟩:=h;have D:=hok.nc;have E:=fJ hok.conf;obtain⟨J,O,s,_⟩:=h.cells;obtain⟨p,m,rfl,f⟩:=fK h.rcv;have v:W.cell? ⟨g,1,none⟩=some (.slice p x.cls.length m):=cO s 1 _ rfl;have n:=cN (lF W g i p x.cls.length m (by omega) v);have H:=cN h;have z:=cN f;clear s f;unfold aAS sX;by_cases b:dT i x.cls.length=true
 ·rw[if_pos b,if_pos b];rw[b]at n;obtain⟨I,M⟩:=(dY _ _).1 b;obtain⟨c,q⟩:=hok.cl b;obtain⟨d,l⟩:=mL b;obtain⟨j,rfl⟩:∃j:Nat,i=j:=⟨i.toNat,by omega⟩;have o:j<x.cls.length:=by omega
  obtain⟨k,rfl,L⟩:=z.out j o;have a:=h.sys j o;have t:((j:Int).toNat)=j:=by omega
  simp only[t]at l c;rw[←l]at a;have C:=cN (aIq W _ _ _ g x.cf _ _ (clM x j) x.net x.tr a (by rw[c.core.num];omega) (by rw[c.core.num];omega) (by have:=hok.nl;omega) (by have:=hok.tl;omega));clear c q l a d h hok;go_enter func44,ntmps44;go_wp2_with (first|(go_at_call 47;refine n.out.mono ?_;rintro e u ⟨rfl,rfl⟩)|(go_at_call 89;refine C.out.mono ?_;rintro r F ⟨rfl,B⟩));go_ret;refine⟨rfl,?_⟩;have:=H.out.clientTo j o B;unfold gC;simp only[t];have w:=aF3 (clM x j);rw[w,aC];exact this
 ·rw[if_neg b,if_neg b];have d:dT i x.cls.length=false:=by simpa using b
  rw[d]at n;clear h hok b d;go_enter func44,ntmps44;go_wp2_with (go_at_call 47;refine n.out.mono ?_;rintro e u ⟨rfl,rfl⟩);go_ret;exact⟨rfl,MoTo.of ⟨_,_,A,y,H.out⟩⟩
theorem aEr(h:Moor W own g x)(hok:MoOk N x)(hN:N≤90000000000):
 Calls prog 26 #[.pointer (some ⟨g,0,none⟩),.int .i64 i] W fun r W'=>r= .returned (.int .i64 (tY x i))∧MoTo W own g (mP x i) W':=by
 obtain⟨G,K,A,y,h⟩:=h;have D:=hok.nc;have E:=fJ hok.conf;obtain⟨J,O,s,_⟩:=h.cells;obtain⟨p,m,rfl,f⟩:=fK h.rcv;have v:W.cell? ⟨g,1,none⟩=some (.slice p x.cls.length m):=cO s 1 _ rfl;have n:=cN (lF W g i p x.cls.length m (by omega) v);have H:=cN h;have z:=cN f;clear s f;unfold tY mP;by_cases c:dT i x.cls.length=true
 ·rw[if_pos c,if_pos c];rw[c]at n;obtain⟨I,M⟩:=(dY _ _).1 c;obtain⟨a,q⟩:=hok.cl c;obtain⟨d,l⟩:=mL c;obtain⟨j,rfl⟩:∃j:Nat,i=j:=⟨i.toNat,by omega⟩;have o:j<x.cls.length:=by omega
  obtain⟨k,rfl,L⟩:=z.out j o;have b:=h.sys j o;have t:((j:Int).toNat)=j:=by omega
  simp only[t]at l a;rw[←l]at b;have C:=cN (aFj W _ _ _ g x.cf _ _ (clM x j) x.net x.tr b a.dn ⟨by rw[a.core.num];omega,by rw[a.core.num];omega,a.core.i1,a.core.i2,a.core.c1,by have:=a.core.c2;omega,a.core.r1,a.core.r2⟩ (by have:=hok.nl;omega) (by have:=hok.tl;omega));clear a q l b d h hok;go_enter func26,ntmps26;go_wp2_with (first|(go_at_call 47;refine n.out.mono ?_;rintro e u ⟨rfl,rfl⟩)|(go_at_call 63;refine C.out.mono ?_;rintro r F ⟨rfl,B⟩));go_ret;refine⟨rfl,?_⟩;have:=H.out.clientTo j o B;unfold gC;simp only[t];have w:=aDb (clM x j);rw[w,aC];exact this
 ·rw[if_neg c,if_neg c];have d:dT i x.cls.length=false:=by simpa using c
  rw[d]at n;clear h hok c d;go_enter func26,ntmps26;go_wp2_with (go_at_call 47;refine n.out.mono ?_;rintro e u ⟨rfl,rfl⟩);go_ret;exact⟨rfl,MoTo.of ⟨_,_,A,y,H.out⟩⟩
end
def zB(fl:Option (Int×Int))(left keep:Int):Prop:=(fl=none∧left= -1)∨(∃n q,fl=some (n,q)∧left=n∧keep=q∧0≤n)
structure aBd(a:Ac)(r:Ra):Prop where
 log:r.log=a.dk.log
 up:r.up=decide (a.st≠2)
 silent:r.silent=decide (a.st=1)
 fl:zB a.dk.fail r.left r.keep
section
variable {g:Cf}{k:Dk}{r:Ra}{a:Ac}{i:Nat}
theorem pR(h:zB k.fail r.left r.keep):(fQ k=none∧r.left=0∧iP k=r.keep)∨(∃fl,fQ k=some {k with fail:=fl}∧r.left≠0∧zB fl (stepR r).left (stepR r).keep):=by
 rcases h with⟨h1,h2⟩|⟨n,q,h1,h2,h3,h4⟩
 ·right;refine⟨k.fail,(by unfold fQ;split<;>first|rfl|(rename_i e;rw[h1]at e;cases e)),by omega,?_⟩;unfold stepR;rw[if_neg (by omega)];exact Or.inl ⟨h1,h2⟩
 ·by_cases h0:n=0
  ·left;refine⟨by unfold fQ;rw[h1];simp[h0],by omega,by unfold iP;rw[h1];exact h3.symm⟩
  ·right;refine⟨some (n-1,q),by unfold fQ;rw[h1];simp[h0],by omega,?_⟩;unfold stepR;rw[if_pos (by omega)];exact Or.inr ⟨n-1,q,rfl,by show r.left-1=n-1;omega,h3,by omega⟩
theorem kP(r:Ra):(stepR r).log=r.log∧(stepR r).up=r.up∧(stepR r).silent=r.silent∧(stepR r).keep=r.keep:=by
 unfold stepR;split<;>exact⟨rfl,rfl,rfl,rfl⟩
def aK2(p:Dk×How)(r:Ra):Prop:=match p.2 with
 |.none=>r.log=p.1.log∧r.up=true∧r.silent=false∧zB p.1.fail r.left r.keep
 |(.some .none)=>r.log=p.1.log∧r.up=true∧r.silent=true∧zB p.1.fail r.left r.keep
 |(.some (.some q))=>r.log=(fM p.1 q).log∧r.up=false∧r.silent=false∧r.left= -1
theorem aH7(h:DOk g k)(hnew:k.new=none)(hl:r.log=k.log)(hu:r.up=true)(hs:r.silent=false)(hf:zB k.fail r.left r.keep)(w:Rw)(hw:okB w=true):
 aK2 (lZ k (dW w)) (dR g.room r w).1∧((dR g.room r w).2=true↔(lZ k (dW w)).2= .none):=by
 have s:=pI hw;have u:∀(b:Option (Int×Int)) q,0≤q→(fM {k with fail:=b} q).log=k.log:=fun b q c=>by
  rw[pO (t:=k.log) (by unfold fC;dsimp only;rw[h.old,h.syn]) c]
 rw[←h.room];unfold lZ eP dZ dR;rcases pR hf with⟨d,o,n⟩|⟨b,d,o,n⟩
 ·rw[d,if_pos o];have c:0≤iP k:=by
   obtain⟨q,c,j⟩:=jB d;rw[j];exact(h.fail _ c).2.2
  refine⟨⟨?_,rfl,rfl,rfl⟩,by simp[iG]⟩;show r.log=(fM k (iP k)).log;rw[hl];exact(u k.fail _ c).symm
 ·rw[d,if_neg o];dsimp only;have v:jQ {k with fail:=b}=k.log.length:=by unfold jQ iD;dsimp only;rw[hnew];simp
  rw[v,hl];obtain⟨B,z,E,K⟩:=kP r;by_cases a:k.room<(k.log.length:Int)+(dW w).length
  ·rw[if_pos a,if_pos a];refine⟨⟨by show(stepR r).log=_;rw[B];exact hl,by show(stepR r).up=true;rw[z];exact hu,rfl,n⟩,by simp[iG]⟩
  ·rw[if_neg a,if_neg a];dsimp only[iG,lL];have y:∀p,b=some p→0≤p.1∧p.1≤9223372036854775807∧0≤p.2:=by
    obtain⟨⟨G,e⟩,C⟩:=kA d h.fail;exact C
   rcases pR (k:={k with fail:=b,log:=k.log++dW w}) (r:=stepR r) n with⟨f,m,i⟩|⟨H,f,m,i⟩
   ·rw[f,if_pos m];have c:0≤iP {k with fail:=b,log:=k.log++dW w}:=by
     obtain⟨q,c,j⟩:=jB f;rw[j];exact(y _ c).2.2
    have F:0≤(stepR r).keep:=by rw[←i];exact c
    refine⟨⟨?_,rfl,rfl,rfl⟩,by simp⟩;show k.log++(dW w).take (min (stepR r).keep ((dW w).length:Int)).toNat=(fM {k with fail:=b,log:=k.log++dW w} _).log;rw[i];have x:fC ({k with fail:=b,log:=k.log++dW w}:Dk)=(k.log++dW w,k.lsyn):=by unfold fC;dsimp only;rw[h.old]
    unfold fM;rw[x];dsimp only;unfold wI;rw[h.syn,aD,s,show((k.log.length:Int)+min (stepR r).keep (((k.log.length+25:Nat):Int)-(k.log.length:Int))).toNat=k.log.length+(min (stepR r).keep ((25:Nat):Int)).toNat by omega,List.take_append,aY (l:=k.log) (by omega)];simp
   ·rw[f,if_neg m];obtain⟨I,A,D,J⟩:=kP (stepR r);refine⟨⟨rfl,by show(stepR (stepR r)).up=true;rw[A,z];exact hu,by show(stepR (stepR r)).silent=false;rw[D,E];exact hs,i⟩,by simp⟩
theorem aAm(h:DOk g k)(hnew:k.new=none)(hl:r.log=k.log)(hu:r.up=true)(hs:r.silent=false)(hf:zB k.fail r.left r.keep)(s:List Int):
 aK2 (fU k s) (kG g.room s 5 r):=by
 have U:=h.old;have b:∀(fl:Option (Int×Int)) (nw:Option (List Int×Int)) q,0≤q→(fM {k with fail:=fl,new:=nw} q).log=k.log:=fun fl nw q A=>by
  rw[pO (t:=k.log) (by unfold fC;dsimp only;rw[h.old,h.syn]) A]
 have v:∀{k1 k2:Dk},fQ k1=some k2→(∀p,k1.fail=some p→0≤p.1∧p.1≤9223372036854775807∧0≤p.2)→(∀p,k2.fail=some p→0≤p.1∧p.1≤9223372036854775807∧0≤p.2):=fun hh hf=>(kA hh hf).2;have f:∀{k1:Dk},fQ k1=none→(∀p,k1.fail=some p→0≤p.1∧p.1≤9223372036854775807∧0≤p.2)→0≤iP k1:=fun hh hf=>by
  obtain⟨q,A,hk⟩:=jB hh;rw[hk];exact(hf _ A).2.2
 unfold fU eP dZ;rw[←h.room];have c5:kG k.room s 5 r=if r.left=0 then fV r r.log else kG k.room s 4 (stepR r):=rfl
 rw[c5];obtain⟨B,L,r3,r4⟩:=kP r;rcases pR hf with⟨i,F,T⟩|⟨H,i,F,T⟩
 ·rw[i,if_pos F];refine⟨?_,rfl,rfl,rfl⟩;show r.log=(fM k (iP k)).log;rw[hl];exact(b k.fail k.new _ (f i h.fail)).symm
 ·rw[i,if_neg F];dsimp only[iG,lJ];have n:=v i h.fail;have c4:kG k.room s 4 (stepR r)=if(stepR r).left=0 then fV (stepR r) (stepR r).log else(if(3=3∧k.room<((stepR (stepR r)).log.length:Int)+s.length)then{stepR (stepR r)with silent:=true}else kG k.room s 3 (stepR (stepR r))):=rfl
  rw[c4];obtain⟨M,K,q3,q4⟩:=kP (stepR r);rcases pR (k:={k with fail:=H,new:=some ([],0)}) (r:=stepR r) T with⟨c,E,o⟩|⟨w,c,E,o⟩
  ·rw[c,if_pos E];refine⟨?_,rfl,rfl,rfl⟩;show(stepR r).log=(fM {k with fail:=H,new:=some ([],0)} _).log;rw[B,hl];exact(b H _ _ (f c n)).symm
  ·rw[c,if_neg E];dsimp only;have m:=v c n;have J:jQ {k with fail:=w,new:=some ([],0)}=k.log.length:=by unfold jQ iD;dsimp only;simp
   rw[J,M,B,hl];by_cases a:k.room<(k.log.length:Int)+s.length
   ·rw[if_pos a,if_pos ⟨rfl,a⟩];refine⟨rfl,by show(stepR (stepR r)).up=true;rw[K,L,hu],rfl,o⟩
   ·rw[if_neg a,if_neg (fun e=>a e.2)];dsimp only[iQ];rw[List.nil_append];have V:∀x,kG k.room s 3 x=if x.left=0 then fV x x.log else kG k.room s 2 (stepR x):=fun x=>rfl
    have c2:∀x,kG k.room s 2 x=if x.left=0 then fV x x.log else kG k.room s 1 (stepR x):=fun x=>rfl
    have c1:∀x,kG k.room s 1 x=if x.left=0 then fV x x.log else{stepR x with log:=s}:=fun x=>rfl
    have N:(stepR (stepR r)).log=k.log∧(stepR (stepR r)).up=true∧(stepR (stepR r)).silent=false:=⟨by rw[M,B,hl],by rw[K,L,hu],by rw[q3,r3,hs]⟩;rw[V];generalize stepR (stepR r)=x at o N;obtain⟨y,x2,W⟩:=N;obtain⟨S,y2,y3,y4⟩:=kP x;rcases pR (k:={k with fail:=w,new:=some (s,0)}) (r:=x) o with⟨d,D,O⟩|⟨G,d,D,O⟩
    ·rw[d,if_pos D];refine⟨?_,rfl,rfl,rfl⟩;show x.log=(fM {k with fail:=w,new:=some (s,0)} _).log;rw[y];exact(b w _ _ (f d m)).symm
    ·rw[d,if_neg D];dsimp only[iC];have l:=v d m;rw[c2];obtain⟨Y,X,z3,z4⟩:=kP (stepR x);rcases pR (k:={k with fail:=G,new:=some (s,(s.length:Int))}) (r:=stepR x) O with⟨j,z,Q⟩|⟨R,j,z,Q⟩
     ·rw[j,if_pos z];refine⟨?_,rfl,rfl,rfl⟩;show(stepR x).log=(fM {k with fail:=G,new:=some (s,(s.length:Int))} _).log;rw[S,y];exact(b G _ _ (f j l)).symm
     ·rw[j,if_neg z];dsimp only[gI];have I:=v j l;rw[c1];obtain⟨w1,w2,Z,w4⟩:=kP (stepR (stepR x));rcases pR (k:={k with fail:=R,log:=s,lsyn:=s.length,new:=none,old:=some (k.log,k.lsyn)}) (r:=stepR (stepR x)) Q with⟨u,C,P⟩|⟨f5,u,C,P⟩
      ·rw[u,if_pos C];refine⟨?_,rfl,rfl,rfl⟩;show(stepR (stepR x)).log=(fM {k with fail:=R,log:=s,lsyn:=s.length,new:=none,old:=some (k.log,k.lsyn)} _).log;rw[pO (t:=k.log) (by unfold fC;dsimp only;rw[h.syn]) (f u I),Y,S,y]
      ·rw[u,if_neg C];dsimp only[oJ];refine⟨rfl,by show(stepR (stepR (stepR x))).up=true;rw[w2,X,y2,x2],by show(stepR (stepR (stepR x))).silent=false;rw[Z,z3,y3,W],P⟩
theorem aGd{us bs:List Rw}(h:∀k:Nat,dX us k=dX bs k):eZ us=eZ bs:=by unfold eZ;rw[aBK h 4]
theorem aJ1(h:AOk g i a)(hs:aBd a r)(hst:a.st≠2)(lock:Int)(h0:0≤lock):uT r lock=qE a lock:=by
 unfold uT qE;rw[hs.log,←h.tab hst];cases hl:dX a.rows lock.toNat with
 |none=>rfl
 |some w=>
  have:=(pY hl).2;obtain⟨l,p,q,b,c,d,e⟩:=w;show(⟨l,p,q,b,c,d,e⟩:Rw)=⟨lock,p,q,b,c,d,e⟩;have:l=lock:=by dsimp only at this;omega
  rw[this]
theorem xV{r:Ra}(h:r.up=true)(i:Int):jS r i=[]∧pM r=0:=by unfold jS pM;rw[if_pos h,if_pos h];exact⟨rfl,rfl⟩
theorem aCf{r:Ra}(h:r.up=false)(i:Int):jS r i=[eO i]∧pM r=6:=by unfold jS pM;rw[if_neg (by simp[h]),if_neg (by simp[h])];exact⟨rfl,rfl⟩
theorem aIh(h:AOk g i a)(hs:aBd a r){m:Mg}(hm:MOk g m)(hA:m.kind=1∨m.kind=3)(hdst:m.dst=a.num):
 mS g r m=wA a m∧aBd (sD a m) (gO g r m)∧nD g r m=mV a m:=by
 unfold mS nD wA sD mV;by_cases n:a.st≠0
 ·have x:r.up=false∨r.silent=true:=by
   have:=h.st;rw[hs.up,hs.silent];rcases(show a.st=2∨a.st=1 by omega)with e|e<;>simp[e]
  have e:gO g r m=r:=by unfold gO;rw[if_pos x]
  rw[if_pos n,if_pos n,if_pos n,if_pos x,if_pos x,e];exact⟨rfl,hs,rfl⟩
 ·have b:a.st=0:=by omega
  have z:r.up=true:=by rw[hs.up,b];rfl
  have B:r.silent=false:=by rw[hs.silent,b];rfl
  have x:¬(r.up=false∨r.silent=true):=by rw[z,B];simp
  rw[if_neg n,if_neg n,if_neg n,if_neg x,if_neg x];have C:=aJ1 h hs (by omega) m.lock hm.l1;obtain⟨F,Q⟩:=aGv h m.lock hm.l1 hm.l2;have D:(kF r m)=(if mN m (qE a m.lock)=true then some (iT m (qE a m.lock))else none,mJ a (jX m (qE a m.lock)) m):=by
   unfold kF aI1 mJ;dsimp only;rw[C,hdst]
  have P:gO g r m=match (kF r m).1 with
   |none=>r
   |some w=>if(dR g.room r w).2=false then(dR g.room r w).1 else if aAV g.compact (dR g.room r w).1=true then gX g.room (dR g.room r w).1 else(dR g.room r w).1:=by
   unfold gO;rw[if_neg x]
   rfl
  rw[P,D];unfold jD;dsimp only;by_cases f:mN m (qE a m.lock)=true
  ·rw[if_pos f,if_pos f];dsimp only;have L:=(aCs hm F).1;generalize iT m (qE a m.lock)=w at L;obtain⟨H,I⟩:=aH7 h.dk (h.new (by omega)) hs.log z B hs.fl w L.ok;have p:=aCi h b L;unfold gN at p⊢;unfold HowOk at p;cases hk:lZ a.dk (dW w)with
   |mk k1 hw1=>
    rw[hk]at H I p;cases hw1 using nB with
    |fine=>
     dsimp only at p⊢;have E:=I.2 rfl;obtain⟨J,K,N,O⟩:(dR g.room r w).1.log=k1.log∧(dR g.room r w).1.up=true∧(dR g.room r w).1.silent=false∧zB k1.fail (dR g.room r w).1.left (dR g.room r w).1.keep:=H;rw[E];simp only[Bool.true_eq_false,if_false];have A:aAV g.compact (dR g.room r w).1=mD {a with dk:=k1,rows:=a.rows++[w]}:=by
      unfold aAV mD;rw[J,show({a with dk:=k1,rows:=a.rows++[w]}:Ac).compact=g.compact from h.comp]
     rw[A];by_cases c:mD {a with dk:=k1,rows:=a.rows++[w]}=true
     ·rw[if_pos c,if_pos c];have s:=p;have G:eZ (dO (dR g.room r w).1.log)=eZ (a.rows++[w]):=by
       rw[J];exact aGd (fun k=>(s.tab (by show a.st≠2;omega) k).symm)
      have o:=aAm s.dk (s.new (by show a.st≠1;omega)) J K N O (eZ (a.rows++[w]));have M:gX g.room (dR g.room r w).1=kG g.room (eZ (a.rows++[w])) 5 (dR g.room r w).1:=by unfold gX;rw[G]
      rw[M];unfold eK;dsimp only;generalize kG g.room (eZ (a.rows++[w])) 5 (dR g.room r w).1=rr at o;cases hck:fU k1 (eZ (a.rows++[w]))with
      |mk k2 hw2=>
       rw[hck]at o;cases hw2 using nB with
       |fine=>
        obtain⟨v,d,u,t⟩:rr.log=k2.log∧rr.up=true∧rr.silent=false∧zB k2.fail rr.left rr.keep:=o;obtain⟨j,l⟩:=xV d m.dst;rw[j,l];exact⟨rfl,⟨v,by rw[d];show true=decide (a.st≠2);simp[b],by rw[u];show false=decide (a.st=1);simp[b],t⟩,rfl⟩
       |full=>
        obtain⟨v,d,u,t⟩:rr.log=k2.log∧rr.up=true∧rr.silent=true∧zB k2.fail rr.left rr.keep:=o;obtain⟨j,l⟩:=xV d m.dst;rw[j,l];exact⟨rfl,⟨v,d,u,t⟩,rfl⟩
       |dies q=>
        obtain⟨v,d,u,t⟩:rr.log=(fM k2 q).log∧rr.up=false∧rr.silent=false∧rr.left= -1:=o;obtain⟨j,l⟩:=aCf d m.dst;rw[j,l,hdst];exact⟨rfl,⟨v,d,u,Or.inl ⟨rfl,t⟩⟩,rfl⟩
     ·rw[if_neg c,if_neg c];obtain⟨j,l⟩:=xV K m.dst;rw[j,l];exact⟨rfl,⟨J,by rw[K];show true=decide (a.st≠2);simp[b],by rw[N];show false=decide (a.st=1);simp[b],O⟩,rfl⟩
    |full=>
     have y:(dR g.room r w).2=false:=by
      cases hb:(dR g.room r w).2 with
      |false=>rfl
      |true=>have:=I.1 hb;cases this
     obtain⟨v,d,u,t⟩:(dR g.room r w).1.log=k1.log∧(dR g.room r w).1.up=true∧(dR g.room r w).1.silent=true∧zB k1.fail (dR g.room r w).1.left (dR g.room r w).1.keep:=H;rw[y];simp only[if_true];obtain⟨j,l⟩:=xV d m.dst;rw[j,l];exact⟨rfl,⟨v,d,u,t⟩,rfl⟩
    |dies q=>
     have y:(dR g.room r w).2=false:=by
      cases hb:(dR g.room r w).2 with
      |false=>rfl
      |true=>have:=I.1 hb;cases this
     obtain⟨v,d,u,t⟩:(dR g.room r w).1.log=(fM k1 q).log∧(dR g.room r w).1.up=false∧(dR g.room r w).1.silent=false∧(dR g.room r w).1.left= -1:=H;rw[y];simp only[if_true];obtain⟨j,l⟩:=aCf d m.dst;rw[j,l,hdst];exact⟨rfl,⟨v,d,u,Or.inl ⟨rfl,t⟩⟩,rfl⟩
  ·rw[if_neg f,if_neg f];obtain⟨j,l⟩:=xV z m.dst;dsimp only;rw[j,l];exact⟨rfl,hs,rfl⟩
theorem aJw(h:AOk g i a)(hs:aBd a r){n q:Int}(hn:0≤n)(hq:0≤q):
 yZ r=aBV a∧aBd (yQ a n q) (uG r n q)∧zD r a.num n=tP a n:=by
 unfold yZ aBV uG yQ zD tP;by_cases b:a.st=2
 ·have c:r.up=false:=by rw[hs.up,b];rfl
  rw[if_pos b,if_pos b,if_pos b,if_pos c,if_pos c,if_pos c];exact⟨rfl,hs,rfl⟩
 ·have c:¬r.up=false:=by rw[hs.up];simp[b]
  rw[if_neg b,if_neg b,if_neg b,if_neg c,if_neg c,if_neg c];by_cases d:n=0
  ·rw[if_pos d,if_pos d,if_pos d];exact⟨rfl,⟨by show r.log=(fM a.dk q).log;rw[(rO h.dk hq).2];exact hs.log,rfl,rfl,Or.inl ⟨rfl,rfl⟩⟩,rfl⟩
  ·rw[if_neg d,if_neg d,if_neg d];exact⟨rfl,⟨hs.log,hs.up,hs.silent,Or.inr ⟨n,q,rfl,rfl,rfl,hn⟩⟩,rfl⟩
theorem aBu(h:AOk g i a)(hst:a.st=2)(hl:r.log=a.dk.log)(hsi:r.silent=false)(hleft:r.left= -1):aBd (uU (fS {a with st:=0}).1 (fS {a with st:=0}).2) (jF g r):=by
 have hfl:=h.nofail hst;have hnew:=h.new (by omega);have hnd:=aCo (f:=g) {a with st:=0} h.dk hnew hfl;unfold fS at hnd⊢;unfold jF;dsimp only at hnd⊢;have hlong:mD {a with st:=0}=decide (g.compact<(a.dk.log.length:Int) / 25):=by
  unfold mD;rw[show({a with st:=0}:Ac).compact=g.compact from h.comp]
 have hle:25*(dO a.dk.log).length≤a.dk.log.length:=pC a.dk.log.length a.dk.log;have hcond:(25*((dO r.log).length:Int)<(r.log.length:Int)∨g.compact<25*((dO r.log).length:Int) / 25)↔(25*((dO a.dk.log).length:Int)<(a.dk.log.length:Int)∨mD {a with st:=0}=true):=by
  rw[hlong,hl];simp only[aM];omega
 by_cases hc:25*((dO a.dk.log).length:Int)<(a.dk.log.length:Int)∨mD {a with st:=0}=true
 ·rw[if_pos hc]at hnd⊢;rw[if_pos (hcond.2 hc)];have hcs:=aAm (r:={r with up:=true}) h.dk hnew hl rfl hsi (Or.inl ⟨hfl,hleft⟩) (eZ (dO a.dk.log));have hcr:gX g.room {r with up:=true}=kG g.room (eZ (dO a.dk.log)) 5 {r with up:=true}:=by unfold gX;rw[show({r with up:=true}:Ra).log=a.dk.log from hl]
  rw[hcr];unfold eK at hnd⊢;dsimp only at hnd⊢;generalize kG g.room (eZ (dO a.dk.log)) 5 {r with up:=true}=rr at hcs;cases hck:fU a.dk (eZ (dO a.dk.log))with
  |mk k2 hw2=>
   rw[hck]at hcs hnd;cases hw2 using nB with
   |fine=>
    obtain⟨v1,v2,v3,v4⟩:rr.log=k2.log∧rr.up=true∧rr.silent=false∧zB k2.fail rr.left rr.keep:=hcs;exact⟨v1,v2,v3,v4⟩
   |full=>
    obtain⟨v1,v2,v3,v4⟩:rr.log=k2.log∧rr.up=true∧rr.silent=true∧zB k2.fail rr.left rr.keep:=hcs;exact⟨v1,v2,v3,v4⟩
   |dies q=>exact absurd rfl (hnd q)
 ·rw[if_neg hc];rw[if_neg (fun e=>hc (hcond.1 e))];exact⟨hl,rfl,hsi,Or.inl ⟨hfl,hleft⟩⟩
theorem aGS(h:AOk g i a)(hs:aBd a r):sC r=uA a∧aBd (iL a) (oT g r)∧tK r a.num=nM a:=by
 by_cases d:a.st=0
 ·have c:r.up=true∧r.silent=false:=by rw[hs.up,hs.silent,d];exact⟨rfl,rfl⟩
  unfold sC uA oT iL tK nM;rw[if_pos d,if_pos d,if_pos d,if_pos c,if_pos c,if_pos c];exact⟨rfl,hs,rfl⟩
 ·have l:=h.st;have c:¬(r.up=true∧r.silent=false):=by
   rw[hs.up,hs.silent];rcases(show a.st=2∨a.st=1 by omega)with e|e<;>simp[e]
  rw[aEt a d];unfold sC uA oT tK nM;rw[if_neg d,if_neg d,if_neg c,if_neg c,if_neg c];by_cases j:a.st=1
  ·have b:r.up=true:=by rw[hs.up,j];rfl
   rw[if_pos j,if_pos j,if_pos b,if_pos b];refine⟨rfl,?_,rfl⟩;exact aBu (rH h.num h.comp (rO h.dk (by decide:(0:Int)≤0)).1) rfl (by show r.log=(fM a.dk 0).log;rw[(rO h.dk (by decide:(0:Int)≤0)).2];exact hs.log) rfl rfl
  ·have k:a.st=2:=by omega
   have b:r.up=false:=by rw[hs.up,k];rfl
   rw[if_neg j,if_neg j,if_neg (by rw[b];simp),if_neg (by rw[b];simp)];refine⟨rfl,?_,rfl⟩;have f:r.left= -1:=by
    rcases hs.fl with⟨_,e⟩|⟨n,q,e,_⟩
    ·exact e
    ·rw[h.nofail k]at e;cases e
   exact aBu h k hs.log (by rw[hs.silent,k];rfl) f
end
def moN(f:Cf)(k c:Nat):Mo:=⟨f,(List.range k).map (fun (i:Nat)=>yH f i),(List.range c).map (fun (i:Nat)=>yC i),[],[]⟩
section
variable (f:Cf) (k c:Nat)
theorem uH:(moN f k c).acs.length=k:=by simp[moN]
theorem uL:(moN f k c).cls.length=c:=by simp[moN]
theorem aGz{i:Nat}(h:i<(moN f k c).acs.length):(moN f k c).acs[i]=yH f i:=by simp[moN]
theorem aGQ{i:Nat}(h:i<(moN f k c).cls.length):(moN f k c).cls[i]=yC i:=by simp[moN]
end
theorem aBU(b:Nat→Nat)(k x:Nat):qA (fun i=>if i=k then x else b i) (k+1)=qA b k++[fG x]:=by
 unfold qA;rw[List.range_succ,bU]
 congr 1
 ·apply List.map_congr_left;intro i a;have:=List.mem_range.1 a;show fG (if i=k then x else b i)=fG (b i);rw[if_neg (by omega)]
 ·simp
def fR(W0 W1:World)(own:Nat→Nat)(p:Nat)(row:Option Nat):Nat→Nat:=fun q=>if q<W0.heap.size then own q else if q<W1.heap.size then p else if row=some q then 2 else 0
section
variable {W0 W1 W2 W3:World} {own:Nat→Nat} {g:Nat} {f:Cf} {k c b:Nat} {av cv v':Value} {bA bC:Nat→Nat}
theorem aKg(h:MoAt W0 own g (moN f k c) av cv bA bC)
 (hA:Acc W1 (fun q=>W0.heap.size≤q∧q<W1.heap.size) b g (yH f k)) (h01:Chg NoS W0 W1) (h12:Chg NoS W1 W2) (h23:W2.grownBy W3 av.ownBlock)
 (hrow:W3.ownsRow 0 114 1 v' (k+1) (qA bA k++[fG b])) (hat:v'.ownBlock=av.ownBlock∨∃q,v'.ownBlock=some q∧W2.heap.size≤q∧q<W3.heap.size):
 ∃own',MoAt (W3.setCell ⟨g,0,none⟩ v') own' g (moN f (k+1) c) v' cv (fun i=>if i=k then b else bA i) bC∧(∀q,own' q≠0→own q≠0∨W0.heap.size≤q)∧Chg (fun q=>own q≠0) W0 (W3.setCell ⟨g,0,none⟩ v'):=by
 obtain⟨Z,tv,w,y,D,C,E,A⟩:=h.cells;have Q:=h01.size;have S:=h12.size;have U:=h23.size;have a0:=dG w;have j:=h.avb;have t:=((h01.mono (T:=fun q=>some q=av.ownBlock) (fun _ _ h=>h.elim)).trans h12 (fun _ _ h=>h.elim)).trans (Chg.of_grown h23) (fun _ _ h=>h);have K:=t.kept w (fun e=>by have:=j g e.symm;omega);have o:=cY W3 g 0 v';have L:=dD K 0 v';have d:=(t.mono (T:=fun q=>some q=av.ownBlock∨q=g) (fun _ _ h=>Or.inl h)).trans o (fun _ _ h=>Or.inr h);have R:(W3.setCell ⟨g,0,none⟩ v').heap.size=W3.heap.size:=by simp
 generalize W3.setCell ⟨g,0,none⟩ v'=W4 at*;have G:=((h12.mono (T:=fun q=>some q=av.ownBlock∨q=g) (fun _ _ h=>h.elim)).trans (Chg.of_grown h23) (fun _ _ h=>Or.inl h)).trans o (fun _ _ h=>Or.inr h);have O:∀q,v'.ownBlock=some q→q≠g:=fun q a e=>by
  rcases hat with l|⟨P,l,B,_⟩
  ·rw[l]at a;have J:=j q a;rw[e]at J;omega
  ·rw[l]at a;cases a;omega
 have n:∀q,q<W0.heap.size→fR W0 W1 own (3+2*k) v'.ownBlock q=own q:=fun q a=>by unfold fR;rw[if_pos a]
 have H:∀q,W0.heap.size≤q→q<W1.heap.size→fR W0 W1 own (3+2*k) v'.ownBlock q=(3+2*k):=fun q a u=>by unfold fR;rw[if_neg (by omega),if_pos u]
 have V:∀q,v'.ownBlock=some q→fR W0 W1 own (3+2*k) v'.ownBlock q=2:=fun q a=>by
  rcases hat with l|⟨P,l,B,_⟩
  ·rw[l]at a;have e:=j q a;have r:=h.lt q (by omega);rw[n q r];exact e
  ·rw[l]at a;cases a;unfold fR;rw[if_neg (by omega),if_neg (by omega),if_pos l]
 have F:∀q,W0.heap.size≤q→fR W0 W1 own (3+2*k) v'.ownBlock q=(3+2*k)∨fR W0 W1 own (3+2*k) v'.ownBlock q=2∨fR W0 W1 own (3+2*k) v'.ownBlock q=0:=fun q a=>by
  unfold fR;rw[if_neg (by omega)];split
  ·exact Or.inl rfl
  ·split
   ·exact Or.inr (Or.inl rfl)
   ·exact Or.inr (Or.inr rfl)
 have m:∀p,p≠0→p≠2→p≠(3+2*k)→∀q,fR W0 W1 own (3+2*k) v'.ownBlock q=p↔own q=p:=fun p h0 J hp q=>by
  by_cases a:q<W0.heap.size
  ·rw[n q a]
  ·constructor
   ·intro e;rcases F q (by omega)with l|l|l<;>omega
   ·intro e;exact absurd (h.lt q (by omega)) a
 have r:∀q,fR W0 W1 own (3+2*k) v'.ownBlock q≠0→q<W4.heap.size:=fun q a=>by
  unfold fR at a;split at a
  ·omega
  ·split at a
   ·omega
   ·split at a
    ·rename_i e;rcases hat with l|⟨P,l,B,h3⟩
     ·rw[l]at e;have:=h.lt q (by rw[j q e];decide);omega
     ·rw[l]at e;cases e;omega
    ·exact absurd rfl a
 refine⟨fR W0 W1 own (3+2*k) v'.ownBlock,?_,fun q a=>?_,d.mono (fun q _ a=>?_)⟩
 ·have s:∀p,p≠0→p≠1→p≠2→∀q,own q=p→¬(some q=av.ownBlock∨q=g):=fun p h0 h1 J q a e=>by
   rcases e with e|e
   ·have:=j q e.symm;omega
   ·rw[e]at a;omega
  refine⟨?_,?_,?_,?_,?_,?_,?_,r⟩
  ·have e:=funext fun q=>propext (m 1 (by decide) (by decide) (by omega) q);rw[e];refine⟨Z,tv,by simpa using L,A,?_,?_,C,E,fun q a=>by have:=h.lt q (by omega);omega⟩
   ·exact d.row y (fun q a e=>by
     rcases e with e|e
     ·have:=j q e.symm;have:=C q a;omega
     ·exact fN y w (by decide) q a e)
   ·exact d.row D (fun q a e=>by
     rcases e with e|e
     ·have:=j q e.symm;have:=E q a;omega
     ·exact fN D w (by decide) q a e)
  ·rw[uH,aBU];exact o.row hrow (fun q a e=>O q a e)
  ·have:=d.row h.rcv (fun q a e=>by
    rcases e with e|e
    ·exact nT h.rcv h.rav (by decide) q a e.symm
    ·exact fN h.rcv w (by decide) q a e)
   simpa[uL]using this
  ·exact V
  ·exact fun q a=>by rw[n q (h.lt q (by rw[h.cvb q a];decide))];exact h.cvb q a
  ·intro i I;have M:i<(k+1):=by simpa[uH]using I
   rw[aGz];by_cases z:i=k
   ·subst z;rw[if_pos rfl];have N:=hA.kept G (fun q a e=>by
     rcases e with e|e
     ·have:=h.lt q (by rw[j q e.symm];decide);omega
     ·omega)
    exact N.grow (fun q a=>H q a.1 a.2) (fun q a=>r q (by omega))
   ·rw[if_neg z];have v:i<(moN f k c).acs.length:=by rw[uH];omega
    have e:(fun q=>fR W0 W1 own (3+2*k) v'.ownBlock q=3+2*i)=(fun q=>own q=3+2*i):=funext fun q=>propext (m _ (by omega) (by omega) (by omega) q);rw[e];have:=h.acc i v;rw[aGz]at this;exact this.kept d (fun q a=>s _ (by omega) (by omega) (by omega) q a)
  ·intro i I;have M:i<c:=by simpa[uL]using I
   rw[aGQ];have v:i<(moN f k c).cls.length:=by rw[uL];omega
   have e:(fun q=>fR W0 W1 own (3+2*k) v'.ownBlock q=4+2*i)=(fun q=>own q=4+2*i):=funext fun q=>propext (m _ (by omega) (by omega) (by omega) q);rw[e];obtain⟨Y,X,hd,wt,W,x⟩:=h.cls i v;rw[aGQ]at x;exact⟨Y,X,hd,wt,W,x.kept d (fun q a=>s _ (by omega) (by omega) (by omega) q a)⟩
 ·by_cases u:q<W0.heap.size
  ·rw[n q u]at a;exact Or.inl a
  ·exact Or.inr (by omega)
 ·rcases a with a|a
  ·rw[j q a.symm];decide
  ·rw[a,A];decide
theorem aJL(h:MoAt W0 own g (moN f k c) av cv bA bC)
 (hA:∃ch tk hd wt dv,ClAt W1 (fun q=>W0.heap.size≤q∧q<W1.heap.size) b g f (yC c) ch tk hd wt dv) (h01:Chg NoS W0 W1) (h12:Chg NoS W1 W2) (h23:W2.grownBy W3 cv.ownBlock)
 (hrow:W3.ownsRow 0 96 1 v' (c+1) (qA bC c++[fG b])) (hat:v'.ownBlock=cv.ownBlock∨∃q,v'.ownBlock=some q∧W2.heap.size≤q∧q<W3.heap.size):
 ∃own',MoAt (W3.setCell ⟨g,1,none⟩ v') own' g (moN f k (c+1)) av v' bA (fun i=>if i=c then b else bC i)∧(∀q,own' q≠0→own q≠0∨W0.heap.size≤q)∧Chg (fun q=>own q≠0) W0 (W3.setCell ⟨g,1,none⟩ v'):=by
 obtain⟨W,X,x,y,D,C,E,A⟩:=h.cells;have Q:=h01.size;have S:=h12.size;have U:=h23.size;have Y:=dG x;have j:=h.cvb;have u:=((h01.mono (T:=fun q=>some q=cv.ownBlock) (fun _ _ h=>h.elim)).trans h12 (fun _ _ h=>h.elim)).trans (Chg.of_grown h23) (fun _ _ h=>h);have K:=u.kept x (fun e=>by have:=j g e.symm;omega);have o:=cY W3 g 1 v';have L:=dD K 1 v';have d:=(u.mono (T:=fun q=>some q=cv.ownBlock∨q=g) (fun _ _ h=>Or.inl h)).trans o (fun _ _ h=>Or.inr h);have R:(W3.setCell ⟨g,1,none⟩ v').heap.size=W3.heap.size:=by simp
 generalize W3.setCell ⟨g,1,none⟩ v'=W4 at*;have G:=((h12.mono (T:=fun q=>some q=cv.ownBlock∨q=g) (fun _ _ h=>h.elim)).trans (Chg.of_grown h23) (fun _ _ h=>Or.inl h)).trans o (fun _ _ h=>Or.inr h);have O:∀q,v'.ownBlock=some q→q≠g:=fun q a e=>by
  rcases hat with l|⟨P,l,B,_⟩
  ·rw[l]at a;have J:=j q a;rw[e]at J;omega
  ·rw[l]at a;cases a;omega
 have n:∀q,q<W0.heap.size→fR W0 W1 own (4+2*c) v'.ownBlock q=own q:=fun q a=>by unfold fR;rw[if_pos a]
 have H:∀q,W0.heap.size≤q→q<W1.heap.size→fR W0 W1 own (4+2*c) v'.ownBlock q=(4+2*c):=fun q a v=>by unfold fR;rw[if_neg (by omega),if_pos v]
 have V:∀q,v'.ownBlock=some q→fR W0 W1 own (4+2*c) v'.ownBlock q=2:=fun q a=>by
  rcases hat with l|⟨P,l,B,_⟩
  ·rw[l]at a;have e:=j q a;have s:=h.lt q (by omega);rw[n q s];exact e
  ·rw[l]at a;cases a;unfold fR;rw[if_neg (by omega),if_neg (by omega),if_pos l]
 have F:∀q,W0.heap.size≤q→fR W0 W1 own (4+2*c) v'.ownBlock q=(4+2*c)∨fR W0 W1 own (4+2*c) v'.ownBlock q=2∨fR W0 W1 own (4+2*c) v'.ownBlock q=0:=fun q a=>by
  unfold fR;rw[if_neg (by omega)];split
  ·exact Or.inl rfl
  ·split
   ·exact Or.inr (Or.inl rfl)
   ·exact Or.inr (Or.inr rfl)
 have m:∀p,p≠0→p≠2→p≠(4+2*c)→∀q,fR W0 W1 own (4+2*c) v'.ownBlock q=p↔own q=p:=fun p h0 J hp q=>by
  by_cases a:q<W0.heap.size
  ·rw[n q a]
  ·constructor
   ·intro e;rcases F q (by omega)with l|l|l<;>omega
   ·intro e;exact absurd (h.lt q (by omega)) a
 have s:∀q,fR W0 W1 own (4+2*c) v'.ownBlock q≠0→q<W4.heap.size:=fun q a=>by
  unfold fR at a;split at a
  ·omega
  ·split at a
   ·omega
   ·split at a
    ·rename_i e;rcases hat with l|⟨P,l,B,Z⟩
     ·rw[l]at e;have:=h.lt q (by rw[j q e];decide);omega
     ·rw[l]at e;cases e;omega
    ·exact absurd rfl a
 refine⟨fR W0 W1 own (4+2*c) v'.ownBlock,?_,fun q a=>?_,d.mono (fun q _ a=>?_)⟩
 ·have t:∀p,p≠0→p≠1→p≠2→∀q,own q=p→¬(some q=cv.ownBlock∨q=g):=fun p h0 h1 J q a e=>by
   rcases e with e|e
   ·have:=j q e.symm;omega
   ·rw[e]at a;omega
  refine⟨?_,?_,?_,?_,?_,?_,?_,s⟩
  ·have e:=funext fun q=>propext (m 1 (by decide) (by decide) (by omega) q);rw[e];refine⟨W,X,by simpa using L,A,?_,?_,C,E,fun q a=>by have:=h.lt q (by omega);omega⟩
   ·exact d.row y (fun q a e=>by
     rcases e with e|e
     ·have:=j q e.symm;have:=C q a;omega
     ·exact fN y x (by decide) q a e)
   ·exact d.row D (fun q a e=>by
     rcases e with e|e
     ·have:=j q e.symm;have:=E q a;omega
     ·exact fN D x (by decide) q a e)
  ·have:=d.row h.rav (fun q a e=>by
    rcases e with e|e
    ·exact nT h.rav h.rcv (by decide) q a e.symm
    ·exact fN h.rav x (by decide) q a e)
   simpa[uH]using this
  ·rw[uL,aBU];exact o.row hrow (fun q a e=>O q a e)
  ·exact fun q a=>by rw[n q (h.lt q (by rw[h.avb q a];decide))];exact h.avb q a
  ·exact V
  ·intro i I;have M:i<k:=by simpa[uH]using I
   rw[aGz];have w:i<(moN f k c).acs.length:=by rw[uH];omega
   have e:(fun q=>fR W0 W1 own (4+2*c) v'.ownBlock q=3+2*i)=(fun q=>own q=3+2*i):=funext fun q=>propext (m _ (by omega) (by omega) (by omega) q);rw[e];have:=h.acc i w;rw[aGz]at this;exact this.kept d (fun q a=>t _ (by omega) (by omega) (by omega) q a)
  ·intro i I;have M:i<(c+1):=by simpa[uL]using I
   rw[aGQ];by_cases z:i=c
   ·subst z;rw[if_pos rfl];obtain⟨ch,tk,hd,wt,dv,r⟩:=hA;have N:=r.kept G (fun q a e=>by
     rcases e with e|e
     ·have:=h.lt q (by rw[j q e.symm];decide);omega
     ·omega)
    exact⟨ch,tk,hd,wt,dv,N.grow (fun q a=>H q a.1 a.2) (fun q a=>s q (by omega))⟩
   ·rw[if_neg z];have w:i<(moN f k c).cls.length:=by rw[uL];omega
    have e:(fun q=>fR W0 W1 own (4+2*c) v'.ownBlock q=4+2*i)=(fun q=>own q=4+2*i):=funext fun q=>propext (m _ (by omega) (by omega) (by omega) q);rw[e];obtain⟨ch,tk,hd,wt,dv,r⟩:=h.cls i w;rw[aGQ]at r;exact⟨ch,tk,hd,wt,dv,r.kept d (fun q a=>t _ (by omega) (by omega) (by omega) q a)⟩
 ·by_cases v:q<W0.heap.size
  ·rw[n q v]at a;exact Or.inl a
  ·exact Or.inr (by omega)
 ·rcases a with a|a
  ·rw[j q a.symm];decide
  ·rw[a,A];decide
end
def aKm(x:Int):Rw:=⟨x,0,0,0,0,0,0⟩
def aKG(x:Int):Mg:={zMg with kind:=x}
def aKC(x:Int):Ev:={zEv with kind:=x}
abbrev kRw(x:Int):List Value:=rwL (aKm x)
abbrev kMg(x:Int):List Value:=mgL (aKG x)
abbrev kEv(x:Int):List Value:=evL (aKC x)
def MkTo(f:Int→List Value)(sz:Nat)(W:World)(g k:Nat)(x:Int):Prop:=∀i,i<k→∀j u,(f x)[j]?=some u→W.cell? ⟨g,i*sz+j,none⟩=some u
def MkL(f:Int→List Value)(sz:Nat)(W:World)(v:Value)(k:Nat)(x:Int):Prop:=
 ∃p cap,v= .slice p k cap∧(∀g,v.ownBlock=some g→g<W.heap.size)∧(0<k→∃g,p=some ⟨g,0,none⟩∧MkTo f sz W g k x)
section
variable {f:Int→List Value}{sz:Nat}{W W':World}{v:Value}{k:Nat}{x:Int}
theorem MkTo.of_heap{g:Nat}(h:MkTo f sz W g k x)(hb:W'.heap[g]?=W.heap[g]?):MkTo f sz W' g k x:=fun i hi j u hj=>
 (aW hb).trans (h i hi j u hj)
theorem MkL.of_heap(h:MkL f sz W v k x)(hs:W.heap.size≤W'.heap.size)(hb:∀g,v.ownBlock=some g→W'.heap[g]?=W.heap[g]?):MkL f sz W' v k x:=by
 obtain⟨p,b,rfl,a,d⟩:=h;refine⟨p,b,rfl,fun g hg=>aG (a g hg) hs,fun hk=>?_⟩;obtain⟨g,rfl,c⟩:=d hk;exact⟨g,rfl,c.of_heap (hb g rfl)⟩
theorem yA(hf:∀y,(f y).length=sz){t:TypeId}{base g n cap:Nat}(h:W.ownsRow base t sz (.slice (some ⟨g,0,none⟩) n cap) n (cZ f (List.replicate n x))):MkTo f sz W g n x:=by
 intro i d j u c;have b:j<sz:=by rw[←hf x];exact(aF.1 c).1
 have a:i*sz+j<n*sz:=by
  have:(i+1)*sz≤n*sz:=Nat.mul_le_mul_right _ (by omega);rw[Nat.add_mul]at this;omega
 rw[h.cellAt _ a,lY f (k:=sz) hf _ i (by simpa using d) j b];simpa using c
theorem aAb(hf:∀y,(f y).length=sz){t:TypeId}{base n:Nat}(h:W.ownsRow base t sz v n (cZ f (List.replicate n x))):MkL f sz W v n x:=by
 have a:=h.lt;rcases h.2 with⟨rfl,rfl⟩|⟨g,b,c,rfl,_⟩
 ·exact⟨none,0,rfl,(fun g hg=>by cases hg),fun h=>absurd h (by omega)⟩
 ·exact⟨some ⟨g,0,none⟩,b,rfl,fun g' hg'=>(a g' hg').2,fun _=>⟨g,rfl,yA hf h⟩⟩
theorem MkL.appended(hf:∀y,(f y).length=sz){t:TypeId}{base n m:Nat}{v' u:Value}(hu:MkL f sz W u k x)(hk:k≤n+m)
 (hown:W'.ownsRow base t sz v' (n+m) (cZ f (List.replicate (n+m) x))) (h:aEX W W' v v'):MkL f sz W' u k x:=by
 rcases h with⟨_,l,c⟩|⟨_,c⟩
 ·obtain⟨p,j,rfl,b,w⟩:=hu;refine⟨p,j,rfl,fun g hg'=>aG (b g hg') c.size,fun hk0=>?_⟩;obtain⟨g,rfl,s⟩:=w hk0;refine⟨g,rfl,?_⟩;by_cases o:v.ownBlock=some g
  ·obtain⟨d,a,rfl,_⟩:∃d a,v'= .slice (some ⟨d,0,none⟩) (n+m) a∧True:=by
    rcases hown.2 with⟨rfl,A⟩|⟨d,a,z,rfl,_⟩
    ·rw[o]at l;cases l
    ·exact⟨d,a,rfl,trivial⟩
   rw[o]at l;have r:d=g:=by simpa[Value.ownBlock]using l
   subst r;have q:=yA hf hown;exact fun i hi=>q i (by omega)
  ·exact s.of_heap (c.block g (b g rfl) (fun e=>o e.symm))
 ·exact hu.of_heap c.size (fun g hg'=>by
   obtain⟨p,j,rfl,b,_⟩:=hu;exact c.block g (b g hg') (by simp))
end
theorem sY{α:Type}(f:α→List Value)(a b:List α):cZ f (a++b)=cZ f a++cZ f b:=by simp[cZ]
theorem aJi{α:Type}{F:α→List Value}{sz:Nat}(hF:∀y,(F y).length=sz){W W':World}{base:Nat}{t:TypeId}{g n cap k:Nat}{A B:List α}{r y:α}(hk:A.length=k)
 (h:W.ownsRow base t sz (.slice (some ⟨g,0,none⟩) n cap) n (cZ F (A++r::B))) {cur:Array Value} (hg:W.heap[g]?=some (.cells cur t (0,0)))
 (hg':W'.heap[g]?=some (.cells (cur.toList.take (k*sz)++F y++cur.toList.drop (k*sz+sz)).toArray t (0,0))):
 W'.ownsRow base t sz (.slice (some ⟨g,0,none⟩) n cap) n (cZ F (A++y::B)):=by
 have b:∀z:α,(cZ F (A++z::B)).length=(A++z::B).length*sz:=fun z=>eV F hF _;have p:=(b r).symm.trans h.1;have a:(cZ F A).length=k*sz:=by rw[eV F hF,hk]
 refine⟨by rw[b,←p];simp,?_⟩;rcases h.2 with⟨e,_⟩|⟨E,q,s,e,w,d,c,l,i,j⟩
 ·cases e
 ·cases e;rw[hg]at d;cases d;have D:k*sz+sz≤n*sz:=by
   have:(k+1)*sz≤(A++r::B).length*sz:=Nat.mul_le_mul_right _ (by simp;omega);rw[Nat.add_mul,p]at this;omega
  have m:n*sz≤cur.toList.length:=by rw[Array.length_toList,i];exact Nat.mul_le_mul_right _ c
  refine Or.inr ⟨g,cap,_,rfl,w,hg',c,l,?_,?_⟩
  ·simp only[List.size_toArray,aD,bD,aV,hF,Array.length_toList];rw[Array.length_toList]at m;omega
  ·have o:cur.toList=cZ F (A++r::B)++cur.toList.drop (n*sz):=by rw[←j,cH]
   have f:cZ F (A++r::B)=cZ F A++(F r++cZ F B):=by rw[sY];rfl
   have C:cZ F (A++y::B)=cZ F A++(F y++cZ F B):=by rw[sY];rfl
   have v:(cZ F B).length=n*sz-(k*sz+sz):=by
    have:=h.1;rw[f,aD,aD,hF,a]at this;omega
   have u:cur.toList.take (k*sz)=cZ F A:=by rw[o,f,aS,List.take_left' a]
   have x:cur.toList.drop (k*sz+sz)=cZ F B++cur.toList.drop (n*sz):=by
    conv=>lhs;rw[o,f]
    rw[aS,aS,←aS,List.drop_left' (by rw[aD,a,hF])]
   show(cur.toList.take (k*sz)++F y++cur.toList.drop (k*sz+sz)).take (n*sz)=_;rw[u,x,C,←aS,List.take_left' (by simp only[aD,a,hF,v];omega)];simp
structure StK(t:TypeId)(f:Int→List Value)(sz a:Nat)(W:World)(lab:Nat→Nat)(rv mv:Value)(ls:List (Value×Nat×Int)):Prop where
 rows:W.ownsRow 0 t 1 rv ls.length (ls.map fun q=>q.1)
 marks:W.ownsRow 0 3 1 mv ls.length (ls.map fun q=>.int .i64 q.2.2)
 rl:∀k,rv.ownBlock=some k→lab k=a
 ml:∀k,mv.ownBlock=some k→lab k=a+1
 each:∀q ∈ ls,MkL f sz W q.1 q.2.1 q.2.2
 el:∀q ∈ ls,∀k,q.1.ownBlock=some k→lab k=9
theorem StK.frame{t:TypeId}{f:Int→List Value}{sz a:Nat}(ha:a≠0){W W':World}{lab lab':Nat→Nat}{rv mv:Value}{ls:List (Value×Nat×Int)}(h:StK t f sz a W lab rv mv ls)(hs:W.heap.size≤W'.heap.size)
 (hb:∀k,lab k=a∨lab k=a+1∨lab k=9→W'.heap[k]?=W.heap[k]?) (hl:∀k,lab k≠0→lab' k=lab k):StK t f sz a W' lab' rv mv ls:=
 ⟨dF h.rows fun k hk=>hb k (Or.inl (h.rl k hk)),dF h.marks fun k hk=>hb k (Or.inr (Or.inl (h.ml k hk))),fun k hk=>by have:=h.rl k hk;rw[hl k (by omega)];exact this,fun k hk=>by have:=h.ml k hk;rw[hl k (by omega)];exact this,
  fun q hq=>(h.each q hq).of_heap hs fun k hk=>hb k (Or.inr (Or.inr (h.el q hq k hk))),fun q hq k hk=>by have:=h.el q hq k hk;rw[hl k (by omega)];exact this⟩
theorem aFR:(prog.info? 47).map (fun i=>(i.zero,i.size,i.bytes))=some (some (.slice none 0 0),1,24):=by kernel_rfl
theorem aHS:(prog.info? 88).map (fun i=>(i.zero,i.size,i.bytes))=some (some (.slice none 0 0),1,24):=by kernel_rfl
theorem aI9:(prog.info? 43).map (fun i=>(i.zero,i.size,i.bytes))=some (some (.slice none 0 0),1,24):=by kernel_rfl
theorem aHi:(prog.info? 3).map (fun i=>(i.zero,i.size,i.bytes))=some (some (.int .i64 0),1,8):=by kernel_rfl
abbrev wdL(lv rv rm sv sm ev em:Value)(next:Int):List Value:=[lv,rv,rm,sv,sm,ev,em,.int .i64 next]
theorem aH3{w w':World}{v v':Value}(h:aEX w w' v v'):(v'.ownBlock=v.ownBlock∨v'.ownBlock=some w.heap.size)∧w.grownBy w' v.ownBlock:=by
 rcases h with⟨_,h,a⟩|⟨h,a⟩
 ·exact⟨Or.inl h,a⟩
 ·exact⟨Or.inr h,a.but _⟩
end Go.Proofs.YtbbdgokdfhdpiaaGreatDoor
