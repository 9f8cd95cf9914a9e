/- A part. -/
import Derived.ChangeMaps5
import Derived.Conc.LoneSelect
import Derived.Deep.AppendLies
import Derived.Deep.DrawnRows
import Derived.Deep.RegionLaw
import Derived.KernelRfl
import Derived.MapKept
import Derived.OrdersHeld
import Derived.StillTail
import Derived.Test.YtbbdgokdfhdpiaaGreatDoorA1
namespace Go.Proofs.YtbbdgokdfhdpiaaGreatDoor
set_option linter.all false
set_option maxRecDepth 100000
set_option maxHeartbeats 0
open Go.Proofs.Tryz Go.RowKit
section
variable {P:Program}{ops:Array Oper}{md:Region.Mode}{S:World→Prop}{Q:Exit→Act→World→Prop}{keep:Nat→Bool}
def iH(P:Program)(md:Region.Mode)(ops:Array Oper)(Q:Exit→Act→World→Prop)(S:World→Prop)(keep:Nat→Bool):Nat→Array Bool→Act→World→Prop
 |0,listed,a,w=>Region.ready md ops listed=[]∧Q .normal a w
 |f+1,listed,a,w=>
  (Region.ready md ops listed=[]→Q .normal a w)∧
  ∀i ∈ Region.ready md ops listed,wpOp P ops Q i (fun a' w'=>(keep i=true→S w→S w')∧iH P md ops Q S keep f (listed.setIfInBounds i true) a' w') a w
theorem wR:∀(f:Nat) (listed:Array Bool) (a:Act) (w:World),iH P md ops Q S keep f listed a w→wpAny P md ops Q f listed a w
 |0,_,_,_,h=>h
 |f+1,_,_,_,h=>⟨h.1,fun i hi=>wpOp_mono (fun a' w' h'=>wR f _ a' w' h'.2) (h.2 i hi)⟩
structure Closed(md:Region.Mode)(ops:Array Oper)(listed:Array Bool):Prop where
 size:listed.size=ops.size
 closed:∀j oj,ops[j]?=some oj→listed.getD j false=true→∀e ∈ oj.after,Region.binds md e=true→listed.getD e.on false=true
theorem Closed.set{i:Nat}{listed:Array Bool}(inv:Closed md ops listed)(hi:i ∈ Region.ready md ops listed):Closed md ops (listed.setIfInBounds i true):=by
 obtain⟨_,d,c,b⟩:=mem_ready.1 hi;refine⟨by simp[inv.size],fun j oj hj hl e he hb=>?_⟩;by_cases a:i=j
 ·subst a;have:oj=d:=aN (hj.symm.trans c);subst this;exact getD_set_true (b e he hb)
 ·rw[getD_set_ne false a]at hl;exact getD_set_true (inv.closed j oj hj hl e he hb)
def vZ(md:Region.Mode)(ops:Array Oper)(i:Nat):Nat→Nat→Bool
 |0,_=>false
 |f+1,t=>match ops[t]? with
  |some o=>o.after.any fun e=>Region.binds md e&&(e.on==i||vZ md ops i f e.on)
  |none=>false
theorem xZ{i:Nat}{listed:Array Bool}(inv:Closed md ops listed):∀(f t:Nat),vZ md ops i f t=true→(∃o,ops[t]?=some o∧∀e ∈ o.after,Region.binds md e=true→listed.getD e.on false=true)→listed.getD i false=true
 |0,t,h,_=>by simp[vZ]at h
 |f+1,t,h,⟨o,ho,hall⟩=>by
  simp only[vZ,ho]at h;obtain⟨e,he,hb⟩:=Array.any_eq_true'.1 h;simp only[aR,Bool.or_eq_true,beq_iff_eq]at hb;have hl:=hall e he hb.1;rcases hb.2 with h2|h2
  ·rw[←h2];exact hl
  ·have hlt:e.on<ops.size:=by
    rcases Nat.lt_or_ge e.on listed.size with h'|h'
    ·rw[←inv.size];exact h'
    ·simp[Array.getElem?_eq_none h']at hl
   exact xZ inv f e.on h2 ⟨ops[e.on],by simp[hlt],fun e' he' hb'=>inv.closed e.on _ (by simp[hlt]) hl e' he' hb'⟩
def YieldsS(P:Program)(ops:Array Oper)(S:World→Prop)(o:Oper)(v:Value)(a:Act):Prop:=
 (Region.wanted o (yielded ops a.tmps)=true∧∀w,S w→((execOp a.eval o).run P w= .ok (.value v) w∨∃f args,(execOp a.eval o).run P w= .ok (.enter f args) w∧Calls P f args w (fun e w'=>e= .returned v∧w'=w)))∨
 (Region.wanted o (yielded ops a.tmps)=false∧v=undef)
theorem YieldsS.wpOp{i:Nat}{o:Oper}{v:Value}{a:Act}(hi:ops[i]?=some o)(hy:YieldsS P ops S o v a)
 {K:Act→World→Prop} {w:World} (hS:S w) (h:K (a.put o.dst v) w):wpOp P ops Q i K a w:=by
 unfold Go.wpOp;simp only[hi];rcases hy with⟨c,b⟩|⟨c,rfl⟩
 ·rcases b w hS with b|⟨f,d,b,g⟩
  ·simp only[c,if_true,Oper.wp,b,Oper.upon];exact .inl h
  ·simp only[c,if_true,Oper.wp,b,Oper.upon];refine .inl (g.mono fun e w' he=>?_);obtain⟨rfl,rfl⟩:=he;exact h
 ·simp only[c,aU,if_false];exact h
theorem YieldsS.of_same{o:Oper}{v:Value}{a a':Act}(hy:YieldsS P ops S o v a)(he:execOp a'.eval o=execOp a.eval o)
 (hw:Region.wanted o (yielded ops a'.tmps)=Region.wanted o (yielded ops a.tmps)):YieldsS P ops S o v a':=by
 unfold YieldsS at*;rw[he,hw];exact hy
theorem aHB{j:Nat}{oi oj:Oper}{v:Value}(hj:ops[j]?=some oj)(hap:oi.apart ops oj=true)
 (hsi:∀cs b,oi.op≠.select cs b) (hsj:∀cs b,oj.op≠.select cs b)
 (hQ:∀c a w,Q (.panic c) (a.put oi.dst v) w→Q (.panic c) a w) {K:Act→World→Prop} {a:Act} {w:World}
 (hy:YieldsS P ops S oi v a) (h:wpOp P ops Q j K (a.put oi.dst v) w):
 wpOp P ops Q j (fun a' w'=>YieldsS P ops S oi v a'∧K (a'.put oi.dst v) w') a w:=by
 obtain⟨p,m,q⟩:=Oper.apart_spec hap;have g:∀(a:Act),YieldsS P ops S oi v a→∀u,YieldsS P ops S oi v (a.put oj.dst u):=fun a hy u=>
  hy.of_same (execOp_put oi hsi a oj.dst u q) (wanted_put oi a oj.dst u q)
 have k:∀d,YieldsS P ops S oi v {a with defers:=d::a.defers}:=fun d=>hy.of_same rfl rfl;unfold wpOp at*;simp only[hj]at*;rw[wanted_put oj a oi.dst v p]at h;split
 ·rename_i o;simp only[o,if_true]at h;rcases h with h|⟨i,l⟩
  case inr=>exact .inr ⟨by unfold Oper.asks at*;rw[execOp_put oj hsj a oi.dst v p]at i;exact i,l⟩
  refine .inl ?_;unfold Oper.wp at*;rw[execOp_put oj hsj a oi.dst v p]at h;generalize (execOp a.eval oj).run P w=r at*;cases r with
  |ok n w'=>
   cases n<;>simp only[Oper.upon]at h⊢
   case value u=>exact⟨g a hy u,by rw[←Act.put_comm a v u m];exact h⟩
   case skip=>exact⟨g a hy _,by rw[←Act.put_comm a v undef m];exact h⟩
   case defer d=>
    refine⟨g _ (k d) _,?_⟩;rw[←Act.put_comm _ v undef m,←Act.put_defers];exact h
   case enter f args=>
    refine Calls.mono h fun e w'' he=>?_;cases e with
    |returned u=>exact⟨g a hy u,by rw[←Act.put_comm a v u m];exact he⟩
    |panicked c=>exact hQ _ _ _ he
    |outgrown=>exact he
   case row row args=>exact Rows.mono h fun u w'' he=>⟨g a hy u,by rw[←Act.put_comm a v u m];exact he⟩
  |halt x w'=>
   cases x<;>simp only[Oper.upon]at h⊢
   case panic u=>exact hQ _ _ _ h
 ·rename_i o;simp only[o]at h;exact⟨g a hy _,by rw[←Act.put_comm a v undef m];exact h⟩
section
variable {i:Nat} {oi:Oper} {v:Value}
theorem rA(hi:ops[i]?=some oi)(hsel:∀(j:Nat) (o:Oper) cs b,ops[j]?=some o→o.op≠.select cs b)
 (hQ:∀c (a:Act) (i:Nat) (o:Oper) v w,ops[i]?=some o→Q (.panic c) (a.put o.dst v) w→Q (.panic c) a w):
 ∀(f:Nat) (listed:Array Bool) (a:Act) (w:World),
  (∀j oj,ops[j]?=some oj→j≠i→listed.getD j true=false→(∀e ∈ oj.after,Region.binds md e=true→e.on≠i)→oi.apart ops oj=true)→
  i ∈ Region.ready md ops listed→Yields P ops oi v a→
  iH P md ops Q S keep f (listed.setIfInBounds i true) (a.put oi.dst v) w→iH P md ops Q S keep (f+1) listed a w:=by
 intro f;induction f with
 |zero=>
  intro listed a w _ p x H;refine⟨fun h=>(by rw[h]at p;cases p),fun j hj=>?_⟩;by_cases d:j=i
  ·subst d;exact x.wpOp hi ⟨fun _ h=>h,H⟩
  ·have:=ready_mono hj d;rw[H.1]at this;cases this
 |succ f ih=>
  intro listed a w g p x H;refine⟨fun h=>(by rw[h]at p;cases p),fun j hj=>?_⟩;by_cases d:j=i
  ·subst d;exact x.wpOp hi ⟨fun _ h=>h,H⟩
  ·have u:=H.2 j (ready_mono hj d);obtain⟨n,oj,q,t⟩:=mem_ready.1 hj;have l:=(mem_ready.1 p).1;have s:∀e ∈ oj.after,Region.binds md e=true→e.on≠i:=fun e he hb heq=>by
    have u:=t e he hb;rw[heq,getD_both l]at u;cases u
   have y:=wpOp_put q (g j oj q d n s) (fun cs b=>hsel i oi cs b hi) (fun cs b=>hsel j oj cs b q) (fun c a w h=>hQ c a i oi _ w hi h) x u;have m:∀k ok,ops[k]?=some ok→k≠i→(listed.setIfInBounds j true).getD k true=false→
    (∀e ∈ ok.after,Region.binds md e=true→e.on≠i)→oi.apart ops ok=true:=fun k ok hk hki l hno=>by
    refine g k ok hk hki ?_ hno;by_cases r:j=k
    ·subst r;exact n
    ·rw[getD_set_ne true r]at l;exact l
   refine wpOp_mono (fun a' w' h3=>⟨h3.2.1,ih (listed.setIfInBounds j true) a' w' m (ready_mono p (Ne.symm d)) h3.1 ?_⟩) y;rw[Array.setIfInBounds_comm _ _ d];exact h3.2.2
theorem vQ(hi:ops[i]?=some oi)(hsel:∀(j:Nat) (o:Oper) cs b,ops[j]?=some o→o.op≠.select cs b)
 (hQ:∀c (a:Act) (i:Nat) (o:Oper) v w,ops[i]?=some o→Q (.panic c) (a.put o.dst v) w→Q (.panic c) a w)
 (hkeep:∀t,t<ops.size→keep t=false→vZ md ops i ops.size t=true):
 ∀(f:Nat) (listed:Array Bool) (a:Act) (w:World),Closed md ops listed→
  (∀j oj,ops[j]?=some oj→j≠i→listed.getD j true=false→(∀e ∈ oj.after,Region.binds md e=true→e.on≠i)→oi.apart ops oj=true)→
  i ∈ Region.ready md ops listed→YieldsS P ops S oi v a→S w→
  iH P md ops Q S keep f (listed.setIfInBounds i true) (a.put oi.dst v) w→iH P md ops Q S keep (f+1) listed a w:=by
 intro f;induction f with
 |zero=>
  intro listed a w _ _ r z A H;refine⟨fun h=>(by rw[h]at r;cases r),fun j hj=>?_⟩;by_cases d:j=i
  ·subst d;exact z.wpOp hi A ⟨fun _ h=>h,H⟩
  ·have:=ready_mono hj d;rw[H.1]at this;cases this
 |succ f ih=>
  intro listed a w s m r z A H;refine⟨fun h=>(by rw[h]at r;cases r),fun j hj=>?_⟩;by_cases d:j=i
  ·subst d;exact z.wpOp hi A ⟨fun _ h=>h,H⟩
  ·have y:=H.2 j (ready_mono hj d);obtain⟨p,oj,g,q⟩:=mem_ready.1 hj;have l:=(mem_ready.1 r).1;have x:∀e ∈ oj.after,Region.binds md e=true→e.on≠i:=fun e he hb heq=>by
    have y:=q e he hb;rw[heq,getD_both l]at y;cases y
   have C:keep j=true:=by
    cases hk:keep j with
    |true=>rfl
    |false=>
     have B:=(Array.getElem?_eq_some_iff.1 g).1;have:=xZ s _ j (hkeep j B hk) ⟨oj,g,q⟩;rw[getD_both l]at this;cases this
   have D:=aHB g (m j oj g d p x) (fun cs b=>hsel i oi cs b hi) (fun cs b=>hsel j oj cs b g) (fun c a w h=>hQ c a i oi _ w hi h) z y;have n:∀k ok,ops[k]?=some ok→k≠i→(listed.setIfInBounds j true).getD k true=false→
    (∀e ∈ ok.after,Region.binds md e=true→e.on≠i)→oi.apart ops ok=true:=fun k ok hk hki l hno=>by
    refine m k ok hk hki ?_ hno;by_cases u:j=k
    ·subst u;exact p
    ·rw[getD_set_ne true u]at l;exact l
   refine wpOp_mono (fun a' w' h3=>⟨h3.2.1,ih (listed.setIfInBounds j true) a' w' (s.set hj) n (ready_mono r (Ne.symm d)) h3.1 (h3.2.1 C A) ?_⟩) D;rw[Array.setIfInBounds_comm _ _ d];exact h3.2.2
end
def eN(P:Program)(ops:Array Oper)(Q:Exit→Act→World→Prop)(S:World→Prop)(K:Act→World→Prop):List (Nat×Oper)→Act→World→Prop
 |[],a,w=>K a w
 |(0,o)::rest,a,w=>∃v,Yields P ops o v a∧eN P ops Q S K rest (a.put o.dst v) w
 |(1,o)::rest,a,w=>∃v,YieldsS P ops S o v a∧eN P ops Q S K rest (a.put o.dst v) w
 |(_+2,o)::rest,a,w=>(if Region.wanted o (yielded ops a.tmps)then o.wp P a w (fun a' w'=>S w'∧eN P ops Q S K rest a' w') Q∨(o.asks P a w∧LetsOut Q)else(S w∧eN P ops Q S K rest (a.put o.dst undef) w))
section
variable {K:Act→World→Prop}
theorem cP{a:Act}{w:World}(h:K a w):eN P ops Q S K [] a w:=h
theorem oZ{o:Oper}{rest:List (Nat×Oper)}{a:Act}{w:World}{v:Value}(hg:o.guard=none)(hy:∀x,(execOp a.eval o).run P x= .ok (.value v) x)(h:eN P ops Q S K rest (a.put o.dst v) w):eN P ops Q S K ((0,o)::rest) a w:=
 ⟨v,Or.inl ⟨by simp[Region.wanted,hg],hy⟩,h⟩
theorem aE2{o:Oper}{rest:List (Nat×Oper)}{a:Act}{w:World}{v:Value}(hg:Region.wanted o (yielded ops a.tmps)=true)(hy:∀x,(execOp a.eval o).run P x= .ok (.value v) x)(h:eN P ops Q S K rest (a.put o.dst v) w):eN P ops Q S K ((0,o)::rest) a w:=
 ⟨v,Or.inl ⟨hg,hy⟩,h⟩
theorem dN{o:Oper}{rest:List (Nat×Oper)}{a:Act}{w:World}(hg:Region.wanted o (yielded ops a.tmps)=false)(h:eN P ops Q S K rest (a.put o.dst undef) w):eN P ops Q S K ((0,o)::rest) a w:=
 ⟨undef,Or.inr ⟨hg,rfl⟩,h⟩
theorem dA{o:Oper}{rest:List (Nat×Oper)}{a:Act}{w:World}{v:Value}(hg:o.guard=none)(hy:∀x,S x→(execOp a.eval o).run P x= .ok (.value v) x)(h:eN P ops Q S K rest (a.put o.dst v) w):eN P ops Q S K ((1,o)::rest) a w:=
 ⟨v,Or.inl ⟨by simp[Region.wanted,hg],fun x hx=>Or.inl (hy x hx)⟩,h⟩
theorem wU{o:Oper}{rest:List (Nat×Oper)}{a:Act}{w:World}{v:Value}(hg:Region.wanted o (yielded ops a.tmps)=true)(hy:∀x,S x→(execOp a.eval o).run P x= .ok (.value v) x)(h:eN P ops Q S K rest (a.put o.dst v) w):eN P ops Q S K ((1,o)::rest) a w:=
 ⟨v,Or.inl ⟨hg,fun x hx=>Or.inl (hy x hx)⟩,h⟩
theorem dL{o:Oper}{rest:List (Nat×Oper)}{a:Act}{w:World}(hg:Region.wanted o (yielded ops a.tmps)=false)(h:eN P ops Q S K rest (a.put o.dst undef) w):eN P ops Q S K ((1,o)::rest) a w:=
 ⟨undef,Or.inr ⟨hg,rfl⟩,h⟩
theorem eW{o:Oper}{rest:List (Nat×Oper)}{a:Act}{w:World}{v:Value}{f:FuncId}{args:Array Value}(hg:Region.wanted o (yielded ops a.tmps)=true)(hy:∀x,S x→(execOp a.eval o).run P x= .ok (.enter f args) x)(hc:∀x,S x→Calls P f args x (fun e w'=>e= .returned v∧w'=x))(h:eN P ops Q S K rest (a.put o.dst v) w):eN P ops Q S K ((1,o)::rest) a w:=
 ⟨v,Or.inl ⟨hg,fun x hx=>Or.inr ⟨f,args,hy x hx,hc x hx⟩⟩,h⟩
theorem dI{o:Oper}{rest:List (Nat×Oper)}{a:Act}{w:World}(hg:Region.wanted o (yielded ops a.tmps)=true)
 (h:∀C:Act→World→Prop,(∀a' w',S w'→eN P ops Q S K rest a' w'→C a' w')→o.wp P a w C Q):eN P ops Q S K ((2,o)::rest) a w:=by
 unfold eN;rw[if_pos hg];exact Or.inl (h _ fun _ _ h1 h2=>⟨h1,h2⟩)
end
def aIW(md:Region.Mode)(ops:Array Oper):List Nat→Array Bool→Bool
 |[],listed=>(Region.ready md ops listed).isEmpty
 |k::l,listed=>decide (Region.ready md ops listed=[k])&&aIW md ops l (listed.setIfInBounds k true)
def aAb(md:Region.Mode)(ops:Array Oper)(ts:List Nat):List (Nat×Nat)→Array Bool→Bool
 |[],listed=>aIW md ops ts listed
 |(0,k)::l,listed=>(Region.ready md ops listed).contains k&&Region.free md ops listed k&&aAb md ops ts l (listed.setIfInBounds k true)
 |(1,k)::l,listed=>(Region.ready md ops listed).contains k&&Region.free md ops listed k&&aAb md ops ts l (listed.setIfInBounds k true)
 |(_+2,k)::l,listed=>decide (Region.ready md ops listed=[k])&&aAb md ops ts l (listed.setIfInBounds k true)
def aEz(ts:List Nat)(i:Nat):Bool:= !ts.contains i
def aKf(md:Region.Mode)(ops:Array Oper)(hs:List (Nat×Nat))(ts:List Nat):Bool:=
 Region.noSelect ops&&aAb md ops ts hs (Array.replicate ops.size false)&&(hs.all fun p=> !(p.1==1)||ts.all fun t=>vZ md ops p.2 ops.size t)&&
  ((hs.map (·.2)++ts).all fun i=>decide (i<ops.size))&&decide (hs.length+ts.length=ops.size)
def oN(l:List Oper):List Nat→List Oper
 |[]=>[]
 |i::is=>match l[i]? with
  |some o=>o::oN l is
  |none=>oN l is
def kC(l:List Oper):List (Nat×Nat)→List (Nat×Oper)
 |[]=>[]
 |(b,i)::is=>match l[i]? with
  |some o=>(b,o)::kC l is
  |none=>kC l is
theorem aAc:∀(ts:List Nat) (listed:Array Bool) (a:Act) (w:World),(∀t ∈ ts,t<ops.size∧keep t=false)→aIW md ops ts listed=true→
 wpList P ops Q (oN ops.toList ts) a w→iH P md ops Q S keep ts.length listed a w
 |[],listed,a,w,_,hB,h=>⟨by simpa[aIW]using hB,h⟩
 |t::ts,listed,a,w,hlt,hB,h=>by
  obtain⟨ht,hk⟩:=hlt t (by simp);have h0:ops[t]?=some ops[t]:=by simp[ht]
  have h0':ops.toList[t]?=some ops[t]:=by simp[ht]
  simp only[aIW,aR,aM]at hB;simp only[oN,h0']at h;refine⟨fun h1=>(by rw[hB.1]at h1;cases h1),fun i hi=>?_⟩;rw[hB.1]at hi;have hit:i=t:=by simpa using hi
  subst hit;have hw:wpOp P ops Q i (wpList P ops Q (oN ops.toList ts)) a w:=by unfold wpOp;simp only[h0];exact h
  exact wpOp_mono (fun a' w' h'=>⟨fun hk'=>(by rw[hk]at hk';cases hk'),aAc ts _ a' w' (fun t ht=>hlt t (by simp[ht])) hB.2 h'⟩) hw
theorem sJ{ts:List Nat}(hsel:Region.noSelect ops=true)(hQ:∀c (a:Act) (i:Nat) (o:Oper) v w,ops[i]?=some o→Q (.panic c) (a.put o.dst v) w→Q (.panic c) a w)
 (hkeep:∀t,t<ops.size→keep t=false→t ∈ ts) (hts:∀t ∈ ts,t<ops.size∧keep t=false):
 ∀(hs:List (Nat×Nat)) (listed:Array Bool) (a:Act) (w:World),S w→(∀p ∈ hs,p.2<ops.size)→(∀p ∈ hs,p.1=1→∀t ∈ ts,vZ md ops p.2 ops.size t=true)→Closed md ops listed→
 aAb md ops ts hs listed=true→
 eN P ops Q S (fun a'' w''=>wpList P ops Q (oN ops.toList ts) a'' w'') (kC ops.toList hs) a w→
 iH P md ops Q S keep (hs.length+ts.length) listed a w
 |[],listed,a,w,_,_,_,_,hB,h=>by
  rw[List.length_nil,Nat.zero_add];exact aAc ts listed a w hts hB h
 |(0,k)::hs,listed,a,w,hS,hlt,hwt,inv,hB,h=>by
  have hk:=hlt (0,k) (by simp);have h0:ops[k]?=some ops[k]:=by simp[show k<ops.size from hk]
  have h0':ops.toList[k]?=some ops[k]:=by simp[show k<ops.size from hk]
  simp only[aAb,aR]at hB;obtain⟨⟨hr,hf⟩,hB'⟩:=hB;have hr':k ∈ Region.ready md ops listed:=by simpa using hr
  simp only[kC,h0']at h;rw[bI,show hs.length+1+ts.length=(hs.length+ts.length)+1 by omega];obtain⟨v,hy,hK⟩:=h;have ih:=sJ hsel hQ hkeep hts hs (listed.setIfInBounds k true) (a.put ops[k].dst v) w hS (fun p hp=>hlt p (by simp[hp])) (fun p hp=>hwt p (by simp[hp])) (inv.set hr') hB' hK;exact rA h0 (Region.noSelect_spec hsel) hQ _ listed a w (Region.free_spec h0 hf) hr' hy ih
 |(1,k)::hs,listed,a,w,hS,hlt,hwt,inv,hB,h=>by
  have hk:=hlt (1,k) (by simp);have h0:ops[k]?=some ops[k]:=by simp[show k<ops.size from hk]
  have h0':ops.toList[k]?=some ops[k]:=by simp[show k<ops.size from hk]
  simp only[aAb,aR]at hB;obtain⟨⟨hr,hf⟩,hB'⟩:=hB;have hr':k ∈ Region.ready md ops listed:=by simpa using hr
  simp only[kC,h0']at h;rw[bI,show hs.length+1+ts.length=(hs.length+ts.length)+1 by omega];obtain⟨v,hy,hK⟩:=h;have ih:=sJ hsel hQ hkeep hts hs (listed.setIfInBounds k true) (a.put ops[k].dst v) w hS (fun p hp=>hlt p (by simp[hp])) (fun p hp=>hwt p (by simp[hp])) (inv.set hr') hB' hK;exact vQ h0 (Region.noSelect_spec hsel) hQ (fun t ht hkt=>hwt (1,k) (by simp) rfl t (hkeep t ht hkt)) _ listed a w inv (Region.free_spec h0 hf) hr' hy hS ih
 |(n+2,k)::hs,listed,a,w,hS,hlt,hwt,inv,hB,h=>by
  have hk:=hlt (n+2,k) (by simp);have h0:ops[k]?=some ops[k]:=by simp[show k<ops.size from hk]
  have h0':ops.toList[k]?=some ops[k]:=by simp[show k<ops.size from hk]
  simp only[aAb,aR,aM]at hB;simp only[kC,h0']at h;rw[bI,show hs.length+1+ts.length=(hs.length+ts.length)+1 by omega];refine⟨fun h1=>(by rw[hB.1]at h1;cases h1),fun i hi=>?_⟩;have hi0:=hi;rw[hB.1]at hi;have hit:i=k:=by simpa using hi
  subst hit;have hw:wpOp P ops Q i (fun a' w'=>S w'∧eN P ops Q S (fun a'' w''=>wpList P ops Q (oN ops.toList ts) a'' w'') (kC ops.toList hs) a' w') a w:=by
   unfold wpOp;simp only[h0];unfold eN at h;split
   ·rename_i hwd;rw[if_pos hwd]at h;exact h
   ·rename_i hwd;rw[if_neg hwd]at h;exact h
  exact wpOp_mono (fun a' w' h'=>⟨fun _ _=>h'.1,sJ hsel hQ hkeep hts hs _ a' w' h'.1 (fun p hp=>hlt p (by simp[hp])) (fun p hp=>hwt p (by simp[hp])) (inv.set hi0) hB.2 h'.2⟩) hw
section
variable {id:Nat} {a:Act} {w:World} {l:List Oper} (hs:List (Nat×Nat)) (ts:List Nat) (S:World→Prop)
theorem nB(hm:P.follows .mixedOrders=true)(hB:aKf .any l.toArray hs ts=true)
 (hQ:∀c (a:Act) (i:Nat) (o:Oper) v w,l.toArray[i]?=some o→Q (.panic c) (a.put o.dst v) w→Q (.panic c) a w) (hS:S w.drew)
 (h:eN P l.toArray Q S (fun a'' w''=>wpList P l.toArray Q (oN l ts) a'' w'') (kC l hs) a w.drew):(Code.region id l.toArray true).wp P Q a w:=by
 simp only[aKf,aR,aM]at hB;obtain⟨⟨⟨⟨g,b⟩,r⟩,q⟩,e⟩:=hB;have d:=fun i hi=>of_decide_eq_true (List.all_eq_true.1 q i hi);have k:Closed .any l.toArray (Array.replicate l.toArray.size false):=
  ⟨by simp,fun j oj _ hl=>(by rw[getD_replicate_false]at hl;cases hl)⟩
 have f:∀t,t<l.toArray.size→aEz ts t=false→t ∈ ts:=fun t _ h=>by simpa[aEz]using h
 have n:∀t ∈ ts,t<l.toArray.size∧aEz ts t=false:=fun t ht=>⟨d t (by simp[ht]),by simp[aEz,ht]⟩;have H:=sJ (md:=.any) (keep:=aEz ts) g hQ f n hs _ a w.drew hS (fun p hp=>d p.2 (by simp only[aO,bQ];exact Or.inl ⟨p,hp,rfl⟩))
  (fun p hp hpt t ht=>by
   have m:=List.all_eq_true.1 r p hp;rw[hpt]at m;simp only[BEq.rfl,Bool.not_true,Bool.false_or]at m;exact List.all_eq_true.1 m t ht) k b h
 rw[e]at H;exact wp_region_any hm (wR _ _ _ _ H)
theorem rC(hm:P.follows .mixedOrders=true)(hB:aKf .any l.toArray hs ts=true)
 (hQ:∀c a d v w,Q (.panic c) (Act.put a d v) w→Q (.panic c) a w) (hS:S w.drew)
 (h:eN P l.toArray Q S (fun a'' w''=>wpList P l.toArray Q (oN l ts) a'' w'') (kC l hs) a w.drew):(Code.region id l.toArray true).wp P Q a w:=
 nB hs ts S hm hB (fun c a _ o v w _ h=>hQ c a o.dst v w h) hS h
end
section
variable {o:Oper} {a:Act} {w:World}
theorem cU(ty:TypeId)(x:Operand)(ho:o.op= .load ty x)(p:Addr)(hx:a.eval x= .pointer (some p))(cs:List Value)(d:TypeDesc)(hc:∀j v,cs[j]?=some v→w.cell? (p.add j)=some v)
 (hu:P.underlying ty=some d) (hd:(match d with| .struct _| .array _ _=>true|_=>false)=true) (hi:(P.info? ty).map (·.size)=some cs.length):
 (execOp a.eval o).run P w= .ok (.value (.agg cs.toArray)) w:=by
 unfold execOp;simp only[ho,hx,Instr.loadAt,Instr.sureAddr,aT,Sem.run_pure,Result.andThen_ok,fC w p ty cs d hc hu hd hi]
theorem rl{ty:TypeId}{x:Operand}{p:Addr}{cs:List Value}(hc:∀j v,cs[j]?=some v→w.cell? (p.add j)=some v)(ho:o.op= .load ty x)(hx:a.eval x= .pointer (some p))(hk:ldB P ty cs.length=true):(execOp a.eval o).run P w= .ok (.value (.agg cs.toArray)) w:=by
 obtain⟨d,e,b,c⟩:=aES hk;refine cU ty x ho p hx cs d hc e ?_ c;cases d<;>first|rfl|cases b
end
theorem pA:(∀(a:Act) (i:Nat) (v:Value),a.put (some i) v={a with tmps:=a.tmps.setIfInBounds i v})∧(∀(a:Act) (v:Value),a.put none v=a)∧
 (∀(l:List Value) (i:Nat) (v:Value),l.toArray.setIfInBounds i v=(l.set i v).toArray)∧(∀(x:Value) (l:List Value) (v:Value),(x::l).set 0 v=v::l)∧
 (∀(x:Value) (l:List Value) (n:Nat) (v:Value),(x::l).set (n+1) v=x::l.set n v):=
 ⟨fun _ _ _=>rfl,fun _ _=>rfl,fun _ _ _=>List.setIfInBounds_toArray ..,fun _ _ _=>rfl,fun _ _ _ _=>rfl⟩
section
variable {K:Act→World→Prop} {o:Oper} {rest:List (Nat×Oper)} {a:Act} {w:World} {v:Value}
theorem sW(hg:Region.wanted o (yielded ops a.tmps)=true)(hy:∀x,(execOp a.eval o).run P x= .ok (.value v) x)(h:eN P ops Q S K rest (a.put o.dst v) w):eN P ops Q S K ((0,o)::rest) a w:=aE2 hg hy h
theorem sR(hg:Region.wanted o (yielded ops a.tmps)=true)(hy:∀x,S x→(execOp a.eval o).run P x= .ok (.value v) x)(h:eN P ops Q S K rest (a.put o.dst v) w):eN P ops Q S K ((1,o)::rest) a w:=wU hg hy h
end
theorem sB{K:Act→World→Prop}{b:Nat}{o:Oper}{rest:List (Nat×Oper)}{a:Act}{w:World}{v:Value}(hb:Nat.ble b 1=true)(hg:Region.wanted o (yielded ops a.tmps)=true)(hy:∀x,(b=1→S x)→(execOp a.eval o).run P x= .ok (.value v) x)(h:eN P ops Q S K rest (a.put o.dst v) w):eN P ops Q S K ((b,o)::rest) a w:=by
 rcases b with _|_|b
 ·exact sW hg (fun x=>hy x (fun e=>by cases e)) h
 ·exact sR hg (fun x hx=>hy x (fun _=>hx)) h
 ·cases hb
theorem qP(hq:∀c (a:Act) t w,Q (.panic c) {a with tmps:=t} w=Q (.panic c) a w):∀c a d v w,Q (.panic c) (Act.put a d v) w→Q (.panic c) a w:=by
 intro c a d v w h;cases d
 ·exact h
 ·rw[←hq c a _ w];exact h
def dC:List Oper→List Nat→List (Nat×Oper)
 |_,[]=>[]
 |[],_::_=>[]
 |o::l,b::bs=>(b,o)::dC l bs
def dB:List Oper→List Nat→List Oper
 |l,[]=>l
 |[],_::_=>[]
 |_::l,_::bs=>dB l bs
def hsB:List Nat→Nat→List (Nat×Nat)
 |[],_=>[]
 |b::bs,k=>(b,k)::hsB bs (k+1)
theorem aCF:∀(bs:List Nat) (r l:List Oper),bs.length≤l.length→kC (r++l) (hsB bs r.length)=dC l bs
 |[],_,l,_=>by cases l<;>rfl
 |b::bs,r,[],h=>by simp at h
 |b::bs,r,o::l,h=>by
  have h1:(r++o::l)[r.length]?=some o:=by simp
  have a:=aCF bs (r++[o]) l (by simpa using h);simp only[aS,List.singleton_append,aD,aK]at a;simp only[hsB,kC,h1,dC,a]
theorem aAZ:∀(bs:List Nat) (l:List Oper),dB l bs=l.drop bs.length
 |[],l=>by cases l<;>rfl
 |_::_,[]=>by simp[dB]
 |_::bs,_::l=>by simp[dB,aAZ bs l]
theorem aAY:∀(m:Nat) (r l:List Oper),l.length=m→oN (r++l) (List.range' r.length m)=l
 |0,r,l,h=>by
  have:l=[]:=List.eq_nil_of_length_eq_zero h;subst this;rfl
 |m+1,r,[],h=>by simp at h
 |m+1,r,o::l,h=>by
  have h1:(r++o::l)[r.length]?=some o:=by simp
  have ih:=aAY m (r++[o]) l (by simpa using h);simp only[aS,List.singleton_append,aD,aK]at ih;simp only[List.range'_succ,oN,h1,ih]
def aKB(P:Program)(l:List Oper)(bs:List Nat):Bool:=P.follows .mixedOrders&&decide (bs.length≤l.length)&&aKf .any l.toArray (hsB bs 0) (List.range' bs.length (l.length-bs.length))
theorem rlx{id:Nat}{a:Act}{w:World}{l:List Oper}(bs:List Nat)(S:World→Prop)(hB:aKB P l bs=true)
 (hQ:∀c (a:Act) t w,Q (.panic c) {a with tmps:=t} w=Q (.panic c) a w) (hS:S w.drew)
 (h:eN P l.toArray Q S (fun a'' w''=>wpList P l.toArray Q (dB l bs) a'' w'') (dC l bs) a w.drew):(Code.region id l.toArray true).wp P Q a w:=by
 simp only[aKB,aR,aM]at hB;obtain⟨⟨hm,hl⟩,hB⟩:=hB;refine rC (hsB bs 0) (List.range' bs.length (l.length-bs.length)) S hm hB (qP hQ) hS ?_;have e1:=aCF bs [] l hl;have e2:=aAY (l.length-bs.length) (l.take bs.length) (l.drop bs.length) (by simp);rw[cH,bD,Nat.min_eq_left hl]at e2;simp only[List.nil_append,List.length_nil]at e1;rw[e1,e2,←aAZ];exact h
theorem eD{id:Nat}{a:Act}{w:World}{l:List Oper}(bs:List Nat)(hB:aKB P l bs=true)
 (hQ:∀c (a:Act) t w,Q (.panic c) {a with tmps:=t} w=Q (.panic c) a w)
 (h:eN P l.toArray Q (fun x=>x=w.drew) (fun a'' w''=>wpList P l.toArray Q (dB l bs) a'' w'') (dC l bs) a w.drew):(Code.region id l.toArray true).wp P Q a w:=rlx bs (fun x=>x=w.drew) hB hQ rfl h
end
section
open Go.RowKit Go.Conc
theorem wO(W:World)(b ch:Nat)(u:Bool)(hc:W.cell? ⟨b,9,none⟩=some (.chan (some ch)))(hb:W.heap[ch]?=some (.chan 0 #[] (!u) 0 0 false)):
 Calls prog 90 #[.pointer (some ⟨b,0,none⟩)] W fun e w'=>e= .returned (.bool u)∧w'=W:=by
 refine calls_of_loneTo fun cs=>?_;have e:Frame.enter prog 90 #[.pointer (some ⟨b,0,none⟩)] .normal=(base 90).at ⟨#[.pointer (some ⟨b,0,none⟩),undef,undef,undef,undef,undef,undef,undef,undef,undef],[]⟩ [.code (f90.body.getD .skip)]:=by
  simp[Frame.enter,Frame.at,func90,base,f90];try rfl
 rw[e];refine LoneTo.goes (n:=30) ?_;simp only[f90,Option.getD_some]
 s_c stepG_seq
 s_reg
 s_op
 s_c stepG_region_end
 s_c stepG_seq
 s_reg
 s_op
 s_op
 s_op
 s_op
 s_c stepG_region_end
 s_c stepG_seq
 s_reg
 s_stop
 cases u with
 |false=>
  refine LoneTo.step (step_lone_select_recv_shut (c:=ch) (z:=.agg #[]) (cap:=0) (s:=0) (r:=0) (tm:=false) (stepG_comm (cases:=#[rcase ch (.agg #[])]) (blocking:=false) (shape:=.select) (w':=W) rfl rfl (by decide) (by simp[go_sem,execOp,rcase,Act.eval])) hb) ?_;rw[Frame.finish_at]
  walk_nrm
  refine LoneTo.goes (n:=30) ?_
  s_op
  s_op
  s_c stepG_region_end
  s_c stepG_block
  s_cond true
  s_c stepG_seq
  s_reg
  s_op
  s_c stepG_region_end
  s_c stepG_ret'
  s_stop
  exact LoneTo.done ⟨.returned (.bool false),_,rfl,⟨rfl,rfl⟩,rfl,rfl,rfl,rfl,_,func90,by simp[results,f90,Frame.at]⟩
 |true=>
  refine LoneTo.step (step_lone_select_default (c:=ch) (z:=.agg #[]) (cap:=0) (s:=0) (r:=0) (tm:=false) (stepG_comm (cases:=#[rcase ch (.agg #[])]) (blocking:=false) (shape:=.select) (w':=W) rfl rfl (by decide) (by simp[go_sem,execOp,rcase,Act.eval])) hb) ?_;rw[Frame.finish_at]
  walk_nrm
  refine LoneTo.goes (n:=30) ?_
  s_op
  s_op
  s_c stepG_region_end
  s_c stepG_block
  s_cond false
  s_c stepG_seq
  s_reg
  s_op
  s_c stepG_region_end
  s_c stepG_ret'
  s_stop
  exact LoneTo.done ⟨.returned (.bool true),_,rfl,⟨rfl,rfl⟩,rfl,rfl,rfl,rfl,_,func90,by simp[results,f90,Frame.at]⟩
end
structure VOk(v:Vl):Prop where
 o1:0≤v.own
 o2:v.own≤4
 k1:0≤v.tok
 k2:v.tok≤256255
 t1:0≤v.ttl
 t2:v.ttl≤1000
 s1:0≤v.seq
 s2:v.seq≤2147483647
theorem aA5:VOk zVl:=⟨by decide,by decide,by decide,by decide,by decide,by decide,by decide,by decide⟩
structure MOk(f:Cf)(m:Mg):Prop where
 k1:1≤m.kind
 k2:m.kind≤5
 l1:0≤m.lock
 l2:m.lock≤3
 b1:0≤m.bal
 b2:m.bal≤256255
 e1:0≤m.base
 e2:m.base≤256255
 v:VOk m.val
 s1:0≤m.src
 d1:0≤m.dst
 k4:m.kind=4→m.base=0
 toA:m.kind=1∨m.kind=3→m.src<f.clients∧m.dst<2*f.f+1
 toC:¬(m.kind=1∨m.kind=3)→m.src<2*f.f+1∧m.dst<f.clients
structure OOk(f:Cf)(N:Int)(o:On):Prop where
 k1:1≤o.kind
 k2:o.kind≤4
 l1:0≤o.lock
 l2:o.lock≤3
 t1:0≤o.ttl
 t2:o.ttl≤1000
 g1:0≤o.began
 g2:o.began≤N
 r1:0≤o.tries
 r2:o.tries≤8
 b1:0≤o.att.bal
 b2:o.att.bal≤256255
 a1:0≤o.att.began
 a2:o.att.began≤N
 ans:(o.att.ans.length:Int)≤f.f
 e1:0≤o.att.base
 e2:o.att.base≤256255
 v:VOk o.att.val
 mine:(o.mine.length:Int)≤N
structure CCore(f:Cf)(N:Int)(i:Nat)(c:Ct):Prop where
 num:c.num=i
 i1:0≤c.inc
 i2:c.inc≤63
 c1:0≤c.clock
 c2:c.clock≤N
 r1:0≤c.round
 r2:c.round≤1000
 w:∀l,0≤(c.wat l).since∧(c.wat l).since≤N
structure COk(f:Cf)(N:Int)(i:Nat)(c:Ct):Prop where
 core:CCore f N i c
 dn:c.up=false→c.doing=none
 on:∀o,c.doing=some o→OOk f N o
section
variable {f:Cf} {N M:Int}
theorem OOk.mono{o:On}(h:OOk f N o)(hm:N≤M):OOk f M o:=
 {h with g2:=by have:=h.g2;omega,a2:=by have:=h.a2;omega,mine:=by have:=h.mine;omega}
theorem CCore.mono{i:Nat}{c:Ct}(h:CCore f N i c)(hm:N≤M):CCore f M i c:=
 {h with c2:=by have:=h.c2;omega,w:=fun l=>by have:=h.w l;omega}
theorem COk.mono{i:Nat}{c:Ct}(h:COk f N i c)(hm:N≤M):COk f M i c:=
 ⟨h.core.mono hm,h.dn,fun o ho=>(h.on o ho).mono hm⟩
end
theorem aHy{w:Int→Wt}{N:Int}(h:∀l,0≤(w l).since∧(w l).since≤N)(l:Int)(v:Wt)(h1:0≤v.since)(h2:v.since≤N):∀k,0≤(upd w l v k).since∧(upd w l v k).since≤N:=fun k=>by
 unfold upd;split
 ·exact⟨h1,h2⟩
 ·exact h k
section
variable {f:Cf}{N:Int}{i:Nat}{c:Ct}{o:On}
theorem aJB(h:CCore f N i c)(res tok:Int)(v:Vl):CCore f N i (gW c o res tok v)∧(gW c o res tok v).doing=none∧(gW c o res tok v).up=c.up:=by
 have a:CCore f N i {c with doing:=none}:=⟨h.num,h.i1,h.i2,h.c1,h.c2,h.r1,h.r2,h.w⟩;unfold gW;dsimp only;split
 ·unfold kP oI;split<;>exact⟨⟨h.num,h.i1,h.i2,h.c1,h.c2,h.r1,h.r2,h.w⟩,rfl,rfl⟩
 ·split
  ·exact⟨⟨h.num,h.i1,h.i2,h.c1,h.c2,h.r1,h.r2,h.w⟩,rfl,rfl⟩
  ·split
   ·unfold nM;split
    ·exact⟨a,rfl,rfl⟩
    ·exact⟨⟨h.num,h.i1,h.i2,h.c1,h.c2,h.r1,h.r2,aHy h.w _ _ h.c1 h.c2⟩,rfl,rfl⟩
   ·exact⟨a,rfl,rfl⟩
theorem aC1(h:CCore f N i c)(res tok:Int)(v:Vl):COk f N i (gW c o res tok v):=by
 obtain⟨b,a,d⟩:=aJB (o:=o) h res tok v;exact⟨b,fun _=>a,fun o ho=>by rw[a]at ho;cases ho⟩
def EOk(f:Cf)(e:List Ev):Prop:=(∀m ∈ dJ e,MOk f m)∧e.length≤6
theorem iM:EOk f []:=⟨fun m h=>(by rw[fF]at h;cases h),by decide⟩
theorem xJ(e:Ev)(h:e.kind≠1):EOk f [e]:=⟨fun m hm=>(by
 have:dJ [e]=[]:=by simp[dJ,aAm,h]
 rw[this]at hm;cases hm),by simp⟩
theorem aAF(res own tok:Int):EOk f (rH c o res own tok):=xJ _ (by simp[gE])
theorem sK(c:Ct)(o:On)(kind base:Int)(v:Vl)(n:Nat):dJ (gX c o kind base v n)=(List.range n).map fun (d:Nat)=>⟨kind,c.num,(d:Int),o.lock,o.att.bal,base,v⟩:=by
 unfold dJ gX;rw[List.filter_eq_self.2 (fun e he=>by
  obtain⟨k,_,rfl⟩:=bQ.1 he
  rfl),List.map_map]
 rfl
theorem aCe(hf1:1≤f.f)(hf2:f.f≤2)(hc:f.clients≤4)(h:CCore f N i c)(hi:(i:Int)<f.clients)(ho:0≤o.lock∧o.lock≤3)(hb:0≤o.att.bal∧o.att.bal≤256255)(kind base:Int)(hk:kind=1∨kind=3)(h1:0≤base)(h2:base≤256255)(v:Vl)(hv:VOk v):EOk f (gX c o kind base v (gJ f)):=by
 refine⟨fun m hm=>?_,by simp[gX,gJ];omega⟩;rw[sK]at hm;obtain⟨d,b,rfl⟩:=bQ.1 hm;have a:=List.mem_range.1 b;unfold gJ at a;have:=h.num;exact⟨by show 1≤kind;omega,by show kind≤5;omega,ho.1,ho.2,hb.1,hb.2,h1,h2,hv,by show 0≤c.num;omega,by show(0:Int)≤(d:Int);omega,fun h=>(by exfalso;have:kind=4:=h;omega),fun _=>⟨by show c.num<_;omega,by show(d:Int)<_;omega⟩,fun h=>absurd hk h⟩
structure aKw(f:Cf)(N:Int)(o:On):Prop where
 k1:1≤o.kind
 k2:o.kind≤4
 l1:0≤o.lock
 l2:o.lock≤3
 t1:0≤o.ttl
 t2:o.ttl≤1000
 g1:0≤o.began
 g2:o.began≤N
 r1:0≤o.tries
 r2:o.tries<8
 mine:(o.mine.length:Int)≤N
theorem OOk.base(h:OOk f N o)(hr:o.tries<8):aKw f N o:=⟨h.k1,h.k2,h.l1,h.l2,h.t1,h.t2,h.g1,h.g2,h.r1,hr,h.mine⟩
theorem aBu(hf1:1≤f.f)(hf2:f.f≤2)(hc:f.clients≤4)(h:CCore f N i c)(hi:(i:Int)<f.clients)(hu:c.up=true)(ho:aKw f N o):COk f N i (gD c o)∧EOk f (fO f c o):=by
 unfold gD fO;have g:=h.num;split
 ·exact⟨aC1 h _ _ _,aAF _ _ _⟩
 ·rename_i d;have b:0≤(aIJ c).bal:=by have:=h.r1;have:=h.i1;show 0≤(c.round+1)*256+c.inc*4+c.num;omega
  have a:(aIJ c).bal≤256255:=by have:=h.i2;show(c.round+1)*256+c.inc*4+c.num≤256255;omega
  refine⟨⟨⟨h.num,h.i1,h.i2,h.c1,h.c2,by show 0≤c.round+1;have:=h.r1;omega,by show c.round+1≤1000;omega,h.w⟩,fun hd=>(by rw[show c.up=false from hd]at hu;cases hu),fun o' ho'=>?_⟩,aCe (o:=lK o c) hf1 hf2 hc h hi ⟨ho.l1,ho.l2⟩ ⟨b,a⟩ 1 0 (Or.inl rfl) (by decide) (by decide) _ aA5⟩;have e:=(aN ho').symm;subst e;exact⟨ho.k1,ho.k2,ho.l1,ho.l2,ho.t1,ho.t2,ho.g1,ho.g2,by show 0≤o.tries+1;have:=ho.r1;omega,by show o.tries+1≤8;have:=ho.r2;omega,b,a,h.c1,h.c2,by show((0:Nat):Int)≤_;omega,by show(0:Int)≤0;omega,by show(0:Int)≤256255;omega,aA5,ho.mine⟩
theorem aDJ(hf1:1≤f.f)(hf2:f.f≤2)(hc:f.clients≤4)(htr:f.tries≤8)(h:CCore f N i c)(hi:(i:Int)<f.clients)(hu:c.up=true)(ho:OOk f N o):COk f N i (kX f c o)∧EOk f (kI f c o):=by
 unfold kX kI;split
 ·rename_i a;exact aBu hf1 hf2 hc h hi hu (ho.base (by omega))
 ·exact⟨aC1 h _ _ _,aAF _ _ _⟩
theorem aDa(h:CCore f N i c)(k l t:Int):CCore f N i (eI c k l t)∧(eI c k l t).up=c.up:=by
 unfold eI;split
 ·exact⟨⟨h.num,h.i1,h.i2,h.c1,h.c2,h.r1,h.r2,h.w⟩,rfl⟩
 ·split<;>exact⟨⟨h.num,h.i1,h.i2,h.c1,h.c2,h.r1,h.r2,h.w⟩,rfl⟩
theorem EOk.cons{e:Ev}{l:List Ev}(h:EOk f l)(hk:e.kind≠1)(hl:l.length≤5):EOk f (e::l):=⟨fun m hm=>(by
 have:dJ (e::l)=dJ l:=by simp[dJ,aAm,hk]
 rw[this]at hm;exact h.1 m hm),by simp;omega⟩
theorem aAs(hf2:f.f≤2):(fO f c o).length≤5:=by
 unfold fO;split
 ·simp[rH]
 ·simp[gX,gJ];omega
theorem aIM(hf1:1≤f.f)(hf2:f.f≤2)(hc:f.clients≤4)(h:COk f N i c)(hN:0≤N)(hi:(i:Int)<f.clients){k l t:Int}(hk1:1≤k)(hk2:k≤4)(hl1:0≤l)(hl2:l≤3)(ht1:0≤t)(ht2:t≤1000):COk f N i (gU c k l t)∧EOk f (iA f c k l t):=by
 unfold gU iA;split
 ·exact⟨h,iM⟩
 ·rename_i e;have a:c.up=true:=by
   by_cases a:c.up=true
   ·exact a
   ·exact absurd (show jO c≠0 by unfold jO;rw[if_pos (by simpa using a)];decide) e
  have j:CCore f N i {c with doing:=some (newOn c k l t)}:=⟨h.core.num,h.core.i1,h.core.i2,h.core.c1,h.core.c2,h.core.r1,h.core.r2,h.core.w⟩;obtain⟨g,b⟩:=aDa j k l t;obtain⟨m,d⟩:=aBu (o:=newOn c k l t) hf1 hf2 hc g hi (b.trans a) ⟨hk1,hk2,hl1,hl2,ht1,ht2,h.core.c1,h.core.c2,(by decide:(0:Int)≤0),(by decide:(0:Int)<8),(by show((0:Nat):Int)≤N;omega)⟩;exact⟨m,d.cons (show(2:Int)≠1 by decide) (aAs hf2)⟩
theorem aKr(hf1:1≤f.f)(hf2:f.f≤2)(hc:f.clients≤4)(htr:f.tries≤8)(h:COk f N i c)(hi:(i:Int)<f.clients):COk f (N+1) i (lP f c)∧EOk f (oE f c):=by
 unfold lP oE;split
 ·exact⟨h.mono (by omega),iM⟩
 ·rename_i d;dsimp only;have b:CCore f (N+1) i {c with clock:=c.clock+1}:=⟨h.core.num,h.core.i1,h.core.i2,by show 0≤c.clock+1;have:=h.core.c1;omega,by show c.clock+1≤N+1;have:=h.core.c2;omega,h.core.r1,h.core.r2,fun l=>by have:=h.core.w l;show 0≤(c.wat l).since∧(c.wat l).since≤N+1;omega⟩;have a:COk f (N+1) i {c with clock:=c.clock+1}:=⟨b,h.dn,fun o ho=>(h.on o ho).mono (by omega)⟩;cases hd:c.doing with
  |none=>exact⟨(by first|exact a|(have q:=a;rw[hd]at q;exact q)),iM⟩
  |some o=>
   dsimp only;split
   ·have:=aDJ hf1 hf2 hc htr b hi (by simpa using d) ((h.on o hd).mono (by omega));exact(by first|exact this|(have q:=this;rw[hd]at q;exact q))
   ·exact⟨(by first|exact a|(have q:=a;rw[hd]at q;exact q)),iM⟩
theorem aJX(h:COk f N i c)(hN:0≤N):COk f N i (uD c)∧EOk f (uM c):=by
 unfold uD uM;split
 ·exact⟨h,iM⟩
 ·exact⟨⟨⟨h.core.num,h.core.i1,h.core.i2,(by decide:(0:Int)≤0),hN,(by decide:(0:Int)≤0),(by decide:(0:Int)≤1000),fun l=>⟨(by decide:(0:Int)≤0),hN⟩⟩,fun _=>rfl,fun o ho=>by cases ho⟩,xJ _ (show(4:Int)≠1 by decide)⟩
theorem aHh(h:COk f N i c):COk f N i (mT c)∧EOk f (nE c):=by
 unfold mT nE;split
 ·exact⟨h,iM⟩
 ·rename_i a;have b:c.inc≠63:=fun e=>a (by unfold gS;split<;>simp[e]);refine⟨⟨⟨h.core.num,by show 0≤c.inc+1;have:=h.core.i1;omega,by show c.inc+1≤63;have:=h.core.i2;omega,h.core.c1,h.core.c2,h.core.r1,h.core.r2,h.core.w⟩,fun h=>(by cases h),h.on⟩,xJ _ (show(5:Int)≠1 by decide)⟩
theorem aE6(hi:(i:Int)<f.clients)(hc:f.clients≤4)(h:CCore f N i c)(ho:OOk f N o){v:Vl}(hv:VOk v):VOk (eK f c o v).next:=by
 have b:=h.num;have a:VOk ⟨c.num+1,o.att.bal,o.ttl,1⟩:=⟨by show 0≤c.num+1;omega,by show c.num+1≤4;omega,ho.b1,ho.b2,ho.t1,ho.t2,(by decide:(0:Int)≤1),(by decide:(1:Int)≤2147483647)⟩;unfold eK;split
 ·unfold jH;split
  ·exact hv
  ·split
   ·exact aA5
   ·split
    ·exact a
    ·exact hv
 ·split
  ·unfold pG;split
   ·exact⟨hv.o1,hv.o2,hv.k1,hv.k2,ho.t1,ho.t2,by show 0≤min (v.seq+1) 2147483647;have:=hv.s1;omega,by show min (v.seq+1) 2147483647≤2147483647;omega⟩
   ·exact hv
  ·split
   ·unfold jN;split
    ·exact⟨(by decide:(0:Int)≤0),(by decide:(0:Int)≤4),hv.k1,hv.k2,(by decide:(0:Int)≤0),(by decide:(0:Int)≤1000),ho.b1,by show o.att.bal≤2147483647;have:=ho.b2;omega⟩
    ·split
     ·exact hv
     ·split
      ·exact aA5
      ·exact hv
   ·exact hv
theorem aFG(hf1:1≤f.f)(hf2:f.f≤2)(hc:f.clients≤4)(h:CCore f N i c)(hi:(i:Int)<f.clients)(hu:c.up=true)(ho:OOk f N o)(hans:True):COk f (N+1) i (iG f c o)∧EOk f (gZ f c o):=by
 have a:=aE6 (v:=o.att.val) hi hc h ho ho.v;unfold iG gZ;dsimp only;split
 ·exact⟨(aC1 h _ _ _).mono (by omega),aAF _ _ _⟩
 ·refine⟨⟨⟨h.num,h.i1,h.i2,h.c1,by show c.clock≤N+1;have:=h.c2;omega,h.r1,h.r2,fun l=>by have:=h.w l;show 0≤(c.wat l).since∧(c.wat l).since≤N+1;omega⟩,fun hd=>(by rw[show c.up=false from hd]at hu;cases hu),fun o' ho'=>?_⟩,aCe (o:=iD o (eK f c o o.att.val)) hf1 hf2 hc h hi ⟨ho.l1,ho.l2⟩ ⟨ho.b1,ho.b2⟩ 3 _ (Or.inr rfl) ho.e1 ho.e2 _ a⟩;have e:=(aN ho').symm;subst e;refine⟨ho.k1,ho.k2,ho.l1,ho.l2,ho.t1,ho.t2,ho.g1,by show o.began≤N+1;have:=ho.g2;omega,ho.r1,ho.r2,ho.b1,ho.b2,ho.a1,by show o.att.began≤N+1;have:=ho.a2;omega,by show((0:Nat):Int)≤_;omega,ho.e1,ho.e2,ho.v,?_⟩;unfold iD;dsimp only;have:=ho.mine;split
  ·rw[aD,aK];omega
  ·omega
theorem aDN(ho:OOk f N o){m:Mg}(hm:MOk f m)(hlen:((heardOn o m).att.ans.length:Int)≤f.f):OOk f N (heardOn o m):=by
 refine⟨ho.k1,ho.k2,ho.l1,ho.l2,ho.t1,ho.t2,ho.g1,ho.g2,ho.r1,ho.r2,ho.b1,ho.b2,ho.a1,ho.a2,hlen,?_,?_,?_,ho.mine⟩
 ·show 0≤(if o.att.base<m.base then m.base else o.att.base);split
  ·exact hm.e1
  ·exact ho.e1
 ·show(if o.att.base<m.base then m.base else o.att.base)≤256255;split
  ·exact hm.e2
  ·exact ho.e2
 ·show VOk (if o.att.base<m.base then m.val else o.att.val);split
  ·exact hm.v
  ·exact ho.v
theorem aJu(hf1:1≤f.f)(hf2:f.f≤2)(hc:f.clients≤4)(h:CCore f N i c)(hd:c.doing=some o)(hi:(i:Int)<f.clients)(hu:c.up=true)(ho:OOk f N o){m:Mg}(hm:MOk f m):COk f (N+1) i (jT f c o m)∧EOk f (kB f c o m):=by
 unfold jT kB;split
 ·exact⟨(⟨h,fun h'=>(by rw[h']at hu;cases hu),fun o' ho'=>by rw[hd]at ho';cases ho';exact ho⟩:COk f N i c).mono (by omega),iM⟩
 ·dsimp only;have a:∀d,CCore f N i {c with doing:=d}:=fun d=>⟨h.num,h.i1,h.i2,h.c1,h.c2,h.r1,h.r2,h.w⟩;split
  ·rename_i e;exact⟨(⟨a _,fun h'=>(by rw[show c.up=false from h']at hu;cases hu),fun o' ho'=>by cases ho';exact aDN ho hm e⟩:COk f N i _).mono (by omega),iM⟩
  ·split
   ·have b:OOk f N {heardOn o m with att:={(heardOn o m).att with ans:=[]}}:=by
     have:=aDN (o:={o with att:={o.att with ans:=[]}}) ⟨ho.k1,ho.k2,ho.l1,ho.l2,ho.t1,ho.t2,ho.g1,ho.g2,ho.r1,ho.r2,ho.b1,ho.b2,ho.a1,ho.a2,(by show((0:Nat):Int)≤_;omega),ho.e1,ho.e2,ho.v,ho.mine⟩ hm (by show((0+1:Nat):Int)≤_;omega);exact⟨this.k1,this.k2,this.l1,this.l2,this.t1,this.t2,this.g1,this.g2,this.r1,this.r2,this.b1,this.b2,this.a1,this.a2,(by show((0:Nat):Int)≤_;omega),this.e1,this.e2,this.v,this.mine⟩
    have g:=aFG hf1 hf2 hc (a (some (heardOn o m))) hi hu b trivial;exact g
   ·exact⟨(aC1 h _ _ _).mono (by omega),aAF _ _ _⟩
theorem aJR(hf1:1≤f.f)(hf2:f.f≤2)(hc:f.clients≤4)(htr:f.tries≤8)(h:COk f N i c)(hi:(i:Int)<f.clients){m:Mg}(hm:MOk f m):COk f (N+1) i (gO f c m)∧EOk f (iB f c m):=by
 unfold gO iB;split
 ·exact⟨h.mono (by omega),iM⟩
 ·rename_i d;have a:c.up=true:=by simpa using d
  cases hd:c.doing with
  |none=>exact⟨(by first|exact h.mono (by omega)|(have q:=h.mono (by omega);rw[hd]at q;exact q)),iM⟩
  |some o=>
   dsimp only;have b:=h.on o hd;split
   ·exact⟨(by first|exact h.mono (by omega)|(have q:=h.mono (by omega);rw[hd]at q;exact q)),iM⟩
   ·split
    ·have e:CCore f (N+1) i {c with round:=max c.round (m.base / 256)}:=⟨h.core.num,h.core.i1,h.core.i2,h.core.c1,by show c.clock≤N+1;have:=h.core.c2;omega,by show 0≤max c.round (m.base / 256);have:=h.core.r1;omega,by show max c.round (m.base / 256)≤1000;have:=h.core.r2;have:=hm.e2;omega,fun l=>by have:=h.core.w l;show 0≤(c.wat l).since∧(c.wat l).since≤N+1;omega⟩;have:=aDJ hf1 hf2 hc htr e hi a (b.mono (by omega));exact(by first|exact this|(have q:=this;rw[hd]at q;exact q))
    ·split
     ·have:=aJu hf1 hf2 hc h.core hd hi a b hm;exact(by first|exact this|(have q:=this;rw[hd]at q;exact q))
     ·exact⟨(by first|exact h.mono (by omega)|(have q:=h.mono (by omega);rw[hd]at q;exact q)),iM⟩
end
def wiB(n l m:Int):Bool:=decide (l≤n)&&decide (n≤m)
theorem iI(n l m:Int)(w:World):
 Calls prog 80 #[.int .i64 n,.int .i64 l,.int .i64 m] w fun e w'=>e= .returned (.bool (wiB n l m))∧w'=w:=by
 by_cases a:l≤n<;>by_cases b:n≤m<;>
 ·go_enter func80,ntmps80;go_wp2;go_ret;exact⟨by simp[wiB,a,b],rfl⟩
theorem uZ(n:Int)(w:World):
 Calls prog 66 #[.int .i64 n] w fun e w'=>e= .returned (.int .i64 n)∧w'=w:=by
 go_enter func66,ntmps66;go_wp2;go_ret;exact⟨rfl,rfl⟩
def cfA(f c p t:Int):Bool:=wiB f 1 2&&wiB c 1 4&&wiB p 1 20&&wiB t 1 8
def cfB(d k r:Int):Bool:=wiB d 0 10&&wiB k 2 16&&wiB r 100 2000
abbrev cfV(f c p t d k r:Int):Value:=.agg #[.int .i64 f,.int .i64 c,.int .i64 p,.int .i64 t,.int .i64 d,.int .i64 k,.int .i64 r]
theorem yB(f c p t d k r:Int)(w:World):
 Calls prog 75 #[cfV f c p t d k r] w fun e w'=>e= .returned (.bool (cfA f c p t&&cfB d k r))∧Below w.heap.size w w':=by
 have B:∀o,Below w.heap.size w (w.alloc o):=fun o=>(aJ _ _).alloc (aE _) o;go_enter func75,ntmps75;go_wp2_with (go_at_call 80;refine(iI _ _ _ _).mono ?_;rintro e w' ⟨rfl,rfl⟩);all_goals
  go_ret;exact⟨by simp[cfA,cfB, *],B _⟩
def cfN(f c p t d k r:Int):Int:=if(cfA f c p t&&cfB d k r)=true then 0 else 1
section
variable (f c p t d k r:Int)
theorem aKF:cfN f c p t d k r=if(1≤f∧f≤2)∧(1≤c∧c≤4)∧(1≤p∧p≤20)∧(1≤t∧t≤8)∧(0≤d∧d≤10)∧(2≤k∧k≤16)∧(100≤r∧r≤2000)then 0 else 1:=by
 unfold cfN;refine ite_congr ?_ (fun _=>rfl) (fun _=>rfl);simp only[cfA,cfB,wiB,aR,aM,eq_iff_iff];constructor<;>intro h<;>omega
theorem aG2(w:World):
 Calls prog 67 #[cfV f c p t d k r] w fun e w'=>e= .returned (.int .i64 (cfN f c p t d k r))∧Below w.heap.size w w':=by
 have B:∀o,Below w.heap.size w (w.alloc o):=fun o=>(aJ _ _).alloc (aE _) o;go_enter func67,ntmps67;go_wp2_with (go_at_call 75;refine(yB _ _ _ _ _ _ _ _).mono ?_;rintro e w' ⟨rfl,a⟩);all_goals
  go_ret;refine⟨?_,(B _).trans (a.mono (by simp))⟩;unfold cfN;cases h1:cfA f c p t<;>cases h2:cfB d k r<;>simp_all
theorem xR(w:World):
 Calls prog 68 #[cfV f c p t d k r] w fun e w'=>e= .returned (.int .i64 (cfN f c p t d k r))∧Below w.heap.size w w':=by
 have B:∀o,Below w.heap.size w (w.alloc o):=fun o=>(aJ _ _).alloc (aE _) o;go_enter func68,ntmps68;go_wp2;all_goals
  go_ret;refine⟨?_,B _⟩;rw[aKF];first
   |(rw[if_pos (by omega)];try rfl)
   |(rw[if_neg (by omega)];try rfl)
   |(have a:=‹(!decide (r≤2000))=true›;simp only[Bool.not_eq_true',decide_eq_false_iff_not]at a;rw[if_neg (by omega)];rfl)
   |(have a:=‹(!decide (r≤2000))=false›;simp only[Bool.not_eq_false',aM]at a;rw[if_pos (by omega)];rfl)
   |(have a:=‹¬(!decide (r≤2000))=true›;simp only[Bool.not_eq_true',decide_eq_false_iff_not,Decidable.not_not]at a;rw[if_pos (by omega)];rfl)
end
section
variable {P:Program}{ops:Array Oper}{md:Region.Mode}{S:World→Prop}{Q:Exit→Act→World→Prop}{keep:Nat→Bool}
def aGP:List (Nat×Nat)→Array Bool→Array Bool
 |[],listed=>listed
 |(_,k)::l,listed=>aGP l (listed.setIfInBounds k true)
def aAf(md:Region.Mode)(ops:Array Oper):List (Nat×Nat)→Array Bool→Bool
 |[],_=>true
 |(0,k)::l,listed=>(Region.ready md ops listed).contains k&&Region.free md ops listed k&&aAf md ops l (listed.setIfInBounds k true)
 |(1,k)::l,listed=>(Region.ready md ops listed).contains k&&Region.free md ops listed k&&aAf md ops l (listed.setIfInBounds k true)
 |(_+2,k)::l,listed=>decide (Region.ready md ops listed=[k])&&aAf md ops l (listed.setIfInBounds k true)
def aKx(md:Region.Mode)(ops:Array Oper)(hs:List (Nat×Nat))(n:Nat):Bool:=
 Region.noSelect ops&&aAf md ops hs (Array.replicate ops.size false)&&((hs.map (·.2)).all fun i=>decide (i<ops.size))&&decide (hs.length+n=ops.size)
theorem qG(n:Nat)(hsel:Region.noSelect ops=true)(hQ:∀c a d v w,Q (.panic c) (Act.put a d v) w→Q (.panic c) a w):
 ∀(hs:List (Nat×Nat)) (listed:Array Bool) (a:Act) (w:World),S w→(∀p ∈ hs,p.2<ops.size)→Closed md ops listed→aAf md ops hs listed=true→
 eN P ops Q S (fun a'' w''=>iH P md ops Q S (fun _=>true) n (aGP hs listed) a'' w'') (kC ops.toList hs) a w→
 iH P md ops Q S (fun _=>true) (hs.length+n) listed a w
 |[],listed,a,w,_,_,_,_,h=>by
  rw[List.length_nil,Nat.zero_add];exact h
 |(0,k)::hs,listed,a,w,hS,hlt,inv,hB,h=>by
  have hk:=hlt (0,k) (by simp);have h0:ops[k]?=some ops[k]:=by simp[show k<ops.size from hk]
  have h0':ops.toList[k]?=some ops[k]:=by simp[show k<ops.size from hk]
  simp only[aAf,aR]at hB;obtain⟨⟨hr,hf⟩,hB'⟩:=hB;have hr':k ∈ Region.ready md ops listed:=by simpa using hr
  simp only[kC,h0']at h;rw[bI,show hs.length+1+n=(hs.length+n)+1 by omega];obtain⟨v,hy,hK⟩:=h;have ih:=qG n hsel hQ hs (listed.setIfInBounds k true) (a.put ops[k].dst v) w hS (fun p hp=>hlt p (by simp[hp])) (inv.set hr') hB' hK;exact rA h0 (Region.noSelect_spec hsel) (fun c a _ o v w _ h=>hQ c a o.dst v w h) _ listed a w (Region.free_spec h0 hf) hr' hy ih
 |(1,k)::hs,listed,a,w,hS,hlt,inv,hB,h=>by
  have hk:=hlt (1,k) (by simp);have h0:ops[k]?=some ops[k]:=by simp[show k<ops.size from hk]
  have h0':ops.toList[k]?=some ops[k]:=by simp[show k<ops.size from hk]
  simp only[aAf,aR]at hB;obtain⟨⟨hr,hf⟩,hB'⟩:=hB;have hr':k ∈ Region.ready md ops listed:=by simpa using hr
  simp only[kC,h0']at h;rw[bI,show hs.length+1+n=(hs.length+n)+1 by omega];obtain⟨v,hy,hK⟩:=h;have ih:=qG n hsel hQ hs (listed.setIfInBounds k true) (a.put ops[k].dst v) w hS (fun p hp=>hlt p (by simp[hp])) (inv.set hr') hB' hK;exact vQ h0 (Region.noSelect_spec hsel) (fun c a _ o v w _ h=>hQ c a o.dst v w h) (fun t _ hkt=>by simp at hkt) _ listed a w inv (Region.free_spec h0 hf) hr' hy hS ih
 |(m+2,k)::hs,listed,a,w,hS,hlt,inv,hB,h=>by
  have hk:=hlt (m+2,k) (by simp);have h0:ops[k]?=some ops[k]:=by simp[show k<ops.size from hk]
  have h0':ops.toList[k]?=some ops[k]:=by simp[show k<ops.size from hk]
  simp only[aAf,aR,aM]at hB;simp only[kC,h0']at h;rw[bI,show hs.length+1+n=(hs.length+n)+1 by omega];refine⟨fun h1=>(by rw[hB.1]at h1;cases h1),fun i hi=>?_⟩;have hi0:=hi;rw[hB.1]at hi;have hit:i=k:=by simpa using hi
  subst hit;have hw:wpOp P ops Q i (fun a' w'=>S w'∧eN P ops Q S (fun a'' w''=>iH P md ops Q S (fun _=>true) n (aGP hs (listed.setIfInBounds i true)) a'' w'') (kC ops.toList hs) a' w') a w:=by
   unfold wpOp;simp only[h0];unfold eN at h;split
   ·rename_i hwd;rw[if_pos hwd]at h;exact h
   ·rename_i hwd;rw[if_neg hwd]at h;exact h
  exact wpOp_mono (fun a' w' h'=>⟨fun _ _=>h'.1,qG n hsel hQ hs _ a' w' h'.1 (fun p hp=>hlt p (by simp[hp])) (inv.set hi0) hB.2 h'.2⟩) hw
section
variable {f:Nat} {listed:Array Bool} {a:Act} {w:World}
theorem dQ(rs:List Nat)(hr:Region.ready md ops listed=rs)(hne:rs≠[])(h:∀i ∈ rs,∀C:Act→World→Prop,(∀a' w',S w'→iH P md ops Q S keep f (listed.setIfInBounds i true) a' w'→C a' w')→wpOp P ops Q i C a w):iH P md ops Q S keep (f+1) listed a w:=
 ⟨fun h0=>absurd (hr.symm.trans h0) hne,fun i hi=>wpOp_mono (fun _ _ h'=>⟨fun _ _=>h'.1,h'.2⟩) (h i (hr▸hi) (fun a' w'=>S w'∧iH P md ops Q S keep f (listed.setIfInBounds i true) a' w') (fun _ _ h1 h2=>⟨h1,h2⟩))⟩
theorem qQ(hr:Region.ready md ops listed=[])(h:Q .normal a w):iH P md ops Q S keep f listed a w:=by
 cases f with
 |zero=>exact⟨hr,h⟩
 |succ f=>exact⟨fun _=>h,fun i hi=>by rw[hr]at hi;cases hi⟩
end
theorem dK{i:Nat}{o:Oper}{a:Act}{w:World}{K:Act→World→Prop}(hi:ops[i]?=some o)(hw:Region.wanted o (yielded ops a.tmps)=true)(h:o.wp P a w K Q):wpOp P ops Q i K a w:=by
 unfold wpOp;simp only[hi];rw[if_pos hw];exact Or.inl h
theorem pW{id:Nat}{a:Act}{w:World}{l:List Oper}(hs:List (Nat×Nat))(n:Nat)(S:World→Prop)(hm:P.follows .mixedOrders=true)(hB:aKx .any l.toArray hs n=true)
 (hQ:∀c a d v w,Q (.panic c) (Act.put a d v) w→Q (.panic c) a w) (hS:S w.drew)
 (h:eN P l.toArray Q S (fun a'' w''=>iH P .any l.toArray Q S (fun _=>true) n (aGP hs (Array.replicate l.toArray.size false)) a'' w'') (kC l hs) a w.drew):(Code.region id l.toArray true).wp P Q a w:=by
 simp only[aKx,aR,aM]at hB;obtain⟨⟨⟨f,b⟩,m⟩,e⟩:=hB;have k:=fun i hi=>of_decide_eq_true (List.all_eq_true.1 m i hi);have g:Closed .any l.toArray (Array.replicate l.toArray.size false):=
  ⟨by simp,fun j oj _ hl=>(by rw[getD_replicate_false]at hl;cases hl)⟩
 have H:=qG (md:=.any) n f hQ hs _ a w.drew hS (fun p hp=>k p.2 (bQ.2 ⟨p,hp,rfl⟩)) g b h;rw[e]at H;exact wp_region_any hm (wR _ _ _ _ H)
end
section
variable {P:Program}{ops:Array Oper}{md:Region.Mode}{S:World→Prop}{Q:Exit→Act→World→Prop}
theorem aBB{keep:Nat→Bool}(m:Nat)(I:Nat→Array Bool→Act→World→Prop)(hS:∀n listed a w,I n listed a w→S w)(h0:∀listed a w,I 0 listed a w→iH P md ops Q S keep m listed a w)
 (hs:∀n listed a w,I (n+1) listed a w→∃rs,Region.ready md ops listed=rs∧rs≠[]∧∀i ∈ rs,wpOp P ops Q i (fun a' w'=>I n (listed.setIfInBounds i true) a' w') a w):
 ∀n listed a w,I n listed a w→iH P md ops Q S keep (n+m) listed a w
 |0,listed,a,w,h=>by rw[Nat.zero_add];exact h0 listed a w h
 |n+1,listed,a,w,h=>by
  obtain⟨rs,hr,hne,hall⟩:=hs n listed a w h;rw[show n+1+m=(n+m)+1 by omega];exact⟨fun e=>absurd (hr.symm.trans e) hne,fun i hi=>wpOp_mono (fun a' w' hI=>⟨fun _ _=>hS _ _ _ _ hI,aBB m I hS h0 hs n _ a' w' hI⟩) (hall i (hr▸hi))⟩
theorem aF8{keep:Nat→Bool}(m:Nat)(I:Nat→Array Bool→Act→World→Prop)
 (hs:∀n listed a w,I n listed a w→(∀n',n'<n→∀listed a w,I n' listed a w→iH P md ops Q S keep (n'+m) listed a w)→iH P md ops Q S keep (n+m) listed a w):
 ∀n listed a w,I n listed a w→iH P md ops Q S keep (n+m) listed a w:=fun n=>by
 induction n using Nat.strongRecOn with
 |_ n ih=>exact fun listed a w h=>hs n listed a w h (fun n' hn'=>ih n' hn')
theorem eZ{keep:Nat→Bool}{i:Nat}{o:Oper}{v:Value}{f:Nat}{listed:Array Bool}{a:Act}{w:World}(hi:ops[i]?=some o)(hns:Region.noSelect ops=true)(hQ:∀c a d v w,Q (.panic c) (Act.put a d v) w→Q (.panic c) a w)
 (hr:(Region.ready md ops listed).contains i=true) (hf:Region.free md ops listed i=true) (hg:o.guard=none) (hy:∀x,(execOp a.eval o).run P x= .ok (.value v) x) (H:iH P md ops Q S keep f (listed.setIfInBounds i true) (a.put o.dst v) w):iH P md ops Q S keep (f+1) listed a w:=
 rA hi (Region.noSelect_spec hns) (fun c a _ o v w _ h=>hQ c a o.dst v w h) f listed a w (Region.free_spec hi hf) (by simpa using hr) (Or.inl ⟨by simp[Region.wanted,hg],hy⟩) H
end
end Go.Proofs.YtbbdgokdfhdpiaaGreatDoor
