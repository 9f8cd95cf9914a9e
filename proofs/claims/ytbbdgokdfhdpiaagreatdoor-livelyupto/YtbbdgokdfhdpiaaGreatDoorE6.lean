/- A part of the proof: Lex, Lex2, Lex3. -/
import Derived.OrdersHeld
import Derived.StillTail
import Derived.Test.YtbbdgokdfhdpiaaGreatDoorE1
namespace Go.Proofs.YtbbdgokdfhdpiaaGreatDoor
set_option linter.all false
set_option maxRecDepth 100000
set_option maxHeartbeats 40000000
open Go.Proofs.Tryz Go.RowKit
section
variable {P:Program}{ops:Array Oper}{md:Region.Mode}{S:World→Prop}{Q:Exit→Act→World→Prop}{keep:Nat→Bool}
def hU(P:Program)(md:Region.Mode)(ops:Array Oper)(Q:Exit→Act→World→Prop)(S:World→Prop)(keep:Nat→Bool):Nat→Array Bool→Act→World→Prop
 |0,listed,a,w=>Region.ready md ops listed=[]∧Q .normal a w
 |f+1,listed,a,w=>
  (Region.ready md ops listed=[]→Q .normal a w)∧
  ∀i ∈ Region.ready md ops listed,wpOp P ops Q i (fun a' w'=>(keep i=true→S w→S w')∧hU P md ops Q S keep f (listed.setIfInBounds i true) a' w') a w
theorem rZ:∀(f:Nat) (listed:Array Bool) (a:Act) (w:World),hU P md ops Q S keep f listed a w→wpAny P md ops Q f listed a w
 |0,_,_,_,h=>h
 |f+1,_,_,_,h=>⟨h.1,fun i hi=>wpOp_mono (fun a' w' h'=>rZ f _ a' w' h'.2) (h.2 i hi)⟩
structure Closed(md:Region.Mode)(ops:Array Oper)(listed:Array Bool):Prop where
 size:listed.size=ops.size
 closed:∀j oj,ops[j]?=some oj→listed.getD j false=true→∀e ∈ oj.after,Region.binds md e=true→listed.getD e.on false=true
theorem Closed.set{i:Nat}{listed:Array Bool}(inv:Closed md ops listed)(hi:i ∈ Region.ready md ops listed):Closed md ops (listed.setIfInBounds i true):=by
 obtain⟨_,d,c,b⟩:=mem_ready.1 hi;refine⟨by simp[inv.size],fun j oj hj hl e he hb=>?_⟩;by_cases a:i=j
 ·subst a;have:oj=d:=aN (hj.symm.trans c);subst this;exact getD_set_true (b e he hb)
 ·rw[getD_set_ne false a]at hl;exact getD_set_true (inv.closed j oj hj hl e he hb)
def rJ(md:Region.Mode)(ops:Array Oper)(i:Nat):Nat→Nat→Bool
 |0,_=>false
 |f+1,t=>match ops[t]? with
  |some o=>o.after.any fun e=>Region.binds md e&&(e.on==i||rJ md ops i f e.on)
  |none=>false
theorem tF{i:Nat}{listed:Array Bool}(inv:Closed md ops listed):∀(f t:Nat),rJ md ops i f t=true→(∃o,ops[t]?=some o∧∀e ∈ o.after,Region.binds md e=true→listed.getD e.on false=true)→listed.getD i false=true
 |0,t,h,_=>by simp[rJ]at h
 |f+1,t,h,⟨o,ho,hall⟩=>by
  simp only[rJ,ho]at h;obtain⟨e,he,hb⟩:=Array.any_eq_true'.1 h;simp only[aR,Bool.or_eq_true,beq_iff_eq]at hb;have hl:=hall e he hb.1;rcases hb.2 with h2|h2
  ·rw[←h2];exact hl
  ·have hlt:e.on<ops.size:=by
    rcases Nat.lt_or_ge e.on listed.size with h'|h'
    ·rw[←inv.size];exact h'
    ·simp[Array.getElem?_eq_none h']at hl
   exact tF inv f e.on h2 ⟨ops[e.on],by simp[hlt],fun e' he' hb'=>inv.closed e.on _ (by simp[hlt]) hl e' he' hb'⟩
def YieldsS(P:Program)(ops:Array Oper)(S:World→Prop)(o:Oper)(v:Value)(a:Act):Prop:=
 (Region.wanted o (yielded ops a.tmps)=true∧∀w,S w→((execOp a.eval o).run P w= .ok (.value v) w∨∃f args,(execOp a.eval o).run P w= .ok (.enter f args) w∧Calls P f args w (fun e w'=>e= .returned v∧w'=w)))∨
 (Region.wanted o (yielded ops a.tmps)=false∧v=undef)
theorem YieldsS.wpOp{i:Nat}{o:Oper}{v:Value}{a:Act}(hi:ops[i]?=some o)(hy:YieldsS P ops S o v a)
 {K:Act→World→Prop} {w:World} (hS:S w) (h:K (a.put o.dst v) w):wpOp P ops Q i K a w:=by
 unfold Go.wpOp;simp only[hi];rcases hy with⟨c,b⟩|⟨c,rfl⟩
 ·rcases b w hS with b|⟨f,d,b,g⟩
  ·simp only[c,if_true,Oper.wp,b,Oper.upon];exact .inl h
  ·simp only[c,if_true,Oper.wp,b,Oper.upon];refine .inl (g.mono fun e w' he=>?_);obtain⟨rfl,rfl⟩:=he;exact h
 ·simp only[c,aU,if_false];exact h
theorem YieldsS.of_same{o:Oper}{v:Value}{a a':Act}(hy:YieldsS P ops S o v a)(he:execOp a'.eval o=execOp a.eval o)
 (hw:Region.wanted o (yielded ops a'.tmps)=Region.wanted o (yielded ops a.tmps)):YieldsS P ops S o v a':=by
 unfold YieldsS at*;rw[he,hw];exact hy
theorem aEb{j:Nat}{oi oj:Oper}{v:Value}(hj:ops[j]?=some oj)(hap:oi.apart ops oj=true)
 (hsi:∀cs b,oi.op≠.select cs b) (hsj:∀cs b,oj.op≠.select cs b)
 (hQ:∀c a w,Q (.panic c) (a.put oi.dst v) w→Q (.panic c) a w) {K:Act→World→Prop} {a:Act} {w:World}
 (hy:YieldsS P ops S oi v a) (h:wpOp P ops Q j K (a.put oi.dst v) w):
 wpOp P ops Q j (fun a' w'=>YieldsS P ops S oi v a'∧K (a'.put oi.dst v) w') a w:=by
 obtain⟨p,m,q⟩:=Oper.apart_spec hap;have g:∀(a:Act),YieldsS P ops S oi v a→∀u,YieldsS P ops S oi v (a.put oj.dst u):=fun a hy u=>
  hy.of_same (execOp_put oi hsi a oj.dst u q) (wanted_put oi a oj.dst u q)
 have k:∀d,YieldsS P ops S oi v {a with defers:=d::a.defers}:=fun d=>hy.of_same rfl rfl;unfold wpOp at*;simp only[hj]at*;rw[wanted_put oj a oi.dst v p]at h;split
 ·rename_i o;simp only[o,if_true]at h;rcases h with h|⟨i,l⟩
  case inr=>exact .inr ⟨by unfold Oper.asks at*;rw[execOp_put oj hsj a oi.dst v p]at i;exact i,l⟩
  refine .inl ?_;unfold Oper.wp at*;rw[execOp_put oj hsj a oi.dst v p]at h;generalize (execOp a.eval oj).run P w=r at*;cases r with
  |ok n w'=>
   cases n<;>simp only[Oper.upon]at h⊢
   case value u=>exact⟨g a hy u,by rw[←Act.put_comm a v u m];exact h⟩
   case skip=>exact⟨g a hy _,by rw[←Act.put_comm a v undef m];exact h⟩
   case defer d=>
    refine⟨g _ (k d) _,?_⟩;rw[←Act.put_comm _ v undef m,←Act.put_defers];exact h
   case enter f args=>
    refine Calls.mono h fun e w'' he=>?_;cases e with
    |returned u=>exact⟨g a hy u,by rw[←Act.put_comm a v u m];exact he⟩
    |panicked c=>exact hQ _ _ _ he
    |outgrown=>exact he
   case row row args=>exact Rows.mono h fun u w'' he=>⟨g a hy u,by rw[←Act.put_comm a v u m];exact he⟩
  |halt x w'=>
   cases x<;>simp only[Oper.upon]at h⊢
   case panic u=>exact hQ _ _ _ h
 ·rename_i o;simp only[o]at h;exact⟨g a hy _,by rw[←Act.put_comm a v undef m];exact h⟩
section
variable {i:Nat} {oi:Oper} {v:Value}
theorem oA(hi:ops[i]?=some oi)(hsel:∀(j:Nat) (o:Oper) cs b,ops[j]?=some o→o.op≠.select cs b)
 (hQ:∀c (a:Act) (i:Nat) (o:Oper) v w,ops[i]?=some o→Q (.panic c) (a.put o.dst v) w→Q (.panic c) a w):
 ∀(f:Nat) (listed:Array Bool) (a:Act) (w:World),
  (∀j oj,ops[j]?=some oj→j≠i→listed.getD j true=false→(∀e ∈ oj.after,Region.binds md e=true→e.on≠i)→oi.apart ops oj=true)→
  i ∈ Region.ready md ops listed→Yields P ops oi v a→
  hU P md ops Q S keep f (listed.setIfInBounds i true) (a.put oi.dst v) w→hU P md ops Q S keep (f+1) listed a w:=by
 intro f;induction f with
 |zero=>
  intro listed a w _ p x H;refine⟨fun h=>(by rw[h]at p;cases p),fun j hj=>?_⟩;by_cases d:j=i
  ·subst d;exact x.wpOp hi ⟨fun _ h=>h,H⟩
  ·have:=ready_mono hj d;rw[H.1]at this;cases this
 |succ f ih=>
  intro listed a w g p x H;refine⟨fun h=>(by rw[h]at p;cases p),fun j hj=>?_⟩;by_cases d:j=i
  ·subst d;exact x.wpOp hi ⟨fun _ h=>h,H⟩
  ·have u:=H.2 j (ready_mono hj d);obtain⟨n,oj,q,t⟩:=mem_ready.1 hj;have l:=(mem_ready.1 p).1;have s:∀e ∈ oj.after,Region.binds md e=true→e.on≠i:=fun e he hb heq=>by
    have u:=t e he hb;rw[heq,getD_both l]at u;cases u
   have y:=wpOp_put q (g j oj q d n s) (fun cs b=>hsel i oi cs b hi) (fun cs b=>hsel j oj cs b q) (fun c a w h=>hQ c a i oi _ w hi h) x u;have m:∀k ok,ops[k]?=some ok→k≠i→(listed.setIfInBounds j true).getD k true=false→
    (∀e ∈ ok.after,Region.binds md e=true→e.on≠i)→oi.apart ops ok=true:=fun k ok hk hki l hno=>by
    refine g k ok hk hki ?_ hno;by_cases r:j=k
    ·subst r;exact n
    ·rw[getD_set_ne true r]at l;exact l
   refine wpOp_mono (fun a' w' h3=>⟨h3.2.1,ih (listed.setIfInBounds j true) a' w' m (ready_mono p (Ne.symm d)) h3.1 ?_⟩) y;rw[Array.setIfInBounds_comm _ _ d];exact h3.2.2
theorem rD(hi:ops[i]?=some oi)(hsel:∀(j:Nat) (o:Oper) cs b,ops[j]?=some o→o.op≠.select cs b)
 (hQ:∀c (a:Act) (i:Nat) (o:Oper) v w,ops[i]?=some o→Q (.panic c) (a.put o.dst v) w→Q (.panic c) a w)
 (hkeep:∀t,t<ops.size→keep t=false→rJ md ops i ops.size t=true):
 ∀(f:Nat) (listed:Array Bool) (a:Act) (w:World),Closed md ops listed→
  (∀j oj,ops[j]?=some oj→j≠i→listed.getD j true=false→(∀e ∈ oj.after,Region.binds md e=true→e.on≠i)→oi.apart ops oj=true)→
  i ∈ Region.ready md ops listed→YieldsS P ops S oi v a→S w→
  hU P md ops Q S keep f (listed.setIfInBounds i true) (a.put oi.dst v) w→hU P md ops Q S keep (f+1) listed a w:=by
 intro f;induction f with
 |zero=>
  intro listed a w _ _ r z A H;refine⟨fun h=>(by rw[h]at r;cases r),fun j hj=>?_⟩;by_cases d:j=i
  ·subst d;exact z.wpOp hi A ⟨fun _ h=>h,H⟩
  ·have:=ready_mono hj d;rw[H.1]at this;cases this
 |succ f ih=>
  intro listed a w s m r z A H;refine⟨fun h=>(by rw[h]at r;cases r),fun j hj=>?_⟩;by_cases d:j=i
  ·subst d;exact z.wpOp hi A ⟨fun _ h=>h,H⟩
  ·have y:=H.2 j (ready_mono hj d);obtain⟨p,oj,g,q⟩:=mem_ready.1 hj;have l:=(mem_ready.1 r).1;have x:∀e ∈ oj.after,Region.binds md e=true→e.on≠i:=fun e he hb heq=>by
    have y:=q e he hb;rw[heq,getD_both l]at y;cases y
   have C:keep j=true:=by
    cases hk:keep j with
    |true=>rfl
    |false=>
     have B:=(Array.getElem?_eq_some_iff.1 g).1;have:=tF s _ j (hkeep j B hk) ⟨oj,g,q⟩;rw[getD_both l]at this;cases this
   have D:=aEb g (m j oj g d p x) (fun cs b=>hsel i oi cs b hi) (fun cs b=>hsel j oj cs b g) (fun c a w h=>hQ c a i oi _ w hi h) z y;have n:∀k ok,ops[k]?=some ok→k≠i→(listed.setIfInBounds j true).getD k true=false→
    (∀e ∈ ok.after,Region.binds md e=true→e.on≠i)→oi.apart ops ok=true:=fun k ok hk hki l hno=>by
    refine m k ok hk hki ?_ hno;by_cases u:j=k
    ·subst u;exact p
    ·rw[getD_set_ne true u]at l;exact l
   refine wpOp_mono (fun a' w' h3=>⟨h3.2.1,ih (listed.setIfInBounds j true) a' w' (s.set hj) n (ready_mono r (Ne.symm d)) h3.1 (h3.2.1 C A) ?_⟩) D;rw[Array.setIfInBounds_comm _ _ d];exact h3.2.2
end
def dN(P:Program)(ops:Array Oper)(Q:Exit→Act→World→Prop)(S:World→Prop)(K:Act→World→Prop):List (Nat×Oper)→Act→World→Prop
 |[],a,w=>K a w
 |(0,o)::rest,a,w=>∃v,Yields P ops o v a∧dN P ops Q S K rest (a.put o.dst v) w
 |(1,o)::rest,a,w=>∃v,YieldsS P ops S o v a∧dN P ops Q S K rest (a.put o.dst v) w
 |(_+2,o)::rest,a,w=>(if Region.wanted o (yielded ops a.tmps)then o.wp P a w (fun a' w'=>S w'∧dN P ops Q S K rest a' w') Q∨(o.asks P a w∧LetsOut Q)else(S w∧dN P ops Q S K rest (a.put o.dst undef) w))
section
variable {K:Act→World→Prop}
theorem cC{a:Act}{w:World}(h:K a w):dN P ops Q S K [] a w:=h
theorem mM{o:Oper}{rest:List (Nat×Oper)}{a:Act}{w:World}{v:Value}(hg:o.guard=none)(hy:∀x,(execOp a.eval o).run P x= .ok (.value v) x)(h:dN P ops Q S K rest (a.put o.dst v) w):dN P ops Q S K ((0,o)::rest) a w:=
 ⟨v,Or.inl ⟨by simp[Region.wanted,hg],hy⟩,h⟩
theorem aCa{o:Oper}{rest:List (Nat×Oper)}{a:Act}{w:World}{v:Value}(hg:Region.wanted o (yielded ops a.tmps)=true)(hy:∀x,(execOp a.eval o).run P x= .ok (.value v) x)(h:dN P ops Q S K rest (a.put o.dst v) w):dN P ops Q S K ((0,o)::rest) a w:=
 ⟨v,Or.inl ⟨hg,hy⟩,h⟩
theorem dU{o:Oper}{rest:List (Nat×Oper)}{a:Act}{w:World}(hg:Region.wanted o (yielded ops a.tmps)=false)(h:dN P ops Q S K rest (a.put o.dst undef) w):dN P ops Q S K ((0,o)::rest) a w:=
 ⟨undef,Or.inr ⟨hg,rfl⟩,h⟩
theorem cK{o:Oper}{rest:List (Nat×Oper)}{a:Act}{w:World}{v:Value}(hg:o.guard=none)(hy:∀x,S x→(execOp a.eval o).run P x= .ok (.value v) x)(h:dN P ops Q S K rest (a.put o.dst v) w):dN P ops Q S K ((1,o)::rest) a w:=
 ⟨v,Or.inl ⟨by simp[Region.wanted,hg],fun x hx=>Or.inl (hy x hx)⟩,h⟩
theorem sD{o:Oper}{rest:List (Nat×Oper)}{a:Act}{w:World}{v:Value}(hg:Region.wanted o (yielded ops a.tmps)=true)(hy:∀x,S x→(execOp a.eval o).run P x= .ok (.value v) x)(h:dN P ops Q S K rest (a.put o.dst v) w):dN P ops Q S K ((1,o)::rest) a w:=
 ⟨v,Or.inl ⟨hg,fun x hx=>Or.inl (hy x hx)⟩,h⟩
theorem dO{o:Oper}{rest:List (Nat×Oper)}{a:Act}{w:World}(hg:Region.wanted o (yielded ops a.tmps)=false)(h:dN P ops Q S K rest (a.put o.dst undef) w):dN P ops Q S K ((1,o)::rest) a w:=
 ⟨undef,Or.inr ⟨hg,rfl⟩,h⟩
theorem dB{o:Oper}{rest:List (Nat×Oper)}{a:Act}{w:World}{v:Value}{f:FuncId}{args:Array Value}(hg:Region.wanted o (yielded ops a.tmps)=true)(hy:∀x,S x→(execOp a.eval o).run P x= .ok (.enter f args) x)(hc:∀x,S x→Calls P f args x (fun e w'=>e= .returned v∧w'=x))(h:dN P ops Q S K rest (a.put o.dst v) w):dN P ops Q S K ((1,o)::rest) a w:=
 ⟨v,Or.inl ⟨hg,fun x hx=>Or.inr ⟨f,args,hy x hx,hc x hx⟩⟩,h⟩
theorem dC{o:Oper}{rest:List (Nat×Oper)}{a:Act}{w:World}(hg:Region.wanted o (yielded ops a.tmps)=true)
 (h:∀C:Act→World→Prop,(∀a' w',S w'→dN P ops Q S K rest a' w'→C a' w')→o.wp P a w C Q):dN P ops Q S K ((2,o)::rest) a w:=by
 unfold dN;rw[if_pos hg];exact Or.inl (h _ fun _ _ h1 h2=>⟨h1,h2⟩)
end
def aFm(md:Region.Mode)(ops:Array Oper):List Nat→Array Bool→Bool
 |[],listed=>(Region.ready md ops listed).isEmpty
 |k::l,listed=>decide (Region.ready md ops listed=[k])&&aFm md ops l (listed.setIfInBounds k true)
def vA(md:Region.Mode)(ops:Array Oper)(ts:List Nat):List (Nat×Nat)→Array Bool→Bool
 |[],listed=>aFm md ops ts listed
 |(0,k)::l,listed=>(Region.ready md ops listed).contains k&&Region.free md ops listed k&&vA md ops ts l (listed.setIfInBounds k true)
 |(1,k)::l,listed=>(Region.ready md ops listed).contains k&&Region.free md ops listed k&&vA md ops ts l (listed.setIfInBounds k true)
 |(_+2,k)::l,listed=>decide (Region.ready md ops listed=[k])&&vA md ops ts l (listed.setIfInBounds k true)
def aBQ(ts:List Nat)(i:Nat):Bool:= !ts.contains i
def aGY(md:Region.Mode)(ops:Array Oper)(hs:List (Nat×Nat))(ts:List Nat):Bool:=
 Region.noSelect ops&&vA md ops ts hs (Array.replicate ops.size false)&&(hs.all fun p=> !(p.1==1)||ts.all fun t=>rJ md ops p.2 ops.size t)&&
  ((hs.map (·.2)++ts).all fun i=>decide (i<ops.size))&&decide (hs.length+ts.length=ops.size)
def mD(l:List Oper):List Nat→List Oper
 |[]=>[]
 |i::is=>match l[i]? with
  |some o=>o::mD l is
  |none=>mD l is
def jH(l:List Oper):List (Nat×Nat)→List (Nat×Oper)
 |[]=>[]
 |(b,i)::is=>match l[i]? with
  |some o=>(b,o)::jH l is
  |none=>jH l is
theorem vC:∀(ts:List Nat) (listed:Array Bool) (a:Act) (w:World),(∀t ∈ ts,t<ops.size∧keep t=false)→aFm md ops ts listed=true→
 wpList P ops Q (mD ops.toList ts) a w→hU P md ops Q S keep ts.length listed a w
 |[],listed,a,w,_,hB,h=>⟨by simpa[aFm]using hB,h⟩
 |t::ts,listed,a,w,hlt,hB,h=>by
  obtain⟨ht,hk⟩:=hlt t (by simp);have h0:ops[t]?=some ops[t]:=by simp[ht]
  have h0':ops.toList[t]?=some ops[t]:=by simp[ht]
  simp only[aFm,aR,aM]at hB;simp only[mD,h0']at h;refine⟨fun h1=>(by rw[hB.1]at h1;cases h1),fun i hi=>?_⟩;rw[hB.1]at hi;have hit:i=t:=by simpa using hi
  subst hit;have hw:wpOp P ops Q i (wpList P ops Q (mD ops.toList ts)) a w:=by unfold wpOp;simp only[h0];exact h
  exact wpOp_mono (fun a' w' h'=>⟨fun hk'=>(by rw[hk]at hk';cases hk'),vC ts _ a' w' (fun t ht=>hlt t (by simp[ht])) hB.2 h'⟩) hw
theorem oU{ts:List Nat}(hsel:Region.noSelect ops=true)(hQ:∀c (a:Act) (i:Nat) (o:Oper) v w,ops[i]?=some o→Q (.panic c) (a.put o.dst v) w→Q (.panic c) a w)
 (hkeep:∀t,t<ops.size→keep t=false→t ∈ ts) (hts:∀t ∈ ts,t<ops.size∧keep t=false):
 ∀(hs:List (Nat×Nat)) (listed:Array Bool) (a:Act) (w:World),S w→(∀p ∈ hs,p.2<ops.size)→(∀p ∈ hs,p.1=1→∀t ∈ ts,rJ md ops p.2 ops.size t=true)→Closed md ops listed→
 vA md ops ts hs listed=true→
 dN P ops Q S (fun a'' w''=>wpList P ops Q (mD ops.toList ts) a'' w'') (jH ops.toList hs) a w→
 hU P md ops Q S keep (hs.length+ts.length) listed a w
 |[],listed,a,w,_,_,_,_,hB,h=>by
  rw[List.length_nil,Nat.zero_add];exact vC ts listed a w hts hB h
 |(0,k)::hs,listed,a,w,hS,hlt,hwt,inv,hB,h=>by
  have hk:=hlt (0,k) (by simp);have h0:ops[k]?=some ops[k]:=by simp[show k<ops.size from hk]
  have h0':ops.toList[k]?=some ops[k]:=by simp[show k<ops.size from hk]
  simp only[vA,aR]at hB;obtain⟨⟨hr,hf⟩,hB'⟩:=hB;have hr':k ∈ Region.ready md ops listed:=by simpa using hr
  simp only[jH,h0']at h;rw[bF,show hs.length+1+ts.length=(hs.length+ts.length)+1 by omega];obtain⟨v,hy,hK⟩:=h;have ih:=oU hsel hQ hkeep hts hs (listed.setIfInBounds k true) (a.put ops[k].dst v) w hS (fun p hp=>hlt p (by simp[hp])) (fun p hp=>hwt p (by simp[hp])) (inv.set hr') hB' hK;exact oA h0 (Region.noSelect_spec hsel) hQ _ listed a w (Region.free_spec h0 hf) hr' hy ih
 |(1,k)::hs,listed,a,w,hS,hlt,hwt,inv,hB,h=>by
  have hk:=hlt (1,k) (by simp);have h0:ops[k]?=some ops[k]:=by simp[show k<ops.size from hk]
  have h0':ops.toList[k]?=some ops[k]:=by simp[show k<ops.size from hk]
  simp only[vA,aR]at hB;obtain⟨⟨hr,hf⟩,hB'⟩:=hB;have hr':k ∈ Region.ready md ops listed:=by simpa using hr
  simp only[jH,h0']at h;rw[bF,show hs.length+1+ts.length=(hs.length+ts.length)+1 by omega];obtain⟨v,hy,hK⟩:=h;have ih:=oU hsel hQ hkeep hts hs (listed.setIfInBounds k true) (a.put ops[k].dst v) w hS (fun p hp=>hlt p (by simp[hp])) (fun p hp=>hwt p (by simp[hp])) (inv.set hr') hB' hK;exact rD h0 (Region.noSelect_spec hsel) hQ (fun t ht hkt=>hwt (1,k) (by simp) rfl t (hkeep t ht hkt)) _ listed a w inv (Region.free_spec h0 hf) hr' hy hS ih
 |(n+2,k)::hs,listed,a,w,hS,hlt,hwt,inv,hB,h=>by
  have hk:=hlt (n+2,k) (by simp);have h0:ops[k]?=some ops[k]:=by simp[show k<ops.size from hk]
  have h0':ops.toList[k]?=some ops[k]:=by simp[show k<ops.size from hk]
  simp only[vA,aR,aM]at hB;simp only[jH,h0']at h;rw[bF,show hs.length+1+ts.length=(hs.length+ts.length)+1 by omega];refine⟨fun h1=>(by rw[hB.1]at h1;cases h1),fun i hi=>?_⟩;have hi0:=hi;rw[hB.1]at hi;have hit:i=k:=by simpa using hi
  subst hit;have hw:wpOp P ops Q i (fun a' w'=>S w'∧dN P ops Q S (fun a'' w''=>wpList P ops Q (mD ops.toList ts) a'' w'') (jH ops.toList hs) a' w') a w:=by
   unfold wpOp;simp only[h0];unfold dN at h;split
   ·rename_i hwd;rw[if_pos hwd]at h;exact h
   ·rename_i hwd;rw[if_neg hwd]at h;exact h
  exact wpOp_mono (fun a' w' h'=>⟨fun _ _=>h'.1,oU hsel hQ hkeep hts hs _ a' w' h'.1 (fun p hp=>hlt p (by simp[hp])) (fun p hp=>hwt p (by simp[hp])) (inv.set hi0) hB.2 h'.2⟩) hw
section
variable {id:Nat} {a:Act} {w:World} {l:List Oper} (hs:List (Nat×Nat)) (ts:List Nat) (S:World→Prop)
theorem kU(hm:P.follows .mixedOrders=true)(hB:aGY .any l.toArray hs ts=true)
 (hQ:∀c (a:Act) (i:Nat) (o:Oper) v w,l.toArray[i]?=some o→Q (.panic c) (a.put o.dst v) w→Q (.panic c) a w) (hS:S w.drew)
 (h:dN P l.toArray Q S (fun a'' w''=>wpList P l.toArray Q (mD l ts) a'' w'') (jH l hs) a w.drew):(Code.region id l.toArray true).wp P Q a w:=by
 simp only[aGY,aR,aM]at hB;obtain⟨⟨⟨⟨g,b⟩,r⟩,q⟩,e⟩:=hB;have d:=fun i hi=>of_decide_eq_true (List.all_eq_true.1 q i hi);have k:Closed .any l.toArray (Array.replicate l.toArray.size false):=
  ⟨by simp,fun j oj _ hl=>(by rw[getD_replicate_false]at hl;cases hl)⟩
 have f:∀t,t<l.toArray.size→aBQ ts t=false→t ∈ ts:=fun t _ h=>by simpa[aBQ]using h
 have n:∀t ∈ ts,t<l.toArray.size∧aBQ ts t=false:=fun t ht=>⟨d t (by simp[ht]),by simp[aBQ,ht]⟩;have H:=oU (md:=.any) (keep:=aBQ ts) g hQ f n hs _ a w.drew hS (fun p hp=>d p.2 (by simp only[aO,bL];exact Or.inl ⟨p,hp,rfl⟩))
  (fun p hp hpt t ht=>by
   have m:=List.all_eq_true.1 r p hp;rw[hpt]at m;simp only[BEq.rfl,Bool.not_true,Bool.false_or]at m;exact List.all_eq_true.1 m t ht) k b h
 rw[e]at H;exact wp_region_any hm (rZ _ _ _ _ H)
theorem oB(hm:P.follows .mixedOrders=true)(hB:aGY .any l.toArray hs ts=true)
 (hQ:∀c a d v w,Q (.panic c) (Act.put a d v) w→Q (.panic c) a w) (hS:S w.drew)
 (h:dN P l.toArray Q S (fun a'' w''=>wpList P l.toArray Q (mD l ts) a'' w'') (jH l hs) a w.drew):(Code.region id l.toArray true).wp P Q a w:=
 kU hs ts S hm hB (fun c a _ o v w _ h=>hQ c a o.dst v w h) hS h
end
theorem cF{o:Oper}{a:Act}{w:World}(ty:TypeId)(x:Operand)(ho:o.op= .load ty x)(p:Addr)(hx:a.eval x= .pointer (some p))(cs:List Value)(d:TypeDesc)(hc:∀j v,cs[j]?=some v→w.cell? (p.add j)=some v)
 (hu:P.underlying ty=some d) (hd:(match d with| .struct _| .array _ _=>true|_=>false)=true) (hi:(P.info? ty).map (·.size)=some cs.length):
 (execOp a.eval o).run P w= .ok (.value (.agg cs.toArray)) w:=by
 unfold execOp;simp only[ho,hx,Instr.loadAt,Instr.sureAddr,aT,Sem.run_pure,Result.andThen_ok,fD w p ty cs d hc hu hd hi]
theorem pA:(∀(a:Act) (i:Nat) (v:Value),a.put (some i) v={a with tmps:=a.tmps.setIfInBounds i v})∧(∀(a:Act) (v:Value),a.put none v=a)∧
 (∀(l:List Value) (i:Nat) (v:Value),l.toArray.setIfInBounds i v=(l.set i v).toArray)∧(∀(x:Value) (l:List Value) (v:Value),(x::l).set 0 v=v::l)∧
 (∀(x:Value) (l:List Value) (n:Nat) (v:Value),(x::l).set (n+1) v=x::l.set n v):=
 ⟨fun _ _ _=>rfl,fun _ _=>rfl,fun _ _ _=>List.setIfInBounds_toArray ..,fun _ _ _=>rfl,fun _ _ _ _=>rfl⟩
section
variable {K:Act→World→Prop} {o:Oper} {rest:List (Nat×Oper)} {a:Act} {w:World} {v:Value}
theorem sW(hg:Region.wanted o (yielded ops a.tmps)=true)(hy:∀x,(execOp a.eval o).run P x= .ok (.value v) x)(h:dN P ops Q S K rest (a.put o.dst v) w):dN P ops Q S K ((0,o)::rest) a w:=aCa hg hy h
theorem sR(hg:Region.wanted o (yielded ops a.tmps)=true)(hy:∀x,S x→(execOp a.eval o).run P x= .ok (.value v) x)(h:dN P ops Q S K rest (a.put o.dst v) w):dN P ops Q S K ((1,o)::rest) a w:=sD hg hy h
end
theorem sB{K:Act→World→Prop}{b:Nat}{o:Oper}{rest:List (Nat×Oper)}{a:Act}{w:World}{v:Value}(hb:Nat.ble b 1=true)(hg:Region.wanted o (yielded ops a.tmps)=true)(hy:∀x,(b=1→S x)→(execOp a.eval o).run P x= .ok (.value v) x)(h:dN P ops Q S K rest (a.put o.dst v) w):dN P ops Q S K ((b,o)::rest) a w:=by
 rcases b with _|_|b
 ·exact sW hg (fun x=>hy x (fun e=>by cases e)) h
 ·exact sR hg (fun x hx=>hy x (fun _=>hx)) h
 ·cases hb
theorem qP(hq:∀c (a:Act) t w,Q (.panic c) {a with tmps:=t} w=Q (.panic c) a w):∀c a d v w,Q (.panic c) (Act.put a d v) w→Q (.panic c) a w:=by
 intro c a d v w h;cases d
 ·exact h
 ·rw[←hq c a _ w];exact h
def cM:List Oper→List Nat→List (Nat×Oper)
 |_,[]=>[]
 |[],_::_=>[]
 |o::l,b::bs=>(b,o)::cM l bs
def cL:List Oper→List Nat→List Oper
 |l,[]=>l
 |[],_::_=>[]
 |_::l,_::bs=>cL l bs
def hsB:List Nat→Nat→List (Nat×Nat)
 |[],_=>[]
 |b::bs,k=>(b,k)::hsB bs (k+1)
theorem aAt:∀(bs:List Nat) (r l:List Oper),bs.length≤l.length→jH (r++l) (hsB bs r.length)=cM l bs
 |[],_,l,_=>by cases l<;>rfl
 |b::bs,r,[],h=>by simp at h
 |b::bs,r,o::l,h=>by
  have h1:(r++o::l)[r.length]?=some o:=by simp
  have a:=aAt bs (r++[o]) l (by simpa using h);simp only[aS,List.singleton_append,aD,aK]at a;simp only[hsB,jH,h1,cM,a]
theorem wR:∀(bs:List Nat) (l:List Oper),cL l bs=l.drop bs.length
 |[],l=>by cases l<;>rfl
 |_::_,[]=>by simp[cL]
 |_::bs,_::l=>by simp[cL,wR bs l]
theorem wQ:∀(m:Nat) (r l:List Oper),l.length=m→mD (r++l) (List.range' r.length m)=l
 |0,r,l,h=>by
  have:l=[]:=List.eq_nil_of_length_eq_zero h;subst this;rfl
 |m+1,r,[],h=>by simp at h
 |m+1,r,o::l,h=>by
  have h1:(r++o::l)[r.length]?=some o:=by simp
  have ih:=wQ m (r++[o]) l (by simpa using h);simp only[aS,List.singleton_append,aD,aK]at ih;simp only[List.range'_succ,mD,h1,ih]
def aHl(P:Program)(l:List Oper)(bs:List Nat):Bool:=P.follows .mixedOrders&&decide (bs.length≤l.length)&&aGY .any l.toArray (hsB bs 0) (List.range' bs.length (l.length-bs.length))
theorem rlx{id:Nat}{a:Act}{w:World}{l:List Oper}(bs:List Nat)(S:World→Prop)(hB:aHl P l bs=true)
 (hQ:∀c (a:Act) t w,Q (.panic c) {a with tmps:=t} w=Q (.panic c) a w) (hS:S w.drew)
 (h:dN P l.toArray Q S (fun a'' w''=>wpList P l.toArray Q (cL l bs) a'' w'') (cM l bs) a w.drew):(Code.region id l.toArray true).wp P Q a w:=by
 simp only[aHl,aR,aM]at hB;obtain⟨⟨hm,hl⟩,hB⟩:=hB;refine oB (hsB bs 0) (List.range' bs.length (l.length-bs.length)) S hm hB (qP hQ) hS ?_;have e1:=aAt bs [] l hl;have e2:=wQ (l.length-bs.length) (l.take bs.length) (l.drop bs.length) (by simp);rw[bV,aZ,Nat.min_eq_left hl]at e2;simp only[List.nil_append,List.length_nil]at e1;rw[e1,e2,←wR];exact h
theorem dZ{id:Nat}{a:Act}{w:World}{l:List Oper}(bs:List Nat)(hB:aHl P l bs=true)
 (hQ:∀c (a:Act) t w,Q (.panic c) {a with tmps:=t} w=Q (.panic c) a w)
 (h:dN P l.toArray Q (fun x=>x=w.drew) (fun a'' w''=>wpList P l.toArray Q (cL l bs) a'' w'') (cM l bs) a w.drew):(Code.region id l.toArray true).wp P Q a w:=rlx bs (fun x=>x=w.drew) hB hQ rfl h
end
section
variable {P:Program}{ops:Array Oper}{md:Region.Mode}{S:World→Prop}{Q:Exit→Act→World→Prop}{keep:Nat→Bool}
def aDz:List (Nat×Nat)→Array Bool→Array Bool
 |[],listed=>listed
 |(_,k)::l,listed=>aDz l (listed.setIfInBounds k true)
def vD(md:Region.Mode)(ops:Array Oper):List (Nat×Nat)→Array Bool→Bool
 |[],_=>true
 |(0,k)::l,listed=>(Region.ready md ops listed).contains k&&Region.free md ops listed k&&vD md ops l (listed.setIfInBounds k true)
 |(1,k)::l,listed=>(Region.ready md ops listed).contains k&&Region.free md ops listed k&&vD md ops l (listed.setIfInBounds k true)
 |(_+2,k)::l,listed=>decide (Region.ready md ops listed=[k])&&vD md ops l (listed.setIfInBounds k true)
def aHi(md:Region.Mode)(ops:Array Oper)(hs:List (Nat×Nat))(n:Nat):Bool:=
 Region.noSelect ops&&vD md ops hs (Array.replicate ops.size false)&&((hs.map (·.2)).all fun i=>decide (i<ops.size))&&decide (hs.length+n=ops.size)
theorem nM(n:Nat)(hsel:Region.noSelect ops=true)(hQ:∀c a d v w,Q (.panic c) (Act.put a d v) w→Q (.panic c) a w):
 ∀(hs:List (Nat×Nat)) (listed:Array Bool) (a:Act) (w:World),S w→(∀p ∈ hs,p.2<ops.size)→Closed md ops listed→vD md ops hs listed=true→
 dN P ops Q S (fun a'' w''=>hU P md ops Q S (fun _=>true) n (aDz hs listed) a'' w'') (jH ops.toList hs) a w→
 hU P md ops Q S (fun _=>true) (hs.length+n) listed a w
 |[],listed,a,w,_,_,_,_,h=>by
  rw[List.length_nil,Nat.zero_add];exact h
 |(0,k)::hs,listed,a,w,hS,hlt,inv,hB,h=>by
  have hk:=hlt (0,k) (by simp);have h0:ops[k]?=some ops[k]:=by simp[show k<ops.size from hk]
  have h0':ops.toList[k]?=some ops[k]:=by simp[show k<ops.size from hk]
  simp only[vD,aR]at hB;obtain⟨⟨hr,hf⟩,hB'⟩:=hB;have hr':k ∈ Region.ready md ops listed:=by simpa using hr
  simp only[jH,h0']at h;rw[bF,show hs.length+1+n=(hs.length+n)+1 by omega];obtain⟨v,hy,hK⟩:=h;have ih:=nM n hsel hQ hs (listed.setIfInBounds k true) (a.put ops[k].dst v) w hS (fun p hp=>hlt p (by simp[hp])) (inv.set hr') hB' hK;exact oA h0 (Region.noSelect_spec hsel) (fun c a _ o v w _ h=>hQ c a o.dst v w h) _ listed a w (Region.free_spec h0 hf) hr' hy ih
 |(1,k)::hs,listed,a,w,hS,hlt,inv,hB,h=>by
  have hk:=hlt (1,k) (by simp);have h0:ops[k]?=some ops[k]:=by simp[show k<ops.size from hk]
  have h0':ops.toList[k]?=some ops[k]:=by simp[show k<ops.size from hk]
  simp only[vD,aR]at hB;obtain⟨⟨hr,hf⟩,hB'⟩:=hB;have hr':k ∈ Region.ready md ops listed:=by simpa using hr
  simp only[jH,h0']at h;rw[bF,show hs.length+1+n=(hs.length+n)+1 by omega];obtain⟨v,hy,hK⟩:=h;have ih:=nM n hsel hQ hs (listed.setIfInBounds k true) (a.put ops[k].dst v) w hS (fun p hp=>hlt p (by simp[hp])) (inv.set hr') hB' hK;exact rD h0 (Region.noSelect_spec hsel) (fun c a _ o v w _ h=>hQ c a o.dst v w h) (fun t _ hkt=>by simp at hkt) _ listed a w inv (Region.free_spec h0 hf) hr' hy hS ih
 |(m+2,k)::hs,listed,a,w,hS,hlt,inv,hB,h=>by
  have hk:=hlt (m+2,k) (by simp);have h0:ops[k]?=some ops[k]:=by simp[show k<ops.size from hk]
  have h0':ops.toList[k]?=some ops[k]:=by simp[show k<ops.size from hk]
  simp only[vD,aR,aM]at hB;simp only[jH,h0']at h;rw[bF,show hs.length+1+n=(hs.length+n)+1 by omega];refine⟨fun h1=>(by rw[hB.1]at h1;cases h1),fun i hi=>?_⟩;have hi0:=hi;rw[hB.1]at hi;have hit:i=k:=by simpa using hi
  subst hit;have hw:wpOp P ops Q i (fun a' w'=>S w'∧dN P ops Q S (fun a'' w''=>hU P md ops Q S (fun _=>true) n (aDz hs (listed.setIfInBounds i true)) a'' w'') (jH ops.toList hs) a' w') a w:=by
   unfold wpOp;simp only[h0];unfold dN at h;split
   ·rename_i hwd;rw[if_pos hwd]at h;exact h
   ·rename_i hwd;rw[if_neg hwd]at h;exact h
  exact wpOp_mono (fun a' w' h'=>⟨fun _ _=>h'.1,nM n hsel hQ hs _ a' w' h'.1 (fun p hp=>hlt p (by simp[hp])) (inv.set hi0) hB.2 h'.2⟩) hw
section
variable {f:Nat} {listed:Array Bool} {a:Act} {w:World}
theorem cW(rs:List Nat)(hr:Region.ready md ops listed=rs)(hne:rs≠[])(h:∀i ∈ rs,∀C:Act→World→Prop,(∀a' w',S w'→hU P md ops Q S keep f (listed.setIfInBounds i true) a' w'→C a' w')→wpOp P ops Q i C a w):hU P md ops Q S keep (f+1) listed a w:=
 ⟨fun h0=>absurd (hr.symm.trans h0) hne,fun i hi=>wpOp_mono (fun _ _ h'=>⟨fun _ _=>h'.1,h'.2⟩) (h i (hr▸hi) (fun a' w'=>S w'∧hU P md ops Q S keep f (listed.setIfInBounds i true) a' w') (fun _ _ h1 h2=>⟨h1,h2⟩))⟩
theorem nT(hr:Region.ready md ops listed=[])(h:Q .normal a w):hU P md ops Q S keep f listed a w:=by
 cases f with
 |zero=>exact⟨hr,h⟩
 |succ f=>exact⟨fun _=>h,fun i hi=>by rw[hr]at hi;cases hi⟩
end
theorem cN{i:Nat}{o:Oper}{a:Act}{w:World}{K:Act→World→Prop}(hi:ops[i]?=some o)(hw:Region.wanted o (yielded ops a.tmps)=true)(h:o.wp P a w K Q):wpOp P ops Q i K a w:=by
 unfold wpOp;simp only[hi];rw[if_pos hw];exact Or.inl h
theorem nC{id:Nat}{a:Act}{w:World}{l:List Oper}(hs:List (Nat×Nat))(n:Nat)(S:World→Prop)(hm:P.follows .mixedOrders=true)(hB:aHi .any l.toArray hs n=true)
 (hQ:∀c a d v w,Q (.panic c) (Act.put a d v) w→Q (.panic c) a w) (hS:S w.drew)
 (h:dN P l.toArray Q S (fun a'' w''=>hU P .any l.toArray Q S (fun _=>true) n (aDz hs (Array.replicate l.toArray.size false)) a'' w'') (jH l hs) a w.drew):(Code.region id l.toArray true).wp P Q a w:=by
 simp only[aHi,aR,aM]at hB;obtain⟨⟨⟨f,b⟩,m⟩,e⟩:=hB;have k:=fun i hi=>of_decide_eq_true (List.all_eq_true.1 m i hi);have g:Closed .any l.toArray (Array.replicate l.toArray.size false):=
  ⟨by simp,fun j oj _ hl=>(by rw[getD_replicate_false]at hl;cases hl)⟩
 have H:=nM (md:=.any) n f hQ hs _ a w.drew hS (fun p hp=>k p.2 (bL.2 ⟨p,hp,rfl⟩)) g b h;rw[e]at H;exact wp_region_any hm (rZ _ _ _ _ H)
end
section
variable {P:Program}{ops:Array Oper}{md:Region.Mode}{S:World→Prop}{Q:Exit→Act→World→Prop}
theorem yA{keep:Nat→Bool}(m:Nat)(I:Nat→Array Bool→Act→World→Prop)(hS:∀n listed a w,I n listed a w→S w)(h0:∀listed a w,I 0 listed a w→hU P md ops Q S keep m listed a w)
 (hs:∀n listed a w,I (n+1) listed a w→∃rs,Region.ready md ops listed=rs∧rs≠[]∧∀i ∈ rs,wpOp P ops Q i (fun a' w'=>I n (listed.setIfInBounds i true) a' w') a w):
 ∀n listed a w,I n listed a w→hU P md ops Q S keep (n+m) listed a w
 |0,listed,a,w,h=>by rw[Nat.zero_add];exact h0 listed a w h
 |n+1,listed,a,w,h=>by
  obtain⟨rs,hr,hne,hall⟩:=hs n listed a w h;rw[show n+1+m=(n+m)+1 by omega];exact⟨fun e=>absurd (hr.symm.trans e) hne,fun i hi=>wpOp_mono (fun a' w' hI=>⟨fun _ _=>hS _ _ _ _ hI,yA m I hS h0 hs n _ a' w' hI⟩) (hall i (hr▸hi))⟩
theorem aCS{keep:Nat→Bool}(m:Nat)(I:Nat→Array Bool→Act→World→Prop)
 (hs:∀n listed a w,I n listed a w→(∀n',n'<n→∀listed a w,I n' listed a w→hU P md ops Q S keep (n'+m) listed a w)→hU P md ops Q S keep (n+m) listed a w):
 ∀n listed a w,I n listed a w→hU P md ops Q S keep (n+m) listed a w:=fun n=>by
 induction n using Nat.strongRecOn with
 |_ n ih=>exact fun listed a w h=>hs n listed a w h (fun n' hn'=>ih n' hn')
theorem dY{keep:Nat→Bool}{i:Nat}{o:Oper}{v:Value}{f:Nat}{listed:Array Bool}{a:Act}{w:World}(hi:ops[i]?=some o)(hns:Region.noSelect ops=true)(hQ:∀c a d v w,Q (.panic c) (Act.put a d v) w→Q (.panic c) a w)
 (hr:(Region.ready md ops listed).contains i=true) (hf:Region.free md ops listed i=true) (hg:o.guard=none) (hy:∀x,(execOp a.eval o).run P x= .ok (.value v) x) (H:hU P md ops Q S keep f (listed.setIfInBounds i true) (a.put o.dst v) w):hU P md ops Q S keep (f+1) listed a w:=
 oA hi (Region.noSelect_spec hns) (fun c a _ o v w _ h=>hQ c a o.dst v w h) f listed a w (Region.free_spec hi hf) (by simpa using hr) (Or.inl ⟨by simp[Region.wanted,hg],hy⟩) H
end
end Go.Proofs.YtbbdgokdfhdpiaaGreatDoor
