/- A part of the proof: Saf3, Pax1, Pax2. -/
import Derived.Test.YtbbdgokdfhdpiaaGreatDoorE9
namespace Go.Proofs.YtbbdgokdfhdpiaaGreatDoor
set_option linter.all false
set_option maxRecDepth 100000
set_option maxHeartbeats 40000000
open Go.Proofs.Tryz Go.RowKit
structure Ext(s s':Sx):Prop where
 tr:∃e,s'.tr=s.tr++e
 us:∀b,(s.bl b).used=true→(s'.bl b).used=true∧(s'.bl b).op=(s.bl b).op∧(s'.bl b).cl=(s.bl b).cl∧(s'.bl b).lock=(s.bl b).lock∧(s'.bl b).kind=(s.bl b).kind∧(s'.bl b).ttl=(s.bl b).ttl∧(s'.bl b).start=(s.bl b).start∧(s'.bl b).t0=(s.bl b).t0
 ask:∀b,(s.bl b).asked=true→s'.bl b=s.bl b
theorem Ext.at_{s s':Sx}(h:Ext s s'){k:Nat}{e:Ev}(hk:s.tr[k]?=some e):s'.tr[k]?=some e:=by
 obtain⟨l,a⟩:=h.tr;rw[a,bI (aF.1 hk).1];exact hk
theorem Ext.len{s s':Sx}(h:Ext s s'):s.tr.length≤s'.tr.length:=by
 obtain⟨l,a⟩:=h.tr;rw[a,aD];omega
theorem Ext.of_bl{s s':Sx}(ht:∃e,s'.tr=s.tr++e)(hb:s'.bl=s.bl):Ext s s':=⟨ht,fun b h=>by rw[hb];exact⟨h,rfl,rfl,rfl,rfl,rfl,rfl,rfl⟩,fun b h=>by rw[hb]⟩
def aHJ(g:Bg):Ev:={zEv with kind:=2,node:=g.cl,okind:=g.kind,olock:=g.lock,ottl:=g.ttl}
def aF1(b:Int)(g:Bg)(d:Int):Mg:=⟨1,g.cl,d,g.lock,b,0,zVl⟩
def aHI(b:Int)(g:Bg)(d:Int):Mg:=⟨3,g.cl,d,g.lock,b,g.base,g.val⟩
structure OnInv(s:Sx)(i:Int)(o:On):Prop where
 k1:1≤o.kind
 k4:o.kind≤4
 l0:0≤o.lock
 l3:o.lock≤3
 t0:0≤o.ttl
 t1:o.kind≤2→1≤o.ttl
 t2:2<o.kind→o.ttl=0
 g0:0≤o.began
 g1:o.began≤(s.cl i).clock
 ev:s.tr[s.opx i]?=some (gW i o)
 lk:o.att.bal≠0→(s.bl o.att.bal).op=s.opx i∧(s.bl o.att.bal).lock=o.lock∧(s.bl o.att.bal).kind=o.kind∧(s.bl o.att.bal).ttl=o.ttl∧(s.bl o.att.bal).start=o.began
 ask:o.att.bal≠0→((s.bl o.att.bal).asked=true↔o.att.awaited=4)
 e0:0≤o.att.base
 av:o.att.awaited=4→(s.bl o.att.bal).base=o.att.base∧(s.bl o.att.bal).pv=o.att.val
structure aFq(s:Sx)(b:Int)(g:Bg):Prop where
 k1:1≤g.kind
 k4:g.kind≤4
 l0:0≤g.lock
 l3:g.lock≤3
 g0:0≤g.start
 op:g.op<g.t0
 t0:g.t0≤s.tr.length
 ev:s.tr[g.op]?=some (aHJ g)
 t1:g.asked=true→g.t0≤g.t1
 ac:g.asked=true→s.tr[g.t1]?=some (fC (aHI b g 0))
structure xK(f:Cf)(s:Sx)(k:Nat)(m:Mg):Prop where
 us:(s.bl m.bal).used=true
 lk:m.lock=(s.bl m.bal).lock
 t0:(s.bl m.bal).t0≤k
 ca:(m.kind=1∧m=aF1 m.bal (s.bl m.bal) m.dst)∨(m.kind=3∧(s.bl m.bal).asked=true∧(s.bl m.bal).t1≤k∧m=aHI m.bal (s.bl m.bal) m.dst)∨((m.kind=2∨m.kind=4∨m.kind=5)∧0≤m.src∧m.src<2*f.f+1∧m.dst=(s.bl m.bal).cl∧(m.kind=4→(s.bl m.bal).asked=true∧(s.bl m.bal).t1<k∧m.base=0))
structure I1(f:Cf)(s:Sx):Prop where
 on:∀i,0≤i→i<f.clients→∀o,(s.cl i).doing=some o→OnInv s i o
 bg:∀b,(s.bl b).used=true→aFq s b (s.bl b)
 ask:∀b,(s.bl b).asked=true→(s.bl b).used=true
 ms:∀(k:Nat) (e:Ev),s.tr[k]?=some e→e.kind=1→xK f s k e.msg
 ol:∀i,s.opx i≤s.tr.length
theorem yJ{l:List Ev}{m:Mg}(h:m ∈ cH l):∃(k:Nat) (e:Ev),l[k]?=some e∧e.kind=1∧e.msg=m:=by
 unfold cH at h;obtain⟨e,b,rfl⟩:=bL.1 h;obtain⟨d,c⟩:=bU.1 b;obtain⟨k,a⟩:=List.getElem?_of_mem d;exact⟨k,e,a,by simpa[pG]using c,rfl⟩
theorem aB6{l:List Ev}{k:Nat}{e:Ev}(h:l[k]?=some e)(h1:e.kind=1):e.msg ∈ cH l:=by
 unfold cH;exact bL.2 ⟨e,bU.2 ⟨List.mem_of_getElem? h,by simp[pG,h1]⟩,rfl⟩
theorem I1.sent{f:Cf}{s:Sx}(h:I1 f s){m:Mg}(hm:m ∈ cH s.tr):∃k,k<s.tr.length∧xK f s k m:=by
 obtain⟨k,e,a,b,rfl⟩:=yJ hm;exact⟨k,(aF.1 a).1,h.ms k e a b⟩
theorem Ext.bg{s s':Sx}(h:Ext s s'){b:Int}(hu:(s.bl b).used=true)(hb:s'.bl b=s.bl b)(k:aFq s b (s.bl b)):aFq s' b (s'.bl b):=by
 rw[hb];exact⟨k.k1,k.k4,k.l0,k.l3,k.g0,k.op,bP k.t0 h.len,h.at_ k.ev,k.t1,fun q=>h.at_ (k.ac q)⟩
theorem Ext.msg{f:Cf}{s s':Sx}(h:Ext s s'){k:Nat}{m:Mg}(q:xK f s k m):xK f s' k m:=by
 obtain⟨i,n,g,e,r,p,o,j⟩:=h.us m.bal q.us;refine⟨i,by rw[e];exact q.lk,by rw[j];exact q.t0,?_⟩;rcases q.ca with⟨b,a⟩|⟨b,a,c,d⟩|⟨b,a,c,d,l⟩
 ·refine Or.inl ⟨b,?_⟩;unfold aF1 at*;rw[g,e];exact a
 ·rw[h.ask _ a];exact Or.inr (Or.inl ⟨b,a,c,d⟩)
 ·refine Or.inr (Or.inr ⟨b,a,c,by rw[g];exact d,fun h4=>?_⟩);have:=l h4;rw[h.ask _ this.1];exact this
theorem I1.quiet{f:Cf}{s s':Sx}(h:I1 f s){e:List Ev}(ht:s'.tr=s.tr++e)(hb:s'.bl=s.bl)(he:∀x ∈ e,x.kind≠1)(hol:∀i,s'.opx i≤s'.tr.length)
 (hon:∀i,0≤i→i<f.clients→∀o,(s'.cl i).doing=some o→OnInv s' i o):I1 f s':=by
 have c:Ext s s':=Ext.of_bl ⟨e,ht⟩ hb;refine⟨hon,fun b hu=>?_,fun b hu=>?_,fun k x hk hk1=>?_,hol⟩
 ·rw[hb]at hu;exact c.bg hu (by rw[hb]) (h.bg b hu)
 ·rw[hb]at hu⊢;exact h.ask b hu
 ·rw[ht]at hk;by_cases a:k<s.tr.length
  ·rw[bI a]at hk;exact c.msg (h.ms k x hk hk1)
  ·rw[bJ (by omega)]at hk;exact absurd hk1 (he x (List.mem_of_getElem? hk))
theorem OnInv.go{s s':Sx}(h:Ext s s')(hb:s'.bl=s.bl){i:Int}{o:On}(k:OnInv s i o)(hop:s'.opx i=s.opx i)(hc:(s.cl i).clock≤(s'.cl i).clock):OnInv s' i o:=
 ⟨k.k1,k.k4,k.l0,k.l3,k.t0,k.t1,k.t2,k.g0,Int.le_trans k.g1 hc,by rw[hop];exact h.at_ k.ev,by rw[hb,hop];exact k.lk,by rw[hb];exact k.ask,k.e0,by rw[hb];exact k.av⟩
theorem OnInv.go2{s s':Sx}(h:Ext s s'){i:Int}{o:On}(hb:o.att.bal≠0→s'.bl o.att.bal=s.bl o.att.bal)(h4:o.att.awaited=4→o.att.bal≠0)(k:OnInv s i o)(hop:s'.opx i=s.opx i)(hc:(s.cl i).clock≤(s'.cl i).clock):OnInv s' i o:=
 ⟨k.k1,k.k4,k.l0,k.l3,k.t0,k.t1,k.t2,k.g0,Int.le_trans k.g1 hc,by rw[hop];exact h.at_ k.ev,fun q=>by rw[hb q,hop];exact k.lk q,fun q=>by rw[hb q];exact k.ask q,k.e0,fun q=>by rw[hb (h4 q)];exact k.av q⟩
theorem aFE(f:Cf):I1 f qX:=by
 refine⟨fun i _ _ o ho=>?_,fun b hb=>?_,fun b hb=>?_,fun k e hk=>?_,fun i=>aE _⟩
 ·cases ho
 ·cases hb
 ·cases hb
 ·simp[qX]at hk
theorem sQ{c:Ct}{o:On}{r w t:Int}:∀x ∈ kX c o r w t,x.kind≠1:=fun x hx=>by
 simp only[kX,List.mem_singleton]at hx;subst hx;show(3:Int)≠1
 decide
theorem I0.other{f:Cf}{s:Sx}(h:I0 f s){i j:Int}(i0:0≤i)(i1:i<f.clients)(j0:0≤j)(j1:j<f.clients)(hij:i≠j){o p:On}(ho:(s.cl i).doing=some o)(hp:(s.cl j).doing=some p)(hb:o.att.bal≠0):p.att.bal≠o.att.bal:=by
 intro e;rcases h.bal i i0 i1 o ho with q|⟨d,c,_⟩
 ·exact hb q.1
 ·rcases h.bal j j0 j1 p hp with b|⟨_,a,_⟩
  ·rw[←e]at hb;exact hb b.1
  ·rw[e,c]at a;exact hij a
theorem aDu{f:Cf}(hf:f.clients≤4)(hff:0≤f.f){gd:Bool}{s s':Sx}(h0:I0 f s)(h:I1 f s)(hs:Mi f gd s s'):I1 f s':=by
 refine hs.elim (P:=I1 f) ?tick ?bump ?began ?att ?endU ?endQ ?hear ?prop ?lose ?ret ?acc ?ev
 case tick=>
  intro i D E L hg;refine h.quiet (s':=tE f s i) (e:=[]) (by show s.tr++[]=_;rfl) rfl (fun x g=>by cases g) (fun j=>by show s.opx j≤(s.tr++[]).length;rw[aC];exact h.ol j) (fun j y z o ho=>?_);have g:Ext s (tE f s i):=Ext.of_bl ⟨[],rfl⟩ rfl;have e:(tE f s i).cl j=if j=i then{s.cl i with clock:=(s.cl i).clock+1}else s.cl j:=rfl
  rw[e]at ho;by_cases q:j=i
  ·rw[if_pos q]at ho;have a1:(s.cl j).doing=some o:=by rw[q];exact ho
   refine(h.on j y z o a1).go g rfl rfl ?_;rw[e,if_pos q,q];show(s.cl i).clock≤(s.cl i).clock+1;omega
  ·rw[if_neg q]at ho;exact(h.on j y z o ho).go g rfl rfl (by rw[e,if_neg q];exact aL _)
 case bump=>
  intro i r o D E L O hr b5;refine h.quiet (s':=tI s i r) (e:=[]) rfl rfl (fun x g=>by cases g) (fun j=>by show s.opx j≤(s.tr++[]).length;rw[aC];exact h.ol j) (fun j y z o' ho=>?_);have g:Ext s (tI s i r):=Ext.of_bl ⟨[],rfl⟩ rfl;have e:(tI s i r).cl j=if j=i then{s.cl i with round:=r}else s.cl j:=rfl
  rw[e]at ho;by_cases q:j=i
  ·rw[if_pos q]at ho;have a1:(s.cl j).doing=some o':=by rw[q];exact ho
   refine(h.on j y z o' a1).go g rfl rfl ?_;rw[e,if_pos q,q];exact aL _
  ·rw[if_neg q]at ho;exact(h.on j y z o' ho).go g rfl rfl (by rw[e,if_neg q];exact aL _)
 case began=>
  intro i k l t D E L O I hl ht b1 b2;obtain⟨sc,a0⟩:=mY {s.cl i with doing:=some (dT (s.cl i) k l t)} k l t;have eo:∀j,(gQ s i k l t).opx j=if j=i then s.tr.length else s.opx j:=fun j=>rfl
  have C:(gQ s i k l t).tr=s.tr++[gW (s.cl i).num (dT (s.cl i) k l t)]:=rfl;refine h.quiet (s':=gQ s i k l t) rfl rfl (fun x g=>by
   rw[List.mem_singleton]at g;subst g;show(2:Int)≠1;decide) (fun j=>?_) (fun j y z o ho=>?_)
  ·rw[eo,C,aD];split
   ·omega
   ·have:=h.ol j;omega
  ·have g:Ext s (gQ s i k l t):=Ext.of_bl ⟨_,C⟩ rfl;have e:(gQ s i k l t).cl j=if j=i then dJ {s.cl i with doing:=some (dT (s.cl i) k l t)} k l t else s.cl j:=rfl
   by_cases q:j=i
   ·subst q;rw[e,if_pos rfl,a0]at ho;cases ho;refine⟨I.1,I.2,hl.1,hl.2,ht.1,b1,b2,h0.clk j y z,?_,?_,fun q=>absurd rfl q,fun q=>absurd rfl q,aL _,fun q=>?_⟩
    ·rw[e,if_pos rfl,sc.clock];exact aL _
    ·rw[eo,if_pos rfl,C,bJ (aE _),Nat.sub_self,h0.num j y z]
     rfl
    ·exact absurd (show(0:Int)=4 from q) (by decide)
   ·rw[e,if_neg q]at ho;exact(h.on j y z o ho).go g rfl (by rw[eo,if_neg q]) (by rw[e,if_neg q];exact aL _)
 case att=>
  intro i o D E L O hr;obtain⟨e1,e2,e3,e4⟩:=h0.round_bal hf D E;have a7:=h0.new_unused hf D E L;have a:=h.on i D E o O;have C:(iP f s i o).tr=s.tr++fA (s.cl i) (eH o (s.cl i)) 1 0 zVl (dI f):=rfl;have F:(iP f s i o).bl=upd s.bl (hO (s.cl i)).bal ⟨true,s.opx i,i,o.lock,o.kind,o.ttl,o.began,s.tr.length,false,0,zVl,zVl,0⟩:=rfl;have M:∀j,(iP f s i o).cl j=if j=i then{s.cl i with round:=(s.cl i).round+1,doing:=some (eH o (s.cl i))}else s.cl j:=fun j=>rfl
  have eB:(eH o (s.cl i)).att.bal=(hO (s.cl i)).bal:=rfl;generalize hB:(hO (s.cl i)).bal=B at*;have A:∀b,(iP f s i o).bl b=if b=B then⟨true,s.opx i,i,o.lock,o.kind,o.ttl,o.began,s.tr.length,false,0,zVl,zVl,0⟩else s.bl b:=fun b=>by rw[F];rfl
  have a4:s.opx i<s.tr.length:=(aF.1 a.ev).1;have Q:∀b,(s.bl b).used=true→b≠B:=fun b v e=>by rw[e,a7]at v;cases v
  have g:Ext s (iP f s i o):=⟨⟨_,C⟩,fun b v=>by
   rw[A,if_neg (Q b v)];exact⟨v,rfl,rfl,rfl,rfl,rfl,rfl,rfl⟩,fun b v=>by
   rw[A,if_neg (Q b (h.ask b v))]⟩
  refine⟨fun j y z p hp=>?_,fun b v=>?_,fun b v=>?_,fun k e I hk1=>?_,fun j=>?_⟩
  ·rw[M]at hp;by_cases q:j=i
   ·subst q;rw[if_pos rfl]at hp;cases hp;have u:(iP f s j o).bl (eH o (s.cl j)).att.bal=⟨true,s.opx j,j,o.lock,o.kind,o.ttl,o.began,s.tr.length,false,0,zVl,zVl,0⟩:=by rw[eB,A,if_pos rfl]
    refine⟨a.k1,a.k4,a.l0,a.l3,a.t0,a.t1,a.t2,a.g0,by rw[M,if_pos rfl];exact a.g1,g.at_ a.ev,fun _=>?_,fun _=>?_,aL _,fun q=>?_⟩
    ·rw[u];exact⟨rfl,rfl,rfl,rfl,rfl⟩
    ·rw[u];exact⟨fun q=>(by cases q),fun q=>absurd (show(2:Int)=4 from q) (by decide)⟩
    ·exact absurd (show(2:Int)=4 from q) (by decide)
   ·rw[if_neg q]at hp;refine(h.on j y z p hp).go2 g (fun N=>?_) (fun h4=>?_) rfl (by rw[M,if_neg q];exact aL _)
    ·rcases h0.bal j y z p hp with K|⟨K,_⟩
     ·exact absurd K.1 N
     ·rw[A,if_neg (Q _ K)]
    ·rcases h0.bal j y z p hp with K|⟨K,_⟩
     ·omega
     ·have:=(h0.fr0 _ K).1;omega
  ·by_cases q:b=B
   ·subst q;rw[A,if_pos rfl];refine⟨a.k1,a.k4,a.l0,a.l3,a.g0,a4,?_,?_,fun q=>(by cases q),fun q=>(by cases q)⟩
    ·show s.tr.length≤_;rw[C,aD];omega
    ·exact g.at_ a.ev
   ·rw[A,if_neg q]at v;exact g.bg v (by rw[A,if_neg q]) (h.bg b v)
  ·rw[A]at v⊢;by_cases q:b=B
   ·rw[if_pos q]
   ·rw[if_neg q]at v⊢;exact h.ask b v
  ·rw[C]at I;by_cases R:k<s.tr.length
   ·rw[bI R]at I;exact g.msg (h.ms k e I hk1)
   ·rw[bJ (by omega)]at I;obtain⟨d,_,rfl⟩:=bL.1 (List.mem_of_getElem? I);have u:(iP f s i o).bl (eH o (s.cl i)).att.bal=⟨true,s.opx i,i,o.lock,o.kind,o.ttl,o.began,s.tr.length,false,0,zVl,zVl,0⟩:=by rw[eB,A,if_pos rfl]
    refine⟨?_,?_,?_,Or.inl ⟨rfl,?_⟩⟩
    ·show((iP f s i o).bl (eH o (s.cl i)).att.bal).used=true;rw[u]
    ·show o.lock=((iP f s i o).bl (eH o (s.cl i)).att.bal).lock;rw[u]
    ·show((iP f s i o).bl (eH o (s.cl i)).att.bal).t0≤k;rw[u];show s.tr.length≤k;omega
    ·show _=aF1 (eH o (s.cl i)).att.bal ((iP f s i o).bl (eH o (s.cl i)).att.bal) _;rw[u];show(⟨1,(s.cl i).num,_,o.lock,_,0,zVl⟩:Mg)=⟨1,i,_,o.lock,_,0,zVl⟩;rw[h0.num i D E]
     rfl
  ·rw[C,aD];have:=h.ol j;show s.opx j≤_;omega
 case endU=>
  intro i o V D E L O hr;refine h.quiet (s':=tN s i o V) (e:=kX (s.cl i) o V 0 0) rfl rfl sQ (fun j=>by
   show s.opx j≤(s.tr++_).length;rw[aD];have:=h.ol j;omega) (fun j y z p hp=>?_)
  have g:Ext s (tN s i o V):=Ext.of_bl ⟨_,rfl⟩ rfl;have e:(tN s i o V).cl j=if j=i then{s.cl i with doing:=none}else s.cl j:=rfl
  rw[e]at hp;by_cases q:j=i
  ·rw[if_pos q]at hp;cases hp
  ·rw[if_neg q]at hp;exact(h.on j y z p hp).go g rfl rfl (by rw[e,if_neg q];exact aL _)
 case endQ=>
  intro i o D E L O h4 hq;obtain⟨sc,a0⟩:=qC (s.cl i) o o.att.eres o.att.etok o.att.val;refine h.quiet (s':=pO s i o) (e:=kX (s.cl i) o o.att.eres o.att.eown o.att.etok) rfl rfl sQ (fun j=>by
   show s.opx j≤(s.tr++_).length;rw[aD];have:=h.ol j;omega) (fun j y z p hp=>?_)
  have g:Ext s (pO s i o):=Ext.of_bl ⟨_,rfl⟩ rfl;have e:(pO s i o).cl j=if j=i then fT (s.cl i) o o.att.eres o.att.etok o.att.val else s.cl j:=rfl
  rw[e]at hp;by_cases q:j=i
  ·rw[if_pos q,a0]at hp;cases hp
  ·rw[if_neg q]at hp;exact(h.on j y z p hp).go g rfl rfl (by rw[e,if_neg q];exact aL _)
 case hear=>
  intro i o m D E L O hm v b6 I ha;refine h.quiet (s':=kE s i o m) (e:=[]) rfl rfl (fun x g=>by cases g) (fun j=>by show s.opx j≤(s.tr++[]).length;rw[aC];exact h.ol j) (fun j y z p hp=>?_);have g:Ext s (kE s i o m):=Ext.of_bl ⟨[],rfl⟩ rfl;have e:(kE s i o m).cl j=if j=i then{s.cl i with doing:=some (heardOn o m)}else s.cl j:=rfl
  rw[e]at hp;by_cases q:j=i
  ·subst q;rw[if_pos rfl]at hp;cases hp;have k:=h.on j y z o O;refine⟨k.k1,k.k4,k.l0,k.l3,k.t0,k.t1,k.t2,k.g0,by rw[e,if_pos rfl];exact k.g1,g.at_ k.ev,k.lk,k.ask,?_,fun h4=>?_⟩
   ·show 0≤(if o.att.base<m.base then m.base else o.att.base);have:=k.e0;split<;>omega
   have b4:o.att.awaited=4:=h4;obtain⟨kk,_,Z⟩:=h.sent hm;have N:m.base=0:=by
    rcases Z.ca with⟨c,_⟩|⟨c,_⟩|⟨_,_,_,_,c⟩
    ·omega
    ·omega
    ·exact(c (by omega)).2.2
   obtain⟨v1,v2⟩:=k.av b4;have S:¬o.att.base<m.base:=by
    have:=k.e0;omega
   show(s.bl o.att.bal).base=(if o.att.base<m.base then m.base else o.att.base)∧(s.bl o.att.bal).pv=(if o.att.base<m.base then m.val else o.att.val);rw[if_neg S,if_neg S];exact⟨v1,v2⟩
  ·rw[if_neg q]at hp;exact(h.on j y z p hp).go g rfl rfl (by rw[e,if_neg q];exact aL _)
 case prop=>
  intro i o D E L O h2 hq hr;have a:=h.on i D E o O;have G:o.att.bal≠0∧(s.bl o.att.bal).used=true∧(s.bl o.att.bal).cl=i:=by
   rcases h0.bal i D E o O with K|⟨K,q2,_⟩
   ·omega
   ·exact⟨by have:=(h0.fr0 _ K).1;omega,K,q2⟩
  obtain⟨N,W,a5⟩:=G;have a8:(s.bl o.att.bal).asked=false:=by
   cases q:(s.bl o.att.bal).asked with
   |false=>rfl
   |true=>have:=(a.ask N).1 q;omega
  have U:=a.lk N;have H:=h.bg _ W;obtain⟨w,hw⟩:=aIf (cU f (s.cl i) o o.att.val);have C:(iI f s i o).tr=s.tr++fA (s.cl i) (eJ o w) 3 o.att.base w.next (dI f):=by rw[←hw];rfl
  have F:∀b,(iI f s i o).bl b=if b=o.att.bal then{s.bl o.att.bal with asked:=true,base:=o.att.base,pv:=o.att.val,val:=w.next,t1:=s.tr.length}else s.bl b:=fun b=>by rw[←hw];rfl
  have M:∀j,(iI f s i o).cl j=if j=i then{s.cl i with doing:=some (eJ o w)}else s.cl j:=fun j=>by rw[←hw];rfl
  have T:(iI f s i o).opx=s.opx:=rfl;have g:Ext s (iI f s i o):=⟨⟨_,C⟩,fun b v=>by
   rw[F];by_cases q:b=o.att.bal
   ·rw[if_pos q,q];exact⟨W,rfl,rfl,rfl,rfl,rfl,rfl,rfl⟩
   ·rw[if_neg q];exact⟨v,rfl,rfl,rfl,rfl,rfl,rfl,rfl⟩,fun b v=>by
   rw[F,if_neg (fun e=>by rw[e,a8]at v;cases v)]⟩
  generalize hS:iI f s i o=s' at*;have hn:0<dI f:=by unfold dI;omega
  have X:s'.tr[s.tr.length]?=some (fC ⟨3,i,0,o.lock,o.att.bal,o.att.base,w.next⟩):=by
   rw[C,bJ (aE _),Nat.sub_self];unfold fA;obtain⟨n,b0⟩:∃n,dI f=n+1:=⟨dI f-1,by omega⟩;rw[b0,List.range_succ_eq_map];simp[eJ,h0.num i D E]
  refine⟨fun j y z p hp=>?_,fun b v=>?_,fun b v=>?_,fun k e I hk1=>?_,fun j=>?_⟩
  ·rw[M]at hp;by_cases q:j=i
   ·subst q;rw[if_pos rfl]at hp;cases hp;have u:s'.bl (eJ o w).att.bal={s.bl o.att.bal with asked:=true,base:=o.att.base,pv:=o.att.val,val:=w.next,t1:=s.tr.length}:=by
     show s'.bl o.att.bal=_;rw[F,if_pos rfl]
    refine⟨a.k1,a.k4,a.l0,a.l3,a.t0,a.t1,a.t2,a.g0,by rw[M,if_pos rfl];exact a.g1,by rw[T];exact g.at_ a.ev,fun _=>?_,fun _=>?_,a.e0,fun _=>?_⟩
    ·rw[u,T];exact U
    ·rw[u];exact⟨fun _=>rfl,fun _=>rfl⟩
    ·rw[u];exact⟨rfl,rfl⟩
   ·rw[if_neg q]at hp;have Q:p.att.bal≠o.att.bal:=h0.other D E y z (fun e=>q e.symm) O hp N;refine(h.on j y z p hp).go2 g (fun _=>by rw[F,if_neg Q]) (fun h4=>?_) (by rw[T]) (by rw[M,if_neg q];exact aL _);rcases h0.bal j y z p hp with K|⟨K,_⟩
    ·omega
    ·have:=(h0.fr0 _ K).1;omega
  ·by_cases q:b=o.att.bal
   ·subst q;rw[F,if_pos rfl];refine⟨H.k1,H.k4,H.l0,H.l3,H.g0,H.op,bP H.t0 g.len,g.at_ H.ev,fun _=>H.t0,fun _=>?_⟩;show s'.tr[s.tr.length]?=some (fC ⟨3,(s.bl o.att.bal).cl,0,(s.bl o.att.bal).lock,o.att.bal,o.att.base,w.next⟩);rw[a5,U.2.1];exact X
   ·rw[F,if_neg q]at v;exact g.bg v (by rw[F,if_neg q]) (h.bg b v)
  ·rw[F]at v⊢;by_cases q:b=o.att.bal
   ·rw[if_pos q];exact W
   ·rw[if_neg q]at v⊢;exact h.ask b v
  ·rw[C]at I;by_cases R:k<s.tr.length
   ·rw[bI R]at I;exact g.msg (h.ms k e I hk1)
   ·rw[bJ (by omega)]at I;obtain⟨d,_,rfl⟩:=bL.1 (List.mem_of_getElem? I);have u:s'.bl o.att.bal={s.bl o.att.bal with asked:=true,base:=o.att.base,pv:=o.att.val,val:=w.next,t1:=s.tr.length}:=by rw[F,if_pos rfl]
    refine⟨?_,?_,?_,Or.inr (Or.inl ⟨rfl,?_,?_,?_⟩)⟩
    ·show(s'.bl o.att.bal).used=true;rw[u];exact W
    ·show o.lock=(s'.bl o.att.bal).lock;rw[u];exact U.2.1.symm
    ·show(s'.bl o.att.bal).t0≤k;rw[u];show(s.bl o.att.bal).t0≤k;have:=H.t0;omega
    ·show(s'.bl o.att.bal).asked=true;rw[u]
    ·show(s'.bl o.att.bal).t1≤k;rw[u];show s.tr.length≤k;omega
    ·show(⟨3,(s.cl i).num,(d:Int),o.lock,o.att.bal,o.att.base,w.next⟩:Mg)=aHI o.att.bal (s'.bl o.att.bal) (d:Int);rw[u,h0.num i D E];show _=(⟨3,(s.bl o.att.bal).cl,(d:Int),(s.bl o.att.bal).lock,o.att.bal,o.att.base,w.next⟩:Mg);rw[a5,U.2.1]
  ·rw[C,aD,T];have:=h.ol j;omega
 case lose=>
  intro i D E L;have et:(rG s i).tr=s.tr++[gJ (-1-(s.cl i).num)]:=by
   show s.tr++lO (s.cl i)=_;unfold lO;rw[if_neg (by rw[L];decide)]
  refine h.quiet (s':=rG s i) et rfl (fun x g=>by rw[List.mem_singleton]at g;subst g;show(4:Int)≠1;decide) (fun j=>by
   rw[et,aD];have:=h.ol j;show s.opx j≤_;omega) (fun j y z p hp=>?_)
  have g:Ext s (rG s i):=Ext.of_bl ⟨_,et⟩ rfl;have e:(rG s i).cl j=if j=i then lY (s.cl i)else s.cl j:=rfl
  rw[e]at hp;by_cases q:j=i
  ·rw[if_pos q,sT L]at hp;cases hp
  ·rw[if_neg q]at hp;exact(h.on j y z p hp).go g rfl rfl (by rw[e,if_neg q];exact aL _)
 case ret=>
  intro i D E L hi;have et:(tA s i).tr=s.tr++[nX (-1-(s.cl i).num)]:=by
   show s.tr++iE (s.cl i)=_;have e:eK (s.cl i)=0:=by unfold eK;rw[if_neg (by rw[L];decide),if_neg (by omega)]
   unfold iE;rw[e,if_neg (by decide)]
  refine h.quiet (s':=tA s i) et rfl (fun x g=>by rw[List.mem_singleton]at g;subst g;show(5:Int)≠1;decide) (fun j=>by
   rw[et,aD];have:=h.ol j;show s.opx j≤_;omega) (fun j y z p hp=>?_)
  have g:Ext s (tA s i):=Ext.of_bl ⟨_,et⟩ rfl;have e:(tA s i).cl j=if j=i then iQ (s.cl i)else s.cl j:=rfl
  rw[e]at hp;by_cases q:j=i
  ·rw[if_pos q,tH L hi]at hp;rw[show({s.cl i with inc:=(s.cl i).inc+1,up:=true}:Ct).doing=(s.cl i).doing from rfl,(h0.gone i D E L).2.2.2.2.2]at hp;cases hp
  ·rw[if_neg q]at hp;exact(h.on j y z p hp).go g rfl rfl (by rw[e,if_neg q];exact aL _)
 case acc=>
  intro j m e y z hm I he;have g:Ext s (rA s j m e):=Ext.of_bl ⟨e,rfl⟩ rfl;have a4:(rA s j m e).opx=s.opx:=rfl;refine⟨fun i D E p hp=>(h.on i D E p hp).go g rfl rfl (aL _),fun b v=>g.bg v rfl (h.bg b v),h.ask,fun k x hk' hk1=>?_,fun i=>?_⟩
  ·have J:(s.tr++e)[k]?=some x:=hk';by_cases R:k<s.tr.length
   ·rw[bI R]at J;exact g.msg (h.ms k x J hk1)
   ·rw[bJ (by omega)]at J;rcases he with rfl|rfl
    ·simp at J
    ·have a9:x=fC (jG j (s.tb j m.lock) m):=by
      have:=List.mem_of_getElem? J;rw[List.mem_singleton]at this;exact this
     subst a9;obtain⟨kk,b7,Z⟩:=h.sent hm;have G:(jG j (s.tb j m.lock) m).bal=m.bal:=rfl;have a2:(jG j (s.tb j m.lock) m).lock=m.lock:=rfl;have Y:(jG j (s.tb j m.lock) m).src=j:=rfl;have a6:(jG j (s.tb j m.lock) m).dst=m.src:=rfl;have b3:m.src=(s.bl m.bal).cl:=by
      rcases Z.ca with⟨_,c⟩|⟨_,_,_,c⟩|⟨c,_⟩
      ·have:=congrArg Mg.src c;exact this
      ·have:=congrArg Mg.src c;exact this
      ·omega
     have a3:((jG j (s.tb j m.lock) m).kind=2∨(jG j (s.tb j m.lock) m).kind=4∨(jG j (s.tb j m.lock) m).kind=5)∧((jG j (s.tb j m.lock) m).kind=4→m.kind=3∧(jG j (s.tb j m.lock) m).base=0):=by
      unfold jG decMsg;by_cases K:m.bal<(s.tb j m.lock).prom
      ·rw[if_pos K];exact⟨Or.inr (Or.inr rfl),fun q=>absurd (show(5:Int)=4 from q) (by decide)⟩
      ·rw[if_neg K];by_cases q2:m.kind=1
       ·rw[if_pos q2];exact⟨Or.inl rfl,fun q=>absurd (show(2:Int)=4 from q) (by decide)⟩
       ·rw[if_neg q2];exact⟨Or.inr (Or.inl rfl),fun _=>⟨by omega,rfl⟩⟩
     show xK f (rA s j m _) k (jG j (s.tb j m.lock) m);refine⟨?_,?_,?_,Or.inr (Or.inr ⟨a3.1,by rw[Y];exact y,by rw[Y];exact z,?_,fun q=>?_⟩)⟩
     ·rw[G];exact Z.us
     ·rw[G,a2];exact Z.lk
     ·rw[G];have:=Z.t0;show(s.bl m.bal).t0≤k;omega
     ·rw[G,a6];exact b3
     ·rw[G];obtain⟨q3,q4⟩:=a3.2 q;rcases Z.ca with⟨c,_⟩|⟨_,c1,c2,c3⟩|⟨c,_⟩
      ·omega
      ·refine⟨c1,?_,q4⟩;show(s.bl m.bal).t1<k;omega
      ·omega
  ·show s.opx i≤(s.tr++e).length;rw[aD];have:=h.ol i;omega
 case ev=>
  intro j k y I;have g:Ext s (sEv s j k):=Ext.of_bl ⟨_,rfl⟩ rfl;refine h.quiet (s':=sEv s j k) rfl rfl (fun x g=>by rw[List.mem_singleton]at g;subst g;show k≠1;omega) (fun i=>by
   show s.opx i≤(s.tr++_).length;rw[aD];have:=h.ol i;omega) (fun i D E p hp=>(h.on i D E p hp).go g rfl rfl (aL _))
def valB(s:Sx)(b:Int):Vl:=if b=0 then zVl else(s.bl b).val
def aHu(r:Rw):Vl:=⟨r.own,r.tok,r.ttl,r.seq⟩
def Low(r:Rw)(m:Mg):Prop:=(m.kind=2→m.bal≤r.prom∧m.base≤r.acc)∧(m.kind=5→m.base≤r.prom)∧(m.kind=4→m.bal≤r.prom∧m.bal≤r.acc)
def Said(s:Sx)(kind j l b:Int)(base:Int)(n:Nat):Prop:=∃k e,k<n∧s.tr[k]?=some e∧e.kind=1∧e.msg.kind=kind∧e.msg.src=j∧e.msg.lock=l∧e.msg.bal=b∧e.msg.base≤base
structure OnPax(f:Cf)(s:Sx)(o:On):Prop where
 nd:o.att.ans.Nodup
 pr:o.att.awaited=2→∀j ∈ o.att.ans,(0≤j∧j<2*f.f+1)∧Said s 2 j o.lock o.att.bal o.att.base s.tr.length
 ac:o.att.awaited=4→∀j ∈ o.att.ans,(0≤j∧j<2*f.f+1)∧Said s 4 j o.lock o.att.bal 0 s.tr.length
 vl:o.att.awaited=2→o.att.val=valB s o.att.base∧o.att.base<o.att.bal∧(o.att.base=0∨(s.bl o.att.base).asked=true∧(s.bl o.att.base).lock=o.lock)
structure AskPax(f:Cf)(s:Sx)(b:Int)(g:Bg):Prop where
 b0:0≤g.base
 lt:g.base<b
 pv:g.pv=valB s g.base
 up:g.base=0∨(s.bl g.base).asked=true∧(s.bl g.base).lock=g.lock∧(s.bl g.base).t1<g.t1
 qu:∃q:List Int,q.Nodup∧f.f<q.length∧∀j ∈ q,(0≤j∧j<2*f.f+1)∧Said s 2 j g.lock b g.base g.t1
structure I2(f:Cf)(s:Sx):Prop where
 lk:∀j l,(s.tb j l).lock=l
 a0:∀j l,0≤(s.tb j l).acc∧(s.tb j l).acc≤(s.tb j l).prom
 av:∀j l,aHu (s.tb j l)=valB s (s.tb j l).acc∧((s.tb j l).acc≠0→(s.bl (s.tb j l).acc).asked=true∧(s.bl (s.tb j l).acc).lock=l)
 low:∀m ∈ cH s.tr,Low (s.tb m.src m.lock) m
 ord:∀(k1 k2:Nat) (e1 e2:Ev),s.tr[k1]?=some e1→s.tr[k2]?=some e2→e1.kind=1→e2.kind=1→e1.msg.kind=2→e2.msg.kind=4→e1.msg.src=e2.msg.src→e1.msg.lock=e2.msg.lock→(k2<k1→e2.msg.bal≤e1.msg.base)∧(k1<k2→e1.msg.bal≤e2.msg.bal)
 prm:∀m ∈ cH s.tr,m.kind=2→m.val=valB s m.base∧0≤m.base∧m.base≤m.bal∧(m.base=0∨(s.bl m.base).asked=true∧(s.bl m.base).lock=m.lock)
 on:∀i,0≤i→i<f.clients→∀o,(s.cl i).doing=some o→OnPax f s o
 ask:∀b,(s.bl b).asked=true→AskPax f s b (s.bl b)
theorem Said.mono{s s':Sx}(h:Ext s s'){kind j l b base base':Int}{n n':Nat}(q:Said s kind j l b base n)(hb:base≤base')(hn:n≤n'):Said s' kind j l b base' n':=by
 obtain⟨k,e,o,c,i,d,g,a,f,m⟩:=q;exact⟨k,e,by omega,h.at_ c,i,d,g,a,f,by omega⟩
theorem pI{s s':Sx}(h:Ext s s'){b:Int}(hb:b=0∨(s.bl b).asked=true):valB s' b=valB s b:=by
 unfold valB;rcases hb with rfl|hb
 ·rfl
 ·rw[h.ask _ hb]
theorem AskPax.ext{f:Cf}{s s':Sx}(h:Ext s s'){b:Int}{g:Bg}(q:AskPax f s b g):AskPax f s' b g:=by
 refine⟨q.b0,q.lt,by rw[pI h (q.up.imp id fun x=>x.1)];exact q.pv,q.up.imp id fun x=>?_,?_⟩
 ·rw[h.ask _ x.1];exact x
 ·obtain⟨l,d,c,a⟩:=q.qu;exact⟨l,d,c,fun j hj=>⟨(a j hj).1,(a j hj).2.mono h (aL _) (aE _)⟩⟩
theorem OnPax.ext{f:Cf}{s s':Sx}(h:Ext s s'){o:On}(q:OnPax f s o):OnPax f s' o:=by
 refine⟨q.nd,fun h2 j hj=>⟨(q.pr h2 j hj).1,(q.pr h2 j hj).2.mono h (aL _) h.len⟩,fun h4 j hj=>⟨(q.ac h4 j hj).1,(q.ac h4 j hj).2.mono h (aL _) h.len⟩,fun h2=>?_⟩;obtain⟨c,b,a⟩:=q.vl h2;refine⟨by rw[pI h (a.imp id fun x=>x.1)];exact c,b,a.imp id fun x=>?_⟩;rw[h.ask _ x.1];exact x
theorem aHK{l:List Ev}{e:Ev}{m:Mg}:m ∈ cH (l++[e])↔m ∈ cH l∨(e.kind=1∧m=e.msg):=by
 rw[gL,aO];refine or_congr Iff.rfl ?_;unfold cH pG;by_cases h:e.kind=1
 ·simp[h]
 ·simp[h]
theorem I2.quiet{f:Cf}{s s':Sx}(h:I2 f s)(hx:Ext s s'){e:List Ev}(ht:s'.tr=s.tr++e)(htb:s'.tb=s.tb)
 (he:∀x ∈ e,x.kind=1→x.msg.kind=1∨x.msg.kind=3)
 (hon:∀i,0≤i→i<f.clients→∀o,(s'.cl i).doing=some o→OnPax f s' o)
 (hask:∀b,(s'.bl b).asked=true→(s.bl b).asked=false→AskPax f s' b (s'.bl b)):I2 f s':=by
 have a:∀m ∈ cH s'.tr,(m.kind=1∨m.kind=3)∨m ∈ cH s.tr:=fun m a=>by
  rw[ht,gL,aO]at a;rcases a with a|a
  ·exact Or.inr a
  ·obtain⟨k,x,n,t,rfl⟩:=yJ a;exact Or.inl (he x (List.mem_of_getElem? n) t)
 have c:∀(k:Nat) (x:Ev),s'.tr[k]?=some x→x.kind=1→(x.msg.kind=2∨x.msg.kind=4)→s.tr[k]?=some x:=fun k x hk n t=>by
  rw[ht]at hk;by_cases r:k<s.tr.length
  ·rwa [bI r]at hk
  ·rw[bJ (by omega)]at hk;have:=he x (List.mem_of_getElem? hk) n;omega
 refine⟨by rw[htb];exact h.lk,by rw[htb];exact h.a0,fun j l=>?_,fun m q=>?_,fun k1 k2 e1 e2 p1 p2 p3 p4 p5 p6 p7 p8=>h.ord k1 k2 e1 e2 (c _ _ p1 p3 (Or.inl p5)) (c _ _ p2 p4 (Or.inr p6)) p3 p4 p5 p6 p7 p8,fun m q q2=>?_,hon,fun b hb=>?_⟩
 ·rw[htb];obtain⟨p,d⟩:=h.av j l;refine⟨?_,fun q=>?_⟩
  ·rw[pI hx]
   ·exact p
   ·by_cases q:(s.tb j l).acc=0
    ·exact Or.inl q
    ·exact Or.inr (d q).1
  ·rw[hx.ask _ (d q).1];exact d q
 ·rw[htb];rcases a m q with g|g
  ·exact⟨fun q=>by omega,fun q=>by omega,fun q=>by omega⟩
  ·exact h.low m g
 ·rcases a m q with g|g
  ·omega
  ·obtain⟨p,d,v,u⟩:=h.prm m g q2;refine⟨by rw[pI hx (u.imp id fun x=>x.1)];exact p,d,v,u.imp id fun x=>?_⟩;rw[hx.ask _ x.1];exact x
 ·by_cases q:(s.bl b).asked=true
  ·rw[hx.ask b q];exact(h.ask b q).ext hx
  ·exact hask b hb (by simpa using q)
theorem aHH(f:Cf):I2 f qX:=by
 refine⟨fun _ _=>rfl,fun _ _=>⟨aL _,aL _⟩,fun _ _=>⟨rfl,fun h=>absurd rfl h⟩,fun m hm=>?_,fun k1 k2 e1 e2 h1=>?_,fun m hm=>?_,fun i _ _ o ho=>?_,fun b hb=>?_⟩
 ·cases hm
 ·simp[qX]at h1
 ·cases hm
 ·cases ho
 ·cases hb
structure Still(s s':Sx):Prop where
 bl:s'.bl=s.bl
 tb:s'.tb=s.tb
 op:s'.opx=s.opx
 tr:∃e,s'.tr=s.tr++e∧∀x ∈ e,x.kind≠1∧x.kind≠2
 dg:∀j o,(s'.cl j).doing=some o→(s.cl j).doing=some o
theorem Still.ext{s s':Sx}(h:Still s s'):Ext s s':=Ext.of_bl (by obtain⟨e,he,_⟩:=h.tr;exact⟨e,he⟩) h.bl
theorem oI{s s':Sx}{i:Int}{c:Ct}(hc:s'.cl=upd s.cl i c)(hd:∀o,c.doing=some o→(s.cl i).doing=some o):∀j o,(s'.cl j).doing=some o→(s.cl j).doing=some o:=fun j o ho=>by
 rw[hc]at ho;by_cases q:j=i
 ·rw[q,eW]at ho;rw[q];exact hd o ho
 ·rwa [fJ _ _ q]at ho
theorem Mi.ways{f:Cf}{gd:Bool}{s s':Sx}{P:Sx→Prop}(h0:I0 f s)(hs:Mi f gd s s')(still:∀t,Still s t→P t)
 (began:∀(i k l t:Int),0≤i→i<f.clients→(s.cl i).up=true→(s.cl i).doing=none→1≤k∧k≤4→0≤l∧l≤3→0≤t∧t≤1000→P (gQ s i k l t))
 (att:∀(i:Int) (o:On),0≤i→i<f.clients→(s.cl i).up=true→(s.cl i).doing=some o→(s.cl i).round<1000→P (iP f s i o))
 (hear:∀(i:Int) (o:On) (m:Mg),0≤i→i<f.clients→(s.cl i).up=true→(s.cl i).doing=some o→m ∈ cH s.tr→m.bal=o.att.bal→1≤m.kind→m.kind=o.att.awaited→o.att.ans.contains m.src=false→P (kE s i o m))
 (prop:∀(i:Int) (o:On),0≤i→i<f.clients→(s.cl i).up=true→(s.cl i).doing=some o→o.att.awaited=2→f.f<o.att.ans.length→(cU f (s.cl i) o o.att.val).res≠5→P (iI f s i o))
 (acc:∀(j:Int) (m:Mg) (e:List Ev),0≤j→j<2*f.f+1→m ∈ cH s.tr→m.kind=1∨m.kind=3→e=[]∨e=[fC (jG j (s.tb j m.lock) m)]→P (rA s j m e)):P s':=by
 refine hs.elim (P:=P) ?tick ?bump ?began ?att ?endU ?endQ ?hear ?prop ?lose ?ret ?acc ?ev
 case tick=>exact fun i i0 i1 hu hg=>still _ ⟨rfl,rfl,rfl,⟨[],rfl,fun x hx=>(by cases hx)⟩,oI rfl fun o ho=>ho⟩
 case bump=>exact fun i r o i0 i1 hu hd hr hr'=>still _ ⟨rfl,rfl,rfl,⟨[],rfl,fun x hx=>(by cases hx)⟩,oI rfl fun o ho=>ho⟩
 case began=>exact fun i k l t i0 i1 hu hd hk hl ht _ _=>began i k l t i0 i1 hu hd hk hl ht
 case att=>exact fun i o i0 i1 hu hd hr=>att i o i0 i1 hu hd hr
 case endU=>
  exact fun i o res i0 i1 hu hd hr=>still _ ⟨rfl,rfl,rfl,⟨_,rfl,fun x hx=>by
   simp only[kX,List.mem_singleton]at hx;subst hx;exact⟨show(3:Int)≠1 by decide,show(3:Int)≠2 by decide⟩⟩,oI rfl fun p hp=>(by cases hp)⟩
 case endQ=>
  exact fun i o i0 i1 hu hd h4 hq=>still _ ⟨rfl,rfl,rfl,⟨_,rfl,fun x hx=>by
   simp only[kX,List.mem_singleton]at hx;subst hx;exact⟨show(3:Int)≠1 by decide,show(3:Int)≠2 by decide⟩⟩,oI rfl fun p hp=>(by rw[(qC (s.cl i) o o.att.eres o.att.etok o.att.val).2]at hp;cases hp)⟩
 case hear=>exact fun i o m i0 i1 hu hd hm hb hk0 hk ha=>hear i o m i0 i1 hu hd hm hb hk0 hk ha
 case prop=>exact fun i o i0 i1 hu hd h2 hq hr=>prop i o i0 i1 hu hd h2 hq hr
 case lose=>
  exact fun i i0 i1 hu=>still _ ⟨rfl,rfl,rfl,⟨lO (s.cl i),rfl,fun x hx=>by
   unfold lO at hx;rw[if_neg (by rw[hu];decide),List.mem_singleton]at hx;subst hx;exact⟨show(4:Int)≠1 by decide,show(4:Int)≠2 by decide⟩⟩,oI rfl fun p hp=>(by rw[sT hu]at hp;cases hp)⟩
 case ret=>
  exact fun i i0 i1 hu hi=>still _ ⟨rfl,rfl,rfl,⟨iE (s.cl i),rfl,fun x hx=>by
   have e:eK (s.cl i)=0:=by unfold eK;rw[if_neg (by rw[hu];decide),if_neg (by omega)]
   unfold iE at hx;rw[e,if_neg (by decide),List.mem_singleton]at hx;subst hx;exact⟨show(5:Int)≠1 by decide,show(5:Int)≠2 by decide⟩⟩,oI rfl fun p hp=>(by rw[tH hu hi]at hp;exact hp)⟩
 case acc=>exact fun j m e j0 j1 hm hk he=>acc j m e j0 j1 hm hk he
 case ev=>
  exact fun j k j0 hk=>still _ ⟨rfl,rfl,rfl,⟨_,rfl,fun x hx=>by
   rw[List.mem_singleton]at hx;subst hx;exact⟨show k≠1 by omega,show k≠2 by omega⟩⟩,fun _ _ h=>h⟩
theorem I1.unasked{f:Cf}{s:Sx}(h0:I0 f s)(h:I1 f s){i:Int}{o:On}(i0:0≤i)(i1:i<f.clients)(hd:(s.cl i).doing=some o)(h2:o.att.awaited=2):
 o.att.bal≠0∧(s.bl o.att.bal).used=true∧(s.bl o.att.bal).cl=i∧(s.bl o.att.bal).asked=false:=by
 have c:=h.on i i0 i1 o hd;rcases h0.bal i i0 i1 o hd with b|⟨b,d,_⟩
 ·omega
 ·have a:o.att.bal≠0:=by have:=(h0.fr0 _ b).1;omega
  refine⟨a,b,d,?_⟩;cases q:(s.bl o.att.bal).asked with
  |false=>rfl
  |true=>have:=(c.ask a).1 q;omega
theorem aDt{f:Cf}(hf:f.clients≤4){s:Sx}(h0:I0 f s)(h:I1 f s){i:Int}{o:On}(i0:0≤i)(i1:i<f.clients)(hu:(s.cl i).up=true):Ext s (iP f s i o):=by
 have c:=h0.new_unused hf i0 i1 hu;have a:∀b,(s.bl b).used=true→b≠(hO (s.cl i)).bal:=fun b hb e=>by rw[e,c]at hb;cases hb
 exact⟨⟨_,rfl⟩,fun b hb=>by
  rw[show(iP f s i o).bl b=s.bl b from fJ _ _ (a b hb)];exact⟨hb,rfl,rfl,rfl,rfl,rfl,rfl,rfl⟩,fun b hb=>fJ _ _ (a b (h.ask b hb))⟩
theorem aA4{f:Cf}{s:Sx}(h0:I0 f s)(h:I1 f s){i:Int}{o:On}(i0:0≤i)(i1:i<f.clients)(hd:(s.cl i).doing=some o)(h2:o.att.awaited=2):Ext s (iI f s i o):=by
 obtain⟨d,c,g,a⟩:=h.unasked h0 i0 i1 hd h2;refine⟨⟨_,rfl⟩,fun b hb=>?_,fun b hb=>fJ _ _ (fun e=>by rw[e,a]at hb;cases hb)⟩;by_cases q:b=o.att.bal
 ·subst q;rw[show(iI f s i o).bl o.att.bal=_ from eW _ _ _];exact⟨c,rfl,rfl,rfl,rfl,rfl,rfl,rfl⟩
 ·rw[show(iI f s i o).bl b=s.bl b from fJ _ _ q];exact⟨hb,rfl,rfl,rfl,rfl,rfl,rfl,rfl⟩
theorem yV{c:Ct}{o:On}{k b:Int}{v:Vl}{n:Nat}(hk:k=1∨k=3):∀x ∈ fA c o k b v n,x.kind=1→x.msg.kind=1∨x.msg.kind=3:=fun x hx _=>by
 obtain⟨d,_,rfl⟩:=bL.1 hx;exact hk
theorem aBR{m:Mg}{r:Rw}(hr:r.acc≤r.prom):r.prom≤(dX m r).prom∧r.acc≤(dX m r).acc∧(dX m r).acc≤(dX m r).prom∧(dX m r).lock=r.lock:=by
 unfold dX;split
 ·exact⟨aL _,aL _,hr,rfl⟩
 ·split
  ·exact⟨by show r.prom≤m.bal;omega,aL _,by show r.acc≤m.bal;omega,rfl⟩
  ·exact⟨by show r.prom≤m.bal;omega,by show r.acc≤m.bal;omega,aL _,rfl⟩
theorem aG1{f:Cf}(hf:f.clients≤4)(hff:0≤f.f){gd:Bool}{s s':Sx}(h0:I0 f s)(h1:I1 f s)(h:I2 f s)(hs:Mi f gd s s'):I2 f s':=by
 refine hs.ways (P:=I2 f) h0 ?still ?began ?att ?hear ?prop ?acc
 case still=>
  intro t Y;obtain⟨e,he,hk⟩:=Y.tr;exact h.quiet Y.ext he Y.tb (fun x d y=>absurd y (hk x d).1) (fun i B C o v=>(h.on i B C o (Y.dg i o v)).ext Y.ext) (fun b g hn=>by rw[Y.bl,hn]at g;cases g)
 case began=>
  intro i k l t B C hu E hk T Y;have d:Ext s (gQ s i k l t):=Ext.of_bl ⟨_,rfl⟩ rfl;refine h.quiet d (e:=[gW (s.cl i).num (dT (s.cl i) k l t)]) rfl rfl (fun x d y=>by
   rw[List.mem_singleton]at d;subst d;exact absurd (show(2:Int)=1 from y) (by decide)) (fun j F D o v=>?_) (fun b g hn=>by
   rw[show(gQ s i k l t).bl=s.bl from rfl,hn]at g;cases g)
  by_cases q:j=i
  ·subst q;rw[show(gQ s j k l t).cl j=dJ {s.cl j with doing:=some (dT (s.cl j) k l t)} k l t from eW _ _ _,(mY _ k l t).2]at v;cases v;exact⟨List.nodup_nil,fun u=>absurd (show(0:Int)=2 from u) (by decide),fun u=>absurd (show(0:Int)=4 from u) (by decide),fun u=>absurd (show(0:Int)=2 from u) (by decide)⟩
  ·rw[show(gQ s i k l t).cl j=s.cl j from fJ _ _ q]at v;exact(h.on j F D o v).ext d
 case att=>
  intro i o B C hu E U;have d:=aDt (o:=o) hf h0 h1 B C hu;have eB:=(h0.round_bal hf B C).2.2.2;refine h.quiet d (e:=fA (s.cl i) (eH o (s.cl i)) 1 0 zVl (dI f)) rfl rfl (yV (Or.inl rfl)) (fun j F D p hp=>?_) (fun b g hn=>?_)
  ·by_cases q:j=i
   ·subst q;rw[show(iP f s j o).cl j={s.cl j with round:=(s.cl j).round+1,doing:=some (eH o (s.cl j))}from eW _ _ _]at hp;cases hp;refine⟨List.nodup_nil,fun _ x d=>(by cases d),fun u=>absurd (show(2:Int)=4 from u) (by decide),fun _=>⟨rfl,?_,Or.inl rfl⟩⟩;show 0<(hO (s.cl j)).bal;omega
   ·rw[show(iP f s i o).cl j=s.cl j from fJ _ _ q]at hp;exact(h.on j F D p hp).ext d
  ·by_cases q:b=(hO (s.cl i)).bal
   ·subst q;rw[show(iP f s i o).bl (hO (s.cl i)).bal=_ from eW _ _ _]at g;cases g
   ·rw[show(iP f s i o).bl b=s.bl b from fJ _ _ q,hn]at g;cases g
 case hear=>
  intro i o m B C hu E hm g b4 hk ha;have d:Ext s (kE s i o m):=Ext.of_bl ⟨[],rfl⟩ rfl;refine h.quiet d (e:=[]) rfl rfl (fun x d=>by cases d) (fun j F D p hp=>?_) (fun b g hn=>by
   rw[show(kE s i o m).bl=s.bl from rfl,hn]at g;cases g)
  by_cases q:j=i
  ·subst q;rw[show(kE s j o m).cl j={s.cl j with doing:=some (heardOn o m)}from eW _ _ _]at hp;cases hp;have v:=h.on j F D o E;have a8:=h1.on j F D o E;obtain⟨k,e,Q,a2,n⟩:=yJ hm;have H:k<s.tr.length:=(aF.1 Q).1;have X:=h1.ms k e Q a2;rw[n]at X;have b3:o.att.awaited=2∨o.att.awaited=4:=by
    rcases h0.bal j F D o E with A|⟨_,_,_,A⟩
    ·omega
    ·exact A
   have a3:o.att.bal≠0:=by
    rcases h0.bal j F D o E with A|⟨A,_⟩
    ·omega
    ·have:=(h0.fr0 _ A).1;omega
   have K:(0≤m.src∧m.src<2*f.f+1)∧(m.kind=4→m.base=0):=by
    rcases X.ca with⟨c,_⟩|⟨c,_⟩|⟨_,c1,c2,_,c3⟩
    ·omega
    ·omega
    ·exact⟨⟨c1,c2⟩,fun q=>(c3 q).2.2⟩
   have G:m.lock=o.lock:=by rw[X.lk,g];exact(a8.lk a3).2.1
   have O:(kE s j o m).tr=s.tr:=aC _;have b0:m.src ∉ o.att.ans:=fun q=>by
    have:=List.contains_iff_mem.2 q;rw[ha]at this;cases this
   refine⟨?_,fun u x hxm=>?_,fun h4 x hxm=>?_,fun u=>?_⟩
   ·show(o.att.ans++[m.src]).Nodup;exact List.nodup_append.2 ⟨v.nd,(by simp),fun a ha b g e=>by
     rw[List.mem_singleton]at g;subst g;subst e;exact b0 ha⟩
   ·have I:o.att.awaited=2:=u;have L:o.att.base≤(heardOn o m).att.base∧m.base≤(heardOn o m).att.base:=by
     show o.att.base≤(if o.att.base<m.base then m.base else o.att.base)∧m.base≤(if o.att.base<m.base then m.base else o.att.base);split<;>omega
    rcases aO.1 (show x ∈ o.att.ans++[m.src]from hxm)with q|q
    ·exact⟨(v.pr I x q).1,(v.pr I x q).2.mono d L.1 (by rw[O];exact aE _)⟩
    ·rw[List.mem_singleton]at q;subst q;exact⟨K.1,k,e,by rw[O];exact H,d.at_ Q,a2,by rw[n,hk];exact I,by rw[n],by rw[n];exact G,by rw[n];exact g,by rw[n];exact L.2⟩
   ·have a4:o.att.awaited=4:=h4;rcases aO.1 (show x ∈ o.att.ans++[m.src]from hxm)with q|q
    ·exact⟨(v.ac a4 x q).1,(v.ac a4 x q).2.mono d (aL _) (by rw[O];exact aE _)⟩
    ·rw[List.mem_singleton]at q;subst q;exact⟨K.1,k,e,by rw[O];exact H,d.at_ Q,a2,by rw[n,hk];exact a4,by rw[n],by rw[n];exact G,by rw[n];exact g,by rw[n,K.2 (by omega)];exact aL _⟩
   ·have I:o.att.awaited=2:=u;obtain⟨v1,v2,v3⟩:=v.vl I;obtain⟨_,_,_,a5⟩:=h1.unasked h0 F D E I;obtain⟨w1,w2,w3,w4⟩:=h.prm m hm (by omega);have hv:∀b,valB (kE s j o m) b=valB s b:=fun b=>rfl;show(if o.att.base<m.base then m.val else o.att.val)=valB (kE s j o m) (if o.att.base<m.base then m.base else o.att.base)∧(if o.att.base<m.base then m.base else o.att.base)<o.att.bal∧((if o.att.base<m.base then m.base else o.att.base)=0∨(s.bl (if o.att.base<m.base then m.base else o.att.base)).asked=true∧(s.bl (if o.att.base<m.base then m.base else o.att.base)).lock=o.lock);rw[hv];by_cases q:o.att.base<m.base
    ·rw[if_pos q,if_pos q];have b2:m.base≠o.att.bal:=fun e=>by
      rcases w4 with w4|w4
      ·omega
      ·rw[e,a5]at w4;cases w4.1
     exact⟨w1,by omega,w4.imp id fun w=>⟨w.1,by rw[w.2];exact G⟩⟩
    ·rw[if_neg q,if_neg q];exact⟨v1,v2,v3⟩
  ·rw[show(kE s i o m).cl j=s.cl j from fJ _ _ q]at hp;exact(h.on j F D p hp).ext d
 case prop=>
  intro i o B C hu E u hq U;have d:=aA4 h0 h1 B C E u;obtain⟨a3,b6,b7,a5⟩:=h1.unasked h0 B C E u;have G:=(h1.on i B C o E).lk a3;have v:=h.on i B C o E;obtain⟨v1,v2,v3⟩:=v.vl u;have a9:=(h1.on i B C o E).e0;refine h.quiet d (e:=fA (s.cl i) (eJ o (cU f (s.cl i) o o.att.val)) 3 o.att.base (cU f (s.cl i) o o.att.val).next (dI f)) rfl rfl (yV (Or.inr rfl)) (fun j F D p hp=>?_) (fun b g hn=>?_)
  ·by_cases q:j=i
   ·subst q;rw[show(iI f s j o).cl j={s.cl j with doing:=some (eJ o (cU f (s.cl j) o o.att.val))}from eW _ _ _]at hp;cases hp;exact⟨List.nodup_nil,fun u=>absurd (show(4:Int)=2 from u) (by decide),fun _ x d=>(by cases d),fun u=>absurd (show(4:Int)=2 from u) (by decide)⟩
   ·rw[show(iI f s i o).cl j=s.cl j from fJ _ _ q]at hp;exact(h.on j F D p hp).ext d
  ·by_cases q:b=o.att.bal
   ·subst q;rw[show(iI f s i o).bl o.att.bal={s.bl o.att.bal with asked:=true,base:=o.att.base,pv:=o.att.val,val:=(cU f (s.cl i) o o.att.val).next,t1:=s.tr.length}from eW _ _ _];refine⟨a9,v2,by rw[pI d (v3.imp id fun x=>x.1)];exact v1,v3.imp id fun x=>?_,o.att.ans,v.nd,hq,fun j hj=>⟨(v.pr u j hj).1,?_⟩⟩
    ·show((iI f s i o).bl o.att.base).asked=true∧((iI f s i o).bl o.att.base).lock=(s.bl o.att.bal).lock∧((iI f s i o).bl o.att.base).t1<s.tr.length;rw[d.ask _ x.1,G.2.1];exact⟨x.1,x.2,(aF.1 ((h1.bg _ (h1.ask _ x.1)).ac x.1)).1⟩
    ·show Said (iI f s i o) 2 j (s.bl o.att.bal).lock o.att.bal o.att.base s.tr.length;rw[G.2.1];exact(v.pr u j hj).2.mono d (aL _) (aE _)
   ·rw[show(iI f s i o).bl b=s.bl b from fJ _ _ q,hn]at g;cases g
 case acc=>
  intro j m e F D hm hk he;have d:Ext s (rA s j m e):=Ext.of_bl ⟨e,rfl⟩ rfl;obtain⟨kk,b5,X⟩:=h1.sent hm;obtain⟨r,U⟩:=aIf (s.tb j m.lock);rw[U]at he;have Z:=h.a0 j m.lock;have J:=h.av j m.lock;have a6:=h.lk j m.lock;rw[U]at Z J a6;obtain⟨d1,d2,d3,d4⟩:=aBR (m:=m) Z.2;have b1:=(h0.fr0 _ X.us).1;have R:∀a l,(rA s j m e).tb a l=if a=j∧l=m.lock then dX m r else s.tb a l:=fun a l=>by rw[←U];rfl
  have V:∀b,valB (rA s j m e) b=valB s b:=fun b=>rfl;have W:∀x ∈ cH (rA s j m e).tr,x ∈ cH s.tr∨x=jG j r m:=fun x q=>by
   rw[show(rA s j m e).tr=s.tr++e from rfl]at q;rcases he with rfl|rfl
   ·rw[aC]at q;exact Or.inl q
   ·exact(aHK.1 q).imp id fun q=>q.2
  have M:∀(k:Nat) (x:Ev),(rA s j m e).tr[k]?=some x→s.tr[k]?=some x∨(k=s.tr.length∧x=fC (jG j r m)):=fun k x q=>by
   rw[show(rA s j m e).tr=s.tr++e from rfl]at q;by_cases H:k<s.tr.length
   ·rw[bI H]at q;exact Or.inl q
   ·rw[bJ (by omega)]at q;rcases he with rfl|rfl
    ·simp at q
    ·obtain⟨p1,p2⟩:=aF.1 q;simp only[aK]at p1;have h3:k-s.tr.length=0:=by omega
     simp only[h3,List.getElem_cons_zero]at p2;exact Or.inr ⟨by omega,p2.symm⟩
  have a7:(jG j r m).bal=m.bal∧(jG j r m).lock=m.lock∧(jG j r m).src=j∧
   (((jG j r m).kind=5∧(jG j r m).base=r.prom)∨
    ((jG j r m).kind=2∧m.kind=1∧¬m.bal<r.prom∧(jG j r m).base=r.acc∧(jG j r m).val=aHu r∧(dX m r).prom=m.bal)∨
    ((jG j r m).kind=4∧¬m.bal<r.prom∧(dX m r).prom=m.bal∧(dX m r).acc=m.bal)):=by
   refine⟨rfl,rfl,rfl,?_⟩;unfold jG decMsg dX;by_cases A:m.bal<r.prom
   ·rw[if_pos A,if_pos A];exact Or.inl ⟨rfl,rfl⟩
   ·rw[if_neg A,if_neg A];by_cases N:m.kind=1
    ·rw[if_pos N,if_pos N];exact Or.inr (Or.inl ⟨rfl,N,A,rfl,rfl,rfl⟩)
    ·rw[if_neg N,if_neg N];exact Or.inr (Or.inr ⟨rfl,A,rfl,rfl⟩)
  obtain⟨ab,al,a1,ak⟩:=a7;refine⟨fun a l=>?_,fun a l=>?_,fun a l=>?_,fun x q=>?_,fun y S e1 e2 p1 p2 p3 p4 p5 p6 p7 p8=>?_,fun x q N=>?_,fun i B C o v=>(h.on i B C o v).ext d,fun b g=>(h.ask b g).ext d⟩
  ·rw[R];split
   ·rename_i q;rw[d4,a6,q.2]
   ·exact h.lk a l
  ·rw[R];split
   ·exact⟨by omega,d3⟩
   ·exact h.a0 a l
  ·rw[R,V];split
   ·rename_i q;show _∧(_→(s.bl (dX m r).acc).asked=true∧(s.bl (dX m r).acc).lock=l);unfold dX;by_cases A:m.bal<r.prom
    ·rw[if_pos A,q.2];exact J
    ·rw[if_neg A];by_cases N:m.kind=1
     ·rw[if_pos N,q.2];exact J
     ·rw[if_neg N];rcases X.ca with⟨c,_⟩|⟨_,c1,c2,c3⟩|⟨c,_⟩
      ·omega
      ·refine⟨?_,fun _=>⟨c1,by rw[q.2];exact X.lk.symm⟩⟩;show(⟨m.val.own,m.val.tok,m.val.ttl,m.val.seq⟩:Vl)=valB s m.bal;unfold valB;rw[if_neg (by omega)];have:=congrArg Mg.val c3;exact this
      ·omega
   ·show _∧(_→(s.bl (s.tb a l).acc).asked=true∧(s.bl (s.tb a l).acc).lock=l);exact h.av a l
  ·rw[R];rcases W x q with q|q
   ·have T:=h.low x q;split
    ·rename_i q3;rw[q3.1,q3.2,U]at T;obtain⟨l1,l2,l3⟩:=T;exact⟨fun z=>by have:=l1 z;omega,fun z=>by have:=l2 z;omega,fun z=>by have:=l3 z;omega⟩
    ·exact T
   ·subst q;rw[if_pos ⟨a1,al⟩];unfold Low;rw[ab];rcases ak with⟨y,S⟩|⟨y,S,k3,k4,k5,k6⟩|⟨y,S,k3,k4⟩
    ·exact⟨fun z=>by omega,fun _=>by omega,fun z=>by omega⟩
    ·exact⟨fun _=>⟨by omega,by omega⟩,fun z=>by omega,fun z=>by omega⟩
    ·exact⟨fun z=>by omega,fun z=>by omega,fun _=>⟨by omega,by omega⟩⟩
  ·rcases M y e1 p1 with o1|⟨n1,o1⟩<;>rcases M S e2 p2 with o2|⟨n2,o2⟩
   ·exact h.ord y S e1 e2 o1 o2 p3 p4 p5 p6 p7 p8
   ·have H:=(aF.1 o1).1;subst o2;have T:=(h.low _ (aB6 o1 p3)).1 p5;have g1:e1.msg.src=j:=p7.trans a1;have g2:e1.msg.lock=m.lock:=p8.trans al;rw[g1,g2,U]at T;refine⟨fun z=>by omega,fun _=>?_⟩;show e1.msg.bal≤(jG j r m).bal;rw[ab];rcases ak with⟨y,_⟩|⟨y,_⟩|⟨y,S,k3,k4⟩
    ·have:(jG j r m).kind=4:=p6;omega
    ·have:(jG j r m).kind=4:=p6;omega
    ·omega
   ·have H:=(aF.1 o2).1;subst o1;have T:=(h.low _ (aB6 o2 p4)).2.2 p6;have g1:e2.msg.src=j:=p7.symm.trans a1;have g2:e2.msg.lock=m.lock:=p8.symm.trans al;rw[g1,g2,U]at T;refine⟨fun _=>?_,fun z=>by omega⟩;show e2.msg.bal≤(jG j r m).base;rcases ak with⟨y,_⟩|⟨y,S,k3,k4,k5,k6⟩|⟨y,_⟩
    ·have:(jG j r m).kind=2:=p5;omega
    ·omega
    ·have:(jG j r m).kind=2:=p5;omega
   ·exact⟨fun z=>by omega,fun z=>by omega⟩
  ·rw[V];show _∧_∧_∧(_∨(s.bl x.base).asked=true∧(s.bl x.base).lock=x.lock);rcases W x q with q|q
   ·exact h.prm x q N
   ·subst q;rcases ak with⟨y,_⟩|⟨y,S,k3,k4,k5,k6⟩|⟨y,_⟩
    ·omega
    ·rw[k4,k5,ab,al];refine⟨J.1,Z.1,by omega,?_⟩;by_cases z:r.acc=0
     ·exact Or.inl z
     ·exact Or.inr (J.2 z)
    ·omega
def Tch(e:Ev)(c:Int):Prop:=(e.kind=2∧e.node=c)∨(e.kind=3∧e.node=c)∨(e.kind=4∧e.node= -1-c)
def gY(t:List Ev):Nat→Int→Option Nat
 |0,_=>none
 |n+1,c=>match t[n]? with
  |some e=>if e.kind=2∧e.node=c then some n else if(e.kind=3∧e.node=c)∨(e.kind=4∧e.node= -1-c)then none else gY t n c
  |none=>gY t n c
theorem lC(t e:List Ev)(c:Int):∀n,n≤t.length→gY (t++e) n c=gY t n c
 |0,_=>rfl
 |n+1,h=>by
  have ih:=lC t e c n (by omega);unfold gY;rw[bI (by omega),ih]
theorem sE(t:List Ev)(x:Ev)(c:Int):gY (t++[x]) (t.length+1) c=if x.kind=2∧x.node=c then some t.length else if(x.kind=3∧x.node=c)∨(x.kind=4∧x.node= -1-c)then none else gY t t.length c:=by
 rw[gY];rw[bJ (aE _),Nat.sub_self];show(if _ then _ else if _ then _ else gY (t++[x]) t.length c)=_;rw[lC t [x] c t.length (aE _)]
theorem lS(c:Int):∀(e t:List Ev),(∀x ∈ e,¬Tch x c)→gY (t++e) (t++e).length c=gY t t.length c
 |[],t,_=>by rw[aC]
 |x::e,t,h=>by
  have ih:=lS c e (t++[x]) (fun y hy=>h y (by simp[hy]));rw[show t++x::e=(t++[x])++e by simp,ih,aD,aK,sE];have hx:=h x (by simp);unfold Tch at hx;rw[if_neg (fun q=>hx (Or.inl q)),if_neg (fun q=>hx (Or.inr q))]
def Mkd(g:Bg)(b:Int):Prop:=(g.kind=1∧g.val.tok=b)∨(g.kind=3∧g.val.seq=b)
def mC(s:Sx)(g:Bg)(b x:Int):Prop:=(s.bl x).asked=true∧(s.bl x).op=g.op∧(s.bl x).cl=g.cl∧x<b∧Mkd (s.bl x) x
structure TokG(s:Sx)(cl lock:Int)(op:Nat)(inc T:Int):Prop where
 ask:(s.bl T).asked=true
 cl:(s.bl T).cl=cl
 lk:(s.bl T).lock=lock
 k1:(s.bl T).kind=1
 tk:(s.bl T).val.tok=T
 op:(s.bl T).op<op
 inc:T / 4 % 64=inc
def Fol(s:Sx)(b:Int)(g:Bg)(w:Fw):Prop:=w.next=g.val∧
 ((g.kind=1∧((mC s g b g.pv.tok∧g.val=g.pv∧w.res=1∧w.own=g.cl+1∧w.tok=g.pv.tok)∨
  ((∀x,mC s g b x→g.pv.tok<x)∧((g.val=⟨g.cl+1,b,g.ttl,1⟩∧w.res=1∧w.own=g.cl+1∧w.tok=b)∨
   (g.val=g.pv∧g.pv.own≠0∧g.pv.own≠g.cl+1∧w.res=2∧w.own=g.pv.own∧w.tok=g.pv.tok)))))∨
  (g.kind=2∧((g.pv.own=g.cl+1∧TokG s g.cl g.lock g.op (b / 4 % 64) g.pv.tok∧g.val=⟨g.cl+1,g.pv.tok,g.ttl,min (g.pv.seq+1) 2147483647⟩∧w.res=1∧w.own=g.cl+1∧w.tok=g.pv.tok)∨
   (g.val=g.pv∧w.res=3∧w.own=0∧w.tok=0)))∨
  (g.kind=3∧((g.pv.own=g.cl+1∧TokG s g.cl g.lock g.op (b / 4 % 64) g.pv.tok∧g.val=⟨0,g.pv.tok,0,b⟩∧(∀x,mC s g b x→(s.bl x).val.tok=g.pv.tok)∧w.res=1∧w.own=g.cl+1∧w.tok=g.pv.tok)∨
   (g.val=g.pv∧g.pv.own=0∧mC s g b g.pv.seq∧w.res=1∧w.own=g.cl+1∧w.tok=g.pv.tok)∨
   (g.val=g.pv∧¬(g.pv.own=0∧mC s g b g.pv.seq)∧(∀x,mC s g b x→(s.bl x).val.tok=g.pv.tok)∧w.res=3∧w.own=0∧w.tok=0)))∨
  (g.kind=4∧g.val=g.pv∧w.res=4∧w.own=g.pv.own∧w.tok=g.pv.tok))
structure On3(s:Sx)(i:Int)(o:On):Prop where
 mine:∀x,x ∈ o.mine↔((s.bl x).asked=true∧(s.bl x).op=s.opx i∧(s.bl x).cl=i∧Mkd (s.bl x) x)
 ops:∀x,(s.bl x).used=true→(s.bl x).cl=i→(s.bl x).op=s.opx i→x / 4 % 64=(s.cl i).inc∧x≤o.att.bal
 mt:o.kind=3→∀x ∈ o.mine,(s.bl x).val.tok=(s.cl i).toks o.lock
 ew:o.att.awaited=4→Fol s o.att.bal (s.bl o.att.bal) ⟨(s.bl o.att.bal).val,o.att.eres,o.att.eown,o.att.etok⟩
structure EndI(f:Cf)(s:Sx)(k:Nat)(e:Ev)(j:Nat):Prop where
 ask:(s.bl e.bal).asked=true
 op:(s.bl e.bal).op=j
 cl:(s.bl e.bal).cl=e.node
 kd:(s.bl e.bal).kind=e.okind
 lk:(s.bl e.bal).lock=e.olock
 tt:(s.bl e.bal).ttl=e.ottl
 fo:Fol s e.bal (s.bl e.bal) ⟨(s.bl e.bal).val,e.res,e.own,e.tok⟩
 qu:∃q:List Int,q.Nodup∧f.f<q.length∧∀j ∈ q,(0≤j∧j<2*f.f+1)∧Said s 4 j e.olock e.bal 0 k
structure I3(f:Cf)(s:Sx):Prop where
 dn:∀i,0≤i→i<f.clients→gY s.tr s.tr.length i=(s.cl i).doing.map fun _=>s.opx i
 bg:∀(k:Nat) (e:Ev),s.tr[k]?=some e→e.kind=2→(0≤e.node∧e.node<f.clients)∧gY s.tr k e.node=none
 ac:∀(k:Nat) (e:Ev),s.tr[k]?=some e→e.kind=1→e.msg.kind=3→gY s.tr k e.msg.src=some (s.bl e.msg.bal).op
 en:∀(k:Nat) (e:Ev),s.tr[k]?=some e→e.kind=3→(0≤e.node∧e.node<f.clients)∧∃j,gY s.tr k e.node=some j∧(e.res≤4→EndI f s k e j)
 on:∀i,0≤i→i<f.clients→∀o,(s.cl i).doing=some o→On3 s i o
 tk:∀i,0≤i→i<f.clients→∀l,(s.cl i).toks l≠0→TokG s i l (if(s.cl i).doing.isSome=true then s.opx i else s.tr.length) (s.cl i).inc ((s.cl i).toks l)
 fol:∀b,(s.bl b).asked=true→∃w,Fol s b (s.bl b) w
def aBW(s s':Sx):Prop:=∀x,(s'.bl x).asked=true→(s.bl x).asked=true∨∀b,(s.bl b).used=true→(s.bl b).cl=(s'.bl x).cl→(s.bl b).op=(s'.bl x).op→b≤x
theorem TokG.ext{s s':Sx}(h:Ext s s'){cl lock inc T:Int}{op op':Nat}(q:TokG s cl lock op inc T)(ho:op≤op'):TokG s' cl lock op' inc T:=by
 have e:=h.ask _ q.ask;exact⟨by rw[e];exact q.ask,by rw[e];exact q.cl,by rw[e];exact q.lk,by rw[e];exact q.k1,by rw[e];exact q.tk,by rw[e];exact aG q.op ho,q.inc⟩
theorem aEO{s s':Sx}(h:Ext s s')(hl:aBW s s'){b x:Int}(hb:(s.bl b).asked=true)(hu:(s.bl b).used=true):mC s' (s.bl b) b x↔mC s (s.bl b) b x:=by
 constructor
 ·rintro⟨d,c,a,f,e⟩;rcases hl x d with q|q
  ·rw[h.ask _ q]at c a e;exact⟨q,c,a,f,e⟩
  ·have:=q b hu a.symm c.symm;omega
 ·rintro⟨d,c,a,f,e⟩;unfold mC;rw[h.ask _ d];exact⟨d,c,a,f,e⟩
theorem Fol.ext{s s':Sx}(h:Ext s s')(hl:aBW s s'){b:Int}(hb:(s.bl b).asked=true)(hu:(s.bl b).used=true){w:Fw}(q:Fol s b (s.bl b) w):Fol s' b (s'.bl b) w:=by
 have f:=fun x=>aEO h hl (x:=x) hb hu;rw[h.ask _ hb];refine⟨q.1,?_⟩;rcases q.2 with⟨k,q⟩|⟨k,q⟩|⟨k,q⟩|q
 ·refine Or.inl ⟨k,?_⟩;rcases q with⟨a,c⟩|⟨a,c⟩
  ·exact Or.inl ⟨(f _).2 a,c⟩
  ·exact Or.inr ⟨fun x hx=>a x ((f x).1 hx),c⟩
 ·refine Or.inr (Or.inl ⟨k,?_⟩);exact q.imp (fun ⟨a,c,e⟩=>⟨a,c.ext h (aE _),e⟩) id
 ·refine Or.inr (Or.inr (Or.inl ⟨k,?_⟩));rcases q with⟨a,c,e⟩|⟨a,c,e,g⟩|⟨a,c,e,g⟩
  ·refine Or.inl ⟨a,c.ext h (aE _),e.1,fun x hx=>?_,e.2.2⟩;have d:=(f x).1 hx;rw[h.ask _ d.1];exact e.2.1 x d
  ·exact Or.inr (Or.inl ⟨a,c,(f _).2 e,g⟩)
  ·refine Or.inr (Or.inr ⟨a,fun z=>c ⟨z.1,(f _).1 z.2⟩,fun x hx=>?_,g⟩);have d:=(f x).1 hx;rw[h.ask _ d.1];exact e x d
 ·exact Or.inr (Or.inr (Or.inr q))
theorem EndI.ext{f:Cf}{s s':Sx}(h:Ext s s')(hl:aBW s s'){k:Nat}{e:Ev}{j:Nat}(hu:(s.bl e.bal).used=true)(q:EndI f s k e j):EndI f s' k e j:=by
 have a:=h.ask _ q.ask;refine⟨by rw[a];exact q.ask,by rw[a];exact q.op,by rw[a];exact q.cl,by rw[a];exact q.kd,by rw[a];exact q.lk,by rw[a];exact q.tt,?_,?_⟩
 ·have:=q.fo.ext h hl q.ask hu;rw[a]at this⊢;exact this
 ·obtain⟨l,c,d,b⟩:=q.qu;exact⟨l,c,d,fun x hx=>⟨(b x hx).1,(b x hx).2.mono h (aL _) (aE _)⟩⟩
theorem wE{s s':Sx}(h:s'.bl=s.bl):aBW s s':=fun x hx=>Or.inl (by rwa [h]at hx)
theorem I3.go{f:Cf}{s s':Sx}(h1:I1 f s)(h:I3 f s)(hx:Ext s s')(hl:aBW s s'){e:List Ev}(ht:s'.tr=s.tr++e)
 (hdn:∀i,0≤i→i<f.clients→gY s'.tr s'.tr.length i=(s'.cl i).doing.map fun _=>s'.opx i)
 (hev:∀(k:Nat) (x:Ev),s'.tr[k]?=some x→s.tr.length≤k→x ∈ e→
  (x.kind=2→(0≤x.node∧x.node<f.clients)∧gY s'.tr k x.node=none)∧
  (x.kind=1→x.msg.kind=3→gY s'.tr k x.msg.src=some (s'.bl x.msg.bal).op)∧
  (x.kind=3→(0≤x.node∧x.node<f.clients)∧∃j,gY s'.tr k x.node=some j∧(x.res≤4→EndI f s' k x j)))
 (hon:∀i,0≤i→i<f.clients→∀o,(s'.cl i).doing=some o→On3 s' i o)
 (htk:∀i,0≤i→i<f.clients→∀l,(s'.cl i).toks l≠0→TokG s' i l (if(s'.cl i).doing.isSome=true then s'.opx i else s'.tr.length) (s'.cl i).inc ((s'.cl i).toks l))
 (hfol:∀b,(s'.bl b).asked=true→(s.bl b).asked=false→∃w,Fol s' b (s'.bl b) w):I3 f s':=by
 have g:∀(k:Nat) (x:Ev),s'.tr[k]?=some x→(s.tr[k]?=some x∧k<s.tr.length∧∀c,gY s'.tr k c=gY s.tr k c)∨(s.tr.length≤k∧x ∈ e):=fun k x hk=>by
  have y:=hk;rw[ht]at hk;by_cases p:k<s.tr.length
  ·rw[bI p]at hk;exact Or.inl ⟨hk,p,fun c=>by rw[ht];exact lC _ _ _ _ (by omega)⟩
  ·rw[bJ (by omega)]at hk;exact Or.inr ⟨by omega,List.mem_of_getElem? hk⟩
 refine⟨hdn,fun k x hk h2=>?_,fun k x hk q1 q3=>?_,fun k x hk q3=>?_,hon,htk,fun b hb=>?_⟩
 ·rcases g k x hk with⟨a,m,n⟩|⟨a,m⟩
  ·rw[n];exact h.bg k x a h2
  ·exact(hev k x hk a m).1 h2
 ·rcases g k x hk with⟨a,m,n⟩|⟨a,m⟩
  ·rw[n,h.ac k x a q1 q3];have u:=h1.ms k x a q1;rw[(hx.us _ u.us).2.1]
  ·exact(hev k x hk a m).2.1 q1 q3
 ·rcases g k x hk with⟨a,m,n⟩|⟨a,m⟩
  ·obtain⟨v,j,d,w⟩:=h.en k x a q3;exact⟨v,j,by rw[n];exact d,fun r=>(w r).ext hx hl (h1.ask _ (w r).ask)⟩
  ·exact(hev k x hk a m).2.2 q3
 ·by_cases q:(s.bl b).asked=true
  ·obtain⟨w,t⟩:=h.fol b q;exact⟨w,t.ext hx hl q (h1.ask b q)⟩
  ·exact hfol b hb (by simpa using q)
theorem aHy(f:Cf):I3 f qX:=by
 refine⟨fun i _ _=>rfl,fun k e hk=>?_,fun k e hk=>?_,fun k e hk=>?_,fun i _ _ o ho=>?_,fun i _ _ l hl=>absurd rfl hl,fun b hb=>?_⟩
 ·simp[qX]at hk
 ·simp[qX]at hk
 ·simp[qX]at hk
 ·cases ho
 ·cases hb
end Go.Proofs.YtbbdgokdfhdpiaaGreatDoor
