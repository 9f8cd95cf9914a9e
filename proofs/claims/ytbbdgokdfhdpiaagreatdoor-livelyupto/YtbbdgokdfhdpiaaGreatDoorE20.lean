/- A part of the proof: Pax6. -/
import Derived.Test.YtbbdgokdfhdpiaaGreatDoorE12
import Derived.Test.YtbbdgokdfhdpiaaGreatDoorE15
namespace Go.Proofs.YtbbdgokdfhdpiaaGreatDoor
set_option linter.all false
set_option maxRecDepth 100000
set_option maxHeartbeats 40000000
open Go.Proofs.Tryz Go.RowKit
def Tl(f:Cf)(s:Sx):Prop:=∀i,0≤i→i<f.clients→∀o,(s.cl i).doing=some o→o.ttl≤1000
theorem aGx{f:Cf}{gd:Bool}{s s':Sx}(h0:I0 f s)(h:Tl f s)(hs:Mi f gd s s'):Tl f s':=by
 have a:∀(t:Sx) (i:Int) (c:Ct),t.cl=upd s.cl i c→(0≤i→i<f.clients→∀o,c.doing=some o→o.ttl≤1000)→Tl f t:=fun t i c hc ho j j0 j1 o hd=>by
  rw[hc]at hd;by_cases q:j=i
  ·rw[q,eW]at hd;exact ho (q▸j0) (q▸j1) o hd
  ·rw[fJ _ _ q]at hd;exact h j j0 j1 o hd
 refine hs.ways (P:=Tl f) h0 ?still ?began ?att ?hear ?prop ?acc
 case still=>exact fun t ht i i0 i1 o ho=>h i i0 i1 o (ht.dg i o ho)
 case began=>exact fun i k l t i0 i1 hu hd hk hl ht=>a _ i _ rfl fun _ _ o ho=>by rw[(mY _ k l t).2]at ho;cases ho;exact ht.2
 case att=>exact fun i o i0 i1 hu hd hr=>a _ i {s.cl i with round:=(s.cl i).round+1,doing:=some (eH o (s.cl i))} rfl fun _ _ o' ho=>by cases ho;exact h i i0 i1 o hd
 case hear=>exact fun i o m i0 i1 hu hd _ _ _ _ _=>a _ i {s.cl i with doing:=some (heardOn o m)} rfl fun _ _ o' ho=>by cases ho;exact h i i0 i1 o hd
 case prop=>exact fun i o i0 i1 hu hd _ _ _=>a _ i {s.cl i with doing:=some (eJ o (cU f (s.cl i) o o.att.val))} rfl fun _ _ o' ho=>by cases ho;exact h i i0 i1 o hd
 case acc=>exact fun j m e _ _ _ _ _ i i0 i1 o ho=>h i i0 i1 o ho
structure Inv(f:Cf)(s:Sx):Prop where
 i0:I0 f s
 i1:I1 f s
 i2:I2 f s
 i3:I3 f s
 bd:Bd s
 tl:Tl f s
theorem MiR.all{f:Cf}(hf:f.clients≤4)(hff:0≤f.f){gd:Bool}{s:Sx}(h:MiR f gd s):Inv f s:=
 h.ind (P:=Inv f) ⟨aGd f,aFE f,aHH f,aHy f,fun b hb=>(by cases hb),fun i _ _ o ho=>(by cases ho)⟩
  fun s s' _ k hs=>⟨aDB hf k.i0 hs,aDu hf hff k.i0 k.i1 hs,aG1 hf hff k.i0 k.i1 k.i2 hs,aG7 hf hff k.i0 k.i1 k.i2 k.bd k.i3 hs,aGu hf hff k.i0 k.i1 k.i2 k.tl k.bd hs,aGx k.i0 k.tl hs⟩
section
variable {f:Cf}{s:Sx}
def anc(s:Sx):Nat→Int→Int
 |0,b=>b
 |n+1,b=>if b=0 then 0 else anc s n (s.bl b).base
def Up(s:Sx)(q b:Int):Prop:=∃n,anc s n b=q
theorem Up.refl(b:Int):Up s b b:=⟨0,rfl⟩
theorem Up.step{q b:Int}(hb:b≠0)(h:Up s q (s.bl b).base):Up s q b:=by
 obtain⟨n,a⟩:=h;exact⟨n+1,(if_neg hb).trans a⟩
theorem Up.down{q b:Int}(h:Up s q b)(hne:q≠b):Up s q (s.bl b).base:=by
 obtain⟨n,a⟩:=h;cases n with
 |zero=>exact absurd a.symm hne
 |succ n=>
  unfold anc at a;by_cases c:b=0
  ·rw[if_pos c]at a;exact absurd (a.symm.trans c.symm) hne
  ·rw[if_neg c]at a;exact⟨n,a⟩
theorem Up.trans{p q b:Int}(h:Up s p q)(k:Up s q b):Up s p b:=by
 obtain⟨n,a⟩:=k;induction n generalizing b with
 |zero=>subst a;exact h
 |succ n ih=>
  unfold anc at a;by_cases c:b=0
  ·rw[if_pos c]at a;rw[←a,←c]at h;exact h
  ·rw[if_neg c]at a;exact(ih a).step c
theorem aGU(h:Inv f s){P:Int→Prop}(h0:∀b,(s.bl b).asked=true→(s.bl b).base=0→P b)(hs:∀b,(s.bl b).asked=true→(s.bl (s.bl b).base).asked=true→(s.bl (s.bl b).base).lock=(s.bl b).lock→P (s.bl b).base→P b):∀b,(s.bl b).asked=true→P b:=by
 have c:∀(n:Nat) (b:Int),b.toNat≤n→(s.bl b).asked=true→P b:=by
  intro n;induction n with
  |zero=>
   intro b g a;have:=(h.i0.fr0 b (h.i1.ask b a)).1;omega
  |succ n ih=>
   intro b g a;have k:=h.i2.ask b a;rcases k.up with u|⟨d,e,_⟩
   ·exact h0 b a u
   ·have:=(h.i0.fr0 b (h.i1.ask b a)).1;have:=k.lt;have:=k.b0;exact hs b a d e (ih _ (by omega) d)
 exact fun b=>c b.toNat b (aE _)
theorem zS(h:Inv f s){b:Int}(hb:(s.bl b).asked=true):256≤b:=(h.i0.fr0 b (h.i1.ask b hb)).1
theorem aBi(h:Inv f s){b:Int}(hb:(s.bl b).asked=true):(s.bl b).val=(s.bl b).pv∨
 ((s.bl b).kind=1∧(s.bl b).val=⟨(s.bl b).cl+1,b,(s.bl b).ttl,1⟩∧∀x,mC s (s.bl b) b x→(s.bl b).pv.tok<x)∨
 ((s.bl b).kind=2∧(s.bl b).pv.own=(s.bl b).cl+1∧TokG s (s.bl b).cl (s.bl b).lock (s.bl b).op (b / 4 % 64) (s.bl b).pv.tok∧(s.bl b).val=⟨(s.bl b).cl+1,(s.bl b).pv.tok,(s.bl b).ttl,min ((s.bl b).pv.seq+1) 2147483647⟩)∨
 ((s.bl b).kind=3∧(s.bl b).pv.own=(s.bl b).cl+1∧TokG s (s.bl b).cl (s.bl b).lock (s.bl b).op (b / 4 % 64) (s.bl b).pv.tok∧(s.bl b).val=⟨0,(s.bl b).pv.tok,0,b⟩∧∀x,mC s (s.bl b) b x→(s.bl x).val.tok=(s.bl b).pv.tok):=by
 obtain⟨w,_,q⟩:=h.i3.fol b hb;rcases q with⟨k,q⟩|⟨k,q⟩|⟨k,q⟩|⟨k,q⟩
 ·rcases q with⟨_,q,_⟩|⟨a,⟨q,_⟩|⟨q,_⟩⟩
  ·exact Or.inl q
  ·exact Or.inr (Or.inl ⟨k,q,a⟩)
  ·exact Or.inl q
 ·rcases q with⟨a,d,c,_⟩|⟨q,_⟩
  ·exact Or.inr (Or.inr (Or.inl ⟨k,a,d,c⟩))
  ·exact Or.inl q
 ·rcases q with⟨a,d,c,e,_⟩|⟨q,_⟩|⟨q,_⟩
  ·exact Or.inr (Or.inr (Or.inr ⟨k,a,d,c,e⟩))
  ·exact Or.inl q
  ·exact Or.inl q
 ·exact Or.inl q.1
theorem aDe(h:Inv f s){b:Int}(hb:(s.bl b).asked=true):((s.bl b).base=0∧(s.bl b).pv=zVl)∨((s.bl b).base≠0∧(s.bl (s.bl b).base).asked=true∧(s.bl b).pv=(s.bl (s.bl b).base).val):=by
 have k:=h.i2.ask b hb;by_cases z:(s.bl b).base=0
 ·refine Or.inl ⟨z,?_⟩;rw[k.pv,valB,if_pos z]
 ·refine Or.inr ⟨z,(k.up.resolve_left z).1,?_⟩;rw[k.pv,valB,if_neg z]
theorem aDK(h:Inv f s):∀b,(s.bl b).asked=true→(s.bl b).val.own=0→(s.bl b).val.seq≠0→Up s (s.bl b).val.seq b∧(s.bl (s.bl b).val.seq).asked=true∧(s.bl (s.bl b).val.seq).kind=3∧(s.bl (s.bl b).val.seq).val=(s.bl b).val∧(s.bl (s.bl b).val.seq).pv.own≠0:=by
 refine aGU h (fun b hb h0 ho ht=>?_) (fun b hb ha hl ih ho ht=>?_)
 ·have c:(s.bl b).pv=zVl:=by
   rcases aDe h hb with⟨_,z⟩|⟨z,_⟩
   ·exact z
   ·exact absurd h0 z
  have i:=(h.i0.fr0 b (h.i1.ask b hb)).2.1;rcases aBi h hb with q|⟨k,q,m⟩|⟨_,a,d,q⟩|⟨_,a,d,q,_⟩
  ·rw[q,c]at ht;exact absurd rfl ht
  ·rw[q]at ho;have:(s.bl b).cl+1=0:=ho;omega
  ·rw[q]at ho;have:(s.bl b).cl+1=0:=ho;omega
  ·rw[c]at a;have:(0:Int)=(s.bl b).cl+1:=a;omega
 ·have c:(s.bl b).pv=(s.bl (s.bl b).base).val:=by
   rcases aDe h hb with⟨z,_⟩|⟨_,_,z⟩
   ·rw[z]at ha;have:=zS h ha;omega
   ·exact z
  have g:b≠0:=by have:=zS h hb;omega
  have i:=(h.i0.fr0 b (h.i1.ask b hb)).2.1;rcases aBi h hb with q|⟨k,q,m⟩|⟨_,a,d,q⟩|⟨k,a,d,q,_⟩
  ·rw[q,c]at ho ht⊢;obtain⟨j,l⟩:=ih ho ht;exact⟨j.step g,l⟩
  ·rw[q]at ho;have:(s.bl b).cl+1=0:=ho;omega
  ·rw[q]at ho;have:(s.bl b).cl+1=0:=ho;omega
  ·have e:(s.bl b).val.seq=b:=by rw[q]
   rw[e];exact⟨Up.refl b,hb,k,rfl,by omega⟩
end
end Go.Proofs.YtbbdgokdfhdpiaaGreatDoor
