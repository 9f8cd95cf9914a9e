/- A part of the proof: Aln1, Aln2, Aln3, Aln4. -/
import Derived.Test.YtbbdgokdfhdpiaaGreatDoorB23
import Derived.Test.YtbbdgokdfhdpiaaGreatDoorB24
namespace Go.Proofs.YtbbdgokdfhdpiaaGreatDoor
set_option linter.all false
set_option maxRecDepth 100000
set_option maxHeartbeats 40000000
open Go.Proofs.Tryz Go.RowKit
section
variable {f:Cf}{s:Sx}
theorem tU(h:Inv f s)(h4:I4 s){x:Int}(hx:x≠0):∀q,(s.bl q).asked=true→Up s x q→(s.bl q).val.tok=(s.bl x).val.tok→(s.bl q).val.own≠0→(s.bl x).val.seq≤(s.bl q).val.seq∧((s.bl x).val.seq=(s.bl q).val.seq→(s.bl q).val=(s.bl x).val):=by
 refine jO h (fun b hb h0 hu ht ho=>?_) (fun b hb ha hl ih hu ht ho=>?_)
 ·by_cases e:x=b
  ·subst e;exact⟨aL _,fun _=>rfl⟩
  ·exact absurd h0 (pK h hx hb hu e).1
 ·by_cases e:x=b
  ·subst e;exact⟨aL _,fun _=>rfl⟩
  ·obtain⟨m,o,g,d⟩:=pK h hx hb hu e;obtain⟨j,r,p⟩:=sZ h hx b hb hu;have a:=aFU h hb;rcases iJ h hb with q|⟨_,q,_⟩|⟨_,i,_,q⟩|⟨_,_,_,q,_⟩
   ·rw[q,g]at ht ho⊢;exact ih d ht ho
   ·exfalso;have:=(h.bd x j).2.1;rw[q]at ht;have:b=(s.bl x).val.tok:=ht;omega
   ·have k:=h4.rb b (h.i1.ask b hb);rw[g]at i a q;have c:(s.bl (s.bl b).base).val.own≠0:=by
     have:=(h.i0.fr0 b (h.i1.ask b hb)).2.1;omega
    obtain⟨l,n⟩:=ih d (by rw[q]at ht;exact ht) c;rw[q];show(s.bl x).val.seq≤min ((s.bl (s.bl b).base).val.seq+1) 2147483647∧((s.bl x).val.seq=min ((s.bl (s.bl b).base).val.seq+1) 2147483647→_);refine⟨by omega,fun z=>?_⟩;omega
   ·rw[q]at ho;exact absurd rfl ho
theorem aHK(h:Inv f s):∀b,(s.bl b).asked=true→(s.bl b).val.own≠0→∃p,(s.bl p).asked=true∧Up s p b∧(s.bl p).val=(s.bl b).val∧(s.bl p).val≠(s.bl p).pv∧(s.bl p).cl+1=(s.bl b).val.own∧((s.bl p).kind=1∧(s.bl p).val.tok=p∨(s.bl p).kind=2)∧(s.bl p).lock=(s.bl b).lock∧(s.bl p).ttl=(s.bl b).val.ttl:=by
 have a:∀b,(s.bl b).asked=true→(s.bl b).val.own≠0→(s.bl b).val≠(s.bl b).pv→∃p,(s.bl p).asked=true∧Up s p b∧(s.bl p).val=(s.bl b).val∧(s.bl p).val≠(s.bl p).pv∧(s.bl p).cl+1=(s.bl b).val.own∧((s.bl p).kind=1∧(s.bl p).val.tok=p∨(s.bl p).kind=2)∧(s.bl p).lock=(s.bl b).lock∧(s.bl p).ttl=(s.bl b).val.ttl:=fun b hb ho hc=>by
  rcases iJ h hb with q|⟨k,q,_⟩|⟨k,_,_,q⟩|⟨_,_,_,q,_⟩
  ·exact absurd q hc
  ·exact⟨b,hb,Up.refl b,rfl,hc,by rw[q],Or.inl ⟨k,by rw[q]⟩,rfl,by rw[q]⟩
  ·exact⟨b,hb,Up.refl b,rfl,hc,by rw[q],Or.inr k,rfl,by rw[q]⟩
  ·rw[q]at ho;exact absurd rfl ho
 refine jO h (fun b hb h0 ho=>?_) (fun b hb ha hl ih ho=>?_)
 ·by_cases e:(s.bl b).val=(s.bl b).pv
  ·exfalso;rcases kC h hb with⟨_,z⟩|⟨z,_⟩
   ·rw[e,z]at ho;exact ho rfl
   ·exact z h0
  ·exact a b hb ho e
 ·by_cases e:(s.bl b).val=(s.bl b).pv
  ·rcases kC h hb with⟨_,z⟩|⟨o,_,z⟩
   ·rw[e,z]at ho;exact absurd rfl ho
   ·rw[e,z]at ho⊢;obtain⟨p,g,j,c,d,i,l,n,m⟩:=ih ho;exact⟨p,g,j.step (by have:=dJ h hb;omega),c,d,i,l,n.trans hl,m⟩
  ·exact a b hb ho e
theorem aEv(h:Inv f s){g A:Int}(hg:g≠0)(ho:(s.bl g).val.own=A):∀b,(s.bl b).asked=true→Up s g b→(s.bl b).val.own≠A→∃p,(s.bl p).asked=true∧Up s p b∧(s.bl p).base≠0∧(s.bl (s.bl p).base).asked=true∧(s.bl p).pv=(s.bl (s.bl p).base).val∧Up s g (s.bl p).base∧g≠p∧(s.bl p).pv.own=A∧(s.bl p).val.own≠A:=by
 refine jO h (fun b hb h0 hu hn=>?_) (fun b hb ha hl ih hu hn=>?_)
 ·by_cases e:g=b
  ·subst e;exact absurd ho hn
  ·exact absurd h0 (pK h hg hb hu e).1
 ·by_cases e:g=b
  ·subst e;exact absurd ho hn
  ·obtain⟨j,l,c,a⟩:=pK h hg hb hu e;by_cases q:(s.bl b).pv.own=A
   ·exact⟨b,hb,Up.refl b,j,l,c,a,e,q,hn⟩
   ·rw[c]at q;obtain⟨p,i,k,d⟩:=ih a q;exact⟨p,i,k.step (by have:=dJ h hb;omega),d⟩
end
structure J1(s:Sx):Prop where
 js:∀x b,(s.bl x).used=true→(s.bl b).used=true→(s.bl x).op=(s.bl b).op→(s.bl x).start=(s.bl b).start∧x / 4 % 64=b / 4 % 64
 jb:∀x b,(s.bl x).used=true→(s.bl b).used=true→(s.bl x).cl=(s.bl b).cl→x / 4 % 64=b / 4 % 64→(s.bl x).op<(s.bl b).op→x<b
 jp:∀x b,(s.bl x).asked=true→(s.bl b).asked=true→(s.bl x).cl=(s.bl b).cl→(s.bl x).t1<(s.bl b).t1→(s.bl x).op≤(s.bl b).op∧x / 4 % 64≤b / 4 % 64
theorem aHq:J1 pE:=⟨fun x b h=>(by cases h),fun x b h=>(by cases h),fun x b h=>(by cases h)⟩
theorem J1.same{s s':Sx}(h:J1 s)(hb:s'.bl=s.bl):J1 s':=⟨by rw[hb];exact h.js,by rw[hb];exact h.jb,by rw[hb];exact h.jp⟩
theorem aBV{f:Cf}{s:Sx}(h:Inv f s){i:Int}{o:On}(i0:0≤i)(i1:i<f.clients)(hd:(s.cl i).doing=some o){x:Int}(hx:(s.bl x).used=true)(hc:(s.bl x).cl=i):(s.bl x).op≤s.opx i:=by
 have b:fY s.tr s.tr.length i=some (s.opx i):=by
  have:=h.i3.dn i i0 i1;rw[hd]at this;exact this
 obtain⟨_,_,q⟩:=lV (aE _) b;have a:=h.i1.bg x hx;refine aH fun hn=>?_;have c:=a.op;have:=a.t0;exact q _ _ (by omega) (by omega) a.ev (Or.inl ⟨rfl,hc⟩)
theorem aGk{f:Cf}(hf:f.clients≤4){gd:Bool}{s s':Sx}(v:Inv f s)(h:J1 s)(hs:Mi f gd s s'):J1 s':=by
 refine hs.ways (P:=J1) v.i0 ?still ?began ?att ?hear ?prop ?acc
 case still=>exact fun t ht=>h.same ht.bl
 case began=>exact fun i k l t _ _ _ _ _ _ _=>h.same rfl
 case hear=>exact fun i o m _ _ _ _ _ _ _ _ _=>h.same rfl
 case acc=>exact fun j m e _ _ _ _ _=>h.same rfl
 case att=>
  intro i o q r F u U;have E:=v.i0.new_unused hf q r F;obtain⟨V,G,O,Q⟩:=v.i0.round_bal hf q r;generalize L:(fB (s.cl i)).bal=n at E V G O Q;have d:(fU f s i o).bl n=⟨true,s.opx i,i,o.lock,o.kind,o.ttl,o.began,s.tr.length,false,0,zVl,zVl,0⟩:=by rw[←L];exact cN _ _ _
  have c:∀b,b≠n→(fU f s i o).bl b=s.bl b:=fun b hb=>by rw[←L]at hb;exact cV _ _ hb
  have w:=v.i1.on i q r o u;have y:=v.i3.on i q r o u;have D:∀x,(s.bl x).used=true→(s.bl x).op=s.opx i→(s.bl x).start=o.began∧x / 4 % 64=n / 4 % 64:=fun x hx he=>by
   have I:(s.bl x).cl=i:=by
    have K:=(v.i1.bg x hx).ev;rw[he,w.ev]at K;have:=congrArg Ev.node (aN K);exact this.symm
   obtain⟨S,q2⟩:=y.ops x hx I he;have hx0:=(v.i0.fr0 x hx).1;have B:=w.lk (by omega);have H:(s.bl o.att.bal).used=true:=by
    rcases v.i0.bal i q r o u with z|z
    ·omega
    ·exact z.1
   exact⟨(h.js x o.att.bal hx H (he.trans B.1.symm)).1.trans B.2.2.2.2,S.trans G.symm⟩
  refine⟨fun x b hx hb he=>?_,fun x b hx hb hc hi he=>?_,fun x b hx hb hc ht=>?_⟩
  ·by_cases p:x=n
   ·by_cases g:b=n
    ·subst p;subst g;exact⟨rfl,rfl⟩
    ·rw[c b g]at hb he⊢;subst p;rw[d]at he⊢;have:=D b hb he.symm;exact⟨this.1.symm,this.2.symm⟩
   ·rw[c x p]at hx he⊢;by_cases g:b=n
    ·subst g;rw[d]at he⊢;exact D x hx he
    ·rw[c b g]at hb he⊢;exact h.js x b hx hb he
  ·by_cases p:x=n
   ·by_cases g:b=n
    ·subst p;subst g;omega
    ·rw[c b g]at hb he hc;subst p;rw[d]at he hc;have:=aBV v q r u hb hc.symm;have W:s.opx i<(s.bl b).op:=he;omega
   ·rw[c x p]at hx he hc;by_cases g:b=n
    ·subst g;rw[d]at he hc;have A:(s.bl x).cl=i:=hc;have:=v.i0.fr2 x hx (by rw[A,hi,G]) (by rw[A];exact F);rw[A]at this;omega
    ·rw[c b g]at hb he hc;exact h.jb x b hx hb hc hi he
  ·by_cases p:x=n
   ·subst p;rw[d]at hx;cases hx
   ·by_cases g:b=n
    ·subst g;rw[d]at hb;cases hb
    ·rw[c x p]at hx hc ht⊢;rw[c b g]at hb hc ht⊢;exact h.jp x b hx hb hc ht
 case prop=>
  intro i o q r F u N Y U;obtain⟨T,R,J,Z⟩:=v.i1.unasked v.i0 q r u N;have w:=v.i1.on i q r o u;have B:=w.lk T;have y:=v.i3.on i q r o u;have M:=(y.ops o.att.bal R J B.1).1;have c:∀b,b≠o.att.bal→(eG f s i o).bl b=s.bl b:=fun b hb=>cV _ _ hb;have d:(eG f s i o).bl o.att.bal={s.bl o.att.bal with asked:=true,base:=o.att.base,pv:=o.att.val,val:=(cO f (s.cl i) o o.att.val).next,t1:=s.tr.length}:=cN _ _ _;have a:∀b,((eG f s i o).bl b).used=(s.bl b).used∧((eG f s i o).bl b).op=(s.bl b).op∧((eG f s i o).bl b).cl=(s.bl b).cl∧((eG f s i o).bl b).start=(s.bl b).start:=fun b=>by
   by_cases e:b=o.att.bal
   ·subst e;rw[d];exact⟨rfl,rfl,rfl,rfl⟩
   ·rw[c b e];exact⟨rfl,rfl,rfl,rfl⟩
  refine⟨fun x b hx hb he=>?_,fun x b hx hb hc hi he=>?_,fun x b hx hb hc ht=>?_⟩
  ·rw[(a x).1]at hx;rw[(a b).1]at hb;rw[(a x).2.1,(a b).2.1]at he;rw[(a x).2.2.2,(a b).2.2.2];exact h.js x b hx hb he
  ·rw[(a x).1]at hx;rw[(a b).1]at hb;rw[(a x).2.1,(a b).2.1]at he;rw[(a x).2.2.1,(a b).2.2.1]at hc;exact h.jb x b hx hb hc hi he
  ·rw[(a x).2.2.1,(a b).2.2.1]at hc;rw[(a x).2.1,(a b).2.1];by_cases g:b=o.att.bal
   ·subst g;by_cases p:x=o.att.bal
    ·subst p;exact⟨aE _,aL _⟩
    ·rw[c x p]at hx ht;have C:=v.i1.ask x hx;rw[J]at hc;refine⟨by rw[B.1];exact aBV v q r u C hc,?_⟩;have:=v.i0.fr1 x C;rw[hc]at this;omega
   ·rw[c b g]at hb ht;by_cases p:x=o.att.bal
    ·exfalso;subst p;rw[d]at ht;have e:=(v.i1.bg b (v.i1.ask b hb)).ac hb;have:=(aF.1 e).1;have X:s.tr.length<(s.bl b).t1:=ht;omega
    ·rw[c x p]at hx ht;exact h.jp x b hx hb hc ht
def aAb(s:Sx)(b:Int):Prop:=(s.cl (s.bl b).cl).up=true∧(s.cl (s.bl b).cl).inc=b / 4 % 64
def GoC(f:Cf)(s s':Sx):Prop:=∀k,0≤k→k<f.clients→∀n,n≤(s.cl k).inc→(s'.cl k).up=true→(s'.cl k).inc=n→(s.cl k).up=true∧(s.cl k).inc=n∧(s.cl k).clock≤(s'.cl k).clock
section
variable {f:Cf} {s s':Sx}
theorem GoC.of{i:Int}{c:Ct}(hcl:s'.cl=upd s.cl i c)(hc:c.up=true→((s.cl i).up=true∧c.inc=(s.cl i).inc∧(s.cl i).clock≤c.clock)∨(s.cl i).inc<c.inc):GoC f s s':=fun k k0 k1 n hn hu hi=>by
 rw[hcl]at hu hi⊢;by_cases q:k=i
 ·subst q;rw[cN]at hu hi⊢;rcases hc hu with⟨a,b,c⟩|a
  ·exact⟨a,by omega,c⟩
  ·omega
 ·rw[cV _ _ q]at hu hi⊢;exact⟨hu,hi,aL _⟩
theorem GoC.same(hcl:s'.cl=s.cl):GoC f s s':=fun k k0 k1 n hn hu hi=>by
 rw[hcl]at hu hi⊢;exact⟨hu,hi,aL _⟩
theorem GoC.csame{i:Int}{c:Ct}(hcl:s'.cl=upd s.cl i c)(hu:(s.cl i).up=true)(hc:aEX (s.cl i) c):GoC f s s':=GoC.of hcl fun _=>Or.inl ⟨hu,hc.inc,Int.le_of_eq hc.clock.symm⟩
end
theorem aAd{f:Cf}{gd:Bool}{s s':Sx}(hs:Mi f gd s s'):GoC f s s':=by
 refine hs.elim (P:=GoC f s) ?tick ?bump ?began ?att ?endU ?endQ ?hear ?prop ?lose ?ret ?acc ?ev
 case tick=>exact fun i b d a hg=>GoC.of (i:=i) (c:={s.cl i with clock:=(s.cl i).clock+1}) rfl fun _=>Or.inl ⟨a,rfl,by show(s.cl i).clock≤(s.cl i).clock+1;omega⟩
 case bump=>exact fun i r o b d a g hr hr'=>GoC.of (i:=i) (c:={s.cl i with round:=r}) rfl fun _=>Or.inl ⟨a,rfl,aL _⟩
 case began=>
  intro i k l t b d a g n q u _ _;obtain⟨p,_⟩:=iZ {s.cl i with doing:=some (dP (s.cl i) k l t)} k l t;exact GoC.of (i:=i) (c:=dC {s.cl i with doing:=some (dP (s.cl i) k l t)} k l t) rfl fun _=>Or.inl ⟨a,p.inc,Int.le_of_eq p.clock.symm⟩
 case att=>exact fun i o b d a g hr=>GoC.of (i:=i) (c:={s.cl i with round:=(s.cl i).round+1,doing:=some (eJ o (s.cl i))}) rfl fun _=>Or.inl ⟨a,rfl,aL _⟩
 case endU=>exact fun i o res b d a g hr=>GoC.of (i:=i) (c:={s.cl i with doing:=none}) rfl fun _=>Or.inl ⟨a,rfl,aL _⟩
 case endQ=>exact fun i o b d a g h4 hq=>GoC.csame (i:=i) (c:=eH (s.cl i) o o.att.eres o.att.etok o.att.val) rfl a (kB _ _ _ _ _).1
 case hear=>exact fun i o m b d a g hm hb hk0 n ha=>GoC.of (i:=i) (c:={s.cl i with doing:=some (heardOn o m)}) rfl fun _=>Or.inl ⟨a,rfl,aL _⟩
 case prop=>exact fun i o b d a g h2 hq hr=>GoC.of (i:=i) (c:={s.cl i with doing:=some (dZ o (cO f (s.cl i) o o.att.val))}) rfl fun _=>Or.inl ⟨a,rfl,aL _⟩
 case lose=>exact fun i b d a=>GoC.of (i:=i) (c:=jP (s.cl i)) rfl fun h=>by rw[kP a]at h;cases h
 case ret=>exact fun i b d a hi=>GoC.of (i:=i) (c:=gE (s.cl i)) rfl fun h=>Or.inr (by rw[kW a hi];show(s.cl i).inc<(s.cl i).inc+1;omega)
 case acc=>exact fun j m e j0 j1 hm n he=>GoC.same rfl
 case ev=>exact fun j k j0 n=>GoC.same rfl
theorem yG{f:Cf}(hf:f.clients≤4){gd:Bool}{s s':Sx}(v:Inv f s)(hs:Mi f gd s s'):Ext s s'∧tM s s':=by
 refine hs.ways (P:=fun t=>Ext s t∧tM s t) v.i0 ?still ?began ?att ?hear ?prop ?acc
 case still=>exact fun t ht=>⟨ht.ext,oC ht.bl⟩
 case began=>exact fun i k l t _ _ _ _ _ _ _=>⟨Ext.of_bl ⟨_,rfl⟩ rfl,oC rfl⟩
 case hear=>exact fun i o m _ _ _ _ _ _ _ _ _=>⟨Ext.of_bl ⟨[],rfl⟩ rfl,oC rfl⟩
 case acc=>exact fun j m e _ _ _ _ _=>⟨Ext.of_bl ⟨e,rfl⟩ rfl,oC rfl⟩
 case att=>
  intro i o a c r d y;refine⟨aAr hf v.i0 v.i1 a c r,fun x hx=>?_⟩;by_cases q:x=(fB (s.cl i)).bal
  ·subst q;rw[show(fU f s i o).bl (fB (s.cl i)).bal=_ from cN _ _ _]at hx;cases hx
  ·rw[show(fU f s i o).bl x=s.bl x from cV _ _ q]at hx;exact Or.inl hx
 case prop=>
  intro i o a c r d p A y;obtain⟨z,B,w,C⟩:=v.i1.unasked v.i0 a c d p;have u:=(v.i1.on i a c o d).lk z;have n:=v.i3.on i a c o d;refine⟨wF v.i0 v.i1 a c d p,fun x hx=>?_⟩;by_cases q:x=o.att.bal
  ·subst q;refine Or.inr fun b hb hc ho=>?_;rw[show(eG f s i o).bl o.att.bal=_ from cN _ _ _]at hc ho;have g:(s.bl b).cl=(s.bl o.att.bal).cl:=hc;have h:(s.bl b).op=(s.bl o.att.bal).op:=ho;exact(n.ops b hb (g.trans w) (h.trans u.1)).2
  ·rw[show(eG f s i o).bl x=s.bl x from cV _ _ q]at hx;exact Or.inl hx
structure JA(f:Cf)(s:Sx):Prop where
 p:∀k j,0≤s.ah k j
 u:∀k j,0≤k→k<f.clients→0≤j→j<f.clients→k≠j→(s.cl k).up=true→s.ah k j≤20
theorem JA.same{f:Cf}{s s':Sx}(h:JA f s)(ha:s'.ah=s.ah)(hu:∀k,0≤k→k<f.clients→(s'.cl k).up=true→(s.cl k).up=true):JA f s':=
 ⟨by rw[ha];exact h.p,fun k j k0 k1 j0 j1 hn hk=>by rw[ha];exact h.u k j k0 k1 j0 j1 hn (hu k k0 k1 hk)⟩
theorem ups{s s':Sx}{i:Int}{c:Ct}(hcl:s'.cl=upd s.cl i c)(hu:(s.cl i).up=true):∀k,(s'.cl k).up=true→(s.cl k).up=true:=fun k hk=>by
 rw[hcl]at hk;by_cases q:k=i
 ·rw[q];exact hu
 ·rwa [cV _ _ q]at hk
theorem aGT{f:Cf}(hd0:0≤f.drift){s s':Sx}(h:JA f s)(hs:Mi f true s s'):JA f s':=by
 refine hs.elim (P:=JA f) ?tick ?bump ?began ?att ?endU ?endQ ?hear ?prop ?lose ?ret ?acc ?ev
 case tick=>
  intro i b d a v;have w:=v rfl;refine⟨fun k j=>?_,fun k j k0 k1 j0 j1 hn hk=>?_⟩
  ·show 0≤oE f s.ah i k j;have:=h.p k j;unfold oE;split
   ·exact this
   ·split
    ·omega
    ·split
     ·omega
     ·exact this
  ·have g:(s.cl k).up=true:=ups (i:=i) (c:={s.cl i with clock:=(s.cl i).clock+1}) rfl a k hk;have n:=h.u k j k0 k1 j0 j1 hn g;show oE f s.ah i k j≤20;unfold oE;rw[if_neg hn];split
   ·rename_i e;subst e;have:=w k k0 k1 hn g;omega
   ·split
    ·omega
    ·exact n
 case bump=>exact fun i r o b d a hd hr hr'=>h.same rfl fun k _ _=>ups (i:=i) rfl a k
 case began=>exact fun i k l t b d a hd hk hl ht _ _=>h.same rfl fun k _ _=>ups (i:=i) rfl a k
 case att=>exact fun i o b d a hd hr=>h.same rfl fun k _ _=>ups (i:=i) rfl a k
 case endU=>exact fun i o res b d a hd hr=>h.same rfl fun k _ _=>ups (i:=i) rfl a k
 case endQ=>exact fun i o b d a hd h4 hq=>h.same rfl fun k _ _=>ups (i:=i) rfl a k
 case hear=>exact fun i o m b d a hd hm hb hk0 hk ha=>h.same rfl fun k _ _=>ups (i:=i) rfl a k
 case prop=>exact fun i o b d a hd h2 hq hr=>h.same rfl fun k _ _=>ups (i:=i) rfl a k
 case lose=>
  intro i b d a;refine⟨fun k j=>?_,fun k j k0 k1 j0 j1 hn hk=>?_⟩
  ·show 0≤fN s.ah i k j;unfold fN;split
   ·exact aL _
   ·exact h.p k j
  ·show fN s.ah i k j≤20;unfold fN;split
   ·decide
   ·exact h.u k j k0 k1 j0 j1 hn (ups (i:=i) rfl a k hk)
 case ret=>
  intro i b d a x;refine⟨fun k j=>?_,fun k j k0 k1 j0 j1 hn hk=>?_⟩
  ·show 0≤fN s.ah i k j;unfold fN;split
   ·exact aL _
   ·exact h.p k j
  ·show fN s.ah i k j≤20;unfold fN;split
   ·decide
   ·rename_i e;have g:(s.cl k).up=true:=by
     rw[show(pF s i).cl=upd s.cl i (gE (s.cl i))from rfl,cV _ _ (fun q=>e (Or.inl q))]at hk;exact hk
    exact h.u k j k0 k1 j0 j1 hn g
 case acc=>exact fun j m e j0 j1 hm hk he=>h.same rfl fun _ _ _ hk=>hk
 case ev=>exact fun j k j0 hk=>h.same rfl fun _ _ _ hk=>hk
def JC(s:Sx):Prop:=∀b,(s.bl b).used=true→aAb s b→(s.bl b).start≤(s.cl (s.bl b).cl).clock
theorem mQ{f:Cf}{s s':Sx}(v:Inv f s)(hg:GoC f s s'){b:Int}(hb:(s.bl b).used=true)(hc:(s'.bl b).cl=(s.bl b).cl)(hi:aAb s' b):aAb s b∧(s.cl (s.bl b).cl).clock≤(s'.cl (s.bl b).cl).clock:=by
 obtain⟨_,d,g,_⟩:=v.i0.fr0 b hb;obtain⟨c,a⟩:=hi;rw[hc]at c a;obtain⟨e,i,h⟩:=hg _ d g (b / 4 % 64) (v.i0.fr1 b hb) c a;exact⟨⟨e,i⟩,h⟩
theorem aGg{f:Cf}(hf:f.clients≤4){gd:Bool}{s s':Sx}(v:Inv f s)(h:JC s)(hs:Mi f gd s s'):JC s':=by
 have c:=aAd hs
 revert c
 have a:∀t:Sx,GoC f s t→(∀b,(t.bl b).used=true→(s.bl b).used=true∧(t.bl b).cl=(s.bl b).cl∧(t.bl b).start=(s.bl b).start)→JC t:=fun t c d b p r=>by
  obtain⟨w,y,A⟩:=d b p;obtain⟨n,C⟩:=mQ v c w y r;have:=h b w n;rw[y,A];omega
 have g:∀t:Sx,t.bl=s.bl→∀b,(t.bl b).used=true→(s.bl b).used=true∧(t.bl b).cl=(s.bl b).cl∧(t.bl b).start=(s.bl b).start:=fun t e b d=>by
  rw[e]at d⊢;exact⟨d,rfl,rfl⟩
 refine hs.ways (P:=fun t:Sx=>GoC f s t→JC t) v.i0 ?still ?began ?att ?hear ?prop ?acc
 case still=>exact fun t ht c=>a t c (g t ht.bl)
 case began=>exact fun i k l t _ _ _ _ _ _ _ c=>a _ c (g _ rfl)
 case hear=>exact fun i o m _ _ _ _ _ _ _ _ _ c=>a _ c (g _ rfl)
 case acc=>exact fun j m e _ _ _ _ _ c=>a _ c (g _ rfl)
 case att=>
  intro i o x z p u B c b d r;by_cases q:b=(fB (s.cl i)).bal
  ·subst q;have e:(fU f s i o).bl (fB (s.cl i)).bal=_:=cN _ _ _;rw[e];show o.began≤((fU f s i o).cl i).clock;rw[show(fU f s i o).cl i=_ from cN _ _ _];exact(v.i1.on i x z o u).g1
  ·have e:(fU f s i o).bl b=s.bl b:=cV _ _ q;rw[e]at d;obtain⟨n,C⟩:=mQ v c d (by rw[e]) r;have:=h b d n;rw[e];omega
 case prop=>
  intro i o x z p u D E B c;refine a _ c fun b d=>?_;by_cases q:b=o.att.bal
  ·subst q;have e:(eG f s i o).bl o.att.bal=_:=cN _ _ _;rw[e]at d⊢;exact⟨d,rfl,rfl⟩
  ·have e:(eG f s i o).bl b=s.bl b:=cV _ _ q;rw[e]at d⊢;exact⟨d,rfl,rfl⟩
def aF2(c:Ct):Prop:=∀o,c.doing=some o→(o.kind=3→c.holds o.lock≤0)∧(o.kind≤2→c.holds o.lock≤o.began+o.ttl)
def JD(f:Cf)(s:Sx):Prop:=∀i,0≤i→i<f.clients→aF2 (s.cl i)
theorem JD.of{f:Cf}{s s':Sx}(h:JD f s){i:Int}{c:Ct}(hcl:s'.cl=upd s.cl i c)(hc:aF2 (s.cl i)→aF2 c)(i0:0≤i)(i1:i<f.clients):JD f s':=fun k k0 k1=>by
 rw[hcl];by_cases q:k=i
 ·subst q;rw[cN];exact hc (h _ i0 i1)
 ·rw[cV _ _ q];exact h k k0 k1
theorem qO{c:Ct}(h:c.doing=none):aF2 c:=fun o ho=>by rw[h]at ho;cases ho
theorem aF7{f:Cf}{gd:Bool}{s s':Sx}(v:Inv f s)(h:JD f s)(hs:Mi f gd s s'):JD f s':=by
 refine hs.elim (P:=JD f) ?tick ?bump ?began ?att ?endU ?endQ ?hear ?prop ?lose ?ret ?acc ?ev
 case tick=>exact fun i a b d hg=>h.of (i:=i) (c:={s.cl i with clock:=(s.cl i).clock+1}) rfl (fun hc o ho=>hc o ho) a b
 case bump=>exact fun i r o a b d g hr hr'=>h.of (i:=i) (c:={s.cl i with round:=r}) rfl (fun hc o ho=>hc o ho) a b
 case began=>
  intro i k l t a b d g n u w _ _;refine h.of (i:=i) (c:=dC {s.cl i with doing:=some (dP (s.cl i) k l t)} k l t) rfl (fun hc o ho=>?_) a b;rw[(iZ _ k l t).2]at ho;cases ho;unfold dC;refine⟨fun e=>?_,fun e=>?_⟩
  ·have q:k=3:=e;rw[if_pos q];show upd (s.cl i).holds l 0 l≤0;rw[cN];exact aL _
  ·have q:k≤2:=e;rw[if_neg (by omega),if_pos (by omega)];show upd (s.cl i).holds l (min ((s.cl i).holds l) ((s.cl i).clock+t)) l≤(s.cl i).clock+t;rw[cN];omega
 case att=>exact fun i o a b d g hr=>h.of (i:=i) (c:={s.cl i with round:=(s.cl i).round+1,doing:=some (eJ o (s.cl i))}) rfl (fun hc p hp=>by cases hp;exact hc o g) a b
 case endU=>exact fun i o res a b d g hr=>h.of (i:=i) (c:={s.cl i with doing:=none}) rfl (fun hc=>qO rfl) a b
 case endQ=>exact fun i o a b d g h4 hq=>h.of (i:=i) (c:=eH (s.cl i) o o.att.eres o.att.etok o.att.val) rfl (fun hc=>qO (kB _ _ _ _ _).2) a b
 case hear=>exact fun i o m a b d g hm hb hk0 n ha=>h.of (i:=i) (c:={s.cl i with doing:=some (heardOn o m)}) rfl (fun hc p hp=>by cases hp;exact hc o g) a b
 case prop=>exact fun i o a b d g h2 hq hr=>h.of (i:=i) (c:={s.cl i with doing:=some (dZ o (cO f (s.cl i) o o.att.val))}) rfl (fun hc p hp=>by cases hp;exact hc o g) a b
 case lose=>exact fun i a b d=>h.of (i:=i) (c:=jP (s.cl i)) rfl (fun hc=>qO (by rw[kP d])) a b
 case ret=>exact fun i a b d hi=>h.of (i:=i) (c:=gE (s.cl i)) rfl (fun hc=>qO (by rw[kW d hi];exact(v.i0.gone i a b d).2.2.2.2.2)) a b
 case acc=>exact fun j m e j0 j1 hm n he=>h
 case ev=>exact fun j k j0 n=>h
def aGi(c:Ct):Prop:=∀o,c.doing=some o→o.att.began≤c.clock
def JB(f:Cf)(s:Sx):Prop:=∀i,0≤i→i<f.clients→aGi (s.cl i)
theorem JB.of{f:Cf}{s s':Sx}(h:JB f s){i:Int}{c:Ct}(hcl:s'.cl=upd s.cl i c)(hc:aGi (s.cl i)→aGi c)(i0:0≤i)(i1:i<f.clients):JB f s':=fun k k0 k1=>by
 rw[hcl];by_cases q:k=i
 ·subst q;rw[cN];exact hc (h _ i0 i1)
 ·rw[cV _ _ q];exact h k k0 k1
theorem qR{c:Ct}(h:c.doing=none):aGi c:=fun o ho=>by rw[h]at ho;cases ho
theorem aGc{f:Cf}{gd:Bool}{s s':Sx}(v:Inv f s)(h:JB f s)(hs:Mi f gd s s'):JB f s':=by
 refine hs.elim (P:=JB f) ?tick ?bump ?began ?att ?endU ?endQ ?hear ?prop ?lose ?ret ?acc ?ev
 case tick=>exact fun i a b d hg=>h.of (i:=i) (c:={s.cl i with clock:=(s.cl i).clock+1}) rfl (fun hc o ho=>by have:=hc o ho;show o.att.began≤(s.cl i).clock+1;omega) a b
 case bump=>exact fun i r o a b d g hr hr'=>h.of (i:=i) (c:={s.cl i with round:=r}) rfl (fun hc o ho=>hc o ho) a b
 case began=>
  intro i k l t a b d g n w x _ _;refine h.of (i:=i) (c:=dC {s.cl i with doing:=some (dP (s.cl i) k l t)} k l t) rfl (fun hc o ho=>?_) a b;obtain⟨u,q⟩:=iZ {s.cl i with doing:=some (dP (s.cl i) k l t)} k l t;rw[q]at ho;cases ho;rw[u.clock];exact v.i0.clk i a b
 case att=>exact fun i o a b d g hr=>h.of (i:=i) (c:={s.cl i with round:=(s.cl i).round+1,doing:=some (eJ o (s.cl i))}) rfl (fun hc p hp=>by cases hp;exact aL _) a b
 case endU=>exact fun i o res a b d g hr=>h.of (i:=i) (c:={s.cl i with doing:=none}) rfl (fun hc=>qR rfl) a b
 case endQ=>exact fun i o a b d g h4 hq=>h.of (i:=i) (c:=eH (s.cl i) o o.att.eres o.att.etok o.att.val) rfl (fun hc=>qR (kB _ _ _ _ _).2) a b
 case hear=>exact fun i o m a b d g hm hb hk0 n ha=>h.of (i:=i) (c:={s.cl i with doing:=some (heardOn o m)}) rfl (fun hc p hp=>by cases hp;exact hc o g) a b
 case prop=>exact fun i o a b d g h2 hq hr=>h.of (i:=i) (c:={s.cl i with doing:=some (dZ o (cO f (s.cl i) o o.att.val))}) rfl (fun hc p hp=>by cases hp;exact hc o g) a b
 case lose=>exact fun i a b d=>h.of (i:=i) (c:=jP (s.cl i)) rfl (fun hc=>qR (by rw[kP d])) a b
 case ret=>exact fun i a b d hi=>h.of (i:=i) (c:=gE (s.cl i)) rfl (fun hc=>qR (by rw[kW d hi];exact(v.i0.gone i a b d).2.2.2.2.2)) a b
 case acc=>exact fun j m e j0 j1 hm n he=>h
 case ev=>exact fun j k j0 n=>h
theorem Chosen.mono{f:Cf}{s s':Sx}(h:Ext s s'){l b:Int}{n n':Nat}(q:Chosen f s l b n)(hn:n≤n'):Chosen f s' l b n':=by
 obtain⟨e,c,d,a⟩:=q;exact⟨e,c,d,fun j hj=>⟨(a j hj).1,(a j hj).2.mono h (aL _) hn⟩⟩
def HG(f:Cf)(s:Sx)(i l:Int):Prop:=∃g,(s.bl g).asked=true∧(s.bl g).cl=i∧(s.bl g).lock=l∧(s.bl g).kind≤2∧g / 4 % 64=(s.cl i).inc∧Chosen f s l g s.tr.length∧(s.bl g).val.own=i+1∧(∃w,Fol s g (s.bl g) w∧w.res=1)∧
 ∀b,(s.bl b).used=true→(s.bl b).cl=i→(s.bl b).lock=l→b / 4 % 64=(s.cl i).inc→(s.bl g).op≤(s.bl b).op→(s.bl b).kind≠3∧((s.bl b).kind≤2→(s.cl i).holds l≤(s.bl b).start+(s.bl b).ttl)
def JH(f:Cf)(s:Sx):Prop:=∀i,0≤i→i<f.clients→∀l,0<(s.cl i).holds l→HG f s i l
theorem HG.go{f:Cf}{s s':Sx}(v:Inv f s)(hx:Ext s s')(hl:tM s s'){i l:Int}(h:HG f s i l)(hi:(s'.cl i).inc=(s.cl i).inc)(hh:(s'.cl i).holds l≤(s.cl i).holds l)
 (hn:∀b,(s'.bl b).used=true→(s.bl b).used=true∨((s'.bl b).cl=i→(s'.bl b).lock=l→(s'.bl b).kind≠3∧((s'.bl b).kind≤2→(s'.cl i).holds l≤(s'.bl b).start+(s'.bl b).ttl))):HG f s' i l:=by
 obtain⟨g,c,n,D,y,B,j,r,⟨w,x,m⟩,d⟩:=h;have e:=hx.ask g c;refine⟨g,by rw[e];exact c,by rw[e];exact n,by rw[e];exact D,by rw[e];exact y,by rw[hi];exact B,j.mono hx hx.len,by rw[e];exact r,⟨w,x.ext hx hl c (v.i1.ask g c),m⟩,fun b hb hc hlk hinc hop=>?_⟩;rw[e]at hop;rcases hn b hb with a|a
 ·obtain⟨E,o,u,q,t,A,k,F⟩:=hx.us b a;rw[o]at hop;rw[u]at hc;rw[q]at hlk;rw[hi]at hinc;obtain⟨p,C⟩:=d b a hc hlk hinc hop;rw[t,A,k];exact⟨p,fun z=>Int.le_trans hh (C z)⟩
 ·exact a hc hlk
theorem JH.of{f:Cf}{s s':Sx}(v:Inv f s)(hx:Ext s s')(hl:tM s s')(h:JH f s){i:Int}{c:Ct}(hcl:s'.cl=upd s.cl i c)(hc:∀l,0<c.holds l→(c.inc=(s.cl i).inc∧c.holds l≤(s.cl i).holds l)∨HG f s' i l)
 (hn:∀b,(s'.bl b).used=true→(s.bl b).used=true∨((s'.bl b).cl=i∧∀l,0<c.holds l→(s'.bl b).lock=l→(s'.bl b).kind≠3∧((s'.bl b).kind≤2→c.holds l≤(s'.bl b).start+(s'.bl b).ttl))):JH f s':=fun k k0 k1 l hk=>by
 by_cases q:k=i
 ·subst q;have e:s'.cl k=c:=by rw[hcl,cN]
  rw[e]at hk;rcases hc l hk with⟨c1,c2⟩|c1
  ·refine HG.go v hx hl (h k k0 k1 l (by omega)) (by rw[e,c1]) (by rw[e];exact c2) fun b hb=>?_;rw[e];exact(hn b hb).imp id fun z _ hlk=>z.2 l hk hlk
  ·exact c1
 ·have e:s'.cl k=s.cl k:=by rw[hcl,cV _ _ q]
  rw[e]at hk;refine HG.go v hx hl (h k k0 k1 l hk) (by rw[e]) (by rw[e];exact aL _) fun b hb=>?_;exact(hn b hb).imp id fun z hk'=>absurd (hk'.symm.trans z.1) q
theorem aGe{f:Cf}(hf:f.clients≤4){gd:Bool}{s s':Sx}(v:Inv f s)(j1:J1 s)(hd:JD f s)(h:JH f s)(hs:Mi f gd s s'):JH f s':=by
 obtain⟨a,d⟩:=yG hf v hs
 revert a d
 have u:∀t:Sx,t.bl=s.bl→∀(i:Int) (c:Ct) b,(t.bl b).used=true→(s.bl b).used=true∨((t.bl b).cl=i∧∀l,0<c.holds l→(t.bl b).lock=l→(t.bl b).kind≠3∧((t.bl b).kind≤2→c.holds l≤(t.bl b).start+(t.bl b).ttl)):=fun t e i c b hb=>by
  rw[e]at hb;exact Or.inl hb
 have M:∀(t:Sx),t.cl=s.cl→t.bl=s.bl→Ext s t→tM s t→JH f t:=fun t e eb a d k k0 k1 l I=>by
  rw[e]at I;exact HG.go v a d (h k k0 k1 l I) (by rw[e]) (by rw[e];exact aL _) fun b hb=>Or.inl (by rw[eb]at hb;exact hb)
 refine hs.elim (P:=fun t=>Ext s t→tM s t→JH f t) ?tick ?bump ?began ?att ?endU ?endQ ?hear ?prop ?lose ?ret ?acc ?ev
 case tick=>exact fun i n p y hg a d=>h.of v a d (i:=i) (c:={s.cl i with clock:=(s.cl i).clock+1}) rfl (fun l _=>Or.inl ⟨rfl,aL _⟩) (u _ rfl _ _)
 case bump=>exact fun i r o n p y hd z hr' a d=>h.of v a d (i:=i) (c:={s.cl i with round:=r}) rfl (fun l _=>Or.inl ⟨rfl,aL _⟩) (u _ rfl _ _)
 case began=>
  intro i k l t n p y a7 I G ht _ _ a d;refine h.of v a d (i:=i) (c:=dC {s.cl i with doing:=some (dP (s.cl i) k l t)} k l t) rfl (fun l' hp=>Or.inl ⟨(iZ _ k l t).1.inc,?_⟩) (u _ rfl _ _);unfold dC at hp⊢;split
  ·rename_i e;rw[if_pos e]at hp;have x:0<upd (s.cl i).holds l 0 l':=hp;show upd (s.cl i).holds l 0 l'≤(s.cl i).holds l';unfold upd at x⊢;split
   ·rename_i q;rw[if_pos q]at x;omega
   ·exact aL _
  ·split
   ·show upd (s.cl i).holds l (min ((s.cl i).holds l) ((s.cl i).clock+t)) l'≤(s.cl i).holds l';unfold upd;split
    ·rename_i q;rw[q];omega
    ·exact aL _
   ·exact aL _
 case att=>
  intro i o n p y g z a d;refine h.of v a d (i:=i) (c:={s.cl i with round:=(s.cl i).round+1,doing:=some (eJ o (s.cl i))}) rfl (fun l _=>Or.inl ⟨rfl,aL _⟩) fun b hb=>?_;by_cases q:b=(fB (s.cl i)).bal
  ·subst q;have e:(fU f s i o).bl (fB (s.cl i)).bal=_:=cN _ _ _;rw[e];refine Or.inr ⟨rfl,fun l hp G=>?_⟩;have R:o.lock=l:=G;subst R;obtain⟨c1,c2⟩:=hd i n p o g;have x:0<(s.cl i).holds o.lock:=hp;exact⟨fun e3=>by have:=c1 e3;omega,c2⟩
  ·have e:(fU f s i o).bl b=s.bl b:=cV _ _ q;rw[e]at hb;exact Or.inl hb
 case endU=>exact fun i o res n p y hd z a d=>h.of v a d (i:=i) (c:={s.cl i with doing:=none}) rfl (fun l _=>Or.inl ⟨rfl,aL _⟩) (u _ rfl _ _)
 case endQ=>
  intro i o n p y g S Y a d;refine h.of v a d (i:=i) (c:=eH (s.cl i) o o.att.eres o.att.etok o.att.val) rfl (fun l hp=>?_) (u _ rfl _ _);have w:=(kB (s.cl i) o o.att.eres o.att.etok o.att.val).1.inc;have D:∀l,0<upd (s.cl i).holds o.lock 0 l→upd (s.cl i).holds o.lock 0 l≤(s.cl i).holds l:=fun l hp=>by
   unfold upd at hp⊢;split
   ·rename_i q;rw[if_pos q]at hp;omega
   ·exact aL _
  by_cases z:o.att.eres=1
  ·by_cases N:o.kind=3
   ·refine Or.inl ⟨w,?_⟩;have e:(eH (s.cl i) o o.att.eres o.att.etok o.att.val).holds=upd (s.cl i).holds o.lock 0:=by
     unfold eH;dsimp only;rw[if_pos z];unfold iX;rw[if_pos N];rfl
    rw[e]at hp⊢;exact D l hp
   ·have e:(eH (s.cl i) o o.att.eres o.att.etok o.att.val).holds=upd (s.cl i).holds o.lock (o.began+o.ttl):=by
     unfold eH;dsimp only;rw[if_pos z];unfold iX;rw[if_neg N]
    rw[e]at hp⊢;by_cases X:l=o.lock
    ·subst X;right;have K:=v.i1.on i n p o g;have U:=v.i3.on i n p o g;have E:=v.i2.on i n p o g;obtain⟨F,B,W⟩:(s.bl o.att.bal).used=true∧(s.bl o.att.bal).cl=i∧o.att.bal / 4 % 64=(s.cl i).inc:=by
      rcases v.i0.bal i n p o g with Z|⟨Z,q2,q3,_⟩
      ·omega
      ·exact⟨Z,q2,q3⟩
     have L:o.att.bal≠0:=by have:=(v.i0.fr0 _ F).1;omega
     obtain⟨l1,l2,l3,l4,l5⟩:=K.lk L;have C:(s.bl o.att.bal).asked=true:=(K.ask L).2 S;have T:=U.ew S;rw[z]at T;have a0:o.kind≤2:=by
      rcases T.2 with⟨k,_⟩|⟨k,_⟩|⟨k,_⟩|⟨k,_,q,_⟩
      ·omega
      ·omega
      ·omega
      ·exact absurd (show(1:Int)=4 from q) (by decide)
     have Q:(s.bl o.att.bal).val.own=i+1:=by
      rcases T.2 with⟨k,q⟩|⟨k,q⟩|⟨k,q⟩|⟨k,_,q,_⟩
      ·rcases q with⟨m,A,_⟩|⟨_,⟨A,_⟩|⟨_,_,_,A,_⟩⟩
       ·rw[aDJ v C m A k,B]
       ·rw[A];show(s.bl o.att.bal).cl+1=i+1;rw[B]
       ·exact absurd (show(1:Int)=2 from A) (by decide)
      ·rcases q with⟨_,_,A,_⟩|⟨_,A,_⟩
       ·rw[A];show(s.bl o.att.bal).cl+1=i+1;rw[B]
       ·exact absurd (show(1:Int)=3 from A) (by decide)
      ·omega
      ·exact absurd (show(1:Int)=4 from q) (by decide)
     refine⟨o.att.bal,C,B,l2,by show(s.bl o.att.bal).kind≤2;omega,?_,?_,Q,⟨_,Fol.bl (s:=s) (s':=lC s i o) rfl T,rfl⟩,fun b hb hc G hbi hop=>?_⟩
     ·rw[W];show _=(upd s.cl i (eH (s.cl i) o o.att.eres o.att.etok o.att.val) i).inc;rw[cN,w]
     ·exact⟨o.att.ans,E.nd,Y,fun j hj=>⟨(E.ac S j hj).1,(E.ac S j hj).2.mono a (aL _) a.len⟩⟩
     ·have H:(s.bl b).used=true:=hb;have V:(s.bl b).cl=i:=hc;have a6:(s.bl o.att.bal).op≤(s.bl b).op:=hop;have h1:=aBV v n p g H V;have J:(s.bl b).op=(s.bl o.att.bal).op:=by omega
      obtain⟨a1,a2,a3,a4⟩:=sV v H F J;have a5:=(j1.js b o.att.bal H F J).1;show(s.bl b).kind≠3∧((s.bl b).kind≤2→(upd s.cl i (eH (s.cl i) o o.att.eres o.att.etok o.att.val) i).holds o.lock≤(s.bl b).start+(s.bl b).ttl);rw[cN,e,cN,a2,a4,a5,l3,l4,l5];exact⟨by omega,fun _=>aL _⟩
    ·rw[cV _ _ X];exact Or.inl ⟨w,aL _⟩
  ·refine Or.inl ⟨w,?_⟩;by_cases O:o.att.eres=3
   ·have e:(eH (s.cl i) o o.att.eres o.att.etok o.att.val).holds=upd (s.cl i).holds o.lock 0:=by
     unfold eH;dsimp only;rw[if_neg z,if_pos O];rfl
    rw[e]at hp⊢;exact D l hp
   ·have e:(eH (s.cl i) o o.att.eres o.att.etok o.att.val).holds=(s.cl i).holds:=by
     unfold eH;dsimp only;rw[if_neg z,if_neg O];split
     ·unfold kH;split<;>rfl
     ·rfl
    rw[e];exact aL _
 case hear=>exact fun i o m n p y hd hm hb hk0 I ha a d=>h.of v a d (i:=i) (c:={s.cl i with doing:=some (heardOn o m)}) rfl (fun l _=>Or.inl ⟨rfl,aL _⟩) (u _ rfl _ _)
 case prop=>
  intro i o n p y g h2 Y z a d;obtain⟨u1,u2,u3,u4⟩:=v.i1.unasked v.i0 n p g h2;refine h.of v a d (i:=i) (c:={s.cl i with doing:=some (dZ o (cO f (s.cl i) o o.att.val))}) rfl (fun l _=>Or.inl ⟨rfl,aL _⟩) fun b hb=>?_;by_cases q:b=o.att.bal
  ·subst q;exact Or.inl u2
  ·rw[show(eG f s i o).bl b=s.bl b from cV _ _ q]at hb;exact Or.inl hb
 case lose=>
  intro i n p y a d;refine h.of v a d (i:=i) (c:=jP (s.cl i)) rfl (fun l hp=>?_) (u _ rfl _ _);rw[kP y]at hp;exact absurd hp (Int.lt_irrefl _)
 case ret=>
  intro i n p y hi a d;refine h.of v a d (i:=i) (c:=gE (s.cl i)) rfl (fun l hp=>?_) (u _ rfl _ _);rw[kW y hi]at hp;have x:0<(s.cl i).holds l:=hp;rw[(v.i0.gone i n p y).2.2.2.1]at x;exact absurd x (Int.lt_irrefl _)
 case acc=>exact fun j m e j0 j1 hm I he a d=>M _ rfl rfl a d
 case ev=>exact fun j k j0 I a d=>M _ rfl rfl a d
def Since(f:Cf)(s:Sx)(i p:Int)(since:Int):Prop:=aAb s p→10*((s.cl i).clock-since)≤(10+f.drift)*((s.cl (s.bl p).cl).clock-(s.bl p).start)+s.ah (s.bl p).cl i
def WG(f:Cf)(s:Sx)(i l:Int):Prop:=∃x,(s.bl x).asked=true∧(s.bl x).cl=i∧(s.bl x).lock=l∧x / 4 % 64=(s.cl i).inc∧Chosen f s l x s.tr.length∧(s.bl x).val.own=((s.cl i).wat l).own∧(s.bl x).val.tok=((s.cl i).wat l).tok∧(s.bl x).val.seq=((s.cl i).wat l).seq∧
 (∀o,(s.cl i).doing=some o→(s.bl x).op<s.opx i)∧(s.bl x).op<s.tr.length∧∀p,(s.bl p).asked=true→(s.bl p).t1≤(s.bl x).t1→(s.bl p).cl≠i→Since f s i p ((s.cl i).wat l).since
def JW(f:Cf)(s:Sx):Prop:=∀i,0≤i→i<f.clients→∀l,((s.cl i).wat l).own≠0→WG f s i l
section
variable {f:Cf} {s s':Sx}
theorem WG.go(v:Inv f s)(hx:Ext s s'){i l:Int}(h:WG f s i l)(hi:(s'.cl i).inc=(s.cl i).inc)(hw:(s'.cl i).wat l=(s.cl i).wat l)(ho:∀o,(s'.cl i).doing=some o→((s.cl i).doing.isSome=true∧s'.opx i=s.opx i)∨s'.opx i=s.tr.length)
 (hn:∀p,(s'.bl p).asked=true→(s.bl p).asked=true∨s.tr.length≤(s'.bl p).t1) (hs:∀p since,(s.bl p).asked=true→(s.bl p).cl≠i→Since f s i p since→Since f s' i p since):WG f s' i l:=by
 obtain⟨x,b,w,r,k,y,n,u,m,t,a,d⟩:=h;have e:=hx.ask x b;have z:(s.bl x).t1<s.tr.length:=(aF.1 ((v.i1.bg x (v.i1.ask x b)).ac b)).1;refine⟨x,by rw[e];exact b,by rw[e];exact w,by rw[e];exact r,by rw[hi];exact k,y.mono hx hx.len,by rw[e,hw];exact n,by rw[e,hw];exact u,by rw[e,hw];exact m,fun o q=>?_,by rw[e];exact aG a hx.len,fun p hp ht hc=>?_⟩
 ·rw[e];rcases ho o q with⟨g,c⟩|c
  ·rw[c];cases hd:(s.cl i).doing with
   |none=>rw[hd]at g;cases g
   |some o'=>exact t o' hd
  ·rw[c];exact a
 ·rw[e]at ht;rw[hw];rcases hn p hp with q|q
  ·have j:=hx.ask p q;rw[j]at ht hc;exact hs p _ q hc (d p q ht hc)
  ·omega
theorem Since.go(v:Inv f s)(hg:GoC f s s')(hx:Ext s s'){i p since:Int}(hp:(s.bl p).asked=true)(h:Since f s i p since)
 (hi:aAb s p→aAb s' p→10*((s'.cl i).clock-(s.cl i).clock)≤(10+f.drift)*((s'.cl (s.bl p).cl).clock-(s.cl (s.bl p).cl).clock)+(s'.ah (s.bl p).cl i-s.ah (s.bl p).cl i)):Since f s' i p since:=by
 intro q;have e:=hx.ask p hp;have a:=(mQ v hg (v.i1.ask p hp) (by rw[e]) q).1;have d:=h a;have c:=hi a q;rw[e];have b:(10+f.drift)*((s'.cl (s.bl p).cl).clock-(s.bl p).start)=(10+f.drift)*((s'.cl (s.bl p).cl).clock-(s.cl (s.bl p).cl).clock)+(10+f.drift)*((s.cl (s.bl p).cl).clock-(s.bl p).start):=by
  rw[←Int.mul_add];congr 1;omega
 rw[b];omega
theorem nT(v:Inv f s)(hg:GoC f s s')(hx:Ext s s'){i p since:Int}(hp:(s.bl p).asked=true)(h:Since f s i p since)(hc:∀k,(s'.cl k).clock=(s.cl k).clock)(ha:s'.ah=s.ah):Since f s' i p since:=
 h.go v hg hx hp fun _ _=>by rw[hc,hc,ha,Int.sub_self,Int.sub_self,Int.sub_self,Int.mul_zero,Int.mul_zero];decide
end
theorem aFX{s s':Sx}{i:Int}{c:Ct}(hcl:s'.cl=upd s.cl i c)(hc:c.clock=(s.cl i).clock):∀k,(s'.cl k).clock=(s.cl k).clock:=fun k=>by
 rw[hcl];by_cases q:k=i
 ·subst q;rw[cN];exact hc
 ·rw[cV _ _ q]
theorem JW.of{f:Cf}{s s':Sx}(v:Inv f s)(hx:Ext s s')(hg:GoC f s s')(h:JW f s){i:Int}{c:Ct}(hcl:s'.cl=upd s.cl i c)(hop:∀k,k≠i→s'.opx k=s.opx k)(ha:s'.ah=s.ah)(hck:c.clock=(s.cl i).clock)
 (hn:∀p,(s'.bl p).asked=true→(s.bl p).asked=true∨s.tr.length≤(s'.bl p).t1)
 (hc:∀l,(c.wat l).own≠0→(c.inc=(s.cl i).inc∧c.wat l=(s.cl i).wat l∧∀o,c.doing=some o→((s.cl i).doing.isSome=true∧s'.opx i=s.opx i)∨s'.opx i=s.tr.length)∨WG f s' i l):JW f s':=fun k k0 k1 l hk=>by
 have hck':=aFX hcl hck;by_cases q:k=i
 ·subst q;have e:s'.cl k=c:=by rw[hcl,cN]
  rw[e]at hk;rcases hc l hk with⟨c1,c2,c3⟩|c1
  ·exact WG.go v hx (h k k0 k1 l (by rw[←c2];exact hk)) (by rw[e];exact c1) (by rw[e];exact c2) (by rw[e];exact c3) hn fun p si hp _ hh=>nT v hg hx hp hh hck' ha
  ·exact c1
 ·have e:s'.cl k=s.cl k:=by rw[hcl,cV _ _ q]
  rw[e]at hk;exact WG.go v hx (h k k0 k1 l hk) (by rw[e]) (by rw[e]) (fun o ho=>Or.inl ⟨by rw[e]at ho;rw[ho];rfl,hop k q⟩) hn fun p si hp _ hh=>nT v hg hx hp hh hck' ha
theorem jA{s t:Sx}(e:t.bl=s.bl):∀p,(t.bl p).asked=true→(s.bl p).asked=true∨s.tr.length≤(t.bl p).t1:=fun p hp=>by rw[e]at hp;exact Or.inl hp
theorem aGv{f:Cf}(hf:f.clients≤4)(hd0:0≤f.drift){s s':Sx}(v:Inv f s)(ja:JA f s)(jc:JC s)(h:JW f s)(hs:Mi f true s s'):JW f s':=by
 obtain⟨a,hl⟩:=yG hf v hs;have b:=aAd hs
 revert a b
 refine hs.elim (P:=fun t=>Ext s t→GoC f s t→JW f t) ?tick ?bump ?began ?att ?endU ?endQ ?hear ?prop ?lose ?ret ?acc ?ev
 case tick=>
  intro i u w n _ a b k E D l d;have J:(nD f s i).cl=upd s.cl i {s.cl i with clock:=(s.cl i).clock+1}:=rfl;have X:(nD f s i).ah=oE f s.ah i:=rfl;have U:∀j,((nD f s i).cl j).clock=if j=i then(s.cl j).clock+1 else(s.cl j).clock:=fun j=>by
   rw[J];by_cases q:j=i
   ·subst q;rw[cN,if_pos rfl]
   ·rw[cV _ _ q,if_neg q]
  have a2:∀j,((nD f s i).cl j).inc=(s.cl j).inc∧((nD f s i).cl j).wat=(s.cl j).wat∧((nD f s i).cl j).doing=(s.cl j).doing:=fun j=>by
   rw[J];by_cases q:j=i
   ·subst q;rw[cN];exact⟨rfl,rfl,rfl⟩
   ·rw[cV _ _ q];exact⟨rfl,rfl,rfl⟩
  obtain⟨m1,m2,m3⟩:=a2 k;rw[m2]at d;refine WG.go v a (h k E D l d) m1 (by rw[m2]) (fun o ho=>Or.inl ⟨by rw[m3]at ho;rw[ho];rfl,rfl⟩) (jA rfl) fun p si hp hpc hh=>hh.go v b a hp fun _ _=>?_;rw[U,U,X];unfold oE;have:=ja.p (s.bl p).cl k;rw[if_neg hpc];by_cases F:k=i
  ·rw[if_pos F,if_pos F,if_neg (fun e=>hpc (e.trans F.symm))];rw[Int.sub_self,Int.mul_zero];omega
  ·rw[if_neg F,if_neg F];by_cases L:(s.bl p).cl=i
   ·rw[if_pos L,if_pos L];have e:(10+f.drift)*((s.cl (s.bl p).cl).clock+1-(s.cl (s.bl p).cl).clock)=10+f.drift:=by
     rw[show(s.cl (s.bl p).cl).clock+1-(s.cl (s.bl p).cl).clock=1 by omega,Int.mul_one]
    rw[e];omega
   ·rw[if_neg L,if_neg L,Int.sub_self,Int.sub_self,Int.sub_self,Int.mul_zero,Int.mul_zero]
    decide
 case bump=>exact fun i r o u w n G Q hr' a b=>h.of v a b (i:=i) (c:={s.cl i with round:=r}) rfl (fun _ _=>rfl) rfl rfl (jA rfl) fun l _=>Or.inl ⟨rfl,rfl,fun o' ho=>Or.inl ⟨by rw[G];rfl,rfl⟩⟩
 case began=>
  intro i k l t u w n G d a6 ht _ _ a b;obtain⟨K,sd⟩:=iZ {s.cl i with doing:=some (dP (s.cl i) k l t)} k l t;have a1:(dC {s.cl i with doing:=some (dP (s.cl i) k l t)} k l t).wat=(s.cl i).wat:=by
   unfold dC;split
   ·rfl
   ·split<;>rfl
  refine h.of v a b (i:=i) (c:=dC {s.cl i with doing:=some (dP (s.cl i) k l t)} k l t) rfl (fun j hj=>cV _ _ hj) rfl K.clock (jA rfl) fun l' _=>Or.inl ⟨K.inc,by rw[a1],fun o' ho=>Or.inr (cN _ _ _)⟩
 case att=>
  intro i o u w n G Q a b;refine h.of v a b (i:=i) (c:={s.cl i with round:=(s.cl i).round+1,doing:=some (eJ o (s.cl i))}) rfl (fun _ _=>rfl) rfl rfl (fun p hp=>?_) fun l _=>Or.inl ⟨rfl,rfl,fun o' ho=>Or.inl ⟨by rw[G];rfl,rfl⟩⟩;by_cases q:p=(fB (s.cl i)).bal
  ·subst q;rw[show(fU f s i o).bl (fB (s.cl i)).bal=_ from cN _ _ _]at hp;cases hp
  ·rw[show(fU f s i o).bl p=s.bl p from cV _ _ q]at hp;exact Or.inl hp
 case endU=>exact fun i o res u w n G Q a b=>h.of v a b (i:=i) (c:={s.cl i with doing:=none}) rfl (fun _ _=>rfl) rfl rfl (jA rfl) fun l _=>Or.inl ⟨rfl,rfl,fun o' ho=>(by cases ho)⟩
 case endQ=>
  intro i o u w n H N hq a b;obtain⟨K,S⟩:=kB (s.cl i) o o.att.eres o.att.etok o.att.val;refine h.of v a b (i:=i) (c:=eH (s.cl i) o o.att.eres o.att.etok o.att.val) rfl (fun _ _=>rfl) rfl K.clock (jA rfl) fun l hw0=>?_;have g:(eH (s.cl i) o o.att.eres o.att.etok o.att.val).wat l=(s.cl i).wat l→(eH (s.cl i) o o.att.eres o.att.etok o.att.val).inc=(s.cl i).inc∧(eH (s.cl i) o o.att.eres o.att.etok o.att.val).wat l=(s.cl i).wat l∧∀o',(eH (s.cl i) o o.att.eres o.att.etok o.att.val).doing=some o'→((s.cl i).doing.isSome=true∧(lC s i o).opx i=s.opx i)∨(lC s i o).opx i=s.tr.length:=fun e=>⟨K.inc,e,fun o' ho=>by rw[S]at ho;cases ho⟩;by_cases Q:o.att.eres=2∨o.att.eres=4
  ·have e:eH (s.cl i) o o.att.eres o.att.etok o.att.val=kH {s.cl i with doing:=none} o.lock o.att.val:=by
    unfold eH;dsimp only;rw[if_neg (by omega),if_neg (by omega),if_pos Q]
   by_cases C:o.att.val.own=0∨o.att.val.own=(s.cl i).num+1∨vT ((s.cl i).wat o.lock) o.att.val=true
   ·left;refine g ?_;rw[e];unfold kH;rw[if_pos C]
   ·have O:(eH (s.cl i) o o.att.eres o.att.etok o.att.val).wat=upd (s.cl i).wat o.lock ⟨o.att.val.own,o.att.val.tok,o.att.val.seq,(s.cl i).clock⟩:=by
     rw[e];unfold kH;rw[if_neg C]
    by_cases ql:l=o.lock
    ·subst ql;right;have I:=v.i1.on i u w o H;have Y:=v.i3.on i u w o H;have M:=v.i2.on i u w o H;obtain⟨a0,J,Z⟩:(s.bl o.att.bal).used=true∧(s.bl o.att.bal).cl=i∧o.att.bal / 4 % 64=(s.cl i).inc:=by
      rcases v.i0.bal i u w o H with F|⟨F,L,q3,_⟩
      ·omega
      ·exact⟨F,L,q3⟩
     have T:o.att.bal≠0:=by have:=(v.i0.fr0 _ a0).1;omega
     obtain⟨l1,l2,l3,l4,l5⟩:=I.lk T;have V:(s.bl o.att.bal).asked=true:=(I.ask T).2 N;have hw:=Y.ew N;have B:(s.bl o.att.bal).val=o.att.val:=by
      have a3:=(I.av N).2;rw[←a3];rcases hw.2 with⟨k,q⟩|⟨k,q⟩|⟨k,q⟩|⟨k,q,_⟩
      ·rcases q with⟨_,q,_⟩|⟨_,⟨_,q,_⟩|⟨q,_⟩⟩
       ·exact q
       ·have q':o.att.eres=1:=q;omega
       ·exact q
      ·rcases q with⟨_,_,_,q,_⟩|⟨q,_⟩
       ·have q':o.att.eres=1:=q;omega
       ·exact q
      ·rcases q with⟨_,_,_,_,q,_⟩|⟨q,_⟩|⟨q,_⟩
       ·have q':o.att.eres=1:=q;omega
       ·exact q
       ·exact q
      ·exact q
     have x:(lC s i o).cl i=eH (s.cl i) o o.att.eres o.att.etok o.att.val:=cN _ _ _;have W:s.opx i<s.tr.length:=(aF.1 I.ev).1;refine⟨o.att.bal,V,J,l2,by rw[x,K.inc];exact Z,⟨o.att.ans,M.nd,hq,fun j hj=>⟨(M.ac N j hj).1,(M.ac N j hj).2.mono a (aL _) a.len⟩⟩,?_,?_,?_,fun o' ho=>(by rw[x,S]at ho;cases ho),?_,fun p hp ht hpc hin=>?_⟩
     ·rw[x,O,cN];exact congrArg Vl.own B
     ·rw[x,O,cN];exact congrArg Vl.tok B
     ·rw[x,O,cN];exact congrArg Vl.seq B
     ·show(s.bl o.att.bal).op<_;rw[l1];exact aG W a.len
     ·rw[x,O,cN,K.clock];have R:(s.bl p).asked=true:=hp;obtain⟨F,L⟩:=mQ v b (v.i1.ask p R) rfl hin;have a4:=jc p (v.i1.ask p R) F;have a5:=ja.p (s.bl p).cl i;show 10*((s.cl i).clock-(s.cl i).clock)≤(10+f.drift)*(((lC s i o).cl (s.bl p).cl).clock-(s.bl p).start)+s.ah (s.bl p).cl i;rw[Int.sub_self,Int.mul_zero];have:=Int.mul_nonneg (show 0≤10+f.drift by omega) (show 0≤((lC s i o).cl (s.bl p).cl).clock-(s.bl p).start by omega);omega
    ·left;refine g ?_;rw[O,cV _ _ ql]
  ·left;refine g ?_;unfold eH;dsimp only;split
   ·unfold iX oG;split<;>rfl
   ·split
    ·rfl
    ·rfl
 case hear=>exact fun i o m u w n G hm hb hk0 d ha a b=>h.of v a b (i:=i) (c:={s.cl i with doing:=some (heardOn o m)}) rfl (fun _ _=>rfl) rfl rfl (jA rfl) fun l _=>Or.inl ⟨rfl,rfl,fun o' ho=>Or.inl ⟨by rw[G];rfl,rfl⟩⟩
 case prop=>
  intro i o u w n G h2 hq Q a b;refine h.of v a b (i:=i) (c:={s.cl i with doing:=some (dZ o (cO f (s.cl i) o o.att.val))}) rfl (fun _ _=>rfl) rfl rfl (fun p hp=>?_) fun l _=>Or.inl ⟨rfl,rfl,fun o' ho=>Or.inl ⟨by rw[G];rfl,rfl⟩⟩;by_cases q:p=o.att.bal
  ·subst q;rw[show(eG f s i o).bl o.att.bal=_ from cN _ _ _];exact Or.inr (aE _)
  ·rw[show(eG f s i o).bl p=s.bl p from cV _ _ q]at hp;exact Or.inl hp
 case lose=>
  intro i u w n a b k E D l d;by_cases q:k=i
  ·subst q;rw[show(mH s k).cl k=jP (s.cl k)from cN _ _ _,kP n]at d;exact absurd rfl d
  ·have e:(mH s i).cl k=s.cl k:=cV _ _ q;rw[e]at d;refine WG.go v a (h k E D l d) (by rw[e]) (by rw[e]) (fun o ho=>Or.inl ⟨by rw[e]at ho;rw[ho];rfl,rfl⟩) (jA rfl) fun p si hp _ hh=>hh.go v b a hp fun _ hin=>?_;have A:(s.bl p).cl≠i:=fun z=>by
    have:=hin.1;rw[show((mH s i).bl p).cl=(s.bl p).cl from rfl,z,show(mH s i).cl i=jP (s.cl i)from cN _ _ _,kP n]at this;cases this
   rw[e,show(mH s i).cl (s.bl p).cl=s.cl (s.bl p).cl from cV _ _ A,show(mH s i).ah (s.bl p).cl k=s.ah (s.bl p).cl k from if_neg (fun z=>z.elim A q),Int.sub_self,Int.sub_self,Int.sub_self,Int.mul_zero,Int.mul_zero]
   decide
 case ret=>
  intro i u w n hi a b k E D l d;by_cases q:k=i
  ·subst q;rw[show(pF s k).cl k=gE (s.cl k)from cN _ _ _,kW n hi]at d;have y:((s.cl k).wat l).own≠0:=d;rw[(v.i0.gone k E D n).2.2.2.2.1]at y;exact absurd rfl y
  ·have e:(pF s i).cl k=s.cl k:=cV _ _ q;rw[e]at d;refine WG.go v a (h k E D l d) (by rw[e]) (by rw[e]) (fun o ho=>Or.inl ⟨by rw[e]at ho;rw[ho];rfl,rfl⟩) (jA rfl) fun p si hp _ hh=>hh.go v b a hp fun hin0 hin=>?_;have A:(s.bl p).cl≠i:=fun z=>by
    have:=hin0.1;rw[z,n]at this;cases this
   rw[e,show(pF s i).cl (s.bl p).cl=s.cl (s.bl p).cl from cV _ _ A,show(pF s i).ah (s.bl p).cl k=s.ah (s.bl p).cl k from if_neg (fun z=>z.elim A q),Int.sub_self,Int.sub_self,Int.sub_self,Int.mul_zero,Int.mul_zero]
   decide
 case acc=>
  intro j m e j0 j1 hm d he a b k E D l y;exact WG.go v a (h k E D l y) rfl rfl (fun o ho=>Or.inl ⟨by rw[show(s.cl k).doing=some o from ho];rfl,rfl⟩) (jA rfl) fun p si hp _ hh=>nT v b a hp hh (fun _=>rfl) rfl
 case ev=>
  intro j k' j0 d a b k E D l y;exact WG.go v a (h k E D l y) rfl rfl (fun o ho=>Or.inl ⟨by rw[show(s.cl k).doing=some o from ho];rfl,rfl⟩) (jA rfl) fun p si hp _ hh=>nT v b a hp hh (fun _=>rfl) rfl
theorem aHa{f:Cf}{s s':Sx}(v:Inv f s)(hx:Ext s s'){q:Int}:∀b,(s.bl b).asked=true→Up s q b→Up s' q b:=by
 refine jO v (fun b hb h0 hu=>?_) (fun b hb ha hl ih hu=>?_)
 ·by_cases e:q=b
  ·subst e;exact Up.refl _
  ·obtain⟨n,a⟩:=hu.down e;rw[h0,tE]at a;refine Up.step (by have:=dJ v hb;omega) ?_;rw[hx.ask b hb,h0,←a];exact Up.refl _
 ·by_cases e:q=b
  ·subst e;exact Up.refl _
  ·refine Up.step (by have:=dJ v hb;omega) ?_;rw[hx.ask b hb];exact ih (hu.down e)
def TG(s:Sx)(p:Int):Prop:=∃q,(s.bl q).asked=true∧Up s q p∧q≠p∧(s.bl q).val=(s.bl p).pv∧(s.bl q).val≠(s.bl q).pv∧(s.bl q).cl+1=(s.bl p).pv.own∧((s.bl q).kind=1∧(s.bl q).val.tok=q∨(s.bl q).kind=2)∧(s.bl q).lock=(s.bl p).lock∧(s.bl q).ttl=(s.bl p).pv.ttl∧(aAb s q→(s.bl q).start+(s.bl q).ttl≤(s.cl (s.bl q).cl).clock)
def JT(s:Sx):Prop:=∀p,(s.bl p).asked=true→(s.bl p).kind=1→(s.bl p).pv.own≠0→(s.bl p).pv.own≠(s.bl p).cl+1→(s.bl p).val≠(s.bl p).pv→TG s p
theorem TG.go{f:Cf}{s s':Sx}(v:Inv f s)(hx:Ext s s')(hg:GoC f s s'){p:Int}(hp:(s.bl p).asked=true)(h:TG s p):TG s' p:=by
 obtain⟨q,b,n,m,g,o,i,k,l,d,c⟩:=h;have e:=hx.ask q b;have a:=hx.ask p hp;refine⟨q,by rw[e];exact b,aHa v hx p hp n,m,by rw[e,a];exact g,by rw[e];exact o,by rw[e,a];exact i,by rw[e];exact k,by rw[e,a];exact l,by rw[e,a];exact d,fun hin=>?_⟩;obtain⟨j,r⟩:=mQ v hg (v.i1.ask q b) (by rw[e]) hin;have:=c j;rw[e];omega
theorem aGV{f:Cf}(hf:f.clients≤4)(hff:0≤f.f)(hd0:0≤f.drift){s s':Sx}(v:Inv f s)(v':Inv f s')(h4':I4 s')(j1:J1 s)(ja:JA f s)(jb:JB f s)(jw:JW f s)(h:JT s)(hs:Mi f true s s'):JT s':=by
 obtain⟨a,hl⟩:=yG hf v hs;have c:=aAd hs
 revert a c v' h4'
 have F:∀t:Sx,t.bl=s.bl→Ext s t→GoC f s t→JT t:=fun t e a c p d z w C B=>by
  rw[e]at d z w C B;exact(h p d z w C B).go v a c d
 refine hs.ways (P:=fun t=>Inv f t→I4 t→Ext s t→GoC f s t→JT t) v.i0 ?still ?began ?att ?hear ?prop ?acc
 case still=>exact fun t ht _ _ a c=>F t ht.bl a c
 case began=>exact fun i k l t _ _ _ _ _ _ _ _ _ a c=>F _ rfl a c
 case hear=>exact fun i o m _ _ _ _ _ _ _ _ _ _ _ a c=>F _ rfl a c
 case acc=>exact fun j m e _ _ _ _ _ _ _ a c=>F _ rfl a c
 case att=>
  intro i o I K hu hd M v' h4' a c p d z w C B;by_cases q:p=(fB (s.cl i)).bal
  ·subst q;rw[show(fU f s i o).bl (fB (s.cl i)).bal=_ from cN _ _ _]at d;cases d
  ·have e:(fU f s i o).bl p=s.bl p:=cV _ _ q;rw[e]at d z w C B;exact(h p d z w C B).go v a c d
 case prop=>
  intro i o I K hu n h2 hq M v' h4' a c p d z w C B;by_cases q:p=o.att.bal
  ·subst q;obtain⟨u1,u2,u3,u4⟩:=v.i1.unasked v.i0 I K n h2;have T:=v.i1.on i I K o n;have r:=T.lk u1;have a7:=v.i3.on i I K o n;have Z:=(a7.ops o.att.bal u2 u3 r.1).1;have eb:(eG f s i o).bl o.att.bal={s.bl o.att.bal with asked:=true,base:=o.att.base,pv:=o.att.val,val:=(cO f (s.cl i) o o.att.val).next,t1:=s.tr.length}:=cN _ _ _;rw[eb]at z w C B;have a6:o.kind=1:=by rw[←r.2.2.1];exact z
   have G:o.att.val.own≠0:=w;have U:o.att.val.own≠i+1:=by rw[←u3];exact C
   have b:(cO f (s.cl i) o o.att.val).next≠o.att.val:=B
   have a0:=v.i0.num i I K;have g:xQ f (s.cl i) o o.att.val=true:=by
    unfold cO at b M;rw[if_pos a6]at b M;unfold gK at b M;split at b
    ·exact absurd rfl b
    ·rename_i c1;rw[if_neg c1]at M;split at b
     ·rename_i c2;rw[if_pos c2]at M;exact absurd rfl M
     ·split at b
      ·rename_i J;rcases J with J|J|J
       ·exact absurd J G
       ·rw[a0]at J;exact absurd J U
       ·exact J
      ·exact absurd rfl b
   unfold xQ at g;rw[aR,aM]at g;obtain⟨t1,t2⟩:=g;unfold vT at t1;simp only[aR,beq_iff_eq]at t1;obtain⟨⟨w1,w2⟩,w3⟩:=t1;obtain⟨x,N,x2,x3,x4,x5,x6,x7,x8,x9,b8,a5⟩:=jw i I K o.lock (by rw[w1];exact G);have a8:=x9 o n;have b5:x<o.att.bal:=j1.jb x o.att.bal (v.i1.ask x N) u2 (x2.trans u3.symm) (x4.trans Z.symm) (by rw[r.1];exact a8);have E:=a.ask x N;have W:Up (eG f s i o) x o.att.bal:=uD hff v' (x5.mono a (aE _)) _ d (by rw[eb];exact r.2.1) (by omega);have x0:=dJ v N;obtain⟨b1,b2,Q,b4⟩:=pK v' (by omega) d W (by omega);have H:((eG f s i o).bl o.att.bal).pv=o.att.val:=by rw[eb]
   rw[H]at Q;have Y:((eG f s i o).bl ((eG f s i o).bl o.att.bal).base).val.own≠0:=by rw[←Q];exact G
   obtain⟨r1,r2⟩:=tU v' h4' (by omega) _ b2 b4 (by rw[←Q,E,x7,w2]) Y;have r3:=r2 (by rw[←Q,E,x8,w3]);have a3:o.att.val=(s.bl x).val:=by rw[Q,r3,E]
   obtain⟨y,L,y2,y3,y4,O,y6,y7,R⟩:=aHK v' x (by rw[E];exact N) (by rw[E,x6,w1];exact G);have b0:=(sZ v' (by have:=dJ v' L;omega) x (by rw[E];exact N) y2).2.2;have V:y≠o.att.bal:=by omega
   have D:(eG f s i o).bl y=s.bl y:=cV _ _ V;rw[E]at y3 O y7 R;rw[←a3]at y3 O R;have a4:(s.bl y).t1≤(s.bl x).t1:=by
    by_cases e:y=x
    ·rw[e];exact aE _
    ·have:=zQ v' (by have:=dJ v' L;omega) x (by rw[E];exact N) y2 e;rw[D,E]at this;omega
   rw[D]at L O y6 y7 R;refine⟨y,by rw[D];exact L,y2.trans W,V,by rw[H];exact y3,y4,by rw[D,H];exact O,by rw[D]at y3⊢;exact y6,by rw[D,eb,y7,x3];exact r.2.1.symm,by rw[D,H];exact R,fun hin=>?_⟩;obtain⟨a1,a2⟩:=mQ v c (v.i1.ask y L) (by rw[D]) hin;have S:(s.bl y).cl≠i:=fun e=>by rw[e]at O;exact U O.symm
   have b6:=a5 y L a4 S a1;obtain⟨_,c0,c1,_⟩:=v.i0.fr0 y (v.i1.ask y L);have b9:=ja.u (s.bl y).cl i c0 c1 I K S a1.1;rw[D];have b7:=T.g1;have a9:o.att.began≤(s.cl i).clock:=jb i I K o n;have X:(10+f.drift)*(s.bl y).ttl≤(10+f.drift)*((s.cl (s.bl y).cl).clock-(s.bl y).start):=by
    rw[R];rw[Int.mul_comm (10+f.drift) o.att.val.ttl];generalize o.att.val.ttl*(10+f.drift)=A at t2⊢;omega
   have:=Int.le_of_mul_le_mul_left X (show 0<10+f.drift by omega);omega
  ·have e:(eG f s i o).bl p=s.bl p:=cV _ _ q;rw[e]at d z w C B;exact(h p d z w C B).go v a c d
structure aGE(f:Cf)(s:Sx):Prop where
 j1:J1 s
 ja:JA f s
 jb:JB f s
 jc:JC s
 jd:JD f s
 jh:JH f s
 jw:JW f s
 jt:JT s
theorem aE0(f:Cf):aGE f pE:=
 ⟨aHq,⟨fun _ _=>aL _,fun _ _ _ _ _ _ _ _=>(by decide:(0:Int)≤20)⟩,fun i _ _ o ho=>(by cases ho),fun b hb=>(by cases hb),fun i _ _ o ho=>(by cases ho),fun i _ _ l hl=>absurd hl (Int.lt_irrefl _),fun i _ _ l hl=>absurd rfl hl,fun p hp=>(by cases hp)⟩
theorem MiR.jall{f:Cf}(hf:f.clients≤4)(hff:0≤f.f)(hd0:0≤f.drift){s:Sx}(h:MiR f true s):aGE f s:=
 h.ind (P:=aGE f) (aE0 f) fun s s' hr hi hs=>by
  obtain⟨v,_⟩:=hr.all4 hf hff;obtain⟨v',h4'⟩:=(hr.step hs).all4 hf hff;exact⟨aGk hf v hi.j1 hs,aGT hd0 hi.ja hs,aGc v hi.jb hs,aGg hf v hi.jc hs,aF7 v hi.jd hs,aGe hf v hi.j1 hi.jd hi.jh hs,aGv hf hd0 v hi.ja hi.jc hi.jw hs,aGV hf hff hd0 v v' h4' hi.j1 hi.ja hi.jb hi.jw hi.jt hs⟩
theorem aBe{f:Cf}(hff:0≤f.f){s:Sx}(v:Inv f s)(h4:I4 s)(j:aGE f s){a l:Int}(hu:(s.cl a).up=true)(hc:(s.cl a).clock<(s.cl a).holds l)
 {g:Int} (g1:(s.bl g).asked=true) (g2:(s.bl g).cl=a) (g3:(s.bl g).lock=l) (g4:(s.bl g).kind≤2) (g5:g / 4 % 64=(s.cl a).inc) (g7:(s.bl g).val.own=a+1) (g8:∃w,Fol s g (s.bl g) w∧w.res=1)
 (g9:∀b,(s.bl b).used=true→(s.bl b).cl=a→(s.bl b).lock=l→b / 4 % 64=(s.cl a).inc→(s.bl g).op≤(s.bl b).op→(s.bl b).kind≠3∧((s.bl b).kind≤2→(s.cl a).holds l≤(s.bl b).start+(s.bl b).ttl))
 {b:Int} (hb:(s.bl b).asked=true) (hup:Up s g b):(s.bl b).val.own=a+1:=by
 refine aH fun hn=>?_;have g0:=dJ v g1;have P:a+1≠0:=by have:=(v.i0.fr0 g (v.i1.ask g g1)).2.1;omega
 obtain⟨p,o,p2,p3,N,p5,F,p7,O,D⟩:=aEv v (by omega) g7 b hb hup hn;have a8:=v.i1.ask p o;have J:Up s g p:=F.step (by have:=dJ v o;omega);have L:(s.bl p).lock=l:=by rw[←(sZ v (by omega) p o J).2.1];exact g3
 have u:∀q,(s.bl q).asked=true→(s.bl q).cl=a→(s.bl g).t1≤(s.bl q).t1→q / 4 % 64=(s.cl a).inc∧(s.bl g).op≤(s.bl q).op:=fun q q1 q2 q3=>by
  by_cases e:(s.bl g).t1=(s.bl q).t1
  ·have R:=(v.i1.bg g (v.i1.ask g g1)).ac g1;have h2:=(v.i1.bg q (v.i1.ask q q1)).ac q1;rw[e,h2]at R;have:=congrArg (fun x=>x.msg.bal) (aN R);have e':q=g:=this;subst e';exact⟨g5,aE _⟩
  ·have:=j.j1.jp g q g1 q1 (g2.trans q2.symm) (by omega);have a5:=v.i0.fr1 q (v.i1.ask q q1);rw[q2]at a5;exact⟨by omega,this.1⟩
 have Z:(s.bl g).t1<(s.bl p).t1:=zQ v (by omega) p o J p7;have H:(s.bl p).val≠(s.bl p).pv:=fun e=>by rw[e]at D;exact D O
 rcases iJ v o with q|⟨k,q,_⟩|⟨k,qo,_,q⟩|⟨k,qo,_,q,_⟩
 ·exact H q
 ·have hx:(s.bl p).pv.own≠(s.bl p).cl+1:=fun e=>by rw[q]at D;exact D (e.symm.trans O)
  obtain⟨y,d,y2,y3,y4,y5,y6,y7,y8,y9,W⟩:=j.jt p o k (by rw[O];exact P) hx H;have c:(s.bl y).cl=a:=by omega
  have y0:=dJ v d;have I:Up s y (s.bl p).base:=(pK v (by omega) o y2 y3).2.2.2;have t:(s.bl y).op=(s.bl g).op∨(s.bl g).op≤(s.bl y).op→y / 4 % 64=(s.cl a).inc→False:=fun ho hi=>by
   have a7:aAb s y:=by unfold aAb;rw[c];exact⟨hu,hi.symm⟩
   have R:=W a7;have h2:=(g9 y (v.i1.ask y d) c (y8.trans L) hi (by omega)).2 (by omega);rw[c]at R;omega
  by_cases Y:g≤y
  ·have a6:Up s g y:=aFq v (by omega) (by omega) _ N F I Y;have ht:(s.bl g).t1≤(s.bl y).t1:=by
    by_cases e:g=y
    ·rw[e];exact aE _
    ·exact bP (zQ v (by omega) y d a6 e)
   obtain⟨V,S⟩:=u y d c ht;exact t (Or.inr S) V
  ·have i:Up s y g:=aFq v (by omega) (by omega) _ N I F (by omega);have r:y≠g:=by omega
   have C:(s.bl y).val=(s.bl (s.bl p).base).val:=y4.trans p5;have a9:=aFg v (by omega) g g1 i;have b1:=aFg v (by omega) _ N F;have M:(s.bl g).val.tok=(s.bl y).val.tok:=by
    have:=congrArg Vl.tok C;omega
   obtain⟨r1,r2⟩:=tU v h4 (by omega) g g1 i M (by rw[g7];exact P);obtain⟨r3,r4⟩:=tU v h4 (x:=g) (by omega) _ N F (by rw[←C,M]) (by rw[←p5,O];exact P);have B:(s.bl g).val=(s.bl y).val:=by
    refine r2 ?_;rw[←C]at r3;omega
   obtain⟨w,⟨_,hw⟩,hr⟩:=g8;have A:=pK v (by omega) g1 i r;rcases hw with⟨U,z⟩|⟨U,z⟩|⟨U,_⟩|⟨U,_⟩
   ·rcases z with⟨⟨E,Q,m3,m4,m5⟩,n,_⟩|⟨_,⟨n,_⟩|⟨_,_,_,n,_⟩⟩
    ·have hT:(s.bl g).pv.tok=(s.bl y).val.tok:=by rw[←n,B]
     rw[hT]at E Q m3 m4 m5;generalize K:(s.bl y).val.tok=T at*;obtain⟨a1,a2,a3,a4⟩:=sV v (v.i1.ask T E) (v.i1.ask g g1) Q;rcases y7 with⟨yk,yt⟩|yk
     ·have e:y=T:=by omega
      subst e;refine t (Or.inl Q) ?_;rw[(j.j1.js y g (v.i1.ask y d) (v.i1.ask g g1) Q).2];exact g5
     ·exfalso;have m:=aEH v y d (by rw[K];have:=dJ v E;omega);rw[K]at m;have X:T≠y:=fun e=>by
       rw[e]at m;have:=m.2.2.1;omega
      have T0:=dJ v E;have h:=zQ v (by omega) y d m.1 X;have t2:=zQ v (by omega) g g1 i r;have o1:=(j.j1.jp T y E d (by rw[c,m3];exact g2) h).1;have o2:=(j.j1.jp y g d g1 (c.trans g2.symm) t2).1;have:=(sV v (v.i1.ask y d) (v.i1.ask g g1) (by omega)).2.1;omega
    ·have e2:=congrArg Vl.tok n;have e3:(s.bl g).val.tok=g:=e2;have:=(v.bd y d).2.1;omega
    ·omega
   ·rcases z with⟨e0,_,n,_⟩|⟨_,n,_⟩
    ·have hb:=A.2.2.1;have tk:(s.bl (s.bl g).base).val.tok=(s.bl y).val.tok:=by
      rw[←hb,←B,n]
     have s1:=(tU v h4 (by omega) _ A.2.1 A.2.2.2 tk (by rw[←hb,e0,g2];exact P)).1;have s2:=congrArg Vl.seq n;have s3:(s.bl g).val.seq=min ((s.bl g).pv.seq+1) 2147483647:=s2;have s4:=aFU v g1;have s5:=h4.rb g (v.i1.ask g g1);rw[←hb]at s1;have s6:=congrArg Vl.seq B;omega
    ·omega
   ·omega
   ·omega
 ·rw[q]at D;have b0:(s.bl p).cl+1≠a+1:=D;omega
 ·have G:(s.bl p).cl=a:=by omega
  obtain⟨V,S⟩:=u p o G (bP Z);exact(g9 p a8 G L V S).1 k
theorem aHH{f:Cf}(hf:f.clients≤4)(hff:0≤f.f)(hd0:0≤f.drift){s:Sx}(h:MiR f true s){a b l:Int}(a0:0≤a)(a1:a<f.clients)(b0:0≤b)(b1:b<f.clients)(hne:a≠b)(ha:uS (s.cl a) l=true)(hb:uS (s.cl b) l=true):False:=by
 obtain⟨v,n⟩:=h.all4 hf hff;have j:=h.jall hf hff hd0;unfold uS at ha hb;rw[aR,aM]at ha hb;obtain⟨u,y⟩:=ha;obtain⟨F,C⟩:=hb;have J:=v.i0.clk a a0 a1;have K:=v.i0.clk b b0 b1;obtain⟨g,i,x,o,D,H,p,A,B,q⟩:=j.jh a a0 a1 l (by omega);obtain⟨k,e,G,m,I,z,E,t,r,w⟩:=j.jh b b0 b1 l (by omega);rcases Int.le_total g k with d|d
 ·have c:=uD hff v p k e m d;have:=aBe hff v n j u y i x o D H A B q e c;omega
 ·have c:=uD hff v E g i o d;have:=aBe hff v n j F C e G m I z t r w i c;omega
end Go.Proofs.YtbbdgokdfhdpiaaGreatDoor
