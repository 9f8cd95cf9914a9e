/- A part of the proof: Pax7, Pax8, Pax9, PaxA, OneL, PaxC, PaxD, PaxE, PaxF, PaxG. -/
import Derived.Test.YtbbdgokdfhdpiaaGreatDoorD23
import Derived.Test.YtbbdgokdfhdpiaaGreatDoorD24
namespace Go.Proofs.YtbbdgokdfhdpiaaGreatDoor
set_option linter.all false
set_option maxRecDepth 100000
set_option maxHeartbeats 40000000
open Go.Proofs.Tryz Go.RowKit
section
variable {f:Cf}{s:Sx}
theorem aEz(h:Inv f s){x b:Int}(hx:(s.bl x).asked=true)(hop:(s.bl x).op=(s.bl b).op)(hcl:(s.bl x).cl=(s.bl b).cl)(hlt:x<b)(hm:Mkd (s.bl x) x):kZ s (s.bl b) b x:=⟨hx,hop,hcl,hlt,hm⟩
theorem sJ(h:Inv f s){b:Int}(hb:(s.bl b).asked=true)(hc:(s.bl b).val≠(s.bl b).pv)(hk:(s.bl b).kind≠2):Mkd (s.bl b) b:=by
 rcases gK h hb with q|⟨k,q,_⟩|⟨k,_⟩|⟨k,_,_,q,_⟩
 ·exact absurd q hc
 ·exact Or.inl ⟨k,by rw[q]⟩
 ·exact absurd k hk
 ·exact Or.inr ⟨k,by rw[q]⟩
theorem uH(h:Inv f s){x b:Int}(hx:(s.bl x).used=true)(hb:(s.bl b).used=true)(hop:(s.bl x).op=(s.bl b).op):(s.bl x).cl=(s.bl b).cl∧(s.bl x).kind=(s.bl b).kind∧(s.bl x).lock=(s.bl b).lock∧(s.bl x).ttl=(s.bl b).ttl:=by
 have a:=(h.i1.bg x hx).ev;have c:=(h.i1.bg b hb).ev;rw[hop,c]at a;have e:=aN a;exact⟨(congrArg Ev.node e).symm,(congrArg Ev.okind e).symm,(congrArg Ev.olock e).symm,(congrArg Ev.ottl e).symm⟩
theorem aC6(h:Inv f s){x b:Int}(hx:(s.bl x).asked=true)(hb:(s.bl b).asked=true)(hop:(s.bl x).op=(s.bl b).op)(hlt:x<b)(hup:Up s x b)(hcx:(s.bl x).val≠(s.bl x).pv)(hk:(s.bl b).kind≠2):(s.bl b).val=(s.bl b).pv:=by
 obtain⟨t,d,y,B⟩:=uH h (h.i1.ask x hx) (h.i1.ask b hb) hop;have j:=aEz h hx hop t hlt (sJ h hx hcx (by rw[d];exact hk));have hx0:x≠0:=by have:=dI h hx;omega
 have c:=hup.down (by omega);obtain⟨A,l,g⟩:(s.bl b).base≠0∧(s.bl (s.bl b).base).asked=true∧(s.bl b).pv=(s.bl (s.bl b).base).val:=by
  rcases jL h hb with⟨z,_⟩|z
  ·rw[z]at c;obtain⟨n,r⟩:=c;exact absurd (r.symm.trans (rD n)) hx0
  ·exact z
 have w:=aDQ h hx0 _ l c;have a:(s.bl x).kind=1∧(s.bl x).val.tok=x∨(s.bl x).kind=3∧(s.bl x).val.own=0:=by
  rcases gK h hx with q|⟨k,q,_⟩|⟨k,_⟩|⟨k,_,_,q,_⟩
  ·exact absurd q hcx
  ·exact Or.inl ⟨k,by rw[q]⟩
  ·exact absurd (d▸k) hk
  ·exact Or.inr ⟨k,by rw[q]⟩
 rcases gK h hb with q|⟨k,q,u⟩|⟨k,_⟩|⟨k,p,C,q,i⟩
 ·exact q
 ·have:=u x j;rcases a with⟨_,e⟩|⟨o,_⟩
  ·rw[g]at this;omega
  ·rw[d]at o;omega
 ·exact absurd k hk
 ·rcases a with⟨m,_⟩|⟨_,e⟩
  ·rw[d]at m;omega
  ·exfalso;have v:=(h.i0.fr0 b (h.i1.ask b hb)).2.1;have et:(s.bl (s.bl b).base).val.tok=(s.bl x).val.tok:=by rw[←g];exact(i x j).symm
   have:=zR h hx e _ l c et;rw[g,this,e]at p;omega
end
theorem kY{t:List Ev}{c:Int}:∀{n:Nat} {j:Nat},n≤t.length→eU t n c=some j→j<n∧(∃e,t[j]?=some e∧e.kind=2∧e.node=c)∧∀k e,j<k→k<n→t[k]?=some e→¬Tch e c
 |0,j,_,h=>by cases h
 |n+1,j,hn,h=>by
  have hlt:n<t.length:=by omega
  obtain⟨x,f⟩:∃x,t[n]?=some x:=⟨t[n],aP hlt⟩;unfold eU at h;rw[f]at h;dsimp only at h;by_cases b:x.kind=2∧x.node=c
  ·rw[if_pos b]at h;cases h;exact⟨by omega,⟨x,f,b⟩,fun k e k1 k2=>by omega⟩
  ·rw[if_neg b]at h;by_cases d:(x.kind=3∧x.node=c)∨(x.kind=4∧x.node= -1-c)
   ·rw[if_pos d]at h;cases h
   ·rw[if_neg d]at h;obtain⟨l,i,g⟩:=kY (by omega) h;refine⟨by omega,i,fun k e k1 k2 hk=>?_⟩;by_cases q:k=n
    ·rw[q,f]at hk;cases hk;intro a;rcases a with a|a
     ·exact b a
     ·exact d a
    ·exact g k e k1 (by omega) hk
structure I4(s:Sx):Prop where
 rb:∀b,(s.bl b).used=true→b / 256≤1000
 la:∀(k:Nat) (e:Ev),s.tr[k]?=some e→e.kind=3→e.res≤4→∀x,(s.bl x).used=true→(s.bl x).op=(s.bl e.bal).op→x≤e.bal
theorem kH{s s':Sx}{e:List Ev}(h:I4 s)(hu:∀b,(s'.bl b).used=true→(s.bl b).used=true)(ho:∀b,(s'.bl b).op=(s.bl b).op)(ht:s'.tr=s.tr++e)(he:∀x ∈ e,x.kind=3→4<x.res):I4 s':=by
 refine⟨fun b hb=>h.rb b (hu b hb),fun k x hk h3 h4 y yu yo=>?_⟩;rw[ht]at hk;by_cases a:k<s.tr.length
 ·rw[bJ a]at hk;exact h.la k x hk h3 h4 y (hu y yu) (by rw[←ho,←ho];exact yo)
 ·rw[bK (by omega)]at hk;have:=he x (List.mem_of_getElem? hk) h3;omega
theorem aEv{f:Cf}(hf:f.clients≤4){gd:Bool}{s s':Sx}(v:Inv f s)(h:I4 s)(hs:Mi f gd s s'):I4 s':=by
 have C:=v.i0;have R:=v.i1;have J:=v.i3;refine hs.elim (P:=I4) ?tick ?bump ?began ?att ?endU ?endQ ?hear ?prop ?lose ?ret ?acc ?ev
 case tick=>exact fun i g n p hg=>kH (e:=[]) h (fun b c=>c) (fun b=>rfl) rfl (fun x a=>by cases a)
 case bump=>exact fun i r o g n p u I hr'=>kH (e:=[]) h (fun b c=>c) (fun b=>rfl) rfl (fun x a=>by cases a)
 case began=>
  exact fun i k l t g n p u hk hl _ _ _=>kH (e:=[gJ (s.cl i).num (eH (s.cl i) k l t)]) h (fun b c=>c) (fun b=>rfl) rfl (fun x a q=>by
   rw[List.mem_singleton]at a;subst a;exact absurd (show(2:Int)=3 from q) (by decide))
 case endU=>
  exact fun i o res g n p u I=>kH (e:=lO (s.cl i) o res 0 0) h (fun b c=>c) (fun b=>rfl) rfl (fun x a q=>by
   simp only[lO,List.mem_singleton]at a;subst a;show 4<res;omega)
 case hear=>exact fun i o m g n p u hm c hk0 hk ha=>kH (e:=[]) h (fun b c=>c) (fun b=>rfl) rfl (fun x a=>by cases a)
 case lose=>
  exact fun i g n p=>kH (e:=jU (s.cl i)) h (fun b c=>c) (fun b=>rfl) rfl (fun x a q=>by
   unfold jU at a;rw[if_neg (by rw[p];decide),List.mem_singleton]at a;subst a;exact absurd (show(4:Int)=3 from q) (by decide))
 case ret=>
  exact fun i g n p hi=>kH (e:=fW (s.cl i)) h (fun b c=>c) (fun b=>rfl) rfl (fun x a q=>by
   have e:dW (s.cl i)=0:=by unfold dW;rw[if_neg (by rw[p];decide),if_neg (by omega)]
   unfold fW at a;rw[e,if_neg (by decide),List.mem_singleton]at a;subst a;exact absurd (show(5:Int)=3 from q) (by decide))
 case acc=>
  exact fun j m e j0 j1 hm hk he=>kH (e:=e) h (fun b c=>c) (fun b=>rfl) rfl (fun x a q=>by
   rcases he with rfl|rfl
   ·cases a
   ·rw[List.mem_singleton]at a;subst a;exact absurd (show(1:Int)=3 from q) (by decide))
 case ev=>
  exact fun j k j0 hk=>kH (e:=[{zEv with kind:=k,node:=j}]) h (fun b c=>c) (fun b=>rfl) rfl (fun x a q=>by
   rw[List.mem_singleton]at a;subst a;have:k=3:=q;omega)
 case prop=>
  intro i o g n p u q2 U I;have c:∀b,((gP f s i o).bl b).used=(s.bl b).used∧((gP f s i o).bl b).op=(s.bl b).op:=fun b=>by
   by_cases q:b=o.att.bal
   ·subst q;rw[show(gP f s i o).bl o.att.bal=_ from eJ _ _ _];exact⟨rfl,rfl⟩
   ·rw[show(gP f s i o).bl b=s.bl b from eY _ _ q];exact⟨rfl,rfl⟩
  exact kH (e:=fD (s.cl i) (eV o (dD f (s.cl i) o o.att.val)) 3 o.att.base (dD f (s.cl i) o o.att.val).next (gB f)) h (fun b q=>by rw[←(c b).1];exact q) (fun b=>(c b).2) rfl (fun x a q=>by
   have:=(jG x a).1;omega)
 case att=>
  intro i o g n p u I;obtain⟨b1,b2,T,b4⟩:=C.round_bal hf g n;have G:=C.new_unused hf g n p;have B:∀b,b≠(gL (s.cl i)).bal→(iH f s i o).bl b=s.bl b:=fun b c=>eY _ _ c;have M:(iH f s i o).bl (gL (s.cl i)).bal=⟨true,s.opx i,i,o.lock,o.kind,o.ttl,o.began,s.tr.length,false,0,zVl,zVl,0⟩:=eJ _ _ _;refine⟨fun b c=>?_,fun k x hk q3 q4 y yu yo=>?_⟩
  ·by_cases q:b=(gL (s.cl i)).bal
   ·rw[q,T];omega
   ·rw[B b q]at c;exact h.rb b c
  ·rw[show(iH f s i o).tr=s.tr++fD (s.cl i) (fB o (s.cl i)) 1 0 zVl (gB f)from rfl]at hk;have A:k<s.tr.length:=by
    refine aH fun hge=>?_;rw[bK (by omega)]at hk;have:=(jG x (List.mem_of_getElem? hk)).1;omega
   rw[bJ A]at hk;obtain⟨n0,j,d,w⟩:=J.en k x hk q3;have S:=w q4;have L:x.bal≠(gL (s.cl i)).bal:=fun e=>by
    have:=R.ask _ S.ask;rw[e,G]at this;cases this
   rw[B _ L]at yo;by_cases q:y=(gL (s.cl i)).bal
   ·exfalso;rw[q,M]at yo;have z:s.opx i=j:=yo.trans S.op;have F:=J.dn i g n;rw[u]at F;obtain⟨_,⟨e1,H,g2,g3⟩,K⟩:=kY (aE _) F;obtain⟨W,⟨e2,Y,g6,V⟩,_⟩:=kY (by omega) d;rw[z]at H;rw[Y]at H;cases H;exact K k x (z.symm▸W) A hk (Or.inr (Or.inl ⟨q3,by rw[←V,g3]⟩))
   ·rw[B y q]at yu yo;exact h.la k x hk q3 q4 y yu yo
 case endQ=>
  intro i o g n p u h4 U;have X:=J.on i g n o u;have O:=R.on i g n o u;have E:(s.bl o.att.bal).used=true:=by
   rcases C.bal i g n o u with D|⟨D,_⟩
   ·omega
   ·exact D
  have N:o.att.bal≠0:=by have:=(C.fr0 _ E).1;omega
  refine⟨h.rb,fun k x hk q3 q4 y yu yo=>?_⟩;rw[show(qJ s i o).tr=s.tr++[eP (s.cl i).num o o.att.eres o.att.eown o.att.etok]from rfl]at hk;by_cases A:k<s.tr.length
  ·rw[bJ A]at hk;exact h.la k x hk q3 q4 y yu yo
  ·rw[bK (by omega)]at hk;have a:=List.mem_of_getElem? hk;rw[List.mem_singleton]at a;subst a;have z:(s.bl y).op=(s.bl o.att.bal).op:=yo;obtain⟨Z,_⟩:=uH v yu E z;have Q:(s.bl o.att.bal).cl=i:=by
    rcases C.bal i g n o u with D|⟨_,D,_⟩
    ·omega
    ·exact D
   exact(X.ops y yu (by rw[Z,Q]) (by rw[z];exact(O.lk N).1)).2
theorem MiR.all4{f:Cf}(hf:f.clients≤4)(hff:0≤f.f){gd:Bool}{s:Sx}(h:MiR f gd s):Inv f s∧I4 s:=
 h.ind (P:=fun s=>Inv f s∧I4 s) ⟨MiR.all hf hff (MiR.new (gd:=gd)),⟨fun b hb=>(by cases hb),fun k e hk=>(by simp[pU]at hk)⟩⟩
  fun s s' hr k hs=>⟨MiR.all hf hff (hr.step hs),aEv hf k.1 k.2 hs⟩
section
variable {f:Cf}{s:Sx}
theorem xX{q:Int}(hq:q≠0)(hu:Up s q 0):False:=by
 obtain⟨n,a⟩:=hu;exact hq (a.symm.trans (rD n))
theorem aIN(h:Inv f s){q b:Int}(hq:q≠0)(hb:(s.bl b).asked=true)(hu:Up s q b)(hne:q≠b):(s.bl b).base≠0∧(s.bl (s.bl b).base).asked=true∧(s.bl b).pv=(s.bl (s.bl b).base).val∧Up s q (s.bl b).base:=by
 have a:=hu.down hne;rcases jL h hb with⟨z,_⟩|⟨d,c,e⟩
 ·rw[z]at a;exact(xX hq a).elim
 ·exact⟨d,c,e,a⟩
theorem aDU(h:Inv f s){x b:Int}(hx:x≠0)(hb0:b≠0):∀t,(s.bl t).asked=true→Up s x t→Up s b t→x≤b→Up s x b:=by
 refine lJ h (fun t ht h0 ux ub hle=>?_) (fun t ht ha hl ih ux ub hle=>?_)
 ·by_cases e:b=t
  ·rw[e];exact ux
  ·have:=ub.down e;rw[h0]at this;exact(xX hb0 this).elim
 ·by_cases e:b=t
  ·rw[e];exact ux
  ·by_cases a:x=t
   ·have:=(zI h hb0 t ht ub).2.2;omega
   ·exact ih (ux.down a) (ub.down e) hle
theorem aJL(h:Inv f s){q:Int}(hq:q≠0):∀b,(s.bl b).asked=true→Up s q b→q≠b→(s.bl q).t1<(s.bl b).t1:=by
 refine lJ h (fun b hb h0 hu hne=>?_) (fun b hb ha hl ih hu hne=>?_)
 ·have:=hu.down hne;rw[h0]at this;exact(xX hq this).elim
 ·have k:=h.i2.ask b hb;have c:=hu.down hne;have a:(s.bl b).base≠0:=by have:=dI h ha;omega
  have:=(k.up.resolve_left a).2.2;by_cases e:q=(s.bl b).base
  ·rw[e];exact this
  ·have:=ih c e;omega
theorem aHC(h:Inv f s):∀b,(s.bl b).asked=true→(s.bl b).val.own=0→(s.bl b).val.tok≠0→(s.bl b).val.seq≠0:=by
 refine lJ h (fun b hb h0 ho ht=>?_) (fun b hb ha hl ih ho ht=>?_)
 ·have a:(s.bl b).pv=zVl:=by
   rcases jL h hb with⟨_,z⟩|⟨z,_⟩
   ·exact z
   ·exact absurd h0 z
  have e:=(h.i0.fr0 b (h.i1.ask b hb)).2.1;rcases gK h hb with q|⟨k,q,g⟩|⟨_,d,c,q⟩|⟨_,d,c,q,_⟩
  ·rw[q,a]at ht;exact absurd rfl ht
  ·rw[q]at ho;have:(s.bl b).cl+1=0:=ho;omega
  ·rw[q]at ho;have:(s.bl b).cl+1=0:=ho;omega
  ·rw[q];show b≠0;have:=dI h hb;omega
 ·have a:(s.bl b).pv=(s.bl (s.bl b).base).val:=by
   rcases jL h hb with⟨z,_⟩|⟨_,_,z⟩
   ·rw[z]at ha;have:=dI h ha;omega
   ·exact z
  have e:=(h.i0.fr0 b (h.i1.ask b hb)).2.1;rcases gK h hb with q|⟨k,q,g⟩|⟨_,d,c,q⟩|⟨_,d,c,q,_⟩
  ·rw[q,a]at ho ht⊢;exact ih ho ht
  ·rw[q]at ho;have:(s.bl b).cl+1=0:=ho;omega
  ·rw[q]at ho;have:(s.bl b).cl+1=0:=ho;omega
  ·rw[q];show b≠0;have:=dI h hb;omega
theorem aFe(h:Inv f s){b:Int}(hb:(s.bl b).asked=true):eU s.tr (s.bl b).t1 (s.bl b).cl=some (s.bl b).op:=by
 have k:=h.i1.bg b (h.i1.ask b hb);have:=h.i3.ac _ _ (k.ac hb) rfl rfl;exact this
theorem aFr(h:Inv f s){b:Int}(hb:(s.bl b).asked=true)(hm:kZ s (s.bl b) b (s.bl b).pv.tok)(hv:(s.bl b).val=(s.bl b).pv)(hk:(s.bl b).kind=1):(s.bl b).val.own=(s.bl b).cl+1:=by
 obtain⟨A,y,r,J,H⟩:=hm;have m:(s.bl b).val.tok=(s.bl b).pv.tok:=by rw[hv]
 have q:(s.bl b).val.tok≠0:=by rw[m];have:=dI h A;omega
 by_cases i:(s.bl b).val.own=0
 ·exfalso;have c:=aHC h b hb i q;obtain⟨u,a,k,j,l⟩:=aAP h b hb i c;obtain⟨S,B⟩:=aJ8 ((s.bl b).val.seq);rw[B]at u a k j l c;have p:S≠b:=fun e=>by rw[e]at k;omega
  have D:=aJL h c b hb u p;rcases gK h a with w|⟨x,_⟩|⟨x,_⟩|⟨_,I,t,w,_⟩
  ·rw[←w,j]at l;exact l i
  ·omega
  ·omega
  ·have v:(s.bl S).pv.tok=(s.bl b).pv.tok:=by
    have:(s.bl S).val.tok=(s.bl S).pv.tok:=by rw[w]
    rw[←this,j,m]
   have g:=t.cl;have d:=t.op;rw[v,r]at g;rw[v,y]at d;have z:=aFe h hb;have C:=h.i1.bg b (h.i1.ask b hb);have n:=h.i1.bg S (h.i1.ask S a);have E:(s.bl b).t1<s.tr.length:=(aF.1 (C.ac hb)).1;obtain⟨_,_,o⟩:=kY (by omega) z;have G:=n.op;have F:=n.t1 a;exact o (s.bl S).op _ d (by omega) n.ev (Or.inl ⟨rfl,g.symm⟩)
 ·have:=(aGl h b hb i).2;rw[this,m,r]
variable {k:Nat}{e:Ev}{j:Nat}
theorem aCM(h:Inv f s)(w:EndI f s k e j)(hr:e.res=1)(hk:e.okind≠2):∃c,(s.bl c).asked=true∧Up s c e.bal∧(s.bl c).op=j∧(s.bl c).val≠(s.bl c).pv:=by
 have d:=w.ask;have x:e.bal≠0:=by have:=dI h d;omega
 have y:=(h.i0.fr0 _ (h.i1.ask _ d)).2.1;have g:=aBb h d;rcases w.fo.2 with⟨i,q⟩|⟨i,q⟩|⟨i,q⟩|⟨i,q⟩
 ·rcases q with⟨m,b,_⟩|⟨_,⟨b,_⟩|⟨_,_,_,r,_⟩⟩
  ·have n:(s.bl e.bal).val.tok≠0:=by rw[b];have:=dI h m.1;omega
   obtain⟨u,a,_,l,_⟩:=aGz h _ d n;refine⟨_,a,u,?_,fun e1=>?_⟩
   ·rw[b,m.2.1];exact w.op
   ·have:=(aBb h a).2.1;rw[←e1,l]at this;exact absurd this (Int.lt_irrefl _)
  ·refine⟨e.bal,d,Up.refl _,w.op,fun e1=>?_⟩;rw[←e1,b]at g;have:e.bal<e.bal:=g.2.1;omega
  ·have:e.res=2:=r;omega
 ·exact absurd (w.kd.symm.trans i) hk
 ·rcases q with⟨v,_,b,_⟩|⟨b,p,m,_⟩|⟨_,_,_,r,_⟩
  ·refine⟨e.bal,d,Up.refl _,w.op,fun e1=>?_⟩;rw[←e1,b]at v;have:(0:Int)=(s.bl e.bal).cl+1:=v;omega
  ·have o:(s.bl e.bal).val.seq≠0:=by rw[b];have:=dI h m.1;omega
   obtain⟨u,a,_,l,t⟩:=aAP h _ d (by rw[b];exact p) o;refine⟨_,a,u,?_,fun e1=>?_⟩
   ·rw[b,m.2.1];exact w.op
   ·rw[←e1,l,b]at t;exact t p
  ·have:e.res=3:=r;omega
 ·have:e.res=4:=q.2.1;omega
theorem aFM(h:Inv f s)(w:EndI f s k e j)(hr:e.res=2∨e.res=3)(hk:e.okind≠2){c t:Int}(hc:(s.bl c).asked=true)(ht:(s.bl t).asked=true)(uc:Up s c t)(ub:Up s e.bal t)(hop:(s.bl c).op=j)(hle:c≤e.bal):(s.bl c).val=(s.bl c).pv:=by
 have o:=w.ask;have x:e.bal≠0:=by have:=dI h o;omega
 have b:c≠0:=by have:=dI h hc;omega
 have C:=aDU h b x t ht uc ub hle;refine aH fun hch=>?_;obtain⟨D,n,H,I⟩:=uH h (h.i1.ask c hc) (h.i1.ask _ o) (hop.trans w.op.symm);have u:(s.bl c).kind≠2:=by rw[n,w.kd];exact hk
 have i:=sJ h hc hch u;by_cases g:c=e.bal
 ·rw[g]at hch;rcases w.fo.2 with⟨a,q⟩|⟨a,q⟩|⟨a,q⟩|⟨a,q,_⟩
  ·rcases q with⟨_,_,r,_⟩|⟨_,⟨_,r,_⟩|⟨d,_⟩⟩
   ·have:e.res=1:=r;omega
   ·have:e.res=1:=r;omega
   ·exact hch d
  ·exact hk (w.kd.symm.trans a)
  ·rcases q with⟨_,_,_,_,r,_⟩|⟨d,_⟩|⟨d,_⟩
   ·have:e.res=1:=r;omega
   ·exact hch d
   ·exact hch d
  ·exact hch q
 ·obtain⟨G,y,l,z⟩:=aIN h b o C g;have p:=aEz h hc (hop.trans w.op.symm) D (by omega) i;have F:=aDQ h b _ y z;rcases w.fo.2 with⟨a,q⟩|⟨a,q⟩|⟨a,q⟩|⟨a,q⟩
  ·rcases q with⟨_,_,r,_⟩|⟨A,_⟩
   ·have:e.res=1:=r;omega
   ·have:=A c p;rcases i with⟨_,m⟩|⟨m,_⟩
    ·rw[l]at this;omega
    ·rw[n]at m;omega
  ·exact hk (w.kd.symm.trans a)
  ·rcases q with⟨_,_,_,_,r,_⟩|⟨_,_,_,r,_⟩|⟨_,E,B,_⟩
   ·have:e.res=1:=r;omega
   ·have:e.res=1:=r;omega
   ·have et:=B c p;rcases gK h hc with v|⟨v,_⟩|⟨v,_⟩|⟨_,_,_,v,_⟩
    ·exact hch v
    ·rw[n]at v;omega
    ·rw[n]at v;omega
    ·have:=zR h hc (by rw[v]) _ y z (by rw[←l];exact et.symm);refine E ⟨by rw[l,this,v],?_⟩;rw[l,this,v];exact p
  ·have:e.res=4:=q.2.1;omega
theorem aHe(hff:0≤f.f)(h:Inv f s)(w:EndI f s k e j){k':Nat}{e':Ev}{j':Nat}(w':EndI f s k' e' j')(hlt:k'<j)(hl:e'.olock=e.olock):e'.bal<e.bal:=by
 have c:=w.ask;have a:=h.i2.ask _ c;obtain⟨p,C,q,d⟩:=w'.qu;obtain⟨r,o,J,g⟩:=a.qu;obtain⟨x,K,F⟩:=vI hff C o q J (fun x hx=>(d x hx).1) (fun x hx=>(g x hx).1);obtain⟨b,i,_,l,m,t,z,u,G,M⟩:=(g x F).2;obtain⟨I,v,O,y,A,D,L,E,N,_⟩:=(d x K).2;have n:=(h.i1.ms b i l m).t0;rw[G]at n;have H:=(h.i1.bg _ (h.i1.ask _ c)).op;rw[w.op]at H;have B:=h.i2.ord b I i v l y m A t D (z.trans L.symm) (by rw[u,E,w.lk,hl]);have:=B.1 (by omega);have:=a.lt;omega
end
section
variable {f:Cf}{s:Sx}
theorem aJU(h:Inv f s){x b t:Int}(hx:(s.bl x).asked=true)(hb:(s.bl b).asked=true)(ht:(s.bl t).asked=true)(ux:Up s x t)(ub:Up s b t)(hop:(s.bl x).op=(s.bl b).op)(hk:(s.bl b).kind≠2)(cx:(s.bl x).val≠(s.bl x).pv)(cb:(s.bl b).val≠(s.bl b).pv):x=b:=by
 have hx0:x≠0:=by have:=dI h hx;omega
 have a:b≠0:=by have:=dI h hb;omega
 have c:(s.bl x).kind≠2:=by rw[(uH h (h.i1.ask x hx) (h.i1.ask b hb) hop).2.1];exact hk
 rcases Int.lt_trichotomy x b with q|q|q
 ·exact absurd (aC6 h hx hb hop q (aDU h hx0 a t ht ux ub (by omega)) cx hk) cb
 ·exact q
 ·exact absurd (aC6 h hb hx hop.symm q (aDU h a hx0 t ht ub ux (by omega)) cb c) cx
theorem aD5(h:Inv f s){b:Int}(hb:(s.bl b).asked=true)(hk:(s.bl b).kind=4):(s.bl b).val=(s.bl b).pv:=by
 rcases gK h hb with q|⟨k,_⟩|⟨k,_⟩|⟨k,_⟩
 ·exact q
 ·omega
 ·omega
 ·omega
variable {k:Nat}{e:Ev}{j:Nat}
theorem aFq(h:Inv f s)(h4:I4 s)(w:EndI f s k e j)(hr:e.res=1)(hk:e.okind=2):(s.bl e.bal).val≠(s.bl e.bal).pv:=by
 have b:=w.ask;rcases w.fo.2 with⟨a,_⟩|⟨_,q⟩|⟨a,_⟩|⟨a,_⟩
 ·have:=w.kd;omega
 ·rcases q with⟨_,_,c,_⟩|⟨_,r,_⟩
  ·intro d;have g:=aBb h b;have hr:=h4.rb _ (h.i1.ask _ b);have:(s.bl e.bal).val.seq=min ((s.bl e.bal).pv.seq+1) 2147483647:=by rw[c]
   rw[d]at this;omega
  ·have:e.res=3:=r;omega
 ·have:=w.kd;omega
 ·have:=w.kd;omega
theorem zX(h:Inv f s)(w:EndI f s k e j):
 (e.res=1→e.own=e.node+1∧(s.bl e.bal).val.tok=e.tok∧((e.okind=3∧(s.bl e.bal).val.own=0)∨(e.okind≠3∧(s.bl e.bal).val.own=e.node+1)))∧
 (e.res=2→(s.bl e.bal).val.own=e.own∧(s.bl e.bal).val.tok=e.tok∧(s.bl e.bal).val.own≠0∧(s.bl e.bal).val.own≠e.node+1∧e.okind=1)∧
 (e.res=4→(s.bl e.bal).val.own=e.own∧(s.bl e.bal).val.tok=e.tok∧e.okind=4)∧
 (e.res=3→e.own=0∧e.tok=0∧e.okind≠1∧e.okind≠4)∧(e.res=1∨e.res=2∨e.res=3∨e.res=4):=by
 have l:=w.ask;have p:=w.kd;have n:=w.cl;rcases w.fo.2 with⟨g,q⟩|⟨g,q⟩|⟨g,q⟩|⟨g,q⟩
 ·rcases q with⟨m,a,r,o,t⟩|⟨_,⟨a,r,o,t⟩|⟨a,i,u,r,o,t⟩⟩
  ·have b:e.res=1:=r;have d:e.own=(s.bl e.bal).cl+1:=o;have c:e.tok=(s.bl e.bal).pv.tok:=t;have:=aFr h l m a g;exact⟨fun _=>⟨by omega,by rw[a];exact c.symm,Or.inr ⟨by omega,by omega⟩⟩,fun _=>by omega,fun _=>by omega,fun _=>by omega,Or.inl b⟩
  ·have b:e.res=1:=r;have d:e.own=(s.bl e.bal).cl+1:=o;have c:e.tok=e.bal:=t;exact⟨fun _=>⟨by omega,by rw[a];exact c.symm,Or.inr ⟨by omega,by rw[a];show(s.bl e.bal).cl+1=_;omega⟩⟩,fun _=>by omega,fun _=>by omega,fun _=>by omega,Or.inl b⟩
  ·have b:e.res=2:=r;have d:e.own=(s.bl e.bal).pv.own:=o;have c:e.tok=(s.bl e.bal).pv.tok:=t;exact⟨fun _=>by omega,fun _=>⟨by rw[a];exact d.symm,by rw[a];exact c.symm,by rw[a];exact i,by rw[a];omega,by omega⟩,fun _=>by omega,fun _=>by omega,Or.inr (Or.inl b)⟩
 ·rcases q with⟨_,_,a,r,o,t⟩|⟨a,r,o,t⟩
  ·have b:e.res=1:=r;have d:e.own=(s.bl e.bal).cl+1:=o;have c:e.tok=(s.bl e.bal).pv.tok:=t;exact⟨fun _=>⟨by omega,by rw[a];exact c.symm,Or.inr ⟨by omega,by rw[a];show(s.bl e.bal).cl+1=_;omega⟩⟩,fun _=>by omega,fun _=>by omega,fun _=>by omega,Or.inl b⟩
  ·have b:e.res=3:=r;have d:e.own=0:=o;have c:e.tok=0:=t;exact⟨fun _=>by omega,fun _=>by omega,fun _=>by omega,fun _=>⟨d,c,by omega,by omega⟩,Or.inr (Or.inr (Or.inl b))⟩
 ·rcases q with⟨_,_,a,_,r,o,t⟩|⟨a,i,_,r,o,t⟩|⟨a,_,_,r,o,t⟩
  ·have b:e.res=1:=r;have d:e.own=(s.bl e.bal).cl+1:=o;have c:e.tok=(s.bl e.bal).pv.tok:=t;exact⟨fun _=>⟨by omega,by rw[a];exact c.symm,Or.inl ⟨by omega,by rw[a]⟩⟩,fun _=>by omega,fun _=>by omega,fun _=>by omega,Or.inl b⟩
  ·have b:e.res=1:=r;have d:e.own=(s.bl e.bal).cl+1:=o;have c:e.tok=(s.bl e.bal).pv.tok:=t;exact⟨fun _=>⟨by omega,by rw[a];exact c.symm,Or.inl ⟨by omega,by rw[a];exact i⟩⟩,fun _=>by omega,fun _=>by omega,fun _=>by omega,Or.inl b⟩
  ·have b:e.res=3:=r;have d:e.own=0:=o;have c:e.tok=0:=t;exact⟨fun _=>by omega,fun _=>by omega,fun _=>by omega,fun _=>⟨d,c,by omega,by omega⟩,Or.inr (Or.inr (Or.inl b))⟩
 ·obtain⟨a,r,o,t⟩:=q;have b:e.res=4:=r;have d:e.own=(s.bl e.bal).pv.own:=o;have c:e.tok=(s.bl e.bal).pv.tok:=t;exact⟨fun _=>by omega,fun _=>by omega,fun _=>⟨by rw[a];exact d.symm,by rw[a];exact c.symm,by omega⟩,fun _=>by omega,Or.inr (Or.inr (Or.inr b))⟩
end
abbrev sA(x:Int):List Value:=[.int .i64 x]
abbrev btF(q:Bt×Value):List Value:=[.int .i64 q.1.m.kind,.int .i64 q.1.m.src,.int .i64 q.1.m.dst,.int .i64 q.1.m.lock,.int .i64 q.1.m.bal,.int .i64 q.1.m.base,.int .i64 q.1.m.val.own,.int .i64 q.1.m.val.tok,.int .i64 q.1.m.val.ttl,.int .i64 q.1.m.val.seq,.int .i64 q.1.at_,.int .i64 q.1.op,q.2]
theorem yG(l:List Int)(n:Int)(k:Nat)(hk:k<l.length)(h:l[k]=n):l.contains n=true:=by
 rw[List.contains_iff_mem,←h];exact bF hk
theorem aCZ(l:List Int)(n:Int)(h:∀i (hi:i<l.length),l[i]≠n):l.contains n=false:=by
 rw[Bool.eq_false_iff];intro a;rw[List.contains_iff_mem]at a;obtain⟨i,hi,e⟩:=List.mem_iff_getElem.1 a;exact h i hi e
theorem aBw(W:World)(p:Option Addr)(cap:Nat)(l:List Int)(n:Int)(h:LsAt sA 1 W p l)(hl:l.length≤1000000000000):
 Calls prog 93 #[.slice p l.length cap,.int .i64 n] W fun r W'=>r= .returned (.bool (l.contains n))∧W'=W:=by
 have v:=cB h;generalize t:l.contains n=B;have s:=cB t;clear h t;go_enter func93,ntmps93;go_wp2_with fail;go_loopw [5] (fun k wr=>∃m:Nat,m≤l.length∧k= .int .i64 m∧W=wr∧Hid (∀i (hi:i<l.length),i<m→l[i]≠n)) (fun k _=>l.length-(intOf k).toNat)
 case atStart=>exact⟨0,aI _,rfl,rfl,fun i hi h=>absurd h (Nat.not_lt_zero _)⟩
 case round=>
  obtain⟨m,y,rfl,rfl,u⟩:=hrel;by_cases d:m<l.length
  ·obtain⟨g,rfl,w,a⟩:=v.out m d;obtain⟨e,c⟩:=aJ8 (l[m]);have o:(m:Int)<(l.length:Int):=by omega
   have x:W.cell? ⟨g,m,none⟩=some (.int .i64 e):=by
    have:=a 0 (.int .i64 e) (by rw[c];rfl);rw[Nat.mul_one]at this;exact this
   clear a;by_cases b:e=n
   ·have bq:(e==n)=true:=by simp[b]
    have j:=cB (yG l n m d (c.trans b));clear b c;go_wp2_with fail;go_ret;exact⟨by rw[←s.out,j.out]<;>rfl,rfl⟩
   ·have bq:(e==n)=false:=by simp[b]
    have f:=cB (aJW c b);clear b c;go_wp2_with fail;go_roundw
    case rel=>exact⟨m+1,by omega,by go_num,trivial,fun i hi hin=>by
     by_cases q:i=m
     ·subst q;rw[f.out.1];exact f.out.2
     ·exact u.out i hi (by omega)⟩
    case measure=>simp[intOf]<;>omega
  ·have o:¬(m:Int)<(l.length:Int):=by omega
   have j:=cB (aCZ l n (fun i hi=>u.out i hi (by omega)));go_wp2_with fail;go_ret;exact⟨by rw[←s.out,j.out]<;>rfl,rfl⟩
def pG(l:List Bt)(n:Int):Int:=match gF l n with
 |some k=>k
 |none=> -1
theorem aHy{l:List Bt}{n:Int}{m:Nat}(hm:m<l.length)(h:l[m].m.bal=n)(hno:∀i (hi:i<l.length),i<m→l[i].m.bal≠n):gF l n=some m:=by
 induction l generalizing m with
 |nil=>exact absurd hm (Nat.not_lt_zero _)
 |cons x l ih=>
  unfold gF;cases m with
  |zero=>rw[if_pos (by simpa using h)]
  |succ m=>
   rw[if_neg (by have:=hno 0 (by simp) (by omega);simpa using this),ih (m:=m) (by simpa using hm) (by simpa using h) (fun i hi hlt=>by
    have:=hno (i+1) (by simpa using hi) (by omega);simpa using this)]
   rfl
theorem aGe{l:List Bt}{n:Int}(hno:∀i (hi:i<l.length),l[i].m.bal≠n):gF l n=none:=aJi.2 fun x hx=>by
 obtain⟨i,hi,e⟩:=List.mem_iff_getElem.1 hx;rw[←e];exact hno i hi
theorem zL(W:World)(p:Option Addr)(cap:Nat)(L:List (Bt×Value))(n:Int)(h:LsAt btF 13 W p L)(hl:L.length≤1000000000000):
 Calls prog 91 #[.slice p L.length cap,.int .i64 n] W fun r W'=>r= .returned (.int .i64 (pG (L.map Prod.fst) n))∧W'=W:=by
 have t:=cB h;clear h;go_enter func91,ntmps91;go_wp2_with fail;go_loopw [5] (fun k wr=>∃m:Nat,m≤L.length∧k= .int .i64 m∧W=wr∧Hid (∀i (hi:i<L.length),i<m→L[i].1.m.bal≠n)) (fun k _=>L.length-(intOf k).toNat)
 case atStart=>exact⟨0,aI _,rfl,rfl,fun i hi h=>absurd h (Nat.not_lt_zero _)⟩
 case round=>
  obtain⟨m,u,rfl,rfl,j⟩:=hrel;by_cases d:m<L.length
  ·obtain⟨g,rfl,w,a⟩:=t.out m d;obtain⟨e,c⟩:=aJ8 (L[m].1.m.bal);have s:(m:Int)<(L.length:Int):=by omega
   have v:W.cell? ⟨g,m*13+4,none⟩=some (.int .i64 e):=a 4 _ (by rw[←c];rfl);clear a;by_cases b:e=n
   ·have bq:(e==n)=true:=by simp[b]
    have o:=cB (aHy (l:=L.map Prod.fst) (n:=n) (m:=m) (by simpa using d) (by simpa using c.trans b) (fun i hi hin=>by simpa using j.out i (by simpa using hi) hin));clear b c;go_wp2_with fail;go_ret;exact⟨by unfold pG;rw[o.out]<;>rfl,rfl⟩
   ·have bq:(e==n)=false:=by simp[b]
    have f:=cB (aJW c b);clear b c;go_wp2_with fail;go_roundw
    case rel=>exact⟨m+1,by omega,by go_num,trivial,fun i hi hin=>by
     by_cases q:i=m
     ·subst q;rw[f.out.1];exact f.out.2
     ·exact j.out i hi (by omega)⟩
    case measure=>simp[intOf]<;>omega
  ·have s:¬(m:Int)<(L.length:Int):=by omega
   have o:=cB (aGe (l:=L.map Prod.fst) (n:=n) (fun i hi=>by simpa using j.out i (by simpa using hi) (by simp at hi;omega)));go_wp2_with fail;go_ret;exact⟨by unfold pG;rw[o.out]<;>rfl,rfl⟩
def qS(t:List Ev)(n:Nat)(c:Int):Int:=match eU t n c with
 |some k=>k
 |none=> -1
theorem aCn{t:List Ev}{n:Nat}{c:Int}{e:Ev}(he:t[n]?=some e):qS t (n+1) c=if e.kind=2∧e.node=c then(n:Int)else if(e.kind=3∧e.node=c)∨(e.kind=4∧e.node= -1-c)then -1 else qS t n c:=by
 unfold qS;rw[eU,he];dsimp only;by_cases a:e.kind=2∧e.node=c
 ·rw[if_pos a,if_pos a]
 ·rw[if_neg a,if_neg a];by_cases b:(e.kind=3∧e.node=c)∨(e.kind=4∧e.node= -1-c)
  ·rw[if_pos b,if_pos b]
  ·rw[if_neg b,if_neg b]
theorem aFG(W:World)(p:Option Addr)(cap:Nat)(t:List Ev)(n:Nat)(c:Int)(h:LsAt evL 19 W p t)(ht:t.length≤1000000000000)(hn:n≤t.length)(hc0:0≤c)(hc1:c≤1000000):
 Calls prog 92 #[.slice p t.length cap,.int .i64 (n:Int),.int .i64 c] W fun r W'=>r= .returned (.int .i64 (qS t n c))∧W'=W:=by
 have x:=cB h;have H:IntKind.i64.wrap (-1-c)= -1-c:=dZ (by omega) (by omega);clear h;go_enter func92,ntmps92;go_wp2_with fail;go_loopw [7] (fun k wr=>∃m:Nat,m≤n∧k= .int .i64 ((m:Int)-1)∧W=wr∧Hid (qS t n c=qS t m c)) (fun k _=>(intOf k+1).toNat)
 case atStart=>exact⟨n,aE _,by go_num,rfl,rfl⟩
 case round=>
  obtain⟨q,E,rfl,rfl,j⟩:=hrel;rcases q with _|m
  ·have o:decide ((0:Int)≤((0:Nat):Int)-1)=false:=by decide
   go_wp2_with fail;go_ret;exact⟨by rw[j.out]<;>rfl,rfl⟩
  ·obtain⟨g,rfl,D,b⟩:=x.out m (by omega);obtain⟨e,v⟩:=aJ8 (t[m]'(by omega));rw[v]at b;have o:decide ((0:Int)≤((m+1:Nat):Int)-1)=true:=decide_eq_true (by omega);have w:((m+1:Nat):Int)-1=(m:Int):=by omega
   have B:(m:Int)<(t.length:Int):=by omega
   have y:decide ((m:Int)<0)=false:=by simp
   have A:IntKind.i64.wrap ((m:Int)-1)=(m:Int)-1:=dZ (by omega) (by omega);have F:W.cell? ⟨g,m*19,none⟩=some (.int .i64 e.kind):=b 0 _ rfl;have G:W.cell? ⟨g,m*19+1,none⟩=some (.int .i64 e.node):=b 1 _ rfl;have i:=cB (aCn (c:=c) (show t[m]?=some e by rw[aP (by omega),v]));rw[w]at o⊢;generalize e.kind=ek at*;generalize e.node=en at*;clear b v w;by_cases s:ek=2
   ·subst s;by_cases a:en=c
    ·have bn:(en==c)=true:=by simp[a]
     have f:=cB (i.out.trans (if_pos ⟨rfl,a⟩));clear a;go_wp2_with fail;go_ret;exact⟨by rw[j.out,f.out]<;>rfl,rfl⟩
    ·have bn:(en==c)=false:=by simp[a]
     have f:=cB (i.out.trans ((if_neg (fun z=>a z.2)).trans (if_neg (fun z=>z.elim (fun z=>absurd z.1 (by decide)) (fun z=>absurd z.1 (by decide))))));clear a;go_wp2_with fail;go_roundw
     case rel=>exact⟨m,by omega,by go_num,trivial,j.out.trans f.out⟩
     case measure=>simp[intOf]
   ·have I:(ek==2)=false:=by simp[s]
    have d:=cB (i.out.trans (if_neg (fun z=>s z.1)));clear s i;by_cases l:ek=3
    ·subst l;by_cases a:en=c
     ·have bn:(en==c)=true:=by simp[a]
      have f:=cB (d.out.trans (if_pos (Or.inl ⟨rfl,a⟩)));clear a;go_wp2_with fail;go_ret;exact⟨by rw[j.out,f.out]<;>rfl,rfl⟩
     ·have bn:(en==c)=false:=by simp[a]
      have f:=cB (d.out.trans (if_neg (fun z=>z.elim (fun z=>a z.2) (fun z=>absurd z.1 (by decide)))));clear a;go_wp2_with fail;go_roundw
      case rel=>exact⟨m,by omega,by go_num,trivial,j.out.trans f.out⟩
      case measure=>simp[intOf]
    ·have C:(ek==3)=false:=by simp[l]
     by_cases u:ek=4
     ·subst u;by_cases a:en= -1-c
      ·have bn:(en== -1-c)=true:=by simp[a]
       have f:=cB (d.out.trans (if_pos (Or.inr ⟨rfl,a⟩)));clear a l;go_wp2_with fail;go_ret;exact⟨by rw[j.out,f.out]<;>rfl,rfl⟩
      ·have bn:(en== -1-c)=false:=by simp[a]
       have f:=cB (d.out.trans (if_neg (fun z=>z.elim (fun z=>l z.1) (fun z=>a z.2))));clear a l;go_wp2_with fail;go_roundw
       case rel=>exact⟨m,by omega,by go_num,trivial,j.out.trans f.out⟩
       case measure=>simp[intOf]
     ·have J:(ek==4)=false:=by simp[u]
      have f:=cB (d.out.trans (if_neg (fun z=>z.elim (fun z=>l z.1) (fun z=>u z.1))));clear l u;go_wp2_with fail;go_roundw
      case rel=>exact⟨m,by omega,by go_num,trivial,j.out.trans f.out⟩
      case measure=>simp[intOf]
def dG(l:List Bt)(k:Nat):Bt:=l.getD k zBt
def oB(l:List Bt)(f:Int):Nat→Option Nat
 |0=>none
 |n+1=>if(dG l n).acc.length≤f then oB l f n else match oB l f n with
  |none=>some n
  |some t=>if(dG l t).m.bal<(dG l n).m.bal then some n else some t
def uA(l:List Bt):Nat→Nat→List Nat→Option (List Nat)
 |0,_,_=>none
 |q+1,k,out=>
  if(dG l k).m.bal≤(dG l k).m.base∨((dG l k).m.base≠0∧gF l (dG l k).m.base=none)then none
  else match gF l (dG l k).m.base with
   |none=>some (out++[k])
   |some n=>if(dG l k).m.base=0 then some (out++[k])else uA l q n (out++[k])
section
variable {f:Cf}{s:Sx}{lock:Int}{l:List Bt}{N:Nat}
theorem kI{k:Nat}(h:k<l.length):dG l k ∈ l:=by
 unfold dG;rw[aQ,aP h];exact bF h
theorem aA2(fc:Int):∀n,n≤l.length→(∀t,oB l fc n=some t→t<n∧fc<(dG l t).acc.length∧∀i,i<n→fc<(dG l i).acc.length→(dG l i).m.bal≤(dG l t).m.bal)∧(oB l fc n=none→∀i,i<n→(dG l i).acc.length≤fc)
 |0,_=>⟨fun t h=>(by cases h),fun _ i hi=>absurd hi (Nat.not_lt_zero _)⟩
 |n+1,hn=>by
  obtain⟨i1,i2⟩:=aA2 fc n (by omega);unfold oB;by_cases hq:(dG l n).acc.length≤fc
  ·rw[if_pos hq];refine⟨fun t ht=>?_,fun h0 i hi=>?_⟩
   ·obtain⟨a,b,c⟩:=i1 t ht;refine⟨by omega,b,fun i hi hc=>?_⟩;by_cases e:i=n
    ·subst e;omega
    ·exact c i (by omega) hc
   ·by_cases e:i=n
    ·subst e;exact hq
    ·exact i2 h0 i (by omega)
  ·rw[if_neg hq];cases ht:oB l fc n with
   |none=>
    dsimp only;refine⟨fun t h=>?_,fun h=>(by cases h)⟩;cases h;refine⟨by omega,by omega,fun i hi hc=>?_⟩;by_cases e:i=n
    ·subst e;exact aL _
    ·have:=i2 ht i (by omega);omega
   |some t0=>
    obtain⟨a,b,c⟩:=i1 t0 ht;dsimp only;by_cases hb:(dG l t0).m.bal<(dG l n).m.bal
    ·rw[if_pos hb];refine⟨fun t h=>?_,fun h=>(by cases h)⟩;cases h;refine⟨by omega,by omega,fun i hi hc=>?_⟩;by_cases e:i=n
     ·subst e;exact aL _
     ·have:=c i (by omega) hc;omega
    ·rw[if_neg hb];refine⟨fun t h=>?_,fun h=>(by cases h)⟩;cases h;refine⟨by omega,b,fun i hi hc=>?_⟩;by_cases e:i=n
     ·subst e;omega
     ·exact c i (by omega) hc
structure aEq(s:Sx)(l:List Bt)(out:List Nat)(b:Int):Prop where
 ix:∀k ∈ out,k<l.length
 up:∀q,q≠0→(Up s q b↔∃k ∈ out,(dG l k).m.bal=q)
 pv:∀i,i<out.length→(s.bl (dG l (out.getD i 0)).m.bal).pv=if i+1<out.length then(dG l (out.getD (i+1) 0)).m.val else zVl
 nd:(out.map fun k=>(dG l k).m.bal).Nodup
theorem aIm(h:Inv f s)(k:BtInv f s lock N l)(hN:N=s.tr.length):∀(b:Int),(s.bl b).asked=true→∀(q i:Nat) (pre:List Nat),b.toNat<q→i<l.length→(dG l i).m.bal=b→∃out,uA l q i pre=some (pre++out)∧aEq s l out b∧out.head?=some i:=by
 have g:∀i,i<l.length→(dG l i).m.val=(s.bl (dG l i).m.bal).val∧(dG l i).m.base=(s.bl (dG l i).m.bal).base∧(s.bl (dG l i).m.bal).asked=true∧(s.bl (dG l i).m.bal).lock=lock:=fun i hi=>by
  obtain⟨v,B,G,_⟩:=k.el _ (kI hi);have S:=congrArg Mg.val G;have P:=congrArg Mg.base G;exact⟨S,P,v,B⟩
 refine lJ h (fun b hb h0 q i pre hq hi hbal=>?_) (fun b hb ha hl ih q i pre hq hi hbal=>?_)
 ·have E:(s.bl b).pv=zVl:=by
   rcases jL h hb with⟨_,z⟩|⟨z,_⟩
   ·exact z
   ·exact absurd h0 z
  obtain⟨O,A,K,F⟩:=g i hi;rw[hbal]at A;have o:b≠0:=by have:=dI h hb;omega
  have C:=(h.i2.ask b hb).lt;refine⟨[i],?_,⟨fun x d=>?_,fun x d=>⟨fun u=>⟨i,by simp,?_⟩,?_⟩,fun j hj=>?_,by simp⟩,rfl⟩
  ·obtain⟨t,rfl⟩:∃t,q=t+1:=⟨q-1,by omega⟩;unfold uA;rw[hbal,A,if_neg (by rw[h0];rw[h0]at C;omega)];cases gF l (s.bl b).base with
   |none=>rfl
   |some n=>dsimp only;rw[if_pos h0]
  ·rw[List.mem_singleton]at d;subst d;exact hi
  ·by_cases e:x=b
   ·rw[e];exact hbal
   ·have:=u.down e;rw[h0]at this;exact(xX d this).elim
  ·rintro⟨p,c,e⟩;rw[List.mem_singleton]at c;subst c;rw[←e,hbal];exact Up.refl b
  ·have:j=0:=by simpa using hj
   subst this;show(s.bl (dG l i).m.bal).pv=_;rw[hbal,E]
   rfl
 ·obtain⟨O,A,K,F⟩:=g i hi;rw[hbal]at A F;have o:b≠0:=by have:=dI h hb;omega
  have C:=(h.i2.ask b hb).lt;have a:(s.bl b).base≠0:=by have:=dI h ha;omega
  have U:=(h.i2.ask b hb).b0;have E:(s.bl b).pv=(s.bl (s.bl b).base).val:=by
   rcases jL h hb with⟨z,_⟩|⟨_,_,z⟩
   ·exact absurd z a
   ·exact z
  obtain⟨y,L,T⟩:=k.al (s.bl b).base ha (hl.trans F) (by
   rw[hN];exact(aF.1 ((h.i1.bg _ (h.i1.ask _ ha)).ac ha)).1)
  cases hf:gF l (s.bl b).base with
  |none=>exact absurd T (aJi.1 hf y L)
  |some n=>
   obtain⟨z,H,M⟩:=nU hf;have J:n<l.length:=(aF.1 H).1;have D:(dG l n).m.bal=(s.bl b).base:=by
    unfold dG;rw[aQ,H];exact M
   obtain⟨t,rfl⟩:∃t,q=t+1:=⟨q-1,by omega⟩;obtain⟨out,Q,r,I⟩:=ih t n (pre++[i]) (by omega) J D;refine⟨i::out,?_,⟨fun x d=>?_,fun x d=>⟨fun u=>?_,?_⟩,fun j hj=>?_,?_⟩,rfl⟩
   ·unfold uA;rw[hbal,A,hf,if_neg (by rintro(w|⟨_,w⟩);omega;cases w)];dsimp only;rw[if_neg a,Q,aS];rfl
   ·rcases List.mem_cons.1 d with rfl|d
    ·exact hi
    ·exact r.ix x d
   ·by_cases e:x=b
    ·exact⟨i,by simp,by rw[e];exact hbal⟩
    ·obtain⟨p,v,B⟩:=(r.up x d).1 (u.down e);exact⟨p,by simp[v],B⟩
   ·rintro⟨p,c,e⟩;rcases List.mem_cons.1 c with rfl|c
    ·rw[←e,hbal];exact Up.refl b
    ·exact((r.up x d).2 ⟨p,c,e⟩).step o
   ·cases j with
    |zero=>
     show(s.bl (dG l i).m.bal).pv=_;cases out with
     |nil=>cases I
     |cons n' out'=>
      have:n'=n:=by simpa using I
      subst this;rw[hbal,E,if_pos (by simp)];show _=(dG l n').m.val;rw[(g n' J).1,D]
    |succ j=>
     have:=r.pv j (by simpa using hj);show(s.bl (dG l (out.getD j 0)).m.bal).pv=_;rw[this];simp only[bH,Nat.add_lt_add_iff_right]
     rfl
   ·rw[List.map_cons,List.nodup_cons];refine⟨fun hm=>?_,r.nd⟩;obtain⟨p,v,B⟩:=bN.1 hm;have R:=(r.up b o).2 ⟨p,v,B.trans hbal⟩;have:=(zI h o _ ha R).2.2;omega
end
def vlB(a b:Vl):Bool:=a.own==b.own&&a.tok==b.tok&&a.ttl==b.ttl&&a.seq==b.seq
theorem rM(a b:Vl):vlB a b=true↔a=b:=by
 cases a;cases b;simp[vlB,and_assoc]
def fU(p:Vl)(m:Mg)(okind ottl:Int):Bool×Bool:=
 if vlB m.val p=true then(false,true)
 else if okind=1 then(true,vlB m.val ⟨m.src+1,m.bal,ottl,1⟩&&decide (p.tok<m.val.tok))
 else if okind=2 then(true,p.own==m.src+1&&vlB m.val ⟨m.src+1,p.tok,ottl,p.seq+1⟩)
 else if okind=3 then(true,p.own==m.src+1&&vlB m.val ⟨0,p.tok,0,m.bal⟩)
 else(true,false)
def oQ(l:List Bt)(out:List Nat)(i:Nat):Vl:=if i+1<out.length then(dG l (out.getD (i+1) 0)).m.val else zVl
def aDE(t:List Ev)(j:Int):Ev:=t.getD j.toNat zEv
def uO(t:List Ev)(l:List Bt)(out:List Nat)(i:Nat):Bool×Bool:=fU (oQ l out i) (dG l (out.getD i 0)).m (aDE t (dG l (out.getD i 0)).op).okind (aDE t (dG l (out.getD i 0)).op).ottl
def hZ(t:List Ev)(l:List Bt)(out:List Nat)(op:Int):Nat→Option Int
 |0=>some 0
 |i+1=>(hZ t l out op i).bind fun n=>if(uO t l out i).2=true then some (if((uO t l out i).1&&((dG l (out.getD i 0)).op==op))=true then n+1 else n)else none
section
variable {f:Cf}{s:Sx}{lock:Int}{l:List Bt}{N:Nat}
theorem aIG(h:Inv f s)(h4:I4 s){b:Int}(hb:(s.bl b).asked=true):min ((s.bl b).pv.seq+1) 2147483647=(s.bl b).pv.seq+1:=by
 have:=aBb h hb;have:=h4.rb b (h.i1.ask b hb);omega
theorem aHG(h:Inv f s)(h4:I4 s)(k:BtInv f s lock N l){out:List Nat}{t:Int}(r:aEq s l out t){i:Nat}(hi:i<out.length):
 (uO s.tr l out i).2=true∧((uO s.tr l out i).1=true↔(s.bl (dG l (out.getD i 0)).m.bal).val≠(s.bl (dG l (out.getD i 0)).m.bal).pv):=by
 have w:out.getD i 0 ∈ out:=by
  rw[aQ,aP hi];exact bF hi
 obtain⟨b,g⟩:=aJ8 ((dG l (out.getD i 0)).m.bal);obtain⟨c,A,u,C,v,_⟩:=k.el _ (kI (r.ix _ w));rw[g]at c A u C v;have p:oQ l out i=(s.bl b).pv:=by
  have:=r.pv i hi;rw[g]at this;rw[this];rfl
 have n:aDE s.tr (dG l (out.getD i 0)).op=aH0 (s.bl b):=by
  unfold aDE;rw[v,aZ,aQ,(h.i1.bg b (h.i1.ask b c)).ev];rfl
 unfold uO;rw[p,n,g,u];have B:(aAs b (s.bl b) 0).val=(s.bl b).val:=rfl;have y:(aAs b (s.bl b) 0).src=(s.bl b).cl:=rfl;have o:(aAs b (s.bl b) 0).bal=b:=rfl;show(fU (s.bl b).pv (aAs b (s.bl b) 0) (s.bl b).kind (s.bl b).ttl).2=true∧((fU (s.bl b).pv (aAs b (s.bl b) 0) (s.bl b).kind (s.bl b).ttl).1=true↔_);unfold fU;rw[B,y,o];by_cases e:(s.bl b).val=(s.bl b).pv
 ·rw[if_pos ((rM _ _).2 e)];exact⟨rfl,fun q=>(by cases q),fun q=>absurd e q⟩
 ·rw[if_neg (fun z=>e ((rM _ _).1 z))];have x:=aBb h c;rcases gK h c with q|⟨d,a,_⟩|⟨d,a,_,j⟩|⟨d,a,_,j,_⟩
  ·exact absurd q e
  ·rw[if_pos d];refine⟨?_,fun _=>e,fun _=>rfl⟩;rw[aR];refine⟨(rM _ _).2 a,?_⟩;rw[a];simpa using x.2.1
  ·rw[if_neg (by omega),if_pos d];refine⟨?_,fun _=>e,fun _=>rfl⟩;rw[aR];exact⟨by rw[a];simp,(rM _ _).2 (by rw[j,aIG h h4 c])⟩
  ·rw[if_neg (by omega),if_neg (by omega),if_pos d];refine⟨?_,fun _=>e,fun _=>rfl⟩;rw[aR];exact⟨by rw[a];simp,(rM _ _).2 j⟩
def aC3(s:Sx)(l:List Bt)(out:List Nat)(op:Nat)(i:Nat):Prop:=(s.bl (dG l (out.getD i 0)).m.bal).val≠(s.bl (dG l (out.getD i 0)).m.bal).pv∧(s.bl (dG l (out.getD i 0)).m.bal).op=op
theorem zG(h:Inv f s)(h4:I4 s)(k:BtInv f s lock N l){out:List Nat}{t:Int}(r:aEq s l out t)(op:Nat):∀n,n≤out.length→∃c:Int,hZ s.tr l out op n=some c∧0≤c∧(c=0↔∀i,i<n→¬aC3 s l out op i)∧((∀i i',i<n→i'<n→aC3 s l out op i→aC3 s l out op i'→i=i')→c≤1)
 |0,_=>⟨0,rfl,aL _,⟨fun _ i hi=>absurd hi (Nat.not_lt_zero _),fun _=>rfl⟩,fun _=>by decide⟩
 |n+1,hn=>by
  obtain⟨c,c1,c2,c3,c4⟩:=zG h h4 k r op n (by omega);have hk:out.getD n 0 ∈ out:=by
   rw[aQ,aP (by omega)];exact bF _
  obtain⟨_,_,_,_,k5,_⟩:=k.el _ (kI (r.ix _ hk));obtain⟨f1,f2⟩:=aHG h h4 k r (i:=n) (by omega);have hch:((uO s.tr l out n).1&&((dG l (out.getD n 0)).op==(op:Int)))=true↔aC3 s l out op n:=by
   rw[aR,f2,k5];unfold aC3;rw[beq_iff_eq];constructor
   ·rintro⟨a,b⟩;exact⟨a,by omega⟩
   ·rintro⟨a,b⟩;exact⟨a,by omega⟩
  refine⟨if((uO s.tr l out n).1&&((dG l (out.getD n 0)).op==(op:Int)))=true then c+1 else c,?_,?_,⟨fun q i hi=>?_,fun q=>?_⟩,fun q=>?_⟩
  ·unfold hZ;rw[c1,Option.bind_some,if_pos f1]
  ·split<;>omega
  ·by_cases z:aC3 s l out op n
   ·rw[if_pos (hch.2 z)]at q;omega
   ·rw[if_neg (fun w=>z (hch.1 w))]at q;by_cases e:i=n
    ·rw[e];exact z
    ·exact c3.1 q i (by omega)
  ·rw[if_neg (fun w=>q n (by omega) (hch.1 w))];exact c3.2 fun i hi=>q i (by omega)
  ·by_cases z:aC3 s l out op n
   ·rw[if_pos (hch.2 z)];have:c=0:=c3.2 fun i hi w=>by
     have:=q i n (by omega) (by omega) w z;omega
    omega
   ·rw[if_neg (fun w=>z (hch.1 w))];exact c4 fun i i' hi hi' w w'=>q i i' (by omega) (by omega) w w'
end
def I5(s:Sx):Prop:=∀(k:Nat) (e:Ev),s.tr[k]?=some e→e.kind=3→∀j,eU s.tr k e.node=some j→∃x,s.tr[j]?=some x∧x.okind=e.okind∧x.olock=e.olock∧x.ottl=e.ottl
theorem aCz{s s':Sx}{e:List Ev}(h:I5 s)(ht:s'.tr=s.tr++e)(he:∀x ∈ e,x.kind=3→∀j,eU s.tr s.tr.length x.node=some j→e=[x]∧∃y,s.tr[j]?=some y∧y.okind=x.okind∧y.olock=x.olock∧y.ottl=x.ottl)(h1:∀x ∈ e,x.kind=3→e=[x]):I5 s':=by
 intro k x a d j b;rw[ht]at a b⊢;by_cases g:k<s.tr.length
 ·rw[bJ g]at a;rw[jR _ _ _ _ (by omega)]at b;obtain⟨y,c,f⟩:=h k x a d j b;exact⟨y,by rw[bJ (aF.1 c).1];exact c,f⟩
 ·rw[bK (by omega)]at a;have m:=List.mem_of_getElem? a;have l:=h1 x m d;have i:k=s.tr.length:=by
   rw[l]at a;have:=(aF.1 a).1;simp only[aK]at this;omega
  rw[i,jR _ _ _ _ (aE _)]at b;obtain⟨_,y,c,f⟩:=he x m d j b;exact⟨y,by rw[bJ (aF.1 c).1];exact c,f⟩
theorem aIa{f:Cf}{gd:Bool}{s s':Sx}(v:Inv f s)(h:I5 s)(hs:Mi f gd s s'):I5 s':=by
 have a:∀(t:Sx) (e:List Ev),t.tr=s.tr++e→(∀x ∈ e,x.kind≠3)→I5 t:=fun t e ht he=>aCz h ht (fun x hx q=>absurd q (he x hx)) (fun x hx q=>absurd q (he x hx));have b:∀(t:Sx) (i:Int) (o:On) (r w u:Int),0≤i→i<f.clients→(s.cl i).doing=some o→t.tr=s.tr++[eP (s.cl i).num o r w u]→I5 t:=fun t i o r w u i0 i1 hd ht=>by
  refine aCz h ht (fun x hx _ j hj=>?_) (fun x hx _=>by rw[List.mem_singleton]at hx;rw[hx]);rw[List.mem_singleton]at hx;subst hx;refine⟨rfl,?_⟩;rw[show(eP (s.cl i).num o r w u).node=i from v.i0.num i i0 i1,v.i3.dn i i0 i1,hd]at hj;cases hj;exact⟨_,(v.i1.on i i0 i1 o hd).ev,rfl,rfl,rfl⟩
 refine hs.elim (P:=I5) ?tick ?bump ?began ?att ?endU ?endQ ?hear ?prop ?lose ?ret ?acc ?ev
 case tick=>exact fun i i0 i1 hu hg=>a _ [] rfl (fun x hx=>by cases hx)
 case bump=>exact fun i r o i0 i1 hu hd hr hr'=>a _ [] rfl (fun x hx=>by cases hx)
 case began=>exact fun i k l t i0 i1 hu hd hk hl _ _ _=>a _ [gJ (s.cl i).num (eH (s.cl i) k l t)] rfl (fun x hx=>by rw[List.mem_singleton]at hx;subst hx;show(2:Int)≠3;decide)
 case att=>exact fun i o i0 i1 hu hd hr=>a _ _ rfl (fun x hx=>by have:=(jG x hx).1;omega)
 case endU=>exact fun i o res i0 i1 hu hd hr=>b _ i o res 0 0 i0 i1 hd rfl
 case endQ=>exact fun i o i0 i1 hu hd h4 hq=>b _ i o _ _ _ i0 i1 hd rfl
 case hear=>exact fun i o m i0 i1 hu hd hm hb hk0 hk ha=>a _ [] rfl (fun x hx=>by cases hx)
 case prop=>exact fun i o i0 i1 hu hd q2 hq hr=>a _ _ rfl (fun x hx=>by have:=(jG x hx).1;omega)
 case lose=>
  exact fun i i0 i1 hu=>a _ (jU (s.cl i)) rfl (fun x hx=>by
   unfold jU at hx;rw[if_neg (by rw[hu];decide),List.mem_singleton]at hx;subst hx;show(4:Int)≠3;decide)
 case ret=>
  exact fun i i0 i1 hu hi=>a _ (fW (s.cl i)) rfl (fun x hx=>by
   have e:dW (s.cl i)=0:=by unfold dW;rw[if_neg (by rw[hu];decide),if_neg (by omega)]
   unfold fW at hx;rw[e,if_neg (by decide),List.mem_singleton]at hx;subst hx;show(5:Int)≠3;decide)
 case acc=>
  exact fun j m e j0 j1 hm hk he=>a _ e rfl (fun x hx=>by
   rcases he with rfl|rfl
   ·cases hx
   ·rw[List.mem_singleton]at hx;subst hx;show(1:Int)≠3;decide)
 case ev=>
  exact fun j k j0 hk=>a _ [{zEv with kind:=k,node:=j}] rfl (fun x hx=>by
   rw[List.mem_singleton]at hx;subst hx;show k≠3;omega)
structure aFV(f:Cf)(s:Sx):Prop where
 v:Inv f s
 i4:I4 s
 i5:I5 s
theorem MiR.every{f:Cf}(hf:f.clients≤4)(hff:0≤f.f){gd:Bool}{s:Sx}(h:MiR f gd s):aFV f s:=
 h.ind (P:=aFV f) ⟨MiR.all hf hff (MiR.new (gd:=gd)),(MiR.all4 hf hff (MiR.new (gd:=gd))).2,fun k e hk=>(by simp[pU]at hk)⟩
  fun s s' hr k hs=>⟨MiR.all hf hff (hr.step hs),aEv hf k.v k.i4 hs,aIa k.v k.i5 hs⟩
def jI(t:List Ev)(at_:Nat):Nat→Nat→Ev
 |0,_=>{zEv with okind:=(t.getD at_ zEv).okind,olock:=(t.getD at_ zEv).olock,ottl:=(t.getD at_ zEv).ottl}
 |n+1,i=>if(t.getD i zEv).kind=3∧(t.getD i zEv).node=(t.getD at_ zEv).node then t.getD i zEv
  else if(t.getD i zEv).kind=4∧(t.getD i zEv).node= -1-(t.getD at_ zEv).node then{zEv with okind:=(t.getD at_ zEv).okind,olock:=(t.getD at_ zEv).olock,ottl:=(t.getD at_ zEv).ottl}
  else jI t at_ n (i+1)
section
variable {f:Cf}{s:Sx}
theorem aBc(h:aFV f s){a:Nat}{b:Ev}(hb:s.tr[a]?=some b)(hk:b.kind=2):∀(n i:Nat),i+n=s.tr.length→a<i→(∀k e,a<k→k<i→s.tr[k]?=some e→¬Tch e b.node)→
 ((jI s.tr a n i).kind=0∧(jI s.tr a n i).res=0∧(jI s.tr a n i).okind=b.okind)∨
 (∃k,s.tr[k]?=some (jI s.tr a n i)∧a<k∧(jI s.tr a n i).kind=3∧(jI s.tr a n i).okind=b.okind∧(jI s.tr a n i).olock=b.olock∧(jI s.tr a n i).node=b.node∧((jI s.tr a n i).res≤4→EndI f s k (jI s.tr a n i) a))
 |0,i,_,_,_=>by
  have hg:s.tr.getD a zEv=b:=by rw[aQ,hb];rfl
  refine Or.inl ⟨rfl,rfl,?_⟩;show(s.tr.getD a zEv).okind=_;rw[hg]
 |n+1,i,hn,hai,hno=>by
  have hg:s.tr.getD a zEv=b:=by rw[aQ,hb];rfl
  have F:i<s.tr.length:=by omega
  obtain⟨x,g⟩:∃x,s.tr[i]?=some x:=⟨s.tr[i],aP F⟩;have A:s.tr.getD i zEv=x:=by rw[aQ,g];rfl
  unfold jI;rw[hg,A];by_cases c:x.kind=3∧x.node=b.node
  ·rw[if_pos c];obtain⟨_,j,d,w⟩:=h.v.i3.en i x g c.1;have u:j=a:=by
    obtain⟨D,⟨y,l,r,o⟩,t⟩:=kY (by omega) d;rcases Nat.lt_trichotomy j a with q|q|q
    ·exact absurd (Or.inl ⟨hk,c.2.symm⟩) (t a b q hai hb)
    ·exact q
    ·exact absurd (Or.inl ⟨r,by rw[o,c.2]⟩) (hno j y q D l)
   subst u;obtain⟨y,l,r,o,H⟩:=h.i5 i x g c.1 j d;rw[hb]at l;cases l;exact Or.inr ⟨i,g,hai,c.1,r.symm,o.symm,c.2,w⟩
  ·rw[if_neg c];by_cases p:x.kind=4∧x.node= -1-b.node
   ·rw[if_pos p];exact Or.inl ⟨rfl,rfl,rfl⟩
   ·rw[if_neg p];refine aBc h hb hk n (i+1) (by omega) (by omega) (fun k e k1 k2 hke=>?_);by_cases q:k=i
    ·rw[q,g]at hke;cases hke;intro z;rcases z with z|z|z
     ·have:=(h.v.i3.bg i x g z.1).2;rw[z.2]at this;have C:∀m,a<m→m≤i→eU s.tr m b.node=some a:=by
       intro m;induction m with
       |zero=>intro E;omega
       |succ m ih=>
        intro E G;unfold eU;by_cases e:m=a
        ·rw[e,hb];dsimp only;rw[if_pos ⟨hk,rfl⟩]
        ·obtain⟨y,B⟩:∃y,s.tr[m]?=some y:=⟨s.tr[m]'(by omega),aP (by omega)⟩;have:=hno m y (by omega) (by omega) B;unfold Tch at this;rw[B];dsimp only;rw[if_neg (fun w=>this (Or.inl w)),if_neg (fun w=>this (Or.inr w))];exact ih (by omega) (by omega)
      rw[C i hai (aE _)]at this;cases this
     ·exact c z
     ·exact p z
    ·exact hno k e k1 (by omega) hke
end
def kN(e:Ev)(n:Int):Bool:=
 if e.okind=4 then n==0 else if e.okind=2 then(e.res !=1||decide (1≤n))else if e.res=1 then n==1 else if e.res=2∨e.res=3 then n==0 else decide (n≤1)
def nK(e:Ev):Bool:=e.kind==3&&decide (e.res≤4)
def qI(v:Vl)(e:Ev):Bool:=
 if e.res=1 then e.own==e.node+1&&v.tok==e.tok&&((e.okind==3&&v.own==0)||(e.okind !=3&&v.own==e.node+1))
 else if e.res=2 then v.own==e.own&&v.tok==e.tok&&v.own !=0&&v.own !=e.node+1&&e.okind==1
 else if e.res=4 then v.own==e.own&&v.tok==e.tok&&e.okind==4
 else e.res==3&&e.own==0&&e.tok==0&&e.okind !=1&&e.okind !=4
def qE(l:List Bt)(out:List Nat)(e:Ev):Bool:=match gF l e.bal with
 |none=>false
 |some k=>if out.contains k=true then qI (dG l k).m.val e else false
def kR(t:List Ev)(e:Ev)(lock:Int):Nat→Bool
 |0=>true
 |i+1=>kR t e lock i&& !(nK (t.getD i zEv)&&(t.getD i zEv).olock==lock&&decide (e.bal≤(t.getD i zEv).bal))
def uD(t:List Ev)(l:List Bt)(out:List Nat)(lock:Int)(i:Nat):Bool:=
 if(t.getD i zEv).kind≠2∨(t.getD i zEv).olock≠lock then true else match hZ t l out i out.length with
 |none=>false
 |some n=>kN (jI t i (t.length-(i+1)) (i+1)) n&&(!(nK (jI t i (t.length-(i+1)) (i+1)))||(qE l out (jI t i (t.length-(i+1)) (i+1))&&kR t (jI t i (t.length-(i+1)) (i+1)) lock i))
section
variable {f:Cf}{s:Sx}{lock:Int}{l:List Bt}{N:Nat}
theorem aAV:∀(q p:List Int),q.Nodup→(∀x ∈ q,x ∈ p)→q.length≤p.length
 |[],p,_,_=>aI _
 |x::q,p,hn,hs=>by
  rw[List.nodup_cons]at hn;have hx:=hs x (by simp);have ih:=aAV q (p.erase x) hn.2 (fun y hy=>by
   have hne:y≠x:=fun e=>hn.1 (e▸hy);exact(List.mem_erase_of_ne hne).2 (hs y (by simp[hy])))
  rw[List.length_erase_of_mem hx]at ih;have:=List.length_pos_of_mem hx;rw[bH];omega
theorem aGE(k:BtInv f s lock N l){i j:Nat}(hi:i<l.length)(hj:j<l.length)(h:(dG l i).m.bal=(dG l j).m.bal):i=j:=by
 have a:=k.nd;rw[List.nodup_iff_pairwise_ne,List.pairwise_iff_getElem]at a;have e:∀n (hn:n<l.length),dG l n=l[n]:=fun n hn=>by unfold dG;rw[aQ,aP hn];rfl
 rw[e i hi,e j hj]at h;rcases Nat.lt_trichotomy i j with q|q|q
 ·have:=a i j (by simpa using hi) (by simpa using hj) q;simp only[List.getElem_map]at this;exact absurd h this
 ·exact q
 ·have:=a j i (by simpa using hj) (by simpa using hi) q;simp only[List.getElem_map]at this;exact absurd h.symm this
theorem aDP(h:Inv f s)(k:BtInv f s lock N l){i:Nat}(hi:i<l.length)(ha:f.f<(dG l i).acc.length):sS f s lock (dG l i).m.bal N:=by
 obtain⟨r,t,u,x,w,o,b⟩:=k.el _ (kI hi);refine⟨_,o,ha,fun j hj=>⟨?_,(b j).1 hj⟩⟩;obtain⟨g,e,_,n,q,v,p,_⟩:=(b j).1 hj;rcases(h.i1.ms g e n q).ca with⟨c,_⟩|⟨c,_⟩|⟨_,d,a,_⟩
 ·omega
 ·omega
 ·rw[p]at d a;exact⟨d,a⟩
theorem yT(hff:0≤f.f)(h:Inv f s)(k:BtInv f s lock N l)(hN:N=s.tr.length){b:Int}{n:Nat}(hn:n≤N)(hc:sS f s lock b n):∃i,i<l.length∧(dG l i).m.bal=b∧f.f<(dG l i).acc.length:=by
 obtain⟨c,p⟩:=tS hff h hc;obtain⟨x,g,o⟩:=k.al b c p (by rw[hN];exact(aF.1 ((h.i1.bg _ (h.i1.ask _ c)).ac c)).1);obtain⟨i,d,u⟩:=List.mem_iff_getElem.1 g;have e:dG l i=x:=by unfold dG;rw[aQ,aP d];exact u
 refine⟨i,d,by rw[e];exact o,?_⟩;obtain⟨q,r,v,t⟩:=hc;have a:Ext s s:=Ext.of_bl (s:=s) (s':=s) ⟨[],(aC _).symm⟩ rfl;have:=aAV q x.acc r (fun j hj=>((k.el x g).2.2.2.2.2.2 j).2 (by rw[o];exact(t j hj).2.mono a (aL _) hn));rw[e];omega
theorem aCW{e:Ev}:∀n,(∀i,i<n→¬(nK (s.tr.getD i zEv)=true∧(s.tr.getD i zEv).olock=lock∧e.bal≤(s.tr.getD i zEv).bal))→kR s.tr e lock n=true
 |0,_=>rfl
 |n+1,h=>by
  unfold kR;rw[aCW n (fun i hi=>h i (by omega)),Bool.true_and,Bool.not_eq_true'];have:=h n (by omega);cases q:(nK (s.tr.getD n zEv)&&(s.tr.getD n zEv).olock==lock&&decide (e.bal≤(s.tr.getD n zEv).bal))with
  |false=>rfl
  |true=>
   simp only[aR,beq_iff_eq,aM]at q;exact absurd ⟨q.1.1,q.1.2,q.2⟩ this
theorem aHE(h:Inv f s){k:Nat}{e:Ev}{j:Nat}(w:EndI f s k e j):qI (s.bl e.bal).val e=true:=by
 obtain⟨o,m,p,n,l⟩:=zX h w;unfold qI;rcases l with r|r|r|r
 ·rw[if_pos r];obtain⟨a,b,c⟩:=o r;rcases c with⟨i,g⟩|⟨i,g⟩
  ·simp[a,b,i,g]
  ·simp[a,b,i,g]
 ·rw[if_neg (by omega),if_pos r];obtain⟨a,b,c,d,q⟩:=m r;rw[a]at c d;simp[a,b,c,d,q]
 ·rw[if_neg (by omega),if_neg (by omega),if_neg (by omega)];obtain⟨a,b,c,d⟩:=n r;simp[r,a,b,c,d]
 ·rw[if_neg (by omega),if_neg (by omega),if_pos r];obtain⟨a,b,c⟩:=p r;simp[a,b,c]
theorem aHd(hff:0≤f.f)(h:aFV f s)(k:BtInv f s lock N l)(hN:N=s.tr.length){out:List Nat}{t:Int}(ht:(s.bl t).asked=true)(r:aEq s l out t)
 (hin:∀b n,n≤N→sS f s lock b n→Up s b t) (i:Nat) (hi:i<s.tr.length):uD s.tr l out lock i=true:=by
 unfold uD;by_cases K:(s.tr.getD i zEv).kind≠2∨(s.tr.getD i zEv).olock≠lock
 ·rw[if_pos K]
 ·rw[if_neg K];obtain⟨b,T⟩:∃b,s.tr[i]?=some b:=⟨s.tr[i],aP hi⟩;have hg:s.tr.getD i zEv=b:=by rw[aQ,T];rfl
  rw[hg]at K;have a0:b.kind=2:=aH fun z=>K (Or.inl z);have O:b.olock=lock:=aH fun z=>K (Or.inr z);obtain⟨c,e1,e2,e3,e4⟩:=zG h.v h.i4 k r i out.length (aE _);rw[e1];dsimp only;have d:∀n,n<out.length→(s.bl (dG l (out.getD n 0)).m.bal).asked=true∧Up s (dG l (out.getD n 0)).m.bal t∧(dG l (out.getD n 0)).m.bal≠0:=fun n a=>by
   have A:out.getD n 0 ∈ out:=by rw[aQ,aP a];exact bF a
   have Q:=(k.el _ (kI (r.ix _ A))).1;have E:(dG l (out.getD n 0)).m.bal≠0:=by have:=dI h.v Q;omega
   exact⟨Q,(r.up _ E).2 ⟨_,A,rfl⟩,E⟩
  have M:∀n,aC3 s l out i n→n<out.length→(s.bl (dG l (out.getD n 0)).m.bal).kind=b.okind:=fun n hc a=>by
   have U:=(h.v.i1.bg _ (h.v.i1.ask _ (d n a).1)).ev;rw[hc.2,T]at U;exact(congrArg Ev.okind (aN U)).symm
  have o:b.okind≠2→c≤1:=fun hk=>e4 fun n n' a hn' w H=>by
   have:=aJU h.v (d n a).1 (d n' hn').1 ht (d n a).2.1 (d n' hn').2.1 (w.2.trans H.2.symm) (by rw[M n' H hn'];exact hk) w.1 H.1;have V:=r.nd;rw[List.nodup_iff_pairwise_ne,List.pairwise_iff_getElem]at V;have J:∀m (A:m<out.length),out.getD m 0=out[m]:=fun m A=>by rw[aQ,aP A];rfl
   rw[J n a,J n' hn']at this;rcases Nat.lt_trichotomy n n' with q|q|q
   ·have z:=V n n' (by simpa using a) (by simpa using hn') q;simp only[List.getElem_map]at z;exact absurd this z
   ·exact q
   ·have z:=V n' n (by simpa using hn') (by simpa using a) q;simp only[List.getElem_map]at z;exact absurd this.symm z
  have C:b.okind=4→c=0:=fun hk=>e3.2 fun n a w=>w.1 (aD5 h.v (d n a).1 ((M n w a).trans hk));have u:∀b',(s.bl b').asked=true→Up s b' t→(s.bl b').op=i→(s.bl b').val≠(s.bl b').pv→c≠0:=fun b' Q G Y R hc=>by
   have E:b'≠0:=by have:=dI h.v Q;omega
   obtain⟨I,k1,k2⟩:=(r.up b' E).1 G;obtain⟨n,a,P⟩:=List.mem_iff_getElem.1 k1;have J:out.getD n 0=I:=by rw[aQ,aP a];exact P
   exact e3.1 hc n a ⟨by rw[J,k2];exact R,by rw[J,k2];exact Y⟩
  obtain⟨e,he⟩:=aJ8 (jI s.tr i (s.tr.length-(i+1)) (i+1));rw[he];rcases aBc h T a0 (s.tr.length-(i+1)) (i+1) (by omega) (by omega) (fun I e' k1 k2 _=>by omega)with⟨X,F,y⟩|⟨I,z0,X,F,y,W,z5,z6⟩
  ·rw[he]at X F y;have S:nK e=false:=by unfold nK;rw[X];rfl
   rw[S,Bool.not_false,Bool.true_or,Bool.and_true];unfold kN;rw[y,F];by_cases p:b.okind=4
   ·rw[if_pos p];simpa using C p
   ·rw[if_neg p];by_cases g:b.okind=2
    ·rw[if_pos g];rfl
    ·rw[if_neg g,if_neg (by decide),if_neg (by decide)];simpa using o g
  ·rw[he]at z0 F y W z5 z6;by_cases Z:e.res≤4
   ·have w:=z6 Z;have G:Up s e.bal t:=hin e.bal I (by rw[hN];exact bR (aF.1 z0).1) (by
     obtain⟨q,q1,g,q3⟩:=w.qu;exact⟨q,q1,g,fun j hj=>by have:=q3 j hj;rw[W,O]at this;exact this⟩)
    obtain⟨_,_,_,_,tr⟩:=zX h.v w;rw[aR];refine⟨?_,?_⟩
    ·unfold kN;rw[y];by_cases p:b.okind=4
     ·rw[if_pos p];simpa using C p
     ·rw[if_neg p];by_cases g:b.okind=2
      ·rw[if_pos g];by_cases B:e.res=1
       ·have:=u e.bal w.ask G w.op (aFq h.v h.i4 w B (y.trans g));simp[B];omega
       ·simp[B]
      ·rw[if_neg g];by_cases B:e.res=1
       ·rw[if_pos B];obtain⟨c',c1,c2,c3,c4⟩:=aCM h.v w B (by rw[y];exact g);have:=u c' c1 (c2.trans G) c3 c4;have:=o g;have:c=1:=by omega
        simp[this]
       ·rw[if_neg B];by_cases D:e.res=2∨e.res=3
        ·rw[if_pos D];have:c=0:=e3.2 fun n a wc=>by
          have Y:=h.i4.la I e z0 F Z _ (h.v.i1.ask _ (d n a).1) (wc.2.trans w.op.symm);exact wc.1 (aFM h.v w D (by rw[y];exact g) (d n a).1 ht (d n a).2.1 G wc.2 Y)
         simp[this]
        ·rw[if_neg D];simpa using o g
    ·rw[Bool.or_eq_true,aR];refine Or.inr ⟨?_,?_⟩
     ·have E:e.bal≠0:=by have:=dI h.v w.ask;omega
      obtain⟨n,n1,n2⟩:=(r.up e.bal E).1 G;unfold qE;cases hf:gF l e.bal with
      |none=>exact absurd n2 (aJi.1 hf _ (kI (r.ix n n1)))
      |some m=>
       obtain⟨x,x1,x2⟩:=nU hf;have A:m<l.length:=(aF.1 x1).1;have L:(dG l m).m.bal=e.bal:=by unfold dG;rw[aQ,x1];exact x2
       have a1:m=n:=aGE k A (r.ix n n1) (L.trans n2.symm);dsimp only;rw[if_pos (by rw[a1];exact List.contains_iff_mem.2 n1)];have:=(k.el _ (kI A)).2.2.1;have R:=congrArg Mg.val this;rw[L]at R;rw[show(dG l m).m.val=(s.bl e.bal).val from R];exact aHE h.v w
     ·refine aCW i fun n a ⟨d1,d2,d3⟩=>?_;obtain⟨x,P⟩:∃x,s.tr[n]?=some x:=⟨s.tr[n]'(by omega),aP (by omega)⟩;have a2:s.tr.getD n zEv=x:=by rw[aQ,P];rfl
      rw[a2]at d1 d2 d3;unfold nK at d1;rw[aR,beq_iff_eq,aM]at d1;obtain⟨_,j',_,H⟩:=h.v.i3.en n x P d1.1;have:=aHe hff h.v w (H d1.2) a (by rw[d2,W,O]);omega
   ·have S:nK e=false:=by unfold nK;rw[F];simpa using Z
    rw[S,Bool.not_false,Bool.true_or,Bool.and_true];unfold kN;rw[y];by_cases p:b.okind=4
    ·rw[if_pos p];simpa using C p
    ·rw[if_neg p];by_cases g:b.okind=2
     ·rw[if_pos g,show(e.res !=1)=true from by simp;omega];rfl
     ·rw[if_neg g,if_neg (by omega),if_neg (by omega)];simpa using o g
end
def uK(l:List Bt)(out:List Nat)(f:Int):Nat→Bool
 |0=>true
 |n+1=>uK l out f n&&(decide ((dG l n).acc.length≤f)||out.contains n)
def aDi(t:List Ev)(l:List Bt)(out:List Nat)(lock:Int):Nat→Bool
 |0=>true
 |n+1=>aDi t l out lock n&&uD t l out lock n
def aBt(l:List Bt)(f:Int):Option (List Nat):=
 match oB l f l.length with
 |none=>some []
 |some k=>uA l ((dG l k).m.bal.toNat+1) k []
def aHv(t:List Ev)(lock f:Int):Bool:=match iA t lock t.length with
 |none=>false
 |some l=>match aBt l f with
  |none=>false
  |some out=>uK l out f l.length&&aDi t l out lock t.length
section
variable {f:Cf}{s:Sx}{lock:Int}{l:List Bt}{N:Nat}
theorem aBL{out:List Nat}{fc:Int}:∀n,(∀i,i<n→fc<(dG l i).acc.length→i ∈ out)→uK l out fc n=true
 |0,_=>rfl
 |n+1,h=>by
  unfold uK;rw[aBL n (fun i hi=>h i (by omega)),Bool.true_and,Bool.or_eq_true,aM];by_cases q:(dG l n).acc.length≤fc
  ·exact Or.inl q
  ·exact Or.inr (List.contains_iff_mem.2 (h n (by omega) (by omega)))
theorem aBC{t:List Ev}{out:List Nat}:∀n,(∀i,i<n→uD t l out lock i=true)→aDi t l out lock n=true
 |0,_=>rfl
 |n+1,h=>by
  unfold aDi;rw[aBC n (fun i hi=>h i (by omega)),h n (by omega)];rfl
theorem aDG(hff:0≤f.f)(h:aFV f s)(k:BtInv f s lock N l)(hN:N=s.tr.length)(hno:∀i,i<l.length→(dG l i).acc.length≤f.f)(i:Nat)(hi:i<s.tr.length):uD s.tr l [] lock i=true:=by
 unfold uD;by_cases a:(s.tr.getD i zEv).kind≠2∨(s.tr.getD i zEv).olock≠lock
 ·rw[if_pos a]
 ·rw[if_neg a];obtain⟨b,x⟩:∃b,s.tr[i]?=some b:=⟨s.tr[i],aP hi⟩;have F:s.tr.getD i zEv=b:=by rw[aQ,x];rfl
  rw[F]at a;have t:b.kind=2:=aH fun z=>a (Or.inl z);have u:b.olock=lock:=aH fun z=>a (Or.inr z);show(kN _ 0&&_)=true;obtain⟨e,r⟩:=aJ8 (jI s.tr i (s.tr.length-(i+1)) (i+1));rw[r];have d:nK e=false→e.res≠1→(kN e 0&&(!(nK e)||(qE l [] e&&kR s.tr e lock i)))=true:=fun hd c=>by
   rw[hd,Bool.not_false,Bool.true_or,Bool.and_true];unfold kN;by_cases B:e.okind=4
   ·rw[if_pos B];rfl
   ·rw[if_neg B];by_cases m:e.okind=2
    ·rw[if_pos m];simp[c]
    ·rw[if_neg m,if_neg c];split<;>rfl
  rcases aBc h x t (s.tr.length-(i+1)) (i+1) (by omega) (by omega) (fun A e' k1 k2 _=>by omega)with⟨o,g,p⟩|⟨A,D,o,g,p,y,E,C⟩
  ·rw[r]at o g p;exact d (by unfold nK;rw[o];rfl) (by omega)
  ·rw[r]at D g p y E C;by_cases c:e.res≤4
   ·exfalso;have w:=C c;obtain⟨n,I,K,J⟩:=yT hff h.v k hN (b:=e.bal) (n:=A) (by rw[hN];exact bR (aF.1 D).1) (by
     obtain⟨q,G,m,H⟩:=w.qu;exact⟨q,G,m,fun j hj=>by have:=H j hj;rw[y,u]at this;exact this⟩)
    have:=hno n I;omega
   ·exact d (by unfold nK;rw[g];simpa using c) (by omega)
theorem aGo(hff:0≤f.f)(h:aFV f s)(lock:Int):aHv s.tr lock f.f=true:=by
 obtain⟨l,y,k⟩:=tJ (lock:=lock) h.v s.tr.length (aE _);unfold aHv;rw[y];dsimp only;obtain⟨x,q⟩:=aA2 (l:=l) f.f l.length (aE _);unfold aBt;cases ht:oB l f.f l.length with
 |none=>
  dsimp only;have a:=q ht;rw[aBL _ (fun i hi hc=>by have:=a i hi;omega),Bool.true_and];exact aBC _ fun i hi=>aDG hff h k rfl a i hi
 |some m=>
  obtain⟨e,D,r⟩:=x m ht;have g:=(k.el _ (kI e)).1;have o:=(k.el _ (kI e)).2.1;obtain⟨C,w,d,_⟩:=aIm h.v k rfl (dG l m).m.bal g ((dG l m).m.bal.toNat+1) m [] (by omega) e rfl;dsimp only;rw[w];dsimp only;rw[List.nil_append];have c:∀b n,n≤s.tr.length→sS f s lock b n→Up s b (dG l m).m.bal:=fun b n hn hc=>by
   obtain⟨i,A,t,z⟩:=yT hff h.v k rfl hn hc;have:=r i A z;exact aFf hff h.v hc _ g o (by rw[←t];exact this)
  rw[aBL _ (fun i hi hc=>?_),Bool.true_and]
  ·exact aBC _ fun i hi=>aHd hff h k rfl g d c i hi
  ·have j:=aDP h.v k hi hc;have u:(dG l i).m.bal≠0:=by have:=dI h.v (k.el _ (kI hi)).1;omega
   obtain⟨n,p,B⟩:=(d.up _ u).1 (c _ _ (aE _) j);rw[aGE k hi (d.ix n p) B.symm];exact p
end
end Go.Proofs.YtbbdgokdfhdpiaaGreatDoor
