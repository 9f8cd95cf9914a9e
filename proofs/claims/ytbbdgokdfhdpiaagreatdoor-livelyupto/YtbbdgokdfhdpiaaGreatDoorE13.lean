/- A part of the proof: Pax3, Pax4. -/
import Derived.Test.YtbbdgokdfhdpiaaGreatDoorE11
namespace Go.Proofs.YtbbdgokdfhdpiaaGreatDoor
set_option linter.all false
set_option maxRecDepth 100000
set_option maxHeartbeats 40000000
open Go.Proofs.Tryz Go.RowKit
def Bd(s:Sx):Prop:=∀b,(s.bl b).asked=true→0≤(s.bl b).val.tok∧(s.bl b).val.tok≤b∧0≤(s.bl b).val.seq∧(s.bl b).val.seq≤b∧0≤(s.bl b).val.ttl∧(s.bl b).val.ttl≤1000
theorem Bd.valB{s:Sx}(h:Bd s){b:Int}(hb:b=0∨(s.bl b).asked=true)(h0:0≤b):0≤(valB s b).tok∧(valB s b).tok≤b∧0≤(valB s b).seq∧(valB s b).seq≤b∧0≤(valB s b).ttl∧(valB s b).ttl≤1000:=by
 unfold Go.Proofs.YtbbdgokdfhdpiaaGreatDoor.valB;split
 ·rename_i q;subst q;exact⟨aL _,aL _,aL _,aL _,aL _,by decide⟩
 ·rename_i q;exact h b (hb.resolve_left q)
theorem aGu{f:Cf}(hf:f.clients≤4)(hff:0≤f.f){gd:Bool}{s s':Sx}(h0:I0 f s)(h1:I1 f s)(h2:I2 f s)(hon:∀i,0≤i→i<f.clients→∀o,(s.cl i).doing=some o→o.ttl≤1000)(h:Bd s)(hs:Mi f gd s s'):Bd s':=by
 refine hs.ways (P:=Bd) h0 ?still ?began ?att ?hear ?prop ?acc
 case still=>intro t u b a;rw[u.bl]at a⊢;exact h b a
 case began=>intro i k l t _ _ _ _ _ _ _ b a;exact h b a
 case att=>
  intro i o d g B c A b a;by_cases q:b=(hO (s.cl i)).bal
  ·subst q;rw[show(iP f s i o).bl (hO (s.cl i)).bal=_ from eW _ _ _]at a;cases a
  ·rw[show(iP f s i o).bl b=s.bl b from fJ _ _ q]at a⊢;exact h b a
 case hear=>intro i o m _ _ _ _ _ _ _ _ _ b a;exact h b a
 case prop=>
  intro i o d g B c w E A b a;by_cases q:b=o.att.bal
  ·subst q;rw[show(iI f s i o).bl o.att.bal=_ from eW _ _ _];show 0≤(cU f (s.cl i) o o.att.val).next.tok∧(cU f (s.cl i) o o.att.val).next.tok≤o.att.bal∧0≤(cU f (s.cl i) o o.att.val).next.seq∧(cU f (s.cl i) o o.att.val).next.seq≤o.att.bal∧0≤(cU f (s.cl i) o o.att.val).next.ttl∧(cU f (s.cl i) o o.att.val).next.ttl≤1000;obtain⟨z,F,y⟩:=(h2.on i d g o c).vl w;have n:=h1.on i d g o c;obtain⟨_,p,_,_⟩:=h1.unasked h0 d g c w;have r:=(h0.fr0 _ p).1;have C:=h.valB (y.imp id fun x=>x.1) n.e0;rw[←z]at C;have u:=hon i d g o c;have D:=n.t0;generalize o.att.val=v at*;unfold cU gR kQ gN
   repeat' split
   all_goals first
    |(refine⟨?_,?_,?_,?_,?_,?_⟩<;>dsimp only[zVl]<;>omega)
  ·rw[show(iI f s i o).bl b=s.bl b from fJ _ _ q]at a⊢;exact h b a
 case acc=>intro j m e _ _ _ _ _ b a;exact h b a
theorem aDi{s s':Sx}(h:s'.bl=s.bl){cl lock inc T:Int}{op op':Nat}(q:TokG s cl lock op inc T)(ho:op≤op'):TokG s' cl lock op' inc T:=
 ⟨by rw[h];exact q.ask,by rw[h];exact q.cl,by rw[h];exact q.lk,by rw[h];exact q.k1,by rw[h];exact q.tk,by rw[h];exact aG q.op ho,q.inc⟩
theorem Fol.bl{s s':Sx}(h:s'.bl=s.bl){b:Int}{g:Bg}{w:Fw}(q:Fol s b g w):Fol s' b g w:=by
 have a:∀x,mC s' g b x=mC s g b x:=fun x=>by unfold mC;rw[h]
 have c:∀cl lock op inc T,TokG s' cl lock op inc T=TokG s cl lock op inc T:=fun cl lock op inc T=>propext ⟨fun q=>aDi h.symm q (aE _),fun q=>aDi h q (aE _)⟩;unfold Fol at*;simp only[a,c,h];exact q
theorem On3.same{s s':Sx}{i:Int}{o o':On}(h:On3 s i o)(hbl:s'.bl=s.bl)(hop:s'.opx i=s.opx i)(hinc:(s'.cl i).inc=(s.cl i).inc)(htk:(s'.cl i).toks=(s.cl i).toks)
 (hk:o'.kind=o.kind) (hl:o'.lock=o.lock) (hm:o'.mine=o.mine) (hb:o'.att.bal=o.att.bal) (ha:o'.att.awaited=4→o.att.awaited=4∧o'.att.eres=o.att.eres∧o'.att.eown=o.att.eown∧o'.att.etok=o.att.etok):On3 s' i o':=by
 refine⟨fun x=>?_,fun x=>?_,fun k=>?_,fun k=>?_⟩
 ·rw[hbl,hop,hm];exact h.mine x
 ·rw[hbl,hop,hinc,hb];exact h.ops x
 ·rw[hbl,htk,hl,hm];exact h.mt (by rw[←hk];exact k)
 ·obtain⟨b,d,c,a⟩:=ha k;have:=h.ew b;rw[hbl,hb,d,c,a];exact this.bl hbl
theorem aCT{t e:List Ev}{c:Int}(h:∀x ∈ e,¬Tch x c){k:Nat}(h0:t.length≤k)(h1:k≤t.length+e.length):gY (t++e) k c=gY t t.length c:=by
 have b:t++e=(t++e.take (k-t.length))++e.drop (k-t.length):=by rw[aS,bV]
 have a:(t++e.take (k-t.length)).length=k:=by rw[aD,aZ];omega
 have:=lS c (e.take (k-t.length)) t (fun x hx=>h x (List.mem_of_mem_take hx));rw[a]at this;rw[b,lC _ _ _ _ (by omega)];exact this
theorem I3.calm{f:Cf}{s s':Sx}(h1:I1 f s)(h:I3 f s)(hx:Ext s s')(hl:aBW s s'){e:List Ev}(ht:s'.tr=s.tr++e)(hop:s'.opx=s.opx)
 (he:∀x ∈ e,x.kind≠2∧x.kind≠3∧(∀i,0≤i→i<f.clients→¬Tch x i)∧(x.kind=1→x.msg.kind≠3))
 (hd:∀i,0≤i→i<f.clients→(s'.cl i).doing.isSome=(s.cl i).doing.isSome∧(s'.cl i).inc=(s.cl i).inc∧(s'.cl i).toks=(s.cl i).toks)
 (hon:∀i,0≤i→i<f.clients→∀o,(s'.cl i).doing=some o→On3 s' i o)
 (hask:∀b,(s'.bl b).asked=true→(s.bl b).asked=true):I3 f s':=by
 have a:s'.tr.length=s.tr.length+e.length:=by rw[ht,aD]
 refine h.go h1 hx hl ht (fun i i0 i1=>?_) (fun k x hk hge hxe=>?_) hon (fun i i0 i1 l hl'=>?_) (fun b hb hn=>by rw[hask b hb]at hn;cases hn)
 ·rw[ht,lS _ _ _ (fun x hxe=>(he x hxe).2.2.1 i i0 i1),h.dn i i0 i1,hop];have:=(hd i i0 i1).1;cases q:(s'.cl i).doing<;>cases q':(s.cl i).doing<;>rw[q,q']at this<;>simp at this<;>rfl
 ·obtain⟨g,n,p,j⟩:=he x hxe;exact⟨fun q=>absurd q g,fun q q'=>absurd q' (j q),fun q=>absurd q n⟩
 ·obtain⟨m,c,d⟩:=hd i i0 i1;rw[d]at hl'⊢;have:=h.tk i i0 i1 l hl';rw[m,c,hop];refine this.ext hx ?_;split
  ·exact aE _
  ·omega
theorem aE6(c:Ct)(o:On)(res tok:Int)(v:Vl)(l:Int):(fT c o res tok v).toks l=if res=1 then(if o.kind=3 then(if l=o.lock then 0 else c.toks l)else(if l=o.lock then tok else c.toks l))else if res=3 then(if l=o.lock then 0 else c.toks l)else c.toks l:=by
 unfold fT kD nZ lW;dsimp only;by_cases b:res=1
 ·rw[if_pos b,if_pos b];by_cases a:o.kind=3
  ·rw[if_pos a,if_pos a];rfl
  ·rw[if_neg a,if_neg a];rfl
 ·rw[if_neg b,if_neg b];by_cases a:res=3
  ·rw[if_pos a,if_pos a];rfl
  ·rw[if_neg a,if_neg a]
   repeat' split
   all_goals rfl
theorem aFX(c:Ct)(k l t:Int):(dJ c k l t).toks=c.toks:=by
 unfold dJ
 repeat' split
 all_goals rfl
theorem sH{c:Ct}{o:On}{k b:Int}{v:Vl}{n:Nat}:∀x ∈ fA c o k b v n,x.kind=1∧x.msg.kind=k∧x.msg.src=c.num∧x.msg.bal=o.att.bal:=fun x hx=>by
 obtain⟨d,_,rfl⟩:=bL.1 hx;exact⟨rfl,rfl,rfl,rfl⟩
theorem xL{x:Ev}{k:Int}(h:x.kind=k)(hk:k=1∨k=5)(c:Int):¬Tch x c:=by
 unfold Tch;omega
theorem aHv{f:Cf}(hf:f.clients≤4){s:Sx}(h0:I0 f s)(h1:I1 f s)(h:I3 f s){i:Int}{o:On}(i0:0≤i)(i1:i<f.clients)(hu:(s.cl i).up=true)(hd:(s.cl i).doing=some o):I3 f (iP f s i o):=by
 have n:=aDt (o:=o) hf h0 h1 i0 i1 hu;have D:=h0.new_unused hf i0 i1 hu;obtain⟨J,H,K,L⟩:=h0.round_bal hf i0 i1;have r:∀b,b≠(hO (s.cl i)).bal→(iP f s i o).bl b=s.bl b:=fun b hb=>fJ _ _ hb;have v:(iP f s i o).bl (hO (s.cl i)).bal=⟨true,s.opx i,i,o.lock,o.kind,o.ttl,o.began,s.tr.length,false,0,zVl,zVl,0⟩:=eW _ _ _;have d:∀b,((iP f s i o).bl b).asked=true→(s.bl b).asked=true:=fun b hb=>by
  by_cases q:b=(hO (s.cl i)).bal
  ·rw[q,v]at hb;cases hb
  ·rwa [r b q]at hb
 have A:aBW s (iP f s i o):=fun x n=>Or.inl (d x n);have t:∀x,(s.bl x).asked=true→(iP f s i o).bl x=s.bl x:=n.ask;have m:∀(p:Nat) (c x:Int),(((iP f s i o).bl x).asked=true∧((iP f s i o).bl x).op=p∧((iP f s i o).bl x).cl=c∧Mkd ((iP f s i o).bl x) x)↔((s.bl x).asked=true∧(s.bl x).op=p∧(s.bl x).cl=c∧Mkd (s.bl x) x):=fun p c x=>by
  constructor
  ·intro q;have:=d x q.1;rw[t x this]at q;exact q
  ·intro q;rw[t x q.1];exact q
 refine h.calm h1 n A (e:=fA (s.cl i) (eH o (s.cl i)) 1 0 zVl (dI f)) rfl rfl (fun x n=>?_) (fun j j0 j1=>?_) (fun j j0 j1 p hp=>?_) d
 ·obtain⟨E,M,_⟩:=sH x n;exact⟨by omega,by omega,fun c _ _=>xL E (Or.inl rfl) c,fun _=>by omega⟩
 ·by_cases q:j=i
  ·subst q;rw[show(iP f s j o).cl j={s.cl j with round:=(s.cl j).round+1,doing:=some (eH o (s.cl j))}from eW _ _ _];exact⟨by rw[hd];rfl,rfl,rfl⟩
  ·rw[show(iP f s i o).cl j=s.cl j from fJ _ _ q];exact⟨rfl,rfl,rfl⟩
 ·have u:(iP f s i o).opx=s.opx:=rfl;by_cases q:j=i
  ·subst q;have a:(iP f s j o).cl j={s.cl j with round:=(s.cl j).round+1,doing:=some (eH o (s.cl j))}:=eW _ _ _;rw[a]at hp;cases hp;have l:=h.on j j0 j1 o hd;refine⟨fun x=>?_,fun x xu xc xo=>?_,fun k x hxm=>?_,fun k=>absurd (show(2:Int)=4 from k) (by decide)⟩
   ·rw[m,u];exact l.mine x
   ·rw[a];show x / 4 % 64=(s.cl j).inc∧x≤(hO (s.cl j)).bal;by_cases q:x=(hO (s.cl j)).bal
    ·rw[q];exact⟨H,aL _⟩
    ·rw[r x q]at xu xc xo;have B:=(l.ops x xu xc xo).1;have F:=h0.fr2 x xu (by rw[xc];exact B) (by rw[xc];exact hu);have I:=(h0.fr0 x xu).2.2.2;rw[xc]at F I;refine⟨B,?_⟩;show x≤((s.cl j).round+1)*256+(s.cl j).inc*4+(s.cl j).num;rw[h0.num j j0 j1];omega
   ·have y:=(l.mine x).1 hxm;rw[t x y.1,a];exact l.mt k x hxm
  ·rw[show(iP f s i o).cl j=s.cl j from fJ _ _ q]at hp;have l:=h.on j j0 j1 p hp;have a:(iP f s i o).cl j=s.cl j:=fJ _ _ q;refine⟨fun x=>?_,fun x xu xc xo=>?_,fun k x hxm=>?_,fun k=>?_⟩
   ·rw[m,u];exact l.mine x
   ·rw[a];by_cases C:x=(hO (s.cl i)).bal
    ·rw[C,v]at xc;exact absurd xc.symm q
    ·rw[r x C]at xu xc xo;exact l.ops x xu xc xo
   ·have y:=(l.mine x).1 hxm;rw[t x y.1,a];exact l.mt k x hxm
   ·have G:=l.ew k;have w:(s.bl p.att.bal).used=true:=by
     rcases h0.bal j j0 j1 p hp with z|⟨z,_⟩
     ·omega
     ·exact z
    have g:(s.bl p.att.bal).asked=true:=((h1.on j j0 j1 p hp).ask (by have:=(h0.fr0 _ w).1;omega)).2 k;have:=G.ext n A g w;rw[t _ g]at this⊢;exact this
theorem aAX{f:Cf}(hf:f.clients≤4)(hff:0≤f.f){gd:Bool}{s s':Sx}(h0:I0 f s)(h1:I1 f s)(h:I3 f s){e:List Ev}(hbl:s'.bl=s.bl)(htr:s'.tr=s.tr++e)(hop:s'.opx=s.opx)
 (he:∀x ∈ e,(x.kind=1∧x.msg.kind≠3)∨x.kind=5∨(x.kind=4∧0≤x.node))
 (hcl:∀j,0≤j→j<f.clients→(s'.cl j).inc=(s.cl j).inc∧(s'.cl j).toks=(s.cl j).toks∧(s'.cl j).doing.isSome=(s.cl j).doing.isSome∧
  ∀o',(s'.cl j).doing=some o'→∃o,(s.cl j).doing=some o∧o'.kind=o.kind∧o'.lock=o.lock∧o'.mine=o.mine∧o'.att.bal=o.att.bal∧(o'.att.awaited=4→o.att.awaited=4∧o'.att.eres=o.att.eres∧o'.att.eown=o.att.eown∧o'.att.etok=o.att.etok)):I3 f s':=by
 refine h.calm h1 (Ext.of_bl ⟨e,htr⟩ hbl) (wE hbl) htr hop (fun x hx=>?_) (fun j j0 j1=>⟨(hcl j j0 j1).2.2.1,(hcl j j0 j1).1,(hcl j j0 j1).2.1⟩) (fun j j0 j1 p hp=>?_) (fun b hb=>by rwa [hbl]at hb)
 ·rcases he x hx with⟨a,b⟩|a|⟨a,b⟩
  ·exact⟨by omega,by omega,fun c _ _=>xL a (Or.inl rfl) c,fun _=>b⟩
  ·exact⟨by omega,by omega,fun c _ _=>xL a (Or.inr rfl) c,fun q=>by omega⟩
  ·exact⟨by omega,by omega,fun c _ _ q=>by unfold Tch at q;omega,fun q=>by omega⟩
 ·obtain⟨t,g,_,m⟩:=hcl j j0 j1;obtain⟨o,k,d,i,l,n,r⟩:=m p hp;exact(h.on j j0 j1 o k).same hbl (by rw[hop]) t g d i l n r
section
variable {f:Cf}
theorem I3.other{s s':Sx}(h:I3 f s){i:Int}{c:Ct}(hbl:s'.bl=s.bl)(hcl:s'.cl=upd s.cl i c)(hop:∀j,j≠i→s'.opx j=s.opx j){j:Int}(j0:0≤j)(j1:j<f.clients)(hj:j≠i){o:On}(ho:(s'.cl j).doing=some o):On3 s' j o:=by
 have e:s'.cl j=s.cl j:=by rw[hcl];exact fJ _ _ hj
 rw[e]at ho;exact(h.on j j0 j1 o ho).same hbl (hop j hj) (by rw[e]) (by rw[e]) rfl rfl rfl rfl (fun k=>⟨k,rfl,rfl,rfl⟩)
theorem I3.otherTk{s s':Sx}(h:I3 f s){i:Int}{c:Ct}(hx:Ext s s')(hcl:s'.cl=upd s.cl i c)(hop:∀j,j≠i→s'.opx j=s.opx j){j:Int}(j0:0≤j)(j1:j<f.clients)(hj:j≠i)(l:Int)(hl:(s'.cl j).toks l≠0):
 TokG s' j l (if(s'.cl j).doing.isSome=true then s'.opx j else s'.tr.length) (s'.cl j).inc ((s'.cl j).toks l):=by
 have e:s'.cl j=s.cl j:=by rw[hcl];exact fJ _ _ hj
 rw[e]at hl⊢;refine(h.tk j j0 j1 l hl).ext hx ?_;have:=hx.len;rw[hop j hj];split
 ·exact aE _
 ·exact this
theorem aFb{s:Sx}(h0:I0 f s)(h1:I1 f s)(h:I3 f s){i k l t:Int}(i0:0≤i)(i1:i<f.clients)(hd:(s.cl i).doing=none):I3 f (gQ s i k l t):=by
 obtain⟨w,g⟩:=mY {s.cl i with doing:=some (dT (s.cl i) k l t)} k l t;have u:Ext s (gQ s i k l t):=Ext.of_bl ⟨_,rfl⟩ rfl;have r:=h0.num i i0 i1;have m:(gQ s i k l t).tr=s.tr++[gW (s.cl i).num (dT (s.cl i) k l t)]:=rfl;have d:∀j,(gQ s i k l t).opx j=if j=i then s.tr.length else s.opx j:=fun j=>rfl
 have a:(gQ s i k l t).cl=upd s.cl i (dJ {s.cl i with doing:=some (dT (s.cl i) k l t)} k l t):=rfl;have c:(gW (s.cl i).num (dT (s.cl i) k l t)).node=i:=r;refine h.go h1 u (wE rfl) (e:=[gW (s.cl i).num (dT (s.cl i) k l t)]) rfl (fun j j0 j1=>?_) (fun n x hn hge hxe=>?_) (fun j j0 j1 o ho=>?_) (fun j j0 j1 l' hl'=>?_) (fun b hb hn=>by rw[show(gQ s i k l t).bl=s.bl from rfl,hn]at hb;cases hb)
 ·rw[m,aD,aK,sE,d,c];by_cases q:j=i
  ·subst q;rw[if_pos ⟨rfl,rfl⟩,if_pos rfl,a,eW,g];rfl
  ·rw[if_neg (fun z=>q z.2.symm),if_neg (fun z=>by
    rcases z with z|z
    ·exact q z.2.symm
    ·exact absurd (show(2:Int)=4 from z.1) (by decide)),if_neg q,a,fJ _ _ q]
   exact h.dn j j0 j1
 ·rw[List.mem_singleton]at hxe;subst hxe;have v:n=s.tr.length:=by
   rw[m]at hn;have:=(aF.1 hn).1;rw[aD,aK]at this;omega
  refine⟨fun _=>⟨by rw[c];exact⟨i0,i1⟩,?_⟩,fun q=>absurd (show(2:Int)=1 from q) (by decide),fun q=>absurd (show(2:Int)=3 from q) (by decide)⟩;rw[c,v,m,lC _ _ _ _ (aE _),h.dn i i0 i1,hd];rfl
 ·by_cases q:j=i
  ·subst q;rw[a,eW,g]at ho;cases ho;have p:∀x,(s.bl x).used=true→(s.bl x).op≠s.tr.length:=fun x hu e=>by
    have:=(h1.bg x hu).op;have:=(h1.bg x hu).t0;omega
   refine⟨fun x=>⟨fun q=>(by cases q),fun q=>?_⟩,fun x xu xc xo=>?_,fun _ x hxm=>(by cases hxm),fun q=>absurd (show(0:Int)=4 from q) (by decide)⟩
   ·rw[d,if_pos rfl]at q;exact absurd q.2.1 (p x (h1.ask x q.1))
   ·rw[d,if_pos rfl]at xo;exact absurd xo (p x xu)
  ·exact h.other (s':=gQ s i k l t) rfl a (fun j hj=>by rw[d,if_neg hj]) j0 j1 q ho
 ·by_cases q:j=i
  ·subst q;have et:((gQ s j k l t).cl j).toks=(s.cl j).toks:=by rw[a,eW,aFX]
   have y:((gQ s j k l t).cl j).inc=(s.cl j).inc:=by rw[a,eW,w.inc]
   rw[et]at hl'⊢;have:=h.tk j j0 j1 l' hl';rw[hd]at this;rw[y,a,eW,g,d,if_pos rfl];exact this.ext u (aE _)
  ·exact h.otherTk u a (fun j hj=>by rw[d,if_neg hj]) j0 j1 q l' hl'
theorem I3.ended{s s':Sx}(h1:I1 f s)(h:I3 f s){i:Int}(i0:0≤i)(i1:i<f.clients){c:Ct}{x:Ev}(hbl:s'.bl=s.bl)(hcl:s'.cl=upd s.cl i c)(hop:s'.opx=s.opx)(htr:s'.tr=s.tr++[x])(hc:c.doing=none)
 (hx:(x.kind=3∧x.node=i)∨(x.kind=4∧x.node= -1-i))
 (hen:x.kind=3→∃j,gY s.tr s.tr.length i=some j∧(x.res≤4→EndI f s' s.tr.length x j))
 (htk:∀l,c.toks l≠0→TokG s i l s.tr.length c.inc (c.toks l)):I3 f s':=by
 have a:Ext s s':=Ext.of_bl ⟨_,htr⟩ hbl;refine h.go h1 a (wE hbl) htr (fun j j0 j1=>?_) (fun n y hn hge hye=>?_) (fun j j0 j1 o ho=>?_) (fun j j0 j1 l' hl'=>?_) (fun b hb hn=>by rw[hbl,hn]at hb;cases hb)
 ·rw[htr,aD,aK,sE,hop,hcl];by_cases q:j=i
  ·subst q;rw[if_neg (by omega),if_pos hx,eW,hc];rfl
  ·rw[if_neg (by omega),if_neg (by omega),fJ _ _ q];exact h.dn j j0 j1
 ·rw[List.mem_singleton]at hye;subst hye;have g:n=s.tr.length:=by
   rw[htr]at hn;have:=(aF.1 hn).1;rw[aD,aK]at this;omega
  refine⟨fun q=>by omega,fun q=>by omega,fun q=>?_⟩;have e:y.node=i:=by omega
  obtain⟨j,d,w⟩:=hen q;exact⟨by omega,j,by rw[e,g,htr,lC _ _ _ _ (aE _)];exact d,fun r=>by rw[g];exact w r⟩
 ·by_cases q:j=i
  ·subst q;rw[hcl,eW,hc]at ho;cases ho
  ·exact h.other hbl hcl (fun j _=>by rw[hop]) j0 j1 q ho
 ·by_cases q:j=i
  ·subst q;have k:s'.cl j=c:=by rw[hcl,eW]
   rw[k]at hl'⊢;rw[hc];exact(htk l' hl').ext a a.len
  ·exact h.otherTk a hcl (fun j _=>by rw[hop]) j0 j1 q l' hl'
theorem aGI{s:Sx}(h0:I0 f s)(h1:I1 f s)(h:I3 f s){i:Int}{o:On}{res:Int}(i0:0≤i)(i1:i<f.clients)(hd:(s.cl i).doing=some o)(hr:res=5∨res=6):I3 f (tN s i o res):=by
 refine h.ended h1 i0 i1 (c:={s.cl i with doing:=none}) (x:=fZ (s.cl i).num o res 0 0) rfl rfl rfl rfl rfl (Or.inl ⟨rfl,h0.num i i0 i1⟩) (fun _=>⟨s.opx i,by rw[h.dn i i0 i1,hd];rfl,fun q=>?_⟩) (fun l hl=>?_)
 ·have:res≤4:=q;omega
 ·have:=h.tk i i0 i1 l hl;rw[hd]at this;have a:=h1.ol i;exact this.ext (Ext.of_bl (s:=s) (s':=s) ⟨[],(aC _).symm⟩ rfl) (by simpa using a)
theorem aGv{s:Sx}(h0:I0 f s)(h1:I1 f s)(h:I3 f s){i:Int}(i0:0≤i)(i1:i<f.clients)(hu:(s.cl i).up=true):I3 f (rG s i):=by
 refine h.ended h1 i0 i1 (c:=lY (s.cl i)) (x:=gJ (-1-(s.cl i).num)) rfl rfl rfl (by
  show s.tr++lO (s.cl i)=_;unfold lO;rw[if_neg (by rw[hu];decide)]) (by rw[sT hu]) (Or.inr ⟨rfl,by rw[h0.num i i0 i1];rfl⟩) (fun q=>absurd (show(4:Int)=3 from q) (by decide)) (fun l hl=>?_)
 rw[sT hu]at hl;exact absurd rfl hl
theorem aGX{s:Sx}(h0:I0 f s)(h1:I1 f s)(h2:I2 f s)(h:I3 f s){i:Int}{o:On}(i0:0≤i)(i1:i<f.clients)(hd:(s.cl i).doing=some o)(h4:o.att.awaited=4)(hq:f.f<o.att.ans.length):I3 f (pO s i o):=by
 have n:=h1.on i i0 i1 o hd;have O:=h.on i i0 i1 o hd;have D:=h2.on i i0 i1 o hd;obtain⟨S,H⟩:=qC (s.cl i) o o.att.eres o.att.etok o.att.val;obtain⟨I,d,t⟩:(s.bl o.att.bal).used=true∧(s.bl o.att.bal).cl=i∧o.att.bal / 4 % 64=(s.cl i).inc:=by
  rcases h0.bal i i0 i1 o hd with y|⟨y,T,p,_⟩
  ·omega
  ·exact⟨y,T,p⟩
 have z:o.att.bal≠0:=by have:=(h0.fr0 _ I).1;omega
 obtain⟨C,G,B,Q,U⟩:=n.lk z;have r:(s.bl o.att.bal).asked=true:=(n.ask z).2 h4;have N:=O.ew h4;have b:s.opx i<s.tr.length:=(aF.1 n.ev).1;have g:Ext s s:=Ext.of_bl (s:=s) (s':=s) ⟨[],(aC _).symm⟩ rfl;have J:Ext s (pO s i o):=Ext.of_bl ⟨_,rfl⟩ rfl;refine h.ended h1 i0 i1 (c:=fT (s.cl i) o o.att.eres o.att.etok o.att.val) (x:=fZ (s.cl i).num o o.att.eres o.att.eown o.att.etok) rfl rfl rfl rfl H (Or.inl ⟨rfl,h0.num i i0 i1⟩) (fun _=>⟨s.opx i,by rw[h.dn i i0 i1,hd];rfl,fun _=>?_⟩) (fun l hl=>?_)
 ·refine⟨r,C,by show(s.bl o.att.bal).cl=(s.cl i).num;rw[d,h0.num i i0 i1],B,G,Q,(by have:=Fol.bl (s:=s) (s':=pO s i o) rfl N;exact this),o.att.ans,D.nd,hq,fun j hj=>⟨(D.ac h4 j hj).1,(D.ac h4 j hj).2.mono J (aL _) (aE _)⟩⟩
 ·rw[S.inc];rw[aE6]at hl⊢;have a:(s.cl i).toks l≠0→TokG s i l s.tr.length (s.cl i).inc ((s.cl i).toks l):=fun q=>by
   have:=h.tk i i0 i1 l q;rw[hd]at this;exact this.ext g (by simpa using Nat.le_of_lt b)
  by_cases y:o.att.eres=1
  ·rw[if_pos y]at hl⊢;by_cases p:o.kind=3
   ·rw[if_pos p]at hl⊢;by_cases m:l=o.lock
    ·rw[if_pos m]at hl;exact absurd rfl hl
    ·rw[if_neg m]at hl⊢;exact a hl
   ·rw[if_neg p]at hl⊢;by_cases m:l=o.lock
    ·rw[if_pos m]at hl⊢;rw[m];have u:∀x,(s.bl x).used=true→(s.bl x).op=s.opx i→(s.bl x).lock=o.lock∧(s.bl x).kind=o.kind:=fun x xu xo=>by
      have P:=(h1.bg x xu).ev;rw[xo,n.ev]at P;have v:=aN P;exact⟨(congrArg Ev.olock v).symm,(congrArg Ev.okind v).symm⟩
     rcases N.2 with⟨k,q⟩|⟨k,q⟩|⟨k,q⟩|⟨k,q⟩
     ·rcases q with⟨⟨F,A,K,V,w⟩,_,_,_,et⟩|⟨_,⟨L,_,_,et⟩|⟨_,_,_,v,_⟩⟩
      ·have e:o.att.etok=(s.bl o.att.bal).pv.tok:=et;rw[e];rw[C]at A;obtain⟨R,M⟩:=u _ (h1.ask _ F) A;refine⟨F,by rw[K,d],R,by rw[M,←B,k],?_,by rw[A];exact b,(O.ops _ (h1.ask _ F) (by rw[K,d]) A).1⟩;rcases w with w|w
       ·exact w.2
       ·rw[M,←B,k]at w;exact absurd w.1 (by decide)
      ·have e:o.att.etok=o.att.bal:=et;rw[e];exact⟨r,d,G,k,by rw[L],by rw[C];exact b,t⟩
      ·have:o.att.eres=2:=v;omega
     ·rcases q with⟨_,E,_,_,_,et⟩|⟨_,v,_⟩
      ·have e:o.att.etok=(s.bl o.att.bal).pv.tok:=et;rw[e,←G,←d];rw[t]at E;rw[d]at E⊢;exact E.ext g (by rw[C];exact Nat.le_of_lt b)
      ·have:o.att.eres=3:=v;omega
     ·exact absurd (B.symm.trans k) p
     ·have:o.att.eres=4:=q.2.1;omega
    ·rw[if_neg m]at hl⊢;exact a hl
  ·rw[if_neg y]at hl⊢;by_cases p:o.att.eres=3
   ·rw[if_pos p]at hl⊢;by_cases m:l=o.lock
    ·rw[if_pos m]at hl;exact absurd rfl hl
    ·rw[if_neg m]at hl⊢;exact a hl
   ·rw[if_neg p]at hl⊢;exact a hl
end
end Go.Proofs.YtbbdgokdfhdpiaaGreatDoor
