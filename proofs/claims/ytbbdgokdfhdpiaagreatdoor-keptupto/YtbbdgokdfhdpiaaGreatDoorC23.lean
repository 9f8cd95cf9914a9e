/- A part of the proof: Pax3, Pax4, Pax5, Pax6. -/
import Derived.Test.YtbbdgokdfhdpiaaGreatDoorC21
namespace Go.Proofs.YtbbdgokdfhdpiaaGreatDoor
set_option linter.all false
set_option maxRecDepth 100000
set_option maxHeartbeats 40000000
open Go.Proofs.Tryz Go.RowKit
def Bd(s:Sx):Prop:=∀b,(s.bl b).asked=true→0≤(s.bl b).val.tok∧(s.bl b).val.tok≤b∧0≤(s.bl b).val.seq∧(s.bl b).val.seq≤b∧0≤(s.bl b).val.ttl∧(s.bl b).val.ttl≤1000
theorem Bd.valB{s:Sx}(h:Bd s){b:Int}(hb:b=0∨(s.bl b).asked=true)(h0:0≤b):0≤(valB s b).tok∧(valB s b).tok≤b∧0≤(valB s b).seq∧(valB s b).seq≤b∧0≤(valB s b).ttl∧(valB s b).ttl≤1000:=by
 unfold Go.Proofs.YtbbdgokdfhdpiaaGreatDoor.valB;split
 ·rename_i q;subst q;exact⟨aL _,aL _,aL _,aL _,aL _,by decide⟩
 ·rename_i q;exact h b (hb.resolve_left q)
theorem aFO{f:Cf}(hf:f.clients≤4)(hff:0≤f.f){gd:Bool}{s s':Sx}(h0:I0 f s)(h1:I1 f s)(h2:I2 f s)(hon:∀i,0≤i→i<f.clients→∀o,(s.cl i).doing=some o→o.ttl≤1000)(h:Bd s)(hs:Mi f gd s s'):Bd s':=by
 refine hs.ways (P:=Bd) h0 ?still ?began ?att ?hear ?prop ?acc
 case still=>intro t u b a;rw[u.bl]at a⊢;exact h b a
 case began=>intro i k l t _ _ _ _ _ _ _ b a;exact h b a
 case att=>
  intro i o d g B c A b a;by_cases q:b=(hU (s.cl i)).bal
  ·subst q;rw[show(iG f s i o).bl (hU (s.cl i)).bal=_ from eK _ _ _]at a;cases a
  ·rw[show(iG f s i o).bl b=s.bl b from eY _ _ q]at a⊢;exact h b a
 case hear=>intro i o m _ _ _ _ _ _ _ _ _ b a;exact h b a
 case prop=>
  intro i o d g B c w E A b a;by_cases q:b=o.att.bal
  ·subst q;rw[show(hZ f s i o).bl o.att.bal=_ from eK _ _ _];show 0≤(cY f (s.cl i) o o.att.val).next.tok∧(cY f (s.cl i) o o.att.val).next.tok≤o.att.bal∧0≤(cY f (s.cl i) o o.att.val).next.seq∧(cY f (s.cl i) o o.att.val).next.seq≤o.att.bal∧0≤(cY f (s.cl i) o o.att.val).next.ttl∧(cY f (s.cl i) o o.att.val).next.ttl≤1000;obtain⟨z,F,y⟩:=(h2.on i d g o c).vl w;have n:=h1.on i d g o c;obtain⟨_,p,_,_⟩:=h1.unasked h0 d g c w;have r:=(h0.fr0 _ p).1;have C:=h.valB (y.imp id fun x=>x.1) n.e0;rw[←z]at C;have u:=hon i d g o c;have D:=n.t0;generalize o.att.val=v at*;unfold cY gM kS gE
   repeat' split
   all_goals first
    |(refine⟨?_,?_,?_,?_,?_,?_⟩<;>dsimp only[zVl]<;>omega)
  ·rw[show(hZ f s i o).bl b=s.bl b from eY _ _ q]at a⊢;exact h b a
 case acc=>intro j m e _ _ _ _ _ b a;exact h b a
theorem aCI{s s':Sx}(h:s'.bl=s.bl){cl lock inc T:Int}{op op':Nat}(q:TokG s cl lock op inc T)(ho:op≤op'):TokG s' cl lock op' inc T:=
 ⟨by rw[h];exact q.ask,by rw[h];exact q.cl,by rw[h];exact q.lk,by rw[h];exact q.k1,by rw[h];exact q.tk,by rw[h];exact aG q.op ho,q.inc⟩
theorem Fol.bl{s s':Sx}(h:s'.bl=s.bl){b:Int}{g:Bg}{w:Fw}(q:Fol s b g w):Fol s' b g w:=by
 have a:∀x,nP s' g b x=nP s g b x:=fun x=>by unfold nP;rw[h]
 have c:∀cl lock op inc T,TokG s' cl lock op inc T=TokG s cl lock op inc T:=fun cl lock op inc T=>propext ⟨fun q=>aCI h.symm q (aE _),fun q=>aCI h q (aE _)⟩;unfold Fol at*;simp only[a,c,h];exact q
theorem On3.same{s s':Sx}{i:Int}{o o':On}(h:On3 s i o)(hbl:s'.bl=s.bl)(hop:s'.opx i=s.opx i)(hinc:(s'.cl i).inc=(s.cl i).inc)(htk:(s'.cl i).toks=(s.cl i).toks)
 (hk:o'.kind=o.kind) (hl:o'.lock=o.lock) (hm:o'.mine=o.mine) (hb:o'.att.bal=o.att.bal) (ha:o'.att.awaited=4→o.att.awaited=4∧o'.att.eres=o.att.eres∧o'.att.eown=o.att.eown∧o'.att.etok=o.att.etok):On3 s' i o':=by
 refine⟨fun x=>?_,fun x=>?_,fun k=>?_,fun k=>?_⟩
 ·rw[hbl,hop,hm];exact h.mine x
 ·rw[hbl,hop,hinc,hb];exact h.ops x
 ·rw[hbl,htk,hl,hm];exact h.mt (by rw[←hk];exact k)
 ·obtain⟨b,d,c,a⟩:=ha k;have:=h.ew b;rw[hbl,hb,d,c,a];exact this.bl hbl
theorem aCm{t e:List Ev}{c:Int}(h:∀x ∈ e,¬Tch x c){k:Nat}(h0:t.length≤k)(h1:k≤t.length+e.length):gJ (t++e) k c=gJ t t.length c:=by
 have b:t++e=(t++e.take (k-t.length))++e.drop (k-t.length):=by rw[aS,bR]
 have a:(t++e.take (k-t.length)).length=k:=by rw[aD,aZ];omega
 have:=lP c (e.take (k-t.length)) t (fun x hx=>h x (List.mem_of_mem_take hx));rw[a]at this;rw[b,kW _ _ _ _ (by omega)];exact this
theorem I3.calm{f:Cf}{s s':Sx}(h1:I1 f s)(h:I3 f s)(hx:Ext s s')(hl:aBu s s'){e:List Ev}(ht:s'.tr=s.tr++e)(hop:s'.opx=s.opx)
 (he:∀x ∈ e,x.kind≠2∧x.kind≠3∧(∀i,0≤i→i<f.clients→¬Tch x i)∧(x.kind=1→x.msg.kind≠3))
 (hd:∀i,0≤i→i<f.clients→(s'.cl i).doing.isSome=(s.cl i).doing.isSome∧(s'.cl i).inc=(s.cl i).inc∧(s'.cl i).toks=(s.cl i).toks)
 (hon:∀i,0≤i→i<f.clients→∀o,(s'.cl i).doing=some o→On3 s' i o)
 (hask:∀b,(s'.bl b).asked=true→(s.bl b).asked=true):I3 f s':=by
 have a:s'.tr.length=s.tr.length+e.length:=by rw[ht,aD]
 refine h.go h1 hx hl ht (fun i i0 i1=>?_) (fun k x hk hge hxe=>?_) hon (fun i i0 i1 l hl'=>?_) (fun b hb hn=>by rw[hask b hb]at hn;cases hn)
 ·rw[ht,lP _ _ _ (fun x hxe=>(he x hxe).2.2.1 i i0 i1),h.dn i i0 i1,hop];have:=(hd i i0 i1).1;cases q:(s'.cl i).doing<;>cases q':(s.cl i).doing<;>rw[q,q']at this<;>simp at this<;>rfl
 ·obtain⟨g,n,p,j⟩:=he x hxe;exact⟨fun q=>absurd q g,fun q q'=>absurd q' (j q),fun q=>absurd q n⟩
 ·obtain⟨m,c,d⟩:=hd i i0 i1;rw[d]at hl'⊢;have:=h.tk i i0 i1 l hl';rw[m,c,hop];refine this.ext hx ?_;split
  ·exact aE _
  ·omega
theorem aEs(c:Ct)(o:On)(res tok:Int)(v:Vl)(l:Int):(fU c o res tok v).toks l=if res=1 then(if o.kind=3 then(if l=o.lock then 0 else c.toks l)else(if l=o.lock then tok else c.toks l))else if res=3 then(if l=o.lock then 0 else c.toks l)else c.toks l:=by
 unfold fU kH oU mX;dsimp only;by_cases b:res=1
 ·rw[if_pos b,if_pos b];by_cases a:o.kind=3
  ·rw[if_pos a,if_pos a];rfl
  ·rw[if_neg a,if_neg a];rfl
 ·rw[if_neg b,if_neg b];by_cases a:res=3
  ·rw[if_pos a,if_pos a];rfl
  ·rw[if_neg a,if_neg a]
   repeat' split
   all_goals rfl
theorem aFj(c:Ct)(k l t:Int):(dI c k l t).toks=c.toks:=by
 unfold dI
 repeat' split
 all_goals rfl
theorem rU{c:Ct}{o:On}{k b:Int}{v:Vl}{n:Nat}:∀x ∈ fD c o k b v n,x.kind=1∧x.msg.kind=k∧x.msg.src=c.num∧x.msg.bal=o.att.bal:=fun x hx=>by
 obtain⟨d,_,rfl⟩:=bL.1 hx;exact⟨rfl,rfl,rfl,rfl⟩
theorem wU{x:Ev}{k:Int}(h:x.kind=k)(hk:k=1∨k=5)(c:Int):¬Tch x c:=by
 unfold Tch;omega
theorem aGJ{f:Cf}(hf:f.clients≤4){s:Sx}(h0:I0 f s)(h1:I1 f s)(h:I3 f s){i:Int}{o:On}(i0:0≤i)(i1:i<f.clients)(hu:(s.cl i).up=true)(hd:(s.cl i).doing=some o):I3 f (iG f s i o):=by
 have n:=aCR (o:=o) hf h0 h1 i0 i1 hu;have D:=h0.new_unused hf i0 i1 hu;obtain⟨J,H,K,L⟩:=h0.round_bal hf i0 i1;have r:∀b,b≠(hU (s.cl i)).bal→(iG f s i o).bl b=s.bl b:=fun b hb=>eY _ _ hb;have v:(iG f s i o).bl (hU (s.cl i)).bal=⟨true,s.opx i,i,o.lock,o.kind,o.ttl,o.began,s.tr.length,false,0,zVl,zVl,0⟩:=eK _ _ _;have d:∀b,((iG f s i o).bl b).asked=true→(s.bl b).asked=true:=fun b hb=>by
  by_cases q:b=(hU (s.cl i)).bal
  ·rw[q,v]at hb;cases hb
  ·rwa [r b q]at hb
 have A:aBu s (iG f s i o):=fun x n=>Or.inl (d x n);have t:∀x,(s.bl x).asked=true→(iG f s i o).bl x=s.bl x:=n.ask;have m:∀(p:Nat) (c x:Int),(((iG f s i o).bl x).asked=true∧((iG f s i o).bl x).op=p∧((iG f s i o).bl x).cl=c∧Mkd ((iG f s i o).bl x) x)↔((s.bl x).asked=true∧(s.bl x).op=p∧(s.bl x).cl=c∧Mkd (s.bl x) x):=fun p c x=>by
  constructor
  ·intro q;have:=d x q.1;rw[t x this]at q;exact q
  ·intro q;rw[t x q.1];exact q
 refine h.calm h1 n A (e:=fD (s.cl i) (eV o (s.cl i)) 1 0 zVl (fS f)) rfl rfl (fun x n=>?_) (fun j j0 j1=>?_) (fun j j0 j1 p hp=>?_) d
 ·obtain⟨E,M,_⟩:=rU x n;exact⟨by omega,by omega,fun c _ _=>wU E (Or.inl rfl) c,fun _=>by omega⟩
 ·by_cases q:j=i
  ·subst q;rw[show(iG f s j o).cl j={s.cl j with round:=(s.cl j).round+1,doing:=some (eV o (s.cl j))}from eK _ _ _];exact⟨by rw[hd];rfl,rfl,rfl⟩
  ·rw[show(iG f s i o).cl j=s.cl j from eY _ _ q];exact⟨rfl,rfl,rfl⟩
 ·have u:(iG f s i o).opx=s.opx:=rfl;by_cases q:j=i
  ·subst q;have a:(iG f s j o).cl j={s.cl j with round:=(s.cl j).round+1,doing:=some (eV o (s.cl j))}:=eK _ _ _;rw[a]at hp;cases hp;have l:=h.on j j0 j1 o hd;refine⟨fun x=>?_,fun x xu xc xo=>?_,fun k x hxm=>?_,fun k=>absurd (show(2:Int)=4 from k) (by decide)⟩
   ·rw[m,u];exact l.mine x
   ·rw[a];show x / 4 % 64=(s.cl j).inc∧x≤(hU (s.cl j)).bal;by_cases q:x=(hU (s.cl j)).bal
    ·rw[q];exact⟨H,aL _⟩
    ·rw[r x q]at xu xc xo;have B:=(l.ops x xu xc xo).1;have F:=h0.fr2 x xu (by rw[xc];exact B) (by rw[xc];exact hu);have I:=(h0.fr0 x xu).2.2.2;rw[xc]at F I;refine⟨B,?_⟩;show x≤((s.cl j).round+1)*256+(s.cl j).inc*4+(s.cl j).num;rw[h0.num j j0 j1];omega
   ·have y:=(l.mine x).1 hxm;rw[t x y.1,a];exact l.mt k x hxm
  ·rw[show(iG f s i o).cl j=s.cl j from eY _ _ q]at hp;have l:=h.on j j0 j1 p hp;have a:(iG f s i o).cl j=s.cl j:=eY _ _ q;refine⟨fun x=>?_,fun x xu xc xo=>?_,fun k x hxm=>?_,fun k=>?_⟩
   ·rw[m,u];exact l.mine x
   ·rw[a];by_cases C:x=(hU (s.cl i)).bal
    ·rw[C,v]at xc;exact absurd xc.symm q
    ·rw[r x C]at xu xc xo;exact l.ops x xu xc xo
   ·have y:=(l.mine x).1 hxm;rw[t x y.1,a];exact l.mt k x hxm
   ·have G:=l.ew k;have w:(s.bl p.att.bal).used=true:=by
     rcases h0.bal j j0 j1 p hp with z|⟨z,_⟩
     ·omega
     ·exact z
    have g:(s.bl p.att.bal).asked=true:=((h1.on j j0 j1 p hp).ask (by have:=(h0.fr0 _ w).1;omega)).2 k;have:=G.ext n A g w;rw[t _ g]at this⊢;exact this
theorem aAw{f:Cf}(hf:f.clients≤4)(hff:0≤f.f){gd:Bool}{s s':Sx}(h0:I0 f s)(h1:I1 f s)(h:I3 f s){e:List Ev}(hbl:s'.bl=s.bl)(htr:s'.tr=s.tr++e)(hop:s'.opx=s.opx)
 (he:∀x ∈ e,(x.kind=1∧x.msg.kind≠3)∨x.kind=5∨(x.kind=4∧0≤x.node))
 (hcl:∀j,0≤j→j<f.clients→(s'.cl j).inc=(s.cl j).inc∧(s'.cl j).toks=(s.cl j).toks∧(s'.cl j).doing.isSome=(s.cl j).doing.isSome∧
  ∀o',(s'.cl j).doing=some o'→∃o,(s.cl j).doing=some o∧o'.kind=o.kind∧o'.lock=o.lock∧o'.mine=o.mine∧o'.att.bal=o.att.bal∧(o'.att.awaited=4→o.att.awaited=4∧o'.att.eres=o.att.eres∧o'.att.eown=o.att.eown∧o'.att.etok=o.att.etok)):I3 f s':=by
 refine h.calm h1 (Ext.of_bl ⟨e,htr⟩ hbl) (vQ hbl) htr hop (fun x hx=>?_) (fun j j0 j1=>⟨(hcl j j0 j1).2.2.1,(hcl j j0 j1).1,(hcl j j0 j1).2.1⟩) (fun j j0 j1 p hp=>?_) (fun b hb=>by rwa [hbl]at hb)
 ·rcases he x hx with⟨a,b⟩|a|⟨a,b⟩
  ·exact⟨by omega,by omega,fun c _ _=>wU a (Or.inl rfl) c,fun _=>b⟩
  ·exact⟨by omega,by omega,fun c _ _=>wU a (Or.inr rfl) c,fun q=>by omega⟩
  ·exact⟨by omega,by omega,fun c _ _ q=>by unfold Tch at q;omega,fun q=>by omega⟩
 ·obtain⟨t,g,_,m⟩:=hcl j j0 j1;obtain⟨o,k,d,i,l,n,r⟩:=m p hp;exact(h.on j j0 j1 o k).same hbl (by rw[hop]) t g d i l n r
section
variable {f:Cf}
theorem I3.other{s s':Sx}(h:I3 f s){i:Int}{c:Ct}(hbl:s'.bl=s.bl)(hcl:s'.cl=upd s.cl i c)(hop:∀j,j≠i→s'.opx j=s.opx j){j:Int}(j0:0≤j)(j1:j<f.clients)(hj:j≠i){o:On}(ho:(s'.cl j).doing=some o):On3 s' j o:=by
 have e:s'.cl j=s.cl j:=by rw[hcl];exact eY _ _ hj
 rw[e]at ho;exact(h.on j j0 j1 o ho).same hbl (hop j hj) (by rw[e]) (by rw[e]) rfl rfl rfl rfl (fun k=>⟨k,rfl,rfl,rfl⟩)
theorem I3.otherTk{s s':Sx}(h:I3 f s){i:Int}{c:Ct}(hx:Ext s s')(hcl:s'.cl=upd s.cl i c)(hop:∀j,j≠i→s'.opx j=s.opx j){j:Int}(j0:0≤j)(j1:j<f.clients)(hj:j≠i)(l:Int)(hl:(s'.cl j).toks l≠0):
 TokG s' j l (if(s'.cl j).doing.isSome=true then s'.opx j else s'.tr.length) (s'.cl j).inc ((s'.cl j).toks l):=by
 have e:s'.cl j=s.cl j:=by rw[hcl];exact eY _ _ hj
 rw[e]at hl⊢;refine(h.tk j j0 j1 l hl).ext hx ?_;have:=hx.len;rw[hop j hj];split
 ·exact aE _
 ·exact this
theorem aEy{s:Sx}(h0:I0 f s)(h1:I1 f s)(h:I3 f s){i k l t:Int}(i0:0≤i)(i1:i<f.clients)(hd:(s.cl i).doing=none):I3 f (gC s i k l t):=by
 obtain⟨w,g⟩:=mS {s.cl i with doing:=some (dY (s.cl i) k l t)} k l t;have u:Ext s (gC s i k l t):=Ext.of_bl ⟨_,rfl⟩ rfl;have r:=h0.num i i0 i1;have m:(gC s i k l t).tr=s.tr++[gU (s.cl i).num (dY (s.cl i) k l t)]:=rfl;have d:∀j,(gC s i k l t).opx j=if j=i then s.tr.length else s.opx j:=fun j=>rfl
 have a:(gC s i k l t).cl=upd s.cl i (dI {s.cl i with doing:=some (dY (s.cl i) k l t)} k l t):=rfl;have c:(gU (s.cl i).num (dY (s.cl i) k l t)).node=i:=r;refine h.go h1 u (vQ rfl) (e:=[gU (s.cl i).num (dY (s.cl i) k l t)]) rfl (fun j j0 j1=>?_) (fun n x hn hge hxe=>?_) (fun j j0 j1 o ho=>?_) (fun j j0 j1 l' hl'=>?_) (fun b hb hn=>by rw[show(gC s i k l t).bl=s.bl from rfl,hn]at hb;cases hb)
 ·rw[m,aD,aK,rR,d,c];by_cases q:j=i
  ·subst q;rw[if_pos ⟨rfl,rfl⟩,if_pos rfl,a,eK,g];rfl
  ·rw[if_neg (fun z=>q z.2.symm),if_neg (fun z=>by
    rcases z with z|z
    ·exact q z.2.symm
    ·exact absurd (show(2:Int)=4 from z.1) (by decide)),if_neg q,a,eY _ _ q]
   exact h.dn j j0 j1
 ·rw[List.mem_singleton]at hxe;subst hxe;have v:n=s.tr.length:=by
   rw[m]at hn;have:=(aF.1 hn).1;rw[aD,aK]at this;omega
  refine⟨fun _=>⟨by rw[c];exact⟨i0,i1⟩,?_⟩,fun q=>absurd (show(2:Int)=1 from q) (by decide),fun q=>absurd (show(2:Int)=3 from q) (by decide)⟩;rw[c,v,m,kW _ _ _ _ (aE _),h.dn i i0 i1,hd];rfl
 ·by_cases q:j=i
  ·subst q;rw[a,eK,g]at ho;cases ho;have p:∀x,(s.bl x).used=true→(s.bl x).op≠s.tr.length:=fun x hu e=>by
    have:=(h1.bg x hu).op;have:=(h1.bg x hu).t0;omega
   refine⟨fun x=>⟨fun q=>(by cases q),fun q=>?_⟩,fun x xu xc xo=>?_,fun _ x hxm=>(by cases hxm),fun q=>absurd (show(0:Int)=4 from q) (by decide)⟩
   ·rw[d,if_pos rfl]at q;exact absurd q.2.1 (p x (h1.ask x q.1))
   ·rw[d,if_pos rfl]at xo;exact absurd xo (p x xu)
  ·exact h.other (s':=gC s i k l t) rfl a (fun j hj=>by rw[d,if_neg hj]) j0 j1 q ho
 ·by_cases q:j=i
  ·subst q;have et:((gC s j k l t).cl j).toks=(s.cl j).toks:=by rw[a,eK,aFj]
   have y:((gC s j k l t).cl j).inc=(s.cl j).inc:=by rw[a,eK,w.inc]
   rw[et]at hl'⊢;have:=h.tk j j0 j1 l' hl';rw[hd]at this;rw[y,a,eK,g,d,if_pos rfl];exact this.ext u (aE _)
  ·exact h.otherTk u a (fun j hj=>by rw[d,if_neg hj]) j0 j1 q l' hl'
theorem I3.ended{s s':Sx}(h1:I1 f s)(h:I3 f s){i:Int}(i0:0≤i)(i1:i<f.clients){c:Ct}{x:Ev}(hbl:s'.bl=s.bl)(hcl:s'.cl=upd s.cl i c)(hop:s'.opx=s.opx)(htr:s'.tr=s.tr++[x])(hc:c.doing=none)
 (hx:(x.kind=3∧x.node=i)∨(x.kind=4∧x.node= -1-i))
 (hen:x.kind=3→∃j,gJ s.tr s.tr.length i=some j∧(x.res≤4→EndI f s' s.tr.length x j))
 (htk:∀l,c.toks l≠0→TokG s i l s.tr.length c.inc (c.toks l)):I3 f s':=by
 have a:Ext s s':=Ext.of_bl ⟨_,htr⟩ hbl;refine h.go h1 a (vQ hbl) htr (fun j j0 j1=>?_) (fun n y hn hge hye=>?_) (fun j j0 j1 o ho=>?_) (fun j j0 j1 l' hl'=>?_) (fun b hb hn=>by rw[hbl,hn]at hb;cases hb)
 ·rw[htr,aD,aK,rR,hop,hcl];by_cases q:j=i
  ·subst q;rw[if_neg (by omega),if_pos hx,eK,hc];rfl
  ·rw[if_neg (by omega),if_neg (by omega),eY _ _ q];exact h.dn j j0 j1
 ·rw[List.mem_singleton]at hye;subst hye;have g:n=s.tr.length:=by
   rw[htr]at hn;have:=(aF.1 hn).1;rw[aD,aK]at this;omega
  refine⟨fun q=>by omega,fun q=>by omega,fun q=>?_⟩;have e:y.node=i:=by omega
  obtain⟨j,d,w⟩:=hen q;exact⟨by omega,j,by rw[e,g,htr,kW _ _ _ _ (aE _)];exact d,fun r=>by rw[g];exact w r⟩
 ·by_cases q:j=i
  ·subst q;rw[hcl,eK,hc]at ho;cases ho
  ·exact h.other hbl hcl (fun j _=>by rw[hop]) j0 j1 q ho
 ·by_cases q:j=i
  ·subst q;have k:s'.cl j=c:=by rw[hcl,eK]
   rw[k]at hl'⊢;rw[hc];exact(htk l' hl').ext a a.len
  ·exact h.otherTk a hcl (fun j _=>by rw[hop]) j0 j1 q l' hl'
theorem aF1{s:Sx}(h0:I0 f s)(h1:I1 f s)(h:I3 f s){i:Int}{o:On}{res:Int}(i0:0≤i)(i1:i<f.clients)(hd:(s.cl i).doing=some o)(hr:res=5∨res=6):I3 f (tC s i o res):=by
 refine h.ended h1 i0 i1 (c:={s.cl i with doing:=none}) (x:=fM (s.cl i).num o res 0 0) rfl rfl rfl rfl rfl (Or.inl ⟨rfl,h0.num i i0 i1⟩) (fun _=>⟨s.opx i,by rw[h.dn i i0 i1,hd];rfl,fun q=>?_⟩) (fun l hl=>?_)
 ·have:res≤4:=q;omega
 ·have:=h.tk i i0 i1 l hl;rw[hd]at this;have a:=h1.ol i;exact this.ext (Ext.of_bl (s:=s) (s':=s) ⟨[],(aC _).symm⟩ rfl) (by simpa using a)
theorem aFP{s:Sx}(h0:I0 f s)(h1:I1 f s)(h:I3 f s){i:Int}(i0:0≤i)(i1:i<f.clients)(hu:(s.cl i).up=true):I3 f (qZ s i):=by
 refine h.ended h1 i0 i1 (c:=lT (s.cl i)) (x:=fW (-1-(s.cl i).num)) rfl rfl rfl (by
  show s.tr++lL (s.cl i)=_;unfold lL;rw[if_neg (by rw[hu];decide)]) (by rw[sF hu]) (Or.inr ⟨rfl,by rw[h0.num i i0 i1];rfl⟩) (fun q=>absurd (show(4:Int)=3 from q) (by decide)) (fun l hl=>?_)
 rw[sF hu]at hl;exact absurd rfl hl
theorem aGd{s:Sx}(h0:I0 f s)(h1:I1 f s)(h2:I2 f s)(h:I3 f s){i:Int}{o:On}(i0:0≤i)(i1:i<f.clients)(hd:(s.cl i).doing=some o)(h4:o.att.awaited=4)(hq:f.f<o.att.ans.length):I3 f (pO s i o):=by
 have n:=h1.on i i0 i1 o hd;have O:=h.on i i0 i1 o hd;have D:=h2.on i i0 i1 o hd;obtain⟨S,H⟩:=qA (s.cl i) o o.att.eres o.att.etok o.att.val;obtain⟨I,d,t⟩:(s.bl o.att.bal).used=true∧(s.bl o.att.bal).cl=i∧o.att.bal / 4 % 64=(s.cl i).inc:=by
  rcases h0.bal i i0 i1 o hd with y|⟨y,T,p,_⟩
  ·omega
  ·exact⟨y,T,p⟩
 have z:o.att.bal≠0:=by have:=(h0.fr0 _ I).1;omega
 obtain⟨C,G,B,Q,U⟩:=n.lk z;have r:(s.bl o.att.bal).asked=true:=(n.ask z).2 h4;have N:=O.ew h4;have b:s.opx i<s.tr.length:=(aF.1 n.ev).1;have g:Ext s s:=Ext.of_bl (s:=s) (s':=s) ⟨[],(aC _).symm⟩ rfl;have J:Ext s (pO s i o):=Ext.of_bl ⟨_,rfl⟩ rfl;refine h.ended h1 i0 i1 (c:=fU (s.cl i) o o.att.eres o.att.etok o.att.val) (x:=fM (s.cl i).num o o.att.eres o.att.eown o.att.etok) rfl rfl rfl rfl H (Or.inl ⟨rfl,h0.num i i0 i1⟩) (fun _=>⟨s.opx i,by rw[h.dn i i0 i1,hd];rfl,fun _=>?_⟩) (fun l hl=>?_)
 ·refine⟨r,C,by show(s.bl o.att.bal).cl=(s.cl i).num;rw[d,h0.num i i0 i1],B,G,Q,(by have:=Fol.bl (s:=s) (s':=pO s i o) rfl N;exact this),o.att.ans,D.nd,hq,fun j hj=>⟨(D.ac h4 j hj).1,(D.ac h4 j hj).2.mono J (aL _) (aE _)⟩⟩
 ·rw[S.inc];rw[aEs]at hl⊢;have a:(s.cl i).toks l≠0→TokG s i l s.tr.length (s.cl i).inc ((s.cl i).toks l):=fun q=>by
   have:=h.tk i i0 i1 l q;rw[hd]at this;exact this.ext g (by simpa using Nat.le_of_lt b)
  by_cases y:o.att.eres=1
  ·rw[if_pos y]at hl⊢;by_cases p:o.kind=3
   ·rw[if_pos p]at hl⊢;by_cases m:l=o.lock
    ·rw[if_pos m]at hl;exact absurd rfl hl
    ·rw[if_neg m]at hl⊢;exact a hl
   ·rw[if_neg p]at hl⊢;by_cases m:l=o.lock
    ·rw[if_pos m]at hl⊢;rw[m];have u:∀x,(s.bl x).used=true→(s.bl x).op=s.opx i→(s.bl x).lock=o.lock∧(s.bl x).kind=o.kind:=fun x xu xo=>by
      have P:=(h1.bg x xu).ev;rw[xo,n.ev]at P;have v:=aN P;exact⟨(congrArg Ev.olock v).symm,(congrArg Ev.okind v).symm⟩
     rcases N.2 with⟨k,q⟩|⟨k,q⟩|⟨k,q⟩|⟨k,q⟩
     ·rcases q with⟨⟨F,A,K,V,w⟩,_,_,_,et⟩|⟨_,⟨L,_,_,et⟩|⟨_,_,_,v,_⟩⟩
      ·have e:o.att.etok=(s.bl o.att.bal).pv.tok:=et;rw[e];rw[C]at A;obtain⟨R,M⟩:=u _ (h1.ask _ F) A;refine⟨F,by rw[K,d],R,by rw[M,←B,k],?_,by rw[A];exact b,(O.ops _ (h1.ask _ F) (by rw[K,d]) A).1⟩;rcases w with w|w
       ·exact w.2
       ·rw[M,←B,k]at w;exact absurd w.1 (by decide)
      ·have e:o.att.etok=o.att.bal:=et;rw[e];exact⟨r,d,G,k,by rw[L],by rw[C];exact b,t⟩
      ·have:o.att.eres=2:=v;omega
     ·rcases q with⟨_,E,_,_,_,et⟩|⟨_,v,_⟩
      ·have e:o.att.etok=(s.bl o.att.bal).pv.tok:=et;rw[e,←G,←d];rw[t]at E;rw[d]at E⊢;exact E.ext g (by rw[C];exact Nat.le_of_lt b)
      ·have:o.att.eres=3:=v;omega
     ·exact absurd (B.symm.trans k) p
     ·have:o.att.eres=4:=q.2.1;omega
    ·rw[if_neg m]at hl⊢;exact a hl
  ·rw[if_neg y]at hl⊢;by_cases p:o.att.eres=3
   ·rw[if_pos p]at hl⊢;by_cases m:l=o.lock
    ·rw[if_pos m]at hl;exact absurd rfl hl
    ·rw[if_neg m]at hl⊢;exact a hl
   ·rw[if_neg p]at hl⊢;exact a hl
end
theorem qL(o:On)(t:Int):pE o t=true↔t ∈ o.mine:=by unfold pE;exact List.contains_iff_mem
theorem aCs(o:On)(t:Int):oS o t=true↔∃x ∈ o.mine,x<t:=by unfold oS;simp
theorem tP(c:Ct)(o:On)(v:Vl):nE c o v=true↔v.own=c.num+1∧c.toks o.lock≠0∧v.tok=c.toks o.lock:=by unfold nE;simp[and_assoc]
theorem uE(o:On)(v:Vl):oZ o v=true↔(o.kind=1∧v.tok=o.att.bal)∨(o.kind=3∧v.seq=o.att.bal):=by
 unfold oZ;by_cases a:o.kind=1
 ·rw[if_pos a];simp[a]
 ·rw[if_neg a];by_cases b:o.kind=3
  ·rw[if_pos b];simp[a,b]
  ·rw[if_neg b];simp[a,b]
theorem aFT{f:Cf}(hff:0≤f.f){s:Sx}(h0:I0 f s)(h1:I1 f s)(h2:I2 f s)(hbd:Bd s)(h:I3 f s){i:Int}{o:On}(i0:0≤i)(i1:i<f.clients)(hd:(s.cl i).doing=some o)(q2:o.att.awaited=2)(hr:(cY f (s.cl i) o o.att.val).res≠5):I3 f (hZ f s i o):=by
 have B:=aAD h0 h1 i0 i1 hd q2;obtain⟨a6,a7,a2,a4⟩:=h1.unasked h0 i0 i1 hd q2;have M:=h1.on i i0 i1 o hd;have F:=h.on i i0 i1 o hd;obtain⟨l1,l2,l3,l4,l5⟩:=M.lk a6;obtain⟨v1,v2,v3⟩:=(h2.on i i0 i1 o hd).vl q2;have hv:=hbd.valB (v3.imp id fun x=>x.1) M.e0;rw[←v1]at hv;have b0:=(h0.fr0 _ a7).1;have R:o.att.bal / 4 % 64=(s.cl i).inc:=by
  rcases h0.bal i i0 i1 o hd with q1|⟨_,_,q3,_⟩
  ·omega
  ·exact q3
 have l:=h0.num i i0 i1;obtain⟨w,d⟩:=aHu (cY f (s.cl i) o o.att.val);rw[d]at hr;obtain⟨g,L⟩:∃g:Bg,g={s.bl o.att.bal with asked:=true,base:=o.att.base,pv:=o.att.val,val:=w.next,t1:=s.tr.length}:=⟨_,rfl⟩;obtain⟨y,D⟩:=aHu (hZ f s i o);have N:y.tr=s.tr++fD (s.cl i) (eP o w) 3 o.att.base w.next (fS f):=by rw[←D,←d];rfl
 have A:y.bl o.att.bal=g:=by rw[←D,L,←d];exact eK _ _ _
 have v:∀b,b≠o.att.bal→y.bl b=s.bl b:=fun b hb=>by rw[←D];exact eY _ _ hb
 have I:y.cl i={s.cl i with doing:=some (eP o w)}:=by rw[←D,←d];exact eK _ _ _
 have X:∀j,j≠i→y.cl j=s.cl j:=fun j hj=>by rw[←D];exact eY _ _ hj
 have G:y.opx=s.opx:=by rw[←D];rfl
 rw[D]at B⊢;have g1:g.op=s.opx i:=by rw[L];exact l1
 have W:g.cl=i:=by rw[L];exact a2
 have g3:g.lock=o.lock:=by rw[L];exact l2
 have g4:g.kind=o.kind:=by rw[L];exact l3
 have g5:g.ttl=o.ttl:=by rw[L];exact l4
 have g6:g.pv=o.att.val:=by rw[L]
 have g7:g.val=w.next:=by rw[L]
 have g8:g.asked=true:=by rw[L]
 have T:∀x,(s.bl x).asked=true→x≠o.att.bal:=fun x B e=>by rw[e,a4]at B;cases B
 have hl:aBu s y:=fun x B=>by
  by_cases q:x=o.att.bal
  ·refine Or.inr fun b bu bc bo=>?_;rw[q,A]at bc bo;rw[q];exact(F.ops b bu (by rw[bc,W]) (by rw[bo,g1])).2
  ·rw[v x q]at B;exact Or.inl B
 have a0:∀x,nP y g o.att.bal x↔x ∈ o.mine:=fun x=>by
  constructor
  ·rintro⟨V,m2,P,m4,m5⟩;rw[v x (by omega)]at V m2 P m5;exact(F.mine x).2 ⟨V,by rw[m2,g1],by rw[P,W],m5⟩
  ·intro r;obtain⟨V,m2,P,m4⟩:=(F.mine x).1 r;have a3:=T x V;have:=(F.ops x (h1.ask x V) P m2).2;unfold nP;rw[v x a3];exact⟨V,by rw[m2,g1],by rw[P,W],by omega,m4⟩
 have S:Fol y o.att.bal g ⟨w.next,w.res,w.own,w.tok⟩:=by
  unfold Fol;rw[W,g4,g5,g6,g7];simp only[a0];refine⟨trivial,?_⟩;have a1:∀t,(s.cl i).toks o.lock≠0→t=(s.cl i).toks o.lock→TokG y i g.lock g.op (o.att.bal / 4 % 64) t:=fun t ht e=>by
   have:=h.tk i i0 i1 o.lock ht;rw[hd]at this;rw[g3,g1,R,e];exact this.ext B (by simp)
  unfold cY at d;by_cases k1:o.kind=1
  ·refine Or.inl ⟨k1,?_⟩;rw[if_pos k1]at d;unfold gM at d;by_cases m:pE o o.att.val.tok=true
   ·rw[if_pos m]at d;subst d;exact Or.inl ⟨(qL _ _).1 m,rfl,rfl,by rw[l],rfl⟩
   ·rw[if_neg m]at d;by_cases a:oS o o.att.val.tok=true
    ·rw[if_pos a]at d;subst d;exact absurd rfl hr
    ·rw[if_neg a]at d;have a5:∀x,x ∈ o.mine→o.att.val.tok<x:=fun x r=>by
      have n1:x≠o.att.val.tok:=fun e=>m ((qL _ _).2 (e▸r));have n2:¬x<o.att.val.tok:=fun e=>a ((aCs _ _).2 ⟨x,r,e⟩);omega
     refine Or.inr ⟨a5,?_⟩;by_cases t:o.att.val.own=0∨o.att.val.own=(s.cl i).num+1∨aBk f (s.cl i) o o.att.val=true
     ·rw[if_pos t]at d;subst d;exact Or.inl ⟨by rw[l],rfl,by rw[l],rfl⟩
     ·rw[if_neg t]at d;subst d;exact Or.inr ⟨rfl,fun e=>t (Or.inl e),fun e=>t (Or.inr (Or.inl (by rw[l];exact e))),rfl,rfl,rfl⟩
  ·rw[if_neg k1]at d;by_cases k2:o.kind=2
   ·refine Or.inr (Or.inl ⟨k2,?_⟩);rw[if_pos k2]at d;unfold kS at d;by_cases m:nE (s.cl i) o o.att.val=true
    ·rw[if_pos m]at d;obtain⟨w1,w2,w3⟩:=(tP _ _ _).1 m;subst d;exact Or.inl ⟨by rw[w1,l],a1 _ w2 w3,by rw[w1,l],rfl,by rw[l],rfl⟩
    ·rw[if_neg m]at d;subst d;exact Or.inr ⟨rfl,rfl,rfl,rfl⟩
   ·rw[if_neg k2]at d;by_cases U:o.kind=3
    ·refine Or.inr (Or.inr (Or.inl ⟨U,?_⟩));rw[if_pos U]at d;unfold gE at d;by_cases m:nE (s.cl i) o o.att.val=true
     ·rw[if_pos m]at d;obtain⟨w1,w2,w3⟩:=(tP _ _ _).1 m;subst d;exact Or.inl ⟨by rw[w1,l],a1 _ w2 w3,rfl,fun x r=>(by rw[v x (T x ((F.mine x).1 r).1),F.mt U x r,w3]),rfl,by rw[l],rfl⟩
     ·rw[if_neg m]at d;by_cases n:o.att.val.own=0∧pE o o.att.val.seq=true
      ·rw[if_pos n]at d;subst d;exact Or.inr (Or.inl ⟨rfl,n.1,(qL _ _).1 n.2,rfl,by rw[l],rfl⟩)
      ·rw[if_neg n]at d;by_cases u:0<o.mine.length∧o.att.val.tok≠(s.cl i).toks o.lock
       ·rw[if_pos u]at d;subst d;exact absurd rfl hr
       ·rw[if_neg u]at d;subst d;refine Or.inr (Or.inr ⟨rfl,fun z=>n ⟨z.1,(qL _ _).2 z.2⟩,fun x r=>?_,rfl,rfl,rfl⟩);have C:=(F.mine x).1 r;rw[v x (T x C.1),F.mt U x r];have:0<o.mine.length:=List.length_pos_of_mem r;by_cases z:o.att.val.tok=(s.cl i).toks o.lock
        ·exact z.symm
        ·exact absurd ⟨this,z⟩ u
    ·rw[if_neg U]at d;subst d;have:=M.k1;have:=M.k4;exact Or.inr (Or.inr (Or.inr ⟨by omega,rfl,rfl,rfl,rfl⟩))
 have K:∀c,∀x ∈ fD (s.cl i) (eP o w) 3 o.att.base w.next (fS f),¬Tch x c:=fun c x B=>wU (rU x B).1 (Or.inl rfl) c;refine h.go h1 B hl N (fun j j0 j1=>?_) (fun n x hn hge Y=>?_) (fun j j0 j1 p hp=>?_) (fun j j0 j1 l' hl'=>?_) (fun b hb hn=>?_)
 ·rw[N,lP _ _ _ (K j),h.dn j j0 j1,G];by_cases q:j=i
  ·subst q;rw[I,hd];rfl
  ·rw[X j q]
 ·obtain⟨k1,k2,U,k4⟩:=rU x Y;refine⟨fun q=>by omega,fun _ _=>?_,fun q=>by omega⟩;have a8:=(aF.1 hn).1;rw[N,aD]at a8;rw[U,l,k4];show _=some (y.bl o.att.bal).op;rw[A,g1,N,aCm (K i) hge (by omega),h.dn i i0 i1,hd]
  rfl
 ·by_cases q:j=i
  ·subst q;rw[I]at hp;cases hp;have a9:(eP o w).att.bal=o.att.bal:=rfl;refine⟨fun x=>?_,fun x xu xc xo=>?_,fun k x r=>?_,fun _=>?_⟩
   ·have em:x ∈ (eP o w).mine↔x ∈ o.mine∨(oZ o w.next=true∧x=o.att.bal):=by
     show x ∈ (if oZ o w.next=true then o.mine++[o.att.bal]else o.mine)↔_;by_cases m:oZ o w.next=true
     ·rw[if_pos m];simp[m]
     ·rw[if_neg m];simp[m]
    rw[em,G];by_cases q:x=o.att.bal
    ·rw[q,A];constructor
     ·rintro(C|⟨C,_⟩)
      ·exact absurd rfl (T _ ((F.mine _).1 C).1)
      ·refine⟨g8,g1,W,?_⟩;unfold Mkd;rw[g4,g7];exact(uE _ _).1 C
     ·rintro⟨_,_,_,C⟩;unfold Mkd at C;rw[g4,g7]at C;exact Or.inr ⟨(uE _ _).2 C,rfl⟩
    ·rw[v x q];exact(or_iff_left (fun z=>q z.2)).trans (F.mine x)
   ·rw[G]at xo;rw[I];show x / 4 % 64=(s.cl j).inc∧x≤o.att.bal;by_cases q:x=o.att.bal
    ·rw[q];exact⟨R,aL _⟩
    ·rw[v x q]at xu xc xo;exact F.ops x xu xc xo
   ·have k':o.kind=3:=k;rw[I];show(y.bl x).val.tok=(s.cl j).toks o.lock;have E:x ∈ (if oZ o w.next=true then o.mine++[o.att.bal]else o.mine):=r;by_cases O:x ∈ o.mine
    ·have C:=(F.mine x).1 O;rw[v x (T x C.1)];exact F.mt k' x O
    ·by_cases m:oZ o w.next=true
     ·rw[if_pos m,aO,List.mem_singleton]at E;have Y:=E.resolve_left O;rw[Y,A,g7];rcases(uE _ _).1 m with⟨V,_⟩|⟨_,m2⟩
      ·omega
      ·unfold cY gE at d;rw[if_neg (by omega),if_neg (by omega),if_pos k']at d;by_cases own:nE (s.cl j) o o.att.val=true
       ·rw[if_pos own]at d;subst d;exact((tP _ _ _).1 own).2.2
       ·rw[if_neg own]at d;have b1:w.next.seq≤o.att.base∨w.next.seq=0:=by
         subst d;split
         ·exact Or.inl hv.2.2.2.1
         ·split
          ·exact Or.inr rfl
          ·exact Or.inl hv.2.2.2.1
        omega
     ·rw[if_neg m]at E;exact absurd E O
   ·rw[a9,A,g7];exact S
  ·have Z:=X j q;rw[Z]at hp;have H:=h.on j j0 j1 p hp;have b2:∀x,(s.bl x).cl=j→x≠o.att.bal:=fun x xc e=>by rw[e,a2]at xc;exact q xc.symm
   refine⟨fun x=>?_,fun x xu xc xo=>?_,fun k x r=>?_,fun k=>?_⟩
   ·rw[G];by_cases z:x=o.att.bal
    ·constructor
     ·intro C;exact absurd z (T x ((H.mine x).1 C).1)
     ·rintro⟨_,_,P,_⟩;rw[z,A,W]at P;exact absurd P.symm q
    ·rw[v x z];exact H.mine x
   ·rw[G]at xo;rw[Z];by_cases z:x=o.att.bal
    ·rw[z,A,W]at xc;exact absurd xc.symm q
    ·rw[v x z]at xu xc xo;exact H.ops x xu xc xo
   ·have C:=(H.mine x).1 r;rw[v x (T x C.1),Z];exact H.mt k x r
   ·have Q:(s.bl p.att.bal).used=true:=by
     rcases h0.bal j j0 j1 p hp with q1|⟨q1,_⟩
     ·omega
     ·exact q1
    have J:(s.bl p.att.bal).asked=true:=((h1.on j j0 j1 p hp).ask (by have:=(h0.fr0 _ Q).1;omega)).2 k;have:=(H.ew k).ext B hl J Q;rw[B.ask _ J]at this⊢;exact this
 ·have e:(y.cl j).toks=(s.cl j).toks∧(y.cl j).inc=(s.cl j).inc∧(y.cl j).doing.isSome=(s.cl j).doing.isSome:=by
   by_cases q:j=i
   ·subst q;rw[I,hd];exact⟨rfl,rfl,rfl⟩
   ·rw[X j q];exact⟨rfl,rfl,rfl⟩
  rw[e.1]at hl'⊢;rw[e.2.1,e.2.2,G];refine(h.tk j j0 j1 l' hl').ext B ?_;have:=B.len;split
  ·exact aE _
  ·exact this
 ·by_cases q:b=o.att.bal
  ·rw[q,A];exact⟨_,S⟩
  ·rw[v b q,hn]at hb;cases hb
theorem aGn{f:Cf}(hf:f.clients≤4)(hff:0≤f.f){gd:Bool}{s s':Sx}(h0:I0 f s)(h1:I1 f s)(h2:I2 f s)(hbd:Bd s)(h:I3 f s)(hs:Mi f gd s s'):I3 f s':=by
 have z:∀(t:Sx) (i:Int) (c:Ct) (e:List Ev),t.bl=s.bl→t.tr=s.tr++e→t.opx=s.opx→t.cl=upd s.cl i c→(∀x ∈ e,(x.kind=1∧x.msg.kind≠3)∨x.kind=5∨(x.kind=4∧0≤x.node))→
  (0≤i→i<f.clients→c.inc=(s.cl i).inc∧c.toks=(s.cl i).toks∧c.doing.isSome=(s.cl i).doing.isSome∧
  ∀o',c.doing=some o'→∃o,(s.cl i).doing=some o∧o'.kind=o.kind∧o'.lock=o.lock∧o'.mine=o.mine∧o'.att.bal=o.att.bal∧(o'.att.awaited=4→o.att.awaited=4∧o'.att.eres=o.att.eres∧o'.att.eown=o.att.eown∧o'.att.etok=o.att.etok))→I3 f t:=by
  intro t i c e D H G I E F;refine aAw hf hff (gd:=gd) h0 h1 h D H G E (fun j v y=>?_);rw[I];by_cases q:j=i
  ·subst q;rw[eK];exact F v y
  ·rw[eY _ _ q];exact⟨rfl,rfl,rfl,fun o' ho=>⟨o',ho,rfl,rfl,rfl,rfl,fun k=>⟨k,rfl,rfl,rfl⟩⟩⟩
 refine hs.elim (P:=I3 f) ?tick ?bump ?began ?att ?endU ?endQ ?hear ?prop ?lose ?ret ?acc ?ev
 case tick=>exact fun i d g u C=>z _ i {s.cl i with clock:=(s.cl i).clock+1} [] rfl rfl rfl rfl (fun x a=>by cases a) (fun _ _=>⟨rfl,rfl,rfl,fun o' ho=>⟨o',ho,rfl,rfl,rfl,rfl,fun k=>⟨k,rfl,rfl,rfl⟩⟩⟩)
 case bump=>exact fun i r o d g u hd hr hr'=>z _ i {s.cl i with round:=r} [] rfl rfl rfl rfl (fun x a=>by cases a) (fun _ _=>⟨rfl,rfl,rfl,fun o' ho=>⟨o',ho,rfl,rfl,rfl,rfl,fun k=>⟨k,rfl,rfl,rfl⟩⟩⟩)
 case began=>exact fun i k l t d g u hd B hl _ _ _=>aEy h0 h1 h d g hd
 case att=>exact fun i o d g u hd hr=>aGJ hf h0 h1 h d g u hd
 case endU=>exact fun i o res d g u hd hr=>aF1 h0 h1 h d g hd hr
 case endQ=>exact fun i o d g u hd h4 hq=>aGd h0 h1 h2 h d g hd h4 hq
 case hear=>
  exact fun i o m d g u hd K hb hk0 B ha=>z _ i {s.cl i with doing:=some (heardOn o m)} [] rfl rfl rfl rfl (fun x a=>by cases a) (fun _ _=>⟨rfl,rfl,by rw[hd];rfl,fun o' ho=>by
   cases ho;exact⟨o,hd,rfl,rfl,rfl,rfl,fun k=>⟨k,rfl,rfl,rfl⟩⟩⟩)
 case prop=>exact fun i o d g u hd q2 hq hr=>aFT hff h0 h1 h2 hbd h d g hd q2 hr
 case lose=>exact fun i d g u=>aFP h0 h1 h d g u
 case ret=>
  intro i d g u J;have C:=h0.gone i d g u;have et:(sL s i).tr=s.tr++[oD (-1-(s.cl i).num)]:=by
   show s.tr++iE (s.cl i)=_;have e:eM (s.cl i)=0:=by unfold eM;rw[if_neg (by rw[u];decide),if_neg (by omega)]
   unfold iE;rw[e,if_neg (by decide)]
  have a:Ext s (sL s i):=Ext.of_bl ⟨_,et⟩ rfl;have w:(sL s i).cl=upd s.cl i {s.cl i with inc:=(s.cl i).inc+1,up:=true}:=by
   show upd s.cl i (iS (s.cl i))=_;rw[sX u J]
  have A:=C.2.2.2.2.2;refine h.go h1 a (vQ rfl) et (fun j v y=>?_) (fun n x hn hge hxe=>?_) (fun j v y p hp=>?_) (fun j v y l' hl'=>?_) (fun b hb hn=>by rw[show(sL s i).bl=s.bl from rfl,hn]at hb;cases hb)
  ·rw[et,lP _ _ _ (fun x a=>by rw[List.mem_singleton]at a;subst a;exact wU rfl (Or.inr rfl) j),h.dn j v y,w];by_cases q:j=i
   ·subst q;rw[eK,A];rfl
   ·rw[eY _ _ q];rfl
  ·rw[List.mem_singleton]at hxe;subst hxe;exact⟨fun q=>absurd (show(5:Int)=2 from q) (by decide),fun q=>absurd (show(5:Int)=1 from q) (by decide),fun q=>absurd (show(5:Int)=3 from q) (by decide)⟩
  ·by_cases q:j=i
   ·subst q;rw[w,eK]at hp;rw[show({s.cl j with inc:=(s.cl j).inc+1,up:=true}:Ct).doing=(s.cl j).doing from rfl,A]at hp;cases hp
   ·exact h.other (s':=sL s i) rfl w (fun j _=>rfl) v y q hp
  ·by_cases q:j=i
   ·subst q;rw[w,eK]at hl';rw[show({s.cl j with inc:=(s.cl j).inc+1,up:=true}:Ct).toks=(s.cl j).toks from rfl,C.2.2.1]at hl';exact absurd rfl hl'
   ·exact h.otherTk a w (fun j _=>rfl) v y q l' hl'
 case acc=>
  intro j m e v y K B L;refine aAw hf hff (gd:=gd) h0 h1 h (s':=qS s j m e) (e:=e) rfl rfl rfl (fun x a=>?_) (fun j v y=>⟨rfl,rfl,rfl,fun o' ho=>⟨o',ho,rfl,rfl,rfl,rfl,fun k=>⟨k,rfl,rfl,rfl⟩⟩⟩);rcases L with rfl|rfl
  ·cases a
  ·rw[List.mem_singleton]at a;subst a;refine Or.inl ⟨rfl,?_⟩;show(iW j (s.tb j m.lock) m).kind≠3;unfold iW decMsg;split
   ·show(5:Int)≠3;decide
   ·split
    ·show(2:Int)≠3;decide
    ·show(4:Int)≠3;decide
 case ev=>
  intro j k v B;refine aAw hf hff (gd:=gd) h0 h1 h (s':=sEv s j k) rfl rfl rfl (fun x a=>?_) (fun j v y=>⟨rfl,rfl,rfl,fun o' ho=>⟨o',ho,rfl,rfl,rfl,rfl,fun k=>⟨k,rfl,rfl,rfl⟩⟩⟩);rw[List.mem_singleton]at a;subst a;rcases B with rfl|rfl
  ·exact Or.inr (Or.inr ⟨rfl,v⟩)
  ·exact Or.inr (Or.inl rfl)
def Tl(f:Cf)(s:Sx):Prop:=∀i,0≤i→i<f.clients→∀o,(s.cl i).doing=some o→o.ttl≤1000
theorem aFR{f:Cf}{gd:Bool}{s s':Sx}(h0:I0 f s)(h:Tl f s)(hs:Mi f gd s s'):Tl f s':=by
 have a:∀(t:Sx) (i:Int) (c:Ct),t.cl=upd s.cl i c→(0≤i→i<f.clients→∀o,c.doing=some o→o.ttl≤1000)→Tl f t:=fun t i c hc ho j j0 j1 o hd=>by
  rw[hc]at hd;by_cases q:j=i
  ·rw[q,eK]at hd;exact ho (q▸j0) (q▸j1) o hd
  ·rw[eY _ _ q]at hd;exact h j j0 j1 o hd
 refine hs.ways (P:=Tl f) h0 ?still ?began ?att ?hear ?prop ?acc
 case still=>exact fun t ht i i0 i1 o ho=>h i i0 i1 o (ht.dg i o ho)
 case began=>exact fun i k l t i0 i1 hu hd hk hl ht=>a _ i _ rfl fun _ _ o ho=>by rw[(mS _ k l t).2]at ho;cases ho;exact ht.2
 case att=>exact fun i o i0 i1 hu hd hr=>a _ i {s.cl i with round:=(s.cl i).round+1,doing:=some (eV o (s.cl i))} rfl fun _ _ o' ho=>by cases ho;exact h i i0 i1 o hd
 case hear=>exact fun i o m i0 i1 hu hd _ _ _ _ _=>a _ i {s.cl i with doing:=some (heardOn o m)} rfl fun _ _ o' ho=>by cases ho;exact h i i0 i1 o hd
 case prop=>exact fun i o i0 i1 hu hd _ _ _=>a _ i {s.cl i with doing:=some (eP o (cY f (s.cl i) o o.att.val))} rfl fun _ _ o' ho=>by cases ho;exact h i i0 i1 o hd
 case acc=>exact fun j m e _ _ _ _ _ i i0 i1 o ho=>h i i0 i1 o ho
structure Inv(f:Cf)(s:Sx):Prop where
 i0:I0 f s
 i1:I1 f s
 i2:I2 f s
 i3:I3 f s
 bd:Bd s
 tl:Tl f s
theorem MiR.all{f:Cf}(hf:f.clients≤4)(hff:0≤f.f){gd:Bool}{s:Sx}(h:MiR f gd s):Inv f s:=
 h.ind (P:=Inv f) ⟨aFz f,aE1 f,aGV f,aGM f,fun b hb=>(by cases hb),fun i _ _ o ho=>(by cases ho)⟩
  fun s s' _ k hs=>⟨aC0 hf k.i0 hs,aCT hf hff k.i0 k.i1 hs,aGh hf hff k.i0 k.i1 k.i2 hs,aGn hf hff k.i0 k.i1 k.i2 k.bd k.i3 hs,aFO hf hff k.i0 k.i1 k.i2 k.tl k.bd hs,aFR k.i0 k.tl hs⟩
end Go.Proofs.YtbbdgokdfhdpiaaGreatDoor
