/- A part of the proof: Pax3, Pax4, Pax5, Pax6, PaxB. -/
import Derived.Test.YtbbdgokdfhdpiaaGreatDoorD21
namespace Go.Proofs.YtbbdgokdfhdpiaaGreatDoor
set_option linter.all false
set_option maxRecDepth 100000
set_option maxHeartbeats 40000000
open Go.Proofs.Tryz Go.RowKit
def Bd(s:Sx):Prop:=∀b,(s.bl b).asked=true→0≤(s.bl b).val.tok∧(s.bl b).val.tok≤b∧0≤(s.bl b).val.seq∧(s.bl b).val.seq≤b∧0≤(s.bl b).val.ttl∧(s.bl b).val.ttl≤1000
theorem Bd.valB{s:Sx}(h:Bd s){b:Int}(hb:b=0∨(s.bl b).asked=true)(h0:0≤b):0≤(valB s b).tok∧(valB s b).tok≤b∧0≤(valB s b).seq∧(valB s b).seq≤b∧0≤(valB s b).ttl∧(valB s b).ttl≤1000:=by
 unfold Go.Proofs.YtbbdgokdfhdpiaaGreatDoor.valB;split
 ·rename_i q;subst q;exact⟨aL _,aL _,aL _,aL _,aL _,by decide⟩
 ·rename_i q;exact h b (hb.resolve_left q)
theorem aIe{f:Cf}(hf:f.clients≤4)(hff:0≤f.f){gd:Bool}{s s':Sx}(h0:I0 f s)(h1:I1 f s)(h2:I2 f s)(hon:∀i,0≤i→i<f.clients→∀o,(s.cl i).doing=some o→o.ttl≤1000)(h:Bd s)(hs:Mi f gd s s'):Bd s':=by
 refine hs.ways (P:=Bd) h0 ?still ?began ?att ?hear ?prop ?acc
 case still=>intro t u b a;rw[u.bl]at a⊢;exact h b a
 case began=>intro i k l t _ _ _ _ _ _ _ b a;exact h b a
 case att=>
  intro i o d g B c A b a;by_cases q:b=(gL (s.cl i)).bal
  ·subst q;rw[show(iH f s i o).bl (gL (s.cl i)).bal=_ from eJ _ _ _]at a;cases a
  ·rw[show(iH f s i o).bl b=s.bl b from eY _ _ q]at a⊢;exact h b a
 case hear=>intro i o m _ _ _ _ _ _ _ _ _ b a;exact h b a
 case prop=>
  intro i o d g B c w E A b a;by_cases q:b=o.att.bal
  ·subst q;rw[show(gP f s i o).bl o.att.bal=_ from eJ _ _ _];show 0≤(dD f (s.cl i) o o.att.val).next.tok∧(dD f (s.cl i) o o.att.val).next.tok≤o.att.bal∧0≤(dD f (s.cl i) o o.att.val).next.seq∧(dD f (s.cl i) o o.att.val).next.seq≤o.att.bal∧0≤(dD f (s.cl i) o o.att.val).next.ttl∧(dD f (s.cl i) o o.att.val).next.ttl≤1000;obtain⟨z,F,y⟩:=(h2.on i d g o c).vl w;have n:=h1.on i d g o c;obtain⟨_,p,_,_⟩:=h1.unasked h0 d g c w;have r:=(h0.fr0 _ p).1;have C:=h.valB (y.imp id fun x=>x.1) n.e0;rw[←z]at C;have u:=hon i d g o c;have D:=n.t0;generalize o.att.val=v at*;unfold dD gX lR gR
   repeat' split
   all_goals first
    |(refine⟨?_,?_,?_,?_,?_,?_⟩<;>dsimp only[zVl]<;>omega)
  ·rw[show(gP f s i o).bl b=s.bl b from eY _ _ q]at a⊢;exact h b a
 case acc=>intro j m e _ _ _ _ _ b a;exact h b a
theorem aEp{s s':Sx}(h:s'.bl=s.bl){cl lock inc T:Int}{op op':Nat}(q:TokG s cl lock op inc T)(ho:op≤op'):TokG s' cl lock op' inc T:=
 ⟨by rw[h];exact q.ask,by rw[h];exact q.cl,by rw[h];exact q.lk,by rw[h];exact q.k1,by rw[h];exact q.tk,by rw[h];exact aG q.op ho,q.inc⟩
theorem Fol.bl{s s':Sx}(h:s'.bl=s.bl){b:Int}{g:Bg}{w:Fw}(q:Fol s b g w):Fol s' b g w:=by
 have a:∀x,kZ s' g b x=kZ s g b x:=fun x=>by unfold kZ;rw[h]
 have c:∀cl lock op inc T,TokG s' cl lock op inc T=TokG s cl lock op inc T:=fun cl lock op inc T=>propext ⟨fun q=>aEp h.symm q (aE _),fun q=>aEp h q (aE _)⟩;unfold Fol at*;simp only[a,c,h];exact q
theorem On3.same{s s':Sx}{i:Int}{o o':On}(h:On3 s i o)(hbl:s'.bl=s.bl)(hop:s'.opx i=s.opx i)(hinc:(s'.cl i).inc=(s.cl i).inc)(htk:(s'.cl i).toks=(s.cl i).toks)
 (hk:o'.kind=o.kind) (hl:o'.lock=o.lock) (hm:o'.mine=o.mine) (hb:o'.att.bal=o.att.bal) (ha:o'.att.awaited=4→o.att.awaited=4∧o'.att.eres=o.att.eres∧o'.att.eown=o.att.eown∧o'.att.etok=o.att.etok):On3 s' i o':=by
 refine⟨fun x=>?_,fun x=>?_,fun k=>?_,fun k=>?_⟩
 ·rw[hbl,hop,hm];exact h.mine x
 ·rw[hbl,hop,hinc,hb];exact h.ops x
 ·rw[hbl,htk,hl,hm];exact h.mt (by rw[←hk];exact k)
 ·obtain⟨b,d,c,a⟩:=ha k;have:=h.ew b;rw[hbl,hb,d,c,a];exact this.bl hbl
theorem aD1{t e:List Ev}{c:Int}(h:∀x ∈ e,¬Tch x c){k:Nat}(h0:t.length≤k)(h1:k≤t.length+e.length):eU (t++e) k c=eU t t.length c:=by
 have b:t++e=(t++e.take (k-t.length))++e.drop (k-t.length):=by rw[aS,bX]
 have a:(t++e.take (k-t.length)).length=k:=by rw[aD,bD];omega
 have:=mP c (e.take (k-t.length)) t (fun x hx=>h x (List.mem_of_mem_take hx));rw[a]at this;rw[b,jR _ _ _ _ (by omega)];exact this
theorem I3.calm{f:Cf}{s s':Sx}(h1:I1 f s)(h:I3 f s)(hx:Ext s s')(hl:aCR s s'){e:List Ev}(ht:s'.tr=s.tr++e)(hop:s'.opx=s.opx)
 (he:∀x ∈ e,x.kind≠2∧x.kind≠3∧(∀i,0≤i→i<f.clients→¬Tch x i)∧(x.kind=1→x.msg.kind≠3))
 (hd:∀i,0≤i→i<f.clients→(s'.cl i).doing.isSome=(s.cl i).doing.isSome∧(s'.cl i).inc=(s.cl i).inc∧(s'.cl i).toks=(s.cl i).toks)
 (hon:∀i,0≤i→i<f.clients→∀o,(s'.cl i).doing=some o→On3 s' i o)
 (hask:∀b,(s'.bl b).asked=true→(s.bl b).asked=true):I3 f s':=by
 have a:s'.tr.length=s.tr.length+e.length:=by rw[ht,aD]
 refine h.go h1 hx hl ht (fun i i0 i1=>?_) (fun k x hk hge hxe=>?_) hon (fun i i0 i1 l hl'=>?_) (fun b hb hn=>by rw[hask b hb]at hn;cases hn)
 ·rw[ht,mP _ _ _ (fun x hxe=>(he x hxe).2.2.1 i i0 i1),h.dn i i0 i1,hop];have:=(hd i i0 i1).1;cases q:(s'.cl i).doing<;>cases q':(s.cl i).doing<;>rw[q,q']at this<;>simp at this<;>rfl
 ·obtain⟨g,n,p,j⟩:=he x hxe;exact⟨fun q=>absurd q g,fun q q'=>absurd q' (j q),fun q=>absurd q n⟩
 ·obtain⟨m,c,d⟩:=hd i i0 i1;rw[d]at hl'⊢;have:=h.tk i i0 i1 l hl';rw[m,c,hop];refine this.ext hx ?_;split
  ·exact aE _
  ·omega
theorem aGC(c:Ct)(o:On)(res tok:Int)(v:Vl)(l:Int):(gA c o res tok v).toks l=if res=1 then(if o.kind=3 then(if l=o.lock then 0 else c.toks l)else(if l=o.lock then tok else c.toks l))else if res=3 then(if l=o.lock then 0 else c.toks l)else c.toks l:=by
 unfold gA lD pY nV;dsimp only;by_cases b:res=1
 ·rw[if_pos b,if_pos b];by_cases a:o.kind=3
  ·rw[if_pos a,if_pos a];rfl
  ·rw[if_neg a,if_neg a];rfl
 ·rw[if_neg b,if_neg b];by_cases a:res=3
  ·rw[if_pos a,if_pos a];rfl
  ·rw[if_neg a,if_neg a]
   repeat' split
   all_goals rfl
theorem aHF(c:Ct)(k l t:Int):(dN c k l t).toks=c.toks:=by
 unfold dN
 repeat' split
 all_goals rfl
theorem jG{c:Ct}{o:On}{k b:Int}{v:Vl}{n:Nat}:∀x ∈ fD c o k b v n,x.kind=1∧x.msg.kind=k∧x.msg.src=c.num∧x.msg.bal=o.att.bal:=fun x hx=>by
 obtain⟨d,_,rfl⟩:=bN.1 hx;exact⟨rfl,rfl,rfl,rfl⟩
theorem zF{x:Ev}{k:Int}(h:x.kind=k)(hk:k=1∨k=5)(c:Int):¬Tch x c:=by
 unfold Tch;omega
theorem aJl{f:Cf}(hf:f.clients≤4){s:Sx}(h0:I0 f s)(h1:I1 f s)(h:I3 f s){i:Int}{o:On}(i0:0≤i)(i1:i<f.clients)(hu:(s.cl i).up=true)(hd:(s.cl i).doing=some o):I3 f (iH f s i o):=by
 have n:=aED (o:=o) hf h0 h1 i0 i1 hu;have D:=h0.new_unused hf i0 i1 hu;obtain⟨J,H,K,L⟩:=h0.round_bal hf i0 i1;have r:∀b,b≠(gL (s.cl i)).bal→(iH f s i o).bl b=s.bl b:=fun b hb=>eY _ _ hb;have v:(iH f s i o).bl (gL (s.cl i)).bal=⟨true,s.opx i,i,o.lock,o.kind,o.ttl,o.began,s.tr.length,false,0,zVl,zVl,0⟩:=eJ _ _ _;have d:∀b,((iH f s i o).bl b).asked=true→(s.bl b).asked=true:=fun b hb=>by
  by_cases q:b=(gL (s.cl i)).bal
  ·rw[q,v]at hb;cases hb
  ·rwa [r b q]at hb
 have A:aCR s (iH f s i o):=fun x n=>Or.inl (d x n);have t:∀x,(s.bl x).asked=true→(iH f s i o).bl x=s.bl x:=n.ask;have m:∀(p:Nat) (c x:Int),(((iH f s i o).bl x).asked=true∧((iH f s i o).bl x).op=p∧((iH f s i o).bl x).cl=c∧Mkd ((iH f s i o).bl x) x)↔((s.bl x).asked=true∧(s.bl x).op=p∧(s.bl x).cl=c∧Mkd (s.bl x) x):=fun p c x=>by
  constructor
  ·intro q;have:=d x q.1;rw[t x this]at q;exact q
  ·intro q;rw[t x q.1];exact q
 refine h.calm h1 n A (e:=fD (s.cl i) (fB o (s.cl i)) 1 0 zVl (gB f)) rfl rfl (fun x n=>?_) (fun j j0 j1=>?_) (fun j j0 j1 p hp=>?_) d
 ·obtain⟨E,M,_⟩:=jG x n;exact⟨by omega,by omega,fun c _ _=>zF E (Or.inl rfl) c,fun _=>by omega⟩
 ·by_cases q:j=i
  ·subst q;rw[show(iH f s j o).cl j={s.cl j with round:=(s.cl j).round+1,doing:=some (fB o (s.cl j))}from eJ _ _ _];exact⟨by rw[hd];rfl,rfl,rfl⟩
  ·rw[show(iH f s i o).cl j=s.cl j from eY _ _ q];exact⟨rfl,rfl,rfl⟩
 ·have u:(iH f s i o).opx=s.opx:=rfl;by_cases q:j=i
  ·subst q;have a:(iH f s j o).cl j={s.cl j with round:=(s.cl j).round+1,doing:=some (fB o (s.cl j))}:=eJ _ _ _;rw[a]at hp;cases hp;have l:=h.on j j0 j1 o hd;refine⟨fun x=>?_,fun x xu xc xo=>?_,fun k x hxm=>?_,fun k=>absurd (show(2:Int)=4 from k) (by decide)⟩
   ·rw[m,u];exact l.mine x
   ·rw[a];show x / 4 % 64=(s.cl j).inc∧x≤(gL (s.cl j)).bal;by_cases q:x=(gL (s.cl j)).bal
    ·rw[q];exact⟨H,aL _⟩
    ·rw[r x q]at xu xc xo;have B:=(l.ops x xu xc xo).1;have F:=h0.fr2 x xu (by rw[xc];exact B) (by rw[xc];exact hu);have I:=(h0.fr0 x xu).2.2.2;rw[xc]at F I;refine⟨B,?_⟩;show x≤((s.cl j).round+1)*256+(s.cl j).inc*4+(s.cl j).num;rw[h0.num j j0 j1];omega
   ·have y:=(l.mine x).1 hxm;rw[t x y.1,a];exact l.mt k x hxm
  ·rw[show(iH f s i o).cl j=s.cl j from eY _ _ q]at hp;have l:=h.on j j0 j1 p hp;have a:(iH f s i o).cl j=s.cl j:=eY _ _ q;refine⟨fun x=>?_,fun x xu xc xo=>?_,fun k x hxm=>?_,fun k=>?_⟩
   ·rw[m,u];exact l.mine x
   ·rw[a];by_cases C:x=(gL (s.cl i)).bal
    ·rw[C,v]at xc;exact absurd xc.symm q
    ·rw[r x C]at xu xc xo;exact l.ops x xu xc xo
   ·have y:=(l.mine x).1 hxm;rw[t x y.1,a];exact l.mt k x hxm
   ·have G:=l.ew k;have w:(s.bl p.att.bal).used=true:=by
     rcases h0.bal j j0 j1 p hp with z|⟨z,_⟩
     ·omega
     ·exact z
    have g:(s.bl p.att.bal).asked=true:=((h1.on j j0 j1 p hp).ask (by have:=(h0.fr0 _ w).1;omega)).2 k;have:=G.ext n A g w;rw[t _ g]at this⊢;exact this
theorem aBO{f:Cf}(hf:f.clients≤4)(hff:0≤f.f){gd:Bool}{s s':Sx}(h0:I0 f s)(h1:I1 f s)(h:I3 f s){e:List Ev}(hbl:s'.bl=s.bl)(htr:s'.tr=s.tr++e)(hop:s'.opx=s.opx)
 (he:∀x ∈ e,(x.kind=1∧x.msg.kind≠3)∨x.kind=5∨(x.kind=4∧0≤x.node))
 (hcl:∀j,0≤j→j<f.clients→(s'.cl j).inc=(s.cl j).inc∧(s'.cl j).toks=(s.cl j).toks∧(s'.cl j).doing.isSome=(s.cl j).doing.isSome∧
  ∀o',(s'.cl j).doing=some o'→∃o,(s.cl j).doing=some o∧o'.kind=o.kind∧o'.lock=o.lock∧o'.mine=o.mine∧o'.att.bal=o.att.bal∧(o'.att.awaited=4→o.att.awaited=4∧o'.att.eres=o.att.eres∧o'.att.eown=o.att.eown∧o'.att.etok=o.att.etok)):I3 f s':=by
 refine h.calm h1 (Ext.of_bl ⟨e,htr⟩ hbl) (xW hbl) htr hop (fun x hx=>?_) (fun j j0 j1=>⟨(hcl j j0 j1).2.2.1,(hcl j j0 j1).1,(hcl j j0 j1).2.1⟩) (fun j j0 j1 p hp=>?_) (fun b hb=>by rwa [hbl]at hb)
 ·rcases he x hx with⟨a,b⟩|a|⟨a,b⟩
  ·exact⟨by omega,by omega,fun c _ _=>zF a (Or.inl rfl) c,fun _=>b⟩
  ·exact⟨by omega,by omega,fun c _ _=>zF a (Or.inr rfl) c,fun q=>by omega⟩
  ·exact⟨by omega,by omega,fun c _ _ q=>by unfold Tch at q;omega,fun q=>by omega⟩
 ·obtain⟨t,g,_,m⟩:=hcl j j0 j1;obtain⟨o,k,d,i,l,n,r⟩:=m p hp;exact(h.on j j0 j1 o k).same hbl (by rw[hop]) t g d i l n r
section
variable {f:Cf}
theorem I3.other{s s':Sx}(h:I3 f s){i:Int}{c:Ct}(hbl:s'.bl=s.bl)(hcl:s'.cl=upd s.cl i c)(hop:∀j,j≠i→s'.opx j=s.opx j){j:Int}(j0:0≤j)(j1:j<f.clients)(hj:j≠i){o:On}(ho:(s'.cl j).doing=some o):On3 s' j o:=by
 have e:s'.cl j=s.cl j:=by rw[hcl];exact eY _ _ hj
 rw[e]at ho;exact(h.on j j0 j1 o ho).same hbl (hop j hj) (by rw[e]) (by rw[e]) rfl rfl rfl rfl (fun k=>⟨k,rfl,rfl,rfl⟩)
theorem I3.otherTk{s s':Sx}(h:I3 f s){i:Int}{c:Ct}(hx:Ext s s')(hcl:s'.cl=upd s.cl i c)(hop:∀j,j≠i→s'.opx j=s.opx j){j:Int}(j0:0≤j)(j1:j<f.clients)(hj:j≠i)(l:Int)(hl:(s'.cl j).toks l≠0):
 TokG s' j l (if(s'.cl j).doing.isSome=true then s'.opx j else s'.tr.length) (s'.cl j).inc ((s'.cl j).toks l):=by
 have e:s'.cl j=s.cl j:=by rw[hcl];exact eY _ _ hj
 rw[e]at hl⊢;refine(h.tk j j0 j1 l hl).ext hx ?_;have:=hx.len;rw[hop j hj];split
 ·exact aE _
 ·exact this
theorem aGJ{s:Sx}(h0:I0 f s)(h1:I1 f s)(h:I3 f s){i k l t:Int}(i0:0≤i)(i1:i<f.clients)(hd:(s.cl i).doing=none):I3 f (gN s i k l t):=by
 obtain⟨w,g⟩:=nQ {s.cl i with doing:=some (eH (s.cl i) k l t)} k l t;have u:Ext s (gN s i k l t):=Ext.of_bl ⟨_,rfl⟩ rfl;have r:=h0.num i i0 i1;have m:(gN s i k l t).tr=s.tr++[gJ (s.cl i).num (eH (s.cl i) k l t)]:=rfl;have d:∀j,(gN s i k l t).opx j=if j=i then s.tr.length else s.opx j:=fun j=>rfl
 have a:(gN s i k l t).cl=upd s.cl i (dN {s.cl i with doing:=some (eH (s.cl i) k l t)} k l t):=rfl;have c:(gJ (s.cl i).num (eH (s.cl i) k l t)).node=i:=r;refine h.go h1 u (xW rfl) (e:=[gJ (s.cl i).num (eH (s.cl i) k l t)]) rfl (fun j j0 j1=>?_) (fun n x hn hge hxe=>?_) (fun j j0 j1 o ho=>?_) (fun j j0 j1 l' hl'=>?_) (fun b hb hn=>by rw[show(gN s i k l t).bl=s.bl from rfl,hn]at hb;cases hb)
 ·rw[m,aD,aK,tL,d,c];by_cases q:j=i
  ·subst q;rw[if_pos ⟨rfl,rfl⟩,if_pos rfl,a,eJ,g];rfl
  ·rw[if_neg (fun z=>q z.2.symm),if_neg (fun z=>by
    rcases z with z|z
    ·exact q z.2.symm
    ·exact absurd (show(2:Int)=4 from z.1) (by decide)),if_neg q,a,eY _ _ q]
   exact h.dn j j0 j1
 ·rw[List.mem_singleton]at hxe;subst hxe;have v:n=s.tr.length:=by
   rw[m]at hn;have:=(aF.1 hn).1;rw[aD,aK]at this;omega
  refine⟨fun _=>⟨by rw[c];exact⟨i0,i1⟩,?_⟩,fun q=>absurd (show(2:Int)=1 from q) (by decide),fun q=>absurd (show(2:Int)=3 from q) (by decide)⟩;rw[c,v,m,jR _ _ _ _ (aE _),h.dn i i0 i1,hd];rfl
 ·by_cases q:j=i
  ·subst q;rw[a,eJ,g]at ho;cases ho;have p:∀x,(s.bl x).used=true→(s.bl x).op≠s.tr.length:=fun x hu e=>by
    have:=(h1.bg x hu).op;have:=(h1.bg x hu).t0;omega
   refine⟨fun x=>⟨fun q=>(by cases q),fun q=>?_⟩,fun x xu xc xo=>?_,fun _ x hxm=>(by cases hxm),fun q=>absurd (show(0:Int)=4 from q) (by decide)⟩
   ·rw[d,if_pos rfl]at q;exact absurd q.2.1 (p x (h1.ask x q.1))
   ·rw[d,if_pos rfl]at xo;exact absurd xo (p x xu)
  ·exact h.other (s':=gN s i k l t) rfl a (fun j hj=>by rw[d,if_neg hj]) j0 j1 q ho
 ·by_cases q:j=i
  ·subst q;have et:((gN s j k l t).cl j).toks=(s.cl j).toks:=by rw[a,eJ,aHF]
   have y:((gN s j k l t).cl j).inc=(s.cl j).inc:=by rw[a,eJ,w.inc]
   rw[et]at hl'⊢;have:=h.tk j j0 j1 l' hl';rw[hd]at this;rw[y,a,eJ,g,d,if_pos rfl];exact this.ext u (aE _)
  ·exact h.otherTk u a (fun j hj=>by rw[d,if_neg hj]) j0 j1 q l' hl'
theorem I3.ended{s s':Sx}(h1:I1 f s)(h:I3 f s){i:Int}(i0:0≤i)(i1:i<f.clients){c:Ct}{x:Ev}(hbl:s'.bl=s.bl)(hcl:s'.cl=upd s.cl i c)(hop:s'.opx=s.opx)(htr:s'.tr=s.tr++[x])(hc:c.doing=none)
 (hx:(x.kind=3∧x.node=i)∨(x.kind=4∧x.node= -1-i))
 (hen:x.kind=3→∃j,eU s.tr s.tr.length i=some j∧(x.res≤4→EndI f s' s.tr.length x j))
 (htk:∀l,c.toks l≠0→TokG s i l s.tr.length c.inc (c.toks l)):I3 f s':=by
 have a:Ext s s':=Ext.of_bl ⟨_,htr⟩ hbl;refine h.go h1 a (xW hbl) htr (fun j j0 j1=>?_) (fun n y hn hge hye=>?_) (fun j j0 j1 o ho=>?_) (fun j j0 j1 l' hl'=>?_) (fun b hb hn=>by rw[hbl,hn]at hb;cases hb)
 ·rw[htr,aD,aK,tL,hop,hcl];by_cases q:j=i
  ·subst q;rw[if_neg (by omega),if_pos hx,eJ,hc];rfl
  ·rw[if_neg (by omega),if_neg (by omega),eY _ _ q];exact h.dn j j0 j1
 ·rw[List.mem_singleton]at hye;subst hye;have g:n=s.tr.length:=by
   rw[htr]at hn;have:=(aF.1 hn).1;rw[aD,aK]at this;omega
  refine⟨fun q=>by omega,fun q=>by omega,fun q=>?_⟩;have e:y.node=i:=by omega
  obtain⟨j,d,w⟩:=hen q;exact⟨by omega,j,by rw[e,g,htr,jR _ _ _ _ (aE _)];exact d,fun r=>by rw[g];exact w r⟩
 ·by_cases q:j=i
  ·subst q;rw[hcl,eJ,hc]at ho;cases ho
  ·exact h.other hbl hcl (fun j _=>by rw[hop]) j0 j1 q ho
 ·by_cases q:j=i
  ·subst q;have k:s'.cl j=c:=by rw[hcl,eJ]
   rw[k]at hl'⊢;rw[hc];exact(htk l' hl').ext a a.len
  ·exact h.otherTk a hcl (fun j _=>by rw[hop]) j0 j1 q l' hl'
theorem aIt{s:Sx}(h0:I0 f s)(h1:I1 f s)(h:I3 f s){i:Int}{o:On}{res:Int}(i0:0≤i)(i1:i<f.clients)(hd:(s.cl i).doing=some o)(hr:res=5∨res=6):I3 f (vB s i o res):=by
 refine h.ended h1 i0 i1 (c:={s.cl i with doing:=none}) (x:=eP (s.cl i).num o res 0 0) rfl rfl rfl rfl rfl (Or.inl ⟨rfl,h0.num i i0 i1⟩) (fun _=>⟨s.opx i,by rw[h.dn i i0 i1,hd];rfl,fun q=>?_⟩) (fun l hl=>?_)
 ·have:res≤4:=q;omega
 ·have:=h.tk i i0 i1 l hl;rw[hd]at this;have a:=h1.ol i;exact this.ext (Ext.of_bl (s:=s) (s':=s) ⟨[],(aC _).symm⟩ rfl) (by simpa using a)
theorem aIf{s:Sx}(h0:I0 f s)(h1:I1 f s)(h:I3 f s){i:Int}(i0:0≤i)(i1:i<f.clients)(hu:(s.cl i).up=true):I3 f (sM s i):=by
 refine h.ended h1 i0 i1 (c:=mX (s.cl i)) (x:=gD (-1-(s.cl i).num)) rfl rfl rfl (by
  show s.tr++jU (s.cl i)=_;unfold jU;rw[if_neg (by rw[hu];decide)]) (by rw[uE hu]) (Or.inr ⟨rfl,by rw[h0.num i i0 i1];rfl⟩) (fun q=>absurd (show(4:Int)=3 from q) (by decide)) (fun l hl=>?_)
 rw[uE hu]at hl;exact absurd rfl hl
theorem aIH{s:Sx}(h0:I0 f s)(h1:I1 f s)(h2:I2 f s)(h:I3 f s){i:Int}{o:On}(i0:0≤i)(i1:i<f.clients)(hd:(s.cl i).doing=some o)(h4:o.att.awaited=4)(hq:f.f<o.att.ans.length):I3 f (qJ s i o):=by
 have n:=h1.on i i0 i1 o hd;have O:=h.on i i0 i1 o hd;have D:=h2.on i i0 i1 o hd;obtain⟨S,H⟩:=rI (s.cl i) o o.att.eres o.att.etok o.att.val;obtain⟨I,d,t⟩:(s.bl o.att.bal).used=true∧(s.bl o.att.bal).cl=i∧o.att.bal / 4 % 64=(s.cl i).inc:=by
  rcases h0.bal i i0 i1 o hd with y|⟨y,T,p,_⟩
  ·omega
  ·exact⟨y,T,p⟩
 have z:o.att.bal≠0:=by have:=(h0.fr0 _ I).1;omega
 obtain⟨C,G,B,Q,U⟩:=n.lk z;have r:(s.bl o.att.bal).asked=true:=(n.ask z).2 h4;have N:=O.ew h4;have b:s.opx i<s.tr.length:=(aF.1 n.ev).1;have g:Ext s s:=Ext.of_bl (s:=s) (s':=s) ⟨[],(aC _).symm⟩ rfl;have J:Ext s (qJ s i o):=Ext.of_bl ⟨_,rfl⟩ rfl;refine h.ended h1 i0 i1 (c:=gA (s.cl i) o o.att.eres o.att.etok o.att.val) (x:=eP (s.cl i).num o o.att.eres o.att.eown o.att.etok) rfl rfl rfl rfl H (Or.inl ⟨rfl,h0.num i i0 i1⟩) (fun _=>⟨s.opx i,by rw[h.dn i i0 i1,hd];rfl,fun _=>?_⟩) (fun l hl=>?_)
 ·refine⟨r,C,by show(s.bl o.att.bal).cl=(s.cl i).num;rw[d,h0.num i i0 i1],B,G,Q,(by have:=Fol.bl (s:=s) (s':=qJ s i o) rfl N;exact this),o.att.ans,D.nd,hq,fun j hj=>⟨(D.ac h4 j hj).1,(D.ac h4 j hj).2.mono J (aL _) (aE _)⟩⟩
 ·rw[S.inc];rw[aGC]at hl⊢;have a:(s.cl i).toks l≠0→TokG s i l s.tr.length (s.cl i).inc ((s.cl i).toks l):=fun q=>by
   have:=h.tk i i0 i1 l q;rw[hd]at this;exact this.ext g (by simpa using bR b)
  by_cases y:o.att.eres=1
  ·rw[if_pos y]at hl⊢;by_cases p:o.kind=3
   ·rw[if_pos p]at hl⊢;by_cases m:l=o.lock
    ·rw[if_pos m]at hl;exact absurd rfl hl
    ·rw[if_neg m]at hl⊢;exact a hl
   ·rw[if_neg p]at hl⊢;by_cases m:l=o.lock
    ·rw[if_pos m]at hl⊢;rw[m];have u:∀x,(s.bl x).used=true→(s.bl x).op=s.opx i→(s.bl x).lock=o.lock∧(s.bl x).kind=o.kind:=fun x xu xo=>by
      have P:=(h1.bg x xu).ev;rw[xo,n.ev]at P;have v:=aN P;exact⟨(congrArg Ev.olock v).symm,(congrArg Ev.okind v).symm⟩
     rcases N.2 with⟨k,q⟩|⟨k,q⟩|⟨k,q⟩|⟨k,q⟩
     ·rcases q with⟨⟨F,A,K,V,w⟩,_,_,_,et⟩|⟨_,⟨L,_,_,et⟩|⟨_,_,_,v,_⟩⟩
      ·have e:o.att.etok=(s.bl o.att.bal).pv.tok:=et;rw[e];rw[C]at A;obtain⟨R,M⟩:=u _ (h1.ask _ F) A;refine⟨F,by rw[K,d],R,by rw[M,←B,k],?_,by rw[A];exact b,(O.ops _ (h1.ask _ F) (by rw[K,d]) A).1⟩;rcases w with w|w
       ·exact w.2
       ·rw[M,←B,k]at w;exact absurd w.1 (by decide)
      ·have e:o.att.etok=o.att.bal:=et;rw[e];exact⟨r,d,G,k,by rw[L],by rw[C];exact b,t⟩
      ·have:o.att.eres=2:=v;omega
     ·rcases q with⟨_,E,_,_,_,et⟩|⟨_,v,_⟩
      ·have e:o.att.etok=(s.bl o.att.bal).pv.tok:=et;rw[e,←G,←d];rw[t]at E;rw[d]at E⊢;exact E.ext g (by rw[C];exact bR b)
      ·have:o.att.eres=3:=v;omega
     ·exact absurd (B.symm.trans k) p
     ·have:o.att.eres=4:=q.2.1;omega
    ·rw[if_neg m]at hl⊢;exact a hl
  ·rw[if_neg y]at hl⊢;by_cases p:o.att.eres=3
   ·rw[if_pos p]at hl⊢;by_cases m:l=o.lock
    ·rw[if_pos m]at hl;exact absurd rfl hl
    ·rw[if_neg m]at hl⊢;exact a hl
   ·rw[if_neg p]at hl⊢;exact a hl
end
theorem rT(o:On)(t:Int):qK o t=true↔t ∈ o.mine:=by unfold qK;exact List.contains_iff_mem
theorem aD9(o:On)(t:Int):pT o t=true↔∃x ∈ o.mine,x<t:=by unfold pT;simp
theorem vP(c:Ct)(o:On)(v:Vl):oE c o v=true↔v.own=c.num+1∧c.toks o.lock≠0∧v.tok=c.toks o.lock:=by unfold oE;simp[and_assoc]
theorem wF(o:On)(v:Vl):qD o v=true↔(o.kind=1∧v.tok=o.att.bal)∨(o.kind=3∧v.seq=o.att.bal):=by
 unfold qD;by_cases a:o.kind=1
 ·rw[if_pos a];simp[a]
 ·rw[if_neg a];by_cases b:o.kind=3
  ·rw[if_pos b];simp[a,b]
  ·rw[if_neg b];simp[a,b]
theorem aIk{f:Cf}(hff:0≤f.f){s:Sx}(h0:I0 f s)(h1:I1 f s)(h2:I2 f s)(hbd:Bd s)(h:I3 f s){i:Int}{o:On}(i0:0≤i)(i1:i<f.clients)(hd:(s.cl i).doing=some o)(q2:o.att.awaited=2)(hr:(dD f (s.cl i) o o.att.val).res≠5):I3 f (gP f s i o):=by
 have B:=aBW h0 h1 i0 i1 hd q2;obtain⟨a6,a7,a2,a4⟩:=h1.unasked h0 i0 i1 hd q2;have M:=h1.on i i0 i1 o hd;have F:=h.on i i0 i1 o hd;obtain⟨l1,l2,l3,l4,l5⟩:=M.lk a6;obtain⟨v1,v2,v3⟩:=(h2.on i i0 i1 o hd).vl q2;have hv:=hbd.valB (v3.imp id fun x=>x.1) M.e0;rw[←v1]at hv;have b0:=(h0.fr0 _ a7).1;have R:o.att.bal / 4 % 64=(s.cl i).inc:=by
  rcases h0.bal i i0 i1 o hd with q1|⟨_,_,q3,_⟩
  ·omega
  ·exact q3
 have l:=h0.num i i0 i1;obtain⟨w,d⟩:=aJ8 (dD f (s.cl i) o o.att.val);rw[d]at hr;obtain⟨g,L⟩:∃g:Bg,g={s.bl o.att.bal with asked:=true,base:=o.att.base,pv:=o.att.val,val:=w.next,t1:=s.tr.length}:=⟨_,rfl⟩;obtain⟨y,D⟩:=aJ8 (gP f s i o);have N:y.tr=s.tr++fD (s.cl i) (eV o w) 3 o.att.base w.next (gB f):=by rw[←D,←d];rfl
 have A:y.bl o.att.bal=g:=by rw[←D,L,←d];exact eJ _ _ _
 have v:∀b,b≠o.att.bal→y.bl b=s.bl b:=fun b hb=>by rw[←D];exact eY _ _ hb
 have I:y.cl i={s.cl i with doing:=some (eV o w)}:=by rw[←D,←d];exact eJ _ _ _
 have X:∀j,j≠i→y.cl j=s.cl j:=fun j hj=>by rw[←D];exact eY _ _ hj
 have G:y.opx=s.opx:=by rw[←D];rfl
 rw[D]at B⊢;have g1:g.op=s.opx i:=by rw[L];exact l1
 have W:g.cl=i:=by rw[L];exact a2
 have g3:g.lock=o.lock:=by rw[L];exact l2
 have g4:g.kind=o.kind:=by rw[L];exact l3
 have g5:g.ttl=o.ttl:=by rw[L];exact l4
 have g6:g.pv=o.att.val:=by rw[L]
 have g7:g.val=w.next:=by rw[L]
 have g8:g.asked=true:=by rw[L]
 have T:∀x,(s.bl x).asked=true→x≠o.att.bal:=fun x B e=>by rw[e,a4]at B;cases B
 have hl:aCR s y:=fun x B=>by
  by_cases q:x=o.att.bal
  ·refine Or.inr fun b bu bc bo=>?_;rw[q,A]at bc bo;rw[q];exact(F.ops b bu (by rw[bc,W]) (by rw[bo,g1])).2
  ·rw[v x q]at B;exact Or.inl B
 have a0:∀x,kZ y g o.att.bal x↔x ∈ o.mine:=fun x=>by
  constructor
  ·rintro⟨V,m2,P,m4,m5⟩;rw[v x (by omega)]at V m2 P m5;exact(F.mine x).2 ⟨V,by rw[m2,g1],by rw[P,W],m5⟩
  ·intro r;obtain⟨V,m2,P,m4⟩:=(F.mine x).1 r;have a3:=T x V;have:=(F.ops x (h1.ask x V) P m2).2;unfold kZ;rw[v x a3];exact⟨V,by rw[m2,g1],by rw[P,W],by omega,m4⟩
 have S:Fol y o.att.bal g ⟨w.next,w.res,w.own,w.tok⟩:=by
  unfold Fol;rw[W,g4,g5,g6,g7];simp only[a0];refine⟨trivial,?_⟩;have a1:∀t,(s.cl i).toks o.lock≠0→t=(s.cl i).toks o.lock→TokG y i g.lock g.op (o.att.bal / 4 % 64) t:=fun t ht e=>by
   have:=h.tk i i0 i1 o.lock ht;rw[hd]at this;rw[g3,g1,R,e];exact this.ext B (by simp)
  unfold dD at d;by_cases k1:o.kind=1
  ·refine Or.inl ⟨k1,?_⟩;rw[if_pos k1]at d;unfold gX at d;by_cases m:qK o o.att.val.tok=true
   ·rw[if_pos m]at d;subst d;exact Or.inl ⟨(rT _ _).1 m,rfl,rfl,by rw[l],rfl⟩
   ·rw[if_neg m]at d;by_cases a:pT o o.att.val.tok=true
    ·rw[if_pos a]at d;subst d;exact absurd rfl hr
    ·rw[if_neg a]at d;have a5:∀x,x ∈ o.mine→o.att.val.tok<x:=fun x r=>by
      have n1:x≠o.att.val.tok:=fun e=>m ((rT _ _).2 (e▸r));have n2:¬x<o.att.val.tok:=fun e=>a ((aD9 _ _).2 ⟨x,r,e⟩);omega
     refine Or.inr ⟨a5,?_⟩;by_cases t:o.att.val.own=0∨o.att.val.own=(s.cl i).num+1∨aCE f (s.cl i) o o.att.val=true
     ·rw[if_pos t]at d;subst d;exact Or.inl ⟨by rw[l],rfl,by rw[l],rfl⟩
     ·rw[if_neg t]at d;subst d;exact Or.inr ⟨rfl,fun e=>t (Or.inl e),fun e=>t (Or.inr (Or.inl (by rw[l];exact e))),rfl,rfl,rfl⟩
  ·rw[if_neg k1]at d;by_cases k2:o.kind=2
   ·refine Or.inr (Or.inl ⟨k2,?_⟩);rw[if_pos k2]at d;unfold lR at d;by_cases m:oE (s.cl i) o o.att.val=true
    ·rw[if_pos m]at d;obtain⟨w1,w2,w3⟩:=(vP _ _ _).1 m;subst d;exact Or.inl ⟨by rw[w1,l],a1 _ w2 w3,by rw[w1,l],rfl,by rw[l],rfl⟩
    ·rw[if_neg m]at d;subst d;exact Or.inr ⟨rfl,rfl,rfl,rfl⟩
   ·rw[if_neg k2]at d;by_cases U:o.kind=3
    ·refine Or.inr (Or.inr (Or.inl ⟨U,?_⟩));rw[if_pos U]at d;unfold gR at d;by_cases m:oE (s.cl i) o o.att.val=true
     ·rw[if_pos m]at d;obtain⟨w1,w2,w3⟩:=(vP _ _ _).1 m;subst d;exact Or.inl ⟨by rw[w1,l],a1 _ w2 w3,rfl,fun x r=>(by rw[v x (T x ((F.mine x).1 r).1),F.mt U x r,w3]),rfl,by rw[l],rfl⟩
     ·rw[if_neg m]at d;by_cases n:o.att.val.own=0∧qK o o.att.val.seq=true
      ·rw[if_pos n]at d;subst d;exact Or.inr (Or.inl ⟨rfl,n.1,(rT _ _).1 n.2,rfl,by rw[l],rfl⟩)
      ·rw[if_neg n]at d;by_cases u:0<o.mine.length∧o.att.val.tok≠(s.cl i).toks o.lock
       ·rw[if_pos u]at d;subst d;exact absurd rfl hr
       ·rw[if_neg u]at d;subst d;refine Or.inr (Or.inr ⟨rfl,fun z=>n ⟨z.1,(rT _ _).2 z.2⟩,fun x r=>?_,rfl,rfl,rfl⟩);have C:=(F.mine x).1 r;rw[v x (T x C.1),F.mt U x r];have:0<o.mine.length:=List.length_pos_of_mem r;by_cases z:o.att.val.tok=(s.cl i).toks o.lock
        ·exact z.symm
        ·exact absurd ⟨this,z⟩ u
    ·rw[if_neg U]at d;subst d;have:=M.k1;have:=M.k4;exact Or.inr (Or.inr (Or.inr ⟨by omega,rfl,rfl,rfl,rfl⟩))
 have K:∀c,∀x ∈ fD (s.cl i) (eV o w) 3 o.att.base w.next (gB f),¬Tch x c:=fun c x B=>zF (jG x B).1 (Or.inl rfl) c;refine h.go h1 B hl N (fun j j0 j1=>?_) (fun n x hn hge Y=>?_) (fun j j0 j1 p hp=>?_) (fun j j0 j1 l' hl'=>?_) (fun b hb hn=>?_)
 ·rw[N,mP _ _ _ (K j),h.dn j j0 j1,G];by_cases q:j=i
  ·subst q;rw[I,hd];rfl
  ·rw[X j q]
 ·obtain⟨k1,k2,U,k4⟩:=jG x Y;refine⟨fun q=>by omega,fun _ _=>?_,fun q=>by omega⟩;have a8:=(aF.1 hn).1;rw[N,aD]at a8;rw[U,l,k4];show _=some (y.bl o.att.bal).op;rw[A,g1,N,aD1 (K i) hge (by omega),h.dn i i0 i1,hd]
  rfl
 ·by_cases q:j=i
  ·subst q;rw[I]at hp;cases hp;have a9:(eV o w).att.bal=o.att.bal:=rfl;refine⟨fun x=>?_,fun x xu xc xo=>?_,fun k x r=>?_,fun _=>?_⟩
   ·have em:x ∈ (eV o w).mine↔x ∈ o.mine∨(qD o w.next=true∧x=o.att.bal):=by
     show x ∈ (if qD o w.next=true then o.mine++[o.att.bal]else o.mine)↔_;by_cases m:qD o w.next=true
     ·rw[if_pos m];simp[m]
     ·rw[if_neg m];simp[m]
    rw[em,G];by_cases q:x=o.att.bal
    ·rw[q,A];constructor
     ·rintro(C|⟨C,_⟩)
      ·exact absurd rfl (T _ ((F.mine _).1 C).1)
      ·refine⟨g8,g1,W,?_⟩;unfold Mkd;rw[g4,g7];exact(wF _ _).1 C
     ·rintro⟨_,_,_,C⟩;unfold Mkd at C;rw[g4,g7]at C;exact Or.inr ⟨(wF _ _).2 C,rfl⟩
    ·rw[v x q];exact(or_iff_left (fun z=>q z.2)).trans (F.mine x)
   ·rw[G]at xo;rw[I];show x / 4 % 64=(s.cl j).inc∧x≤o.att.bal;by_cases q:x=o.att.bal
    ·rw[q];exact⟨R,aL _⟩
    ·rw[v x q]at xu xc xo;exact F.ops x xu xc xo
   ·have k':o.kind=3:=k;rw[I];show(y.bl x).val.tok=(s.cl j).toks o.lock;have E:x ∈ (if qD o w.next=true then o.mine++[o.att.bal]else o.mine):=r;by_cases O:x ∈ o.mine
    ·have C:=(F.mine x).1 O;rw[v x (T x C.1)];exact F.mt k' x O
    ·by_cases m:qD o w.next=true
     ·rw[if_pos m,aO,List.mem_singleton]at E;have Y:=E.resolve_left O;rw[Y,A,g7];rcases(wF _ _).1 m with⟨V,_⟩|⟨_,m2⟩
      ·omega
      ·unfold dD gR at d;rw[if_neg (by omega),if_neg (by omega),if_pos k']at d;by_cases own:oE (s.cl j) o o.att.val=true
       ·rw[if_pos own]at d;subst d;exact((vP _ _ _).1 own).2.2
       ·rw[if_neg own]at d;have b1:w.next.seq≤o.att.base∨w.next.seq=0:=by
         subst d;split
         ·exact Or.inl hv.2.2.2.1
         ·split
          ·exact Or.inr rfl
          ·exact Or.inl hv.2.2.2.1
        omega
     ·rw[if_neg m]at E;exact absurd E O
   ·rw[a9,A,g7];exact S
  ·have Z:=X j q;rw[Z]at hp;have H:=h.on j j0 j1 p hp;have b2:∀x,(s.bl x).cl=j→x≠o.att.bal:=fun x xc e=>by rw[e,a2]at xc;exact q xc.symm
   refine⟨fun x=>?_,fun x xu xc xo=>?_,fun k x r=>?_,fun k=>?_⟩
   ·rw[G];by_cases z:x=o.att.bal
    ·constructor
     ·intro C;exact absurd z (T x ((H.mine x).1 C).1)
     ·rintro⟨_,_,P,_⟩;rw[z,A,W]at P;exact absurd P.symm q
    ·rw[v x z];exact H.mine x
   ·rw[G]at xo;rw[Z];by_cases z:x=o.att.bal
    ·rw[z,A,W]at xc;exact absurd xc.symm q
    ·rw[v x z]at xu xc xo;exact H.ops x xu xc xo
   ·have C:=(H.mine x).1 r;rw[v x (T x C.1),Z];exact H.mt k x r
   ·have Q:(s.bl p.att.bal).used=true:=by
     rcases h0.bal j j0 j1 p hp with q1|⟨q1,_⟩
     ·omega
     ·exact q1
    have J:(s.bl p.att.bal).asked=true:=((h1.on j j0 j1 p hp).ask (by have:=(h0.fr0 _ Q).1;omega)).2 k;have:=(H.ew k).ext B hl J Q;rw[B.ask _ J]at this⊢;exact this
 ·have e:(y.cl j).toks=(s.cl j).toks∧(y.cl j).inc=(s.cl j).inc∧(y.cl j).doing.isSome=(s.cl j).doing.isSome:=by
   by_cases q:j=i
   ·subst q;rw[I,hd];exact⟨rfl,rfl,rfl⟩
   ·rw[X j q];exact⟨rfl,rfl,rfl⟩
  rw[e.1]at hl'⊢;rw[e.2.1,e.2.2,G];refine(h.tk j j0 j1 l' hl').ext B ?_;have:=B.len;split
  ·exact aE _
  ·exact this
 ·by_cases q:b=o.att.bal
  ·rw[q,A];exact⟨_,S⟩
  ·rw[v b q,hn]at hb;cases hb
theorem aIT{f:Cf}(hf:f.clients≤4)(hff:0≤f.f){gd:Bool}{s s':Sx}(h0:I0 f s)(h1:I1 f s)(h2:I2 f s)(hbd:Bd s)(h:I3 f s)(hs:Mi f gd s s'):I3 f s':=by
 have z:∀(t:Sx) (i:Int) (c:Ct) (e:List Ev),t.bl=s.bl→t.tr=s.tr++e→t.opx=s.opx→t.cl=upd s.cl i c→(∀x ∈ e,(x.kind=1∧x.msg.kind≠3)∨x.kind=5∨(x.kind=4∧0≤x.node))→
  (0≤i→i<f.clients→c.inc=(s.cl i).inc∧c.toks=(s.cl i).toks∧c.doing.isSome=(s.cl i).doing.isSome∧
  ∀o',c.doing=some o'→∃o,(s.cl i).doing=some o∧o'.kind=o.kind∧o'.lock=o.lock∧o'.mine=o.mine∧o'.att.bal=o.att.bal∧(o'.att.awaited=4→o.att.awaited=4∧o'.att.eres=o.att.eres∧o'.att.eown=o.att.eown∧o'.att.etok=o.att.etok))→I3 f t:=by
  intro t i c e D H G I E F;refine aBO hf hff (gd:=gd) h0 h1 h D H G E (fun j v y=>?_);rw[I];by_cases q:j=i
  ·subst q;rw[eJ];exact F v y
  ·rw[eY _ _ q];exact⟨rfl,rfl,rfl,fun o' ho=>⟨o',ho,rfl,rfl,rfl,rfl,fun k=>⟨k,rfl,rfl,rfl⟩⟩⟩
 refine hs.elim (P:=I3 f) ?tick ?bump ?began ?att ?endU ?endQ ?hear ?prop ?lose ?ret ?acc ?ev
 case tick=>exact fun i d g u C=>z _ i {s.cl i with clock:=(s.cl i).clock+1} [] rfl rfl rfl rfl (fun x a=>by cases a) (fun _ _=>⟨rfl,rfl,rfl,fun o' ho=>⟨o',ho,rfl,rfl,rfl,rfl,fun k=>⟨k,rfl,rfl,rfl⟩⟩⟩)
 case bump=>exact fun i r o d g u hd hr hr'=>z _ i {s.cl i with round:=r} [] rfl rfl rfl rfl (fun x a=>by cases a) (fun _ _=>⟨rfl,rfl,rfl,fun o' ho=>⟨o',ho,rfl,rfl,rfl,rfl,fun k=>⟨k,rfl,rfl,rfl⟩⟩⟩)
 case began=>exact fun i k l t d g u hd B hl _ _ _=>aGJ h0 h1 h d g hd
 case att=>exact fun i o d g u hd hr=>aJl hf h0 h1 h d g u hd
 case endU=>exact fun i o res d g u hd hr=>aIt h0 h1 h d g hd hr
 case endQ=>exact fun i o d g u hd h4 hq=>aIH h0 h1 h2 h d g hd h4 hq
 case hear=>
  exact fun i o m d g u hd K hb hk0 B ha=>z _ i {s.cl i with doing:=some (heardOn o m)} [] rfl rfl rfl rfl (fun x a=>by cases a) (fun _ _=>⟨rfl,rfl,by rw[hd];rfl,fun o' ho=>by
   cases ho;exact⟨o,hd,rfl,rfl,rfl,rfl,fun k=>⟨k,rfl,rfl,rfl⟩⟩⟩)
 case prop=>exact fun i o d g u hd q2 hq hr=>aIk hff h0 h1 h2 hbd h d g hd q2 hr
 case lose=>exact fun i d g u=>aIf h0 h1 h d g u
 case ret=>
  intro i d g u J;have C:=h0.gone i d g u;have et:(uL s i).tr=s.tr++[pD (-1-(s.cl i).num)]:=by
   show s.tr++fW (s.cl i)=_;have e:dW (s.cl i)=0:=by unfold dW;rw[if_neg (by rw[u];decide),if_neg (by omega)]
   unfold fW;rw[e,if_neg (by decide)]
  have a:Ext s (uL s i):=Ext.of_bl ⟨_,et⟩ rfl;have w:(uL s i).cl=upd s.cl i {s.cl i with inc:=(s.cl i).inc+1,up:=true}:=by
   show upd s.cl i (jC (s.cl i))=_;rw[uV u J]
  have A:=C.2.2.2.2.2;refine h.go h1 a (xW rfl) et (fun j v y=>?_) (fun n x hn hge hxe=>?_) (fun j v y p hp=>?_) (fun j v y l' hl'=>?_) (fun b hb hn=>by rw[show(uL s i).bl=s.bl from rfl,hn]at hb;cases hb)
  ·rw[et,mP _ _ _ (fun x a=>by rw[List.mem_singleton]at a;subst a;exact zF rfl (Or.inr rfl) j),h.dn j v y,w];by_cases q:j=i
   ·subst q;rw[eJ,A];rfl
   ·rw[eY _ _ q];rfl
  ·rw[List.mem_singleton]at hxe;subst hxe;exact⟨fun q=>absurd (show(5:Int)=2 from q) (by decide),fun q=>absurd (show(5:Int)=1 from q) (by decide),fun q=>absurd (show(5:Int)=3 from q) (by decide)⟩
  ·by_cases q:j=i
   ·subst q;rw[w,eJ]at hp;rw[show({s.cl j with inc:=(s.cl j).inc+1,up:=true}:Ct).doing=(s.cl j).doing from rfl,A]at hp;cases hp
   ·exact h.other (s':=uL s i) rfl w (fun j _=>rfl) v y q hp
  ·by_cases q:j=i
   ·subst q;rw[w,eJ]at hl';rw[show({s.cl j with inc:=(s.cl j).inc+1,up:=true}:Ct).toks=(s.cl j).toks from rfl,C.2.2.1]at hl';exact absurd rfl hl'
   ·exact h.otherTk a w (fun j _=>rfl) v y q l' hl'
 case acc=>
  intro j m e v y K B L;refine aBO hf hff (gd:=gd) h0 h1 h (s':=sD s j m e) (e:=e) rfl rfl rfl (fun x a=>?_) (fun j v y=>⟨rfl,rfl,rfl,fun o' ho=>⟨o',ho,rfl,rfl,rfl,rfl,fun k=>⟨k,rfl,rfl,rfl⟩⟩⟩);rcases L with rfl|rfl
  ·cases a
  ·rw[List.mem_singleton]at a;subst a;refine Or.inl ⟨rfl,?_⟩;show(jH j (s.tb j m.lock) m).kind≠3;unfold jH decMsg;split
   ·show(5:Int)≠3;decide
   ·split
    ·show(2:Int)≠3;decide
    ·show(4:Int)≠3;decide
 case ev=>
  intro j k v B;refine aBO hf hff (gd:=gd) h0 h1 h (s':=sEv s j k) rfl rfl rfl (fun x a=>?_) (fun j v y=>⟨rfl,rfl,rfl,fun o' ho=>⟨o',ho,rfl,rfl,rfl,rfl,fun k=>⟨k,rfl,rfl,rfl⟩⟩⟩);rw[List.mem_singleton]at a;subst a;rcases B with rfl|rfl
  ·exact Or.inr (Or.inr ⟨rfl,v⟩)
  ·exact Or.inr (Or.inl rfl)
def Tl(f:Cf)(s:Sx):Prop:=∀i,0≤i→i<f.clients→∀o,(s.cl i).doing=some o→o.ttl≤1000
theorem aIi{f:Cf}{gd:Bool}{s s':Sx}(h0:I0 f s)(h:Tl f s)(hs:Mi f gd s s'):Tl f s':=by
 have a:∀(t:Sx) (i:Int) (c:Ct),t.cl=upd s.cl i c→(0≤i→i<f.clients→∀o,c.doing=some o→o.ttl≤1000)→Tl f t:=fun t i c hc ho j j0 j1 o hd=>by
  rw[hc]at hd;by_cases q:j=i
  ·rw[q,eJ]at hd;exact ho (q▸j0) (q▸j1) o hd
  ·rw[eY _ _ q]at hd;exact h j j0 j1 o hd
 refine hs.ways (P:=Tl f) h0 ?still ?began ?att ?hear ?prop ?acc
 case still=>exact fun t ht i i0 i1 o ho=>h i i0 i1 o (ht.dg i o ho)
 case began=>exact fun i k l t i0 i1 hu hd hk hl ht=>a _ i _ rfl fun _ _ o ho=>by rw[(nQ _ k l t).2]at ho;cases ho;exact ht.2
 case att=>exact fun i o i0 i1 hu hd hr=>a _ i {s.cl i with round:=(s.cl i).round+1,doing:=some (fB o (s.cl i))} rfl fun _ _ o' ho=>by cases ho;exact h i i0 i1 o hd
 case hear=>exact fun i o m i0 i1 hu hd _ _ _ _ _=>a _ i {s.cl i with doing:=some (heardOn o m)} rfl fun _ _ o' ho=>by cases ho;exact h i i0 i1 o hd
 case prop=>exact fun i o i0 i1 hu hd _ _ _=>a _ i {s.cl i with doing:=some (eV o (dD f (s.cl i) o o.att.val))} rfl fun _ _ o' ho=>by cases ho;exact h i i0 i1 o hd
 case acc=>exact fun j m e _ _ _ _ _ i i0 i1 o ho=>h i i0 i1 o ho
structure Inv(f:Cf)(s:Sx):Prop where
 i0:I0 f s
 i1:I1 f s
 i2:I2 f s
 i3:I3 f s
 bd:Bd s
 tl:Tl f s
theorem MiR.all{f:Cf}(hf:f.clients≤4)(hff:0≤f.f){gd:Bool}{s:Sx}(h:MiR f gd s):Inv f s:=
 h.ind (P:=Inv f) ⟨aHX f,aHj f,aJz f,aJo f,fun b hb=>(by cases hb),fun i _ _ o ho=>(by cases ho)⟩
  fun s s' _ k hs=>⟨aEN hf k.i0 hs,aEF hf hff k.i0 k.i1 hs,aIL hf hff k.i0 k.i1 k.i2 hs,aIT hf hff k.i0 k.i1 k.i2 k.bd k.i3 hs,aIe hf hff k.i0 k.i1 k.i2 k.tl k.bd hs,aIi k.i0 k.tl hs⟩
theorem qV:∀(n:Nat) (l:List Int),l.Nodup→(∀x ∈ l,0≤x∧x<(n:Int))→l.length≤n
 |0,l,_,hb=>by
  cases l with
  |nil=>exact aE _
  |cons x l=>have:=hb x (by simp);omega
 |n+1,l,hn,hb=>by
  by_cases hm:(n:Int) ∈ l
  ·have ih:=qV n (l.erase n) (hn.erase _) (fun x hx=>by
    have h1:=hb x (List.mem_of_mem_erase hx);have h2:x≠n:=fun e=>by
     have:=(List.Nodup.mem_erase_iff hn).1 hx;exact this.1 e
    omega)
   rw[List.length_erase_of_mem hm]at ih;have:=List.length_pos_of_mem hm;omega
  ·have ih:=qV n l hn (fun x hx=>by
    have h1:=hb x hx;have h2:x≠n:=fun e=>hm (e▸hx);omega)
   omega
theorem vI{f:Int}(hf:0≤f){p q:List Int}(hp:p.Nodup)(hq:q.Nodup)(lp:f<p.length)(lq:f<q.length)(bp:∀x ∈ p,0≤x∧x<2*f+1)(bq:∀x ∈ q,0≤x∧x<2*f+1):∃x,x ∈ p∧x ∈ q:=by
 refine aH fun hno=>?_;have b:∀x ∈ p,∀y ∈ q,x≠y:=fun x a y hy e=>hno ⟨x,a,e▸hy⟩;have:=qV (2*f+1).toNat (p++q) (List.nodup_append.2 ⟨hp,hq,b⟩) (fun x a=>by
  rcases aO.1 a with a|a
  ·have:=bp x a;omega
  ·have:=bq x a;omega)
 rw[aD]at this;omega
def sS(f:Cf)(s:Sx)(l b:Int)(n:Nat):Prop:=∃q:List Int,q.Nodup∧f.f<q.length∧∀j ∈ q,(0≤j∧j<2*f.f+1)∧Said s 4 j l b 0 n
section
variable {f:Cf}{s:Sx}
theorem aDc(h:Inv f s){j l b base:Int}{n:Nat}(q:Said s 4 j l b base n):(s.bl b).asked=true∧(s.bl b).lock=l:=by
 obtain⟨k,e,_,m,p,o,r,i,g,_⟩:=q;have d:=h.i1.ms k e m p;have a:=d.lk;rw[g]at a;refine⟨?_,by rw[←a];exact i⟩;rcases d.ca with⟨c,_⟩|⟨c,_⟩|⟨_,_,_,_,c⟩
 ·omega
 ·omega
 ·have:=(c o).1;rw[g]at this;exact this
theorem tS(hff:0≤f.f)(h:Inv f s){l b:Int}{n:Nat}(q:sS f s l b n):(s.bl b).asked=true∧(s.bl b).lock=l:=by
 obtain⟨p,_,c,a⟩:=q;cases p with
 |nil=>simp at c;omega
 |cons x p=>exact aDc h (a x (by simp)).2
theorem wP(hff:0≤f.f)(h:Inv f s){l q b:Int}{n:Nat}(hq:sS f s l q n)(hb:(s.bl b).asked=true)(hl:(s.bl b).lock=l)(hlt:q<b):q≤(s.bl b).base:=by
 obtain⟨p,B,t,j⟩:=hq;obtain⟨r,o,I,k⟩:=(h.i2.ask b hb).qu;obtain⟨x,K,E⟩:=vI hff B o t I (fun x hx=>(j x hx).1) (fun x hx=>(k x hx).1);obtain⟨g,G,_,c,H,u,y,v,F,M⟩:=(k x E).2;obtain⟨m,w,_,i,A,C,L,D,J,_⟩:=(j x K).2;have a:=h.i2.ord g m G w c i H A u C (y.trans L.symm) (by rw[v,D,hl]);rw[J,F]at a;have d:g≠m:=fun e=>by
  rw[e,i]at c;cases c;omega
 rcases Nat.lt_or_gt_of_ne d with z|z
 ·have:=a.2 z;omega
 ·have:=a.1 z;omega
def anc(s:Sx):Nat→Int→Int
 |0,b=>b
 |n+1,b=>if b=0 then 0 else anc s n (s.bl b).base
def Up(s:Sx)(q b:Int):Prop:=∃n,anc s n b=q
theorem Up.refl(b:Int):Up s b b:=⟨0,rfl⟩
theorem Up.step{q b:Int}(hb:b≠0)(h:Up s q (s.bl b).base):Up s q b:=by
 obtain⟨n,a⟩:=h;exact⟨n+1,(if_neg hb).trans a⟩
theorem Up.down{q b:Int}(h:Up s q b)(hne:q≠b):Up s q (s.bl b).base:=by
 obtain⟨n,a⟩:=h;cases n with
 |zero=>exact absurd a.symm hne
 |succ n=>
  unfold anc at a;by_cases c:b=0
  ·rw[if_pos c]at a;exact absurd (a.symm.trans c.symm) hne
  ·rw[if_neg c]at a;exact⟨n,a⟩
theorem rD:∀n,anc s n 0=0
 |0=>rfl
 |n+1=>if_pos rfl
theorem Up.trans{p q b:Int}(h:Up s p q)(k:Up s q b):Up s p b:=by
 obtain⟨n,a⟩:=k;induction n generalizing b with
 |zero=>subst a;exact h
 |succ n ih=>
  unfold anc at a;by_cases c:b=0
  ·rw[if_pos c]at a;rw[←a,←c]at h;exact h
  ·rw[if_neg c]at a;exact(ih a).step c
theorem lJ(h:Inv f s){P:Int→Prop}(h0:∀b,(s.bl b).asked=true→(s.bl b).base=0→P b)(hs:∀b,(s.bl b).asked=true→(s.bl (s.bl b).base).asked=true→(s.bl (s.bl b).base).lock=(s.bl b).lock→P (s.bl b).base→P b):∀b,(s.bl b).asked=true→P b:=by
 have c:∀(n:Nat) (b:Int),b.toNat≤n→(s.bl b).asked=true→P b:=by
  intro n;induction n with
  |zero=>
   intro b g a;have:=(h.i0.fr0 b (h.i1.ask b a)).1;omega
  |succ n ih=>
   intro b g a;have k:=h.i2.ask b a;rcases k.up with u|⟨d,e,_⟩
   ·exact h0 b a u
   ·have:=(h.i0.fr0 b (h.i1.ask b a)).1;have:=k.lt;have:=k.b0;exact hs b a d e (ih _ (by omega) d)
 exact fun b=>c b.toNat b (aE _)
theorem dI(h:Inv f s){b:Int}(hb:(s.bl b).asked=true):256≤b:=(h.i0.fr0 b (h.i1.ask b hb)).1
theorem zI(h:Inv f s){q:Int}(hq:q≠0):∀b,(s.bl b).asked=true→Up s q b→(s.bl q).asked=true∧(s.bl q).lock=(s.bl b).lock∧q≤b:=by
 refine lJ h (fun b hb h0 hu=>?_) (fun b hb ha hl ih hu=>?_)
 ·by_cases e:q=b
  ·subst e;exact⟨hb,rfl,aL _⟩
  ·have:=hu.down e;rw[h0]at this;obtain⟨n,d⟩:=this;exact absurd (d.symm.trans (rD n)) hq
 ·by_cases e:q=b
  ·subst e;exact⟨hb,rfl,aL _⟩
  ·obtain⟨a,c,g⟩:=ih (hu.down e);have:=(h.i2.ask b hb).lt;exact⟨a,by rw[c,hl],by omega⟩
theorem aFf(hff:0≤f.f)(h:Inv f s){l q:Int}{n:Nat}(hq:sS f s l q n):∀b,(s.bl b).asked=true→(s.bl b).lock=l→q≤b→Up s q b:=by
 have a:=dI h (tS hff h hq).1;refine lJ h (fun b hb h0 hl hle=>?_) (fun b hb ha hl' ih hl hle=>?_)
 ·by_cases e:q=b
  ·rw[e];exact Up.refl b
  ·have:=wP hff h hq hb hl (by omega);omega
 ·by_cases e:q=b
  ·rw[e];exact Up.refl b
  ·have:=wP hff h hq hb hl (by omega);exact(ih (hl'.trans hl) this).step (by have:=dI h hb;omega)
theorem gK(h:Inv f s){b:Int}(hb:(s.bl b).asked=true):(s.bl b).val=(s.bl b).pv∨
 ((s.bl b).kind=1∧(s.bl b).val=⟨(s.bl b).cl+1,b,(s.bl b).ttl,1⟩∧∀x,kZ s (s.bl b) b x→(s.bl b).pv.tok<x)∨
 ((s.bl b).kind=2∧(s.bl b).pv.own=(s.bl b).cl+1∧TokG s (s.bl b).cl (s.bl b).lock (s.bl b).op (b / 4 % 64) (s.bl b).pv.tok∧(s.bl b).val=⟨(s.bl b).cl+1,(s.bl b).pv.tok,(s.bl b).ttl,min ((s.bl b).pv.seq+1) 2147483647⟩)∨
 ((s.bl b).kind=3∧(s.bl b).pv.own=(s.bl b).cl+1∧TokG s (s.bl b).cl (s.bl b).lock (s.bl b).op (b / 4 % 64) (s.bl b).pv.tok∧(s.bl b).val=⟨0,(s.bl b).pv.tok,0,b⟩∧∀x,kZ s (s.bl b) b x→(s.bl x).val.tok=(s.bl b).pv.tok):=by
 obtain⟨w,_,q⟩:=h.i3.fol b hb;rcases q with⟨k,q⟩|⟨k,q⟩|⟨k,q⟩|⟨k,q⟩
 ·rcases q with⟨_,q,_⟩|⟨a,⟨q,_⟩|⟨q,_⟩⟩
  ·exact Or.inl q
  ·exact Or.inr (Or.inl ⟨k,q,a⟩)
  ·exact Or.inl q
 ·rcases q with⟨a,d,c,_⟩|⟨q,_⟩
  ·exact Or.inr (Or.inr (Or.inl ⟨k,a,d,c⟩))
  ·exact Or.inl q
 ·rcases q with⟨a,d,c,e,_⟩|⟨q,_⟩|⟨q,_⟩
  ·exact Or.inr (Or.inr (Or.inr ⟨k,a,d,c,e⟩))
  ·exact Or.inl q
  ·exact Or.inl q
 ·exact Or.inl q.1
theorem jL(h:Inv f s){b:Int}(hb:(s.bl b).asked=true):((s.bl b).base=0∧(s.bl b).pv=zVl)∨((s.bl b).base≠0∧(s.bl (s.bl b).base).asked=true∧(s.bl b).pv=(s.bl (s.bl b).base).val):=by
 have k:=h.i2.ask b hb;by_cases z:(s.bl b).base=0
 ·refine Or.inl ⟨z,?_⟩;rw[k.pv,valB,if_pos z]
 ·refine Or.inr ⟨z,(k.up.resolve_left z).1,?_⟩;rw[k.pv,valB,if_neg z]
theorem aBb(h:Inv f s){b:Int}(hb:(s.bl b).asked=true):0≤(s.bl b).pv.tok∧(s.bl b).pv.tok<b∧0≤(s.bl b).pv.seq∧(s.bl b).pv.seq<b:=by
 have k:=h.i2.ask b hb;have:=h.bd.valB (k.up.imp id fun x=>x.1) k.b0;rw[←k.pv]at this;have:=k.lt;omega
theorem aCO(h:Inv f s){b:Int}(hb:(s.bl b).asked=true):(s.bl b).pv.tok≤(s.bl b).val.tok:=by
 have a:=aBb h hb;rcases gK h hb with q|⟨_,q,_⟩|⟨_,_,_,q⟩|⟨_,_,_,q,_⟩
 ·rw[q];exact aL _
 ·rw[q];show(s.bl b).pv.tok≤b;omega
 ·rw[q];exact aL _
 ·rw[q];exact aL _
theorem aDQ(h:Inv f s){q:Int}(hq:q≠0):∀b,(s.bl b).asked=true→Up s q b→(s.bl q).val.tok≤(s.bl b).val.tok:=by
 refine lJ h (fun b hb h0 hu=>?_) (fun b hb ha hl ih hu=>?_)
 ·by_cases e:q=b
  ·subst e;exact aL _
  ·have:=hu.down e;rw[h0]at this;obtain⟨n,a⟩:=this;exact absurd (a.symm.trans (rD n)) hq
 ·by_cases e:q=b
  ·subst e;exact aL _
  ·have i:=ih (hu.down e);have:=aCO h hb;rcases jL h hb with⟨z,_⟩|⟨_,_,z⟩
   ·rw[z]at ha;have:=dI h ha;omega
   ·rw[z]at this;omega
theorem aGz(h:Inv f s):∀b,(s.bl b).asked=true→(s.bl b).val.tok≠0→Up s (s.bl b).val.tok b∧(s.bl (s.bl b).val.tok).asked=true∧(s.bl (s.bl b).val.tok).kind=1∧(s.bl (s.bl b).val.tok).val=⟨(s.bl (s.bl b).val.tok).cl+1,(s.bl b).val.tok,(s.bl (s.bl b).val.tok).ttl,1⟩∧∀x,kZ s (s.bl (s.bl b).val.tok) (s.bl b).val.tok x→(s.bl (s.bl b).val.tok).pv.tok<x:=by
 refine lJ h (fun b hb h0 ht=>?_) (fun b hb ha hl ih ht=>?_)
 ·have c:(s.bl b).pv=zVl:=by
   rcases jL h hb with⟨_,z⟩|⟨z,_⟩
   ·exact z
   ·exact absurd h0 z
  rcases gK h hb with q|⟨k,q,g⟩|⟨_,_,d,q⟩|⟨_,_,d,q,_⟩
  ·rw[q,c]at ht;exact absurd rfl ht
  ·have e:(s.bl b).val.tok=b:=by rw[q]
   rw[e];exact⟨Up.refl b,hb,k,q,g⟩
  ·have:=dI h d.ask;rw[c]at this;exact absurd (show(256:Int)≤0 from this) (by decide)
  ·have:=dI h d.ask;rw[c]at this;exact absurd (show(256:Int)≤0 from this) (by decide)
 ·have c:(s.bl b).pv=(s.bl (s.bl b).base).val:=by
   rcases jL h hb with⟨z,_⟩|⟨_,_,z⟩
   ·rw[z]at ha;have:=dI h ha;omega
   ·exact z
  have i:b≠0:=by have:=dI h hb;omega
  have a:(s.bl b).val.tok=(s.bl b).pv.tok→Up s (s.bl b).val.tok b∧(s.bl (s.bl b).val.tok).asked=true∧(s.bl (s.bl b).val.tok).kind=1∧(s.bl (s.bl b).val.tok).val=⟨(s.bl (s.bl b).val.tok).cl+1,(s.bl b).val.tok,(s.bl (s.bl b).val.tok).ttl,1⟩∧∀x,kZ s (s.bl (s.bl b).val.tok) (s.bl b).val.tok x→(s.bl (s.bl b).val.tok).pv.tok<x:=fun e=>by
   have m:(s.bl b).val.tok=(s.bl (s.bl b).base).val.tok:=by rw[e,c]
   rw[m]at ht⊢;obtain⟨j,l⟩:=ih ht;exact⟨j.step i,l⟩
  rcases gK h hb with q|⟨k,q,g⟩|⟨_,_,d,q⟩|⟨_,_,d,q,_⟩
  ·exact a (by rw[q])
  ·have e:(s.bl b).val.tok=b:=by rw[q]
   rw[e];exact⟨Up.refl b,hb,k,q,g⟩
  ·exact a (by rw[q])
  ·exact a (by rw[q])
theorem aGl(h:Inv f s):∀b,(s.bl b).asked=true→(s.bl b).val.own≠0→(s.bl b).val.tok≠0∧(s.bl b).val.own=(s.bl (s.bl b).val.tok).cl+1:=by
 refine lJ h (fun b hb h0 ht=>?_) (fun b hb ha hl ih ht=>?_)
 ·have c:(s.bl b).pv=zVl:=by
   rcases jL h hb with⟨_,z⟩|⟨z,_⟩
   ·exact z
   ·exact absurd h0 z
  have g:=(h.i0.fr0 b (h.i1.ask b hb)).2.1;rcases gK h hb with q|⟨k,q,l⟩|⟨_,a,d,q⟩|⟨_,a,d,q,_⟩
  ·rw[q,c]at ht;exact absurd rfl ht
  ·have e:(s.bl b).val.tok=b:=by rw[q]
   rw[e];exact⟨by have:=dI h hb;omega,by rw[q]⟩
  ·rw[c]at a;have:(0:Int)=(s.bl b).cl+1:=a;omega
  ·rw[c]at a;have:(0:Int)=(s.bl b).cl+1:=a;omega
 ·have c:(s.bl b).pv=(s.bl (s.bl b).base).val:=by
   rcases jL h hb with⟨z,_⟩|⟨_,_,z⟩
   ·rw[z]at ha;have:=dI h ha;omega
   ·exact z
  have g:=(h.i0.fr0 b (h.i1.ask b hb)).2.1;rcases gK h hb with q|⟨k,q,l⟩|⟨_,a,d,q⟩|⟨_,a,d,q,_⟩
  ·rw[q,c]at ht⊢;exact ih ht
  ·have e:(s.bl b).val.tok=b:=by rw[q]
   rw[e];exact⟨by have:=dI h hb;omega,by rw[q]⟩
  ·rw[c]at a;obtain⟨i,j⟩:=ih (by rw[a];omega);have e:(s.bl b).val.tok=(s.bl (s.bl b).base).val.tok:=by rw[q,c]
   have m:(s.bl b).val.own=(s.bl (s.bl b).base).val.own:=by rw[q,a]
   rw[e,m];exact⟨i,j⟩
  ·rw[q]at ht;exact absurd rfl ht
theorem zR(h:Inv f s){q:Int}(hq:(s.bl q).asked=true)(ho:(s.bl q).val.own=0):∀b,(s.bl b).asked=true→Up s q b→(s.bl b).val.tok=(s.bl q).val.tok→(s.bl b).val=(s.bl q).val:=by
 have c:q≠0:=by have:=dI h hq;omega
 refine lJ h (fun b hb h0 hu ht=>?_) (fun b hb ha hl ih hu ht=>?_)
 ·by_cases e:q=b
  ·rw[e]
  ·have:=hu.down e;rw[h0]at this;obtain⟨n,o⟩:=this;exact absurd (o.symm.trans (rD n)) c
 ·by_cases e:q=b
  ·rw[e]
  ·have a:=hu.down e;have d:(s.bl b).pv=(s.bl (s.bl b).base).val:=by
    rcases jL h hb with⟨z,_⟩|⟨_,_,z⟩
    ·rw[z]at ha;have:=dI h ha;omega
    ·exact z
   have r:=aDQ h c _ ha a;have j:=aCO h hb;rw[d]at j;have g:=ih a (by omega);have p:=(h.i0.fr0 b (h.i1.ask b hb)).2.1;have i:(s.bl b).pv.own=0:=by rw[d,g,ho]
   rcases gK h hb with w|⟨k,w,_⟩|⟨_,l,m,w⟩|⟨_,l,m,w,_⟩
   ·rw[w,d,g]
   ·have t:(s.bl b).val.tok=b:=by rw[w]
    have:=(h.bd _ hq).2.1;have:=(zI h c _ ha a).2.2;have:=(h.i2.ask b hb).lt;omega
   ·omega
   ·omega
theorem aAP(h:Inv f s):∀b,(s.bl b).asked=true→(s.bl b).val.own=0→(s.bl b).val.seq≠0→Up s (s.bl b).val.seq b∧(s.bl (s.bl b).val.seq).asked=true∧(s.bl (s.bl b).val.seq).kind=3∧(s.bl (s.bl b).val.seq).val=(s.bl b).val∧(s.bl (s.bl b).val.seq).pv.own≠0:=by
 refine lJ h (fun b hb h0 ho ht=>?_) (fun b hb ha hl ih ho ht=>?_)
 ·have c:(s.bl b).pv=zVl:=by
   rcases jL h hb with⟨_,z⟩|⟨z,_⟩
   ·exact z
   ·exact absurd h0 z
  have i:=(h.i0.fr0 b (h.i1.ask b hb)).2.1;rcases gK h hb with q|⟨k,q,m⟩|⟨_,a,d,q⟩|⟨_,a,d,q,_⟩
  ·rw[q,c]at ht;exact absurd rfl ht
  ·rw[q]at ho;have:(s.bl b).cl+1=0:=ho;omega
  ·rw[q]at ho;have:(s.bl b).cl+1=0:=ho;omega
  ·rw[c]at a;have:(0:Int)=(s.bl b).cl+1:=a;omega
 ·have c:(s.bl b).pv=(s.bl (s.bl b).base).val:=by
   rcases jL h hb with⟨z,_⟩|⟨_,_,z⟩
   ·rw[z]at ha;have:=dI h ha;omega
   ·exact z
  have g:b≠0:=by have:=dI h hb;omega
  have i:=(h.i0.fr0 b (h.i1.ask b hb)).2.1;rcases gK h hb with q|⟨k,q,m⟩|⟨_,a,d,q⟩|⟨k,a,d,q,_⟩
  ·rw[q,c]at ho ht⊢;obtain⟨j,l⟩:=ih ho ht;exact⟨j.step g,l⟩
  ·rw[q]at ho;have:(s.bl b).cl+1=0:=ho;omega
  ·rw[q]at ho;have:(s.bl b).cl+1=0:=ho;omega
  ·have e:(s.bl b).val.seq=b:=by rw[q]
   rw[e];exact⟨Up.refl b,hb,k,rfl,by omega⟩
end
structure Bt where
 m:Mg
 at_:Int
 op:Int
 acc:List Int
def gF:List Bt→Int→Option Nat
 |[],_=>none
 |x::l,n=>if x.m.bal=n then some 0 else(gF l n).map (·+1)
def mgB(a b:Mg):Bool:=a.kind==b.kind&&a.src==b.src&&a.dst==b.dst&&a.lock==b.lock&&a.bal==b.bal&&a.base==b.base&&a.val.own==b.val.own&&a.val.tok==b.val.tok&&a.val.ttl==b.val.ttl&&a.val.seq==b.val.seq
def zBt:Bt:=⟨zMg,0,0,[]⟩
def uB(t:List Ev)(j:Nat):Int:=(t.getD j zEv).olock
def lP(t:List Ev)(lock:Int)(out:List Bt)(i:Nat)(e:Ev):Option (List Bt):=
 if e.kind≠1∨e.msg.lock≠lock then some out else
 match gF out e.msg.bal with
 |none=>
  if e.msg.kind=3 then
   match eU t i e.msg.src with
   |none=>none
   |some op=>if uB t op≠lock∨e.msg.bal<256∨e.msg.bal % 4≠e.msg.src then none else some (out++[⟨{e.msg with dst:=0},i,op,[]⟩])
  else if e.msg.kind=4 then none else some out
 |some k=>
  if e.msg.kind=3 then(if mgB {e.msg with dst:=0} (out.getD k zBt).m=true then some out else none)
  else if e.msg.kind=4 then some (if(out.getD k zBt).acc.contains e.msg.src=true then out else out.set k {(out.getD k zBt)with acc:=(out.getD k zBt).acc++[e.msg.src]})
  else some out
def iA(t:List Ev)(lock:Int):Nat→Option (List Bt)
 |0=>some []
 |n+1=>(iA t lock n).bind fun out=>lP t lock out n (t.getD n zEv)
theorem aGW(a:Mg):mgB a a=true:=by unfold mgB;simp
theorem aJi{l:List Bt}{n:Int}:gF l n=none↔∀x ∈ l,x.m.bal≠n:=by
 induction l with
 |nil=>simp[gF]
 |cons x l ih=>
  unfold gF;by_cases h:x.m.bal=n
  ·rw[if_pos h];simp[h]
  ·rw[if_neg h,Option.map_eq_none_iff,ih];simp[h]
theorem nU{l:List Bt}{n:Int}{k:Nat}(h:gF l n=some k):∃x,l[k]?=some x∧x.m.bal=n:=by
 induction l generalizing k with
 |nil=>cases h
 |cons x l ih=>
  unfold gF at h;by_cases e:x.m.bal=n
  ·rw[if_pos e]at h;cases h;exact⟨x,rfl,e⟩
  ·rw[if_neg e]at h;obtain⟨f,c,b⟩:=Option.map_eq_some_iff.1 h;subst b;obtain⟨y,a,d⟩:=ih c;exact⟨y,by simpa using a,d⟩
structure BtInv(f:Cf)(s:Sx)(lock:Int)(n:Nat)(out:List Bt):Prop where
 nd:(out.map fun x=>x.m.bal).Nodup
 el:∀x ∈ out,(s.bl x.m.bal).asked=true∧(s.bl x.m.bal).lock=lock∧x.m=aAs x.m.bal (s.bl x.m.bal) 0∧x.at_=(s.bl x.m.bal).t1∧x.op=(s.bl x.m.bal).op∧x.acc.Nodup∧∀j,j ∈ x.acc↔Said s 4 j lock x.m.bal 0 n
 al:∀b,(s.bl b).asked=true→(s.bl b).lock=lock→(s.bl b).t1<n→∃x ∈ out,x.m.bal=b
section
variable {f:Cf}{s:Sx}{lock:Int}
theorem tC{kind j l b base:Int}{n:Nat}(h:∀e,s.tr[n]?=some e→e.kind=1→e.msg.kind=kind→e.msg.lock=l→e.msg.bal=b→e.msg.src=j→False):Said s kind j l b base (n+1)↔Said s kind j l b base n:=by
 constructor
 ·rintro⟨k,e,o,c,i,d,g,a,f,m⟩;by_cases q:k=n
  ·subst q;exact(h e c i d a f g).elim
  ·exact⟨k,e,by omega,c,i,d,g,a,f,m⟩
 ·rintro⟨k,e,o,c,i,d,g,a,f,m⟩;exact⟨k,e,by omega,c,i,d,g,a,f,m⟩
theorem aFy{out:List Bt}(hn:(out.map fun x=>x.m.bal).Nodup){x y:Bt}(hx:x ∈ out)(hy:y ∈ out)(h:x.m.bal=y.m.bal):x=y:=by
 induction out with
 |nil=>cases hx
 |cons z l ih=>
  rw[List.map_cons,List.nodup_cons]at hn;rcases List.mem_cons.1 hx with b|hx
  ·rcases List.mem_cons.1 hy with a|hy
   ·exact b.trans a.symm
   ·exact absurd (bN.2 ⟨y,hy,by rw[←h,b]⟩) hn.1
  ·rcases List.mem_cons.1 hy with a|hy
   ·exact absurd (bN.2 ⟨x,hx,by rw[h,a]⟩) hn.1
   ·exact ih hn.2 hx hy
theorem BtInv.skip(h:Inv f s){n:Nat}{out:List Bt}(k:BtInv f s lock n out){e:Ev}(he:s.tr[n]?=some e)(hq:¬(e.kind=1∧e.msg.lock=lock∧(e.msg.kind=3∨e.msg.kind=4))):BtInv f s lock (n+1) out:=by
 refine⟨k.nd,fun x hx=>?_,fun b hb hl ht=>?_⟩
 ·obtain⟨c,d,g,m,l,i,o⟩:=k.el x hx;refine⟨c,d,g,m,l,i,fun j=>?_⟩;rw[tC (fun e' h2 h3 h4 h5 _ _=>by rw[he]at h2;cases h2;exact hq ⟨h3,h5,Or.inr h4⟩)];exact o j
 ·by_cases q:(s.bl b).t1=n
  ·exfalso;have a:=(h.i1.bg b (h.i1.ask b hb)).ac hb;rw[q,he]at a;cases a;exact hq ⟨rfl,hl,Or.inl rfl⟩
  ·exact k.al b hb hl (by omega)
theorem aGO(h:Inv f s){n:Nat}{out:List Bt}(k:BtInv f s lock n out){e:Ev}(he:s.tr[n]?=some e):∃out',lP s.tr lock out n e=some out'∧BtInv f s lock (n+1) out':=by
 unfold lP;by_cases v:e.kind≠1∨e.msg.lock≠lock
 ·rw[if_pos v];exact⟨out,rfl,k.skip h he (fun q=>by rcases v with z|z;exact z q.1;exact z q.2.1)⟩
 ·rw[if_neg v];have C:e.kind=1:=aH fun z=>v (Or.inl z);have T:e.msg.lock=lock:=aH fun z=>v (Or.inr z);have mo:=h.i1.ms n e he C;by_cases o:e.msg.kind=3∨e.msg.kind=4
  ·have W:(s.bl e.msg.bal).asked=true∧(s.bl e.msg.bal).t1≤n∧(e.msg.kind=3→e.msg=aAs e.msg.bal (s.bl e.msg.bal) e.msg.dst)∧(e.msg.kind=4→(s.bl e.msg.bal).t1<n∧e.msg.base=0):=by
    rcases mo.ca with⟨c,_⟩|⟨c,c1,c2,c3⟩|⟨c,_,_,_,c4⟩
    ·omega
    ·exact⟨c1,c2,fun _=>c3,fun z=>by omega⟩
    ·have:=c4 (by omega);exact⟨this.1,by omega,fun z=>by omega,fun _=>⟨this.2.1,this.2.2⟩⟩
   obtain⟨a1,a2,a3,a4⟩:=W;have al:(s.bl e.msg.bal).lock=lock:=by rw[←mo.lk];exact T
   cases hf:gF out e.msg.bal with
   |none=>
    dsimp only;have U:=aJi.1 hf;have a6:(s.bl e.msg.bal).t1=n:=by
     by_cases q:(s.bl e.msg.bal).t1<n
     ·obtain⟨x,l,g⟩:=k.al _ a1 al q;exact absurd g (U x l)
     ·omega
    have u:e.msg.kind=3:=by
     rcases o with z|z
     ·exact z
     ·have:=(a4 z).1;omega
    rw[if_pos u,h.i3.ac n e he C u];dsimp only;have bg:=h.i1.bg _ (h.i1.ask _ a1);have fr:=h.i0.fr0 _ (h.i1.ask _ a1);have Y:e.msg.src=(s.bl e.msg.bal).cl:=by have:=congrArg Mg.src (a3 u);exact this
    have a5:uB s.tr (s.bl e.msg.bal).op=lock:=by
     unfold uB;rw[aQ,bg.ev];exact al
    rw[if_neg (by rw[a5,Y];omega)];refine⟨_,rfl,?_,fun x E=>?_,fun b hb hl ht=>?_⟩
    ·rw[bO,List.nodup_append];refine⟨k.nd,by simp,fun p hp q hq e'=>?_⟩;simp only[List.map_cons,List.map_nil,List.mem_singleton]at hq;obtain⟨x,l,g⟩:=bN.1 hp;exact U x l (by rw[g,e',hq])
    ·rcases aO.1 E with E|E
     ·obtain⟨R,J,H,Q,O,S,L⟩:=k.el x E;refine⟨R,J,H,Q,O,S,fun j=>?_⟩;rw[tC (fun e' h2 h3 h4 h5 _ _=>by rw[he]at h2;cases h2;omega)];exact L j
     ·rw[List.mem_singleton]at E;subst E;refine⟨a1,al,?_,by show(n:Int)=((s.bl e.msg.bal).t1:Int);rw[a6],rfl,by simp,fun j=>⟨fun z=>(by cases z),fun z=>?_⟩⟩
      ·show({e.msg with dst:=0}:Mg)=aAs e.msg.bal (s.bl e.msg.bal) 0;rw[a3 u];rfl
      ·exfalso;obtain⟨kk,M,z1,t,N,I,K,z6,F,_⟩:=z;have mm:=h.i1.ms kk M t N;rcases mm.ca with⟨c,_⟩|⟨c,_⟩|⟨c,_,_,_,c4⟩
       ·omega
       ·omega
       ·have:=(c4 I).2.1;rw[F]at this;have:(s.bl e.msg.bal).t1<kk:=this;omega
    ·by_cases q:b=e.msg.bal
     ·exact⟨⟨{e.msg with dst:=0},n,(s.bl e.msg.bal).op,[]⟩,List.mem_append_right _ (List.mem_singleton.2 rfl),q.symm⟩
     ·by_cases q':(s.bl b).t1=n
      ·exfalso;have A:=(h.i1.bg b (h.i1.ask b hb)).ac hb;rw[q',he]at A;cases A;exact q rfl
      ·obtain⟨x,l,g⟩:=k.al b hb hl (by omega);exact⟨x,List.mem_append_left _ l,g⟩
   |some kk=>
    dsimp only;obtain⟨x,l,g⟩:=nU hf;have xm:=List.mem_of_getElem? l;obtain⟨R,J,H,Q,O,S,L⟩:=k.el x xm;have hg:out.getD kk zBt=x:=by rw[aQ,l];rfl
    have D:∀b,(s.bl b).asked=true→(s.bl b).lock=lock→(s.bl b).t1<n+1→∃x ∈ out,x.m.bal=b:=fun b hb hl ht=>by
     by_cases q':(s.bl b).t1=n
     ·have A:=(h.i1.bg b (h.i1.ask b hb)).ac hb;rw[q',he]at A;cases A;exact⟨x,xm,g⟩
     ·exact k.al b hb hl (by omega)
    rcases o with G|G
    ·rw[if_pos G,hg];have e1:({e.msg with dst:=0}:Mg)=x.m:=by
      rw[H,g,a3 G];rfl
     rw[e1,if_pos (aGW _)];refine⟨out,rfl,k.nd,fun y hy=>?_,D⟩;obtain⟨R,J,H,Q,O,S,L⟩:=k.el y hy;refine⟨R,J,H,Q,O,S,fun j=>?_⟩;rw[tC (fun e' h2 h3 h4 h5 _ _=>by rw[he]at h2;cases h2;omega)];exact L j
    ·rw[if_neg (by omega),if_pos G,hg];have r:∀b j,Said s 4 j lock b 0 (n+1)↔Said s 4 j lock b 0 n∨(b=e.msg.bal∧j=e.msg.src):=fun b j=>by
      constructor
      ·rintro⟨kq,M,z1,t,N,I,K,z6,F,z8⟩;by_cases q:kq=n
       ·subst q;rw[he]at t;cases t;exact Or.inr ⟨F.symm,K.symm⟩
       ·exact Or.inl ⟨kq,M,by omega,t,N,I,K,z6,F,z8⟩
      ·rintro(⟨kq,M,z1,t,N,I,K,z6,F,z8⟩|⟨q1,q2⟩)
       ·exact⟨kq,M,by omega,t,N,I,K,z6,F,z8⟩
       ·exact⟨n,e,by omega,he,C,G,q2.symm,T,q1.symm,by rw[(a4 G).2];exact aL _⟩
     by_cases hc:x.acc.contains e.msg.src=true
     ·rw[if_pos hc];refine⟨out,rfl,k.nd,fun y hy=>?_,D⟩;obtain⟨l1,l2,l3,l4,l5,l6,Z⟩:=k.el y hy;refine⟨l1,l2,l3,l4,l5,l6,fun j=>?_⟩;rw[r,Z];constructor
      ·exact Or.inl
      ·rintro(z|⟨z1,t⟩)
       ·exact z
       ·have:=aFy k.nd hy xm (z1.trans g.symm);rw[t,←Z,this];exact List.contains_iff_mem.1 hc
     ·rw[if_neg hc];have B:kk<out.length:=(aF.1 l).1;have X:∀y,y ∈ out.set kk {x with acc:=x.acc++[e.msg.src]}→y={x with acc:=x.acc++[e.msg.src]}∨(y ∈ out∧y.m.bal≠e.msg.bal):=fun y hy=>by
       obtain⟨i,P,d⟩:=List.mem_iff_getElem.1 hy;rw[bP]at P;by_cases q:kk=i
       ·subst q;rw[bQ]at d;exact Or.inl d.symm
       ·rw[List.getElem_set_ne q]at d;refine Or.inr ⟨by rw[←d];exact bF _,fun eb=>?_⟩;have V:y ∈ out:=by rw[←d];exact bF _
        have nd:=k.nd;rw[List.nodup_iff_pairwise_ne,List.pairwise_iff_getElem]at nd;have xk:out[kk]=x:=(aF.1 l).2;rcases Nat.lt_or_gt_of_ne q with z|z
        ·have:=nd kk i (by simpa using B) (by simpa using P) z;simp only[List.getElem_map]at this;rw[xk,d,g,eb]at this;exact this rfl
        ·have:=nd i kk (by simpa using P) (by simpa using B) z;simp only[List.getElem_map]at this;rw[xk,d,g,eb]at this;exact this rfl
      refine⟨_,rfl,?_,fun y hy=>?_,fun b hb hl ht=>?_⟩
      ·have:(out.set kk {x with acc:=x.acc++[e.msg.src]}).map (fun x=>x.m.bal)=out.map fun x=>x.m.bal:=by
        rw[List.map_set];refine List.ext_getElem (by simp) fun i v h2=>?_;by_cases q:kk=i
        ·subst q;rw[bQ,List.getElem_map,(aF.1 l).2]
        ·rw[List.getElem_set_ne q]
       rw[this];exact k.nd
      ·rcases X y hy with rfl|⟨V,a0⟩
       ·refine⟨R,J,H,Q,O,?_,fun j=>?_⟩
        ·refine List.nodup_append.2 ⟨S,by simp,fun a ha b hb' e'=>?_⟩;rw[List.mem_singleton]at hb';subst hb';subst e';exact hc (List.contains_iff_mem.2 ha)
        ·show j ∈ x.acc++[e.msg.src]↔Said s 4 j lock x.m.bal 0 (n+1);rw[r,aO,List.mem_singleton,L,g];simp
       ·obtain⟨l1,l2,l3,l4,l5,l6,Z⟩:=k.el y V;refine⟨l1,l2,l3,l4,l5,l6,fun j=>?_⟩;rw[r,Z];exact⟨Or.inl,fun z=>z.resolve_right fun w=>a0 w.1⟩
      ·obtain⟨y,y1,y2⟩:=D b hb hl ht;by_cases q:b=e.msg.bal
       ·refine⟨{x with acc:=x.acc++[e.msg.src]},List.mem_iff_getElem.2 ⟨kk,by simpa using B,bQ _⟩,?_⟩;show x.m.bal=b;rw[g,q]
       ·obtain⟨i,P,d⟩:=List.mem_iff_getElem.1 y1;have a7:kk≠i:=fun eq=>by
         subst eq;rw[(aF.1 l).2]at d;rw[←d,g]at y2;exact q y2.symm
        exact⟨y,List.mem_iff_getElem.2 ⟨i,by simpa using P,by rw[List.getElem_set_ne a7];exact d⟩,y2⟩
  ·have hs:lP s.tr lock out n e=some out:=by
    unfold lP;rw[if_neg v];cases gF out e.msg.bal<;>dsimp only<;>rw[if_neg (fun z=>o (Or.inl z)),if_neg (fun z=>o (Or.inr z))]
   unfold lP at hs;rw[if_neg v]at hs;exact⟨out,hs,k.skip h he (fun q=>o q.2.2)⟩
theorem tJ(h:Inv f s):∀n,n≤s.tr.length→∃out,iA s.tr lock n=some out∧BtInv f s lock n out
 |0,_=>⟨[],rfl,by simp,fun x hx=>(by cases hx),fun b _ _ ht=>absurd ht (Nat.not_lt_zero _)⟩
 |n+1,hn=>by
  obtain⟨out,h1,h2⟩:=tJ h n (by omega);have hlt:n<s.tr.length:=by omega
  obtain⟨out',h3,h4⟩:=aGO h h2 (aP hlt);refine⟨out',?_,h4⟩;unfold iA;rw[h1,Option.bind_some,aQ,aP hlt];exact h3
end
end Go.Proofs.YtbbdgokdfhdpiaaGreatDoor
