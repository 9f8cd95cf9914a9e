/- A part of the proof: Pax5. -/
import Derived.Test.YtbbdgokdfhdpiaaGreatDoorE8
import Derived.Test.YtbbdgokdfhdpiaaGreatDoorE13
namespace Go.Proofs.YtbbdgokdfhdpiaaGreatDoor
set_option linter.all false
set_option maxRecDepth 100000
set_option maxHeartbeats 40000000
open Go.Proofs.Tryz Go.RowKit
theorem qS(o:On)(t:Int):oG o t=true↔t ∈ o.mine:=by unfold oG;exact List.contains_iff_mem
theorem aCZ(o:On)(t:Int):nV o t=true↔∃x ∈ o.mine,x<t:=by unfold nV;simp
theorem uC(c:Ct)(o:On)(v:Vl):lQ c o v=true↔v.own=c.num+1∧c.toks o.lock≠0∧v.tok=c.toks o.lock:=by unfold lQ;simp[and_assoc]
theorem uP(o:On)(v:Vl):oC o v=true↔(o.kind=1∧v.tok=o.att.bal)∨(o.kind=3∧v.seq=o.att.bal):=by
 unfold oC;by_cases a:o.kind=1
 ·rw[if_pos a];simp[a]
 ·rw[if_neg a];by_cases b:o.kind=3
  ·rw[if_pos b];simp[a,b]
  ·rw[if_neg b];simp[a,b]
theorem aGA{f:Cf}(hff:0≤f.f){s:Sx}(h0:I0 f s)(h1:I1 f s)(h2:I2 f s)(hbd:Bd s)(h:I3 f s){i:Int}{o:On}(i0:0≤i)(i1:i<f.clients)(hd:(s.cl i).doing=some o)(q2:o.att.awaited=2)(hr:(cU f (s.cl i) o o.att.val).res≠5):I3 f (iI f s i o):=by
 have B:=aA4 h0 h1 i0 i1 hd q2;obtain⟨a6,a7,a2,a4⟩:=h1.unasked h0 i0 i1 hd q2;have M:=h1.on i i0 i1 o hd;have F:=h.on i i0 i1 o hd;obtain⟨l1,l2,l3,l4,l5⟩:=M.lk a6;obtain⟨v1,v2,v3⟩:=(h2.on i i0 i1 o hd).vl q2;have hv:=hbd.valB (v3.imp id fun x=>x.1) M.e0;rw[←v1]at hv;have b0:=(h0.fr0 _ a7).1;have R:o.att.bal / 4 % 64=(s.cl i).inc:=by
  rcases h0.bal i i0 i1 o hd with q1|⟨_,_,q3,_⟩
  ·omega
  ·exact q3
 have l:=h0.num i i0 i1;obtain⟨w,d⟩:=aIf (cU f (s.cl i) o o.att.val);rw[d]at hr;obtain⟨g,L⟩:∃g:Bg,g={s.bl o.att.bal with asked:=true,base:=o.att.base,pv:=o.att.val,val:=w.next,t1:=s.tr.length}:=⟨_,rfl⟩;obtain⟨y,D⟩:=aIf (iI f s i o);have N:y.tr=s.tr++fA (s.cl i) (eJ o w) 3 o.att.base w.next (dI f):=by rw[←D,←d];rfl
 have A:y.bl o.att.bal=g:=by rw[←D,L,←d];exact eW _ _ _
 have v:∀b,b≠o.att.bal→y.bl b=s.bl b:=fun b hb=>by rw[←D];exact fJ _ _ hb
 have I:y.cl i={s.cl i with doing:=some (eJ o w)}:=by rw[←D,←d];exact eW _ _ _
 have X:∀j,j≠i→y.cl j=s.cl j:=fun j hj=>by rw[←D];exact fJ _ _ hj
 have G:y.opx=s.opx:=by rw[←D];rfl
 rw[D]at B⊢;have g1:g.op=s.opx i:=by rw[L];exact l1
 have W:g.cl=i:=by rw[L];exact a2
 have g3:g.lock=o.lock:=by rw[L];exact l2
 have g4:g.kind=o.kind:=by rw[L];exact l3
 have g5:g.ttl=o.ttl:=by rw[L];exact l4
 have g6:g.pv=o.att.val:=by rw[L]
 have g7:g.val=w.next:=by rw[L]
 have g8:g.asked=true:=by rw[L]
 have T:∀x,(s.bl x).asked=true→x≠o.att.bal:=fun x B e=>by rw[e,a4]at B;cases B
 have hl:aBW s y:=fun x B=>by
  by_cases q:x=o.att.bal
  ·refine Or.inr fun b bu bc bo=>?_;rw[q,A]at bc bo;rw[q];exact(F.ops b bu (by rw[bc,W]) (by rw[bo,g1])).2
  ·rw[v x q]at B;exact Or.inl B
 have a0:∀x,mC y g o.att.bal x↔x ∈ o.mine:=fun x=>by
  constructor
  ·rintro⟨V,m2,P,m4,m5⟩;rw[v x (by omega)]at V m2 P m5;exact(F.mine x).2 ⟨V,by rw[m2,g1],by rw[P,W],m5⟩
  ·intro r;obtain⟨V,m2,P,m4⟩:=(F.mine x).1 r;have a3:=T x V;have:=(F.ops x (h1.ask x V) P m2).2;unfold mC;rw[v x a3];exact⟨V,by rw[m2,g1],by rw[P,W],by omega,m4⟩
 have S:Fol y o.att.bal g ⟨w.next,w.res,w.own,w.tok⟩:=by
  unfold Fol;rw[W,g4,g5,g6,g7];simp only[a0];refine⟨trivial,?_⟩;have a1:∀t,(s.cl i).toks o.lock≠0→t=(s.cl i).toks o.lock→TokG y i g.lock g.op (o.att.bal / 4 % 64) t:=fun t ht e=>by
   have:=h.tk i i0 i1 o.lock ht;rw[hd]at this;rw[g3,g1,R,e];exact this.ext B (by simp)
  unfold cU at d;by_cases k1:o.kind=1
  ·refine Or.inl ⟨k1,?_⟩;rw[if_pos k1]at d;unfold gR at d;by_cases m:oG o o.att.val.tok=true
   ·rw[if_pos m]at d;subst d;exact Or.inl ⟨(qS _ _).1 m,rfl,rfl,by rw[l],rfl⟩
   ·rw[if_neg m]at d;by_cases a:nV o o.att.val.tok=true
    ·rw[if_pos a]at d;subst d;exact absurd rfl hr
    ·rw[if_neg a]at d;have a5:∀x,x ∈ o.mine→o.att.val.tok<x:=fun x r=>by
      have n1:x≠o.att.val.tok:=fun e=>m ((qS _ _).2 (e▸r));have n2:¬x<o.att.val.tok:=fun e=>a ((aCZ _ _).2 ⟨x,r,e⟩);omega
     refine Or.inr ⟨a5,?_⟩;by_cases t:o.att.val.own=0∨o.att.val.own=(s.cl i).num+1∨aBM f (s.cl i) o o.att.val=true
     ·rw[if_pos t]at d;subst d;exact Or.inl ⟨by rw[l],rfl,by rw[l],rfl⟩
     ·rw[if_neg t]at d;subst d;exact Or.inr ⟨rfl,fun e=>t (Or.inl e),fun e=>t (Or.inr (Or.inl (by rw[l];exact e))),rfl,rfl,rfl⟩
  ·rw[if_neg k1]at d;by_cases k2:o.kind=2
   ·refine Or.inr (Or.inl ⟨k2,?_⟩);rw[if_pos k2]at d;unfold kQ at d;by_cases m:lQ (s.cl i) o o.att.val=true
    ·rw[if_pos m]at d;obtain⟨w1,w2,w3⟩:=(uC _ _ _).1 m;subst d;exact Or.inl ⟨by rw[w1,l],a1 _ w2 w3,by rw[w1,l],rfl,by rw[l],rfl⟩
    ·rw[if_neg m]at d;subst d;exact Or.inr ⟨rfl,rfl,rfl,rfl⟩
   ·rw[if_neg k2]at d;by_cases U:o.kind=3
    ·refine Or.inr (Or.inr (Or.inl ⟨U,?_⟩));rw[if_pos U]at d;unfold gN at d;by_cases m:lQ (s.cl i) o o.att.val=true
     ·rw[if_pos m]at d;obtain⟨w1,w2,w3⟩:=(uC _ _ _).1 m;subst d;exact Or.inl ⟨by rw[w1,l],a1 _ w2 w3,rfl,fun x r=>(by rw[v x (T x ((F.mine x).1 r).1),F.mt U x r,w3]),rfl,by rw[l],rfl⟩
     ·rw[if_neg m]at d;by_cases n:o.att.val.own=0∧oG o o.att.val.seq=true
      ·rw[if_pos n]at d;subst d;exact Or.inr (Or.inl ⟨rfl,n.1,(qS _ _).1 n.2,rfl,by rw[l],rfl⟩)
      ·rw[if_neg n]at d;by_cases u:0<o.mine.length∧o.att.val.tok≠(s.cl i).toks o.lock
       ·rw[if_pos u]at d;subst d;exact absurd rfl hr
       ·rw[if_neg u]at d;subst d;refine Or.inr (Or.inr ⟨rfl,fun z=>n ⟨z.1,(qS _ _).2 z.2⟩,fun x r=>?_,rfl,rfl,rfl⟩);have C:=(F.mine x).1 r;rw[v x (T x C.1),F.mt U x r];have:0<o.mine.length:=List.length_pos_of_mem r;by_cases z:o.att.val.tok=(s.cl i).toks o.lock
        ·exact z.symm
        ·exact absurd ⟨this,z⟩ u
    ·rw[if_neg U]at d;subst d;have:=M.k1;have:=M.k4;exact Or.inr (Or.inr (Or.inr ⟨by omega,rfl,rfl,rfl,rfl⟩))
 have K:∀c,∀x ∈ fA (s.cl i) (eJ o w) 3 o.att.base w.next (dI f),¬Tch x c:=fun c x B=>xL (sH x B).1 (Or.inl rfl) c;refine h.go h1 B hl N (fun j j0 j1=>?_) (fun n x hn hge Y=>?_) (fun j j0 j1 p hp=>?_) (fun j j0 j1 l' hl'=>?_) (fun b hb hn=>?_)
 ·rw[N,lS _ _ _ (K j),h.dn j j0 j1,G];by_cases q:j=i
  ·subst q;rw[I,hd];rfl
  ·rw[X j q]
 ·obtain⟨k1,k2,U,k4⟩:=sH x Y;refine⟨fun q=>by omega,fun _ _=>?_,fun q=>by omega⟩;have a8:=(aF.1 hn).1;rw[N,aD]at a8;rw[U,l,k4];show _=some (y.bl o.att.bal).op;rw[A,g1,N,aCT (K i) hge (by omega),h.dn i i0 i1,hd]
  rfl
 ·by_cases q:j=i
  ·subst q;rw[I]at hp;cases hp;have a9:(eJ o w).att.bal=o.att.bal:=rfl;refine⟨fun x=>?_,fun x xu xc xo=>?_,fun k x r=>?_,fun _=>?_⟩
   ·have em:x ∈ (eJ o w).mine↔x ∈ o.mine∨(oC o w.next=true∧x=o.att.bal):=by
     show x ∈ (if oC o w.next=true then o.mine++[o.att.bal]else o.mine)↔_;by_cases m:oC o w.next=true
     ·rw[if_pos m];simp[m]
     ·rw[if_neg m];simp[m]
    rw[em,G];by_cases q:x=o.att.bal
    ·rw[q,A];constructor
     ·rintro(C|⟨C,_⟩)
      ·exact absurd rfl (T _ ((F.mine _).1 C).1)
      ·refine⟨g8,g1,W,?_⟩;unfold Mkd;rw[g4,g7];exact(uP _ _).1 C
     ·rintro⟨_,_,_,C⟩;unfold Mkd at C;rw[g4,g7]at C;exact Or.inr ⟨(uP _ _).2 C,rfl⟩
    ·rw[v x q];exact(or_iff_left (fun z=>q z.2)).trans (F.mine x)
   ·rw[G]at xo;rw[I];show x / 4 % 64=(s.cl j).inc∧x≤o.att.bal;by_cases q:x=o.att.bal
    ·rw[q];exact⟨R,aL _⟩
    ·rw[v x q]at xu xc xo;exact F.ops x xu xc xo
   ·have k':o.kind=3:=k;rw[I];show(y.bl x).val.tok=(s.cl j).toks o.lock;have E:x ∈ (if oC o w.next=true then o.mine++[o.att.bal]else o.mine):=r;by_cases O:x ∈ o.mine
    ·have C:=(F.mine x).1 O;rw[v x (T x C.1)];exact F.mt k' x O
    ·by_cases m:oC o w.next=true
     ·rw[if_pos m,aO,List.mem_singleton]at E;have Y:=E.resolve_left O;rw[Y,A,g7];rcases(uP _ _).1 m with⟨V,_⟩|⟨_,m2⟩
      ·omega
      ·unfold cU gN at d;rw[if_neg (by omega),if_neg (by omega),if_pos k']at d;by_cases own:lQ (s.cl j) o o.att.val=true
       ·rw[if_pos own]at d;subst d;exact((uC _ _ _).1 own).2.2
       ·rw[if_neg own]at d;have b1:w.next.seq≤o.att.base∨w.next.seq=0:=by
         subst d;split
         ·exact Or.inl hv.2.2.2.1
         ·split
          ·exact Or.inr rfl
          ·exact Or.inl hv.2.2.2.1
        omega
     ·rw[if_neg m]at E;exact absurd E O
   ·rw[a9,A,g7];exact S
  ·have Z:=X j q;rw[Z]at hp;have H:=h.on j j0 j1 p hp;have b2:∀x,(s.bl x).cl=j→x≠o.att.bal:=fun x xc e=>by rw[e,a2]at xc;exact q xc.symm
   refine⟨fun x=>?_,fun x xu xc xo=>?_,fun k x r=>?_,fun k=>?_⟩
   ·rw[G];by_cases z:x=o.att.bal
    ·constructor
     ·intro C;exact absurd z (T x ((H.mine x).1 C).1)
     ·rintro⟨_,_,P,_⟩;rw[z,A,W]at P;exact absurd P.symm q
    ·rw[v x z];exact H.mine x
   ·rw[G]at xo;rw[Z];by_cases z:x=o.att.bal
    ·rw[z,A,W]at xc;exact absurd xc.symm q
    ·rw[v x z]at xu xc xo;exact H.ops x xu xc xo
   ·have C:=(H.mine x).1 r;rw[v x (T x C.1),Z];exact H.mt k x r
   ·have Q:(s.bl p.att.bal).used=true:=by
     rcases h0.bal j j0 j1 p hp with q1|⟨q1,_⟩
     ·omega
     ·exact q1
    have J:(s.bl p.att.bal).asked=true:=((h1.on j j0 j1 p hp).ask (by have:=(h0.fr0 _ Q).1;omega)).2 k;have:=(H.ew k).ext B hl J Q;rw[B.ask _ J]at this⊢;exact this
 ·have e:(y.cl j).toks=(s.cl j).toks∧(y.cl j).inc=(s.cl j).inc∧(y.cl j).doing.isSome=(s.cl j).doing.isSome:=by
   by_cases q:j=i
   ·subst q;rw[I,hd];exact⟨rfl,rfl,rfl⟩
   ·rw[X j q];exact⟨rfl,rfl,rfl⟩
  rw[e.1]at hl'⊢;rw[e.2.1,e.2.2,G];refine(h.tk j j0 j1 l' hl').ext B ?_;have:=B.len;split
  ·exact aE _
  ·exact this
 ·by_cases q:b=o.att.bal
  ·rw[q,A];exact⟨_,S⟩
  ·rw[v b q,hn]at hb;cases hb
theorem aG7{f:Cf}(hf:f.clients≤4)(hff:0≤f.f){gd:Bool}{s s':Sx}(h0:I0 f s)(h1:I1 f s)(h2:I2 f s)(hbd:Bd s)(h:I3 f s)(hs:Mi f gd s s'):I3 f s':=by
 have z:∀(t:Sx) (i:Int) (c:Ct) (e:List Ev),t.bl=s.bl→t.tr=s.tr++e→t.opx=s.opx→t.cl=upd s.cl i c→(∀x ∈ e,(x.kind=1∧x.msg.kind≠3)∨x.kind=5∨(x.kind=4∧0≤x.node))→
  (0≤i→i<f.clients→c.inc=(s.cl i).inc∧c.toks=(s.cl i).toks∧c.doing.isSome=(s.cl i).doing.isSome∧
  ∀o',c.doing=some o'→∃o,(s.cl i).doing=some o∧o'.kind=o.kind∧o'.lock=o.lock∧o'.mine=o.mine∧o'.att.bal=o.att.bal∧(o'.att.awaited=4→o.att.awaited=4∧o'.att.eres=o.att.eres∧o'.att.eown=o.att.eown∧o'.att.etok=o.att.etok))→I3 f t:=by
  intro t i c e D H G I E F;refine aAX hf hff (gd:=gd) h0 h1 h D H G E (fun j v y=>?_);rw[I];by_cases q:j=i
  ·subst q;rw[eW];exact F v y
  ·rw[fJ _ _ q];exact⟨rfl,rfl,rfl,fun o' ho=>⟨o',ho,rfl,rfl,rfl,rfl,fun k=>⟨k,rfl,rfl,rfl⟩⟩⟩
 refine hs.elim (P:=I3 f) ?tick ?bump ?began ?att ?endU ?endQ ?hear ?prop ?lose ?ret ?acc ?ev
 case tick=>exact fun i d g u C=>z _ i {s.cl i with clock:=(s.cl i).clock+1} [] rfl rfl rfl rfl (fun x a=>by cases a) (fun _ _=>⟨rfl,rfl,rfl,fun o' ho=>⟨o',ho,rfl,rfl,rfl,rfl,fun k=>⟨k,rfl,rfl,rfl⟩⟩⟩)
 case bump=>exact fun i r o d g u hd hr hr'=>z _ i {s.cl i with round:=r} [] rfl rfl rfl rfl (fun x a=>by cases a) (fun _ _=>⟨rfl,rfl,rfl,fun o' ho=>⟨o',ho,rfl,rfl,rfl,rfl,fun k=>⟨k,rfl,rfl,rfl⟩⟩⟩)
 case began=>exact fun i k l t d g u hd B hl _ _ _=>aFb h0 h1 h d g hd
 case att=>exact fun i o d g u hd hr=>aHv hf h0 h1 h d g u hd
 case endU=>exact fun i o res d g u hd hr=>aGI h0 h1 h d g hd hr
 case endQ=>exact fun i o d g u hd h4 hq=>aGX h0 h1 h2 h d g hd h4 hq
 case hear=>
  exact fun i o m d g u hd K hb hk0 B ha=>z _ i {s.cl i with doing:=some (heardOn o m)} [] rfl rfl rfl rfl (fun x a=>by cases a) (fun _ _=>⟨rfl,rfl,by rw[hd];rfl,fun o' ho=>by
   cases ho;exact⟨o,hd,rfl,rfl,rfl,rfl,fun k=>⟨k,rfl,rfl,rfl⟩⟩⟩)
 case prop=>exact fun i o d g u hd q2 hq hr=>aGA hff h0 h1 h2 hbd h d g hd q2 hr
 case lose=>exact fun i d g u=>aGv h0 h1 h d g u
 case ret=>
  intro i d g u J;have C:=h0.gone i d g u;have et:(tA s i).tr=s.tr++[nX (-1-(s.cl i).num)]:=by
   show s.tr++iE (s.cl i)=_;have e:eK (s.cl i)=0:=by unfold eK;rw[if_neg (by rw[u];decide),if_neg (by omega)]
   unfold iE;rw[e,if_neg (by decide)]
  have a:Ext s (tA s i):=Ext.of_bl ⟨_,et⟩ rfl;have w:(tA s i).cl=upd s.cl i {s.cl i with inc:=(s.cl i).inc+1,up:=true}:=by
   show upd s.cl i (iQ (s.cl i))=_;rw[tH u J]
  have A:=C.2.2.2.2.2;refine h.go h1 a (wE rfl) et (fun j v y=>?_) (fun n x hn hge hxe=>?_) (fun j v y p hp=>?_) (fun j v y l' hl'=>?_) (fun b hb hn=>by rw[show(tA s i).bl=s.bl from rfl,hn]at hb;cases hb)
  ·rw[et,lS _ _ _ (fun x a=>by rw[List.mem_singleton]at a;subst a;exact xL rfl (Or.inr rfl) j),h.dn j v y,w];by_cases q:j=i
   ·subst q;rw[eW,A];rfl
   ·rw[fJ _ _ q];rfl
  ·rw[List.mem_singleton]at hxe;subst hxe;exact⟨fun q=>absurd (show(5:Int)=2 from q) (by decide),fun q=>absurd (show(5:Int)=1 from q) (by decide),fun q=>absurd (show(5:Int)=3 from q) (by decide)⟩
  ·by_cases q:j=i
   ·subst q;rw[w,eW]at hp;rw[show({s.cl j with inc:=(s.cl j).inc+1,up:=true}:Ct).doing=(s.cl j).doing from rfl,A]at hp;cases hp
   ·exact h.other (s':=tA s i) rfl w (fun j _=>rfl) v y q hp
  ·by_cases q:j=i
   ·subst q;rw[w,eW]at hl';rw[show({s.cl j with inc:=(s.cl j).inc+1,up:=true}:Ct).toks=(s.cl j).toks from rfl,C.2.2.1]at hl';exact absurd rfl hl'
   ·exact h.otherTk a w (fun j _=>rfl) v y q l' hl'
 case acc=>
  intro j m e v y K B L;refine aAX hf hff (gd:=gd) h0 h1 h (s':=rA s j m e) (e:=e) rfl rfl rfl (fun x a=>?_) (fun j v y=>⟨rfl,rfl,rfl,fun o' ho=>⟨o',ho,rfl,rfl,rfl,rfl,fun k=>⟨k,rfl,rfl,rfl⟩⟩⟩);rcases L with rfl|rfl
  ·cases a
  ·rw[List.mem_singleton]at a;subst a;refine Or.inl ⟨rfl,?_⟩;show(jG j (s.tb j m.lock) m).kind≠3;unfold jG decMsg;split
   ·show(5:Int)≠3;decide
   ·split
    ·show(2:Int)≠3;decide
    ·show(4:Int)≠3;decide
 case ev=>
  intro j k v B;refine aAX hf hff (gd:=gd) h0 h1 h (s':=sEv s j k) rfl rfl rfl (fun x a=>?_) (fun j v y=>⟨rfl,rfl,rfl,fun o' ho=>⟨o',ho,rfl,rfl,rfl,rfl,fun k=>⟨k,rfl,rfl,rfl⟩⟩⟩);rw[List.mem_singleton]at a;subst a;rcases B with rfl|rfl
  ·exact Or.inr (Or.inr ⟨rfl,v⟩)
  ·exact Or.inr (Or.inl rfl)
end Go.Proofs.YtbbdgokdfhdpiaaGreatDoor
