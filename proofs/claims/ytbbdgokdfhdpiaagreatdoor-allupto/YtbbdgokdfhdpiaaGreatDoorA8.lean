/- A part of the proof: SimCl. -/
import Derived.Test.YtbbdgokdfhdpiaaGreatDoorA6
namespace Go.Proofs.YtbbdgokdfhdpiaaGreatDoor
set_option linter.all false
set_option maxRecDepth 100000
set_option maxHeartbeats 40000000
open Go.Proofs.Tryz Go.RowKit
def aKp(w:Wt)(r:Rwt):Prop:=(r=aKX∧w=zWt)∨(r.on=true∧w=⟨r.val.own,r.val.tok,r.val.seq,r.at_⟩∧r.val.own≠0)
def aKZ(o:On)(r:Rc):Prop:=
 (o.att.awaited=2∧r.asked=false∧r.back=[]∧o.att.ans=r.heard.map (·.src)∧(o.att.base,o.att.val)=jR r.heard)∨
 (o.att.awaited=4∧r.asked=true∧o.att.ans=r.back∧r.fres=o.att.eres∧r.fown=o.att.eown∧r.ftok=o.att.etok∧((o.att.eres=2∨o.att.eres=4)→r.next=o.att.val)∧o.att.eres≠5)
structure zA(o:On)(r:Rc):Prop where
 kind:r.kind=o.kind
 lock:r.lock=o.lock
 ttl:r.ttl=o.ttl
 began:r.began=o.began
 tries:r.tries=o.tries
 mine:r.mine=o.mine
 bal:r.bal=o.att.bal
 at_:r.at_=o.att.began
def qU(now a b:Int):Prop:=a=b∨(a≤now∧b≤now)
structure KSim(c:Ct)(r:Rc):Prop where
 id:r.id=c.num
 inc:r.inc=c.inc
 up:r.up=c.up
 clock:r.clock=c.clock
 round:r.round=c.round
 tok:∀l,0≤l→l≤3→r.tok l=c.toks l
 til:∀l,0≤l→l≤3→qU c.clock (r.til l) (c.holds l)
 wat:∀l,0≤l→l≤3→aKp (c.wat l) (r.wat l)
 out:∀l,¬(0≤l∧l≤3)→c.holds l=0
structure tV(c:Ct)(r:Rc):Prop where
 k:KSim c r
 busy:r.busy=c.doing.isSome
 on:∀o,c.doing=some o→zA o r∧aKZ o r
section
variable {α:Type} (f:Int→α) (l:Int)
theorem aEl(v:α):upd f l v l=v:=by simp[upd]
theorem aCM(v:α){k:Int}(h:k≠l):upd f l v k=f k:=by simp[upd,h]
end
theorem aCG{f g:Int→Int}(h:∀l,0≤l→l≤3→f l=g l)(k v:Int):∀l,0≤l→l≤3→upd f k v l=upd g k v l:=fun l h0 h3=>by
 unfold upd;split
 ·rfl
 ·exact h l h0 h3
theorem aAC{f g:Int→Int}{now:Int}(h:∀l,0≤l→l≤3→qU now (f l) (g l))(k v w:Int)(hvw:qU now v w):∀l,0≤l→l≤3→qU now (upd f k v l) (upd g k w l):=fun l h0 h3=>by
 unfold upd;split
 ·exact hvw
 ·exact h l h0 h3
theorem aAL{g:Int→Int}(h:∀l,¬(0≤l∧l≤3)→g l=0){k:Int}(hk:0≤k∧k≤3)(v:Int):∀l,¬(0≤l∧l≤3)→upd g k v l=0:=fun l hl=>by
 unfold upd;split
 ·rename_i e;subst e;exact absurd hk hl
 ·exact h l hl
section
variable {g:Cf}{c:Ct}{o:On}{r:Rc}{N:Int}{i:Nat}
theorem KSim.noDoing(h:KSim c r)(d:Option On)(b:Bool):KSim {c with doing:=d} {r with busy:=b}:=⟨h.id,h.inc,h.up,h.clock,h.round,h.tok,h.til,h.wat,h.out⟩
theorem yF(h:KSim c r)(ho:zA o r)(hl:0≤o.lock∧o.lock≤3)(res own tok:Int)(v:Vl)(hv:res=2∨res=4→r.next=v):
 tV (gW c o res tok v) (fP r res tok)∧jV r res own tok=rK c o res own tok:=by
 refine⟨?_,?_⟩
 ·have n:(gW c o res tok v).doing=none:=by
   unfold gW kZ oK nP;dsimp only
   repeat' split
   all_goals rfl
  have t:(fP r res tok).busy=false:=by
   unfold fP wG;dsimp only
   repeat' split
   all_goals rfl
  refine⟨?_,by rw[n,t];rfl,fun o' ho'=>by rw[n]at ho';cases ho'⟩;have a:=h.noDoing none false;unfold gW fP;dsimp only;by_cases k:res=1
  ·rw[if_pos k,if_pos k];unfold kZ oK;rw[ho.kind];by_cases d:o.kind=3
   ·rw[if_pos d,if_pos d,ho.lock];exact⟨a.id,a.inc,a.up,a.clock,a.round,aCG a.tok _ _,aAC a.til _ _ _ (Or.inl rfl),a.wat,aAL a.out hl _⟩
   ·rw[if_neg d,if_neg d,ho.lock,ho.began,ho.ttl];exact⟨a.id,a.inc,a.up,a.clock,a.round,aCG a.tok _ _,aAC a.til _ _ _ (Or.inl rfl),a.wat,aAL a.out hl _⟩
  ·rw[if_neg k,if_neg k];by_cases d:res=3
   ·rw[if_pos d,if_pos d];unfold oK;rw[ho.lock];exact⟨a.id,a.inc,a.up,a.clock,a.round,aCG a.tok _ _,aAC a.til _ _ _ (Or.inl rfl),a.wat,aAL a.out hl _⟩
   ·rw[if_neg d,if_neg d];by_cases j:res=2∨res=4
    ·rw[if_pos j,if_pos j];have m:=hv j;unfold nP wG;dsimp only;rw[m,h.id,ho.lock];have i:=h.wat o.lock hl.1 hl.2;by_cases b:v.own=0∨v.own=c.num+1∨sG (c.wat o.lock) v=true
     ·rw[if_pos b,if_neg]
      ·exact⟨rfl,h.inc,h.up,h.clock,h.round,h.tok,h.til,h.wat,h.out⟩
      ·rintro⟨p,q,s⟩;rcases b with b|b|b
       ·exact p b
       ·exact q b
       ·apply s;simp only[sG,aR,beq_iff_eq]at b;rcases i with⟨_,i⟩|⟨f,g,_⟩
        ·rw[i]at b;exact absurd b.1.1.symm p
        ·rw[g]at b;exact⟨f,b.1.1,b.1.2,b.2⟩
     ·rw[if_neg b,if_pos]
      ·refine⟨rfl,h.inc,h.up,h.clock,h.round,h.tok,h.til,fun l h0 h3'=>?_,h.out⟩;show aKp (upd c.wat o.lock _ l) (upd r.wat o.lock _ l);unfold upd;split
       ·exact Or.inr ⟨rfl,by rw[h.clock],fun e=>b (Or.inl e)⟩
       ·exact h.wat l h0 h3'
      ·refine⟨fun e=>b (Or.inl e),fun e=>b (Or.inr (Or.inl e)),fun e=>b (Or.inr (Or.inr ?_))⟩;rcases i with⟨f,i⟩|⟨f,g,_⟩
       ·rw[f]at e;exact absurd e.1 (by decide)
       ·rw[g];simp only[sG,aR,beq_iff_eq];exact⟨⟨e.2.1,e.2.2.1⟩,e.2.2.2⟩
    ·rw[if_neg j,if_neg j];exact a
 ·unfold jV rK iS gD;rw[h.id,ho.kind,ho.lock,ho.ttl,ho.bal]
theorem aCc{r:Rc}{o:On}(h1:r.id=c.num)(h2:r.lock=o.lock)(h3:r.bal=o.att.bal)(kind base:Int)(v:Vl)(n:Nat):gV r kind base v n=gY c o kind base v n:=by
 unfold gV gY;rw[h1,h2,h3]
theorem aCp(h:KSim c r)(ho:zA o r)(hl:0≤o.lock∧o.lock≤3)(hb:r.busy=true):
 tV (gE c o) (mM r)∧kN (gJ g) r=fO g c o:=by
 unfold gE fO mM kN;rw[h.round];by_cases a:1000≤c.round
 ·rw[if_pos a,if_pos a,if_pos (by omega),if_pos (by omega)];exact yF h ho hl 6 0 0 zVl (fun h=>by omega)
 ·rw[if_neg a,if_neg a,if_neg (by omega),if_neg (by omega)];have b:zA (lK o c) (rA r):=by
   refine⟨ho.kind,ho.lock,ho.ttl,ho.began,by show r.tries+1=o.tries+1;rw[ho.tries],ho.mine,?_,h.clock⟩;show 256*(r.round+1)+4*r.inc+r.id=(c.round+1)*256+c.inc*4+c.num;rw[h.round,h.inc,h.id];omega
  refine⟨⟨⟨h.id,h.inc,h.up,h.clock,by show r.round+1=c.round+1;rw[h.round],h.tok,h.til,h.wat,h.out⟩,hb,fun o' ho'=>?_⟩,aCc (r:=rA r) (o:=lK o c) h.id ho.lock b.bal 1 0 zVl _⟩;have e:=(aN ho').symm;subst e;exact⟨b,Or.inl ⟨rfl,rfl,rfl,rfl,rfl⟩⟩
theorem aD7(h:KSim c r)(ho:zA o r)(hl:0≤o.lock∧o.lock≤3)(hb:r.busy=true):
 tV (lA g c o) (tS g r)∧qV g (gJ g) r=kH g c o:=by
 unfold lA kH tS qV;rw[ho.tries];by_cases a:o.tries<g.tries
 ·rw[if_pos a,if_pos a,if_pos a,if_pos a];exact aCp h ho hl hb
 ·rw[if_neg a,if_neg a,if_neg a,if_neg a];exact yF h ho hl 5 0 0 zVl (fun h=>by omega)
theorem aJC(h:KSim c r)(h0:0≤c.clock)(k l t:Int)(hk:1≤k∧k≤4)(hl:0≤l∧l≤3)(ht:0≤t)(ht3:2<k→t=0)(d:Option On)(b:Bool):
 KSim (eI {c with doing:=d} k l t) {r with busy:=b,til:=aFu r k l t}:=by
 have hsame:=h.noDoing d b;unfold eI aFu;rw[h.clock];by_cases h3:k=3
 ·rw[if_pos h3,if_pos (Or.inl h3)];refine⟨h.id,h.inc,h.up,rfl,h.round,h.tok,?_,h.wat,aAL h.out hl _⟩;exact aAC h.til _ _ _ (Or.inr ⟨by have:=ht3 (by omega);omega,h0⟩)
 ·rw[if_neg h3];by_cases h12:k=1∨k=2
  ·rw[if_pos h12];have hmin:∀x,0≤x→x≤3→qU c.clock ((if k=3∨k≤2∧c.clock+t<r.til l then upd r.til l (c.clock+t)else r.til) x) (upd c.holds l (min (c.holds l) (c.clock+t)) x):=by
    intro x x0 x3;by_cases hx:x=l
    ·subst hx;rw[aEl];have hs:=h.til x x0 x3;by_cases hq:c.clock+t<r.til x
     ·rw[if_pos (Or.inr ⟨by omega,hq⟩),aEl];unfold qU at hs⊢;omega
     ·rw[if_neg (by omega)];unfold qU at hs⊢;omega
    ·rw[aCM _ _ _ hx];split
     ·rw[aCM _ _ _ hx];exact h.til x x0 x3
     ·exact h.til x x0 x3
   refine⟨h.id,h.inc,h.up,rfl,h.round,h.tok,hmin,h.wat,fun x hx=>?_⟩;show upd c.holds l (min (c.holds l) (c.clock+t)) x=0;rw[aCM _ _ _ (fun (e:x=l)=>hx (by rw[e];exact hl))];exact h.out x hx
  ·rw[if_neg h12,if_neg (by omega)];exact⟨h.id,h.inc,h.up,rfl,h.round,h.tok,h.til,h.wat,h.out⟩
theorem aHq(h:tV c r)(h0:0≤c.clock){k l t:Int}(hk:1≤k∧k≤4)(hl:0≤l∧l≤3)(ht:0≤t)(ht3:2<k→t=0):
 kL r=jH c∧tV (gU c k l t) (rY r k l t)∧xY (gJ g) r k l t=iB g c k l t:=by
 have d:kL r=jH c:=by
  unfold kL jH;rw[h.k.up,h.busy]
 refine⟨d,?_⟩;unfold gU iB rY xY;rw[d];by_cases a:jH c≠0
 ·rw[if_pos a,if_pos a,if_pos a,if_pos a];exact⟨h,rfl⟩
 ·rw[if_neg a,if_neg a,if_neg a,if_neg a];have b:KSim (eI {c with doing:=some (newOn c k l t)} k l t) (nO r k l t):=by
   have:=aJC h.k h0 k l t hk hl ht ht3 (some (newOn c k l t)) true;exact⟨this.id,this.inc,this.up,this.clock,this.round,this.tok,this.til,this.wat,this.out⟩
  have i:zA {newOn c k l t with att:={zAt with began:=r.at_}} (nO r k l t):=⟨rfl,rfl,rfl,h.k.clock,rfl,rfl,rfl,rfl⟩;have j:gE (eI {c with doing:=some (newOn c k l t)} k l t) {newOn c k l t with att:={zAt with began:=r.at_}}=gE (eI {c with doing:=some (newOn c k l t)} k l t) (newOn c k l t):=rfl;have m:fO g (eI {c with doing:=some (newOn c k l t)} k l t) {newOn c k l t with att:={zAt with began:=r.at_}}=fO g (eI {c with doing:=some (newOn c k l t)} k l t) (newOn c k l t):=rfl;obtain⟨e,f⟩:=aCp (g:=g) b i hl rfl;rw[j]at e;rw[m]at f;refine⟨e,?_⟩;rw[f];have:kJ r.id k l t=mO c.num (newOn c k l t):=by rw[h.k.id];rfl
  rw[this]
theorem aJm(h:tV c r)(hl:∀o,c.doing=some o→0≤o.lock∧o.lock≤3):
 zF r=xP c∧tV (lU g c) (vZ g r)∧aAX g (gJ g) r=oC g c:=by
 have s:zF r=xP c:=by unfold zF xP;rw[h.k.up]
 refine⟨s,?_⟩;unfold lU oC vZ aAX;by_cases m:c.up=false
 ·have f:=h.k.up.trans m;rw[if_pos m,if_pos m,if_pos f,if_pos f];exact⟨h,rfl⟩
 ·have f:¬r.up=false:=fun e=>m (h.k.up.symm.trans e);rw[if_neg m,if_neg m,if_neg f,if_neg f];have j:∀d,KSim {c with clock:=c.clock+1,doing:=d} {r with clock:=r.clock+1}:=fun d=>⟨h.k.id,h.k.inc,h.k.up,by show r.clock+1=c.clock+1;rw[h.k.clock],h.k.round,h.k.tok,fun l l0 l3=>by
   have:=h.k.til l l0 l3;show qU (c.clock+1) (r.til l) (c.holds l);unfold qU at*;omega,h.k.wat,h.k.out⟩
  dsimp only;cases hd:c.doing with
  |none=>
   have p:r.busy=false:=by rw[h.busy,hd];rfl
   have b:¬(r.busy=true∧g.patience≤r.clock+1-r.at_):=fun e=>by rw[p]at e;exact absurd e.1 (by decide)
   rw[if_neg b,if_neg b];exact⟨⟨j none,by show r.busy=false;exact p,fun o a=>by cases a⟩,rfl⟩
  |some o=>
   have p:r.busy=true:=by rw[h.busy,hd];rfl
   obtain⟨a,q⟩:=h.on o hd;dsimp only;by_cases n:g.patience≤c.clock+1-o.att.began
   ·have i:g.patience≤r.clock+1-r.at_:=by rw[h.k.clock,a.at_];exact n
    have b:r.busy=true∧g.patience≤r.clock+1-r.at_:=⟨p,i⟩;rw[if_pos b,if_pos b,if_pos n,if_pos n];exact aD7 (g:=g) (j (some o)) ⟨a.kind,a.lock,a.ttl,a.began,a.tries,a.mine,a.bal,a.at_⟩ (hl o hd) p
   ·have i:¬g.patience≤r.clock+1-r.at_:=by rw[h.k.clock,a.at_];exact n
    have b:¬(r.busy=true∧g.patience≤r.clock+1-r.at_):=fun e=>i e.2;rw[if_neg b,if_neg b,if_neg n,if_neg n];refine⟨⟨j (some o),by show r.busy=true;exact p,fun o' ho'=>?_⟩,rfl⟩;cases ho';exact⟨⟨a.kind,a.lock,a.ttl,a.began,a.tries,a.mine,a.bal,a.at_⟩,q⟩
theorem aDa(i inc:Int)(up:Bool):tV ⟨i,inc,up,0,0,fun _=>0,fun _=>0,fun _=>zWt,none⟩ (gP i inc up):=
 ⟨⟨rfl,rfl,rfl,rfl,rfl,fun _ _ _=>rfl,fun _ _ _=>Or.inl rfl,fun _ _ _=>Or.inl ⟨rfl,rfl⟩,fun _ _=>rfl⟩,rfl,fun o ho=>by cases ho⟩
theorem aJb(h:tV c r):aBi r=aDy c∧tV (uB c) (wV r)∧aBx r c.num=uX c:=by
 unfold aBi aDy uB wV aBx uX;rw[h.k.up];refine⟨rfl,?_⟩;by_cases a:c.up=false
 ·rw[if_pos a,if_pos a,if_pos a];exact⟨h,rfl⟩
 ·rw[if_neg a,if_neg a,if_neg a,h.k.id,h.k.inc];exact⟨aDa _ _ _,rfl⟩
theorem aFn(h:tV c r)(hg:wD c)(hi:c.inc≤63):nE r=gS c∧tV (mT c) (oA r)∧rM r c.num=nF c:=by
 have d:nE r=gS c:=by
  unfold nE gS;rw[h.k.up,h.k.inc];split
  ·rfl
  ·by_cases e:c.inc=63
   ·rw[if_pos (by omega),if_pos e]
   ·rw[if_neg (by omega),if_neg e]
 refine⟨d,?_⟩;unfold mT oA nF rM;rw[d];by_cases a:gS c≠0
 ·rw[if_pos a,if_pos a,if_pos a];exact⟨h,rfl⟩
 ·rw[if_neg a,if_neg a,if_neg a];have b:c.up=false:=by
   by_cases b:c.up=true
   ·exact absurd (show gS c≠0 by unfold gS;rw[if_pos b];decide) a
   ·simpa using b
  obtain⟨l,i,g,m,j,f⟩:=hg b;refine⟨?_,rfl⟩;have:=aDa c.num (c.inc+1) true;rw[h.k.id,h.k.inc];have e:({c with inc:=c.inc+1,up:=true}:Ct)=⟨c.num,c.inc+1,true,0,0,fun _=>0,fun _=>0,fun _=>zWt,none⟩:=by
   rw[l,i,g,m,j,f]
  rw[e];exact this
theorem aJl(hk:KSim c r)(ho:zA o r)(hl:0≤o.lock∧o.lock≤3){v:Vl}(hv:v.own≠0):qZ g r v=zX g c o v:=by
 unfold qZ zX;dsimp only;rw[ho.lock,ho.at_];rcases hk.wat o.lock hl.1 hl.2 with⟨h,f⟩|⟨h,f,i⟩
 ·rw[if_pos (Or.inl (by rw[h];rfl)),f];have:sG zWt v=false:=by
   simp only[sG,zWt,Bool.and_eq_false_iff,beq_eq_false_iff_ne];exact Or.inl (Or.inl (fun e=>hv e.symm))
  rw[this];rfl
 ·rw[f];by_cases d:(r.wat o.lock).val.own=v.own∧(r.wat o.lock).val.tok=v.tok∧(r.wat o.lock).val.seq=v.seq
  ·rw[if_neg (by rw[h];rintro(e|e|e|e)<;>first|cases e|exact e d.1|exact e d.2.1|exact e d.2.2)];have:sG ⟨(r.wat o.lock).val.own,(r.wat o.lock).val.tok,(r.wat o.lock).val.seq,(r.wat o.lock).at_⟩ v=true:=by simp[sG,d.1,d.2.1,d.2.2]
   rw[this,Bool.true_and]
   congr 1
   apply propext;show _↔(r.wat o.lock).at_+(v.ttl*(10+g.drift)+9) / 10+2≤o.att.began;generalize v.ttl*(10+g.drift)=t;omega
  ·rw[if_pos (by
    by_cases a:(r.wat o.lock).val.own=v.own
    ·by_cases b:(r.wat o.lock).val.tok=v.tok
     ·exact Or.inr (Or.inr (Or.inr (fun e=>d ⟨a,b,e⟩)))
     ·exact Or.inr (Or.inr (Or.inl b))
    ·exact Or.inr (Or.inl a))]
   have:sG ⟨(r.wat o.lock).val.own,(r.wat o.lock).val.tok,(r.wat o.lock).val.seq,(r.wat o.lock).at_⟩ v=false:=by
    simp only[sG,Bool.and_eq_false_iff,beq_eq_false_iff_ne];by_cases a:(r.wat o.lock).val.own=v.own
    ·by_cases b:(r.wat o.lock).val.tok=v.tok
     ·exact Or.inr (fun e=>d ⟨a,b,e⟩)
     ·exact Or.inl (Or.inr b)
    ·exact Or.inl (Or.inl a)
   rw[this];rfl
theorem aDJ(hk:KSim c r)(ho:zA o r)(hl:0≤o.lock∧o.lock≤3)(hkd:1≤o.kind∧o.kind≤4){v:Vl}(hs:v.seq≤2147483647):
 ((eJ g c o v).res=5∧(eJ g c o v).own=0∧(eJ g c o v).tok=0∧(iV g r v).2=false)∨
 ((eJ g c o v).res≠5∧iV g r v=(eJ g c o v,true)∧(((eJ g c o v).res=2∨(eJ g c o v).res=4)→(eJ g c o v).next=v)):=by
 have f:∀x,vM r.mine x=tQ o x:=fun x=>by unfold vM tQ;rw[ho.mine]
 have k:∀x,wR r.mine x=tE o x:=fun x=>by unfold wR tE;rw[ho.mine]
 have b:=hk.tok _ hl.1 hl.2;have l:ownR r v=oL c o v:=by
  unfold ownR oL;rw[hk.id,ho.lock,b];cases (v.own==c.num+1)<;>cases (v.tok==c.toks o.lock)<;>cases (c.toks o.lock==0)<;>rfl
 unfold eJ iV;rw[ho.kind];by_cases p:o.kind=1
 ·rw[if_pos p,if_pos p];unfold jL;rw[f,k];by_cases a:tQ o v.tok=true
  ·rw[if_pos a,if_pos a,hk.id];exact Or.inr ⟨(show(1:Int)≠5 by decide),rfl,fun h=>by rcases h with h|h<;>cases h⟩
  ·rw[if_neg a,if_neg a];by_cases i:tE o v.tok=true
   ·rw[if_pos i,if_pos i];exact Or.inl ⟨rfl,rfl,rfl,rfl⟩
   ·rw[if_neg i,if_neg i];have d:(v.own=0∨v.own=r.id+1∨qZ g r v=true)↔(v.own=0∨v.own=c.num+1∨zX g c o v=true):=by
     rw[hk.id];by_cases q:v.own=0
     ·simp[q]
     ·rw[aJl hk ho hl q]
    by_cases j:v.own=0∨v.own=c.num+1∨zX g c o v=true
    ·rw[if_pos j,if_pos (d.2 j),hk.id,ho.bal,ho.ttl];exact Or.inr ⟨(show(1:Int)≠5 by decide),rfl,fun h=>by rcases h with h|h<;>cases h⟩
    ·rw[if_neg j,if_neg (fun e=>j (d.1 e))];exact Or.inr ⟨(show(2:Int)≠5 by decide),rfl,fun _=>rfl⟩
 ·rw[if_neg p,if_neg p];by_cases m:o.kind=2
  ·rw[if_pos m,if_pos m];unfold qD;rw[l];by_cases a:oL c o v=true
   ·rw[if_pos a,if_pos a];have e:v.own=c.num+1∧v.tok=c.toks o.lock:=by
     simp only[oL,aR,beq_iff_eq]at a;exact⟨a.1.1,a.2⟩
    refine Or.inr ⟨(show(1:Int)≠5 by decide),?_,fun h=>by rcases h with h|h<;>cases h⟩;rw[hk.id,ho.lock,b,ho.ttl,e.1,e.2];have:(if v.seq<2147483647 then v.seq+1 else v.seq)=min (v.seq+1) 2147483647:=by split<;>omega
    rw[this]
   ·rw[if_neg a,if_neg a];exact Or.inr ⟨(by decide:(3:Int)≠5),rfl,fun h=>by rcases h with h|h<;>cases h⟩
  ·rw[if_neg m,if_neg m];by_cases n:o.kind=3
   ·rw[if_pos n,if_pos n];unfold jN;rw[l,f];by_cases a:oL c o v=true
    ·rw[if_pos a,if_pos a];have e:v.tok=c.toks o.lock:=by
      simp only[oL,aR,beq_iff_eq]at a;exact a.2
     refine Or.inr ⟨(show(1:Int)≠5 by decide),?_,fun h=>by rcases h with h|h<;>cases h⟩;rw[hk.id,ho.lock,b,ho.bal,e]
    ·rw[if_neg a,if_neg a];by_cases i:v.own=0∧tQ o v.seq=true
     ·rw[if_pos i,if_pos i,hk.id];exact Or.inr ⟨(show(1:Int)≠5 by decide),rfl,fun h=>by rcases h with h|h<;>cases h⟩
     ·rw[if_neg i,if_neg i,ho.mine,ho.lock,b];by_cases j:0<o.mine.length∧v.tok≠c.toks o.lock
      ·rw[if_pos j];refine Or.inl ⟨rfl,rfl,rfl,?_⟩;simp only[Bool.or_eq_false_iff,decide_eq_false_iff_not,beq_eq_false_iff_ne];exact⟨by omega,j.2⟩
      ·rw[if_neg j];refine Or.inr ⟨(by decide:(3:Int)≠5),?_,fun h=>by rcases h with h|h<;>cases h⟩
       congr 1
       simp only[Bool.or_eq_true,aM,beq_iff_eq];by_cases s:o.mine.length=0
       ·exact Or.inl s
       ·exact Or.inr (aH fun e=>j ⟨by omega,e⟩)
   ·rw[if_neg n,if_neg n];exact Or.inr ⟨(by decide:(4:Int)≠5),rfl,fun _=>rfl⟩
theorem aJy(ho:zA o r)(v:Vl):tR r v=zR o v:=by
 unfold tR zR;rw[ho.kind,ho.bal];by_cases b:o.kind=1
 ·rw[if_pos b];simp[b]
 ·rw[if_neg b];by_cases a:o.kind=3
  ·rw[if_pos a];simp[a]
  ·rw[if_neg a];simp[b,a]
theorem aDQ(hk:KSim c r)(ho:zA o r)(hl:0≤o.lock∧o.lock≤3)(hkd:1≤o.kind∧o.kind≤4)(hb:r.busy=true)(hback:r.back=[])(hbest:(o.att.base,o.att.val)=jR r.heard)(hs:o.att.val.seq≤2147483647):
 tV (iJ g c o) (kV g r)∧lB g (gJ g) r=gZ g c o:=by
 have l:(jR r.heard).2=o.att.val:=by rw[←hbest]
 have i:(jR r.heard).1=o.att.base:=by rw[←hbest]
 unfold iJ gZ kV lB;dsimp only;rw[l,i];rcases aDJ (g:=g) hk ho hl hkd hs with⟨a,d,f,j⟩|⟨a,d,f⟩
 ·rw[if_pos a,if_pos a,if_pos j,if_pos j,a,d,f];have:=yF hk ho hl 5 0 0 o.att.val (fun h=>by omega);exact this
 ·rw[if_neg a,if_neg a,d];simp only[Bool.true_eq_false,if_false];have k:=aJy ho (eJ g c o o.att.val).next
  have b:zA (hO o (eJ g c o o.att.val)) (jG r (eJ g c o o.att.val)):=by
   refine⟨ho.kind,ho.lock,ho.ttl,ho.began,ho.tries,?_,ho.bal,ho.at_⟩;show(if tR r (eJ g c o o.att.val).next=true then r.mine++[r.bal]else r.mine)=(if zR o (eJ g c o o.att.val).next=true then o.mine++[o.att.bal]else o.mine);rw[k,ho.mine,ho.bal]
  refine⟨⟨⟨hk.id,hk.inc,hk.up,hk.clock,hk.round,hk.tok,hk.til,hk.wat,hk.out⟩,hb,fun o' ho'=>?_⟩,?_⟩
  ·have e:=(aN ho').symm;subst e;refine⟨b,Or.inr ⟨rfl,rfl,hback.symm,rfl,rfl,rfl,fun h=>?_,a⟩⟩;exact f h
  ·exact aCc (r:=jG r (eJ g c o o.att.val)) (o:=hO o (eJ g c o o.att.val)) hk.id b.lock b.bal 3 _ _ _
theorem aKk(l:List Mg)(x:Int):(l.any fun y=>y.src==x)=(l.map (·.src)).contains x:=by
 induction l with
 |nil=>rfl
 |cons m l ih=>
  rw[List.any_cons,List.map_cons,List.contains_cons,ih]
  congr 1
  exact Bool.beq_comm ..
theorem aIe(h:tV c r){m:Mg}(hf:1≤g.f)(hl:∀o,c.doing=some o→(0≤o.lock∧o.lock≤3)∧(1≤o.kind∧o.kind≤4)∧o.att.val.seq≤2147483647∧(o.att.ans.length:Int)≤g.f)(hm:m.val.seq≤2147483647)(hmk:m.kind≠0)(hmb:m.kind=4→m.base=0)(hb0:∀o,c.doing=some o→0≤o.att.base)(hno:m.kind=4→∀o,c.doing=some o→m.bal=o.att.bal→o.att.awaited=4):
 tV (gQ g c m) (fZ g r m)∧fL g (gJ g) r m=iA g c m:=by
 unfold gQ iA fZ fL;by_cases E:c.up=false
 ·have s:iO r m=true:=by unfold iO;rw[h.k.up,E];rfl
  rw[if_pos E,if_pos E,if_pos s,if_pos s];exact⟨h,rfl⟩
 ·rw[if_neg E,if_neg E];have G:c.up=true:=by simpa using E
  cases hdo:c.doing with
  |none=>
   have s:iO r m=true:=by unfold iO;rw[h.busy,hdo];simp
   rw[if_pos s,if_pos s];exact⟨h,rfl⟩
  |some o=>
   obtain⟨a,N⟩:=h.on o hdo;obtain⟨A,L,M,Z⟩:=hl o hdo;have D:r.busy=true:=by rw[h.busy,hdo];rfl
   have Q:=hb0 o hdo;dsimp only;by_cases i:m.bal=o.att.bal
   ·have s:¬iO r m=true:=by unfold iO;rw[h.k.up,G,D,a.bal,i];simp
    rw[if_neg s,if_neg s,if_neg (show¬m.bal≠o.att.bal from fun e=>e i),if_neg (show¬m.bal≠o.att.bal from fun e=>e i)];by_cases x:m.kind=5
    ·rw[if_pos x,if_pos x,if_pos x,if_pos x];have e:(if r.round<m.base / 256 then m.base / 256 else r.round)=max c.round (m.base / 256):=by rw[h.k.round];split<;>omega
     rw[e];have p:KSim {c with round:=max c.round (m.base / 256)} {r with round:=max c.round (m.base / 256)}:=⟨h.k.id,h.k.inc,h.k.up,h.k.clock,rfl,h.k.tok,h.k.til,h.k.wat,h.k.out⟩;have:=aD7 (g:=g) p ⟨a.kind,a.lock,a.ttl,a.began,a.tries,a.mine,a.bal,a.at_⟩ A D;exact(by first|exact this|(have q:=this;rw[hdo]at q;exact q))
    ·rw[if_neg x,if_neg x,if_neg x,if_neg x];rcases N with⟨F,C,I,z,H⟩|⟨F,C,I,z,H,J,O,T⟩
     ·rw[F];by_cases l:m.kind=2
      ·rw[if_pos l,if_pos l,if_pos l,if_pos l,aKk,←z];have P:¬r.asked=true:=by rw[C];decide
       unfold jT jW;by_cases j:o.att.ans.contains m.src=true
       ·rw[if_pos j,if_pos j,if_pos j,if_pos j];exact⟨h,rfl⟩
       ·rw[if_neg j,if_neg j,if_neg j,if_neg j];rw[if_neg P,if_neg P];dsimp only;have u:((r.heard++[m]).length:Int)=((heardOn o m).att.ans.length:Int):=by
         show _=((o.att.ans++[m.src]).length:Int);rw[z];simp
        have B:((heardOn o m).att.ans.length:Int)≤g.f+1:=by
         show((o.att.ans++[m.src]).length:Int)≤_;rw[aD,aK];omega
        rw[u];have v:((heardOn o m).att.base,(heardOn o m).att.val)=jR (r.heard++[m]):=by
         rw[aAQ,←H];show((if o.att.base<m.base then m.base else o.att.base),(if o.att.base<m.base then m.val else o.att.val))=if o.att.base<m.base then(m.base,m.val)else(o.att.base,o.att.val)
         split<;>rfl
        have t:zA (heardOn o m) {r with heard:=r.heard++[m]}:=⟨a.kind,a.lock,a.ttl,a.began,a.tries,a.mine,a.bal,a.at_⟩;have p:∀d,KSim {c with doing:=d} {r with heard:=r.heard++[m]}:=fun d=>⟨h.k.id,h.k.inc,h.k.up,h.k.clock,h.k.round,h.k.tok,h.k.til,h.k.wat,h.k.out⟩;by_cases w:((heardOn o m).att.ans.length:Int)≤g.f
        ·have b:¬((heardOn o m).att.ans.length:Int)=g.f+1:=by omega
         rw[if_pos w,if_pos w,if_neg b,if_neg b];refine⟨⟨p _,D,fun o' ho'=>?_⟩,rfl⟩;have e:=(aN ho').symm;subst e;refine⟨t,Or.inl ⟨F,C,I,?_,v⟩⟩;show o.att.ans++[m.src]=(r.heard++[m]).map (·.src);rw[z];simp
        ·have b:((heardOn o m).att.ans.length:Int)=g.f+1:=by omega
         rw[if_neg w,if_neg w,if_pos b,if_pos b,if_pos l,if_pos l];have U:(heardOn o m).att.val.seq≤2147483647:=by
          show(if o.att.base<m.base then m.val else o.att.val).seq≤_;split
          ·exact hm
          ·exact M
         exact aDQ (p _) t A L D I v U
      ·rw[if_neg l,if_neg l,if_neg l,if_neg l];by_cases n:m.kind=4
       ·have:=hno n o hdo i;omega
       ·rw[if_neg n,if_neg n];exact⟨h,rfl⟩
     ·rw[F];by_cases l:m.kind=2
      ·have n:¬m.kind=4:=by omega
       rw[if_pos l,if_pos l,if_neg n,if_neg n,if_pos C,if_pos C];simp only[ite_self];exact⟨h,trivial⟩
      ·rw[if_neg l,if_neg l];by_cases n:m.kind=4
       ·rw[if_pos n,if_pos n,if_pos n,if_pos n];unfold jT jW vM;rw[←I];by_cases j:o.att.ans.contains m.src=true
        ·rw[if_pos j,if_pos j,if_pos j,if_pos j];exact⟨h,rfl⟩
        ·rw[if_neg j,if_neg j,if_neg j,if_neg j];dsimp only;have u:((o.att.ans++[m.src]).length:Int)=((heardOn o m).att.ans.length:Int):=rfl;have B:((heardOn o m).att.ans.length:Int)≤g.f+1:=by
          show((o.att.ans++[m.src]).length:Int)≤_;rw[aD,aK];omega
         rw[u];have a0:=hmb n;have y:(heardOn o m).att.val=o.att.val:=by
          show(if o.att.base<m.base then m.val else o.att.val)=_;rw[if_neg (by omega)]
         have t:zA (heardOn o m) {r with back:=o.att.ans++[m.src]}:=⟨a.kind,a.lock,a.ttl,a.began,a.tries,a.mine,a.bal,a.at_⟩;have p:∀d,KSim {c with doing:=d} {r with back:=o.att.ans++[m.src]}:=fun d=>⟨h.k.id,h.k.inc,h.k.up,h.k.clock,h.k.round,h.k.tok,h.k.til,h.k.wat,h.k.out⟩;by_cases w:((heardOn o m).att.ans.length:Int)≤g.f
         ·have b:¬((heardOn o m).att.ans.length:Int)=g.f+1:=by omega
          rw[if_pos w,if_pos w,if_neg b,if_neg b];refine⟨⟨p _,D,fun o' ho'=>?_⟩,rfl⟩;have e:=(aN ho').symm;subst e;refine⟨t,Or.inr ⟨F,C,rfl,z,H,J,fun h=>?_,T⟩⟩;rw[y];exact O h
         ·have b:((heardOn o m).att.ans.length:Int)=g.f+1:=by omega
          rw[if_neg w,if_neg w,if_pos b,if_pos b,if_neg l,if_neg l];have V:∀R:Rc,fP R r.fres r.ftok=fP R o.att.eres o.att.etok:=fun R=>by rw[z,J]
          have S:∀R:Rc,jV R r.fres r.fown r.ftok=jV R o.att.eres o.att.eown o.att.etok:=fun R=>by rw[z,H,J]
          rw[V,S];have W:(heardOn o m).att.eres=o.att.eres:=rfl;have X:(heardOn o m).att.eown=o.att.eown:=rfl;have Y:(heardOn o m).att.etok=o.att.etok:=rfl;rw[W,X,Y];have K:=yF (p c.doing) t A o.att.eres o.att.eown o.att.etok (heardOn o m).att.val (fun h=>by rw[y];exact O h);exact K
       ·rw[if_neg n,if_neg n,if_neg n,if_neg n];exact⟨h,rfl⟩
   ·have s:iO r m=true:=by unfold iO;rw[h.k.up,G,D,a.bal];simp[i]
    rw[if_pos s,if_pos s,if_pos i,if_pos i];exact⟨h,rfl⟩
end
end Go.Proofs.YtbbdgokdfhdpiaaGreatDoor
