/- A part. -/
import Derived.Test.YtbbdgokdfhdpiaaGreatDoorA6
namespace Go.Proofs.YtbbdgokdfhdpiaaGreatDoor
set_option linter.all false
set_option maxRecDepth 100000
set_option maxHeartbeats 0
open Go.Proofs.Tryz Go.RowKit
def aKt(w:Wt)(r:Rwt):Prop:=(r=aK4∧w=zWt)∨(r.on=true∧w=⟨r.val.own,r.val.tok,r.val.seq,r.at_⟩∧r.val.own≠0)
def aK7(o:On)(r:Rc):Prop:=
 (o.att.awaited=2∧r.asked=false∧r.back=[]∧o.att.ans=r.heard.map (·.src)∧(o.att.base,o.att.val)=jP r.heard)∨
 (o.att.awaited=4∧r.asked=true∧o.att.ans=r.back∧r.fres=o.att.eres∧r.fown=o.att.eown∧r.ftok=o.att.etok∧((o.att.eres=2∨o.att.eres=4)→r.next=o.att.val)∧o.att.eres≠5)
structure yZ(o:On)(r:Rc):Prop where
 kind:r.kind=o.kind
 lock:r.lock=o.lock
 ttl:r.ttl=o.ttl
 began:r.began=o.began
 tries:r.tries=o.tries
 mine:r.mine=o.mine
 bal:r.bal=o.att.bal
 at_:r.at_=o.att.began
def qU(now a b:Int):Prop:=a=b∨(a≤now∧b≤now)
structure KSim(c:Ct)(r:Rc):Prop where
 id:r.id=c.num
 inc:r.inc=c.inc
 up:r.up=c.up
 clock:r.clock=c.clock
 round:r.round=c.round
 tok:∀l,0≤l→l≤3→r.tok l=c.toks l
 til:∀l,0≤l→l≤3→qU c.clock (r.til l) (c.holds l)
 wat:∀l,0≤l→l≤3→aKt (c.wat l) (r.wat l)
 out:∀l,¬(0≤l∧l≤3)→c.holds l=0
structure tU(c:Ct)(r:Rc):Prop where
 k:KSim c r
 busy:r.busy=c.doing.isSome
 on:∀o,c.doing=some o→yZ o r∧aK7 o r
section
variable {α:Type} (f:Int→α) (l:Int)
theorem aEY(v:α):upd f l v l=v:=by simp[upd]
theorem aC3(v:α){k:Int}(h:k≠l):upd f l v k=f k:=by simp[upd,h]
end
theorem aDp{f g:Int→Int}(h:∀l,0≤l→l≤3→f l=g l)(k v:Int):∀l,0≤l→l≤3→upd f k v l=upd g k v l:=fun l h0 h3=>by
 unfold upd;split
 ·rfl
 ·exact h l h0 h3
theorem aAC{f g:Int→Int}{now:Int}(h:∀l,0≤l→l≤3→qU now (f l) (g l))(k v w:Int)(hvw:qU now v w):∀l,0≤l→l≤3→qU now (upd f k v l) (upd g k w l):=fun l h0 h3=>by
 unfold upd;split
 ·exact hvw
 ·exact h l h0 h3
theorem aAI{g:Int→Int}(h:∀l,¬(0≤l∧l≤3)→g l=0){k:Int}(hk:0≤k∧k≤3)(v:Int):∀l,¬(0≤l∧l≤3)→upd g k v l=0:=fun l hl=>by
 unfold upd;split
 ·rename_i e;subst e;exact absurd hk hl
 ·exact h l hl
section
variable {g:Cf}{c:Ct}{o:On}{r:Rc}{N:Int}{i:Nat}
theorem KSim.noDoing(h:KSim c r)(d:Option On)(b:Bool):KSim {c with doing:=d} {r with busy:=b}:=⟨h.id,h.inc,h.up,h.clock,h.round,h.tok,h.til,h.wat,h.out⟩
theorem xM(h:KSim c r)(ho:yZ o r)(hl:0≤o.lock∧o.lock≤3)(res own tok:Int)(v:Vl)(hv:res=2∨res=4→r.next=v):
 tU (gW c o res tok v) (fP r res tok)∧jX r res own tok=rH c o res own tok:=by
 refine⟨?_,?_⟩
 ·have n:(gW c o res tok v).doing=none:=by
   unfold gW kP oI nM;dsimp only
   repeat' split
   all_goals rfl
  have s:(fP r res tok).busy=false:=by
   unfold fP wM;dsimp only
   repeat' split
   all_goals rfl
  refine⟨?_,by rw[n,s];rfl,fun o' ho'=>by rw[n]at ho';cases ho'⟩;have a:=h.noDoing none false;unfold gW fP;dsimp only;by_cases k:res=1
  ·rw[if_pos k,if_pos k];unfold kP oI;rw[ho.kind];by_cases d:o.kind=3
   ·rw[if_pos d,if_pos d,ho.lock];exact⟨a.id,a.inc,a.up,a.clock,a.round,aDp a.tok _ _,aAC a.til _ _ _ (Or.inl rfl),a.wat,aAI a.out hl _⟩
   ·rw[if_neg d,if_neg d,ho.lock,ho.began,ho.ttl];exact⟨a.id,a.inc,a.up,a.clock,a.round,aDp a.tok _ _,aAC a.til _ _ _ (Or.inl rfl),a.wat,aAI a.out hl _⟩
  ·rw[if_neg k,if_neg k];by_cases d:res=3
   ·rw[if_pos d,if_pos d];unfold oI;rw[ho.lock];exact⟨a.id,a.inc,a.up,a.clock,a.round,aDp a.tok _ _,aAC a.til _ _ _ (Or.inl rfl),a.wat,aAI a.out hl _⟩
   ·rw[if_neg d,if_neg d];by_cases j:res=2∨res=4
    ·rw[if_pos j,if_pos j];have m:=hv j;unfold nM wM;dsimp only;rw[m,h.id,ho.lock];have i:=h.wat o.lock hl.1 hl.2;by_cases b:v.own=0∨v.own=c.num+1∨sZ (c.wat o.lock) v=true
     ·rw[if_pos b,if_neg]
      ·exact⟨rfl,h.inc,h.up,h.clock,h.round,h.tok,h.til,h.wat,h.out⟩
      ·rintro⟨p,q,t⟩;rcases b with b|b|b
       ·exact p b
       ·exact q b
       ·apply t;simp only[sZ,aR,beq_iff_eq]at b;rcases i with⟨_,i⟩|⟨f,g,_⟩
        ·rw[i]at b;exact absurd b.1.1.symm p
        ·rw[g]at b;exact⟨f,b.1.1,b.1.2,b.2⟩
     ·rw[if_neg b,if_pos]
      ·refine⟨rfl,h.inc,h.up,h.clock,h.round,h.tok,h.til,fun l h0 h3'=>?_,h.out⟩;show aKt (upd c.wat o.lock _ l) (upd r.wat o.lock _ l);unfold upd;split
       ·exact Or.inr ⟨rfl,by rw[h.clock],fun e=>b (Or.inl e)⟩
       ·exact h.wat l h0 h3'
      ·refine⟨fun e=>b (Or.inl e),fun e=>b (Or.inr (Or.inl e)),fun e=>b (Or.inr (Or.inr ?_))⟩;rcases i with⟨f,i⟩|⟨f,g,_⟩
       ·rw[f]at e;exact absurd e.1 (by decide)
       ·rw[g];simp only[sZ,aR,beq_iff_eq];exact⟨⟨e.2.1,e.2.2.1⟩,e.2.2.2⟩
    ·rw[if_neg j,if_neg j];exact a
 ·unfold jX rH iT gE;rw[h.id,ho.kind,ho.lock,ho.ttl,ho.bal]
theorem aCo{r:Rc}{o:On}(h1:r.id=c.num)(h2:r.lock=o.lock)(h3:r.bal=o.att.bal)(kind base:Int)(v:Vl)(n:Nat):gV r kind base v n=gX c o kind base v n:=by
 unfold gV gX;rw[h1,h2,h3]
theorem aCE(h:KSim c r)(ho:yZ o r)(hl:0≤o.lock∧o.lock≤3)(hb:r.busy=true):
 tU (gD c o) (mW r)∧kJ (gJ g) r=fO g c o:=by
 unfold gD fO mW kJ;rw[h.round];by_cases a:1000≤c.round
 ·rw[if_pos a,if_pos a,if_pos (by omega),if_pos (by omega)];exact xM h ho hl 6 0 0 zVl (fun h=>by omega)
 ·rw[if_neg a,if_neg a,if_neg (by omega),if_neg (by omega)];have b:yZ (lK o c) (qZ r):=by
   refine⟨ho.kind,ho.lock,ho.ttl,ho.began,by show r.tries+1=o.tries+1;rw[ho.tries],ho.mine,?_,h.clock⟩;show 256*(r.round+1)+4*r.inc+r.id=(c.round+1)*256+c.inc*4+c.num;rw[h.round,h.inc,h.id];omega
  refine⟨⟨⟨h.id,h.inc,h.up,h.clock,by show r.round+1=c.round+1;rw[h.round],h.tok,h.til,h.wat,h.out⟩,hb,fun o' ho'=>?_⟩,aCo (r:=qZ r) (o:=lK o c) h.id ho.lock b.bal 1 0 zVl _⟩;have e:=(aN ho').symm;subst e;exact⟨b,Or.inl ⟨rfl,rfl,rfl,rfl,rfl⟩⟩
theorem aEX(h:KSim c r)(ho:yZ o r)(hl:0≤o.lock∧o.lock≤3)(hb:r.busy=true):
 tU (kX g c o) (tQ g r)∧qY g (gJ g) r=kI g c o:=by
 unfold kX kI tQ qY;rw[ho.tries];by_cases a:o.tries<g.tries
 ·rw[if_pos a,if_pos a,if_pos a,if_pos a];exact aCE h ho hl hb
 ·rw[if_neg a,if_neg a,if_neg a,if_neg a];exact xM h ho hl 5 0 0 zVl (fun h=>by omega)
theorem aJI(h:KSim c r)(h0:0≤c.clock)(k l t:Int)(hk:1≤k∧k≤4)(hl:0≤l∧l≤3)(ht:0≤t)(ht3:2<k→t=0)(d:Option On)(b:Bool):
 KSim (eI {c with doing:=d} k l t) {r with busy:=b,til:=aFC r k l t}:=by
 have hsame:=h.noDoing d b;unfold eI aFC;rw[h.clock];by_cases h3:k=3
 ·rw[if_pos h3,if_pos (Or.inl h3)];refine⟨h.id,h.inc,h.up,rfl,h.round,h.tok,?_,h.wat,aAI h.out hl _⟩;exact aAC h.til _ _ _ (Or.inr ⟨by have:=ht3 (by omega);omega,h0⟩)
 ·rw[if_neg h3];by_cases h12:k=1∨k=2
  ·rw[if_pos h12];have hmin:∀x,0≤x→x≤3→qU c.clock ((if k=3∨k≤2∧c.clock+t<r.til l then upd r.til l (c.clock+t)else r.til) x) (upd c.holds l (min (c.holds l) (c.clock+t)) x):=by
    intro x x0 x3;by_cases hx:x=l
    ·subst hx;rw[aEY];have hs:=h.til x x0 x3;by_cases hq:c.clock+t<r.til x
     ·rw[if_pos (Or.inr ⟨by omega,hq⟩),aEY];unfold qU at hs⊢;omega
     ·rw[if_neg (by omega)];unfold qU at hs⊢;omega
    ·rw[aC3 _ _ _ hx];split
     ·rw[aC3 _ _ _ hx];exact h.til x x0 x3
     ·exact h.til x x0 x3
   refine⟨h.id,h.inc,h.up,rfl,h.round,h.tok,hmin,h.wat,fun x hx=>?_⟩;show upd c.holds l (min (c.holds l) (c.clock+t)) x=0;rw[aC3 _ _ _ (fun (e:x=l)=>hx (by rw[e];exact hl))];exact h.out x hx
  ·rw[if_neg h12,if_neg (by omega)];exact⟨h.id,h.inc,h.up,rfl,h.round,h.tok,h.til,h.wat,h.out⟩
theorem aHX(h:tU c r)(h0:0≤c.clock){k l t:Int}(hk:1≤k∧k≤4)(hl:0≤l∧l≤3)(ht:0≤t)(ht3:2<k→t=0):
 kK r=jO c∧tU (gU c k l t) (tC r k l t)∧yE (gJ g) r k l t=iA g c k l t:=by
 have d:kK r=jO c:=by
  unfold kK jO;rw[h.k.up,h.busy]
 refine⟨d,?_⟩;unfold gU iA tC yE;rw[d];by_cases a:jO c≠0
 ·rw[if_pos a,if_pos a,if_pos a,if_pos a];exact⟨h,rfl⟩
 ·rw[if_neg a,if_neg a,if_neg a,if_neg a];have b:KSim (eI {c with doing:=some (newOn c k l t)} k l t) (nI r k l t):=by
   have:=aJI h.k h0 k l t hk hl ht ht3 (some (newOn c k l t)) true;exact⟨this.id,this.inc,this.up,this.clock,this.round,this.tok,this.til,this.wat,this.out⟩
  have i:yZ {newOn c k l t with att:={zAt with began:=r.at_}} (nI r k l t):=⟨rfl,rfl,rfl,h.k.clock,rfl,rfl,rfl,rfl⟩;have j:gD (eI {c with doing:=some (newOn c k l t)} k l t) {newOn c k l t with att:={zAt with began:=r.at_}}=gD (eI {c with doing:=some (newOn c k l t)} k l t) (newOn c k l t):=rfl;have m:fO g (eI {c with doing:=some (newOn c k l t)} k l t) {newOn c k l t with att:={zAt with began:=r.at_}}=fO g (eI {c with doing:=some (newOn c k l t)} k l t) (newOn c k l t):=rfl;obtain⟨f,e⟩:=aCE (g:=g) b i hl rfl;rw[j]at f;rw[m]at e;refine⟨f,?_⟩;rw[e];have:kG r.id k l t=nA c.num (newOn c k l t):=by rw[h.k.id];rfl
  rw[this]
theorem aIU(h:tU c r)(hl:∀o,c.doing=some o→0≤o.lock∧o.lock≤3):
 zA r=xL c∧tU (lP g c) (wG g r)∧aBe g (gJ g) r=oE g c:=by
 have s:zA r=xL c:=by unfold zA xL;rw[h.k.up]
 refine⟨s,?_⟩;unfold lP oE wG aBe;by_cases n:c.up=false
 ·have f:=h.k.up.trans n;rw[if_pos n,if_pos n,if_pos f,if_pos f];exact⟨h,rfl⟩
 ·have f:¬r.up=false:=fun e=>n (h.k.up.symm.trans e);rw[if_neg n,if_neg n,if_neg f,if_neg f];have j:∀d,KSim {c with clock:=c.clock+1,doing:=d} {r with clock:=r.clock+1}:=fun d=>⟨h.k.id,h.k.inc,h.k.up,by show r.clock+1=c.clock+1;rw[h.k.clock],h.k.round,h.k.tok,fun l l0 l3=>by
   have:=h.k.til l l0 l3;show qU (c.clock+1) (r.til l) (c.holds l);unfold qU at*;omega,h.k.wat,h.k.out⟩
  dsimp only;cases hd:c.doing with
  |none=>
   have p:r.busy=false:=by rw[h.busy,hd];rfl
   have b:¬(r.busy=true∧g.patience≤r.clock+1-r.at_):=fun e=>by rw[p]at e;exact absurd e.1 (by decide)
   rw[if_neg b,if_neg b];exact⟨⟨j none,by show r.busy=false;exact p,fun o a=>by cases a⟩,rfl⟩
  |some o=>
   have p:r.busy=true:=by rw[h.busy,hd];rfl
   obtain⟨a,q⟩:=h.on o hd;dsimp only;by_cases m:g.patience≤c.clock+1-o.att.began
   ·have i:g.patience≤r.clock+1-r.at_:=by rw[h.k.clock,a.at_];exact m
    have b:r.busy=true∧g.patience≤r.clock+1-r.at_:=⟨p,i⟩;rw[if_pos b,if_pos b,if_pos m,if_pos m];exact aEX (g:=g) (j (some o)) ⟨a.kind,a.lock,a.ttl,a.began,a.tries,a.mine,a.bal,a.at_⟩ (hl o hd) p
   ·have i:¬g.patience≤r.clock+1-r.at_:=by rw[h.k.clock,a.at_];exact m
    have b:¬(r.busy=true∧g.patience≤r.clock+1-r.at_):=fun e=>i e.2;rw[if_neg b,if_neg b,if_neg m,if_neg m];refine⟨⟨j (some o),by show r.busy=true;exact p,fun o' ho'=>?_⟩,rfl⟩;cases ho';exact⟨⟨a.kind,a.lock,a.ttl,a.began,a.tries,a.mine,a.bal,a.at_⟩,q⟩
theorem aDj(i inc:Int)(up:Bool):tU ⟨i,inc,up,0,0,fun _=>0,fun _=>0,fun _=>zWt,none⟩ (gM i inc up):=
 ⟨⟨rfl,rfl,rfl,rfl,rfl,fun _ _ _=>rfl,fun _ _ _=>Or.inl rfl,fun _ _ _=>Or.inl ⟨rfl,rfl⟩,fun _ _=>rfl⟩,rfl,fun o ho=>by cases ho⟩
theorem aIT(h:tU c r):aAQ r=aEZ c∧tU (uD c) (wV r)∧aAP r c.num=uM c:=by
 unfold aAQ aEZ uD wV aAP uM;rw[h.k.up];refine⟨rfl,?_⟩;by_cases a:c.up=false
 ·rw[if_pos a,if_pos a,if_pos a];exact⟨h,rfl⟩
 ·rw[if_neg a,if_neg a,if_neg a,h.k.id,h.k.inc];exact⟨aDj _ _ _,rfl⟩
theorem aFl(h:tU c r)(hg:wQ c)(hi:c.inc≤63):mO r=gS c∧tU (mT c) (nZ r)∧rU r c.num=nE c:=by
 have d:mO r=gS c:=by
  unfold mO gS;rw[h.k.up,h.k.inc];split
  ·rfl
  ·by_cases e:c.inc=63
   ·rw[if_pos (by omega),if_pos e]
   ·rw[if_neg (by omega),if_neg e]
 refine⟨d,?_⟩;unfold mT nZ nE rU;rw[d];by_cases a:gS c≠0
 ·rw[if_pos a,if_pos a,if_pos a];exact⟨h,rfl⟩
 ·rw[if_neg a,if_neg a,if_neg a];have b:c.up=false:=by
   by_cases b:c.up=true
   ·exact absurd (show gS c≠0 by unfold gS;rw[if_pos b];decide) a
   ·simpa using b
  obtain⟨l,f,m,g,i,j⟩:=hg b;refine⟨?_,rfl⟩;have:=aDj c.num (c.inc+1) true;rw[h.k.id,h.k.inc];have e:({c with inc:=c.inc+1,up:=true}:Ct)=⟨c.num,c.inc+1,true,0,0,fun _=>0,fun _=>0,fun _=>zWt,none⟩:=by
   rw[l,f,m,g,i,j]
  rw[e];exact this
theorem aIC(hk:KSim c r)(ho:yZ o r)(hl:0≤o.lock∧o.lock≤3){v:Vl}(hv:v.own≠0):rB g r v=aAk g c o v:=by
 unfold rB aAk;dsimp only;rw[ho.lock,ho.at_];rcases hk.wat o.lock hl.1 hl.2 with⟨h,f⟩|⟨h,f,i⟩
 ·rw[if_pos (Or.inl (by rw[h];rfl)),f];have:sZ zWt v=false:=by
   simp only[sZ,zWt,Bool.and_eq_false_iff,beq_eq_false_iff_ne];exact Or.inl (Or.inl (fun e=>hv e.symm))
  rw[this];rfl
 ·rw[f];by_cases d:(r.wat o.lock).val.own=v.own∧(r.wat o.lock).val.tok=v.tok∧(r.wat o.lock).val.seq=v.seq
  ·rw[if_neg (by rw[h];rintro(e|e|e|e)<;>first|cases e|exact e d.1|exact e d.2.1|exact e d.2.2)];have:sZ ⟨(r.wat o.lock).val.own,(r.wat o.lock).val.tok,(r.wat o.lock).val.seq,(r.wat o.lock).at_⟩ v=true:=by simp[sZ,d.1,d.2.1,d.2.2]
   rw[this,Bool.true_and]
   congr 1
   apply propext;show _↔(r.wat o.lock).at_+(v.ttl*(10+g.drift)+9) / 10+2≤o.att.began;generalize v.ttl*(10+g.drift)=t;omega
  ·rw[if_pos (by
    by_cases a:(r.wat o.lock).val.own=v.own
    ·by_cases b:(r.wat o.lock).val.tok=v.tok
     ·exact Or.inr (Or.inr (Or.inr (fun e=>d ⟨a,b,e⟩)))
     ·exact Or.inr (Or.inr (Or.inl b))
    ·exact Or.inr (Or.inl a))]
   have:sZ ⟨(r.wat o.lock).val.own,(r.wat o.lock).val.tok,(r.wat o.lock).val.seq,(r.wat o.lock).at_⟩ v=false:=by
    simp only[sZ,Bool.and_eq_false_iff,beq_eq_false_iff_ne];by_cases a:(r.wat o.lock).val.own=v.own
    ·by_cases b:(r.wat o.lock).val.tok=v.tok
     ·exact Or.inr (fun e=>d ⟨a,b,e⟩)
     ·exact Or.inl (Or.inr b)
    ·exact Or.inl (Or.inl a)
   rw[this];rfl
theorem aDK(hk:KSim c r)(ho:yZ o r)(hl:0≤o.lock∧o.lock≤3)(hkd:1≤o.kind∧o.kind≤4){v:Vl}(hs:v.seq≤2147483647):
 ((eK g c o v).res=5∧(eK g c o v).own=0∧(eK g c o v).tok=0∧(iV g r v).2=false)∨
 ((eK g c o v).res≠5∧iV g r v=(eK g c o v,true)∧(((eK g c o v).res=2∨(eK g c o v).res=4)→(eK g c o v).next=v)):=by
 have f:∀x,vN r.mine x=tP o x:=fun x=>by unfold vN tP;rw[ho.mine]
 have k:∀x,wZ r.mine x=sO o x:=fun x=>by unfold wZ sO;rw[ho.mine]
 have b:=hk.tok _ hl.1 hl.2;have l:ownR r v=oM c o v:=by
  unfold ownR oM;rw[hk.id,ho.lock,b];cases (v.own==c.num+1)<;>cases (v.tok==c.toks o.lock)<;>cases (c.toks o.lock==0)<;>rfl
 unfold eK iV;rw[ho.kind];by_cases n:o.kind=1
 ·rw[if_pos n,if_pos n];unfold jH;rw[f,k];by_cases a:tP o v.tok=true
  ·rw[if_pos a,if_pos a,hk.id];exact Or.inr ⟨(show(1:Int)≠5 by decide),rfl,fun h=>by rcases h with h|h<;>cases h⟩
  ·rw[if_neg a,if_neg a];by_cases i:sO o v.tok=true
   ·rw[if_pos i,if_pos i];exact Or.inl ⟨rfl,rfl,rfl,rfl⟩
   ·rw[if_neg i,if_neg i];have d:(v.own=0∨v.own=r.id+1∨rB g r v=true)↔(v.own=0∨v.own=c.num+1∨aAk g c o v=true):=by
     rw[hk.id];by_cases q:v.own=0
     ·simp[q]
     ·rw[aIC hk ho hl q]
    by_cases j:v.own=0∨v.own=c.num+1∨aAk g c o v=true
    ·rw[if_pos j,if_pos (d.2 j),hk.id,ho.bal,ho.ttl];exact Or.inr ⟨(show(1:Int)≠5 by decide),rfl,fun h=>by rcases h with h|h<;>cases h⟩
    ·rw[if_neg j,if_neg (fun e=>j (d.1 e))];exact Or.inr ⟨(show(2:Int)≠5 by decide),rfl,fun _=>rfl⟩
 ·rw[if_neg n,if_neg n];by_cases m:o.kind=2
  ·rw[if_pos m,if_pos m];unfold pG;rw[l];by_cases a:oM c o v=true
   ·rw[if_pos a,if_pos a];have e:v.own=c.num+1∧v.tok=c.toks o.lock:=by
     simp only[oM,aR,beq_iff_eq]at a;exact⟨a.1.1,a.2⟩
    refine Or.inr ⟨(show(1:Int)≠5 by decide),?_,fun h=>by rcases h with h|h<;>cases h⟩;rw[hk.id,ho.lock,b,ho.ttl,e.1,e.2];have:(if v.seq<2147483647 then v.seq+1 else v.seq)=min (v.seq+1) 2147483647:=by split<;>omega
    rw[this]
   ·rw[if_neg a,if_neg a];exact Or.inr ⟨(by decide:(3:Int)≠5),rfl,fun h=>by rcases h with h|h<;>cases h⟩
  ·rw[if_neg m,if_neg m];by_cases p:o.kind=3
   ·rw[if_pos p,if_pos p];unfold jN;rw[l,f];by_cases a:oM c o v=true
    ·rw[if_pos a,if_pos a];have e:v.tok=c.toks o.lock:=by
      simp only[oM,aR,beq_iff_eq]at a;exact a.2
     refine Or.inr ⟨(show(1:Int)≠5 by decide),?_,fun h=>by rcases h with h|h<;>cases h⟩;rw[hk.id,ho.lock,b,ho.bal,e]
    ·rw[if_neg a,if_neg a];by_cases i:v.own=0∧tP o v.seq=true
     ·rw[if_pos i,if_pos i,hk.id];exact Or.inr ⟨(show(1:Int)≠5 by decide),rfl,fun h=>by rcases h with h|h<;>cases h⟩
     ·rw[if_neg i,if_neg i,ho.mine,ho.lock,b];by_cases j:0<o.mine.length∧v.tok≠c.toks o.lock
      ·rw[if_pos j];refine Or.inl ⟨rfl,rfl,rfl,?_⟩;simp only[Bool.or_eq_false_iff,decide_eq_false_iff_not,beq_eq_false_iff_ne];exact⟨by omega,j.2⟩
      ·rw[if_neg j];refine Or.inr ⟨(by decide:(3:Int)≠5),?_,fun h=>by rcases h with h|h<;>cases h⟩
       congr 1
       simp only[Bool.or_eq_true,aM,beq_iff_eq];by_cases s:o.mine.length=0
       ·exact Or.inl s
       ·exact Or.inr (aH fun e=>j ⟨by omega,e⟩)
   ·rw[if_neg p,if_neg p];exact Or.inr ⟨(by decide:(4:Int)≠5),rfl,fun _=>rfl⟩
theorem aIr(ho:yZ o r)(v:Vl):tR r v=zU o v:=by
 unfold tR zU;rw[ho.kind,ho.bal];by_cases a:o.kind=1
 ·rw[if_pos a];simp[a]
 ·rw[if_neg a];by_cases b:o.kind=3
  ·rw[if_pos b];simp[b]
  ·rw[if_neg b];simp[a,b]
theorem aEQ(hk:KSim c r)(ho:yZ o r)(hl:0≤o.lock∧o.lock≤3)(hkd:1≤o.kind∧o.kind≤4)(hb:r.busy=true)(hback:r.back=[])(hbest:(o.att.base,o.att.val)=jP r.heard)(hs:o.att.val.seq≤2147483647):
 tU (iG g c o) (kU g r)∧lB g (gJ g) r=gZ g c o:=by
 have l:(jP r.heard).2=o.att.val:=by rw[←hbest]
 have i:(jP r.heard).1=o.att.base:=by rw[←hbest]
 unfold iG gZ kU lB;dsimp only;rw[l,i];rcases aDK (g:=g) hk ho hl hkd hs with⟨a,d,f,j⟩|⟨a,d,f⟩
 ·rw[if_pos a,if_pos a,if_pos j,if_pos j,a,d,f];have:=xM hk ho hl 5 0 0 o.att.val (fun h=>by omega);exact this
 ·rw[if_neg a,if_neg a,d];simp only[Bool.true_eq_false,if_false];have k:=aIr ho (eK g c o o.att.val).next
  have b:yZ (iD o (eK g c o o.att.val)) (jK r (eK g c o o.att.val)):=by
   refine⟨ho.kind,ho.lock,ho.ttl,ho.began,ho.tries,?_,ho.bal,ho.at_⟩;show(if tR r (eK g c o o.att.val).next=true then r.mine++[r.bal]else r.mine)=(if zU o (eK g c o o.att.val).next=true then o.mine++[o.att.bal]else o.mine);rw[k,ho.mine,ho.bal]
  refine⟨⟨⟨hk.id,hk.inc,hk.up,hk.clock,hk.round,hk.tok,hk.til,hk.wat,hk.out⟩,hb,fun o' ho'=>?_⟩,?_⟩
  ·have e:=(aN ho').symm;subst e;refine⟨b,Or.inr ⟨rfl,rfl,hback.symm,rfl,rfl,rfl,fun h=>?_,a⟩⟩;exact f h
  ·exact aCo (r:=jK r (eK g c o o.att.val)) (o:=iD o (eK g c o o.att.val)) hk.id b.lock b.bal 3 _ _ _
theorem aJ2(l:List Mg)(x:Int):(l.any fun y=>y.src==x)=(l.map (·.src)).contains x:=by
 induction l with
 |nil=>rfl
 |cons m l ih=>
  rw[List.any_cons,List.map_cons,List.contains_cons,ih]
  congr 1
  exact Bool.beq_comm ..
theorem aGX(h:tU c r){m:Mg}(hf:1≤g.f)(hl:∀o,c.doing=some o→(0≤o.lock∧o.lock≤3)∧(1≤o.kind∧o.kind≤4)∧o.att.val.seq≤2147483647∧(o.att.ans.length:Int)≤g.f)(hm:m.val.seq≤2147483647)(hmk:m.kind≠0)(hmb:m.kind=4→m.base=0)(hb0:∀o,c.doing=some o→0≤o.att.base)(hno:m.kind=4→∀o,c.doing=some o→m.bal=o.att.bal→o.att.awaited=4):
 tU (gO g c m) (fY g r m)∧fI g (gJ g) r m=iB g c m:=by
 unfold gO iB fY fI;by_cases D:c.up=false
 ·have s:iO r m=true:=by unfold iO;rw[h.k.up,D];rfl
  rw[if_pos D,if_pos D,if_pos s,if_pos s];exact⟨h,rfl⟩
 ·rw[if_neg D,if_neg D];have G:c.up=true:=by simpa using D
  cases hdo:c.doing with
  |none=>
   have s:iO r m=true:=by unfold iO;rw[h.busy,hdo];simp
   rw[if_pos s,if_pos s];exact⟨h,rfl⟩
  |some o=>
   obtain⟨a,L⟩:=h.on o hdo;obtain⟨A,M,N,Z⟩:=hl o hdo;have C:r.busy=true:=by rw[h.busy,hdo];rfl
   have Q:=hb0 o hdo;dsimp only;by_cases i:m.bal=o.att.bal
   ·have s:¬iO r m=true:=by unfold iO;rw[h.k.up,G,C,a.bal,i];simp
    rw[if_neg s,if_neg s,if_neg (show¬m.bal≠o.att.bal from fun e=>e i),if_neg (show¬m.bal≠o.att.bal from fun e=>e i)];by_cases x:m.kind=5
    ·rw[if_pos x,if_pos x,if_pos x,if_pos x];have e:(if r.round<m.base / 256 then m.base / 256 else r.round)=max c.round (m.base / 256):=by rw[h.k.round];split<;>omega
     rw[e];have p:KSim {c with round:=max c.round (m.base / 256)} {r with round:=max c.round (m.base / 256)}:=⟨h.k.id,h.k.inc,h.k.up,h.k.clock,rfl,h.k.tok,h.k.til,h.k.wat,h.k.out⟩;have:=aEX (g:=g) p ⟨a.kind,a.lock,a.ttl,a.began,a.tries,a.mine,a.bal,a.at_⟩ A C;exact(by first|exact this|(have q:=this;rw[hdo]at q;exact q))
    ·rw[if_neg x,if_neg x,if_neg x,if_neg x];rcases L with⟨F,E,H,z,I⟩|⟨F,E,H,z,I,J,O,S⟩
     ·rw[F];by_cases j:m.kind=2
      ·rw[if_pos j,if_pos j,if_pos j,if_pos j,aJ2,←z];have P:¬r.asked=true:=by rw[E];decide
       unfold jT kB;by_cases l:o.att.ans.contains m.src=true
       ·rw[if_pos l,if_pos l,if_pos l,if_pos l];exact⟨h,rfl⟩
       ·rw[if_neg l,if_neg l,if_neg l,if_neg l];rw[if_neg P,if_neg P];dsimp only;have u:((r.heard++[m]).length:Int)=((heardOn o m).att.ans.length:Int):=by
         show _=((o.att.ans++[m.src]).length:Int);rw[z];simp
        have B:((heardOn o m).att.ans.length:Int)≤g.f+1:=by
         show((o.att.ans++[m.src]).length:Int)≤_;rw[aD,aK];omega
        rw[u];have v:((heardOn o m).att.base,(heardOn o m).att.val)=jP (r.heard++[m]):=by
         rw[aA6,←I];show((if o.att.base<m.base then m.base else o.att.base),(if o.att.base<m.base then m.val else o.att.val))=if o.att.base<m.base then(m.base,m.val)else(o.att.base,o.att.val)
         split<;>rfl
        have t:yZ (heardOn o m) {r with heard:=r.heard++[m]}:=⟨a.kind,a.lock,a.ttl,a.began,a.tries,a.mine,a.bal,a.at_⟩;have p:∀d,KSim {c with doing:=d} {r with heard:=r.heard++[m]}:=fun d=>⟨h.k.id,h.k.inc,h.k.up,h.k.clock,h.k.round,h.k.tok,h.k.til,h.k.wat,h.k.out⟩;by_cases w:((heardOn o m).att.ans.length:Int)≤g.f
        ·have b:¬((heardOn o m).att.ans.length:Int)=g.f+1:=by omega
         rw[if_pos w,if_pos w,if_neg b,if_neg b];refine⟨⟨p _,C,fun o' ho'=>?_⟩,rfl⟩;have e:=(aN ho').symm;subst e;refine⟨t,Or.inl ⟨F,E,H,?_,v⟩⟩;show o.att.ans++[m.src]=(r.heard++[m]).map (·.src);rw[z];simp
        ·have b:((heardOn o m).att.ans.length:Int)=g.f+1:=by omega
         rw[if_neg w,if_neg w,if_pos b,if_pos b,if_pos j,if_pos j];have V:(heardOn o m).att.val.seq≤2147483647:=by
          show(if o.att.base<m.base then m.val else o.att.val).seq≤_;split
          ·exact hm
          ·exact N
         exact aEQ (p _) t A M C H v V
      ·rw[if_neg j,if_neg j,if_neg j,if_neg j];by_cases n:m.kind=4
       ·have:=hno n o hdo i;omega
       ·rw[if_neg n,if_neg n];exact⟨h,rfl⟩
     ·rw[F];by_cases j:m.kind=2
      ·have n:¬m.kind=4:=by omega
       rw[if_pos j,if_pos j,if_neg n,if_neg n,if_pos E,if_pos E];simp only[ite_self];exact⟨h,trivial⟩
      ·rw[if_neg j,if_neg j];by_cases n:m.kind=4
       ·rw[if_pos n,if_pos n,if_pos n,if_pos n];unfold jT kB vN;rw[←H];by_cases l:o.att.ans.contains m.src=true
        ·rw[if_pos l,if_pos l,if_pos l,if_pos l];exact⟨h,rfl⟩
        ·rw[if_neg l,if_neg l,if_neg l,if_neg l];dsimp only;have u:((o.att.ans++[m.src]).length:Int)=((heardOn o m).att.ans.length:Int):=rfl;have B:((heardOn o m).att.ans.length:Int)≤g.f+1:=by
          show((o.att.ans++[m.src]).length:Int)≤_;rw[aD,aK];omega
         rw[u];have a0:=hmb n;have y:(heardOn o m).att.val=o.att.val:=by
          show(if o.att.base<m.base then m.val else o.att.val)=_;rw[if_neg (by omega)]
         have t:yZ (heardOn o m) {r with back:=o.att.ans++[m.src]}:=⟨a.kind,a.lock,a.ttl,a.began,a.tries,a.mine,a.bal,a.at_⟩;have p:∀d,KSim {c with doing:=d} {r with back:=o.att.ans++[m.src]}:=fun d=>⟨h.k.id,h.k.inc,h.k.up,h.k.clock,h.k.round,h.k.tok,h.k.til,h.k.wat,h.k.out⟩;by_cases w:((heardOn o m).att.ans.length:Int)≤g.f
         ·have b:¬((heardOn o m).att.ans.length:Int)=g.f+1:=by omega
          rw[if_pos w,if_pos w,if_neg b,if_neg b];refine⟨⟨p _,C,fun o' ho'=>?_⟩,rfl⟩;have e:=(aN ho').symm;subst e;refine⟨t,Or.inr ⟨F,E,rfl,z,I,J,fun h=>?_,S⟩⟩;rw[y];exact O h
         ·have b:((heardOn o m).att.ans.length:Int)=g.f+1:=by omega
          rw[if_neg w,if_neg w,if_pos b,if_pos b,if_neg j,if_neg j];have T:∀R:Rc,fP R r.fres r.ftok=fP R o.att.eres o.att.etok:=fun R=>by rw[z,J]
          have W:∀R:Rc,jX R r.fres r.fown r.ftok=jX R o.att.eres o.att.eown o.att.etok:=fun R=>by rw[z,I,J]
          rw[T,W];have X:(heardOn o m).att.eres=o.att.eres:=rfl;have U:(heardOn o m).att.eown=o.att.eown:=rfl;have Y:(heardOn o m).att.etok=o.att.etok:=rfl;rw[X,U,Y];have K:=xM (p c.doing) t A o.att.eres o.att.eown o.att.etok (heardOn o m).att.val (fun h=>by rw[y];exact O h);exact K
       ·rw[if_neg n,if_neg n,if_neg n,if_neg n];exact⟨h,rfl⟩
   ·have s:iO r m=true:=by unfold iO;rw[h.k.up,G,C,a.bal];simp[i]
    rw[if_pos s,if_pos s,if_pos i,if_pos i];exact⟨h,rfl⟩
end
end Go.Proofs.YtbbdgokdfhdpiaaGreatDoor
