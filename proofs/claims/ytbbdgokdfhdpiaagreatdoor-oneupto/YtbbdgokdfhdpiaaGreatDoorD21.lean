/- A part of the proof: SafMo, Pax1, Pax2. -/
import Derived.Test.YtbbdgokdfhdpiaaGreatDoorD20
namespace Go.Proofs.YtbbdgokdfhdpiaaGreatDoor
set_option linter.all false
set_option maxRecDepth 100000
set_option maxHeartbeats 40000000
open Go.Proofs.Tryz Go.RowKit
def MiS(f:Cf)(gd:Bool)(s s':Sx):Prop:=∀P:Sx→Prop,P s→(∀t t',P t→Mi f gd t t'→P t')→P s'
section
variable {f:Cf} {gd:Bool}
theorem MiS.refl(s:Sx):MiS f gd s s:=fun _ h _=>h
theorem MiS.step{s s' s'':Sx}(h:MiS f gd s s')(h':Mi f gd s' s''):MiS f gd s s'':=fun P a b=>b s' s'' (h P a b) h'
theorem MiS.one{s s':Sx}(h:Mi f gd s s'):MiS f gd s s':=.step (.refl s) h
theorem MiS.trans{s s' s'':Sx}(h:MiS f gd s s')(k:MiS f gd s' s''):MiS f gd s s'':=k _ h fun _ _ a b=>a.step b
theorem MiS.reach{s s':Sx}(h:MiR f gd s)(k:MiS f gd s s'):MiR f gd s':=k _ h fun _ _ a b=>a.step b
end
theorem MiR.inv{f:Cf}(hf:f.clients≤4)(hff:0≤f.f){gd:Bool}{s:Sx}(h:MiR f gd s):I0 f s∧I1 f s:=
 h.ind (P:=fun s=>I0 f s∧I1 f s) ⟨aHX f,aHj f⟩ (fun s s' _ hi hs=>⟨aEN hf hi.1 hs,aEF hf hff hi.1 hi.2 hs⟩)
structure CGo(f:Cf)(gd:Bool)(s:Sx)(i:Int)(c:Ct)(e:List Ev)(s':Sx):Prop where
 st:MiS f gd s s'
 cl:s'.cl=upd s.cl i c
 tb:s'.tb=s.tb
 tr:s'.tr=s.tr++e
theorem aD4{α:Type}(g:Int→α)(k:Int)(a b:α):upd (upd g k a) k b=upd g k b:=by
 funext z;unfold upd;split<;>rfl
theorem aGb{α:Type}(g:Int→α)(k:Int):upd g k (g k)=g:=by
 funext z;unfold upd;split
 ·rename_i e;rw[e]
 ·rfl
theorem CGo.refl(f:Cf)(gd:Bool)(s:Sx)(i:Int):CGo f gd s i (s.cl i) [] s:=⟨.refl s,(aGb _ _).symm,rfl,(aC _).symm⟩
theorem CGo.trans{f:Cf}{gd:Bool}{s s' s'':Sx}{i:Int}{c c':Ct}{e e':List Ev}(h:CGo f gd s i c e s')(k:CGo f gd s' i c' e' s''):CGo f gd s i c' (e++e') s'':=
 ⟨h.st.trans k.st,by rw[k.cl,h.cl,aD4],k.tb.trans h.tb,by rw[k.tr,h.tr,aS]⟩
theorem CGo.at_{f:Cf}{gd:Bool}{s s':Sx}{i:Int}{c:Ct}{e:List Ev}(h:CGo f gd s i c e s'):s'.cl i=c:=by rw[h.cl,eJ]
section
variable {g:Cf} {c:Ct}
theorem aHU(hu:c.up=true):lF g c=match c.doing with
 |some o=>if g.patience≤c.clock+1-o.att.began then jY g {c with clock:=c.clock+1} o else{c with clock:=c.clock+1}
 |none=>{c with clock:=c.clock+1}:=by
 unfold lF;rw[if_neg (by rw[hu];decide)]
 rfl
theorem aGu(hu:c.up=true):lQ g c=match c.doing with
 |some o=>if g.patience≤c.clock+1-o.att.began then jK g {c with clock:=c.clock+1} o else[]
 |none=>[]:=by
 unfold lQ;rw[if_neg (by rw[hu];decide)]
 rfl
theorem aE7(hu:c.up=true)(m:Mg):gS g c m=match c.doing with
 |none=>c
 |some o=>if m.bal≠o.att.bal then c else if m.kind=5 then jY g {c with round:=max c.round (m.base / 256)} o else if m.kind=o.att.awaited then iZ g c o m else c:=by
 unfold gS;rw[if_neg (by rw[hu];decide)]
 rfl
theorem aFX(hu:c.up=true)(m:Mg):gT g c m=match c.doing with
 |none=>[]
 |some o=>if m.bal≠o.att.bal then[]else if m.kind=5 then jK g {c with round:=max c.round (m.base / 256)} o else if m.kind=o.att.awaited then jF g c o m else[]:=by
 unfold gT;rw[if_neg (by rw[hu];decide)]
 rfl
end
section
variable {f:Cf}{gd:Bool}{s:Sx}{i:Int}
theorem aBx(h0:0≤i)(h1:i<f.clients)(hu:(s.cl i).up=true){o:On}(hd:(s.cl i).doing=some o){res:Int}(hr:res=5∨res=6)(tok:Int)(v:Vl):
 ∃s',CGo f gd s i (gA (s.cl i) o res tok v) (lO (s.cl i) o res 0 0) s'∧s'.ah=s.ah:=by
 refine⟨vB s i o res,⟨.one (.endU s i o res h0 h1 hu hd hr),?_,rfl,rfl⟩,rfl⟩;have e:gA (s.cl i) o res tok v={s.cl i with doing:=none}:=by
  unfold gA;dsimp only;rw[if_neg (by omega),if_neg (by omega),if_neg (by omega)]
 rw[e];rfl
theorem aAh(h0:0≤i)(h1:i<f.clients)(hu:(s.cl i).up=true){o:On}(hd:(s.cl i).doing=some o):
 ∃s',CGo f gd s i (gY (s.cl i) o) (fV f (s.cl i) o) s'∧s'.ah=s.ah:=by
 unfold gY fV;by_cases a:1000≤(s.cl i).round
 ·rw[if_pos a,if_pos a];exact aBx h0 h1 hu hd (Or.inr rfl) 0 zVl
 ·rw[if_neg a,if_neg a];exact⟨iH f s i o,⟨.one (.att s i o h0 h1 hu hd (by omega)),rfl,rfl,rfl⟩,rfl⟩
theorem aB8(h0:0≤i)(h1:i<f.clients)(hu:(s.cl i).up=true){o:On}(hd:(s.cl i).doing=some o):
 ∃s',CGo f gd s i (jY f (s.cl i) o) (jK f (s.cl i) o) s'∧s'.ah=s.ah:=by
 unfold jY jK;split
 ·exact aAh h0 h1 hu hd
 ·exact aBx h0 h1 hu hd (Or.inl rfl) 0 zVl
theorem aG3(h0:0≤i)(h1:i<f.clients){k l t:Int}(hk:1≤k∧k≤4)(hl:0≤l∧l≤3)(ht:0≤t∧t≤1000)(ht1:k≤2→1≤t)(ht2:2<k→t=0):
 ∃s',CGo f gd s i (iV (s.cl i) k l t) (iI f (s.cl i) k l t) s'∧s'.ah=s.ah:=by
 unfold iV iI;by_cases c:kV (s.cl i)≠0
 ·rw[if_pos c,if_pos c];exact⟨s,CGo.refl f gd s i,rfl⟩
 ·rw[if_neg c,if_neg c];have a:kV (s.cl i)=0:=aH c;have b:(s.cl i).up=true∧(s.cl i).doing=none:=by
   unfold kV at a;cases hu:(s.cl i).up with
   |false=>rw[hu]at a;simp at a
   |true=>
    cases hb:(s.cl i).doing with
    |none=>exact⟨rfl,rfl⟩
    |some o=>rw[hu,hb]at a;simp at a
  have d:CGo f gd s i (dN {s.cl i with doing:=some (eH (s.cl i) k l t)} k l t) [gJ (s.cl i).num (eH (s.cl i) k l t)] (gN s i k l t):=
   ⟨.one (.began s i k l t h0 h1 b.1 b.2 hk hl ht ht1 ht2),rfl,rfl,rfl⟩
  obtain⟨m,h⟩:=nQ {s.cl i with doing:=some (eH (s.cl i) k l t)} k l t;have e:=d.at_;obtain⟨s',g,j⟩:=aAh (gd:=gd) (s:=gN s i k l t) (o:=eH (s.cl i) k l t) h0 h1 (by rw[e,m.up];exact b.1) (by rw[e,h]);rw[e]at g;exact⟨s',d.trans g,j⟩
theorem aIp(h0:0≤i)(h1:i<f.clients)(hg:(s.cl i).up=true→gd=true→aA0 f s i):
 ∃s',CGo f gd s i (lF f (s.cl i)) (lQ f (s.cl i)) s'∧s'.ah=if(s.cl i).up=true then aBd f s.ah i else s.ah:=by
 by_cases b:(s.cl i).up=true
 ·rw[aHU b,aGu b,if_pos b];have a:CGo f gd s i {s.cl i with clock:=(s.cl i).clock+1} [] (uS f s i):=⟨.one (.tick s i h0 h1 b (hg b)),rfl,rfl,rfl⟩;have e:=a.at_;split
  ·rename_i o g;split
   ·obtain⟨s',d,j⟩:=aB8 (gd:=gd) (s:=uS f s i) (o:=o) h0 h1 (by rw[e];exact b) (by rw[e];exact g);rw[e]at d;exact⟨s',a.trans d,j⟩
   ·exact⟨_,a,rfl⟩
  ·exact⟨_,a,rfl⟩
 ·rw[if_neg b];have c:(s.cl i).up=false:=by simpa using b
  have h:lF f (s.cl i)=s.cl i:=by unfold lF;rw[if_pos c]
  have k:lQ f (s.cl i)=[]:=by unfold lQ;rw[if_pos c]
  rw[h,k];exact⟨s,CGo.refl f gd s i,rfl⟩
theorem aHO(c:Ct)(o:On)(v:Vl)(h:(dD f c o v).res=5):(dD f c o v).own=0∧(dD f c o v).tok=0:=by
 unfold dD gX lR gR at h⊢
 repeat' split at h
 all_goals first
  |(exfalso;exact absurd h (by decide))
  |skip
 all_goals(repeat' split)
 all_goals first
  |exact⟨rfl,rfl⟩
  |(exfalso;simp_all)
theorem aDT(h0:0≤i)(h1:i<f.clients)(hu:(s.cl i).up=true){o:On}(hd:(s.cl i).doing=some o)(h2:o.att.awaited=2)(hq:f.f<o.att.ans.length):
 ∃s',CGo f gd s i (iT f (s.cl i) o) (iN f (s.cl i) o) s'∧s'.ah=s.ah:=by
 unfold iT iN;dsimp only;by_cases a:(dD f (s.cl i) o o.att.val).res=5
 ·obtain⟨c,b⟩:=aHO _ _ _ a;rw[if_pos a,if_pos a,a,c,b];exact aBx h0 h1 hu hd (Or.inl rfl) 0 o.att.val
 ·rw[if_neg a,if_neg a];exact⟨gP f s i o,⟨.one (.prop s i o h0 h1 hu hd h2 hq a),rfl,rfl,rfl⟩,rfl⟩
theorem aHT(hi0:I0 f s)(h0:0≤i)(h1:i<f.clients)(hu:(s.cl i).up=true){o:On}(hd:(s.cl i).doing=some o){m:Mg}(hm:m ∈ cJ s.tr)(hb:m.bal=o.att.bal)(hk0:1≤m.kind)(hk:m.kind=o.att.awaited):
 ∃s',CGo f gd s i (iZ f (s.cl i) o m) (jF f (s.cl i) o m) s'∧s'.ah=s.ah:=by
 unfold iZ jF;by_cases c:o.att.ans.contains m.src=true
 ·rw[if_pos c,if_pos c];exact⟨s,CGo.refl f gd s i,rfl⟩
 ·rw[if_neg c,if_neg c];dsimp only;have b:CGo f gd s i {s.cl i with doing:=some (heardOn o m)} [] (kJ s i o m):=⟨.one (.hear s i o m h0 h1 hu hd hm hb hk0 hk (by simpa using c)),rfl,rfl,rfl⟩;have e:=b.at_;by_cases d:((heardOn o m).att.ans.length:Int)≤f.f
  ·rw[if_pos d,if_pos d];exact⟨_,b,rfl⟩
  ·rw[if_neg d,if_neg d];by_cases g:m.kind=2
   ·rw[if_pos g,if_pos g];obtain⟨s',a,h⟩:=aDT (gd:=gd) (s:=kJ s i o m) (o:=heardOn o m) h0 h1 (by rw[e];exact hu) (by rw[e]) (by show o.att.awaited=2;omega) (by omega);rw[e]at a;exact⟨s',b.trans a,h⟩
   ·rw[if_neg g,if_neg g];have j:o.att.awaited=4:=by
     rcases hi0.bal i h0 h1 o hd with⟨_,q,_⟩|⟨_,_,_,q⟩<;>omega
    have a:CGo f gd (kJ s i o m) i (gA ((kJ s i o m).cl i) (heardOn o m) (heardOn o m).att.eres (heardOn o m).att.etok (heardOn o m).att.val) (lO ((kJ s i o m).cl i) (heardOn o m) (heardOn o m).att.eres (heardOn o m).att.eown (heardOn o m).att.etok) (qJ (kJ s i o m) i (heardOn o m)):=
     ⟨.one (.endQ _ i (heardOn o m) h0 h1 (by rw[e];exact hu) (by rw[e]) j (by omega)),rfl,rfl,rfl⟩
    rw[e]at a;have k:gA {s.cl i with doing:=some (heardOn o m)} (heardOn o m) (heardOn o m).att.eres (heardOn o m).att.etok (heardOn o m).att.val=gA (s.cl i) (heardOn o m) (heardOn o m).att.eres (heardOn o m).att.etok (heardOn o m).att.val:=rfl;rw[k]at a;exact⟨_,b.trans a,rfl⟩
theorem aIc(hi0:I0 f s)(h0:0≤i)(h1:i<f.clients){m:Mg}(hm:m ∈ cJ s.tr)(hmo:MOk f m):
 ∃s',CGo f gd s i (gS f (s.cl i) m) (gT f (s.cl i) m) s'∧s'.ah=s.ah:=by
 by_cases a:(s.cl i).up=true
 ·rw[aE7 a,aFX a];split
  ·exact⟨s,CGo.refl f gd s i,rfl⟩
  ·rename_i o k;by_cases c:m.bal=o.att.bal
   ·rw[if_neg (fun e:m.bal≠o.att.bal=>e c),if_neg (fun e:m.bal≠o.att.bal=>e c)];by_cases j:m.kind=5
    ·rw[if_pos j,if_pos j];have p:max (s.cl i).round (m.base / 256)≤1000:=by have:=hi0.rnd1 i h0 h1;have:=hmo.e2;omega
     have g:CGo f gd s i {s.cl i with round:=max (s.cl i).round (m.base / 256)} [] (uX s i (max (s.cl i).round (m.base / 256))):=⟨.one (.bump s i _ o h0 h1 a k (by omega) p),rfl,rfl,rfl⟩;have e:=g.at_;obtain⟨s',h,n⟩:=aB8 (gd:=gd) (s:=uX s i (max (s.cl i).round (m.base / 256))) (o:=o) h0 h1 (by rw[e];exact a) (by rw[e];exact k);rw[e]at h;exact⟨s',g.trans h,n⟩
    ·rw[if_neg j,if_neg j];by_cases b:m.kind=o.att.awaited
     ·rw[if_pos b,if_pos b];exact aHT (gd:=gd) hi0 h0 h1 a k hm c hmo.k1 b
     ·rw[if_neg b,if_neg b];exact⟨s,CGo.refl f gd s i,rfl⟩
   ·rw[if_pos c,if_pos c];exact⟨s,CGo.refl f gd s i,rfl⟩
 ·have d:(s.cl i).up=false:=by simpa using a
  have l:gS f (s.cl i) m=s.cl i:=by unfold gS;rw[if_pos d]
  have q:gT f (s.cl i) m=[]:=by unfold gT;rw[if_pos d]
  rw[l,q];exact⟨s,CGo.refl f gd s i,rfl⟩
theorem aIJ(h0:0≤i)(h1:i<f.clients):∃s',CGo f gd s i (mX (s.cl i)) (jU (s.cl i)) s'∧s'.ah=if(s.cl i).up=true then iP s.ah i else s.ah:=by
 cases hu:(s.cl i).up with
 |false=>
  have b:mX (s.cl i)=s.cl i:=by unfold mX;rw[if_pos hu]
  have a:jU (s.cl i)=[]:=by unfold jU;rw[if_pos hu]
  rw[b,a,if_neg (by decide)];exact⟨s,CGo.refl f gd s i,rfl⟩
 |true=>
  rw[if_pos rfl];exact⟨sM s i,⟨.one (.lose s i h0 h1 hu),rfl,rfl,rfl⟩,rfl⟩
theorem aFk(hi:(s.cl i).inc≤63)(h0:0≤i)(h1:i<f.clients):∃s',CGo f gd s i (jC (s.cl i)) (fW (s.cl i)) s'∧s'.ah=if dW (s.cl i)=0 then iP s.ah i else s.ah:=by
 by_cases a:dW (s.cl i)=0
 ·rw[if_pos a];have b:(s.cl i).up=false∧(s.cl i).inc<63:=by
   unfold dW at a;cases hu:(s.cl i).up with
   |true=>rw[hu]at a;simp at a
   |false=>
    rw[hu]at a;simp only[aU,if_false]at a;split at a
    ·omega
    ·exact⟨rfl,by omega⟩
  exact⟨uL s i,⟨.one (.ret s i h0 h1 b.1 b.2),rfl,rfl,rfl⟩,rfl⟩
 ·rw[if_neg a];have d:jC (s.cl i)=s.cl i:=by unfold jC;rw[if_pos a]
  have c:fW (s.cl i)=[]:=by unfold fW;rw[if_pos a]
  rw[d,c];exact⟨s,CGo.refl f gd s i,rfl⟩
end
structure Abs(x:Mo)(s:Sx):Prop where
 cls:∀i (h:i<x.cls.length),s.cl i=x.cls[i]
 tb:∀j (h:j<x.acs.length) l,0≤l→s.tb j l=eQ x.acs[j] l
 tr:s.tr=x.tr
 net:∀m ∈ x.net,m ∈ cJ x.tr
theorem aId(f:Cf):Abs (lI f) pU:=by
 refine⟨fun i hi=>?_,fun j hj l l0=>?_,rfl,fun m hm=>(by cases hm)⟩
 ·simp[lI,pU]
 ·have:(lI f).acs[j]=rX f j:=by simp[lI]
  rw[this]
  rfl
section
variable {f:Cf}{gd:Bool}{x:Mo}{s s':Sx}{N:Int}
theorem Abs.client(h:Abs x s){i:Int}(hi:dL i x.cls.length=true){c:Ct}{e:List Ev}{y:Mo}(hy:y.cls=x.cls∧y.acs=x.acs∧y.tr=x.tr∧∀m ∈ y.net,m ∈ x.net)(hg:CGo f gd s i c e s'):Abs (iG y i c e) s':=by
 obtain⟨q,p⟩:=(dK _ _).1 hi;obtain⟨k,n,g,o⟩:=hy;refine⟨fun j hj=>?_,fun j hj l l0=>?_,?_,fun m b=>?_⟩
 ·have a:j<x.cls.length:=by rw[←k];simpa[iG]using hj
  rw[hg.cl];unfold upd;by_cases e:(j:Int)=i
  ·rw[if_pos e];have:j=i.toNat:=by omega
   subst this;simp[iG]
  ·rw[if_neg e];have d:i.toNat≠j:=by omega
   simp only[iG,List.getElem_set_ne d];have:=h.cls j a;simp only[k];exact this
 ·rw[hg.tb];have a:j<x.acs.length:=by rw[←n];exact hj
  have:=h.tb j a l l0;simp only[iG,n];exact this
 ·rw[hg.tr,h.tr];show _=y.tr++e;rw[g]
 ·show m ∈ cJ (y.tr++e);rw[gI,g];rcases aO.1 (show m ∈ y.net++cJ e from b)with b|b
  ·exact List.mem_append_left _ (h.net m (o m b))
  ·exact List.mem_append_right _ b
theorem Abs.clAt(h:Abs x s){i:Int}(hi:dL i x.cls.length=true):s.cl i=clM x i:=by
 obtain⟨c,b⟩:=(dK _ _).1 hi;obtain⟨a,e⟩:=oI hi;rw[e,←h.cls _ a]
 congr 1
 omega
theorem Abs.acAt(h:Abs x s){i:Int}(hi:dL i x.acs.length=true){l:Int}(l0:0≤l):s.tb i l=eQ (acM x i) l:=by
 obtain⟨c,b⟩:=(dK _ _).1 hi;obtain⟨a,e⟩:=pV hi;rw[e,←h.tb _ a l l0]
 congr 1
 omega
theorem Abs.acceptor(h:Abs x s){i:Int}(hi:dL i x.acs.length=true){a:Ac}{e:List Ev}{y:Mo}(hy:y.cls=x.cls∧y.acs=x.acs∧y.tr=x.tr∧∀m ∈ y.net,m ∈ x.net)(hcl:s'.cl=s.cl)(htr:s'.tr=s.tr++e)
 (htb:∀j l,0≤l→s'.tb j l=if j=i then eQ a l else s.tb j l):Abs (kB y i a e) s':=by
 obtain⟨p,o⟩:=(dK _ _).1 hi;obtain⟨g,k,f,n⟩:=hy;refine⟨fun j hj=>?_,fun j hj l l0=>?_,?_,fun m c=>?_⟩
 ·rw[hcl];have b:j<x.cls.length:=by rw[←g];exact hj
  have:=h.cls j b;simp only[kB,g];exact this
 ·have b:j<x.acs.length:=by rw[←k];simpa[kB]using hj
  rw[htb _ _ l0];by_cases e:(j:Int)=i
  ·rw[if_pos e];have:j=i.toNat:=by omega
   subst this;simp[kB]
  ·rw[if_neg e];have d:i.toNat≠j:=by omega
   simp only[kB,List.getElem_set_ne d];have:=h.tb j b l l0;simp only[k];exact this
 ·rw[htr,h.tr];show _=y.tr++e;rw[f]
 ·show m ∈ cJ (y.tr++e);rw[gI,f];rcases aO.1 (show m ∈ y.net++cJ e from c)with c|c
  ·exact List.mem_append_left _ (h.net m (n m c))
  ·exact List.mem_append_right _ c
theorem mF(x:Mo):x.cls=x.cls∧x.acs=x.acs∧x.tr=x.tr∧∀m ∈ x.net,m ∈ x.net:=⟨rfl,rfl,rfl,fun _ h=>h⟩
theorem rR(x:Mo)(i:Int):(eN x i).cls=x.cls∧(eN x i).acs=x.acs∧(eN x i).tr=x.tr∧∀m ∈ (eN x i).net,m ∈ x.net:=by
 unfold eN;split
 ·exact⟨rfl,rfl,rfl,fun m hm=>List.mem_of_mem_eraseIdx hm⟩
 ·exact mF x
theorem uY(hx:MoOk N x){i:Int}(hi:dL i x.cls.length=true):0≤i∧i<x.cf.clients:=by
 obtain⟨a,b⟩:=(dK _ _).1 hi;have:=hx.nc;exact⟨a,by omega⟩
theorem aEG(hx:MoOk N x){i:Int}(hi:dL i x.acs.length=true):0≤i∧i<2*x.cf.f+1:=by
 obtain⟨a,b⟩:=(dK _ _).1 hi;have:=hx.na;unfold gB at this;exact⟨a,by omega⟩
theorem aE0(hx:MoOk N x)(h:Abs x s)(i k l t:Int):∃s',MiS x.cf gd s s'∧Abs (fO x i k l t) s'∧s'.ah=s.ah:=by
 unfold fO;by_cases c:lL x i k l t=true
 ·rw[if_pos c];exact⟨s,.refl s,h,rfl⟩
 ·rw[if_neg c];have j:dL i x.cls.length=true∧(1≤k∧k≤4)∧(0≤l∧l≤3)∧(k≤2→1≤t∧t≤1000):=by
   simp only[lL,Bool.or_eq_true,Bool.not_eq_true',aR,aM,decide_eq_false_iff_not,not_or,not_and,Bool.not_eq_false]at c;obtain⟨⟨⟨u,p⟩,w⟩,q⟩:=c;refine⟨u,?_,?_,fun d=>?_⟩
   ·exact aH fun hh=>p (by omega)
   ·exact aH fun hh=>w (by omega)
   ·exact aH fun hh=>q d (by omega)
  obtain⟨g,d,o,v⟩:=j;obtain⟨m,n⟩:=uY hx g;have b:(0≤uP k t∧uP k t≤1000)∧(k≤2→1≤uP k t)∧(2<k→uP k t=0):=by
   unfold uP;by_cases a:k≤2
   ·rw[if_pos a];have:=v a;omega
   ·rw[if_neg a];omega
  obtain⟨s',e,r⟩:=aG3 (f:=x.cf) (gd:=gd) (s:=s) m n d o b.1 b.2.1 b.2.2;rw[h.clAt g]at e;exact⟨s',e.st,h.client g (mF x) e,r⟩
theorem aHw(hx:MoOk N x)(h:Abs x s)(i:Int)(hg:dL i x.cls.length=true→(clM x i).up=true→gd=true→aA0 x.cf s i):
 ∃s',MiS x.cf gd s s'∧Abs (kG x i) s'∧s'.ah=if dL i x.cls.length=true∧(clM x i).up=true then aBd x.cf s.ah i else s.ah:=by
 unfold kG;by_cases a:dL i x.cls.length=true
 ·rw[if_pos a];obtain⟨g,j⟩:=uY hx a;obtain⟨s',b,d⟩:=aIp (f:=x.cf) (gd:=gd) (s:=s) g j (fun c hgd=>hg a (by rw[←h.clAt a];exact c) hgd);rw[h.clAt a]at b d;refine⟨s',b.st,h.client a (mF x) b,?_⟩;rw[d];by_cases c:(clM x i).up=true
  ·rw[if_pos c,if_pos ⟨a,c⟩]
  ·rw[if_neg c,if_neg (fun e=>c e.2)]
 ·rw[if_neg a,if_neg (fun e=>a e.1)];exact⟨s,.refl s,h,rfl⟩
theorem aHZ(hx:MoOk N x)(h:Abs x s)(i:Int):∃s',MiS x.cf gd s s'∧Abs (kP x i) s'∧s'.ah=if dL i x.cls.length=true∧(clM x i).up=true then iP s.ah i else s.ah:=by
 unfold kP;by_cases a:dL i x.cls.length=true
 ·rw[if_pos a];obtain⟨g,j⟩:=uY hx a;obtain⟨s',b,d⟩:=aIJ (f:=x.cf) (gd:=gd) (s:=s) g j;rw[h.clAt a]at b d;refine⟨s',b.st,h.client a (mF x) b,?_⟩;rw[d];by_cases c:(clM x i).up=true
  ·rw[if_pos c,if_pos ⟨a,c⟩]
  ·rw[if_neg c,if_neg (fun e=>c e.2)]
 ·rw[if_neg a,if_neg (fun e=>a e.1)];exact⟨s,.refl s,h,rfl⟩
theorem aDR(hx:MoOk N x)(h:Abs x s)(i:Int):∃s',MiS x.cf gd s s'∧Abs (iB x i) s'∧s'.ah=if dL i x.cls.length=true∧dW (clM x i)=0 then iP s.ah i else s.ah:=by
 unfold iB;by_cases a:dL i x.cls.length=true
 ·rw[if_pos a];obtain⟨g,j⟩:=uY hx a;obtain⟨s',b,d⟩:=aFk (f:=x.cf) (gd:=gd) (s:=s) (i:=i) (by rw[h.clAt a];exact(hx.cl a).1.core.i2) g j;rw[h.clAt a]at b d;refine⟨s',b.st,h.client a (mF x) b,?_⟩;rw[d];by_cases c:dW (clM x i)=0
  ·rw[if_pos c,if_pos ⟨a,c⟩]
  ·rw[if_neg c,if_neg (fun e=>c e.2)]
 ·rw[if_neg a,if_neg (fun e=>a e.1)];exact⟨s,.refl s,h,rfl⟩
theorem aHR(h:Abs x s)(i:Int):Abs (eN x i) s:=by
 obtain⟨c,d,b,e⟩:=rR x i;refine⟨fun j hj=>?_,fun j hj l l0=>?_,by rw[b];exact h.tr,fun m hm=>by rw[b];exact h.net m (e m hm)⟩
 ·have a:j<x.cls.length:=by rw[←c];exact hj
  have:=h.cls j a;simp only[c];exact this
 ·have a:j<x.acs.length:=by rw[←d];exact hj
  have:=h.tb j a l l0;simp only[d];exact this
theorem aHm(h:Abs x s)(i:Int):Abs (lE x i) s:=by
 unfold lE;by_cases b:dL i x.net.length=true
 ·rw[if_pos b];refine⟨h.cls,h.tb,h.tr,fun m a=>?_⟩;rcases aO.1 (show m ∈ x.net++[kC x i]from a)with a|a
  ·exact h.net m a
  ·rw[List.mem_singleton]at a;subst a;obtain⟨c,e⟩:=qZ b;exact h.net _ (by rw[e];exact bF c)
 ·rw[if_neg b];exact h
theorem yD(s:Sx)(j:Int):(sEv s j 4).tr=s.tr++[gD j]:=rfl
theorem aHg(s:Sx)(j:Int):(sEv s j 5).tr=s.tr++[pD j]:=rfl
theorem aGG(hx:MoOk N x)(h:Abs x s)(i n q:Int):∃s',MiS x.cf gd s s'∧Abs (lM x i n q) s'∧s'.ah=s.ah:=by
 unfold lM;by_cases d:oN x i n q=true
 ·rw[if_pos d];exact⟨s,.refl s,h,rfl⟩
 ·rw[if_neg d];have a:dL i x.acs.length=true∧0≤n∧0≤q:=by
   simp only[oN,Bool.or_eq_true,Bool.not_eq_true',aM,not_or,Bool.not_eq_false]at d;exact⟨d.1.1,by omega,by omega⟩
  obtain⟨g,m⟩:=aEG hx a.1;have f:=(hx.ac a.1).1;have k:=fun l=>aHL f (n:=n) a.2.2 l;have c:∀j l,0≤l→s.tb j l=if j=i then eQ (qM (acM x i) n q) l else s.tb j l:=fun j l l0=>by
   by_cases e:j=i
   ·rw[if_pos e,k,e,h.acAt a.1 l0]
   ·rw[if_neg e]
  have b:qH (acM x i) n=[]∨qH (acM x i) n=[gD i]:=by
   unfold qH;split
   ·exact Or.inl rfl
   ·split
    ·right;rw[f.num];congr 2;omega
    ·exact Or.inl rfl
  rcases b with b|b
  ·rw[b];exact⟨s,.refl s,h.acceptor a.1 (mF x) rfl (aC _).symm c,rfl⟩
  ·rw[b];exact⟨sEv s i 4,.one (.ev s i 4 g (Or.inl rfl)),h.acceptor a.1 (mF x) rfl (yD s i) c,rfl⟩
theorem aFj(hx:MoOk N x)(h:Abs x s)(i:Int):∃s',MiS x.cf gd s s'∧Abs (jM x i) s'∧s'.ah=s.ah:=by
 unfold jM;by_cases a:dL i x.acs.length=true
 ·rw[if_pos a];obtain⟨c,n⟩:=aEG hx a;have d:=(hx.ac a).1;have k:=fun l=>aEQ d l;have m:(acM x i).num=i:=by rw[d.num];omega
  have b:∀j l,0≤l→s.tb j l=if j=i then eQ (gE (acM x i)) l else s.tb j l:=fun j l l0=>by
   by_cases e:j=i
   ·rw[if_pos e,k,e,h.acAt a l0]
   ·rw[if_neg e]
  unfold oT;rw[m];by_cases g:(acM x i).st=0
  ·rw[if_pos g];exact⟨s,.refl s,h.acceptor a (mF x) rfl (aC _).symm b,rfl⟩
  ·rw[if_neg g];by_cases f:(acM x i).st=1
   ·rw[if_pos f];refine⟨sEv (sEv s i 4) i 5,.step (.one (.ev s i 4 c (Or.inl rfl))) (.ev _ i 5 c (Or.inr rfl)),h.acceptor a (mF x) rfl ?_ b,rfl⟩;rw[aHg,yD,aS];rfl
   ·rw[if_neg f];exact⟨sEv s i 5,.one (.ev s i 5 c (Or.inr rfl)),h.acceptor a (mF x) rfl (aHg s i) b,rfl⟩
 ·rw[if_neg a];exact⟨s,.refl s,h,rfl⟩
theorem xA(hx:MoOk N x)(hi0:I0 x.cf s)(h:Abs x s)(i:Int):∃s',MiS x.cf gd s s'∧Abs (fG x i) s'∧s'.ah=s.ah:=by
 unfold fG;by_cases z:dL i x.net.length=true
 ·rw[if_pos z];have c:=hx.msg z;have g:kC x i ∈ cJ s.tr:=by
   obtain⟨K,e⟩:=qZ z;rw[e,h.tr];exact h.net _ (bF K)
  generalize kC x i=m at c g⊢;by_cases y:jD m=true
  ·rw[if_pos y];have f:m.kind=1∨m.kind=3:=by simpa[jD]using y
   have o:=c.toA f;have a:dL m.dst x.acs.length=true:=(dK _ _).2 ⟨c.d1,by rw[hx.na];unfold gB;omega⟩;have A:=(hx.ac a).1;have I:(acM x m.dst).num=m.dst:=by rw[A.num];have:=c.d1;omega
   have p:=h.acAt a c.l1;by_cases r:(acM x m.dst).st=0
   ·obtain⟨e,d,Q,D,t⟩:=aHP A r c f;rw[I]at D;rw[Q];have u:∀k:Sx,k.cl=s.cl→k.ah=s.ah→k.tr=s.tr++e→(∀j l,0≤l→k.tb j l=if j=m.dst then eQ (jJ (acM x m.dst) m) l else s.tb j l)→MiS x.cf gd s k→∃s',MiS x.cf gd s s'∧Abs (kB (eN x i) m.dst (jJ (acM x m.dst) m) (e++d)) s'∧s'.ah=s.ah:=by
     intro k E F G J H;rcases D with rfl|rfl
     ·rw[aC];exact⟨k,H,h.acceptor a (rR x i) E G J,F⟩
     ·refine⟨sEv k m.dst 4,.step H (.ev k m.dst 4 c.d1 (Or.inl rfl)),h.acceptor a (rR x i) E ?_ J,F⟩;rw[yD,G,aS]
    rcases t with⟨n,C⟩|⟨n,C⟩
    ·have v:lB (acM x m.dst) (decMsg m (eQ (acM x m.dst) m.lock)) m=jH m.dst (s.tb m.dst m.lock) m:=by
      unfold lB jH;rw[I,p]
     rw[v]at n;refine u (sD s m.dst m e) rfl rfl rfl (fun j l l0=>?_) (.one (.acc s m.dst m e c.d1 o.2 g f n));show(if j=m.dst∧l=m.lock then fA m (s.tb m.dst m.lock)else s.tb j l)=_;by_cases b:j=m.dst
     ·rw[if_pos b,C l l0];by_cases w:l=m.lock
      ·rw[if_pos ⟨b,w⟩,if_pos w,p]
      ·rw[if_neg (fun q=>w q.2),if_neg w,b,h.acAt a l0]
     ·rw[if_neg b,if_neg (fun q=>b q.1)]
    ·subst n;refine u s rfl rfl (aC _).symm (fun j l l0=>?_) (.refl s);by_cases b:j=m.dst
     ·rw[if_pos b,C l l0,b,h.acAt a l0]
     ·rw[if_neg b]
   ·have P:lG (acM x m.dst) m=[]:=by unfold lG;rw[if_pos r]
    have L:jJ (acM x m.dst) m=acM x m.dst:=by unfold jJ;rw[if_pos r]
    rw[P,L];refine⟨s,.refl s,h.acceptor a (rR x i) rfl (aC _).symm (fun j l l0=>?_),rfl⟩;by_cases b:j=m.dst
    ·rw[if_pos b,b,h.acAt a l0]
    ·rw[if_neg b]
  ·rw[if_neg y];have f:¬(m.kind=1∨m.kind=3):=by simpa[jD]using y
   have o:=c.toC f;have a:dL m.dst x.cls.length=true:=(dK _ _).2 ⟨c.d1,by rw[hx.nc];omega⟩;obtain⟨M,O⟩:=uY hx a;obtain⟨s',B,A⟩:=aIc (gd:=gd) hi0 M O g c;rw[h.clAt a]at B;exact⟨s',B.st,h.client a (rR x i) B,A⟩
 ·rw[if_neg z];exact⟨s,.refl s,h,rfl⟩
end
def valB(s:Sx)(b:Int):Vl:=if b=0 then zVl else(s.bl b).val
def aJK(r:Rw):Vl:=⟨r.own,r.tok,r.ttl,r.seq⟩
def Low(r:Rw)(m:Mg):Prop:=(m.kind=2→m.bal≤r.prom∧m.base≤r.acc)∧(m.kind=5→m.base≤r.prom)∧(m.kind=4→m.bal≤r.prom∧m.bal≤r.acc)
def Said(s:Sx)(kind j l b:Int)(base:Int)(n:Nat):Prop:=∃k e,k<n∧s.tr[k]?=some e∧e.kind=1∧e.msg.kind=kind∧e.msg.src=j∧e.msg.lock=l∧e.msg.bal=b∧e.msg.base≤base
structure OnPax(f:Cf)(s:Sx)(o:On):Prop where
 nd:o.att.ans.Nodup
 pr:o.att.awaited=2→∀j ∈ o.att.ans,(0≤j∧j<2*f.f+1)∧Said s 2 j o.lock o.att.bal o.att.base s.tr.length
 ac:o.att.awaited=4→∀j ∈ o.att.ans,(0≤j∧j<2*f.f+1)∧Said s 4 j o.lock o.att.bal 0 s.tr.length
 vl:o.att.awaited=2→o.att.val=valB s o.att.base∧o.att.base<o.att.bal∧(o.att.base=0∨(s.bl o.att.base).asked=true∧(s.bl o.att.base).lock=o.lock)
structure AskPax(f:Cf)(s:Sx)(b:Int)(g:Bg):Prop where
 b0:0≤g.base
 lt:g.base<b
 pv:g.pv=valB s g.base
 up:g.base=0∨(s.bl g.base).asked=true∧(s.bl g.base).lock=g.lock∧(s.bl g.base).t1<g.t1
 qu:∃q:List Int,q.Nodup∧f.f<q.length∧∀j ∈ q,(0≤j∧j<2*f.f+1)∧Said s 2 j g.lock b g.base g.t1
structure I2(f:Cf)(s:Sx):Prop where
 lk:∀j l,(s.tb j l).lock=l
 a0:∀j l,0≤(s.tb j l).acc∧(s.tb j l).acc≤(s.tb j l).prom
 av:∀j l,aJK (s.tb j l)=valB s (s.tb j l).acc∧((s.tb j l).acc≠0→(s.bl (s.tb j l).acc).asked=true∧(s.bl (s.tb j l).acc).lock=l)
 low:∀m ∈ cJ s.tr,Low (s.tb m.src m.lock) m
 ord:∀(k1 k2:Nat) (e1 e2:Ev),s.tr[k1]?=some e1→s.tr[k2]?=some e2→e1.kind=1→e2.kind=1→e1.msg.kind=2→e2.msg.kind=4→e1.msg.src=e2.msg.src→e1.msg.lock=e2.msg.lock→(k2<k1→e2.msg.bal≤e1.msg.base)∧(k1<k2→e1.msg.bal≤e2.msg.bal)
 prm:∀m ∈ cJ s.tr,m.kind=2→m.val=valB s m.base∧0≤m.base∧m.base≤m.bal∧(m.base=0∨(s.bl m.base).asked=true∧(s.bl m.base).lock=m.lock)
 on:∀i,0≤i→i<f.clients→∀o,(s.cl i).doing=some o→OnPax f s o
 ask:∀b,(s.bl b).asked=true→AskPax f s b (s.bl b)
theorem Said.mono{s s':Sx}(h:Ext s s'){kind j l b base base':Int}{n n':Nat}(q:Said s kind j l b base n)(hb:base≤base')(hn:n≤n'):Said s' kind j l b base' n':=by
 obtain⟨k,e,o,c,i,d,g,a,f,m⟩:=q;exact⟨k,e,by omega,h.at_ c,i,d,g,a,f,by omega⟩
theorem qQ{s s':Sx}(h:Ext s s'){b:Int}(hb:b=0∨(s.bl b).asked=true):valB s' b=valB s b:=by
 unfold valB;rcases hb with rfl|hb
 ·rfl
 ·rw[h.ask _ hb]
theorem AskPax.ext{f:Cf}{s s':Sx}(h:Ext s s'){b:Int}{g:Bg}(q:AskPax f s b g):AskPax f s' b g:=by
 refine⟨q.b0,q.lt,by rw[qQ h (q.up.imp id fun x=>x.1)];exact q.pv,q.up.imp id fun x=>?_,?_⟩
 ·rw[h.ask _ x.1];exact x
 ·obtain⟨l,d,c,a⟩:=q.qu;exact⟨l,d,c,fun j hj=>⟨(a j hj).1,(a j hj).2.mono h (aL _) (aE _)⟩⟩
theorem OnPax.ext{f:Cf}{s s':Sx}(h:Ext s s'){o:On}(q:OnPax f s o):OnPax f s' o:=by
 refine⟨q.nd,fun h2 j hj=>⟨(q.pr h2 j hj).1,(q.pr h2 j hj).2.mono h (aL _) h.len⟩,fun h4 j hj=>⟨(q.ac h4 j hj).1,(q.ac h4 j hj).2.mono h (aL _) h.len⟩,fun h2=>?_⟩;obtain⟨c,b,a⟩:=q.vl h2;refine⟨by rw[qQ h (a.imp id fun x=>x.1)];exact c,b,a.imp id fun x=>?_⟩;rw[h.ask _ x.1];exact x
theorem aJB{l:List Ev}{e:Ev}{m:Mg}:m ∈ cJ (l++[e])↔m ∈ cJ l∨(e.kind=1∧m=e.msg):=by
 rw[gI,aO];refine or_congr Iff.rfl ?_;unfold cJ qL;by_cases h:e.kind=1
 ·simp[h]
 ·simp[h]
theorem I2.quiet{f:Cf}{s s':Sx}(h:I2 f s)(hx:Ext s s'){e:List Ev}(ht:s'.tr=s.tr++e)(htb:s'.tb=s.tb)
 (he:∀x ∈ e,x.kind=1→x.msg.kind=1∨x.msg.kind=3)
 (hon:∀i,0≤i→i<f.clients→∀o,(s'.cl i).doing=some o→OnPax f s' o)
 (hask:∀b,(s'.bl b).asked=true→(s.bl b).asked=false→AskPax f s' b (s'.bl b)):I2 f s':=by
 have a:∀m ∈ cJ s'.tr,(m.kind=1∨m.kind=3)∨m ∈ cJ s.tr:=fun m a=>by
  rw[ht,gI,aO]at a;rcases a with a|a
  ·exact Or.inr a
  ·obtain⟨k,x,n,t,rfl⟩:=aAd a;exact Or.inl (he x (List.mem_of_getElem? n) t)
 have c:∀(k:Nat) (x:Ev),s'.tr[k]?=some x→x.kind=1→(x.msg.kind=2∨x.msg.kind=4)→s.tr[k]?=some x:=fun k x hk n t=>by
  rw[ht]at hk;by_cases r:k<s.tr.length
  ·rwa [bJ r]at hk
  ·rw[bK (by omega)]at hk;have:=he x (List.mem_of_getElem? hk) n;omega
 refine⟨by rw[htb];exact h.lk,by rw[htb];exact h.a0,fun j l=>?_,fun m q=>?_,fun k1 k2 e1 e2 p1 p2 p3 p4 p5 p6 p7 p8=>h.ord k1 k2 e1 e2 (c _ _ p1 p3 (Or.inl p5)) (c _ _ p2 p4 (Or.inr p6)) p3 p4 p5 p6 p7 p8,fun m q q2=>?_,hon,fun b hb=>?_⟩
 ·rw[htb];obtain⟨p,d⟩:=h.av j l;refine⟨?_,fun q=>?_⟩
  ·rw[qQ hx]
   ·exact p
   ·by_cases q:(s.tb j l).acc=0
    ·exact Or.inl q
    ·exact Or.inr (d q).1
  ·rw[hx.ask _ (d q).1];exact d q
 ·rw[htb];rcases a m q with g|g
  ·exact⟨fun q=>by omega,fun q=>by omega,fun q=>by omega⟩
  ·exact h.low m g
 ·rcases a m q with g|g
  ·omega
  ·obtain⟨p,d,v,u⟩:=h.prm m g q2;refine⟨by rw[qQ hx (u.imp id fun x=>x.1)];exact p,d,v,u.imp id fun x=>?_⟩;rw[hx.ask _ x.1];exact x
 ·by_cases q:(s.bl b).asked=true
  ·rw[hx.ask b q];exact(h.ask b q).ext hx
  ·exact hask b hb (by simpa using q)
theorem aJz(f:Cf):I2 f pU:=by
 refine⟨fun _ _=>rfl,fun _ _=>⟨aL _,aL _⟩,fun _ _=>⟨rfl,fun h=>absurd rfl h⟩,fun m hm=>?_,fun k1 k2 e1 e2 h1=>?_,fun m hm=>?_,fun i _ _ o ho=>?_,fun b hb=>?_⟩
 ·cases hm
 ·simp[pU]at h1
 ·cases hm
 ·cases ho
 ·cases hb
structure Still(s s':Sx):Prop where
 bl:s'.bl=s.bl
 tb:s'.tb=s.tb
 op:s'.opx=s.opx
 tr:∃e,s'.tr=s.tr++e∧∀x ∈ e,x.kind≠1∧x.kind≠2
 dg:∀j o,(s'.cl j).doing=some o→(s.cl j).doing=some o
theorem Still.ext{s s':Sx}(h:Still s s'):Ext s s':=Ext.of_bl (by obtain⟨e,he,_⟩:=h.tr;exact⟨e,he⟩) h.bl
theorem pC{s s':Sx}{i:Int}{c:Ct}(hc:s'.cl=upd s.cl i c)(hd:∀o,c.doing=some o→(s.cl i).doing=some o):∀j o,(s'.cl j).doing=some o→(s.cl j).doing=some o:=fun j o ho=>by
 rw[hc]at ho;by_cases q:j=i
 ·rw[q,eJ]at ho;rw[q];exact hd o ho
 ·rwa [eY _ _ q]at ho
theorem Mi.ways{f:Cf}{gd:Bool}{s s':Sx}{P:Sx→Prop}(h0:I0 f s)(hs:Mi f gd s s')(still:∀t,Still s t→P t)
 (began:∀(i k l t:Int),0≤i→i<f.clients→(s.cl i).up=true→(s.cl i).doing=none→1≤k∧k≤4→0≤l∧l≤3→0≤t∧t≤1000→P (gN s i k l t))
 (att:∀(i:Int) (o:On),0≤i→i<f.clients→(s.cl i).up=true→(s.cl i).doing=some o→(s.cl i).round<1000→P (iH f s i o))
 (hear:∀(i:Int) (o:On) (m:Mg),0≤i→i<f.clients→(s.cl i).up=true→(s.cl i).doing=some o→m ∈ cJ s.tr→m.bal=o.att.bal→1≤m.kind→m.kind=o.att.awaited→o.att.ans.contains m.src=false→P (kJ s i o m))
 (prop:∀(i:Int) (o:On),0≤i→i<f.clients→(s.cl i).up=true→(s.cl i).doing=some o→o.att.awaited=2→f.f<o.att.ans.length→(dD f (s.cl i) o o.att.val).res≠5→P (gP f s i o))
 (acc:∀(j:Int) (m:Mg) (e:List Ev),0≤j→j<2*f.f+1→m ∈ cJ s.tr→m.kind=1∨m.kind=3→e=[]∨e=[fI (jH j (s.tb j m.lock) m)]→P (sD s j m e)):P s':=by
 refine hs.elim (P:=P) ?tick ?bump ?began ?att ?endU ?endQ ?hear ?prop ?lose ?ret ?acc ?ev
 case tick=>exact fun i i0 i1 hu hg=>still _ ⟨rfl,rfl,rfl,⟨[],rfl,fun x hx=>(by cases hx)⟩,pC rfl fun o ho=>ho⟩
 case bump=>exact fun i r o i0 i1 hu hd hr hr'=>still _ ⟨rfl,rfl,rfl,⟨[],rfl,fun x hx=>(by cases hx)⟩,pC rfl fun o ho=>ho⟩
 case began=>exact fun i k l t i0 i1 hu hd hk hl ht _ _=>began i k l t i0 i1 hu hd hk hl ht
 case att=>exact fun i o i0 i1 hu hd hr=>att i o i0 i1 hu hd hr
 case endU=>
  exact fun i o res i0 i1 hu hd hr=>still _ ⟨rfl,rfl,rfl,⟨_,rfl,fun x hx=>by
   simp only[lO,List.mem_singleton]at hx;subst hx;exact⟨show(3:Int)≠1 by decide,show(3:Int)≠2 by decide⟩⟩,pC rfl fun p hp=>(by cases hp)⟩
 case endQ=>
  exact fun i o i0 i1 hu hd h4 hq=>still _ ⟨rfl,rfl,rfl,⟨_,rfl,fun x hx=>by
   simp only[lO,List.mem_singleton]at hx;subst hx;exact⟨show(3:Int)≠1 by decide,show(3:Int)≠2 by decide⟩⟩,pC rfl fun p hp=>(by rw[(rI (s.cl i) o o.att.eres o.att.etok o.att.val).2]at hp;cases hp)⟩
 case hear=>exact fun i o m i0 i1 hu hd hm hb hk0 hk ha=>hear i o m i0 i1 hu hd hm hb hk0 hk ha
 case prop=>exact fun i o i0 i1 hu hd h2 hq hr=>prop i o i0 i1 hu hd h2 hq hr
 case lose=>
  exact fun i i0 i1 hu=>still _ ⟨rfl,rfl,rfl,⟨jU (s.cl i),rfl,fun x hx=>by
   unfold jU at hx;rw[if_neg (by rw[hu];decide),List.mem_singleton]at hx;subst hx;exact⟨show(4:Int)≠1 by decide,show(4:Int)≠2 by decide⟩⟩,pC rfl fun p hp=>(by rw[uE hu]at hp;cases hp)⟩
 case ret=>
  exact fun i i0 i1 hu hi=>still _ ⟨rfl,rfl,rfl,⟨fW (s.cl i),rfl,fun x hx=>by
   have e:dW (s.cl i)=0:=by unfold dW;rw[if_neg (by rw[hu];decide),if_neg (by omega)]
   unfold fW at hx;rw[e,if_neg (by decide),List.mem_singleton]at hx;subst hx;exact⟨show(5:Int)≠1 by decide,show(5:Int)≠2 by decide⟩⟩,pC rfl fun p hp=>(by rw[uV hu hi]at hp;exact hp)⟩
 case acc=>exact fun j m e j0 j1 hm hk he=>acc j m e j0 j1 hm hk he
 case ev=>
  exact fun j k j0 hk=>still _ ⟨rfl,rfl,rfl,⟨_,rfl,fun x hx=>by
   rw[List.mem_singleton]at hx;subst hx;exact⟨show k≠1 by omega,show k≠2 by omega⟩⟩,fun _ _ h=>h⟩
theorem I1.unasked{f:Cf}{s:Sx}(h0:I0 f s)(h:I1 f s){i:Int}{o:On}(i0:0≤i)(i1:i<f.clients)(hd:(s.cl i).doing=some o)(h2:o.att.awaited=2):
 o.att.bal≠0∧(s.bl o.att.bal).used=true∧(s.bl o.att.bal).cl=i∧(s.bl o.att.bal).asked=false:=by
 have c:=h.on i i0 i1 o hd;rcases h0.bal i i0 i1 o hd with b|⟨b,d,_⟩
 ·omega
 ·have a:o.att.bal≠0:=by have:=(h0.fr0 _ b).1;omega
  refine⟨a,b,d,?_⟩;cases q:(s.bl o.att.bal).asked with
  |false=>rfl
  |true=>have:=(c.ask a).1 q;omega
theorem aED{f:Cf}(hf:f.clients≤4){s:Sx}(h0:I0 f s)(h:I1 f s){i:Int}{o:On}(i0:0≤i)(i1:i<f.clients)(hu:(s.cl i).up=true):Ext s (iH f s i o):=by
 have c:=h0.new_unused hf i0 i1 hu;have a:∀b,(s.bl b).used=true→b≠(gL (s.cl i)).bal:=fun b hb e=>by rw[e,c]at hb;cases hb
 exact⟨⟨_,rfl⟩,fun b hb=>by
  rw[show(iH f s i o).bl b=s.bl b from eY _ _ (a b hb)];exact⟨hb,rfl,rfl,rfl,rfl,rfl,rfl,rfl⟩,fun b hb=>eY _ _ (a b (h.ask b hb))⟩
theorem aBW{f:Cf}{s:Sx}(h0:I0 f s)(h:I1 f s){i:Int}{o:On}(i0:0≤i)(i1:i<f.clients)(hd:(s.cl i).doing=some o)(h2:o.att.awaited=2):Ext s (gP f s i o):=by
 obtain⟨d,c,g,a⟩:=h.unasked h0 i0 i1 hd h2;refine⟨⟨_,rfl⟩,fun b hb=>?_,fun b hb=>eY _ _ (fun e=>by rw[e,a]at hb;cases hb)⟩;by_cases q:b=o.att.bal
 ·subst q;rw[show(gP f s i o).bl o.att.bal=_ from eJ _ _ _];exact⟨c,rfl,rfl,rfl,rfl,rfl,rfl,rfl⟩
 ·rw[show(gP f s i o).bl b=s.bl b from eY _ _ q];exact⟨hb,rfl,rfl,rfl,rfl,rfl,rfl,rfl⟩
theorem aAp{c:Ct}{o:On}{k b:Int}{v:Vl}{n:Nat}(hk:k=1∨k=3):∀x ∈ fD c o k b v n,x.kind=1→x.msg.kind=1∨x.msg.kind=3:=fun x hx _=>by
 obtain⟨d,_,rfl⟩:=bN.1 hx;exact hk
theorem aCJ{m:Mg}{r:Rw}(hr:r.acc≤r.prom):r.prom≤(fA m r).prom∧r.acc≤(fA m r).acc∧(fA m r).acc≤(fA m r).prom∧(fA m r).lock=r.lock:=by
 unfold fA;split
 ·exact⟨aL _,aL _,hr,rfl⟩
 ·split
  ·exact⟨by show r.prom≤m.bal;omega,aL _,by show r.acc≤m.bal;omega,rfl⟩
  ·exact⟨by show r.prom≤m.bal;omega,by show r.acc≤m.bal;omega,aL _,rfl⟩
theorem aIL{f:Cf}(hf:f.clients≤4)(hff:0≤f.f){gd:Bool}{s s':Sx}(h0:I0 f s)(h1:I1 f s)(h:I2 f s)(hs:Mi f gd s s'):I2 f s':=by
 refine hs.ways (P:=I2 f) h0 ?still ?began ?att ?hear ?prop ?acc
 case still=>
  intro t Y;obtain⟨e,he,hk⟩:=Y.tr;exact h.quiet Y.ext he Y.tb (fun x d y=>absurd y (hk x d).1) (fun i B C o v=>(h.on i B C o (Y.dg i o v)).ext Y.ext) (fun b g hn=>by rw[Y.bl,hn]at g;cases g)
 case began=>
  intro i k l t B C hu E hk T Y;have d:Ext s (gN s i k l t):=Ext.of_bl ⟨_,rfl⟩ rfl;refine h.quiet d (e:=[gJ (s.cl i).num (eH (s.cl i) k l t)]) rfl rfl (fun x d y=>by
   rw[List.mem_singleton]at d;subst d;exact absurd (show(2:Int)=1 from y) (by decide)) (fun j F D o v=>?_) (fun b g hn=>by
   rw[show(gN s i k l t).bl=s.bl from rfl,hn]at g;cases g)
  by_cases q:j=i
  ·subst q;rw[show(gN s j k l t).cl j=dN {s.cl j with doing:=some (eH (s.cl j) k l t)} k l t from eJ _ _ _,(nQ _ k l t).2]at v;cases v;exact⟨List.nodup_nil,fun u=>absurd (show(0:Int)=2 from u) (by decide),fun u=>absurd (show(0:Int)=4 from u) (by decide),fun u=>absurd (show(0:Int)=2 from u) (by decide)⟩
  ·rw[show(gN s i k l t).cl j=s.cl j from eY _ _ q]at v;exact(h.on j F D o v).ext d
 case att=>
  intro i o B C hu E U;have d:=aED (o:=o) hf h0 h1 B C hu;have eB:=(h0.round_bal hf B C).2.2.2;refine h.quiet d (e:=fD (s.cl i) (fB o (s.cl i)) 1 0 zVl (gB f)) rfl rfl (aAp (Or.inl rfl)) (fun j F D p hp=>?_) (fun b g hn=>?_)
  ·by_cases q:j=i
   ·subst q;rw[show(iH f s j o).cl j={s.cl j with round:=(s.cl j).round+1,doing:=some (fB o (s.cl j))}from eJ _ _ _]at hp;cases hp;refine⟨List.nodup_nil,fun _ x d=>(by cases d),fun u=>absurd (show(2:Int)=4 from u) (by decide),fun _=>⟨rfl,?_,Or.inl rfl⟩⟩;show 0<(gL (s.cl j)).bal;omega
   ·rw[show(iH f s i o).cl j=s.cl j from eY _ _ q]at hp;exact(h.on j F D p hp).ext d
  ·by_cases q:b=(gL (s.cl i)).bal
   ·subst q;rw[show(iH f s i o).bl (gL (s.cl i)).bal=_ from eJ _ _ _]at g;cases g
   ·rw[show(iH f s i o).bl b=s.bl b from eY _ _ q,hn]at g;cases g
 case hear=>
  intro i o m B C hu E hm g b4 hk ha;have d:Ext s (kJ s i o m):=Ext.of_bl ⟨[],rfl⟩ rfl;refine h.quiet d (e:=[]) rfl rfl (fun x d=>by cases d) (fun j F D p hp=>?_) (fun b g hn=>by
   rw[show(kJ s i o m).bl=s.bl from rfl,hn]at g;cases g)
  by_cases q:j=i
  ·subst q;rw[show(kJ s j o m).cl j={s.cl j with doing:=some (heardOn o m)}from eJ _ _ _]at hp;cases hp;have v:=h.on j F D o E;have a8:=h1.on j F D o E;obtain⟨k,e,Q,a2,n⟩:=aAd hm;have H:k<s.tr.length:=(aF.1 Q).1;have X:=h1.ms k e Q a2;rw[n]at X;have b3:o.att.awaited=2∨o.att.awaited=4:=by
    rcases h0.bal j F D o E with A|⟨_,_,_,A⟩
    ·omega
    ·exact A
   have a3:o.att.bal≠0:=by
    rcases h0.bal j F D o E with A|⟨A,_⟩
    ·omega
    ·have:=(h0.fr0 _ A).1;omega
   have K:(0≤m.src∧m.src<2*f.f+1)∧(m.kind=4→m.base=0):=by
    rcases X.ca with⟨c,_⟩|⟨c,_⟩|⟨_,c1,c2,_,c3⟩
    ·omega
    ·omega
    ·exact⟨⟨c1,c2⟩,fun q=>(c3 q).2.2⟩
   have G:m.lock=o.lock:=by rw[X.lk,g];exact(a8.lk a3).2.1
   have O:(kJ s j o m).tr=s.tr:=aC _;have b0:m.src ∉ o.att.ans:=fun q=>by
    have:=List.contains_iff_mem.2 q;rw[ha]at this;cases this
   refine⟨?_,fun u x hxm=>?_,fun h4 x hxm=>?_,fun u=>?_⟩
   ·show(o.att.ans++[m.src]).Nodup;exact List.nodup_append.2 ⟨v.nd,(by simp),fun a ha b g e=>by
     rw[List.mem_singleton]at g;subst g;subst e;exact b0 ha⟩
   ·have I:o.att.awaited=2:=u;have L:o.att.base≤(heardOn o m).att.base∧m.base≤(heardOn o m).att.base:=by
     show o.att.base≤(if o.att.base<m.base then m.base else o.att.base)∧m.base≤(if o.att.base<m.base then m.base else o.att.base);split<;>omega
    rcases aO.1 (show x ∈ o.att.ans++[m.src]from hxm)with q|q
    ·exact⟨(v.pr I x q).1,(v.pr I x q).2.mono d L.1 (by rw[O];exact aE _)⟩
    ·rw[List.mem_singleton]at q;subst q;exact⟨K.1,k,e,by rw[O];exact H,d.at_ Q,a2,by rw[n,hk];exact I,by rw[n],by rw[n];exact G,by rw[n];exact g,by rw[n];exact L.2⟩
   ·have a4:o.att.awaited=4:=h4;rcases aO.1 (show x ∈ o.att.ans++[m.src]from hxm)with q|q
    ·exact⟨(v.ac a4 x q).1,(v.ac a4 x q).2.mono d (aL _) (by rw[O];exact aE _)⟩
    ·rw[List.mem_singleton]at q;subst q;exact⟨K.1,k,e,by rw[O];exact H,d.at_ Q,a2,by rw[n,hk];exact a4,by rw[n],by rw[n];exact G,by rw[n];exact g,by rw[n,K.2 (by omega)];exact aL _⟩
   ·have I:o.att.awaited=2:=u;obtain⟨v1,v2,v3⟩:=v.vl I;obtain⟨_,_,_,a5⟩:=h1.unasked h0 F D E I;obtain⟨w1,w2,w3,w4⟩:=h.prm m hm (by omega);have hv:∀b,valB (kJ s j o m) b=valB s b:=fun b=>rfl;show(if o.att.base<m.base then m.val else o.att.val)=valB (kJ s j o m) (if o.att.base<m.base then m.base else o.att.base)∧(if o.att.base<m.base then m.base else o.att.base)<o.att.bal∧((if o.att.base<m.base then m.base else o.att.base)=0∨(s.bl (if o.att.base<m.base then m.base else o.att.base)).asked=true∧(s.bl (if o.att.base<m.base then m.base else o.att.base)).lock=o.lock);rw[hv];by_cases q:o.att.base<m.base
    ·rw[if_pos q,if_pos q];have b2:m.base≠o.att.bal:=fun e=>by
      rcases w4 with w4|w4
      ·omega
      ·rw[e,a5]at w4;cases w4.1
     exact⟨w1,by omega,w4.imp id fun w=>⟨w.1,by rw[w.2];exact G⟩⟩
    ·rw[if_neg q,if_neg q];exact⟨v1,v2,v3⟩
  ·rw[show(kJ s i o m).cl j=s.cl j from eY _ _ q]at hp;exact(h.on j F D p hp).ext d
 case prop=>
  intro i o B C hu E u hq U;have d:=aBW h0 h1 B C E u;obtain⟨a3,b6,b7,a5⟩:=h1.unasked h0 B C E u;have G:=(h1.on i B C o E).lk a3;have v:=h.on i B C o E;obtain⟨v1,v2,v3⟩:=v.vl u;have a9:=(h1.on i B C o E).e0;refine h.quiet d (e:=fD (s.cl i) (eV o (dD f (s.cl i) o o.att.val)) 3 o.att.base (dD f (s.cl i) o o.att.val).next (gB f)) rfl rfl (aAp (Or.inr rfl)) (fun j F D p hp=>?_) (fun b g hn=>?_)
  ·by_cases q:j=i
   ·subst q;rw[show(gP f s j o).cl j={s.cl j with doing:=some (eV o (dD f (s.cl j) o o.att.val))}from eJ _ _ _]at hp;cases hp;exact⟨List.nodup_nil,fun u=>absurd (show(4:Int)=2 from u) (by decide),fun _ x d=>(by cases d),fun u=>absurd (show(4:Int)=2 from u) (by decide)⟩
   ·rw[show(gP f s i o).cl j=s.cl j from eY _ _ q]at hp;exact(h.on j F D p hp).ext d
  ·by_cases q:b=o.att.bal
   ·subst q;rw[show(gP f s i o).bl o.att.bal={s.bl o.att.bal with asked:=true,base:=o.att.base,pv:=o.att.val,val:=(dD f (s.cl i) o o.att.val).next,t1:=s.tr.length}from eJ _ _ _];refine⟨a9,v2,by rw[qQ d (v3.imp id fun x=>x.1)];exact v1,v3.imp id fun x=>?_,o.att.ans,v.nd,hq,fun j hj=>⟨(v.pr u j hj).1,?_⟩⟩
    ·show((gP f s i o).bl o.att.base).asked=true∧((gP f s i o).bl o.att.base).lock=(s.bl o.att.bal).lock∧((gP f s i o).bl o.att.base).t1<s.tr.length;rw[d.ask _ x.1,G.2.1];exact⟨x.1,x.2,(aF.1 ((h1.bg _ (h1.ask _ x.1)).ac x.1)).1⟩
    ·show Said (gP f s i o) 2 j (s.bl o.att.bal).lock o.att.bal o.att.base s.tr.length;rw[G.2.1];exact(v.pr u j hj).2.mono d (aL _) (aE _)
   ·rw[show(gP f s i o).bl b=s.bl b from eY _ _ q,hn]at g;cases g
 case acc=>
  intro j m e F D hm hk he;have d:Ext s (sD s j m e):=Ext.of_bl ⟨e,rfl⟩ rfl;obtain⟨kk,b5,X⟩:=h1.sent hm;obtain⟨r,U⟩:=aJ8 (s.tb j m.lock);rw[U]at he;have Z:=h.a0 j m.lock;have J:=h.av j m.lock;have a6:=h.lk j m.lock;rw[U]at Z J a6;obtain⟨d1,d2,d3,d4⟩:=aCJ (m:=m) Z.2;have b1:=(h0.fr0 _ X.us).1;have R:∀a l,(sD s j m e).tb a l=if a=j∧l=m.lock then fA m r else s.tb a l:=fun a l=>by rw[←U];rfl
  have V:∀b,valB (sD s j m e) b=valB s b:=fun b=>rfl;have W:∀x ∈ cJ (sD s j m e).tr,x ∈ cJ s.tr∨x=jH j r m:=fun x q=>by
   rw[show(sD s j m e).tr=s.tr++e from rfl]at q;rcases he with rfl|rfl
   ·rw[aC]at q;exact Or.inl q
   ·exact(aJB.1 q).imp id fun q=>q.2
  have M:∀(k:Nat) (x:Ev),(sD s j m e).tr[k]?=some x→s.tr[k]?=some x∨(k=s.tr.length∧x=fI (jH j r m)):=fun k x q=>by
   rw[show(sD s j m e).tr=s.tr++e from rfl]at q;by_cases H:k<s.tr.length
   ·rw[bJ H]at q;exact Or.inl q
   ·rw[bK (by omega)]at q;rcases he with rfl|rfl
    ·simp at q
    ·obtain⟨p1,p2⟩:=aF.1 q;simp only[aK]at p1;have h3:k-s.tr.length=0:=by omega
     simp only[h3,List.getElem_cons_zero]at p2;exact Or.inr ⟨by omega,p2.symm⟩
  have a7:(jH j r m).bal=m.bal∧(jH j r m).lock=m.lock∧(jH j r m).src=j∧
   (((jH j r m).kind=5∧(jH j r m).base=r.prom)∨
    ((jH j r m).kind=2∧m.kind=1∧¬m.bal<r.prom∧(jH j r m).base=r.acc∧(jH j r m).val=aJK r∧(fA m r).prom=m.bal)∨
    ((jH j r m).kind=4∧¬m.bal<r.prom∧(fA m r).prom=m.bal∧(fA m r).acc=m.bal)):=by
   refine⟨rfl,rfl,rfl,?_⟩;unfold jH decMsg fA;by_cases A:m.bal<r.prom
   ·rw[if_pos A,if_pos A];exact Or.inl ⟨rfl,rfl⟩
   ·rw[if_neg A,if_neg A];by_cases N:m.kind=1
    ·rw[if_pos N,if_pos N];exact Or.inr (Or.inl ⟨rfl,N,A,rfl,rfl,rfl⟩)
    ·rw[if_neg N,if_neg N];exact Or.inr (Or.inr ⟨rfl,A,rfl,rfl⟩)
  obtain⟨ab,al,a1,ak⟩:=a7;refine⟨fun a l=>?_,fun a l=>?_,fun a l=>?_,fun x q=>?_,fun y S e1 e2 p1 p2 p3 p4 p5 p6 p7 p8=>?_,fun x q N=>?_,fun i B C o v=>(h.on i B C o v).ext d,fun b g=>(h.ask b g).ext d⟩
  ·rw[R];split
   ·rename_i q;rw[d4,a6,q.2]
   ·exact h.lk a l
  ·rw[R];split
   ·exact⟨by omega,d3⟩
   ·exact h.a0 a l
  ·rw[R,V];split
   ·rename_i q;show _∧(_→(s.bl (fA m r).acc).asked=true∧(s.bl (fA m r).acc).lock=l);unfold fA;by_cases A:m.bal<r.prom
    ·rw[if_pos A,q.2];exact J
    ·rw[if_neg A];by_cases N:m.kind=1
     ·rw[if_pos N,q.2];exact J
     ·rw[if_neg N];rcases X.ca with⟨c,_⟩|⟨_,c1,c2,c3⟩|⟨c,_⟩
      ·omega
      ·refine⟨?_,fun _=>⟨c1,by rw[q.2];exact X.lk.symm⟩⟩;show(⟨m.val.own,m.val.tok,m.val.ttl,m.val.seq⟩:Vl)=valB s m.bal;unfold valB;rw[if_neg (by omega)];have:=congrArg Mg.val c3;exact this
      ·omega
   ·show _∧(_→(s.bl (s.tb a l).acc).asked=true∧(s.bl (s.tb a l).acc).lock=l);exact h.av a l
  ·rw[R];rcases W x q with q|q
   ·have T:=h.low x q;split
    ·rename_i q3;rw[q3.1,q3.2,U]at T;obtain⟨l1,l2,l3⟩:=T;exact⟨fun z=>by have:=l1 z;omega,fun z=>by have:=l2 z;omega,fun z=>by have:=l3 z;omega⟩
    ·exact T
   ·subst q;rw[if_pos ⟨a1,al⟩];unfold Low;rw[ab];rcases ak with⟨y,S⟩|⟨y,S,k3,k4,k5,k6⟩|⟨y,S,k3,k4⟩
    ·exact⟨fun z=>by omega,fun _=>by omega,fun z=>by omega⟩
    ·exact⟨fun _=>⟨by omega,by omega⟩,fun z=>by omega,fun z=>by omega⟩
    ·exact⟨fun z=>by omega,fun z=>by omega,fun _=>⟨by omega,by omega⟩⟩
  ·rcases M y e1 p1 with o1|⟨n1,o1⟩<;>rcases M S e2 p2 with o2|⟨n2,o2⟩
   ·exact h.ord y S e1 e2 o1 o2 p3 p4 p5 p6 p7 p8
   ·have H:=(aF.1 o1).1;subst o2;have T:=(h.low _ (aC7 o1 p3)).1 p5;have g1:e1.msg.src=j:=p7.trans a1;have g2:e1.msg.lock=m.lock:=p8.trans al;rw[g1,g2,U]at T;refine⟨fun z=>by omega,fun _=>?_⟩;show e1.msg.bal≤(jH j r m).bal;rw[ab];rcases ak with⟨y,_⟩|⟨y,_⟩|⟨y,S,k3,k4⟩
    ·have:(jH j r m).kind=4:=p6;omega
    ·have:(jH j r m).kind=4:=p6;omega
    ·omega
   ·have H:=(aF.1 o2).1;subst o1;have T:=(h.low _ (aC7 o2 p4)).2.2 p6;have g1:e2.msg.src=j:=p7.symm.trans a1;have g2:e2.msg.lock=m.lock:=p8.symm.trans al;rw[g1,g2,U]at T;refine⟨fun _=>?_,fun z=>by omega⟩;show e2.msg.bal≤(jH j r m).base;rcases ak with⟨y,_⟩|⟨y,S,k3,k4,k5,k6⟩|⟨y,_⟩
    ·have:(jH j r m).kind=2:=p5;omega
    ·omega
    ·have:(jH j r m).kind=2:=p5;omega
   ·exact⟨fun z=>by omega,fun z=>by omega⟩
  ·rw[V];show _∧_∧_∧(_∨(s.bl x.base).asked=true∧(s.bl x.base).lock=x.lock);rcases W x q with q|q
   ·exact h.prm x q N
   ·subst q;rcases ak with⟨y,_⟩|⟨y,S,k3,k4,k5,k6⟩|⟨y,_⟩
    ·omega
    ·rw[k4,k5,ab,al];refine⟨J.1,Z.1,by omega,?_⟩;by_cases z:r.acc=0
     ·exact Or.inl z
     ·exact Or.inr (J.2 z)
    ·omega
def Tch(e:Ev)(c:Int):Prop:=(e.kind=2∧e.node=c)∨(e.kind=3∧e.node=c)∨(e.kind=4∧e.node= -1-c)
def eU(t:List Ev):Nat→Int→Option Nat
 |0,_=>none
 |n+1,c=>match t[n]? with
  |some e=>if e.kind=2∧e.node=c then some n else if(e.kind=3∧e.node=c)∨(e.kind=4∧e.node= -1-c)then none else eU t n c
  |none=>eU t n c
theorem jR(t e:List Ev)(c:Int):∀n,n≤t.length→eU (t++e) n c=eU t n c
 |0,_=>rfl
 |n+1,h=>by
  have ih:=jR t e c n (by omega);unfold eU;rw[bJ (by omega),ih]
theorem tL(t:List Ev)(x:Ev)(c:Int):eU (t++[x]) (t.length+1) c=if x.kind=2∧x.node=c then some t.length else if(x.kind=3∧x.node=c)∨(x.kind=4∧x.node= -1-c)then none else eU t t.length c:=by
 rw[eU];rw[bK (aE _),Nat.sub_self];show(if _ then _ else if _ then _ else eU (t++[x]) t.length c)=_;rw[jR t [x] c t.length (aE _)]
theorem mP(c:Int):∀(e t:List Ev),(∀x ∈ e,¬Tch x c)→eU (t++e) (t++e).length c=eU t t.length c
 |[],t,_=>by rw[aC]
 |x::e,t,h=>by
  have ih:=mP c e (t++[x]) (fun y hy=>h y (by simp[hy]));rw[show t++x::e=(t++[x])++e by simp,ih,aD,aK,tL];have hx:=h x (by simp);unfold Tch at hx;rw[if_neg (fun q=>hx (Or.inl q)),if_neg (fun q=>hx (Or.inr q))]
def Mkd(g:Bg)(b:Int):Prop:=(g.kind=1∧g.val.tok=b)∨(g.kind=3∧g.val.seq=b)
def kZ(s:Sx)(g:Bg)(b x:Int):Prop:=(s.bl x).asked=true∧(s.bl x).op=g.op∧(s.bl x).cl=g.cl∧x<b∧Mkd (s.bl x) x
structure TokG(s:Sx)(cl lock:Int)(op:Nat)(inc T:Int):Prop where
 ask:(s.bl T).asked=true
 cl:(s.bl T).cl=cl
 lk:(s.bl T).lock=lock
 k1:(s.bl T).kind=1
 tk:(s.bl T).val.tok=T
 op:(s.bl T).op<op
 inc:T / 4 % 64=inc
def Fol(s:Sx)(b:Int)(g:Bg)(w:Fw):Prop:=w.next=g.val∧
 ((g.kind=1∧((kZ s g b g.pv.tok∧g.val=g.pv∧w.res=1∧w.own=g.cl+1∧w.tok=g.pv.tok)∨
  ((∀x,kZ s g b x→g.pv.tok<x)∧((g.val=⟨g.cl+1,b,g.ttl,1⟩∧w.res=1∧w.own=g.cl+1∧w.tok=b)∨
   (g.val=g.pv∧g.pv.own≠0∧g.pv.own≠g.cl+1∧w.res=2∧w.own=g.pv.own∧w.tok=g.pv.tok)))))∨
  (g.kind=2∧((g.pv.own=g.cl+1∧TokG s g.cl g.lock g.op (b / 4 % 64) g.pv.tok∧g.val=⟨g.cl+1,g.pv.tok,g.ttl,min (g.pv.seq+1) 2147483647⟩∧w.res=1∧w.own=g.cl+1∧w.tok=g.pv.tok)∨
   (g.val=g.pv∧w.res=3∧w.own=0∧w.tok=0)))∨
  (g.kind=3∧((g.pv.own=g.cl+1∧TokG s g.cl g.lock g.op (b / 4 % 64) g.pv.tok∧g.val=⟨0,g.pv.tok,0,b⟩∧(∀x,kZ s g b x→(s.bl x).val.tok=g.pv.tok)∧w.res=1∧w.own=g.cl+1∧w.tok=g.pv.tok)∨
   (g.val=g.pv∧g.pv.own=0∧kZ s g b g.pv.seq∧w.res=1∧w.own=g.cl+1∧w.tok=g.pv.tok)∨
   (g.val=g.pv∧¬(g.pv.own=0∧kZ s g b g.pv.seq)∧(∀x,kZ s g b x→(s.bl x).val.tok=g.pv.tok)∧w.res=3∧w.own=0∧w.tok=0)))∨
  (g.kind=4∧g.val=g.pv∧w.res=4∧w.own=g.pv.own∧w.tok=g.pv.tok))
structure On3(s:Sx)(i:Int)(o:On):Prop where
 mine:∀x,x ∈ o.mine↔((s.bl x).asked=true∧(s.bl x).op=s.opx i∧(s.bl x).cl=i∧Mkd (s.bl x) x)
 ops:∀x,(s.bl x).used=true→(s.bl x).cl=i→(s.bl x).op=s.opx i→x / 4 % 64=(s.cl i).inc∧x≤o.att.bal
 mt:o.kind=3→∀x ∈ o.mine,(s.bl x).val.tok=(s.cl i).toks o.lock
 ew:o.att.awaited=4→Fol s o.att.bal (s.bl o.att.bal) ⟨(s.bl o.att.bal).val,o.att.eres,o.att.eown,o.att.etok⟩
structure EndI(f:Cf)(s:Sx)(k:Nat)(e:Ev)(j:Nat):Prop where
 ask:(s.bl e.bal).asked=true
 op:(s.bl e.bal).op=j
 cl:(s.bl e.bal).cl=e.node
 kd:(s.bl e.bal).kind=e.okind
 lk:(s.bl e.bal).lock=e.olock
 tt:(s.bl e.bal).ttl=e.ottl
 fo:Fol s e.bal (s.bl e.bal) ⟨(s.bl e.bal).val,e.res,e.own,e.tok⟩
 qu:∃q:List Int,q.Nodup∧f.f<q.length∧∀j ∈ q,(0≤j∧j<2*f.f+1)∧Said s 4 j e.olock e.bal 0 k
structure I3(f:Cf)(s:Sx):Prop where
 dn:∀i,0≤i→i<f.clients→eU s.tr s.tr.length i=(s.cl i).doing.map fun _=>s.opx i
 bg:∀(k:Nat) (e:Ev),s.tr[k]?=some e→e.kind=2→(0≤e.node∧e.node<f.clients)∧eU s.tr k e.node=none
 ac:∀(k:Nat) (e:Ev),s.tr[k]?=some e→e.kind=1→e.msg.kind=3→eU s.tr k e.msg.src=some (s.bl e.msg.bal).op
 en:∀(k:Nat) (e:Ev),s.tr[k]?=some e→e.kind=3→(0≤e.node∧e.node<f.clients)∧∃j,eU s.tr k e.node=some j∧(e.res≤4→EndI f s k e j)
 on:∀i,0≤i→i<f.clients→∀o,(s.cl i).doing=some o→On3 s i o
 tk:∀i,0≤i→i<f.clients→∀l,(s.cl i).toks l≠0→TokG s i l (if(s.cl i).doing.isSome=true then s.opx i else s.tr.length) (s.cl i).inc ((s.cl i).toks l)
 fol:∀b,(s.bl b).asked=true→∃w,Fol s b (s.bl b) w
def aCR(s s':Sx):Prop:=∀x,(s'.bl x).asked=true→(s.bl x).asked=true∨∀b,(s.bl b).used=true→(s.bl b).cl=(s'.bl x).cl→(s.bl b).op=(s'.bl x).op→b≤x
theorem TokG.ext{s s':Sx}(h:Ext s s'){cl lock inc T:Int}{op op':Nat}(q:TokG s cl lock op inc T)(ho:op≤op'):TokG s' cl lock op' inc T:=by
 have e:=h.ask _ q.ask;exact⟨by rw[e];exact q.ask,by rw[e];exact q.cl,by rw[e];exact q.lk,by rw[e];exact q.k1,by rw[e];exact q.tk,by rw[e];exact aG q.op ho,q.inc⟩
theorem aGd{s s':Sx}(h:Ext s s')(hl:aCR s s'){b x:Int}(hb:(s.bl b).asked=true)(hu:(s.bl b).used=true):kZ s' (s.bl b) b x↔kZ s (s.bl b) b x:=by
 constructor
 ·rintro⟨d,c,a,f,e⟩;rcases hl x d with q|q
  ·rw[h.ask _ q]at c a e;exact⟨q,c,a,f,e⟩
  ·have:=q b hu a.symm c.symm;omega
 ·rintro⟨d,c,a,f,e⟩;unfold kZ;rw[h.ask _ d];exact⟨d,c,a,f,e⟩
theorem Fol.ext{s s':Sx}(h:Ext s s')(hl:aCR s s'){b:Int}(hb:(s.bl b).asked=true)(hu:(s.bl b).used=true){w:Fw}(q:Fol s b (s.bl b) w):Fol s' b (s'.bl b) w:=by
 have f:=fun x=>aGd h hl (x:=x) hb hu;rw[h.ask _ hb];refine⟨q.1,?_⟩;rcases q.2 with⟨k,q⟩|⟨k,q⟩|⟨k,q⟩|q
 ·refine Or.inl ⟨k,?_⟩;rcases q with⟨a,c⟩|⟨a,c⟩
  ·exact Or.inl ⟨(f _).2 a,c⟩
  ·exact Or.inr ⟨fun x hx=>a x ((f x).1 hx),c⟩
 ·refine Or.inr (Or.inl ⟨k,?_⟩);exact q.imp (fun ⟨a,c,e⟩=>⟨a,c.ext h (aE _),e⟩) id
 ·refine Or.inr (Or.inr (Or.inl ⟨k,?_⟩));rcases q with⟨a,c,e⟩|⟨a,c,e,g⟩|⟨a,c,e,g⟩
  ·refine Or.inl ⟨a,c.ext h (aE _),e.1,fun x hx=>?_,e.2.2⟩;have d:=(f x).1 hx;rw[h.ask _ d.1];exact e.2.1 x d
  ·exact Or.inr (Or.inl ⟨a,c,(f _).2 e,g⟩)
  ·refine Or.inr (Or.inr ⟨a,fun z=>c ⟨z.1,(f _).1 z.2⟩,fun x hx=>?_,g⟩);have d:=(f x).1 hx;rw[h.ask _ d.1];exact e x d
 ·exact Or.inr (Or.inr (Or.inr q))
theorem EndI.ext{f:Cf}{s s':Sx}(h:Ext s s')(hl:aCR s s'){k:Nat}{e:Ev}{j:Nat}(hu:(s.bl e.bal).used=true)(q:EndI f s k e j):EndI f s' k e j:=by
 have a:=h.ask _ q.ask;refine⟨by rw[a];exact q.ask,by rw[a];exact q.op,by rw[a];exact q.cl,by rw[a];exact q.kd,by rw[a];exact q.lk,by rw[a];exact q.tt,?_,?_⟩
 ·have:=q.fo.ext h hl q.ask hu;rw[a]at this⊢;exact this
 ·obtain⟨l,c,d,b⟩:=q.qu;exact⟨l,c,d,fun x hx=>⟨(b x hx).1,(b x hx).2.mono h (aL _) (aE _)⟩⟩
theorem xW{s s':Sx}(h:s'.bl=s.bl):aCR s s':=fun x hx=>Or.inl (by rwa [h]at hx)
theorem I3.go{f:Cf}{s s':Sx}(h1:I1 f s)(h:I3 f s)(hx:Ext s s')(hl:aCR s s'){e:List Ev}(ht:s'.tr=s.tr++e)
 (hdn:∀i,0≤i→i<f.clients→eU s'.tr s'.tr.length i=(s'.cl i).doing.map fun _=>s'.opx i)
 (hev:∀(k:Nat) (x:Ev),s'.tr[k]?=some x→s.tr.length≤k→x ∈ e→
  (x.kind=2→(0≤x.node∧x.node<f.clients)∧eU s'.tr k x.node=none)∧
  (x.kind=1→x.msg.kind=3→eU s'.tr k x.msg.src=some (s'.bl x.msg.bal).op)∧
  (x.kind=3→(0≤x.node∧x.node<f.clients)∧∃j,eU s'.tr k x.node=some j∧(x.res≤4→EndI f s' k x j)))
 (hon:∀i,0≤i→i<f.clients→∀o,(s'.cl i).doing=some o→On3 s' i o)
 (htk:∀i,0≤i→i<f.clients→∀l,(s'.cl i).toks l≠0→TokG s' i l (if(s'.cl i).doing.isSome=true then s'.opx i else s'.tr.length) (s'.cl i).inc ((s'.cl i).toks l))
 (hfol:∀b,(s'.bl b).asked=true→(s.bl b).asked=false→∃w,Fol s' b (s'.bl b) w):I3 f s':=by
 have g:∀(k:Nat) (x:Ev),s'.tr[k]?=some x→(s.tr[k]?=some x∧k<s.tr.length∧∀c,eU s'.tr k c=eU s.tr k c)∨(s.tr.length≤k∧x ∈ e):=fun k x hk=>by
  have y:=hk;rw[ht]at hk;by_cases p:k<s.tr.length
  ·rw[bJ p]at hk;exact Or.inl ⟨hk,p,fun c=>by rw[ht];exact jR _ _ _ _ (by omega)⟩
  ·rw[bK (by omega)]at hk;exact Or.inr ⟨by omega,List.mem_of_getElem? hk⟩
 refine⟨hdn,fun k x hk h2=>?_,fun k x hk q1 q3=>?_,fun k x hk q3=>?_,hon,htk,fun b hb=>?_⟩
 ·rcases g k x hk with⟨a,m,n⟩|⟨a,m⟩
  ·rw[n];exact h.bg k x a h2
  ·exact(hev k x hk a m).1 h2
 ·rcases g k x hk with⟨a,m,n⟩|⟨a,m⟩
  ·rw[n,h.ac k x a q1 q3];have u:=h1.ms k x a q1;rw[(hx.us _ u.us).2.1]
  ·exact(hev k x hk a m).2.1 q1 q3
 ·rcases g k x hk with⟨a,m,n⟩|⟨a,m⟩
  ·obtain⟨v,j,d,w⟩:=h.en k x a q3;exact⟨v,j,by rw[n];exact d,fun r=>(w r).ext hx hl (h1.ask _ (w r).ask)⟩
  ·exact(hev k x hk a m).2.2 q3
 ·by_cases q:(s.bl b).asked=true
  ·obtain⟨w,t⟩:=h.fol b q;exact⟨w,t.ext hx hl q (h1.ask b q)⟩
  ·exact hfol b hb (by simpa using q)
theorem aJo(f:Cf):I3 f pU:=by
 refine⟨fun i _ _=>rfl,fun k e hk=>?_,fun k e hk=>?_,fun k e hk=>?_,fun i _ _ o ho=>?_,fun i _ _ l hl=>absurd rfl hl,fun b hb=>?_⟩
 ·simp[pU]at hk
 ·simp[pU]at hk
 ·simp[pU]at hk
 ·cases ho
 ·cases hb
end Go.Proofs.YtbbdgokdfhdpiaaGreatDoor
