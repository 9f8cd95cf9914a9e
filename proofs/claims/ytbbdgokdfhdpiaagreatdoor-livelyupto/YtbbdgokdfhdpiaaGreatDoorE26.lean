/- A part of the proof: SafMo. -/
import Derived.Test.YtbbdgokdfhdpiaaGreatDoorE11
import Derived.Test.YtbbdgokdfhdpiaaGreatDoorE24
namespace Go.Proofs.YtbbdgokdfhdpiaaGreatDoor
set_option linter.all false
set_option maxRecDepth 100000
set_option maxHeartbeats 40000000
open Go.Proofs.Tryz Go.RowKit
def MiS(f:Cf)(gd:Bool)(s s':Sx):Prop:=∀P:Sx→Prop,P s→(∀t t',P t→Mi f gd t t'→P t')→P s'
section
variable {f:Cf} {gd:Bool}
theorem MiS.refl(s:Sx):MiS f gd s s:=fun _ h _=>h
theorem MiS.step{s s' s'':Sx}(h:MiS f gd s s')(h':Mi f gd s' s''):MiS f gd s s'':=fun P a b=>b s' s'' (h P a b) h'
theorem MiS.one{s s':Sx}(h:Mi f gd s s'):MiS f gd s s':=.step (.refl s) h
theorem MiS.trans{s s' s'':Sx}(h:MiS f gd s s')(k:MiS f gd s' s''):MiS f gd s s'':=k _ h fun _ _ a b=>a.step b
theorem MiS.reach{s s':Sx}(h:MiR f gd s)(k:MiS f gd s s'):MiR f gd s':=k _ h fun _ _ a b=>a.step b
end
theorem MiR.inv{f:Cf}(hf:f.clients≤4)(hff:0≤f.f){gd:Bool}{s:Sx}(h:MiR f gd s):I0 f s∧I1 f s:=
 h.ind (P:=fun s=>I0 f s∧I1 f s) ⟨aGd f,aFE f⟩ (fun s s' _ hi hs=>⟨aDB hf hi.1 hs,aDu hf hff hi.1 hi.2 hs⟩)
structure CGo(f:Cf)(gd:Bool)(s:Sx)(i:Int)(c:Ct)(e:List Ev)(s':Sx):Prop where
 st:MiS f gd s s'
 cl:s'.cl=upd s.cl i c
 tb:s'.tb=s.tb
 tr:s'.tr=s.tr++e
theorem aCX{α:Type}(g:Int→α)(k:Int)(a b:α):upd (upd g k a) k b=upd g k b:=by
 funext z;unfold upd;split<;>rfl
theorem aEM{α:Type}(g:Int→α)(k:Int):upd g k (g k)=g:=by
 funext z;unfold upd;split
 ·rename_i e;rw[e]
 ·rfl
theorem CGo.refl(f:Cf)(gd:Bool)(s:Sx)(i:Int):CGo f gd s i (s.cl i) [] s:=⟨.refl s,(aEM _ _).symm,rfl,(aC _).symm⟩
theorem CGo.trans{f:Cf}{gd:Bool}{s s' s'':Sx}{i:Int}{c c':Ct}{e e':List Ev}(h:CGo f gd s i c e s')(k:CGo f gd s' i c' e' s''):CGo f gd s i c' (e++e') s'':=
 ⟨h.st.trans k.st,by rw[k.cl,h.cl,aCX],k.tb.trans h.tb,by rw[k.tr,h.tr,aS]⟩
theorem CGo.at_{f:Cf}{gd:Bool}{s s':Sx}{i:Int}{c:Ct}{e:List Ev}(h:CGo f gd s i c e s'):s'.cl i=c:=by rw[h.cl,eW]
section
variable {g:Cf} {c:Ct}
theorem aGa(hu:c.up=true):kT g c=match c.doing with
 |some o=>if g.patience≤c.clock+1-o.att.began then jL g {c with clock:=c.clock+1} o else{c with clock:=c.clock+1}
 |none=>{c with clock:=c.clock+1}:=by
 unfold kT;rw[if_neg (by rw[hu];decide)]
 rfl
theorem aE1(hu:c.up=true):lA g c=match c.doing with
 |some o=>if g.patience≤c.clock+1-o.att.began then jF g {c with clock:=c.clock+1} o else[]
 |none=>[]:=by
 unfold lA;rw[if_neg (by rw[hu];decide)]
 rfl
theorem aDV(hu:c.up=true)(m:Mg):fI g c m=match c.doing with
 |none=>c
 |some o=>if m.bal≠o.att.bal then c else if m.kind=5 then jL g {c with round:=max c.round (m.base / 256)} o else if m.kind=o.att.awaited then iS g c o m else c:=by
 unfold fI;rw[if_neg (by rw[hu];decide)]
 rfl
theorem aEw(hu:c.up=true)(m:Mg):fE g c m=match c.doing with
 |none=>[]
 |some o=>if m.bal≠o.att.bal then[]else if m.kind=5 then jF g {c with round:=max c.round (m.base / 256)} o else if m.kind=o.att.awaited then iW g c o m else[]:=by
 unfold fE;rw[if_neg (by rw[hu];decide)]
 rfl
end
section
variable {f:Cf}{gd:Bool}{s:Sx}{i:Int}
theorem aAL(h0:0≤i)(h1:i<f.clients)(hu:(s.cl i).up=true){o:On}(hd:(s.cl i).doing=some o){res:Int}(hr:res=5∨res=6)(tok:Int)(v:Vl):
 ∃s',CGo f gd s i (fT (s.cl i) o res tok v) (kX (s.cl i) o res 0 0) s'∧s'.ah=s.ah:=by
 refine⟨tN s i o res,⟨.one (.endU s i o res h0 h1 hu hd hr),?_,rfl,rfl⟩,rfl⟩;have e:fT (s.cl i) o res tok v={s.cl i with doing:=none}:=by
  unfold fT;dsimp only;rw[if_neg (by omega),if_neg (by omega),if_neg (by omega)]
 rw[e];rfl
theorem yN(h0:0≤i)(h1:i<f.clients)(hu:(s.cl i).up=true){o:On}(hd:(s.cl i).doing=some o):
 ∃s',CGo f gd s i (gG (s.cl i) o) (fH f (s.cl i) o) s'∧s'.ah=s.ah:=by
 unfold gG fH;by_cases a:1000≤(s.cl i).round
 ·rw[if_pos a,if_pos a];exact aAL h0 h1 hu hd (Or.inr rfl) 0 zVl
 ·rw[if_neg a,if_neg a];exact⟨iP f s i o,⟨.one (.att s i o h0 h1 hu hd (by omega)),rfl,rfl,rfl⟩,rfl⟩
theorem aBk(h0:0≤i)(h1:i<f.clients)(hu:(s.cl i).up=true){o:On}(hd:(s.cl i).doing=some o):
 ∃s',CGo f gd s i (jL f (s.cl i) o) (jF f (s.cl i) o) s'∧s'.ah=s.ah:=by
 unfold jL jF;split
 ·exact yN h0 h1 hu hd
 ·exact aAL h0 h1 hu hd (Or.inl rfl) 0 zVl
theorem aFs(h0:0≤i)(h1:i<f.clients){k l t:Int}(hk:1≤k∧k≤4)(hl:0≤l∧l≤3)(ht:0≤t∧t≤1000)(ht1:k≤2→1≤t)(ht2:2<k→t=0):
 ∃s',CGo f gd s i (iN (s.cl i) k l t) (iB f (s.cl i) k l t) s'∧s'.ah=s.ah:=by
 unfold iN iB;by_cases c:jX (s.cl i)≠0
 ·rw[if_pos c,if_pos c];exact⟨s,CGo.refl f gd s i,rfl⟩
 ·rw[if_neg c,if_neg c];have a:jX (s.cl i)=0:=aH c;have b:(s.cl i).up=true∧(s.cl i).doing=none:=by
   unfold jX at a;cases hu:(s.cl i).up with
   |false=>rw[hu]at a;simp at a
   |true=>
    cases hb:(s.cl i).doing with
    |none=>exact⟨rfl,rfl⟩
    |some o=>rw[hu,hb]at a;simp at a
  have d:CGo f gd s i (dJ {s.cl i with doing:=some (dT (s.cl i) k l t)} k l t) [gW (s.cl i).num (dT (s.cl i) k l t)] (gQ s i k l t):=
   ⟨.one (.began s i k l t h0 h1 b.1 b.2 hk hl ht ht1 ht2),rfl,rfl,rfl⟩
  obtain⟨m,h⟩:=mY {s.cl i with doing:=some (dT (s.cl i) k l t)} k l t;have e:=d.at_;obtain⟨s',g,j⟩:=yN (gd:=gd) (s:=gQ s i k l t) (o:=dT (s.cl i) k l t) h0 h1 (by rw[e,m.up];exact b.1) (by rw[e,h]);rw[e]at g;exact⟨s',d.trans g,j⟩
theorem aGE(h0:0≤i)(h1:i<f.clients)(hg:(s.cl i).up=true→gd=true→aAj f s i):
 ∃s',CGo f gd s i (kT f (s.cl i)) (lA f (s.cl i)) s'∧s'.ah=if(s.cl i).up=true then aAu f s.ah i else s.ah:=by
 by_cases b:(s.cl i).up=true
 ·rw[aGa b,aE1 b,if_pos b];have a:CGo f gd s i {s.cl i with clock:=(s.cl i).clock+1} [] (tE f s i):=⟨.one (.tick s i h0 h1 b (hg b)),rfl,rfl,rfl⟩;have e:=a.at_;split
  ·rename_i o g;split
   ·obtain⟨s',d,j⟩:=aBk (gd:=gd) (s:=tE f s i) (o:=o) h0 h1 (by rw[e];exact b) (by rw[e];exact g);rw[e]at d;exact⟨s',a.trans d,j⟩
   ·exact⟨_,a,rfl⟩
  ·exact⟨_,a,rfl⟩
 ·rw[if_neg b];have c:(s.cl i).up=false:=by simpa using b
  have h:kT f (s.cl i)=s.cl i:=by unfold kT;rw[if_pos c]
  have k:lA f (s.cl i)=[]:=by unfold lA;rw[if_pos c]
  rw[h,k];exact⟨s,CGo.refl f gd s i,rfl⟩
theorem aF4(c:Ct)(o:On)(v:Vl)(h:(cU f c o v).res=5):(cU f c o v).own=0∧(cU f c o v).tok=0:=by
 unfold cU gR kQ gN at h⊢
 repeat' split at h
 all_goals first
  |(exfalso;exact absurd h (by decide))
  |skip
 all_goals(repeat' split)
 all_goals first
  |exact⟨rfl,rfl⟩
  |(exfalso;simp_all)
theorem aCM(h0:0≤i)(h1:i<f.clients)(hu:(s.cl i).up=true){o:On}(hd:(s.cl i).doing=some o)(h2:o.att.awaited=2)(hq:f.f<o.att.ans.length):
 ∃s',CGo f gd s i (hP f (s.cl i) o) (gT f (s.cl i) o) s'∧s'.ah=s.ah:=by
 unfold hP gT;dsimp only;by_cases a:(cU f (s.cl i) o o.att.val).res=5
 ·obtain⟨c,b⟩:=aF4 _ _ _ a;rw[if_pos a,if_pos a,a,c,b];exact aAL h0 h1 hu hd (Or.inl rfl) 0 o.att.val
 ·rw[if_neg a,if_neg a];exact⟨iI f s i o,⟨.one (.prop s i o h0 h1 hu hd h2 hq a),rfl,rfl,rfl⟩,rfl⟩
theorem aF9(hi0:I0 f s)(h0:0≤i)(h1:i<f.clients)(hu:(s.cl i).up=true){o:On}(hd:(s.cl i).doing=some o){m:Mg}(hm:m ∈ cH s.tr)(hb:m.bal=o.att.bal)(hk0:1≤m.kind)(hk:m.kind=o.att.awaited):
 ∃s',CGo f gd s i (iS f (s.cl i) o m) (iW f (s.cl i) o m) s'∧s'.ah=s.ah:=by
 unfold iS iW;by_cases c:o.att.ans.contains m.src=true
 ·rw[if_pos c,if_pos c];exact⟨s,CGo.refl f gd s i,rfl⟩
 ·rw[if_neg c,if_neg c];dsimp only;have b:CGo f gd s i {s.cl i with doing:=some (heardOn o m)} [] (kE s i o m):=⟨.one (.hear s i o m h0 h1 hu hd hm hb hk0 hk (by simpa using c)),rfl,rfl,rfl⟩;have e:=b.at_;by_cases d:((heardOn o m).att.ans.length:Int)≤f.f
  ·rw[if_pos d,if_pos d];exact⟨_,b,rfl⟩
  ·rw[if_neg d,if_neg d];by_cases g:m.kind=2
   ·rw[if_pos g,if_pos g];obtain⟨s',a,h⟩:=aCM (gd:=gd) (s:=kE s i o m) (o:=heardOn o m) h0 h1 (by rw[e];exact hu) (by rw[e]) (by show o.att.awaited=2;omega) (by omega);rw[e]at a;exact⟨s',b.trans a,h⟩
   ·rw[if_neg g,if_neg g];have j:o.att.awaited=4:=by
     rcases hi0.bal i h0 h1 o hd with⟨_,q,_⟩|⟨_,_,_,q⟩<;>omega
    have a:CGo f gd (kE s i o m) i (fT ((kE s i o m).cl i) (heardOn o m) (heardOn o m).att.eres (heardOn o m).att.etok (heardOn o m).att.val) (kX ((kE s i o m).cl i) (heardOn o m) (heardOn o m).att.eres (heardOn o m).att.eown (heardOn o m).att.etok) (pO (kE s i o m) i (heardOn o m)):=
     ⟨.one (.endQ _ i (heardOn o m) h0 h1 (by rw[e];exact hu) (by rw[e]) j (by omega)),rfl,rfl,rfl⟩
    rw[e]at a;have k:fT {s.cl i with doing:=some (heardOn o m)} (heardOn o m) (heardOn o m).att.eres (heardOn o m).att.etok (heardOn o m).att.val=fT (s.cl i) (heardOn o m) (heardOn o m).att.eres (heardOn o m).att.etok (heardOn o m).att.val:=rfl;rw[k]at a;exact⟨_,b.trans a,rfl⟩
theorem aGr(hi0:I0 f s)(h0:0≤i)(h1:i<f.clients){m:Mg}(hm:m ∈ cH s.tr)(hmo:MOk f m):
 ∃s',CGo f gd s i (fI f (s.cl i) m) (fE f (s.cl i) m) s'∧s'.ah=s.ah:=by
 by_cases a:(s.cl i).up=true
 ·rw[aDV a,aEw a];split
  ·exact⟨s,CGo.refl f gd s i,rfl⟩
  ·rename_i o k;by_cases c:m.bal=o.att.bal
   ·rw[if_neg (fun e:m.bal≠o.att.bal=>e c),if_neg (fun e:m.bal≠o.att.bal=>e c)];by_cases j:m.kind=5
    ·rw[if_pos j,if_pos j];have p:max (s.cl i).round (m.base / 256)≤1000:=by have:=hi0.rnd1 i h0 h1;have:=hmo.e2;omega
     have g:CGo f gd s i {s.cl i with round:=max (s.cl i).round (m.base / 256)} [] (tI s i (max (s.cl i).round (m.base / 256))):=⟨.one (.bump s i _ o h0 h1 a k (by omega) p),rfl,rfl,rfl⟩;have e:=g.at_;obtain⟨s',h,n⟩:=aBk (gd:=gd) (s:=tI s i (max (s.cl i).round (m.base / 256))) (o:=o) h0 h1 (by rw[e];exact a) (by rw[e];exact k);rw[e]at h;exact⟨s',g.trans h,n⟩
    ·rw[if_neg j,if_neg j];by_cases b:m.kind=o.att.awaited
     ·rw[if_pos b,if_pos b];exact aF9 (gd:=gd) hi0 h0 h1 a k hm c hmo.k1 b
     ·rw[if_neg b,if_neg b];exact⟨s,CGo.refl f gd s i,rfl⟩
   ·rw[if_pos c,if_pos c];exact⟨s,CGo.refl f gd s i,rfl⟩
 ·have d:(s.cl i).up=false:=by simpa using a
  have l:fI f (s.cl i) m=s.cl i:=by unfold fI;rw[if_pos d]
  have q:fE f (s.cl i) m=[]:=by unfold fE;rw[if_pos d]
  rw[l,q];exact⟨s,CGo.refl f gd s i,rfl⟩
theorem aGZ(h0:0≤i)(h1:i<f.clients):∃s',CGo f gd s i (lY (s.cl i)) (lO (s.cl i)) s'∧s'.ah=if(s.cl i).up=true then iM s.ah i else s.ah:=by
 cases hu:(s.cl i).up with
 |false=>
  have b:lY (s.cl i)=s.cl i:=by unfold lY;rw[if_pos hu]
  have a:lO (s.cl i)=[]:=by unfold lO;rw[if_pos hu]
  rw[b,a,if_neg (by decide)];exact⟨s,CGo.refl f gd s i,rfl⟩
 |true=>
  rw[if_pos rfl];exact⟨rG s i,⟨.one (.lose s i h0 h1 hu),rfl,rfl,rfl⟩,rfl⟩
theorem aD4(hi:(s.cl i).inc≤63)(h0:0≤i)(h1:i<f.clients):∃s',CGo f gd s i (iQ (s.cl i)) (iE (s.cl i)) s'∧s'.ah=if eK (s.cl i)=0 then iM s.ah i else s.ah:=by
 by_cases a:eK (s.cl i)=0
 ·rw[if_pos a];have b:(s.cl i).up=false∧(s.cl i).inc<63:=by
   unfold eK at a;cases hu:(s.cl i).up with
   |true=>rw[hu]at a;simp at a
   |false=>
    rw[hu]at a;simp only[aU,if_false]at a;split at a
    ·omega
    ·exact⟨rfl,by omega⟩
  exact⟨tA s i,⟨.one (.ret s i h0 h1 b.1 b.2),rfl,rfl,rfl⟩,rfl⟩
 ·rw[if_neg a];have d:iQ (s.cl i)=s.cl i:=by unfold iQ;rw[if_pos a]
  have c:iE (s.cl i)=[]:=by unfold iE;rw[if_pos a]
  rw[d,c];exact⟨s,CGo.refl f gd s i,rfl⟩
end
structure Abs(x:Mo)(s:Sx):Prop where
 cls:∀i (h:i<x.cls.length),s.cl i=x.cls[i]
 tb:∀j (h:j<x.acs.length) l,0≤l→s.tb j l=eZ x.acs[j] l
 tr:s.tr=x.tr
 net:∀m ∈ x.net,m ∈ cH x.tr
theorem aGt(f:Cf):Abs (kV f) qX:=by
 refine⟨fun i hi=>?_,fun j hj l l0=>?_,rfl,fun m hm=>(by cases hm)⟩
 ·simp[kV,qX]
 ·have:(kV f).acs[j]=qW f j:=by simp[kV]
  rw[this]
  rfl
section
variable {f:Cf}{gd:Bool}{x:Mo}{s s':Sx}{N:Int}
theorem Abs.client(h:Abs x s){i:Int}(hi:dH i x.cls.length=true){c:Ct}{e:List Ev}{y:Mo}(hy:y.cls=x.cls∧y.acs=x.acs∧y.tr=x.tr∧∀m ∈ y.net,m ∈ x.net)(hg:CGo f gd s i c e s'):Abs (fW y i c e) s':=by
 obtain⟨q,p⟩:=(cV _ _).1 hi;obtain⟨k,n,g,o⟩:=hy;refine⟨fun j hj=>?_,fun j hj l l0=>?_,?_,fun m b=>?_⟩
 ·have a:j<x.cls.length:=by rw[←k];simpa[fW]using hj
  rw[hg.cl];unfold upd;by_cases e:(j:Int)=i
  ·rw[if_pos e];have:j=i.toNat:=by omega
   subst this;simp[fW]
  ·rw[if_neg e];have d:i.toNat≠j:=by omega
   simp only[fW,List.getElem_set_ne d];have:=h.cls j a;simp only[k];exact this
 ·rw[hg.tb];have a:j<x.acs.length:=by rw[←n];exact hj
  have:=h.tb j a l l0;simp only[fW,n];exact this
 ·rw[hg.tr,h.tr];show _=y.tr++e;rw[g]
 ·show m ∈ cH (y.tr++e);rw[gL,g];rcases aO.1 (show m ∈ y.net++cH e from b)with b|b
  ·exact List.mem_append_left _ (h.net m (o m b))
  ·exact List.mem_append_right _ b
theorem Abs.clAt(h:Abs x s){i:Int}(hi:dH i x.cls.length=true):s.cl i=clM x i:=by
 obtain⟨c,b⟩:=(cV _ _).1 hi;obtain⟨a,e⟩:=nO hi;rw[e,←h.cls _ a]
 congr 1
 omega
theorem Abs.acAt(h:Abs x s){i:Int}(hi:dH i x.acs.length=true){l:Int}(l0:0≤l):s.tb i l=eZ (acM x i) l:=by
 obtain⟨c,b⟩:=(cV _ _).1 hi;obtain⟨a,e⟩:=oY hi;rw[e,←h.tb _ a l l0]
 congr 1
 omega
theorem Abs.acceptor(h:Abs x s){i:Int}(hi:dH i x.acs.length=true){a:Ac}{e:List Ev}{y:Mo}(hy:y.cls=x.cls∧y.acs=x.acs∧y.tr=x.tr∧∀m ∈ y.net,m ∈ x.net)(hcl:s'.cl=s.cl)(htr:s'.tr=s.tr++e)
 (htb:∀j l,0≤l→s'.tb j l=if j=i then eZ a l else s.tb j l):Abs (iX y i a e) s':=by
 obtain⟨p,o⟩:=(cV _ _).1 hi;obtain⟨g,k,f,n⟩:=hy;refine⟨fun j hj=>?_,fun j hj l l0=>?_,?_,fun m c=>?_⟩
 ·rw[hcl];have b:j<x.cls.length:=by rw[←g];exact hj
  have:=h.cls j b;simp only[iX,g];exact this
 ·have b:j<x.acs.length:=by rw[←k];simpa[iX]using hj
  rw[htb _ _ l0];by_cases e:(j:Int)=i
  ·rw[if_pos e];have:j=i.toNat:=by omega
   subst this;simp[iX]
  ·rw[if_neg e];have d:i.toNat≠j:=by omega
   simp only[iX,List.getElem_set_ne d];have:=h.tb j b l l0;simp only[k];exact this
 ·rw[htr,h.tr];show _=y.tr++e;rw[f]
 ·show m ∈ cH (y.tr++e);rw[gL,f];rcases aO.1 (show m ∈ y.net++cH e from c)with c|c
  ·exact List.mem_append_left _ (h.net m (n m c))
  ·exact List.mem_append_right _ c
theorem lM(x:Mo):x.cls=x.cls∧x.acs=x.acs∧x.tr=x.tr∧∀m ∈ x.net,m ∈ x.net:=⟨rfl,rfl,rfl,fun _ h=>h⟩
theorem qQ(x:Mo)(i:Int):(eL x i).cls=x.cls∧(eL x i).acs=x.acs∧(eL x i).tr=x.tr∧∀m ∈ (eL x i).net,m ∈ x.net:=by
 unfold eL;split
 ·exact⟨rfl,rfl,rfl,fun m hm=>List.mem_of_mem_eraseIdx hm⟩
 ·exact lM x
theorem tK(hx:MoOk N x){i:Int}(hi:dH i x.cls.length=true):0≤i∧i<x.cf.clients:=by
 obtain⟨a,b⟩:=(cV _ _).1 hi;have:=hx.nc;exact⟨a,by omega⟩
theorem aDv(hx:MoOk N x){i:Int}(hi:dH i x.acs.length=true):0≤i∧i<2*x.cf.f+1:=by
 obtain⟨a,b⟩:=(cV _ _).1 hi;have:=hx.na;unfold dI at this;exact⟨a,by omega⟩
theorem aDO(hx:MoOk N x)(h:Abs x s)(i k l t:Int):∃s',MiS x.cf gd s s'∧Abs (eY x i k l t) s'∧s'.ah=s.ah:=by
 unfold eY;by_cases c:jW x i k l t=true
 ·rw[if_pos c];exact⟨s,.refl s,h,rfl⟩
 ·rw[if_neg c];have j:dH i x.cls.length=true∧(1≤k∧k≤4)∧(0≤l∧l≤3)∧(k≤2→1≤t∧t≤1000):=by
   simp only[jW,Bool.or_eq_true,Bool.not_eq_true',aR,aM,decide_eq_false_iff_not,not_or,not_and,Bool.not_eq_false]at c;obtain⟨⟨⟨u,p⟩,w⟩,q⟩:=c;refine⟨u,?_,?_,fun d=>?_⟩
   ·exact aH fun hh=>p (by omega)
   ·exact aH fun hh=>w (by omega)
   ·exact aH fun hh=>q d (by omega)
  obtain⟨g,d,o,v⟩:=j;obtain⟨m,n⟩:=tK hx g;have b:(0≤rX k t∧rX k t≤1000)∧(k≤2→1≤rX k t)∧(2<k→rX k t=0):=by
   unfold rX;by_cases a:k≤2
   ·rw[if_pos a];have:=v a;omega
   ·rw[if_neg a];omega
  obtain⟨s',e,r⟩:=aFs (f:=x.cf) (gd:=gd) (s:=s) m n d o b.1 b.2.1 b.2.2;rw[h.clAt g]at e;exact⟨s',e.st,h.client g (lM x) e,r⟩
theorem aFS(hx:MoOk N x)(h:Abs x s)(i:Int)(hg:dH i x.cls.length=true→(clM x i).up=true→gd=true→aAj x.cf s i):
 ∃s',MiS x.cf gd s s'∧Abs (kC x i) s'∧s'.ah=if dH i x.cls.length=true∧(clM x i).up=true then aAu x.cf s.ah i else s.ah:=by
 unfold kC;by_cases a:dH i x.cls.length=true
 ·rw[if_pos a];obtain⟨g,j⟩:=tK hx a;obtain⟨s',b,d⟩:=aGE (f:=x.cf) (gd:=gd) (s:=s) g j (fun c hgd=>hg a (by rw[←h.clAt a];exact c) hgd);rw[h.clAt a]at b d;refine⟨s',b.st,h.client a (lM x) b,?_⟩;rw[d];by_cases c:(clM x i).up=true
  ·rw[if_pos c,if_pos ⟨a,c⟩]
  ·rw[if_neg c,if_neg (fun e=>c e.2)]
 ·rw[if_neg a,if_neg (fun e=>a e.1)];exact⟨s,.refl s,h,rfl⟩
theorem aB5(hx:MoOk N x)(h:Abs x s)(i:Int):∃s',MiS x.cf gd s s'∧Abs (iR x i) s'∧s'.ah=if dH i x.cls.length=true∧(clM x i).up=true then iM s.ah i else s.ah:=by
 unfold iR;by_cases a:dH i x.cls.length=true
 ·rw[if_pos a];obtain⟨g,j⟩:=tK hx a;obtain⟨s',b,d⟩:=aGZ (f:=x.cf) (gd:=gd) (s:=s) g j;rw[h.clAt a]at b d;refine⟨s',b.st,h.client a (lM x) b,?_⟩;rw[d];by_cases c:(clM x i).up=true
  ·rw[if_pos c,if_pos ⟨a,c⟩]
  ·rw[if_neg c,if_neg (fun e=>c e.2)]
 ·rw[if_neg a,if_neg (fun e=>a e.1)];exact⟨s,.refl s,h,rfl⟩
theorem aCK(hx:MoOk N x)(h:Abs x s)(i:Int):∃s',MiS x.cf gd s s'∧Abs (eM x i) s'∧s'.ah=if dH i x.cls.length=true∧eK (clM x i)=0 then iM s.ah i else s.ah:=by
 unfold eM;by_cases a:dH i x.cls.length=true
 ·rw[if_pos a];obtain⟨g,j⟩:=tK hx a;obtain⟨s',b,d⟩:=aD4 (f:=x.cf) (gd:=gd) (s:=s) (i:=i) (by rw[h.clAt a];exact(hx.cl a).1.core.i2) g j;rw[h.clAt a]at b d;refine⟨s',b.st,h.client a (lM x) b,?_⟩;rw[d];by_cases c:eK (clM x i)=0
  ·rw[if_pos c,if_pos ⟨a,c⟩]
  ·rw[if_neg c,if_neg (fun e=>c e.2)]
 ·rw[if_neg a,if_neg (fun e=>a e.1)];exact⟨s,.refl s,h,rfl⟩
theorem aF7(h:Abs x s)(i:Int):Abs (eL x i) s:=by
 obtain⟨c,d,b,e⟩:=qQ x i;refine⟨fun j hj=>?_,fun j hj l l0=>?_,by rw[b];exact h.tr,fun m hm=>by rw[b];exact h.net m (e m hm)⟩
 ·have a:j<x.cls.length:=by rw[←c];exact hj
  have:=h.cls j a;simp only[c];exact this
 ·have a:j<x.acs.length:=by rw[←d];exact hj
  have:=h.tb j a l l0;simp only[d];exact this
theorem aFH(h:Abs x s)(i:Int):Abs (kS x i) s:=by
 unfold kS;by_cases b:dH i x.net.length=true
 ·rw[if_pos b];refine⟨h.cls,h.tb,h.tr,fun m a=>?_⟩;rcases aO.1 (show m ∈ x.net++[jO x i]from a)with a|a
  ·exact h.net m a
  ·rw[List.mem_singleton]at a;subst a;obtain⟨c,e⟩:=pR b;exact h.net _ (by rw[e];exact bD c)
 ·rw[if_neg b];exact h
theorem wJ(s:Sx)(j:Int):(sEv s j 4).tr=s.tr++[gJ j]:=rfl
theorem aFB(s:Sx)(j:Int):(sEv s j 5).tr=s.tr++[nX j]:=rfl
theorem aBf(hx:MoOk N x)(h:Abs x s)(i n q:Int):∃s',MiS x.cf gd s s'∧Abs (iO x i n q) s'∧s'.ah=s.ah:=by
 unfold iO;by_cases d:lK x i n q=true
 ·rw[if_pos d];exact⟨s,.refl s,h,rfl⟩
 ·rw[if_neg d];have a:dH i x.acs.length=true∧0≤n∧0≤q:=by
   simp only[lK,Bool.or_eq_true,Bool.not_eq_true',aM,not_or,Bool.not_eq_false]at d;exact⟨d.1.1,by omega,by omega⟩
  obtain⟨g,m⟩:=aDv hx a.1;have f:=(hx.ac a.1).1;have k:=fun l=>aF2 f (n:=n) a.2.2 l;have c:∀j l,0≤l→s.tb j l=if j=i then eZ (oO (acM x i) n q) l else s.tb j l:=fun j l l0=>by
   by_cases e:j=i
   ·rw[if_pos e,k,e,h.acAt a.1 l0]
   ·rw[if_neg e]
  have b:oF (acM x i) n=[]∨oF (acM x i) n=[gJ i]:=by
   unfold oF;split
   ·exact Or.inl rfl
   ·split
    ·right;rw[f.num];congr 2;omega
    ·exact Or.inl rfl
  rcases b with b|b
  ·rw[b];exact⟨s,.refl s,h.acceptor a.1 (lM x) rfl (aC _).symm c,rfl⟩
  ·rw[b];exact⟨sEv s i 4,.one (.ev s i 4 g (Or.inl rfl)),h.acceptor a.1 (lM x) rfl (wJ s i) c,rfl⟩
theorem zZ(hx:MoOk N x)(h:Abs x s)(i:Int):∃s',MiS x.cf gd s s'∧Abs (eN x i) s'∧s'.ah=s.ah:=by
 unfold eN;by_cases a:dH i x.acs.length=true
 ·rw[if_pos a];obtain⟨c,n⟩:=aDv hx a;have d:=(hx.ac a).1;have k:=fun l=>aDF d l;have m:(acM x i).num=i:=by rw[d.num];omega
  have b:∀j l,0≤l→s.tb j l=if j=i then eZ (eQ (acM x i)) l else s.tb j l:=fun j l l0=>by
   by_cases e:j=i
   ·rw[if_pos e,k,e,h.acAt a l0]
   ·rw[if_neg e]
  unfold nI;rw[m];by_cases g:(acM x i).st=0
  ·rw[if_pos g];exact⟨s,.refl s,h.acceptor a (lM x) rfl (aC _).symm b,rfl⟩
  ·rw[if_neg g];by_cases f:(acM x i).st=1
   ·rw[if_pos f];refine⟨sEv (sEv s i 4) i 5,.step (.one (.ev s i 4 c (Or.inl rfl))) (.ev _ i 5 c (Or.inr rfl)),h.acceptor a (lM x) rfl ?_ b,rfl⟩;rw[aFB,wJ,aS];rfl
   ·rw[if_neg f];exact⟨sEv s i 5,.one (.ev s i 5 c (Or.inr rfl)),h.acceptor a (lM x) rfl (aFB s i) b,rfl⟩
 ·rw[if_neg a];exact⟨s,.refl s,h,rfl⟩
theorem pY(hx:MoOk N x)(hi0:I0 x.cf s)(h:Abs x s)(i:Int):∃s',MiS x.cf gd s s'∧Abs (cZ x i) s'∧s'.ah=s.ah:=by
 unfold cZ;by_cases z:dH i x.net.length=true
 ·rw[if_pos z];have c:=hx.msg z;have g:jO x i ∈ cH s.tr:=by
   obtain⟨K,e⟩:=pR z;rw[e,h.tr];exact h.net _ (bD K)
  generalize jO x i=m at c g⊢;by_cases y:gF m=true
  ·rw[if_pos y];have f:m.kind=1∨m.kind=3:=by simpa[gF]using y
   have o:=c.toA f;have a:dH m.dst x.acs.length=true:=(cV _ _).2 ⟨c.d1,by rw[hx.na];unfold dI;omega⟩;have A:=(hx.ac a).1;have I:(acM x m.dst).num=m.dst:=by rw[A.num];have:=c.d1;omega
   have p:=h.acAt a c.l1;by_cases r:(acM x m.dst).st=0
   ·obtain⟨e,d,Q,D,t⟩:=aF5 A r c f;rw[I]at D;rw[Q];have u:∀k:Sx,k.cl=s.cl→k.ah=s.ah→k.tr=s.tr++e→(∀j l,0≤l→k.tb j l=if j=m.dst then eZ (gX (acM x m.dst) m) l else s.tb j l)→MiS x.cf gd s k→∃s',MiS x.cf gd s s'∧Abs (iX (eL x i) m.dst (gX (acM x m.dst) m) (e++d)) s'∧s'.ah=s.ah:=by
     intro k E F G J H;rcases D with rfl|rfl
     ·rw[aC];exact⟨k,H,h.acceptor a (qQ x i) E G J,F⟩
     ·refine⟨sEv k m.dst 4,.step H (.ev k m.dst 4 c.d1 (Or.inl rfl)),h.acceptor a (qQ x i) E ?_ J,F⟩;rw[wJ,G,aS]
    rcases t with⟨n,C⟩|⟨n,C⟩
    ·have v:jK (acM x m.dst) (decMsg m (eZ (acM x m.dst) m.lock)) m=jG m.dst (s.tb m.dst m.lock) m:=by
      unfold jK jG;rw[I,p]
     rw[v]at n;refine u (rA s m.dst m e) rfl rfl rfl (fun j l l0=>?_) (.one (.acc s m.dst m e c.d1 o.2 g f n));show(if j=m.dst∧l=m.lock then dX m (s.tb m.dst m.lock)else s.tb j l)=_;by_cases b:j=m.dst
     ·rw[if_pos b,C l l0];by_cases w:l=m.lock
      ·rw[if_pos ⟨b,w⟩,if_pos w,p]
      ·rw[if_neg (fun q=>w q.2),if_neg w,b,h.acAt a l0]
     ·rw[if_neg b,if_neg (fun q=>b q.1)]
    ·subst n;refine u s rfl rfl (aC _).symm (fun j l l0=>?_) (.refl s);by_cases b:j=m.dst
     ·rw[if_pos b,C l l0,b,h.acAt a l0]
     ·rw[if_neg b]
   ·have P:jU (acM x m.dst) m=[]:=by unfold jU;rw[if_pos r]
    have L:gX (acM x m.dst) m=acM x m.dst:=by unfold gX;rw[if_pos r]
    rw[P,L];refine⟨s,.refl s,h.acceptor a (qQ x i) rfl (aC _).symm (fun j l l0=>?_),rfl⟩;by_cases b:j=m.dst
    ·rw[if_pos b,b,h.acAt a l0]
    ·rw[if_neg b]
  ·rw[if_neg y];have f:¬(m.kind=1∨m.kind=3):=by simpa[gF]using y
   have o:=c.toC f;have a:dH m.dst x.cls.length=true:=(cV _ _).2 ⟨c.d1,by rw[hx.nc];omega⟩;obtain⟨M,O⟩:=tK hx a;obtain⟨s',B,A⟩:=aGr (gd:=gd) hi0 M O g c;rw[h.clAt a]at B;exact⟨s',B.st,h.client a (qQ x i) B,A⟩
 ·rw[if_neg z];exact⟨s,.refl s,h,rfl⟩
end
end Go.Proofs.YtbbdgokdfhdpiaaGreatDoor
