/- A part of the proof: MoInvB, PProp2, PCount. -/
import Derived.Test.YtbbdgokdfhdpiaaGreatDoorD11
namespace Go.Proofs.YtbbdgokdfhdpiaaGreatDoor
set_option linter.all false
set_option maxRecDepth 100000
set_option maxHeartbeats 40000000
open Go.Proofs.Tryz Go.RowKit
def aJI(fl:Option (Int×Int)):Prop:=∀p,fl=some p→0≤p.1∧p.1≤9223372036854775807∧0≤p.2
section
variable {f:Cf}{i:Nat}{a:Ac}
theorem zZ{k:Dk}{t:List Int}(h:eM k=(t,(t.length:Int))){q:Int}(hq:0≤q):gC k q={k with log:=t,lsyn:=t.length,new:=none,old:=none,fail:=none}:=by
 rw[yI (by rw[h]) hq,h]
theorem tE{k:Dk}(h:DOk f k)(hnew:k.new=none)(s:List Int):
 (∃fl,fZ k s=({k with log:=s,lsyn:=s.length,new:=none,old:=none,fail:=fl},.none)∧aJI fl∧(k.log.length:Int)+s.length≤f.room)∨
 (∃fl,fZ k s=({k with new:=some ([],0),fail:=fl},(.some .none))∧aJI fl∧f.room<(k.log.length:Int)+s.length)∨
 (∃k1 q,fZ k s=(k1,(.some (.some q)))∧0≤q∧sU f k1∧gC k1 q={k with fail:=none}):=by
 have hl0:∀(fl:Option (Int×Int)) (nw:Option (List Int×Int)) q,0≤q→gC {k with fail:=fl,new:=nw} q={k with fail:=none}:=fun fl nw q hq=>by
  rw[zZ (t:=k.log) (by unfold eM;dsimp only;rw[h.old,h.syn]) hq];have e2:=h.old;have e3:=h.syn;obtain⟨room,log,lsyn,new,old,fail⟩:=k;dsimp only at hnew e2 e3;subst hnew e2 e3
  rfl
 have hold:=h.old;unfold fZ dQ dH;cases h1:fR k with
 |none=>
  obtain⟨q,hq,hk⟩:=kT h1;have hq0:0≤q:=(h.fail _ hq).2.2;exact Or.inr (Or.inr ⟨k,q,by simp[iF,hk],hq0,rP h (by unfold eM;rw[h.old]),by have:=hl0 k.fail k.new q hq0;exact this⟩)
 |some k1=>
  obtain⟨⟨f1,rfl⟩,hf1⟩:=jX h1 h.fail;dsimp only[iF,kM];cases h2:fR {k with fail:=f1,new:=some ([],0)}with
  |none=>
   obtain⟨q,hq,hk⟩:=kT h2;have hq0:0≤q:=(hf1 _ hq).2.2;exact Or.inr (Or.inr ⟨{k with fail:=f1,new:=some ([],0)},q,by simp[iF,hk],hq0,rP h (by unfold eM;dsimp only;rw[h.old]),hl0 f1 _ q hq0⟩)
  |some k2=>
   obtain⟨⟨f2,rfl⟩,hf2⟩:=jX h2 (by exact hf1);dsimp only;have hu:jO {k with fail:=f2,new:=some ([],0)}=k.log.length:=by unfold jO hP;dsimp only;simp
   have hrm:=h.room;rw[hu];by_cases hfull:k.room<(k.log.length:Int)+s.length
   ·rw[if_pos hfull];exact Or.inr (Or.inl ⟨f2,rfl,hf2,by omega⟩)
   ·rw[if_neg hfull];dsimp only[iF,iQ];rw[List.nil_append];cases h3:fR {k with fail:=f2,new:=some (s,0)}with
    |none=>
     obtain⟨q,hq,hk⟩:=kT h3;have hq0:0≤q:=(hf2 _ hq).2.2;exact Or.inr (Or.inr ⟨{k with fail:=f2,new:=some (s,0)},q,by simp[iF,hk],hq0,rP h (by unfold eM;dsimp only;rw[h.old]),hl0 f2 _ q hq0⟩)
    |some k3=>
     obtain⟨⟨f3,rfl⟩,hf3⟩:=jX h3 (by exact hf2);dsimp only[iD];cases h4:fR {k with fail:=f3,new:=some (s,(s.length:Int))}with
     |none=>
      obtain⟨q,hq,hk⟩:=kT h4;have hq0:0≤q:=(hf3 _ hq).2.2;exact Or.inr (Or.inr ⟨{k with fail:=f3,new:=some (s,(s.length:Int))},q,by simp[iF,hk],hq0,rP h (by unfold eM;dsimp only;rw[h.old]),hl0 f3 _ q hq0⟩)
     |some k4=>
      obtain⟨⟨f4,rfl⟩,hf4⟩:=jX h4 (by exact hf3);dsimp only[gG];cases h5:fR {k with fail:=f4,log:=s,lsyn:=s.length,new:=none,old:=some (k.log,k.lsyn)}with
      |none=>
       obtain⟨q,hq,hk⟩:=kT h5;have hq0:0≤q:=(hf4 _ hq).2.2;refine Or.inr (Or.inr ⟨{k with fail:=f4,log:=s,lsyn:=s.length,new:=none,old:=some (k.log,k.lsyn)},q,by simp[iF,hk],hq0,rP h (by unfold eM;rfl),?_⟩);rw[zZ (t:=k.log) (by unfold eM;dsimp only;rw[h.syn]) hq0];have e2:=h.old;have e3:=h.syn;obtain⟨room,log,lsyn,new,old,fail⟩:=k;dsimp only at hnew e2 e3;subst hnew e2 e3
       rfl
      |some k5=>
       obtain⟨⟨f5,rfl⟩,hf5⟩:=jX h5 (by exact hf4);dsimp only[oD];refine Or.inl ⟨f5,rfl,hf5,?_⟩;omega
theorem qA{rs:List Rw}(h:∀r ∈ rs,RwOk r):dU (gU rs)=gQ rs 4∧(gU rs).length=25*(gQ rs 4).length∧∀r ∈ gQ rs 4,RwOk r:=by
 have a:∀r ∈ gQ rs 4,RwOk r:=fun r hr=>h r (aFY hr);refine⟨?_,yR _ (fun r hr=>(a r hr).ok),a⟩;have:=pX (gQ rs 4) (fun r hr=>(a r hr).ok) [] (by decide);rw[aC]at this;exact this
theorem wX(hn:a.num=i)(hc:a.compact=f.compact)(hst:a.st=0)(hd:DOk f a.dk)(hnew:a.dk.new=none)(htab:∀k,dS a.rows k=dS (dU a.dk.log) k)(hrows:∀r ∈ a.rows,RwOk r):
 (AOk f i (dA a).1∧(dA a).2= .none)∨(AOk f i {(dA a).1 with st:=1}∧(dA a).2=(.some .none))∨∃q,(dA a).2=(.some (.some q))∧0≤q∧sU f (dA a).1.dk∧AOk f i (crashA (dA a).1 q):=by
 obtain⟨t1,t2,t3⟩:=qA hrows;unfold dA;rcases tE hd hnew (gU a.rows)with⟨fl,he,hfl,hfit⟩|⟨fl,he,hfl,_⟩|⟨k1,q,he,hq,hlf,hcr⟩
 ·refine Or.inl ⟨?_,by rw[he]⟩;rw[he];refine⟨hn,hc,Or.inl hst,⟨hd.room,fun x hx=>?_,rfl,by show((gU a.rows).length:Int)≤f.room;omega,rfl,hfl,?_⟩,fun _=>rfl,fun h=>(by rw[show a.st=2 from h]at hst;cases hst),fun _ k=>?_,hrows,fun _=>?_⟩
  ·obtain⟨r,_,hx⟩:=List.mem_flatMap.1 (show x ∈ (gQ a.rows 4).flatMap dR from hx);exact rN r x hx
  ·show∀r ∈ dU (gU a.rows),RwOk r;rw[t1];exact t3
  ·show dS a.rows k=dS (dU (gU a.rows)) k;rw[t1,yZ (fun r hr=>⟨(hrows r hr).l1,(hrows r hr).l2⟩)]
  ·show 25*(dU (gU a.rows)).length=(gU a.rows).length;rw[t1,t2]
 ·refine Or.inr (Or.inl ⟨?_,by rw[he]⟩);rw[he];exact⟨hn,hc,Or.inr (Or.inl rfl),⟨hd.room,hd.by_,hd.syn,hd.len,hd.old,hfl,hd.rows⟩,fun h=>absurd rfl h,fun h=>absurd (show(1:Int)=2 from h) (by decide),fun _=>htab,hrows,fun h=>absurd (show(1:Int)=0 from h) (by decide)⟩
 ·refine Or.inr (Or.inr ⟨q,by rw[he],hq,by rw[he];exact hlf,?_⟩);rw[he];refine pJ hn hc ?_;rw[hcr];exact⟨hd.room,hd.by_,hd.syn,hd.len,hd.old,fun p hp=>(by cases hp),hd.rows⟩
def HowOk(f:Cf)(i:Nat)(p:Ac×How):Prop:=match p.2 with
 |.none=>AOk f i p.1
 |(.some .none)=>AOk f i {p.1 with st:=1}
 |(.some (.some q))=>0≤q∧sU f p.1.dk∧AOk f i (crashA p.1 q)
theorem HowOk.heed{p:Ac×How}(h:HowOk f i p)(hn:∀q,p.2≠(.some (.some q))):AOk f i (mY p.1 p.2):=by
 unfold HowOk at h;unfold mY;cases hp:p.2 using lS with
 |fine=>rw[hp]at h;exact h
 |full=>rw[hp]at h;exact h
 |dies q=>exact absurd hp (hn q)
theorem aGf(a:Ac)(r:Rw):(fY a r).1.st=a.st:=by
 unfold fY;split<;>rfl
theorem vW(h:AOk f i a)(hst:a.st=0){r:Rw}(hr:RwOk r):HowOk f i (fY a r):=by
 have b:=h.new (by omega);unfold HowOk fY;rcases zW h.dk b (h.full hst) hr with⟨m,e,d⟩|⟨m,e,d⟩|⟨o,q,e,l,g,d,p,s,n,j⟩
 ·rw[e];dsimp only;refine⟨h.num,h.comp,h.st,d,fun _=>b,fun h'=>(by rw[show a.st=2 from h']at hst;cases hst),fun _ k=>?_,fun x c=>?_,fun _=>?_⟩
  ·show dS (a.rows++[r]) k=dS (dU (a.dk.log++dR r)) k;rw[pL (h.full hst) hr.ok,mL,mL,h.tab (by omega)]
  ·rcases aO.1 c with c|c
   ·exact h.rows x c
   ·simp at c;subst c;exact hr
  ·show 25*(dU (a.dk.log++dR r)).length=(a.dk.log++dR r).length;rw[pL (h.full hst) hr.ok,aD,aD,lT hr.ok,←h.full hst,aK];omega
 ·rw[e];dsimp only;exact⟨h.num,h.comp,Or.inr (Or.inl rfl),d,fun h=>absurd rfl h,fun h=>absurd (show(1:Int)=2 from h) (by decide),fun _=>h.tab (by omega),h.rows,fun h=>absurd (show(1:Int)=0 from h) (by decide)⟩
 ·rw[e];dsimp only;exact⟨l,g,pJ h.num h.comp d⟩
theorem aBq(h:AOk f i a)(hst:a.st=0)(hi:(i:Int)<2*f.f+1){m:Mg}(hm:MOk f m)(hA:m.kind=1∨m.kind=3):HowOk f i ((iW a m).1,(iW a m).2.2)∧EOk f (iW a m).2.1∧(iW a m).2.1.length≤1:=by
 obtain⟨k,n⟩:=aBl h m.lock hm.l1 hm.l2;have c:=aIs (aI6 hi h.num hm hA k);unfold iW;dsimp only;split
 ·have b:=vW h hst (vV hm k).1;unfold HowOk at b;cases he:fY a (fA m (rY a m.lock))with
  |mk a1 hw=>
   rw[he]at b;cases hw using lS with
   |fine=>
    dsimp only at b⊢;split
    ·have j:a1.st=0:=by
      have e:=aGf a (fA m (rY a m.lock));rw[he]at e;exact e.trans hst
     have l:=wX b.num b.comp j b.dk (b.new (by omega)) (b.tab (by omega)) b.rows;refine⟨?_,c,by simp⟩;unfold HowOk;rcases l with⟨g,d⟩|⟨g,d⟩|⟨q,d,g⟩
     ·dsimp only;rw[d];exact g
     ·dsimp only;rw[d];exact g
     ·dsimp only;rw[d];exact g
    ·exact⟨b,c,by simp⟩
   |full=>exact⟨b,iC,by simp⟩
   |dies q=>exact⟨b,iC,by simp⟩
 ·exact⟨h,c,by simp⟩
theorem EOk.snoc{e:Ev}{l:List Ev}(h:EOk f l)(hk:e.kind≠1)(hl:l.length≤5):EOk f (l++[e]):=⟨fun m hm=>(by
 rw[gI,show cJ [e]=[] by simp[cJ,qL,hk],aC]at hm;exact h.1 m hm),by simp;omega⟩
theorem aGK(h:AOk f i a)(hi:(i:Int)<2*f.f+1){m:Mg}(hm:MOk f m)(hA:m.kind=1∨m.kind=3):AOk f i (jJ a m)∧EOk f (lG a m):=by
 unfold jJ lG;split
 ·exact⟨h,iC⟩
 ·rename_i j;obtain⟨b,c,d⟩:=aBq h (by omega) hi hm hA;unfold HowOk at b;cases he:iW a m with
  |mk a1 q=>
   obtain⟨e,g⟩:=q;rw[he]at b c d;dsimp only at b c d;cases g using lS with
   |fine=>exact⟨b,c⟩
   |full=>exact⟨b,c⟩
   |dies q=>exact⟨b.2.2,c.snoc (by simp[gD]) (by omega)⟩
theorem aHl(h:AOk f i a){n q:Int}(hn:0≤n)(hn':n≤9223372036854775807)(hq:0≤q):AOk f i (qM a n q)∧EOk f (qH a n):=by
 unfold qM qH;split
 ·exact⟨h,iC⟩
 ·rename_i b;split
  ·exact⟨pJ h.num h.comp (nE h.dk hq).1,tZ _ (by simp[gD])⟩
  ·exact⟨⟨h.num,h.comp,h.st,⟨h.dk.room,h.dk.by_,h.dk.syn,h.dk.len,h.dk.old,fun p hp=>by cases hp;exact⟨hn,hn',hq⟩,h.dk.rows⟩,h.new,fun h'=>absurd h' b,h.tab,h.rows,h.full⟩,iC⟩
theorem yU(k:Dk)(s:List Int)(h:k.fail=none)(q:Int):(fZ k s).2≠(.some (.some q)):=by
 have a:∀(k:Dk),k.fail=none→fR k=some k:=fun k hk=>by unfold fR;rw[hk]
 have e:(kM k).fail=none:=h;have c:(iQ (kM k) s).fail=none:=h;have f:(iD (iQ (kM k) s)).fail=none:=h;have d:(gG (iD (iQ (kM k) s))).fail=none:=h;unfold fZ dH dQ;rw[a _ h];dsimp only[iF];rw[a _ e];dsimp only;by_cases b:(kM k).room<jO (kM k)+s.length
 ·rw[if_pos b];simp
 ·rw[if_neg b];dsimp only;rw[a _ c];dsimp only;rw[a _ f];dsimp only;rw[a _ d];simp
theorem wE(a:Ac)(hd:DOk f a.dk)(hnew:a.dk.new=none)(hfl:a.dk.fail=none)(q:Int):(fF a).2≠(.some (.some q)):=by
 unfold fF;dsimp only;by_cases b:25*((dU a.dk.log).length:Int)<a.dk.log.length∨mJ a=true
 ·rw[if_pos b];exact yU _ _ hfl q
 ·rw[if_neg b];simp
theorem yE(a:Ac)(h:a.st≠0):gE a=mY (fF {(if a.st=1 then crashA a 0 else a)with st:=0}).1 (fF {(if a.st=1 then crashA a 0 else a)with st:=0}).2:=by
 unfold gE;rw[if_neg h]
theorem aFK(h:AOk f i a):AOk f i (gE a)∧EOk f (oT a):=by
 refine⟨?_,?_⟩
 ·by_cases r:a.st=0
  ·unfold gE;rw[if_pos r];exact h
  ·rw[yE a r];have p:AOk f i (if a.st=1 then crashA a 0 else a)∧(if a.st=1 then crashA a 0 else a).st=2:=by
    split
    ·exact⟨pJ h.num h.comp (nE h.dk (by decide)).1,rfl⟩
    ·rename_i j;have:=h.st;exact⟨h,by omega⟩
   generalize u:(if a.st=1 then crashA a 0 else a)=b at p;obtain⟨c,o⟩:=p;have e:=c.new (by omega);have n:=c.nofail o;have l:HowOk f i (fF {b with st:=0}):=by
    unfold fF;dsimp only;by_cases d:25*((dU b.dk.log).length:Int)<b.dk.log.length∨mJ {b with st:=0}=true
    ·rw[if_pos d];have s:=wX (a:={b with st:=0,rows:=dU b.dk.log}) c.num c.comp rfl c.dk e (fun _=>rfl) (c.dk.rows);unfold HowOk;rcases s with⟨j,g⟩|⟨j,g⟩|⟨q,g,j⟩
     ·rw[g];exact j
     ·rw[g];exact j
     ·rw[g];exact j
    ·rw[if_neg d];have k:25*(dU b.dk.log).length=b.dk.log.length:=by
      have j:¬(25*((dU b.dk.log).length:Int)<b.dk.log.length):=fun l=>d (Or.inl l);have g:=wA b.dk.log.length b.dk.log;have t:25*(dU b.dk.log).length≤b.dk.log.length:=g;omega
     exact⟨c.num,c.comp,Or.inl rfl,c.dk,fun _=>e,fun h=>absurd (show(0:Int)=2 from h) (by decide),fun _ _=>rfl,c.dk.rows,fun _=>k⟩
   exact l.heed (wE (f:=f) {b with st:=0} c.dk e n)
 ·unfold oT;split
  ·exact iC
  ·split
   ·exact⟨fun m hm=>by simp[cJ,qL,gD,pD]at hm,by simp⟩
   ·exact tZ _ (by simp[pD])
theorem aIE(hr:100≤f.room):AOk f i (rX f i):=
 ⟨rfl,rfl,Or.inl rfl,⟨rfl,fun x hx=>(by cases hx),rfl,by show((0:Nat):Int)≤f.room;omega,rfl,fun p hp=>(by cases hp),fun r hr=>by rw[show dU (rX f i).dk.log=[]from rfl]at hr;cases hr⟩,fun _=>rfl,fun _=>rfl,fun _ _=>rfl,fun r hr=>(by cases hr),fun _=>rfl⟩
theorem aIC{N:Int}(hN:0≤N):COk f N i (wC i):=
 ⟨⟨rfl,(by decide:(0:Int)≤0),(by decide:(0:Int)≤63),(by decide:(0:Int)≤0),hN,(by decide:(0:Int)≤0),(by decide:(0:Int)≤1000),fun l=>⟨(by decide:(0:Int)≤0),hN⟩⟩,fun _=>rfl,fun o ho=>by cases ho⟩
end
structure MoOk(N:Int)(x:Mo):Prop where
 conf:iL x.cf=true
 na:x.acs.length=gB x.cf
 nc:x.cls.length=x.cf.clients.toNat
 as_:∀i (h:i<x.acs.length),AOk x.cf i x.acs[i]
 cs_:∀i (h:i<x.cls.length),COk x.cf N i x.cls[i]
 net:∀m ∈ x.net,MOk x.cf m
 trm:∀m ∈ cJ x.tr,MOk x.cf m
 nl:(x.net.length:Int)≤N
 tl:(x.tr.length:Int)≤N
 n0:0≤N
theorem dO{c:Cf}(h:iL c=true):(1≤c.f∧c.f≤2)∧(1≤c.clients∧c.clients≤4)∧(1≤c.patience∧c.patience≤20)∧(1≤c.tries∧c.tries≤8)∧(0≤c.drift∧c.drift≤10)∧(2≤c.compact∧c.compact≤16)∧(100≤c.room∧c.room≤2000):=by
 simp only[iL,aR,aM]at h;omega
theorem MoOk.mono{N M:Int}{x:Mo}(h:MoOk N x)(hm:N≤M):MoOk M x:=
 ⟨h.conf,h.na,h.nc,h.as_,fun i hi=>(h.cs_ i hi).mono hm,h.net,h.trm,by have:=h.nl;omega,by have:=h.tl;omega,by have:=h.n0;omega⟩
theorem MoOk.new{f:Cf}(hf:iL f=true):MoOk 0 (lI f):=by
 have a:=dO hf;refine⟨hf,by simp[lI],by simp[lI],fun i hi=>?_,fun i hi=>?_,fun m hm=>(by cases hm),fun m hm=>(by cases hm),(by decide:((0:Nat):Int)≤0),(by decide:((0:Nat):Int)≤0),by decide⟩
 ·have:(lI f).acs[i]=rX f i:=by simp[lI]
  rw[this];exact aIE a.2.2.2.2.2.2.1
 ·have:(lI f).cls[i]=wC i:=by simp[lI]
  rw[this];exact aIC (by decide)
section
variable {N:Int} {x:Mo}
theorem MoOk.client(h:MoOk N x){i:Int}(hi:dL i x.cls.length=true){c:Ct}{e:List Ev}(hc:COk x.cf (N+1) i.toNat c)(he:EOk x.cf e):MoOk (N+6) (iG x i c e):=by
 refine⟨h.conf,h.na,by simp[iG,h.nc],h.as_,fun j hj=>?_,fun m a=>?_,fun m a=>?_,?_,?_,by have:=h.n0;omega⟩
 ·have d:j<x.cls.length:=by simpa[iG]using hj
  by_cases b:j=i.toNat
  ·subst b;simp only[iG,bQ];exact hc.mono (by omega)
  ·simp only[iG,List.getElem_set_ne (Ne.symm b)];exact(h.cs_ j d).mono (by omega)
 ·rcases aO.1 a with a|a
  ·exact h.net m a
  ·exact he.1 m a
 ·rw[show(iG x i c e).tr=x.tr++e from rfl,gI]at a;rcases aO.1 a with a|a
  ·exact h.trm m a
  ·exact he.1 m a
 ·have g:=h.nl;have f:=he.2;have k:=mB e;show((x.net++cJ e).length:Int)≤N+6;rw[aD];omega
 ·have g:=h.tl;have f:=he.2;show((x.tr++e).length:Int)≤N+6;rw[aD];omega
theorem MoOk.acceptor(h:MoOk N x){i:Int}(hi:dL i x.acs.length=true){a:Ac}{e:List Ev}(hc:AOk x.cf i.toNat a)(he:EOk x.cf e):MoOk (N+6) (kB x i a e):=by
 refine⟨h.conf,by simp[kB,h.na],h.nc,fun j hj=>?_,fun j hj=>(h.cs_ j hj).mono (by omega),fun m b=>?_,fun m b=>?_,?_,?_,by have:=h.n0;omega⟩
 ·have d:j<x.acs.length:=by simpa[kB]using hj
  by_cases c:j=i.toNat
  ·subst c;simp only[kB,bQ];exact hc
  ·simp only[kB,List.getElem_set_ne (Ne.symm c)];exact h.as_ j d
 ·rcases aO.1 b with b|b
  ·exact h.net m b
  ·exact he.1 m b
 ·rw[show(kB x i a e).tr=x.tr++e from rfl,gI]at b;rcases aO.1 b with b|b
  ·exact h.trm m b
  ·exact he.1 m b
 ·have g:=h.nl;have f:=he.2;have k:=mB e;show((x.net++cJ e).length:Int)≤N+6;rw[aD];omega
 ·have g:=h.tl;have f:=he.2;show((x.tr++e).length:Int)≤N+6;rw[aD];omega
theorem MoOk.cl(h:MoOk N x){i:Int}(hi:dL i x.cls.length=true):COk x.cf N i.toNat (clM x i)∧((i.toNat:Nat):Int)<x.cf.clients:=by
 obtain⟨a,e⟩:=oI hi;rw[e];exact⟨h.cs_ _ a,by have:=h.nc;omega⟩
theorem MoOk.ac(h:MoOk N x){i:Int}(hi:dL i x.acs.length=true):AOk x.cf i.toNat (acM x i)∧((i.toNat:Nat):Int)<2*x.cf.f+1∧i.toNat≤4:=by
 obtain⟨a,e⟩:=pV hi;have:=h.na;have b:=dO h.conf;unfold gB at this;rw[e];exact⟨h.as_ _ a,by omega,by omega⟩
theorem MoOk.begin(h:MoOk N x)(i k l t:Int):MoOk (N+6) (fO x i k l t):=by
 have f:=dO h.conf;unfold fO;split
 ·exact h.mono (by omega)
 ·rename_i j;have a:dL i x.cls.length=true∧(1≤k∧k≤4)∧(0≤l∧l≤3)∧(k≤2→1≤t∧t≤1000):=by
   simp only[lL,Bool.or_eq_true,Bool.not_eq_true',aR,aM,decide_eq_false_iff_not,not_or,not_and,Bool.not_eq_false]at j;obtain⟨⟨⟨d,b⟩,e⟩,c⟩:=j;refine⟨d,?_,?_,fun hk=>?_⟩
   ·exact aH fun hh=>b (by omega)
   ·exact aH fun hh=>e (by omega)
   ·exact aH fun hh=>c hk (by omega)
  obtain⟨d,b⟩:=h.cl a.1;have g:0≤uP k t∧uP k t≤1000:=by
   unfold uP;split
   ·have:=a.2.2.2 (by assumption);omega
   ·omega
  obtain⟨e,c⟩:=aGI f.1.1 f.1.2 f.2.1.2 d h.n0 b a.2.1.1 a.2.1.2 a.2.2.1.1 a.2.2.1.2 g.1 g.2;exact h.client a.1 (e.mono (by omega)) c
theorem MoOk.tick(h:MoOk N x)(i:Int):MoOk (N+6) (kG x i):=by
 have a:=dO h.conf;unfold kG;split
 ·rename_i b;obtain⟨e,c⟩:=h.cl b;obtain⟨f,d⟩:=aIX a.1.1 a.1.2 a.2.1.2 a.2.2.2.1.2 e c;exact h.client b f d
 ·exact h.mono (by omega)
theorem MoOk.lose(h:MoOk N x)(i:Int):MoOk (N+6) (kP x i):=by
 unfold kP;split
 ·rename_i a;obtain⟨c,e⟩:=h.cl a;obtain⟨d,b⟩:=aIr c h.n0;exact h.client a (d.mono (by omega)) b
 ·exact h.mono (by omega)
theorem MoOk.return(h:MoOk N x)(i:Int):MoOk (N+6) (iB x i):=by
 unfold iB;split
 ·rename_i a;obtain⟨c,e⟩:=h.cl a;obtain⟨d,b⟩:=aE9 c;exact h.client a (d.mono (by omega)) b
 ·exact h.mono (by omega)
theorem MoOk.drop(h:MoOk N x)(i:Int):MoOk N (eN x i):=by
 unfold eN;split
 ·refine⟨h.conf,h.na,h.nc,h.as_,h.cs_,fun m hm=>h.net m (List.mem_of_mem_eraseIdx hm),h.trm,?_,h.tl,h.n0⟩;have a:=h.nl;have b:(x.net.eraseIdx i.toNat).length≤x.net.length:=List.length_eraseIdx_le ..;show((x.net.eraseIdx i.toNat).length:Int)≤N;omega
 ·exact h
theorem MoOk.msg(h:MoOk N x){i:Int}(hi:dL i x.net.length=true):MOk x.cf (kC x i):=by
 obtain⟨a,e⟩:=qZ hi;rw[e];exact h.net _ (bF a)
theorem MoOk.copy(h:MoOk N x)(i:Int):MoOk (N+6) (lE x i):=by
 unfold lE;split
 ·rename_i b;have c:=h.msg b;refine⟨h.conf,h.na,h.nc,h.as_,fun i b=>(h.cs_ i b).mono (by omega),fun m a=>?_,h.trm,?_,by have:=h.tl;show(x.tr.length:Int)≤N+6;omega,by have:=h.n0;omega⟩
  ·rcases aO.1 a with a|a
   ·exact h.net m a
   ·simp at a;subst a;exact c
  ·have:=h.nl;show((x.net++[kC x i]).length:Int)≤N+6;rw[aD,aK];omega
 ·exact h.mono (by omega)
theorem MoOk.deliver(h:MoOk N x)(i:Int):MoOk (N+6) (fG x i):=by
 have e:=dO h.conf;unfold fG;split
 ·rename_i s;have c:=h.msg s;have o:=h.drop i;have m:=h.na;have n:=h.nc;have q:(eN x i).acs=x.acs:=by unfold eN;split<;>rfl
  have r:(eN x i).cls=x.cls:=by unfold eN;split<;>rfl
  have d:(eN x i).cf=x.cf:=by unfold eN;split<;>rfl
  split
  ·rename_i l;have b:(kC x i).kind=1∨(kC x i).kind=3:=by simpa[jD]using l
   have p:=c.toA b;have a:dL (kC x i).dst x.acs.length=true:=(dK _ _).2 ⟨c.d1,by rw[m];unfold gB;omega⟩;obtain⟨j,f,_⟩:=h.ac a;obtain⟨k,g⟩:=aGK j f c b;exact o.acceptor (by rw[q];exact a) (by rw[d];exact k) (by rw[d];exact g)
  ·rename_i l;have b:¬((kC x i).kind=1∨(kC x i).kind=3):=by simpa[jD]using l
   have p:=c.toC b;have a:dL (kC x i).dst x.cls.length=true:=(dK _ _).2 ⟨c.d1,by rw[n];omega⟩;obtain⟨j,f⟩:=h.cl a;obtain⟨k,g⟩:=aIl e.1.1 e.1.2 e.2.1.2 e.2.2.2.1.2 j f c;exact o.client (by rw[r];exact a) (by rw[d];exact k) (by rw[d];exact g)
 ·exact h.mono (by omega)
theorem MoOk.fail(h:MoOk N x)(i n q:Int)(hn:n≤9223372036854775807):MoOk (N+6) (lM x i n q):=by
 unfold lM;split
 ·exact h.mono (by omega)
 ·rename_i b;have a:dL i x.acs.length=true∧0≤n∧0≤q:=by
   simp only[oN,Bool.or_eq_true,Bool.not_eq_true',aM,not_or,Bool.not_eq_false]at b;exact⟨b.1.1,by omega,by omega⟩
  obtain⟨d,f,_⟩:=h.ac a.1;obtain⟨e,c⟩:=aHl d a.2.1 hn a.2.2;exact h.acceptor a.1 e c
theorem MoOk.start(h:MoOk N x)(i:Int):MoOk (N+6) (jM x i):=by
 unfold jM;split
 ·rename_i a;obtain⟨c,e,_⟩:=h.ac a;obtain⟨d,b⟩:=aFK c;exact h.acceptor a d b
 ·exact h.mono (by omega)
end
theorem aGs:(prog.info? 3).map (fun i=>(i.zero,i.size,i.bytes))=some (some (iK 0),1,8):=by kernel_rfl
theorem xQ(o:On)(an mv:Value):∀j x,(vlL o.att.val)[j]?=some x→(tA o an mv).toArray[10+j]?=some x:=by
 intro j x a;have b:j<4:=(aF.1 a).1;rcases j with _|_|_|_|j
 ·exact a
 ·exact a
 ·exact a
 ·exact a
 ·omega
theorem wQ(W:World)(F G:Nat→Prop)(b g:Nat)(f:Cf)(av cv:Value)(c:Ct)(o:On)(net:List Mg)(tr:List Ev)(h:Sys W F G b g f av cv c net tr)(hd:c.doing=some o)(hf1:1≤f.f)(hf2:f.f≤2)(hdr1:0≤f.drift)(hdr2:f.drift≤10)(hc:xL c)(ho:aDS o)(hv:aAL o.att.val)
 (haw:o.att.awaited≠0) (hm:o.mine.length≤100000000000) (hw:∀l,0≤(c.wat l).since∧(c.wat l).since≤100000000000) (hn:net.length≤99999999990) (ht:tr.length≤99999999990):
 Calls prog 175 #[.pointer (some ⟨b,0,none⟩)] W fun r W'=>r= .returned (.tuple #[])∧After W F G b g f av cv (iT f c o) (net++cJ (iN f c o)) (tr++iN f c o) W':=by
 obtain⟨⟨ch,tk,a4,wt,dv,g4⟩,f2,f3⟩:=h;obtain⟨t,an,mv,rfl,a⟩:=g4.kt hd;obtain⟨am,rfl,d4,L⟩:∃am,an= .map (some am)∧SetAt W am o.att.ans∧F am:=by
  rcases a.on.2.2.1 with⟨_,_,h⟩|h
  ·exact absurd h haw
  ·exact h
 have c2:=aB5 W F b g f c o ch tk a4 wt t (.map (some am)) mv o.att.val a hc.n1 (by have:=hc.n2;omega) (by omega) hdr1 hdr2 hv.t1 hv.t2 hv.s1 hv.s2 (hw _).1 (hw _).2;obtain⟨w,a7⟩:=aJ7 (dD f c o o.att.val);rw[←a7]at c2;have eS:iT f c o=if w.res=5 then gA c o w.res w.tok o.att.val else{c with doing:=some (eV o w)}:=by unfold iT;rw[←a7]
 have eE:iN f c o=if w.res=5 then lO c o w.res w.own w.tok else fD c (eV o w) 3 o.att.base w.next (gB f):=by unfold iN;rw[←a7]
 rw[eS,eE];clear eS eE a7;have e4:Hid (Calls prog 201 #[.pointer (some ⟨b,0,none⟩),vlV o.att.val] W fun r W'=>r= .returned (.tuple #[vlV w.next,sQ w.res w.own w.tok])∧Chg NoS W W'):=c2;have g3:=cB (eW a.on.1 10 _ (xQ o _ _));have HK:=cB a;have p:=cB (aJY f2 f3 d4 L);have d:=cB (aJY hc ho hn ht);have g9:=a.cl.cell 16 _ rfl;clear c2 a f2 f3 g4 hc ho hw hd d4 hv;go_enter func175,ntmps175;go_wp2_with (first|(refine cI rfl 56 _ rfl ⟨t,10,none⟩ rfl (vlL o.att.val) _ g3.out underlying56 rfl (by kernel_rfl) ?_)|(go_at_call 201;refine e4.out.mono ?_;rintro r B ⟨rfl,k1⟩;refine cE ?_));generalize Q:(B.alloc (.cells #[.int .i64 0,.int .i64 0,.int .i64 0,.int .i64 0] 56)).alloc (.cells #[.int .i64 0,.int .i64 0,.int .i64 0] 191)=W2;have g0:=cB Q;have d8:W2.heap[B.heap.size]?=some (.cells (vlL zVl).toArray 56 (0,0)):=by rw[←Q];exact cX _ (aA B _)
 have d7:W2.heap[B.heap.size+1]?=some (.cells (pE 0 0 0).toArray 191 (0,0)):=by
  rw[←Q];have h:=aA (B.alloc (.cells #[.int .i64 0,.int .i64 0,.int .i64 0,.int .i64 0] 56)) (.cells #[.int .i64 0,.int .i64 0,.int .i64 0] 191);have e:(B.alloc (.cells #[.int .i64 0,.int .i64 0,.int .i64 0,.int .i64 0] 56)).heap.size=B.heap.size+1:=by simp
  rw[e]at h;exact h
 have e6:Chg NoS W W2:=k1.trans (by rw[←Q];exact Chg.alloc2 _ _ _) (fun _ _ h=>h);have d6:=cB k1.size;clear Q k1;refine cB ?_;go_wp2_with (first|rw[g0.out]|(refine cH rfl 56 _ _ rfl B.heap.size 0 56 _ _ (vlL w.next) rfl rfl d8 (by kernel_rfl) (by simp[Value.oneCell']) (by simp) rfl ?_));intro W3 c7 g7 f7;have g1:=c7.kept d7 (by omega);have b4:=e6.fresh c7 d6.out;clear e6 d8 d7 g0;go_wp2_with (first|(refine cH rfl 191 _ _ rfl (B.heap.size+1) 0 191 _ _ (pE w.res w.own w.tok) rfl rfl g1 (by kernel_rfl) (by simp[Value.oneCell']) (by simp) rfl ?_));intro W4 c0 i1 a9;have e7:=cB (c0.kept f7 (by omega));have z:=b4.fresh c0 (by have:=d6.out;omega);have i6:=cB a9;have a5:=cB z;have I:=cB (HK.out.kept z);have a6:=cB (p.out.1.kept z (fun _ _ h=>h));have h9:Hid (SetAt W4 am o.att.ans):=MapAt.kept p.out.2.2.1 z (fun h=>h);have e0:=cC a9 0 _ rfl;have g2:=cB (cF a9);have g5:=cB (eW I.out.on.1 10 _ (xQ o _ _));clear c7 g7 f7 g1 b4 c0 i1 a9 z g9 g3 e4;by_cases s:w.res=5
 ·have hr:(w.res==5)=true:=by simp[s]
  have M:=cB s;have HE:Hid (Calls prog 164 #[.pointer (some ⟨b,0,none⟩),sQ w.res w.own w.tok,vlV o.att.val] W4.drew fun r W'=>r= .returned (.tuple #[])∧After W4.drew F G b g f av cv (gA c o w.res w.tok o.att.val) net (tr++lO c o w.res w.own w.tok) W'):=
   tU W4.drew F G b g f av cv c o net tr w.res w.own w.tok o.att.val (Sys.drew ⟨⟨ch,tk,a4,wt,_,I.out.cl⟩,a6.out,p.out.2.1⟩) HK.out.doing d.out.1.n1 (by have:=d.out.1.n2;omega) d.out.2.1.b1 (by have:=d.out.2.1.b2;omega) d.out.2.1.t1 (by have:=d.out.2.1.t2;omega) (by have:=d.out.2.2.1;omega) (by have:=d.out.2.2.2;omega)
  clear s;go_wp2_with fail;refine rlx [0,1,0,0,0,1] (fun x=>(∀j y,(pE w.res w.own w.tok)[j]?=some y→x.cell? ((⟨B.heap.size+1,0,none⟩:Addr).add j)=some y)∧(∀j y,(vlL o.att.val)[j]?=some y→x.cell? ((⟨t,10,none⟩:Addr).add j)=some y)) (by kernel_rfl) (fun _ _ _ _=>rfl) ?_ ?_
  ·exact⟨g2.out,g5.out⟩
  simp only[cL,cK];iterate 1 (apply sB rfl rfl;·(intro x h;(try have h:=h rfl);(try dsimp only at h);go_simp;with_reducible rfl))
  try simp only[pA]
  refine cM (v:=sQ w.res w.own w.tok) rfl (fun x hx=>cG 191 _ rfl ⟨B.heap.size+1,0,none⟩ rfl (pE w.res w.own w.tok) _ hx.1 underlying191 rfl (by kernel_rfl)) ?_;iterate 3 (apply sB rfl rfl;·(intro x h;(try have h:=h rfl);(try dsimp only at h);go_simp;with_reducible rfl))
  try simp only[pA]
  refine cM (v:=vlV o.att.val) rfl (fun x hx=>cG 56 _ rfl ⟨t,10,none⟩ rfl (vlL o.att.val) _ hx.2 underlying56 rfl (by kernel_rfl)) ?_;refine cD ?_;go_wp2_with (go_at_call 164;refine HE.out.mono ?_;rintro r W5 ⟨rfl,k5⟩)
  ((try simp only[Exit.inBlock,Exit.then]);refine bodyPost_ret (results_none rfl _ _ _) rfl ?_)
  have e5:=M.out;(try rw[e5]at k5);(try simp only[e5,if_true]);rw[pF,aC];exact⟨by first|rfl|trivial,After.trans (⟨a5.out.mono (fun _ _ h=>h.elim),fun _ h=>Or.inl h,fun _ h=>Or.inl h⟩:Went W W4 F F G G) k5.drew⟩
 ·have hr:(w.res==5)=false:=by simp[s]
  have M:Hid (w.res≠5):=s;clear s g5;go_wp2_with (first|(refine cI rfl 191 _ rfl ⟨B.heap.size+1,0,none⟩ rfl (pE w.res w.own w.tok) _ g2.out underlying191 rfl (by kernel_rfl) ?_)|(refine cH rfl 191 _ _ rfl t 14 195 _ _ (tA {o with att:={o.att with eres:=w.res,eown:=w.own,etok:=w.tok}} (.map (some am)) mv) rfl rfl I.out.on.1 (by kernel_rfl) (by simp[Value.oneCell']) (by simp) rfl ?_));intro W5 H h5 b5;have E:=I.out.opset H {o with att:={o.att with eres:=w.res,eown:=w.own,etok:=w.tok}} b5 rfl id id rfl;have g6:=H;have b6:=H.kept e7.out (fun e=>fM e7.out I.out.on.1 (by decide) e);have o7:=cC E.on.1 7 _ rfl;have z7:=cV E.on.1 7;have S:=cZ W5 t 7 (.int .i64 4);have c3:=E.opset S {o with att:={o.att with eres:=w.res,eown:=w.own,etok:=w.tok,awaited:=4}} (cU E.on.1 7 _) rfl (fun h=>absurd (show(4:Int)=0 from h) (by decide)) (fun h=>absurd h haw) rfl;generalize d9:W5.setCell ⟨t,7,none⟩ (.int .i64 4)=W6 at*;have e8:=cB d9;have A:=h9.out;have f0:SetAt W6 am o.att.ans:=MapAt.kept (MapAt.kept A H (A.ne_cells I.out.on.1)) S ((MapAt.kept A H (A.ne_cells I.out.on.1)).ne_cells E.on.1);have f1:=cB (S.kept b6 (fun e=>fM b6 E.on.1 (by decide) e));have o8:=cC c3.on.1 8 _ rfl;have i4:=cB c3;have c8:=cB f0;have h0:=cB (H.trans S (fun _ _ h=>h));clear d9 H h5 b5 E S c3 f0 A b6 g6 e0;go_wp2_with (first|rw[e8.out]|(refine nZ rfl _ _ rfl _ rfl _ (SetAt.clr c8.out _) ?_));intro W7 a3 i3 m7;obtain⟨_,_,f8⟩:=MapAt.obj c8.out;have a2:=i4.out.ansset a3 c8.out [] m7 p.out.2.2.2
  have d1:=cB (a3.kept f1.out (fun e=>dT f1.out f8 (by simp) e));have d0:=cB a2;have d5:=cB ((h0.out.mono (T:=fun k=>k=t∨k=am) (fun _ _ h=>Or.inl h)).trans a3 (fun _ _ h=>Or.inr h));have e9:=a2.cl.cell 16 _ rfl;have p5:=cC a2.on.1 5 _ rfl;have h8:=cB (cF (W:=W7.drew) d1.out);clear a3 i3 m7 f8 a2 o8 o7 z7 e8;go_wp2_with fail;refine dJ [0,0,0,1,1,0,0,0,1] (by kernel_rfl) (fun _ _ _ _=>rfl) ?_;simp only[cL,cK];iterate 4 (apply sB rfl rfl;·(intro x h;(try cases h rfl);go_simp;with_reducible rfl))
  try simp only[pA]
  refine cM (v:=vlV w.next) rfl (fun x hx=>cG 56 _ rfl ⟨B.heap.size,0,none⟩ rfl (vlL w.next) _ (by subst hx;exact h8.out) underlying56 rfl (by kernel_rfl)) ?_;iterate 4 (apply sB rfl rfl;·(intro x h;(try cases h rfl);go_simp;with_reducible rfl))
  refine cD ?_;try simp only[pA]
  have a8:∀q,qD o w.next=q→Hid (Calls prog 202 #[.pointer (some ⟨t,0,none⟩),vlV w.next,.int .i64 o.att.bal] W7.drew fun r W'=>r= .returned (.bool q)∧Chg NoS W7.drew W'):=fun q e=>e▸aDC W7.drew F t _ _ {o with att:={o.att with eres:=w.res,eown:=w.own,etok:=w.tok,awaited:=4,ans:=[]}} w.next (d0.out.kept (Chg.refl _ _).drew).on;cases hmk:qD o w.next
  ·have R:=a8 _ hmk;have HQ:=cB hmk;clear a8 hmk e9 p5;go_wp2_with (go_at_call 202;refine R.out.mono ?_;rintro r D ⟨rfl,k8⟩;refine cE ?_);have u:=k8.of_drew;have U:=cB (d0.out.kept u);have c9:=cB (u.kept d1.out (fun h=>h));have f5:=cB (d5.out.trans u (fun _ _ h=>h.elim));clear k8 u R;refine cB ?_;have EO:Hid (eV o w={o with att:={o.att with eres:=w.res,eown:=w.own,etok:=w.tok,awaited:=4,ans:=[]}}):=by
    unfold eV;rw[HQ.out]
    rfl
   have c4:=cB (a6.out.kept f5.out (fun k a hs=>hs.elim (fun e=>p.out.2.1 t HK.out.on.2.1 (e▸a)) (fun e=>p.out.2.1 am L (e▸a))));have Y:=cB p.out.2.1;have b8:Hid (Went W D F F G G):=⟨(a5.out.mono (T:=fun k=>F k∨G k) (fun _ _ h=>h.elim)).trans f5.out (fun x _ hs=>Or.inl (hs.elim (fun e=>e▸HK.out.on.2.1) (fun e=>e▸L))),fun _ h=>Or.inl h,fun _ h=>Or.inl h⟩;go_wp2_with fail;have HS:Hid (Calls prog 165 #[.pointer (some ⟨b,0,none⟩),mgV ⟨3,0,0,0,0,o.att.base,w.next⟩] D.drew fun r W'=>r= .returned (.tuple #[])∧∃G',Sys W' F G' b g f av cv {c with doing:=some (eV o w)} (net++cJ (fD c (eV o w) 3 o.att.base w.next (gB f))) (tr++fD c (eV o w) 3 o.att.base w.next (gB f))∧Chg G D.drew W'∧∀k,G' k→G k∨D.drew.heap.size≤k):=
    qW D.drew F G b g f av cv {c with doing:=some (eV o w)} (eV o w) net tr 3 o.att.base w.next (Sys.drew ⟨⟨ch,tk,a4,wt,_,by rw[EO.out];exact U.out.cl⟩,c4.out,Y.out⟩) rfl hf1 hf2 d.out.2.2.1 d.out.2.2.2
   have b9:=cC U.out.on.1 9 _ rfl;have a0:=cB (cF (W:=D.drew) c9.out);refine dJ [0,0,0,0,1,1,0] (by kernel_rfl) (fun _ _ _ _=>rfl) ?_;simp only[cL,cK];iterate 5 (apply sB rfl rfl;·(intro x h;(try cases h rfl);go_simp;with_reducible rfl))
   try simp only[pA]
   refine cM (v:=vlV w.next) rfl (fun x hx=>cG 56 _ rfl ⟨B.heap.size,0,none⟩ rfl (vlL w.next) _ (by subst hx;exact a0.out) underlying56 rfl (by kernel_rfl)) ?_;iterate 1 (apply sB rfl rfl;·(intro x h;(try cases h rfl);go_simp;with_reducible rfl))
   refine cD ?_;try simp only[pA]
   go_wp2_with (go_at_call 165;refine HS.out.mono ?_;rintro r W9 ⟨rfl,G9,q1,q2,q3⟩);go_end0;(try rw[if_neg M.out,if_neg M.out]);exact⟨by first|rfl|trivial,F,G9,q1,b8.out.trans ⟨q2.of_drew.mono (fun _ _ h=>Or.inr h),fun _ h=>Or.inl h,q3⟩⟩
  ·have R:=a8 _ hmk;have HQ:=cB hmk;clear a8 hmk e9 p5;go_wp2_with (go_at_call 202;refine R.out.mono ?_;rintro r P ⟨rfl,k8⟩;refine cE ?_);have u:=k8.of_drew;have n:=cB (d0.out.kept u);have d2:=cB (u.kept d1.out (fun h=>h));have c1:=cB (d5.out.trans u (fun _ _ h=>h.elim));clear k8 u R;refine cB ?_;go_wp2_with fail;refine rlx [0,0,0,1,0,0,0,1,0,0,1,0,0,0,1,2,2,0,0] (fun x=>x.cell? ⟨b,16,none⟩=some (.pointer (some ⟨t,0,none⟩))∧x.cell? ⟨t,17,none⟩=some mv∧x.cell? ⟨t,5,none⟩=some (.int .i64 o.att.bal)) (by kernel_rfl) (fun _ _ _ _=>rfl) ?_ ?_
   ·exact⟨n.out.cl.cell 16 _ rfl,cC n.out.on.1 17 _ rfl,cC n.out.on.1 5 _ rfl⟩
   simp only[cL,cK];iterate 15 (apply sB rfl rfl;·(intro x h;(try have h:=h rfl);(try dsimp only at h);go_simp;with_reducible rfl))
   try simp only[pA]
   refine dC rfl (fun C hC=>?_);go_simp;have c6:Chg NoS P (P.alloc (.cells #[.int .i64 o.att.bal] 3)).drew:=((Chg.refl _ _).alloc _).drew;have bS:(P.alloc (.cells #[.int .i64 o.att.bal] 3)).drew.heap[P.heap.size]?=some (.cells #[.int .i64 o.att.bal] 3 (0,0)):=aA P _;have hsB:(P.alloc (.cells #[.int .i64 o.att.bal] 3)).drew.heap.size=P.heap.size+1:=by simp
   generalize (P.alloc (.cells #[.int .i64 o.att.bal] 3)).drew=WB at*;have i:=n.out.kept c6;refine hC _ _ ⟨i.cl.cell 16 _ rfl,cC i.on.1 17 _ rfl,cC i.on.1 5 _ rfl⟩ ?_;clear hC C;(try simp only[pA]);obtain⟨i0,hi,h4,i5,i2⟩:=info_parts aGs;refine dC rfl (fun C hC=>?_);refine wp_append_lies _ _ _ 25 rfl 0 3 i0 _ 1 8 underlying25 hi h4 i5 i2 rfl (by decide) mv o.mine.length (qU o.mine) rfl i.on.2.2.2.1 ⟨P.heap.size,0,none⟩ 1 1 [.int .i64 o.att.bal] rfl rfl (cF bS) (by simp[Value.oneCell']) (by decide) (by unfold maxLen;omega) (by omega) (aI _) (P.heap.size+1) hsB ?_;intro O b0 WC Z N f9 h3;have J:WB.grownBy WC mv.ownBlock:=⟨N.os,N.tape,N.output,N.size,N.block⟩;have b3:=fS i.on.2.2.2.1 i.on.1 (by decide);have m:=(Chg.of_grown J).kept i.on.1 (fun e=>b3 t e.symm rfl);have e2:=(Chg.of_grown J).kept i.cl.blk (fun e=>fS i.on.2.2.2.1 i.cl.blk (by decide) b e.symm rfl);refine hC _ _ ⟨cC e2 16 _ rfl,cC m 17 _ rfl,cC m 5 _ rfl⟩ ?_;clear hC C e2;(try simp only[pA]);iterate 2 (apply sB rfl rfl;·(intro x h;(try have h:=h rfl);(try dsimp only at h);go_simp;with_reducible rfl))
   refine cD ?_;try simp only[pA]
   have b7:=(c6.mono (T:=fun k=>some k=mv.ownBlock) (fun _ _ h=>h.elim)).trans (Chg.of_grown J) (fun _ _ h=>h);have d3:=fS Z m (by decide) O rfl;have i8:=cC m 17 _ rfl;have i7:=cV m 17;have c5:=cZ WC t 17 (.slice (some ⟨O,0,none⟩) (o.mine.length+1) b0);have e1:=cU m 17 (.slice (some ⟨O,0,none⟩) (o.mine.length+1) b0);have h6:(WC.setCell ⟨t,17,none⟩ (.slice (some ⟨O,0,none⟩) (o.mine.length+1) b0)).heap.size=WC.heap.size:=by simp
   have a1:=c5.row Z (fun q hq e=>by simp[Value.ownBlock]at hq;omega);generalize f6:WC.setCell ⟨t,17,none⟩ (.slice (some ⟨O,0,none⟩) (o.mine.length+1) b0)=D at*;have h7:=cB f6;have K:=(b7.mono (T:=fun k=>some k=mv.ownBlock∨k=t) (fun _ _ h=>Or.inl h)).trans c5 (fun _ _ h=>Or.inr h);have g8:=b7.size;have e3:∀k,(F k∨k=O)→k<D.heap.size:=fun k a=>by
    rcases a with a|rfl
    ·have:=n.out.cl.lt k a;omega
    ·omega
   have f4:=n.out.mineset K o.att.bal (fun _ h=>Or.inl h) e3 (Or.inr rfl) e1 (by rw[show qU (o.mine++[o.att.bal])=qU o.mine++[.int .i64 o.att.bal] by simp[qU]];exact a1);have U:=cB f4;have X:∀k,k=O→F k∨P.heap.size≤k:=fun k e=>by
    subst e;rcases f9 with h|h
    ·exact Or.inl (n.out.on.2.2.2.2 _ h)
    ·right;omega
   have EO:Hid (eV o w={o with att:={o.att with eres:=w.res,eown:=w.own,etok:=w.tok,awaited:=4,ans:=[]},mine:=o.mine++[o.att.bal]}):=by
    unfold eV;rw[HQ.out]
    rfl
   have V:=(c1.out.mono (T:=F) (fun k _ hs=>hs.elim (fun e=>e▸HK.out.on.2.1) (fun e=>e▸L))).trans K (fun x _ hs=>hs.elim (fun e=>n.out.on.2.2.2.2 x e.symm) (fun e=>e▸HK.out.on.2.1));have c4:=cB (a6.out.kept V (fun k a hs=>p.out.2.1 k hs a));have Y:Hid (∀k,(F k∨k=O)→¬G k):=fun k a hg=>by
    have h1:=a6.out.lt k hg;have h2:=c1.out.size;rcases a with a|a
    ·exact p.out.2.1 k a hg
    ·rcases X k a with h|h
     ·exact p.out.2.1 k h hg
     ·omega
   have b8:Hid (Went W D F (fun k=>F k∨k=O) G G):=⟨((a5.out.mono (T:=F) (fun _ _ h=>h.elim)).trans V (fun _ _ h=>h)).mono (fun _ _ h=>Or.inl h),fun k a=>by
    rcases a with a|a
    ·exact Or.inl a
    ·rcases X k a with h|h
     ·exact Or.inl h
     ·right;have h1:=a5.out.size;have h2:=c1.out.size;omega,fun _ h=>Or.inl h⟩
   have c9:Hid (D.heap[B.heap.size]?=some (.cells (vlL w.next).toArray 56 (0,0))):=by
    refine K.kept d2.out (fun hs=>?_);rcases hs with e|e
    ·exact fS n.out.on.2.2.2.1 d2.out (by decide) _ e.symm rfl
    ·exact fM d2.out n.out.on.1 (by decide) e
   clear f6 f4 K V X e3 a1 h6 e1 c5 b7 m N J Z i c6 bS hsB f9 h3 b3 d3 g8;(try simp only[pA]);go_wp2_with (first|rw[h7.out]);have HS:Hid (Calls prog 165 #[.pointer (some ⟨b,0,none⟩),mgV ⟨3,0,0,0,0,o.att.base,w.next⟩] D.drew fun r W'=>r= .returned (.tuple #[])∧∃G',Sys W' (fun k=>F k∨k=O) G' b g f av cv {c with doing:=some (eV o w)} (net++cJ (fD c (eV o w) 3 o.att.base w.next (gB f))) (tr++fD c (eV o w) 3 o.att.base w.next (gB f))∧Chg G D.drew W'∧∀k,G' k→G k∨D.drew.heap.size≤k):=
    qW D.drew (fun k=>F k∨k=O) G b g f av cv {c with doing:=some (eV o w)} (eV o w) net tr 3 o.att.base w.next (Sys.drew ⟨⟨ch,tk,a4,wt,_,by rw[EO.out];exact U.out.cl⟩,c4.out,Y.out⟩) rfl hf1 hf2 d.out.2.2.1 d.out.2.2.2
   have b9:=cC U.out.on.1 9 _ rfl;have a0:=cB (cF (W:=D.drew) c9.out);refine dJ [0,0,0,0,1,1,0] (by kernel_rfl) (fun _ _ _ _=>rfl) ?_;simp only[cL,cK];iterate 5 (apply sB rfl rfl;·(intro x h;(try cases h rfl);go_simp;with_reducible rfl))
   try simp only[pA]
   refine cM (v:=vlV w.next) rfl (fun x hx=>cG 56 _ rfl ⟨B.heap.size,0,none⟩ rfl (vlL w.next) _ (by subst hx;exact a0.out) underlying56 rfl (by kernel_rfl)) ?_;iterate 1 (apply sB rfl rfl;·(intro x h;(try cases h rfl);go_simp;with_reducible rfl))
   refine cD ?_;try simp only[pA]
   go_wp2_with (go_at_call 165;refine HS.out.mono ?_;rintro r W9 ⟨rfl,G9,q1,q2,q3⟩);go_end0;(try rw[if_neg M.out,if_neg M.out]);exact⟨by first|rfl|trivial,(fun k=>F k∨k=O),G9,q1,b8.out.trans ⟨q2.of_drew.mono (fun _ _ h=>Or.inr h),fun _ h=>Or.inl h,q3⟩⟩
theorem aEK(o:On)(an mv:Value):∀j x,(pE o.att.eres o.att.eown o.att.etok)[j]?=some x→(tA o an mv).toArray[14+j]?=some x:=by
 intro j x a;have b:j<3:=(aF.1 a).1;rcases j with _|_|_|j
 ·exact a
 ·exact a
 ·exact a
 ·omega
theorem aHx(m:Mg):∀j x,(vlL m.val)[j]?=some x→(mgL m).toArray[6+j]?=some x:=by
 intro j x a;have b:j<4:=(aF.1 a).1;rcases j with _|_|_|_|j
 ·exact a
 ·exact a
 ·exact a
 ·exact a
 ·omega
section
variable {f:Cf}{c:Ct}{o:On}{m:Mg}
theorem qC(h:o.att.ans.contains m.src=false)(h2:((heardOn o m).att.ans.length:Int)≤f.f):iZ f c o m={c with doing:=some (heardOn o m)}∧jF f c o m=[]:=by
 have hneg:¬o.att.ans.contains m.src=true:=by rw[h];decide
 constructor
 ·unfold iZ;rw[if_neg hneg];exact if_pos h2
 ·unfold jF;rw[if_neg hneg];exact if_pos h2
theorem oJ(h:o.att.ans.contains m.src=false)(h2:¬((heardOn o m).att.ans.length:Int)≤f.f)(h3:m.kind=2):iZ f c o m=iT f {c with doing:=some (heardOn o m)} (heardOn o m)∧jF f c o m=iN f {c with doing:=some (heardOn o m)} (heardOn o m):=by
 have hneg:¬o.att.ans.contains m.src=true:=by rw[h];decide
 constructor
 ·unfold iZ;rw[if_neg hneg];exact(if_neg h2).trans (if_pos h3)
 ·unfold jF;rw[if_neg hneg];exact(if_neg h2).trans (if_pos h3)
theorem pQ(h:o.att.ans.contains m.src=false)(h2:¬((heardOn o m).att.ans.length:Int)≤f.f)(h3:m.kind≠2):iZ f c o m=gA c (heardOn o m) (heardOn o m).att.eres (heardOn o m).att.etok (heardOn o m).att.val∧jF f c o m=lO c (heardOn o m) (heardOn o m).att.eres (heardOn o m).att.eown (heardOn o m).att.etok:=by
 have a:¬o.att.ans.contains m.src=true:=by rw[h];decide
 constructor
 ·unfold iZ;rw[if_neg a];exact(if_neg h2).trans (if_neg h3)
 ·unfold jF;rw[if_neg a];exact(if_neg h2).trans (if_neg h3)
end
theorem aFA(W:World)(F G:Nat→Prop)(b g:Nat)(f:Cf)(av cv:Value)(c:Ct)(o:On)(net:List Mg)(tr:List Ev)(m:Mg)(h:Sys W F G b g f av cv c net tr)(hd:c.doing=some o)(hf1:1≤f.f)(hf2:f.f≤2)(hdr1:0≤f.drift)(hdr2:f.drift≤10)(hc:xL c)(ho:aDS o)(hv:aAL o.att.val)(hvm:aAL m.val)
 (haw:o.att.awaited≠0) (hm:o.mine.length≤100000000000) (hw:∀l,0≤(c.wat l).since∧(c.wat l).since≤100000000000) (hla:o.att.ans.length≤100000000000) (hn:net.length≤99999999990) (ht:tr.length≤99999999990):
 Calls prog 132 #[.pointer (some ⟨b,0,none⟩),mgV m] W fun r W'=>r= .returned (.tuple #[])∧After W F G b g f av cv (iZ f c o m) (net++cJ (jF f c o m)) (tr++jF f c o m) W':=by
 obtain⟨⟨ch,tk,J,wt,dv,d7⟩,d1,d3⟩:=h;obtain⟨I,an,mv,rfl,hk⟩:=d7.kt hd;obtain⟨D,rfl,c8,b0⟩:∃D,an= .map (some D)∧SetAt W D o.att.ans∧F D:=by
  rcases hk.on.2.2.1 with⟨_,_,h⟩|h
  ·exact absurd h haw
  ·exact h
 generalize O:W.alloc (.cells #[.int .i64 m.kind,.int .i64 m.src,.int .i64 m.dst,.int .i64 m.lock,.int .i64 m.bal,.int .i64 m.base,.int .i64 m.val.own,.int .i64 m.val.tok,.int .i64 m.val.ttl,.int .i64 m.val.seq] 66)=W0;have d2:=cB O;have N:Chg NoS W W0:=by rw[←O];exact(Chg.refl _ _).alloc _
 have d6:W0.heap[W.heap.size]?=some (.cells (mgL m).toArray 66 (0,0)):=by rw[←O];exact aA W _
 have c9:W0.heap.size=W.heap.size+1:=by rw[←O];simp
 have E:=cB (hk.kept N);have c4:Hid (SetAt W0 D o.att.ans):=MapAt.kept c8 N (fun h=>h);have b5:=cB (d1.kept N (fun _ _ h=>h));have M:=cB d6;have b8:=cB N;have e6:=cB c9;have P:=cB d3;have a:=cB (aJ1 hc ho hv hvm hw hd b0);have e7:=E.out.cl.cell 16 _ rfl;clear O N d6 c9 hk c8 d1 d7 d3 hc ho hv hvm hw;by_cases u:o.att.ans.contains m.src=true
 ·have eS:iZ f c o m=c:=by unfold iZ;rw[if_pos u]
  have eE:jF f c o m=[]:=by unfold jF;rw[if_pos u]
  rw[eS,eE,fE,aC,aC];have HG:∀x,Chg NoS W0 x→(Instr.lookup 189 (.map (some D)) (iK m.src) true).run prog x= .ok (.tuple #[.agg #[],.bool true]) x:=fun x hx=>u▸SetAt.has (MapAt.kept c4.out hx (fun h=>h)) m.src;clear eS eE u hd;go_enter func132,ntmps132;go_wp2_with (rw[d2.out]);refine rlx [0,0,0,1,0,1,1,0,0,0,2] (fun x=>x.cell? ⟨I,8,none⟩=some (.map (some D))∧x.cell? ⟨W.heap.size,1,none⟩=some (.int .i64 m.src)∧(Instr.lookup 189 (.map (some D)) (iK m.src) true).run prog x= .ok (.tuple #[.agg #[],.bool true]) x) (by kernel_rfl) (fun _ _ _ _=>rfl) ?_ ?_
  ·exact⟨cC E.out.on.1 8 _ rfl,cC M.out 1 _ rfl,HG _ (Chg.refl _ _).drew⟩
  simp only[cL,cK];iterate 10 (apply sB rfl rfl;·(intro x h;(try have h:=h rfl);(try dsimp only at h);go_simp;with_reducible rfl))
  try simp only[pA]
  refine dC rfl (fun C hC=>?_);go_simp;have z:Chg NoS W0 (W0.alloc (.cells #[] 206)).drew:=((Chg.refl _ _).alloc _).drew;have bE:(W0.alloc (.cells #[] 206)).drew.heap[W0.heap.size]?=some (.cells #[] 206 (0,0)):=aA W0 _;generalize (W0.alloc (.cells #[] 206)).drew=W1 at*;refine hC _ _ ⟨cC (z.kept E.out.on.1 (fun h=>h)) 8 _ rfl,cC (z.kept M.out (fun h=>h)) 1 _ rfl,HG _ z⟩ ?_;clear hC C;refine cD ?_;(try simp only[pA]);refine cH rfl 206 _ _ rfl W0.heap.size 0 206 _ _ [] rfl rfl bE (by kernel_rfl) (by simp) (by simp) rfl ?_;intro W2 L b6 c6;have H:=cB (z.fresh L (aE _));clear z bE L b6 c6 HG;go_wp2_with fail
  ((try simp only[Exit.inBlock,Exit.then]);refine bodyPost_ret (results_none rfl _ _ _) rfl ?_)
  have e3:=b8.out.trans H.out (fun _ _ h=>h);exact⟨rfl,F,G,⟨⟨ch,tk,J,wt,_,(E.out.kept H.out).cl⟩,b5.out.kept H.out (fun _ _ h=>h),P.out⟩,⟨e3.mono (fun _ _ h=>h.elim),fun _ h=>Or.inl h,fun _ h=>Or.inl h⟩⟩
 ·have u:o.att.ans.contains m.src=false:=by simpa using u
  have HG:∀x,Chg NoS W0 x→(Instr.lookup 189 (.map (some D)) (iK m.src) true).run prog x= .ok (.tuple #[.agg #[],.bool false]) x:=fun x hx=>u▸SetAt.has (MapAt.kept c4.out hx (fun h=>h)) m.src;clear hd;go_enter func132,ntmps132;go_wp2_with (rw[d2.out]);refine rlx [0,0,0,1,0,1,1,0,0,0,2] (fun x=>x.cell? ⟨I,8,none⟩=some (.map (some D))∧x.cell? ⟨W.heap.size,1,none⟩=some (.int .i64 m.src)∧(Instr.lookup 189 (.map (some D)) (iK m.src) true).run prog x= .ok (.tuple #[.agg #[],.bool false]) x) (by kernel_rfl) (fun _ _ _ _=>rfl) ?_ ?_
  ·exact⟨cC E.out.on.1 8 _ rfl,cC M.out 1 _ rfl,HG _ (Chg.refl _ _).drew⟩
  simp only[cL,cK];iterate 10 (apply sB rfl rfl;·(intro x h;(try have h:=h rfl);(try dsimp only at h);go_simp;with_reducible rfl))
  try simp only[pA]
  refine dC rfl (fun C hC=>?_);go_simp;have z:Chg NoS W0 (W0.alloc (.cells #[] 206)).drew:=((Chg.refl _ _).alloc _).drew;have bE:(W0.alloc (.cells #[] 206)).drew.heap[W0.heap.size]?=some (.cells #[] 206 (0,0)):=aA W0 _;generalize (W0.alloc (.cells #[] 206)).drew=W1 at*;refine hC _ _ ⟨cC (z.kept E.out.on.1 (fun h=>h)) 8 _ rfl,cC (z.kept M.out (fun h=>h)) 1 _ rfl,HG _ z⟩ ?_;clear hC C;refine cD ?_;(try simp only[pA]);refine cH rfl 206 _ _ rfl W0.heap.size 0 206 _ _ [] rfl rfl bE (by kernel_rfl) (by simp) (by simp) rfl ?_;intro W2 L b6 c6;have H:=cB (z.fresh L (aE _));clear z bE L b6 c6 HG;have i:=cB (E.out.kept H.out);have c7:Hid (SetAt W2 D o.att.ans):=MapAt.kept c4.out H.out (fun h=>h);have c0:=cB (H.out.kept M.out (fun h=>h));have a8:=cC i.out.on.1 8 _ rfl;have x1:=cC c0.out 1 _ rfl;go_wp2_with fail;refine dJ [0,0,0,1,0,1,0] (by kernel_rfl) (fun _ _ _ _=>rfl) ?_;simp only[cL,cK];iterate 7 (apply sB rfl rfl;·(intro x h;(try cases h rfl);go_simp;with_reducible rfl))
  refine cD ?_;try simp only[pA]
  refine jT rfl _ _ _ _ rfl _ _ _ rfl rfl rfl _ (SetAt.put (W:=W2.drew) c7.out m.src u) ?_;rintro W3 ⟨a3,e1,m3⟩;have d4:=i.out.ansset a3.of_drew c7.out _ m3 a.out.2.2.2.2.2.2;obtain⟨_,_,d5⟩:=MapAt.obj c7.out;have a4:=cB (a3.of_drew.kept c0.out (fun e=>dT c0.out d5 (by simp) e));have a5:=cB d4;have d0:=cB ((H.out.mono (T:=F) (fun _ _ h=>h.elim)).trans a3.of_drew (fun x _ e=>e▸b0));clear a3 e1 m3 d4 d5 a8 x1;have a9:=cC a5.out.on.1 9 _ rfl;have x5:=cC a4.out 5 _ rfl;go_wp2_with fail;by_cases hb:o.att.base<m.base
  ·have e4:decide (o.att.base<m.base)=true:=by simpa using hb
   have Q:=cB hb;clear hb;refine dJ [0,1,0,0,0,1,0] (by kernel_rfl) (fun _ _ _ _=>rfl) ?_;simp only[cL,cK];iterate 7 (apply sB rfl rfl;·(intro x h;(try cases h rfl);go_simp;with_reducible rfl))
   refine cD ?_;try simp only[pA]
   go_wp2_with fail;have z9:=cV a5.out.on.1 9;refine rlx [0,0,0,1,0,1,0,0,2,0,0] (fun x=>x.cell? ⟨W.heap.size,5,none⟩=some (.int .i64 m.base)∧(∀j y,(vlL m.val)[j]?=some y→x.cell? ((⟨W.heap.size,6,none⟩:Addr).add j)=some y)) (by kernel_rfl) (fun _ _ _ _=>rfl) ?_ ?_
   ·exact⟨x5,eW a4.out 6 _ (aHx m)⟩
   simp only[cL,cK];iterate 5 (apply sB rfl rfl;·(intro x h;(try have h:=h rfl);(try dsimp only at h);go_simp;with_reducible rfl))
   try simp only[pA]
   refine cM (v:=vlV m.val) rfl (fun x hx=>cG 56 _ rfl ⟨W.heap.size,6,none⟩ rfl (vlL m.val) _ hx.2 underlying56 rfl (by kernel_rfl)) ?_;iterate 2 (apply sB rfl rfl;·(intro x h;(try have h:=h rfl);(try dsimp only at h);go_simp;with_reducible rfl))
   try simp only[pA]
   refine dC rfl (fun C hC=>?_);generalize Z:W3.drew.drew=Wd at*;have B:Kt Wd F b g f {c with doing:=some {o with att:={o.att with ans:=o.att.ans++[m.src]}}} {o with att:={o.att with ans:=o.att.ans++[m.src]}} ch tk J wt I (.map (some D)) mv:=Z▸a5.out.kept (Chg.refl _ _).drew.drew;have V:Wd.heap[W.heap.size]?=some (.cells (mgL m).toArray 66 (0,0)):=Z▸a4.out;have b3:=Z▸d0.out.drew.drew;have d9:=cC B.on.1 9 _ rfl;have e2:=cV B.on.1 9;clear Z;go_simp;have a6:=cZ Wd I 9 (.int .i64 m.base);have a7:=B.opset a6 {o with att:={o.att with ans:=o.att.ans++[m.src],base:=m.base}} (cU B.on.1 9 _) rfl (fun h=>absurd h haw) (fun h=>absurd h haw) rfl;have R:=a6.kept V (fun e=>fM V B.on.1 (by decide) e);generalize Wd.setCell ⟨I,9,none⟩ (.int .i64 m.base)=We at*;refine hC _ _ ⟨cC R 5 _ rfl,eW R 6 _ (aHx m)⟩ ?_;clear hC C;(try simp only[pA]);iterate 2 (apply sB rfl rfl;·(intro x h;(try have h:=h rfl);(try dsimp only at h);go_simp;with_reducible rfl))
   refine cD ?_;try simp only[pA]
   refine cH rfl 56 _ _ rfl I 10 195 _ _ (tA (heardOn o m) (.map (some D)) mv) rfl rfl a7.on.1 (by kernel_rfl) (by simp[Value.oneCell']) (by simp) (by unfold heardOn;rw[if_pos Q.out,if_pos Q.out];rfl) ?_;intro t a0 e5 b4;have s:=cB (a7.opset a0 (heardOn o m) b4 rfl (fun h=>absurd h haw) (fun h=>absurd h haw) rfl);have c5:=cB (a0.kept R (fun e=>fM R a7.on.1 (by decide) e));have K:=cB ((b3.trans a6 (fun x _ e=>e▸E.out.on.2.1)).trans a0 (fun x _ e=>e▸E.out.on.2.1));clear B V b3 d9 e2 a6 a7 R a0 e5 b4 a9 x5 z9;go_wp2_with fail;have w:Hid (Went W t F F G G):=⟨((b8.out.mono (T:=F) (fun _ _ h=>h.elim)).trans K.out (fun _ _ h=>h)).mono (fun _ _ h=>Or.inl h),fun _ h=>Or.inl h,fun _ h=>Or.inl h⟩;have b9:=cB (b5.out.kept K.out (fun k hk hs=>P.out k hs hk));have c3:Hid (SetAt t D (heardOn o m).att.ans):=by
    rcases s.out.on.2.2.1 with⟨_,_,h⟩|⟨x,h1,h2,_⟩
    ·exact absurd h haw
    ·have e:D=x:=by simpa using h1
     rw[e];exact h2
   have A:Hid (Sys t F G b g f av cv {c with doing:=some (heardOn o m)} net tr):=⟨⟨ch,tk,J,wt,_,s.out.cl⟩,b9.out,P.out⟩;have d8:=SetAt.size (W:=t.drew) c3.out 3;have r8:=cC s.out.on.1 8 _ rfl;have r0:=s.out.cl.cell 0 _ rfl;have e0:=cC c5.out 0 _ rfl;have q:=cB u;clear u;by_cases p:((heardOn o m).att.ans.length:Int)≤f.f
   ·have U:decide (((heardOn o m).att.ans.length:Int)≤f.f)=true:=by simpa using p
    have d:=cB p;clear p;refine dJ [0,0,0,1,1,0,0,0,0,1,0] (by kernel_rfl) (fun _ _ _ _=>rfl) ?_;simp only[cL,cK];iterate 11 (apply sB rfl rfl;·(intro x h;(try cases h rfl);go_simp;with_reducible rfl))
    refine cD ?_;try simp only[pA]
    go_wp2_with fail
    ((try simp only[Exit.inBlock,Exit.then]);refine bodyPost_ret (results_none rfl _ _ _) rfl ?_)
    rw[(qC q.out (by have:=d.out;omega)).1,(qC q.out (by have:=d.out;omega)).2,fE,aC,aC];exact⟨rfl,F,G,A.out.drew,⟨w.out.chg.drew,w.out.f,w.out.g⟩⟩
   ·have U:decide (((heardOn o m).att.ans.length:Int)≤f.f)=false:=by simpa using p
    have d:=cB p;clear p;have b7:Hid (aAL (heardOn o m).att.val):=by
     show aAL (if o.att.base<m.base then m.val else o.att.val);split
     ·exact a.out.2.2.2.1
     ·exact a.out.2.2.1
    by_cases n:m.kind=2
    ·have Y:(m.kind==2)=true:=by simp[n]
     have i:=cB n;clear n;have HP:Hid (Calls prog 175 #[.pointer (some ⟨b,0,none⟩)] t.drew fun r W'=>r= .returned (.tuple #[])∧After t.drew F G b g f av cv (iT f {c with doing:=some (heardOn o m)} (heardOn o m)) (net++cJ (iN f {c with doing:=some (heardOn o m)} (heardOn o m))) (tr++iN f {c with doing:=some (heardOn o m)} (heardOn o m)) W'):=
      wQ t.drew F G b g f av cv {c with doing:=some (heardOn o m)} (heardOn o m) net tr A.out.drew rfl hf1 hf2 hdr1 hdr2 ⟨a.out.1.n1,a.out.1.n2,a.out.1.i1,a.out.1.i2,a.out.1.c1,a.out.1.c2,a.out.1.r1,a.out.1.r2⟩ ⟨a.out.2.1.b1,a.out.2.1.b2,a.out.2.1.t1,a.out.2.1.t2,a.out.2.1.k1,a.out.2.1.k2,a.out.2.1.a1,a.out.2.1.a2⟩ b7.out haw hm a.out.2.2.2.2.1 hn ht
     refine dJ [0,0,0,1,1,0,0,0,0,1,0] (by kernel_rfl) (fun _ _ _ _=>rfl) ?_;simp only[cL,cK];iterate 11 (apply sB rfl rfl;·(intro x h;(try cases h rfl);go_simp;with_reducible rfl))
     refine cD ?_;try simp only[pA]
     go_wp2_with (go_at_call 175;refine HP.out.mono ?_;rintro r W5 ⟨rfl,k5⟩)
     ((try simp only[Exit.inBlock,Exit.then]);refine bodyPost_ret (results_none rfl _ _ _) rfl ?_)
     rw[(oJ q.out (by have:=d.out;omega) i.out).1,(oJ q.out (by have:=d.out;omega) i.out).2];exact⟨rfl,After.trans w.out k5.drew⟩
    ·have Y:(m.kind==2)=false:=by simp[n]
     have i:=cB n;clear n;have HE:Hid (Calls prog 164 #[.pointer (some ⟨b,0,none⟩),sQ (heardOn o m).att.eres (heardOn o m).att.eown (heardOn o m).att.etok,vlV (heardOn o m).att.val] t.drew.drew fun r W'=>r= .returned (.tuple #[])∧After t.drew.drew F G b g f av cv (gA {c with doing:=some (heardOn o m)} (heardOn o m) (heardOn o m).att.eres (heardOn o m).att.etok (heardOn o m).att.val) net (tr++lO {c with doing:=some (heardOn o m)} (heardOn o m) (heardOn o m).att.eres (heardOn o m).att.eown (heardOn o m).att.etok) W'):=
      tU t.drew.drew F G b g f av cv {c with doing:=some (heardOn o m)} (heardOn o m) net tr _ _ _ _ A.out.drew.drew rfl a.out.1.n1 (by have:=a.out.1.n2;show c.num≤1000;omega) a.out.2.1.b1 (by have:=a.out.2.1.b2;show o.began≤1000000000000;omega) a.out.2.1.t1 (by have:=a.out.2.1.t2;show o.ttl≤1000000;omega) (by omega) (by omega)
     have S:=cB (eW (W:=t.drew.drew) s.out.on.1 14 _ (aEK _ _ _));have X:=cB (eW (W:=t.drew.drew) s.out.on.1 10 _ (xQ _ _ _));refine dJ [0,0,0,1,1,0,0,0,0,1,0] (by kernel_rfl) (fun _ _ _ _=>rfl) ?_;simp only[cL,cK];iterate 11 (apply sB rfl rfl;·(intro x h;(try cases h rfl);go_simp;with_reducible rfl))
     refine cD ?_;try simp only[pA]
     go_wp2_with fail;refine dJ [0,0,0,0,1,0,0,0,1] (by kernel_rfl) (fun _ _ _ _=>rfl) ?_;simp only[cL,cK];iterate 4 (apply sB rfl rfl;·(intro x h;(try cases h rfl);go_simp;with_reducible rfl))
     try simp only[pA]
     refine cM (v:=sQ (heardOn o m).att.eres (heardOn o m).att.eown (heardOn o m).att.etok) rfl (fun x hx=>cG 191 _ rfl ⟨I,14,none⟩ rfl (pE (heardOn o m).att.eres (heardOn o m).att.eown (heardOn o m).att.etok) _ (by subst hx;exact S.out) underlying191 rfl (by kernel_rfl)) ?_;iterate 3 (apply sB rfl rfl;·(intro x h;(try cases h rfl);go_simp;with_reducible rfl))
     try simp only[pA]
     refine cM (v:=vlV (heardOn o m).att.val) rfl (fun x hx=>cG 56 _ rfl ⟨I,10,none⟩ rfl (vlL (heardOn o m).att.val) _ (by subst hx;exact X.out) underlying56 rfl (by kernel_rfl)) ?_;refine cD ?_;go_wp2_with (go_at_call 164;refine HE.out.mono ?_;rintro r W5 ⟨rfl,k5⟩);go_end0;rw[(pQ q.out (by have:=d.out;omega) i.out).1,(pQ q.out (by have:=d.out;omega) i.out).2,pF,aC];exact⟨rfl,After.trans w.out k5.drew.drew⟩
  ·have e4:decide (o.att.base<m.base)=false:=by simpa using hb
   have Q:=cB hb;clear hb;refine dJ [0,1,0,0,0,1,0] (by kernel_rfl) (fun _ _ _ _=>rfl) ?_;simp only[cL,cK];iterate 7 (apply sB rfl rfl;·(intro x h;(try cases h rfl);go_simp;with_reducible rfl))
   refine cD ?_;try simp only[pA]
   have s:Hid (Kt W3.drew F b g f {c with doing:=some (heardOn o m)} (heardOn o m) ch tk J wt I (.map (some D)) mv):=by
    have e:heardOn o m={o with att:={o.att with ans:=o.att.ans++[m.src]}}:=by unfold heardOn;rw[if_neg Q.out,if_neg Q.out]
    rw[e];exact a5.out.kept (Chg.refl _ _).drew
   have c5:Hid (W3.drew.heap[W.heap.size]?=some (.cells (mgL m).toArray 66 (0,0))):=a4.out;have K:=cB d0.out.drew;clear a9 x5;generalize W3.drew=t at*;go_wp2_with fail;have w:Hid (Went W t F F G G):=⟨((b8.out.mono (T:=F) (fun _ _ h=>h.elim)).trans K.out (fun _ _ h=>h)).mono (fun _ _ h=>Or.inl h),fun _ h=>Or.inl h,fun _ h=>Or.inl h⟩;have b9:=cB (b5.out.kept K.out (fun k hk hs=>P.out k hs hk));have c3:Hid (SetAt t D (heardOn o m).att.ans):=by
    rcases s.out.on.2.2.1 with⟨_,_,h⟩|⟨x,h1,h2,_⟩
    ·exact absurd h haw
    ·have e:D=x:=by simpa using h1
     rw[e];exact h2
   have A:Hid (Sys t F G b g f av cv {c with doing:=some (heardOn o m)} net tr):=⟨⟨ch,tk,J,wt,_,s.out.cl⟩,b9.out,P.out⟩;have d8:=SetAt.size (W:=t.drew) c3.out 3;have r8:=cC s.out.on.1 8 _ rfl;have r0:=s.out.cl.cell 0 _ rfl;have e0:=cC c5.out 0 _ rfl;have q:=cB u;clear u;by_cases p:((heardOn o m).att.ans.length:Int)≤f.f
   ·have U:decide (((heardOn o m).att.ans.length:Int)≤f.f)=true:=by simpa using p
    have d:=cB p;clear p;refine dJ [0,0,0,1,1,0,0,0,0,1,0] (by kernel_rfl) (fun _ _ _ _=>rfl) ?_;simp only[cL,cK];iterate 11 (apply sB rfl rfl;·(intro x h;(try cases h rfl);go_simp;with_reducible rfl))
    refine cD ?_;try simp only[pA]
    go_wp2_with fail
    ((try simp only[Exit.inBlock,Exit.then]);refine bodyPost_ret (results_none rfl _ _ _) rfl ?_)
    rw[(qC q.out (by have:=d.out;omega)).1,(qC q.out (by have:=d.out;omega)).2,fE,aC,aC];exact⟨rfl,F,G,A.out.drew,⟨w.out.chg.drew,w.out.f,w.out.g⟩⟩
   ·have U:decide (((heardOn o m).att.ans.length:Int)≤f.f)=false:=by simpa using p
    have d:=cB p;clear p;have b7:Hid (aAL (heardOn o m).att.val):=by
     show aAL (if o.att.base<m.base then m.val else o.att.val);split
     ·exact a.out.2.2.2.1
     ·exact a.out.2.2.1
    by_cases n:m.kind=2
    ·have Y:(m.kind==2)=true:=by simp[n]
     have i:=cB n;clear n;have HP:Hid (Calls prog 175 #[.pointer (some ⟨b,0,none⟩)] t.drew fun r W'=>r= .returned (.tuple #[])∧After t.drew F G b g f av cv (iT f {c with doing:=some (heardOn o m)} (heardOn o m)) (net++cJ (iN f {c with doing:=some (heardOn o m)} (heardOn o m))) (tr++iN f {c with doing:=some (heardOn o m)} (heardOn o m)) W'):=
      wQ t.drew F G b g f av cv {c with doing:=some (heardOn o m)} (heardOn o m) net tr A.out.drew rfl hf1 hf2 hdr1 hdr2 ⟨a.out.1.n1,a.out.1.n2,a.out.1.i1,a.out.1.i2,a.out.1.c1,a.out.1.c2,a.out.1.r1,a.out.1.r2⟩ ⟨a.out.2.1.b1,a.out.2.1.b2,a.out.2.1.t1,a.out.2.1.t2,a.out.2.1.k1,a.out.2.1.k2,a.out.2.1.a1,a.out.2.1.a2⟩ b7.out haw hm a.out.2.2.2.2.1 hn ht
     refine dJ [0,0,0,1,1,0,0,0,0,1,0] (by kernel_rfl) (fun _ _ _ _=>rfl) ?_;simp only[cL,cK];iterate 11 (apply sB rfl rfl;·(intro x h;(try cases h rfl);go_simp;with_reducible rfl))
     refine cD ?_;try simp only[pA]
     go_wp2_with (go_at_call 175;refine HP.out.mono ?_;rintro r W5 ⟨rfl,k5⟩)
     ((try simp only[Exit.inBlock,Exit.then]);refine bodyPost_ret (results_none rfl _ _ _) rfl ?_)
     rw[(oJ q.out (by have:=d.out;omega) i.out).1,(oJ q.out (by have:=d.out;omega) i.out).2];exact⟨rfl,After.trans w.out k5.drew⟩
    ·have Y:(m.kind==2)=false:=by simp[n]
     have i:=cB n;clear n;have HE:Hid (Calls prog 164 #[.pointer (some ⟨b,0,none⟩),sQ (heardOn o m).att.eres (heardOn o m).att.eown (heardOn o m).att.etok,vlV (heardOn o m).att.val] t.drew.drew fun r W'=>r= .returned (.tuple #[])∧After t.drew.drew F G b g f av cv (gA {c with doing:=some (heardOn o m)} (heardOn o m) (heardOn o m).att.eres (heardOn o m).att.etok (heardOn o m).att.val) net (tr++lO {c with doing:=some (heardOn o m)} (heardOn o m) (heardOn o m).att.eres (heardOn o m).att.eown (heardOn o m).att.etok) W'):=
      tU t.drew.drew F G b g f av cv {c with doing:=some (heardOn o m)} (heardOn o m) net tr _ _ _ _ A.out.drew.drew rfl a.out.1.n1 (by have:=a.out.1.n2;show c.num≤1000;omega) a.out.2.1.b1 (by have:=a.out.2.1.b2;show o.began≤1000000000000;omega) a.out.2.1.t1 (by have:=a.out.2.1.t2;show o.ttl≤1000000;omega) (by omega) (by omega)
     have S:=cB (eW (W:=t.drew.drew) s.out.on.1 14 _ (aEK _ _ _));have X:=cB (eW (W:=t.drew.drew) s.out.on.1 10 _ (xQ _ _ _));refine dJ [0,0,0,1,1,0,0,0,0,1,0] (by kernel_rfl) (fun _ _ _ _=>rfl) ?_;simp only[cL,cK];iterate 11 (apply sB rfl rfl;·(intro x h;(try cases h rfl);go_simp;with_reducible rfl))
     refine cD ?_;try simp only[pA]
     go_wp2_with fail;refine dJ [0,0,0,0,1,0,0,0,1] (by kernel_rfl) (fun _ _ _ _=>rfl) ?_;simp only[cL,cK];iterate 4 (apply sB rfl rfl;·(intro x h;(try cases h rfl);go_simp;with_reducible rfl))
     try simp only[pA]
     refine cM (v:=sQ (heardOn o m).att.eres (heardOn o m).att.eown (heardOn o m).att.etok) rfl (fun x hx=>cG 191 _ rfl ⟨I,14,none⟩ rfl (pE (heardOn o m).att.eres (heardOn o m).att.eown (heardOn o m).att.etok) _ (by subst hx;exact S.out) underlying191 rfl (by kernel_rfl)) ?_;iterate 3 (apply sB rfl rfl;·(intro x h;(try cases h rfl);go_simp;with_reducible rfl))
     try simp only[pA]
     refine cM (v:=vlV (heardOn o m).att.val) rfl (fun x hx=>cG 56 _ rfl ⟨I,10,none⟩ rfl (vlL (heardOn o m).att.val) _ (by subst hx;exact X.out) underlying56 rfl (by kernel_rfl)) ?_;refine cD ?_;go_wp2_with (go_at_call 164;refine HE.out.mono ?_;rintro r W5 ⟨rfl,k5⟩);go_end0;rw[(pQ q.out (by have:=d.out;omega) i.out).1,(pQ q.out (by have:=d.out;omega) i.out).2,pF,aC];exact⟨rfl,After.trans w.out k5.drew.drew⟩
end Go.Proofs.YtbbdgokdfhdpiaaGreatDoor
