/- A part. -/
import Derived.Test.YtbbdgokdfhdpiaaGreatDoorA15
namespace Go.Proofs.YtbbdgokdfhdpiaaGreatDoor
set_option linter.all false
set_option maxRecDepth 100000
set_option maxHeartbeats 0
open Go.Proofs.Tryz Go.RowKit
def aK3(fl:Option (Int×Int)):Prop:=∀p,fl=some p→0≤p.1∧p.1≤9223372036854775807∧0≤p.2
section
variable {f:Cf}{i:Nat}{a:Ac}
theorem pY{k:Dk}{t:List Int}(h:fB k=(t,(t.length:Int))){q:Int}(hq:0≤q):fM k q={k with log:=t,lsyn:=t.length,new:=none,old:=none,fail:=none}:=by
 rw[aAV (by rw[h]) hq,h]
theorem aFX{k:Dk}(h:DOk f k)(hnew:k.new=none)(s:List Int):
 (∃fl,fU k s=({k with log:=s,lsyn:=s.length,new:=none,old:=none,fail:=fl},.none)∧aK3 fl∧(k.log.length:Int)+s.length≤f.room)∨
 (∃fl,fU k s=({k with new:=some ([],0),fail:=fl},(.some .none))∧aK3 fl∧f.room<(k.log.length:Int)+s.length)∨
 (∃k1 q,fU k s=(k1,(.some (.some q)))∧0≤q∧wE f k1∧fM k1 q={k with fail:=none}):=by
 have hl0:∀(fl:Option (Int×Int)) (nw:Option (List Int×Int)) q,0≤q→fM {k with fail:=fl,new:=nw} q={k with fail:=none}:=fun fl nw q hq=>by
  rw[pY (t:=k.log) (by unfold fB;dsimp only;rw[h.old,h.syn]) hq];have e2:=h.old;have e3:=h.syn;obtain⟨room,log,lsyn,new,old,fail⟩:=k;dsimp only at hnew e2 e3;subst hnew e2 e3
  rfl
 have hold:=h.old;unfold fU eP dZ;cases h1:fQ k with
 |none=>
  obtain⟨q,hq,hk⟩:=jC h1;have hq0:0≤q:=(h.fail _ hq).2.2;exact Or.inr (Or.inr ⟨k,q,by simp[iF,hk],hq0,vE h (by unfold fB;rw[h.old]),by have:=hl0 k.fail k.new q hq0;exact this⟩)
 |some k1=>
  obtain⟨⟨f1,rfl⟩,hf1⟩:=jZ h1 h.fail;dsimp only[iF,lH];cases h2:fQ {k with fail:=f1,new:=some ([],0)}with
  |none=>
   obtain⟨q,hq,hk⟩:=jC h2;have hq0:0≤q:=(hf1 _ hq).2.2;exact Or.inr (Or.inr ⟨{k with fail:=f1,new:=some ([],0)},q,by simp[iF,hk],hq0,vE h (by unfold fB;dsimp only;rw[h.old]),hl0 f1 _ q hq0⟩)
  |some k2=>
   obtain⟨⟨f2,rfl⟩,hf2⟩:=jZ h2 (by exact hf1);dsimp only;have hu:jS {k with fail:=f2,new:=some ([],0)}=k.log.length:=by unfold jS hP;dsimp only;simp
   have hrm:=h.room;rw[hu];by_cases hfull:k.room<(k.log.length:Int)+s.length
   ·rw[if_pos hfull];exact Or.inr (Or.inl ⟨f2,rfl,hf2,by omega⟩)
   ·rw[if_neg hfull];dsimp only[iF,iQ];rw[List.nil_append];cases h3:fQ {k with fail:=f2,new:=some (s,0)}with
    |none=>
     obtain⟨q,hq,hk⟩:=jC h3;have hq0:0≤q:=(hf2 _ hq).2.2;exact Or.inr (Or.inr ⟨{k with fail:=f2,new:=some (s,0)},q,by simp[iF,hk],hq0,vE h (by unfold fB;dsimp only;rw[h.old]),hl0 f2 _ q hq0⟩)
    |some k3=>
     obtain⟨⟨f3,rfl⟩,hf3⟩:=jZ h3 (by exact hf2);dsimp only[hU];cases h4:fQ {k with fail:=f3,new:=some (s,(s.length:Int))}with
     |none=>
      obtain⟨q,hq,hk⟩:=jC h4;have hq0:0≤q:=(hf3 _ hq).2.2;exact Or.inr (Or.inr ⟨{k with fail:=f3,new:=some (s,(s.length:Int))},q,by simp[iF,hk],hq0,vE h (by unfold fB;dsimp only;rw[h.old]),hl0 f3 _ q hq0⟩)
     |some k4=>
      obtain⟨⟨f4,rfl⟩,hf4⟩:=jZ h4 (by exact hf3);dsimp only[gI];cases h5:fQ {k with fail:=f4,log:=s,lsyn:=s.length,new:=none,old:=some (k.log,k.lsyn)}with
      |none=>
       obtain⟨q,hq,hk⟩:=jC h5;have hq0:0≤q:=(hf4 _ hq).2.2;refine Or.inr (Or.inr ⟨{k with fail:=f4,log:=s,lsyn:=s.length,new:=none,old:=some (k.log,k.lsyn)},q,by simp[iF,hk],hq0,vE h (by unfold fB;rfl),?_⟩);rw[pY (t:=k.log) (by unfold fB;dsimp only;rw[h.syn]) hq0];have e2:=h.old;have e3:=h.syn;obtain⟨room,log,lsyn,new,old,fail⟩:=k;dsimp only at hnew e2 e3;subst hnew e2 e3
       rfl
      |some k5=>
       obtain⟨⟨f5,rfl⟩,hf5⟩:=jZ h5 (by exact hf4);dsimp only[oJ];refine Or.inl ⟨f5,rfl,hf5,?_⟩;omega
theorem aDs{rs:List Rw}(h:∀r ∈ rs,RwOk r):dO (fA rs)=eG rs 4∧(fA rs).length=25*(eG rs 4).length∧∀r ∈ eG rs 4,RwOk r:=by
 have a:∀r ∈ eG rs 4,RwOk r:=fun r hr=>h r (aH2 hr);refine⟨?_,aDX _ (fun r hr=>(a r hr).ok),a⟩;have:=sX (eG rs 4) (fun r hr=>(a r hr).ok) [] (by decide);rw[aC]at this;exact this
theorem aAh(hn:a.num=i)(hc:a.compact=f.compact)(hst:a.st=0)(hd:DOk f a.dk)(hnew:a.dk.new=none)(htab:∀k,dX a.rows k=dX (dO a.dk.log) k)(hrows:∀r ∈ a.rows,RwOk r):
 (AOk f i (eJ a).1∧(eJ a).2= .none)∨(AOk f i {(eJ a).1 with st:=1}∧(eJ a).2=(.some .none))∨∃q,(eJ a).2=(.some (.some q))∧0≤q∧wE f (eJ a).1.dk∧AOk f i (crashA (eJ a).1 q):=by
 obtain⟨t1,t2,t3⟩:=aDs hrows;unfold eJ;rcases aFX hd hnew (fA a.rows)with⟨fl,he,hfl,hfit⟩|⟨fl,he,hfl,_⟩|⟨k1,q,he,hq,hlf,hcr⟩
 ·refine Or.inl ⟨?_,by rw[he]⟩;rw[he];refine⟨hn,hc,Or.inl hst,⟨hd.room,fun x hx=>?_,rfl,by show((fA a.rows).length:Int)≤f.room;omega,rfl,hfl,?_⟩,fun _=>rfl,fun h=>(by rw[show a.st=2 from h]at hst;cases hst),fun _ k=>?_,hrows,fun _=>?_⟩
  ·obtain⟨r,_,hx⟩:=List.mem_flatMap.1 (show x ∈ (eG a.rows 4).flatMap dW from hx);exact pC r x hx
  ·show∀r ∈ dO (fA a.rows),RwOk r;rw[t1];exact t3
  ·show dX a.rows k=dX (dO (fA a.rows)) k;rw[t1,aFF (fun r hr=>⟨(hrows r hr).l1,(hrows r hr).l2⟩)]
  ·show 25*(dO (fA a.rows)).length=(fA a.rows).length;rw[t1,t2]
 ·refine Or.inr (Or.inl ⟨?_,by rw[he]⟩);rw[he];exact⟨hn,hc,Or.inr (Or.inl rfl),⟨hd.room,hd.by_,hd.syn,hd.len,hd.old,hfl,hd.rows⟩,fun h=>absurd rfl h,fun h=>absurd (show(1:Int)=2 from h) (by decide),fun _=>htab,hrows,fun h=>absurd (show(1:Int)=0 from h) (by decide)⟩
 ·refine Or.inr (Or.inr ⟨q,by rw[he],hq,by rw[he];exact hlf,?_⟩);rw[he];refine rT hn hc ?_;rw[hcr];exact⟨hd.room,hd.by_,hd.syn,hd.len,hd.old,fun p hp=>(by cases hp),hd.rows⟩
def HowOk(f:Cf)(i:Nat)(p:Ac×How):Prop:=match p.2 with
 |.none=>AOk f i p.1
 |(.some .none)=>AOk f i {p.1 with st:=1}
 |(.some (.some q))=>0≤q∧wE f p.1.dk∧AOk f i (crashA p.1 q)
theorem HowOk.heed{p:Ac×How}(h:HowOk f i p)(hn:∀q,p.2≠(.some (.some q))):AOk f i (uP p.1 p.2):=by
 unfold HowOk at h;unfold uP;cases hp:p.2 using mM with
 |fine=>rw[hp]at h;exact h
 |full=>rw[hp]at h;exact h
 |dies q=>exact absurd hp (hn q)
theorem aIm(a:Ac)(r:Rw):(gN a r).1.st=a.st:=by
 unfold gN;split<;>rfl
theorem aCl(h:AOk f i a)(hst:a.st=0){r:Rw}(hr:RwOk r):HowOk f i (gN a r):=by
 have b:=h.new (by omega);unfold HowOk gN;rcases aJj h.dk b (h.full hst) hr with⟨m,e,d⟩|⟨m,e,d⟩|⟨o,q,e,l,g,d,p,s,n,j⟩
 ·rw[e];dsimp only;refine⟨h.num,h.comp,h.st,d,fun _=>b,fun h'=>(by rw[show a.st=2 from h']at hst;cases hst),fun _ k=>?_,fun x c=>?_,fun _=>?_⟩
  ·show dX (a.rows++[r]) k=dX (dO (a.dk.log++dW r)) k;rw[vY (h.full hst) hr.ok,qL,qL,h.tab (by omega)]
  ·rcases aO.1 c with c|c
   ·exact h.rows x c
   ·simp at c;subst c;exact hr
  ·show 25*(dO (a.dk.log++dW r)).length=(a.dk.log++dW r).length;rw[vY (h.full hst) hr.ok,aD,aD,pL hr.ok,←h.full hst,aK];omega
 ·rw[e];dsimp only;exact⟨h.num,h.comp,Or.inr (Or.inl rfl),d,fun h=>absurd rfl h,fun h=>absurd (show(1:Int)=2 from h) (by decide),fun _=>h.tab (by omega),h.rows,fun h=>absurd (show(1:Int)=0 from h) (by decide)⟩
 ·rw[e];dsimp only;exact⟨l,g,rT h.num h.comp d⟩
theorem aC4(h:AOk f i a)(hst:a.st=0)(hi:(i:Int)<2*f.f+1){m:Mg}(hm:MOk f m)(hA:m.kind=1∨m.kind=3):HowOk f i ((jE a m).1,(jE a m).2.2)∧EOk f (jE a m).2.1∧(jE a m).2.1.length≤1:=by
 obtain⟨k,n⟩:=aGF h m.lock hm.l1 hm.l2;have c:=aJY (aKz hi h.num hm hA k);unfold jE;dsimp only;split
 ·have b:=aCl h hst (aCk hm k).1;unfold HowOk at b;cases he:gN a (iR m (qD a m.lock))with
  |mk a1 hw=>
   rw[he]at b;cases hw using mM with
   |fine=>
    dsimp only at b⊢;split
    ·have j:a1.st=0:=by
      have e:=aIm a (iR m (qD a m.lock));rw[he]at e;exact e.trans hst
     have l:=aAh b.num b.comp j b.dk (b.new (by omega)) (b.tab (by omega)) b.rows;refine⟨?_,c,by simp⟩;unfold HowOk;rcases l with⟨g,d⟩|⟨g,d⟩|⟨q,d,g⟩
     ·dsimp only;rw[d];exact g
     ·dsimp only;rw[d];exact g
     ·dsimp only;rw[d];exact g
    ·exact⟨b,c,by simp⟩
   |full=>exact⟨b,iM,by simp⟩
   |dies q=>exact⟨b,iM,by simp⟩
 ·exact⟨h,c,by simp⟩
theorem EOk.snoc{e:Ev}{l:List Ev}(h:EOk f l)(hk:e.kind≠1)(hl:l.length≤5):EOk f (l++[e]):=⟨fun m hm=>(by
 rw[jB,show dJ [e]=[] by simp[dJ,aAm,hk],aC]at hm;exact h.1 m hm),by simp;omega⟩
theorem aIN(h:AOk f i a)(hi:(i:Int)<2*f.f+1){m:Mg}(hm:MOk f m)(hA:m.kind=1∨m.kind=3):AOk f i (sU a m)∧EOk f (mZ a m):=by
 unfold sU mZ;split
 ·exact⟨h,iM⟩
 ·rename_i j;obtain⟨b,c,d⟩:=aC4 h (by omega) hi hm hA;unfold HowOk at b;cases he:jE a m with
  |mk a1 q=>
   obtain⟨e,g⟩:=q;rw[he]at b c d;dsimp only at b c d;cases g using mM with
   |fine=>exact⟨b,c⟩
   |full=>exact⟨b,c⟩
   |dies q=>exact⟨b.2.2,c.snoc (by simp[eO]) (by omega)⟩
theorem aJe(h:AOk f i a){n q:Int}(hn:0≤n)(hn':n≤9223372036854775807)(hq:0≤q):AOk f i (yN a n q)∧EOk f (tN a n):=by
 unfold yN tN;split
 ·exact⟨h,iM⟩
 ·rename_i b;split
  ·exact⟨rT h.num h.comp (rE h.dk hq).1,xJ _ (by simp[eO])⟩
  ·exact⟨⟨h.num,h.comp,h.st,⟨h.dk.room,h.dk.by_,h.dk.syn,h.dk.len,h.dk.old,fun p hp=>by cases hp;exact⟨hn,hn',hq⟩,h.dk.rows⟩,h.new,fun h'=>absurd h' b,h.tab,h.rows,h.full⟩,iM⟩
theorem aA7(k:Dk)(s:List Int)(h:k.fail=none)(q:Int):(fU k s).2≠(.some (.some q)):=by
 have a:∀(k:Dk),k.fail=none→fQ k=some k:=fun k hk=>by unfold fQ;rw[hk]
 have e:(lH k).fail=none:=h;have c:(iQ (lH k) s).fail=none:=h;have f:(hU (iQ (lH k) s)).fail=none:=h;have d:(gI (hU (iQ (lH k) s))).fail=none:=h;unfold fU dZ eP;rw[a _ h];dsimp only[iF];rw[a _ e];dsimp only;by_cases b:(lH k).room<jS (lH k)+s.length
 ·rw[if_pos b];simp
 ·rw[if_neg b];dsimp only;rw[a _ c];dsimp only;rw[a _ f];dsimp only;rw[a _ d];simp
theorem aCz(a:Ac)(hd:DOk f a.dk)(hnew:a.dk.new=none)(hfl:a.dk.fail=none)(q:Int):(fR a).2≠(.some (.some q)):=by
 unfold fR;dsimp only;by_cases b:25*((dO a.dk.log).length:Int)<a.dk.log.length∨mB a=true
 ·rw[if_pos b];exact aA7 _ _ hfl q
 ·rw[if_neg b];simp
theorem aDH(a:Ac)(h:a.st≠0):iL a=uP (fR {(if a.st=1 then crashA a 0 else a)with st:=0}).1 (fR {(if a.st=1 then crashA a 0 else a)with st:=0}).2:=by
 unfold iL;rw[if_neg h]
theorem aHT(h:AOk f i a):AOk f i (iL a)∧EOk f (nP a):=by
 refine⟨?_,?_⟩
 ·by_cases r:a.st=0
  ·unfold iL;rw[if_pos r];exact h
  ·rw[aDH a r];have p:AOk f i (if a.st=1 then crashA a 0 else a)∧(if a.st=1 then crashA a 0 else a).st=2:=by
    split
    ·exact⟨rT h.num h.comp (rE h.dk (by decide)).1,rfl⟩
    ·rename_i j;have:=h.st;exact⟨h,by omega⟩
   generalize u:(if a.st=1 then crashA a 0 else a)=b at p;obtain⟨c,o⟩:=p;have e:=c.new (by omega);have n:=c.nofail o;have l:HowOk f i (fR {b with st:=0}):=by
    unfold fR;dsimp only;by_cases d:25*((dO b.dk.log).length:Int)<b.dk.log.length∨mB {b with st:=0}=true
    ·rw[if_pos d];have s:=aAh (a:={b with st:=0,rows:=dO b.dk.log}) c.num c.comp rfl c.dk e (fun _=>rfl) (c.dk.rows);unfold HowOk;rcases s with⟨j,g⟩|⟨j,g⟩|⟨q,g,j⟩
     ·rw[g];exact j
     ·rw[g];exact j
     ·rw[g];exact j
    ·rw[if_neg d];have k:25*(dO b.dk.log).length=b.dk.log.length:=by
      have j:¬(25*((dO b.dk.log).length:Int)<b.dk.log.length):=fun l=>d (Or.inl l);have g:=pE b.dk.log.length b.dk.log;have t:25*(dO b.dk.log).length≤b.dk.log.length:=g;omega
     exact⟨c.num,c.comp,Or.inl rfl,c.dk,fun _=>e,fun h=>absurd (show(0:Int)=2 from h) (by decide),fun _ _=>rfl,c.dk.rows,fun _=>k⟩
   exact l.heed (aCz (f:=f) {b with st:=0} c.dk e n)
 ·unfold nP;split
  ·exact iM
  ·split
   ·exact⟨fun m hm=>by simp[dJ,aAm,eO,jD]at hm,by simp⟩
   ·exact xJ _ (by simp[jD])
theorem aKc(hr:100≤f.room):AOk f i (xN f i):=
 ⟨rfl,rfl,Or.inl rfl,⟨rfl,fun x hx=>(by cases hx),rfl,by show((0:Nat):Int)≤f.room;omega,rfl,fun p hp=>(by cases hp),fun r hr=>by rw[show dO (xN f i).dk.log=[]from rfl]at hr;cases hr⟩,fun _=>rfl,fun _=>rfl,fun _ _=>rfl,fun r hr=>(by cases hr),fun _=>rfl⟩
theorem aKa{N:Int}(hN:0≤N):COk f N i (yC i):=
 ⟨⟨rfl,(by decide:(0:Int)≤0),(by decide:(0:Int)≤63),(by decide:(0:Int)≤0),hN,(by decide:(0:Int)≤0),(by decide:(0:Int)≤1000),fun l=>⟨(by decide:(0:Int)≤0),hN⟩⟩,fun _=>rfl,fun o ho=>by cases ho⟩
end
structure MoOk(N:Int)(x:Mo):Prop where
 conf:oK x.cf=true
 na:x.acs.length=gJ x.cf
 nc:x.cls.length=x.cf.clients.toNat
 as_:∀i (h:i<x.acs.length),AOk x.cf i x.acs[i]
 cs_:∀i (h:i<x.cls.length),COk x.cf N i x.cls[i]
 net:∀m ∈ x.net,MOk x.cf m
 trm:∀m ∈ dJ x.tr,MOk x.cf m
 nl:(x.net.length:Int)≤N
 tl:(x.tr.length:Int)≤N
 n0:0≤N
theorem fL{c:Cf}(h:oK c=true):(1≤c.f∧c.f≤2)∧(1≤c.clients∧c.clients≤4)∧(1≤c.patience∧c.patience≤20)∧(1≤c.tries∧c.tries≤8)∧(0≤c.drift∧c.drift≤10)∧(2≤c.compact∧c.compact≤16)∧(100≤c.room∧c.room≤2000):=by
 simp only[oK,aR,aM]at h;omega
theorem MoOk.mono{N M:Int}{x:Mo}(h:MoOk N x)(hm:N≤M):MoOk M x:=
 ⟨h.conf,h.na,h.nc,h.as_,fun i hi=>(h.cs_ i hi).mono hm,h.net,h.trm,by have:=h.nl;omega,by have:=h.tl;omega,by have:=h.n0;omega⟩
theorem MoOk.new{f:Cf}(hf:oK f=true):MoOk 0 (mC f):=by
 have a:=fL hf;refine⟨hf,by simp[mC],by simp[mC],fun i hi=>?_,fun i hi=>?_,fun m hm=>(by cases hm),fun m hm=>(by cases hm),(by decide:((0:Nat):Int)≤0),(by decide:((0:Nat):Int)≤0),by decide⟩
 ·have:(mC f).acs[i]=xN f i:=by simp[mC]
  rw[this];exact aKc a.2.2.2.2.2.2.1
 ·have:(mC f).cls[i]=yC i:=by simp[mC]
  rw[this];exact aKa (by decide)
section
variable {N:Int} {x:Mo}
theorem MoOk.client(h:MoOk N x){i:Int}(hi:dT i x.cls.length=true){c:Ct}{e:List Ev}(hc:COk x.cf (N+1) i.toNat c)(he:EOk x.cf e):MoOk (N+6) (gB x i c e):=by
 refine⟨h.conf,h.na,by simp[gB,h.nc],h.as_,fun j hj=>?_,fun m a=>?_,fun m a=>?_,?_,?_,by have:=h.n0;omega⟩
 ·have d:j<x.cls.length:=by simpa[gB]using hj
  by_cases b:j=i.toNat
  ·subst b;simp only[gB,bZ];exact hc.mono (by omega)
  ·simp only[gB,List.getElem_set_ne (Ne.symm b)];exact(h.cs_ j d).mono (by omega)
 ·rcases aO.1 a with a|a
  ·exact h.net m a
  ·exact he.1 m a
 ·rw[show(gB x i c e).tr=x.tr++e from rfl,jB]at a;rcases aO.1 a with a|a
  ·exact h.trm m a
  ·exact he.1 m a
 ·have g:=h.nl;have f:=he.2;have k:=lS e;show((x.net++dJ e).length:Int)≤N+6;rw[aD];omega
 ·have g:=h.tl;have f:=he.2;show((x.tr++e).length:Int)≤N+6;rw[aD];omega
theorem MoOk.acceptor(h:MoOk N x){i:Int}(hi:dT i x.acs.length=true){a:Ac}{e:List Ev}(hc:AOk x.cf i.toNat a)(he:EOk x.cf e):MoOk (N+6) (mF x i a e):=by
 refine⟨h.conf,by simp[mF,h.na],h.nc,fun j hj=>?_,fun j hj=>(h.cs_ j hj).mono (by omega),fun m b=>?_,fun m b=>?_,?_,?_,by have:=h.n0;omega⟩
 ·have d:j<x.acs.length:=by simpa[mF]using hj
  by_cases c:j=i.toNat
  ·subst c;simp only[mF,bZ];exact hc
  ·simp only[mF,List.getElem_set_ne (Ne.symm c)];exact h.as_ j d
 ·rcases aO.1 b with b|b
  ·exact h.net m b
  ·exact he.1 m b
 ·rw[show(mF x i a e).tr=x.tr++e from rfl,jB]at b;rcases aO.1 b with b|b
  ·exact h.trm m b
  ·exact he.1 m b
 ·have g:=h.nl;have f:=he.2;have k:=lS e;show((x.net++dJ e).length:Int)≤N+6;rw[aD];omega
 ·have g:=h.tl;have f:=he.2;show((x.tr++e).length:Int)≤N+6;rw[aD];omega
theorem MoOk.cl(h:MoOk N x){i:Int}(hi:dT i x.cls.length=true):COk x.cf N i.toNat (clM x i)∧((i.toNat:Nat):Int)<x.cf.clients:=by
 obtain⟨a,e⟩:=mQ hi;rw[e];exact⟨h.cs_ _ a,by have:=h.nc;omega⟩
theorem MoOk.ac(h:MoOk N x){i:Int}(hi:dT i x.acs.length=true):AOk x.cf i.toNat (acM x i)∧((i.toNat:Nat):Int)<2*x.cf.f+1∧i.toNat≤4:=by
 obtain⟨a,e⟩:=qK hi;have:=h.na;have b:=fL h.conf;unfold gJ at this;rw[e];exact⟨h.as_ _ a,by omega,by omega⟩
theorem MoOk.begin(h:MoOk N x)(i k l t:Int):MoOk (N+6) (oS x i k l t):=by
 have f:=fL h.conf;unfold oS;split
 ·exact h.mono (by omega)
 ·rename_i j;have a:dT i x.cls.length=true∧(1≤k∧k≤4)∧(0≤l∧l≤3)∧(k≤2→1≤t∧t≤1000):=by
   simp only[lT,Bool.or_eq_true,Bool.not_eq_true',aR,aM,decide_eq_false_iff_not,not_or,not_and,Bool.not_eq_false]at j;obtain⟨⟨⟨d,b⟩,e⟩,c⟩:=j;refine⟨d,?_,?_,fun hk=>?_⟩
   ·exact aH fun hh=>b (by omega)
   ·exact aH fun hh=>e (by omega)
   ·exact aH fun hh=>c hk (by omega)
  obtain⟨d,b⟩:=h.cl a.1;have g:0≤qV k t∧qV k t≤1000:=by
   unfold qV;split
   ·have:=a.2.2.2 (by assumption);omega
   ·omega
  obtain⟨e,c⟩:=aIM f.1.1 f.1.2 f.2.1.2 d h.n0 b a.2.1.1 a.2.1.2 a.2.2.1.1 a.2.2.1.2 g.1 g.2;exact h.client a.1 (e.mono (by omega)) c
theorem MoOk.tick(h:MoOk N x)(i:Int):MoOk (N+6) (tF x i):=by
 have a:=fL h.conf;unfold tF;split
 ·rename_i b;obtain⟨e,c⟩:=h.cl b;obtain⟨f,d⟩:=aKr a.1.1 a.1.2 a.2.1.2 a.2.2.2.1.2 e c;exact h.client b f d
 ·exact h.mono (by omega)
theorem MoOk.lose(h:MoOk N x)(i:Int):MoOk (N+6) (rW x i):=by
 unfold rW;split
 ·rename_i a;obtain⟨c,e⟩:=h.cl a;obtain⟨d,b⟩:=aJX c h.n0;exact h.client a (d.mono (by omega)) b
 ·exact h.mono (by omega)
theorem MoOk.return(h:MoOk N x)(i:Int):MoOk (N+6) (nC x i):=by
 unfold nC;split
 ·rename_i a;obtain⟨c,e⟩:=h.cl a;obtain⟨d,b⟩:=aHh c;exact h.client a (d.mono (by omega)) b
 ·exact h.mono (by omega)
theorem MoOk.drop(h:MoOk N x)(i:Int):MoOk N (iS x i):=by
 unfold iS;split
 ·refine⟨h.conf,h.na,h.nc,h.as_,h.cs_,fun m hm=>h.net m (List.mem_of_mem_eraseIdx hm),h.trm,?_,h.tl,h.n0⟩;have a:=h.nl;have b:(x.net.eraseIdx i.toNat).length≤x.net.length:=cG ..;show((x.net.eraseIdx i.toNat).length:Int)≤N;omega
 ·exact h
theorem MoOk.msg(h:MoOk N x){i:Int}(hi:dT i x.net.length=true):MOk x.cf (jG x i):=by
 obtain⟨a,e⟩:=rI hi;rw[e];exact h.net _ (bF a)
theorem MoOk.copy(h:MoOk N x)(i:Int):MoOk (N+6) (sE x i):=by
 unfold sE;split
 ·rename_i b;have c:=h.msg b;refine⟨h.conf,h.na,h.nc,h.as_,fun i b=>(h.cs_ i b).mono (by omega),fun m a=>?_,h.trm,?_,by have:=h.tl;show(x.tr.length:Int)≤N+6;omega,by have:=h.n0;omega⟩
  ·rcases aO.1 a with a|a
   ·exact h.net m a
   ·simp at a;subst a;exact c
  ·have:=h.nl;show((x.net++[jG x i]).length:Int)≤N+6;rw[aD,aK];omega
 ·exact h.mono (by omega)
theorem MoOk.deliver(h:MoOk N x)(i:Int):MoOk (N+6) (kZ x i):=by
 have e:=fL h.conf;unfold kZ;split
 ·rename_i s;have c:=h.msg s;have o:=h.drop i;have m:=h.na;have n:=h.nc;have q:(iS x i).acs=x.acs:=by unfold iS;split<;>rfl
  have r:(iS x i).cls=x.cls:=by unfold iS;split<;>rfl
  have d:(iS x i).cf=x.cf:=by unfold iS;split<;>rfl
  split
  ·rename_i l;have b:(jG x i).kind=1∨(jG x i).kind=3:=by simpa[hO]using l
   have p:=c.toA b;have a:dT (jG x i).dst x.acs.length=true:=(dY _ _).2 ⟨c.d1,by rw[m];unfold gJ;omega⟩;obtain⟨j,f,_⟩:=h.ac a;obtain⟨k,g⟩:=aIN j f c b;exact o.acceptor (by rw[q];exact a) (by rw[d];exact k) (by rw[d];exact g)
  ·rename_i l;have b:¬((jG x i).kind=1∨(jG x i).kind=3):=by simpa[hO]using l
   have p:=c.toC b;have a:dT (jG x i).dst x.cls.length=true:=(dY _ _).2 ⟨c.d1,by rw[n];omega⟩;obtain⟨j,f⟩:=h.cl a;obtain⟨k,g⟩:=aJR e.1.1 e.1.2 e.2.1.2 e.2.2.2.1.2 j f c;exact o.client (by rw[r];exact a) (by rw[d];exact k) (by rw[d];exact g)
 ·exact h.mono (by omega)
theorem MoOk.fail(h:MoOk N x)(i n q:Int)(hn:n≤9223372036854775807):MoOk (N+6) (tJ x i n q):=by
 unfold tJ;split
 ·exact h.mono (by omega)
 ·rename_i b;have a:dT i x.acs.length=true∧0≤n∧0≤q:=by
   simp only[qO,Bool.or_eq_true,Bool.not_eq_true',aM,not_or,Bool.not_eq_false]at b;exact⟨b.1.1,by omega,by omega⟩
  obtain⟨d,f,_⟩:=h.ac a.1;obtain⟨e,c⟩:=aJe d a.2.1 hn a.2.2;exact h.acceptor a.1 e c
theorem MoOk.start(h:MoOk N x)(i:Int):MoOk (N+6) (oQ x i):=by
 unfold oQ;split
 ·rename_i a;obtain⟨c,e,_⟩:=h.ac a;obtain⟨d,b⟩:=aHT c;exact h.acceptor a d b
 ·exact h.mono (by omega)
end
section
variable {W W':World}{F F':Nat→Prop}{b g:Nat}{f:Cf}{c:Ct}{o:On}{ch tk hd wt ob:Nat}{an mv:Value}
theorem Kt.opset(h:Kt W F b g f c o ch tk hd wt ob an mv)(hc:Chg (fun k=>k=ob) W W')(o':On)(hb:W'.heap[ob]?=some (.cells (wJ o' an mv).toArray 195 (0,0)))(hans:o'.att.ans=o.att.ans)(haw:o'.att.awaited=0→o.att.awaited=0)(haw':o.att.awaited=0→o'.att.awaited=0)(hmine:o'.mine=o.mine):
 Kt W' F b g f {c with doing:=some o'} o' ch tk hd wt ob an mv:=by
 have hon:OnAt W' F ob an mv o':=by
  refine⟨hb,h.on.2.1,?_,?_,h.on.2.2.2.2⟩
  ·rcases h.on.2.2.1 with⟨q1,q2,q3⟩|⟨am,q1,q2,q3⟩
   ·exact Or.inl ⟨q1,by rw[hans,q2],haw' q3⟩
   ·exact Or.inr ⟨am,q1,by rw[hans];exact q2.kept hc (q2.ne_cells h.on.1),q3⟩
  ·rw[hmine];exact hc.row h.on.2.2.2.1 (fun q hq=>fN h.on.2.2.2.1 h.on.1 (by decide) q hq)
 exact⟨h.cl.opcells h.on.1 hc hon h.ne,rfl,hon,h.ne⟩
theorem Kt.ansset{am:Nat}(h:Kt W F b g f c o ch tk hd wt ob (.map (some am)) mv)(hc:Chg (fun k=>k=am) W W'){n:Nat}{m:Int→Option Value}(ham:MapAt iK W am m n)(l:List Int)(hm:SetAt W' am l)(hF:F am):
 Kt W' F b g f {c with doing:=some {o with att:={o.att with ans:=l}}} {o with att:={o.att with ans:=l}} ch tk hd wt ob (.map (some am)) mv:=by
 obtain⟨_,_,oa⟩:=ham.obj;have hne:=h.ne;have n1:tk≠am:=fun e=>hne.1 (by rw[e]);have n2:hd≠am:=fun e=>hne.2.1 (by rw[e]);have n3:wt≠am:=fun e=>hne.2.2 (by rw[e]);have hob:=hc.kept h.on.1 (fun e=>eX h.on.1 oa (by simp) e);have hon:OnAt W' F ob (.map (some am)) mv {o with att:={o.att with ans:=l}}:=
  ⟨hob,h.on.2.1,Or.inr ⟨am,rfl,hm,hF⟩,hc.row h.on.2.2.2.1 (fun q hq=>aDq h.on.2.2.2.1 oa q hq),h.on.2.2.2.2⟩
 refine⟨⟨hc.kept h.cl.blk (fun e=>eX h.cl.blk oa (by simp) e),h.cl.fb,hc.kept h.cl.chan (fun e=>eX h.cl.chan oa (by simp) e),h.cl.fc,⟨h.cl.maps.toks.kept hc n1,h.cl.maps.holds.kept hc n2,h.cl.maps.wat.kept hc n3,h.cl.maps.th,h.cl.maps.tw,h.cl.maps.hw,h.cl.maps.ft,h.cl.maps.fh,h.cl.maps.fw⟩,⟨ob,_,mv,rfl,hon,hne⟩,fun k hk=>aG (h.cl.lt k hk) hc.size⟩,rfl,hon,hne⟩
theorem Kt.mineset{gn cap:Nat}(h:Kt W F b g f c o ch tk hd wt ob an mv)(hc:Chg (fun k=>some k=mv.ownBlock∨k=ob) W W')(x:Int)(hF':∀k,F k→F' k)(hlt:∀k,F' k→k<W'.heap.size)(hgn:F' gn)
 (hb:W'.heap[ob]?=some (.cells (wJ {o with mine:=o.mine++[x]} an (.slice (some ⟨gn,0,none⟩) (o.mine.length+1) cap)).toArray 195 (0,0)))
 (hr:W'.ownsRow 0 3 1 (.slice (some ⟨gn,0,none⟩) (o.mine.length+1) cap) (o.mine.length+1) (iE (o.mine++[x]))):
 Kt W' F' b g f {c with doing:=some {o with mine:=o.mine++[x]}} {o with mine:=o.mine++[x]} ch tk hd wt ob an (.slice (some ⟨gn,0,none⟩) (o.mine.length+1) cap):=by
 have hmv:=h.on.2.2.2.1;have keep:∀{y:Nat} {u:Obj},W.heap[y]?=some u→(∀cs fr,u≠.cells cs 3 fr)→y≠ob→W'.heap[y]?=some u:=by
  intro y u hy hnc hyo;refine hc.kept hy (fun e=>?_);rcases e with e|e
  ·rcases nN hmv with⟨rfl,_⟩|⟨q,cap',cur,rfl,_,hq⟩
   ·cases e
   ·have hyq:y=q:=by simpa[Value.ownBlock]using e
    subst hyq;rw[hq]at hy;exact hnc _ _ (aN hy).symm
  ·exact hyo e
 have keepM:∀{y:Nat} {e:Array MapEntry} {k:Nat},W.heap[y]?=some (.map e k)→W'.heap[y]?=W.heap[y]?:=fun hy=>by
  rw[hy];exact keep hy (by simp) (fun e=>eX hy h.on.1 (by simp) e)
 obtain⟨_,_,o1⟩:=h.cl.maps.toks.obj;obtain⟨_,_,o2⟩:=h.cl.maps.holds.obj;obtain⟨_,_,o3⟩:=h.cl.maps.wat.obj;have hon:OnAt W' F' ob an (.slice (some ⟨gn,0,none⟩) (o.mine.length+1) cap) {o with mine:=o.mine++[x]}:=by
  refine⟨hb,hF' _ h.on.2.1,?_,?_,fun k hk=>?_⟩
  ·rcases h.on.2.2.1 with q|⟨am,q1,q2,q3⟩
   ·exact Or.inl q
   ·obtain⟨_,_,oa⟩:=q2.obj;exact Or.inr ⟨am,q1,q2.of_heap (keepM oa),hF' _ q3⟩
  ·show W'.ownsRow 0 _ 1 _ (o.mine++[x]).length (iE (o.mine++[x]));rw[aD,aK];exact hr
  ·have:gn=k:=by simpa[Value.ownBlock]using hk
   rw[←this];exact hgn
 refine⟨⟨keep h.cl.blk (by simp) (gA h.cl.blk h.on.1 (by decide)),hF' _ h.cl.fb,keep h.cl.chan (by simp) (fun e=>eX h.cl.chan h.on.1 (by simp) e),hF' _ h.cl.fc,⟨h.cl.maps.toks.of_heap (keepM o1),h.cl.maps.holds.of_heap (keepM o2),h.cl.maps.wat.of_heap (keepM o3),h.cl.maps.th,h.cl.maps.tw,h.cl.maps.hw,hF' _ h.cl.maps.ft,hF' _ h.cl.maps.fh,hF' _ h.cl.maps.fw⟩,⟨ob,an,_,rfl,hon,h.ne⟩,hlt⟩,rfl,hon,h.ne⟩
end
structure aCa(v:Vl):Prop where
 t1:0≤v.ttl
 t2:v.ttl≤1000
 s1:0≤v.seq
 s2:v.seq≤2147483647
theorem After.of{W W1 W2:World}{F F1 G G1:Nat→Prop}{b g:Nat}{f:Cf}{av cv:Value}{c:Ct}{net:List Mg}{tr:List Ev}(h:Went W W1 F F1 G G1)(k:After W1 F1 G1 b g f av cv c net tr W2):After W F G b g f av cv c net tr W2:=After.trans h k
theorem aIz:(prog.info? 3).map (fun i=>(i.zero,i.size,i.bytes))=some (some (iK 0),1,8):=by kernel_rfl
theorem aAH(o:On)(an mv:Value):∀j x,(vlL o.att.val)[j]?=some x→(wJ o an mv).toArray[10+j]?=some x:=by
 intro j x a;have b:j<4:=(aF.1 a).1;rcases j with _|_|_|_|j
 ·exact a
 ·exact a
 ·exact a
 ·exact a
 ·omega
theorem aAa(W:World)(F G:Nat→Prop)(b g:Nat)(f:Cf)(av cv:Value)(c:Ct)(o:On)(net:List Mg)(tr:List Ev)(h:Sys W F G b g f av cv c net tr)(hd:c.doing=some o)(hf1:1≤f.f)(hf2:f.f≤2)(hdr1:0≤f.drift)(hdr2:f.drift≤10)(hc:aAz c)(ho:aF2 o)(hv:aCa o.att.val)
 (haw:o.att.awaited≠0) (hm:o.mine.length≤100000000000) (hw:∀l,0≤(c.wat l).since∧(c.wat l).since≤100000000000) (hn:net.length≤99999999990) (ht:tr.length≤99999999990):
 Calls prog 175 #[.pointer (some ⟨b,0,none⟩)] W fun r W'=>r= .returned (.tuple #[])∧After W F G b g f av cv (iG f c o) (net++dJ (gZ f c o)) (tr++gZ f c o) W':=by
 obtain⟨⟨ch,tk,a4,wt,dv,g4⟩,f2,f3⟩:=h;obtain⟨t,an,mv,rfl,a⟩:=g4.kt hd;obtain⟨am,rfl,d4,L⟩:∃am,an= .map (some am)∧SetAt W am o.att.ans∧F am:=by
  rcases a.on.2.2.1 with⟨_,_,h⟩|h
  ·exact absurd h haw
  ·exact h
 have c2:=aDR W F b g f c o ch tk a4 wt t (.map (some am)) mv o.att.val a hc.n1 (by have:=hc.n2;omega) (by omega) hdr1 hdr2 hv.t1 hv.t2 hv.s1 hv.s2 (hw _).1 (hw _).2;obtain⟨w,a7⟩:=aLz (eK f c o o.att.val);rw[←a7]at c2;have eS:iG f c o=if w.res=5 then gW c o w.res w.tok o.att.val else{c with doing:=some (iD o w)}:=by unfold iG;rw[←a7]
 have eE:gZ f c o=if w.res=5 then rH c o w.res w.own w.tok else gX c (iD o w) 3 o.att.base w.next (gJ f):=by unfold gZ;rw[←a7]
 rw[eS,eE];clear eS eE a7;have e4:Hid (Calls prog 201 #[.pointer (some ⟨b,0,none⟩),vlV o.att.val] W fun r W'=>r= .returned (.tuple #[vlV w.next,wA w.res w.own w.tok])∧Chg NoS W W'):=c2;have g3:=cN (eL a.on.1 10 _ (aAH o _ _));have HK:=cN a;have p:=cN (aLq f2 f3 d4 L);have d:=cN (aLq hc ho hn ht);have g9:=a.cl.cell 16 _ rfl;clear c2 a f2 f3 g4 hc ho hw hd d4 hv;go_enter func175,ntmps175;go_wp2_with (first|(refine cW rfl 56 _ rfl ⟨t,10,none⟩ rfl (vlL o.att.val) _ g3.out underlying56 rfl (by kernel_rfl) ?_)|(go_at_call 201;refine e4.out.mono ?_;rintro r B ⟨rfl,k1⟩;refine cQ ?_));generalize Q:(B.alloc (.cells #[.int .i64 0,.int .i64 0,.int .i64 0,.int .i64 0] 56)).alloc (.cells #[.int .i64 0,.int .i64 0,.int .i64 0] 191)=W2;have g0:=cN Q;have d8:W2.heap[B.heap.size]?=some (.cells (vlL zVl).toArray 56 (0,0)):=by rw[←Q];exact dM _ (aA B _)
 have d7:W2.heap[B.heap.size+1]?=some (.cells (rN 0 0 0).toArray 191 (0,0)):=by
  rw[←Q];have h:=aA (B.alloc (.cells #[.int .i64 0,.int .i64 0,.int .i64 0,.int .i64 0] 56)) (.cells #[.int .i64 0,.int .i64 0,.int .i64 0] 191);have e:(B.alloc (.cells #[.int .i64 0,.int .i64 0,.int .i64 0,.int .i64 0] 56)).heap.size=B.heap.size+1:=by simp
  rw[e]at h;exact h
 have e6:Chg NoS W W2:=k1.trans (by rw[←Q];exact Chg.alloc2 _ _ _) (fun _ _ h=>h);have d6:=cN k1.size;clear Q k1;refine cN ?_;go_wp2_with (first|rw[g0.out]|(refine cV rfl 56 _ _ rfl B.heap.size 0 56 _ _ (vlL w.next) rfl rfl d8 (by kernel_rfl) (by simp[Value.oneCell']) (by simp) rfl ?_));intro W3 c7 g7 f7;have g1:=c7.kept d7 (by omega);have b4:=e6.fresh c7 d6.out;clear e6 d8 d7 g0;go_wp2_with (first|(refine cV rfl 191 _ _ rfl (B.heap.size+1) 0 191 _ _ (rN w.res w.own w.tok) rfl rfl g1 (by kernel_rfl) (by simp[Value.oneCell']) (by simp) rfl ?_));intro W4 c0 i1 a9;have e7:=cN (c0.kept f7 (by omega));have z:=b4.fresh c0 (by have:=d6.out;omega);have i6:=cN a9;have a5:=cN z;have I:=cN (HK.out.kept z);have a6:=cN (p.out.1.kept z (fun _ _ h=>h));have h9:Hid (SetAt W4 am o.att.ans):=MapAt.kept p.out.2.2.1 z (fun h=>h);have e0:=cO a9 0 _ rfl;have g2:=cN (cR a9);have g5:=cN (eL I.out.on.1 10 _ (aAH o _ _));clear c7 g7 f7 g1 b4 c0 i1 a9 z g9 g3 e4;by_cases s:w.res=5
 ·have hr:(w.res==5)=true:=by simp[s]
  have M:=cN s;have HE:Hid (Calls prog 164 #[.pointer (some ⟨b,0,none⟩),wA w.res w.own w.tok,vlV o.att.val] W4.drew fun r W'=>r= .returned (.tuple #[])∧After W4.drew F G b g f av cv (gW c o w.res w.tok o.att.val) net (tr++rH c o w.res w.own w.tok) W'):=
   xF W4.drew F G b g f av cv c o net tr w.res w.own w.tok o.att.val (Sys.drew ⟨⟨ch,tk,a4,wt,_,I.out.cl⟩,a6.out,p.out.2.1⟩) HK.out.doing d.out.1.n1 (by have:=d.out.1.n2;omega) d.out.2.1.b1 (by have:=d.out.2.1.b2;omega) d.out.2.1.t1 (by have:=d.out.2.1.t2;omega) (by have:=d.out.2.2.1;omega) (by have:=d.out.2.2.2;omega)
  clear s;go_wp2_with fail;refine rlx [0,1,0,0,0,1] (fun x=>(∀j y,(rN w.res w.own w.tok)[j]?=some y→x.cell? ((⟨B.heap.size+1,0,none⟩:Addr).add j)=some y)∧(∀j y,(vlL o.att.val)[j]?=some y→x.cell? ((⟨t,10,none⟩:Addr).add j)=some y)) (by kernel_rfl) (fun _ _ _ _=>rfl) ?_ ?_
  ·exact⟨g2.out,g5.out⟩
  simp only[dC,dB];iterate 1 (apply sB rfl rfl;·(intro x h;(try have h:=h rfl);(try dsimp only at h);go_simp;with_reducible rfl))
  try simp only[pA]
  refine dA (v:=wA w.res w.own w.tok) rfl (fun x hx=>cU 191 _ rfl ⟨B.heap.size+1,0,none⟩ rfl (rN w.res w.own w.tok) _ hx.1 underlying191 rfl (by kernel_rfl)) ?_;iterate 3 (apply sB rfl rfl;·(intro x h;(try have h:=h rfl);(try dsimp only at h);go_simp;with_reducible rfl))
  try simp only[pA]
  refine dA (v:=vlV o.att.val) rfl (fun x hx=>cU 56 _ rfl ⟨t,10,none⟩ rfl (vlL o.att.val) _ hx.2 underlying56 rfl (by kernel_rfl)) ?_;refine cP ?_;go_wp2_with (go_at_call 164;refine HE.out.mono ?_;rintro r W5 ⟨rfl,k5⟩)
  ((try simp only[Exit.inBlock,Exit.then]);refine bodyPost_ret (results_none rfl _ _ _) rfl ?_)
  have e5:=M.out;(try rw[e5]at k5);(try simp only[e5,if_true]);rw[rO,aC];exact⟨by first|rfl|trivial,After.trans (⟨a5.out.mono (fun _ _ h=>h.elim),fun _ h=>Or.inl h,fun _ h=>Or.inl h⟩:Went W W4 F F G G) k5.drew⟩
 ·have hr:(w.res==5)=false:=by simp[s]
  have M:Hid (w.res≠5):=s;clear s g5;go_wp2_with (first|(refine cW rfl 191 _ rfl ⟨B.heap.size+1,0,none⟩ rfl (rN w.res w.own w.tok) _ g2.out underlying191 rfl (by kernel_rfl) ?_)|(refine cV rfl 191 _ _ rfl t 14 195 _ _ (wJ {o with att:={o.att with eres:=w.res,eown:=w.own,etok:=w.tok}} (.map (some am)) mv) rfl rfl I.out.on.1 (by kernel_rfl) (by simp[Value.oneCell']) (by simp) rfl ?_));intro W5 H h5 b5;have E:=I.out.opset H {o with att:={o.att with eres:=w.res,eown:=w.own,etok:=w.tok}} b5 rfl id id rfl;have g6:=H;have b6:=H.kept e7.out (fun e=>gA e7.out I.out.on.1 (by decide) e);have o7:=cO E.on.1 7 _ rfl;have z7:=cX E.on.1 7;have S:=cY W5 t 7 (.int .i64 4);have c3:=E.opset S {o with att:={o.att with eres:=w.res,eown:=w.own,etok:=w.tok,awaited:=4}} (dD E.on.1 7 _) rfl (fun h=>absurd (show(4:Int)=0 from h) (by decide)) (fun h=>absurd h haw) rfl;generalize d9:W5.setCell ⟨t,7,none⟩ (.int .i64 4)=W6 at*;have e8:=cN d9;have A:=h9.out;have f0:SetAt W6 am o.att.ans:=MapAt.kept (MapAt.kept A H (A.ne_cells I.out.on.1)) S ((MapAt.kept A H (A.ne_cells I.out.on.1)).ne_cells E.on.1);have f1:=cN (S.kept b6 (fun e=>gA b6 E.on.1 (by decide) e));have o8:=cO c3.on.1 8 _ rfl;have i4:=cN c3;have c8:=cN f0;have h0:=cN (H.trans S (fun _ _ h=>h));clear d9 H h5 b5 E S c3 f0 A b6 g6 e0;go_wp2_with (first|rw[e8.out]|(refine pX rfl _ _ rfl _ rfl _ (SetAt.clr c8.out _) ?_));intro W7 a3 i3 m7;obtain⟨_,_,f8⟩:=MapAt.obj c8.out;have a2:=i4.out.ansset a3 c8.out [] m7 p.out.2.2.2
  have d1:=cN (a3.kept f1.out (fun e=>eX f1.out f8 (by simp) e));have d0:=cN a2;have d5:=cN ((h0.out.mono (T:=fun k=>k=t∨k=am) (fun _ _ h=>Or.inl h)).trans a3 (fun _ _ h=>Or.inr h));have e9:=a2.cl.cell 16 _ rfl;have p5:=cO a2.on.1 5 _ rfl;have h8:=cN (cR (W:=W7.drew) d1.out);clear a3 i3 m7 f8 a2 o8 o7 z7 e8;go_wp2_with fail;refine eD [0,0,0,1,1,0,0,0,1] (by kernel_rfl) (fun _ _ _ _=>rfl) ?_;simp only[dC,dB];iterate 4 (apply sB rfl rfl;·(intro x h;(try cases h rfl);go_simp;with_reducible rfl))
  try simp only[pA]
  refine dA (v:=vlV w.next) rfl (fun x hx=>cU 56 _ rfl ⟨B.heap.size,0,none⟩ rfl (vlL w.next) _ (by subst hx;exact h8.out) underlying56 rfl (by kernel_rfl)) ?_;iterate 4 (apply sB rfl rfl;·(intro x h;(try cases h rfl);go_simp;with_reducible rfl))
  refine cP ?_;try simp only[pA]
  have a8:∀q,zU o w.next=q→Hid (Calls prog 202 #[.pointer (some ⟨t,0,none⟩),vlV w.next,.int .i64 o.att.bal] W7.drew fun r W'=>r= .returned (.bool q)∧Chg NoS W7.drew W'):=fun q e=>e▸aFJ W7.drew F t _ _ {o with att:={o.att with eres:=w.res,eown:=w.own,etok:=w.tok,awaited:=4,ans:=[]}} w.next (d0.out.kept (Chg.refl _ _).drew).on;cases hmk:zU o w.next
  ·have R:=a8 _ hmk;have HQ:=cN hmk;clear a8 hmk e9 p5;go_wp2_with (go_at_call 202;refine R.out.mono ?_;rintro r D ⟨rfl,k8⟩;refine cQ ?_);have u:=k8.of_drew;have U:=cN (d0.out.kept u);have c9:=cN (u.kept d1.out (fun h=>h));have f5:=cN (d5.out.trans u (fun _ _ h=>h.elim));clear k8 u R;refine cN ?_;have EO:Hid (iD o w={o with att:={o.att with eres:=w.res,eown:=w.own,etok:=w.tok,awaited:=4,ans:=[]}}):=by
    unfold iD;rw[HQ.out]
    rfl
   have c4:=cN (a6.out.kept f5.out (fun k a hs=>hs.elim (fun e=>p.out.2.1 t HK.out.on.2.1 (e▸a)) (fun e=>p.out.2.1 am L (e▸a))));have Y:=cN p.out.2.1;have b8:Hid (Went W D F F G G):=⟨(a5.out.mono (T:=fun k=>F k∨G k) (fun _ _ h=>h.elim)).trans f5.out (fun x _ hs=>Or.inl (hs.elim (fun e=>e▸HK.out.on.2.1) (fun e=>e▸L))),fun _ h=>Or.inl h,fun _ h=>Or.inl h⟩;go_wp2_with fail;have HS:Hid (Calls prog 165 #[.pointer (some ⟨b,0,none⟩),mgV ⟨3,0,0,0,0,o.att.base,w.next⟩] D.drew fun r W'=>r= .returned (.tuple #[])∧∃G',Sys W' F G' b g f av cv {c with doing:=some (iD o w)} (net++dJ (gX c (iD o w) 3 o.att.base w.next (gJ f))) (tr++gX c (iD o w) 3 o.att.base w.next (gJ f))∧Chg G D.drew W'∧∀k,G' k→G k∨D.drew.heap.size≤k):=
    uA D.drew F G b g f av cv {c with doing:=some (iD o w)} (iD o w) net tr 3 o.att.base w.next (Sys.drew ⟨⟨ch,tk,a4,wt,_,by rw[EO.out];exact U.out.cl⟩,c4.out,Y.out⟩) rfl hf1 hf2 d.out.2.2.1 d.out.2.2.2
   have b9:=cO U.out.on.1 9 _ rfl;have a0:=cN (cR (W:=D.drew) c9.out);refine eD [0,0,0,0,1,1,0] (by kernel_rfl) (fun _ _ _ _=>rfl) ?_;simp only[dC,dB];iterate 5 (apply sB rfl rfl;·(intro x h;(try cases h rfl);go_simp;with_reducible rfl))
   try simp only[pA]
   refine dA (v:=vlV w.next) rfl (fun x hx=>cU 56 _ rfl ⟨B.heap.size,0,none⟩ rfl (vlL w.next) _ (by subst hx;exact a0.out) underlying56 rfl (by kernel_rfl)) ?_;iterate 1 (apply sB rfl rfl;·(intro x h;(try cases h rfl);go_simp;with_reducible rfl))
   refine cP ?_;try simp only[pA]
   go_wp2_with (go_at_call 165;refine HS.out.mono ?_;rintro r W9 ⟨rfl,G9,q1,q2,q3⟩);go_end0;(try rw[if_neg M.out,if_neg M.out]);exact⟨by first|rfl|trivial,F,G9,q1,b8.out.trans ⟨q2.of_drew.mono (fun _ _ h=>Or.inr h),fun _ h=>Or.inl h,q3⟩⟩
  ·have R:=a8 _ hmk;have HQ:=cN hmk;clear a8 hmk e9 p5;go_wp2_with (go_at_call 202;refine R.out.mono ?_;rintro r P ⟨rfl,k8⟩;refine cQ ?_);have u:=k8.of_drew;have n:=cN (d0.out.kept u);have d2:=cN (u.kept d1.out (fun h=>h));have c1:=cN (d5.out.trans u (fun _ _ h=>h.elim));clear k8 u R;refine cN ?_;go_wp2_with fail;refine rlx [0,0,0,1,0,0,0,1,0,0,1,0,0,0,1,2,2,0,0] (fun x=>x.cell? ⟨b,16,none⟩=some (.pointer (some ⟨t,0,none⟩))∧x.cell? ⟨t,17,none⟩=some mv∧x.cell? ⟨t,5,none⟩=some (.int .i64 o.att.bal)) (by kernel_rfl) (fun _ _ _ _=>rfl) ?_ ?_
   ·exact⟨n.out.cl.cell 16 _ rfl,cO n.out.on.1 17 _ rfl,cO n.out.on.1 5 _ rfl⟩
   simp only[dC,dB];iterate 15 (apply sB rfl rfl;·(intro x h;(try have h:=h rfl);(try dsimp only at h);go_simp;with_reducible rfl))
   try simp only[pA]
   refine dI rfl (fun C hC=>?_);go_simp;have c6:Chg NoS P (P.alloc (.cells #[.int .i64 o.att.bal] 3)).drew:=((Chg.refl _ _).alloc _).drew;have bS:(P.alloc (.cells #[.int .i64 o.att.bal] 3)).drew.heap[P.heap.size]?=some (.cells #[.int .i64 o.att.bal] 3 (0,0)):=aA P _;have hsB:(P.alloc (.cells #[.int .i64 o.att.bal] 3)).drew.heap.size=P.heap.size+1:=by simp
   generalize (P.alloc (.cells #[.int .i64 o.att.bal] 3)).drew=WB at*;have i:=n.out.kept c6;refine hC _ _ ⟨i.cl.cell 16 _ rfl,cO i.on.1 17 _ rfl,cO i.on.1 5 _ rfl⟩ ?_;clear hC C;(try simp only[pA]);obtain⟨i0,hi,h4,i5,i2⟩:=info_parts aIz;refine dI rfl (fun C hC=>?_);refine wp_append_lies _ _ _ 25 rfl 0 3 i0 _ 1 8 underlying25 hi h4 i5 i2 rfl (by decide) mv o.mine.length (iE o.mine) rfl i.on.2.2.2.1 ⟨P.heap.size,0,none⟩ 1 1 [.int .i64 o.att.bal] rfl rfl (cR bS) (by simp[Value.oneCell']) (by decide) (by unfold maxLen;omega) (by omega) (aI _) (P.heap.size+1) hsB ?_;intro O b0 WC Z N f9 h3;have J:WB.grownBy WC mv.ownBlock:=⟨N.os,N.tape,N.output,N.size,N.block⟩;have b3:=fN i.on.2.2.2.1 i.on.1 (by decide);have m:=(Chg.of_grown J).kept i.on.1 (fun e=>b3 t e.symm rfl);have e2:=(Chg.of_grown J).kept i.cl.blk (fun e=>fN i.on.2.2.2.1 i.cl.blk (by decide) b e.symm rfl);refine hC _ _ ⟨cO e2 16 _ rfl,cO m 17 _ rfl,cO m 5 _ rfl⟩ ?_;clear hC C e2;(try simp only[pA]);iterate 2 (apply sB rfl rfl;·(intro x h;(try have h:=h rfl);(try dsimp only at h);go_simp;with_reducible rfl))
   refine cP ?_;try simp only[pA]
   have b7:=(c6.mono (T:=fun k=>some k=mv.ownBlock) (fun _ _ h=>h.elim)).trans (Chg.of_grown J) (fun _ _ h=>h);have d3:=fN Z m (by decide) O rfl;have i8:=cO m 17 _ rfl;have i7:=cX m 17;have c5:=cY WC t 17 (.slice (some ⟨O,0,none⟩) (o.mine.length+1) b0);have e1:=dD m 17 (.slice (some ⟨O,0,none⟩) (o.mine.length+1) b0);have h6:(WC.setCell ⟨t,17,none⟩ (.slice (some ⟨O,0,none⟩) (o.mine.length+1) b0)).heap.size=WC.heap.size:=by simp
   have a1:=c5.row Z (fun q hq e=>by simp[Value.ownBlock]at hq;omega);generalize f6:WC.setCell ⟨t,17,none⟩ (.slice (some ⟨O,0,none⟩) (o.mine.length+1) b0)=D at*;have h7:=cN f6;have K:=(b7.mono (T:=fun k=>some k=mv.ownBlock∨k=t) (fun _ _ h=>Or.inl h)).trans c5 (fun _ _ h=>Or.inr h);have g8:=b7.size;have e3:∀k,(F k∨k=O)→k<D.heap.size:=fun k a=>by
    rcases a with a|rfl
    ·have:=n.out.cl.lt k a;omega
    ·omega
   have f4:=n.out.mineset K o.att.bal (fun _ h=>Or.inl h) e3 (Or.inr rfl) e1 (by rw[show iE (o.mine++[o.att.bal])=iE o.mine++[.int .i64 o.att.bal] by simp[iE]];exact a1);have U:=cN f4;have X:∀k,k=O→F k∨P.heap.size≤k:=fun k e=>by
    subst e;rcases f9 with h|h
    ·exact Or.inl (n.out.on.2.2.2.2 _ h)
    ·right;omega
   have EO:Hid (iD o w={o with att:={o.att with eres:=w.res,eown:=w.own,etok:=w.tok,awaited:=4,ans:=[]},mine:=o.mine++[o.att.bal]}):=by
    unfold iD;rw[HQ.out]
    rfl
   have V:=(c1.out.mono (T:=F) (fun k _ hs=>hs.elim (fun e=>e▸HK.out.on.2.1) (fun e=>e▸L))).trans K (fun x _ hs=>hs.elim (fun e=>n.out.on.2.2.2.2 x e.symm) (fun e=>e▸HK.out.on.2.1));have c4:=cN (a6.out.kept V (fun k a hs=>p.out.2.1 k hs a));have Y:Hid (∀k,(F k∨k=O)→¬G k):=fun k a hg=>by
    have h1:=a6.out.lt k hg;have h2:=c1.out.size;rcases a with a|a
    ·exact p.out.2.1 k a hg
    ·rcases X k a with h|h
     ·exact p.out.2.1 k h hg
     ·omega
   have b8:Hid (Went W D F (fun k=>F k∨k=O) G G):=⟨((a5.out.mono (T:=F) (fun _ _ h=>h.elim)).trans V (fun _ _ h=>h)).mono (fun _ _ h=>Or.inl h),fun k a=>by
    rcases a with a|a
    ·exact Or.inl a
    ·rcases X k a with h|h
     ·exact Or.inl h
     ·right;have h1:=a5.out.size;have h2:=c1.out.size;omega,fun _ h=>Or.inl h⟩
   have c9:Hid (D.heap[B.heap.size]?=some (.cells (vlL w.next).toArray 56 (0,0))):=by
    refine K.kept d2.out (fun hs=>?_);rcases hs with e|e
    ·exact fN n.out.on.2.2.2.1 d2.out (by decide) _ e.symm rfl
    ·exact gA d2.out n.out.on.1 (by decide) e
   clear f6 f4 K V X e3 a1 h6 e1 c5 b7 m N J Z i c6 bS hsB f9 h3 b3 d3 g8;(try simp only[pA]);go_wp2_with (first|rw[h7.out]);have HS:Hid (Calls prog 165 #[.pointer (some ⟨b,0,none⟩),mgV ⟨3,0,0,0,0,o.att.base,w.next⟩] D.drew fun r W'=>r= .returned (.tuple #[])∧∃G',Sys W' (fun k=>F k∨k=O) G' b g f av cv {c with doing:=some (iD o w)} (net++dJ (gX c (iD o w) 3 o.att.base w.next (gJ f))) (tr++gX c (iD o w) 3 o.att.base w.next (gJ f))∧Chg G D.drew W'∧∀k,G' k→G k∨D.drew.heap.size≤k):=
    uA D.drew (fun k=>F k∨k=O) G b g f av cv {c with doing:=some (iD o w)} (iD o w) net tr 3 o.att.base w.next (Sys.drew ⟨⟨ch,tk,a4,wt,_,by rw[EO.out];exact U.out.cl⟩,c4.out,Y.out⟩) rfl hf1 hf2 d.out.2.2.1 d.out.2.2.2
   have b9:=cO U.out.on.1 9 _ rfl;have a0:=cN (cR (W:=D.drew) c9.out);refine eD [0,0,0,0,1,1,0] (by kernel_rfl) (fun _ _ _ _=>rfl) ?_;simp only[dC,dB];iterate 5 (apply sB rfl rfl;·(intro x h;(try cases h rfl);go_simp;with_reducible rfl))
   try simp only[pA]
   refine dA (v:=vlV w.next) rfl (fun x hx=>cU 56 _ rfl ⟨B.heap.size,0,none⟩ rfl (vlL w.next) _ (by subst hx;exact a0.out) underlying56 rfl (by kernel_rfl)) ?_;iterate 1 (apply sB rfl rfl;·(intro x h;(try cases h rfl);go_simp;with_reducible rfl))
   refine cP ?_;try simp only[pA]
   go_wp2_with (go_at_call 165;refine HS.out.mono ?_;rintro r W9 ⟨rfl,G9,q1,q2,q3⟩);go_end0;(try rw[if_neg M.out,if_neg M.out]);exact⟨by first|rfl|trivial,(fun k=>F k∨k=O),G9,q1,b8.out.trans ⟨q2.of_drew.mono (fun _ _ h=>Or.inr h),fun _ h=>Or.inl h,q3⟩⟩
section
open Go.Maps
structure ASys(W:World)(F G:Nat→Prop)(b g:Nat)(av cv:Value)(a:Ac)(net:List Mg)(tr:List Ev):Prop where
 acc:Acc W F b g a
 nt:NtAt W G g av cv net tr
 apart:∀k,F k→¬G k
def AfterA(W:World)(F G:Nat→Prop)(b g:Nat)(av cv:Value)(a:Ac)(net:List Mg)(tr:List Ev)(W':World):Prop:=∃F' G',ASys W' F' G' b g av cv a net tr∧Went W W' F F' G G'
theorem AfterA.trans{A B C:World}{F F1 G G1:Nat→Prop}{b g:Nat}{av cv:Value}{a:Ac}{net:List Mg}{tr:List Ev}(h:Went A B F F1 G G1)(k:AfterA B F1 G1 b g av cv a net tr C):AfterA A F G b g av cv a net tr C:=by
 obtain⟨e,d,c,f⟩:=k;exact⟨e,d,c,h.trans f⟩
theorem ASys.kept{W W':World}{F G S:Nat→Prop}{b g:Nat}{av cv:Value}{a:Ac}{net:List Mg}{tr:List Ev}(h:ASys W F G b g av cv a net tr)(hc:Chg S W W')(hf:∀k,F k→¬S k)(hg:∀k,G k→¬S k):ASys W' F G b g av cv a net tr:=
 ⟨h.acc.kept hc hf,h.nt.kept hc hg,h.apart⟩
theorem ASys.drew{W:World}{F G:Nat→Prop}{b g:Nat}{av cv:Value}{a:Ac}{net:List Mg}{tr:List Ev}(h:ASys W F G b g av cv a net tr):ASys W.drew F G b g av cv a net tr:=
 h.kept (Chg.refl NoS W).drew (fun _ _ h=>h) (fun _ _ h=>h)
theorem ASys.went{W W':World}{F G:Nat→Prop}{b g:Nat}{av cv:Value}{a a':Ac}{net:List Mg}{tr:List Ev}(h:ASys W F G b g av cv a net tr)(k:AcTo W F b g a' W'):∃F',ASys W' F' G b g av cv a' net tr∧Went W W' F F' G G:=by
 obtain⟨F',f,d,e⟩:=k;refine⟨F',⟨f,h.nt.kept d (fun x hx hf=>h.apart x hf hx),fun x hx hg=>?_⟩,⟨d.mono (fun _ _ h=>Or.inl h),e,fun _ h=>Or.inl h⟩⟩;rcases e x hx with c|c
 ·exact h.apart x c hg
 ·have:=h.nt.lt x hg;omega
section
variable (W:World) (F G:Nat→Prop) (b g:Nat) (av cv:Value) (a:Ac) (net:List Mg) (tr:List Ev)
theorem qH(e:Ev)(h:ASys W F G b g av cv a net tr)(hn:net.length≤100000000000)(ht:tr.length≤100000000000):
 Calls prog 77 #[.pointer (some ⟨g,0,none⟩),evV e] W fun r W'=>r= .returned (.tuple #[])∧∃G',ASys W' F G' b g av cv a (net++dJ [e]) (tr++[e])∧Chg G W W'∧∀k,G' k→G k∨W.heap.size≤k:=by
 refine(aA1 W G g av cv net tr e h.nt hn ht).mono ?_;rintro r W' ⟨j,G',c,f,i⟩;refine⟨j,G',⟨h.acc.kept f h.apart,c,fun k hk hk'=>?_⟩,f,i⟩;rcases i k hk' with d|d
 ·exact h.apart k hk d
 ·have:=h.acc.lt k hk;omega
theorem aEi(x m:Mg)(h:ASys W F G b g av cv a net tr)(hn:net.length≤100000000000)(ht:tr.length≤100000000000):
 Calls prog 172 #[.pointer (some ⟨b,0,none⟩),mgV x,mgV m] W fun r W'=>r= .returned (.tuple #[])∧∃G',ASys W' F G' b g av cv a (net++[mH a x m]) (tr++[sentEv (mH a x m)])∧Chg G W W'∧∀k,G' k→G k∨W.heap.size≤k:=by
 have P:=aA W (.cells #[.int .i64 x.kind,.int .i64 x.src,.int .i64 x.dst,.int .i64 x.lock,.int .i64 x.bal,.int .i64 x.base,.int .i64 x.val.own,.int .i64 x.val.tok,.int .i64 x.val.ttl,.int .i64 x.val.seq] 66);have a0:Chg NoS W (W.alloc (.cells #[.int .i64 x.kind,.int .i64 x.src,.int .i64 x.dst,.int .i64 x.lock,.int .i64 x.bal,.int .i64 x.base,.int .i64 x.val.own,.int .i64 x.val.tok,.int .i64 x.val.ttl,.int .i64 x.val.seq] 66)):=(Chg.refl _ _).alloc _;have u:(W.alloc (.cells #[.int .i64 x.kind,.int .i64 x.src,.int .i64 x.dst,.int .i64 x.lock,.int .i64 x.bal,.int .i64 x.base,.int .i64 x.val.own,.int .i64 x.val.tok,.int .i64 x.val.ttl,.int .i64 x.val.seq] 66)).heap.size=W.heap.size+1:=by simp
 generalize L:W.alloc (.cells #[.int .i64 x.kind,.int .i64 x.src,.int .i64 x.dst,.int .i64 x.lock,.int .i64 x.bal,.int .i64 x.base,.int .i64 x.val.own,.int .i64 x.val.tok,.int .i64 x.val.ttl,.int .i64 x.val.seq] 66)=W1 at*;have b1:=cN L;have t:=aA W1 (.cells #[.int .i64 m.kind,.int .i64 m.src,.int .i64 m.dst,.int .i64 m.lock,.int .i64 m.bal,.int .i64 m.base,.int .i64 m.val.own,.int .i64 m.val.tok,.int .i64 m.val.ttl,.int .i64 m.val.seq] 66);have w:Chg NoS W1 (W1.alloc (.cells #[.int .i64 m.kind,.int .i64 m.src,.int .i64 m.dst,.int .i64 m.lock,.int .i64 m.bal,.int .i64 m.base,.int .i64 m.val.own,.int .i64 m.val.tok,.int .i64 m.val.ttl,.int .i64 m.val.seq] 66)):=(Chg.refl _ _).alloc _;have a7:(W1.alloc (.cells #[.int .i64 m.kind,.int .i64 m.src,.int .i64 m.dst,.int .i64 m.lock,.int .i64 m.bal,.int .i64 m.base,.int .i64 m.val.own,.int .i64 m.val.tok,.int .i64 m.val.ttl,.int .i64 m.val.seq] 66)).heap.size=W.heap.size+2:=by simp[u]
 generalize M:W1.alloc (.cells #[.int .i64 m.kind,.int .i64 m.src,.int .i64 m.dst,.int .i64 m.lock,.int .i64 m.bal,.int .i64 m.base,.int .i64 m.val.own,.int .i64 m.val.tok,.int .i64 m.val.ttl,.int .i64 m.val.seq] 66)=W2 at*;have a5:=cN M;rw[u]at t;have K:W2.heap[W.heap.size]?=some (.cells (mgL x).toArray 66 (0,0)):=w.kept P (fun h=>h);have T:W2.heap[W.heap.size+1]?=some (.cells (mgL m).toArray 66 (0,0)):=t;have l:=a0.trans (S:=NoS) w (fun _ _ h=>h);have A:¬F W.heap.size:=fun hx=>by have:=h.acc.lt _ hx;omega
 have s:¬G W.heap.size:=fun hx=>by have:=h.nt.lt _ hx;omega
 have p:Hid (∀y,Chg (fun k=>k=W.heap.size) W2 y→y.cell? ⟨b,0,none⟩=some (.int .i64 a.num)∧y.cell? ⟨b,5,none⟩=some (yW g)∧y.cell? ⟨W.heap.size+1,1,none⟩=some (.int .i64 m.src)∧y.cell? ⟨W.heap.size+1,3,none⟩=some (.int .i64 m.lock)∧y.cell? ⟨W.heap.size+1,4,none⟩=some (.int .i64 m.bal)∧ASys y F G b g av cv a net tr∧Chg NoS W y):=fun y hy=>by
  have hb:=hy.kept T (by omega);have hs:=(h.kept l (fun _ _ h=>h) (fun _ _ h=>h)).kept hy (fun k hk e=>A (e▸hk)) (fun k hk e=>s (e▸hk));obtain⟨FD,d,tb,ha,_,_⟩:=hs.acc;exact⟨ha.cell 0 _ rfl,ha.cell 5 _ rfl,cO hb 1 _ rfl,cO hb 3 _ rfl,cO hb 4 _ rfl,hs,l.trans (S:=NoS) hy (fun x hx e=>by omega)⟩
 have B:=cN K;have b3:=cN (aLo A s);clear L M P t a0 w a7 T K l A s h;go_enter func172,ntmps172;go_wp2_with (first|rw[b1.out]|rw[a5.out]);clear u;refine rlx [0,0,0,1,0,1,0,2,0] (fun y=>y.cell? ⟨b,0,none⟩=some (.int .i64 a.num)∧y.cell? ⟨W.heap.size+1,1,none⟩=some (.int .i64 m.src)) (by kernel_rfl) (fun _ _ _ _=>rfl) ?_ ?_
 ·obtain⟨q1,_,q3,_⟩:=p.out _ (Chg.refl _ W2).drew;exact⟨q1,q3⟩
 simp only[dC,dB];iterate 7 (apply sB rfl rfl;·(intro x h;(try have h:=h rfl);(try dsimp only at h);go_simp;with_reducible rfl))
 try simp only[pA]
 have c1:=cO (W:=W2.drew) B.out 1 _ rfl;have z1:=cX (W:=W2.drew) B.out 1;have Z:=cY W2.drew W.heap.size 1 (.int .i64 a.num);have o:(W2.drew.setCell ⟨W.heap.size,1,none⟩ (.int .i64 a.num)).heap[W.heap.size]?=some (.cells (mgL {x with src:=a.num}).toArray 66 (0,0)):=dD (W:=W2.drew) B.out 1 (.int .i64 a.num);generalize V:W2.drew.setCell ⟨W.heap.size,1,none⟩ (.int .i64 a.num)=W3 at*;have a3:=cN V;have c:=Z.of_drew;refine dI rfl (fun C hC=>?_);go_simp;try rw[a3.out]
 refine hC _ _ ⟨(p.out _ c).1,(p.out _ c).2.2.1⟩ ?_;clear hC C;iterate 1 (apply sB rfl rfl;·(intro x h;(try have h:=h rfl);(try dsimp only at h);go_simp;with_reducible rfl))
 refine cP ?_;try simp only[pA]
 have d2:=cO o 2 _ rfl;have y2:=cX o 2;have R:=cY W3 W.heap.size 2 (.int .i64 m.src);have D:(W3.setCell ⟨W.heap.size,2,none⟩ (.int .i64 m.src)).heap[W.heap.size]?=some (.cells (mgL {x with src:=a.num,dst:=m.src}).toArray 66 (0,0)):=dD o 2 (.int .i64 m.src);generalize Q:W3.setCell ⟨W.heap.size,2,none⟩ (.int .i64 m.src)=W4 at*;have b0:=cN Q;have Y:=cN (c.trans R (fun _ _ h=>h));have i:=cN D;clear Z o V c R D Q c1 z1;go_wp2_with (first|rw[b0.out]);clear d2 y2;refine rlx [0,1,0,1,0,2,0] (fun y=>y.cell? ⟨W.heap.size+1,3,none⟩=some (.int .i64 m.lock)∧y.cell? ⟨W.heap.size+1,4,none⟩=some (.int .i64 m.bal)) (by kernel_rfl) (fun _ _ _ _=>rfl) ?_ ?_
 ·obtain⟨_,_,_,q4,q5,_⟩:=p.out _ Y.out.drew;exact⟨q4,q5⟩
 simp only[dC,dB];iterate 5 (apply sB rfl rfl;·(intro x h;(try have h:=h rfl);(try dsimp only at h);go_simp;with_reducible rfl))
 try simp only[pA]
 have c3:=cO (W:=W4.drew) i.out 3 _ rfl;have z3:=cX (W:=W4.drew) i.out 3;have N:=cY W4.drew W.heap.size 3 (.int .i64 m.lock);have n:(W4.drew.setCell ⟨W.heap.size,3,none⟩ (.int .i64 m.lock)).heap[W.heap.size]?=some (.cells (mgL {x with src:=a.num,dst:=m.src,lock:=m.lock}).toArray 66 (0,0)):=dD (W:=W4.drew) i.out 3 (.int .i64 m.lock);generalize E:W4.drew.setCell ⟨W.heap.size,3,none⟩ (.int .i64 m.lock)=W5 at*;have a9:=cN E;have f:=Y.out.trans N.of_drew (fun _ _ h=>h);refine dI rfl (fun C hC=>?_);go_simp;try rw[a9.out]
 refine hC _ _ ⟨(p.out _ f).2.2.2.1,(p.out _ f).2.2.2.2.1⟩ ?_;clear hC C;iterate 1 (apply sB rfl rfl;·(intro x h;(try have h:=h rfl);(try dsimp only at h);go_simp;with_reducible rfl))
 refine cP ?_;try simp only[pA]
 have d4:=cO n 4 _ rfl;have y4:=cX n 4;have X:=cY W5 W.heap.size 4 (.int .i64 m.bal);have J:(W5.setCell ⟨W.heap.size,4,none⟩ (.int .i64 m.bal)).heap[W.heap.size]?=some (.cells (mgL (mH a x m)).toArray 66 (0,0)):=dD n 4 (.int .i64 m.bal);generalize U:W5.setCell ⟨W.heap.size,4,none⟩ (.int .i64 m.bal)=W6 at*;have b2:=cN U;have H:=cN (f.trans X (fun _ _ h=>h));have a2:=cN J;clear N n E f X J U c3 z3;go_wp2_with (first|rw[b2.out]);clear d4 y4;refine rlx [0,0,0,1,1,0] (fun y=>y.cell? ⟨b,5,none⟩=some (yW g)∧∀j z,(mgL (mH a x m))[j]?=some z→y.cell? ((⟨W.heap.size,0,none⟩:Addr).add j)=some z) (by kernel_rfl) (fun _ _ _ _=>rfl) ?_ ?_
 ·obtain⟨_,q2,_⟩:=p.out _ H.out.drew;exact⟨q2,cR (W:=W6.drew) a2.out⟩
 simp only[dC,dB];iterate 4 (apply sB rfl rfl;·(intro x h;(try have h:=h rfl);(try dsimp only at h);go_simp;with_reducible rfl))
 try simp only[pA]
 refine dA (v:=mgV (mH a x m)) rfl (fun y hy=>cU 66 _ rfl ⟨W.heap.size,0,none⟩ rfl (mgL (mH a x m)) _ hy.2 underlying66 rfl (by kernel_rfl)) ?_;iterate 1 (apply sB rfl rfl;·(intro x h;(try have h:=h rfl);(try dsimp only at h);go_simp;with_reducible rfl))
 refine cP ?_;try simp only[pA]
 obtain⟨_,_,_,_,_,q,a1⟩:=p.out W6.drew H.out.drew;have a8:Hid (Calls prog 77 #[.pointer (some ⟨g,0,none⟩),evV (sentEv (mH a x m))] W6.drew fun r W'=>r= .returned (.tuple #[])∧∃G',ASys W' F G' b g av cv a (net++dJ [sentEv (mH a x m)]) (tr++[sentEv (mH a x m)])∧Chg G W6.drew W'∧∀k,G' k→G k∨W6.drew.heap.size≤k):=qH W6.drew F G b g av cv a net tr (sentEv (mH a x m)) q hn ht;have I:=cN a1;clear q a1;go_wp2_with fail;refine a8.out.mono ?_;rintro r W7 ⟨rfl,G7,O,a6,a4⟩;go_wp2_with fail
 (first|go_end0|((try simp only[Exit.inBlock,Exit.then]);refine bodyPost_ret (results_none rfl _ _ _) rfl ?_))
 rw[rM _ rfl]at O;exact⟨rfl,G7,O,(I.out.nos:Chg G W W6.drew).trans a6 (fun _ _ h=>h),fun k hk=>by
  rcases a4 k hk with h|h
  ·exact Or.inl h
  ·exact Or.inr (cA I.out.size h)⟩
end
end
section
open Go.Maps
theorem aI5{W:World}{tb:Nat}{rs:List Rw}(h:aBv W tb rs)(ty:TypeId):∃W',(Builtin.clear_ #[118] ty #[.map (some tb)]).run prog W= .ok (.tuple #[]) W'∧aBv W' tb []∧Chg (fun x=>x=tb) W W'∧W'.heap.size=W.heap.size:=by
 obtain⟨c,a,b,_⟩:=h;refine⟨ChangeMaps.setBlock W tb (.map #[] a),?_,⟨#[],a,jV b _,⟨by simp,MapKept.stamped_empty a,by simp⟩,by simp,rfl⟩,iY _ _ _,by simp[ChangeMaps.setBlock]⟩;simp[Builtin.clear_,aT,run_underlying underlying118,MapKept.run_getObj_map b,MapKept.run_setObj_map _ b,Result.andThen,ChangeMaps.setBlock]
structure aH8(k:Dk):Prop where
 y0:0≤(fB k).2
 y1:(fB k).2≤((fB k).1.length:Int)
 l1:((fB k).1.length:Int)≤1000000000000
section
variable (W:World) (F G:Nat→Prop) (b g:Nat) (av cv:Value) (a:Ac) (net:List Mg) (tr:List Ev)
theorem wI(q:Int)(h:ASys W F G b g av cv a net tr)(hk:aH8 a.dk)(hq:0≤q)(hn:net.length≤100000000000)(ht:tr.length≤100000000000):
 Calls prog 128 #[.pointer (some ⟨b,0,none⟩),.int .i64 q] W fun r W'=>r= .returned (.tuple #[])∧AfterA W F G b g av cv (crashA a q) net (tr++[eO a.num]) W':=by
 have HS:=cN h;obtain⟨FD,d,i,I,y,o⟩:=h.acc;have c2:=I.cell 2 _ rfl;have J:=cN (aLp I y o);have v:=cN (aF4 W FD d a.dk q I.disk hk.y0 hk.y1 hk.l1 hq);clear I y o h hk;go_enter func128,ntmps128;go_wp2_with (first|(go_at_call 166;refine v.out.mono ?_;rintro e U ⟨rfl,u⟩;refine cQ ?_));obtain⟨z,X,c,H,Y,T,_,D⟩:=J.out.1.to J.out.2.1 J.out.2.2 u;have c3:=c.cell 3 _ rfl;obtain⟨_,_,V⟩:=eH c.table;have HK:Hid (∀f,aBv f i []→Chg (fun x=>x=i) U f→∀W3,Chg (fun x=>x=b) f W3→W3.heap[b]?=some (.cells (acL (crashA a q) d i g).toArray 162 (0,0))→∃F',ASys W3 F' G b g av cv (crashA a q) net tr∧Went W W3 F F' G G):=fun f l j W3 k3 m=>by
  have Q:=j.kept c.blk (fun e=>eX c.blk V (by simp) e);have n:Disk f z d (fM a.dk q):=c.disk.of_heap j.size (fun x hx=>j.block x (c.disk.lt x hx) (fun e=>c.ntb (e▸hx)));have M:=n.of_heap k3.size (fun x hx=>k3.block x (n.lt x hx) (fun e=>c.nb (e▸hx)));obtain⟨_,_,o2⟩:=eH l;have S:aBv W3 i []:=eB l (k3.block _ l.lt (fun e=>eX Q o2 (by simp) e.symm));have C:Acc W3 X b g (crashA a q):=⟨z,d,i,⟨m,M,S,c.nb,c.ntb⟩,H,fun x hx=>aG (Y x hx) (cA j.size k3.size)⟩;refine HS.out.went ⟨X,C,(T.trans j (fun x hx e=>?_)).trans k3 (fun x hx e=>?_),D⟩
  ·subst e;rcases D _ (H _ (Or.inr (Or.inr rfl)))with h|h
   ·exact h
   ·omega
  ·subst e;rcases D _ (H _ (Or.inr (Or.inl rfl)))with h|h
   ·exact h
   ·omega
 have P:=cN (fun ty=>aI5 c.table ty);have k:=cN (aLo c.blk V);clear c H Y T D u c2;refine cN ?_;go_wp2_with (first|(refine pX rfl 118 _ rfl (.map (some i)) rfl (fun w=>aBv w i []∧Chg (fun x=>x=i) U w) (by obtain⟨w,g1,g2,g3,_⟩:=P.out _;exact⟨w,g1,g2,g3⟩) ?_;rintro f ⟨l,j⟩;refine cQ ?_));have E:=j.kept k.out.1 (fun e=>eX k.out.1 k.out.2 (by simp) e);have d4:=cO E 4 _ rfl;have z4:=cX E 4;have B:=cY f b 4 (.int .i64 2);have m:(f.setCell ⟨b,4,none⟩ (.int .i64 2)).heap[b]?=some (.cells (acL (crashA a q) d i g).toArray 162 (0,0)):=dD E 4 (.int .i64 2);generalize A:f.setCell ⟨b,4,none⟩ (.int .i64 2)=W3 at*;have K:=cN A;obtain⟨Z,p,t⟩:=HK.out f l j W3 B m;have e5:=cO m 5 _ rfl;have e0:=cO m 0 _ rfl;have R:=cN (qH W3.drew Z G b g av cv (crashA a q) net tr (eO a.num) p.drew hn ht);have N:=cN t;clear p t A B m l j E c3 v;refine cN ?_;go_wp2_with (first|rw[K.out]);clear d4 z4;refine eD [0,0,0,1,0,0,0,1,0] (by kernel_rfl) (fun _ _ _ _=>rfl) ?_;simp only[dC,dB];iterate 9 (apply sB rfl rfl;·(intro x h;(try cases h rfl);go_simp;with_reducible rfl))
 refine cP ?_;try simp only[pA]
 go_wp2_with fail;refine R.out.mono ?_;rintro r W4 ⟨rfl,G4,s,O,L⟩;go_wp2_with fail
 (first|go_end0|((try simp only[Exit.inBlock,Exit.then]);refine bodyPost_ret (results_none rfl _ _ _) rfl ?_))
 rw[fE _ (show(4:Int)≠1 by decide),aC]at s;refine⟨rfl,Z,G4,s,N.out.trans ⟨O.of_drew.mono (fun _ _ h=>Or.inr h),fun _ h=>Or.inl h,L⟩⟩
theorem aHk(n q:Int)(h:ASys W F G b g av cv a net tr)(hk:aH8 a.dk)(hq:0≤q)(hn:net.length≤100000000000)(ht:tr.length≤100000000000):
 Calls prog 87 #[.pointer (some ⟨b,0,none⟩),.int .i64 n,.int .i64 q] W fun r W'=>r= .returned (.int .i64 (aBn a))∧AfterA W F G b g av cv (yN a n q) net (tr++tN a n) W':=by
 have x:=cN h;obtain⟨N,d,E,o,i,f⟩:=h.acc;have O:=o.cell 4 _ rfl;by_cases c:a.st=2
 ·have l:aBn a=2:=if_pos c;have k:yN a n q=a:=if_pos c;have m:tN a n=[]:=if_pos c;rw[l,k,m,aC];have z:(a.st==2)=true:=by simp[c]
  clear l k m c o i f h hk;go_enter func87,ntmps87;go_wp2_with fail;go_ret;exact⟨rfl,F,G,x.out,Went.refl _ _ _⟩
 ·have z:(a.st==2)=false:=by simp[c]
  by_cases j:n=0
  ·have l:aBn a=0:=if_neg c;have k:yN a n q=crashA a q:=(if_neg c).trans (if_pos j);have m:tN a n=[eO a.num]:=(if_neg c).trans (if_pos j);rw[l,k,m];have u:(n==0)=true:=by simp[j]
   have w:=cN (wI W F G b g av cv a net tr q h hk hq hn ht);clear l k m c j o i f h hk;go_enter func87,ntmps87;go_wp2_with (go_at_call 128;refine w.out.mono ?_;rintro e D ⟨rfl,y⟩);go_ret;exact⟨rfl,y⟩
  ·have l:aBn a=0:=if_neg c;have k:yN a n q={a with dk:={a.dk with fail:=some (n,q)}}:=(if_neg c).trans (if_neg j);have m:tN a n=[]:=(if_neg c).trans (if_neg j);rw[l,k,m,aC];have u:(n==0)=false:=by simp[j]
   have s:=cN (aG1 W N d a.dk n q o.disk);have P:=o.cell 2 _ rfl;have p:=cN (aLp o i f);clear l k m c j o i f h hk;go_enter func87,ntmps87;go_wp2_with (go_at_call 133;refine s.out.mono ?_;rintro e D ⟨rfl,t⟩);go_ret;obtain⟨v,I,L,K,M,C,_,B⟩:=p.out.1.to p.out.2.1 p.out.2.2 t;obtain⟨A,J,H⟩:=x.out.went ⟨I,⟨v,d,E,L,K,M⟩,C,B⟩;exact⟨rfl,A,G,J,H⟩
end
theorem aFP(W:World)(F:Nat→Prop)(b g:Nat)(a:Ac)(h:Acc W F b g a)(hok:yA a):
 Calls prog 59 #[.pointer (some ⟨b,0,none⟩)] W fun e W'=>if a.st=2 then e= .returned (.tuple #[.slice none 0 0,.int .i64 2])∧W'=W else∃v,e= .returned (.tuple #[v,.int .i64 0])∧W'.ownsRow W.heap.size 58 7 v (eG a.rows 4).length (cellsOf (eG a.rows 4))∧Below W.heap.size W W':=by
 obtain⟨q,d,i,f,n,m⟩:=h;have r:=f.cell 4 _ rfl;by_cases c:a.st=2
 ·simp only[if_pos c];have k:(a.st==2)=true:=by simp[c]
  clear c f;go_enter func59,ntmps59;go_wp2_with fail
  go_ret2
  exact⟨rfl,rfl⟩
 ·simp only[if_neg c];have k:(a.st==2)=false:=by simp[c]
  have l:=cN (qW i 4 a.rows W f.table hok.lk);have p:=f.cell 3 _ rfl;clear c f;go_enter func59,ntmps59;go_wp2_with (go_at_call 62;refine l.out.mono ?_;rintro e o ⟨v,rfl,j,c⟩)
  go_ret2
  exact⟨v,rfl,j,c⟩
end
end Go.Proofs.YtbbdgokdfhdpiaaGreatDoor
