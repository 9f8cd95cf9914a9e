/- A part of the proof: MoInvA, MoInvB, KpRoom, LivA, LivC. -/
import Derived.Test.YtbbdgokdfhdpiaaGreatDoorE5
namespace Go.Proofs.YtbbdgokdfhdpiaaGreatDoor
set_option linter.all false
set_option maxRecDepth 100000
set_option maxHeartbeats 40000000
open Go.Proofs.Tryz Go.RowKit
structure RwOk(r:Rw):Prop where
 l1:0≤r.lock
 l2:r.lock≤3
 p1:0≤r.prom
 p2:r.prom≤256255
 a1:0≤r.acc
 a2:r.acc≤r.prom
 v:VOk ⟨r.own,r.tok,r.ttl,r.seq⟩
theorem RwOk.ok{r:Rw}(h:RwOk r):okB r=true:=aHn (by
 have:=h.l1;have:=h.l2;have:=h.p1;have:=h.p2;have:=h.a1;have:=h.a2;have:=h.v.o1;have:=h.v.o2;have:=h.v.k1;have:=h.v.k2;have:=h.v.t1;have:=h.v.t2;have:=h.v.s1;have:=h.v.s2;dsimp only at*;omega)
structure DOk(f:Cf)(k:Dk):Prop where
 room:k.room=f.room
 by_:∀x ∈ k.log,0≤x∧x<256
 syn:k.lsyn=k.log.length
 len:(k.log.length:Int)≤f.room
 old:k.old=none
 fail:∀p,k.fail=some p→0≤p.1∧p.1≤9223372036854775807∧0≤p.2
 rows:∀r ∈ dS k.log,RwOk r
structure AOk(f:Cf)(i:Nat)(a:Ac):Prop where
 num:a.num=i
 comp:a.compact=f.compact
 st:a.st=0∨a.st=1∨a.st=2
 dk:DOk f a.dk
 new:a.st≠1→a.dk.new=none
 nofail:a.st=2→a.dk.fail=none
 tab:a.st≠2→∀k,dQ a.rows k=dQ (dS a.dk.log) k
 rows:∀r ∈ a.rows,RwOk r
 full:a.st=0→25*(dS a.dk.log).length=a.dk.log.length
section
variable {f:Cf}{i:Nat}{a:Ac}
theorem vX(h:AOk f i a)(lock:Int)(h0:0≤lock)(h3:lock≤3):RwOk (gH a lock)∧(gH a lock).lock=lock:=by
 unfold gH;refine⟨?_,rfl⟩;cases hl:dQ a.rows lock.toNat with
 |none=>exact⟨h0,h3,aL 0,(by decide:(0:Int)≤256255),aL 0,aL 0,wY⟩
 |some r=>
  have b:=h.rows r (oZ hl).1;exact⟨h0,h3,b.p1,b.p2,b.a1,b.a2,b.v⟩
theorem qH{m:Mg}{r:Rw}(hm:MOk f m)(hr:RwOk r):RwOk (dX m r)∧(dX m r).lock=r.lock:=by
 have:=hm.b1;have:=hm.b2;have:=hr.p1;unfold dX;split
 ·exact⟨hr,rfl⟩
 ·split
  ·exact⟨⟨hr.l1,hr.l2,hm.b1,hm.b2,hr.a1,by show r.acc≤m.bal;have:=hr.a2;omega,hr.v⟩,rfl⟩
  ·exact⟨⟨hr.l1,hr.l2,hm.b1,hm.b2,hm.b1,aL _,hm.v⟩,rfl⟩
theorem aHk{m:Mg}{r:Rw}(hi:(i:Int)<2*f.f+1)(hn:a.num=i)(hm:MOk f m)(hA:m.kind=1∨m.kind=3)(hr:RwOk r):MOk f (jK a (decMsg m r) m):=by
 have d:=hm.toA hA;have c:∀(k b:Int) (v:Vl),(k=2∨k=4∨k=5)→0≤b→b≤256255→VOk v→(k=4→b=0)→MOk f (jK a {zMg with kind:=k,base:=b,val:=v} m):=fun k b v hk hb hb' hv h40=>
  ⟨by show 1≤k;omega,by show k≤5;omega,hm.l1,hm.l2,hm.b1,hm.b2,hb,hb',hv,by show 0≤a.num;omega,hm.s1,h40,fun h=>by exfalso;have:k=1∨k=3:=h;omega,fun _=>⟨by show a.num<_;omega,d.1⟩⟩
 unfold decMsg;split
 ·exact c 5 r.prom zVl (by omega) hr.p1 hr.p2 wY (by omega)
 ·split
  ·exact c 2 r.acc ⟨r.own,r.tok,r.ttl,r.seq⟩ (by omega) hr.a1 (by have:=hr.a2;have:=hr.p2;omega) hr.v (by omega)
  ·exact c 4 0 zVl (by omega) (by decide) (by decide) wY (fun _=>rfl)
theorem aFj(m:Mg):cH [fC m]=[m]:=rfl
theorem aGH{m:Mg}(h:MOk f m):EOk f [fC m]:=⟨fun x hx=>(by rw[aFj]at hx;simp at hx;subst hx;exact h),by simp⟩
theorem jV{k k1:Dk}(h:fS k=some k1)(hf:∀p,k.fail=some p→0≤p.1∧p.1≤9223372036854775807∧0≤p.2):
 (∃fl,k1={k with fail:=fl})∧∀p,k1.fail=some p→0≤p.1∧p.1≤9223372036854775807∧0≤p.2:=by
 unfold fS at h;split at h
 ·rename_i hn;cases h;exact⟨⟨k.fail,rfl⟩,hf⟩
 ·rename_i n q hn;split at h
  ·cases h
  ·rename_i h0;cases h;have:=hf _ hn;refine⟨⟨_,rfl⟩,fun p hp=>?_⟩;cases hp;dsimp only at*;omega
theorem kL{k:Dk}(h:fS k=none):∃q,k.fail=some (0,q)∧jY k=q:=by
 unfold fS at h;split at h
 ·cases h
 ·rename_i n q a;split at h
  ·rename_i b;subst b;exact⟨q,a,by unfold jY;rw[a]⟩
  ·cases h
theorem aGc{t:List Int}{q:Int}(hq:0≤q):tU t t.length q=t:=by
 unfold tU;rw[aY];omega
theorem wO{k:Dk}(hsyn:(eP k).2=(eP k).1.length){q:Int}(hq:0≤q):gI k q={k with log:=(eP k).1,lsyn:=(eP k).1.length,new:=none,old:=none,fail:=none}:=by
 unfold gI;rw[hsyn,aGc hq]
theorem mP{k:Dk}(h:DOk f k){q:Int}(hq:0≤q):DOk f (gI k q)∧(gI k q).log=k.log:=by
 have e:eP k=(k.log,k.lsyn):=by unfold eP;rw[h.old]
 have:=wO (k:=k) (by rw[e];exact h.syn) hq;rw[this,e];exact⟨⟨h.room,h.by_,rfl,h.len,rfl,fun p hp=>(by cases hp),h.rows⟩,rfl⟩
theorem oN{q:Int}(hn:a.num=i)(hc:a.compact=f.compact)(h:DOk f (gI a.dk q)):AOk f i (crashA a q):=
 ⟨hn,hc,Or.inr (Or.inr rfl),h,fun _=>rfl,fun _=>rfl,fun h=>absurd rfl h,fun r hr=>(by cases hr),fun h=>absurd (show(2:Int)=0 from h) (by decide)⟩
def rO(f:Cf)(k:Dk):Prop:=0≤(eP k).2∧(eP k).2≤((eP k).1.length:Int)∧((eP k).1.length:Int)≤f.room
theorem qM{k k1:Dk}(h:DOk f k)(he:eP k1=(k.log,k.lsyn)):rO f k1:=by
 have a:=h.syn;have b:=h.len;unfold rO;rw[he];dsimp only;omega
theorem yB{k:Dk}(h:DOk f k)(hnew:k.new=none)(hfull:25*(dS k.log).length=k.log.length){r:Rw}(hr:RwOk r):
 (∃fl,kM k (dM r)=({k with fail:=fl,log:=k.log++dM r,lsyn:=(k.log++dM r).length},.none)∧DOk f {k with fail:=fl,log:=k.log++dM r,lsyn:=(k.log++dM r).length})∨
 (∃fl,kM k (dM r)=({k with fail:=fl},(.some .none))∧DOk f {k with fail:=fl})∨
 (∃k1 q,kM k (dM r)=(k1,(.some (.some q)))∧0≤q∧rO f k1∧DOk f (gI k1 q)∧∃p,p.length≤25∧p=(dM r).take p.length∧(gI k1 q).log=k.log++p):=by
 unfold kM dL dD;have hrl:=kK hr.ok;have hx:∀fl,(∀p,fl=some p→0≤p.1∧p.1≤9223372036854775807∧0≤p.2)→DOk f {k with fail:=fl}:=fun fl hfl=>⟨h.room,h.by_,h.syn,h.len,h.old,hfl,h.rows⟩;cases h1:fS k with
 |none=>
  obtain⟨q,hq,hk⟩:=kL h1;have hq0:0≤q:=(h.fail _ hq).2.2;obtain⟨c1,c2⟩:=mP h hq0;exact Or.inr (Or.inr ⟨k,q,by simp[gM,hk],hq0,qM h (by unfold eP;rw[h.old]),c1,[],by simp,rfl,by simpa using c2⟩)
 |some k1=>
  obtain⟨⟨fl,rfl⟩,hfl⟩:=jV h1 h.fail;dsimp only;have hu:iF {k with fail:=fl}=k.log.length:=by unfold iF gU;dsimp only;rw[hnew];simp
  have hrm:=h.room;rw[hu,hrl];by_cases h2:k.room<(k.log.length:Int)+((25:Nat):Int)
  ·rw[if_pos h2];exact Or.inr (Or.inl ⟨fl,rfl,hx fl hfl⟩)
  ·rw[if_neg h2];dsimp only[gM];dsimp only[jJ];have hrows:∀x ∈ dS (k.log++dM r),RwOk x:=fun x hx=>by
    rw[oP hfull hr.ok]at hx;rcases aO.1 hx with hx|hx
    ·exact h.rows x hx
    ·simp at hx;subst hx;exact hr
   have hby:∀x ∈ k.log++dM r,0≤x∧x<256:=fun x hx=>(aO.1 hx).elim (h.by_ x) (qK r x);cases h3:fS {k with fail:=fl,log:=k.log++dM r}with
   |none=>
    obtain⟨q,hq,hk⟩:=kL h3;have hq0:0≤q:=(hfl _ hq).2.2;have hl:eP ({k with fail:=fl,log:=k.log++dM r}:Dk)=(k.log++dM r,k.lsyn):=by unfold eP;dsimp only;rw[h.old]
    have hcut:tU (k.log++dM r) k.lsyn q=k.log++(dM r).take (min q 25).toNat:=by
     unfold tU;rw[h.syn,aD,hrl,show((k.log.length:Int)+min q (((k.log.length+25:Nat):Int)-(k.log.length:Int))).toNat=k.log.length+(min q 25).toNat by omega,List.take_append,aY (by omega)];simp
    have hpl:((dM r).take (min q 25).toNat).length=(min q 25).toNat:=by rw[aZ,hrl];omega
    refine Or.inr (Or.inr ⟨{k with fail:=fl,log:=k.log++dM r},q,by rw[hk],hq0,?_,?_,(dM r).take (min q 25).toNat,by omega,by rw[hpl],?_⟩)
    ·unfold rO;rw[hl];have h5:=h.syn;have h6:=h.len;dsimp only;rw[aD,hrl];omega
    ·unfold gI;rw[hl];dsimp only;rw[hcut];refine⟨h.room,fun x hx=>?_,rfl,?_,rfl,fun p hp=>(by cases hp),fun x hx=>?_⟩
     ·rcases aO.1 hx with hx|hx
      ·exact h.by_ x hx
      ·exact qK r x (List.mem_of_mem_take hx)
     ·rw[aD,hpl];omega
     ·by_cases hq25:25≤q
      ·rw[show(min q 25).toNat=25 by omega,aY (by omega)]at hx;exact hrows x hx
      ·rw[yW hfull (by omega)]at hx;exact h.rows x hx
    ·unfold gI;rw[hl];exact hcut
   |some k2=>
    obtain⟨⟨fl2,rfl⟩,hfl2⟩:=jV h3 (by exact hfl);refine Or.inl ⟨fl2,rfl,h.room,hby,rfl,?_,h.old,hfl2,hrows⟩;rw[aD,hrl];omega
end
def aHR(fl:Option (Int×Int)):Prop:=∀p,fl=some p→0≤p.1∧p.1≤9223372036854775807∧0≤p.2
section
variable {f:Cf}{i:Nat}{a:Ac}
theorem yF{k:Dk}{t:List Int}(h:eP k=(t,(t.length:Int))){q:Int}(hq:0≤q):gI k q={k with log:=t,lsyn:=t.length,new:=none,old:=none,fail:=none}:=by
 rw[wO (by rw[h]) hq,h]
theorem rY{k:Dk}(h:DOk f k)(hnew:k.new=none)(s:List Int):
 (∃fl,fY k s=({k with log:=s,lsyn:=s.length,new:=none,old:=none,fail:=fl},.none)∧aHR fl∧(k.log.length:Int)+s.length≤f.room)∨
 (∃fl,fY k s=({k with new:=some ([],0),fail:=fl},(.some .none))∧aHR fl∧f.room<(k.log.length:Int)+s.length)∨
 (∃k1 q,fY k s=(k1,(.some (.some q)))∧0≤q∧rO f k1∧gI k1 q={k with fail:=none}):=by
 have hl0:∀(fl:Option (Int×Int)) (nw:Option (List Int×Int)) q,0≤q→gI {k with fail:=fl,new:=nw} q={k with fail:=none}:=fun fl nw q hq=>by
  rw[yF (t:=k.log) (by unfold eP;dsimp only;rw[h.old,h.syn]) hq];have e2:=h.old;have e3:=h.syn;obtain⟨room,log,lsyn,new,old,fail⟩:=k;dsimp only at hnew e2 e3;subst hnew e2 e3
  rfl
 have hold:=h.old;unfold fY dL dD;cases h1:fS k with
 |none=>
  obtain⟨q,hq,hk⟩:=kL h1;have hq0:0≤q:=(h.fail _ hq).2.2;exact Or.inr (Or.inr ⟨k,q,by simp[gM,hk],hq0,qM h (by unfold eP;rw[h.old]),by have:=hl0 k.fail k.new q hq0;exact this⟩)
 |some k1=>
  obtain⟨⟨f1,rfl⟩,hf1⟩:=jV h1 h.fail;dsimp only[gM,jN];cases h2:fS {k with fail:=f1,new:=some ([],0)}with
  |none=>
   obtain⟨q,hq,hk⟩:=kL h2;have hq0:0≤q:=(hf1 _ hq).2.2;exact Or.inr (Or.inr ⟨{k with fail:=f1,new:=some ([],0)},q,by simp[gM,hk],hq0,qM h (by unfold eP;dsimp only;rw[h.old]),hl0 f1 _ q hq0⟩)
  |some k2=>
   obtain⟨⟨f2,rfl⟩,hf2⟩:=jV h2 (by exact hf1);dsimp only;have hu:iF {k with fail:=f2,new:=some ([],0)}=k.log.length:=by unfold iF gU;dsimp only;simp
   have hrm:=h.room;rw[hu];by_cases hfull:k.room<(k.log.length:Int)+s.length
   ·rw[if_pos hfull];exact Or.inr (Or.inl ⟨f2,rfl,hf2,by omega⟩)
   ·rw[if_neg hfull];dsimp only[gM,hZ];rw[List.nil_append];cases h3:fS {k with fail:=f2,new:=some (s,0)}with
    |none=>
     obtain⟨q,hq,hk⟩:=kL h3;have hq0:0≤q:=(hf2 _ hq).2.2;exact Or.inr (Or.inr ⟨{k with fail:=f2,new:=some (s,0)},q,by simp[gM,hk],hq0,qM h (by unfold eP;dsimp only;rw[h.old]),hl0 f2 _ q hq0⟩)
    |some k3=>
     obtain⟨⟨f3,rfl⟩,hf3⟩:=jV h3 (by exact hf2);dsimp only[gV];cases h4:fS {k with fail:=f3,new:=some (s,(s.length:Int))}with
     |none=>
      obtain⟨q,hq,hk⟩:=kL h4;have hq0:0≤q:=(hf3 _ hq).2.2;exact Or.inr (Or.inr ⟨{k with fail:=f3,new:=some (s,(s.length:Int))},q,by simp[gM,hk],hq0,qM h (by unfold eP;dsimp only;rw[h.old]),hl0 f3 _ q hq0⟩)
     |some k4=>
      obtain⟨⟨f4,rfl⟩,hf4⟩:=jV h4 (by exact hf3);dsimp only[gD];cases h5:fS {k with fail:=f4,log:=s,lsyn:=s.length,new:=none,old:=some (k.log,k.lsyn)}with
      |none=>
       obtain⟨q,hq,hk⟩:=kL h5;have hq0:0≤q:=(hf4 _ hq).2.2;refine Or.inr (Or.inr ⟨{k with fail:=f4,log:=s,lsyn:=s.length,new:=none,old:=some (k.log,k.lsyn)},q,by simp[gM,hk],hq0,qM h (by unfold eP;rfl),?_⟩);rw[yF (t:=k.log) (by unfold eP;dsimp only;rw[h.syn]) hq0];have e2:=h.old;have e3:=h.syn;obtain⟨room,log,lsyn,new,old,fail⟩:=k;dsimp only at hnew e2 e3;subst hnew e2 e3
       rfl
      |some k5=>
       obtain⟨⟨f5,rfl⟩,hf5⟩:=jV h5 (by exact hf4);dsimp only[nH];refine Or.inl ⟨f5,rfl,hf5,?_⟩;omega
theorem mJ{rs:List Rw}(h:∀r ∈ rs,RwOk r):dS (gP rs)=gS rs 4∧(gP rs).length=25*(gS rs 4).length∧∀r ∈ gS rs 4,RwOk r:=by
 have a:∀r ∈ gS rs 4,RwOk r:=fun r hr=>h r (aEx hr);refine⟨?_,wX _ (fun r hr=>(a r hr).ok),a⟩;have:=pB (gS rs 4) (fun r hr=>(a r hr).ok) [] (by decide);rw[aC]at this;exact this
theorem vF(hn:a.num=i)(hc:a.compact=f.compact)(hst:a.st=0)(hd:DOk f a.dk)(hnew:a.dk.new=none)(htab:∀k,dQ a.rows k=dQ (dS a.dk.log) k)(hrows:∀r ∈ a.rows,RwOk r):
 (AOk f i (cP a).1∧(cP a).2= .none)∨(AOk f i {(cP a).1 with st:=1}∧(cP a).2=(.some .none))∨∃q,(cP a).2=(.some (.some q))∧0≤q∧rO f (cP a).1.dk∧AOk f i (crashA (cP a).1 q):=by
 obtain⟨t1,t2,t3⟩:=mJ hrows;unfold cP;rcases rY hd hnew (gP a.rows)with⟨fl,he,hfl,hfit⟩|⟨fl,he,hfl,_⟩|⟨k1,q,he,hq,hlf,hcr⟩
 ·refine Or.inl ⟨?_,by rw[he]⟩;rw[he];refine⟨hn,hc,Or.inl hst,⟨hd.room,fun x hx=>?_,rfl,by show((gP a.rows).length:Int)≤f.room;omega,rfl,hfl,?_⟩,fun _=>rfl,fun h=>(by rw[show a.st=2 from h]at hst;cases hst),fun _ k=>?_,hrows,fun _=>?_⟩
  ·obtain⟨r,_,hx⟩:=List.mem_flatMap.1 (show x ∈ (gS a.rows 4).flatMap dM from hx);exact qK r x hx
  ·show∀r ∈ dS (gP a.rows),RwOk r;rw[t1];exact t3
  ·show dQ a.rows k=dQ (dS (gP a.rows)) k;rw[t1,xF (fun r hr=>⟨(hrows r hr).l1,(hrows r hr).l2⟩)]
  ·show 25*(dS (gP a.rows)).length=(gP a.rows).length;rw[t1,t2]
 ·refine Or.inr (Or.inl ⟨?_,by rw[he]⟩);rw[he];exact⟨hn,hc,Or.inr (Or.inl rfl),⟨hd.room,hd.by_,hd.syn,hd.len,hd.old,hfl,hd.rows⟩,fun h=>absurd rfl h,fun h=>absurd (show(1:Int)=2 from h) (by decide),fun _=>htab,hrows,fun h=>absurd (show(1:Int)=0 from h) (by decide)⟩
 ·refine Or.inr (Or.inr ⟨q,by rw[he],hq,by rw[he];exact hlf,?_⟩);rw[he];refine oN hn hc ?_;rw[hcr];exact⟨hd.room,hd.by_,hd.syn,hd.len,hd.old,fun p hp=>(by cases hp),hd.rows⟩
def HowOk(f:Cf)(i:Nat)(p:Ac×How):Prop:=match p.2 with
 |.none=>AOk f i p.1
 |(.some .none)=>AOk f i {p.1 with st:=1}
 |(.some (.some q))=>0≤q∧rO f p.1.dk∧AOk f i (crashA p.1 q)
theorem HowOk.heed{p:Ac×How}(h:HowOk f i p)(hn:∀q,p.2≠(.some (.some q))):AOk f i (mB p.1 p.2):=by
 unfold HowOk at h;unfold mB;cases hp:p.2 using lB with
 |fine=>rw[hp]at h;exact h
 |full=>rw[hp]at h;exact h
 |dies q=>exact absurd hp (hn q)
theorem aEP(a:Ac)(r:Rw):(gC a r).1.st=a.st:=by
 unfold gC;split<;>rfl
theorem qI(h:AOk f i a)(hst:a.st=0){r:Rw}(hr:RwOk r):HowOk f i (gC a r):=by
 have b:=h.new (by omega);unfold HowOk gC;rcases yB h.dk b (h.full hst) hr with⟨m,e,d⟩|⟨m,e,d⟩|⟨o,q,e,l,g,d,p,s,n,j⟩
 ·rw[e];dsimp only;refine⟨h.num,h.comp,h.st,d,fun _=>b,fun h'=>(by rw[show a.st=2 from h']at hst;cases hst),fun _ k=>?_,fun x c=>?_,fun _=>?_⟩
  ·show dQ (a.rows++[r]) k=dQ (dS (a.dk.log++dM r)) k;rw[oP (h.full hst) hr.ok,kO,kO,h.tab (by omega)]
  ·rcases aO.1 c with c|c
   ·exact h.rows x c
   ·simp at c;subst c;exact hr
  ·show 25*(dS (a.dk.log++dM r)).length=(a.dk.log++dM r).length;rw[oP (h.full hst) hr.ok,aD,aD,kK hr.ok,←h.full hst,aK];omega
 ·rw[e];dsimp only;exact⟨h.num,h.comp,Or.inr (Or.inl rfl),d,fun h=>absurd rfl h,fun h=>absurd (show(1:Int)=2 from h) (by decide),fun _=>h.tab (by omega),h.rows,fun h=>absurd (show(1:Int)=0 from h) (by decide)⟩
 ·rw[e];dsimp only;exact⟨l,g,oN h.num h.comp d⟩
theorem aAC(h:AOk f i a)(hst:a.st=0)(hi:(i:Int)<2*f.f+1){m:Mg}(hm:MOk f m)(hA:m.kind=1∨m.kind=3):HowOk f i ((iZ a m).1,(iZ a m).2.2)∧EOk f (iZ a m).2.1∧(iZ a m).2.1.length≤1:=by
 obtain⟨k,n⟩:=vX h m.lock hm.l1 hm.l2;have c:=aGH (aHk hi h.num hm hA k);unfold iZ;dsimp only;split
 ·have b:=qI h hst (qH hm k).1;unfold HowOk at b;cases he:gC a (dX m (gH a m.lock))with
  |mk a1 hw=>
   rw[he]at b;cases hw using lB with
   |fine=>
    dsimp only at b⊢;split
    ·have j:a1.st=0:=by
      have e:=aEP a (dX m (gH a m.lock));rw[he]at e;exact e.trans hst
     have l:=vF b.num b.comp j b.dk (b.new (by omega)) (b.tab (by omega)) b.rows;refine⟨?_,c,by simp⟩;unfold HowOk;rcases l with⟨g,d⟩|⟨g,d⟩|⟨q,d,g⟩
     ·dsimp only;rw[d];exact g
     ·dsimp only;rw[d];exact g
     ·dsimp only;rw[d];exact g
    ·exact⟨b,c,by simp⟩
   |full=>exact⟨b,iD,by simp⟩
   |dies q=>exact⟨b,iD,by simp⟩
 ·exact⟨h,c,by simp⟩
theorem EOk.snoc{e:Ev}{l:List Ev}(h:EOk f l)(hk:e.kind≠1)(hl:l.length≤5):EOk f (l++[e]):=⟨fun m hm=>(by
 rw[gL,show cH [e]=[] by simp[cH,pG,hk],aC]at hm;exact h.1 m hm),by simp;omega⟩
theorem aFc(h:AOk f i a)(hi:(i:Int)<2*f.f+1){m:Mg}(hm:MOk f m)(hA:m.kind=1∨m.kind=3):AOk f i (gX a m)∧EOk f (jU a m):=by
 unfold gX jU;split
 ·exact⟨h,iD⟩
 ·rename_i j;obtain⟨b,c,d⟩:=aAC h (by omega) hi hm hA;unfold HowOk at b;cases he:iZ a m with
  |mk a1 q=>
   obtain⟨e,g⟩:=q;rw[he]at b c d;dsimp only at b c d;cases g using lB with
   |fine=>exact⟨b,c⟩
   |full=>exact⟨b,c⟩
   |dies q=>exact⟨b.2.2,c.snoc (by simp[gJ]) (by omega)⟩
theorem aFG(h:AOk f i a){n q:Int}(hn:0≤n)(hn':n≤9223372036854775807)(hq:0≤q):AOk f i (oO a n q)∧EOk f (oF a n):=by
 unfold oO oF;split
 ·exact⟨h,iD⟩
 ·rename_i b;split
  ·exact⟨oN h.num h.comp (mP h.dk hq).1,sO _ (by simp[gJ])⟩
  ·exact⟨⟨h.num,h.comp,h.st,⟨h.dk.room,h.dk.by_,h.dk.syn,h.dk.len,h.dk.old,fun p hp=>by cases hp;exact⟨hn,hn',hq⟩,h.dk.rows⟩,h.new,fun h'=>absurd h' b,h.tab,h.rows,h.full⟩,iD⟩
theorem wZ(k:Dk)(s:List Int)(h:k.fail=none)(q:Int):(fY k s).2≠(.some (.some q)):=by
 have a:∀(k:Dk),k.fail=none→fS k=some k:=fun k hk=>by unfold fS;rw[hk]
 have e:(jN k).fail=none:=h;have c:(hZ (jN k) s).fail=none:=h;have f:(gV (hZ (jN k) s)).fail=none:=h;have d:(gD (gV (hZ (jN k) s))).fail=none:=h;unfold fY dD dL;rw[a _ h];dsimp only[gM];rw[a _ e];dsimp only;by_cases b:(jN k).room<iF (jN k)+s.length
 ·rw[if_pos b];simp
 ·rw[if_neg b];dsimp only;rw[a _ c];dsimp only;rw[a _ f];dsimp only;rw[a _ d];simp
theorem uO(a:Ac)(hd:DOk f a.dk)(hnew:a.dk.new=none)(hfl:a.dk.fail=none)(q:Int):(fK a).2≠(.some (.some q)):=by
 unfold fK;dsimp only;by_cases b:25*((dS a.dk.log).length:Int)<a.dk.log.length∨kZ a=true
 ·rw[if_pos b];exact wZ _ _ hfl q
 ·rw[if_neg b];simp
theorem wK(a:Ac)(h:a.st≠0):eQ a=mB (fK {(if a.st=1 then crashA a 0 else a)with st:=0}).1 (fK {(if a.st=1 then crashA a 0 else a)with st:=0}).2:=by
 unfold eQ;rw[if_neg h]
theorem aEo(h:AOk f i a):AOk f i (eQ a)∧EOk f (nI a):=by
 refine⟨?_,?_⟩
 ·by_cases r:a.st=0
  ·unfold eQ;rw[if_pos r];exact h
  ·rw[wK a r];have p:AOk f i (if a.st=1 then crashA a 0 else a)∧(if a.st=1 then crashA a 0 else a).st=2:=by
    split
    ·exact⟨oN h.num h.comp (mP h.dk (by decide)).1,rfl⟩
    ·rename_i j;have:=h.st;exact⟨h,by omega⟩
   generalize u:(if a.st=1 then crashA a 0 else a)=b at p;obtain⟨c,o⟩:=p;have e:=c.new (by omega);have n:=c.nofail o;have l:HowOk f i (fK {b with st:=0}):=by
    unfold fK;dsimp only;by_cases d:25*((dS b.dk.log).length:Int)<b.dk.log.length∨kZ {b with st:=0}=true
    ·rw[if_pos d];have s:=vF (a:={b with st:=0,rows:=dS b.dk.log}) c.num c.comp rfl c.dk e (fun _=>rfl) (c.dk.rows);unfold HowOk;rcases s with⟨j,g⟩|⟨j,g⟩|⟨q,g,j⟩
     ·rw[g];exact j
     ·rw[g];exact j
     ·rw[g];exact j
    ·rw[if_neg d];have k:25*(dS b.dk.log).length=b.dk.log.length:=by
      have j:¬(25*((dS b.dk.log).length:Int)<b.dk.log.length):=fun l=>d (Or.inl l);have g:=uL b.dk.log.length b.dk.log;have t:25*(dS b.dk.log).length≤b.dk.log.length:=g;omega
     exact⟨c.num,c.comp,Or.inl rfl,c.dk,fun _=>e,fun h=>absurd (show(0:Int)=2 from h) (by decide),fun _ _=>rfl,c.dk.rows,fun _=>k⟩
   exact l.heed (uO (f:=f) {b with st:=0} c.dk e n)
 ·unfold nI;split
  ·exact iD
  ·split
   ·exact⟨fun m hm=>by simp[cH,pG,gJ,nX]at hm,by simp⟩
   ·exact sO _ (by simp[nX])
theorem aGV(hr:100≤f.room):AOk f i (qW f i):=
 ⟨rfl,rfl,Or.inl rfl,⟨rfl,fun x hx=>(by cases hx),rfl,by show((0:Nat):Int)≤f.room;omega,rfl,fun p hp=>(by cases hp),fun r hr=>by rw[show dS (qW f i).dk.log=[]from rfl]at hr;cases hr⟩,fun _=>rfl,fun _=>rfl,fun _ _=>rfl,fun r hr=>(by cases hr),fun _=>rfl⟩
theorem aGS{N:Int}(hN:0≤N):COk f N i (uN i):=
 ⟨⟨rfl,(by decide:(0:Int)≤0),(by decide:(0:Int)≤63),(by decide:(0:Int)≤0),hN,(by decide:(0:Int)≤0),(by decide:(0:Int)≤1000),fun l=>⟨(by decide:(0:Int)≤0),hN⟩⟩,fun _=>rfl,fun o ho=>by cases ho⟩
end
structure MoOk(N:Int)(x:Mo):Prop where
 conf:iH x.cf=true
 na:x.acs.length=dI x.cf
 nc:x.cls.length=x.cf.clients.toNat
 as_:∀i (h:i<x.acs.length),AOk x.cf i x.acs[i]
 cs_:∀i (h:i<x.cls.length),COk x.cf N i x.cls[i]
 net:∀m ∈ x.net,MOk x.cf m
 trm:∀m ∈ cH x.tr,MOk x.cf m
 nl:(x.net.length:Int)≤N
 tl:(x.tr.length:Int)≤N
 n0:0≤N
theorem dE{c:Cf}(h:iH c=true):(1≤c.f∧c.f≤2)∧(1≤c.clients∧c.clients≤4)∧(1≤c.patience∧c.patience≤20)∧(1≤c.tries∧c.tries≤8)∧(0≤c.drift∧c.drift≤10)∧(2≤c.compact∧c.compact≤16)∧(100≤c.room∧c.room≤2000):=by
 simp only[iH,aR,aM]at h;omega
theorem MoOk.mono{N M:Int}{x:Mo}(h:MoOk N x)(hm:N≤M):MoOk M x:=
 ⟨h.conf,h.na,h.nc,h.as_,fun i hi=>(h.cs_ i hi).mono hm,h.net,h.trm,by have:=h.nl;omega,by have:=h.tl;omega,by have:=h.n0;omega⟩
theorem MoOk.new{f:Cf}(hf:iH f=true):MoOk 0 (kV f):=by
 have a:=dE hf;refine⟨hf,by simp[kV],by simp[kV],fun i hi=>?_,fun i hi=>?_,fun m hm=>(by cases hm),fun m hm=>(by cases hm),(by decide:((0:Nat):Int)≤0),(by decide:((0:Nat):Int)≤0),by decide⟩
 ·have:(kV f).acs[i]=qW f i:=by simp[kV]
  rw[this];exact aGV a.2.2.2.2.2.2.1
 ·have:(kV f).cls[i]=uN i:=by simp[kV]
  rw[this];exact aGS (by decide)
section
variable {N:Int} {x:Mo}
theorem MoOk.client(h:MoOk N x){i:Int}(hi:dH i x.cls.length=true){c:Ct}{e:List Ev}(hc:COk x.cf (N+1) i.toNat c)(he:EOk x.cf e):MoOk (N+6) (fW x i c e):=by
 refine⟨h.conf,h.na,by simp[fW,h.nc],h.as_,fun j hj=>?_,fun m a=>?_,fun m a=>?_,?_,?_,by have:=h.n0;omega⟩
 ·have d:j<x.cls.length:=by simpa[fW]using hj
  by_cases b:j=i.toNat
  ·subst b;simp only[fW,bO];exact hc.mono (by omega)
  ·simp only[fW,List.getElem_set_ne (Ne.symm b)];exact(h.cs_ j d).mono (by omega)
 ·rcases aO.1 a with a|a
  ·exact h.net m a
  ·exact he.1 m a
 ·rw[show(fW x i c e).tr=x.tr++e from rfl,gL]at a;rcases aO.1 a with a|a
  ·exact h.trm m a
  ·exact he.1 m a
 ·have g:=h.nl;have f:=he.2;have k:=lI e;show((x.net++cH e).length:Int)≤N+6;rw[aD];omega
 ·have g:=h.tl;have f:=he.2;show((x.tr++e).length:Int)≤N+6;rw[aD];omega
theorem MoOk.acceptor(h:MoOk N x){i:Int}(hi:dH i x.acs.length=true){a:Ac}{e:List Ev}(hc:AOk x.cf i.toNat a)(he:EOk x.cf e):MoOk (N+6) (iX x i a e):=by
 refine⟨h.conf,by simp[iX,h.na],h.nc,fun j hj=>?_,fun j hj=>(h.cs_ j hj).mono (by omega),fun m b=>?_,fun m b=>?_,?_,?_,by have:=h.n0;omega⟩
 ·have d:j<x.acs.length:=by simpa[iX]using hj
  by_cases c:j=i.toNat
  ·subst c;simp only[iX,bO];exact hc
  ·simp only[iX,List.getElem_set_ne (Ne.symm c)];exact h.as_ j d
 ·rcases aO.1 b with b|b
  ·exact h.net m b
  ·exact he.1 m b
 ·rw[show(iX x i a e).tr=x.tr++e from rfl,gL]at b;rcases aO.1 b with b|b
  ·exact h.trm m b
  ·exact he.1 m b
 ·have g:=h.nl;have f:=he.2;have k:=lI e;show((x.net++cH e).length:Int)≤N+6;rw[aD];omega
 ·have g:=h.tl;have f:=he.2;show((x.tr++e).length:Int)≤N+6;rw[aD];omega
theorem MoOk.cl(h:MoOk N x){i:Int}(hi:dH i x.cls.length=true):COk x.cf N i.toNat (clM x i)∧((i.toNat:Nat):Int)<x.cf.clients:=by
 obtain⟨a,e⟩:=nO hi;rw[e];exact⟨h.cs_ _ a,by have:=h.nc;omega⟩
theorem MoOk.ac(h:MoOk N x){i:Int}(hi:dH i x.acs.length=true):AOk x.cf i.toNat (acM x i)∧((i.toNat:Nat):Int)<2*x.cf.f+1∧i.toNat≤4:=by
 obtain⟨a,e⟩:=oY hi;have:=h.na;have b:=dE h.conf;unfold dI at this;rw[e];exact⟨h.as_ _ a,by omega,by omega⟩
theorem MoOk.begin(h:MoOk N x)(i k l t:Int):MoOk (N+6) (eY x i k l t):=by
 have f:=dE h.conf;unfold eY;split
 ·exact h.mono (by omega)
 ·rename_i j;have a:dH i x.cls.length=true∧(1≤k∧k≤4)∧(0≤l∧l≤3)∧(k≤2→1≤t∧t≤1000):=by
   simp only[jW,Bool.or_eq_true,Bool.not_eq_true',aR,aM,decide_eq_false_iff_not,not_or,not_and,Bool.not_eq_false]at j;obtain⟨⟨⟨d,b⟩,e⟩,c⟩:=j;refine⟨d,?_,?_,fun hk=>?_⟩
   ·exact aH fun hh=>b (by omega)
   ·exact aH fun hh=>e (by omega)
   ·exact aH fun hh=>c hk (by omega)
  obtain⟨d,b⟩:=h.cl a.1;have g:0≤rX k t∧rX k t≤1000:=by
   unfold rX;split
   ·have:=a.2.2.2 (by assumption);omega
   ·omega
  obtain⟨e,c⟩:=aFa f.1.1 f.1.2 f.2.1.2 d h.n0 b a.2.1.1 a.2.1.2 a.2.2.1.1 a.2.2.1.2 g.1 g.2;exact h.client a.1 (e.mono (by omega)) c
theorem MoOk.tick(h:MoOk N x)(i:Int):MoOk (N+6) (kC x i):=by
 have a:=dE h.conf;unfold kC;split
 ·rename_i b;obtain⟨e,c⟩:=h.cl b;obtain⟨f,d⟩:=aHc a.1.1 a.1.2 a.2.1.2 a.2.2.2.1.2 e c;exact h.client b f d
 ·exact h.mono (by omega)
theorem MoOk.lose(h:MoOk N x)(i:Int):MoOk (N+6) (iR x i):=by
 unfold iR;split
 ·rename_i a;obtain⟨c,e⟩:=h.cl a;obtain⟨d,b⟩:=aGG c h.n0;exact h.client a (d.mono (by omega)) b
 ·exact h.mono (by omega)
theorem MoOk.return(h:MoOk N x)(i:Int):MoOk (N+6) (eM x i):=by
 unfold eM;split
 ·rename_i a;obtain⟨c,e⟩:=h.cl a;obtain⟨d,b⟩:=aDX c;exact h.client a (d.mono (by omega)) b
 ·exact h.mono (by omega)
theorem MoOk.drop(h:MoOk N x)(i:Int):MoOk N (eL x i):=by
 unfold eL;split
 ·refine⟨h.conf,h.na,h.nc,h.as_,h.cs_,fun m hm=>h.net m (List.mem_of_mem_eraseIdx hm),h.trm,?_,h.tl,h.n0⟩;have a:=h.nl;have b:(x.net.eraseIdx i.toNat).length≤x.net.length:=List.length_eraseIdx_le ..;show((x.net.eraseIdx i.toNat).length:Int)≤N;omega
 ·exact h
theorem MoOk.msg(h:MoOk N x){i:Int}(hi:dH i x.net.length=true):MOk x.cf (jO x i):=by
 obtain⟨a,e⟩:=pR hi;rw[e];exact h.net _ (bD a)
theorem MoOk.copy(h:MoOk N x)(i:Int):MoOk (N+6) (kS x i):=by
 unfold kS;split
 ·rename_i b;have c:=h.msg b;refine⟨h.conf,h.na,h.nc,h.as_,fun i b=>(h.cs_ i b).mono (by omega),fun m a=>?_,h.trm,?_,by have:=h.tl;show(x.tr.length:Int)≤N+6;omega,by have:=h.n0;omega⟩
  ·rcases aO.1 a with a|a
   ·exact h.net m a
   ·simp at a;subst a;exact c
  ·have:=h.nl;show((x.net++[jO x i]).length:Int)≤N+6;rw[aD,aK];omega
 ·exact h.mono (by omega)
theorem MoOk.deliver(h:MoOk N x)(i:Int):MoOk (N+6) (cZ x i):=by
 have e:=dE h.conf;unfold cZ;split
 ·rename_i s;have c:=h.msg s;have o:=h.drop i;have m:=h.na;have n:=h.nc;have q:(eL x i).acs=x.acs:=by unfold eL;split<;>rfl
  have r:(eL x i).cls=x.cls:=by unfold eL;split<;>rfl
  have d:(eL x i).cf=x.cf:=by unfold eL;split<;>rfl
  split
  ·rename_i l;have b:(jO x i).kind=1∨(jO x i).kind=3:=by simpa[gF]using l
   have p:=c.toA b;have a:dH (jO x i).dst x.acs.length=true:=(cV _ _).2 ⟨c.d1,by rw[m];unfold dI;omega⟩;obtain⟨j,f,_⟩:=h.ac a;obtain⟨k,g⟩:=aFc j f c b;exact o.acceptor (by rw[q];exact a) (by rw[d];exact k) (by rw[d];exact g)
  ·rename_i l;have b:¬((jO x i).kind=1∨(jO x i).kind=3):=by simpa[gF]using l
   have p:=c.toC b;have a:dH (jO x i).dst x.cls.length=true:=(cV _ _).2 ⟨c.d1,by rw[n];omega⟩;obtain⟨j,f⟩:=h.cl a;obtain⟨k,g⟩:=aGB e.1.1 e.1.2 e.2.1.2 e.2.2.2.1.2 j f c;exact o.client (by rw[r];exact a) (by rw[d];exact k) (by rw[d];exact g)
 ·exact h.mono (by omega)
theorem MoOk.fail(h:MoOk N x)(i n q:Int)(hn:n≤9223372036854775807):MoOk (N+6) (iO x i n q):=by
 unfold iO;split
 ·exact h.mono (by omega)
 ·rename_i b;have a:dH i x.acs.length=true∧0≤n∧0≤q:=by
   simp only[lK,Bool.or_eq_true,Bool.not_eq_true',aM,not_or,Bool.not_eq_false]at b;exact⟨b.1.1,by omega,by omega⟩
  obtain⟨d,f,_⟩:=h.ac a.1;obtain⟨e,c⟩:=aFG d a.2.1 hn a.2.2;exact h.acceptor a.1 e c
theorem MoOk.start(h:MoOk N x)(i:Int):MoOk (N+6) (eN x i):=by
 unfold eN;split
 ·rename_i a;obtain⟨c,e,_⟩:=h.ac a;obtain⟨d,b⟩:=aEo c;exact h.acceptor a d b
 ·exact h.mono (by omega)
end
def aAH(f:Cf):Prop:=f.room=25*(f.compact+10)∧2≤f.compact
structure lZ(f:Cf)(a:Ac):Prop where
 st:a.st≠1
 len:(a.dk.log.length:Int)≤25*(max f.compact 4+1)
 up:a.st=0→(a.dk.log.length:Int)≤25*max f.compact 4
theorem aBI(rs:List Rw)(n:Nat):(gS rs n).length≤n:=by
 have:=List.length_filterMap_le (dQ rs) (List.range n);rw[List.length_range]at this;exact this
theorem aGT(L:List Int):25*(dS L).length≤L.length:=by
 have a:=congrArg List.length (yH L);rw[wX _ (yL L),aZ]at a;omega
section
variable {f:Cf}
theorem aEI(num:Int):lZ f (qW f num):=
 ⟨by show(0:Int)≠1;decide,by show((0:Nat):Int)≤_;omega,fun _=>by show((0:Nat):Int)≤_;omega⟩
theorem tQ(hr:aAH f){a:Ac}(hd:DOk f a.dk)(hnew:a.dk.new=none)(hrows:∀r ∈ a.rows,RwOk r)(hl:(a.dk.log.length:Int)≤25*(max f.compact 4+1)):
 ((cP a).2= .none∧((cP a).1.dk.log.length:Int)≤100∧(cP a).1.st=a.st)∨∃q,(cP a).2=(.some (.some q))∧(crashA (cP a).1 q).dk.log=a.dk.log:=by
 obtain⟨m,k,l⟩:=mJ hrows;have o:=aBI a.rows 4;have j:=hr.1;have h:=hr.2;unfold cP;rcases rY hd hnew (gP a.rows)with⟨g,b,_,_⟩|⟨g,b,_,d⟩|⟨e,q,b,n,i,c⟩
 ·rw[b];refine Or.inl ⟨rfl,?_,rfl⟩;show((gP a.rows).length:Int)≤100;omega
 ·exfalso;omega
 ·rw[b];refine Or.inr ⟨q,rfl,?_⟩;show(gI e q).log=_;rw[c]
theorem aDS(hr:aAH f){i:Nat}{a:Ac}(h:AOk f i a)(hm:lZ f a){m:Mg}(hmm:MOk f m)(hA:m.kind=1∨m.kind=3):lZ f (gX a m):=by
 have j:=hm.st;have N:=hr.1;have I:=hr.2;by_cases d:a.st=0
 ·have U:=hm.up d;obtain⟨z,M⟩:=vX h m.lock hmm.l1 hmm.l2;unfold gX;rw[if_neg (by omega)];unfold iZ;dsimp only;by_cases F:jT m (gH a m.lock)=true
  ·rw[if_pos F];obtain⟨x,A⟩:=qH hmm z;generalize V:dX m (gH a m.lock)=R at x A⊢;have s:=kK x.ok;have g:=qI h d x;unfold gC at g⊢;rcases yB h.dk (h.new (by omega)) (h.full d) x with⟨o,r,D⟩|⟨o,r,D⟩|⟨k1,q,r,Q,K,D,p,S,J,v⟩
   ·rw[r]at g⊢;dsimp only at g⊢;have c:AOk f i {a with dk:={a.dk with fail:=o,log:=a.dk.log++dM R,lsyn:=(a.dk.log++dM R).length},rows:=a.rows++[R]}:=g;have w:((a.dk.log++dM R).length:Int)=a.dk.log.length+25:=by rw[aD,s];omega
    generalize u:({a with dk:={a.dk with fail:=o,log:=a.dk.log++dM R,lsyn:=(a.dk.log++dM R).length},rows:=a.rows++[R]}:Ac)=a1 at c⊢;have j:a1.st=0:=by rw[←u];exact d
    have O:(a1.dk.log.length:Int)=a.dk.log.length+25:=by rw[←u];exact w
    have C:a1.compact=f.compact:=c.comp;by_cases b:kZ a1=true
    ·rw[if_pos b];have H:=tQ hr c.dk (c.new (by omega)) c.rows (by omega);rcases H with⟨k,n,E⟩|⟨q,k,n⟩
     ·generalize cP a1=cp at k n E;obtain⟨y,B⟩:=cp;dsimp only at k n E⊢;subst k;show lZ f y;exact⟨by omega,by omega,fun _=>by omega⟩
     ·generalize cP a1=cp at k n;obtain⟨y,B⟩:=cp;dsimp only at k n⊢;subst k;show lZ f (crashA y q);refine⟨by show(2:Int)≠1;decide,by rw[n];omega,fun h0=>absurd (show(2:Int)=0 from h0) (by decide)⟩
    ·rw[if_neg b];show lZ f a1;have T:=c.full j;unfold kZ at b;rw[C]at b;simp only[aM]at b;refine⟨by omega,by omega,fun _=>by omega⟩
   ·exfalso;have:=h.dk.len;have P:=h.dk.room;have l:¬a.dk.room<(a.dk.log.length:Int)+((25:Nat):Int):=by omega
    have t:(kM a.dk (dM R)).2≠(.some .none):=by
     unfold kM dL dD;cases h1:fS a.dk with
     |none=>simp[gM]
     |some k1=>
      obtain⟨⟨o,rfl⟩,L⟩:=jV h1 h.dk.fail;dsimp only;have G:iF {a.dk with fail:=o}=a.dk.log.length:=by unfold iF gU;dsimp only;rw[h.new (by omega)];simp
      rw[G,s,if_neg l];dsimp only[gM];cases fS (jJ {a.dk with fail:=o} (dM R))<;>simp
    rw[r]at t;exact t rfl
   ·rw[r];dsimp only;show lZ f (crashA {a with dk:=k1} q);have e:(crashA {a with dk:=k1} q).dk.log=a.dk.log++p:=v;refine⟨by show(2:Int)≠1;decide,?_,fun h0=>absurd (show(2:Int)=0 from h0) (by decide)⟩;rw[e,aD];omega
  ·rw[if_neg F];exact hm
 ·unfold gX;rw[if_pos d];exact hm
theorem aEs{i:Nat}{a:Ac}(h:AOk f i a)(hm:lZ f a){n q:Int}(hq:0≤q):lZ f (oO a n q):=by
 unfold oO;split
 ·exact hm
 ·split
  ·refine⟨by show(2:Int)≠1;decide,?_,fun h0=>absurd (show(2:Int)=0 from h0) (by decide)⟩;show((gI a.dk q).log.length:Int)≤_;rw[(mP h.dk hq).2];exact hm.len
  ·exact⟨hm.st,hm.len,hm.up⟩
theorem wH(hr:aAH f){i:Nat}{a:Ac}(h:AOk f i a)(hm:lZ f a):lZ f (eQ a)∧(eQ a).st=0:=by
 have e:=hm.st;by_cases g:a.st=0
 ·unfold eQ;rw[if_pos g];exact⟨hm,g⟩
 ·have s:a.st=2:=by have:=h.st;omega
  rw[wK a g,if_neg e];have b:=uO (f:=f) {a with st:=0} h.dk (h.new (by omega)) (h.nofail s);unfold fK at b⊢;dsimp only at b⊢;have p:=hm.len;have m:=h.comp;split
  ·rename_i d;rw[if_pos d]at b;have o:=tQ hr (a:={a with st:=0,rows:=dS a.dk.log}) h.dk (h.new (by omega)) h.dk.rows p;rcases o with⟨c,j,k⟩|⟨q,c,j⟩
   ·generalize cP {a with st:=0,rows:=dS a.dk.log}=cp at c j k;obtain⟨l,u⟩:=cp;dsimp only at c j k⊢;subst c;show lZ f l∧l.st=0;have n:l.st=0:=k;exact⟨⟨by omega,by omega,fun _=>by omega⟩,n⟩
   ·exact absurd c (b q)
  ·rename_i d;show lZ f {a with st:=0,rows:=dS a.dk.log}∧(0:Int)=0;refine⟨⟨by show(0:Int)≠1;decide,p,fun _=>?_⟩,rfl⟩;unfold kZ at d;simp only[aM,not_or]at d;show(a.dk.log.length:Int)≤_;obtain⟨t,r⟩:=d;rw[m]at r;have v:¬25*((dS a.dk.log).length:Int)<(a.dk.log.length:Int):=t;have w:¬f.compact<(a.dk.log.length:Int) / 25:=r;have:=aGT a.dk.log;omega
end
structure MoRoom(x:Mo):Prop where
 rich:aAH x.cf
 all:∀a ∈ x.acs,lZ x.cf a
section
variable {N:Int}{x:Mo}
theorem MoRoom.new{f:Cf}(hr:aAH f):MoRoom (kV f):=⟨hr,fun a ha=>by
 obtain⟨i,_,rfl⟩:=bL.1 (show a ∈ (List.range (dI f)).map (fun (i:Nat)=>qW f i)from ha);exact aEI _⟩
theorem qT{i:Int}(hi:dH i x.acs.length=true):acM x i ∈ x.acs:=by
 obtain⟨a,e⟩:=oY hi;rw[e];exact bD a
theorem MoRoom.same{y:Mo}(h:MoRoom x)(h1:y.acs=x.acs)(h2:y.cf=x.cf):MoRoom y:=⟨by rw[h2];exact h.rich,by rw[h1,h2];exact h.all⟩
theorem MoRoom.acc{i:Int}{a:Ac}{e:List Ev}(h:MoRoom x)(ha:lZ x.cf a):MoRoom (iX x i a e):=⟨h.rich,fun b hb=>by
 rcases List.mem_or_eq_of_mem_set (show b ∈ x.acs.set i.toNat a from hb)with q|q
 ·exact h.all b q
 ·rw[q];exact ha⟩
theorem MoRoom.begin(h:MoRoom x)(i k l t:Int):MoRoom (eY x i k l t):=by unfold eY;split<;>exact h.same rfl rfl
theorem MoRoom.tick(h:MoRoom x)(i:Int):MoRoom (kC x i):=by unfold kC;split<;>exact h.same rfl rfl
theorem MoRoom.lose(h:MoRoom x)(i:Int):MoRoom (iR x i):=by unfold iR;split<;>exact h.same rfl rfl
theorem MoRoom.ret(h:MoRoom x)(i:Int):MoRoom (eM x i):=by unfold eM;split<;>exact h.same rfl rfl
theorem MoRoom.drop(h:MoRoom x)(i:Int):MoRoom (eL x i):=by unfold eL;split<;>exact h.same rfl rfl
theorem MoRoom.copy(h:MoRoom x)(i:Int):MoRoom (kS x i):=by unfold kS;split<;>exact h.same rfl rfl
theorem MoRoom.deliver(hx:MoOk N x)(h:MoRoom x)(i:Int):MoRoom (cZ x i):=by
 unfold cZ;by_cases e:dH i x.net.length=true
 ·rw[if_pos e];have c:=hx.msg e;generalize jO x i=m at c⊢;have g:=h.drop i;have k:(eL x i).acs=x.acs:=by unfold eL;split<;>rfl
  have f:(eL x i).cf=x.cf:=by unfold eL;split<;>rfl
  by_cases d:gF m=true
  ·rw[if_pos d];have b:m.kind=1∨m.kind=3:=by simpa[gF]using d
   have j:=c.toA b;have a:dH m.dst x.acs.length=true:=(cV _ _).2 ⟨c.d1,by rw[hx.na];unfold dI;omega⟩;refine g.acc ?_;rw[f];exact aDS h.rich (hx.ac a).1 (h.all _ (qT a)) c b
  ·rw[if_neg d];exact g.same rfl rfl
 ·rw[if_neg e];exact h
theorem MoRoom.fail(hx:MoOk N x)(h:MoRoom x)(i n q:Int):MoRoom (iO x i n q):=by
 unfold iO;by_cases b:lK x i n q=true
 ·rw[if_pos b];exact h
 ·rw[if_neg b];have a:dH i x.acs.length=true∧0≤n∧0≤q:=by
   simp only[lK,Bool.or_eq_true,Bool.not_eq_true',aM,not_or,Bool.not_eq_false]at b;exact⟨b.1.1,by omega,by omega⟩
  exact h.acc (aEs (hx.ac a.1).1 (h.all _ (qT a.1)) a.2.2)
theorem MoRoom.start(hx:MoOk N x)(h:MoRoom x)(i:Int):MoRoom (eN x i):=by
 unfold eN;by_cases a:dH i x.acs.length=true
 ·rw[if_pos a];exact h.acc (wH h.rich (hx.ac a).1 (h.all _ (qT a))).1
 ·rw[if_neg a];exact h
end
def aAr(r:Rw):Vl:=⟨r.own,r.tok,r.ttl,r.seq⟩
def CalmA(B:Int)(a:Ac):Prop:=a.st=0∧∃n q,a.dk.fail=some (n,q)∧B≤n
section
variable {k:Dk} {n q:Int}
theorem aBY(h:k.fail=some (n,q))(hn:1≤n):fS k=some {k with fail:=some (n-1,q)}:=by
 unfold fS;rw[h];dsimp only;rw[if_neg (by omega)]
theorem qB(h:k.fail=some (n,q))(hn:1≤n)(go:Dk→Dk):dD k go=(go {k with fail:=some (n-1,q)},.none):=by
 unfold dD;rw[aBY h hn]
theorem aAe(h:k.fail=some (n,q))(hn:1≤n)(s:List Int)(put:Dk→List Int→Dk)(hr:¬k.room<iF k+s.length):dL k s put=(put {k with fail:=some (n-1,q)} s,.none):=by
 unfold dL;rw[aBY h hn];exact if_neg (show¬k.room<iF ({k with fail:=some (n-1,q)}:Dk)+s.length from hr)
theorem aFL(h:k.fail=some (n,q))(hn:2≤n)(s:List Int)(hr:¬k.room<iF k+s.length):
 kM k s=({k with log:=k.log++s,lsyn:=(k.log++s).length,fail:=some (n-1-1,q)},.none):=by
 unfold kM;rw[aAe h (by omega) s jJ hr];dsimp only[gM];rw[qB (k:=jJ {k with fail:=some (n-1,q)} s) (n:=n-1) (q:=q) rfl (by omega)]
 rfl
theorem aC5(h:k.fail=some (n,q))(hn:5≤n)(s:List Int)(hr:¬k.room<(k.log.length:Int)+s.length):
 ∃k',fY k s=(k',.none)∧k'.fail=some (n-1-1-1-1-1,q):=by
 unfold fY;rw[qB h (by omega)];dsimp only[gM];rw[aAe (k:=jN {k with fail:=some (n-1,q)}) (n:=n-1) (q:=q) rfl (by omega) s hZ (by
  have e:iF (jN {k with fail:=some (n-1,q)})=(k.log.length:Int)+0:=rfl;rw[e,Int.add_zero];exact hr)]
 dsimp only[gM];generalize a:hZ {jN {k with fail:=some (n-1,q)}with fail:=some (n-1-1,q)} s=K2;have d:K2.fail=some (n-1-1,q):=by rw[←a];rfl
 rw[qB d (by omega)];dsimp only[gM];generalize b:gV {K2 with fail:=some (n-1-1-1,q)}=K3;have g:K3.fail=some (n-1-1-1,q):=by rw[←b];rfl
 rw[qB g (by omega)];dsimp only[gM];generalize c:gD {K3 with fail:=some (n-1-1-1-1,q)}=K4;have f:K4.fail=some (n-1-1-1-1,q):=by rw[←c];unfold gD;split<;>rfl
 rw[qB f (by omega)];exact⟨_,rfl,rfl⟩
end
section
variable {f:Cf}{i:Nat}{a:Ac}{m:Mg}{B:Int}
theorem aAg(hr:aAH f)(h:AOk f i a)(hm:lZ f a)(hmm:MOk f m)(hA:m.kind=1∨m.kind=3)(hc:CalmA B a)(hB:7≤B):
 CalmA (B-7) (gX a m)∧jU a m=[fC (jK a (decMsg m (gH a m.lock)) m)]∧(gX a m).num=a.num∧(gX a m).rows=if jT m (gH a m.lock)=true then a.rows++[dX m (gH a m.lock)]else a.rows:=by
 obtain⟨g,n,q,w,N⟩:=hc;have E:=hr.1;have C:=hr.2;have M:=hm.up g;obtain⟨u,D⟩:=vX h m.lock hmm.l1 hmm.l2;unfold gX jU;rw[if_neg (by omega),if_neg (by omega)];unfold iZ;dsimp only;by_cases s:jT m (gH a m.lock)=true
 ·rw[if_pos s,if_pos s];obtain⟨t,v⟩:=qH hmm u;generalize O:dX m (gH a m.lock)=R at t v⊢;have o:=kK t.ok;have j:=qI h g t;have G:=h.dk.room;have z:iF a.dk=a.dk.log.length:=by unfold iF gU;rw[h.new (by omega)];simp
  unfold gC at j⊢;rw[aFL w (by omega) (dM R) (by rw[z,o];omega)]at j⊢;dsimp only at j⊢;have c:AOk f i {a with dk:={a.dk with fail:=some (n-1-1,q),log:=a.dk.log++dM R,lsyn:=(a.dk.log++dM R).length},rows:=a.rows++[R]}:=j;have r:((a.dk.log++dM R).length:Int)=a.dk.log.length+25:=by rw[aD,o];omega
  generalize b:({a with dk:={a.dk with log:=a.dk.log++dM R,lsyn:=(a.dk.log++dM R).length,fail:=some (n-1-1,q)},rows:=a.rows++[R]}:Ac)=a1 at c⊢;have k:a1.st=0:=by rw[←b];exact g
  have F:(a1.dk.log.length:Int)=a.dk.log.length+25:=by rw[←b];exact r
  have p:a1.dk.fail=some (n-1-1,q):=by rw[←b]
  have l:a1.rows=a.rows++[R]:=by rw[←b]
  have e:a1.num=a.num:=by rw[←b]
  by_cases d:kZ a1=true
  ·rw[if_pos d];obtain⟨L,H,I⟩:=mJ c.rows;have J:=aBI a1.rows 4;have x:=c.dk.room;obtain⟨K,A,y⟩:=aC5 p (by omega) (gP a1.rows) (by omega);unfold cP;rw[A];exact⟨⟨k,_,q,y,by omega⟩,rfl,e,l⟩
  ·rw[if_neg d];exact⟨⟨k,_,q,p,by omega⟩,rfl,e,l⟩
 ·rw[if_neg s,if_neg s];exact⟨⟨g,n,q,w,by omega⟩,rfl,rfl,rfl⟩
theorem aFN(hA:m.kind=1∨m.kind=3)(x:Mg)(hx:jK a (decMsg m (gH a m.lock)) m=x):x.src=a.num∧x.dst=m.src∧x.lock=m.lock∧x.bal=m.bal∧
 ((m.bal<(gH a m.lock).prom∧x.kind=5∧x.base=(gH a m.lock).prom)∨(¬m.bal<(gH a m.lock).prom∧x.kind=m.kind+1))∧(x.kind=2→x.val=⟨(gH a m.lock).own,(gH a m.lock).tok,(gH a m.lock).ttl,(gH a m.lock).seq⟩):=by
 subst hx;generalize gH a m.lock=r;refine⟨rfl,rfl,rfl,rfl,?_,?_⟩
 ·by_cases h:m.bal<r.prom
  ·refine Or.inl ⟨h,?_,?_⟩<;>(unfold jK decMsg;simp only[if_pos h])
  ·refine Or.inr ⟨h,?_⟩;unfold jK decMsg;simp only[if_neg h];rcases hA with hA|hA
   ·rw[if_pos hA,hA];rfl
   ·rw[if_neg (by omega),hA];rfl
 ·intro b;unfold jK decMsg at b⊢;by_cases h:m.bal<r.prom
  ·simp only[if_pos h]at b;exact absurd b (by decide)
  ·simp only[if_neg h]at b⊢;by_cases c:m.kind=1
   ·rw[if_pos c]
   ·rw[if_neg c]at b;exact absurd b (by show¬(4:Int)=2;decide)
theorem aD3{a':Ac}(hA:m.kind=1∨m.kind=3)(l0:0≤m.lock)(hrows:a'.rows=if jT m (gH a m.lock)=true then a.rows++[dX m (gH a m.lock)]else a.rows):
 (gH a' m.lock).prom=max (gH a m.lock).prom m.bal∧(aAr (gH a' m.lock)=aAr (gH a m.lock)∨(m.kind=3∧aAr (gH a' m.lock)=m.val)):=by
 have c:(gH a m.lock).lock=m.lock:=rfl;by_cases b:jT m (gH a m.lock)=true
 ·rw[if_pos b]at hrows;have d:(dX m (gH a m.lock)).lock=m.lock:=by unfold dX;split;exact rfl;split<;>rfl
  have e:gH a' m.lock={dX m (gH a m.lock)with lock:=m.lock}:=by
   conv=>lhs;unfold gH
   rw[hrows,kO,if_pos (by omega)]
   rfl
  rw[e];generalize gH a m.lock=r at*;unfold jT at b;unfold dX;by_cases h:m.bal<r.prom
  ·rw[if_pos h]at b;cases b
  ·rw[if_neg h]at b⊢;rcases hA with hA|hA
   ·rw[if_pos hA]at b⊢;have:=of_decide_eq_true b;exact⟨by show m.bal=_;omega,Or.inl rfl⟩
   ·rw[if_neg (by omega)]at b⊢;exact⟨by show m.bal=_;omega,Or.inr ⟨hA,rfl⟩⟩
 ·rw[if_neg b]at hrows;have e:gH a' m.lock=gH a m.lock:=by unfold gH;rw[hrows]
  rw[e];generalize gH a m.lock=r at*;refine⟨?_,Or.inl rfl⟩;unfold jT at b;by_cases h:m.bal<r.prom
  ·omega
  ·rw[if_neg h]at b;rcases hA with hA|hA
   ·rw[if_pos hA,aM]at b;omega
   ·rw[if_neg (by omega)]at b;exact absurd rfl b
end
def lbC(c:Ct):Int:=c.round*256+c.inc*4+c.num
def sP(c:Ct)(s:Int):Prop:=s % 4=c.num∧s / 4 % 64=c.inc
def rE(c:Ct)(v:Vl):Prop:=v.own=0→¬sP c v.seq
def aAF(k r:Int):Prop:=(k=1∧(r=1∨r=2))∨((k=2∨k=3)∧r=3)∨(k=4∧r=4)
structure LOn(f:Int)(pr:Int→Int)(mu:Int→Nat)(net:List Mg)(C:Ct)(k:Int)(μ:Nat)(o:On):Prop where
 bal:o.att.bal=lbC C
 kind:o.kind=k
 lock:o.lock=1
 aw:o.att.awaited=2∨o.att.awaited=4
 pend:∀j:Int,0≤j→j<2*f+1→j ∈ o.att.ans∨∃m ∈ net,m.bal=o.att.bal∧((m.kind=o.att.awaited-1∧m.dst=j)∨((m.kind=o.att.awaited∨m.kind=5)∧m.src=j))
 nack:∀m ∈ net,m.kind=5→m.bal=o.att.bal→m.bal<m.base∧pr m.src=m.base
 tok:C.toks 1=0
 mine:∀b ∈ o.mine,sP C b
 val:rE C o.att.val
 mu1:mu o.att.bal≤μ
 mu2:o.tries≠1→mu o.att.bal+1≤μ
 min:o.att.awaited=2→o.tries=1→o.mine=[]
 tri:1≤o.tries
 res:o.att.awaited=4→aAF k o.att.eres
structure aGl(mu:Int→Nat)(C:Ct)(k:Int)(μ:Nat)(e:Ev):Prop where
 kind:e.kind=3
 res:(aAF k e.res∨e.res=6)∨(e.res=5∧mu (lbC C+256)+1≤μ∧C.toks 1=0)
def wM(m:Mg):Nat:=if m.kind=1∨m.kind=3 then 2 else 1
def jZ(l:List Mg):Nat:=(l.map wM).sum
def rI(n:Nat):Option On→Nat
 |none=>0
 |some o=>(8-o.tries).toNat*(4*n)+if o.att.awaited=2 then 2*n else 0
theorem xZ:jZ []=0:=rfl
theorem iY(m:Mg)(l:List Mg):jZ (m::l)=wM m+jZ l:=by simp[jZ]
theorem qE(a b:List Mg):jZ (a++b)=jZ a+jZ b:=by simp[jZ]
theorem aAR(m:Mg):1≤wM m∧wM m≤2:=by unfold wM;split<;>omega
theorem aDD{l:List Mg}(h:jZ l=0):l=[]:=by
 cases l with
 |nil=>rfl
 |cons m l=>rw[iY]at h;have:=(aAR m).1;omega
theorem aGf(l:List Mg):jZ l≤2*l.length:=by
 induction l with
 |nil=>exact aE _
 |cons m l ih=>rw[iY,bF];have:=(aAR m).2;omega
theorem xM{c:Ct}{o:On}{k b:Int}{v:Vl}(hk:k=1∨k=3):∀n,jZ (cH (fA c o k b v n))=2*n:=fun n=>by
 rw[kA];induction n with
 |zero=>rfl
 |succ n ih=>
  rw[List.range_succ,bN,qE,ih];have:wM ⟨k,c.num,(n:Int),o.lock,o.att.bal,b,v⟩=2:=by unfold wM;exact if_pos hk
  simp only[List.map_cons,List.map_nil,iY,xZ,this];omega
theorem aFz(c:Ct)(o:On)(r t:Int)(v:Vl):(fT c o r t v).num=c.num∧(fT c o r t v).inc=c.inc∧(fT c o r t v).up=c.up∧(fT c o r t v).round=c.round∧(fT c o r t v).doing=none∧(r=5∨r=6→(fT c o r t v).toks=c.toks):=by
 unfold fT;dsimp only;split
 ·unfold kD nZ;split<;>exact⟨rfl,rfl,rfl,rfl,rfl,fun h=>by omega⟩
 ·split
  ·exact⟨rfl,rfl,rfl,rfl,rfl,fun h=>by omega⟩
  ·split
   ·unfold lW;split<;>exact⟨rfl,rfl,rfl,rfl,rfl,fun h=>by omega⟩
   ·exact⟨rfl,rfl,rfl,rfl,rfl,fun _=>rfl⟩
structure aDh(g:Cf)(pr:Int→Int)(mu:Int→Nat)(C:Ct)(k:Int)(μ:Nat)(W0:Nat)(rest:List Mg)(C':Ct)(e:List Ev):Prop where
 up:C'.up=C.up
 num:C'.num=C.num
 inc:C'.inc=C.inc
 lb:lbC C≤lbC C'
 snd:∀m ∈ cH e,m.lock=1∧m.bal≤lbC C'∧(m.kind=1∨m.kind=3)∧m.src=C.num∧(m.kind=3→rE C m.val)
 st:(∃o,C'.doing=some o∧LOn g.f pr mu (rest++cH e) C' k μ o∧∀x ∈ e,x.kind≠3)∨(C'.doing=none∧∃x,e=[x]∧x.node=C.num∧aGl mu C' k μ x)
 pot:jZ (rest++cH e)+rI (dI g) C'.doing≤W0
section
variable {g:Cf}{pr:Int→Int}{mu:Int→Nat}{C:Ct}{k:Int}{μ:Nat}{rest:List Mg}{o:On}
theorem aGs(h0:0≤C.num∧C.num≤3)(h1:0≤C.inc∧C.inc≤63):sP C (lbC C):=by
 unfold sP lbC;omega
theorem aBg(c:Ct)(o:On)(r a b:Int):cH (kX c o r a b)=[]:=rfl
theorem qO{C1:Ct}(hn:C1.num=C.num)(hi:C1.inc=C.inc)(hu:C1.up=C.up)(hl:lbC C≤lbC C1)(r tok own:Int)(v:Vl)(W0:Nat)(hw:jZ rest≤W0)
 (hres:(aAF k r∨r=6)∨(r=5∧mu (lbC C1+256)+1≤μ∧C1.toks 1=0)):aDh g pr mu C k μ W0 rest (fT C1 o r tok v) (kX C1 o r own tok):=by
 obtain⟨b,e,f,l,a,i⟩:=aFz C1 o r tok v;have c:lbC (fT C1 o r tok v)=lbC C1:=by unfold lbC;rw[b,e,l]
 refine⟨f.trans hu,b.trans hn,e.trans hi,by rw[c];exact hl,fun m hm=>(by rw[aBg]at hm;cases hm),Or.inr ⟨a,_,rfl,hn,⟨rfl,?_⟩⟩,?_⟩
 ·rw[c];rcases hres with h|⟨d,j,n⟩
  ·exact Or.inl h
  ·exact Or.inr ⟨d,j,by rw[i (Or.inl d)];exact n⟩
 ·rw[aBg,aC,a];exact hw
theorem aAd{C1:Ct}(hn:C1.num=C.num)(hi:C1.inc=C.inc)(hu:C1.up=C.up)(hl:lbC C≤lbC C1)(hk:o.kind=k)(hlk:o.lock=1)(tok:C1.toks 1=0)(mine:∀b ∈ o.mine,sP C b)(hi1:1≤C.inc)(hi2:C.inc≤63)
 (hrest:∀m ∈ rest,m.bal≤lbC C1) (hm1:mu (lbC C1+256)≤μ) (hm2:o.tries≠0→mu (lbC C1+256)+1≤μ) (hmine:o.tries=0→o.mine=[]) (tri:0≤o.tries) (tr8:o.tries<8) (W0:Nat) (hw:jZ rest+(8-o.tries).toNat*(4*dI g)≤W0):
 aDh g pr mu C k μ W0 rest (gG C1 o) (fH g C1 o):=by
 unfold gG fH;split
 ·exact qO hn hi hu hl 6 0 0 zVl W0 (by omega) (Or.inl (Or.inr rfl))
 ·have p:(hO C1).bal=lbC C1+256:=by unfold hO lbC;dsimp only;omega
  have f:lbC {C1 with round:=C1.round+1,doing:=some (eH o C1)}=lbC C1+256:=by unfold lbC;dsimp only;omega
  have a:(eH o C1).att.bal=lbC C1+256:=p;have c:∀m ∈ cH (fA C1 (eH o C1) 1 0 zVl (dI g)),m.kind=1∧m.lock=1∧m.bal=lbC C1+256∧m.src=C.num:=fun m e=>by
   rw[kA]at e;obtain⟨d,_,rfl⟩:=bL.1 e;exact⟨rfl,hlk,a,hn⟩
  refine⟨hu,hn,hi,by rw[f];omega,fun m e=>?_,Or.inl ⟨eH o C1,rfl,?_,fun x hx=>?_⟩,?_⟩
  ·obtain⟨l,n,q,h⟩:=c m e;exact⟨n,by rw[q,f];exact aL _,Or.inl l,h,fun h3=>by omega⟩
  ·refine⟨by rw[a,f],hk,hlk,Or.inl rfl,fun j j0 j1=>Or.inr ?_,fun m e h5 hb5=>?_,tok,fun b hbm=>?_,fun _ hq=>?_,by rw[a];exact hm1,fun ht=>?_,fun _ ht=>?_,by show 1≤o.tries+1;omega,fun h4=>?_⟩
   ·refine⟨⟨1,C1.num,j,o.lock,lbC C1+256,0,zVl⟩,List.mem_append_right _ ?_,a.symm,Or.inl ⟨rfl,rfl⟩⟩;rw[kA];refine bL.2 ⟨j.toNat,List.mem_range.2 (by unfold dI;omega),?_⟩;rw[show((j.toNat:Nat):Int)=j by omega,a]
    rfl
   ·exfalso;rcases aO.1 e with e|e
    ·have:=hrest m e;rw[a]at hb5;omega
    ·have:=(c m e).1;omega
   ·have:=mine b hbm;unfold sP at this⊢;rw[show({C1 with round:=C1.round+1,doing:=some (eH o C1)}:Ct).num=C.num from hn,show({C1 with round:=C1.round+1,doing:=some (eH o C1)}:Ct).inc=C.inc from hi];exact this
   ·unfold sP at hq;have s:(0:Int) / 4 % 64=C1.inc:=hq.2;omega
   ·rw[a];exact hm2 (by have:¬o.tries+1=1:=ht;omega)
   ·exact hmine (by have:o.tries+1=1:=ht;omega)
   ·exact absurd (show(2:Int)=4 from h4) (by decide)
  ·unfold fA at hx;obtain⟨d,_,rfl⟩:=bL.1 hx;show(1:Int)≠3
   decide
  ·rw[qE,xM (Or.inl rfl)];have i:rI (dI g) (some (eH o C1))=(8-(o.tries+1)).toNat*(4*dI g)+2*dI g:=by
    show(8-(o.tries+1)).toNat*(4*dI g)+(if(2:Int)=2 then 2*dI g else 0)=_;rw[if_pos rfl]
   have r:(8-o.tries).toNat=(8-(o.tries+1)).toNat+1:=by omega
   rw[r,Nat.succ_mul]at hw;show jZ rest+2*dI g+rI (dI g) (some (eH o C1))≤W0;rw[i];omega
theorem aDs{v:Vl}(tok:C.toks o.lock=0):lQ C o v=false:=by
 unfold lQ;rw[tok];simp
theorem aCy(hk:o.kind=k)(k1:1≤k)(k4:k≤4)(tok:C.toks o.lock=0)(mine:∀b ∈ o.mine,sP C b){v:Vl}(hv:rE C v)(hn:0≤C.num):
 ((cU g C o v).res=5∧o.mine≠[])∨((cU g C o v).res≠5∧aAF k (cU g C o v).res∧rE C (cU g C o v).next):=by
 unfold cU;rw[hk];split
 ·rename_i e;unfold gR;split
  ·exact Or.inr ⟨(by decide:(1:Int)≠5),Or.inl ⟨e,Or.inl rfl⟩,hv⟩
  ·split
   ·rename_i c;refine Or.inl ⟨rfl,fun a=>?_⟩;unfold nV at c;rw[a]at c;cases c
   ·split
    ·exact Or.inr ⟨(by decide:(1:Int)≠5),Or.inl ⟨e,Or.inl rfl⟩,fun ho=>absurd (show C.num+1=0 from ho) (by omega)⟩
    ·exact Or.inr ⟨(by decide:(2:Int)≠5),Or.inl ⟨e,Or.inr rfl⟩,hv⟩
 ·split
  ·rename_i e;unfold kQ;rw[aDs tok,if_neg (by decide)];exact Or.inr ⟨(by decide:(3:Int)≠5),Or.inr (Or.inl ⟨Or.inl e,rfl⟩),hv⟩
  ·split
   ·rename_i e;unfold gN;rw[aDs tok,if_neg (by decide)];split
    ·rename_i a;exfalso;refine hv a.1 (mine _ ?_);have:=a.2;unfold oG at this;simpa using this
    ·split
     ·rename_i a;refine Or.inl ⟨rfl,fun h=>?_⟩;rw[h]at a;exact absurd a.1 (by decide)
     ·exact Or.inr ⟨(by decide:(3:Int)≠5),Or.inr (Or.inl ⟨Or.inr e,rfl⟩),hv⟩
   ·exact Or.inr ⟨(by decide:(4:Int)≠5),Or.inr (Or.inr ⟨by omega,rfl⟩),hv⟩
theorem aCC{C2:Ct}{net:List Mg}(hl:LOn g.f pr mu net C2 k μ o)(ha:o.att.awaited=2)(hn:C2.num=C.num)(hi:C2.inc=C.inc)(hu:C2.up=C.up)(hr:C2.round=C.round)(k1:1≤k)(k4:k≤4)(n0:0≤C.num∧C.num≤3)(i0:0≤C.inc∧C.inc≤63)
 (hnack:∀m ∈ rest,m ∈ net) (hmono:∀t t',t≤t'→mu t'≤mu t) (W0:Nat) (hw:jZ rest+rI (dI g) (some o)≤W0):aDh g pr mu C k μ W0 rest (hP g C2 o) (gT g C2 o):=by
 have l:lbC C2=lbC C:=by unfold lbC;rw[hn,hi,hr]
 have J:∀s,sP C2 s→sP C s:=fun s h=>by unfold sP at h⊢;rw[←hn,←hi];exact h
 have v:rI (dI g) (some o)=(8-o.tries).toNat*(4*dI g)+2*dI g:=by
  show(8-o.tries).toNat*(4*dI g)+(if o.att.awaited=2 then 2*dI g else 0)=_;rw[if_pos ha]
 rw[v]at hw;have z:=aCy (g:=g) (C:=C2) (o:=o) hl.kind k1 k4 (by rw[hl.lock];exact hl.tok) hl.mine hl.val (by omega);unfold hP gT;dsimp only;generalize cU g C2 o o.att.val=w at z⊢;rcases z with⟨n,r⟩|⟨n,p,u⟩
 ·rw[if_pos n,if_pos n];have A:o.tries≠1:=fun e=>r (hl.min ha e);refine qO hn hi hu (by rw[l];exact aL _) w.res w.tok w.own o.att.val W0 (by omega) (Or.inr ⟨n,?_,hl.tok⟩);have B:=hl.mu2 A;rw[hl.bal]at B;have:=hmono (lbC C2) (lbC C2+256) (by omega);omega
 ·rw[if_neg n,if_neg n];have c:∀m ∈ cH (fA C2 (eJ o w) 3 o.att.base w.next (dI g)),m.kind=3∧m.lock=1∧m.bal=lbC C∧m.src=C.num∧m.val=w.next:=fun m i=>by
   rw[kA]at i;obtain⟨d,_,rfl⟩:=bL.1 i;exact⟨rfl,hl.lock,(hl.bal.trans l:o.att.bal=lbC C),hn,rfl⟩
  have y:lbC {C2 with doing:=some (eJ o w)}=lbC C:=l;refine⟨hu,hn,hi,by rw[y];exact aL _,fun m i=>?_,Or.inl ⟨eJ o w,rfl,?_,fun x hx=>?_⟩,?_⟩
  ·obtain⟨H,I,D,F,E⟩:=c m i;refine⟨I,by rw[D,y];exact aL _,Or.inr H,F,fun _=>?_⟩;rw[E];exact fun ho hq=>u ho (by unfold sP at hq⊢;rw[hn,hi];exact hq)
  ·refine⟨hl.bal,hl.kind,hl.lock,Or.inr rfl,fun j j0 j1=>Or.inr ?_,fun m i h5' hb5=>?_,hl.tok,fun b hbm=>?_,hl.val,hl.mu1,hl.mu2,fun h2=>?_,hl.tri,fun _=>p⟩
   ·refine⟨⟨3,C2.num,j,o.lock,o.att.bal,o.att.base,w.next⟩,List.mem_append_right _ ?_,rfl,Or.inl ⟨rfl,rfl⟩⟩;rw[kA];refine bL.2 ⟨j.toNat,List.mem_range.2 (by unfold dI;omega),?_⟩;rw[show((j.toNat:Nat):Int)=j by omega]
    rfl
   ·rcases aO.1 i with i|i
    ·exact hl.nack m (hnack m i) h5' hb5
    ·have:=(c m i).1;omega
   ·have a:b ∈ (if oC o w.next=true then o.mine++[o.att.bal]else o.mine):=hbm;split at a
    ·rcases aO.1 a with q|q
     ·exact hl.mine b q
     ·rw[List.mem_singleton.1 q,hl.bal];exact aGs (C:=C2) (by omega) (by omega)
    ·exact hl.mine b a
   ·exact absurd (show(4:Int)=2 from h2) (by decide)
  ·unfold fA at hx;obtain⟨d,_,rfl⟩:=bL.1 hx;show(1:Int)≠3
   decide
  ·rw[qE,xM (Or.inr rfl)];have G:rI (dI g) (some (eJ o w))=(8-o.tries).toNat*(4*dI g):=by
    show(8-o.tries).toNat*(4*dI g)+(if(4:Int)=2 then 2*dI g else 0)=_;rw[if_neg (by decide),Nat.add_zero]
   show jZ rest+2*dI g+rI (dI g) (some (eJ o w))≤W0;rw[G];omega
theorem aCd{N:Int}{i:Nat}{m:Mg}(hl:LOn g.f pr mu (m::rest) C k μ o)(hd:C.doing=some o)(hu:C.up=true)(hok:OOk g N o)(hc:CCore g N i C)(hmk:MOk g m)(hA:¬(m.kind=1∨m.kind=3))(hgt:g.tries≤8)(hcl:C.num≤3)(hi1:1≤C.inc)
 (hbal:∀x ∈ rest,x.bal≤lbC C) (hv:m.kind=2→rE C m.val) (hmono:∀t t',t≤t'→mu t'≤mu t) (hdrop:∀t t' j,t≤t'→0≤j→j<2*g.f+1→t<pr j→¬t'<pr j→mu t'+1≤mu t):
 aDh g pr mu C k μ (jZ rest+rI (dI g) C.doing) rest (fI g C m) (fE g C m)∨(fI g C m=C∧fE g C m=[]∧LOn g.f pr mu rest C k μ o):=by
 have M:0≤C.num:=by rw[hc.num];omega
 have U:1≤k:=by rw[←hl.kind];exact hok.k1
 have W:k≤4:=by rw[←hl.kind];exact hok.k2
 have a0:=hok.r2;have c:(∀j:Int,0≤j→j<2*g.f+1→m.bal=o.att.bal→m.kind=o.att.awaited∨m.kind=5→m.src=j→j ∈ o.att.ans)→LOn g.f pr mu rest C k μ o:=fun hp=>by
  refine{hl with pend:=fun j j0 j1=>?_,nack:=fun r a=>hl.nack r (bR _ a)};rcases hl.pend j j0 j1 with h|⟨r,a,y,n⟩
  ·exact Or.inl h
  ·rcases List.mem_cons.1 a with rfl|a
   ·rcases n with⟨n,_⟩|⟨n,K⟩
    ·exfalso;have:=hl.aw;omega
    ·exact Or.inl (hp j j0 j1 y n K)
   ·exact Or.inr ⟨r,a,y,n⟩
 unfold fI fE;rw[if_neg (by rw[hu];decide),if_neg (by rw[hu];decide),hd];dsimp only;by_cases v:m.bal≠o.att.bal
 ·rw[if_pos v,if_pos v];exact Or.inr ⟨rfl,rfl,c fun j _ _ e=>absurd e v⟩
 ·rw[if_neg v,if_neg v];have F:m.bal=o.att.bal:=aH v;by_cases A:m.kind=5
  ·rw[if_pos A,if_pos A];obtain⟨Y,R⟩:=hl.nack m (bQ ..) A F;have G:=hmk.toC hA;have L:=hmk.s1;generalize l:({C with round:=max C.round (m.base / 256),doing:=some o}:Ct)=C1;have J:C1.num=C.num:=by rw[←l]
   have I:C1.inc=C.inc:=by rw[←l]
   have P:C1.up=C.up:=by rw[←l]
   have Q:C1.round=max C.round (m.base / 256):=by rw[←l]
   have O:C1.toks=C.toks:=by rw[←l]
   have u:lbC C≤lbC C1:=by unfold lbC;rw[J,I,Q];omega
   have T:m.base<lbC C1+256:=by
    have:=hc.i1;unfold lbC;rw[J,I,Q];omega
   have E:mu (lbC C1+256)+1≤μ:=by
    have y:=hdrop o.att.bal (lbC C1+256) m.src (by rw[hl.bal];omega) L G.1 (by rw[R,←F];exact Y) (by rw[R];omega);have:=hl.mu1;omega
   refine Or.inl ?_;unfold jL jF;have S:(8-o.tries).toNat*(4*dI g)≤rI (dI g) (some o):=by
    show _≤(8-o.tries).toNat*(4*dI g)+(if o.att.awaited=2 then 2*dI g else 0);omega
   by_cases q:o.tries<g.tries
   ·rw[if_pos q,if_pos q];exact aAd (g:=g) (rest:=rest) J I P u hl.kind hl.lock (by rw[O];exact hl.tok) hl.mine hi1 hc.i2 (fun x hx=>Int.le_trans (hbal x hx) u) (by omega) (fun _=>E) (fun h0=>by have:=hl.tri;omega) (by have:=hl.tri;omega) (by omega) (jZ rest+rI (dI g) (some o)) (by omega)
   ·rw[if_neg q,if_neg q];exact qO (rest:=rest) J I P u 5 0 0 zVl (jZ rest+rI (dI g) (some o)) (by omega) (Or.inr ⟨rfl,E,by rw[O];exact hl.tok⟩)
  ·rw[if_neg A,if_neg A];by_cases B:m.kind=o.att.awaited
   ·rw[if_pos B,if_pos B];unfold iS iW;by_cases d:o.att.ans.contains m.src=true
    ·rw[if_pos d,if_pos d];exact Or.inr ⟨rfl,rfl,c fun j _ _ _ _ e=>by rw[←e];simpa using d⟩
    ·rw[if_neg d,if_neg d];dsimp only;refine Or.inl ?_;generalize b:heardOn o m=o';have z:o'.att.bal=o.att.bal:=by rw[←b];rfl
     have w:o'.att.awaited=o.att.awaited:=by rw[←b];rfl
     have H:o'.tries=o.tries:=by rw[←b];rfl
     have X:o'.att.ans=o.att.ans++[m.src]:=by rw[←b];rfl
     have s:LOn g.f pr mu rest {C with doing:=some o'} k μ o':=by
      refine⟨by rw[z];exact hl.bal,by rw[←b];exact hl.kind,by rw[←b];exact hl.lock,by rw[w];exact hl.aw,fun j j0 j1=>?_,fun r a=>by rw[z];exact hl.nack r (bR _ a),hl.tok,by rw[←b];exact hl.mine,?_,by rw[z];exact hl.mu1,by rw[z,H];exact hl.mu2,by rw[w,H,←b];exact hl.min,by rw[H];exact hl.tri,by rw[w,←b];exact hl.res⟩
      ·rw[X,w,z];rcases hl.pend j j0 j1 with h|⟨r,a,y,n⟩
       ·exact Or.inl (List.mem_append_left _ h)
       ·rcases List.mem_cons.1 a with rfl|a
        ·rcases n with⟨n,_⟩|⟨n,K⟩
         ·exfalso;omega
         ·exact Or.inl (List.mem_append_right _ (by rw[K];exact List.mem_singleton.2 rfl))
        ·exact Or.inr ⟨r,a,y,n⟩
      ·rw[←b];unfold heardOn;dsimp only;split
       ·rename_i Z;by_cases p:m.kind=2
        ·exact hv p
        ·exfalso;have V:m.kind=4:=by have:=hl.aw;omega
         have:=hmk.k4 V;have:=hok.e1;omega
       ·exact hl.val
     have D:rI (dI g) (some o')=rI (dI g) (some o):=by
      show(8-o'.tries).toNat*(4*dI g)+(if o'.att.awaited=2 then 2*dI g else 0)=_;rw[w,H]
      rfl
     split
     ·refine⟨rfl,rfl,rfl,aL _,fun x hx=>(by cases hx),Or.inl ⟨o',rfl,by rw[eU,aC];exact s,fun x hx=>(by cases hx)⟩,?_⟩;rw[eU,aC];show jZ rest+rI (dI g) (some o')≤_;rw[D];exact aE _
     ·split
      ·rename_i p;exact aCC (C:=C) s (by rw[w,←B];exact p) rfl rfl rfl rfl U W ⟨M,hcl⟩ ⟨hc.i1,hc.i2⟩ (fun m hm=>hm) hmono _ (by rw[D];exact aE _)
      ·rename_i p;refine qO rfl rfl rfl (aL _) o'.att.eres o'.att.etok o'.att.eown o'.att.val _ (by omega) (Or.inl (Or.inl (s.res ?_)));have:=hl.aw;omega
   ·rw[if_neg B,if_neg B];exact Or.inr ⟨rfl,rfl,c fun j _ _ _ e _=>by omega⟩
end
end Go.Proofs.YtbbdgokdfhdpiaaGreatDoor
