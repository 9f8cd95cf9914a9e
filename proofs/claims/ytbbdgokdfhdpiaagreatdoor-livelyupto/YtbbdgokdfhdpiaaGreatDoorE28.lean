/- A part of the proof: LivB. -/
import Derived.Test.YtbbdgokdfhdpiaaGreatDoorE27
namespace Go.Proofs.YtbbdgokdfhdpiaaGreatDoor
set_option linter.all false
set_option maxRecDepth 100000
set_option maxHeartbeats 40000000
open Go.Proofs.Tryz Go.RowKit
def prM(x:Mo)(j:Int):Int:=(gH (acM x j) 1).prom
def muM(x:Mo)(t:Int):Nat:=(List.range (dI x.cf)).countP (fun (j:Nat)=>decide (t<prM x j))
def sS(t:List Ev)(c:Int):Ev:=(jD t c t.length).1
theorem aAp{α:Type}{p q:α→Bool}:∀{l:List α} {a:α},(∀x ∈ l,p x=true→q x=true)→a ∈ l→q a=true→p a=false→l.countP p+1≤l.countP q
 |[],a,_,ha,_,_=>by cases ha
 |x::l,a,h,ha,hq,hp=>by
  have hm:=List.countP_mono_left (l:=l) (p:=p) (q:=q) (fun y hy=>h y (bR _ hy));rw[List.countP_cons,List.countP_cons];rcases List.mem_cons.1 ha with e|ha
  ·subst e;rw[if_pos hq,if_neg (by rw[hp];decide)];omega
  ·have ih:=aAp (fun y hy=>h y (bR _ hy)) ha hq hp;have hx:=h x (bQ ..);by_cases px:p x=true
   ·rw[if_pos px,if_pos (hx px)];omega
   ·rw[if_neg px];split<;>omega
theorem aGo(x:Mo)(t t':Int)(h:t≤t'):muM x t'≤muM x t:=List.countP_mono_left fun j _ hj=>by
 have:=of_decide_eq_true hj;exact decide_eq_true (by omega)
theorem aGM(x:Mo)(t t' j:Int)(h:t≤t')(j0:0≤j)(j1:j<dI x.cf)(h1:t<prM x j)(h2:¬t'<prM x j):muM x t'+1≤muM x t:=by
 refine aAp (a:=j.toNat) (fun i _ hi=>?_) (List.mem_range.2 (by omega)) ?_ ?_
 ·have:=of_decide_eq_true hi;exact decide_eq_true (by omega)
 ·rw[show((j.toNat:Nat):Int)=j by omega];exact decide_eq_true h1
 ·rw[show((j.toNat:Nat):Int)=j by omega];exact decide_eq_false h2
theorem aHU(x:Mo)(t:Int):muM x t≤dI x.cf:=by
 have:=List.countP_le_length (l:=List.range (dI x.cf)) (p:=fun (j:Nat)=>decide (t<prM x j));rw[List.length_range]at this;exact this
theorem aFl{x y:Mo}{t:Int}(hc:y.cf=x.cf)(h:∀j:Int,0≤j→j<dI x.cf→(t<prM y j↔t<prM x j)):muM y t=muM x t:=by
 unfold muM;rw[hc];refine List.countP_congr fun j hj=>?_;rw[aM,aM];exact h j (by omega) (by have:=List.mem_range.1 hj;omega)
theorem aAs(t e:List Ev)(c:Int):∀n,n≤t.length→jD (t++e) c n=jD t c n
 |0,_=>rfl
 |n+1,h=>by
  have hg:(t++e).getD n zEv=t.getD n zEv:=by rw[aQ,aQ,bI (by omega)]
  unfold jD;rw[hg,aAs t e c n (by omega)]
section
variable (t:List Ev) (e:Ev)
theorem zX:(t++[e]).getD t.length zEv=e:=by
 rw[aQ,bJ (aE _),Nat.sub_self]
 rfl
theorem aCp(c:Int)(h:¬(e.kind=3∧e.node=c)):sS (t++[e]) c=sS t c:=by
 unfold sS;rw[aD,aK]
 conv=>lhs;unfold jD
 rw[zX,if_neg h,aAs t [e] c _ (aE _)]
theorem aAn(c:Int)(h:e.kind=3∧e.node=c):sS (t++[e]) c=e:=by
 unfold sS;rw[aD,aK]
 conv=>lhs;unfold jD
 rw[zX,if_pos h]
end
theorem oX{x:Mo}{m:Mg}{rest:List Mg}(h:x.net=m::rest):cZ x 0=if gF m=true then iX {x with net:=rest} m.dst (gX (acM x m.dst) m) (jU (acM x m.dst) m)else fW {x with net:=rest} m.dst (fI x.cf (clM x m.dst) m) (fE x.cf (clM x m.dst) m):=by
 have hi:dH 0 x.net.length=true:=by rw[cV,h,bF];omega
 have hm:jO x 0=m:=by unfold jO;rw[h];rfl
 have hd:eL x 0={x with net:=rest}:=by
  unfold eL;rw[if_pos hi];rw[h]
  rfl
 unfold cZ;rw[if_pos hi,hm,hd]
theorem aDq{x y:Mo}{j:Int}{a:Ac}(hy:y.acs=x.acs.set j.toNat a)(hc:y.cf=x.cf)(hj:dH j x.acs.length=true)(i:Int)(hi:0≤i):acM y i=if i=j then a else acM x i:=by
 obtain⟨c,b⟩:=(cV _ _).1 hj;unfold acM;rw[hy,hc,aQ,List.getElem?_set];by_cases e:i=j
 ·subst e;rw[if_pos rfl,if_pos rfl,if_pos (by omega)]
  rfl
 ·rw[if_neg e,if_neg (by omega),aQ]
theorem vV{x y:Mo}{j:Int}{c:Ct}(hy:y.cls=x.cls.set j.toNat c)(hj:dH j x.cls.length=true):clM y j=c:=by
 obtain⟨b,a⟩:=(cV _ _).1 hj;unfold clM;rw[hy,aQ,List.getElem?_set,if_pos rfl,if_pos (by omega)]
 rfl
theorem mO{c c':Ct}(hn:c'.num=c.num)(hi:c'.inc=c.inc){v:Vl}(h:rE c v):rE c' v:=fun ho hq=>h ho (by unfold sP at hq⊢;rw[←hn,←hi];exact hq)
theorem CalmA.mono{A B:Int}{a:Ac}(h:CalmA B a)(hA:A≤B):CalmA A a:=by
 obtain⟨c,n,q,b,d⟩:=h;exact⟨c,n,q,b,by omega⟩
structure Liv(x:Mo)(c k B:Int)(μ:Nat):Prop where
 room:MoRoom x
 calm:∀a ∈ x.acs,CalmA B a
 ins:dH c x.cls.length=true
 up:(clM x c).up=true
 inc:1≤(clM x c).inc
 row:∀a ∈ x.acs,rE (clM x c) (aAr (gH a 1))
 net:∀m ∈ x.net,m.lock=1∧m.bal≤lbC (clM x c)∧(((m.kind=1∨m.kind=3)∧m.src=c)∨(¬(m.kind=1∨m.kind=3)∧m.dst=c))∧(m.kind=2∨m.kind=3→rE (clM x c) m.val)
 st:(∃o,(clM x c).doing=some o∧LOn x.cf.f (prM x) (muM x) x.net (clM x c) k μ o)∨((clM x c).doing=none∧aGl (muM x) (clM x c) k μ (sS x.tr c))
def rL(x:Mo)(c:Int):Nat:=jZ x.net+rI (dI x.cf) (clM x c).doing
section
variable {N:Int}{x:Mo}{c k B:Int}{μ:Nat}
theorem aGP(hx:MoOk N x)(h:Liv x c k B μ)(hB:7≤B){m:Mg}{rest:List Mg}(hnet:x.net=m::rest)(hA:m.kind=1∨m.kind=3):Liv (cZ x 0) c k (B-7) μ∧rL (cZ x 0) c+1≤rL x c:=by
 have b:=h.room.deliver hx 0;rw[oX hnet]at b⊢;have I:=h.net m (by rw[hnet];exact bQ ..);have v:MOk x.cf m:=hx.net m (by rw[hnet];exact bQ ..);have a2:=dE hx.conf;have hb:gF m=true:=by simpa[gF]using hA
 rw[if_pos hb]at b⊢;have a0:=v.toA hA;have T:=v.d1;have a1:(dI x.cf:Int)=2*x.cf.f+1:=by unfold dI;omega
 have E:dH m.dst x.acs.length=true:=(cV _ _).2 ⟨v.d1,by rw[hx.na];omega⟩;have ha:=(hx.ac E).1;have i:=qT E;obtain⟨t1,t2,t3,V⟩:=aAg h.room.rich ha (h.room.all _ i) v hA (h.calm _ i) hB;rw[t2]at b⊢;obtain⟨r,hr⟩:=aIf (jK (acM x m.dst) (decMsg m (gH (acM x m.dst) m.lock)) m);obtain⟨r1,r2,U,Y,Z,X⟩:=aFN hA r hr;rw[hr]at b⊢;obtain⟨P,C⟩:=aD3 hA (by omega) V;rw[I.1]at P C Z X U;have L:r.src=m.dst:=by rw[r1,ha.num];omega
 have M:m.src=c:=by
  rcases I.2.2.1 with q|q
  ·exact q.2
  ·exact absurd hA q.1
 generalize gX (acM x m.dst) m=a' at t1 t3 V P C b⊢;generalize J:iX {x with net:=rest} m.dst a' [fC r]=y at b⊢;have W:y.cls=x.cls:=by rw[←J];rfl
 have u:y.cf=x.cf:=by rw[←J];rfl
 have p:y.net=rest++[r]:=by rw[←J];rfl
 have z:y.acs=x.acs.set m.dst.toNat a':=by rw[←J];rfl
 have R:y.tr=x.tr++[fC r]:=by rw[←J];rfl
 have n:clM y c=clM x c:=by unfold clM;rw[W]
 have D:∀j:Int,0≤j→prM y j=if j=m.dst then max (prM x m.dst) m.bal else prM x j:=fun j j0=>by
  unfold prM;rw[aDq z u E j j0];by_cases e:j=m.dst
  ·rw[if_pos e,if_pos e];exact P
  ·rw[if_neg e,if_neg e]
 have F:∀t:Int,m.bal≤t→muM y t=muM x t:=fun t ht=>aFl u fun j j0 j1=>by
  rw[D j j0];by_cases e:j=m.dst
  ·rw[if_pos e,e];omega
  ·rw[if_neg e]
 have s:∀a ∈ y.acs,a ∈ x.acs∨a=a':=fun a ha'=>List.mem_or_eq_of_mem_set (by rw[z]at ha';exact ha');have g:∀l ∈ rest,l ∈ x.net:=fun l d=>by rw[hnet];exact bR _ d
 have rk:r.kind=2∨r.kind=4∨r.kind=5:=by omega
 refine⟨⟨b,fun a ha'=>?_,by rw[W];exact h.ins,by rw[n];exact h.up,by rw[n];exact h.inc,fun a ha'=>?_,fun l d=>?_,?_⟩,?_⟩
 ·rcases s a ha' with q|q
  ·exact(h.calm a q).mono (by omega)
  ·rw[q];exact t1
 ·rw[n];rcases s a ha' with q|q
  ·exact h.row a q
  ·rw[q];rcases C with C|⟨C,w3⟩
   ·rw[C];exact h.row _ i
   ·rw[w3];exact I.2.2.2 (Or.inr C)
 ·rw[n];rw[p]at d;rcases aO.1 d with q|q
  ·exact h.net l (g l q)
  ·rw[List.mem_singleton.1 q];refine⟨U,by rw[Y];exact I.2.1,Or.inr ⟨by omega,by rw[r2];exact M⟩,fun hk=>?_⟩;have Q:r.kind=2:=by omega
   rw[X Q];exact h.row _ i
 ·rw[n,u,p,R];rcases h.st with⟨o,O,A⟩|⟨O,he⟩
  ·have K:m.bal≤o.att.bal:=by rw[A.bal];exact I.2.1
   refine Or.inl ⟨o,O,{A with pend:=fun j j0 j1=>?_,nack:=fun l d h5 hb5=>?_,mu1:=by rw[F _ K];exact A.mu1,mu2:=fun ht=>by rw[F _ K];exact A.mu2 ht}⟩
   ·rcases A.pend j j0 j1 with q|⟨l,d,G,w⟩
    ·exact Or.inl q
    ·rw[hnet]at d;rcases List.mem_cons.1 d with rfl|d
     ·have:=A.aw;refine Or.inr ⟨r,List.mem_append_right _ (List.mem_singleton.2 rfl),Y.trans G,Or.inr ?_⟩;rcases w with⟨w,H⟩|⟨w,H⟩
      ·exact⟨by omega,L.trans H⟩
      ·exfalso;omega
     ·exact Or.inr ⟨l,List.mem_append_left _ d,G,w⟩
   ·rcases aO.1 d with q|q
    ·obtain⟨n1,n2⟩:=A.nack l (g l q) h5 hb5;have S:=hx.net l (g l q);refine⟨n1,?_⟩;rw[D _ S.s1];by_cases e:l.src=m.dst
     ·rw[if_pos e,←e,n2];omega
     ·rw[if_neg e];exact n2
    ·rw[List.mem_singleton.1 q]at h5 hb5⊢;have hp:prM x m.dst=(gH (acM x m.dst) 1).prom:=rfl;rcases Z with⟨G,w,H⟩|⟨G,w⟩
     ·refine⟨by omega,?_⟩;rw[L,D _ T,if_pos rfl,H,hp];omega
     ·exfalso;omega
  ·refine Or.inr ⟨O,?_⟩;rw[aCp _ _ _ (fun e=>absurd e.1 (by show¬(1:Int)=3;decide))];refine⟨he.kind,?_⟩;rcases he.res with q|⟨G,w,H⟩
   ·exact Or.inl q
   ·exact Or.inr ⟨G,by rw[F _ (by have:=I.2.1;omega)];exact w,H⟩
 ·unfold rL;rw[n,u,p,hnet,qE,iY,iY,xZ];have e1:wM m=2:=if_pos hA;have e2:wM r=1:=if_neg (by omega);omega
theorem aHa(hx:MoOk N x)(h:Liv x c k B μ)(hB:7≤B){m:Mg}{rest:List Mg}(hnet:x.net=m::rest)(hA:¬(m.kind=1∨m.kind=3)):Liv (cZ x 0) c k (B-7) μ∧rL (cZ x 0) c+1≤rL x c:=by
 have b:=h.room.deliver hx 0;rw[oX hnet]at b⊢;have S:=h.net m (by rw[hnet];exact bQ ..);have O:MOk x.cf m:=hx.net m (by rw[hnet];exact bQ ..);have Y:=dE hx.conf;have A:=hx.cl h.ins;have U:¬gF m=true:=by simpa[gF]using hA
 rw[if_neg U]at b⊢;have D:m.dst=c:=by
  rcases S.2.2.1 with q|q
  ·exact absurd q.1 hA
  ·exact q.2
 rw[D]at b⊢;obtain⟨c0,c1⟩:=(cV _ _).1 h.ins;have X:(dI x.cf:Int)=2*x.cf.f+1:=by unfold dI;omega
 have v:(clM x c).num=c:=by rw[A.1.core.num];omega
 have n:∀m' ∈ rest,m' ∈ x.net:=fun m' hm'=>by rw[hnet];exact bR _ hm'
 have Z:wM m=1:=if_neg hA;have r:∀(st':(∃o,(clM x c).doing=some o∧LOn x.cf.f (prM x) (muM x) rest (clM x c) k μ o)∨((clM x c).doing=none∧aGl (muM x) (clM x c) k μ (sS x.tr c))) (F:fI x.cf (clM x c) m=clM x c) (E:fE x.cf (clM x c) m=[]),
  Liv (fW {x with net:=rest} c (fI x.cf (clM x c) m) (fE x.cf (clM x c) m)) c k (B-7) μ∧rL (fW {x with net:=rest} c (fI x.cf (clM x c) m) (fE x.cf (clM x c) m)) c+1≤rL x c:=fun st' F E=>by
  rw[F,E]at b⊢;generalize s:fW {x with net:=rest} c (clM x c) []=y at b⊢;have d:clM y c=clM x c:=vV (x:=x) (by rw[←s];rfl) h.ins;have l:y.cf=x.cf:=by rw[←s];rfl
  have i:y.net=rest:=by rw[←s];exact aC _
  have g:y.acs=x.acs:=by rw[←s];rfl
  have z:y.tr=x.tr:=by rw[←s];exact aC _
  have u:prM y=prM x:=by unfold prM acM;rw[g,l]
  have C:muM y=muM x:=by unfold muM;rw[u,l]
  refine⟨⟨b,fun a ha=>(h.calm a (by rw[←g];exact ha)).mono (by omega),by rw[←s];simpa[fW]using h.ins,by rw[d];exact h.up,by rw[d];exact h.inc,fun a ha=>by rw[d];exact h.row a (by rw[←g];exact ha),fun m' hm'=>by rw[d];exact h.net m' (n m' (by rw[←i];exact hm')),?_⟩,?_⟩
  ·rw[d,l,i,z,u,C];exact st'
  ·unfold rL;rw[d,l,i,hnet,iY];omega
 rcases h.st with⟨o,w,R⟩|⟨w,W⟩
 ·rw[hnet]at R;rcases aCd (rest:=rest) R w h.up (A.1.on o w) A.1.core O hA (by omega) (by rw[v];have:=hx.nc;omega) h.inc (fun m' hm'=>(h.net m' (n m' hm')).2.1) (fun h2=>S.2.2.2 (Or.inl h2)) (aGo x) (fun t t' j a1 a2 a3 a4 a5=>aGM x t t' j a1 a2 (by omega) a4 a5)with p|⟨F,E,M⟩
  ·generalize fI x.cf (clM x c) m=C' at p b⊢;generalize fE x.cf (clM x c) m=e at p b⊢;generalize s:fW {x with net:=rest} c C' e=y at b⊢;have d:clM y c=C':=vV (x:=x) (by rw[←s];rfl) h.ins;have l:y.cf=x.cf:=by rw[←s];rfl
   have i:y.net=rest++cH e:=by rw[←s];rfl
   have g:y.acs=x.acs:=by rw[←s];rfl
   have z:y.tr=x.tr++e:=by rw[←s];rfl
   have u:prM y=prM x:=by unfold prM acM;rw[g,l]
   have C:muM y=muM x:=by unfold muM;rw[u,l]
   refine⟨⟨b,fun a ha=>(h.calm a (by rw[←g];exact ha)).mono (by omega),by rw[←s];simpa[fW]using h.ins,by rw[d];exact p.up.trans h.up,by rw[d,p.inc];exact h.inc,fun a ha=>by rw[d];exact mO p.num p.inc (h.row a (by rw[←g];exact ha)),fun m' hm'=>?_,?_⟩,?_⟩
   ·rw[d];rw[i]at hm';rcases aO.1 hm' with q|q
    ·obtain⟨G,J,H,K⟩:=h.net m' (n m' q);exact⟨G,Int.le_trans J p.lb,H,fun hk=>mO p.num p.inc (K hk)⟩
    ·obtain⟨G,J,H,K,T⟩:=p.snd m' q;exact⟨G,J,Or.inl ⟨H,K.trans v⟩,fun hk=>mO p.num p.inc (T (by omega))⟩
   ·rw[d,l,i,z,u,C];rcases p.st with⟨V,I,L,P⟩|⟨I,e',L,P,Q⟩
    ·exact Or.inl ⟨V,I,L⟩
    ·refine Or.inr ⟨I,?_⟩;rw[L,aAn _ _ _ ⟨Q.kind,P.trans v⟩];exact Q
   ·have:=p.pot;unfold rL;rw[d,l,i,hnet,iY];omega
  ·exact r (Or.inl ⟨o,w,M⟩) F E
 ·refine r (Or.inr ⟨w,W⟩) ?_ ?_
  ·unfold fI;rw[if_neg (by rw[h.up];decide),w]
  ·unfold fE;rw[if_neg (by rw[h.up];decide),w]
theorem aFY(hx:MoOk N x)(h:Liv x c k B μ)(hB:7≤B){m:Mg}{rest:List Mg}(hnet:x.net=m::rest):Liv (cZ x 0) c k (B-7) μ∧rL (cZ x 0) c+1≤rL x c:=by
 by_cases a:m.kind=1∨m.kind=3
 ·exact aGP hx h hB hnet a
 ·exact aHa hx h hB hnet a
theorem Liv.mono{A:Int}(h:Liv x c k B μ)(hA:A≤B):Liv x c k A μ:={h with calm:=fun a ha=>(h.calm a ha).mono hA}
end
theorem xA{c k:Int}{μ:Nat}:∀(n:Nat) {x:Mo} {N B:Int},MoOk N x→Liv x c k B μ→7*(n:Int)≤B→rL x c≤n→(fV n x).net=[]∧Liv (fV n x) c k (B-7*n) μ∧MoOk (N+6*n) (fV n x)
 |0,x,N,B,hx,h,hB,hp=>by
  have h0:jZ x.net=0:=by unfold rL at hp;omega
  exact⟨aDD h0,h.mono (by omega),hx.mono (by omega)⟩
 |n+1,x,N,B,hx,h,hB,hp=>by
  unfold fV;cases hn:x.net with
  |nil=>rw[if_pos (show([]:List Mg).length=0 from rfl)];exact⟨hn,h.mono (by omega),hx.mono (by omega)⟩
  |cons m rest=>
   rw[if_neg (by simp)];obtain⟨d,f⟩:=aFY hx h (by omega) hn;obtain⟨b,a,e⟩:=xA n (hx.deliver 0) d (by omega) (by omega);exact⟨b,a.mono (by omega),e.mono (by omega)⟩
section
variable {N:Int}{x:Mo}{c k B:Int}{μ:Nat}
theorem aFI(hx:MoOk N x)(h:Liv x c k B μ)(hn:x.net=[]):(clM x c).doing=none∧aGl (muM x) (clM x c) k μ (sS x.tr c):=by
 rcases h.st with⟨o,n,s⟩|q
 ·exfalso;have g:=(hx.cl h.ins).1.on o n;have t:=dE hx.conf;have a:∀j:Int,0≤j→j<2*x.cf.f+1→j ∈ o.att.ans:=fun j j0 j1=>by
   rcases s.pend j j0 j1 with q|⟨m,i,_⟩
   ·exact q
   ·rw[hn]at i;cases i
  have b:=g.ans;have d:=a 0 (by omega) (by omega);have e:=a 1 (by omega) (by omega);have a2:=a 2 (by omega) (by omega);generalize o.att.ans=l at*
  match l,b,d,e,a2 with
  |[],_,d,_,_=>cases d
  |[p],_,d,e,_=>simp at d e;omega
  |[p,q],_,d,e,a2=>simp at d e a2;omega
  |p::q::r::l,b,_,_,_=>simp at b;omega
 ·exact q
structure aFf(x:Mo)(c B:Int)(μ:Nat):Prop where
 room:MoRoom x
 calm:∀a ∈ x.acs,CalmA B a
 ins:dH c x.cls.length=true
 up:(clM x c).up=true
 inc:1≤(clM x c).inc
 row:∀a ∈ x.acs,rE (clM x c) (aAr (gH a 1))
 net:x.net=[]
 doing:(clM x c).doing=none
 tok:(clM x c).toks 1=0
 mu:muM x (lbC (clM x c)+256)≤μ
theorem aEy(hx:MoOk N x)(h:aFf x c B μ)(k1:1≤k)(k4:k≤4):mL x c k 1 5=0∧Liv (eY x c k 1 5) c k B μ∧rL (eY x c k 1 5) c≤160:=by
 have V:=dE hx.conf;have w:=hx.cl h.ins;obtain⟨Y,X⟩:=(cV _ _).1 h.ins;have q:(clM x c).num=c:=by rw[w.1.core.num];omega
 have p:jW x c k 1 5=false:=by unfold jW;rw[h.ins];simp;omega
 have s:jX (clM x c)=0:=by unfold jX;rw[if_neg (by rw[h.up];decide),h.doing];rfl
 have d:=h.room.begin c k 1 5;unfold mL;rw[p,if_neg (by decide)];refine⟨s,?_⟩;unfold eY at d⊢;rw[p,if_neg (by decide)]at d⊢;unfold iN iB at d⊢;rw[if_neg (by rw[s];decide),if_neg (by rw[s];decide)]at d⊢;generalize rX k 5=t at d⊢;generalize J:dJ {clM x c with doing:=some (dT (clM x c) k 1 t)} k 1 t=C1 at d⊢;have r:C1.num=(clM x c).num∧C1.inc=(clM x c).inc∧C1.up=(clM x c).up∧C1.round=(clM x c).round∧C1.toks=(clM x c).toks:=by
  rw[←J];unfold dJ;split
  ·exact⟨rfl,rfl,rfl,rfl,rfl⟩
  ·split<;>exact⟨rfl,rfl,rfl,rfl,rfl⟩
 have K:lbC C1=lbC (clM x c):=by unfold lbC;rw[r.1,r.2.1,r.2.2.2.1]
 have U:dI x.cf≤5:=by unfold dI;omega
 have G:jZ []+(8-(dT (clM x c) k 1 t).tries).toNat*(4*dI x.cf)≤160:=by
  show 0+8*(4*dI x.cf)≤160;omega
 have i:=aAd (g:=x.cf) (pr:=prM x) (mu:=muM x) (C:=clM x c) (k:=k) (μ:=μ) (rest:=[]) (o:=dT (clM x c) k 1 t) (C1:=C1) r.1 r.2.1 r.2.2.1 (by rw[K];exact aL _) rfl rfl (by rw[r.2.2.2.2];exact h.tok) (fun b hb=>(by cases hb)) h.inc w.1.core.i2 (fun m hm=>(by cases hm)) (by rw[K];exact h.mu) (fun h0=>absurd (show(dT (clM x c) k 1 t).tries=0 from rfl) h0) (fun _=>rfl) (aL 0) (by show(0:Int)<8;decide) 160 G;generalize gG C1 (dT (clM x c) k 1 t)=C' at i d⊢;generalize fH x.cf C1 (dT (clM x c) k 1 t)=e at i d⊢;generalize H:gW (clM x c).num (dT (clM x c) k 1 t)=be at d⊢;have F:be.kind=2:=by rw[←H];rfl
 have E:cH (be::e)=cH e:=by unfold cH;rw[List.filter_cons,if_neg (by simp[pG,F])]
 generalize u:fW x c C' (be::e)=y at d⊢;have f:clM y c=C':=vV (x:=x) (by rw[←u];rfl) h.ins;have n:y.cf=x.cf:=by rw[←u];rfl
 have l:y.net=cH e:=by rw[←u];show x.net++cH (be::e)=_;rw[h.net,E];rfl
 have j:y.acs=x.acs:=by rw[←u];rfl
 have D:y.tr=(x.tr++[be])++e:=by rw[←u];show x.tr++(be::e)=_;simp
 have v:prM y=prM x:=by unfold prM acM;rw[j,n]
 have I:muM y=muM x:=by unfold muM;rw[v,n]
 refine⟨⟨d,fun a ha=>h.calm a (by rw[←j];exact ha),by rw[←u];simpa[fW]using h.ins,by rw[f];exact i.up.trans h.up,by rw[f,i.inc];exact h.inc,fun a ha=>by rw[f];exact mO i.num i.inc (h.row a (by rw[←j];exact ha)),fun m' hm'=>?_,?_⟩,?_⟩
 ·rw[f];rw[l]at hm';obtain⟨O,R,Q,S,P⟩:=i.snd m' hm';exact⟨O,R,Or.inl ⟨Q,S.trans q⟩,fun hk=>mO i.num i.inc (P (by omega))⟩
 ·rw[f,n,l,D,v,I];rcases i.st with⟨T,z,A,L⟩|⟨z,W,A,L,M⟩
  ·exact Or.inl ⟨T,z,A⟩
  ·refine Or.inr ⟨z,?_⟩;rw[A,aAn _ _ _ ⟨M.kind,L.trans q⟩];exact M
 ·have:=i.pot;unfold rL;rw[f,n,l];exact this
theorem aD1(hx:MoOk N x)(h:aFf x c B μ)(hB:1400≤B)(k1:1≤k)(k4:k≤4):(iC x c k 1 5).kind=3∧((aAF k (iC x c k 1 5).res∨(iC x c k 1 5).res=6)∨((iC x c k 1 5).res=5∧1≤μ∧aFf (kY x c k 1 5) c (B-1400) (μ-1))):=by
 obtain⟨f,j,p⟩:=aEy hx h k1 k4;have i:kY x c k 1 5=fV 200 (eY x c k 1 5):=by unfold kY;rw[if_neg (by rw[f];decide)]
 have o:iC x c k 1 5=sS (kY x c k 1 5).tr c:=by unfold iC;rw[if_neg (by rw[f];decide)];rfl
 obtain⟨d,b,g⟩:=xA 200 (hx.begin c k 1 5) j (by omega) (by omega);rw[←i]at d b g;obtain⟨m,e⟩:=aFI g b d;rw[o];refine⟨e.kind,?_⟩;rcases e.res with q|⟨l,r,n⟩
 ·exact Or.inl q
 ·exact Or.inr ⟨l,by omega,⟨b.room,fun a ha=>(b.calm a ha).mono (by omega),b.ins,b.up,b.inc,b.row,d,m,n,by omega⟩⟩
end
end Go.Proofs.YtbbdgokdfhdpiaaGreatDoor
