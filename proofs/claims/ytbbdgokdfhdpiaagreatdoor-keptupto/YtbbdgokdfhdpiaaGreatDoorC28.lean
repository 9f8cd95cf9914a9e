/- A part of the proof: KptM, KptL. -/
import Derived.Test.YtbbdgokdfhdpiaaGreatDoorC23
import Derived.Test.YtbbdgokdfhdpiaaGreatDoorC26
namespace Go.Proofs.YtbbdgokdfhdpiaaGreatDoor
set_option linter.all false
set_option maxRecDepth 100000
set_option maxHeartbeats 40000000
open Go.Proofs.Tryz Go.RowKit
def gH(t:List Ev)(a l:Int):Nat→Int×Int
 |0=>(0,0)
 |n+1=>
  let p:=gH t a l n
  let e:=t.getD n zEv
  if e.kind≠1∨e.msg.src≠a∨e.msg.lock≠l then p
  else if e.msg.kind=2 then(max p.1 e.msg.bal,max p.2 e.msg.base)
  else if e.msg.kind=5 then(max p.1 e.msg.base,p.2)
  else if e.msg.kind=4 then(max p.1 e.msg.bal,max p.2 e.msg.bal)else p
def iY(L:List Rw)(l:Int):Rw:=(L.find? fun r=>decide (r.lock=l)).getD {zRw with lock:=l}
theorem aEV(rs:List Rw){k:Nat}(hk:k<4):(eH rs 4).find? (fun r=>decide (r.lock=(k:Int)))=dF rs k:=by
 have a:∀r,r ∈ eH rs 4→r.lock=(k:Int)→dF rs k=some r:=fun r b hl=>by
  obtain⟨j,f,c⟩:=List.mem_filterMap.1 (show r ∈ (List.range 4).filterMap (dF rs)from b);have:=(kA c).2;have:j=k:=by omega
  rw[←this];exact c
 cases h:(eH rs 4).find? (fun r=>decide (r.lock=(k:Int)))with
 |some r=>
  have e:=List.mem_of_find?_eq_some h;have d:=List.find?_some h;rw[a r e (by simpa using d)]
 |none=>
  cases h':dF rs k with
  |none=>rfl
  |some r=>
   have b:r ∈ eH rs 4:=List.mem_filterMap.2 ⟨k,List.mem_range.2 hk,h'⟩;have:=List.find?_eq_none.1 h r b;simp[(kA h').2]at this
theorem aB0(a:Ac){k:Nat}(hk:k<4):iY (eH a.rows 4) k=pG a k:=by
 unfold iY pG;rw[aEV a.rows hk,Int.toNat_natCast];cases h:dF a.rows k with
 |none=>rfl
 |some r=>
  show r={r with lock:=(k:Int)};rw[←(kA h).2]
section
variable {c:Cf}{x:Mo}{a:Int→Int→Int}{d:Int→Bool}{s:Sx}{N:Int}
theorem KSim.inv(h:KSim c x a d s)(hx:MoOk N x):Inv c s:=by
 have b:=dE hx.conf;rw[h.cf]at b;exact h.rch.all (by omega) (by omega)
theorem aBe(h:KSim c x a d s)(hx:MoOk N x)(j l:Int):∀n,n≤x.tr.length→(gH x.tr j l n).1≤(s.tb j l).prom∧(gH x.tr j l n).2≤(s.tb j l).acc
 |0,_=>by
  have:=(h.inv hx).i2.a0 j l;show(0:Int)≤_∧(0:Int)≤_;omega
 |n+1,hn=>by
  have ih:=aBe h hx j l n (by omega);have v:=h.inv hx;unfold gH;dsimp only;have hlt:n<x.tr.length:=by omega
  have hg:x.tr.getD n zEv=x.tr[n]:=by rw[aQ,aP hlt];rfl
  rw[hg];split
  ·exact ih
  ·rename_i hq;have h1:x.tr[n].kind=1:=aH fun z=>hq (Or.inl z);have h2:x.tr[n].msg.src=j:=aH fun z=>hq (Or.inr (Or.inl z));have h3:x.tr[n].msg.lock=l:=aH fun z=>hq (Or.inr (Or.inr z));have hm:x.tr[n].msg ∈ cF s.tr:=by
    rw[h.abs.tr];exact yI (k:=n) (aP hlt) h1
   have hlow:=v.i2.low _ hm;rw[h2,h3]at hlow;obtain⟨l2,l5,l4⟩:=hlow;split
   ·rename_i hk;have:=l2 hk;show max _ _≤_∧max _ _≤_;omega
   ·split
    ·rename_i hk;have:=l5 hk;show max _ _≤_∧_≤_;omega
    ·split
     ·rename_i hk;have:=l4 hk;show max _ _≤_∧max _ _≤_;omega
     ·exact ih
theorem aEH(h:KSim c x a d s)(hx:MoOk N x){j:Int}(hj:dD j x.acs.length=true)(ht:kY x j=0){k:Nat}(hk:k<4):
 (gH x.tr j k x.tr.length).1≤(iY (gY x j) k).prom∧(gH x.tr j k x.tr.length).2≤(iY (gY x j) k).acc∧(iY (gY x j) k).acc≤(iY (gY x j) k).prom:=by
 have b:(acM x j).st≠2:=fun e=>by
  unfold kY at ht;rw[if_pos hj,if_pos e]at ht;cases ht
 have i:iY (gY x j) k=s.tb j k:=by
  unfold gY;rw[if_pos ht,aB0 _ hk,aBc (hx.ac hj).1 b,h.abs.acAt hj (by omega)]
 rw[i];have f:=aBe h hx j k x.tr.length (aE _);have g:=(h.inv hx).i2.a0 j k;exact⟨f.1,f.2,g.2⟩
theorem aEC(h:KSim c x a d s)(hx:MoOk N x){j:Int}(hj:dD j x.acs.length=true)(ht:kY x j=0):
 aC8 x j=0∧25*(dH (lZ x j)).length=(lZ x j).length∧eH (dH (lZ x j)) 4=gY x j:=by
 have g:(acM x j).st≠2:=fun e=>by
  unfold kY at ht;rw[if_pos hj,if_pos e]at ht;cases ht
 have f:=(hx.ac hj).1;have k:=h.room.all _ (vP hj);have b:(acM x j).st=0:=by
  have:=f.st;have:=k.st;omega
 have i:lZ x j=(acM x j).dk.log:=by unfold lZ;rw[if_pos hj]
 refine⟨by unfold aC8;rw[if_pos hj],by rw[i];exact f.full b,?_⟩;rw[i];unfold gY;rw[if_pos ht];exact(aCi (f.tab g) 4).symm
end
theorem uM(fn:Func){x:Tmp}(hr:fn.results=#[.cell x 58])(tmps:Array Value)(b:Nat)(r:Rw)(W:World)(h4:tmps.getD x undef= .pointer (some ⟨b,0,none⟩))(hb:W.heap[b]?=some (.cells (rwL r).toArray 58 (0,0))):
 (results fn tmps).run prog W= .ok (rwV r) W:=by
 have a:(loadVar 58 ⟨b,0,none⟩).run prog W= .ok (rwV r) W:=dX W ⟨b,0,none⟩ 58 (rwL r) _ (cC hb) underlying58 rfl (by kernel_rfl);unfold results;rw[hr];simp only[bU]at h4;simp[h4,asAddr,aT,a]
theorem aB4(L:List Rw)(l:Int)(n:Nat)(hn:n<L.length)(h:∀i (hi:i<n),L[i].lock≠l)(hl:L[n].lock=l):iY L l=L[n]:=by
 unfold iY;have:L.find? (fun r=>decide (r.lock=l))=some L[n]:=by
  rw[List.find?_eq_some_iff_getElem];refine⟨by simpa using hl,n,hn,rfl,fun j hj=>?_⟩;simpa using h j hj
 rw[this];rfl
theorem aFC(L:List Rw)(l:Int)(h:∀i (hi:i<L.length),L[i].lock≠l):iY L l={zRw with lock:=l}:=by
 unfold iY;have:L.find? (fun r=>decide (r.lock=l))=none:=by
  rw[List.find?_eq_none];intro r hr;obtain⟨i,hi,rfl⟩:=List.mem_iff_getElem.1 hr;simpa using h i hi
 rw[this];rfl
theorem zB(W:World)(p:Option Addr)(cap:Nat)(L:List Rw)(l:Int)(h:LsAt rwL 7 W p L)(hL:L.length≤1000000000000):
 Calls prog 24 #[.slice p L.length cap,.int .i64 l] W fun r W'=>r= .returned (rwV (iY L l))∧Chg NoS W W':=by
 have s:=aA W (.cells #[.int .i64 0,.int .i64 0,.int .i64 0,.int .i64 0,.int .i64 0,.int .i64 0,.int .i64 0] 58);have f:Chg NoS W (W.alloc (.cells #[.int .i64 0,.int .i64 0,.int .i64 0,.int .i64 0,.int .i64 0,.int .i64 0,.int .i64 0] 58)):=(Chg.refl _ _).alloc _;generalize y:W.alloc (.cells #[.int .i64 0,.int .i64 0,.int .i64 0,.int .i64 0,.int .i64 0,.int .i64 0,.int .i64 0] 58)=W1 at s f;have F:=h.chg0 f;have D:=bY y;have E:Hid (W1.heap[W.heap.size]?=some (.cells (rwL zRw).toArray 58 (0,0))):=s;have I:=bY F;have G:=bY f;clear h F s y f;go_enter func24,ntmps24;go_wp2_with (first|rw[D.out]);go_loopw [5] (fun k wr=>∃n:Nat,n≤L.length∧k= .int .i64 n∧W1=wr∧Hid (∀i (hi:i<L.length),i<n→L[i].lock≠l)) (fun k _=>L.length-(intOf k).toNat)
 case atStart=>exact⟨0,aI _,rfl,rfl,fun i hi h=>absurd h (Nat.not_lt_zero _)⟩
 case round=>
  obtain⟨n,N,rfl,rfl,A⟩:=hrel;by_cases x:n<L.length
  ·obtain⟨g,rfl,K,a⟩:=I.out n x;obtain⟨e,w⟩:=aHu (L[n]);rw[w]at a;have B:(n:Int)<(L.length:Int):=by omega
   have M:W1.cell? ⟨g,n*7,none⟩=some (.int .i64 e.lock):=a 0 _ rfl;have C:Hid (∀j u,(rwL e)[j]?=some u→W1.cell? ((⟨g,n*7,none⟩:Addr).add j)=some u):=fun j u hj=>by
    have J:(⟨g,n*7,none⟩:Addr).add j=⟨g,n*7+j,none⟩:=by unfold Addr.add;split<;>simp_all
    rw[J];exact a j u hj
   clear a;by_cases v:e.lock=l
   ·have bq:(e.lock==l)=true:=by simp[v]
    have z:=bY (aB4 L l n x (fun i hi=>A.out i (by omega) hi) (by rw[w];exact v));have d:=bY w;clear v w;go_wp2_with (first|(refine cD rfl 58 _ _ rfl W.heap.size 0 58 _ _ (rwL e) rfl rfl E.out (by kernel_rfl) (by simp[Value.oneCell']) (by simp) rfl ?_;intro H c m b;have t:=bY c;have o:=bY b;clear c m b;refine cB ?_)|(refine cG rfl 58 _ rfl ⟨g,n*7,none⟩ rfl (rwL e) _ C.out underlying58 rfl (by kernel_rfl) ?_));refine bY ?_;go_wp2_with fail;rw[z.out,d.out];exact bodyPost_ret (uM _ results24 _ W.heap.size e _ rfl o.out) rfl ⟨rfl,G.out.fresh t.out (aE _)⟩
   ·have bq:(e.lock==l)=false:=by simp[v]
    have d:=bY (aHi w v);clear v w;go_wp2_with fail;go_roundw
    case rel=>exact⟨n+1,by omega,by go_num,trivial,fun i hi hin=>by
     by_cases q:i=n
     ·subst q;rw[d.out.1];exact d.out.2
     ·exact A.out i hi (by omega)⟩
    case measure=>simp[intOf]<;>omega
  ·have B:¬(n:Int)<(L.length:Int):=by omega
   have z:=bY (aFC L l (fun i hi=>A.out i hi (by omega)));go_wp2_with (first|(refine cD rfl 58 _ _ rfl W.heap.size 0 58 _ _ (rwL {zRw with lock:=l}) rfl rfl E.out (by kernel_rfl) (by simp[Value.oneCell']) (by simp) rfl ?_;intro H c m b;have t:=bY c;have o:=bY b;clear c m b;refine cB ?_));refine bY ?_;go_wp2_with fail;rw[z.out];exact bodyPost_ret (uM _ results24 _ W.heap.size {zRw with lock:=l} _ rfl o.out) rfl ⟨rfl,G.out.fresh t.out (aE _)⟩
theorem aBi(t:List Ev)(a l:Int)(n:Nat)(e:Ev)(he:t.getD n zEv=e):gH t a l (n+1)=if e.kind≠1∨e.msg.src≠a∨e.msg.lock≠l then gH t a l n
 else if e.msg.kind=2 then(max (gH t a l n).1 e.msg.bal,max (gH t a l n).2 e.msg.base)
 else if e.msg.kind=5 then(max (gH t a l n).1 e.msg.base,(gH t a l n).2)
 else if e.msg.kind=4 then(max (gH t a l n).1 e.msg.bal,max (gH t a l n).2 e.msg.bal)else gH t a l n:=by
 subst he;rfl
theorem zO(W:World)(p:Option Addr)(cap:Nat)(t:List Ev)(a l:Int)(h:LsAt evL 19 W p t)(ht:t.length≤1000000000000):
 Calls prog 23 #[.slice p t.length cap,.int .i64 a,.int .i64 l] W fun r W'=>r= .returned (.tuple #[.int .i64 (gH t a l t.length).1,.int .i64 (gH t a l t.length).2])∧Chg NoS W W':=by
 have HL:=bY h;clear h;go_enter func23,ntmps23;go_wp2_with fail;go_loopw [8,9,10] (fun u v k wr=>∃n:Nat,n≤t.length∧u= .int .i64 (gH t a l n).1∧v= .int .i64 (gH t a l n).2∧k= .int .i64 n∧Hid (Chg NoS W wr)) (fun _ _ k _=>t.length-(intOf k).toNat)
 case atStart=>exact⟨0,aI _,rfl,rfl,rfl,Chg.refl _ _⟩
 case round=>
  obtain⟨n,hn,rfl,rfl,rfl,M⟩:=hrel;by_cases H:n<t.length
  ·obtain⟨g,rfl,N,c⟩:=(HL.out.chg0 M.out) n H;obtain⟨e,O⟩:=aHu (t[n]);rw[O]at c;have J:t.getD n zEv=e:=by rw[aQ,aP H,O];rfl
   have A:=bY (aBi t a l n e J);have R:(n:Int)<(t.length:Int):=by omega
   have c0:wr.cell? ⟨g,n*19,none⟩=some (.int .i64 e.kind):=c 0 _ rfl;have U:Hid (∀j u,(mgL e.msg)[j]?=some u→wr.cell? ((⟨g,n*19+2,none⟩:Addr).add j)=some u):=fun j u hj=>by
    have a1:j<10:=(aF.1 hj).1;have ea:(⟨g,n*19+2,none⟩:Addr).add j=⟨g,n*19+(2+j),none⟩:=by unfold Addr.add;split<;>simp_all<;>omega
    rw[ea];have:=zW e j u hj;exact c (2+j) u (by rw[←this];simp)
   have C:=aA wr (.cells #[.int .i64 0,.int .i64 0,.int .i64 0,.int .i64 0,.int .i64 0,.int .i64 0,.int .i64 0,.int .i64 0,.int .i64 0,.int .i64 0] 66);have w:Chg NoS wr (wr.alloc (.cells #[.int .i64 0,.int .i64 0,.int .i64 0,.int .i64 0,.int .i64 0,.int .i64 0,.int .i64 0,.int .i64 0,.int .i64 0,.int .i64 0] 66)):=(Chg.refl _ _).alloc _;have B:(wr.alloc (.cells #[.int .i64 0,.int .i64 0,.int .i64 0,.int .i64 0,.int .i64 0,.int .i64 0,.int .i64 0,.int .i64 0,.int .i64 0,.int .i64 0] 66)).cell? ⟨g,n*19,none⟩=some (.int .i64 e.kind):=(aW (w.block g N (fun z=>z))).trans c0;generalize I:wr.alloc (.cells #[.int .i64 0,.int .i64 0,.int .i64 0,.int .i64 0,.int .i64 0,.int .i64 0,.int .i64 0,.int .i64 0,.int .i64 0,.int .i64 0] 66)=W2 at C w B;have S:=bY I;have Z:Hid (W2.heap[wr.heap.size]?=some (.cells (mgL zMg).toArray 66 (0,0))):=C;have F:=bY (aHj w B N);generalize Y:e.msg=m at*;generalize V:e.kind=ek at*;clear c O J C w B I N Y V;go_wp2_with (first|rw[S.out]|(refine cD rfl 66 _ _ rfl wr.heap.size 0 66 _ _ (mgL m) rfl rfl Z.out (by kernel_rfl) (by simp[Value.oneCell']) (by simp) rfl ?_;intro D L P G;have K:=bY L;have i:=bY G;clear L P G;refine cB ?_)|(refine cG rfl 66 _ rfl ⟨g,n*19+2,none⟩ rfl (mgL m) _ U.out underlying66 rfl (by kernel_rfl) ?_));have y:=bY ((M.out.trans F.out.1 (fun _ _ z=>z)).fresh K.out M.out.size);have c0:D.cell? ⟨g,n*19,none⟩=some (.int .i64 ek):=(aW (K.out.block g (by have:=F.out.1.size;have:=F.out.2.2;omega) (by have:=F.out.2.2;omega))).trans F.out.2.1
   have m0:D.cell? ⟨wr.heap.size,0,none⟩=some (.int .i64 m.kind):=bZ i.out 0 _ rfl;have m1:D.cell? ⟨wr.heap.size,1,none⟩=some (.int .i64 m.src):=bZ i.out 1 _ rfl;have m3:D.cell? ⟨wr.heap.size,3,none⟩=some (.int .i64 m.lock):=bZ i.out 3 _ rfl;have m4:D.cell? ⟨wr.heap.size,4,none⟩=some (.int .i64 m.bal):=bZ i.out 4 _ rfl;have m5:D.cell? ⟨wr.heap.size,5,none⟩=some (.int .i64 m.base):=bZ i.out 5 _ rfl;generalize gH t a l n=pr at*;obtain⟨pp,pa⟩:=pr;dsimp only;by_cases f:ek=1
   ·have b1:(ek !=1)=false:=by simp[f]
    by_cases q:m.src=a
    ·have b2:(m.src !=a)=false:=by simp[q]
     by_cases s:m.lock=l
     ·have b3:(m.lock !=l)=false:=by simp[s]
      have d:¬(ek≠1∨m.src≠a∨m.lock≠l):=fun z=>z.elim (fun z=>z f) (fun z=>z.elim (fun z=>z q) (fun z=>z s));by_cases o:m.kind=2
      ·have X:(m.kind==2)=true:=by simp[o]
       have b:=bY (A.out.trans ((if_neg d).trans (if_pos o)));clear f q s o d;refine bY ?_;go_wp2_with fail;go_roundw
       case rel=>exact⟨n+1,by omega,by rw[b.out],by rw[b.out],by go_num,y⟩
       case measure=>simp[intOf]<;>omega
      ·have X:(m.kind==2)=false:=by simp[o]
       by_cases x:m.kind=5
       ·have T:(m.kind==5)=true:=by simp[x]
        have b:=bY (A.out.trans ((if_neg d).trans ((if_neg o).trans (if_pos x))));clear f q s o x d;refine bY ?_;go_wp2_with fail;go_roundw
        case rel=>exact⟨n+1,by omega,by rw[b.out],by rw[b.out],by go_num,y⟩
        case measure=>simp[intOf]<;>omega
       ·have T:(m.kind==5)=false:=by simp[x]
        by_cases E:m.kind=4
        ·have Q:(m.kind==4)=true:=by simp[E]
         have b:=bY (A.out.trans ((if_neg d).trans ((if_neg o).trans ((if_neg x).trans (if_pos E)))));clear f q s o E x d;refine bY ?_;go_wp2_with fail;go_roundw
         case rel=>exact⟨n+1,by omega,by rw[b.out],by rw[b.out],by go_num,y⟩
         case measure=>simp[intOf]<;>omega
        ·have Q:(m.kind==4)=false:=by simp[E]
         have b:=bY (A.out.trans ((if_neg d).trans ((if_neg o).trans ((if_neg x).trans (if_neg E)))));clear f q s o E x d;refine bY ?_;go_wp2_with fail;go_roundw
         case rel=>exact⟨n+1,by omega,by rw[b.out],by rw[b.out],by go_num,y⟩
         case measure=>simp[intOf]<;>omega
     ·have b3:(m.lock !=l)=true:=by simp[s]
      have b:=bY (A.out.trans (if_pos (Or.inr (Or.inr s))));clear f q s;refine bY ?_;go_wp2_with fail;go_roundw
      case rel=>exact⟨n+1,by omega,by rw[b.out],by rw[b.out],by go_num,y⟩
      case measure=>simp[intOf]<;>omega
    ·have b2:(m.src !=a)=true:=by simp[q]
     have b:=bY (A.out.trans (if_pos (Or.inr (Or.inl q))));clear f q;refine bY ?_;go_wp2_with fail;go_roundw
     case rel=>exact⟨n+1,by omega,by rw[b.out],by rw[b.out],by go_num,y⟩
     case measure=>simp[intOf]<;>omega
   ·have b1:(ek !=1)=true:=by simp[f]
    have b:=bY (A.out.trans (if_pos (Or.inl f)));clear f;refine bY ?_;go_wp2_with fail;go_roundw
    case rel=>exact⟨n+1,by omega,by rw[b.out],by rw[b.out],by go_num,y⟩
    case measure=>simp[intOf]<;>omega
  ·have a0:n=t.length:=by omega
   subst a0;have R:¬(t.length:Int)<(t.length:Int):=by omega
   go_wp2_with fail
   go_ret2
   exact⟨rfl,M.out⟩
end Go.Proofs.YtbbdgokdfhdpiaaGreatDoor
