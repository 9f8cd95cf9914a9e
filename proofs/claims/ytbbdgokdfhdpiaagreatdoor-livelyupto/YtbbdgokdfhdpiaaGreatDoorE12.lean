/- A part of the proof: PIn, POwn, PFol, PProp, PClone. -/
import Derived.Lib.SliceRun
import Derived.Maps.Own
import Derived.Maps.OwnOps
import Derived.Maps.RangeWalk
import Derived.Shelf.SlIterI.Nil
import Derived.Shelf.SlMaps.Clone
import Derived.Shelf.SortM.Plain
import Derived.Shelf.SortM.SortNone
import Derived.Test.YtbbdgokdfhdpiaaGreatDoorE10
namespace Go.Proofs.YtbbdgokdfhdpiaaGreatDoor
set_option linter.all false
set_option maxRecDepth 100000
set_option maxHeartbeats 40000000
open Go.Proofs.Tryz Go.RowKit
abbrev pL(l:List Int):List Value:=l.map fun x=>.int .i64 x
theorem aAZ{W:World}{v:Value}{l:List Int}(h:W.ownsRow 0 3 1 v l.length (pL l)):∃(p:Option Addr) (cap:Nat),v= .slice p l.length cap∧(l.length:Int)≤cap∧∀(m:Nat) (hm:m<l.length),∃g,p=some ⟨g,0,none⟩∧W.cell? ⟨g,m,none⟩=some (.int .i64 l[m]):=by
 rcases h.2 with⟨rfl,e⟩|⟨g,cap,a,rfl,_,f,d,_,i,b⟩
 ·refine⟨none,0,by rw[e],by omega,fun m hm=>by omega⟩
 ·refine⟨some ⟨g,0,none⟩,cap,rfl,by omega,fun m hm=>⟨g,rfl,?_⟩⟩;rw[cell_of_row W g m _ _ _ f];have c:(a.toList.take (l.length*1))[m]?=some (.int .i64 l[m]):=by rw[b];simp[hm]
  rw[List.getElem?_take_of_lt (by omega)]at c;simpa using c
theorem aDL(l:List Int)(k:Nat)(hk:k<l.length)(x:Int):(l.take (k+1)).contains x=((l.take k).contains x||x==l[k]):=by
 have e:l.take (k+1)=l.take k++[l[k]]:=by rw[List.take_add_one,aP hk];rfl
 rw[e,Bool.eq_iff_iff];simp only[List.contains_iff_mem,aO,List.mem_singleton,Bool.or_eq_true,beq_iff_eq]
theorem aF8(l:List Int)(k:Nat)(hk:k<l.length)(f:Int→Bool):(l.take (k+1)).any f=((l.take k).any f||f l[k]):=by
 have e:l.take (k+1)=l.take k++[l[k]]:=by rw[List.take_add_one,aP hk];rfl
 rw[e,List.any_append];simp
section
variable (W:World) (v:Value) (l:List Int)
theorem aEq(x:Int)(h:W.ownsRow 0 3 1 v l.length (pL l))(hl:l.length≤1000000000000):
 Calls prog 245 #[v,.int .i64 x] W fun r W'=>(∃i:Int,r= .returned (.int .i64 i)∧decide (0≤i)=l.contains x)∧W'=W:=by
 obtain⟨p,u,rfl,e,f⟩:=aAZ h;clear h;obtain⟨N,m⟩:=aIe (l.length);rw[←m]at hl e⊢;have d:=cA m;clear m;go_enter func245,ntmps245;go_wp2_with fail;go_loopw [8] (fun i wr=>∃(k:Nat),k≤N∧i= .int .i64 k∧(l.take k).contains x=false∧wr=W) (fun i _=>N-(intOf i).toNat)
 case atStart=>exact⟨0,by omega,rfl,by simp,rfl⟩
 case round=>
  obtain⟨k,w,rfl,a,rfl⟩:=hrel;by_cases t:k<N
  ·have c:k<l.length:=by have:=d.out;omega
   obtain⟨g,rfl,y⟩:=f k c;by_cases b:x=l[k]
   ·have s:(x==l[k])=true:=by simp[b]
    have n:=cA b;clear b f;go_wp2_with fail;go_ret;refine⟨⟨k,rfl,?_⟩,rfl⟩;have:l.contains x=true:=by rw[n.out];simp
    rw[this];simp
   ·have s:(x==l[k])=false:=by simp[b]
    have n:Hid (¬x=l[k]):=b;have j:=cA a;clear b f a;go_wp2_with fail;go_roundw
    case measure=>simp[intOf];omega
    case rel=>
     refine⟨k+1,by omega,by go_num,?_,by first|rfl|trivial⟩;rw[aDL l k c,j.out];simpa using n.out
  ·have o:k=N:=by omega
   subst o;have j:=cA a;clear a f;go_wp2_with fail;go_ret;refine⟨⟨-1,rfl,?_⟩,rfl⟩;have q:=j.out;rw[aY (by have:=d.out;omega)]at q;rw[q];rfl
theorem aAW(x:Int)(h:W.ownsRow 0 3 1 v l.length (pL l))(hl:l.length≤1000000000000):
 Calls prog 242 #[v,.int .i64 x] W fun r W'=>r= .returned (.bool (l.contains x))∧W'=W:=by
 have a:Hid (Calls prog 245 #[v,.int .i64 x] W fun r W'=>(∃i:Int,r= .returned (.int .i64 i)∧decide (0≤i)=l.contains x)∧W'=W):=aEq W v l x h hl;clear h;generalize l.contains x=q at a⊢;go_enter func242,ntmps242;go_wp2_with (go_at_call 245;refine a.out.mono ?_;rintro r c ⟨⟨i,rfl,b⟩,rfl⟩);go_ret;exact⟨by rw[←b];rfl,rfl⟩
theorem zD(b:Nat)(f:Int→Bool)(hf:∀y,Calls prog 244 #[.int .i64 y,.pointer (some ⟨b,0,none⟩)] W fun r W'=>r= .returned (.bool (f y))∧W'=W)(h:W.ownsRow 0 3 1 v l.length (pL l))(hl:l.length≤1000000000000):
 Calls prog 246 #[v,.func (.func 244) #[] #[.pointer (some ⟨b,0,none⟩)]] W fun r W'=>(∃i:Int,r= .returned (.int .i64 i)∧decide (0≤i)=l.any f)∧W'=W:=by
 obtain⟨p,B,rfl,m,n⟩:=aAZ h;clear h;obtain⟨N,s⟩:=aIe (l.length);rw[←s]at hl m⊢;have j:=cA s;clear s;have w:=cA hf;clear hf;go_enter func246,ntmps246;go_wp2_with fail;go_loopw [8] (fun i wr=>∃(k:Nat),k≤N∧i= .int .i64 k∧(l.take k).any f=false∧wr=W) (fun i _=>N-(intOf i).toNat)
 case atStart=>exact⟨0,by omega,rfl,by simp,rfl⟩
 case round=>
  obtain⟨k,C,rfl,a,rfl⟩:=hrel;by_cases A:k<N
  ·have c:k<l.length:=by have:=j.out;omega
   obtain⟨g,rfl,D⟩:=n k c;cases hx:f l[k]
   ·have q:Hid (Calls prog 244 #[.int .i64 l[k],.pointer (some ⟨b,0,none⟩)] wr fun r W'=>r= .returned (.bool false)∧W'=wr):=hx▸w.out l[k];have t:=cA hx;have o:=cA a;clear hx n a;go_wp2_with (first|refine q.out.mono ?_;rintro r z ⟨rfl,e⟩;have d:=e.symm;subst d;clear e);go_roundw
    case measure=>simp[intOf];omega
    case rel=>
     refine⟨k+1,by omega,by go_num,?_,by first|rfl|trivial⟩;rw[aF8 l k c,o.out,t.out]
     rfl
   ·have q:Hid (Calls prog 244 #[.int .i64 l[k],.pointer (some ⟨b,0,none⟩)] wr fun r W'=>r= .returned (.bool true)∧W'=wr):=hx▸w.out l[k];have t:=cA hx;clear hx n a;go_wp2_with (first|refine q.out.mono ?_;rintro r z ⟨rfl,e⟩;have d:=e.symm;subst d;clear e);go_ret;refine⟨⟨k,rfl,?_⟩,rfl⟩;have:l.any f=true:=by rw[List.any_eq_true];exact⟨l[k],bD c,t.out⟩
    rw[this];simp
  ·have u:k=N:=by omega
   subst u;have o:=cA a;clear a n;go_wp2_with fail;go_ret;refine⟨⟨-1,rfl,?_⟩,rfl⟩;have x:=o.out;rw[aY (by have:=j.out;omega)]at x;rw[x];rfl
theorem uI(b:Nat)(f:Int→Bool)(hf:∀y,Calls prog 244 #[.int .i64 y,.pointer (some ⟨b,0,none⟩)] W fun r W'=>r= .returned (.bool (f y))∧W'=W)(h:W.ownsRow 0 3 1 v l.length (pL l))(hl:l.length≤1000000000000):
 Calls prog 243 #[v,.func (.func 244) #[] #[.pointer (some ⟨b,0,none⟩)]] W fun r W'=>r= .returned (.bool (l.any f))∧W'=W:=by
 have a:Hid (Calls prog 246 #[v,.func (.func 244) #[] #[.pointer (some ⟨b,0,none⟩)]] W fun r W'=>(∃i:Int,r= .returned (.int .i64 i)∧decide (0≤i)=l.any f)∧W'=W):=zD W v l b f hf h hl;clear h hf;generalize l.any f=q at a⊢;go_enter func243,ntmps243;go_wp2_with (go_at_call 246;refine a.out.mono ?_;rintro r d ⟨⟨i,rfl,c⟩,rfl⟩);go_ret;exact⟨by rw[←c];rfl,rfl⟩
end
theorem xQ(W:World)(F:Nat→Prop)(ob:Nat)(an mv:Value)(o:On)(x:Int)(h:OnAt W F ob an mv o)(hl:o.mine.length≤1000000000000):
 Calls prog 236 #[.pointer (some ⟨ob,0,none⟩),.int .i64 x] W fun r W'=>r= .returned (.bool (oG o x))∧W'=W:=by
 have a:Hid (Calls prog 242 #[mv,.int .i64 x] W fun r W'=>r= .returned (.bool (oG o x))∧W'=W):=aAW W mv o.mine x h.2.2.2.1 hl;have b:=cB h.1 17 _ rfl;clear h;go_enter func236,ntmps236;go_wp2_with (go_at_call 242;refine a.out.mono ?_;rintro r c ⟨rfl,rfl⟩);go_ret;exact⟨rfl,rfl⟩
theorem aDT(W:World)(b:Nat)(t y:Int)(h:W.cell? ⟨b,0,none⟩=some (.int .i64 t)):
 Calls prog 244 #[.int .i64 y,.pointer (some ⟨b,0,none⟩)] W fun r W'=>r= .returned (.bool (decide (y<t)))∧W'=W:=by
 go_enter func244,ntmps244;go_wp2_with fail;go_ret;exact⟨rfl,rfl⟩
theorem vM(W:World)(F:Nat→Prop)(ob:Nat)(an mv:Value)(o:On)(x:Int)(h:OnAt W F ob an mv o)(hl:o.mine.length≤1000000000000):
 Calls prog 237 #[.pointer (some ⟨ob,0,none⟩),.int .i64 x] W fun r W'=>r= .returned (.bool (nV o x))∧Chg NoS W W':=by
 have a:=aA W (.cells #[.int .i64 x] 3);have b:Hid (Calls prog 243 #[mv,.func (.func 244) #[] #[.pointer (some ⟨W.heap.size,0,none⟩)]] (W.alloc (.cells #[.int .i64 x] 3)) fun r W'=>r= .returned (.bool (nV o x))∧W'=W.alloc (.cells #[.int .i64 x] 3)):=
  uI _ mv o.mine W.heap.size (fun y=>decide (y<x)) (fun y=>aDT _ _ x y (cB a 0 _ rfl)) (h.2.2.2.1.alloc _) hl
 have c:=cB (cR (.cells #[.int .i64 x] 3) h.1) 17 _ rfl;clear h;go_enter func237,ntmps237;go_wp2_with (go_at_call 243;refine b.out.mono ?_;rintro r d ⟨rfl,rfl⟩);go_ret;exact⟨rfl,(Chg.refl _ _).alloc _⟩
theorem tC{p q:Prop}(h:p)(k:p→q):q:=k h
theorem bq{a b:Int}{t:Bool}(h:(a==b)=t):(a=b)=(t=true):=by subst h;simp
theorem bn{a b:Int}{t:Bool}(h:(a !=b)=t):(a=b)=(t=false):=by subst h;simp
theorem bd{p:Prop} [Decidable p] {t:Bool}(h:decide p=t):p=(t=true):=by subst h;simp
structure Kt(W:World)(F:Nat→Prop)(b g:Nat)(f:Cf)(c:Ct)(o:On)(ch tk hd wt ob:Nat)(an mv:Value):Prop where
 cl:ClAt W F b g f c ch tk hd wt (.pointer (some ⟨ob,0,none⟩))
 doing:c.doing=some o
 on:OnAt W F ob an mv o
 ne:an≠.map (some tk)∧an≠.map (some hd)∧an≠.map (some wt)
theorem Kt.kept{W W':World}{F:Nat→Prop}{b g:Nat}{f:Cf}{c:Ct}{o:On}{ch tk hd wt ob:Nat}{an mv:Value}(h:Kt W F b g f c o ch tk hd wt ob an mv)(hc:Chg NoS W W'):Kt W' F b g f c o ch tk hd wt ob an mv:=
 ⟨h.cl.kept hc (fun _ _ h=>h),h.doing,h.on.of_heap (fun k hk=>hc.block k (h.cl.lt k hk) (fun h=>h)),h.ne⟩
theorem ClAt.kt{W:World}{F:Nat→Prop}{b g:Nat}{f:Cf}{c:Ct}{ch tk hd wt:Nat}{dv:Value}(h:ClAt W F b g f c ch tk hd wt dv){o:On}(hd':c.doing=some o):∃ob an mv,dv= .pointer (some ⟨ob,0,none⟩)∧Kt W F b g f c o ch tk hd wt ob an mv:=by
 have a:=h.doing;rw[hd']at a;obtain⟨ob,an,mv,rfl,d,e⟩:=a;exact⟨ob,an,mv,rfl,h,hd',d,e⟩
theorem aBh(W:World)(F:Nat→Prop)(b g:Nat)(f:Cf)(c:Ct)(o:On)(ch tk hd wt ob:Nat)(an mv:Value)(v:Vl)(h:Kt W F b g f c o ch tk hd wt ob an mv)(hn1:0≤c.num)(hn2:c.num≤1000):
 Calls prog 239 #[.pointer (some ⟨b,0,none⟩),vlV v] W fun r W'=>r= .returned (.bool (lQ c o v))∧Chg NoS W W':=by
 generalize j:W.alloc (.cells #[.int .i64 v.own,.int .i64 v.tok,.int .i64 v.ttl,.int .i64 v.seq] 56)=W0;have l:=cA j;have a:Chg NoS W W0:=by rw[←j];exact(Chg.refl _ _).alloc _
 have k:W0.heap[W.heap.size]?=some (.cells (vlL v).toArray 56 (0,0)):=by rw[←j];exact aA W _
 have d:=h.kept a;have e:=cA a;have p:=d.cl.cell 13 _ rfl;have q:=d.cl.cell 16 _ rfl;have n:=d.cl.cell 7 _ rfl;have u:=cB d.on.1 1 _ rfl;have t:=cB k 0 _ rfl;have s:=cB k 1 _ rfl;have m:=MapI.get (W:=W0.drew) d.cl.maps.toks o.lock;have i:Hid (∀x,x=W0.drew.drew→Calls prog 217 #[.pointer (some ⟨b,0,none⟩)] x fun r W'=>r= .returned (.int .i64 (c.num+1))∧W'=x):=fun x hx=>by
  subst hx;exact nY W0.drew.drew b c.num n hn1 hn2
 clear h d a j k;unfold lQ;go_enter func239,ntmps239;go_wp2_with (rw[l.out]);refine dZ [0,0,0,1,0,0,0,1,0,0,0,1,1,0] (by kernel_rfl) (fun _ _ _ _=>rfl) ?_;simp only[cM,cL];iterate 14 (apply sB rfl rfl;·(intro x h;(try cases h rfl);go_simp;with_reducible rfl))
 refine cC ?_;try simp only[pA]
 go_wp2_with fail;cases h1:v.own==c.num+1<;>cases h3:v.tok==c.toks o.lock<;>cases h2:c.toks o.lock !=0;all_goals
  refine dZ [0,1,0,1,0,0,0,0,0,0,0,1,0,0,0,0] (by kernel_rfl) (fun _ _ _ _=>rfl) ?_;simp only[cM,cL];iterate 3 (apply sB rfl rfl;·(intro x h;(try cases h rfl);go_simp;with_reducible rfl))
  try simp only[pA]
  refine dB (v:=.int .i64 (c.num+1)) (f:=217) (args:=#[.pointer (some ⟨b,0,none⟩)]) rfl (fun x hx=>by subst hx;go_simp;try rfl) (fun x hx=>i.out x hx) ?_;(try simp only[pA]);iterate 12 ((try simp only[pA]);first|(apply sB rfl rfl;·(intro x h;(try cases h rfl);go_simp;with_reducible rfl))|apply dU rfl|apply dO rfl)
  refine cC ?_;try simp only[pA]
  go_wp2_with fail;go_ret;exact⟨by clear l e i;simp_all,e.out.drew.drew⟩
theorem aHF(x:Int)(h:0≤x):x.tdiv 10=x / 10:=Int.tdiv_eq_ediv_of_nonneg h
theorem vL(W:World)(F:Nat→Prop)(b g:Nat)(f:Cf)(c:Ct)(o:On)(ch tk hd wt ob:Nat)(an mv:Value)(v:Vl)(h:Kt W F b g f c o ch tk hd wt ob an mv)(hd1:0≤f.drift)(hd2:f.drift≤10)(ht1:0≤v.ttl)(ht2:v.ttl≤1000)(hw1:0≤(c.wat o.lock).since)(hw2:(c.wat o.lock).since≤100000000000):
 Calls prog 238 #[.pointer (some ⟨b,0,none⟩),vlV v] W fun r W'=>r= .returned (.bool (aBM f c o v))∧Chg NoS W W':=by
 generalize E:W.alloc (.cells #[.int .i64 v.own,.int .i64 v.tok,.int .i64 v.ttl,.int .i64 v.seq] 56)=W0;have HX:=cA E;have w:Chg NoS W W0:=by rw[←E];exact(Chg.refl _ _).alloc _
 have J:W0.heap.size=W.heap.size+1:=by rw[←E];simp
 have bv:W0.heap[W.heap.size]?=some (.cells (vlL v).toArray 56 (0,0)):=by rw[←E];exact aA W _
 have Y:=h.kept w;have U:=cA w;have D:=cA Y;have BV:=cA bv;have R:=cA J;clear h Y w E bv J;unfold aBM;go_enter func238,ntmps238;go_wp2_with (rw[HX.out]);refine rlx [0,0,0,1,0,0,0,1,0,0,0,1,1,2] (fun x=>x.cell? ⟨b,15,none⟩=some (.map (some wt))∧x.cell? ⟨b,16,none⟩=some (.pointer (some ⟨ob,0,none⟩))∧x.cell? ⟨ob,1,none⟩=some (.int .i64 o.lock)∧(Instr.lookup 147 (.map (some wt)) (iK o.lock) false).run prog x= .ok (wtV (c.wat o.lock)) x) (by kernel_rfl) (fun _ _ _ _=>rfl) ?_ ?_
 ·exact⟨D.out.cl.cell 15 _ rfl,D.out.cl.cell 16 _ rfl,cB D.out.on.1 1 _ rfl,MapW.get (W:=W0.drew) D.out.cl.maps.wat o.lock⟩
 simp only[cM,cL];iterate 13 (apply sB rfl rfl;·(intro x h;(try have h:=h rfl);(try dsimp only at h);go_simp;with_reducible rfl))
 try simp only[pA]
 refine dC rfl (fun C hC=>?_);go_simp;have bT:(W0.alloc (.cells #[.int .i64 0,.int .i64 0,.int .i64 0,.int .i64 0] 292)).drew.heap[W0.heap.size]?=some (.cells #[.int .i64 0,.int .i64 0,.int .i64 0,.int .i64 0] 292 (0,0)):=aA W0 _;have a:Chg NoS W0 (W0.alloc (.cells #[.int .i64 0,.int .i64 0,.int .i64 0,.int .i64 0] 292)).drew:=((Chg.refl _ _).alloc _).drew;have m:=D.out.kept a;refine hC _ _ ⟨m.cl.cell 15 _ rfl,m.cl.cell 16 _ rfl,cB m.on.1 1 _ rfl,MapW.get m.cl.maps.wat o.lock⟩ ?_;clear hC;have H:=a.kept BV.out (fun h=>h);generalize (W0.alloc (.cells #[.int .i64 0,.int .i64 0,.int .i64 0,.int .i64 0] 292)).drew=W1 at*;refine cC ?_;refine cG rfl 292 _ _ rfl W0.heap.size 0 292 _ _ [.int .i64 (c.wat o.lock).own,.int .i64 (c.wat o.lock).tok,.int .i64 (c.wat o.lock).seq,.int .i64 (c.wat o.lock).since] rfl rfl bT (by kernel_rfl) (by simp[Value.oneCell']) (by simp) rfl ?_;intro t d M s;have G:W.heap.size≠W0.heap.size:=by rw[R.out];omega
 have p:=d.kept H G;have n:Chg NoS W0 t:=⟨d.os.trans a.os,d.tape.trans a.tape,d.output.trans a.output,by rw[M];exact a.size,fun k hk _=>(d.block k (aG hk a.size) (fun e=>by omega)).trans (a.block k hk (fun h=>h))⟩;have l:=D.out.kept n;have c4:=l.cl.cell 4 _ rfl;have K:=l.cl.cell 16 _ rfl;have X:=cB l.on.1 6 _ rfl;have v2:=cB p 2 _ rfl;have V:=cB s 3 _ rfl;have S:=cA (U.out.trans n (fun _ _ h=>h));have P:=cA (cE (W:=t.drew.drew) p);have I:=cA (cE (W:=t.drew.drew) s);have B:Hid (Kt t F b g f c o ch tk hd wt ob an mv∧t.heap[W.heap.size]?=some (.cells (vlL v).toArray 56 (0,0))):=⟨l,p⟩;have L:=cA s;have m1:v.ttl*(10+f.drift)≤1000*20:=Int.mul_le_mul ht2 (by omega) (by omega) (by omega);have m2:0≤v.ttl*(10+f.drift):=Int.mul_nonneg ht1 (by omega);have w1:IntKind.i64.wrap (10+f.drift)=10+f.drift:=eI (by omega) (by omega);have w2:IntKind.i64.wrap (v.ttl*(10+f.drift))=v.ttl*(10+f.drift):=eI (by omega) (by omega);clear a m bT H d M s G p n l;go_wp2_with fail;refine dZ [0,1,0,0,0,0,1,0,0,0] (by kernel_rfl) (fun _ _ _ _=>rfl) ?_;simp only[cM,cL];iterate 10 (apply sB rfl rfl;·(intro x h;(try cases h rfl);go_simp;with_reducible rfl))
 refine cC ?_;try simp only[pA]
 go_wp2_with fail;generalize hT:v.ttl*(10+f.drift)=T at*;have w3:IntKind.i64.wrap (T+9)=T+9:=eI (by omega) (by omega);have hq:(T+9).tdiv 10=(T+9) / 10:=aHF _ (by omega);have w4:IntKind.i64.wrap ((T+9) / 10)=(T+9) / 10:=eI (by omega) (by omega);have w5:IntKind.i64.wrap ((c.wat o.lock).since+(T+9) / 10)=(c.wat o.lock).since+(T+9) / 10:=eI (by omega) (by omega);have w6:IntKind.i64.wrap ((c.wat o.lock).since+(T+9) / 10+2)=(c.wat o.lock).since+(T+9) / 10+2:=eI (by omega) (by omega);have N:∀q,zK (c.wat o.lock) v=q→Hid (Calls prog 218 #[wtV (c.wat o.lock),vlV v] t.drew.drew fun r W'=>r= .returned (.bool q)∧Chg NoS t.drew.drew W'):=fun q e=>e▸aFu t.drew.drew (c.wat o.lock) v;cases hw:zK (c.wat o.lock) v;all_goals
  have u:=N _ hw;have Z:=cA (aH3 hw hT);clear N hw hT hd1 hd2 ht1 ht2 m1 m2 w1 w2;refine rlx [1,1,2,0,0,0,0,1,0,0,0,1,0,1,0,0,0,0,0,0,0,0] (fun x=>x.cell? ⟨b,16,none⟩=some (.pointer (some ⟨ob,0,none⟩))∧x.cell? ⟨ob,6,none⟩=some (.int .i64 o.att.began)∧x.cell? ⟨W0.heap.size,3,none⟩=some (.int .i64 (c.wat o.lock).since)∧(∀j y,(vlL v)[j]?=some y→x.cell? ((⟨W.heap.size,0,none⟩:Addr).add j)=some y)∧(∀j y,([.int .i64 (c.wat o.lock).own,.int .i64 (c.wat o.lock).tok,.int .i64 (c.wat o.lock).seq,.int .i64 (c.wat o.lock).since]:List Value)[j]?=some y→x.cell? ((⟨W0.heap.size,0,none⟩:Addr).add j)=some y)) (by kernel_rfl) (fun _ _ _ _=>rfl) ?_ ?_
  ·exact⟨K,X,V,P.out,I.out⟩
  simp only[cM,cL];refine cK (v:=wtV (c.wat o.lock)) rfl (fun x hx=>cF 292 _ rfl ⟨W0.heap.size,0,none⟩ rfl _ _ hx.2.2.2.2 underlying292 rfl (by kernel_rfl)) ?_;refine cK (v:=vlV v) rfl (fun x hx=>cF 56 _ rfl ⟨W.heap.size,0,none⟩ rfl (vlL v) _ hx.2.2.2.1 underlying56 rfl (by kernel_rfl)) ?_;(try simp only[pA]);refine dC rfl (fun C hC=>?_);go_simp;refine u.out.mono ?_;rintro r W3 ⟨rfl,k3⟩;have i:=k3.of_drew.of_drew;have z:=B.out.1.kept i;have O:=i.kept B.out.2 (fun h=>h);have A:=i.kept L.out (fun h=>h);refine hC _ _ ⟨z.cl.cell 16 _ rfl,cB z.on.1 6 _ rfl,cB A 3 _ rfl,cE O,cE A⟩ ?_;have Q:=cA (S.out.trans i (fun _ _ h=>h));clear hC C u k3 i z O A P I B L c4 K X v2 V;iterate 19 ((try simp only[pA]);first|(apply sB rfl rfl;·(intro x h;(try have h:=h rfl);(try dsimp only at h);go_simp;with_reducible rfl))|apply dU rfl|apply dO rfl)
  refine cC ?_;try simp only[pA]
  go_wp2_with fail;go_ret;exact⟨by rw[Z.out.1,Z.out.2];simp,Q.out⟩
abbrev oJ(r o t:Int):List Value:=[.int .i64 r,.int .i64 o,.int .i64 t]
theorem pC(fn:Func)(hr:fn.results=#[.cell 4 56,.cell 5 191])(tmps:Array Value)(x y:Nat)(v:Vl)(r o t:Int)(W:World)
 (h4:tmps.getD 4 undef= .pointer (some ⟨x,0,none⟩)) (h5:tmps.getD 5 undef= .pointer (some ⟨y,0,none⟩)) (bx:W.heap[x]?=some (.cells (vlL v).toArray 56 (0,0))) (by_:W.heap[y]?=some (.cells (oJ r o t).toArray 191 (0,0))):
 (results fn tmps).run prog W= .ok (.tuple #[vlV v,rM r o t]) W:=by
 have b:=fD (P:=prog) W ⟨x,0,none⟩ 56 (vlL v) _ (cE bx) underlying56 rfl (by kernel_rfl);have a:=fD (P:=prog) W ⟨y,0,none⟩ 191 (oJ r o t) _ (cE by_) underlying191 rfl (by kernel_rfl);unfold results;rw[hr];simp only[bX]at h4 h5;simp[h4,h5,asAddr,aT,b,a]
theorem aCz(W:World)(F:Nat→Prop)(ob:Nat)(an mv:Value)(o:On)(v:Vl)(h:OnAt W F ob an mv o):
 Calls prog 202 #[.pointer (some ⟨ob,0,none⟩),vlV v,.int .i64 o.att.bal] W fun r W'=>r= .returned (.bool (oC o v))∧Chg NoS W W':=by
 have f:=cB (cR (.cells #[.int .i64 v.own,.int .i64 v.tok,.int .i64 v.ttl,.int .i64 v.seq] 56) h.1) 0 _ rfl;have a:=aA W (.cells #[.int .i64 v.own,.int .i64 v.tok,.int .i64 v.ttl,.int .i64 v.seq] 56);have i:=cB a 1 _ rfl;have g:=cB a 3 _ rfl;clear h a;unfold oC;go_enter func202,ntmps202;by_cases d:o.kind=1
 ·have b:(o.kind==1)=true:=by simp[d]
  go_wp2_with fail;go_ret;exact⟨by simp_all,(Chg.refl _ _).alloc _⟩
 ·have b:(o.kind==1)=false:=by simp[d]
  by_cases e:o.kind=3
  ·have c:(o.kind==3)=true:=by simp[e]
   go_wp2_with fail;go_ret;exact⟨by simp_all,(Chg.refl _ _).alloc _⟩
  ·have c:(o.kind==3)=false:=by simp[e]
   go_wp2_with fail;go_ret;exact⟨by simp_all,(Chg.refl _ _).alloc _⟩
structure aH0(W W0:World)(v:Vl):Prop where
 chg:Chg NoS W W0
 size:W0.heap.size=W.heap.size+3
 bv:W0.heap[W.heap.size]?=some (.cells (vlL v).toArray 56 (0,0))
 bn:W0.heap[W.heap.size+1]?=some (.cells (vlL zVl).toArray 56 (0,0))
 be:W0.heap[W.heap.size+2]?=some (.cells (oJ 0 0 0).toArray 191 (0,0))
abbrev aDY(W:World)(v:Vl):World:=((W.alloc (.cells #[.int .i64 v.own,.int .i64 v.tok,.int .i64 v.ttl,.int .i64 v.seq] 56)).alloc (.cells #[.int .i64 0,.int .i64 0,.int .i64 0,.int .i64 0] 56)).alloc (.cells #[.int .i64 0,.int .i64 0,.int .i64 0] 191)
theorem aGq(W:World)(v:Vl):aH0 W (aDY W v) v:=by
 refine⟨(Chg.alloc2 _ _ _).alloc _,by simp,cR _ (cR _ (aA W _)),cR _ ?_,?_⟩
 ·have h:=aA (W.alloc (.cells #[.int .i64 v.own,.int .i64 v.tok,.int .i64 v.ttl,.int .i64 v.seq] 56)) (.cells #[.int .i64 0,.int .i64 0,.int .i64 0,.int .i64 0] 56);have e:(W.alloc (.cells #[.int .i64 v.own,.int .i64 v.tok,.int .i64 v.ttl,.int .i64 v.seq] 56)).heap.size=W.heap.size+1:=by simp
  rw[e]at h;exact h
 ·have h:=aA ((W.alloc (.cells #[.int .i64 v.own,.int .i64 v.tok,.int .i64 v.ttl,.int .i64 v.seq] 56)).alloc (.cells #[.int .i64 0,.int .i64 0,.int .i64 0,.int .i64 0] 56)) (.cells #[.int .i64 0,.int .i64 0,.int .i64 0] 191);have e:((W.alloc (.cells #[.int .i64 v.own,.int .i64 v.tok,.int .i64 v.ttl,.int .i64 v.seq] 56)).alloc (.cells #[.int .i64 0,.int .i64 0,.int .i64 0,.int .i64 0] 56)).heap.size=W.heap.size+2:=by simp
  rw[e]at h;exact h
theorem Chg.fresh{S:Nat→Prop}{A B C:World}{x:Nat}(h:Chg S A B)(k:Chg (fun y=>y=x) B C)(hx:A.heap.size≤x):Chg S A C:=h.trans k (fun y hy e=>by omega)
section
variable {P:Program} {op:Oper} {a:Act} {w:World} {K:Act→World→Prop} {Q:Exit→Act→World→Prop}
theorem gB(ty:TypeId)(x y:Operand)(ho:op.op= .store ty x y)
 (g o:Nat) (t:TypeId) (cur cells:Array Value) (new:List Value) (hx:a.eval x= .pointer (some ⟨g,o,none⟩)) (hy:a.eval y= .agg cells)
 (hg:w.heap[g]?=some (.cells cur t (0,0))) (hi:(P.info? ty).map (·.size)=some cells.size) (h1:cells.all (·.oneCell')=true) (hfit:o+cells.size≤cur.size)
 (hnew:cur.toList.take o++cells.toList++cur.toList.drop (o+cells.size)=new)
 (h:∀w',Chg (fun k=>k=g) w w'→w'.heap.size=w.heap.size→w'.heap[g]?=some (.cells new.toArray t (0,0))→K (a.put op.dst undef) w'):op.wp P a w K Q:=by
 have b:=pE (P:=P) w g o ty t cur cells hg hi h1 hfit;rw[hnew]at b;have c:=h (w.setRow g new.toArray) (yS _ _ _) (by simp[World.setRow]) (setRow_heap _ _ _ _ _ _ hg);unfold Oper.wp execOp;simp only[ho,hx,hy,aT,b,Result.andThen_ok,Sem.run_pure];exact c
theorem wt{ty:TypeId}{x y:Operand}{g o:Nat}{t:TypeId}{cur cells:Array Value}(hg:w.heap[g]?=some (.cells cur t (0,0)))(new:List Value)(ho:op.op= .store ty x y)(hx:a.eval x= .pointer (some ⟨g,o,none⟩))(hy:a.eval y= .agg cells)(hk:stB P ty o cells cur=true)
 (hnew:cur.toList.take o++cells.toList++cur.toList.drop (o+cells.size)=new)
 (h:∀w',Chg (fun k=>k=g) w w'→w'.heap.size=w.heap.size→w'.heap[g]?=some (.cells new.toArray t (0,0))→K (a.put op.dst undef) w'):op.wp P a w K Q:=
 have⟨h1,h2,h3⟩:=aBv hk
 gB ty x y ho g o t cur cells new hx hy hg h1 h2 h3 hnew h
end
theorem cD{p:Prop}(h:Hid p):p:=h.out
structure Bx(W A:World)(F:Nat→Prop)(b g:Nat)(f:Cf)(c:Ct)(o:On)(ch tk hd wt ob:Nat)(an mv:Value)(v:Vl):Prop where
 chg:Chg NoS W A
 size:W.heap.size+3≤A.heap.size
 bv:A.heap[W.heap.size]?=some (.cells (vlL v).toArray 56 (0,0))
 bn:A.heap[W.heap.size+1]?=some (.cells (vlL zVl).toArray 56 (0,0))
 be:A.heap[W.heap.size+2]?=some (.cells (oJ 0 0 0).toArray 191 (0,0))
 kt:Kt A F b g f c o ch tk hd wt ob an mv
section
variable {W A B:World}{F:Nat→Prop}{b g:Nat}{f:Cf}{c:Ct}{o:On}{ch tk hd wt ob:Nat}{an mv:Value}{v:Vl}
theorem Bx.kept(h:Bx W A F b g f c o ch tk hd wt ob an mv v)(hc:Chg NoS A B):Bx W B F b g f c o ch tk hd wt ob an mv v:=
 ⟨h.chg.trans hc (fun _ _ h=>h),bP h.size hc.size,hc.kept h.bv (fun h=>h),hc.kept h.bn (fun h=>h),hc.kept h.be (fun h=>h),h.kt.kept hc⟩
theorem Bx.drew(h:Bx W A F b g f c o ch tk hd wt ob an mv v):Bx W A.drew F b g f c o ch tk hd wt ob an mv v:=h.kept (Chg.refl _ _).drew
theorem Bx.mk'(hk:Kt W F b g f c o ch tk hd wt ob an mv):Bx W (aDY W v) F b g f c o ch tk hd wt ob an mv v:=
 have h:=aGq W v
 ⟨h.chg,by rw[h.size];omega,h.bv,h.bn,h.be,hk.kept h.chg⟩
theorem Kt.lt(hk:Kt W F b g f c o ch tk hd wt ob an mv):b<W.heap.size∧ob<W.heap.size:=⟨hk.cl.lt _ hk.cl.fb,hk.cl.lt _ hk.on.2.1⟩
theorem Bx.st(h:Bx W A F b g f c o ch tk hd wt ob an mv v)(hl:b<W.heap.size∧ob<W.heap.size)(hc:Chg (fun k=>k=W.heap.size+1) A B):
 Chg NoS W B∧B.heap[W.heap.size]?=some (.cells (vlL v).toArray 56 (0,0))∧B.heap[W.heap.size+2]?=some (.cells (oJ 0 0 0).toArray 191 (0,0))∧
 (∀j x,(clL f c ch tk hd wt g (.pointer (some ⟨ob,0,none⟩)))[j]?=some x→B.cell? ⟨b,j,none⟩=some x)∧(∀j x,(rT o an mv)[j]?=some x→B.cell? ⟨ob,j,none⟩=some x):=
 ⟨h.chg.fresh hc (by omega),hc.kept h.bv (by simp),hc.kept h.be (by simp),fun j x hj=>cB (hc.kept h.kt.cl.blk (by omega)) j x (by simpa using hj),fun j x hj=>cB (hc.kept h.kt.on.1 (by omega)) j x (by simpa using hj)⟩
abbrev BxR(n b ob:Nat)(c:Ct)(o:On)(v:Vl)(x:World):Prop:=
 (∀j y,(vlL v)[j]?=some y→x.cell? ((⟨n,0,none⟩:Addr).add j)=some y)∧x.cell? ⟨b,7,none⟩=some (.int .i64 c.num)∧x.cell? ⟨n,0,none⟩=some (.int .i64 v.own)∧x.cell? ⟨n,1,none⟩=some (.int .i64 v.tok)∧x.cell? ⟨b,16,none⟩=some (.pointer (some ⟨ob,0,none⟩))∧x.cell? ⟨ob,2,none⟩=some (.int .i64 o.ttl)∧x.cell? ⟨ob,5,none⟩=some (.int .i64 o.att.bal)∧x.cell? ⟨n,3,none⟩=some (.int .i64 v.seq)
theorem Bx.rd(h:Bx W A F b g f c o ch tk hd wt ob an mv v):BxR W.heap.size b ob c o v A:=
 ⟨cE h.bv,h.kt.cl.cell 7 _ rfl,cB h.bv 0 _ rfl,cB h.bv 1 _ rfl,h.kt.cl.cell 16 _ rfl,cB h.kt.on.1 2 _ rfl,cB h.kt.on.1 5 _ rfl,cB h.bv 3 _ rfl⟩
theorem Bx.rdS(h:Bx W A F b g f c o ch tk hd wt ob an mv v)(hl:b<W.heap.size∧ob<W.heap.size)(hc:Chg (fun k=>k=W.heap.size+1) A B):BxR W.heap.size b ob c o v B:=by
 obtain⟨_,a,_,e,d⟩:=h.st hl hc;exact⟨cE a,e 7 _ rfl,cB a 0 _ rfl,cB a 1 _ rfl,e 16 _ rfl,d 2 _ rfl,d 5 _ rfl,cB a 3 _ rfl⟩
end
theorem aBl(W:World)(F:Nat→Prop)(b g:Nat)(f:Cf)(c:Ct)(o:On)(ch tk hd wt ob:Nat)(an mv:Value)(v:Vl)(h:Kt W F b g f c o ch tk hd wt ob an mv)(hn1:0≤c.num)(hn2:c.num≤1000)(hm:o.mine.length≤1000000000000)
 (hd1:0≤f.drift) (hd2:f.drift≤10) (ht1:0≤v.ttl) (ht2:v.ttl≤1000) (hs1:0≤v.seq) (hs2:v.seq≤2147483647) (hw1:0≤(c.wat o.lock).since) (hw2:(c.wat o.lock).since≤100000000000):
 Calls prog 224 #[.pointer (some ⟨b,0,none⟩),vlV v] W fun r W'=>r= .returned (.tuple #[vlV (gR f c o v).next,rM (gR f c o v).res (gR f c o v).own (gR f c o v).tok])∧Chg NoS W W':=by
 have Q:=h.lt;have j:=Bx.mk' (v:=v) h;generalize hX:aDY W v=W0 at j;have HX:Hid (((W.alloc (.cells #[.int .i64 v.own,.int .i64 v.tok,.int .i64 v.ttl,.int .i64 v.seq] 56)).alloc (.cells #[.int .i64 0,.int .i64 0,.int .i64 0,.int .i64 0] 56)).alloc (.cells #[.int .i64 0,.int .i64 0,.int .i64 0] 191)=W0):=hX;have A:Hid (Bx W W0 F b g f c o ch tk hd wt ob an mv v∧(b<W.heap.size∧ob<W.heap.size)):=⟨j,Q⟩;have a7:=j.kt.cl.cell 16 _ rfl;have o5:=cB j.kt.on.1 5 _ rfl;have v1:W0.cell? ⟨W.heap.size,1,none⟩=some (.int .i64 v.tok):=cB j.bv 1 _ rfl;have T:∀q,oG o v.tok=q→Hid (Calls prog 236 #[.pointer (some ⟨ob,0,none⟩),.int .i64 v.tok] W0.drew fun r W'=>r= .returned (.bool q)∧W'=W0.drew):=fun q e=>e▸xQ W0.drew F ob an mv o v.tok j.kt.on hm;have S:∀q,nV o v.tok=q→Hid (Calls prog 237 #[.pointer (some ⟨ob,0,none⟩),.int .i64 v.tok] W0.drew fun r W'=>r= .returned (.bool q)∧Chg NoS W0.drew W'):=fun q e=>e▸vM W0.drew F ob an mv o v.tok j.kt.on hm;clear hX j Q h;obtain⟨w,Y⟩:=aIf (gR f c o v);rw[Y];have u:=cA Y;clear Y;obtain⟨qm,N⟩:=aIf (oG o v.tok);have HM:=T qm N;have s:=cA N;obtain⟨qa,M⟩:=aIf (nV o v.tok);have HA:=S qa M;have z:=cA M;obtain⟨Z,R⟩:=aIf (aBM f c o v);have L:=cA R;clear N M R T S;go_enter func224,ntmps224;go_wp2_with (rw[HX.out]);refine dZ [0,0,0,1,0,0,0,1,0,0,0,1,0,0] (by kernel_rfl) (fun _ _ _ _=>rfl) ?_;simp only[cM,cL];iterate 14 (apply sB rfl rfl;·(intro x h;(try cases h rfl);go_simp;with_reducible rfl))
 refine cC ?_;try simp only[pA]
 go_wp2_with (go_at_call 236;refine HM.out.mono ?_;rintro r w' ⟨rfl,hW⟩;have a4:=hW.symm;subst a4;clear hW;refine cD ?_);refine cA ?_;cases qm;all_goals first
  |have G:Hid (oG o v.tok=true):=s
   refine tC (p:=Hid (w=⟨v,1,c.num+1,v.tok⟩)) (cA ?_) fun HR=>?_
   ·rw[←u.out];unfold gR;simp[s.out]
   have a:=cA A.out.1.drew.drew;go_wp2_with fail;refine rlx [1,0,1,0,1,0,2] (BxR W.heap.size b ob c o v) (by kernel_rfl) (fun _ _ _ _=>rfl) ?_ ?_
   ·exact a.out.rd
   simp only[cM,cL];refine cK (v:=vlV v) rfl (fun x d=>cF 56 _ rfl ⟨W.heap.size,0,none⟩ rfl (vlL v) _ d.1 underlying56 rfl (by kernel_rfl)) ?_;(try simp only[pA])
   repeat(first|(apply sW rfl;·(intro x;go_simp;with_reducible rfl))|(apply sR rfl;·(intro x d;obtain⟨D,m,k,l,E,H,J,I⟩:=d;go_simp;with_reducible rfl)))
   refine dB (v:=.int .i64 (c.num+1)) (f:=217) (args:=#[.pointer (some ⟨b,0,none⟩)]) rfl (fun x d=>by go_simp;try rfl) (fun x d=>nY x b c.num d.2.1 hn1 hn2) ?_;(try simp only[pA])
   repeat(first|(apply sW rfl;·(intro x;go_simp;with_reducible rfl))|(apply sR rfl;·(intro x d;obtain⟨D,m,k,l,E,H,J,I⟩:=d;go_simp;with_reducible rfl)))
   (try simp only[pA]);refine dC rfl (fun C hC=>?_);refine gB 56 _ _ rfl (W.heap.size+1) 0 56 _ _ (vlL v) rfl rfl a.out.bn (by kernel_rfl) (by simp[Value.oneCell']) (by simp) rfl ?_;intro W5 i y n;obtain⟨P,X,B,K,V⟩:=a.out.st A.out.2 i;refine hC _ _ (a.out.rdS A.out.2 i) ?_;clear hC C;refine cC ?_;(try simp only[pA])
  |go_wp2_with (go_at_call 237;refine HA.out.mono ?_;rintro r W3 ⟨rfl,B⟩;refine cD ?_)
   have a:=cA (A.out.1.drew.kept B);refine cA ?_;cases qa;all_goals first
    |have G:Hid (nV o v.tok=true):=z
     refine tC (p:=Hid (w=⟨zVl,5,0,0⟩)) (cA ?_) fun HR=>?_
     ·rw[←u.out];unfold gR;simp[s.out,z.out]
     go_wp2_with (first|(refine cG rfl 56 _ _ rfl (W.heap.size+1) 0 56 _ _ (vlL zVl) rfl rfl a.out.bn (by kernel_rfl) (by simp[Value.oneCell']) (by simp) rfl ?_));intro W5 i y n;obtain⟨P,X,B,K,V⟩:=a.out.st A.out.2 i
    |replace a:=cA a.out.drew
     have t:=vL W3.drew F b g f c o ch tk hd wt ob an mv v a.out.kt hd1 hd2 ht1 ht2 hw1 hw2;rw[L.out]at t;have a6:=cA t;clear t;clear B;have a5:(v.own==0)=true∨(v.own==0)=false∧((v.own==c.num+1)=true∨(v.own==c.num+1)=false∧(Z=true∨Z=false)):=by
      cases (v.own==0)<;>cases (v.own==c.num+1)<;>cases Z<;>simp
     have k:((0:Int)==0)=true:=rfl;have l:=True.intro;rcases a5 with m|⟨m,k|⟨k,l|l⟩⟩;all_goals
      go_wp2_with fail;refine rlx [0,1,0,0,0,1,0,1,0,0,0,0,1] (BxR W.heap.size b ob c o v) (by kernel_rfl) (fun _ _ _ _=>rfl) ?_ ?_
      ·exact a.out.rd
      simp only[cM,cL];iterate 7 ((try simp only[pA]);first|(apply sW rfl;·(intro x;go_simp;with_reducible rfl))|(apply sR rfl;·(intro x d;obtain⟨D,m,k,l,E,H,J,I⟩:=d;go_simp;with_reducible rfl))|apply dU rfl|apply dO rfl)
      (try simp only[pA]);first
       |refine dB (v:=.int .i64 (c.num+1)) (f:=217) (args:=#[.pointer (some ⟨b,0,none⟩)]) rfl (fun x d=>by go_simp;try rfl) (fun x d=>nY x b c.num d.2.1 hn1 hn2) ?_
       |refine dO rfl ?_
      iterate 4 ((try simp only[pA]);first|(apply sW rfl;·(intro x;go_simp;with_reducible rfl))|(apply sR rfl;·(intro x d;obtain⟨D,m,k,l,E,H,J,I⟩:=d;go_simp;with_reducible rfl))|apply dU rfl|apply dO rfl)
      (try simp only[pA]);first
       |refine sD (v:=vlV v) rfl (fun x d=>cF 56 _ rfl ⟨W.heap.size,0,none⟩ rfl (vlL v) _ d.1 underlying56 rfl (by kernel_rfl)) ?_
       |refine dO rfl ?_
      refine cC ?_;(try simp only[pA]);go_wp2_with (go_at_call 238;refine a6.out.mono ?_;rintro r W4 ⟨rfl,K⟩);first
       |replace a:=cA (a.out.kept K).drew
        clear K
       |replace a:=cA a.out.drew
      first
       |refine tC (p:=Hid (w=⟨v,2,v.own,v.tok⟩)) (cA ?_) fun HR=>?_
        ·rw[←u.out];unfold gR;simp[s.out,z.out,L.out,bq m,bq k,l]
        refine rlx [1,0,1,0,1,0,2] (BxR W.heap.size b ob c o v) (by kernel_rfl) (fun _ _ _ _=>rfl) ?_ ?_
        ·exact a.out.rd
        simp only[cM,cL];refine cK (v:=vlV v) rfl (fun x d=>cF 56 _ rfl ⟨W.heap.size,0,none⟩ rfl (vlL v) _ d.1 underlying56 rfl (by kernel_rfl)) ?_;(try simp only[pA])
        repeat(first|(apply sW rfl;·(intro x;go_simp;with_reducible rfl))|(apply sR rfl;·(intro x d;obtain⟨D,m,k,l,E,H,J,I⟩:=d;go_simp;with_reducible rfl)))
        (try simp only[pA]);refine dC rfl (fun C hC=>?_);refine gB 56 _ _ rfl (W.heap.size+1) 0 56 _ _ (vlL v) rfl rfl a.out.bn (by kernel_rfl) (by simp[Value.oneCell']) (by simp) rfl ?_;intro W5 i y n;obtain⟨P,X,B,K,V⟩:=a.out.st A.out.2 i;refine hC _ _ (a.out.rdS A.out.2 i) ?_;clear hC C;refine cC ?_;(try simp only[pA])
       |refine tC (p:=Hid (w=⟨⟨c.num+1,o.att.bal,o.ttl,1⟩,1,c.num+1,o.att.bal⟩)) (cA ?_) fun HR=>?_
        ·rw[←u.out];unfold gR;simp[s.out,z.out,L.out,bq m,bq k,l]
        refine rlx [0,1,0,0,0,0,0,1,0,0,1,0,0] (BxR W.heap.size b ob c o v) (by kernel_rfl) (fun _ _ _ _=>rfl) ?_ ?_
        ·exact a.out.rd
        simp only[cM,cL];iterate 1 (first|(apply sW rfl;·(intro x;go_simp;with_reducible rfl))|(apply sR rfl;·(intro x d;obtain⟨D,m,k,l,E,H,J,I⟩:=d;go_simp;with_reducible rfl)))
        refine dB (v:=.int .i64 (c.num+1)) (f:=217) (args:=#[.pointer (some ⟨b,0,none⟩)]) rfl (fun x d=>by go_simp;try rfl) (fun x d=>nY x b c.num d.2.1 hn1 hn2) ?_;(try simp only[pA]);iterate 8 (first|(apply sW rfl;·(intro x;go_simp;with_reducible rfl))|(apply sR rfl;·(intro x d;obtain⟨D,m,k,l,E,H,J,I⟩:=d;go_simp;with_reducible rfl)))
        refine dB (v:=.int .i64 (c.num+1)) (f:=217) (args:=#[.pointer (some ⟨b,0,none⟩)]) rfl (fun x d=>by go_simp;try rfl) (fun x d=>nY x b c.num d.2.1 hn1 hn2) ?_;(try simp only[pA]);iterate 2 (first|(apply sW rfl;·(intro x;go_simp;with_reducible rfl))|(apply sR rfl;·(intro x d;obtain⟨D,m,k,l,E,H,J,I⟩:=d;go_simp;with_reducible rfl)))
        refine cC ?_;(try simp only[pA]);refine cG rfl 56 _ _ rfl (W.heap.size+1) 0 56 _ _ (vlL ⟨c.num+1,o.att.bal,o.ttl,1⟩) rfl rfl a.out.bn (by kernel_rfl) (by simp[Value.oneCell']) (by simp) rfl ?_;intro W5 i y n;obtain⟨P,X,B,K,V⟩:=a.out.st A.out.2 i;(try simp only[pA])
 all_goals
  go_wp2_with (first|(refine cG rfl 191 _ _ rfl (W.heap.size+2) 0 191 _ _ (oJ _ _ _) rfl rfl B (by kernel_rfl) (by simp[Value.oneCell']) (by simp) rfl ?_));intro W6 O a3 U;have a0:=cA (P.fresh O (by omega));have a1:=cA (O.kept n (by simp));have a2:=cA U;clear i y n P X B K V O a3 U;go_wp2_with fail;(try simp only[Exit.inBlock,Exit.then]);exact bodyPost_ret (pC _ results224 _ (W.heap.size+1) (W.heap.size+2) _ _ _ _ _ rfl rfl a1.out a2.out) rfl ⟨by first|rfl|(rw[HR.out]<;>rfl),a0.out⟩
theorem Bx.upd{W A B:World}{F:Nat→Prop}{b g:Nat}{f:Cf}{c:Ct}{o:On}{ch tk hd wt ob:Nat}{an mv:Value}{v:Vl}(h:Bx W A F b g f c o ch tk hd wt ob an mv v)(hk:Kt W F b g f c o ch tk hd wt ob an mv)(hc:Chg (fun k=>k=W.heap.size) A B)(u:Vl)(hb:B.heap[W.heap.size]?=some (.cells (vlL u).toArray 56 (0,0))):Bx W B F b g f c o ch tk hd wt ob an mv u:=
 have hw:Chg NoS W B:=h.chg.fresh hc (aE _)
 ⟨hw,bP h.size hc.size,hb,hc.kept h.bn (by simp),hc.kept h.be (by simp),hk.kept hw⟩
theorem aGg(a b:Int):(if b<a then b else a)=min a b:=by
 split<;>omega
section
variable (W:World) (F:Nat→Prop) (b g:Nat) (f:Cf) (c:Ct) (o:On) (ch tk hd wt ob:Nat) (an mv:Value) (v:Vl)
theorem aEm(h:Kt W F b g f c o ch tk hd wt ob an mv)(hn1:0≤c.num)(hn2:c.num≤1000)(hm:o.mine.length≤1000000000000)
 (hd1:0≤f.drift) (hd2:f.drift≤10) (ht1:0≤v.ttl) (ht2:v.ttl≤1000) (hs1:0≤v.seq) (hs2:v.seq≤2147483647) (hw1:0≤(c.wat o.lock).since) (hw2:(c.wat o.lock).since≤100000000000):
 Calls prog 225 #[.pointer (some ⟨b,0,none⟩),vlV v] W fun r W'=>r= .returned (.tuple #[vlV (kQ c o v).next,rM (kQ c o v).res (kQ c o v).own (kQ c o v).tok])∧Chg NoS W W':=by
 have y:=h.lt;have j:=Bx.mk' (v:=v) h;generalize hX:aDY W v=W0 at j;have HX:Hid (((W.alloc (.cells #[.int .i64 v.own,.int .i64 v.tok,.int .i64 v.ttl,.int .i64 v.seq] 56)).alloc (.cells #[.int .i64 0,.int .i64 0,.int .i64 0,.int .i64 0] 56)).alloc (.cells #[.int .i64 0,.int .i64 0,.int .i64 0] 191)=W0):=hX;have L:Hid (Bx W W0 F b g f c o ch tk hd wt ob an mv v∧(b<W.heap.size∧ob<W.heap.size)):=⟨j,y⟩;have HK:=cA h;have I:∀q,lQ c o v=q→Hid (Calls prog 239 #[.pointer (some ⟨b,0,none⟩),vlV v] W0 fun r W'=>r= .returned (.bool q)∧Chg NoS W0 W'):=fun q e=>e▸aBh W0 F b g f c o ch tk hd wt ob an mv v j.kt hn1 hn2;have Z:=cA (cE j.bv);clear hX j y h;obtain⟨w,Q⟩:=aIf (kQ c o v);rw[Q];have z:=cA Q;clear Q;obtain⟨q,O⟩:=aIf (lQ c o v);have HO:=I q O;have N:=cA O;clear O I;go_enter func225,ntmps225;go_wp2_with (first|rw[HX.out]|(first|(refine cJ rfl 56 _ rfl ⟨W.heap.size,0,none⟩ rfl (vlL v) _ Z.out underlying56 rfl (by kernel_rfl) ?_))|(go_at_call 239;refine HO.out.mono ?_;rintro r W3 ⟨rfl,t⟩;refine cD ?_));have a:=cA (L.out.1.kept t);refine cA ?_;cases q;all_goals first
  |have G:Hid (lQ c o v=false):=N
   refine tC (p:=Hid (w=⟨v,3,0,0⟩)) (cA ?_) fun HR=>?_
   ·rw[←z.out];unfold kQ;simp[N.out]
   have K:=cA a.out.rd.1;go_wp2_with (first|(refine cG rfl 56 _ _ rfl (W.heap.size+1) 0 56 _ _ (vlL v) rfl rfl a.out.bn (by kernel_rfl) (by simp[Value.oneCell']) (by simp) rfl ?_)|(refine cJ rfl 56 _ rfl ⟨W.heap.size,0,none⟩ rfl (vlL v) _ K.out underlying56 rfl (by kernel_rfl) ?_));intro W5 i E n;obtain⟨M,k2,t,k4,k5⟩:=a.out.st L.out.2 i
  |have w1:IntKind.i64.wrap (v.seq+1)=v.seq+1:=eI (by omega) (by omega)
   obtain⟨m,B⟩:=aIf (min (v.seq+1) 2147483647);have H:=cA B;clear B;refine tC (p:=Hid (w=⟨⟨v.own,v.tok,o.ttl,m⟩,1,c.num+1,v.tok⟩)) (cA ?_) fun HR=>?_
   ·rw[←z.out];unfold kQ;simp[N.out,H.out]
   replace a:=cA a.out.drew;go_wp2_with fail;refine rlx [0,0,0,1,0,0,0,1,0,1,0,0,0] (BxR W.heap.size b ob c o v) (by kernel_rfl) (fun _ _ _ _=>rfl) ?_ ?_
   ·exact a.out.rd
   simp only[cM,cL];iterate 13 (first|(apply sW rfl;·(intro x;go_simp;with_reducible rfl))|(apply sR rfl;·(intro x k;obtain⟨h0,h1,h2,h3,h4,h5,h6,h7⟩:=k;go_simp;with_reducible rfl)))
   refine cC ?_;(try simp only[pA]);try rw[aGg]
   try rw[H.out]
   generalize W3.drew=Wd at a⊢;have u:=a.out;have n2:=cB u.bv 2 _ rfl;have z2:=cY u.bv 2;have P:=dA Wd W.heap.size 2 (.int .i64 o.ttl);have d:=u.upd HK.out P ⟨v.own,v.tok,o.ttl,v.seq⟩ (cO u.bv 2 _);generalize A:Wd.setCell ⟨W.heap.size,2,none⟩ (.int .i64 o.ttl)=W4 at P d;have Y:=cA A;have n3:=cB d.bv 3 _ rfl;have z3:=cY d.bv 3;have R:=dA W4 W.heap.size 3 (.int .i64 m);have l:=d.upd HK.out R ⟨v.own,v.tok,o.ttl,m⟩ (cO d.bv 3 _);generalize D:W4.setCell ⟨W.heap.size,3,none⟩ (.int .i64 m)=W5 at R l;have T:=cA D;replace a:=cA l.drew;clear u d l A D P R;go_wp2_with (first|rw[Y.out]|rw[T.out]);clear n2 z2 n3 z3;refine rlx [1,0,1,0,1,0,2] (BxR W.heap.size b ob c o ⟨v.own,v.tok,o.ttl,m⟩) (by kernel_rfl) (fun _ _ _ _=>rfl) ?_ ?_
   ·exact a.out.rd
   simp only[cM,cL];refine cK (v:=vlV ⟨v.own,v.tok,o.ttl,m⟩) rfl (fun x k=>cF 56 _ rfl ⟨W.heap.size,0,none⟩ rfl (vlL ⟨v.own,v.tok,o.ttl,m⟩) _ k.1 underlying56 rfl (by kernel_rfl)) ?_;(try simp only[pA])
   repeat(first|(apply sW rfl;·(intro x;go_simp;with_reducible rfl))|(apply sR rfl;·(intro x k;obtain⟨h0,h1,h2,h3,h4,h5,h6,h7⟩:=k;go_simp;with_reducible rfl)))
   refine dB (v:=.int .i64 (c.num+1)) (f:=217) (args:=#[.pointer (some ⟨b,0,none⟩)]) rfl (fun x k=>by go_simp;try rfl) (fun x k=>nY x b c.num k.2.1 hn1 hn2) ?_;(try simp only[pA])
   repeat(first|(apply sW rfl;·(intro x;go_simp;with_reducible rfl))|(apply sR rfl;·(intro x k;obtain⟨h0,h1,h2,h3,h4,h5,h6,h7⟩:=k;go_simp;with_reducible rfl)))
   (try simp only[pA]);refine dC rfl (fun C hC=>?_);refine gB 56 _ _ rfl (W.heap.size+1) 0 56 _ _ (vlL ⟨v.own,v.tok,o.ttl,m⟩) rfl rfl a.out.bn (by kernel_rfl) (by simp[Value.oneCell']) (by simp) rfl ?_;intro W5 i E n;obtain⟨M,k2,t,k4,k5⟩:=a.out.st L.out.2 i;refine hC _ _ (a.out.rdS L.out.2 i) ?_;clear hC C;refine cC ?_;(try simp only[pA])
 all_goals
  go_wp2_with (first|(refine cG rfl 191 _ _ rfl (W.heap.size+2) 0 191 _ _ (oJ _ _ _) rfl rfl t (by kernel_rfl) (by simp[Value.oneCell']) (by simp) rfl ?_));intro W6 s X J;have S:=cA (M.fresh s (by omega));have U:=cA (s.kept n (by simp));have V:=cA J;clear i E n M k2 t k4 k5 s X J;go_wp2_with fail;(try simp only[Exit.inBlock,Exit.then]);exact bodyPost_ret (pC _ results225 _ (W.heap.size+1) (W.heap.size+2) _ _ _ _ _ rfl rfl U.out V.out) rfl ⟨by first|rfl|(rw[HR.out]<;>rfl),S.out⟩
theorem aBL(h:Kt W F b g f c o ch tk hd wt ob an mv)(hn1:0≤c.num)(hn2:c.num≤1000)(hm:o.mine.length≤1000000000000)
 (hd1:0≤f.drift) (hd2:f.drift≤10) (ht1:0≤v.ttl) (ht2:v.ttl≤1000) (hs1:0≤v.seq) (hs2:v.seq≤2147483647) (hw1:0≤(c.wat o.lock).since) (hw2:(c.wat o.lock).since≤100000000000):
 Calls prog 226 #[.pointer (some ⟨b,0,none⟩),vlV v] W fun r W'=>r= .returned (.tuple #[vlV (gN c o v).next,rM (gN c o v).res (gN c o v).own (gN c o v).tok])∧Chg NoS W W':=by
 have H:=h.lt;have d:=Bx.mk' (v:=v) h;generalize hX:aDY W v=W0 at d;have HX:Hid (((W.alloc (.cells #[.int .i64 v.own,.int .i64 v.tok,.int .i64 v.ttl,.int .i64 v.seq] 56)).alloc (.cells #[.int .i64 0,.int .i64 0,.int .i64 0,.int .i64 0] 56)).alloc (.cells #[.int .i64 0,.int .i64 0,.int .i64 0] 191)=W0):=hX;have B:Hid (Bx W W0 F b g f c o ch tk hd wt ob an mv v∧(b<W.heap.size∧ob<W.heap.size)):=⟨d,H⟩;obtain⟨p,b4,rfl,b0,_⟩:=aAZ d.kt.on.2.2.2.1;have a9:=h.on.2.2.2.1;have a8:=d.kt.cl.cell 16 _ rfl;have v0:W0.cell? ⟨W.heap.size,0,none⟩=some (.int .i64 v.own):=cB d.bv 0 _ rfl;have v3:W0.cell? ⟨W.heap.size,3,none⟩=some (.int .i64 v.seq):=cB d.bv 3 _ rfl;have J:∀q,lQ c o v=q→Hid (Calls prog 239 #[.pointer (some ⟨b,0,none⟩),vlV v] W0 fun r W'=>r= .returned (.bool q)∧Chg NoS W0 W'):=fun q e=>e▸aBh W0 F b g f c o ch tk hd wt ob an _ v d.kt hn1 hn2;have a7:=cA (cE d.bv);clear hX d H h;obtain⟨w,V⟩:=aIf (gN c o v);rw[V];have n:=cA V;clear V;obtain⟨q,P⟩:=aIf (lQ c o v);have HO:=J q P;have D:=cA P;obtain⟨Z,K⟩:=aIf (oG o v.seq);have u:=cA K;clear P J K;go_enter func226,ntmps226;go_wp2_with (first|rw[HX.out]|(first|(refine cJ rfl 56 _ rfl ⟨W.heap.size,0,none⟩ rfl (vlL v) _ a7.out underlying56 rfl (by kernel_rfl) ?_))|(go_at_call 239;refine HO.out.mono ?_;rintro r E ⟨rfl,A⟩;refine cD ?_));have a:=cA (B.out.1.kept A);refine cA ?_;clear a8 v0 v3;have u0:E.cell? ⟨W.heap.size,0,none⟩=some (.int .i64 v.own):=cB a.out.bv 0 _ rfl
 have u1:E.cell? ⟨W.heap.size,1,none⟩=some (.int .i64 v.tok):=cB a.out.bv 1 _ rfl;have u3:E.cell? ⟨W.heap.size,3,none⟩=some (.int .i64 v.seq):=cB a.out.bv 3 _ rfl;cases q;all_goals first
  |have G:Hid (lQ c o v=true):=D
   refine tC (p:=Hid (w=⟨⟨0,v.tok,0,o.att.bal⟩,1,c.num+1,v.tok⟩)) (cA ?_) fun HR=>?_
   ·rw[←n.out];unfold gN;simp[D.out]
   replace a:=cA a.out.drew;go_wp2_with fail;clear u0 u1 u3;refine rlx [0,1,0,0,0,0,1,0,0,1,0,1,0,2] (BxR W.heap.size b ob c o v) (by kernel_rfl) (fun _ _ _ _=>rfl) ?_ ?_
   ·exact a.out.rd
   simp only[cM,cL];iterate 9 (first|(apply sW rfl;·(intro x;go_simp;with_reducible rfl))|(apply sR rfl;·(intro x j;obtain⟨O,m,l,Y,Q,R,h6,S⟩:=j;go_simp;with_reducible rfl)))
   refine dB (v:=.int .i64 (c.num+1)) (f:=217) (args:=#[.pointer (some ⟨b,0,none⟩)]) rfl (fun x j=>by go_simp;try rfl) (fun x j=>nY x b c.num j.2.1 hn1 hn2) ?_;(try simp only[pA]);iterate 3 (first|(apply sW rfl;·(intro x;go_simp;with_reducible rfl))|(apply sR rfl;·(intro x j;obtain⟨O,m,l,Y,Q,R,h6,S⟩:=j;go_simp;with_reducible rfl)))
   (try simp only[pA]);refine dC rfl (fun C hC=>?_);refine gB 56 _ _ rfl (W.heap.size+1) 0 56 _ _ (vlL ⟨0,v.tok,0,o.att.bal⟩) rfl rfl a.out.bn (by kernel_rfl) (by simp[Value.oneCell']) (by simp) rfl ?_;intro W5 i y t;obtain⟨N,k2,A,k4,T⟩:=a.out.st B.out.2 i;refine hC _ _ (a.out.rdS B.out.2 i) ?_;clear hC C;refine cC ?_;(try simp only[pA])
  |have k:=xQ E F ob an _ o v.seq a.out.kt.on hm
   rw[u.out]at k;have I:=cA k;clear k;have a5:(v.own==0)=true∧(Z=true∨Z=false)∨(v.own==0)=false:=by cases (v.own==0)<;>cases Z<;>simp
   have a6:Hid (0<o.mine.length∧(0:Int)<(o.mine.length:Int)∧((v.tok !=c.toks o.lock)=true∨(v.tok !=c.toks o.lock)=false)∨o.mine.length=0):=cA (by
    rcases Nat.eq_zero_or_pos o.mine.length with h|h
    ·exact Or.inr h
    ·exact Or.inl ⟨h,by omega,by cases (v.tok !=c.toks o.lock)<;>simp⟩)
   have l:=True.intro;have s:((0:Int) !=0)=false:=rfl;have X:=True.intro;have U:=True.intro;rcases a5 with⟨m,l|l⟩|m;all_goals
    go_wp2_with (first|(go_at_call 236;refine I.out.mono ?_;rintro r w' ⟨rfl,hW⟩;have a4:=hW.symm;subst a4;clear hW;refine cD ?_));try(refine cA ?_;go_wp2_with fail)
    first
     |refine tC (p:=Hid (w=⟨v,1,c.num+1,v.tok⟩)) (cA ?_) fun HR=>?_
      ·rw[←n.out];unfold gN;simp[D.out,u.out,bq m,l]
      clear u0 u1 u3;replace a:=cA a.out.drew;refine rlx [1,0,1,0,1,0,2] (BxR W.heap.size b ob c o v) (by kernel_rfl) (fun _ _ _ _=>rfl) ?_ ?_
      ·exact a.out.rd
      simp only[cM,cL];refine cK (v:=vlV v) rfl (fun x j=>cF 56 _ rfl ⟨W.heap.size,0,none⟩ rfl (vlL v) _ j.1 underlying56 rfl (by kernel_rfl)) ?_;(try simp only[pA])
      repeat(first|(apply sW rfl;·(intro x;go_simp;with_reducible rfl))|(apply sR rfl;·(intro x j;obtain⟨O,m,l,Y,Q,R,h6,S⟩:=j;go_simp;with_reducible rfl)))
      refine dB (v:=.int .i64 (c.num+1)) (f:=217) (args:=#[.pointer (some ⟨b,0,none⟩)]) rfl (fun x j=>by go_simp;try rfl) (fun x j=>nY x b c.num j.2.1 hn1 hn2) ?_;(try simp only[pA])
      repeat(first|(apply sW rfl;·(intro x;go_simp;with_reducible rfl))|(apply sR rfl;·(intro x j;obtain⟨O,m,l,Y,Q,R,h6,S⟩:=j;go_simp;with_reducible rfl)))
      (try simp only[pA]);refine dC rfl (fun C hC=>?_);refine gB 56 _ _ rfl (W.heap.size+1) 0 56 _ _ (vlL v) rfl rfl a.out.bn (by kernel_rfl) (by simp[Value.oneCell']) (by simp) rfl ?_;intro W5 i y t;obtain⟨N,k2,A,k4,T⟩:=a.out.st B.out.2 i;refine hC _ _ (a.out.rdS B.out.2 i) ?_;clear hC C;refine cC ?_;(try simp only[pA])
     |rcases a6.out with⟨X,b5,s|s⟩|U
      all_goals
       first
        |refine tC (p:=Hid (w=⟨zVl,5,0,0⟩)) (cA ?_) fun HR=>?_
         ·rw[←n.out];unfold gN;simp[D.out,u.out,bq m,l,X,bn s,U]
        |refine tC (p:=Hid (w=⟨v,3,0,0⟩)) (cA ?_) fun HR=>?_
         ·rw[←n.out];unfold gN;simp[D.out,u.out,bq m,l,X,bn s,U]
       clear m l I;have b3:=cB a.out.kt.on.1 17 _ rfl;have t1:=cB a.out.kt.on.1 1 _ rfl;have b2:=a.out.kt.cl.cell 13 _ rfl;have b1:=MapI.get (W:=E.drew) a.out.kt.cl.maps.toks o.lock;refine dZ [0,0,0,1,1,0,0,0,1,0,0,0,1,0,0,0,0,1,1,0,0,0] (by kernel_rfl) (fun _ _ _ _=>rfl) ?_;simp only[cM,cL];iterate 22 ((try simp only[pA]);first|(apply sB rfl rfl;·(intro x h;(try cases h rfl);go_simp;with_reducible rfl))|apply dU rfl|apply dO rfl)
       refine cC ?_;try simp only[pA]
       replace a:=cA a.out.drew;have M:=cA a.out.rd.1;go_wp2_with (first|(refine cG rfl 56 _ _ rfl (W.heap.size+1) 0 56 _ _ (vlL ⟨_,_,_,_⟩) rfl rfl a.out.bn (by kernel_rfl) (by simp[Value.oneCell']) (by simp) rfl ?_)|(refine cJ rfl 56 _ rfl ⟨W.heap.size,0,none⟩ rfl (vlL v) _ M.out underlying56 rfl (by kernel_rfl) ?_));intro W5 i y t;obtain⟨N,k2,A,k4,T⟩:=a.out.st B.out.2 i
 all_goals
  go_wp2_with (first|(refine cG rfl 191 _ _ rfl (W.heap.size+2) 0 191 _ _ (oJ _ _ _) rfl rfl A (by kernel_rfl) (by simp[Value.oneCell']) (by simp) rfl ?_));intro W6 z a3 L;have a0:=cA (N.fresh z (by omega));have a1:=cA (z.kept t (by simp));have a2:=cA L;clear i y t N k2 A k4 T z a3 L;go_wp2_with fail;(try simp only[Exit.inBlock,Exit.then]);exact bodyPost_ret (pC _ results226 _ (W.heap.size+1) (W.heap.size+2) _ _ _ _ _ rfl rfl a1.out a2.out) rfl ⟨by first|rfl|(rw[HR.out]<;>rfl),a0.out⟩
theorem aBe(h:Kt W F b g f c o ch tk hd wt ob an mv)(hn1:0≤c.num)(hn2:c.num≤1000)(hm:o.mine.length≤1000000000000)
 (hd1:0≤f.drift) (hd2:f.drift≤10) (ht1:0≤v.ttl) (ht2:v.ttl≤1000) (hs1:0≤v.seq) (hs2:v.seq≤2147483647) (hw1:0≤(c.wat o.lock).since) (hw2:(c.wat o.lock).since≤100000000000):
 Calls prog 201 #[.pointer (some ⟨b,0,none⟩),vlV v] W fun r W'=>r= .returned (.tuple #[vlV (cU f c o v).next,rM (cU f c o v).res (cU f c o v).own (cU f c o v).tok])∧Chg NoS W W':=by
 have y:=h.lt;have a:=Bx.mk' (v:=v) h;generalize M:aDY W v=W0 at a;have R:Hid (((W.alloc (.cells #[.int .i64 v.own,.int .i64 v.tok,.int .i64 v.ttl,.int .i64 v.seq] 56)).alloc (.cells #[.int .i64 0,.int .i64 0,.int .i64 0,.int .i64 0] 56)).alloc (.cells #[.int .i64 0,.int .i64 0,.int .i64 0] 191)=W0):=M;have u:Hid (Bx W W0 F b g f c o ch tk hd wt ob an mv v∧(b<W.heap.size∧ob<W.heap.size)):=⟨a,y⟩;have L:=cA (cE a.bv);have U:=a.kt.cl.cell 16 _ rfl;have o0:=cB a.kt.on.1 0 _ rfl;have n:=cA a.kt;clear M a y h;obtain⟨w,D⟩:=aIf (cU f c o v);rw[D];have m:=cA D;clear D;have H:(o.kind==1)=true∨(o.kind==1)=false∧((o.kind==2)=true∨(o.kind==2)=false∧((o.kind==3)=true∨(o.kind==3)=false)):=by
  cases (o.kind==1)<;>cases (o.kind==2)<;>cases (o.kind==3)<;>simp
 have i:((0:Int)==0)=true:=rfl;have j:((0:Int)==0)=true:=rfl;rcases H with k|⟨k,i|⟨i,j|j⟩⟩;all_goals first
  |first
    |have e:=aBl W0 F b g f c o ch tk hd wt ob an mv v n.out hn1 hn2 hm hd1 hd2 ht1 ht2 hs1 hs2 hw1 hw2
     refine tC (p:=gR f c o v=w) ?_ fun hA=>?_
     ·rw[←m.out];unfold cU;simp[bq k,bq i,bq j]
     rw[hA]at e;clear hA
    |have e:=aEm W0 F b g f c o ch tk hd wt ob an mv v n.out hn1 hn2 hm hd1 hd2 ht1 ht2 hs1 hs2 hw1 hw2
     refine tC (p:=kQ c o v=w) ?_ fun hA=>?_
     ·rw[←m.out];unfold cU;simp[bq k,bq i,bq j]
     rw[hA]at e;clear hA
    |have e:=aBL W0 F b g f c o ch tk hd wt ob an mv v n.out hn1 hn2 hm hd1 hd2 ht1 ht2 hs1 hs2 hw1 hw2
     refine tC (p:=gN c o v=w) ?_ fun hA=>?_
     ·rw[←m.out];unfold cU;simp[bq k,bq i,bq j]
     rw[hA]at e;clear hA
   have S:=cA e;have O:Hid (w=w):=cA rfl;clear e n;go_enter func201,ntmps201;go_wp2_with (first|rw[R.out]|(refine cJ rfl 56 _ rfl ⟨W.heap.size,0,none⟩ rfl (vlL v) _ L.out underlying56 rfl (by kernel_rfl) ?_)|((first|go_at_call 224|go_at_call 225|go_at_call 226);refine S.out.mono ?_;rintro r W3 ⟨rfl,t⟩;refine cD ?_));have d:=cA (u.out.1.kept t);refine cA ?_;go_wp2_with (first|(refine cG rfl 56 _ _ rfl (W.heap.size+1) 0 56 _ _ (vlL w.next) rfl rfl d.out.bn (by kernel_rfl) (by simp[Value.oneCell']) (by simp) rfl ?_));intro T l z q;obtain⟨B,P,t,Q,N⟩:=d.out.st u.out.2 l
  |refine tC (p:=Hid (w=⟨v,4,v.own,v.tok⟩)) (cA ?_) fun O=>?_
   ·rw[←m.out];unfold cU;simp[bq k,bq i,bq j]
   go_enter func201,ntmps201;go_wp2_with (first|rw[R.out]);have d:=cA u.out.1.drew;refine rlx [1,0,1,0,1,0,2] (BxR W.heap.size b ob c o v) (by kernel_rfl) (fun _ _ _ _=>rfl) ?_ ?_
   ·exact d.out.rd
   simp only[cM,cL];refine cK (v:=vlV v) rfl (fun x E=>cF 56 _ rfl ⟨W.heap.size,0,none⟩ rfl (vlL v) _ E.1 underlying56 rfl (by kernel_rfl)) ?_;(try simp only[pA])
   repeat(first|(apply sW rfl;·(intro x;go_simp;with_reducible rfl))|(apply sR rfl;·(intro x E;obtain⟨X,Z,V,h3,Y,h5,h6,h7⟩:=E;go_simp;with_reducible rfl)))
   (try simp only[pA]);refine dC rfl (fun C hC=>?_);refine gB 56 _ _ rfl (W.heap.size+1) 0 56 _ _ (vlL v) rfl rfl d.out.bn (by kernel_rfl) (by simp[Value.oneCell']) (by simp) rfl ?_;intro T l z q;obtain⟨B,P,t,Q,N⟩:=d.out.st u.out.2 l;refine hC _ _ (d.out.rdS u.out.2 l) ?_;clear hC C;refine cC ?_;(try simp only[pA])
 all_goals
  go_wp2_with (first|(refine cG rfl 191 _ _ rfl (W.heap.size+2) 0 191 _ _ (oJ _ _ _) rfl rfl t (by kernel_rfl) (by simp[Value.oneCell']) (by simp) rfl ?_));intro W6 s K A;have G:=cA (B.fresh s (by omega));have I:=cA (s.kept q (by simp));have J:=cA A;clear l z q B P t Q N s K A;go_wp2_with fail;(try simp only[Exit.inBlock,Exit.then]);exact bodyPost_ret (pC _ results201 _ (W.heap.size+1) (W.heap.size+2) _ _ _ _ _ rfl rfl I.out J.out) rfl ⟨by first|rfl|(rw[O.out]<;>rfl),G.out⟩
end
section
variable {W W':World}{F F':Nat→Prop}{b g:Nat}{f:Cf}{c:Ct}{o:On}{ch tk hd wt ob:Nat}{an mv:Value}
theorem Kt.opset(h:Kt W F b g f c o ch tk hd wt ob an mv)(hc:Chg (fun k=>k=ob) W W')(o':On)(hb:W'.heap[ob]?=some (.cells (rT o' an mv).toArray 195 (0,0)))(hans:o'.att.ans=o.att.ans)(haw:o'.att.awaited=0→o.att.awaited=0)(haw':o.att.awaited=0→o'.att.awaited=0)(hmine:o'.mine=o.mine):
 Kt W' F b g f {c with doing:=some o'} o' ch tk hd wt ob an mv:=by
 have hon:OnAt W' F ob an mv o':=by
  refine⟨hb,h.on.2.1,?_,?_,h.on.2.2.2.2⟩
  ·rcases h.on.2.2.1 with⟨q1,q2,q3⟩|⟨am,q1,q2,q3⟩
   ·exact Or.inl ⟨q1,by rw[hans,q2],haw' q3⟩
   ·exact Or.inr ⟨am,q1,by rw[hans];exact q2.kept hc (q2.ne_cells h.on.1),q3⟩
  ·rw[hmine];exact hc.row h.on.2.2.2.1 (fun q hq=>gA h.on.2.2.2.1 h.on.1 (by decide) q hq)
 exact⟨h.cl.opcells h.on.1 hc hon h.ne,rfl,hon,h.ne⟩
theorem Kt.ansset{am:Nat}(h:Kt W F b g f c o ch tk hd wt ob (.map (some am)) mv)(hc:Chg (fun k=>k=am) W W'){n:Nat}{m:Int→Option Value}(ham:MapAt iK W am m n)(l:List Int)(hm:SetAt W' am l)(hF:F am):
 Kt W' F b g f {c with doing:=some {o with att:={o.att with ans:=l}}} {o with att:={o.att with ans:=l}} ch tk hd wt ob (.map (some am)) mv:=by
 obtain⟨_,_,oa⟩:=ham.obj;have hne:=h.ne;have n1:tk≠am:=fun e=>hne.1 (by rw[e]);have n2:hd≠am:=fun e=>hne.2.1 (by rw[e]);have n3:wt≠am:=fun e=>hne.2.2 (by rw[e]);have hob:=hc.kept h.on.1 (fun e=>dR h.on.1 oa (by simp) e);have hon:OnAt W' F ob (.map (some am)) mv {o with att:={o.att with ans:=l}}:=
  ⟨hob,h.on.2.1,Or.inr ⟨am,rfl,hm,hF⟩,hc.row h.on.2.2.2.1 (fun q hq=>aAQ h.on.2.2.2.1 oa q hq),h.on.2.2.2.2⟩
 refine⟨⟨hc.kept h.cl.blk (fun e=>dR h.cl.blk oa (by simp) e),h.cl.fb,hc.kept h.cl.chan (fun e=>dR h.cl.chan oa (by simp) e),h.cl.fc,⟨h.cl.maps.toks.kept hc n1,h.cl.maps.holds.kept hc n2,h.cl.maps.wat.kept hc n3,h.cl.maps.th,h.cl.maps.tw,h.cl.maps.hw,h.cl.maps.ft,h.cl.maps.fh,h.cl.maps.fw⟩,⟨ob,_,mv,rfl,hon,hne⟩,fun k hk=>aG (h.cl.lt k hk) hc.size⟩,rfl,hon,hne⟩
theorem Kt.mineset{gn cap:Nat}(h:Kt W F b g f c o ch tk hd wt ob an mv)(hc:Chg (fun k=>some k=mv.ownBlock∨k=ob) W W')(x:Int)(hF':∀k,F k→F' k)(hlt:∀k,F' k→k<W'.heap.size)(hgn:F' gn)
 (hb:W'.heap[ob]?=some (.cells (rT {o with mine:=o.mine++[x]} an (.slice (some ⟨gn,0,none⟩) (o.mine.length+1) cap)).toArray 195 (0,0)))
 (hr:W'.ownsRow 0 3 1 (.slice (some ⟨gn,0,none⟩) (o.mine.length+1) cap) (o.mine.length+1) (pL (o.mine++[x]))):
 Kt W' F' b g f {c with doing:=some {o with mine:=o.mine++[x]}} {o with mine:=o.mine++[x]} ch tk hd wt ob an (.slice (some ⟨gn,0,none⟩) (o.mine.length+1) cap):=by
 have hmv:=h.on.2.2.2.1;have keep:∀{y:Nat} {u:Obj},W.heap[y]?=some u→(∀cs fr,u≠.cells cs 3 fr)→y≠ob→W'.heap[y]?=some u:=by
  intro y u hy hnc hyo;refine hc.kept hy (fun e=>?_);rcases e with e|e
  ·rcases lH hmv with⟨rfl,_⟩|⟨q,cap',cur,rfl,_,hq⟩
   ·cases e
   ·have hyq:y=q:=by simpa[Value.ownBlock]using e
    subst hyq;rw[hq]at hy;exact hnc _ _ (aN hy).symm
  ·exact hyo e
 have keepM:∀{y:Nat} {e:Array MapEntry} {k:Nat},W.heap[y]?=some (.map e k)→W'.heap[y]?=W.heap[y]?:=fun hy=>by
  rw[hy];exact keep hy (by simp) (fun e=>dR hy h.on.1 (by simp) e)
 obtain⟨_,_,o1⟩:=h.cl.maps.toks.obj;obtain⟨_,_,o2⟩:=h.cl.maps.holds.obj;obtain⟨_,_,o3⟩:=h.cl.maps.wat.obj;have hon:OnAt W' F' ob an (.slice (some ⟨gn,0,none⟩) (o.mine.length+1) cap) {o with mine:=o.mine++[x]}:=by
  refine⟨hb,hF' _ h.on.2.1,?_,?_,fun k hk=>?_⟩
  ·rcases h.on.2.2.1 with q|⟨am,q1,q2,q3⟩
   ·exact Or.inl q
   ·obtain⟨_,_,oa⟩:=q2.obj;exact Or.inr ⟨am,q1,q2.of_heap (keepM oa),hF' _ q3⟩
  ·show W'.ownsRow 0 _ 1 _ (o.mine++[x]).length (pL (o.mine++[x]));rw[aD,aK];exact hr
  ·have:gn=k:=by simpa[Value.ownBlock]using hk
   rw[←this];exact hgn
 refine⟨⟨keep h.cl.blk (by simp) (fQ h.cl.blk h.on.1 (by decide)),hF' _ h.cl.fb,keep h.cl.chan (by simp) (fun e=>dR h.cl.chan h.on.1 (by simp) e),hF' _ h.cl.fc,⟨h.cl.maps.toks.of_heap (keepM o1),h.cl.maps.holds.of_heap (keepM o2),h.cl.maps.wat.of_heap (keepM o3),h.cl.maps.th,h.cl.maps.tw,h.cl.maps.hw,hF' _ h.cl.maps.ft,hF' _ h.cl.maps.fh,hF' _ h.cl.maps.fw⟩,⟨ob,an,_,rfl,hon,h.ne⟩,hlt⟩,rfl,hon,h.ne⟩
end
structure zP(v:Vl):Prop where
 t1:0≤v.ttl
 t2:v.ttl≤1000
 s1:0≤v.seq
 s2:v.seq≤2147483647
theorem After.of{W W1 W2:World}{F F1 G G1:Nat→Prop}{b g:Nat}{f:Cf}{av cv:Value}{c:Ct}{net:List Mg}{tr:List Ev}(h:Went W W1 F F1 G G1)(k:After W1 F1 G1 b g f av cv c net tr W2):After W F G b g f av cv c net tr W2:=After.trans h k
theorem tB{B:Nat}{w w':World}{row:Option Nat}(h:w.grownBy w' row)(hr:∀g,row=some g→B≤g)(hB:B≤w.heap.size):Below B w w':=
 ⟨h.os,h.tape,h.output,h.size,fun k hk=>h.block k (aG hk hB) (fun e=>absurd hk (Nat.not_lt.2 (hr k e.symm)))⟩
section
variable (W:World)
theorem aA7:Calls prog 79 #[.slice none 0 0] W fun r W'=>r= .returned (.slice none 0 0)∧W'=W:=by
 have a:∀w:World,(binOp BinOp.eql 88 (.slice none 0 0) (.slice none 0 0)).run prog w= .ok (.bool true) w:=fun w=>Lib.run_eql_slice_nil w _ _ none 0 0 0 0 underlying88;go_enter func79,ntmps79;go_wp2_with fail;go_ret;exact⟨rfl,rfl⟩
theorem aBj(A:Addr)(c:Nat)(l:List Mg)(hn:l.length≤100000000000)(hl:∀j u,(cQ mgL l)[j]?=some u→W.cell? (A.add j)=some u):
 Calls prog 79 #[.slice (some A) l.length c] W fun r W'=>∃v,r= .returned v∧W'.ownsRow W.heap.size 66 10 v l.length (cQ mgL l)∧Below W.heap.size W W':=by
 obtain⟨F,z,q,t,o⟩:=info_parts sJ;have H:∀w:World,(binOp BinOp.eql 88 (.slice (some A) l.length c) (.slice none 0 0)).run prog w= .ok (.bool false) w:=fun w=>Lib.run_eql_slice_nil w _ _ (some A) l.length c 0 0 underlying88;have E:Hid (∀j u,(cQ mgL l)[j]?=some u→(W.alloc (.cells #[] 66)).cell? (A.add j)=some u):=fun j u hj=>Lib.cell?_alloc_some _ (hl j u hj);have i:Below W.heap.size W (W.alloc (.cells #[] 66)):=(aJ _ _).alloc (aE _) _;have f:(W.alloc (.cells #[] 66)).ownsRow W.heap.size 66 10 (.slice (some ⟨W.heap.size,0,none⟩) 0 0) 0 []:=⟨rfl,Or.inr ⟨W.heap.size,0,#[],rfl,aE _,aA W _,aE _,by decide,rfl,rfl⟩⟩;have b:∀u ∈ cQ mgL l,u.oneCell'=true:=fun u hu=>by
  obtain⟨m,_,G⟩:=List.mem_flatMap.1 hu;exact tP m u G
 have B:=cA i;have C:=cA f;have D:=cA b;have g:(W.alloc (.cells #[] 66)).heap.size=W.heap.size+1:=by simp
 generalize d:W.alloc (.cells #[] 66)=W1 at*;have y:=cA d;have e:=cA g;clear hl i f b d g;go_enter func79,ntmps79;go_wp2_with (first|rw[y.out]|(refine wpList_append_own_at _ rfl _ _ 88 rfl W.heap.size 66 F _ 10 80 underlying88 z q t o rfl (by decide) (.slice (some ⟨W.heap.size,0,none⟩) 0 0) 0 [] rfl C.out A l.length c (cQ mgL l) rfl (eO mgL (k:=10) (fun _=>rfl) l) E.out D.out (by unfold maxLen;omega) (by omega) (by have:=e.out;omega) ?_;intro J I a h n p;refine cD ?_));refine cA ?_;rw[List.nil_append,Nat.zero_add]at a;have x:=cA a;have s:=cA (B.out.trans (tB h (fun k hk=>by cases hk;exact aE _) (by have:=e.out;omega)));clear a h n p;go_wp2_with fail;go_ret;exact⟨_,rfl,x.out,s.out⟩
theorem aBX:Calls prog 49 #[.slice none 0 0] W fun r W'=>r= .returned (.slice none 0 0)∧W'=W:=by
 have a:∀w:World,(binOp BinOp.eql 43 (.slice none 0 0) (.slice none 0 0)).run prog w= .ok (.bool true) w:=fun w=>Lib.run_eql_slice_nil w _ _ none 0 0 0 0 underlying43;go_enter func49,ntmps49;go_wp2_with fail;go_ret;exact⟨rfl,rfl⟩
theorem aBJ(A:Addr)(c:Nat)(l:List Ev)(hn:l.length≤100000000000)(hl:∀j u,(cQ evL l)[j]?=some u→W.cell? (A.add j)=some u):
 Calls prog 49 #[.slice (some A) l.length c] W fun r W'=>∃v,r= .returned v∧W'.ownsRow W.heap.size 70 19 v l.length (cQ evL l)∧Below W.heap.size W W':=by
 obtain⟨F,z,q,t,o⟩:=info_parts aDk;have H:∀w:World,(binOp BinOp.eql 43 (.slice (some A) l.length c) (.slice none 0 0)).run prog w= .ok (.bool false) w:=fun w=>Lib.run_eql_slice_nil w _ _ (some A) l.length c 0 0 underlying43;have E:Hid (∀j u,(cQ evL l)[j]?=some u→(W.alloc (.cells #[] 70)).cell? (A.add j)=some u):=fun j u hj=>Lib.cell?_alloc_some _ (hl j u hj);have i:Below W.heap.size W (W.alloc (.cells #[] 70)):=(aJ _ _).alloc (aE _) _;have f:(W.alloc (.cells #[] 70)).ownsRow W.heap.size 70 19 (.slice (some ⟨W.heap.size,0,none⟩) 0 0) 0 []:=⟨rfl,Or.inr ⟨W.heap.size,0,#[],rfl,aE _,aA W _,aE _,by decide,rfl,rfl⟩⟩;have b:∀u ∈ cQ evL l,u.oneCell'=true:=fun u hu=>by
  obtain⟨m,_,G⟩:=List.mem_flatMap.1 hu;exact aDl m u G
 have B:=cA i;have C:=cA f;have D:=cA b;have g:(W.alloc (.cells #[] 70)).heap.size=W.heap.size+1:=by simp
 generalize d:W.alloc (.cells #[] 70)=W1 at*;have y:=cA d;have e:=cA g;clear hl i f b d g;go_enter func49,ntmps49;go_wp2_with (first|rw[y.out]|(refine wpList_append_own_at _ rfl _ _ 43 rfl W.heap.size 70 F _ 19 152 underlying43 z q t o rfl (by decide) (.slice (some ⟨W.heap.size,0,none⟩) 0 0) 0 [] rfl C.out A l.length c (cQ evL l) rfl (eO evL (k:=19) (fun _=>rfl) l) E.out D.out (by unfold maxLen;omega) (by omega) (by have:=e.out;omega) ?_;intro J I a h n p;refine cD ?_));refine cA ?_;rw[List.nil_append,Nat.zero_add]at a;have x:=cA a;have s:=cA (B.out.trans (tB h (fun k hk=>by cases hk;exact aE _) (by have:=e.out;omega)));clear a h n p;go_wp2_with fail;go_ret;exact⟨_,rfl,x.out,s.out⟩
end
end Go.Proofs.YtbbdgokdfhdpiaaGreatDoor
