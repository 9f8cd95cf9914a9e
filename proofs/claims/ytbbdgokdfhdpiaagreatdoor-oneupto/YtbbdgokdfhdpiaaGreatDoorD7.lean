/- A part of the proof: PIn, POwn, PFol, PrgOf. -/
import Derived.Test.YtbbdgokdfhdpiaaGreatDoorD6
namespace Go.Proofs.YtbbdgokdfhdpiaaGreatDoor
set_option linter.all false
set_option maxRecDepth 100000
set_option maxHeartbeats 40000000
open Go.Proofs.Tryz Go.RowKit
abbrev qU(l:List Int):List Value:=l.map fun x=>.int .i64 x
theorem aBR{W:World}{v:Value}{l:List Int}(h:W.ownsRow 0 3 1 v l.length (qU l)):∃(p:Option Addr) (cap:Nat),v= .slice p l.length cap∧(l.length:Int)≤cap∧∀(m:Nat) (hm:m<l.length),∃g,p=some ⟨g,0,none⟩∧W.cell? ⟨g,m,none⟩=some (.int .i64 l[m]):=by
 rcases h.2 with⟨rfl,e⟩|⟨g,cap,a,rfl,_,f,d,_,i,b⟩
 ·refine⟨none,0,by rw[e],by omega,fun m hm=>by omega⟩
 ·refine⟨some ⟨g,0,none⟩,cap,rfl,by omega,fun m hm=>⟨g,rfl,?_⟩⟩;rw[cell_of_row W g m _ _ _ f];have c:(a.toList.take (l.length*1))[m]?=some (.int .i64 l[m]):=by rw[b];simp[hm]
  rw[List.getElem?_take_of_lt (by omega)]at c;simpa using c
theorem aEY(l:List Int)(k:Nat)(hk:k<l.length)(x:Int):(l.take (k+1)).contains x=((l.take k).contains x||x==l[k]):=by
 have e:l.take (k+1)=l.take k++[l[k]]:=by rw[List.take_add_one,aP hk];rfl
 rw[e,Bool.eq_iff_iff];simp only[List.contains_iff_mem,aO,List.mem_singleton,Bool.or_eq_true,beq_iff_eq]
theorem aHS(l:List Int)(k:Nat)(hk:k<l.length)(f:Int→Bool):(l.take (k+1)).any f=((l.take k).any f||f l[k]):=by
 have e:l.take (k+1)=l.take k++[l[k]]:=by rw[List.take_add_one,aP hk];rfl
 rw[e,List.any_append];simp
section
variable (W:World) (v:Value) (l:List Int)
theorem aFN(x:Int)(h:W.ownsRow 0 3 1 v l.length (qU l))(hl:l.length≤1000000000000):
 Calls prog 245 #[v,.int .i64 x] W fun r W'=>(∃i:Int,r= .returned (.int .i64 i)∧decide (0≤i)=l.contains x)∧W'=W:=by
 obtain⟨p,u,rfl,e,f⟩:=aBR h;clear h;obtain⟨N,m⟩:=aJ7 (l.length);rw[←m]at hl e⊢;have d:=cB m;clear m;go_enter func245,ntmps245;go_wp2_with fail;go_loopw [8] (fun i wr=>∃(k:Nat),k≤N∧i= .int .i64 k∧(l.take k).contains x=false∧wr=W) (fun i _=>N-(intOf i).toNat)
 case atStart=>exact⟨0,by omega,rfl,by simp,rfl⟩
 case round=>
  obtain⟨k,w,rfl,a,rfl⟩:=hrel;by_cases t:k<N
  ·have c:k<l.length:=by have:=d.out;omega
   obtain⟨g,rfl,y⟩:=f k c;by_cases b:x=l[k]
   ·have s:(x==l[k])=true:=by simp[b]
    have n:=cB b;clear b f;go_wp2_with fail;go_ret;refine⟨⟨k,rfl,?_⟩,rfl⟩;have:l.contains x=true:=by rw[n.out];simp
    rw[this];simp
   ·have s:(x==l[k])=false:=by simp[b]
    have n:Hid (¬x=l[k]):=b;have j:=cB a;clear b f a;go_wp2_with fail;go_roundw
    case measure=>simp[intOf];omega
    case rel=>
     refine⟨k+1,by omega,by go_num,?_,by first|rfl|trivial⟩;rw[aEY l k c,j.out];simpa using n.out
  ·have o:k=N:=by omega
   subst o;have j:=cB a;clear a f;go_wp2_with fail;go_ret;refine⟨⟨-1,rfl,?_⟩,rfl⟩;have q:=j.out;rw[aY (by have:=d.out;omega)]at q;rw[q];rfl
theorem aBN(x:Int)(h:W.ownsRow 0 3 1 v l.length (qU l))(hl:l.length≤1000000000000):
 Calls prog 242 #[v,.int .i64 x] W fun r W'=>r= .returned (.bool (l.contains x))∧W'=W:=by
 have a:Hid (Calls prog 245 #[v,.int .i64 x] W fun r W'=>(∃i:Int,r= .returned (.int .i64 i)∧decide (0≤i)=l.contains x)∧W'=W):=aFN W v l x h hl;clear h;generalize l.contains x=q at a⊢;go_enter func242,ntmps242;go_wp2_with (go_at_call 245;refine a.out.mono ?_;rintro r c ⟨⟨i,rfl,b⟩,rfl⟩);go_ret;exact⟨by rw[←b];rfl,rfl⟩
theorem aAz(b:Nat)(f:Int→Bool)(hf:∀y,Calls prog 244 #[.int .i64 y,.pointer (some ⟨b,0,none⟩)] W fun r W'=>r= .returned (.bool (f y))∧W'=W)(h:W.ownsRow 0 3 1 v l.length (qU l))(hl:l.length≤1000000000000):
 Calls prog 246 #[v,.func (.func 244) #[] #[.pointer (some ⟨b,0,none⟩)]] W fun r W'=>(∃i:Int,r= .returned (.int .i64 i)∧decide (0≤i)=l.any f)∧W'=W:=by
 obtain⟨p,B,rfl,m,n⟩:=aBR h;clear h;obtain⟨N,s⟩:=aJ7 (l.length);rw[←s]at hl m⊢;have j:=cB s;clear s;have w:=cB hf;clear hf;go_enter func246,ntmps246;go_wp2_with fail;go_loopw [8] (fun i wr=>∃(k:Nat),k≤N∧i= .int .i64 k∧(l.take k).any f=false∧wr=W) (fun i _=>N-(intOf i).toNat)
 case atStart=>exact⟨0,by omega,rfl,by simp,rfl⟩
 case round=>
  obtain⟨k,C,rfl,a,rfl⟩:=hrel;by_cases A:k<N
  ·have c:k<l.length:=by have:=j.out;omega
   obtain⟨g,rfl,D⟩:=n k c;cases hx:f l[k]
   ·have q:Hid (Calls prog 244 #[.int .i64 l[k],.pointer (some ⟨b,0,none⟩)] wr fun r W'=>r= .returned (.bool false)∧W'=wr):=hx▸w.out l[k];have t:=cB hx;have o:=cB a;clear hx n a;go_wp2_with (first|refine q.out.mono ?_;rintro r z ⟨rfl,e⟩;have d:=e.symm;subst d;clear e);go_roundw
    case measure=>simp[intOf];omega
    case rel=>
     refine⟨k+1,by omega,by go_num,?_,by first|rfl|trivial⟩;rw[aHS l k c,o.out,t.out]
     rfl
   ·have q:Hid (Calls prog 244 #[.int .i64 l[k],.pointer (some ⟨b,0,none⟩)] wr fun r W'=>r= .returned (.bool true)∧W'=wr):=hx▸w.out l[k];have t:=cB hx;clear hx n a;go_wp2_with (first|refine q.out.mono ?_;rintro r z ⟨rfl,e⟩;have d:=e.symm;subst d;clear e);go_ret;refine⟨⟨k,rfl,?_⟩,rfl⟩;have:l.any f=true:=by rw[List.any_eq_true];exact⟨l[k],bF c,t.out⟩
    rw[this];simp
  ·have u:k=N:=by omega
   subst u;have o:=cB a;clear a n;go_wp2_with fail;go_ret;refine⟨⟨-1,rfl,?_⟩,rfl⟩;have x:=o.out;rw[aY (by have:=j.out;omega)]at x;rw[x];rfl
theorem vX(b:Nat)(f:Int→Bool)(hf:∀y,Calls prog 244 #[.int .i64 y,.pointer (some ⟨b,0,none⟩)] W fun r W'=>r= .returned (.bool (f y))∧W'=W)(h:W.ownsRow 0 3 1 v l.length (qU l))(hl:l.length≤1000000000000):
 Calls prog 243 #[v,.func (.func 244) #[] #[.pointer (some ⟨b,0,none⟩)]] W fun r W'=>r= .returned (.bool (l.any f))∧W'=W:=by
 have a:Hid (Calls prog 246 #[v,.func (.func 244) #[] #[.pointer (some ⟨b,0,none⟩)]] W fun r W'=>(∃i:Int,r= .returned (.int .i64 i)∧decide (0≤i)=l.any f)∧W'=W):=aAz W v l b f hf h hl;clear h hf;generalize l.any f=q at a⊢;go_enter func243,ntmps243;go_wp2_with (go_at_call 246;refine a.out.mono ?_;rintro r d ⟨⟨i,rfl,c⟩,rfl⟩);go_ret;exact⟨by rw[←c];rfl,rfl⟩
end
theorem zM(W:World)(F:Nat→Prop)(ob:Nat)(an mv:Value)(o:On)(x:Int)(h:OnAt W F ob an mv o)(hl:o.mine.length≤1000000000000):
 Calls prog 236 #[.pointer (some ⟨ob,0,none⟩),.int .i64 x] W fun r W'=>r= .returned (.bool (qK o x))∧W'=W:=by
 have a:Hid (Calls prog 242 #[mv,.int .i64 x] W fun r W'=>r= .returned (.bool (qK o x))∧W'=W):=aBN W mv o.mine x h.2.2.2.1 hl;have b:=cC h.1 17 _ rfl;clear h;go_enter func236,ntmps236;go_wp2_with (go_at_call 242;refine a.out.mono ?_;rintro r c ⟨rfl,rfl⟩);go_ret;exact⟨rfl,rfl⟩
theorem aE5(W:World)(b:Nat)(t y:Int)(h:W.cell? ⟨b,0,none⟩=some (.int .i64 t)):
 Calls prog 244 #[.int .i64 y,.pointer (some ⟨b,0,none⟩)] W fun r W'=>r= .returned (.bool (decide (y<t)))∧W'=W:=by
 go_enter func244,ntmps244;go_wp2_with fail;go_ret;exact⟨rfl,rfl⟩
theorem xH(W:World)(F:Nat→Prop)(ob:Nat)(an mv:Value)(o:On)(x:Int)(h:OnAt W F ob an mv o)(hl:o.mine.length≤1000000000000):
 Calls prog 237 #[.pointer (some ⟨ob,0,none⟩),.int .i64 x] W fun r W'=>r= .returned (.bool (pT o x))∧Chg NoS W W':=by
 have a:=aA W (.cells #[.int .i64 x] 3);have b:Hid (Calls prog 243 #[mv,.func (.func 244) #[] #[.pointer (some ⟨W.heap.size,0,none⟩)]] (W.alloc (.cells #[.int .i64 x] 3)) fun r W'=>r= .returned (.bool (pT o x))∧W'=W.alloc (.cells #[.int .i64 x] 3)):=
  vX _ mv o.mine W.heap.size (fun y=>decide (y<x)) (fun y=>aE5 _ _ x y (cC a 0 _ rfl)) (h.2.2.2.1.alloc _) hl
 have c:=cC (cX (.cells #[.int .i64 x] 3) h.1) 17 _ rfl;clear h;go_enter func237,ntmps237;go_wp2_with (go_at_call 243;refine b.out.mono ?_;rintro r d ⟨rfl,rfl⟩);go_ret;exact⟨rfl,(Chg.refl _ _).alloc _⟩
theorem uQ{p q:Prop}(h:p)(k:p→q):q:=k h
theorem bq{a b:Int}{t:Bool}(h:(a==b)=t):(a=b)=(t=true):=by subst h;simp
theorem bn{a b:Int}{t:Bool}(h:(a !=b)=t):(a=b)=(t=false):=by subst h;simp
theorem bd{p:Prop} [Decidable p] {t:Bool}(h:decide p=t):p=(t=true):=by subst h;simp
structure Kt(W:World)(F:Nat→Prop)(b g:Nat)(f:Cf)(c:Ct)(o:On)(ch tk hd wt ob:Nat)(an mv:Value):Prop where
 cl:ClAt W F b g f c ch tk hd wt (.pointer (some ⟨ob,0,none⟩))
 doing:c.doing=some o
 on:OnAt W F ob an mv o
 ne:an≠.map (some tk)∧an≠.map (some hd)∧an≠.map (some wt)
theorem Kt.kept{W W':World}{F:Nat→Prop}{b g:Nat}{f:Cf}{c:Ct}{o:On}{ch tk hd wt ob:Nat}{an mv:Value}(h:Kt W F b g f c o ch tk hd wt ob an mv)(hc:Chg NoS W W'):Kt W' F b g f c o ch tk hd wt ob an mv:=
 ⟨h.cl.kept hc (fun _ _ h=>h),h.doing,h.on.of_heap (fun k hk=>hc.block k (h.cl.lt k hk) (fun h=>h)),h.ne⟩
theorem ClAt.kt{W:World}{F:Nat→Prop}{b g:Nat}{f:Cf}{c:Ct}{ch tk hd wt:Nat}{dv:Value}(h:ClAt W F b g f c ch tk hd wt dv){o:On}(hd':c.doing=some o):∃ob an mv,dv= .pointer (some ⟨ob,0,none⟩)∧Kt W F b g f c o ch tk hd wt ob an mv:=by
 have a:=h.doing;rw[hd']at a;obtain⟨ob,an,mv,rfl,d,e⟩:=a;exact⟨ob,an,mv,rfl,h,hd',d,e⟩
theorem aB6(W:World)(F:Nat→Prop)(b g:Nat)(f:Cf)(c:Ct)(o:On)(ch tk hd wt ob:Nat)(an mv:Value)(v:Vl)(h:Kt W F b g f c o ch tk hd wt ob an mv)(hn1:0≤c.num)(hn2:c.num≤1000):
 Calls prog 239 #[.pointer (some ⟨b,0,none⟩),vlV v] W fun r W'=>r= .returned (.bool (oE c o v))∧Chg NoS W W':=by
 generalize j:W.alloc (.cells #[.int .i64 v.own,.int .i64 v.tok,.int .i64 v.ttl,.int .i64 v.seq] 56)=W0;have l:=cB j;have a:Chg NoS W W0:=by rw[←j];exact(Chg.refl _ _).alloc _
 have k:W0.heap[W.heap.size]?=some (.cells (vlL v).toArray 56 (0,0)):=by rw[←j];exact aA W _
 have d:=h.kept a;have e:=cB a;have p:=d.cl.cell 13 _ rfl;have q:=d.cl.cell 16 _ rfl;have n:=d.cl.cell 7 _ rfl;have u:=cC d.on.1 1 _ rfl;have t:=cC k 0 _ rfl;have s:=cC k 1 _ rfl;have m:=MapI.get (W:=W0.drew) d.cl.maps.toks o.lock;have i:Hid (∀x,x=W0.drew.drew→Calls prog 217 #[.pointer (some ⟨b,0,none⟩)] x fun r W'=>r= .returned (.int .i64 (c.num+1))∧W'=x):=fun x hx=>by
  subst hx;exact oR W0.drew.drew b c.num n hn1 hn2
 clear h d a j k;unfold oE;go_enter func239,ntmps239;go_wp2_with (rw[l.out]);refine dJ [0,0,0,1,0,0,0,1,0,0,0,1,1,0] (by kernel_rfl) (fun _ _ _ _=>rfl) ?_;simp only[cL,cK];iterate 14 (apply sB rfl rfl;·(intro x h;(try cases h rfl);go_simp;with_reducible rfl))
 refine cD ?_;try simp only[pA]
 go_wp2_with fail;cases h1:v.own==c.num+1<;>cases h3:v.tok==c.toks o.lock<;>cases h2:c.toks o.lock !=0;all_goals
  refine dJ [0,1,0,1,0,0,0,0,0,0,0,1,0,0,0,0] (by kernel_rfl) (fun _ _ _ _=>rfl) ?_;simp only[cL,cK];iterate 3 (apply sB rfl rfl;·(intro x h;(try cases h rfl);go_simp;with_reducible rfl))
  try simp only[pA]
  refine dB (v:=.int .i64 (c.num+1)) (f:=217) (args:=#[.pointer (some ⟨b,0,none⟩)]) rfl (fun x hx=>by subst hx;go_simp;try rfl) (fun x hx=>i.out x hx) ?_;(try simp only[pA]);iterate 12 ((try simp only[pA]);first|(apply sB rfl rfl;·(intro x h;(try cases h rfl);go_simp;with_reducible rfl))|apply cP rfl|apply cN rfl)
  refine cD ?_;try simp only[pA]
  go_wp2_with fail;go_ret;exact⟨by clear l e i;simp_all,e.out.drew.drew⟩
theorem aJx(x:Int)(h:0≤x):x.tdiv 10=x / 10:=Int.tdiv_eq_ediv_of_nonneg h
theorem xG(W:World)(F:Nat→Prop)(b g:Nat)(f:Cf)(c:Ct)(o:On)(ch tk hd wt ob:Nat)(an mv:Value)(v:Vl)(h:Kt W F b g f c o ch tk hd wt ob an mv)(hd1:0≤f.drift)(hd2:f.drift≤10)(ht1:0≤v.ttl)(ht2:v.ttl≤1000)(hw1:0≤(c.wat o.lock).since)(hw2:(c.wat o.lock).since≤100000000000):
 Calls prog 238 #[.pointer (some ⟨b,0,none⟩),vlV v] W fun r W'=>r= .returned (.bool (aCE f c o v))∧Chg NoS W W':=by
 generalize E:W.alloc (.cells #[.int .i64 v.own,.int .i64 v.tok,.int .i64 v.ttl,.int .i64 v.seq] 56)=W0;have HX:=cB E;have w:Chg NoS W W0:=by rw[←E];exact(Chg.refl _ _).alloc _
 have J:W0.heap.size=W.heap.size+1:=by rw[←E];simp
 have bv:W0.heap[W.heap.size]?=some (.cells (vlL v).toArray 56 (0,0)):=by rw[←E];exact aA W _
 have Y:=h.kept w;have U:=cB w;have D:=cB Y;have BV:=cB bv;have R:=cB J;clear h Y w E bv J;unfold aCE;go_enter func238,ntmps238;go_wp2_with (rw[HX.out]);refine rlx [0,0,0,1,0,0,0,1,0,0,0,1,1,2] (fun x=>x.cell? ⟨b,15,none⟩=some (.map (some wt))∧x.cell? ⟨b,16,none⟩=some (.pointer (some ⟨ob,0,none⟩))∧x.cell? ⟨ob,1,none⟩=some (.int .i64 o.lock)∧(Instr.lookup 147 (.map (some wt)) (iK o.lock) false).run prog x= .ok (wtV (c.wat o.lock)) x) (by kernel_rfl) (fun _ _ _ _=>rfl) ?_ ?_
 ·exact⟨D.out.cl.cell 15 _ rfl,D.out.cl.cell 16 _ rfl,cC D.out.on.1 1 _ rfl,MapW.get (W:=W0.drew) D.out.cl.maps.wat o.lock⟩
 simp only[cL,cK];iterate 13 (apply sB rfl rfl;·(intro x h;(try have h:=h rfl);(try dsimp only at h);go_simp;with_reducible rfl))
 try simp only[pA]
 refine dC rfl (fun C hC=>?_);go_simp;have bT:(W0.alloc (.cells #[.int .i64 0,.int .i64 0,.int .i64 0,.int .i64 0] 292)).drew.heap[W0.heap.size]?=some (.cells #[.int .i64 0,.int .i64 0,.int .i64 0,.int .i64 0] 292 (0,0)):=aA W0 _;have a:Chg NoS W0 (W0.alloc (.cells #[.int .i64 0,.int .i64 0,.int .i64 0,.int .i64 0] 292)).drew:=((Chg.refl _ _).alloc _).drew;have m:=D.out.kept a;refine hC _ _ ⟨m.cl.cell 15 _ rfl,m.cl.cell 16 _ rfl,cC m.on.1 1 _ rfl,MapW.get m.cl.maps.wat o.lock⟩ ?_;clear hC;have H:=a.kept BV.out (fun h=>h);generalize (W0.alloc (.cells #[.int .i64 0,.int .i64 0,.int .i64 0,.int .i64 0] 292)).drew=W1 at*;refine cD ?_;refine cH rfl 292 _ _ rfl W0.heap.size 0 292 _ _ [.int .i64 (c.wat o.lock).own,.int .i64 (c.wat o.lock).tok,.int .i64 (c.wat o.lock).seq,.int .i64 (c.wat o.lock).since] rfl rfl bT (by kernel_rfl) (by simp[Value.oneCell']) (by simp) rfl ?_;intro t d M s;have G:W.heap.size≠W0.heap.size:=by rw[R.out];omega
 have p:=d.kept H G;have n:Chg NoS W0 t:=⟨d.os.trans a.os,d.tape.trans a.tape,d.output.trans a.output,by rw[M];exact a.size,fun k hk _=>(d.block k (aG hk a.size) (fun e=>by omega)).trans (a.block k hk (fun h=>h))⟩;have l:=D.out.kept n;have c4:=l.cl.cell 4 _ rfl;have K:=l.cl.cell 16 _ rfl;have X:=cC l.on.1 6 _ rfl;have v2:=cC p 2 _ rfl;have V:=cC s 3 _ rfl;have S:=cB (U.out.trans n (fun _ _ h=>h));have P:=cB (cF (W:=t.drew.drew) p);have I:=cB (cF (W:=t.drew.drew) s);have B:Hid (Kt t F b g f c o ch tk hd wt ob an mv∧t.heap[W.heap.size]?=some (.cells (vlL v).toArray 56 (0,0))):=⟨l,p⟩;have L:=cB s;have m1:v.ttl*(10+f.drift)≤1000*20:=Int.mul_le_mul ht2 (by omega) (by omega) (by omega);have m2:0≤v.ttl*(10+f.drift):=Int.mul_nonneg ht1 (by omega);have w1:IntKind.i64.wrap (10+f.drift)=10+f.drift:=dZ (by omega) (by omega);have w2:IntKind.i64.wrap (v.ttl*(10+f.drift))=v.ttl*(10+f.drift):=dZ (by omega) (by omega);clear a m bT H d M s G p n l;go_wp2_with fail;refine dJ [0,1,0,0,0,0,1,0,0,0] (by kernel_rfl) (fun _ _ _ _=>rfl) ?_;simp only[cL,cK];iterate 10 (apply sB rfl rfl;·(intro x h;(try cases h rfl);go_simp;with_reducible rfl))
 refine cD ?_;try simp only[pA]
 go_wp2_with fail;generalize hT:v.ttl*(10+f.drift)=T at*;have w3:IntKind.i64.wrap (T+9)=T+9:=dZ (by omega) (by omega);have hq:(T+9).tdiv 10=(T+9) / 10:=aJx _ (by omega);have w4:IntKind.i64.wrap ((T+9) / 10)=(T+9) / 10:=dZ (by omega) (by omega);have w5:IntKind.i64.wrap ((c.wat o.lock).since+(T+9) / 10)=(c.wat o.lock).since+(T+9) / 10:=dZ (by omega) (by omega);have w6:IntKind.i64.wrap ((c.wat o.lock).since+(T+9) / 10+2)=(c.wat o.lock).since+(T+9) / 10+2:=dZ (by omega) (by omega);have N:∀q,aAH (c.wat o.lock) v=q→Hid (Calls prog 218 #[wtV (c.wat o.lock),vlV v] t.drew.drew fun r W'=>r= .returned (.bool q)∧Chg NoS t.drew.drew W'):=fun q e=>e▸aG5 t.drew.drew (c.wat o.lock) v;cases hw:aAH (c.wat o.lock) v;all_goals
  have u:=N _ hw;have Z:=cB (aJW hw hT);clear N hw hT hd1 hd2 ht1 ht2 m1 m2 w1 w2;refine rlx [1,1,2,0,0,0,0,1,0,0,0,1,0,1,0,0,0,0,0,0,0,0] (fun x=>x.cell? ⟨b,16,none⟩=some (.pointer (some ⟨ob,0,none⟩))∧x.cell? ⟨ob,6,none⟩=some (.int .i64 o.att.began)∧x.cell? ⟨W0.heap.size,3,none⟩=some (.int .i64 (c.wat o.lock).since)∧(∀j y,(vlL v)[j]?=some y→x.cell? ((⟨W.heap.size,0,none⟩:Addr).add j)=some y)∧(∀j y,([.int .i64 (c.wat o.lock).own,.int .i64 (c.wat o.lock).tok,.int .i64 (c.wat o.lock).seq,.int .i64 (c.wat o.lock).since]:List Value)[j]?=some y→x.cell? ((⟨W0.heap.size,0,none⟩:Addr).add j)=some y)) (by kernel_rfl) (fun _ _ _ _=>rfl) ?_ ?_
  ·exact⟨K,X,V,P.out,I.out⟩
  simp only[cL,cK];refine cM (v:=wtV (c.wat o.lock)) rfl (fun x hx=>cG 292 _ rfl ⟨W0.heap.size,0,none⟩ rfl _ _ hx.2.2.2.2 underlying292 rfl (by kernel_rfl)) ?_;refine cM (v:=vlV v) rfl (fun x hx=>cG 56 _ rfl ⟨W.heap.size,0,none⟩ rfl (vlL v) _ hx.2.2.2.1 underlying56 rfl (by kernel_rfl)) ?_;(try simp only[pA]);refine dC rfl (fun C hC=>?_);go_simp;refine u.out.mono ?_;rintro r W3 ⟨rfl,k3⟩;have i:=k3.of_drew.of_drew;have z:=B.out.1.kept i;have O:=i.kept B.out.2 (fun h=>h);have A:=i.kept L.out (fun h=>h);refine hC _ _ ⟨z.cl.cell 16 _ rfl,cC z.on.1 6 _ rfl,cC A 3 _ rfl,cF O,cF A⟩ ?_;have Q:=cB (S.out.trans i (fun _ _ h=>h));clear hC C u k3 i z O A P I B L c4 K X v2 V;iterate 19 ((try simp only[pA]);first|(apply sB rfl rfl;·(intro x h;(try have h:=h rfl);(try dsimp only at h);go_simp;with_reducible rfl))|apply cP rfl|apply cN rfl)
  refine cD ?_;try simp only[pA]
  go_wp2_with fail;go_ret;exact⟨by rw[Z.out.1,Z.out.2];simp,Q.out⟩
abbrev pE(r o t:Int):List Value:=[.int .i64 r,.int .i64 o,.int .i64 t]
theorem pZ(fn:Func)(hr:fn.results=#[.cell 4 56,.cell 5 191])(tmps:Array Value)(x y:Nat)(v:Vl)(r o t:Int)(W:World)
 (h4:tmps.getD 4 undef= .pointer (some ⟨x,0,none⟩)) (h5:tmps.getD 5 undef= .pointer (some ⟨y,0,none⟩)) (bx:W.heap[x]?=some (.cells (vlL v).toArray 56 (0,0))) (by_:W.heap[y]?=some (.cells (pE r o t).toArray 191 (0,0))):
 (results fn tmps).run prog W= .ok (.tuple #[vlV v,sQ r o t]) W:=by
 have b:=eK (P:=prog) W ⟨x,0,none⟩ 56 (vlL v) _ (cF bx) underlying56 rfl (by kernel_rfl);have a:=eK (P:=prog) W ⟨y,0,none⟩ 191 (pE r o t) _ (cF by_) underlying191 rfl (by kernel_rfl);unfold results;rw[hr];simp only[bY]at h4 h5;simp[h4,h5,asAddr,aT,b,a]
theorem aDC(W:World)(F:Nat→Prop)(ob:Nat)(an mv:Value)(o:On)(v:Vl)(h:OnAt W F ob an mv o):
 Calls prog 202 #[.pointer (some ⟨ob,0,none⟩),vlV v,.int .i64 o.att.bal] W fun r W'=>r= .returned (.bool (qD o v))∧Chg NoS W W':=by
 have f:=cC (cX (.cells #[.int .i64 v.own,.int .i64 v.tok,.int .i64 v.ttl,.int .i64 v.seq] 56) h.1) 0 _ rfl;have a:=aA W (.cells #[.int .i64 v.own,.int .i64 v.tok,.int .i64 v.ttl,.int .i64 v.seq] 56);have i:=cC a 1 _ rfl;have g:=cC a 3 _ rfl;clear h a;unfold qD;go_enter func202,ntmps202;by_cases d:o.kind=1
 ·have b:(o.kind==1)=true:=by simp[d]
  go_wp2_with fail;go_ret;exact⟨by simp_all,(Chg.refl _ _).alloc _⟩
 ·have b:(o.kind==1)=false:=by simp[d]
  by_cases e:o.kind=3
  ·have c:(o.kind==3)=true:=by simp[e]
   go_wp2_with fail;go_ret;exact⟨by simp_all,(Chg.refl _ _).alloc _⟩
  ·have c:(o.kind==3)=false:=by simp[e]
   go_wp2_with fail;go_ret;exact⟨by simp_all,(Chg.refl _ _).alloc _⟩
structure aJS(W W0:World)(v:Vl):Prop where
 chg:Chg NoS W W0
 size:W0.heap.size=W.heap.size+3
 bv:W0.heap[W.heap.size]?=some (.cells (vlL v).toArray 56 (0,0))
 bn:W0.heap[W.heap.size+1]?=some (.cells (vlL zVl).toArray 56 (0,0))
 be:W0.heap[W.heap.size+2]?=some (.cells (pE 0 0 0).toArray 191 (0,0))
abbrev aFa(W:World)(v:Vl):World:=((W.alloc (.cells #[.int .i64 v.own,.int .i64 v.tok,.int .i64 v.ttl,.int .i64 v.seq] 56)).alloc (.cells #[.int .i64 0,.int .i64 0,.int .i64 0,.int .i64 0] 56)).alloc (.cells #[.int .i64 0,.int .i64 0,.int .i64 0] 191)
theorem aIb(W:World)(v:Vl):aJS W (aFa W v) v:=by
 refine⟨(Chg.alloc2 _ _ _).alloc _,by simp,cX _ (cX _ (aA W _)),cX _ ?_,?_⟩
 ·have h:=aA (W.alloc (.cells #[.int .i64 v.own,.int .i64 v.tok,.int .i64 v.ttl,.int .i64 v.seq] 56)) (.cells #[.int .i64 0,.int .i64 0,.int .i64 0,.int .i64 0] 56);have e:(W.alloc (.cells #[.int .i64 v.own,.int .i64 v.tok,.int .i64 v.ttl,.int .i64 v.seq] 56)).heap.size=W.heap.size+1:=by simp
  rw[e]at h;exact h
 ·have h:=aA ((W.alloc (.cells #[.int .i64 v.own,.int .i64 v.tok,.int .i64 v.ttl,.int .i64 v.seq] 56)).alloc (.cells #[.int .i64 0,.int .i64 0,.int .i64 0,.int .i64 0] 56)) (.cells #[.int .i64 0,.int .i64 0,.int .i64 0] 191);have e:((W.alloc (.cells #[.int .i64 v.own,.int .i64 v.tok,.int .i64 v.ttl,.int .i64 v.seq] 56)).alloc (.cells #[.int .i64 0,.int .i64 0,.int .i64 0,.int .i64 0] 56)).heap.size=W.heap.size+2:=by simp
  rw[e]at h;exact h
theorem Chg.fresh{S:Nat→Prop}{A B C:World}{x:Nat}(h:Chg S A B)(k:Chg (fun y=>y=x) B C)(hx:A.heap.size≤x):Chg S A C:=h.trans k (fun y hy e=>by omega)
section
variable {P:Program} {op:Oper} {a:Act} {w:World} {K:Act→World→Prop} {Q:Exit→Act→World→Prop}
theorem fT(ty:TypeId)(x y:Operand)(ho:op.op= .store ty x y)
 (g o:Nat) (t:TypeId) (cur cells:Array Value) (new:List Value) (hx:a.eval x= .pointer (some ⟨g,o,none⟩)) (hy:a.eval y= .agg cells)
 (hg:w.heap[g]?=some (.cells cur t (0,0))) (hi:(P.info? ty).map (·.size)=some cells.size) (h1:cells.all (·.oneCell')=true) (hfit:o+cells.size≤cur.size)
 (hnew:cur.toList.take o++cells.toList++cur.toList.drop (o+cells.size)=new)
 (h:∀w',Chg (fun k=>k=g) w w'→w'.heap.size=w.heap.size→w'.heap[g]?=some (.cells new.toArray t (0,0))→K (a.put op.dst undef) w'):op.wp P a w K Q:=by
 have b:=qF (P:=P) w g o ty t cur cells hg hi h1 hfit;rw[hnew]at b;have c:=h (w.setRow g new.toArray) (aAl _ _ _) (by simp[World.setRow]) (setRow_heap _ _ _ _ _ _ hg);unfold Oper.wp execOp;simp only[ho,hx,hy,aT,b,Result.andThen_ok,Sem.run_pure];exact c
theorem wt{ty:TypeId}{x y:Operand}{g o:Nat}{t:TypeId}{cur cells:Array Value}(hg:w.heap[g]?=some (.cells cur t (0,0)))(new:List Value)(ho:op.op= .store ty x y)(hx:a.eval x= .pointer (some ⟨g,o,none⟩))(hy:a.eval y= .agg cells)(hk:stB P ty o cells cur=true)
 (hnew:cur.toList.take o++cells.toList++cur.toList.drop (o+cells.size)=new)
 (h:∀w',Chg (fun k=>k=g) w w'→w'.heap.size=w.heap.size→w'.heap[g]?=some (.cells new.toArray t (0,0))→K (a.put op.dst undef) w'):op.wp P a w K Q:=
 have⟨h1,h2,h3⟩:=aCk hk
 fT ty x y ho g o t cur cells new hx hy hg h1 h2 h3 hnew h
end
theorem cE{p:Prop}(h:Hid p):p:=h.out
structure Bx(W A:World)(F:Nat→Prop)(b g:Nat)(f:Cf)(c:Ct)(o:On)(ch tk hd wt ob:Nat)(an mv:Value)(v:Vl):Prop where
 chg:Chg NoS W A
 size:W.heap.size+3≤A.heap.size
 bv:A.heap[W.heap.size]?=some (.cells (vlL v).toArray 56 (0,0))
 bn:A.heap[W.heap.size+1]?=some (.cells (vlL zVl).toArray 56 (0,0))
 be:A.heap[W.heap.size+2]?=some (.cells (pE 0 0 0).toArray 191 (0,0))
 kt:Kt A F b g f c o ch tk hd wt ob an mv
section
variable {W A B:World}{F:Nat→Prop}{b g:Nat}{f:Cf}{c:Ct}{o:On}{ch tk hd wt ob:Nat}{an mv:Value}{v:Vl}
theorem Bx.kept(h:Bx W A F b g f c o ch tk hd wt ob an mv v)(hc:Chg NoS A B):Bx W B F b g f c o ch tk hd wt ob an mv v:=
 ⟨h.chg.trans hc (fun _ _ h=>h),bU h.size hc.size,hc.kept h.bv (fun h=>h),hc.kept h.bn (fun h=>h),hc.kept h.be (fun h=>h),h.kt.kept hc⟩
theorem Bx.drew(h:Bx W A F b g f c o ch tk hd wt ob an mv v):Bx W A.drew F b g f c o ch tk hd wt ob an mv v:=h.kept (Chg.refl _ _).drew
theorem Bx.mk'(hk:Kt W F b g f c o ch tk hd wt ob an mv):Bx W (aFa W v) F b g f c o ch tk hd wt ob an mv v:=
 have h:=aIb W v
 ⟨h.chg,by rw[h.size];omega,h.bv,h.bn,h.be,hk.kept h.chg⟩
theorem Kt.lt(hk:Kt W F b g f c o ch tk hd wt ob an mv):b<W.heap.size∧ob<W.heap.size:=⟨hk.cl.lt _ hk.cl.fb,hk.cl.lt _ hk.on.2.1⟩
theorem Bx.st(h:Bx W A F b g f c o ch tk hd wt ob an mv v)(hl:b<W.heap.size∧ob<W.heap.size)(hc:Chg (fun k=>k=W.heap.size+1) A B):
 Chg NoS W B∧B.heap[W.heap.size]?=some (.cells (vlL v).toArray 56 (0,0))∧B.heap[W.heap.size+2]?=some (.cells (pE 0 0 0).toArray 191 (0,0))∧
 (∀j x,(clL f c ch tk hd wt g (.pointer (some ⟨ob,0,none⟩)))[j]?=some x→B.cell? ⟨b,j,none⟩=some x)∧(∀j x,(tA o an mv)[j]?=some x→B.cell? ⟨ob,j,none⟩=some x):=
 ⟨h.chg.fresh hc (by omega),hc.kept h.bv (by simp),hc.kept h.be (by simp),fun j x hj=>cC (hc.kept h.kt.cl.blk (by omega)) j x (by simpa using hj),fun j x hj=>cC (hc.kept h.kt.on.1 (by omega)) j x (by simpa using hj)⟩
abbrev BxR(n b ob:Nat)(c:Ct)(o:On)(v:Vl)(x:World):Prop:=
 (∀j y,(vlL v)[j]?=some y→x.cell? ((⟨n,0,none⟩:Addr).add j)=some y)∧x.cell? ⟨b,7,none⟩=some (.int .i64 c.num)∧x.cell? ⟨n,0,none⟩=some (.int .i64 v.own)∧x.cell? ⟨n,1,none⟩=some (.int .i64 v.tok)∧x.cell? ⟨b,16,none⟩=some (.pointer (some ⟨ob,0,none⟩))∧x.cell? ⟨ob,2,none⟩=some (.int .i64 o.ttl)∧x.cell? ⟨ob,5,none⟩=some (.int .i64 o.att.bal)∧x.cell? ⟨n,3,none⟩=some (.int .i64 v.seq)
theorem Bx.rd(h:Bx W A F b g f c o ch tk hd wt ob an mv v):BxR W.heap.size b ob c o v A:=
 ⟨cF h.bv,h.kt.cl.cell 7 _ rfl,cC h.bv 0 _ rfl,cC h.bv 1 _ rfl,h.kt.cl.cell 16 _ rfl,cC h.kt.on.1 2 _ rfl,cC h.kt.on.1 5 _ rfl,cC h.bv 3 _ rfl⟩
theorem Bx.rdS(h:Bx W A F b g f c o ch tk hd wt ob an mv v)(hl:b<W.heap.size∧ob<W.heap.size)(hc:Chg (fun k=>k=W.heap.size+1) A B):BxR W.heap.size b ob c o v B:=by
 obtain⟨_,a,_,e,d⟩:=h.st hl hc;exact⟨cF a,e 7 _ rfl,cC a 0 _ rfl,cC a 1 _ rfl,e 16 _ rfl,d 2 _ rfl,d 5 _ rfl,cC a 3 _ rfl⟩
end
theorem aB9(W:World)(F:Nat→Prop)(b g:Nat)(f:Cf)(c:Ct)(o:On)(ch tk hd wt ob:Nat)(an mv:Value)(v:Vl)(h:Kt W F b g f c o ch tk hd wt ob an mv)(hn1:0≤c.num)(hn2:c.num≤1000)(hm:o.mine.length≤1000000000000)
 (hd1:0≤f.drift) (hd2:f.drift≤10) (ht1:0≤v.ttl) (ht2:v.ttl≤1000) (hs1:0≤v.seq) (hs2:v.seq≤2147483647) (hw1:0≤(c.wat o.lock).since) (hw2:(c.wat o.lock).since≤100000000000):
 Calls prog 224 #[.pointer (some ⟨b,0,none⟩),vlV v] W fun r W'=>r= .returned (.tuple #[vlV (gX f c o v).next,sQ (gX f c o v).res (gX f c o v).own (gX f c o v).tok])∧Chg NoS W W':=by
 have Q:=h.lt;have j:=Bx.mk' (v:=v) h;generalize hX:aFa W v=W0 at j;have HX:Hid (((W.alloc (.cells #[.int .i64 v.own,.int .i64 v.tok,.int .i64 v.ttl,.int .i64 v.seq] 56)).alloc (.cells #[.int .i64 0,.int .i64 0,.int .i64 0,.int .i64 0] 56)).alloc (.cells #[.int .i64 0,.int .i64 0,.int .i64 0] 191)=W0):=hX;have A:Hid (Bx W W0 F b g f c o ch tk hd wt ob an mv v∧(b<W.heap.size∧ob<W.heap.size)):=⟨j,Q⟩;have a7:=j.kt.cl.cell 16 _ rfl;have o5:=cC j.kt.on.1 5 _ rfl;have v1:W0.cell? ⟨W.heap.size,1,none⟩=some (.int .i64 v.tok):=cC j.bv 1 _ rfl;have T:∀q,qK o v.tok=q→Hid (Calls prog 236 #[.pointer (some ⟨ob,0,none⟩),.int .i64 v.tok] W0.drew fun r W'=>r= .returned (.bool q)∧W'=W0.drew):=fun q e=>e▸zM W0.drew F ob an mv o v.tok j.kt.on hm;have S:∀q,pT o v.tok=q→Hid (Calls prog 237 #[.pointer (some ⟨ob,0,none⟩),.int .i64 v.tok] W0.drew fun r W'=>r= .returned (.bool q)∧Chg NoS W0.drew W'):=fun q e=>e▸xH W0.drew F ob an mv o v.tok j.kt.on hm;clear hX j Q h;obtain⟨w,Y⟩:=aJ8 (gX f c o v);rw[Y];have u:=cB Y;clear Y;obtain⟨qm,N⟩:=aJ8 (qK o v.tok);have HM:=T qm N;have s:=cB N;obtain⟨qa,M⟩:=aJ8 (pT o v.tok);have HA:=S qa M;have z:=cB M;obtain⟨Z,R⟩:=aJ8 (aCE f c o v);have L:=cB R;clear N M R T S;go_enter func224,ntmps224;go_wp2_with (rw[HX.out]);refine dJ [0,0,0,1,0,0,0,1,0,0,0,1,0,0] (by kernel_rfl) (fun _ _ _ _=>rfl) ?_;simp only[cL,cK];iterate 14 (apply sB rfl rfl;·(intro x h;(try cases h rfl);go_simp;with_reducible rfl))
 refine cD ?_;try simp only[pA]
 go_wp2_with (go_at_call 236;refine HM.out.mono ?_;rintro r w' ⟨rfl,hW⟩;have a4:=hW.symm;subst a4;clear hW;refine cE ?_);refine cB ?_;cases qm;all_goals first
  |have G:Hid (qK o v.tok=true):=s
   refine uQ (p:=Hid (w=⟨v,1,c.num+1,v.tok⟩)) (cB ?_) fun HR=>?_
   ·rw[←u.out];unfold gX;simp[s.out]
   have a:=cB A.out.1.drew.drew;go_wp2_with fail;refine rlx [1,0,1,0,1,0,2] (BxR W.heap.size b ob c o v) (by kernel_rfl) (fun _ _ _ _=>rfl) ?_ ?_
   ·exact a.out.rd
   simp only[cL,cK];refine cM (v:=vlV v) rfl (fun x d=>cG 56 _ rfl ⟨W.heap.size,0,none⟩ rfl (vlL v) _ d.1 underlying56 rfl (by kernel_rfl)) ?_;(try simp only[pA])
   repeat(first|(apply sW rfl;·(intro x;go_simp;with_reducible rfl))|(apply sR rfl;·(intro x d;obtain⟨D,m,k,l,E,H,J,I⟩:=d;go_simp;with_reducible rfl)))
   refine dB (v:=.int .i64 (c.num+1)) (f:=217) (args:=#[.pointer (some ⟨b,0,none⟩)]) rfl (fun x d=>by go_simp;try rfl) (fun x d=>oR x b c.num d.2.1 hn1 hn2) ?_;(try simp only[pA])
   repeat(first|(apply sW rfl;·(intro x;go_simp;with_reducible rfl))|(apply sR rfl;·(intro x d;obtain⟨D,m,k,l,E,H,J,I⟩:=d;go_simp;with_reducible rfl)))
   (try simp only[pA]);refine dC rfl (fun C hC=>?_);refine fT 56 _ _ rfl (W.heap.size+1) 0 56 _ _ (vlL v) rfl rfl a.out.bn (by kernel_rfl) (by simp[Value.oneCell']) (by simp) rfl ?_;intro W5 i y n;obtain⟨P,X,B,K,V⟩:=a.out.st A.out.2 i;refine hC _ _ (a.out.rdS A.out.2 i) ?_;clear hC C;refine cD ?_;(try simp only[pA])
  |go_wp2_with (go_at_call 237;refine HA.out.mono ?_;rintro r W3 ⟨rfl,B⟩;refine cE ?_)
   have a:=cB (A.out.1.drew.kept B);refine cB ?_;cases qa;all_goals first
    |have G:Hid (pT o v.tok=true):=z
     refine uQ (p:=Hid (w=⟨zVl,5,0,0⟩)) (cB ?_) fun HR=>?_
     ·rw[←u.out];unfold gX;simp[s.out,z.out]
     go_wp2_with (first|(refine cH rfl 56 _ _ rfl (W.heap.size+1) 0 56 _ _ (vlL zVl) rfl rfl a.out.bn (by kernel_rfl) (by simp[Value.oneCell']) (by simp) rfl ?_));intro W5 i y n;obtain⟨P,X,B,K,V⟩:=a.out.st A.out.2 i
    |replace a:=cB a.out.drew
     have t:=xG W3.drew F b g f c o ch tk hd wt ob an mv v a.out.kt hd1 hd2 ht1 ht2 hw1 hw2;rw[L.out]at t;have a6:=cB t;clear t;clear B;have a5:(v.own==0)=true∨(v.own==0)=false∧((v.own==c.num+1)=true∨(v.own==c.num+1)=false∧(Z=true∨Z=false)):=by
      cases (v.own==0)<;>cases (v.own==c.num+1)<;>cases Z<;>simp
     have k:((0:Int)==0)=true:=rfl;have l:=True.intro;rcases a5 with m|⟨m,k|⟨k,l|l⟩⟩;all_goals
      go_wp2_with fail;refine rlx [0,1,0,0,0,1,0,1,0,0,0,0,1] (BxR W.heap.size b ob c o v) (by kernel_rfl) (fun _ _ _ _=>rfl) ?_ ?_
      ·exact a.out.rd
      simp only[cL,cK];iterate 7 ((try simp only[pA]);first|(apply sW rfl;·(intro x;go_simp;with_reducible rfl))|(apply sR rfl;·(intro x d;obtain⟨D,m,k,l,E,H,J,I⟩:=d;go_simp;with_reducible rfl))|apply cP rfl|apply cN rfl)
      (try simp only[pA]);first
       |refine dB (v:=.int .i64 (c.num+1)) (f:=217) (args:=#[.pointer (some ⟨b,0,none⟩)]) rfl (fun x d=>by go_simp;try rfl) (fun x d=>oR x b c.num d.2.1 hn1 hn2) ?_
       |refine cN rfl ?_
      iterate 4 ((try simp only[pA]);first|(apply sW rfl;·(intro x;go_simp;with_reducible rfl))|(apply sR rfl;·(intro x d;obtain⟨D,m,k,l,E,H,J,I⟩:=d;go_simp;with_reducible rfl))|apply cP rfl|apply cN rfl)
      (try simp only[pA]);first
       |refine kU (v:=vlV v) rfl (fun x d=>cG 56 _ rfl ⟨W.heap.size,0,none⟩ rfl (vlL v) _ d.1 underlying56 rfl (by kernel_rfl)) ?_
       |refine cN rfl ?_
      refine cD ?_;(try simp only[pA]);go_wp2_with (go_at_call 238;refine a6.out.mono ?_;rintro r W4 ⟨rfl,K⟩);first
       |replace a:=cB (a.out.kept K).drew
        clear K
       |replace a:=cB a.out.drew
      first
       |refine uQ (p:=Hid (w=⟨v,2,v.own,v.tok⟩)) (cB ?_) fun HR=>?_
        ·rw[←u.out];unfold gX;simp[s.out,z.out,L.out,bq m,bq k,l]
        refine rlx [1,0,1,0,1,0,2] (BxR W.heap.size b ob c o v) (by kernel_rfl) (fun _ _ _ _=>rfl) ?_ ?_
        ·exact a.out.rd
        simp only[cL,cK];refine cM (v:=vlV v) rfl (fun x d=>cG 56 _ rfl ⟨W.heap.size,0,none⟩ rfl (vlL v) _ d.1 underlying56 rfl (by kernel_rfl)) ?_;(try simp only[pA])
        repeat(first|(apply sW rfl;·(intro x;go_simp;with_reducible rfl))|(apply sR rfl;·(intro x d;obtain⟨D,m,k,l,E,H,J,I⟩:=d;go_simp;with_reducible rfl)))
        (try simp only[pA]);refine dC rfl (fun C hC=>?_);refine fT 56 _ _ rfl (W.heap.size+1) 0 56 _ _ (vlL v) rfl rfl a.out.bn (by kernel_rfl) (by simp[Value.oneCell']) (by simp) rfl ?_;intro W5 i y n;obtain⟨P,X,B,K,V⟩:=a.out.st A.out.2 i;refine hC _ _ (a.out.rdS A.out.2 i) ?_;clear hC C;refine cD ?_;(try simp only[pA])
       |refine uQ (p:=Hid (w=⟨⟨c.num+1,o.att.bal,o.ttl,1⟩,1,c.num+1,o.att.bal⟩)) (cB ?_) fun HR=>?_
        ·rw[←u.out];unfold gX;simp[s.out,z.out,L.out,bq m,bq k,l]
        refine rlx [0,1,0,0,0,0,0,1,0,0,1,0,0] (BxR W.heap.size b ob c o v) (by kernel_rfl) (fun _ _ _ _=>rfl) ?_ ?_
        ·exact a.out.rd
        simp only[cL,cK];iterate 1 (first|(apply sW rfl;·(intro x;go_simp;with_reducible rfl))|(apply sR rfl;·(intro x d;obtain⟨D,m,k,l,E,H,J,I⟩:=d;go_simp;with_reducible rfl)))
        refine dB (v:=.int .i64 (c.num+1)) (f:=217) (args:=#[.pointer (some ⟨b,0,none⟩)]) rfl (fun x d=>by go_simp;try rfl) (fun x d=>oR x b c.num d.2.1 hn1 hn2) ?_;(try simp only[pA]);iterate 8 (first|(apply sW rfl;·(intro x;go_simp;with_reducible rfl))|(apply sR rfl;·(intro x d;obtain⟨D,m,k,l,E,H,J,I⟩:=d;go_simp;with_reducible rfl)))
        refine dB (v:=.int .i64 (c.num+1)) (f:=217) (args:=#[.pointer (some ⟨b,0,none⟩)]) rfl (fun x d=>by go_simp;try rfl) (fun x d=>oR x b c.num d.2.1 hn1 hn2) ?_;(try simp only[pA]);iterate 2 (first|(apply sW rfl;·(intro x;go_simp;with_reducible rfl))|(apply sR rfl;·(intro x d;obtain⟨D,m,k,l,E,H,J,I⟩:=d;go_simp;with_reducible rfl)))
        refine cD ?_;(try simp only[pA]);refine cH rfl 56 _ _ rfl (W.heap.size+1) 0 56 _ _ (vlL ⟨c.num+1,o.att.bal,o.ttl,1⟩) rfl rfl a.out.bn (by kernel_rfl) (by simp[Value.oneCell']) (by simp) rfl ?_;intro W5 i y n;obtain⟨P,X,B,K,V⟩:=a.out.st A.out.2 i;(try simp only[pA])
 all_goals
  go_wp2_with (first|(refine cH rfl 191 _ _ rfl (W.heap.size+2) 0 191 _ _ (pE _ _ _) rfl rfl B (by kernel_rfl) (by simp[Value.oneCell']) (by simp) rfl ?_));intro W6 O a3 U;have a0:=cB (P.fresh O (by omega));have a1:=cB (O.kept n (by simp));have a2:=cB U;clear i y n P X B K V O a3 U;go_wp2_with fail;(try simp only[Exit.inBlock,Exit.then]);exact bodyPost_ret (pZ _ results224 _ (W.heap.size+1) (W.heap.size+2) _ _ _ _ _ rfl rfl a1.out a2.out) rfl ⟨by first|rfl|(rw[HR.out]<;>rfl),a0.out⟩
theorem Bx.upd{W A B:World}{F:Nat→Prop}{b g:Nat}{f:Cf}{c:Ct}{o:On}{ch tk hd wt ob:Nat}{an mv:Value}{v:Vl}(h:Bx W A F b g f c o ch tk hd wt ob an mv v)(hk:Kt W F b g f c o ch tk hd wt ob an mv)(hc:Chg (fun k=>k=W.heap.size) A B)(u:Vl)(hb:B.heap[W.heap.size]?=some (.cells (vlL u).toArray 56 (0,0))):Bx W B F b g f c o ch tk hd wt ob an mv u:=
 have hw:Chg NoS W B:=h.chg.fresh hc (aE _)
 ⟨hw,bU h.size hc.size,hb,hc.kept h.bn (by simp),hc.kept h.be (by simp),hk.kept hw⟩
theorem aH2(a b:Int):(if b<a then b else a)=min a b:=by
 split<;>omega
section
variable (W:World) (F:Nat→Prop) (b g:Nat) (f:Cf) (c:Ct) (o:On) (ch tk hd wt ob:Nat) (an mv:Value) (v:Vl)
theorem aFH(h:Kt W F b g f c o ch tk hd wt ob an mv)(hn1:0≤c.num)(hn2:c.num≤1000)(hm:o.mine.length≤1000000000000)
 (hd1:0≤f.drift) (hd2:f.drift≤10) (ht1:0≤v.ttl) (ht2:v.ttl≤1000) (hs1:0≤v.seq) (hs2:v.seq≤2147483647) (hw1:0≤(c.wat o.lock).since) (hw2:(c.wat o.lock).since≤100000000000):
 Calls prog 225 #[.pointer (some ⟨b,0,none⟩),vlV v] W fun r W'=>r= .returned (.tuple #[vlV (lR c o v).next,sQ (lR c o v).res (lR c o v).own (lR c o v).tok])∧Chg NoS W W':=by
 have y:=h.lt;have j:=Bx.mk' (v:=v) h;generalize hX:aFa W v=W0 at j;have HX:Hid (((W.alloc (.cells #[.int .i64 v.own,.int .i64 v.tok,.int .i64 v.ttl,.int .i64 v.seq] 56)).alloc (.cells #[.int .i64 0,.int .i64 0,.int .i64 0,.int .i64 0] 56)).alloc (.cells #[.int .i64 0,.int .i64 0,.int .i64 0] 191)=W0):=hX;have L:Hid (Bx W W0 F b g f c o ch tk hd wt ob an mv v∧(b<W.heap.size∧ob<W.heap.size)):=⟨j,y⟩;have HK:=cB h;have I:∀q,oE c o v=q→Hid (Calls prog 239 #[.pointer (some ⟨b,0,none⟩),vlV v] W0 fun r W'=>r= .returned (.bool q)∧Chg NoS W0 W'):=fun q e=>e▸aB6 W0 F b g f c o ch tk hd wt ob an mv v j.kt hn1 hn2;have Z:=cB (cF j.bv);clear hX j y h;obtain⟨w,Q⟩:=aJ8 (lR c o v);rw[Q];have z:=cB Q;clear Q;obtain⟨q,O⟩:=aJ8 (oE c o v);have HO:=I q O;have N:=cB O;clear O I;go_enter func225,ntmps225;go_wp2_with (first|rw[HX.out]|(first|(refine cI rfl 56 _ rfl ⟨W.heap.size,0,none⟩ rfl (vlL v) _ Z.out underlying56 rfl (by kernel_rfl) ?_))|(go_at_call 239;refine HO.out.mono ?_;rintro r W3 ⟨rfl,t⟩;refine cE ?_));have a:=cB (L.out.1.kept t);refine cB ?_;cases q;all_goals first
  |have G:Hid (oE c o v=false):=N
   refine uQ (p:=Hid (w=⟨v,3,0,0⟩)) (cB ?_) fun HR=>?_
   ·rw[←z.out];unfold lR;simp[N.out]
   have K:=cB a.out.rd.1;go_wp2_with (first|(refine cH rfl 56 _ _ rfl (W.heap.size+1) 0 56 _ _ (vlL v) rfl rfl a.out.bn (by kernel_rfl) (by simp[Value.oneCell']) (by simp) rfl ?_)|(refine cI rfl 56 _ rfl ⟨W.heap.size,0,none⟩ rfl (vlL v) _ K.out underlying56 rfl (by kernel_rfl) ?_));intro W5 i E n;obtain⟨M,k2,t,k4,k5⟩:=a.out.st L.out.2 i
  |have w1:IntKind.i64.wrap (v.seq+1)=v.seq+1:=dZ (by omega) (by omega)
   obtain⟨m,B⟩:=aJ8 (min (v.seq+1) 2147483647);have H:=cB B;clear B;refine uQ (p:=Hid (w=⟨⟨v.own,v.tok,o.ttl,m⟩,1,c.num+1,v.tok⟩)) (cB ?_) fun HR=>?_
   ·rw[←z.out];unfold lR;simp[N.out,H.out]
   replace a:=cB a.out.drew;go_wp2_with fail;refine rlx [0,0,0,1,0,0,0,1,0,1,0,0,0] (BxR W.heap.size b ob c o v) (by kernel_rfl) (fun _ _ _ _=>rfl) ?_ ?_
   ·exact a.out.rd
   simp only[cL,cK];iterate 13 (first|(apply sW rfl;·(intro x;go_simp;with_reducible rfl))|(apply sR rfl;·(intro x k;obtain⟨h0,h1,h2,h3,h4,h5,h6,h7⟩:=k;go_simp;with_reducible rfl)))
   refine cD ?_;(try simp only[pA]);try rw[aH2]
   try rw[H.out]
   generalize W3.drew=Wd at a⊢;have u:=a.out;have n2:=cC u.bv 2 _ rfl;have z2:=cV u.bv 2;have P:=cZ Wd W.heap.size 2 (.int .i64 o.ttl);have d:=u.upd HK.out P ⟨v.own,v.tok,o.ttl,v.seq⟩ (cU u.bv 2 _);generalize A:Wd.setCell ⟨W.heap.size,2,none⟩ (.int .i64 o.ttl)=W4 at P d;have Y:=cB A;have n3:=cC d.bv 3 _ rfl;have z3:=cV d.bv 3;have R:=cZ W4 W.heap.size 3 (.int .i64 m);have l:=d.upd HK.out R ⟨v.own,v.tok,o.ttl,m⟩ (cU d.bv 3 _);generalize D:W4.setCell ⟨W.heap.size,3,none⟩ (.int .i64 m)=W5 at R l;have T:=cB D;replace a:=cB l.drew;clear u d l A D P R;go_wp2_with (first|rw[Y.out]|rw[T.out]);clear n2 z2 n3 z3;refine rlx [1,0,1,0,1,0,2] (BxR W.heap.size b ob c o ⟨v.own,v.tok,o.ttl,m⟩) (by kernel_rfl) (fun _ _ _ _=>rfl) ?_ ?_
   ·exact a.out.rd
   simp only[cL,cK];refine cM (v:=vlV ⟨v.own,v.tok,o.ttl,m⟩) rfl (fun x k=>cG 56 _ rfl ⟨W.heap.size,0,none⟩ rfl (vlL ⟨v.own,v.tok,o.ttl,m⟩) _ k.1 underlying56 rfl (by kernel_rfl)) ?_;(try simp only[pA])
   repeat(first|(apply sW rfl;·(intro x;go_simp;with_reducible rfl))|(apply sR rfl;·(intro x k;obtain⟨h0,h1,h2,h3,h4,h5,h6,h7⟩:=k;go_simp;with_reducible rfl)))
   refine dB (v:=.int .i64 (c.num+1)) (f:=217) (args:=#[.pointer (some ⟨b,0,none⟩)]) rfl (fun x k=>by go_simp;try rfl) (fun x k=>oR x b c.num k.2.1 hn1 hn2) ?_;(try simp only[pA])
   repeat(first|(apply sW rfl;·(intro x;go_simp;with_reducible rfl))|(apply sR rfl;·(intro x k;obtain⟨h0,h1,h2,h3,h4,h5,h6,h7⟩:=k;go_simp;with_reducible rfl)))
   (try simp only[pA]);refine dC rfl (fun C hC=>?_);refine fT 56 _ _ rfl (W.heap.size+1) 0 56 _ _ (vlL ⟨v.own,v.tok,o.ttl,m⟩) rfl rfl a.out.bn (by kernel_rfl) (by simp[Value.oneCell']) (by simp) rfl ?_;intro W5 i E n;obtain⟨M,k2,t,k4,k5⟩:=a.out.st L.out.2 i;refine hC _ _ (a.out.rdS L.out.2 i) ?_;clear hC C;refine cD ?_;(try simp only[pA])
 all_goals
  go_wp2_with (first|(refine cH rfl 191 _ _ rfl (W.heap.size+2) 0 191 _ _ (pE _ _ _) rfl rfl t (by kernel_rfl) (by simp[Value.oneCell']) (by simp) rfl ?_));intro W6 s X J;have S:=cB (M.fresh s (by omega));have U:=cB (s.kept n (by simp));have V:=cB J;clear i E n M k2 t k4 k5 s X J;go_wp2_with fail;(try simp only[Exit.inBlock,Exit.then]);exact bodyPost_ret (pZ _ results225 _ (W.heap.size+1) (W.heap.size+2) _ _ _ _ _ rfl rfl U.out V.out) rfl ⟨by first|rfl|(rw[HR.out]<;>rfl),S.out⟩
theorem aCD(h:Kt W F b g f c o ch tk hd wt ob an mv)(hn1:0≤c.num)(hn2:c.num≤1000)(hm:o.mine.length≤1000000000000)
 (hd1:0≤f.drift) (hd2:f.drift≤10) (ht1:0≤v.ttl) (ht2:v.ttl≤1000) (hs1:0≤v.seq) (hs2:v.seq≤2147483647) (hw1:0≤(c.wat o.lock).since) (hw2:(c.wat o.lock).since≤100000000000):
 Calls prog 226 #[.pointer (some ⟨b,0,none⟩),vlV v] W fun r W'=>r= .returned (.tuple #[vlV (gR c o v).next,sQ (gR c o v).res (gR c o v).own (gR c o v).tok])∧Chg NoS W W':=by
 have H:=h.lt;have d:=Bx.mk' (v:=v) h;generalize hX:aFa W v=W0 at d;have HX:Hid (((W.alloc (.cells #[.int .i64 v.own,.int .i64 v.tok,.int .i64 v.ttl,.int .i64 v.seq] 56)).alloc (.cells #[.int .i64 0,.int .i64 0,.int .i64 0,.int .i64 0] 56)).alloc (.cells #[.int .i64 0,.int .i64 0,.int .i64 0] 191)=W0):=hX;have B:Hid (Bx W W0 F b g f c o ch tk hd wt ob an mv v∧(b<W.heap.size∧ob<W.heap.size)):=⟨d,H⟩;obtain⟨p,b4,rfl,b0,_⟩:=aBR d.kt.on.2.2.2.1;have a9:=h.on.2.2.2.1;have a8:=d.kt.cl.cell 16 _ rfl;have v0:W0.cell? ⟨W.heap.size,0,none⟩=some (.int .i64 v.own):=cC d.bv 0 _ rfl;have v3:W0.cell? ⟨W.heap.size,3,none⟩=some (.int .i64 v.seq):=cC d.bv 3 _ rfl;have J:∀q,oE c o v=q→Hid (Calls prog 239 #[.pointer (some ⟨b,0,none⟩),vlV v] W0 fun r W'=>r= .returned (.bool q)∧Chg NoS W0 W'):=fun q e=>e▸aB6 W0 F b g f c o ch tk hd wt ob an _ v d.kt hn1 hn2;have a7:=cB (cF d.bv);clear hX d H h;obtain⟨w,V⟩:=aJ8 (gR c o v);rw[V];have n:=cB V;clear V;obtain⟨q,P⟩:=aJ8 (oE c o v);have HO:=J q P;have D:=cB P;obtain⟨Z,K⟩:=aJ8 (qK o v.seq);have u:=cB K;clear P J K;go_enter func226,ntmps226;go_wp2_with (first|rw[HX.out]|(first|(refine cI rfl 56 _ rfl ⟨W.heap.size,0,none⟩ rfl (vlL v) _ a7.out underlying56 rfl (by kernel_rfl) ?_))|(go_at_call 239;refine HO.out.mono ?_;rintro r E ⟨rfl,A⟩;refine cE ?_));have a:=cB (B.out.1.kept A);refine cB ?_;clear a8 v0 v3;have u0:E.cell? ⟨W.heap.size,0,none⟩=some (.int .i64 v.own):=cC a.out.bv 0 _ rfl
 have u1:E.cell? ⟨W.heap.size,1,none⟩=some (.int .i64 v.tok):=cC a.out.bv 1 _ rfl;have u3:E.cell? ⟨W.heap.size,3,none⟩=some (.int .i64 v.seq):=cC a.out.bv 3 _ rfl;cases q;all_goals first
  |have G:Hid (oE c o v=true):=D
   refine uQ (p:=Hid (w=⟨⟨0,v.tok,0,o.att.bal⟩,1,c.num+1,v.tok⟩)) (cB ?_) fun HR=>?_
   ·rw[←n.out];unfold gR;simp[D.out]
   replace a:=cB a.out.drew;go_wp2_with fail;clear u0 u1 u3;refine rlx [0,1,0,0,0,0,1,0,0,1,0,1,0,2] (BxR W.heap.size b ob c o v) (by kernel_rfl) (fun _ _ _ _=>rfl) ?_ ?_
   ·exact a.out.rd
   simp only[cL,cK];iterate 9 (first|(apply sW rfl;·(intro x;go_simp;with_reducible rfl))|(apply sR rfl;·(intro x j;obtain⟨O,m,l,Y,Q,R,h6,S⟩:=j;go_simp;with_reducible rfl)))
   refine dB (v:=.int .i64 (c.num+1)) (f:=217) (args:=#[.pointer (some ⟨b,0,none⟩)]) rfl (fun x j=>by go_simp;try rfl) (fun x j=>oR x b c.num j.2.1 hn1 hn2) ?_;(try simp only[pA]);iterate 3 (first|(apply sW rfl;·(intro x;go_simp;with_reducible rfl))|(apply sR rfl;·(intro x j;obtain⟨O,m,l,Y,Q,R,h6,S⟩:=j;go_simp;with_reducible rfl)))
   (try simp only[pA]);refine dC rfl (fun C hC=>?_);refine fT 56 _ _ rfl (W.heap.size+1) 0 56 _ _ (vlL ⟨0,v.tok,0,o.att.bal⟩) rfl rfl a.out.bn (by kernel_rfl) (by simp[Value.oneCell']) (by simp) rfl ?_;intro W5 i y t;obtain⟨N,k2,A,k4,T⟩:=a.out.st B.out.2 i;refine hC _ _ (a.out.rdS B.out.2 i) ?_;clear hC C;refine cD ?_;(try simp only[pA])
  |have k:=zM E F ob an _ o v.seq a.out.kt.on hm
   rw[u.out]at k;have I:=cB k;clear k;have a5:(v.own==0)=true∧(Z=true∨Z=false)∨(v.own==0)=false:=by cases (v.own==0)<;>cases Z<;>simp
   have a6:Hid (0<o.mine.length∧(0:Int)<(o.mine.length:Int)∧((v.tok !=c.toks o.lock)=true∨(v.tok !=c.toks o.lock)=false)∨o.mine.length=0):=cB (by
    rcases Nat.eq_zero_or_pos o.mine.length with h|h
    ·exact Or.inr h
    ·exact Or.inl ⟨h,by omega,by cases (v.tok !=c.toks o.lock)<;>simp⟩)
   have l:=True.intro;have s:((0:Int) !=0)=false:=rfl;have X:=True.intro;have U:=True.intro;rcases a5 with⟨m,l|l⟩|m;all_goals
    go_wp2_with (first|(go_at_call 236;refine I.out.mono ?_;rintro r w' ⟨rfl,hW⟩;have a4:=hW.symm;subst a4;clear hW;refine cE ?_));try(refine cB ?_;go_wp2_with fail)
    first
     |refine uQ (p:=Hid (w=⟨v,1,c.num+1,v.tok⟩)) (cB ?_) fun HR=>?_
      ·rw[←n.out];unfold gR;simp[D.out,u.out,bq m,l]
      clear u0 u1 u3;replace a:=cB a.out.drew;refine rlx [1,0,1,0,1,0,2] (BxR W.heap.size b ob c o v) (by kernel_rfl) (fun _ _ _ _=>rfl) ?_ ?_
      ·exact a.out.rd
      simp only[cL,cK];refine cM (v:=vlV v) rfl (fun x j=>cG 56 _ rfl ⟨W.heap.size,0,none⟩ rfl (vlL v) _ j.1 underlying56 rfl (by kernel_rfl)) ?_;(try simp only[pA])
      repeat(first|(apply sW rfl;·(intro x;go_simp;with_reducible rfl))|(apply sR rfl;·(intro x j;obtain⟨O,m,l,Y,Q,R,h6,S⟩:=j;go_simp;with_reducible rfl)))
      refine dB (v:=.int .i64 (c.num+1)) (f:=217) (args:=#[.pointer (some ⟨b,0,none⟩)]) rfl (fun x j=>by go_simp;try rfl) (fun x j=>oR x b c.num j.2.1 hn1 hn2) ?_;(try simp only[pA])
      repeat(first|(apply sW rfl;·(intro x;go_simp;with_reducible rfl))|(apply sR rfl;·(intro x j;obtain⟨O,m,l,Y,Q,R,h6,S⟩:=j;go_simp;with_reducible rfl)))
      (try simp only[pA]);refine dC rfl (fun C hC=>?_);refine fT 56 _ _ rfl (W.heap.size+1) 0 56 _ _ (vlL v) rfl rfl a.out.bn (by kernel_rfl) (by simp[Value.oneCell']) (by simp) rfl ?_;intro W5 i y t;obtain⟨N,k2,A,k4,T⟩:=a.out.st B.out.2 i;refine hC _ _ (a.out.rdS B.out.2 i) ?_;clear hC C;refine cD ?_;(try simp only[pA])
     |rcases a6.out with⟨X,b5,s|s⟩|U
      all_goals
       first
        |refine uQ (p:=Hid (w=⟨zVl,5,0,0⟩)) (cB ?_) fun HR=>?_
         ·rw[←n.out];unfold gR;simp[D.out,u.out,bq m,l,X,bn s,U]
        |refine uQ (p:=Hid (w=⟨v,3,0,0⟩)) (cB ?_) fun HR=>?_
         ·rw[←n.out];unfold gR;simp[D.out,u.out,bq m,l,X,bn s,U]
       clear m l I;have b3:=cC a.out.kt.on.1 17 _ rfl;have t1:=cC a.out.kt.on.1 1 _ rfl;have b2:=a.out.kt.cl.cell 13 _ rfl;have b1:=MapI.get (W:=E.drew) a.out.kt.cl.maps.toks o.lock;refine dJ [0,0,0,1,1,0,0,0,1,0,0,0,1,0,0,0,0,1,1,0,0,0] (by kernel_rfl) (fun _ _ _ _=>rfl) ?_;simp only[cL,cK];iterate 22 ((try simp only[pA]);first|(apply sB rfl rfl;·(intro x h;(try cases h rfl);go_simp;with_reducible rfl))|apply cP rfl|apply cN rfl)
       refine cD ?_;try simp only[pA]
       replace a:=cB a.out.drew;have M:=cB a.out.rd.1;go_wp2_with (first|(refine cH rfl 56 _ _ rfl (W.heap.size+1) 0 56 _ _ (vlL ⟨_,_,_,_⟩) rfl rfl a.out.bn (by kernel_rfl) (by simp[Value.oneCell']) (by simp) rfl ?_)|(refine cI rfl 56 _ rfl ⟨W.heap.size,0,none⟩ rfl (vlL v) _ M.out underlying56 rfl (by kernel_rfl) ?_));intro W5 i y t;obtain⟨N,k2,A,k4,T⟩:=a.out.st B.out.2 i
 all_goals
  go_wp2_with (first|(refine cH rfl 191 _ _ rfl (W.heap.size+2) 0 191 _ _ (pE _ _ _) rfl rfl A (by kernel_rfl) (by simp[Value.oneCell']) (by simp) rfl ?_));intro W6 z a3 L;have a0:=cB (N.fresh z (by omega));have a1:=cB (z.kept t (by simp));have a2:=cB L;clear i y t N k2 A k4 T z a3 L;go_wp2_with fail;(try simp only[Exit.inBlock,Exit.then]);exact bodyPost_ret (pZ _ results226 _ (W.heap.size+1) (W.heap.size+2) _ _ _ _ _ rfl rfl a1.out a2.out) rfl ⟨by first|rfl|(rw[HR.out]<;>rfl),a0.out⟩
theorem aB5(h:Kt W F b g f c o ch tk hd wt ob an mv)(hn1:0≤c.num)(hn2:c.num≤1000)(hm:o.mine.length≤1000000000000)
 (hd1:0≤f.drift) (hd2:f.drift≤10) (ht1:0≤v.ttl) (ht2:v.ttl≤1000) (hs1:0≤v.seq) (hs2:v.seq≤2147483647) (hw1:0≤(c.wat o.lock).since) (hw2:(c.wat o.lock).since≤100000000000):
 Calls prog 201 #[.pointer (some ⟨b,0,none⟩),vlV v] W fun r W'=>r= .returned (.tuple #[vlV (dD f c o v).next,sQ (dD f c o v).res (dD f c o v).own (dD f c o v).tok])∧Chg NoS W W':=by
 have y:=h.lt;have a:=Bx.mk' (v:=v) h;generalize M:aFa W v=W0 at a;have R:Hid (((W.alloc (.cells #[.int .i64 v.own,.int .i64 v.tok,.int .i64 v.ttl,.int .i64 v.seq] 56)).alloc (.cells #[.int .i64 0,.int .i64 0,.int .i64 0,.int .i64 0] 56)).alloc (.cells #[.int .i64 0,.int .i64 0,.int .i64 0] 191)=W0):=M;have u:Hid (Bx W W0 F b g f c o ch tk hd wt ob an mv v∧(b<W.heap.size∧ob<W.heap.size)):=⟨a,y⟩;have L:=cB (cF a.bv);have U:=a.kt.cl.cell 16 _ rfl;have o0:=cC a.kt.on.1 0 _ rfl;have n:=cB a.kt;clear M a y h;obtain⟨w,D⟩:=aJ8 (dD f c o v);rw[D];have m:=cB D;clear D;have H:(o.kind==1)=true∨(o.kind==1)=false∧((o.kind==2)=true∨(o.kind==2)=false∧((o.kind==3)=true∨(o.kind==3)=false)):=by
  cases (o.kind==1)<;>cases (o.kind==2)<;>cases (o.kind==3)<;>simp
 have i:((0:Int)==0)=true:=rfl;have j:((0:Int)==0)=true:=rfl;rcases H with k|⟨k,i|⟨i,j|j⟩⟩;all_goals first
  |first
    |have e:=aB9 W0 F b g f c o ch tk hd wt ob an mv v n.out hn1 hn2 hm hd1 hd2 ht1 ht2 hs1 hs2 hw1 hw2
     refine uQ (p:=gX f c o v=w) ?_ fun hA=>?_
     ·rw[←m.out];unfold dD;simp[bq k,bq i,bq j]
     rw[hA]at e;clear hA
    |have e:=aFH W0 F b g f c o ch tk hd wt ob an mv v n.out hn1 hn2 hm hd1 hd2 ht1 ht2 hs1 hs2 hw1 hw2
     refine uQ (p:=lR c o v=w) ?_ fun hA=>?_
     ·rw[←m.out];unfold dD;simp[bq k,bq i,bq j]
     rw[hA]at e;clear hA
    |have e:=aCD W0 F b g f c o ch tk hd wt ob an mv v n.out hn1 hn2 hm hd1 hd2 ht1 ht2 hs1 hs2 hw1 hw2
     refine uQ (p:=gR c o v=w) ?_ fun hA=>?_
     ·rw[←m.out];unfold dD;simp[bq k,bq i,bq j]
     rw[hA]at e;clear hA
   have S:=cB e;have O:Hid (w=w):=cB rfl;clear e n;go_enter func201,ntmps201;go_wp2_with (first|rw[R.out]|(refine cI rfl 56 _ rfl ⟨W.heap.size,0,none⟩ rfl (vlL v) _ L.out underlying56 rfl (by kernel_rfl) ?_)|((first|go_at_call 224|go_at_call 225|go_at_call 226);refine S.out.mono ?_;rintro r W3 ⟨rfl,t⟩;refine cE ?_));have d:=cB (u.out.1.kept t);refine cB ?_;go_wp2_with (first|(refine cH rfl 56 _ _ rfl (W.heap.size+1) 0 56 _ _ (vlL w.next) rfl rfl d.out.bn (by kernel_rfl) (by simp[Value.oneCell']) (by simp) rfl ?_));intro T l z q;obtain⟨B,P,t,Q,N⟩:=d.out.st u.out.2 l
  |refine uQ (p:=Hid (w=⟨v,4,v.own,v.tok⟩)) (cB ?_) fun O=>?_
   ·rw[←m.out];unfold dD;simp[bq k,bq i,bq j]
   go_enter func201,ntmps201;go_wp2_with (first|rw[R.out]);have d:=cB u.out.1.drew;refine rlx [1,0,1,0,1,0,2] (BxR W.heap.size b ob c o v) (by kernel_rfl) (fun _ _ _ _=>rfl) ?_ ?_
   ·exact d.out.rd
   simp only[cL,cK];refine cM (v:=vlV v) rfl (fun x E=>cG 56 _ rfl ⟨W.heap.size,0,none⟩ rfl (vlL v) _ E.1 underlying56 rfl (by kernel_rfl)) ?_;(try simp only[pA])
   repeat(first|(apply sW rfl;·(intro x;go_simp;with_reducible rfl))|(apply sR rfl;·(intro x E;obtain⟨X,Z,V,h3,Y,h5,h6,h7⟩:=E;go_simp;with_reducible rfl)))
   (try simp only[pA]);refine dC rfl (fun C hC=>?_);refine fT 56 _ _ rfl (W.heap.size+1) 0 56 _ _ (vlL v) rfl rfl d.out.bn (by kernel_rfl) (by simp[Value.oneCell']) (by simp) rfl ?_;intro T l z q;obtain⟨B,P,t,Q,N⟩:=d.out.st u.out.2 l;refine hC _ _ (d.out.rdS u.out.2 l) ?_;clear hC C;refine cD ?_;(try simp only[pA])
 all_goals
  go_wp2_with (first|(refine cH rfl 191 _ _ rfl (W.heap.size+2) 0 191 _ _ (pE _ _ _) rfl rfl t (by kernel_rfl) (by simp[Value.oneCell']) (by simp) rfl ?_));intro W6 s K A;have G:=cB (B.fresh s (by omega));have I:=cB (s.kept q (by simp));have J:=cB A;clear l z q B P t Q N s K A;go_wp2_with fail;(try simp only[Exit.inBlock,Exit.then]);exact bodyPost_ret (pZ _ results201 _ (W.heap.size+1) (W.heap.size+2) _ _ _ _ _ rfl rfl I.out J.out) rfl ⟨by first|rfl|(rw[O.out]<;>rfl),G.out⟩
end
abbrev vT(xs:List Int):List Value:=xs.map (Value.int .u8)
section
variable (r:Rw) (w:World)
theorem aJN(hno:okB r=false):
 Calls prog 100 #[rwV r] w fun e w'=>e= .returned (.string (strOfNums []))∧Below w.heap.size w w':=by
 have c:=fun W=>vG r W;obtain⟨l,p,a,o,t,u,q⟩:=r;go_enter func100,ntmps100;go_wp2_with (go_at_call 140;refine(c _).mono ?_;rintro e d ⟨rfl,b⟩);go_ret;exact⟨rfl,((aJ _ w).alloc (aE _) _).trans (b.mono (by simp))⟩
theorem aJt(hok:okB r=true):
 Calls prog 100 #[rwV r] w fun e w'=>e= .returned (.string (strOfNums (mV r)))∧Below w.heap.size w w':=by
 have hw:=fun W=>vG r W;obtain⟨l,p,a,o,t,u,q⟩:=r;rw[hok]at hw;simp only[okB,aR,aM,wrB]at hok;obtain⟨i0,hi,O,Q,a7⟩:=info_parts aEM;have HW:=cB hw;clear hw;have hl:0≤l∧l<4:=by omega
 have ho:0≤o∧o<5:=by omega
 have hp:0≤p∧p≤2147483647:=by omega
 have ha:0≤a∧a≤2147483647:=by omega
 have ht:0≤t∧t≤2147483647:=by omega
 have hu:0≤u∧u≤2147483647:=by omega
 have hq:0≤q∧q≤2147483647:=by omega
 clear hok;have N:Hid (∀W,Below (w.heap.size+1) (w.alloc (.cells #[.int .i64 l,.int .i64 p,.int .i64 a,.int .i64 o,.int .i64 t,.int .i64 u,.int .i64 q] 58)) W→∀j v,(#[Value.int .i64 l,.int .i64 p,.int .i64 a,.int .i64 o,.int .i64 t,.int .i64 u,.int .i64 q]:Array Value)[j]?=some v→W.cell? ⟨w.heap.size,j,none⟩=some v):=by
  intro W hB j v k;rw[hB.cell (p:=⟨w.heap.size,j,none⟩) (by simp)];simpa using k
 generalize a5:w.alloc (.cells #[.int .i64 l,.int .i64 p,.int .i64 a,.int .i64 o,.int .i64 t,.int .i64 u,.int .i64 q] 58)=W0 at N;have hz:W0.heap.size=w.heap.size+1:=by rw[←a5];simp
 have b0:=cB a5;clear a5;go_enter func100,ntmps100;go_wp2_with (first
  |(go_at_call 140;rw[b0.out];refine(HW.out _).mono ?_;rintro e w1 ⟨rfl,R⟩)
  |(at_make;refine wpList_make_own _ rfl _ _ 218 rfl (w.heap.size+1) 5 i0 (.int .u8 0) 1 underlying218 hi O Q .i64 .i64 25 25 rfl rfl rfl (by omega) (by unfold maxLen;omega) (by have:=R.size;omega) ?_;intro w2 d b2;have c0:w.heap.size+1≤w1.heap.size:=by{have:=R.size;omega};have a2:Below (w.heap.size+1) W0 w2:=(R.mono (by omega)).grown b2 c0 (fun j k=>by cases k);have b5:w.heap.size+1≤w2.heap.size:=by{have:=b2.size;omega};have c2:w2.cell? ⟨w.heap.size,0,none⟩=some (.int .i64 l):=N.out _ a2 0 _ rfl;clear R b2 c0)
  |(at_builtin;refine wpList_append_own_at _ rfl _ _ 218 rfl (w.heap.size+1) 5 i0 (.int .u8 0) 1 1 underlying218 hi O Q a7 rfl (by decide) _ _ _ rfl (d.alloc _) ⟨w2.heap.size,0,none⟩ 2 2 [.int .u8 82,.int .u8 l] rfl rfl ?qa ?qb ?qc ?qd ?qe ?_))
 case qa=>exact rK _ _ _
 case qb=>intro x T;simp at T;rcases T with rfl|rfl<;>rfl
 case qc=>unfold maxLen;omega
 case qd=>omega
 case qe=>simp;omega
 intro v3 w3 H a0 _ _;have Z:=(a2.alloc b5 _).grown a0 (by simp;omega) (fun j k=>(d.lt j k).1);have b3:w.heap.size+1≤w3.heap.size:=by have:=a0.size;simp at this;omega
 clear a0 d a2 b5 c2;have c3:w3.cell? ⟨w.heap.size,1,none⟩=some (.int .i64 p):=N.out _ Z 1 _ rfl;go_wp2_with fail;refine(iS (w.heap.size+1) v3 2 _ p w3 H (by omega) hp.1 hp.2 b3).mono ?_;rintro e w4 ⟨v4,rfl,G,z⟩;have a1:=Z.trans z;have b8:w.heap.size+1≤w4.heap.size:=by have:=z.size;omega
 clear z H Z b3 c3;have c4:w4.cell? ⟨w.heap.size,2,none⟩=some (.int .i64 a):=N.out _ a1 2 _ rfl;go_wp2_with fail;refine(iS (w.heap.size+1) v4 6 _ a w4 G (by omega) ha.1 ha.2 b8).mono ?_;rintro e w5 ⟨v5,rfl,i,E⟩;have a6:=a1.trans E;have b6:w.heap.size+1≤w5.heap.size:=by have:=E.size;omega
 clear E G a1 b8 c4;have c5:w5.cell? ⟨w.heap.size,3,none⟩=some (.int .i64 o):=N.out _ a6 3 _ rfl;go_wp2_with (at_builtin;refine wpList_append_own_at _ rfl _ _ 218 rfl (w.heap.size+1) 5 i0 (.int .u8 0) 1 1 underlying218 hi O Q a7 rfl (by decide) _ _ _ rfl (i.alloc _) ⟨w5.heap.size,0,none⟩ 1 1 [.int .u8 o] rfl rfl ?qa ?qb ?qc ?qd ?qe ?_)
 case qa=>exact rK _ _ _
 case qb=>intro x T;simp at T;subst T;rfl
 case qc=>unfold maxLen;omega
 case qd=>omega
 case qe=>simp;omega
 intro v6 w6 F a8 _ _;have a3:=(a6.alloc b6 _).grown a8 (by simp;omega) (fun j k=>(i.lt j k).1);have b4:w.heap.size+1≤w6.heap.size:=by have:=a8.size;simp at this;omega
 clear a8 i a6 b6 c5;have c6:w6.cell? ⟨w.heap.size,4,none⟩=some (.int .i64 t):=N.out _ a3 4 _ rfl;go_wp2_with fail;refine(iS (w.heap.size+1) v6 11 _ t w6 F (by omega) ht.1 ht.2 b4).mono ?_;rintro e w7 ⟨v7,rfl,K,D⟩;have b1:=a3.trans D;have c9:w.heap.size+1≤w7.heap.size:=by have:=D.size;omega
 clear D F a3 b4 c6;have c7:w7.cell? ⟨w.heap.size,5,none⟩=some (.int .i64 u):=N.out _ b1 5 _ rfl;go_wp2_with fail;refine(iS (w.heap.size+1) v7 15 _ u w7 K (by omega) hu.1 hu.2 c9).mono ?_;rintro e w8 ⟨v8,rfl,M,B⟩;have a9:=b1.trans B;have b7:w.heap.size+1≤w8.heap.size:=by have:=B.size;omega
 clear B K b1 c9 c7;have c8:w8.cell? ⟨w.heap.size,6,none⟩=some (.int .i64 q):=N.out _ a9 6 _ rfl;go_wp2_with fail;refine(iS (w.heap.size+1) v8 19 _ q w8 M (by omega) hq.1 hq.2 b7).mono ?_;rintro e w9 ⟨v9,rfl,I,C⟩;have d2:=a9.trans C;have d0:w.heap.size+1≤w9.heap.size:=by have:=C.size;omega
 clear C M a9 b7 c8;have e1:fK l 1=[l]:=by simp only[fK];rw[show l % 256=l by omega]
 have e2:fK o 1=[o]:=by simp only[fK];rw[show o % 256=o by omega]
 have c:w9.ownsRow (w.heap.size+1) 5 1 v9 23 (vT (kK ⟨l,p,a,o,t,u,q⟩)):=by
  have h:=I;simpa[kK,e1,e2,vT]using h
 clear I e1 e2 N HW hl ho hp ha ht hu hq;have A:=vF ⟨l,p,a,o,t,u,q⟩;have f:=yJ ⟨l,p,a,o,t,u,q⟩;have U:mV ⟨l,p,a,o,t,u,q⟩=kK ⟨l,p,a,o,t,u,q⟩++fK (mM (kK ⟨l,p,a,o,t,u,q⟩) 0 0) 2:=rfl;have HR:=cB U;clear U;generalize kK ⟨l,p,a,o,t,u,q⟩=L at c A f HR;have m:=cB A;have d3:=cB f;clear A f;rcases c.2 with⟨_,h0⟩|⟨g,d9,e3,rfl,_⟩
 ·omega
 have J:∀j,j<L.length→w9.cell? ⟨g,j,none⟩=some (.int .u8 (L.getD j 0)):=by
  intro j k;rw[c.cellAt j (by rw[m.out]at k;omega),vT,List.getElem?_map,aP k,aQ,aP k]
  rfl
 have n:=aIh g d9 L w9 J d3.out (by rw[m.out];omega);rw[m.out]at n;have d1:=zA L 0 0 (by omega) (by omega);generalize mM L 0 0=S at n d1 HR;clear J;go_wp2_with fail;refine n.mono ?_;rintro e y ⟨rfl,d4⟩;obtain rfl:w9=y:=d4.symm;clear n;go_wp2_with (at_builtin;refine wpList_append_own_at _ rfl _ _ 218 rfl (w.heap.size+1) 5 i0 (.int .u8 0) 1 1 underlying218 hi O Q a7 rfl (by decide) _ _ _ rfl (c.alloc _) ⟨w9.heap.size,0,none⟩ 2 2 [.int .u8 (S % 256),.int .u8 (S / 256)] rfl rfl ?qa ?qb ?qc ?qd ?qe ?_)
 case qa=>exact rK _ _ _
 case qb=>intro x T;simp at T;rcases T with rfl|rfl<;>rfl
 case qc=>unfold maxLen;omega
 case qd=>omega
 case qe=>simp;omega
 intro d7 y s Y _ _;have V:=(d2.alloc d0 _).grown Y (by simp;omega) (fun j k=>(c.lt j k).1);have a4:=oK ⟨l,p,a,o,t,u,q⟩;have b9:fK S 2=[S % 256,S / 256]:=by simp only[fK];rw[show S / 256 % 256=S / 256 by omega]
 have b:y.ownsRow (w.heap.size+1) 5 1 d7 25 (vT (mV ⟨l,p,a,o,t,u,q⟩)):=by
  rw[HR.out,b9];have h:=s;simpa[vT]using h
 have d6:Below w.heap.size w y:=by
  have h:=((aJ w.heap.size w).alloc (aE _) (.cells #[.int .i64 l,.int .i64 p,.int .i64 a,.int .i64 o,.int .i64 t,.int .i64 u,.int .i64 q] 58));rw[b0.out]at h;exact h.trans (V.mono (by omega))
 clear s Y d2 d0 c HR b9 d1 m d3 b0 V;generalize c1:mV ⟨l,p,a,o,t,u,q⟩=X at b a4;have d8:=cB c1;clear c1;rcases b.2 with⟨_,h0⟩|⟨g2,d5,e0,rfl,_⟩
 ·omega
 have HX:=cB a4;clear a4;have kc:=run_convert_bytes_arg (P:=prog) y 218 5 underlying218 underlying5 g2 0 25 d5 X HX.out (fun j k=>by
  rw[Nat.zero_add,b.cellAt j (by omega),vT,List.getElem?_map,aP (by rw[HX.out];omega),aQ,aP (by rw[HX.out];omega)]
  rfl) 9 underlying9
 clear b;go_wp2;go_ret;exact⟨by rw[d8.out];rfl,d6⟩
theorem aDn:
 Calls prog 100 #[rwV r] w fun e w'=>e= .returned (.string (strOfNums (dR r)))∧Below w.heap.size w w':=by
 unfold dR;by_cases h:okB r=true
 ·rw[if_pos h];exact aJt r w h
 ·rw[if_neg h];exact aJN r w (by simpa using h)
end
end Go.Proofs.YtbbdgokdfhdpiaaGreatDoor
