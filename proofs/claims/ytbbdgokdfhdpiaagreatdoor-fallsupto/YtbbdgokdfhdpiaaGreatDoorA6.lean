/- A part. -/
import Derived.ChangeMaps5
import Derived.Conc.LoneSelect
import Derived.Deep.DrawnRows
import Derived.KernelRfl
import Derived.MapKept
import Derived.OwnWalk
import Derived.Shelf.Strings.Builder1
import Derived.Test.YtbbdgokdfhdpiaaGreatDoorA4
namespace Go.Proofs.YtbbdgokdfhdpiaaGreatDoor
set_option linter.all false
set_option maxRecDepth 100000
set_option maxHeartbeats 0
open Go.Proofs.Tryz Go.RowKit
section
open Go.RowKit Go.Maps Go.Sort Go.Shelf
theorem aKQ(m:Nat):AnyZI.SortsIn prog sortedA_ren Fence.wide m:=
 ⟨fun blk off cap ss W hH hblk hsz=>callsIn_wide.2 (AnyM.slices_Sort_int sortA blk off cap ss W hH hblk hsz),
  fun p cap W=>callsIn_wide.2 (AnyM.slices_Sort_int_none sortA p cap W)⟩
theorem aIZ(mb:Option Nat)(W:World):
 Calls prog 99 #[.map mb] W fun e w'=>e= .returned (.func (.func 139) #[] #[.pointer (some ⟨W.heap.size,0,none⟩)])∧w'=W.alloc (.cells #[.map mb] 118):=
 (callsIn_wide (n:=5)).1 (AnyZI.keys_in keysA Fence.wide 5 trivial rfl mb W)
theorem aFE(b nn:Nat)(D0:DataW Unit)(R:Value→Option (DataW Unit×List MemPlace))(w:World)(hown:w.ownsMap prog 3 R b nn D0)(hmax:Maps.size D0≤1000000000000):
 Calls prog 98 #[.func (.func 139) #[] #[.pointer (some ⟨w.heap.size,0,none⟩)]] (w.alloc (.cells #[.map (some b)] 118)) fun e w'=>∃(v:Value) (ss:List Int),e= .returned v∧ss.Perm (intKeys D0)∧
  w'.ownsRow w.heap.size 3 1 v ss.length ((ss.mergeSort (fun x y=>decide (x≤y))).map encZ)∧Below w.heap.size w w':=by
 have g:=hown.lt;have c:SeqGives Fence.wide 2 prog 139 #[.pointer (some ⟨w.heap.size,0,none⟩)] encZ (fun ss=>ss.Perm (intKeys D0)) (Maps.size D0) (w.alloc (.cells #[.map (some b)] 118)):=
  AnyZI.keys_gives (ρ:=keysA_ren) {keysA with} Fence.wide _ trivial rfl (by omega) w.heap.size b nn D0 _ (by simp) (by simp) (by
   obtain⟨k,a,f,i,l,m⟩:=hown;exact⟨k,a,(Below.heap_alloc _ _ b g).trans f,i,l,m⟩)
 have h:=AnyZI.sorted_in sortedA Fence.wide 5 trivial trivial trivial trivial rfl (by omega) (aKQ _) (enters_of func138 (by kernel_rfl) rfl) 139 #[.pointer (some ⟨w.heap.size,0,none⟩)] trivial (enters_of func139 (by kernel_rfl) rfl) _ _ (by unfold maxLen;omega) (by omega) _ c;change CallsIn _ _ prog 98 _ _ _ at h;refine((callsIn_wide (n:=5)).1 h).mono ?_;rintro e w' ⟨v,ss,rfl,j,d,_,f⟩;exact⟨v,ss,rfl,j,gL d (by simp),((aJ _ w).alloc (aE _) _).trans (f.mono (by simp))⟩
theorem aKv(x:Int):WideAt.IsKeyLit (.int .i64 x):=by simp[WideAt.IsKeyLit]
theorem aBK(rs:List Rw):IsMap (oD rs):=by
 suffices h:∀(l:List Rw) (D:DataW Unit),IsMap D→IsMap (l.foldl (fun D r=>D.put (.int .i64 r.lock) (aAy r)) D)from h rs _ ⟨[],rfl⟩
 intro l;induction l with
 |nil=>intro D h;exact h
 |cons r l ih=>
  intro D h;refine ih _ ?_;obtain⟨a,rfl⟩:=h;exact⟨_,rfl⟩
theorem qL(rs:List Rw)(r:Rw)(k:Nat):dX (rs++[r]) k=if r.lock=(k:Int)then some r else dX rs k:=by
 unfold dX;rw[List.reverse_append,List.reverse_singleton,List.singleton_append,List.find?_cons];by_cases a:r.lock=(k:Int)
 ·simp[a]
 ·simp[a]
theorem aCS(z:DataW Unit)(k:Nat):∀n (rs:List Rw),rs.length=n→(oD rs).atKey (.int .i64 k) z=(match dX rs k with|some r=>aAy r|none=>z)
 |0,rs,h=>by
  obtain rfl:=List.length_eq_zero_iff.1 h
  rfl
 |n+1,rs,h=>by
  have hne:rs≠[]:=fun e=>by rw[e]at h;cases h
  obtain⟨l,r,rfl⟩:∃l r,rs=l++[r]:=⟨rs.dropLast,rs.getLast hne,(List.dropLast_concat_getLast hne).symm⟩;have ih:=aCS z k n l (by simpa using h);rw[vC,qL];by_cases hc:r.lock=(k:Int)
  ·rw[if_pos hc,hc,atKey_put_same (aBK l) (aKv _)]
  ·rw[if_neg hc,atKey_put_other (fun e=>hc (by simpa using e.symm)),ih]
theorem aDM(x:Int):∀n (rs:List Rw),rs.length=n→(has (oD rs) (.int .i64 x)=true↔∃r ∈ rs,r.lock=x)
 |0,rs,h=>by
  obtain rfl:=List.length_eq_zero_iff.1 h;simp[oD,has_eq]
 |n+1,rs,h=>by
  have hne:rs≠[]:=fun e=>by rw[e]at h;cases h
  obtain⟨l,r,rfl⟩:∃l r,rs=l++[r]:=⟨rs.dropLast,rs.getLast hne,(List.dropLast_concat_getLast hne).symm⟩;have ih:=aDM x n l (by simpa using h);rw[vC];by_cases hc:r.lock=x
  ·rw[hc,has_put_same (aBK l) (aKv _)];simp[hc]
  ·rw[has_put_other (fun e=>hc (by simpa using e.symm)),ih];simp[hc]
theorem aDB(rs:List Rw)(k:Nat):(dX rs k).isSome=true↔∃r ∈ rs,r.lock=(k:Int):=by
 unfold dX;rw[List.find?_isSome];simp
def kL(rs:List Rw):List Nat:=(List.range 4).filter fun k=>(dX rs k).isSome
theorem zX(rs:List Rw):eG rs 4=(kL rs).map fun k=>(dX rs k).getD zRw:=by
 unfold eG kL;generalize List.range 4=l;induction l with
 |nil=>rfl
 |cons k l ih=>
  rw[List.filterMap_cons,List.filter_cons];cases h:dX rs k with
  |none=>simp[ih]
  |some r=>simp[ih,h]
theorem aDG(rs:List Rw):((kL rs).map fun k:Nat=>(k:Int)).Pairwise (fun a b=>a<b):=by
 rw[List.pairwise_map];exact((List.pairwise_lt_range (n:=4)).filter _).imp fun h=>by exact_mod_cast h
section
variable {rs:List Rw}
theorem aBo(hl:∀r ∈ rs,0≤r.lock∧r.lock≤3){w:World}{R:Value→Option (DataW Unit×List MemPlace)}{b n:Nat}(hown:w.ownsMap prog 3 R b n (oD rs)):
 ((kL rs).map fun k:Nat=>(k:Int)).Perm (intKeys (oD rs)):=by
 obtain⟨l,d,g,_⟩:=hown.entries aHQ;obtain⟨i,a,f⟩:=hown.keysOf;obtain rfl:l=i:=by rw[d]at a;simpa using a
 rw[d];refine perm_intKeys g (fun p hp=>by obtain⟨v,j⟩:=f p hp;obtain⟨x,_,m,_⟩:=Maps.keyOf_i64 underlying3 j;exact⟨x,m⟩) ((aDG rs).imp fun h e=>by omega) (fun x=>?_);rw[←d,aDM x _ rs rfl];simp only[kL,bQ,List.mem_filter,List.mem_range,aDB];constructor
 ·rintro⟨k,⟨_,r,c,e⟩,rfl⟩;exact⟨r,c,e⟩
 ·rintro⟨r,c,rfl⟩;have:=hl r c;exact⟨r.lock.toNat,⟨by omega,r,c,by omega⟩,by omega⟩
theorem aDP(hl:∀r ∈ rs,0≤r.lock∧r.lock≤3){w:World}{R:Value→Option (DataW Unit×List MemPlace)}{b n:Nat}(hown:w.ownsMap prog 3 R b n (oD rs)){ss:List Int}(hp:ss.Perm (intKeys (oD rs))):
 ss.mergeSort (fun x y=>decide (x≤y))=(kL rs).map fun k:Nat=>(k:Int):=by
 refine List.Perm.eq_of_pairwise (le:=fun a b=>a≤b) (fun a b _ _ h1 h2=>Int.le_antisymm h1 h2) ?_ ((aDG rs).imp fun h=>by omega) (((List.mergeSort_perm ss _).trans hp).trans (aBo hl hown).symm);have:=List.pairwise_mergeSort (le:=fun x y:Int=>decide (x≤y)) (fun a b c h1 h2=>by simp only[aM]at*;omega) (fun a b=>by simp only[Bool.or_eq_true,aM];omega) ss;exact this.imp fun h=>by simpa using h
theorem vX(hl:∀r ∈ rs,0≤r.lock∧r.lock≤3){w:World}{R:Value→Option (DataW Unit×List MemPlace)}{b n:Nat}(hown:w.ownsMap prog 3 R b n (oD rs)):
 Maps.size (oD rs)=(kL rs).length:=by
 have h:=(aBo hl hown).length_eq;obtain⟨c,a,_,_⟩:=hown.entries aHQ;rw[bO]at h;rw[h,a];simp[intKeys,Maps.size]
end
theorem oP(rs:List Rw):(kL rs).length≤4:=by
 have:=List.length_filter_le (fun k=>(dX rs k).isSome) (List.range 4);simpa[kL]using this
theorem aHU{rs:List Rw}{m:Nat}(h:m<(kL rs).length):∃(k:Nat) (r:Rw),(kL rs)[m]=k∧dX rs k=some r∧k<4:=by
 have a:=bF h;generalize (kL rs)[m]=k at a;simp only[kL,List.mem_filter,List.mem_range]at a;obtain⟨r,b⟩:=Option.isSome_iff_exists.1 a.2;exact⟨k,r,rfl,b,a.1⟩
theorem aBb{v:Value}{r:Rw}{ps:List MemPlace}(h:tY v=some (aAy r,ps)):v=rwV r:=by
 unfold tY at h;split at h
 ·simp only[aAy,Option.some.injEq,Prod.mk.injEq,DataW.agg.injEq,List.cons.injEq,DataW.lit.injEq,Lit.int.injEq,true_and,and_true]at h;obtain⟨⟨e,c,i,d,g,b,f⟩,_⟩:=h;obtain⟨l,p,a,o,t,u,q⟩:=r;subst e c i d g b f
  rfl
 ·cases h
theorem aGM(w:World):(zeroValue 58).run prog w= .ok (rwV zRw) w:=by kernel_rfl
theorem aFL{rs:List Rw}{w:World}{b n:Nat}(hown:w.ownsMap prog 3 tY b n (oD rs)){k:Nat}{r:Rw}(hk:k<4)(hr:dX rs k=some r):
 (Instr.lookup 118 (.map (some b)) (.int .i64 (k:Int)) false).run prog w= .ok (rwV r) w:=by
 have c:keyOf prog 3 (.int .i64 (k:Int))=some (.int .i64 (k:Int)):=keyOf_int_mk underlying3 (WalkArith.wf_i64 (by omega));obtain⟨v,e,a,d⟩:=hown.lookup aHQ underlying118 (aGM w) (aAM zRw) c;rw[aCS (aAy zRw) k _ rs rfl,hr]at d;rw[a,aBb d]
theorem wH(rs:List Rw):(eG rs 4).length=(kL rs).length:=by rw[zX,bO]
theorem aJb{rs:List Rw}{m:Nat}(h:m<(kL rs).length){r:Rw}(hr:dX rs (kL rs)[m]=some r):(eG rs 4).take (m+1)=(eG rs 4).take m++[r]:=by
 have a:m<(eG rs 4).length:=by rw[wH];exact h
 rw[List.take_succ_eq_append_getElem a]
 congr 2
 simp only[zX,List.getElem_map,hr,Option.getD_some]
theorem aFq{w:World}{base:Nat}{v:Value}{n:Nat}{xs:List Int}(h:w.ownsRow base 3 1 v n (xs.map encZ)):∃(p:Option Addr) (cap:Nat),v= .slice p n cap∧(∀g,v.ownBlock=some g→base≤g∧g<w.heap.size)∧(∀m (hm:m<xs.length),∃g,p=some ⟨g,0,none⟩∧base≤g∧g<w.heap.size∧w.cell? ⟨g,m,none⟩=some (.int .i64 xs[m])):=by
 have a:=h.lt;have b:=h.1;rcases h.2 with⟨rfl,rfl⟩|⟨g,cap,d,rfl,i,j,l,k,e,f⟩
 ·refine⟨none,0,rfl,a,fun m hm=>?_⟩;simp at b;rw[b]at hm;simp at hm
 ·refine⟨some ⟨g,0,none⟩,cap,rfl,a,fun m hm=>⟨g,rfl,(a g rfl).1,(a g rfl).2,?_⟩⟩;have c:m<n*1:=by simp at b;omega
  rw[h.cellAt m c];simp[hm,encZ]
theorem qW(b nn:Nat)(rs:List Rw)(w:World)(hown:w.ownsMap prog 3 tY b nn (oD rs))(hl:∀r ∈ rs,0≤r.lock∧r.lock≤3):
 Calls prog 62 #[.map (some b)] w fun e w'=>∃v,e= .returned v∧w'.ownsRow w.heap.size 58 7 v (eG rs 4).length (cellsOf (eG rs 4))∧Below w.heap.size w w':=by
 obtain⟨i0,hi,P,T,S⟩:=info_parts yJ;have A:=vX hl hown;have a6:=oP rs;have HT:=cN (wH rs);generalize hN:(kL rs).length=N at A a6;have X:=cN hN;have G:=hown.lt;clear hN;go_enter func62,ntmps62;go_wp2_with (first
  |(at_len;refine wpList_len_own _ rfl _ 118 rfl 3 58 underlying118 tY b nn (oD rs) rfl hown ?_;rw[A])
  |(at_make;refine wpList_make_own _ rfl _ _ 47 rfl w.heap.size 58 i0 _ 7 underlying47 hi P T _ _ _ N rfl rfl rfl (by rw[S];omega) (by unfold maxLen;omega) (aE _) ?_;intro Y B E))
 have d:=iU hown (E.block b G (by simp));have M:=(aJ w.heap.size w).grown E (aE _) (fun j f=>by cases f);have a9:w.heap.size<Y.heap.size:=(B.lt _ rfl).2;refine(aIZ (some b) Y).mono ?_;rintro e w2 ⟨rfl,rfl⟩;go_wp2_with fail;refine(aFE b nn (oD rs) tY Y d (by rw[A];omega)).mono ?_;rintro e L ⟨v3,ss,rfl,hp,n,F⟩;rw[aDP hl d hp]at n;have Q:ss.length=N:=by
  have:=n.1;simp at this;rw[←this];exact X.out
 rw[Q]at n;obtain⟨p,b1,rfl,x,q⟩:=aFq n;have O:=M.trans (F.mono (by omega));have I:=jJ B F;have a8:=iU hown (O.block b G);clear F M d B E hp Q;have HC:Hid (∀m (hm:m<(kL rs).length),∃g,p=some ⟨g,0,none⟩∧Y.heap.size≤g∧g<L.heap.size∧L.cell? ⟨g,m,none⟩=some (.int .i64 ((kL rs)[m]:Nat))):=by
  intro m hm;obtain⟨g,h1,h2,h3,h4⟩:=q m (by simpa using hm);exact⟨g,h1,h2,h3,by simpa using h4⟩
 clear q n x;go_wp2;go_loopw [3,13] (fun v i wr=>∃(m:Nat),m≤N∧i= .int .i64 m∧wr.ownsRow w.heap.size 58 7 v m (cellsOf ((eG rs 4).take m))∧(v.ownBlock=some w.heap.size∨∀j,v.ownBlock=some j→L.heap.size≤j)∧L.grownBy wr (some w.heap.size)∧Below w.heap.size w wr) (fun _ i _=>N-(intOf i).toNat)
 case atStart=>exact⟨0,by omega,rfl,I,Or.inl rfl,World.grownBy.refl _ _,O⟩
 case round=>
  obtain⟨m,hm,rfl,c,x,y,h⟩:=hrel;have a3:=h.size;by_cases a1:m<N
  ·have D:m<(kL rs).length:=by rw[X.out];exact a1
   obtain⟨g,rfl,b2,b0,Z⟩:=HC.out m D;obtain⟨k,R,hk,C,a7⟩:=aHU D;have a0:=cN (aJb D (by rw[hk];exact C));rw[hk]at Z;have a2:=y.cell Z (by simp;omega);have s:=iU hown (h.block b G);have K:=aFL s a7 C;obtain⟨l,pr,a,o,t,u,sq⟩:=R;have a5:(m:Int)<(N:Int):=by omega
   clear Z hk C s;go_wp2_with (at_builtin;refine wpList_append_own_at _ rfl _ _ 47 rfl w.heap.size 58 i0 _ 7 56 underlying47 hi P T S rfl (by decide) _ _ _ rfl (c.alloc _) ⟨wr.heap.size,0,none⟩ 1 1 (rwL ⟨l,pr,a,o,t,u,sq⟩) rfl rfl ?qa ?qb ?qc ?qd ?qe ?_)
   case qa=>exact vU _ _ _
   case qb=>exact uL _
   case qc=>unfold maxLen;omega
   case qd=>omega
   case qe=>simp;omega
   intro v5 w5 J H _ z;have a4:=(h.alloc a3 _).grown H (by simp;omega) (fun j f=>(c.lt j f).1);have W:v5.ownBlock=some w.heap.size∨∀j,v5.ownBlock=some j→L.heap.size≤j:=by
    rcases z with e|e
    ·rw[e];exact x
    ·right;intro j f;rw[e]at f;have:=y.size;simp at f;omega
   have V:L.grownBy w5 (some w.heap.size):=by
    refine(y.andThen (World.grownBy_alloc wr _ none) (fun j f=>by cases f)).andThen H (fun j f=>?_);rcases x with e|e
    ·right;rw[←f,e]
    ·exact Or.inl (e j f)
   clear H y c h z K a2;go_wp2;go_roundw
   case rel=>exact⟨m+1,by omega,by go_num,by rw[a0.out,tG];exact J,W,V,a4⟩
   case measure=>simp[intOf];omega
  ·have U:=cN ((by omega:m=N));have a5:¬(m:Int)<(N:Int):=by omega
   go_wp2;go_ret;have e:(eG rs 4).take m=eG rs 4:=aY (by rw[HT.out,X.out,U.out];omega);rw[e]at c;exact⟨_,rfl,by rw[HT.out,X.out,←U.out];exact c,h⟩
end
structure Mo where
 cf:Cf
 acs:List Ac
 cls:List Ct
 net:List Mg
 tr:List Ev
def dT(i:Int)(n:Nat):Bool:=decide (0≤i)&&decide (i<(n:Int))
theorem dY(i:Int)(n:Nat):dT i n=true↔0≤i∧i<(n:Int):=by simp[dT]
theorem tH(i:Int)(n:Nat):dT i n=false↔¬(0≤i∧i<(n:Int)):=by rw[←dY];simp
def oK(c:Cf):Bool:=decide (1≤c.f)&&decide (c.f≤2)&&decide (1≤c.clients)&&decide (c.clients≤4)&&decide (1≤c.patience)&&decide (c.patience≤20)&&decide (1≤c.tries)&&decide (c.tries≤8)&&decide (0≤c.drift)&&decide (c.drift≤10)&&decide (2≤c.compact)&&decide (c.compact≤16)&&decide (100≤c.room)&&decide (c.room≤2000)
def mC(f:Cf):Mo:=⟨f,(List.range (gJ f)).map (fun (i:Nat)=>xN f i),(List.range f.clients.toNat).map (fun (i:Nat)=>yC i),[],[]⟩
def clM(x:Mo)(i:Int):Ct:=x.cls.getD i.toNat (yC 0)
def acM(x:Mo)(i:Int):Ac:=x.acs.getD i.toNat (xN x.cf 0)
def gB(x:Mo)(i:Int)(c:Ct)(e:List Ev):Mo:={x with cls:=x.cls.set i.toNat c,net:=x.net++dJ e,tr:=x.tr++e}
def mF(x:Mo)(i:Int)(a:Ac)(e:List Ev):Mo:={x with acs:=x.acs.set i.toNat a,net:=x.net++dJ e,tr:=x.tr++e}
def lT(x:Mo)(i k l t:Int):Bool:= !(dT i x.cls.length)|| !(decide (1≤k∧k≤4))|| !(decide (0≤l∧l≤3))||(decide (k≤2)&& !(decide (1≤t∧t≤1000)))
def qV(k t:Int):Int:=if k≤2 then t else 0
def yQ(x:Mo)(i k l t:Int):Int:=if lT x i k l t=true then 1 else jO (clM x i)
def oS(x:Mo)(i k l t:Int):Mo:=if lT x i k l t=true then x else gB x i (gU (clM x i) k l (qV k t)) (iA x.cf (clM x i) k l (qV k t))
def aBC(x:Mo)(i:Int):Int:=if dT i x.cls.length=true then xL (clM x i)else 1
def tF(x:Mo)(i:Int):Mo:=if dT i x.cls.length=true then gB x i (lP x.cf (clM x i)) (oE x.cf (clM x i))else x
def aBf(x:Mo)(i:Int):Int:=if dT i x.cls.length=true then aEZ (clM x i)else 1
def rW(x:Mo)(i:Int):Mo:=if dT i x.cls.length=true then gB x i (uD (clM x i)) (uM (clM x i))else x
def uE(x:Mo)(i:Int):Int:=if dT i x.cls.length=true then gS (clM x i)else 1
def nC(x:Mo)(i:Int):Mo:=if dT i x.cls.length=true then gB x i (mT (clM x i)) (nE (clM x i))else x
def jG(x:Mo)(i:Int):Mg:=x.net.getD i.toNat zMg
def uR(x:Mo)(i:Int):Int:=if dT i x.net.length=true then 0 else 1
def iS(x:Mo)(i:Int):Mo:=if dT i x.net.length=true then{x with net:=x.net.eraseIdx i.toNat}else x
def sE(x:Mo)(i:Int):Mo:=if dT i x.net.length=true then{x with net:=x.net++[jG x i]}else x
def hO(m:Mg):Bool:=m.kind==1||m.kind==3
def rL(x:Mo)(i:Int):Int:=if dT i x.net.length=true then(if hO (jG x i)=true then wK (acM x (jG x i).dst) (jG x i)else 0)else 1
def kZ(x:Mo)(i:Int):Mo:=if dT i x.net.length=true then
 (if hO (jG x i)=true then mF (iS x i) (jG x i).dst (sU (acM x (jG x i).dst) (jG x i)) (mZ (acM x (jG x i).dst) (jG x i))
  else gB (iS x i) (jG x i).dst (gO x.cf (clM x (jG x i).dst) (jG x i)) (iB x.cf (clM x (jG x i).dst) (jG x i)))else x
def qO(x:Mo)(i n q:Int):Bool:= !(dT i x.acs.length)||decide (n<0)||decide (q<0)
def aBF(x:Mo)(i n q:Int):Int:=if qO x i n q=true then 1 else aBn (acM x i)
def tJ(x:Mo)(i n q:Int):Mo:=if qO x i n q=true then x else mF x i (yN (acM x i) n q) (tN (acM x i) n)
def xX(x:Mo)(i:Int):Int:=if dT i x.acs.length=true then uT (acM x i)else 1
def oQ(x:Mo)(i:Int):Mo:=if dT i x.acs.length=true then mF x i (iL (acM x i)) (nP (acM x i))else x
def aCO(x:Mo)(i l:Int):Bool:=dT i x.cls.length&&aDt (clM x i) l
def aGu(x:Mo)(i:Int):Bool:=dT i x.cls.length&&aGz (clM x i)
def sS(x:Mo)(i:Int):Int:=if dT i x.acs.length=true then(if(acM x i).st=2 then 2 else 0)else 1
def oG(x:Mo)(i:Int):List Rw:=if sS x i=0 then eG (acM x i).rows 4 else[]
def aJN(x:Mo)(i:Int):Int:=if dT i x.acs.length=true then 0 else 1
def aKb(x:Mo)(i:Int):List Int:=if dT i x.acs.length=true then(acM x i).dk.log else[]
def qS(x:Mo)(n:Int):List Ev:=x.tr.drop (min (max n 0) x.tr.length).toNat
section
variable {x:Mo} {i:Int}
theorem mQ(h:dT i x.cls.length=true):∃h':i.toNat<x.cls.length,clM x i=x.cls[i.toNat]:=by
 obtain⟨b,a⟩:=(dY _ _).1 h;have h':i.toNat<x.cls.length:=by omega
 exact⟨h',by unfold clM;simp[aQ,h']⟩
theorem qK(h:dT i x.acs.length=true):∃h':i.toNat<x.acs.length,acM x i=x.acs[i.toNat]:=by
 obtain⟨b,a⟩:=(dY _ _).1 h;have h':i.toNat<x.acs.length:=by omega
 exact⟨h',by unfold acM;simp[aQ,h']⟩
theorem rI(h:dT i x.net.length=true):∃h':i.toNat<x.net.length,jG x i=x.net[i.toNat]:=by
 obtain⟨b,a⟩:=(dY _ _).1 h;have h':i.toNat<x.net.length:=by omega
 exact⟨h',by unfold jG;simp[aQ,h']⟩
end
structure Rwt where
 on:Bool
 val:Vl
 at_:Int
structure Rc where
 id:Int
 inc:Int
 up:Bool
 clock:Int
 round:Int
 tok:Int→Int
 til:Int→Int
 wat:Int→Rwt
 busy:Bool
 kind:Int
 lock:Int
 ttl:Int
 began:Int
 tries:Int
 mine:List Int
 bal:Int
 at_:Int
 heard:List Mg
 asked:Bool
 next:Vl
 fres:Int
 fown:Int
 ftok:Int
 back:List Int
def aK4:Rwt:=⟨false,zVl,0⟩
def gM(i inc:Int)(up:Bool):Rc:=⟨i,inc,up,0,0,fun _=>0,fun _=>0,fun _=>aK4,false,0,0,0,0,0,[],0,0,[],false,zVl,0,0,0,[]⟩
def iT(c:Rc)(res own tok:Int):Ev:={zEv with kind:=3,node:=c.id,okind:=c.kind,olock:=c.lock,ottl:=c.ttl,res:=res,own:=own,tok:=tok,bal:=c.bal}
def kG(n k l t:Int):Ev:={zEv with kind:=2,node:=n,okind:=k,olock:=l,ottl:=t}
def wM(c:Rc):Rc:=
 let v:=c.next
 let w:=c.wat c.lock
 if v.own≠0∧v.own≠c.id+1∧¬(w.on=true∧w.val.own=v.own∧w.val.tok=v.tok∧w.val.seq=v.seq)then{c with wat:=upd c.wat c.lock ⟨true,v,c.clock⟩}else c
def fP(c:Rc)(res tok:Int):Rc:=
 let c0:={c with busy:=false}
 if res=1 then(if c.kind=3 then{c0 with tok:=upd c.tok c.lock 0,til:=upd c.til c.lock 0}else{c0 with tok:=upd c.tok c.lock tok,til:=upd c.til c.lock (c.began+c.ttl)})
 else if res=3 then{c0 with tok:=upd c.tok c.lock 0,til:=upd c.til c.lock 0}
 else if res=2∨res=4 then wM c0
 else c0
def jX(c:Rc)(res own tok:Int):List Ev:=[iT c res own tok]
def gV(c:Rc)(kind base:Int)(v:Vl)(n:Nat):List Ev:=(List.range n).map fun (d:Nat)=>sentEv ⟨kind,c.id,(d:Int),c.lock,c.bal,base,v⟩
def qZ(c:Rc):Rc:={c with round:=c.round+1,tries:=c.tries+1,bal:=256*(c.round+1)+4*c.inc+c.id,at_:=c.clock,heard:=[],asked:=false,back:=[]}
def mW(c:Rc):Rc:=if 1000<c.round+1 then fP c 6 0 else qZ c
def kJ(n:Nat)(c:Rc):List Ev:=if 1000<c.round+1 then jX c 6 0 0 else gV (qZ c) 1 0 zVl n
def tQ(g:Cf)(c:Rc):Rc:=if c.tries<g.tries then mW c else fP c 5 0
def qY(g:Cf)(n:Nat)(c:Rc):List Ev:=if c.tries<g.tries then kJ n c else jX c 5 0 0
def rB(g:Cf)(c:Rc)(v:Vl):Bool:=
 let w:=c.wat c.lock
 if w.on=false∨w.val.own≠v.own∨w.val.tok≠v.tok∨w.val.seq≠v.seq then false else decide (v.ttl*(10+g.drift)≤10*(c.at_-w.at_-2))
def vN(l:List Int)(n:Int):Bool:=l.contains n
def wZ(l:List Int)(n:Int):Bool:=l.any fun b=>decide (b<n)
def ownR(c:Rc)(v:Vl):Bool:=v.own==c.id+1&&v.tok==c.tok c.lock&& !(c.tok c.lock==0)
def iV(g:Cf)(c:Rc)(v:Vl):Fw×Bool:=
 if c.kind=1 then
  if vN c.mine v.tok=true then(⟨v,1,c.id+1,v.tok⟩,true)
  else if wZ c.mine v.tok=true then(⟨v,0,0,0⟩,false)
  else if v.own=0∨v.own=c.id+1∨rB g c v=true then(⟨⟨c.id+1,c.bal,c.ttl,1⟩,1,c.id+1,c.bal⟩,true)
  else(⟨v,2,v.own,v.tok⟩,true)
 else if c.kind=2 then
  if ownR c v=true then(⟨⟨c.id+1,c.tok c.lock,c.ttl,if v.seq<2147483647 then v.seq+1 else v.seq⟩,1,c.id+1,c.tok c.lock⟩,true)
  else(⟨v,3,0,0⟩,true)
 else if c.kind=3 then
  if ownR c v=true then(⟨⟨0,c.tok c.lock,0,c.bal⟩,1,c.id+1,c.tok c.lock⟩,true)
  else if v.own=0∧vN c.mine v.seq=true then(⟨v,1,c.id+1,v.tok⟩,true)
  else(⟨v,3,0,0⟩,decide (c.mine.length=0)||v.tok==c.tok c.lock)
 else(⟨v,4,v.own,v.tok⟩,true)
def pU(p:Int×Vl)(m:Mg):Int×Vl:=if p.1<m.base then(m.base,m.val)else p
def jP(l:List Mg):Int×Vl:=l.foldl pU (0,zVl)
theorem aA6(l:List Mg)(m:Mg):jP (l++[m])=pU (jP l) m:=by simp[jP]
def tR(c:Rc)(v:Vl):Bool:=(decide (c.kind=1)&&v.tok==c.bal)||(decide (c.kind=3)&&v.seq==c.bal)
def jK(c:Rc)(w:Fw):Rc:={c with mine:=if tR c w.next=true then c.mine++[c.bal]else c.mine,asked:=true,next:=w.next,fres:=w.res,fown:=w.own,ftok:=w.tok}
def kU(g:Cf)(c:Rc):Rc:=
 let w:=iV g c (jP c.heard).2
 if w.2=false then fP c 5 0 else jK c w.1
def lB(g:Cf)(n:Nat)(c:Rc):List Ev:=
 let w:=iV g c (jP c.heard).2
 if w.2=false then jX c 5 0 0 else gV (jK c w.1) 3 (jP c.heard).1 w.1.next n
def iO(c:Rc)(m:Mg):Bool:=c.up==false||c.busy==false|| !(m.bal==c.bal)
def fY(g:Cf)(c:Rc)(m:Mg):Rc:=
 if iO c m=true then c
 else if m.kind=5 then tQ g {c with round:=if c.round<m.base / 256 then m.base / 256 else c.round}
 else if m.kind=2 then
  if(c.heard.any fun x=>x.src==m.src)=true then c
  else if c.asked=true then c
  else if((c.heard++[m]).length:Int)=g.f+1 then kU g {c with heard:=c.heard++[m]}else{c with heard:=c.heard++[m]}
 else if m.kind=4 then
  if vN c.back m.src=true then c
  else if((c.back++[m.src]).length:Int)=g.f+1 then fP {c with back:=c.back++[m.src]} c.fres c.ftok else{c with back:=c.back++[m.src]}
 else c
def fI(g:Cf)(n:Nat)(c:Rc)(m:Mg):List Ev:=
 if iO c m=true then[]
 else if m.kind=5 then qY g n {c with round:=if c.round<m.base / 256 then m.base / 256 else c.round}
 else if m.kind=2 then
  if(c.heard.any fun x=>x.src==m.src)=true then[]
  else if c.asked=true then[]
  else if((c.heard++[m]).length:Int)=g.f+1 then lB g n {c with heard:=c.heard++[m]}else[]
 else if m.kind=4 then
  if vN c.back m.src=true then[]
  else if((c.back++[m.src]).length:Int)=g.f+1 then jX {c with back:=c.back++[m.src]} c.fres c.fown c.ftok else[]
 else[]
def kK(c:Rc):Int:=if c.up=false then 2 else if c.busy=true then 4 else 0
def aFC(c:Rc)(k l t:Int):Int→Int:=if k=3∨(k≤2∧c.clock+t<c.til l)then upd c.til l (c.clock+t)else c.til
def nI(c:Rc)(k l t:Int):Rc:={c with busy:=true,kind:=k,lock:=l,ttl:=t,began:=c.clock,tries:=0,mine:=[],bal:=0,til:=aFC c k l t}
def tC(c:Rc)(k l t:Int):Rc:=if kK c≠0 then c else mW (nI c k l t)
def yE(n:Nat)(c:Rc)(k l t:Int):List Ev:=if kK c≠0 then[]else kG c.id k l t::kJ n (nI c k l t)
def zA(c:Rc):Int:=if c.up=false then 2 else 0
def wG(g:Cf)(c:Rc):Rc:=if c.up=false then c else
 let c1:={c with clock:=c.clock+1}
 if c.busy=true∧g.patience≤c1.clock-c.at_ then tQ g c1 else c1
def aBe(g:Cf)(n:Nat)(c:Rc):List Ev:=if c.up=false then[]else
 let c1:={c with clock:=c.clock+1}
 if c.busy=true∧g.patience≤c1.clock-c.at_ then qY g n c1 else[]
def aAQ(c:Rc):Int:=if c.up=false then 2 else 0
def wV(c:Rc):Rc:=if c.up=false then c else gM c.id c.inc false
def aAP(c:Rc)(i:Int):List Ev:=if c.up=false then[]else[eO (-1-i)]
def mO(c:Rc):Int:=if c.up=true then 3 else if 63≤c.inc then 5 else 0
def nZ(c:Rc):Rc:=if mO c≠0 then c else gM c.id (c.inc+1) true
def rU(c:Rc)(i:Int):List Ev:=if mO c≠0 then[]else[jD (-1-i)]
def aDm(c:Rc)(l:Int):Bool:=c.up&&decide (c.clock<c.til l)
def aFA(c:Rc):Bool:=c.up&&c.busy
structure Ra where
 log:List Int
 up:Bool
 silent:Bool
 left:Int
 keep:Int
def oL:Ra:=⟨[],true,false, -1,0⟩
def stepR(a:Ra):Ra:=if 0<a.left then{a with left:=a.left-1}else a
def fW(a:Ra)(log:List Int):Ra:={a with log:=log,up:=false,silent:=false,left:= -1}
def dR(room:Int)(a:Ra)(r:Rw):Ra×Bool:=
 if a.left=0 then(fW a a.log,false)else
 let a1:=stepR a
 if room<(a.log.length:Int)+(dW r).length then({a1 with silent:=true},false)else
 if a1.left=0 then(fW a1 (a.log++(dW r).take (min a1.keep (dW r).length).toNat),false)else
 ({stepR a1 with log:=a.log++dW r},true)
def kF(room:Int)(s:List Int):Nat→Ra→Ra
 |0,a=>{a with log:=s}
 |n+1,a=>if a.left=0 then fW a a.log else
  let a1:=stepR a
  if n=3∧room<(a1.log.length:Int)+s.length then{a1 with silent:=true}else kF room s n a1
def gY(room:Int)(a:Ra):Ra:=kF room (fA (dO a.log)) 5 a
def aAR(compact:Int)(a:Ra):Bool:=decide (compact<(a.log.length:Int) / 25)
def uC(a:Ra)(lock:Int):Rw:=(dX (dO a.log) lock.toNat).getD {zRw with lock:=lock}
def aJk(x m:Mg):Mg:={x with src:=m.dst,dst:=m.src,lock:=m.lock,bal:=m.bal}
def kD(a:Ra)(m:Mg):Option Rw×Mg:=
 let r:=uC a m.lock
 (if mV m r=true then some (iR m r)else none,aJk (kA m r) m)
def jQ(a:Ra)(i:Int):List Ev:=if a.up=true then[]else[eO i]
def pI(a:Ra):Int:=if a.up=true then 0 else 6
def gQ(g:Cf)(a:Ra)(m:Mg):Ra:=if a.up=false∨a.silent=true then a else
 match (kD a m).1 with
 |none=>a
 |some r=>
  if(dR g.room a r).2=false then(dR g.room a r).1
  else if aAR g.compact (dR g.room a r).1=true then gY g.room (dR g.room a r).1 else(dR g.room a r).1
def mP(g:Cf)(a:Ra)(m:Mg):List Ev:=if a.up=false∨a.silent=true then[]else
 match (kD a m).1 with
 |none=>sentEv (kD a m).2::jQ (gQ g a m) m.dst
 |some r=>(if(dR g.room a r).2=false then[]else[sentEv (kD a m).2])++jQ (gQ g a m) m.dst
def mX(g:Cf)(a:Ra)(m:Mg):Int:=if a.up=false∨a.silent=true then 0 else pI (gQ g a m)
def zG(a:Ra):Int:=if a.up=false then 2 else 0
def uF(a:Ra)(n q:Int):Ra:=if a.up=false then a else if n=0 then fW {a with left:=n,keep:=q} a.log else{a with left:=n,keep:=q}
def yT(a:Ra)(i n:Int):List Ev:=if a.up=false then[]else if n=0 then[eO i]else[]
def jF(g:Cf)(a:Ra):Ra:=
 let n:=25*((dO a.log).length:Int)
 if n<a.log.length∨g.compact<n / 25 then gY g.room {a with up:=true}else{a with up:=true}
def tD(a:Ra):Int:=if a.up=true∧a.silent=false then 3 else 0
def oR(g:Cf)(a:Ra):Ra:=if a.up=true∧a.silent=false then a else if a.up=true then jF g (fW a a.log)else jF g a
def rY(a:Ra)(i:Int):List Ev:=if a.up=true∧a.silent=false then[]else if a.up=true then[eO i,jD i]else[jD i]
structure Rm where
 cf:Cf
 acs:List Ra
 cls:List Rc
 net:List Mg
 tr:List Ev
structure Chg(S:Nat→Prop)(W W':World):Prop where
 os:W'.os=W.os
 tape:W'.tape=W.tape
 output:W'.output=W.output
 size:W.heap.size≤W'.heap.size
 block:∀k,k<W.heap.size→¬S k→W'.heap[k]?=W.heap[k]?
theorem Chg.refl(S:Nat→Prop)(W:World):Chg S W W:=⟨rfl,rfl,rfl,aE _,fun _ _ _=>rfl⟩
theorem Chg.mono{S T:Nat→Prop}{W W':World}(h:Chg S W W')(hST:∀k,k<W.heap.size→S k→T k):Chg T W W':=
 ⟨h.os,h.tape,h.output,h.size,fun k hk hn=>h.block k hk (fun hs=>hn (hST k hk hs))⟩
theorem Chg.trans{S T:Nat→Prop}{A B C:World}(h:Chg S A B)(k:Chg T B C)(hT:∀x,x<A.heap.size→T x→S x):Chg S A C:=
 ⟨k.os.trans h.os,k.tape.trans h.tape,k.output.trans h.output,cA h.size k.size,fun x hx hn=>(k.block x (aG hx h.size) (fun ht=>hn (hT x hx ht))).trans (h.block x hx hn)⟩
section
variable {S:Nat→Prop}
theorem Chg.drew{A B:World}(h:Chg S A B):Chg S A B.drew:=⟨h.os,h.tape,h.output,h.size,h.block⟩
theorem Chg.alloc{A B:World}(h:Chg S A B)(o:Obj):Chg S A (B.alloc o):=
 ⟨h.os,h.tape,h.output,by simp;have:=h.size;omega,fun x hx hn=>by rw[Below.heap_alloc _ _ _ (aG hx h.size)];exact h.block x hx hn⟩
theorem Chg.setCell{A B:World}(h:Chg S A B)(p:Addr)(u:Value)(hp:p.block<A.heap.size→S p.block):Chg S A (B.setCell p u):=
 ⟨h.os,h.tape,h.output,by simpa using h.size,fun x hx hn=>by rw[Below.heap_setCell _ _ _ _ (fun e=>by subst e;exact hn (hp hx))];exact h.block x hx hn⟩
theorem Chg.grown{A B C:World}{row:Option Nat}(h:Chg S A B)(hg:B.grownBy C row)(hr:∀k,row=some k→k<A.heap.size→S k):Chg S A C:=
 ⟨hg.os.trans h.os,hg.tape.trans h.tape,hg.output.trans h.output,cA h.size hg.size,fun x hx hn=>by
  rw[hg.block x (aG hx h.size) (fun e=>hn (hr x e.symm hx))];exact h.block x hx hn⟩
theorem Chg.of_below{A B:World}(h:Below A.heap.size A B):Chg S A B:=⟨h.os,h.tape,h.output,h.size,fun k hk _=>h.block k hk⟩
theorem Chg.below{A B:World}{n:Nat}(h:Chg S A B)(hS:∀k,S k→n≤k)(hn:n≤A.heap.size):Below n A B:=
 ⟨h.os,h.tape,h.output,h.size,fun k hk=>h.block k (by omega) (fun hs=>by have:=hS k hs;omega)⟩
end
abbrev NoS:Nat→Prop:=fun _=>False
section
variable {W:World}
theorem dG{b:Nat}{o:Obj}(h:W.heap[b]?=some o):b<W.heap.size:=by
 rcases Nat.lt_or_ge b W.heap.size with a|a
 ·exact a
 ·rw[Array.getElem?_eq_none a]at h;cases h
theorem eX{a b:Nat}{x y:Obj}(h:W.heap[a]?=some x)(k:W.heap[b]?=some y)(hxy:x≠y):a≠b:=fun e=>hxy (by subst e;rw[h]at k;exact aN k)
theorem gA{a b:Nat}{c d:Array Value}{s t:TypeId}{f g:Nat×Nat}(h:W.heap[a]?=some (.cells c s f))(k:W.heap[b]?=some (.cells d t g))(hst:s≠t):a≠b:=
 eX h k (fun e=>hst (by cases e;rfl))
theorem cO{g:Nat}{cur:Array Value}{t:TypeId}{f:Nat×Nat}(h:W.heap[g]?=some (.cells cur t f))(j:Nat)(x:Value)(hj:cur[j]?=some x):W.cell? ⟨g,j,none⟩=some x:=by
 rw[cell_of_row W g j _ _ _ h];exact hj
theorem cX{g:Nat}{cur:Array Value}{t:TypeId}(h:W.heap[g]?=some (.cells cur t (0,0)))(j:Nat):W.frozen? ⟨g,j,none⟩=false:=frozen_of_row W g j _ _ h
end
theorem nN{w:World}{base:Nat}{e:TypeId}{size:Nat}{v:Value}{n:Nat}{xs:List Value}(h:w.ownsRow base e size v n xs):
 (v= .slice none 0 0∧n=0)∨∃g cap cur,v= .slice (some ⟨g,0,none⟩) n cap∧base≤g∧w.heap[g]?=some (.cells cur e (0,0)):=by
 rcases h.2 with h|⟨g,cap,cur,a,c,b,_⟩
 ·exact Or.inl h
 ·exact Or.inr ⟨g,cap,cur,a,c,b⟩
theorem dF{w w':World}{base:Nat}{e:TypeId}{size:Nat}{v:Value}{n:Nat}{xs:List Value}(h:w.ownsRow base e size v n xs)(hb:∀g,v.ownBlock=some g→w'.heap[g]?=w.heap[g]?):w'.ownsRow base e size v n xs:=by
 refine⟨h.1,?_⟩;rcases h.2 with d|⟨g,b,a,c,i,f,r⟩
 ·exact Or.inl d
 ·exact Or.inr ⟨g,b,a,c,i,by rw[hb g (by rw[c];rfl)];exact f,r⟩
theorem eY{w:World}{base:Nat}{e:TypeId}{size:Nat}{v:Value}{n:Nat}{xs:List Value}(h:w.ownsRow base e size v n xs):∀g,v.ownBlock=some g→g<w.heap.size:=fun g hg=>(h.lt g hg).2
theorem fN{W:World}{base:Nat}{e:TypeId}{size:Nat}{v:Value}{n:Nat}{xs:List Value}(h:W.ownsRow base e size v n xs){b:Nat}{c:Array Value}{t:TypeId}{f:Nat×Nat}(hb:W.heap[b]?=some (.cells c t f))(het:e≠t):∀k,v.ownBlock=some k→k≠b:=fun k hk=>by
 rcases nN h with⟨rfl,_⟩|⟨q,cap,cur,rfl,_,hq⟩
 ·cases hk
 ·have:q=k:=by simpa[Value.ownBlock]using hk
  subst this;exact gA hq hb het
theorem nS{W:World}{base base':Nat}{e e':TypeId}{size size':Nat}{v v':Value}{n n':Nat}{xs xs':List Value}(h:W.ownsRow base e size v n xs)(h':W.ownsRow base' e' size' v' n' xs')(het:e≠e'):∀k,v.ownBlock=some k→v'.ownBlock≠some k:=fun k hk hk'=>by
 rcases nN h' with⟨rfl,_⟩|⟨q,cap,cur,rfl,_,hq⟩
 ·cases hk'
 ·have:q=k:=by simpa[Value.ownBlock]using hk'
  subst this;exact fN h hq het _ hk rfl
section
variable {S:Nat→Prop} {W W':World}
theorem Chg.kept(h:Chg S W W'){b:Nat}{o:Obj}(hb:W.heap[b]?=some o)(hn:¬S b):W'.heap[b]?=some o:=(h.block b (dG hb) hn).trans hb
theorem Chg.row(h:Chg S W W'){base:Nat}{e:TypeId}{size:Nat}{v:Value}{n:Nat}{xs:List Value}(hv:W.ownsRow base e size v n xs)(hn:∀g,v.ownBlock=some g→¬S g):W'.ownsRow base e size v n xs:=
 dF hv fun g hg=>h.block g (eY hv g hg) (hn g hg)
end
theorem Chg.of_grown{A B:World}{row:Option Nat}(hg:A.grownBy B row):Chg (fun k=>some k=row) A B:=⟨hg.os,hg.tape,hg.output,hg.size,fun k hk hn=>hg.block k hk hn⟩
section
variable {W:World}
theorem dM{b:Nat}{x:Obj}(o:Obj)(h:W.heap[b]?=some x):(W.alloc o).heap[b]?=some x:=(Below.heap_alloc W o b (dG h)).trans h
theorem dD{b:Nat}{c:Array Value}{t:TypeId}(h:W.heap[b]?=some (.cells c t (0,0)))(i:Nat)(v:Value):(W.setCell ⟨b,i,none⟩ v).heap[b]?=some (.cells (c.setIfInBounds i v) t (0,0)):=heap_setCell_same W b i c t v h
theorem aEB{b:Nat}{x:Obj}(h:W.heap[b]?=some x)(a:Addr)(v:Value)(hn:b≠a.block):(W.setCell a v).heap[b]?=some x:=(Below.heap_setCell W a v b hn).trans h
theorem eL{g:Nat}{cur:Array Value}{t:TypeId}{f:Nat×Nat}(h:W.heap[g]?=some (.cells cur t f))(off:Nat)(cs:List Value)(hc:∀j v,cs[j]?=some v→cur[off+j]?=some v):
 ∀j v,cs[j]?=some v→W.cell? ((⟨g,off,none⟩:Addr).add j)=some v:=by
 intro j v a;have e:(⟨g,off,none⟩:Addr).add j=⟨g,off+j,none⟩:=by unfold Addr.add;split<;>simp_all
 rw[e];exact cO h _ _ (hc j v a)
theorem cR{g:Nat}{cs:List Value}{t:TypeId}{f:Nat×Nat}(h:W.heap[g]?=some (.cells cs.toArray t f)):
 ∀j v,cs[j]?=some v→W.cell? ((⟨g,0,none⟩:Addr).add j)=some v:=eL h 0 cs (fun j v hj=>by simpa using hj)
end
section
open Go.ChangeMaps (setBlock)
structure aCw(P:Program)(kt:TypeId){α:Type}(inj:α→Value):Prop where
 desc:∃d,P.underlying kt=some d∧∀a b,Instr.sameNow d (inj a) (inj b)=some true↔a=b
 same:∀d a b,P.underlying kt=some d→∃r,Instr.sameNow d (inj a) (inj b)=some r
 check:∀empty a w,(Instr.checkKey empty 10000 kt (inj a)).run P w= .ok () w
 stays:∀a w,(Instr.keyThatStays (inj a) (inj a)).run P w= .ok (inj a) w
section
variable {P:Program}{α:Type}{kt:TypeId}{inj:α→Value}
abbrev ent(inj:α→Value)(p:α×Value×Nat):MapEntry:=⟨inj p.1,p.2.1,p.2.2⟩
def lk [DecidableEq α]:List (α×Value×Nat)→α→Option Value
 |[],_=>none
 |p::l,a=>if p.1=a then some p.2.1 else lk l a
def MapAt [DecidableEq α] (inj:α→Value)(W:World)(b:Nat)(f:α→Option Value)(n:Nat):Prop:=
 ∃(l:List (α×Value×Nat)) (clk:Nat),W.heap[b]?=some (.map (l.map (ent inj)).toArray clk)∧(l.map (·.1)).Nodup∧l.length=n∧∀a,lk l a=f a
variable [DecidableEq α]
theorem MapAt.lt{W:World}{b:Nat}{f:α→Option Value}{n:Nat}(h:MapAt inj W b f n):b<W.heap.size:=by
 obtain⟨l,c,a,_⟩:=h;exact dG a
theorem MapAt.of_heap{W W':World}{b:Nat}{f:α→Option Value}{n:Nat}(h:MapAt inj W b f n)(hb:W'.heap[b]?=W.heap[b]?):MapAt inj W' b f n:=by
 obtain⟨l,a,c,d⟩:=h;exact⟨l,a,hb.trans c,d⟩
theorem MapAt.kept{S:Nat→Prop}{W W':World}{b:Nat}{f:α→Option Value}{n:Nat}(h:MapAt inj W b f n)(hc:Chg S W W')(hn:¬S b):MapAt inj W' b f n:=h.of_heap (hc.block b h.lt hn)
theorem MapAt.congr{W:World}{b:Nat}{f g:α→Option Value}{n:Nat}(h:MapAt inj W b f n)(e:∀a,f a=g a):MapAt inj W b g n:=by
 obtain⟨l,c,j,d,k,i⟩:=h;exact⟨l,c,j,d,k,fun a=>(i a).trans (e a)⟩
theorem MapAt.ne_cells{W:World}{b c:Nat}{f:α→Option Value}{n:Nat}(h:MapAt inj W b f n){cs:Array Value}{t:TypeId}{fr:Nat×Nat}(hc:W.heap[c]?=some (.cells cs t fr)):b≠c:=by
 obtain⟨l,d,a,_⟩:=h;exact eX a hc (by simp)
theorem vH(K:aCw P kt inj){d:TypeDesc}(hd:P.underlying kt=some d)(a:α):∀(l:List (α×Value×Nat)) (i:Nat),
 (∃l1 v c l2,l=l1++(a,v,c)::l2∧(∀p ∈ l1,p.1≠a)∧Instr.findNow d (inj a) (l.map (ent inj)) i=some (some (i+l1.length,v)))∨((∀p ∈ l,p.1≠a)∧Instr.findNow d (inj a) (l.map (ent inj)) i=some none)
 |[],i=>Or.inr ⟨by simp,rfl⟩
 |(x,v,c)::l,i=>by
  obtain⟨d',hd',hsame⟩:=K.desc;obtain rfl:d=d':=aN (hd.symm.trans hd');obtain⟨r,hr⟩:=K.same d a x hd;by_cases hx:a=x
  ·subst hx;have:=(hsame a a).2 rfl;exact Or.inl ⟨[],v,c,l,rfl,by simp,by simp[Instr.findNow,this]⟩
  ·have hrf:r=false:=by
    cases r with
    |false=>rfl
    |true=>exact absurd ((hsame a x).1 hr) hx
   subst hrf;rcases vH K hd a l (i+1)with⟨l1,v',c',l2,rfl,h1,h2⟩|⟨h1,h2⟩
   ·refine Or.inl ⟨(x,v,c)::l1,v',c',l2,rfl,?_,?_⟩
    ·intro p hp;rcases List.mem_cons.1 hp with rfl|hp
     ·exact fun e=>hx e.symm
     ·exact h1 p hp
    ·simp only[List.map_cons,Instr.findNow,hr,h2,bI]
     congr 3
     omega
   ·refine Or.inr ⟨?_,by simp only[List.map_cons,Instr.findNow,hr,h2]⟩;intro p hp;rcases List.mem_cons.1 hp with rfl|hp
    ·exact fun e=>hx e.symm
    ·exact h1 p hp
theorem aAL{l:List (α×Value×Nat)}{a:α}(h:∀p ∈ l,p.1≠a):lk l a=none:=by
 induction l with
 |nil=>rfl
 |cons p l ih=>simp only[lk];rw[if_neg (h p (by simp)),ih (fun q hq=>h q (by simp[hq]))]
section
variable {l1 l2:List (α×Value×Nat)}
theorem xG{a:α}{v:Value}{c:Nat}(h:∀p ∈ l1,p.1≠a):lk (l1++(a,v,c)::l2) a=some v:=by
 induction l1 with
 |nil=>simp[lk]
 |cons p l ih=>simp only[List.cons_append,lk];rw[if_neg (h p (by simp)),ih (fun q hq=>h q (by simp[hq]))]
theorem aIq{a x:α}{v u:Value}{c e:Nat}(hx:x≠a):lk (l1++(a,v,c)::l2) x=lk (l1++(a,u,e)::l2) x:=by
 induction l1 with
 |nil=>simp[lk,Ne.symm hx]
 |cons p l ih=>simp only[List.cons_append,lk,ih]
theorem aKj{a x:α}{v:Value}{c:Nat}(hx:x≠a):lk (l1++(a,v,c)::l2) x=lk (l1++l2) x:=by
 induction l1 with
 |nil=>simp[lk,Ne.symm hx]
 |cons p l ih=>simp only[List.cons_append,lk,ih]
end
theorem aKo{l:List (α×Value×Nat)}{a x:α}{v:Value}{c:Nat}(h:∀p ∈ l,p.1≠a):lk (l++[(a,v,c)]) x=if x=a then some v else lk l x:=by
 induction l with
 |nil=>
   by_cases b:x=a
   ·subst b;simp[lk]
   ·simp[lk,b,Ne.symm b]
 |cons p l ih=>
  have d:=h p (by simp);simp only[List.cons_append,lk,ih (fun q hq=>h q (by simp[hq]))];by_cases b:p.1=x
  ·have:x≠a:=by rw[←b];exact d
   simp[b,this]
  ·simp[b]
theorem jI(_:aCw P kt inj){w:World}(a:α)(l:List (α×Value×Nat))(r:Option (Nat×Value))(d:TypeDesc)(hd:P.underlying kt=some d)(h:Instr.findNow d (inj a) (l.map (ent inj)) 0=some r):
 (Instr.findKey kt (inj a) (l.map (ent inj))).run P w= .ok r w:=by
 unfold Instr.findKey;simp[aT,run_underlying hd,h]
theorem MapAt.lookup(K:aCw P kt inj){W:World}{b:Nat}{f:α→Option Value}{n:Nat}(h:MapAt inj W b f n){t e:TypeId}(ht:P.underlying t=some (.map kt e)){z:Value}(hz:∀w,(zeroValue e).run P w= .ok z w)(a:α):
 (Instr.lookup t (.map (some b)) (inj a) false).run P W= .ok ((f a).getD z) W∧(Instr.lookup t (.map (some b)) (inj a) true).run P W= .ok (.tuple #[(f a).getD z,.bool (f a).isSome]) W:=by
 obtain⟨l,u,k,x,y,r⟩:=h;obtain⟨d,o,_⟩:=K.desc;have m:=K.check (l.map (ent inj)).toArray.isEmpty a W;have j:(l.map (ent inj)).toArray.toList=l.map (ent inj):=rfl;rcases vH K o a l 0 with⟨A,v,c,B,s,q,p⟩|⟨q,p⟩
 ·have i:f a=some v:=by rw[←r a,s,xG q]
  have g:=jI K (w:=W) a _ _ d o p;rw[←j]at g;generalize (l.map (ent inj)).toArray=es at k m g;constructor<;>simp[Instr.lookup,aT,run_underlying ht,MapKept.run_getObj_map k,m,g,i]
 ·have i:f a=none:=by rw[←r a,aAL q]
  have g:=jI K (w:=W) a _ _ d o p;rw[←j]at g;generalize (l.map (ent inj)).toArray=es at k m g;constructor<;>simp[Instr.lookup,aT,run_underlying ht,MapKept.run_getObj_map k,m,g,i,hz W]
theorem iY(W:World)(b:Nat)(o:Obj):Chg (fun k=>k=b) W (setBlock W b o):=
 ⟨rfl,rfl,rfl,by simp[setBlock],fun k _ hk=>by simp only[setBlock];rw[Array.getElem?_setIfInBounds_ne (fun e=>hk e.symm)]⟩
theorem jV{W:World}{b:Nat}{x:Obj}(h:W.heap[b]?=some x)(o:Obj):(setBlock W b o).heap[b]?=some o:=by
 have:=dG h;simp[setBlock,this]
theorem MapAt.update(K:aCw P kt inj){W:World}{b:Nat}{f:α→Option Value}{n:Nat}(h:MapAt inj W b f n){t e:TypeId}(ht:P.underlying t=some (.map kt e))(a:α)(v:Value):
 ∃W',(Instr.mapUpdate t (.map (some b)) (inj a) v).run P W= .ok () W'∧Chg (fun k=>k=b) W W'∧W'.heap.size=W.heap.size∧MapAt inj W' b (fun x=>if x=a then some v else f x) (if(f a).isSome then n else n+1):=by
 obtain⟨l,i,j,r,J,I⟩:=h;obtain⟨d,M,_⟩:=K.desc;have O:=K.check false a W;have F:(l.map (ent inj)).toArray.toList=l.map (ent inj):=rfl;rcases vH K M a l 0 with⟨D,u,c,L,C,z,N⟩|⟨z,N⟩
 ·have q:f a=some u:=by rw[←I a,C,xG z]
  have m:=jI K (w:=W) a _ _ d M N;rw[←F]at m;rw[Nat.zero_add]at m;have H:(l.map (ent inj)).toArray.modify D.length (fun e=>{e with key:=inj a,val:=v})=((D++(a,v,c)::L).map (ent inj)).toArray:=by
   rw[C,List.modify_toArray,bU,bU]
   congr 1
   have G:∀(A:List MapEntry) (x:MapEntry) (B:List MapEntry) (g:MapEntry→MapEntry),(A++x::B).modify A.length g=A++g x::B:=by
    intro A;induction A with
    |nil=>intro x B g;rfl
    |cons y A ih=>intro x B g;simp[ih]
   have:=G (D.map (ent inj)) (ent inj (a,u,c)) (L.map (ent inj)) (fun e=>{e with key:=inj a,val:=v});rw[bO]at this;exact this
  have o:(((l.map (ent inj)).toArray[D.length]?).map (·.key)).getD (inj a)=inj a:=by
   rw[C];simp
  refine⟨setBlock W b (.map ((D++(a,v,c)::L).map (ent inj)).toArray i),?_,iY _ _ _,by simp[setBlock],D++(a,v,c)::L,i,jV j _,?_,?_,?_⟩
  ·rw[←H];generalize (l.map (ent inj)).toArray=es at j m o;simp[Instr.mapUpdate,aT,run_underlying ht,MapKept.run_getObj_map j,O,m,o,K.stays,MapKept.run_setObj_map _ j,Result.andThen,setBlock]
  ·rw[C]at r;simpa using r
  ·rw[C]at J;simp[q]at J⊢;exact J
  ·intro x;show _=if x=a then some v else f x
   by_cases E:x=a
   ·subst E;rw[if_pos rfl,xG z]
   ·rw[if_neg E,←I x,C];exact aIq E
 ·have q:f a=none:=by rw[←I a,aAL z]
  have m:=jI K (w:=W) a _ _ d M N;rw[←F]at m;have s:(l.map (ent inj)).toArray.push ⟨inj a,v,i⟩=((l++[(a,v,i)]).map (ent inj)).toArray:=by simp
  refine⟨setBlock W b (.map ((l++[(a,v,i)]).map (ent inj)).toArray (i+1)),?_,iY _ _ _,by simp[setBlock],l++[(a,v,i)],i+1,jV j _,?_,?_,?_⟩
  ·rw[←s];generalize (l.map (ent inj)).toArray=es at j m;simp[Instr.mapUpdate,aT,run_underlying ht,MapKept.run_getObj_map j,O,m,MapKept.run_setObj_map _ j,Result.andThen,setBlock]
  ·rw[bU,List.nodup_append];refine⟨r,by simp,fun x E y hy=>?_⟩;obtain⟨p,Q,rfl⟩:=bQ.1 E;have:y=a:=by simpa using hy
   rw[this];exact z p Q
  ·simp[q,J]
  ·intro x;rw[aKo z,I x]
theorem MapAt.delete(K:aCw P kt inj){W:World}{b:Nat}{f:α→Option Value}{n:Nat}(h:MapAt inj W b f n){t e ty:TypeId}(ht:P.underlying t=some (.map kt e))(a:α):
 ∃W',(Builtin.delete_ #[t,kt] ty #[.map (some b),inj a]).run P W= .ok (.tuple #[]) W'∧Chg (fun k=>k=b) W W'∧W'.heap.size=W.heap.size∧MapAt inj W' b (fun x=>if x=a then none else f x) (if(f a).isSome then n-1 else n):=by
 obtain⟨l,j,m,g,E,v⟩:=h;obtain⟨d,C,_⟩:=K.desc;have B:=K.check (l.map (ent inj)).toArray.isEmpty a W;have z:(l.map (ent inj)).toArray.toList=l.map (ent inj):=rfl;rcases vH K C a l 0 with⟨s,u,c,y,q,A,D⟩|⟨A,D⟩
 ·have i:f a=some u:=by rw[←v a,q,xG A]
  have o:=jI K (w:=W) a _ _ d C D;rw[←z]at o;have H:∀p ∈ y,p.1≠a:=fun p hp e=>by
   rw[q,bU,List.map_cons,List.nodup_append]at g;have:=(List.nodup_cons.1 g.2.1).1;exact this (by subst e;exact bQ.2 ⟨p,hp,rfl⟩)
  rw[Nat.zero_add]at o;have G:(l.map (ent inj)).toArray.eraseIdxIfInBounds s.length=((s++y).map (ent inj)).toArray:=by
   rw[q];have F:s.length<((s++(a,u,c)::y).map (ent inj)).toArray.size:=by simp
   unfold Array.eraseIdxIfInBounds;rw[dif_pos F];apply Array.ext';simp[List.eraseIdx_append_of_length_le]
  refine⟨setBlock W b (.map ((s++y).map (ent inj)).toArray j),?_,iY _ _ _,by simp[setBlock],s++y,j,jV m _,?_,?_,?_⟩
  ·rw[←G];generalize (l.map (ent inj)).toArray=es at m o B;simp[Builtin.delete_,aT,run_underlying ht,MapKept.run_getObj_map m,B,o,MapKept.run_setObj_map _ m,Result.andThen,setBlock]
  ·rw[q]at g;simp only[bU,List.map_cons]at g⊢;exact g.sublist (List.Sublist.append_left (List.sublist_cons_self _ _) _)
  ·rw[q]at E;simp[i]at E⊢;omega
  ·intro x;show _=if x=a then none else f x
   by_cases r:x=a
   ·subst r;rw[if_pos rfl];exact aAL (fun p hp=>(aO.1 hp).elim (A p) (H p))
   ·rw[if_neg r,←v x,q,aKj r]
 ·have i:f a=none:=by rw[←v a,aAL A]
  have o:=jI K (w:=W) a _ _ d C D;rw[←z]at o;refine⟨setBlock W b (.map (l.map (ent inj)).toArray j),?_,iY _ _ _,by simp[setBlock],l,j,jV m _,g,by simp[i,E],?_⟩
  ·generalize (l.map (ent inj)).toArray=es at m o B;simp[Builtin.delete_,aT,run_underlying ht,MapKept.run_getObj_map m,B,o,MapKept.run_setObj_map _ m,Result.andThen,setBlock]
  ·intro x;show _=if x=a then none else f x
   by_cases r:x=a
   ·subst r;rw[if_pos rfl,v,i]
   ·rw[if_neg r,v]
section
variable {W:World} {b:Nat} {f:α→Option Value} {n:Nat}
theorem MapAt.clear(h:MapAt inj W b f n){t e ty:TypeId}(ht:P.underlying t=some (.map kt e)):
 ∃W',(Builtin.clear_ #[t] ty #[.map (some b)]).run P W= .ok (.tuple #[]) W'∧Chg (fun k=>k=b) W W'∧W'.heap.size=W.heap.size∧MapAt inj W' b (fun _=>none) 0:=by
 obtain⟨l,a,c,d,i,g⟩:=h;refine⟨setBlock W b (.map #[] a),?_,iY _ _ _,by simp[setBlock],[],a,jV c _,by simp,rfl,fun _=>rfl⟩;generalize (l.map (ent inj)).toArray=es at c;simp[Builtin.clear_,aT,run_underlying ht,MapKept.run_getObj_map c,MapKept.run_setObj_map _ c,Result.andThen,setBlock]
theorem MapAt.len(h:MapAt inj W b f n){t e ty:TypeId}(ht:P.underlying t=some (.map kt e)):
 (Builtin.len_ #[t] ty #[.map (some b)]).run P W= .ok (.int .i64 n) W:=by
 obtain⟨l,g,c,i,d,j⟩:=h;have a:(l.map (ent inj)).toArray.size=n:=by simp[d]
 generalize (l.map (ent inj)).toArray=es at c a;simp[Builtin.len_,aT,run_underlying ht,MapKept.run_getObj_map c,goInt,a]
end
theorem MapAt.made(W:World):MapAt inj (W.alloc (.map #[] 0)) W.heap.size (fun _=>none) 0:=
 ⟨[],0,aA W _,by simp,rfl,fun _=>rfl⟩
end
end
abbrev iK(a:Int):Value:=.int .i64 a
theorem aEg:aCw prog 3 iK where
 desc:=⟨_,underlying3,fun a b=>by simp[Instr.sameNow]⟩
 same:=fun d a b hd=>by
  obtain rfl:=aN (underlying3.symm.trans hd);exact⟨_,by simp[Instr.sameNow];rfl⟩
 check:=fun empty a w=>by
  unfold Instr.checkKey;simp[aT,run_underlying underlying3]
 stays:=fun a w=>by simp[Instr.keyThatStays,Instr.sameBits]
section
open Go.Maps
abbrev sL:List UInt8:=[108,111,103]
abbrev yH:List UInt8:=[110,101,119]
abbrev vL:Value:=.string ⟨#[108,111,103]⟩
abbrev yO:Value:=.string ⟨#[110,101,119]⟩
abbrev rQ(b:Nat):Value:=.pointer (some ⟨b,0,none⟩)
def rG:Value→Option (DataW Unit×List MemPlace)
 |.pointer (some ⟨b,0,none⟩)=>some (.lit (.int .i64 b),[])
 |.pointer none=>some (.lit (.int .i64 (-1)),[])
 |_=>none
theorem aBT(b:Nat):rG (rQ b)=some (.lit (.int .i64 b),[]):=rfl
theorem pB{v:Value}{b:Nat}{ps:List MemPlace}(h:rG v=some (.lit (.int .i64 b),ps)):v=rQ b:=by
 unfold rG at h;split at h
 ·simp at h;have e:=h.1
  norm_cast at e
  rw[e]
 ·simp at h
 ·cases h
def fZ(fl:Nat):Option Nat→DataW Unit
 |none=>.map [(.string sL,.lit (.int .i64 fl))]
 |some fn=>.map [(.string sL,.lit (.int .i64 fl)),(.string yH,.lit (.int .i64 fn))]
abbrev oH(W:World)(b fl:Nat)(fn:Option Nat):Prop:=W.ownsMap prog 9 rG b 2 (fZ fl fn)
theorem aAA:Keyed prog 9:=string_keyed underlying9
section
variable {H:Type} {P:Program} {kt:TypeId}
theorem eH{w:World}{R:Value→Option (DataW H×List MemPlace)}{b n:Nat}{D:DataW H}(h:w.ownsMap P kt R b n D):∃e k,w.heap[b]?=some (.map e k):=by
 obtain⟨c,a,d,_⟩:=h;exact⟨c,a,d⟩
theorem eB{w w':World}{R:Value→Option (DataW H×List MemPlace)}{b n:Nat}{D:DataW H}(h:w.ownsMap P kt R b n D)(hb:w'.heap[b]?=w.heap[b]?):w'.ownsMap P kt R b n D:=by
 obtain⟨d,a,c,e⟩:=h;exact⟨d,a,hb.trans c,e⟩
theorem sC{w w':World}{R:Value→Option (DataW H×List MemPlace)}{b c n:Nat}{D:DataW H}(h:w.ownsMap P kt R b n D)(hb:w'.heap[c]?=w.heap[b]?):w'.ownsMap P kt R c n D:=by
 obtain⟨e,a,d,f⟩:=h;exact⟨e,a,hb.trans d,f⟩
theorem nY{w:World}{R:Value→Option (DataW H×List MemPlace)}{b n m:Nat}{D:DataW H}(h:w.ownsMap P kt R b n D)(hm:Maps.size D≤m):w.ownsMap P kt R b m D:=by
 obtain⟨c,a,f,d,g,rfl⟩:=h;refine⟨c,a,f,d,?_,rfl⟩;have e:Maps.size (DataW.map ((c.toList.map (WideElems.rg P kt R)).foldr DataW.insert []))=c.size:=by simp[Maps.size,length_sorted]
 omega
end
theorem pS{w w':World}{b:Nat}(h:w.mapTurned w' b):Chg (fun k=>k=b) w w':=by
 obtain⟨e,c,d,a,f,rfl⟩:=h;exact iY _ _ _
theorem oF{w w':World}{b:Nat}(h:w.mapTurned w' b):w'.heap.size=w.heap.size:=by
 obtain⟨e,c,d,a,f,rfl⟩:=h;simp[ChangeMaps.setBlock]
def FileAt(W:World)(b:Nat)(t:List Int)(y:Int):Prop:=W.heap[b]?=some (.cells #[.string (strOfNums t),.int .i64 y] 214 (0,0))
def NewAt(W:World)(F:Nat→Prop)(fl:Nat)(fn:Option Nat):Option (List Int×Int)→Prop
 |none=>fn=none
 |some p=>∃b,fn=some b∧FileAt W b p.1 p.2∧F b∧b≠fl
def OldAt(W:World)(F:Nat→Prop)(fl:Nat)(fn:Option Nat)(fk:Nat):Option (List Int×Int)→Prop
 |none=>fk=fl
 |some p=>FileAt W fk p.1 p.2∧F fk∧fk≠fl∧fn≠some fk
def FailAt(W:World)(F:Nat→Prop)(v:Value):Option (Int×Int)→Prop
 |none=>v= .pointer none
 |some p=>∃b,v= .pointer (some ⟨b,0,none⟩)∧W.heap[b]?=some (.cells #[.int .i64 p.1,.int .i64 p.2] 248 (0,0))∧F b
abbrev dkL(k:Dk)(nm km:Nat)(fv:Value):List Value:=[.int .i64 k.room,.map (some nm),.map (some km),fv]
structure DkAt(W:World)(F:Nat→Prop)(d:Nat)(k:Dk)(nm km fl:Nat)(fn:Option Nat)(fk:Nat)(fv:Value):Prop where
 blk:W.heap[d]?=some (.cells (dkL k nm km fv).toArray 212 (0,0))
 fd:F d
 names:oH W nm fl fn
 kept:oH W km fk none
 fnm:F nm
 fkm:F km
 nk:nm≠km
 log:FileAt W fl k.log k.lsyn
 flog:F fl
 new:NewAt W F fl fn k.new
 old:OldAt W F fl fn fk k.old
 fail:FailAt W F fv k.fail
 lt:∀x,F x→x<W.heap.size
section
variable {W W':World}{F S:Nat→Prop}{d:Nat}{k:Dk}{nm km fl fk:Nat}{fn:Option Nat}{fv:Value}
section
variable {x:Option (List Int×Int)}
theorem NewAt.of_heap(h:NewAt W F fl fn x)(hb:∀k,F k→W'.heap[k]?=W.heap[k]?):NewAt W' F fl fn x:=by
 cases x with
 |none=>exact h
 |some p=>obtain⟨b,e,c,a,d⟩:=h;exact⟨b,e,(hb b a).trans c,a,d⟩
theorem OldAt.of_heap(h:OldAt W F fl fn fk x)(hb:∀k,F k→W'.heap[k]?=W.heap[k]?):OldAt W' F fl fn fk x:=by
 cases x with
 |none=>exact h
 |some p=>obtain⟨b,a,c⟩:=h;exact⟨(hb _ a).trans b,a,c⟩
end
theorem FailAt.of_heap{v:Value}{x:Option (Int×Int)}(h:FailAt W F v x)(hb:∀k,F k→W'.heap[k]?=W.heap[k]?):FailAt W' F v x:=by
 cases x with
 |none=>exact h
 |some p=>obtain⟨b,c,d,a⟩:=h;exact⟨b,c,(hb b a).trans d,a⟩
theorem DkAt.of_heap(h:DkAt W F d k nm km fl fn fk fv)(hs:W.heap.size≤W'.heap.size)(hb:∀k,F k→W'.heap[k]?=W.heap[k]?):DkAt W' F d k nm km fl fn fk fv:=
 ⟨(hb d h.fd).trans h.blk,h.fd,eB h.names (hb _ h.fnm),eB h.kept (hb _ h.fkm),h.fnm,h.fkm,h.nk,(hb _ h.flog).trans h.log,h.flog,h.new.of_heap hb,h.old.of_heap hb,h.fail.of_heap hb,fun x hx=>aG (h.lt x hx) hs⟩
theorem DkAt.apart(h:DkAt W F d k nm km fl fn fk fv)(hc:Chg S W W')(hn:∀k,F k→¬S k):DkAt W' F d k nm km fl fn fk fv:=
 h.of_heap hc.size fun x hx=>hc.block x (h.lt x hx) (hn x hx)
theorem DkAt.cell(h:DkAt W F d k nm km fl fn fk fv)(j:Nat)(x:Value)(hj:(dkL k nm km fv)[j]?=some x):W.cell? ⟨d,j,none⟩=some x:=cO h.blk j x (by simpa using hj)
theorem DkAt.froz(h:DkAt W F d k nm km fl fn fk fv)(j:Nat):W.frozen? ⟨d,j,none⟩=false:=cX h.blk j
section
variable {x:Option (List Int×Int)} {c:Nat} {o:Obj}
theorem NewAt.kept(h:NewAt W F fl fn x)(hx:W.heap[c]?=some o)(ho:∀cs fr,o≠.cells cs 214 fr)(hc:Chg (fun k=>k=c) W W'):NewAt W' F fl fn x:=by
 cases x with
 |none=>exact h
 |some p=>obtain⟨b,f,a,g,d⟩:=h;exact⟨b,f,hc.kept a (fun e=>eX a hx (fun e=>ho _ _ e.symm) e),g,d⟩
theorem OldAt.kept(h:OldAt W F fl fn fk x)(hx:W.heap[c]?=some o)(ho:∀cs fr,o≠.cells cs 214 fr)(hc:Chg (fun k=>k=c) W W'):OldAt W' F fl fn fk x:=by
 cases x with
 |none=>exact h
 |some p=>obtain⟨a,b,d⟩:=h;exact⟨hc.kept a (fun e=>eX a hx (fun e=>ho _ _ e.symm) e),b,d⟩
end
theorem FailAt.kept{v:Value}{x:Option (Int×Int)}{c:Nat}{o:Obj}(h:FailAt W F v x)(hx:W.heap[c]?=some o)(ho:∀cs fr,o≠.cells cs 248 fr)(hc:Chg (fun k=>k=c) W W'):FailAt W' F v x:=by
 cases x with
 |none=>exact h
 |some p=>obtain⟨b,d,a,f⟩:=h;exact⟨b,d,hc.kept a (fun e=>eX a hx (fun e=>ho _ _ e.symm) e),f⟩
end
def Disk(W:World)(F:Nat→Prop)(d:Nat)(k:Dk):Prop:=∃nm km fl fn fk fv,DkAt W F d k nm km fl fn fk fv
def DkTo(W:World)(F:Nat→Prop)(d:Nat)(k:Dk)(W':World):Prop:=∃F',Disk W' F' d k∧Chg F W W'∧∀x,F' x→F x∨W.heap.size≤x
theorem DkTo.of{W:World}{F:Nat→Prop}{d:Nat}{k:Dk}(h:Disk W F d k):DkTo W F d k W:=⟨F,h,Chg.refl _ _,fun _ h=>Or.inl h⟩
theorem DkTo.trans{A B C:World}{F F1:Nat→Prop}{d:Nat}{k:Dk}(hc:Chg F A B)(hf:∀x,F1 x→F x∨A.heap.size≤x)(h:DkTo B F1 d k C):DkTo A F d k C:=by
 obtain⟨a,c,b,e⟩:=h;refine⟨a,c,hc.trans b (fun x hx h'=>?_),fun x hx=>?_⟩
 ·rcases hf x h' with h|h
  ·exact h
  ·omega
 ·rcases e x hx with h|h
  ·exact hf x h
  ·right;have:=hc.size;omega
abbrev rS(q:Int):List PanicEntry:=[{v:=.iface 199 (.agg #[.int .i64 q]),recovered:=false}]
def iC(k:Dk):Prop:=∀p,k.fail=some p→0≤p.1∧p.1≤9223372036854775807
theorem DkAt.self{W W':World}{F:Nat→Prop}{d:Nat}{k k':Dk}{nm km fl fk nm' km' fk':Nat}{fn:Option Nat}{fv fv':Value}(h:DkAt W F d k nm km fl fn fk fv)(hc:Chg (fun x=>x=d) W W')
 (hb:W'.heap[d]?=some (.cells (dkL k' nm' km' fv').toArray 212 (0,0))) (hn:oH W nm' fl fn) (hk:oH W km' fk' none) (hfn:F nm') (hfk:F km') (hne:nm'≠km')
 (h1:k'.log=k.log) (h2:k'.lsyn=k.lsyn) (h3:k'.new=k.new) (h4:OldAt W F fl fn fk' k'.old) (h5:FailAt W F fv' k'.fail):DkAt W' F d k' nm' km' fl fn fk' fv':=by
 obtain⟨_,_,b⟩:=eH hn;obtain⟨_,_,a⟩:=eH hk;refine⟨hb,h.fd,eB hn (by rw[b];exact hc.kept b (fun e=>eX b h.blk (by simp) e)),eB hk (by rw[a];exact hc.kept a (fun e=>eX a h.blk (by simp) e)),hfn,hfk,hne,?_,h.flog,?_,h4.kept h.blk (by simp) hc,h5.kept h.blk (by simp) hc,fun x hx=>aG (h.lt x hx) hc.size⟩
 ·rw[h1,h2];exact hc.kept h.log (fun e=>eX h.log h.blk (by simp) e)
 ·rw[h3];exact h.new.kept h.blk (by simp) hc
theorem DkAt.grow{W:World}{F F':Nat→Prop}{d:Nat}{k:Dk}{nm km fl fk:Nat}{fn:Option Nat}{fv:Value}(h:DkAt W F d k nm km fl fn fk fv)(hF:∀x,F x→F' x)(hlt:∀x,F' x→x<W.heap.size):DkAt W F' d k nm km fl fn fk fv:=by
 refine⟨h.blk,hF _ h.fd,h.names,h.kept,hF _ h.fnm,hF _ h.fkm,h.nk,h.log,hF _ h.flog,?_,?_,?_,hlt⟩
 ·have a:=h.new;cases hk:k.new with
  |none=>rw[hk]at a;exact a
  |some p=>rw[hk]at a;obtain⟨b,e,c,f,g⟩:=a;exact⟨b,e,c,hF _ f,g⟩
 ·have a:=h.old;cases hk:k.old with
  |none=>rw[hk]at a;exact a
  |some p=>rw[hk]at a;obtain⟨e,c,f⟩:=a;exact⟨e,hF _ c,f⟩
 ·have a:=h.fail;cases hk:k.fail with
  |none=>rw[hk]at a;exact a
  |some p=>rw[hk]at a;obtain⟨b,e,c,f⟩:=a;exact⟨b,e,c,hF _ f⟩
theorem DkAt.self'{W W':World}{F:Nat→Prop}{d:Nat}{k k':Dk}{nm km fl fk nm' km' fk':Nat}{fn:Option Nat}{fv fv':Value}(h:DkAt W F d k nm km fl fn fk fv)(hc:Chg (fun x=>x=d) W W')
 (hb:W'.heap[d]?=some (.cells (dkL k' nm' km' fv').toArray 212 (0,0))) (hn:oH W nm' fl fn) (hk:oH W km' fk' none) (hfn:F nm') (hfk:F km') (hne:nm'≠km')
 (h1:k'.log=k.log) (h2:k'.lsyn=k.lsyn) (h3:k'.new=k.new) (h4:OldAt W F fl fn fk' k'.old) (h5:FailAt W' F fv' k'.fail):DkAt W' F d k' nm' km' fl fn fk' fv':=by
 obtain⟨_,_,b⟩:=eH hn;obtain⟨_,_,a⟩:=eH hk;refine⟨hb,h.fd,eB hn (by rw[b];exact hc.kept b (fun e=>eX b h.blk (by simp) e)),eB hk (by rw[a];exact hc.kept a (fun e=>eX a h.blk (by simp) e)),hfn,hfk,hne,?_,h.flog,?_,h4.kept h.blk (by simp) hc,h5,fun x hx=>aG (h.lt x hx) hc.size⟩
 ·rw[h1,h2];exact hc.kept h.log (fun e=>eX h.log h.blk (by simp) e)
 ·rw[h3];exact h.new.kept h.blk (by simp) hc
end
theorem aGv:(prog.info? 312).map (·.size)=some 2:=by kernel_rfl
theorem aJH:liesAt prog prog.depth 312 (2 / prog.cellsOf 312) 0 312 1=true:=by kernel_rfl
theorem infoByte:(prog.info? 5).map (fun i=>(i.zero,i.size,i.bytes))=some (some (.int .u8 0),1,1):=by kernel_rfl
theorem aBU(b:Nat)(w:World)(h0:w.cell? ⟨b,0,none⟩=some (.pointer (some ⟨b,0,none⟩))):
 Calls prog 235 #[.pointer (some ⟨b,0,none⟩)] w fun e w'=>e= .returned (.tuple #[])∧w'=w:=by
 obtain⟨j,a,_⟩:=Option.map_eq_some_iff.1 aGv;have c:=Lib.run_neq_ptr_same (P:=prog) w ⟨b,0,none⟩ underlying310 a;go_enter func235,ntmps235;go_wp2
 (first|go_end0|skip)
 exact⟨rfl,rfl⟩
theorem aAB(b:Nat)(w:World)(h0:w.cell? ⟨b,0,none⟩=some (.pointer none))(hsh:w.shape? b=some (312,2))(hfz:w.frozen? ⟨b,0,none⟩=false):
 Calls prog 235 #[.pointer (some ⟨b,0,none⟩)] w fun e w'=>e= .returned (.tuple #[])∧w'=w.setCell ⟨b,0,none⟩ (.pointer (some ⟨b,0,none⟩)):=by
 obtain⟨j,c,a⟩:=Option.map_eq_some_iff.1 aGv;have g:=Lib.run_to_unsafe (P:=prog) w ⟨b,0,none⟩ underlying310 underlying261 c (by rw[a];decide) hsh (Nat.zero_lt_succ 1);have d:= @run_callFunc_extern prog 241 _ Extern.AbiNoEscape.same func241 (by kernel_rfl) (by kernel_rfl) (by kernel_rfl) (by kernel_rfl);have h:=Lib.run_noEscape (P:=prog) (w:=w) (.pointer (some ⟨b,0,none⟩));have f:=Lib.run_from_unsafe (P:=prog) w ⟨b,0,none⟩ underlying261 underlying310 c hsh aJH;go_enter func235,ntmps235;go_wp2
 (first|go_end0|skip)
 exact⟨rfl,rfl⟩
structure BldAt(B:Nat)(W:World)(b:Nat)(v:Value)(bs:List Value):Prop where
 blk:∃p,(p= .pointer none∨p= .pointer (some ⟨b,0,none⟩))∧W.heap[b]?=some (.cells #[p,v] 312 (0,0))
 own:W.ownsRow B 5 1 v bs.length bs
 ne:v.ownBlock≠some b
 hB:B≤b
theorem BldAt.is{B:Nat}{W:World}{b:Nat}{v:Value}{bs:List Value}(h:BldAt B W b v bs):Lib.IsBuilder 312 5 B b bs W:=by
 obtain⟨p,c,a⟩:=h.blk;rcases c with rfl|rfl
 ·exact Or.inl ⟨h.hB,v,a,h.own,h.ne⟩
 ·exact Or.inr ⟨h.hB,v,a,h.own,h.ne⟩
theorem aAq(B b:Nat)(v:Value)(bs:List Value)(s:ByteArray)(w:World)(h:BldAt B w b v bs)(hlen:bs.length+s.size≤140737488355328)(hBw:B≤w.heap.size):
 Calls prog 222 #[.pointer (some ⟨b,0,none⟩),.string s] w fun e w'=>e= .returned (.tuple #[.int .i64 s.size,.nilIface])∧∃v',BldAt B w' b v' (bs++Lib.strCells s)∧Chg (fun k=>k=b∨v.ownBlock=some k) w w':=by
 obtain⟨K,M,E,F,G⟩:=info_parts infoByte;have I:Calls prog 235 #[.pointer (some ⟨b,0,none⟩)] w fun e w'=>e= .returned (.tuple #[])∧w'.heap[b]?=some (.cells #[.pointer (some ⟨b,0,none⟩),v] 312 (0,0))∧Chg (fun k=>k=b) w w':=by
  obtain⟨p,L,z⟩:=h.blk;rcases L with rfl|rfl
  ·have l:Lib.BuilderAt 312 5 B b (.pointer none) bs w:=⟨h.hB,v,z,h.own,h.ne⟩;refine(aAB b w l.cell0 l.shape l.frozen0).mono ?_;rintro e w' ⟨rfl,rfl⟩;exact⟨rfl,dD z 0 _,(Chg.refl _ _).setCell _ _ (fun _=>rfl)⟩
  ·have l:Lib.BuilderAt 312 5 B b (.pointer (some ⟨b,0,none⟩)) bs w:=⟨h.hB,v,z,h.own,h.ne⟩;refine(aBU b w l.cell0).mono ?_;rintro e w' ⟨rfl,rfl⟩;exact⟨rfl,z,Chg.refl _ _⟩
 have y:=h.own;have u:=h.ne;have l:=h.hB;clear h;go_enter func222,ntmps222;go_wp2_with (go_at_call 235;refine I.mono ?_);rintro e J ⟨rfl,i,m⟩;have n:=m.row y (fun q hq e=>u (by rw[hq,e]));have Q:J.cell? ⟨b,0,none⟩=some (.pointer (some ⟨b,0,none⟩)):=cO i 0 _ rfl;have R:J.cell? ⟨b,1,none⟩=some v:=cO i 1 _ rfl;go_wp2_with (at_builtin;refine Lib.wpList_append_own_string _ rfl _ _ 218 9 rfl B 5 K underlying218 underlying9 M E F G _ _ _ rfl n s rfl ?c3 ?c4 ?c5 ?_)
 case c3=>unfold maxLen;omega
 case c4=>omega
 case c5=>have:=m.size;omega
 intro v' t a f _;have D:=dG i;have d:t.heap[b]?=some (.cells #[.pointer (some ⟨b,0,none⟩),v] 312 (0,0)):=by
  rw[f.block b D (fun e=>u e.symm)];exact i
 have H:=(m.mono (fun _ _ h=>Or.inl h)).trans (Chg.of_grown f) (fun x _ h=>Or.inr h.symm);have S:t.cell? ⟨b,0,none⟩=some (.pointer (some ⟨b,0,none⟩)):=cO d 0 _ rfl;have P:t.cell? ⟨b,1,none⟩=some v:=cO d 1 _ rfl;have O:=cX d 1;obtain⟨r,o,c,rfl⟩:∃r o c,v'= .slice r o c:=by
  rcases a.2 with⟨A,_⟩|⟨g,c,N,A,_⟩
  ·exact⟨_,_,_,A⟩
  ·exact⟨_,_,_,A⟩
 go_wp2
 go_ret2
 have j:(Value.slice r o c).ownBlock≠some b:=fun e=>fN a d (by decide) b e rfl;refine⟨rfl,.slice r o c,⟨⟨_,Or.inr rfl,dD d 1 _⟩,?_,j,l⟩,H.setCell _ _ (fun _=>Or.inl rfl)⟩;have C:Chg (fun k=>k=b) t (t.setCell ⟨b,1,none⟩ (.slice r o c)):=(Chg.refl _ _).setCell _ _ (fun _=>rfl);have:=C.row a (fun q hq e=>j (by rw[hq,e]));rw[aD,Lib.strCells_length];exact this
section
open Go.Maps
theorem uV:∀(f:Nat) (L:List Int),∀r ∈ iN f L,0≤r.lock∧r.lock≤3
 |0,L=>by simp[iN]
 |f+1,L=>by
  simp only[iN];split
  ·rename_i h;intro r hr;rcases List.mem_cons.1 hr with rfl|hr
   ·exact aEm (uI h.2 (by rw[bD];omega))
   ·exact uV f _ r hr
  ·simp
theorem aCr(s:ByteArray):25*(dO (dH s)).length≤s.size:=by
 have h:=pE (dH s).length (dH s);rw[fH]at h;unfold dO;rw[fH];exact h
theorem aBq(s:ByteArray)(w:World)(hs:s.size≤1000000000000):
 Calls prog 22 #[.string s] w fun e w'=>∃v,e= .returned (.tuple #[v,.int .i64 (25*((dO (dH s)).length:Int))])∧w'.ownsRow w.heap.size 58 7 v (eG (dO (dH s)) 4).length (cellsOf (eG (dO (dH s)) 4))∧Below w.heap.size w w':=by
 have a:=vV s w hs;have h:∀r ∈ dO (dH s),0≤r.lock∧r.lock≤3:=uV _ _;have d:=aCr s;generalize dO (dH s)=rs at a h d⊢;generalize o:rs.length=N at a d⊢;have k:Hid (Calls prog 61 #[.string s] w fun e w'=>∃b n,e= .returned (.tuple #[.map (some b),.int .i64 (25*(N:Int))])∧w'.ownsMap prog 3 tY b n (oD rs)∧n≤1000000000000∧w.heap.size≤b∧Below w.heap.size w w'):=a;clear a o;go_enter func22,ntmps22;go_wp2_with fail;refine k.out.mono ?_;rintro e l ⟨b,n,rfl,c,q,p,i⟩;have g:=qW b n rs l c h;clear k c;go_wp2_with (go_at_call 62;refine g.mono ?_;rintro e t ⟨m,rfl,f,j⟩)
 go_ret2
 exact⟨m,rfl,gL f i.size,i.trans (j.mono i.size)⟩
end
end Go.Proofs.YtbbdgokdfhdpiaaGreatDoor
