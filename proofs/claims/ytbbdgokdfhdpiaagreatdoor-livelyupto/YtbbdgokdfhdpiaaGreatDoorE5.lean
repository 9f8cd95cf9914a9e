/- A part of the proof: PrgReplay, KeysLay, PrgRows, MdlAc, MdlMo, MoInv, RecPure, PrgMoor. -/
import Derived.Maps.Own
import Derived.Maps.OwnOps
import Derived.Maps.OwnSet
import Derived.Shelf.SlIterI.Nil
import Derived.Shelf.SortM.Plain
import Derived.Shelf.SortM.SortNone
import Derived.Test.YtbbdgokdfhdpiaaGreatDoorE1
namespace Go.Proofs.YtbbdgokdfhdpiaaGreatDoor
set_option linter.all false
set_option maxRecDepth 100000
set_option maxHeartbeats 40000000
open Go.Proofs.Tryz Go.RowKit
section
open Go.RowKit Go.Maps
def fq(L:List Int):Bool:=decide (25≤L.length)&&sC (L.take 25)
theorem aFg(L:List Int):fq L=true↔(25≤L.length∧sC (L.take 25)=true):=by simp[fq]
theorem aAc{L:List Int}{k n:Nat}(h:k<n):(L.take n).getD k 0=L.getD k 0:=by
 simp[List.getD,h]
theorem tZ(L:List Int):mH (L.take 25)=mH L:=by
 have e:∀a,a+4≤25→((L.take 25).drop a).take 4=(L.drop a).take 4:=fun a ha=>by
  rw[List.drop_take,List.take_take,Nat.min_eq_left (by omega)]
 simp only[mH,aAc (show 1<25 by omega),aAc (show 10<25 by omega),e 2 (by omega),e 6 (by omega),e 11 (by omega),e 15 (by omega),e 19 (by omega)]
theorem aAh(s:ByteArray)(w:World):
 Calls prog 97 #[.string s] w fun e w'=>e= .returned (.tuple #[rwV (if fq (dG s)=true then mH (dG s)else zRw),.bool (fq (dG s))])∧Below w.heap.size w w':=by
 by_cases h:s.size<25
 ·have a:fq (dG s)=false:=by simp[fq,gK];omega
  rw[a];exact aBz s w h
 ·have a:((strOfNums (dM (mH (dG s)))).toList==(s.extract 0 25).toList)=fq (dG s):=by
   rw[aGW,pS,List.drop_zero];have e:fq (dG s)=sC ((dG s).take 25):=by
    have:25≤(dG s).length:=by rw[gK];omega
    simp[fq,this]
   rw[e,sC,tZ]
  exact aCf s w (by omega) _ rfl _ a
def vP(r:Rw):DataW Unit:=.agg [.lit (.int .i64 r.lock),.lit (.int .i64 r.prom),.lit (.int .i64 r.acc),.lit (.int .i64 r.own),.lit (.int .i64 r.tok),.lit (.int .i64 r.ttl),.lit (.int .i64 r.seq)]
def qU:Value→Option (DataW Unit×List MemPlace)
 |.agg ⟨[.int .i64 a,.int .i64 b,.int .i64 c,.int .i64 d,.int .i64 e,.int .i64 f,.int .i64 g]⟩=>some (vP ⟨a,b,c,d,e,f,g⟩,[])
 |_=>none
theorem wF(r:Rw):qU (rwV r)=some (vP r,[]):=rfl
def lU:List Rw→DataW Unit
 |rs=>rs.foldl (fun D r=>D.put (.int .i64 r.lock) (vP r)) (.map [])
theorem qJ(rs:List Rw)(r:Rw):lU (rs++[r])=(lU rs).put (.int .i64 r.lock) (vP r):=by simp[lU]
theorem aEk:Keyed prog 3:=int_keyed underlying3
theorem pT{M:List Int}(h:sC M=true)(hl:M.length=25):okB (mH M)=true:=by
 simp only[sC,aM]at h;by_cases a:okB (mH M)=true
 ·exact a
 ·unfold dM at h;rw[if_neg a]at h;rw[←h]at hl;simp at hl
theorem aBt{n:Int}(h0:0≤n)(h1:n≤2147483647):(Lit.int .i64 n).wf=true:=WalkArith.wf_i64 (by omega)
theorem aBB{r:Rw}(h:okB r=true):0≤r.lock∧r.lock≤3:=by
 simp only[okB,aR,aM]at h;omega
structure RowCell(W:World)(B g:Nat)(r:Rw):Prop where
 base:B≤g
 lt:g<W.heap.size
 row:W.heap[g]?=some (.cells (rwL r).toArray 58 (0,0))
section
variable {W:World} {B g:Nat} {r:Rw}
theorem RowCell.cell(h:RowCell W B g r):∀j x,(rwL r)[j]?=some x→W.cell? ⟨g,j,none⟩=some x:=fun j x hj=>by
 rw[cell_of_row W g j _ _ _ h.row];simpa using hj
theorem RowCell.frozen(h:RowCell W B g r)(j:Nat):W.frozen? ⟨g,j,none⟩=false:=frozen_of_row W g j _ _ h.row
end
theorem aB1(W:World)(g:Nat)(x0 x1 x2 x3 x4 x5 x6:Value)(t:TypeId)(h:W.heap[g]?=some (.cells #[x0,x1,x2,x3,x4,x5,x6] t (0,0)))(v0 v1 v2 v3 v4 v5 v6:Value):
 (((((((W.setCell ⟨g,0,none⟩ v0).setCell ⟨g,1,none⟩ v1).setCell ⟨g,2,none⟩ v2).setCell ⟨g,3,none⟩ v3).setCell ⟨g,4,none⟩ v4).setCell ⟨g,5,none⟩ v5).setCell ⟨g,6,none⟩ v6).heap[g]?=some (.cells #[v0,v1,v2,v3,v4,v5,v6] t (0,0)):=by
 have d:=heap_setCell_same _ g 0 _ t v0 h;have b:=heap_setCell_same _ g 1 _ t v1 d;have i:=heap_setCell_same _ g 2 _ t v2 b;have c:=heap_setCell_same _ g 3 _ t v3 i;have f:=heap_setCell_same _ g 4 _ t v4 c;have a:=heap_setCell_same _ g 5 _ t v5 f;have e:=heap_setCell_same _ g 6 _ t v6 a;rw[e]
 rfl
theorem aAv(W:World)(g b:Nat)(h:b≠g)(v0 v1 v2 v3 v4 v5 v6:Value):
 (((((((W.setCell ⟨g,0,none⟩ v0).setCell ⟨g,1,none⟩ v1).setCell ⟨g,2,none⟩ v2).setCell ⟨g,3,none⟩ v3).setCell ⟨g,4,none⟩ v4).setCell ⟨g,5,none⟩ v5).setCell ⟨g,6,none⟩ v6).heap[b]?=W.heap[b]?:=by
 rw[heap_setCell_other _ _ _ _ h,heap_setCell_other _ _ _ _ h,heap_setCell_other _ _ _ _ h,heap_setCell_other _ _ _ _ h,heap_setCell_other _ _ _ _ h,heap_setCell_other _ _ _ _ h,heap_setCell_other _ _ _ _ h]
theorem iG{w w':World}{R:Value→Option (DataW Unit×List MemPlace)}{b n:Nat}{D:DataW Unit}(h:w.ownsMap prog 3 R b n D)(hb:w'.heap[b]?=w.heap[b]?):w'.ownsMap prog 3 R b n D:=by
 obtain⟨d,a,c,e⟩:=h;exact⟨d,a,hb.trans c,e⟩
theorem eV{W:World}{g:Nat}{r:Rw}(h:W.heap[g]?=some (.cells (rwL r).toArray 58 (0,0)))(j:Nat)(x:Value)(hj:(rwL r)[j]?=some x):W.cell? ⟨g,j,none⟩=some x:=by
 rw[cell_of_row W g j _ _ _ h];simpa using hj
theorem zN(s:ByteArray)(w:World)(hs:s.size≤1000000000000):
 Calls prog 61 #[.string s] w fun e w'=>∃b n,e= .returned (.tuple #[.map (some b),.int .i64 (25*((dS (dG s)).length:Int))])∧w'.ownsMap prog 3 qU b n (lU (dS (dG s)))∧n≤1000000000000∧w.heap.size≤b∧Below w.heap.size w w':=by
 have d8:= @run_makeMap prog;have HL:=cA (gK s);have h0:=fun W=>aAh s W;generalize T:fq (dG s)=q0 at h0;generalize a4:(if q0=true then mH (dG s)else zRw)=R0 at h0;have b5:=cA T;have b1:=cA a4;have H0:=cA h0;clear h0 T a4;obtain⟨l0,p0,a0,o0,t0,u0,v0⟩:=R0;go_enter func61,ntmps61;go_wp2_with fail;refine(H0.out _).mono ?_;rintro e w1 ⟨rfl,G⟩;go_wp2;go_loopw [5,6,7] (fun n r ok wr=>∃(k p g:Nat) (I:List Rw) (R:Rw) (q:Bool),p=25*k∧p≤s.size∧n= .int .i64 p∧r= .pointer (some ⟨g,0,none⟩)∧ok= .bool q∧I.length=k∧dS (dG s)=I++jA (s.size-k) ((dG s).drop p)∧fq ((dG s).drop p)=q∧(q=true→mH ((dG s).drop p)=R)∧RowCell wr (w.heap.size+1) g R∧wr.ownsMap prog 3 qU w.heap.size k (lU I)∧Below w.heap.size w wr) (fun n _ _ _=>s.size-(intOf n).toNat)
 case atStart=>
  have b6:w.heap.size+1≤w1.heap.size:=by have:=G.size;simpa using this
  refine⟨0,0,w1.heap.size,[],⟨l0,p0,a0,o0,t0,u0,v0⟩,q0,rfl,by omega,rfl,rfl,rfl,rfl,?_,?_,?_,⟨b6,by simp,aA _ _⟩,?_,?_⟩
  ·simp only[dS,List.nil_append,List.drop_zero,Nat.sub_zero];rw[HL.out]
  ·rw[List.drop_zero];exact b5.out
  ·intro hq;rw[List.drop_zero,←b1.out,if_pos hq]
  ·refine iG (World.ownsMap_made w prog 3 qU) ?_;rw[Below.heap_alloc _ _ _ (by omega)];exact G.block _ (by simp)
  ·exact(((aJ w.heap.size w).alloc (aE _) _).trans (G.mono (by simp))).alloc (by omega) _
 case round=>
  clear G;obtain⟨k,p,g,I,R,q,a5,hp,rfl,rfl,rfl,V,y,a1,a3,C,A,hB⟩:=hrel;have N:=cA a5;have S:=cA V;have Z:=cA y;have J:=cA a1;have K:=cA a3;have f:=cA C;clear a5 V y a1 a3 C;have b4:=hB.size;cases q
  ·go_wp2
   go_ret2
   have E:jA (s.size-k) ((dG s).drop p)=[]:=nG _ _ (by rw[←aFg,J.out];simp);have y:=Z.out;rw[E,aC]at y;refine⟨_,k,?_,by rw[y];exact A,by have:=N.out;omega,aE _,hB⟩;rw[y,S.out,N.out];simp
  ·have F:=(aFg _).1 J.out;rw[aV,HL.out]at F;have d9:p+25≤s.size:=by omega
   have P:okB R=true:=by
    rw[←K.out rfl,←tZ];exact pT F.2 (by rw[aZ,aV,HL.out];omega)
   have O:=aBB P;have b9:=cA (K.out rfl);have a9:Hid (25≤((dG s).drop p).length∧sC (((dG s).drop p).take 25)=true):=⟨by rw[aV,HL.out];omega,F.2⟩;clear F P K J;have Q:=uX s (p+25);have M:=fun W=>aAh (s.extract (p+25) s.size) W;rw[Q]at M;generalize Y:fq ((dG s).drop (p+25))=q2 at M;generalize X:(if q2=true then mH ((dG s).drop (p+25))else zRw)=R2 at M;have b8:=cA Y;have b3:=cA X;have HF:=cA M;clear M Y X Q;obtain⟨l,D,a,o,t,u,v⟩:=R;obtain⟨l2,b7,a2,o2,t2,u2,v2⟩:=R2;have H:keyOf prog 3 (.int .i64 l)=some (.int .i64 l):=keyOf_int_mk underlying3 (WalkArith.wf_i64 (by have:=O.1;have:=O.2;simp at*;omega));have d7:k≤1000000000000:=by have:=N.out;omega
   have a7:some g≠some w.heap.size:=by have:=f.out.base;simp;omega
   have b0:∀j,some w.heap.size=some j→w.heap.size≤j:=fun j hj=>by cases hj;exact aE _
   have c0:wr.cell? ⟨g,0,none⟩=some (.int .i64 l):=f.out.cell 0 _ rfl;have c1:wr.cell? ⟨g,1,none⟩=some (.int .i64 D):=f.out.cell 1 _ rfl;have c2:wr.cell? ⟨g,2,none⟩=some (.int .i64 a):=f.out.cell 2 _ rfl;have c3:wr.cell? ⟨g,3,none⟩=some (.int .i64 o):=f.out.cell 3 _ rfl;have c4:wr.cell? ⟨g,4,none⟩=some (.int .i64 t):=f.out.cell 4 _ rfl;have c5:wr.cell? ⟨g,5,none⟩=some (.int .i64 u):=f.out.cell 5 _ rfl;have c6:wr.cell? ⟨g,6,none⟩=some (.int .i64 v):=f.out.cell 6 _ rfl;go_wp2_with (at_mapUpdate;refine wpList_mapUpdate_own _ rfl _ _ _ 118 rfl 3 58 aEk underlying118 qU w.heap.size k (lU I) rfl A (by unfold maxLen;omega) _ (rwV ⟨l,D,a,o,t,u,v⟩) (.int .i64 l) rfl rfl H (vP ⟨l,D,a,o,t,u,v⟩) [] (wF _) ?_;intro i B h;have d:i.heap[g]?=some (.cells (rwL ⟨l,D,a,o,t,u,v⟩).toArray 58 (0,0)):=(h.block g f.out.lt a7).trans f.out.row;have c9:g<i.heap.size:=aG f.out.lt h.size;have d0:i.cell? ⟨g,0,none⟩=some (.int .i64 l):=eV d 0 _ rfl;have d1:i.cell? ⟨g,1,none⟩=some (.int .i64 D):=eV d 1 _ rfl;have d2:i.cell? ⟨g,2,none⟩=some (.int .i64 a):=eV d 2 _ rfl;have d3:i.cell? ⟨g,3,none⟩=some (.int .i64 o):=eV d 3 _ rfl;have d4:i.cell? ⟨g,4,none⟩=some (.int .i64 t):=eV d 4 _ rfl;have d5:i.cell? ⟨g,5,none⟩=some (.int .i64 u):=eV d 5 _ rfl;have d6:i.cell? ⟨g,6,none⟩=some (.int .i64 v):=eV d 6 _ rfl;have U:Below w.heap.size w i:=hB.grown h b4 b0;clear h d A hB);refine(HF.out _).mono ?_;rintro e m ⟨rfl,z⟩
   have c:m.heap[i.heap.size]?=some (.cells (rwL ⟨l,D,a,o,t,u,v⟩).toArray 58 (0,0)):=(z.block _ (by simp)).trans (aA _ _);have a6:w.heap.size+1≤i.heap.size:=by have:=f.out.base;omega
   have c7:i.heap.size<m.heap.size:=by have:=z.size;simp at this;omega
   have b2:=(U.alloc (by omega) _).trans (z.mono (by simp;omega));have L:m.ownsMap prog 3 qU w.heap.size (k+1) ((lU I).put (.int .i64 l) (vP ⟨l,D,a,o,t,u,v⟩)):=by
    refine iG B ?_;rw[z.block _ (by simp;omega)];exact Below.heap_alloc _ _ _ (by omega)
   have e0:m.cell? ⟨i.heap.size,0,none⟩=some (.int .i64 l):=eV c 0 _ rfl;have f0:=frozen_of_row m _ 0 _ _ c;have e1:m.cell? ⟨i.heap.size,1,none⟩=some (.int .i64 D):=eV c 1 _ rfl;have f1:=frozen_of_row m _ 1 _ _ c;have e2:m.cell? ⟨i.heap.size,2,none⟩=some (.int .i64 a):=eV c 2 _ rfl;have f2:=frozen_of_row m _ 2 _ _ c;have e3:m.cell? ⟨i.heap.size,3,none⟩=some (.int .i64 o):=eV c 3 _ rfl;have f3:=frozen_of_row m _ 3 _ _ c;have e4:m.cell? ⟨i.heap.size,4,none⟩=some (.int .i64 t):=eV c 4 _ rfl;have f4:=frozen_of_row m _ 4 _ _ c;have e5:m.cell? ⟨i.heap.size,5,none⟩=some (.int .i64 u):=eV c 5 _ rfl;have f5:=frozen_of_row m _ 5 _ _ c;have e6:m.cell? ⟨i.heap.size,6,none⟩=some (.int .i64 v):=eV c 6 _ rfl;have f6:=frozen_of_row m _ 6 _ _ c;have a8:=cA c;clear z U B c d0 d1 d2 d3 d4 d5 d6 c0 c1 c2 c3 c4 c5 c6 HF H;go_wp2;go_roundw
   case rel=>
    refine⟨k+1,p+25,i.heap.size,I++[⟨l,D,a,o,t,u,v⟩],⟨l2,b7,a2,o2,t2,u2,v2⟩,q2,by rw[N.out];omega,by omega,by go_num,rfl,rfl,by simp[S.out],?_,b8.out,fun hq=>by rw[←b3.out,if_pos hq],⟨a6,by simp;omega,aB1 _ _ _ _ _ _ _ _ _ _ a8.out _ _ _ _ _ _ _⟩,?_,?_⟩
    ·have E:=nK (s.size-(k+1)) ((dG s).drop p) a9.out;have c8:=N.out;rw[show s.size-(k+1)+1=s.size-k by omega,tZ,b9.out,List.drop_drop]at E;rw[Z.out,E];simp
    ·rw[qJ];exact iG L (aAv _ _ _ (by omega) _ _ _ _ _ _ _)
    ·have x:w.heap.size≤i.heap.size:=by omega
     exact(((((((b2.setCell x _).setCell x _).setCell x _).setCell x _).setCell x _).setCell x _).setCell x _)
   case measure=>simp[intOf];omega
end
def keysA_ren:Go.Shelf.Ren:=⟨fun|7=>99|10=>139|n=>n,fun|23=>118|26=>3|3=>58|28=>168|0=>0|27=>167|33=>95|4=>4|n=>n,fun|n=>n⟩
theorem keysA:Go.Proofs.SlLaysZI.n7 prog keysA_ren:={
 mixed:=by kernel_rfl
 f7:=⟨f99.name,by decide,func99.trans (congrArg some (by kernel_rfl))⟩
 f10:=⟨f139.name,by decide,func139.trans (congrArg some (by kernel_rfl))⟩
 t0:=underlying0
 a0:=isAgg0
 z0:=sizeOf0
 v0:=zeroValue0
 t4:=underlying4
 a4:=isAgg4
 z4:=sizeOf4
 v4:=zeroValue4
 t23:=underlying118
 a23:=isAgg118
 z23:=sizeOf118
 v23:=zeroValue118
 t26:=underlying3
 a26:=isAgg3
 z26:=sizeOf3
 v26:=zeroValue3
 t27:=underlying167
 a27:=isAgg167
 z27:=sizeOf167
 v27:=zeroValue167
 t28:=underlying168
 a28:=isAgg168
 z28:=sizeOf168
 v28:=zeroValue168
 t33:=underlying95
 a33:=isAgg95
 z33:=sizeOf95
 v33:=zeroValue95}
def sortedA_ren:Go.Shelf.Ren:=⟨fun|6=>98|8=>137|9=>138|11=>176|13=>178|12=>177|23=>212|24=>213|14=>203|15=>204|16=>205|17=>206|18=>207|19=>208|20=>209|21=>210|22=>211|25=>227|26=>228|27=>229|28=>230|29=>231|30=>232|31=>240|n=>n,fun|26=>3|28=>168|24=>25|0=>0|3=>3|37=>222|48=>284|50=>286|4=>4|40=>278|39=>277|45=>107|5=>5|9=>9|51=>315|55=>319|57=>323|58=>59|33=>95|n=>n,fun|n=>n⟩
theorem sortedA:Go.Proofs.SlLaysZI.n6 prog sortedA_ren:={
 mixed:=by kernel_rfl
 f6:=⟨f98.name,by decide,func98.trans (congrArg some (by kernel_rfl))⟩
 f8:=⟨f137.name,by decide,func137.trans (congrArg some (by kernel_rfl))⟩
 f11:=⟨f176.name,by decide,func176.trans (congrArg some (by kernel_rfl))⟩
 t0:=underlying0
 a0:=isAgg0
 z0:=sizeOf0
 v0:=zeroValue0
 t24:=underlying25
 a24:=isAgg25
 z24:=sizeOf25
 v24:=zeroValue25
 t26:=underlying3
 a26:=isAgg3
 z26:=sizeOf3
 v26:=zeroValue3
 t28:=underlying168
 a28:=isAgg168
 z28:=sizeOf168
 v28:=zeroValue168
 i26:=by kernel_rfl}
def sortA_ren:Go.Shelf.Ren:=⟨fun|5=>138|8=>178|7=>177|19=>212|20=>213|10=>203|11=>204|12=>205|13=>206|14=>207|15=>208|16=>209|17=>210|18=>211|30=>227|31=>228|32=>229|33=>230|34=>231|35=>232|40=>240|n=>n,fun|23=>25|25=>3|3=>3|32=>222|22=>25|0=>0|44=>284|46=>286|4=>4|36=>278|35=>277|41=>107|5=>5|9=>9|53=>315|57=>319|63=>323|64=>59|n=>n,fun|n=>n⟩
theorem sortA:Go.Proofs.SlLaysM.n5 prog sortA_ren:={
 mixed:=by kernel_rfl
 f5:=⟨f138.name,by decide,func138.trans (congrArg some (by kernel_rfl))⟩
 f7:=⟨f177.name,by decide,func177.trans (congrArg some (by kernel_rfl))⟩
 f8:=func178.trans (congrArg some (by kernel_rfl))
 f10:=⟨f203.name,by decide,func203.trans (congrArg some (by kernel_rfl))⟩
 f11:=⟨f204.name,by decide,func204.trans (congrArg some (by kernel_rfl))⟩
 f12:=⟨f205.name,by decide,func205.trans (congrArg some (by kernel_rfl))⟩
 f13:=⟨f206.name,by decide,func206.trans (congrArg some (by kernel_rfl))⟩
 f14:=⟨f207.name,by decide,func207.trans (congrArg some (by kernel_rfl))⟩
 f15:=⟨f208.name,by decide,func208.trans (congrArg some (by kernel_rfl))⟩
 f16:=⟨f209.name,by decide,func209.trans (congrArg some (by kernel_rfl))⟩
 f17:=⟨f210.name,by decide,func210.trans (congrArg some (by kernel_rfl))⟩
 f18:=⟨f211.name,by decide,func211.trans (congrArg some (by kernel_rfl))⟩
 f19:=func212.trans (congrArg some (by kernel_rfl))
 f20:=func213.trans (congrArg some (by kernel_rfl))
 f30:=⟨f227.name,by decide,func227.trans (congrArg some (by kernel_rfl))⟩
 f31:=func228.trans (congrArg some (by kernel_rfl))
 f32:=func229.trans (congrArg some (by kernel_rfl))
 f33:=⟨f230.name,by decide,func230.trans (congrArg some (by kernel_rfl))⟩
 f34:=⟨f231.name,by decide,func231.trans (congrArg some (by kernel_rfl))⟩
 f35:=⟨f232.name,by decide,func232.trans (congrArg some (by kernel_rfl))⟩
 f40:=⟨f240.name,by decide,func240.trans (congrArg some (by kernel_rfl))⟩
 t0:=underlying0
 a0:=isAgg0
 z0:=sizeOf0
 v0:=zeroValue0
 t3:=underlying3
 a3:=isAgg3
 z3:=sizeOf3
 v3:=zeroValue3
 t4:=underlying4
 a4:=isAgg4
 z4:=sizeOf4
 v4:=zeroValue4
 t5:=underlying5
 a5:=isAgg5
 z5:=sizeOf5
 v5:=zeroValue5
 t9:=underlying9
 a9:=isAgg9
 z9:=sizeOf9
 v9:=zeroValue9
 t22:=underlying25
 a22:=isAgg25
 z22:=sizeOf25
 v22:=zeroValue25
 t23:=underlying25
 a23:=isAgg25
 z23:=sizeOf25
 v23:=zeroValue25
 t25:=underlying3
 a25:=isAgg3
 z25:=sizeOf3
 v25:=zeroValue3
 t32:=underlying222
 a32:=isAgg222
 z32:=sizeOf222
 v32:=zeroValue222
 t35:=underlying277
 a35:=isAgg277
 z35:=sizeOf277
 v35:=zeroValue277
 t36:=underlying278
 a36:=isAgg278
 z36:=sizeOf278
 v36:=zeroValue278
 t41:=underlying107
 a41:=isAgg107
 z41:=sizeOf107
 v41:=zeroValue107
 t44:=underlying284
 a44:=isAgg284
 z44:=sizeOf284
 v44:=zeroValue284
 t46:=underlying286
 a46:=isAgg286
 z46:=sizeOf286
 v46:=zeroValue286
 t53:=underlying315
 a53:=isAgg315
 z53:=sizeOf315
 v53:=zeroValue315
 t57:=underlying319
 a57:=isAgg319
 z57:=sizeOf319
 v57:=zeroValue319
 t63:=underlying323
 a63:=isAgg323
 z63:=sizeOf323
 v63:=zeroValue323
 t64:=underlying59
 a64:=isAgg59
 z64:=sizeOf59
 v64:=zeroValue59}
section
open Go.RowKit Go.Maps Go.Sort Go.Shelf
theorem aHA(m:Nat):AnyZI.SortsIn prog sortedA_ren Fence.wide m:=
 ⟨fun blk off cap ss W hH hblk hsz=>callsIn_wide.2 (AnyM.slices_Sort_int sortA blk off cap ss W hH hblk hsz),
  fun p cap W=>callsIn_wide.2 (AnyM.slices_Sort_int_none sortA p cap W)⟩
theorem aFp(mb:Option Nat)(W:World):
 Calls prog 99 #[.map mb] W fun e w'=>e= .returned (.func (.func 139) #[] #[.pointer (some ⟨W.heap.size,0,none⟩)])∧w'=W.alloc (.cells #[.map mb] 118):=
 (callsIn_wide (n:=5)).1 (AnyZI.keys_in keysA Fence.wide 5 trivial rfl mb W)
theorem aCw(b nn:Nat)(D0:DataW Unit)(R:Value→Option (DataW Unit×List MemPlace))(w:World)(hown:w.ownsMap prog 3 R b nn D0)(hmax:Maps.size D0≤1000000000000):
 Calls prog 98 #[.func (.func 139) #[] #[.pointer (some ⟨w.heap.size,0,none⟩)]] (w.alloc (.cells #[.map (some b)] 118)) fun e w'=>∃(v:Value) (ss:List Int),e= .returned v∧ss.Perm (intKeys D0)∧
  w'.ownsRow w.heap.size 3 1 v ss.length ((ss.mergeSort (fun x y=>decide (x≤y))).map encZ)∧Below w.heap.size w w':=by
 have g:=hown.lt;have c:SeqGives Fence.wide 2 prog 139 #[.pointer (some ⟨w.heap.size,0,none⟩)] encZ (fun ss=>ss.Perm (intKeys D0)) (Maps.size D0) (w.alloc (.cells #[.map (some b)] 118)):=
  AnyZI.keys_gives (ρ:=keysA_ren) {keysA with} Fence.wide _ trivial rfl (by omega) w.heap.size b nn D0 _ (by simp) (by simp) (by
   obtain⟨k,a,f,i,l,m⟩:=hown;exact⟨k,a,(Below.heap_alloc _ _ b g).trans f,i,l,m⟩)
 have h:=AnyZI.sorted_in sortedA Fence.wide 5 trivial trivial trivial trivial rfl (by omega) (aHA _) (enters_of func138 (by kernel_rfl) rfl) 139 #[.pointer (some ⟨w.heap.size,0,none⟩)] trivial (enters_of func139 (by kernel_rfl) rfl) _ _ (by unfold maxLen;omega) (by omega) _ c;change CallsIn _ _ prog 98 _ _ _ at h;refine((callsIn_wide (n:=5)).1 h).mono ?_;rintro e w' ⟨v,ss,rfl,j,d,_,f⟩;exact⟨v,ss,rfl,j,aAG d (by simp),((aJ _ w).alloc (aE _) _).trans (f.mono (by simp))⟩
theorem aHf(x:Int):WideAt.IsKeyLit (.int .i64 x):=by simp[WideAt.IsKeyLit]
theorem yP(rs:List Rw):IsMap (lU rs):=by
 suffices h:∀(l:List Rw) (D:DataW Unit),IsMap D→IsMap (l.foldl (fun D r=>D.put (.int .i64 r.lock) (vP r)) D)from h rs _ ⟨[],rfl⟩
 intro l;induction l with
 |nil=>intro D h;exact h
 |cons r l ih=>
  intro D h;refine ih _ ?_;obtain⟨a,rfl⟩:=h;exact⟨_,rfl⟩
theorem kO(rs:List Rw)(r:Rw)(k:Nat):dQ (rs++[r]) k=if r.lock=(k:Int)then some r else dQ rs k:=by
 unfold dQ;rw[List.reverse_append,List.reverse_singleton,List.singleton_append,List.find?_cons];by_cases a:r.lock=(k:Int)
 ·simp[a]
 ·simp[a]
theorem aAy(z:DataW Unit)(k:Nat):∀n (rs:List Rw),rs.length=n→(lU rs).atKey (.int .i64 k) z=(match dQ rs k with|some r=>vP r|none=>z)
 |0,rs,h=>by
  obtain rfl:=List.length_eq_zero_iff.1 h
  rfl
 |n+1,rs,h=>by
  have hne:rs≠[]:=fun e=>by rw[e]at h;cases h
  obtain⟨l,r,rfl⟩:∃l r,rs=l++[r]:=⟨rs.dropLast,rs.getLast hne,(List.dropLast_concat_getLast hne).symm⟩;have ih:=aAy z k n l (by simpa using h);rw[qJ,kO];by_cases hc:r.lock=(k:Int)
  ·rw[if_pos hc,hc,atKey_put_same (yP l) (aHf _)]
  ·rw[if_neg hc,atKey_put_other (fun e=>hc (by simpa using e.symm)),ih]
theorem aA9(x:Int):∀n (rs:List Rw),rs.length=n→(has (lU rs) (.int .i64 x)=true↔∃r ∈ rs,r.lock=x)
 |0,rs,h=>by
  obtain rfl:=List.length_eq_zero_iff.1 h;simp[lU,has_eq]
 |n+1,rs,h=>by
  have hne:rs≠[]:=fun e=>by rw[e]at h;cases h
  obtain⟨l,r,rfl⟩:∃l r,rs=l++[r]:=⟨rs.dropLast,rs.getLast hne,(List.dropLast_concat_getLast hne).symm⟩;have ih:=aA9 x n l (by simpa using h);rw[qJ];by_cases hc:r.lock=x
  ·rw[hc,has_put_same (yP l) (aHf _)];simp[hc]
  ·rw[has_put_other (fun e=>hc (by simpa using e.symm)),ih];simp[hc]
theorem aA1(rs:List Rw)(k:Nat):(dQ rs k).isSome=true↔∃r ∈ rs,r.lock=(k:Int):=by
 unfold dQ;rw[List.find?_isSome];simp
def jM(rs:List Rw):List Nat:=(List.range 4).filter fun k=>(dQ rs k).isSome
theorem uY(rs:List Rw):gS rs 4=(jM rs).map fun k=>(dQ rs k).getD zRw:=by
 unfold gS jM;generalize List.range 4=l;induction l with
 |nil=>rfl
 |cons k l ih=>
  rw[List.filterMap_cons,List.filter_cons];cases h:dQ rs k with
  |none=>simp[ih]
  |some r=>simp[ih,h]
theorem aA6(rs:List Rw):((jM rs).map fun k:Nat=>(k:Int)).Pairwise (fun a b=>a<b):=by
 rw[List.pairwise_map];exact((List.pairwise_lt_range (n:=4)).filter _).imp fun h=>by exact_mod_cast h
section
variable {rs:List Rw}
theorem xO(hl:∀r ∈ rs,0≤r.lock∧r.lock≤3){w:World}{R:Value→Option (DataW Unit×List MemPlace)}{b n:Nat}(hown:w.ownsMap prog 3 R b n (lU rs)):
 ((jM rs).map fun k:Nat=>(k:Int)).Perm (intKeys (lU rs)):=by
 obtain⟨l,d,g,_⟩:=hown.entries aEk;obtain⟨i,a,f⟩:=hown.keysOf;obtain rfl:l=i:=by rw[d]at a;simpa using a
 rw[d];refine perm_intKeys g (fun p hp=>by obtain⟨v,j⟩:=f p hp;obtain⟨x,_,m,_⟩:=Maps.keyOf_i64 underlying3 j;exact⟨x,m⟩) ((aA6 rs).imp fun h e=>by omega) (fun x=>?_);rw[←d,aA9 x _ rs rfl];simp only[jM,bL,bU,List.mem_range,aA1];constructor
 ·rintro⟨k,⟨_,r,c,e⟩,rfl⟩;exact⟨r,c,e⟩
 ·rintro⟨r,c,rfl⟩;have:=hl r c;exact⟨r.lock.toNat,⟨by omega,r,c,by omega⟩,by omega⟩
theorem aBd(hl:∀r ∈ rs,0≤r.lock∧r.lock≤3){w:World}{R:Value→Option (DataW Unit×List MemPlace)}{b n:Nat}(hown:w.ownsMap prog 3 R b n (lU rs)){ss:List Int}(hp:ss.Perm (intKeys (lU rs))):
 ss.mergeSort (fun x y=>decide (x≤y))=(jM rs).map fun k:Nat=>(k:Int):=by
 refine List.Perm.eq_of_pairwise (le:=fun a b=>a≤b) (fun a b _ _ h1 h2=>Int.le_antisymm h1 h2) ?_ ((aA6 rs).imp fun h=>by omega) (((List.mergeSort_perm ss _).trans hp).trans (xO hl hown).symm);have:=List.pairwise_mergeSort (le:=fun x y:Int=>decide (x≤y)) (fun a b c h1 h2=>by simp only[aM]at*;omega) (fun a b=>by simp only[Bool.or_eq_true,aM];omega) ss;exact this.imp fun h=>by simpa using h
theorem rH(hl:∀r ∈ rs,0≤r.lock∧r.lock≤3){w:World}{R:Value→Option (DataW Unit×List MemPlace)}{b n:Nat}(hown:w.ownsMap prog 3 R b n (lU rs)):
 Maps.size (lU rs)=(jM rs).length:=by
 have h:=(xO hl hown).length_eq;obtain⟨c,a,_,_⟩:=hown.entries aEk;rw[bK]at h;rw[h,a];simp[intKeys,Maps.size]
end
theorem mG(rs:List Rw):(jM rs).length≤4:=by
 have:=List.length_filter_le (fun k=>(dQ rs k).isSome) (List.range 4);simpa[jM]using this
theorem aEp{rs:List Rw}{m:Nat}(h:m<(jM rs).length):∃(k:Nat) (r:Rw),(jM rs)[m]=k∧dQ rs k=some r∧k<4:=by
 have a:=bD h;generalize (jM rs)[m]=k at a;simp only[jM,bU,List.mem_range]at a;obtain⟨r,b⟩:=Option.isSome_iff_exists.1 a.2;exact⟨k,r,rfl,b,a.1⟩
theorem xC{v:Value}{r:Rw}{ps:List MemPlace}(h:qU v=some (vP r,ps)):v=rwV r:=by
 unfold qU at h;split at h
 ·simp only[vP,Option.some.injEq,Prod.mk.injEq,DataW.agg.injEq,List.cons.injEq,DataW.lit.injEq,Lit.int.injEq,true_and,and_true]at h;obtain⟨⟨e,c,i,d,g,b,f⟩,_⟩:=h;obtain⟨l,p,a,o,t,u,q⟩:=r;subst e c i d g b f
  rfl
 ·cases h
theorem aDx(w:World):(zeroValue 58).run prog w= .ok (rwV zRw) w:=by kernel_rfl
theorem aCA{rs:List Rw}{w:World}{b n:Nat}(hown:w.ownsMap prog 3 qU b n (lU rs)){k:Nat}{r:Rw}(hk:k<4)(hr:dQ rs k=some r):
 (Instr.lookup 118 (.map (some b)) (.int .i64 (k:Int)) false).run prog w= .ok (rwV r) w:=by
 have c:keyOf prog 3 (.int .i64 (k:Int))=some (.int .i64 (k:Int)):=keyOf_int_mk underlying3 (WalkArith.wf_i64 (by omega));obtain⟨v,e,a,d⟩:=hown.lookup aEk underlying118 (aDx w) (wF zRw) c;rw[aAy (vP zRw) k _ rs rfl,hr]at d;rw[a,xC d]
theorem rR(rs:List Rw):(gS rs 4).length=(jM rs).length:=by rw[uY,bK]
theorem aFD{rs:List Rw}{m:Nat}(h:m<(jM rs).length){r:Rw}(hr:dQ rs (jM rs)[m]=some r):(gS rs 4).take (m+1)=(gS rs 4).take m++[r]:=by
 have a:m<(gS rs 4).length:=by rw[rR];exact h
 rw[List.take_succ_eq_append_getElem a]
 congr 2
 simp only[uY,List.getElem_map,hr,Option.getD_some]
theorem aCq{w:World}{base:Nat}{v:Value}{n:Nat}{xs:List Int}(h:w.ownsRow base 3 1 v n (xs.map encZ)):∃(p:Option Addr) (cap:Nat),v= .slice p n cap∧(∀g,v.ownBlock=some g→base≤g∧g<w.heap.size)∧(∀m (hm:m<xs.length),∃g,p=some ⟨g,0,none⟩∧base≤g∧g<w.heap.size∧w.cell? ⟨g,m,none⟩=some (.int .i64 xs[m])):=by
 have a:=h.lt;have b:=h.1;rcases h.2 with⟨rfl,rfl⟩|⟨g,cap,d,rfl,i,j,l,k,e,f⟩
 ·refine⟨none,0,rfl,a,fun m hm=>?_⟩;simp at b;rw[b]at hm;simp at hm
 ·refine⟨some ⟨g,0,none⟩,cap,rfl,a,fun m hm=>⟨g,rfl,(a g rfl).1,(a g rfl).2,?_⟩⟩;have c:m<n*1:=by simp at b;omega
  rw[h.cellAt m c];simp[hm,encZ]
theorem zI(b nn:Nat)(rs:List Rw)(w:World)(hown:w.ownsMap prog 3 qU b nn (lU rs))(hl:∀r ∈ rs,0≤r.lock∧r.lock≤3):
 Calls prog 62 #[.map (some b)] w fun e w'=>∃v,e= .returned v∧w'.ownsRow w.heap.size 58 7 v (gS rs 4).length (cellsOf (gS rs 4))∧Below w.heap.size w w':=by
 obtain⟨i0,hi,P,T,S⟩:=info_parts aFU;have A:=rH hl hown;have a6:=mG rs;have HT:=cA (rR rs);generalize hN:(jM rs).length=N at A a6;have X:=cA hN;have G:=hown.lt;clear hN;go_enter func62,ntmps62;go_wp2_with (first
  |(at_len;refine wpList_len_own _ rfl _ 118 rfl 3 58 underlying118 qU b nn (lU rs) rfl hown ?_;rw[A])
  |(at_make;refine wpList_make_own _ rfl _ _ 47 rfl w.heap.size 58 i0 _ 7 underlying47 hi P T _ _ _ N rfl rfl rfl (by rw[S];omega) (by unfold maxLen;omega) (aE _) ?_;intro Y B E))
 have d:=iG hown (E.block b G (by simp));have M:=(aJ w.heap.size w).grown E (aE _) (fun j f=>by cases f);have a9:w.heap.size<Y.heap.size:=(B.lt _ rfl).2;refine(aFp (some b) Y).mono ?_;rintro e w2 ⟨rfl,rfl⟩;go_wp2_with fail;refine(aCw b nn (lU rs) qU Y d (by rw[A];omega)).mono ?_;rintro e L ⟨v3,ss,rfl,hp,n,F⟩;rw[aBd hl d hp]at n;have Q:ss.length=N:=by
  have:=n.1;simp at this;rw[←this];exact X.out
 rw[Q]at n;obtain⟨p,b1,rfl,x,q⟩:=aCq n;have O:=M.trans (F.mono (by omega));have I:=uA B F;have a8:=iG hown (O.block b G);clear F M d B E hp Q;have HC:Hid (∀m (hm:m<(jM rs).length),∃g,p=some ⟨g,0,none⟩∧Y.heap.size≤g∧g<L.heap.size∧L.cell? ⟨g,m,none⟩=some (.int .i64 ((jM rs)[m]:Nat))):=by
  intro m hm;obtain⟨g,h1,h2,h3,h4⟩:=q m (by simpa using hm);exact⟨g,h1,h2,h3,by simpa using h4⟩
 clear q n x;go_wp2;go_loopw [3,13] (fun v i wr=>∃(m:Nat),m≤N∧i= .int .i64 m∧wr.ownsRow w.heap.size 58 7 v m (cellsOf ((gS rs 4).take m))∧(v.ownBlock=some w.heap.size∨∀j,v.ownBlock=some j→L.heap.size≤j)∧L.grownBy wr (some w.heap.size)∧Below w.heap.size w wr) (fun _ i _=>N-(intOf i).toNat)
 case atStart=>exact⟨0,by omega,rfl,I,Or.inl rfl,World.grownBy.refl _ _,O⟩
 case round=>
  obtain⟨m,hm,rfl,c,x,y,h⟩:=hrel;have a3:=h.size;by_cases a1:m<N
  ·have D:m<(jM rs).length:=by rw[X.out];exact a1
   obtain⟨g,rfl,b2,b0,Z⟩:=HC.out m D;obtain⟨k,R,hk,C,a7⟩:=aEp D;have a0:=cA (aFD D (by rw[hk];exact C));rw[hk]at Z;have a2:=y.cell Z (by simp;omega);have s:=iG hown (h.block b G);have K:=aCA s a7 C;obtain⟨l,pr,a,o,t,u,sq⟩:=R;have a5:(m:Int)<(N:Int):=by omega
   clear Z hk C s;go_wp2_with (at_builtin;refine wpList_append_own_at _ rfl _ _ 47 rfl w.heap.size 58 i0 _ 7 56 underlying47 hi P T S rfl (by decide) _ _ _ rfl (c.alloc _) ⟨wr.heap.size,0,none⟩ 1 1 (rwL ⟨l,pr,a,o,t,u,sq⟩) rfl rfl ?qa ?qb ?qc ?qd ?qe ?_)
   case qa=>exact zL _ _ _
   case qb=>exact aBH _
   case qc=>unfold maxLen;omega
   case qd=>omega
   case qe=>simp;omega
   intro v5 w5 J H _ z;have a4:=(h.alloc a3 _).grown H (by simp;omega) (fun j f=>(c.lt j f).1);have W:v5.ownBlock=some w.heap.size∨∀j,v5.ownBlock=some j→L.heap.size≤j:=by
    rcases z with e|e
    ·rw[e];exact x
    ·right;intro j f;rw[e]at f;have:=y.size;simp at f;omega
   have V:L.grownBy w5 (some w.heap.size):=by
    refine(y.andThen (World.grownBy_alloc wr _ none) (fun j f=>by cases f)).andThen H (fun j f=>?_);rcases x with e|e
    ·right;rw[←f,e]
    ·exact Or.inl (e j f)
   clear H y c h z K a2;go_wp2;go_roundw
   case rel=>exact⟨m+1,by omega,by go_num,by rw[a0.out,aAT];exact J,W,V,a4⟩
   case measure=>simp[intOf];omega
  ·have U:=cA ((by omega:m=N));have a5:¬(m:Int)<(N:Int):=by omega
   go_wp2;go_ret;have e:(gS rs 4).take m=gS rs 4:=aY (by rw[HT.out,X.out,U.out];omega);rw[e]at c;exact⟨_,rfl,by rw[HT.out,X.out,←U.out];exact c,h⟩
end
structure Dk where
 room:Int
 log:List Int
 lsyn:Int
 new:Option (List Int×Int)
 old:Option (List Int×Int)
 fail:Option (Int×Int)
abbrev How:=Option (Option Int)
theorem lB{motive:How→Prop}(h:How)(fine:motive none)(full:motive (some none))(dies:∀q,motive (some (some q))):motive h:=by
 rcases h with _|_|q
 ·exact fine
 ·exact full
 ·exact dies q
def fS(k:Dk):Option Dk:=match k.fail with
 |none=>some k
 |some (n,q)=>if n=0 then none else some {k with fail:=some (n-1,q)}
def jY(k:Dk):Int:=match k.fail with
 |none=>0
 |some (_,q)=>q
def gU(k:Dk):Int:=match k.new with
 |none=>0
 |some (t,_)=>t.length
def iF(k:Dk):Int:=k.log.length+gU k
def jJ(k:Dk)(s:List Int):Dk:={k with log:=k.log++s}
def kR(k:Dk):Dk:={k with lsyn:=k.log.length}
def jN(k:Dk):Dk:={k with new:=some ([],0)}
def hZ(k:Dk)(s:List Int):Dk:={k with new:=match k.new with
 |some (t,y)=>some (t++s,y)
 |none=>none}
def gV(k:Dk):Dk:={k with new:=match k.new with
 |some (t,_)=>some (t,t.length)
 |none=>none}
def gD(k:Dk):Dk:=match k.new with
 |some (t,y)=>{k with log:=t,lsyn:=y,new:=none,old:=some (k.log,k.lsyn)}
 |none=>k
def nH(k:Dk):Dk:={k with old:=none}
def eP(k:Dk):List Int×Int:=match k.old with
 |some p=>p
 |none=>(k.log,k.lsyn)
def tU(t:List Int)(y q:Int):List Int:=t.take (y+min q (t.length-y)).toNat
def gI(k:Dk)(q:Int):Dk:={k with log:=tU (eP k).1 (eP k).2 q,lsyn:=(tU (eP k).1 (eP k).2 q).length,new:=none,old:=none,fail:=none}
def dL(k:Dk)(s:List Int)(put:Dk→List Int→Dk):Dk×How:=match fS k with
 |none=>(k,(.some (.some (jY k))))
 |some k1=>if k1.room<iF k1+s.length then(k1,(.some .none))else(put k1 s,.none)
def dD(k:Dk)(go:Dk→Dk):Dk×How:=match fS k with
 |none=>(k,(.some (.some (jY k))))
 |some k1=>(go k1,.none)
def gM(p:Dk×How)(go:Dk→Dk×How):Dk×How:=match p with
 |(k,.none)=>go k
 |(k,h)=>(k,h)
def kM(k:Dk)(s:List Int):Dk×How:=gM (dL k s jJ) fun k=>dD k kR
def fY(k:Dk)(s:List Int):Dk×How:=
 gM (dD k jN) fun k=>gM (dL k s hZ) fun k=>gM (dD k gV) fun k=>gM (dD k gD) fun k=>dD k nH
structure Ac where
 num:Int
 compact:Int
 dk:Dk
 rows:List Rw
 st:Int
def aFA(room:Int):Dk:=⟨room,[],0,none,none,none⟩
def qW(f:Cf)(num:Int):Ac:=⟨num,f.compact,aFA f.room,[],0⟩
def gH(a:Ac)(lock:Int):Rw:={(dQ a.rows lock.toNat).getD zRw with lock:=lock}
def dX(m:Mg)(r:Rw):Rw:=if m.bal<r.prom then r else if m.kind=1 then{r with prom:=m.bal}else⟨r.lock,m.bal,m.bal,m.val.own,m.val.tok,m.val.ttl,m.val.seq⟩
def decMsg(m:Mg)(r:Rw):Mg:=if m.bal<r.prom then{zMg with kind:=5,base:=r.prom}else if m.kind=1 then{zMg with kind:=2,base:=r.acc,val:=⟨r.own,r.tok,r.ttl,r.seq⟩}else{zMg with kind:=4}
def jT(m:Mg)(r:Rw):Bool:=if m.bal<r.prom then false else if m.kind=1 then decide (r.prom<m.bal)else true
def jK(a:Ac)(x m:Mg):Mg:={x with src:=a.num,dst:=m.src,lock:=m.lock,bal:=m.bal}
def gP(rs:List Rw):List Int:=(gS rs 4).flatMap dM
def kZ(a:Ac):Bool:=decide (a.compact<(a.dk.log.length:Int) / 25)
def gC(a:Ac)(r:Rw):Ac×How:=match kM a.dk (dM r)with
 |(k,.none)=>({a with dk:=k,rows:=a.rows++[r]},.none)
 |(k,h)=>({a with dk:=k},h)
def cP(a:Ac):Ac×How:=({a with dk:=(fY a.dk (gP a.rows)).1},(fY a.dk (gP a.rows)).2)
def iZ(a:Ac)(m:Mg):Ac×List Ev×How:=
 let r:=gH a m.lock
 let x:=[fC (jK a (decMsg m r) m)]
 if jT m r=true then
  match gC a (dX m r)with
  |(a1,.none)=>if kZ a1=true then((cP a1).1,x,(cP a1).2)else(a1,x,.none)
  |(a1,h)=>(a1,[],h)
 else(a,x,.none)
def crashA(a:Ac)(q:Int):Ac:={a with dk:=gI a.dk q,rows:=[],st:=2}
def mB(a:Ac)(h:How):Ac:=match h with
 |(.some .none)=>{a with st:=1}
 |_=>a
def gX(a:Ac)(m:Mg):Ac:=if a.st≠0 then a else match iZ a m with
 |(a1,_,(.some (.some q)))=>crashA a1 q
 |(a1,_,h)=>mB a1 h
def jU(a:Ac)(m:Mg):List Ev:=if a.st≠0 then[]else match iZ a m with
 |(_,e,(.some (.some _)))=>e++[gJ a.num]
 |(_,e,_)=>e
def rU(a:Ac)(m:Mg):Int:=if a.st≠0 then 0 else match iZ a m with
 |(_,_,(.some (.some _)))=>6
 |_=>0
def aAb(a:Ac):Int:=if a.st=2 then 2 else 0
def oO(a:Ac)(n q:Int):Ac:=if a.st=2 then a else if n=0 then crashA a q else{a with dk:={a.dk with fail:=some (n,q)}}
def oF(a:Ac)(n:Int):List Ev:=if a.st=2 then[]else if n=0 then[gJ a.num]else[]
def fK(a:Ac):Ac×How:=
 let rs:=dS a.dk.log
 let a1:={a with rows:=rs}
 if 25*(rs.length:Int)<a.dk.log.length∨kZ a=true then cP a1 else(a1,.none)
def yR(a:Ac):Int:=if a.st=0 then 3 else 0
def eQ(a:Ac):Ac:=if a.st=0 then a else
 let a1:=if a.st=1 then crashA a 0 else a
 mB (fK {a1 with st:=0}).1 (fK {a1 with st:=0}).2
def nI(a:Ac):List Ev:=if a.st=0 then[]else if a.st=1 then[gJ a.num,nX a.num]else[nX a.num]
structure Mo where
 cf:Cf
 acs:List Ac
 cls:List Ct
 net:List Mg
 tr:List Ev
def dH(i:Int)(n:Nat):Bool:=decide (0≤i)&&decide (i<(n:Int))
theorem cV(i:Int)(n:Nat):dH i n=true↔0≤i∧i<(n:Int):=by simp[dH]
def iH(c:Cf):Bool:=decide (1≤c.f)&&decide (c.f≤2)&&decide (1≤c.clients)&&decide (c.clients≤4)&&decide (1≤c.patience)&&decide (c.patience≤20)&&decide (1≤c.tries)&&decide (c.tries≤8)&&decide (0≤c.drift)&&decide (c.drift≤10)&&decide (2≤c.compact)&&decide (c.compact≤16)&&decide (100≤c.room)&&decide (c.room≤2000)
def kV(f:Cf):Mo:=⟨f,(List.range (dI f)).map (fun (i:Nat)=>qW f i),(List.range f.clients.toNat).map (fun (i:Nat)=>uN i),[],[]⟩
def clM(x:Mo)(i:Int):Ct:=x.cls.getD i.toNat (uN 0)
def acM(x:Mo)(i:Int):Ac:=x.acs.getD i.toNat (qW x.cf 0)
def fW(x:Mo)(i:Int)(c:Ct)(e:List Ev):Mo:={x with cls:=x.cls.set i.toNat c,net:=x.net++cH e,tr:=x.tr++e}
def iX(x:Mo)(i:Int)(a:Ac)(e:List Ev):Mo:={x with acs:=x.acs.set i.toNat a,net:=x.net++cH e,tr:=x.tr++e}
def jW(x:Mo)(i k l t:Int):Bool:= !(dH i x.cls.length)|| !(decide (1≤k∧k≤4))|| !(decide (0≤l∧l≤3))||(decide (k≤2)&& !(decide (1≤t∧t≤1000)))
def rX(k t:Int):Int:=if k≤2 then t else 0
def mL(x:Mo)(i k l t:Int):Int:=if jW x i k l t=true then 1 else jX (clM x i)
def eY(x:Mo)(i k l t:Int):Mo:=if jW x i k l t=true then x else fW x i (iN (clM x i) k l (rX k t)) (iB x.cf (clM x i) k l (rX k t))
def nD(x:Mo)(i:Int):Int:=if dH i x.cls.length=true then wS (clM x i)else 1
def kC(x:Mo)(i:Int):Mo:=if dH i x.cls.length=true then fW x i (kT x.cf (clM x i)) (lA x.cf (clM x i))else x
def jQ(x:Mo)(i:Int):Int:=if dH i x.cls.length=true then aDE (clM x i)else 1
def iR(x:Mo)(i:Int):Mo:=if dH i x.cls.length=true then fW x i (lY (clM x i)) (lO (clM x i))else x
def fN(x:Mo)(i:Int):Int:=if dH i x.cls.length=true then eK (clM x i)else 1
def eM(x:Mo)(i:Int):Mo:=if dH i x.cls.length=true then fW x i (iQ (clM x i)) (iE (clM x i))else x
def jO(x:Mo)(i:Int):Mg:=x.net.getD i.toNat zMg
def aAS(x:Mo)(i:Int):Int:=if dH i x.net.length=true then 0 else 1
def eL(x:Mo)(i:Int):Mo:=if dH i x.net.length=true then{x with net:=x.net.eraseIdx i.toNat}else x
def kS(x:Mo)(i:Int):Mo:=if dH i x.net.length=true then{x with net:=x.net++[jO x i]}else x
def gF(m:Mg):Bool:=m.kind==1||m.kind==3
def jI(x:Mo)(i:Int):Int:=if dH i x.net.length=true then(if gF (jO x i)=true then rU (acM x (jO x i).dst) (jO x i)else 0)else 1
def cZ(x:Mo)(i:Int):Mo:=if dH i x.net.length=true then
 (if gF (jO x i)=true then iX (eL x i) (jO x i).dst (gX (acM x (jO x i).dst) (jO x i)) (jU (acM x (jO x i).dst) (jO x i))
  else fW (eL x i) (jO x i).dst (fI x.cf (clM x (jO x i).dst) (jO x i)) (fE x.cf (clM x (jO x i).dst) (jO x i)))else x
def lK(x:Mo)(i n q:Int):Bool:= !(dH i x.acs.length)||decide (n<0)||decide (q<0)
def yE(x:Mo)(i n q:Int):Int:=if lK x i n q=true then 1 else aAb (acM x i)
def iO(x:Mo)(i n q:Int):Mo:=if lK x i n q=true then x else iX x i (oO (acM x i) n q) (oF (acM x i) n)
def aAI(x:Mo)(i:Int):Int:=if dH i x.acs.length=true then yR (acM x i)else 1
def eN(x:Mo)(i:Int):Mo:=if dH i x.acs.length=true then iX x i (eQ (acM x i)) (nI (acM x i))else x
def uD(x:Mo)(i l:Int):Bool:=dH i x.cls.length&&aC0 (clM x i) l
def uE(x:Mo)(n:Int):List Ev:=x.tr.drop (min (max n 0) x.tr.length).toNat
theorem aFr(x:Mo)(i:Int)(c:Ct)(e:List Ev):(fW x i c e).cf=x.cf:=rfl
theorem aFo(x:Mo)(i:Int)(a:Ac)(e:List Ev):(iX x i a e).cf=x.cf:=rfl
section
variable {x:Mo} {i:Int}
theorem nO(h:dH i x.cls.length=true):∃h':i.toNat<x.cls.length,clM x i=x.cls[i.toNat]:=by
 obtain⟨b,a⟩:=(cV _ _).1 h;have h':i.toNat<x.cls.length:=by omega
 exact⟨h',by unfold clM;simp[aQ,h']⟩
theorem oY(h:dH i x.acs.length=true):∃h':i.toNat<x.acs.length,acM x i=x.acs[i.toNat]:=by
 obtain⟨b,a⟩:=(cV _ _).1 h;have h':i.toNat<x.acs.length:=by omega
 exact⟨h',by unfold acM;simp[aQ,h']⟩
theorem pR(h:dH i x.net.length=true):∃h':i.toNat<x.net.length,jO x i=x.net[i.toNat]:=by
 obtain⟨b,a⟩:=(cV _ _).1 h;have h':i.toNat<x.net.length:=by omega
 exact⟨h',by unfold jO;simp[aQ,h']⟩
end
structure VOk(v:Vl):Prop where
 o1:0≤v.own
 o2:v.own≤4
 k1:0≤v.tok
 k2:v.tok≤256255
 t1:0≤v.ttl
 t2:v.ttl≤1000
 s1:0≤v.seq
 s2:v.seq≤2147483647
theorem wY:VOk zVl:=⟨by decide,by decide,by decide,by decide,by decide,by decide,by decide,by decide⟩
structure MOk(f:Cf)(m:Mg):Prop where
 k1:1≤m.kind
 k2:m.kind≤5
 l1:0≤m.lock
 l2:m.lock≤3
 b1:0≤m.bal
 b2:m.bal≤256255
 e1:0≤m.base
 e2:m.base≤256255
 v:VOk m.val
 s1:0≤m.src
 d1:0≤m.dst
 k4:m.kind=4→m.base=0
 toA:m.kind=1∨m.kind=3→m.src<f.clients∧m.dst<2*f.f+1
 toC:¬(m.kind=1∨m.kind=3)→m.src<2*f.f+1∧m.dst<f.clients
structure OOk(f:Cf)(N:Int)(o:On):Prop where
 k1:1≤o.kind
 k2:o.kind≤4
 l1:0≤o.lock
 l2:o.lock≤3
 t1:0≤o.ttl
 t2:o.ttl≤1000
 g1:0≤o.began
 g2:o.began≤N
 r1:0≤o.tries
 r2:o.tries≤8
 b1:0≤o.att.bal
 b2:o.att.bal≤256255
 a1:0≤o.att.began
 a2:o.att.began≤N
 ans:(o.att.ans.length:Int)≤f.f
 e1:0≤o.att.base
 e2:o.att.base≤256255
 v:VOk o.att.val
 mine:(o.mine.length:Int)≤N
structure CCore(f:Cf)(N:Int)(i:Nat)(c:Ct):Prop where
 num:c.num=i
 i1:0≤c.inc
 i2:c.inc≤63
 c1:0≤c.clock
 c2:c.clock≤N
 r1:0≤c.round
 r2:c.round≤1000
 w:∀l,0≤(c.wat l).since∧(c.wat l).since≤N
structure COk(f:Cf)(N:Int)(i:Nat)(c:Ct):Prop where
 core:CCore f N i c
 dn:c.up=false→c.doing=none
 on:∀o,c.doing=some o→OOk f N o
section
variable {f:Cf} {N M:Int}
theorem OOk.mono{o:On}(h:OOk f N o)(hm:N≤M):OOk f M o:=
 {h with g2:=by have:=h.g2;omega,a2:=by have:=h.a2;omega,mine:=by have:=h.mine;omega}
theorem CCore.mono{i:Nat}{c:Ct}(h:CCore f N i c)(hm:N≤M):CCore f M i c:=
 {h with c2:=by have:=h.c2;omega,w:=fun l=>by have:=h.w l;omega}
theorem COk.mono{i:Nat}{c:Ct}(h:COk f N i c)(hm:N≤M):COk f M i c:=
 ⟨h.core.mono hm,h.dn,fun o ho=>(h.on o ho).mono hm⟩
end
theorem aD8{w:Int→Wt}{N:Int}(h:∀l,0≤(w l).since∧(w l).since≤N)(l:Int)(v:Wt)(h1:0≤v.since)(h2:v.since≤N):∀k,0≤(upd w l v k).since∧(upd w l v k).since≤N:=fun k=>by
 unfold upd;split
 ·exact⟨h1,h2⟩
 ·exact h k
section
variable {f:Cf}{N:Int}{i:Nat}{c:Ct}{o:On}
theorem aGe(h:CCore f N i c)(res tok:Int)(v:Vl):CCore f N i (fT c o res tok v)∧(fT c o res tok v).doing=none∧(fT c o res tok v).up=c.up:=by
 have a:CCore f N i {c with doing:=none}:=⟨h.num,h.i1,h.i2,h.c1,h.c2,h.r1,h.r2,h.w⟩;unfold fT;dsimp only;split
 ·unfold kD nZ;split<;>exact⟨⟨h.num,h.i1,h.i2,h.c1,h.c2,h.r1,h.r2,h.w⟩,rfl,rfl⟩
 ·split
  ·exact⟨⟨h.num,h.i1,h.i2,h.c1,h.c2,h.r1,h.r2,h.w⟩,rfl,rfl⟩
  ·split
   ·unfold lW;split
    ·exact⟨a,rfl,rfl⟩
    ·exact⟨⟨h.num,h.i1,h.i2,h.c1,h.c2,h.r1,h.r2,aD8 h.w _ _ h.c1 h.c2⟩,rfl,rfl⟩
   ·exact⟨a,rfl,rfl⟩
theorem aAB(h:CCore f N i c)(res tok:Int)(v:Vl):COk f N i (fT c o res tok v):=by
 obtain⟨b,a,d⟩:=aGe (o:=o) h res tok v;exact⟨b,fun _=>a,fun o ho=>by rw[a]at ho;cases ho⟩
def EOk(f:Cf)(e:List Ev):Prop:=(∀m ∈ cH e,MOk f m)∧e.length≤6
theorem iD:EOk f []:=⟨fun m h=>(by rw[eU]at h;cases h),by decide⟩
theorem sO(e:Ev)(h:e.kind≠1):EOk f [e]:=⟨fun m hm=>(by
 have:cH [e]=[]:=by simp[cH,pG,h]
 rw[this]at hm;cases hm),by simp⟩
theorem vW(res own tok:Int):EOk f (kX c o res own tok):=sO _ (by simp[fZ])
theorem kA(c:Ct)(o:On)(kind base:Int)(v:Vl)(n:Nat):cH (fA c o kind base v n)=(List.range n).map fun (d:Nat)=>⟨kind,c.num,(d:Int),o.lock,o.att.bal,base,v⟩:=by
 unfold cH fA;rw[List.filter_eq_self.2 (fun e he=>by
  obtain⟨k,_,rfl⟩:=bL.1 he
  rfl),List.map_map]
 rfl
theorem zT(hf1:1≤f.f)(hf2:f.f≤2)(hc:f.clients≤4)(h:CCore f N i c)(hi:(i:Int)<f.clients)(ho:0≤o.lock∧o.lock≤3)(hb:0≤o.att.bal∧o.att.bal≤256255)(kind base:Int)(hk:kind=1∨kind=3)(h1:0≤base)(h2:base≤256255)(v:Vl)(hv:VOk v):EOk f (fA c o kind base v (dI f)):=by
 refine⟨fun m hm=>?_,by simp[fA,dI];omega⟩;rw[kA]at hm;obtain⟨d,b,rfl⟩:=bL.1 hm;have a:=List.mem_range.1 b;unfold dI at a;have:=h.num;exact⟨by show 1≤kind;omega,by show kind≤5;omega,ho.1,ho.2,hb.1,hb.2,h1,h2,hv,by show 0≤c.num;omega,by show(0:Int)≤(d:Int);omega,fun h=>(by exfalso;have:kind=4:=h;omega),fun _=>⟨by show c.num<_;omega,by show(d:Int)<_;omega⟩,fun h=>absurd hk h⟩
structure aHh(f:Cf)(N:Int)(o:On):Prop where
 k1:1≤o.kind
 k2:o.kind≤4
 l1:0≤o.lock
 l2:o.lock≤3
 t1:0≤o.ttl
 t2:o.ttl≤1000
 g1:0≤o.began
 g2:o.began≤N
 r1:0≤o.tries
 r2:o.tries<8
 mine:(o.mine.length:Int)≤N
theorem OOk.base(h:OOk f N o)(hr:o.tries<8):aHh f N o:=⟨h.k1,h.k2,h.l1,h.l2,h.t1,h.t2,h.g1,h.g2,h.r1,hr,h.mine⟩
theorem xU(hf1:1≤f.f)(hf2:f.f≤2)(hc:f.clients≤4)(h:CCore f N i c)(hi:(i:Int)<f.clients)(hu:c.up=true)(ho:aHh f N o):COk f N i (gG c o)∧EOk f (fH f c o):=by
 unfold gG fH;have g:=h.num;split
 ·exact⟨aAB h _ _ _,vW _ _ _⟩
 ·rename_i d;have b:0≤(hO c).bal:=by have:=h.r1;have:=h.i1;show 0≤(c.round+1)*256+c.inc*4+c.num;omega
  have a:(hO c).bal≤256255:=by have:=h.i2;show(c.round+1)*256+c.inc*4+c.num≤256255;omega
  refine⟨⟨⟨h.num,h.i1,h.i2,h.c1,h.c2,by show 0≤c.round+1;have:=h.r1;omega,by show c.round+1≤1000;omega,h.w⟩,fun hd=>(by rw[show c.up=false from hd]at hu;cases hu),fun o' ho'=>?_⟩,zT (o:=eH o c) hf1 hf2 hc h hi ⟨ho.l1,ho.l2⟩ ⟨b,a⟩ 1 0 (Or.inl rfl) (by decide) (by decide) _ wY⟩;have e:=(aN ho').symm;subst e;exact⟨ho.k1,ho.k2,ho.l1,ho.l2,ho.t1,ho.t2,ho.g1,ho.g2,by show 0≤o.tries+1;have:=ho.r1;omega,by show o.tries+1≤8;have:=ho.r2;omega,b,a,h.c1,h.c2,by show((0:Nat):Int)≤_;omega,by show(0:Int)≤0;omega,by show(0:Int)≤256255;omega,wY,ho.mine⟩
theorem aA8(hf1:1≤f.f)(hf2:f.f≤2)(hc:f.clients≤4)(htr:f.tries≤8)(h:CCore f N i c)(hi:(i:Int)<f.clients)(hu:c.up=true)(ho:OOk f N o):COk f N i (jL f c o)∧EOk f (jF f c o):=by
 unfold jL jF;split
 ·rename_i a;exact xU hf1 hf2 hc h hi hu (ho.base (by omega))
 ·exact⟨aAB h _ _ _,vW _ _ _⟩
theorem aAK(h:CCore f N i c)(k l t:Int):CCore f N i (dJ c k l t)∧(dJ c k l t).up=c.up:=by
 unfold dJ;split
 ·exact⟨⟨h.num,h.i1,h.i2,h.c1,h.c2,h.r1,h.r2,h.w⟩,rfl⟩
 ·split<;>exact⟨⟨h.num,h.i1,h.i2,h.c1,h.c2,h.r1,h.r2,h.w⟩,rfl⟩
theorem EOk.cons{e:Ev}{l:List Ev}(h:EOk f l)(hk:e.kind≠1)(hl:l.length≤5):EOk f (e::l):=⟨fun m hm=>(by
 have:cH (e::l)=cH l:=by simp[cH,pG,hk]
 rw[this]at hm;exact h.1 m hm),by simp;omega⟩
theorem vK(hf2:f.f≤2):(fH f c o).length≤5:=by
 unfold fH;split
 ·simp[kX]
 ·simp[fA,dI];omega
theorem aFa(hf1:1≤f.f)(hf2:f.f≤2)(hc:f.clients≤4)(h:COk f N i c)(hN:0≤N)(hi:(i:Int)<f.clients){k l t:Int}(hk1:1≤k)(hk2:k≤4)(hl1:0≤l)(hl2:l≤3)(ht1:0≤t)(ht2:t≤1000):COk f N i (iN c k l t)∧EOk f (iB f c k l t):=by
 unfold iN iB;split
 ·exact⟨h,iD⟩
 ·rename_i e;have a:c.up=true:=by
   by_cases a:c.up=true
   ·exact a
   ·exact absurd (show jX c≠0 by unfold jX;rw[if_pos (by simpa using a)];decide) e
  have j:CCore f N i {c with doing:=some (dT c k l t)}:=⟨h.core.num,h.core.i1,h.core.i2,h.core.c1,h.core.c2,h.core.r1,h.core.r2,h.core.w⟩;obtain⟨g,b⟩:=aAK j k l t;obtain⟨m,d⟩:=xU (o:=dT c k l t) hf1 hf2 hc g hi (b.trans a) ⟨hk1,hk2,hl1,hl2,ht1,ht2,h.core.c1,h.core.c2,(by decide:(0:Int)≤0),(by decide:(0:Int)<8),(by show((0:Nat):Int)≤N;omega)⟩;exact⟨m,d.cons (show(2:Int)≠1 by decide) (vK hf2)⟩
theorem aHc(hf1:1≤f.f)(hf2:f.f≤2)(hc:f.clients≤4)(htr:f.tries≤8)(h:COk f N i c)(hi:(i:Int)<f.clients):COk f (N+1) i (kT f c)∧EOk f (lA f c):=by
 unfold kT lA;split
 ·exact⟨h.mono (by omega),iD⟩
 ·rename_i d;dsimp only;have b:CCore f (N+1) i {c with clock:=c.clock+1}:=⟨h.core.num,h.core.i1,h.core.i2,by show 0≤c.clock+1;have:=h.core.c1;omega,by show c.clock+1≤N+1;have:=h.core.c2;omega,h.core.r1,h.core.r2,fun l=>by have:=h.core.w l;show 0≤(c.wat l).since∧(c.wat l).since≤N+1;omega⟩;have a:COk f (N+1) i {c with clock:=c.clock+1}:=⟨b,h.dn,fun o ho=>(h.on o ho).mono (by omega)⟩;cases hd:c.doing with
  |none=>exact⟨(by first|exact a|(have q:=a;rw[hd]at q;exact q)),iD⟩
  |some o=>
   dsimp only;split
   ·have:=aA8 hf1 hf2 hc htr b hi (by simpa using d) ((h.on o hd).mono (by omega));exact(by first|exact this|(have q:=this;rw[hd]at q;exact q))
   ·exact⟨(by first|exact a|(have q:=a;rw[hd]at q;exact q)),iD⟩
theorem aGG(h:COk f N i c)(hN:0≤N):COk f N i (lY c)∧EOk f (lO c):=by
 unfold lY lO;split
 ·exact⟨h,iD⟩
 ·exact⟨⟨⟨h.core.num,h.core.i1,h.core.i2,(by decide:(0:Int)≤0),hN,(by decide:(0:Int)≤0),(by decide:(0:Int)≤1000),fun l=>⟨(by decide:(0:Int)≤0),hN⟩⟩,fun _=>rfl,fun o ho=>by cases ho⟩,sO _ (show(4:Int)≠1 by decide)⟩
theorem aDX(h:COk f N i c):COk f N i (iQ c)∧EOk f (iE c):=by
 unfold iQ iE;split
 ·exact⟨h,iD⟩
 ·rename_i a;have b:c.inc≠63:=fun e=>a (by unfold eK;split<;>simp[e]);refine⟨⟨⟨h.core.num,by show 0≤c.inc+1;have:=h.core.i1;omega,by show c.inc+1≤63;have:=h.core.i2;omega,h.core.c1,h.core.c2,h.core.r1,h.core.r2,h.core.w⟩,fun h=>(by cases h),h.on⟩,sO _ (show(5:Int)≠1 by decide)⟩
theorem aCc(hi:(i:Int)<f.clients)(hc:f.clients≤4)(h:CCore f N i c)(ho:OOk f N o){v:Vl}(hv:VOk v):VOk (cU f c o v).next:=by
 have b:=h.num;have a:VOk ⟨c.num+1,o.att.bal,o.ttl,1⟩:=⟨by show 0≤c.num+1;omega,by show c.num+1≤4;omega,ho.b1,ho.b2,ho.t1,ho.t2,(by decide:(0:Int)≤1),(by decide:(1:Int)≤2147483647)⟩;unfold cU;split
 ·unfold gR;split
  ·exact hv
  ·split
   ·exact wY
   ·split
    ·exact a
    ·exact hv
 ·split
  ·unfold kQ;split
   ·exact⟨hv.o1,hv.o2,hv.k1,hv.k2,ho.t1,ho.t2,by show 0≤min (v.seq+1) 2147483647;have:=hv.s1;omega,by show min (v.seq+1) 2147483647≤2147483647;omega⟩
   ·exact hv
  ·split
   ·unfold gN;split
    ·exact⟨(by decide:(0:Int)≤0),(by decide:(0:Int)≤4),hv.k1,hv.k2,(by decide:(0:Int)≤0),(by decide:(0:Int)≤1000),ho.b1,by show o.att.bal≤2147483647;have:=ho.b2;omega⟩
    ·split
     ·exact hv
     ·split
      ·exact wY
      ·exact hv
   ·exact hv
theorem aCx(hf1:1≤f.f)(hf2:f.f≤2)(hc:f.clients≤4)(h:CCore f N i c)(hi:(i:Int)<f.clients)(hu:c.up=true)(ho:OOk f N o)(hans:True):COk f (N+1) i (hP f c o)∧EOk f (gT f c o):=by
 have a:=aCc (v:=o.att.val) hi hc h ho ho.v;unfold hP gT;dsimp only;split
 ·exact⟨(aAB h _ _ _).mono (by omega),vW _ _ _⟩
 ·refine⟨⟨⟨h.num,h.i1,h.i2,h.c1,by show c.clock≤N+1;have:=h.c2;omega,h.r1,h.r2,fun l=>by have:=h.w l;show 0≤(c.wat l).since∧(c.wat l).since≤N+1;omega⟩,fun hd=>(by rw[show c.up=false from hd]at hu;cases hu),fun o' ho'=>?_⟩,zT (o:=eJ o (cU f c o o.att.val)) hf1 hf2 hc h hi ⟨ho.l1,ho.l2⟩ ⟨ho.b1,ho.b2⟩ 3 _ (Or.inr rfl) ho.e1 ho.e2 _ a⟩;have e:=(aN ho').symm;subst e;refine⟨ho.k1,ho.k2,ho.l1,ho.l2,ho.t1,ho.t2,ho.g1,by show o.began≤N+1;have:=ho.g2;omega,ho.r1,ho.r2,ho.b1,ho.b2,ho.a1,by show o.att.began≤N+1;have:=ho.a2;omega,by show((0:Nat):Int)≤_;omega,ho.e1,ho.e2,ho.v,?_⟩;unfold eJ;dsimp only;have:=ho.mine;split
  ·rw[aD,aK];omega
  ·omega
theorem aBb(ho:OOk f N o){m:Mg}(hm:MOk f m)(hlen:((heardOn o m).att.ans.length:Int)≤f.f):OOk f N (heardOn o m):=by
 refine⟨ho.k1,ho.k2,ho.l1,ho.l2,ho.t1,ho.t2,ho.g1,ho.g2,ho.r1,ho.r2,ho.b1,ho.b2,ho.a1,ho.a2,hlen,?_,?_,?_,ho.mine⟩
 ·show 0≤(if o.att.base<m.base then m.base else o.att.base);split
  ·exact hm.e1
  ·exact ho.e1
 ·show(if o.att.base<m.base then m.base else o.att.base)≤256255;split
  ·exact hm.e2
  ·exact ho.e2
 ·show VOk (if o.att.base<m.base then m.val else o.att.val);split
  ·exact hm.v
  ·exact ho.v
theorem aF0(hf1:1≤f.f)(hf2:f.f≤2)(hc:f.clients≤4)(h:CCore f N i c)(hd:c.doing=some o)(hi:(i:Int)<f.clients)(hu:c.up=true)(ho:OOk f N o){m:Mg}(hm:MOk f m):COk f (N+1) i (iS f c o m)∧EOk f (iW f c o m):=by
 unfold iS iW;split
 ·exact⟨(⟨h,fun h'=>(by rw[h']at hu;cases hu),fun o' ho'=>by rw[hd]at ho';cases ho';exact ho⟩:COk f N i c).mono (by omega),iD⟩
 ·dsimp only;have a:∀d,CCore f N i {c with doing:=d}:=fun d=>⟨h.num,h.i1,h.i2,h.c1,h.c2,h.r1,h.r2,h.w⟩;split
  ·rename_i e;exact⟨(⟨a _,fun h'=>(by rw[show c.up=false from h']at hu;cases hu),fun o' ho'=>by cases ho';exact aBb ho hm e⟩:COk f N i _).mono (by omega),iD⟩
  ·split
   ·have b:OOk f N {heardOn o m with att:={(heardOn o m).att with ans:=[]}}:=by
     have:=aBb (o:={o with att:={o.att with ans:=[]}}) ⟨ho.k1,ho.k2,ho.l1,ho.l2,ho.t1,ho.t2,ho.g1,ho.g2,ho.r1,ho.r2,ho.b1,ho.b2,ho.a1,ho.a2,(by show((0:Nat):Int)≤_;omega),ho.e1,ho.e2,ho.v,ho.mine⟩ hm (by show((0+1:Nat):Int)≤_;omega);exact⟨this.k1,this.k2,this.l1,this.l2,this.t1,this.t2,this.g1,this.g2,this.r1,this.r2,this.b1,this.b2,this.a1,this.a2,(by show((0:Nat):Int)≤_;omega),this.e1,this.e2,this.v,this.mine⟩
    have g:=aCx hf1 hf2 hc (a (some (heardOn o m))) hi hu b trivial;exact g
   ·exact⟨(aAB h _ _ _).mono (by omega),vW _ _ _⟩
theorem aGB(hf1:1≤f.f)(hf2:f.f≤2)(hc:f.clients≤4)(htr:f.tries≤8)(h:COk f N i c)(hi:(i:Int)<f.clients){m:Mg}(hm:MOk f m):COk f (N+1) i (fI f c m)∧EOk f (fE f c m):=by
 unfold fI fE;split
 ·exact⟨h.mono (by omega),iD⟩
 ·rename_i d;have a:c.up=true:=by simpa using d
  cases hd:c.doing with
  |none=>exact⟨(by first|exact h.mono (by omega)|(have q:=h.mono (by omega);rw[hd]at q;exact q)),iD⟩
  |some o=>
   dsimp only;have b:=h.on o hd;split
   ·exact⟨(by first|exact h.mono (by omega)|(have q:=h.mono (by omega);rw[hd]at q;exact q)),iD⟩
   ·split
    ·have e:CCore f (N+1) i {c with round:=max c.round (m.base / 256)}:=⟨h.core.num,h.core.i1,h.core.i2,h.core.c1,by show c.clock≤N+1;have:=h.core.c2;omega,by show 0≤max c.round (m.base / 256);have:=h.core.r1;omega,by show max c.round (m.base / 256)≤1000;have:=h.core.r2;have:=hm.e2;omega,fun l=>by have:=h.core.w l;show 0≤(c.wat l).since∧(c.wat l).since≤N+1;omega⟩;have:=aA8 hf1 hf2 hc htr e hi a (b.mono (by omega));exact(by first|exact this|(have q:=this;rw[hd]at q;exact q))
    ·split
     ·have:=aF0 hf1 hf2 hc h.core hd hi a b hm;exact(by first|exact this|(have q:=this;rw[hd]at q;exact q))
     ·exact⟨(by first|exact h.mono (by omega)|(have q:=h.mono (by omega);rw[hd]at q;exact q)),iD⟩
end
theorem xJ{v:Int}(h:0≤v)(h':v≤255):(fO v 1)=[v]:=by
 show[v % 256]=[v];rw[Int.emod_eq_of_lt h (by omega)]
theorem mQ{v:Int}(h:0≤v)(h':v≤2147483647):nA (fO v 4)=v:=by
 show v % 256+256*(v / 256 % 256+256*(v / 256 / 256 % 256+256*(v / 256 / 256 / 256 % 256+256*0)))=v;omega
theorem aGm{r:Rw}(h:okB r=true):(0≤r.lock∧r.lock≤3)∧(0≤r.prom∧r.prom≤2147483647)∧(0≤r.acc∧r.acc≤2147483647)∧(0≤r.own∧r.own≤4)∧(0≤r.tok∧r.tok≤2147483647)∧(0≤r.ttl∧r.ttl≤2147483647)∧(0≤r.seq∧r.seq≤2147483647):=by
 simp only[okB,wrB,aR,aM]at h;omega
theorem aHn{r:Rw}(h:(0≤r.lock∧r.lock≤3)∧(0≤r.prom∧r.prom≤2147483647)∧(0≤r.acc∧r.acc≤2147483647)∧(0≤r.own∧r.own≤4)∧(0≤r.tok∧r.tok≤2147483647)∧(0≤r.ttl∧r.ttl≤2147483647)∧(0≤r.seq∧r.seq≤2147483647)):okB r=true:=by
 simp only[okB,wrB,aR,aM];omega
theorem aBG(r:Rw)(rest:List Int):lV r++rest=[82]++(fO r.lock 1++(fO r.prom 4++(fO r.acc 4++(fO r.own 1++(fO r.tok 4++(fO r.ttl 4++(fO r.seq 4++(fO (lP (kF r) 0 0) 2++rest)))))))):=by
 simp[lV,kF]
theorem mT{a b:List Int}{n:Nat}(h:a.length=n):(a++b).drop n=b:=by subst h;simp
theorem xE{a b:List Int}{n:Nat}(h:a.length=n):(a++b).take n=a:=by subst h;simp
theorem aBK{r:Rw}(h:okB r=true)(rest:List Int):mH (lV r++rest)=r:=by
 obtain⟨q,j,m,p,l,g,k⟩:=aGm h;have n:(lV r++rest).drop 2=fO r.prom 4++(fO r.acc 4++(fO r.own 1++(fO r.tok 4++(fO r.ttl 4++(fO r.seq 4++(fO (lP (kF r) 0 0) 2++rest)))))):=by
  rw[aBG,←aS];exact mT (by simp[hL])
 have i:(lV r++rest).drop 6=fO r.acc 4++(fO r.own 1++(fO r.tok 4++(fO r.ttl 4++(fO r.seq 4++(fO (lP (kF r) 0 0) 2++rest))))):=by
  rw[show(6:Nat)=2+4 from rfl,←List.drop_drop,n];exact mT (by simp[hL])
 have d:(lV r++rest).drop 10=fO r.own 1++(fO r.tok 4++(fO r.ttl 4++(fO r.seq 4++(fO (lP (kF r) 0 0) 2++rest)))):=by
  rw[show(10:Nat)=6+4 from rfl,←List.drop_drop,i];exact mT (by simp[hL])
 have a:(lV r++rest).drop 11=fO r.tok 4++(fO r.ttl 4++(fO r.seq 4++(fO (lP (kF r) 0 0) 2++rest))):=by
  rw[show(11:Nat)=10+1 from rfl,←List.drop_drop,d];exact mT (by simp[hL])
 have c:(lV r++rest).drop 15=fO r.ttl 4++(fO r.seq 4++(fO (lP (kF r) 0 0) 2++rest)):=by
  rw[show(15:Nat)=11+4 from rfl,←List.drop_drop,a];exact mT (by simp[hL])
 have e:(lV r++rest).drop 19=fO r.seq 4++(fO (lP (kF r) 0 0) 2++rest):=by
  rw[show(19:Nat)=15+4 from rfl,←List.drop_drop,c];exact mT (by simp[hL])
 have o:(lV r++rest).getD 1 0=r.lock:=by
  rw[aBG,xJ q.1 (by omega)]
  rfl
 have f:(lV r++rest).getD 10 0=r.own:=by
  rw[aQ,show(lV r++rest)[10]?=((lV r++rest).drop 10)[0]? by rw[List.getElem?_drop],d,xJ p.1 (by omega)]
  rfl
 have t:∀(v:Int) (b:List Int),(fO v 4++b).take 4=fO v 4:=fun v b=>xE (hL 4 v);unfold mH;rw[o,f,n,i,a,c,e,t,t,t,t,t,mQ j.1 j.2,mQ m.1 m.2,mQ l.1 l.2,mQ g.1 g.2,mQ k.1 k.2]
theorem wC{r:Rw}(h:okB r=true):dM r=lV r:=by unfold dM;rw[if_pos h]
theorem kK{r:Rw}(h:okB r=true):(dM r).length=25:=by rw[wC h,nQ]
theorem aFC{r:Rw}(h:okB r=true):sC (dM r)=true:=by
 unfold sC;have:=aBK h [];rw[aC]at this;rw[wC h,this,wC h];simp
theorem pU:∀(b n:Nat) (L:List Int),L.length≤n→n≤b→jA n L=jA L.length L
 |_,0,L,h,_=>by
  have:L=[]:=List.length_eq_zero_iff.1 (by omega);subst this;rfl
 |0,n+1,L,h,h'=>absurd h' (by omega)
 |b+1,n+1,L,h,h'=>by
  by_cases hc:25≤L.length∧sC (L.take 25)=true
  ·obtain⟨m,hm⟩:∃m,L.length=m+1:=⟨L.length-1,by omega⟩;have e1:=pU b n (L.drop 25) (by rw[aV];omega) (by omega);have e2:=pU b m (L.drop 25) (by rw[aV];omega) (by omega);rw[nK n L hc,hm,nK m L hc,e1,e2]
  ·rw[nG _ _ hc,nG _ _ hc]
theorem aBp(n:Nat)(L:List Int)(h:L.length≤n):jA n L=jA L.length L:=pU n n L h (aE n)
theorem aCQ{r:Rw}(h:okB r=true)(rest:List Int):dS (dM r++rest)=r::dS rest:=by
 have a:=kK h;unfold dS;obtain⟨n,b⟩:∃n,(dM r++rest).length=n+1:=⟨(dM r++rest).length-1,by rw[aD];omega⟩;rw[b,nK n _ ⟨by rw[aD];omega,by rw[xE a];exact aFC h⟩,xE a,mT a];have e:mH (dM r)=r:=by
  have:=aBK h [];rw[aC]at this;rw[wC h];exact this
 have c:=aBp n rest (by rw[aD]at b;omega);rw[e,c]
theorem aBo{L:List Int}(h:L.length<25):dS L=[]:=nG _ _ (by omega)
theorem pB:∀(rs:List Rw),(∀r ∈ rs,okB r=true)→∀(p:List Int),p.length<25→dS (rs.flatMap dM++p)=rs
 |[],_,p,hp=>aBo hp
 |r::rs,h,p,hp=>by
  simp only[List.flatMap_cons,aS];rw[aCQ (h r (bQ ..)),pB rs (fun x hx=>h x (bR _ hx)) p hp]
theorem wX:∀(rs:List Rw),(∀r ∈ rs,okB r=true)→(rs.flatMap dM).length=25*rs.length
 |[],_=>rfl
 |r::rs,h=>by
  simp only[List.flatMap_cons,aD,bF];rw[kK (h r (bQ ..)),wX rs (fun x hx=>h x (bR _ hx))];omega
theorem rP:∀(f:Nat) (L:List Int),(∀r ∈ jA f L,okB r=true)∧L.take (25*(jA f L).length)=(jA f L).flatMap dM
 |0,L=>by simp[jA]
 |f+1,L=>by
  by_cases hc:25≤L.length∧sC (L.take 25)=true
  ·rw[nK f L hc];obtain⟨h1,h2⟩:=rP f (L.drop 25);refine⟨fun r hr=>?_,?_⟩
   ·rcases List.mem_cons.1 hr with rfl|hr
    ·exact pT hc.2 (by simp;omega)
    ·exact h1 r hr
   ·have e:dM (mH (L.take 25))=L.take 25:=by have:=hc.2;unfold sC at this;simpa using this
    rw[List.flatMap_cons,e,←h2,bF,show 25*((jA f (L.drop 25)).length+1)=25+25*(jA f (L.drop 25)).length by omega,List.take_add]
  ·rw[nG _ _ hc];simp
theorem yL(L:List Int):∀r ∈ dS L,okB r=true:=(rP _ L).1
theorem yH(L:List Int):L.take (25*(dS L).length)=(dS L).flatMap dM:=(rP _ L).2
theorem xI{L:List Int}(h:25*(dS L).length=L.length):L=(dS L).flatMap dM:=by
 have:=yH L
 rwa [h,List.take_length]at this
theorem oP{L:List Int}(h:25*(dS L).length=L.length){r:Rw}(hr:okB r=true):dS (L++dM r)=dS L++[r]:=by
 have e:L++dM r=(dS L++[r]).flatMap dM++[]:=by
  rw[List.flatMap_append,aC,←xI h];simp
 rw[e];exact pB _ (fun x a=>by
  rcases aO.1 a with a|a
  ·exact yL L x a
  ·simp at a;subst a;exact hr) [] (by decide)
theorem yW{L p:List Int}(h:25*(dS L).length=L.length)(hp:p.length<25):dS (L++p)=dS L:=by
 have e:L++p=(dS L).flatMap dM++p:=by rw[←xI h]
 rw[e];exact pB _ (yL L) p hp
section
variable {rs:List Rw}
theorem oZ{k:Nat}{r:Rw}(h:dQ rs k=some r):r ∈ rs∧r.lock=(k:Int):=by
 unfold dQ at h;have a:=List.mem_of_find?_eq_some h;have b:=List.find?_some h;exact⟨by simpa using a,by simpa using b⟩
theorem aEx{n:Nat}{r:Rw}(h:r ∈ gS rs n):r ∈ rs:=by
 unfold gS at h;obtain⟨k,_,a⟩:=List.mem_filterMap.1 h;exact(oZ a).1
theorem xF(hl:∀r ∈ rs,0≤r.lock∧r.lock≤3)(k:Nat):dQ (gS rs 4) k=dQ rs k:=by
 have b:∀n,dQ (gS rs n) k=if k<n then dQ rs k else none:=by
  intro n;induction n with
  |zero=>simp[gS,dQ]
  |succ n ih=>
   rw[aCO];cases hn:dQ rs n with
   |none=>
    rw[Option.toList_none,aC,ih];by_cases h:k<n
    ·rw[if_pos h,if_pos (by omega)]
    ·rw[if_neg h];by_cases a:k=n
     ·subst a;rw[if_pos (by omega),hn]
     ·rw[if_neg (by omega)]
   |some r=>
    rw[Option.toList_some,kO,ih];have c:=(oZ hn).2;by_cases a:k=n
    ·subst a;rw[if_pos c,if_pos (by omega),hn]
    ·rw[if_neg (by omega)];by_cases h:k<n
     ·rw[if_pos h,if_pos (by omega)]
     ·rw[if_neg h,if_neg (by omega)]
 rw[b];by_cases h:k<4
 ·rw[if_pos h]
 ·rw[if_neg h];cases hk:dQ rs k with
  |none=>rfl
  |some r=>have d:=oZ hk;have:=hl r d.1;omega
end
section
open Go.RowKit Go.Maps
theorem vI:∀(f:Nat) (L:List Int),∀r ∈ jA f L,0≤r.lock∧r.lock≤3
 |0,L=>by simp[jA]
 |f+1,L=>by
  simp only[jA];split
  ·rename_i h;intro r hr;rcases List.mem_cons.1 hr with rfl|hr
   ·exact aBB (pT h.2 (by rw[aZ];omega))
   ·exact vI f _ r hr
  ·simp
theorem aEh(s:ByteArray):25*(dS (dG s)).length≤s.size:=by
 have h:=uL (dG s).length (dG s);rw[gK]at h;unfold dS;rw[gK];exact h
end
end Go.Proofs.YtbbdgokdfhdpiaaGreatDoor
