/- A part of the proof: RefRow, RefRows, RefReplay, KeysLay, MoInv, Bld, Lex2, Lex3, PDel, OpsOpen. -/
import Derived.ChangeAlike
import Derived.Conc.EventLaws
import Derived.Deep.Slices
import Derived.Laws.CopyRow
import Derived.Lib.EndianBits
import Derived.Maps.Own
import Derived.Maps.OwnOps
import Derived.Maps.OwnSet
import Derived.Maps.RangeWalk
import Derived.OwnWalk
import Derived.ProofKit
import Derived.Shelf.SlIterI.Nil
import Derived.Shelf.SlMaps.Clone
import Derived.Shelf.SortM.Plain
import Derived.Shelf.SortM.SortNone
import Derived.Shelf.Strings.Builder1
import Derived.Test.YtbbdgokdfhdpiaaGreatDoorD1
namespace Go.Proofs.YtbbdgokdfhdpiaaGreatDoor
set_option linter.all false
set_option maxRecDepth 100000
set_option maxHeartbeats 40000000
open Go.Proofs.Tryz Go.RowKit
def nB(L:List Int):Rw:=⟨L.getD 1 0,nS ((L.drop 2).take 4),nS ((L.drop 6).take 4),L.getD 10 0,nS ((L.drop 11).take 4),nS ((L.drop 15).take 4),nS ((L.drop 19).take 4)⟩
theorem rA(s:ByteArray)(a b:Nat):dF (s.extract a b)=((dF s).drop a).take (b-a):=by
 unfold dF;rw[show(s.extract a b).data.toList=(s.data.toList.drop a).take (b-a)from by simp];rw[List.map_take,List.map_drop]
theorem aA6(b:UInt8):IntKind.i64.wrap (b.toNat:Int)=(b.toNat:Int):=by
 have:=b.toNat_lt;rw[IntKind.wrap_i64];omega
def tH(M:List Int):Bool:=decide (dR (nB M)=M)
def iX:Nat→List Int→List Rw
 |0,_=>[]
 |f+1,L=>if 25≤L.length∧tH (L.take 25)=true then nB (L.take 25)::iX f (L.drop 25)else[]
def dU(L:List Int):List Rw:=iX L.length L
theorem oC(f:Nat)(L:List Int)(h:¬(25≤L.length∧tH (L.take 25)=true)):iX f L=[]:=by
 cases f with
 |zero=>rfl
 |succ f=>simp only[iX];rw[if_neg h]
theorem oF(f:Nat)(L:List Int)(h:25≤L.length∧tH (L.take 25)=true):iX (f+1) L=nB (L.take 25)::iX f (L.drop 25):=by
 simp only[iX];rw[if_pos h]
theorem rN(r:Rw):∀x ∈ dR r,0≤x∧x<256:=by
 unfold dR;split
 ·exact aFT r
 ·simp
theorem aIF(r:Rw)(s:ByteArray):((strOfNums (dR r)).toList==s.toList)=decide (dR r=dF s):=by
 rw[ByteArray.toList_eq,ByteArray.toList_eq,Bool.eq_iff_iff,beq_iff_eq,aM];constructor
 ·intro h;have e:strOfNums (dR r)=s:=by
   apply ByteArray.ext;exact Array.toList_inj.1 h
  rw[←e,sX (rN r)]
 ·intro h;rw[h];simp only[strOfNums,dF,List.map_map];have e:((fun n:Int=>UInt8.ofNat n.toNat)∘fun b:UInt8=>(b.toNat:Int))=id:=by
   funext b
   simp
  rw[e,List.map_id]
theorem aHz:(prog.info? 58).map (fun i=>(i.zero,i.size,i.bytes))=some (some (.agg #[.int .i64 0,.int .i64 0,.int .i64 0,.int .i64 0,.int .i64 0,.int .i64 0,.int .i64 0]),7,56):=by kernel_rfl
theorem aCx(r:Rw):∀x ∈ rwL r,x.oneCell'=true:=by
 intro x a;simp only[rwL,List.mem_cons,List.not_mem_nil,or_false]at a;rcases a with rfl|rfl|rfl|rfl|rfl|rfl|rfl<;>rfl
theorem oS(w:World)(xs:List Value)(t:TypeId):∀j u,xs[j]?=some u→(w.alloc (.cells xs.toArray t)).cell? ((⟨w.heap.size,0,none⟩:Addr).add j)=some u:=by
 intro j u h;have e:(⟨w.heap.size,0,none⟩:Addr).add j=⟨w.heap.size,j,none⟩:=by unfold Addr.add;split<;>simp_all
 rw[e];simpa using h
theorem vN{w w':World}{base:Nat}{e:TypeId}{size:Nat}{v:Value}{n:Nat}{xs:List Value}(h:w.ownsRow base e size v n xs)(hb:Below w.heap.size w w'):w'.ownsRow base e size v n xs:=by
 have c:=h.lt;obtain⟨i,f⟩:=h;refine⟨i,?_⟩;rcases f with l|⟨g,d,b,rfl,j,k,a⟩
 ·exact Or.inl l
 ·exact Or.inr ⟨g,d,b,rfl,j,by rw[hb.block g (c g rfl).2];exact k,a⟩
theorem aBs{w:World}{base base':Nat}{e:TypeId}{size:Nat}{v:Value}{n:Nat}{xs:List Value}(h:w.ownsRow base e size v n xs)(hb:base'≤base):w.ownsRow base' e size v n xs:=by
 obtain⟨i,f⟩:=h;refine⟨i,?_⟩;rcases f with k|⟨g,c,b,d,j,a⟩
 ·exact Or.inl k
 ·exact Or.inr ⟨g,c,b,d,bU hb j,a⟩
theorem wA:∀(f:Nat) (L:List Int),25*(iX f L).length≤L.length
 |0,L=>by simp[iX]
 |f+1,L=>by
  simp only[iX];split
  ·rename_i h;have ih:=wA f (L.drop 25);rw[aV]at ih;rw[bH];omega
  ·simp
def keysA_ren:Go.Shelf.Ren:=⟨fun|7=>99|10=>139|n=>n,fun|23=>118|26=>3|3=>58|28=>168|0=>0|27=>167|33=>95|4=>4|n=>n,fun|n=>n⟩
theorem keysA:Go.Proofs.SlLaysZI.n7 prog keysA_ren:={
 mixed:=by kernel_rfl
 f7:=⟨f99.name,by decide,func99.trans (congrArg some (by kernel_rfl))⟩
 f10:=⟨f139.name,by decide,func139.trans (congrArg some (by kernel_rfl))⟩
 t0:=underlying0
 a0:=isAgg0
 z0:=sizeOf0
 v0:=zeroValue0
 t4:=underlying4
 a4:=isAgg4
 z4:=sizeOf4
 v4:=zeroValue4
 t23:=underlying118
 a23:=isAgg118
 z23:=sizeOf118
 v23:=zeroValue118
 t26:=underlying3
 a26:=isAgg3
 z26:=sizeOf3
 v26:=zeroValue3
 t27:=underlying167
 a27:=isAgg167
 z27:=sizeOf167
 v27:=zeroValue167
 t28:=underlying168
 a28:=isAgg168
 z28:=sizeOf168
 v28:=zeroValue168
 t33:=underlying95
 a33:=isAgg95
 z33:=sizeOf95
 v33:=zeroValue95}
def sortedA_ren:Go.Shelf.Ren:=⟨fun|6=>98|8=>137|9=>138|11=>176|13=>178|12=>177|23=>212|24=>213|14=>203|15=>204|16=>205|17=>206|18=>207|19=>208|20=>209|21=>210|22=>211|25=>227|26=>228|27=>229|28=>230|29=>231|30=>232|31=>240|n=>n,fun|26=>3|28=>168|24=>25|0=>0|3=>3|37=>222|48=>284|50=>286|4=>4|40=>278|39=>277|45=>107|5=>5|9=>9|51=>315|55=>319|57=>323|58=>59|33=>95|n=>n,fun|n=>n⟩
theorem sortedA:Go.Proofs.SlLaysZI.n6 prog sortedA_ren:={
 mixed:=by kernel_rfl
 f6:=⟨f98.name,by decide,func98.trans (congrArg some (by kernel_rfl))⟩
 f8:=⟨f137.name,by decide,func137.trans (congrArg some (by kernel_rfl))⟩
 f11:=⟨f176.name,by decide,func176.trans (congrArg some (by kernel_rfl))⟩
 t0:=underlying0
 a0:=isAgg0
 z0:=sizeOf0
 v0:=zeroValue0
 t24:=underlying25
 a24:=isAgg25
 z24:=sizeOf25
 v24:=zeroValue25
 t26:=underlying3
 a26:=isAgg3
 z26:=sizeOf3
 v26:=zeroValue3
 t28:=underlying168
 a28:=isAgg168
 z28:=sizeOf168
 v28:=zeroValue168
 i26:=by kernel_rfl}
def sortA_ren:Go.Shelf.Ren:=⟨fun|5=>138|8=>178|7=>177|19=>212|20=>213|10=>203|11=>204|12=>205|13=>206|14=>207|15=>208|16=>209|17=>210|18=>211|30=>227|31=>228|32=>229|33=>230|34=>231|35=>232|40=>240|n=>n,fun|23=>25|25=>3|3=>3|32=>222|22=>25|0=>0|44=>284|46=>286|4=>4|36=>278|35=>277|41=>107|5=>5|9=>9|53=>315|57=>319|63=>323|64=>59|n=>n,fun|n=>n⟩
theorem sortA:Go.Proofs.SlLaysM.n5 prog sortA_ren:={
 mixed:=by kernel_rfl
 f5:=⟨f138.name,by decide,func138.trans (congrArg some (by kernel_rfl))⟩
 f7:=⟨f177.name,by decide,func177.trans (congrArg some (by kernel_rfl))⟩
 f8:=func178.trans (congrArg some (by kernel_rfl))
 f10:=⟨f203.name,by decide,func203.trans (congrArg some (by kernel_rfl))⟩
 f11:=⟨f204.name,by decide,func204.trans (congrArg some (by kernel_rfl))⟩
 f12:=⟨f205.name,by decide,func205.trans (congrArg some (by kernel_rfl))⟩
 f13:=⟨f206.name,by decide,func206.trans (congrArg some (by kernel_rfl))⟩
 f14:=⟨f207.name,by decide,func207.trans (congrArg some (by kernel_rfl))⟩
 f15:=⟨f208.name,by decide,func208.trans (congrArg some (by kernel_rfl))⟩
 f16:=⟨f209.name,by decide,func209.trans (congrArg some (by kernel_rfl))⟩
 f17:=⟨f210.name,by decide,func210.trans (congrArg some (by kernel_rfl))⟩
 f18:=⟨f211.name,by decide,func211.trans (congrArg some (by kernel_rfl))⟩
 f19:=func212.trans (congrArg some (by kernel_rfl))
 f20:=func213.trans (congrArg some (by kernel_rfl))
 f30:=⟨f227.name,by decide,func227.trans (congrArg some (by kernel_rfl))⟩
 f31:=func228.trans (congrArg some (by kernel_rfl))
 f32:=func229.trans (congrArg some (by kernel_rfl))
 f33:=⟨f230.name,by decide,func230.trans (congrArg some (by kernel_rfl))⟩
 f34:=⟨f231.name,by decide,func231.trans (congrArg some (by kernel_rfl))⟩
 f35:=⟨f232.name,by decide,func232.trans (congrArg some (by kernel_rfl))⟩
 f40:=⟨f240.name,by decide,func240.trans (congrArg some (by kernel_rfl))⟩
 t0:=underlying0
 a0:=isAgg0
 z0:=sizeOf0
 v0:=zeroValue0
 t3:=underlying3
 a3:=isAgg3
 z3:=sizeOf3
 v3:=zeroValue3
 t4:=underlying4
 a4:=isAgg4
 z4:=sizeOf4
 v4:=zeroValue4
 t5:=underlying5
 a5:=isAgg5
 z5:=sizeOf5
 v5:=zeroValue5
 t9:=underlying9
 a9:=isAgg9
 z9:=sizeOf9
 v9:=zeroValue9
 t22:=underlying25
 a22:=isAgg25
 z22:=sizeOf25
 v22:=zeroValue25
 t23:=underlying25
 a23:=isAgg25
 z23:=sizeOf25
 v23:=zeroValue25
 t25:=underlying3
 a25:=isAgg3
 z25:=sizeOf3
 v25:=zeroValue3
 t32:=underlying222
 a32:=isAgg222
 z32:=sizeOf222
 v32:=zeroValue222
 t35:=underlying277
 a35:=isAgg277
 z35:=sizeOf277
 v35:=zeroValue277
 t36:=underlying278
 a36:=isAgg278
 z36:=sizeOf278
 v36:=zeroValue278
 t41:=underlying107
 a41:=isAgg107
 z41:=sizeOf107
 v41:=zeroValue107
 t44:=underlying284
 a44:=isAgg284
 z44:=sizeOf284
 v44:=zeroValue284
 t46:=underlying286
 a46:=isAgg286
 z46:=sizeOf286
 v46:=zeroValue286
 t53:=underlying315
 a53:=isAgg315
 z53:=sizeOf315
 v53:=zeroValue315
 t57:=underlying319
 a57:=isAgg319
 z57:=sizeOf319
 v57:=zeroValue319
 t63:=underlying323
 a63:=isAgg323
 z63:=sizeOf323
 v63:=zeroValue323
 t64:=underlying59
 a64:=isAgg59
 z64:=sizeOf59
 v64:=zeroValue59}
structure VOk(v:Vl):Prop where
 o1:0≤v.own
 o2:v.own≤4
 k1:0≤v.tok
 k2:v.tok≤256255
 t1:0≤v.ttl
 t2:v.ttl≤1000
 s1:0≤v.seq
 s2:v.seq≤2147483647
theorem yS:VOk zVl:=⟨by decide,by decide,by decide,by decide,by decide,by decide,by decide,by decide⟩
structure MOk(f:Cf)(m:Mg):Prop where
 k1:1≤m.kind
 k2:m.kind≤5
 l1:0≤m.lock
 l2:m.lock≤3
 b1:0≤m.bal
 b2:m.bal≤256255
 e1:0≤m.base
 e2:m.base≤256255
 v:VOk m.val
 s1:0≤m.src
 d1:0≤m.dst
 k4:m.kind=4→m.base=0
 toA:m.kind=1∨m.kind=3→m.src<f.clients∧m.dst<2*f.f+1
 toC:¬(m.kind=1∨m.kind=3)→m.src<2*f.f+1∧m.dst<f.clients
structure OOk(f:Cf)(N:Int)(o:On):Prop where
 k1:1≤o.kind
 k2:o.kind≤4
 l1:0≤o.lock
 l2:o.lock≤3
 t1:0≤o.ttl
 t2:o.ttl≤1000
 g1:0≤o.began
 g2:o.began≤N
 r1:0≤o.tries
 r2:o.tries≤8
 b1:0≤o.att.bal
 b2:o.att.bal≤256255
 a1:0≤o.att.began
 a2:o.att.began≤N
 ans:(o.att.ans.length:Int)≤f.f
 e1:0≤o.att.base
 e2:o.att.base≤256255
 v:VOk o.att.val
 mine:(o.mine.length:Int)≤N
structure CCore(f:Cf)(N:Int)(i:Nat)(c:Ct):Prop where
 num:c.num=i
 i1:0≤c.inc
 i2:c.inc≤63
 c1:0≤c.clock
 c2:c.clock≤N
 r1:0≤c.round
 r2:c.round≤1000
 w:∀l,0≤(c.wat l).since∧(c.wat l).since≤N
structure COk(f:Cf)(N:Int)(i:Nat)(c:Ct):Prop where
 core:CCore f N i c
 dn:c.up=false→c.doing=none
 on:∀o,c.doing=some o→OOk f N o
section
variable {f:Cf} {N M:Int}
theorem OOk.mono{o:On}(h:OOk f N o)(hm:N≤M):OOk f M o:=
 {h with g2:=by have:=h.g2;omega,a2:=by have:=h.a2;omega,mine:=by have:=h.mine;omega}
theorem CCore.mono{i:Nat}{c:Ct}(h:CCore f N i c)(hm:N≤M):CCore f M i c:=
 {h with c2:=by have:=h.c2;omega,w:=fun l=>by have:=h.w l;omega}
theorem COk.mono{i:Nat}{c:Ct}(h:COk f N i c)(hm:N≤M):COk f M i c:=
 ⟨h.core.mono hm,h.dn,fun o ho=>(h.on o ho).mono hm⟩
end
theorem aFo{w:Int→Wt}{N:Int}(h:∀l,0≤(w l).since∧(w l).since≤N)(l:Int)(v:Wt)(h1:0≤v.since)(h2:v.since≤N):∀k,0≤(upd w l v k).since∧(upd w l v k).since≤N:=fun k=>by
 unfold upd;split
 ·exact⟨h1,h2⟩
 ·exact h k
section
variable {f:Cf}{N:Int}{i:Nat}{c:Ct}{o:On}
theorem aHY(h:CCore f N i c)(res tok:Int)(v:Vl):CCore f N i (gA c o res tok v)∧(gA c o res tok v).doing=none∧(gA c o res tok v).up=c.up:=by
 have a:CCore f N i {c with doing:=none}:=⟨h.num,h.i1,h.i2,h.c1,h.c2,h.r1,h.r2,h.w⟩;unfold gA;dsimp only;split
 ·unfold lD pY;split<;>exact⟨⟨h.num,h.i1,h.i2,h.c1,h.c2,h.r1,h.r2,h.w⟩,rfl,rfl⟩
 ·split
  ·exact⟨⟨h.num,h.i1,h.i2,h.c1,h.c2,h.r1,h.r2,h.w⟩,rfl,rfl⟩
  ·split
   ·unfold nV;split
    ·exact⟨a,rfl,rfl⟩
    ·exact⟨⟨h.num,h.i1,h.i2,h.c1,h.c2,h.r1,h.r2,aFo h.w _ _ h.c1 h.c2⟩,rfl,rfl⟩
   ·exact⟨a,rfl,rfl⟩
theorem aBp(h:CCore f N i c)(res tok:Int)(v:Vl):COk f N i (gA c o res tok v):=by
 obtain⟨b,a,d⟩:=aHY (o:=o) h res tok v;exact⟨b,fun _=>a,fun o ho=>by rw[a]at ho;cases ho⟩
def EOk(f:Cf)(e:List Ev):Prop:=(∀m ∈ cJ e,MOk f m)∧e.length≤6
theorem iC:EOk f []:=⟨fun m h=>(by rw[fE]at h;cases h),by decide⟩
theorem tZ(e:Ev)(h:e.kind≠1):EOk f [e]:=⟨fun m hm=>(by
 have:cJ [e]=[]:=by simp[cJ,qL,h]
 rw[this]at hm;cases hm),by simp⟩
theorem xO(res own tok:Int):EOk f (lO c o res own tok):=tZ _ (by simp[eP])
theorem aBi(c:Ct)(o:On)(kind base:Int)(v:Vl)(n:Nat):cJ (fD c o kind base v n)=(List.range n).map fun (d:Nat)=>⟨kind,c.num,(d:Int),o.lock,o.att.bal,base,v⟩:=by
 unfold cJ fD;rw[List.filter_eq_self.2 (fun e he=>by
  obtain⟨k,_,rfl⟩:=bN.1 he
  rfl),List.map_map]
 rfl
theorem aAQ(hf1:1≤f.f)(hf2:f.f≤2)(hc:f.clients≤4)(h:CCore f N i c)(hi:(i:Int)<f.clients)(ho:0≤o.lock∧o.lock≤3)(hb:0≤o.att.bal∧o.att.bal≤256255)(kind base:Int)(hk:kind=1∨kind=3)(h1:0≤base)(h2:base≤256255)(v:Vl)(hv:VOk v):EOk f (fD c o kind base v (gB f)):=by
 refine⟨fun m hm=>?_,by simp[fD,gB];omega⟩;rw[aBi]at hm;obtain⟨d,b,rfl⟩:=bN.1 hm;have a:=List.mem_range.1 b;unfold gB at a;have:=h.num;exact⟨by show 1≤kind;omega,by show kind≤5;omega,ho.1,ho.2,hb.1,hb.2,h1,h2,hv,by show 0≤c.num;omega,by show(0:Int)≤(d:Int);omega,fun h=>(by exfalso;have:kind=4:=h;omega),fun _=>⟨by show c.num<_;omega,by show(d:Int)<_;omega⟩,fun h=>absurd hk h⟩
structure aI3(f:Cf)(N:Int)(o:On):Prop where
 k1:1≤o.kind
 k2:o.kind≤4
 l1:0≤o.lock
 l2:o.lock≤3
 t1:0≤o.ttl
 t2:o.ttl≤1000
 g1:0≤o.began
 g2:o.began≤N
 r1:0≤o.tries
 r2:o.tries<8
 mine:(o.mine.length:Int)≤N
theorem OOk.base(h:OOk f N o)(hr:o.tries<8):aI3 f N o:=⟨h.k1,h.k2,h.l1,h.l2,h.t1,h.t2,h.g1,h.g2,h.r1,hr,h.mine⟩
theorem zP(hf1:1≤f.f)(hf2:f.f≤2)(hc:f.clients≤4)(h:CCore f N i c)(hi:(i:Int)<f.clients)(hu:c.up=true)(ho:aI3 f N o):COk f N i (gY c o)∧EOk f (fV f c o):=by
 unfold gY fV;have g:=h.num;split
 ·exact⟨aBp h _ _ _,xO _ _ _⟩
 ·rename_i d;have b:0≤(gL c).bal:=by have:=h.r1;have:=h.i1;show 0≤(c.round+1)*256+c.inc*4+c.num;omega
  have a:(gL c).bal≤256255:=by have:=h.i2;show(c.round+1)*256+c.inc*4+c.num≤256255;omega
  refine⟨⟨⟨h.num,h.i1,h.i2,h.c1,h.c2,by show 0≤c.round+1;have:=h.r1;omega,by show c.round+1≤1000;omega,h.w⟩,fun hd=>(by rw[show c.up=false from hd]at hu;cases hu),fun o' ho'=>?_⟩,aAQ (o:=fB o c) hf1 hf2 hc h hi ⟨ho.l1,ho.l2⟩ ⟨b,a⟩ 1 0 (Or.inl rfl) (by decide) (by decide) _ yS⟩;have e:=(aN ho').symm;subst e;exact⟨ho.k1,ho.k2,ho.l1,ho.l2,ho.t1,ho.t2,ho.g1,ho.g2,by show 0≤o.tries+1;have:=ho.r1;omega,by show o.tries+1≤8;have:=ho.r2;omega,b,a,h.c1,h.c2,by show((0:Nat):Int)≤_;omega,by show(0:Int)≤0;omega,by show(0:Int)≤256255;omega,yS,ho.mine⟩
theorem aB0(hf1:1≤f.f)(hf2:f.f≤2)(hc:f.clients≤4)(htr:f.tries≤8)(h:CCore f N i c)(hi:(i:Int)<f.clients)(hu:c.up=true)(ho:OOk f N o):COk f N i (jY f c o)∧EOk f (jK f c o):=by
 unfold jY jK;split
 ·rename_i a;exact zP hf1 hf2 hc h hi hu (ho.base (by omega))
 ·exact⟨aBp h _ _ _,xO _ _ _⟩
theorem aBv(h:CCore f N i c)(k l t:Int):CCore f N i (dN c k l t)∧(dN c k l t).up=c.up:=by
 unfold dN;split
 ·exact⟨⟨h.num,h.i1,h.i2,h.c1,h.c2,h.r1,h.r2,h.w⟩,rfl⟩
 ·split<;>exact⟨⟨h.num,h.i1,h.i2,h.c1,h.c2,h.r1,h.r2,h.w⟩,rfl⟩
theorem EOk.cons{e:Ev}{l:List Ev}(h:EOk f l)(hk:e.kind≠1)(hl:l.length≤5):EOk f (e::l):=⟨fun m hm=>(by
 have:cJ (e::l)=cJ l:=by simp[cJ,qL,hk]
 rw[this]at hm;exact h.1 m hm),by simp;omega⟩
theorem xF(hf2:f.f≤2):(fV f c o).length≤5:=by
 unfold fV;split
 ·simp[lO]
 ·simp[fD,gB];omega
theorem aGI(hf1:1≤f.f)(hf2:f.f≤2)(hc:f.clients≤4)(h:COk f N i c)(hN:0≤N)(hi:(i:Int)<f.clients){k l t:Int}(hk1:1≤k)(hk2:k≤4)(hl1:0≤l)(hl2:l≤3)(ht1:0≤t)(ht2:t≤1000):COk f N i (iV c k l t)∧EOk f (iI f c k l t):=by
 unfold iV iI;split
 ·exact⟨h,iC⟩
 ·rename_i e;have a:c.up=true:=by
   by_cases a:c.up=true
   ·exact a
   ·exact absurd (show kV c≠0 by unfold kV;rw[if_pos (by simpa using a)];decide) e
  have j:CCore f N i {c with doing:=some (eH c k l t)}:=⟨h.core.num,h.core.i1,h.core.i2,h.core.c1,h.core.c2,h.core.r1,h.core.r2,h.core.w⟩;obtain⟨g,b⟩:=aBv j k l t;obtain⟨m,d⟩:=zP (o:=eH c k l t) hf1 hf2 hc g hi (b.trans a) ⟨hk1,hk2,hl1,hl2,ht1,ht2,h.core.c1,h.core.c2,(by decide:(0:Int)≤0),(by decide:(0:Int)<8),(by show((0:Nat):Int)≤N;omega)⟩;exact⟨m,d.cons (show(2:Int)≠1 by decide) (xF hf2)⟩
theorem aIX(hf1:1≤f.f)(hf2:f.f≤2)(hc:f.clients≤4)(htr:f.tries≤8)(h:COk f N i c)(hi:(i:Int)<f.clients):COk f (N+1) i (lF f c)∧EOk f (lQ f c):=by
 unfold lF lQ;split
 ·exact⟨h.mono (by omega),iC⟩
 ·rename_i d;dsimp only;have b:CCore f (N+1) i {c with clock:=c.clock+1}:=⟨h.core.num,h.core.i1,h.core.i2,by show 0≤c.clock+1;have:=h.core.c1;omega,by show c.clock+1≤N+1;have:=h.core.c2;omega,h.core.r1,h.core.r2,fun l=>by have:=h.core.w l;show 0≤(c.wat l).since∧(c.wat l).since≤N+1;omega⟩;have a:COk f (N+1) i {c with clock:=c.clock+1}:=⟨b,h.dn,fun o ho=>(h.on o ho).mono (by omega)⟩;cases hd:c.doing with
  |none=>exact⟨(by first|exact a|(have q:=a;rw[hd]at q;exact q)),iC⟩
  |some o=>
   dsimp only;split
   ·have:=aB0 hf1 hf2 hc htr b hi (by simpa using d) ((h.on o hd).mono (by omega));exact(by first|exact this|(have q:=this;rw[hd]at q;exact q))
   ·exact⟨(by first|exact a|(have q:=a;rw[hd]at q;exact q)),iC⟩
theorem aIr(h:COk f N i c)(hN:0≤N):COk f N i (mX c)∧EOk f (jU c):=by
 unfold mX jU;split
 ·exact⟨h,iC⟩
 ·exact⟨⟨⟨h.core.num,h.core.i1,h.core.i2,(by decide:(0:Int)≤0),hN,(by decide:(0:Int)≤0),(by decide:(0:Int)≤1000),fun l=>⟨(by decide:(0:Int)≤0),hN⟩⟩,fun _=>rfl,fun o ho=>by cases ho⟩,tZ _ (show(4:Int)≠1 by decide)⟩
theorem aE9(h:COk f N i c):COk f N i (jC c)∧EOk f (fW c):=by
 unfold jC fW;split
 ·exact⟨h,iC⟩
 ·rename_i a;have b:c.inc≠63:=fun e=>a (by unfold dW;split<;>simp[e]);refine⟨⟨⟨h.core.num,by show 0≤c.inc+1;have:=h.core.i1;omega,by show c.inc+1≤63;have:=h.core.i2;omega,h.core.c1,h.core.c2,h.core.r1,h.core.r2,h.core.w⟩,fun h=>(by cases h),h.on⟩,tZ _ (show(5:Int)≠1 by decide)⟩
theorem aDd(hi:(i:Int)<f.clients)(hc:f.clients≤4)(h:CCore f N i c)(ho:OOk f N o){v:Vl}(hv:VOk v):VOk (dD f c o v).next:=by
 have b:=h.num;have a:VOk ⟨c.num+1,o.att.bal,o.ttl,1⟩:=⟨by show 0≤c.num+1;omega,by show c.num+1≤4;omega,ho.b1,ho.b2,ho.t1,ho.t2,(by decide:(0:Int)≤1),(by decide:(1:Int)≤2147483647)⟩;unfold dD;split
 ·unfold gX;split
  ·exact hv
  ·split
   ·exact yS
   ·split
    ·exact a
    ·exact hv
 ·split
  ·unfold lR;split
   ·exact⟨hv.o1,hv.o2,hv.k1,hv.k2,ho.t1,ho.t2,by show 0≤min (v.seq+1) 2147483647;have:=hv.s1;omega,by show min (v.seq+1) 2147483647≤2147483647;omega⟩
   ·exact hv
  ·split
   ·unfold gR;split
    ·exact⟨(by decide:(0:Int)≤0),(by decide:(0:Int)≤4),hv.k1,hv.k2,(by decide:(0:Int)≤0),(by decide:(0:Int)≤1000),ho.b1,by show o.att.bal≤2147483647;have:=ho.b2;omega⟩
    ·split
     ·exact hv
     ·split
      ·exact yS
      ·exact hv
   ·exact hv
theorem aDB(hf1:1≤f.f)(hf2:f.f≤2)(hc:f.clients≤4)(h:CCore f N i c)(hi:(i:Int)<f.clients)(hu:c.up=true)(ho:OOk f N o)(hans:True):COk f (N+1) i (iT f c o)∧EOk f (iN f c o):=by
 have a:=aDd (v:=o.att.val) hi hc h ho ho.v;unfold iT iN;dsimp only;split
 ·exact⟨(aBp h _ _ _).mono (by omega),xO _ _ _⟩
 ·refine⟨⟨⟨h.num,h.i1,h.i2,h.c1,by show c.clock≤N+1;have:=h.c2;omega,h.r1,h.r2,fun l=>by have:=h.w l;show 0≤(c.wat l).since∧(c.wat l).since≤N+1;omega⟩,fun hd=>(by rw[show c.up=false from hd]at hu;cases hu),fun o' ho'=>?_⟩,aAQ (o:=eV o (dD f c o o.att.val)) hf1 hf2 hc h hi ⟨ho.l1,ho.l2⟩ ⟨ho.b1,ho.b2⟩ 3 _ (Or.inr rfl) ho.e1 ho.e2 _ a⟩;have e:=(aN ho').symm;subst e;refine⟨ho.k1,ho.k2,ho.l1,ho.l2,ho.t1,ho.t2,ho.g1,by show o.began≤N+1;have:=ho.g2;omega,ho.r1,ho.r2,ho.b1,ho.b2,ho.a1,by show o.att.began≤N+1;have:=ho.a2;omega,by show((0:Nat):Int)≤_;omega,ho.e1,ho.e2,ho.v,?_⟩;unfold eV;dsimp only;have:=ho.mine;split
  ·rw[aD,aK];omega
  ·omega
theorem aB2(ho:OOk f N o){m:Mg}(hm:MOk f m)(hlen:((heardOn o m).att.ans.length:Int)≤f.f):OOk f N (heardOn o m):=by
 refine⟨ho.k1,ho.k2,ho.l1,ho.l2,ho.t1,ho.t2,ho.g1,ho.g2,ho.r1,ho.r2,ho.b1,ho.b2,ho.a1,ho.a2,hlen,?_,?_,?_,ho.mine⟩
 ·show 0≤(if o.att.base<m.base then m.base else o.att.base);split
  ·exact hm.e1
  ·exact ho.e1
 ·show(if o.att.base<m.base then m.base else o.att.base)≤256255;split
  ·exact hm.e2
  ·exact ho.e2
 ·show VOk (if o.att.base<m.base then m.val else o.att.val);split
  ·exact hm.v
  ·exact ho.v
theorem aHI(hf1:1≤f.f)(hf2:f.f≤2)(hc:f.clients≤4)(h:CCore f N i c)(hd:c.doing=some o)(hi:(i:Int)<f.clients)(hu:c.up=true)(ho:OOk f N o){m:Mg}(hm:MOk f m):COk f (N+1) i (iZ f c o m)∧EOk f (jF f c o m):=by
 unfold iZ jF;split
 ·exact⟨(⟨h,fun h'=>(by rw[h']at hu;cases hu),fun o' ho'=>by rw[hd]at ho';cases ho';exact ho⟩:COk f N i c).mono (by omega),iC⟩
 ·dsimp only;have a:∀d,CCore f N i {c with doing:=d}:=fun d=>⟨h.num,h.i1,h.i2,h.c1,h.c2,h.r1,h.r2,h.w⟩;split
  ·rename_i e;exact⟨(⟨a _,fun h'=>(by rw[show c.up=false from h']at hu;cases hu),fun o' ho'=>by cases ho';exact aB2 ho hm e⟩:COk f N i _).mono (by omega),iC⟩
  ·split
   ·have b:OOk f N {heardOn o m with att:={(heardOn o m).att with ans:=[]}}:=by
     have:=aB2 (o:={o with att:={o.att with ans:=[]}}) ⟨ho.k1,ho.k2,ho.l1,ho.l2,ho.t1,ho.t2,ho.g1,ho.g2,ho.r1,ho.r2,ho.b1,ho.b2,ho.a1,ho.a2,(by show((0:Nat):Int)≤_;omega),ho.e1,ho.e2,ho.v,ho.mine⟩ hm (by show((0+1:Nat):Int)≤_;omega);exact⟨this.k1,this.k2,this.l1,this.l2,this.t1,this.t2,this.g1,this.g2,this.r1,this.r2,this.b1,this.b2,this.a1,this.a2,(by show((0:Nat):Int)≤_;omega),this.e1,this.e2,this.v,this.mine⟩
    have g:=aDB hf1 hf2 hc (a (some (heardOn o m))) hi hu b trivial;exact g
   ·exact⟨(aBp h _ _ _).mono (by omega),xO _ _ _⟩
theorem aIl(hf1:1≤f.f)(hf2:f.f≤2)(hc:f.clients≤4)(htr:f.tries≤8)(h:COk f N i c)(hi:(i:Int)<f.clients){m:Mg}(hm:MOk f m):COk f (N+1) i (gS f c m)∧EOk f (gT f c m):=by
 unfold gS gT;split
 ·exact⟨h.mono (by omega),iC⟩
 ·rename_i d;have a:c.up=true:=by simpa using d
  cases hd:c.doing with
  |none=>exact⟨(by first|exact h.mono (by omega)|(have q:=h.mono (by omega);rw[hd]at q;exact q)),iC⟩
  |some o=>
   dsimp only;have b:=h.on o hd;split
   ·exact⟨(by first|exact h.mono (by omega)|(have q:=h.mono (by omega);rw[hd]at q;exact q)),iC⟩
   ·split
    ·have e:CCore f (N+1) i {c with round:=max c.round (m.base / 256)}:=⟨h.core.num,h.core.i1,h.core.i2,h.core.c1,by show c.clock≤N+1;have:=h.core.c2;omega,by show 0≤max c.round (m.base / 256);have:=h.core.r1;omega,by show max c.round (m.base / 256)≤1000;have:=h.core.r2;have:=hm.e2;omega,fun l=>by have:=h.core.w l;show 0≤(c.wat l).since∧(c.wat l).since≤N+1;omega⟩;have:=aB0 hf1 hf2 hc htr e hi a (b.mono (by omega));exact(by first|exact this|(have q:=this;rw[hd]at q;exact q))
    ·split
     ·have:=aHI hf1 hf2 hc h.core hd hi a b hm;exact(by first|exact this|(have q:=this;rw[hd]at q;exact q))
     ·exact⟨(by first|exact h.mono (by omega)|(have q:=h.mono (by omega);rw[hd]at q;exact q)),iC⟩
end
theorem aEl:(prog.info? 312).map (·.size)=some 2:=by kernel_rfl
theorem aH5:liesAt prog prog.depth 312 (2 / prog.cellsOf 312) 0 312 1=true:=by kernel_rfl
theorem infoByte:(prog.info? 5).map (fun i=>(i.zero,i.size,i.bytes))=some (some (.int .u8 0),1,1):=by kernel_rfl
theorem aAu(b:Nat)(w:World)(h0:w.cell? ⟨b,0,none⟩=some (.pointer (some ⟨b,0,none⟩))):
 Calls prog 235 #[.pointer (some ⟨b,0,none⟩)] w fun e w'=>e= .returned (.tuple #[])∧w'=w:=by
 obtain⟨j,a,_⟩:=Option.map_eq_some_iff.1 aEl;have c:=Lib.run_neq_ptr_same (P:=prog) w ⟨b,0,none⟩ underlying310 a;go_enter func235,ntmps235;go_wp2
 (first|go_end0|skip)
 exact⟨rfl,rfl⟩
theorem xN(b:Nat)(w:World)(h0:w.cell? ⟨b,0,none⟩=some (.pointer none))(hsh:w.shape? b=some (312,2))(hfz:w.frozen? ⟨b,0,none⟩=false):
 Calls prog 235 #[.pointer (some ⟨b,0,none⟩)] w fun e w'=>e= .returned (.tuple #[])∧w'=w.setCell ⟨b,0,none⟩ (.pointer (some ⟨b,0,none⟩)):=by
 obtain⟨j,c,a⟩:=Option.map_eq_some_iff.1 aEl;have g:=Lib.run_to_unsafe (P:=prog) w ⟨b,0,none⟩ underlying310 underlying261 c (by rw[a];decide) hsh (Nat.zero_lt_succ 1);have d:= @run_callFunc_extern prog 241 _ Extern.AbiNoEscape.same func241 (by kernel_rfl) (by kernel_rfl) (by kernel_rfl) (by kernel_rfl);have h:=Lib.run_noEscape (P:=prog) (w:=w) (.pointer (some ⟨b,0,none⟩));have f:=Lib.run_from_unsafe (P:=prog) w ⟨b,0,none⟩ underlying261 underlying310 c hsh aH5;go_enter func235,ntmps235;go_wp2
 (first|go_end0|skip)
 exact⟨rfl,rfl⟩
structure BldAt(B:Nat)(W:World)(b:Nat)(v:Value)(bs:List Value):Prop where
 blk:∃p,(p= .pointer none∨p= .pointer (some ⟨b,0,none⟩))∧W.heap[b]?=some (.cells #[p,v] 312 (0,0))
 own:W.ownsRow B 5 1 v bs.length bs
 ne:v.ownBlock≠some b
 hB:B≤b
theorem BldAt.is{B:Nat}{W:World}{b:Nat}{v:Value}{bs:List Value}(h:BldAt B W b v bs):Lib.IsBuilder 312 5 B b bs W:=by
 obtain⟨p,c,a⟩:=h.blk;rcases c with rfl|rfl
 ·exact Or.inl ⟨h.hB,v,a,h.own,h.ne⟩
 ·exact Or.inr ⟨h.hB,v,a,h.own,h.ne⟩
theorem xE(B b:Nat)(v:Value)(bs:List Value)(s:ByteArray)(w:World)(h:BldAt B w b v bs)(hlen:bs.length+s.size≤140737488355328)(hBw:B≤w.heap.size):
 Calls prog 222 #[.pointer (some ⟨b,0,none⟩),.string s] w fun e w'=>e= .returned (.tuple #[.int .i64 s.size,.nilIface])∧∃v',BldAt B w' b v' (bs++Lib.strCells s)∧Chg (fun k=>k=b∨v.ownBlock=some k) w w':=by
 obtain⟨K,M,E,F,G⟩:=info_parts infoByte;have I:Calls prog 235 #[.pointer (some ⟨b,0,none⟩)] w fun e w'=>e= .returned (.tuple #[])∧w'.heap[b]?=some (.cells #[.pointer (some ⟨b,0,none⟩),v] 312 (0,0))∧Chg (fun k=>k=b) w w':=by
  obtain⟨p,L,z⟩:=h.blk;rcases L with rfl|rfl
  ·have l:Lib.BuilderAt 312 5 B b (.pointer none) bs w:=⟨h.hB,v,z,h.own,h.ne⟩;refine(xN b w l.cell0 l.shape l.frozen0).mono ?_;rintro e w' ⟨rfl,rfl⟩;exact⟨rfl,cU z 0 _,(Chg.refl _ _).setCell _ _ (fun _=>rfl)⟩
  ·have l:Lib.BuilderAt 312 5 B b (.pointer (some ⟨b,0,none⟩)) bs w:=⟨h.hB,v,z,h.own,h.ne⟩;refine(aAu b w l.cell0).mono ?_;rintro e w' ⟨rfl,rfl⟩;exact⟨rfl,z,Chg.refl _ _⟩
 have y:=h.own;have u:=h.ne;have l:=h.hB;clear h;go_enter func222,ntmps222;go_wp2_with (go_at_call 235;refine I.mono ?_);rintro e J ⟨rfl,i,m⟩;have n:=m.row y (fun q hq e=>u (by rw[hq,e]));have Q:J.cell? ⟨b,0,none⟩=some (.pointer (some ⟨b,0,none⟩)):=cC i 0 _ rfl;have R:J.cell? ⟨b,1,none⟩=some v:=cC i 1 _ rfl;go_wp2_with (at_builtin;refine Lib.wpList_append_own_string _ rfl _ _ 218 9 rfl B 5 K underlying218 underlying9 M E F G _ _ _ rfl n s rfl ?c3 ?c4 ?c5 ?_)
 case c3=>unfold maxLen;omega
 case c4=>omega
 case c5=>have:=m.size;omega
 intro v' t a f _;have D:=cW i;have d:t.heap[b]?=some (.cells #[.pointer (some ⟨b,0,none⟩),v] 312 (0,0)):=by
  rw[f.block b D (fun e=>u e.symm)];exact i
 have H:=(m.mono (fun _ _ h=>Or.inl h)).trans (Chg.of_grown f) (fun x _ h=>Or.inr h.symm);have S:t.cell? ⟨b,0,none⟩=some (.pointer (some ⟨b,0,none⟩)):=cC d 0 _ rfl;have P:t.cell? ⟨b,1,none⟩=some v:=cC d 1 _ rfl;have O:=cV d 1;obtain⟨r,o,c,rfl⟩:∃r o c,v'= .slice r o c:=by
  rcases a.2 with⟨A,_⟩|⟨g,c,N,A,_⟩
  ·exact⟨_,_,_,A⟩
  ·exact⟨_,_,_,A⟩
 go_wp2
 go_ret2
 have j:(Value.slice r o c).ownBlock≠some b:=fun e=>fS a d (by decide) b e rfl;refine⟨rfl,.slice r o c,⟨⟨_,Or.inr rfl,cU d 1 _⟩,?_,j,l⟩,H.setCell _ _ (fun _=>Or.inl rfl)⟩;have C:Chg (fun k=>k=b) t (t.setCell ⟨b,1,none⟩ (.slice r o c)):=(Chg.refl _ _).setCell _ _ (fun _=>rfl);have:=C.row a (fun q hq e=>j (by rw[hq,e]));rw[aD,Lib.strCells_length];exact this
section
variable {P:Program}{ops:Array Oper}{md:Region.Mode}{S:World→Prop}{Q:Exit→Act→World→Prop}{keep:Nat→Bool}
def aEL:List (Nat×Nat)→Array Bool→Array Bool
 |[],listed=>listed
 |(_,k)::l,listed=>aEL l (listed.setIfInBounds k true)
def wV(md:Region.Mode)(ops:Array Oper):List (Nat×Nat)→Array Bool→Bool
 |[],_=>true
 |(0,k)::l,listed=>(Region.ready md ops listed).contains k&&Region.free md ops listed k&&wV md ops l (listed.setIfInBounds k true)
 |(1,k)::l,listed=>(Region.ready md ops listed).contains k&&Region.free md ops listed k&&wV md ops l (listed.setIfInBounds k true)
 |(_+2,k)::l,listed=>decide (Region.ready md ops listed=[k])&&wV md ops l (listed.setIfInBounds k true)
def aI4(md:Region.Mode)(ops:Array Oper)(hs:List (Nat×Nat))(n:Nat):Bool:=
 Region.noSelect ops&&wV md ops hs (Array.replicate ops.size false)&&((hs.map (·.2)).all fun i=>decide (i<ops.size))&&decide (hs.length+n=ops.size)
theorem oG(n:Nat)(hsel:Region.noSelect ops=true)(hQ:∀c a d v w,Q (.panic c) (Act.put a d v) w→Q (.panic c) a w):
 ∀(hs:List (Nat×Nat)) (listed:Array Bool) (a:Act) (w:World),S w→(∀p ∈ hs,p.2<ops.size)→Closed md ops listed→wV md ops hs listed=true→
 dP P ops Q S (fun a'' w''=>gZ P md ops Q S (fun _=>true) n (aEL hs listed) a'' w'') (iY ops.toList hs) a w→
 gZ P md ops Q S (fun _=>true) (hs.length+n) listed a w
 |[],listed,a,w,_,_,_,_,h=>by
  rw[List.length_nil,Nat.zero_add];exact h
 |(0,k)::hs,listed,a,w,hS,hlt,inv,hB,h=>by
  have hk:=hlt (0,k) (by simp);have h0:ops[k]?=some ops[k]:=by simp[show k<ops.size from hk]
  have h0':ops.toList[k]?=some ops[k]:=by simp[show k<ops.size from hk]
  simp only[wV,aR]at hB;obtain⟨⟨hr,hf⟩,hB'⟩:=hB;have hr':k ∈ Region.ready md ops listed:=by simpa using hr
  simp only[iY,h0']at h;rw[bH,show hs.length+1+n=(hs.length+n)+1 by omega];obtain⟨v,hy,hK⟩:=h;have ih:=oG n hsel hQ hs (listed.setIfInBounds k true) (a.put ops[k].dst v) w hS (fun p hp=>hlt p (by simp[hp])) (inv.set hr') hB' hK;exact oU h0 (Region.noSelect_spec hsel) (fun c a _ o v w _ h=>hQ c a o.dst v w h) _ listed a w (Region.free_spec h0 hf) hr' hy ih
 |(1,k)::hs,listed,a,w,hS,hlt,inv,hB,h=>by
  have hk:=hlt (1,k) (by simp);have h0:ops[k]?=some ops[k]:=by simp[show k<ops.size from hk]
  have h0':ops.toList[k]?=some ops[k]:=by simp[show k<ops.size from hk]
  simp only[wV,aR]at hB;obtain⟨⟨hr,hf⟩,hB'⟩:=hB;have hr':k ∈ Region.ready md ops listed:=by simpa using hr
  simp only[iY,h0']at h;rw[bH,show hs.length+1+n=(hs.length+n)+1 by omega];obtain⟨v,hy,hK⟩:=h;have ih:=oG n hsel hQ hs (listed.setIfInBounds k true) (a.put ops[k].dst v) w hS (fun p hp=>hlt p (by simp[hp])) (inv.set hr') hB' hK;exact sG h0 (Region.noSelect_spec hsel) (fun c a _ o v w _ h=>hQ c a o.dst v w h) (fun t _ hkt=>by simp at hkt) _ listed a w inv (Region.free_spec h0 hf) hr' hy hS ih
 |(m+2,k)::hs,listed,a,w,hS,hlt,inv,hB,h=>by
  have hk:=hlt (m+2,k) (by simp);have h0:ops[k]?=some ops[k]:=by simp[show k<ops.size from hk]
  have h0':ops.toList[k]?=some ops[k]:=by simp[show k<ops.size from hk]
  simp only[wV,aR,aM]at hB;simp only[iY,h0']at h;rw[bH,show hs.length+1+n=(hs.length+n)+1 by omega];refine⟨fun h1=>(by rw[hB.1]at h1;cases h1),fun i hi=>?_⟩;have hi0:=hi;rw[hB.1]at hi;have hit:i=k:=by simpa using hi
  subst hit;have hw:wpOp P ops Q i (fun a' w'=>S w'∧dP P ops Q S (fun a'' w''=>gZ P md ops Q S (fun _=>true) n (aEL hs (listed.setIfInBounds i true)) a'' w'') (iY ops.toList hs) a' w') a w:=by
   unfold wpOp;simp only[h0];unfold dP at h;split
   ·rename_i hwd;rw[if_pos hwd]at h;exact h
   ·rename_i hwd;rw[if_neg hwd]at h;exact h
  exact wpOp_mono (fun a' w' h'=>⟨fun _ _=>h'.1,oG n hsel hQ hs _ a' w' h'.1 (fun p hp=>hlt p (by simp[hp])) (inv.set hi0) hB.2 h'.2⟩) hw
section
variable {f:Nat} {listed:Array Bool} {a:Act} {w:World}
theorem cY(rs:List Nat)(hr:Region.ready md ops listed=rs)(hne:rs≠[])(h:∀i ∈ rs,∀C:Act→World→Prop,(∀a' w',S w'→gZ P md ops Q S keep f (listed.setIfInBounds i true) a' w'→C a' w')→wpOp P ops Q i C a w):gZ P md ops Q S keep (f+1) listed a w:=
 ⟨fun h0=>absurd (hr.symm.trans h0) hne,fun i hi=>wpOp_mono (fun _ _ h'=>⟨fun _ _=>h'.1,h'.2⟩) (h i (hr▸hi) (fun a' w'=>S w'∧gZ P md ops Q S keep f (listed.setIfInBounds i true) a' w') (fun _ _ h1 h2=>⟨h1,h2⟩))⟩
theorem oO(hr:Region.ready md ops listed=[])(h:Q .normal a w):gZ P md ops Q S keep f listed a w:=by
 cases f with
 |zero=>exact⟨hr,h⟩
 |succ f=>exact⟨fun _=>h,fun i hi=>by rw[hr]at hi;cases hi⟩
end
theorem cR{i:Nat}{o:Oper}{a:Act}{w:World}{K:Act→World→Prop}(hi:ops[i]?=some o)(hw:Region.wanted o (yielded ops a.tmps)=true)(h:o.wp P a w K Q):wpOp P ops Q i K a w:=by
 unfold wpOp;simp only[hi];rw[if_pos hw];exact Or.inl h
theorem nX{id:Nat}{a:Act}{w:World}{l:List Oper}(hs:List (Nat×Nat))(n:Nat)(S:World→Prop)(hm:P.follows .mixedOrders=true)(hB:aI4 .any l.toArray hs n=true)
 (hQ:∀c a d v w,Q (.panic c) (Act.put a d v) w→Q (.panic c) a w) (hS:S w.drew)
 (h:dP P l.toArray Q S (fun a'' w''=>gZ P .any l.toArray Q S (fun _=>true) n (aEL hs (Array.replicate l.toArray.size false)) a'' w'') (iY l hs) a w.drew):(Code.region id l.toArray true).wp P Q a w:=by
 simp only[aI4,aR,aM]at hB;obtain⟨⟨⟨f,b⟩,m⟩,e⟩:=hB;have k:=fun i hi=>of_decide_eq_true (List.all_eq_true.1 m i hi);have g:Closed .any l.toArray (Array.replicate l.toArray.size false):=
  ⟨by simp,fun j oj _ hl=>(by rw[getD_replicate_false]at hl;cases hl)⟩
 have H:=oG (md:=.any) n f hQ hs _ a w.drew hS (fun p hp=>k p.2 (bN.2 ⟨p,hp,rfl⟩)) g b h;rw[e]at H;exact wp_region_any hm (tF _ _ _ _ H)
end
section
variable {P:Program}{ops:Array Oper}{md:Region.Mode}{S:World→Prop}{Q:Exit→Act→World→Prop}
theorem zV{keep:Nat→Bool}(m:Nat)(I:Nat→Array Bool→Act→World→Prop)(hS:∀n listed a w,I n listed a w→S w)(h0:∀listed a w,I 0 listed a w→gZ P md ops Q S keep m listed a w)
 (hs:∀n listed a w,I (n+1) listed a w→∃rs,Region.ready md ops listed=rs∧rs≠[]∧∀i ∈ rs,wpOp P ops Q i (fun a' w'=>I n (listed.setIfInBounds i true) a' w') a w):
 ∀n listed a w,I n listed a w→gZ P md ops Q S keep (n+m) listed a w
 |0,listed,a,w,h=>by rw[Nat.zero_add];exact h0 listed a w h
 |n+1,listed,a,w,h=>by
  obtain⟨rs,hr,hne,hall⟩:=hs n listed a w h;rw[show n+1+m=(n+m)+1 by omega];exact⟨fun e=>absurd (hr.symm.trans e) hne,fun i hi=>wpOp_mono (fun a' w' hI=>⟨fun _ _=>hS _ _ _ _ hI,zV m I hS h0 hs n _ a' w' hI⟩) (hall i (hr▸hi))⟩
theorem aD0{keep:Nat→Bool}(m:Nat)(I:Nat→Array Bool→Act→World→Prop)
 (hs:∀n listed a w,I n listed a w→(∀n',n'<n→∀listed a w,I n' listed a w→gZ P md ops Q S keep (n'+m) listed a w)→gZ P md ops Q S keep (n+m) listed a w):
 ∀n listed a w,I n listed a w→gZ P md ops Q S keep (n+m) listed a w:=fun n=>by
 induction n using Nat.strongRecOn with
 |_ n ih=>exact fun listed a w h=>hs n listed a w h (fun n' hn'=>ih n' hn')
theorem dY{keep:Nat→Bool}{i:Nat}{o:Oper}{v:Value}{f:Nat}{listed:Array Bool}{a:Act}{w:World}(hi:ops[i]?=some o)(hns:Region.noSelect ops=true)(hQ:∀c a d v w,Q (.panic c) (Act.put a d v) w→Q (.panic c) a w)
 (hr:(Region.ready md ops listed).contains i=true) (hf:Region.free md ops listed i=true) (hg:o.guard=none) (hy:∀x,(execOp a.eval o).run P x= .ok (.value v) x) (H:gZ P md ops Q S keep f (listed.setIfInBounds i true) (a.put o.dst v) w):gZ P md ops Q S keep (f+1) listed a w:=
 oU hi (Region.noSelect_spec hns) (fun c a _ o v w _ h=>hQ c a o.dst v w h) f listed a w (Region.free_spec hi hf) (by simpa using hr) (Or.inl ⟨by simp[Region.wanted,hg],hy⟩) H
end
theorem xJ{P:Program}{w:World}{ops:Array Oper}{rest:List Oper}{o:Oper}{a:Act}{Q:Exit→Act→World→Prop}(hgd:o.guard=none)(s x:Operand)(t:TypeId)
 (ho:o.op= .call {callee:=.builtin .append,args:=#[s,x],argTypes:=#[t,t]})
 (e:TypeId) (i:TypeInfo) (ht:P.underlying t=some (.slice e)) (hi:P.info? e=some i)
 (g sLen sCap:Nat) (cur:Array Value) (hg:w.heap[g]?=some (.cells cur e (0,0))) (hs:a.eval s= .slice (some ⟨g,0,none⟩) sLen sCap)
 (A:Addr) (m c:Nat) (news:List Value) (hx:a.eval x= .slice (some A) m c) (hl:news.length=m*i.size) (hnews:∀j u,news[j]?=some u→w.cell? (A.add j)=some u) (h1:∀u ∈ news,u.oneCell'=true)
 (hroom:sLen+m≤sCap) (hfit:sLen*i.size+news.length≤cur.size)
 (h:wpList P ops Q rest (a.put o.dst (.slice (some ⟨g,0,none⟩) (sLen+m) sCap)) (w.setRow g (cur.toList.take (sLen*i.size)++news++cur.toList.drop (sLen*i.size+news.length)).toArray)):wpList P ops Q (o::rest) a w:=
 wpList_plain hgd fun _ hK=>by
  have hr:=run_append_room (P:=P) w t o.type e i ht hi g sLen sCap cur hg A m c news hl hnews h1 hroom hfit;unfold Oper.wp execOp;simp only[ho,resolve,invoke,builtin,aT,Sem.run_pure,Result.andThen_ok,List.map_toArray,List.map_cons,List.map_nil,hs,hx,hr];exact hK _ _ h
theorem aAI(w:World)(g k c:Nat)(cur:Array Value)(ty:TypeId)(hg:w.heap[g]?=some (.cells cur 66 (0,0)))(hk:k*10+10≤cur.size):
 (Builtin.clear_ #[88] ty #[.slice (some ⟨g,k*10,none⟩) 1 c]).run prog w= .ok (.tuple #[]) (w.setRow g (cur.toList.take (k*10)++mgL zMg++cur.toList.drop (k*10+10)).toArray):=by
 have f:(zeroValue 66).run prog w= .ok (mgV zMg) w:=by kernel_rfl
 have b:(Builtin.zeroCells (mgV zMg).cells 1).toList=mgL zMg:=by
  first
  |kernel_rfl
  |(simp[Builtin.zeroCells,Array.range,List.range_succ,Value.cells];rfl)
 have a:=run_storeCells_at prog g (k*10) 66 (mgL zMg) 0 cur w hg (by show k*10+0+10≤cur.size;omega) (vC zMg);simp only[Nat.add_zero]at a;have e:(mgL zMg).length=10:=rfl;rw[e]at a;have d:(storeCells ⟨g,k*10,none⟩ (Builtin.zeroCells (mgV zMg).cells 1).toList).run prog w= .ok () (w.setRow g (cur.toList.take (k*10)++mgL zMg++cur.toList.drop (k*10+10)).toArray):=by rw[b];exact a
 clear a b;simp only[Builtin.clear_,Array.getElem?_eq_getElem,List.getElem?_toArray,cA,aT,run_underlying underlying88,Result.andThen_ok,f,d,Sem.run_pure]
theorem aCK(net:List Mg)(i:Nat)(hi:i<net.length):cQ mgL (net.eraseIdx i)=cQ mgL (net.take i)++cQ mgL (net.drop (i+1)):=by
 rw[List.eraseIdx_eq_take_drop_succ];simp[cQ]
theorem aDy(W:World)(nv:Value)(net:List Mg)(i:Nat)(hi:i<net.length)(hn:net.length≤100000000000)(h:W.ownsRow 0 66 10 nv net.length (cQ mgL net)):
 Calls prog 126 #[nv,.int .i64 i,.int .i64 ((i:Int)+1)] W fun r W'=>∃v,r= .returned v∧W'.ownsRow 0 66 10 v (net.eraseIdx i).length (cQ mgL (net.eraseIdx i))∧v.ownBlock=nv.ownBlock∧Chg (fun k=>some k=nv.ownBlock) W W':=by
 obtain⟨i1,ji,a9,z,a5⟩:=info_parts tR;rcases h.2 with⟨rfl,h0⟩|⟨g,a,b,rfl,X,M,J,t,L,n⟩
 ·omega
 ·have a8:(0:Int)≤(i:Int):=by omega
  have h1:(i:Int)+1≤(net.length:Int):=by omega
  have h2:(net.length:Int)≤(a:Int):=by omega
  have h3:(a:Int)≤9223372036854775807:=by unfold maxLen at t;omega
  have a4:((i:Int)==(i:Int)+1)=false:=by
   rw[beq_eq_false_iff_ne];omega
  have h4:i≤a:=by omega
  have h5:(0:Int)≤(i:Int)+1:=by omega
  have I:((net.drop (i+1)).flatMap mgL).length=(net.length-(i+1))*10:=by
   have:=eL mgL (k:=10) (fun _=>rfl) (net.drop (i+1));rw[aV]at this;exact this
  obtain⟨A,hA,l⟩:∃A:Addr,(if a=i+1 then(some ⟨g,0,none⟩:Option Addr)else some ⟨g,(i+1)*10,none⟩)=some A∧∀j u,(cQ mgL (net.drop (i+1)))[j]?=some u→W.drew.cell? (A.add j)=some u:=by
   by_cases hc:a=i+1
   ·refine⟨⟨g,0,none⟩,by rw[if_pos hc],fun j u hj=>?_⟩;rw[List.drop_eq_nil_of_le (by omega)]at hj;cases hj
   ·refine⟨⟨g,(i+1)*10,none⟩,by rw[if_neg hc],fun j u hj=>?_⟩;rw[Addr.add_lit];have e:(cQ mgL net)[(i+1)*10+j]?=some u:=by
     have Q:cQ mgL net=cQ mgL (net.take (i+1))++cQ mgL (net.drop (i+1)):=by
      unfold cQ;rw[←List.flatMap_append,bX]
     rw[Q,bK (by rw[eL mgL (k:=10) (fun _=>rfl),bD];omega),eL mgL (k:=10) (fun _=>rfl),bD,show(i+1)*10+j-min (i+1) net.length*10=j by omega];exact hj
    have C:=(aF.1 e).1;rw[eL mgL (k:=10) (fun _=>rfl)]at C;show W.cell? ⟨g,(i+1)*10+j,none⟩=some u;rw[h.cellAt _ C];exact e
  have H:=cB h;have B:=cB hi;have s:=cB (aJY J t L n);have HG:=cB M;have d:=cB I;have R:=cB l;clear h J t L n M I l;go_enter func126,ntmps126;go_wp2_with fail;refine dJ [0,0,0,0,0,0] (by kernel_rfl) (fun _ _ _ _=>rfl) ?_;simp only[cL,cK];iterate 6 (apply sB rfl rfl;·(intro x h;(try cases h rfl);go_simp;with_reducible rfl))
  refine cD ?_;try simp only[pA]
  have P:Hid (∀u ∈ cQ mgL (net.drop (i+1)),u.oneCell'=true):=fun u hu=>by
   obtain⟨m,_,hm⟩:=List.mem_flatMap.1 hu;exact vC m u hm
  refine xJ rfl _ _ 88 rfl 66 i1 underlying88 ji g i a b HG.out rfl A (net.length-(i+1)) (a-(i+1)) (cQ mgL (net.drop (i+1))) rfl (by rw[z];exact d.out) R.out P.out (by have:=B.out;have:=s.out.1;omega) (by rw[z];have:=d.out;have:=B.out;have:=s.out;show i*10+(cQ mgL (net.drop (i+1))).length≤b.size;rw[show(cQ mgL (net.drop (i+1))).length=(net.length-(i+1))*10 from d.out];omega) ?_;have w:i+(net.length-(i+1))+1=net.length:=by have:=B.out;omega
  have HN:=cB w;rw[z];generalize hq:i+(net.length-(i+1))=q at*;have a1:net.length-q=1:=by omega
  have a6:(0:Int)≤(q:Int):=by omega
  have a7:¬a=q:=by have:=s.out.1;omega
  have a3:(q:Int)≤(net.length:Int):=by omega
  have HQ:=cB hq;have y:=setRow_heap W.drew g b (b.toList.take (i*10)++cQ mgL (net.drop (i+1))++b.toList.drop (i*10+(cQ mgL (net.drop (i+1))).length)).toArray _ _ HG.out;generalize f:b.toList.take (i*10)++cQ mgL (net.drop (i+1))++b.toList.drop (i*10+(cQ mgL (net.drop (i+1))).length)=cs2 at*;have c:cs2.length=a*10:=by
   have h1:=s.out.2.2.1;have h2:(cQ mgL (net.drop (i+1))).length=(net.length-(i+1))*10:=d.out;have h3:=B.out;have h4:=s.out.1;rw[←f];simp only[aD,bD,aV,Array.length_toList,h1,h2];omega
  have K:Chg (fun k=>k=g) W (W.drew.setRow g cs2.toArray):=⟨rfl,rfl,rfl,by simp[World.setRow],fun k hk hn=>setRow_other W.drew g k _ hn⟩;generalize D:W.drew.setRow g cs2.toArray=W2 at*;have S:=cB D;have a2:=fun ty=>aAI W2 g q (a-q) cs2.toArray ty y (by have:=s.out.1;simp only[List.size_toArray,c];omega);have N:=setRow_heap W2 g cs2.toArray (cs2.toArray.toList.take (q*10)++mgL zMg++cs2.toArray.toList.drop (q*10+10)).toArray _ _ y;have O:Chg (fun k=>k=g) W2 (W2.setRow g (cs2.toArray.toList.take (q*10)++mgL zMg++cs2.toArray.toList.drop (q*10+10)).toArray):=⟨rfl,rfl,rfl,by simp[World.setRow],fun k hk hn=>setRow_other W2 g k _ hn⟩;generalize Z:W2.setRow g (cs2.toArray.toList.take (q*10)++mgL zMg++cs2.toArray.toList.drop (q*10+10)).toArray=W3 at*;have T:=cB N;have U:=cB (K.trans O (fun _ _ h=>h));have Y:=cB f;have E:=cB c;clear D Z N K O f c y hq w S;simp only[pA];go_wp2_with fail;go_ret;have F:=B.out;have G:=s.out;have w:=HN.out;have o:(net.eraseIdx i).length=q:=by rw[List.length_eraseIdx_of_lt F];omega
  have l1:(cQ mgL (net.take i)).length=i*10:=by rw[eL mgL (k:=10) (fun _=>rfl),bD,Nat.min_eq_left (by omega)]
  have l2:(cQ mgL (net.drop (i+1))).length=(net.length-(i+1))*10:=d.out;have p:b.toList.take (i*10)=cQ mgL (net.take i):=by
   have Q:cQ mgL net=cQ mgL (net.take i)++cQ mgL (net.drop i):=by unfold cQ;rw[←List.flatMap_append,bX]
   have e2:b.toList.take (i*10)=(b.toList.take (net.length*10)).take (i*10):=by rw[List.take_take,Nat.min_eq_left (by omega)]
   rw[e2,G.2.2.2,Q,List.take_left' l1]
  have V:cs2.take (q*10)=cQ mgL (net.eraseIdx i):=by
   rw[←Y.out,p,aCK net i F,List.take_left' (by rw[aD,l1,l2];omega)]
  have a0:(cs2.toArray.toList.take (q*10)).length=q*10:=by
   have:=E.out;rw[bD];have e:cs2.toArray.toList.length=a*10:=by simpa using this
   omega
  refine⟨.slice (some ⟨g,0,none⟩) q a,rfl,⟨by rw[o,eL mgL (k:=10) (fun _=>rfl),o],Or.inr ⟨g,a,_,by rw[o],X,T.out,by omega,G.2.1,?_,?_⟩⟩,rfl,?_⟩
  ·have e:=E.out;simp only[List.size_toArray,aD,bD,aV,e];have:(mgL zMg).length=10:=rfl;omega
  ·rw[o,aS,List.toList_toArray,List.take_left' a0,List.toList_toArray];exact V
  ·exact U.out.mono (fun k _ h=>by rw[h];rfl)
section
open Go.ChangeShapes Go.WideShapes Go.ChangeAt Go.RowKit Go.Deep
theorem aA9:prog.cellsOf 3=1:=by kernel_rfl
section
variable {H:Type}{enc:TypeId×Value→H}{W:World}{base:Nat}{sp:Nat→Bool}{hd:Bool}
theorem aBj{cs:List Value}{o k j:Nat}{v:Value}(h:((cs.drop o).take k)[j]?=some v)(hj:j<k):cs[o+j]?=some v:=by
 simpa[List.getElem?_take,hj]using h
theorem uU{cs:List Value}{o n:Nat}{y:DataW H×List MemPlace}(h:DataW.trod enc prog W base sp hd n 3 ((cs.drop o).take (prog.cellsOf 3))=some y):
 ∃a,cs[o]?=some (.int .i64 a)∧(Lit.int .i64 a).wf=true:=by
 obtain⟨a,e,_,wf⟩:=DataW.trod_int underlying3 h;rw[aA9]at e;exact⟨a,by simpa using aBj (j:=0) (k:=1) (o:=o) (cs:=cs) (by rw[e];rfl) (by omega),wf⟩
def aJD(cs:List Value)(o:Nat):Prop:=∃a,cs[o]?=some (.int .i64 a)∧(Lit.int .i64 a).wf=true
theorem aAg{w:World}{a:Addr}{n:Nat}{cs:List Value}(h:w.cells? base a n=some cs):∀j,j<n→w.cell? (a.add j)=cs[j]?:=by
 unfold World.cells? at h;split at h
 ·intro j b;have:=mapM_some_get h j j (by simp[b]);exact this
 ·cases h
end
end
end Go.Proofs.YtbbdgokdfhdpiaaGreatDoor
