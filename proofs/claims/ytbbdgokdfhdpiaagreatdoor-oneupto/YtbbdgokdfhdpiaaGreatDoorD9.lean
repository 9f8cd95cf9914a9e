/- A part of the proof: PrgFirst, PrgReplay, PrgRows, MdlAc, MemAc, PrgMoor. -/
import Derived.Test.YtbbdgokdfhdpiaaGreatDoorD5
import Derived.Test.YtbbdgokdfhdpiaaGreatDoorD7
namespace Go.Proofs.YtbbdgokdfhdpiaaGreatDoor
set_option linter.all false
set_option maxRecDepth 100000
set_option maxHeartbeats 40000000
open Go.Proofs.Tryz Go.RowKit
theorem wM(s:ByteArray)(a:Nat):dF (s.extract a s.size)=(dF s).drop a:=by
 rw[rA,aY];rw[aV,gH];omega
theorem eG(s:ByteArray)(a:Nat)(w:World)(h:a+4≤s.size):
 Calls prog 136 #[.string (s.extract a s.size)] w fun e w'=>e= .returned (.int .i64 (nS (((dF s).drop a).take 4)))∧∃m,w'=w.drewN m:=by
 rw[←wM s a];exact aDO _ _ (by rw[ByteArray.size_extract];omega)
abbrev Z7:Obj:=.cells #[.int .i64 0,.int .i64 0,.int .i64 0,.int .i64 0,.int .i64 0,.int .i64 0,.int .i64 0] 58
abbrev zRw:Rw:=⟨0,0,0,0,0,0,0⟩
theorem aGk(W:World)(g m:Nat)(hg:W.heap.size=g)(v0 v1 v2 v3 v4 v5 v6:Value):
 ((((((((W.alloc Z7).drewN m).setCell ⟨g,0,none⟩ v0).setCell ⟨g,1,none⟩ v1).setCell ⟨g,2,none⟩ v2).setCell ⟨g,3,none⟩ v3).setCell ⟨g,4,none⟩ v4).setCell ⟨g,5,none⟩ v5).setCell ⟨g,6,none⟩ v6=(W.alloc (.cells #[v0,v1,v2,v3,v4,v5,v6] 58)).drewN m:=by
 have b:∀(V:World) (a:Addr) (v:Value),(V.drewN m).setCell a v=(V.setCell a v).drewN m:=fun V a v=>by
  unfold World.setCell World.drewN;cases V;simp only
 simp only[b,World.setCell_alloc_at _ _ _ _ _ hg.symm]
 rfl
theorem aJm(W:World)(g:Nat)(h:∀j,j<7→(W.cell? ⟨g,j,none⟩).isSome=true)(v0 v1 v2 v3 v4 v5 v6:Value):
 ∀j u,[v0,v1,v2,v3,v4,v5,v6][j]?=some u→(((((((W.setCell ⟨g,0,none⟩ v0).setCell ⟨g,1,none⟩ v1).setCell ⟨g,2,none⟩ v2).setCell ⟨g,3,none⟩ v3).setCell ⟨g,4,none⟩ v4).setCell ⟨g,5,none⟩ v5).setCell ⟨g,6,none⟩ v6).cell? ((⟨g,0,none⟩:Addr).add j)=some u:=by
 intro j u hj;have e:(⟨g,0,none⟩:Addr).add j=⟨g,j,none⟩:=by unfold Addr.add;split<;>simp_all
 rw[e];have i:=h 0 (by omega);have d:=h 1 (by omega);have b:=h 2 (by omega);have l:=h 3 (by omega);have c:=h 4 (by omega);have f:=h 5 (by omega);have a:=h 6 (by omega)
 match j,hj with
 |0,hj=>simp at hj;subst hj;simp[World.cell?_setCell_other,World.cell?_setCell_same',i]
 |1,hj=>simp at hj;subst hj;simp[World.cell?_setCell_other,World.cell?_setCell_same',d]
 |2,hj=>simp at hj;subst hj;simp[World.cell?_setCell_other,World.cell?_setCell_same',b]
 |3,hj=>simp at hj;subst hj;simp[World.cell?_setCell_other,World.cell?_setCell_same',l]
 |4,hj=>simp at hj;subst hj;simp[World.cell?_setCell_other,World.cell?_setCell_same',c]
 |5,hj=>simp at hj;subst hj;simp[World.cell?_setCell_other,World.cell?_setCell_same',f]
 |6,hj=>simp at hj;subst hj;simp[World.cell?_setCell_other,World.cell?_setCell_same',a]
 |k+7,hj=>simp at hj
theorem aJJ(W:World)(g:Nat)(h:∀j,j<7→(W.cell? ⟨g,j,none⟩).isSome=true)(v0 v1 v2 v3 v4 v5 v6:Value):
 (loadVar 58 ⟨g,0,none⟩).run prog (((((((W.setCell ⟨g,0,none⟩ v0).setCell ⟨g,1,none⟩ v1).setCell ⟨g,2,none⟩ v2).setCell ⟨g,3,none⟩ v3).setCell ⟨g,4,none⟩ v4).setCell ⟨g,5,none⟩ v5).setCell ⟨g,6,none⟩ v6)=
  .ok (.agg #[v0,v1,v2,v3,v4,v5,v6]) (((((((W.setCell ⟨g,0,none⟩ v0).setCell ⟨g,1,none⟩ v1).setCell ⟨g,2,none⟩ v2).setCell ⟨g,3,none⟩ v3).setCell ⟨g,4,none⟩ v4).setCell ⟨g,5,none⟩ v5).setCell ⟨g,6,none⟩ v6):=
 eK _ _ 58 [v0,v1,v2,v3,v4,v5,v6] _ (aJm W g h v0 v1 v2 v3 v4 v5 v6) underlying58 rfl (by kernel_rfl)
theorem aCo(s:ByteArray)(w:World)(hs:s.size<25):
 Calls prog 97 #[.string s] w fun e w'=>e= .returned (.tuple #[rwV zRw,.bool false])∧Below w.heap.size w w':=by
 go_enter func97,ntmps97;go_wp2;exact bodyPost_ret (v:=.tuple #[rwV zRw,.bool false]) (by simp[results,results97,go_sem]) rfl ⟨rfl,(aJ _ _).alloc (aE _) _⟩
theorem aDj(s:ByteArray)(w:World)(hs:25≤s.size)(R:Rw)(hR:R=nB (dF s))(q:Bool)(hq:((strOfNums (dR R)).toList==(s.extract 0 25).toList)=q):
 Calls prog 97 #[.string s] w fun e w'=>e= .returned (.tuple #[rwV (if q=true then R else zRw),.bool q])∧Below w.heap.size w w':=by
 have U:1<s.size:=by omega
 have J:10<s.size:=by omega
 have i1:(1:Int)<(s.size:Int):=by omega
 have a3:(10:Int)<(s.size:Int):=by omega
 have b2:(2:Int)≤(s.size:Int):=by omega
 have b6:(6:Int)≤(s.size:Int):=by omega
 have a0:(11:Int)≤(s.size:Int):=by omega
 have a1:(15:Int)≤(s.size:Int):=by omega
 have a4:(19:Int)≤(s.size:Int):=by omega
 have a2:(25:Int)≤(s.size:Int):=by omega
 have T:=cB hR;have V:=cB hq;clear hR hq;go_enter func97,ntmps97;go_wp2_with fail
 go_cut [4]from 5 to 31 (fun s4 wc=>s4= .pointer (some ⟨w.heap.size+1,0,none⟩)∧∃d m,wc=(((w.alloc Z7).drewN d).alloc (.cells #[.int .i64 (IntKind.i64.wrap (s[1].toNat:Int)),.int .i64 (nS (List.take 4 (List.drop 2 (dF s)))),.int .i64 (nS (List.take 4 (List.drop 6 (dF s)))),.int .i64 (IntKind.i64.wrap (s[10].toNat:Int)),.int .i64 (nS (List.take 4 (List.drop 11 (dF s)))),.int .i64 (nS (List.take 4 (List.drop 15 (dF s)))),.int .i64 (nS (List.take 4 (List.drop 19 (dF s))))] 58)).drewN m)
 case first=>
  refine wp_region_any (by kernel_rfl) ?_;change wpAny _ _ _ _ _ _ _ (World.drew _);refine wpAny_take (i:=0) (v:=?v1) rfl (by kernel_rfl) (by kernel_rfl) (by kernel_rfl) (fun _ _ _ h=>h) (Or.inl ⟨by rfl,?y1⟩) ?k1
  case y1=>intro w;go_simp;with_reducible rfl
  refine wpAny_take (i:=1) (v:=?v2) rfl (by kernel_rfl) (by kernel_rfl) (by kernel_rfl) (fun _ _ _ h=>h) (Or.inl ⟨by rfl,?y2⟩) ?k2
  case y2=>intro w;go_simp;with_reducible rfl
  refine wpAny_take (i:=2) (v:=?v3) rfl (by kernel_rfl) (by kernel_rfl) (by kernel_rfl) (fun _ _ _ h=>h) (Or.inl ⟨by rfl,?y3⟩) ?k3
  case y3=>intro w;go_simp;with_reducible rfl
  refine wpAny_take (i:=3) (v:=?v4) rfl (by kernel_rfl) (by kernel_rfl) (by kernel_rfl) (fun _ _ _ h=>h) (Or.inl ⟨by rfl,?y4⟩) ?k4
  case y4=>intro w;go_simp;with_reducible rfl
  refine wpAny_take (i:=4) (v:=?v5) rfl (by kernel_rfl) (by kernel_rfl) (by kernel_rfl) (fun _ _ _ h=>h) (Or.inl ⟨by rfl,?y5⟩) ?k5
  case y5=>intro w;go_simp;with_reducible rfl
  refine wpAny_take (i:=6) (v:=?v6) rfl (by kernel_rfl) (by kernel_rfl) (by kernel_rfl) (fun _ _ _ h=>h) (Or.inl ⟨by rfl,?y6⟩) ?k6
  case y6=>intro w;go_simp;with_reducible rfl
  refine wpAny_take (i:=7) (v:=?v7) rfl (by kernel_rfl) (by kernel_rfl) (by kernel_rfl) (fun _ _ _ h=>h) (Or.inl ⟨by rfl,?y7⟩) ?k7
  case y7=>intro w;go_simp;with_reducible rfl
  refine wpAny_take (i:=9) (v:=?v8) rfl (by kernel_rfl) (by kernel_rfl) (by kernel_rfl) (fun _ _ _ h=>h) (Or.inl ⟨by rfl,?y8⟩) ?k8
  case y8=>intro w;go_simp;with_reducible rfl
  refine wpAny_take (i:=10) (v:=?v9) rfl (by kernel_rfl) (by kernel_rfl) (by kernel_rfl) (fun _ _ _ h=>h) (Or.inl ⟨by rfl,?y9⟩) ?k9
  case y9=>intro w;go_simp;with_reducible rfl
  refine wpAny_take (i:=11) (v:=?v10) rfl (by kernel_rfl) (by kernel_rfl) (by kernel_rfl) (fun _ _ _ h=>h) (Or.inl ⟨by rfl,?y10⟩) ?k10
  case y10=>intro w;go_simp;with_reducible rfl
  refine wpAny_take (i:=12) (v:=?v11) rfl (by kernel_rfl) (by kernel_rfl) (by kernel_rfl) (fun _ _ _ h=>h) (Or.inl ⟨by rfl,?y11⟩) ?k11
  case y11=>intro w;go_simp;with_reducible rfl
  refine wpAny_take (i:=13) (v:=?v12) rfl (by kernel_rfl) (by kernel_rfl) (by kernel_rfl) (fun _ _ _ h=>h) (Or.inl ⟨by rfl,?y12⟩) ?k12
  case y12=>intro w;go_simp;with_reducible rfl
  refine wpAny_take (i:=15) (v:=?v13) rfl (by kernel_rfl) (by kernel_rfl) (by kernel_rfl) (fun _ _ _ h=>h) (Or.inl ⟨by rfl,?y13⟩) ?k13
  case y13=>intro w;go_simp;with_reducible rfl
  refine wpAny_take (i:=16) (v:=?v14) rfl (by kernel_rfl) (by kernel_rfl) (by kernel_rfl) (fun _ _ _ h=>h) (Or.inl ⟨by rfl,?y14⟩) ?k14
  case y14=>intro w;go_simp;with_reducible rfl
  refine wpAny_take (i:=18) (v:=?v15) rfl (by kernel_rfl) (by kernel_rfl) (by kernel_rfl) (fun _ _ _ h=>h) (Or.inl ⟨by rfl,?y15⟩) ?k15
  case y15=>intro w;go_simp;with_reducible rfl
  refine wpAny_take (i:=19) (v:=?v16) rfl (by kernel_rfl) (by kernel_rfl) (by kernel_rfl) (fun _ _ _ h=>h) (Or.inl ⟨by rfl,?y16⟩) ?k16
  case y16=>intro w;go_simp;with_reducible rfl
  refine wpAny_ready (rs:=[5,23]) (by kernel_rfl) (by simp) ?_;refine AllReady.cons rfl (fun K hK=>?_) ?_
  ·go_simp;refine Calls.mono (eG s 2 _ (by omega)) ?_;rintro e w' ⟨rfl,m2,rfl⟩;refine hK _ _ ?_;clear hK K;refine wpAny_ready (rs:=[8,23]) (by kernel_rfl) (by simp) ?_;refine AllReady.cons rfl (fun K hK=>?_) ?_
   ·go_simp;refine Calls.mono (eG s 6 _ (by omega)) ?_;rintro e w' ⟨rfl,O,rfl⟩;refine hK _ _ ?_;clear hK K;refine wpAny_ready (rs:=[14,23]) (by kernel_rfl) (by simp) ?_;refine AllReady.cons rfl (fun K hK=>?_) ?_
    ·go_simp;refine Calls.mono (eG s 11 _ (by omega)) ?_;rintro e w' ⟨rfl,B,rfl⟩;refine hK _ _ ?_;clear hK K;refine wpAny_ready (rs:=[17,23]) (by kernel_rfl) (by simp) ?_;refine AllReady.cons rfl (fun K hK=>?_) ?_
     ·go_simp;refine Calls.mono (eG s 15 _ (by omega)) ?_;rintro e w' ⟨rfl,r,rfl⟩;refine hK _ _ ?_;clear hK K;refine wpAny_ready (rs:=[20,23]) (by kernel_rfl) (by simp) ?_;refine AllReady.cons rfl (fun K hK=>?_) ?_
      ·go_simp;refine Calls.mono (eG s 19 _ (by omega)) ?_;rintro e w' ⟨rfl,k,rfl⟩;refine hK _ _ ?_;clear hK K;refine wpAny_take (i:=21) (v:=?v17) rfl (by kernel_rfl) (by kernel_rfl) (by kernel_rfl) (fun _ _ _ h=>h) (Or.inl ⟨by rfl,?y17⟩) ?k17
       case y17=>intro w;go_simp;with_reducible rfl
       refine wpAny_take (i:=22) (v:=?v18) rfl (by kernel_rfl) (by kernel_rfl) (by kernel_rfl) (fun _ _ _ h=>h) (Or.inl ⟨by rfl,?y18⟩) ?k18
       case y18=>intro w;go_simp;with_reducible rfl
       refine wpAny_ready (rs:=[23]) (by kernel_rfl) (by simp) ?_;refine AllReady.cons rfl (fun K hK=>?_) ?_
       ·go_simp;refine hK _ _ ?_;clear hK K;refine wpAny_ready (rs:=[24]) (by kernel_rfl) (by simp) ?_;refine AllReady.cons rfl (fun K hK=>?_) ?_
        ·go_simp;refine hK _ _ ?_;clear hK K;refine wpAny_done (by kernel_rfl) ?_ _;go_wp2_with fail
         go_meet
         case rel=>exact⟨rfl,_,0,rfl⟩
        exact AllReady.nil
       exact AllReady.nil
      refine AllReady.cons rfl (fun K hK=>?_) ?_
      ·go_simp;refine hK _ _ ?_;clear hK K;refine wpAny_ready (rs:=[20]) (by kernel_rfl) (by simp) ?_;refine AllReady.cons rfl (fun K hK=>?_) ?_
       ·go_simp;refine Calls.mono (eG s 19 _ (by omega)) ?_;rintro e w' ⟨rfl,k,rfl⟩;refine hK _ _ ?_;clear hK K;refine wpAny_take (i:=21) (v:=?v19) rfl (by kernel_rfl) (by kernel_rfl) (by kernel_rfl) (fun _ _ _ h=>h) (Or.inl ⟨by rfl,?y19⟩) ?k19
        case y19=>intro w;go_simp;with_reducible rfl
        refine wpAny_take (i:=22) (v:=?v20) rfl (by kernel_rfl) (by kernel_rfl) (by kernel_rfl) (fun _ _ _ h=>h) (Or.inl ⟨by rfl,?y20⟩) ?k20
        case y20=>intro w;go_simp;with_reducible rfl
        refine wpAny_ready (rs:=[24]) (by kernel_rfl) (by simp) ?_;refine AllReady.cons rfl (fun K hK=>?_) ?_
        ·go_simp;refine hK _ _ ?_;clear hK K;refine wpAny_done (by kernel_rfl) ?_ _;go_wp2_with fail
         go_meet
         case rel=>
          go_light
          refine⟨rfl,?_⟩;rw[aGk _ _ _ (by simp)];exact⟨_,_,rfl⟩
        exact AllReady.nil
       exact AllReady.nil
      exact AllReady.nil
     refine AllReady.cons rfl (fun K hK=>?_) ?_
     ·go_simp;refine hK _ _ ?_;clear hK K;refine wpAny_ready (rs:=[17]) (by kernel_rfl) (by simp) ?_;refine AllReady.cons rfl (fun K hK=>?_) ?_
      ·go_simp;refine Calls.mono (eG s 15 _ (by omega)) ?_;rintro e w' ⟨rfl,r,rfl⟩;refine hK _ _ ?_;clear hK K;refine wpAny_ready (rs:=[20]) (by kernel_rfl) (by simp) ?_;refine AllReady.cons rfl (fun K hK=>?_) ?_
       ·go_simp;refine Calls.mono (eG s 19 _ (by omega)) ?_;rintro e w' ⟨rfl,k,rfl⟩;refine hK _ _ ?_;clear hK K;refine wpAny_take (i:=21) (v:=?v21) rfl (by kernel_rfl) (by kernel_rfl) (by kernel_rfl) (fun _ _ _ h=>h) (Or.inl ⟨by rfl,?y21⟩) ?k21
        case y21=>intro w;go_simp;with_reducible rfl
        refine wpAny_take (i:=22) (v:=?v22) rfl (by kernel_rfl) (by kernel_rfl) (by kernel_rfl) (fun _ _ _ h=>h) (Or.inl ⟨by rfl,?y22⟩) ?k22
        case y22=>intro w;go_simp;with_reducible rfl
        refine wpAny_ready (rs:=[24]) (by kernel_rfl) (by simp) ?_;refine AllReady.cons rfl (fun K hK=>?_) ?_
        ·go_simp;refine hK _ _ ?_;clear hK K;refine wpAny_done (by kernel_rfl) ?_ _;go_wp2_with fail
         go_meet
         case rel=>
          go_light
          refine⟨rfl,?_⟩;rw[aGk _ _ _ (by simp)];exact⟨_,_,rfl⟩
        exact AllReady.nil
       exact AllReady.nil
      exact AllReady.nil
     exact AllReady.nil
    refine AllReady.cons rfl (fun K hK=>?_) ?_
    ·go_simp;refine hK _ _ ?_;clear hK K;refine wpAny_ready (rs:=[14]) (by kernel_rfl) (by simp) ?_;refine AllReady.cons rfl (fun K hK=>?_) ?_
     ·go_simp;refine Calls.mono (eG s 11 _ (by omega)) ?_;rintro e w' ⟨rfl,B,rfl⟩;refine hK _ _ ?_;clear hK K;refine wpAny_ready (rs:=[17]) (by kernel_rfl) (by simp) ?_;refine AllReady.cons rfl (fun K hK=>?_) ?_
      ·go_simp;refine Calls.mono (eG s 15 _ (by omega)) ?_;rintro e w' ⟨rfl,r,rfl⟩;refine hK _ _ ?_;clear hK K;refine wpAny_ready (rs:=[20]) (by kernel_rfl) (by simp) ?_;refine AllReady.cons rfl (fun K hK=>?_) ?_
       ·go_simp;refine Calls.mono (eG s 19 _ (by omega)) ?_;rintro e w' ⟨rfl,k,rfl⟩;refine hK _ _ ?_;clear hK K;refine wpAny_take (i:=21) (v:=?v23) rfl (by kernel_rfl) (by kernel_rfl) (by kernel_rfl) (fun _ _ _ h=>h) (Or.inl ⟨by rfl,?y23⟩) ?k23
        case y23=>intro w;go_simp;with_reducible rfl
        refine wpAny_take (i:=22) (v:=?v24) rfl (by kernel_rfl) (by kernel_rfl) (by kernel_rfl) (fun _ _ _ h=>h) (Or.inl ⟨by rfl,?y24⟩) ?k24
        case y24=>intro w;go_simp;with_reducible rfl
        refine wpAny_ready (rs:=[24]) (by kernel_rfl) (by simp) ?_;refine AllReady.cons rfl (fun K hK=>?_) ?_
        ·go_simp;refine hK _ _ ?_;clear hK K;refine wpAny_done (by kernel_rfl) ?_ _;go_wp2_with fail
         go_meet
         case rel=>
          go_light
          refine⟨rfl,?_⟩;rw[aGk _ _ _ (by simp)];exact⟨_,_,rfl⟩
        exact AllReady.nil
       exact AllReady.nil
      exact AllReady.nil
     exact AllReady.nil
    exact AllReady.nil
   refine AllReady.cons rfl (fun K hK=>?_) ?_
   ·go_simp;refine hK _ _ ?_;clear hK K;refine wpAny_ready (rs:=[8]) (by kernel_rfl) (by simp) ?_;refine AllReady.cons rfl (fun K hK=>?_) ?_
    ·go_simp;refine Calls.mono (eG s 6 _ (by omega)) ?_;rintro e w' ⟨rfl,O,rfl⟩;refine hK _ _ ?_;clear hK K;refine wpAny_ready (rs:=[14]) (by kernel_rfl) (by simp) ?_;refine AllReady.cons rfl (fun K hK=>?_) ?_
     ·go_simp;refine Calls.mono (eG s 11 _ (by omega)) ?_;rintro e w' ⟨rfl,B,rfl⟩;refine hK _ _ ?_;clear hK K;refine wpAny_ready (rs:=[17]) (by kernel_rfl) (by simp) ?_;refine AllReady.cons rfl (fun K hK=>?_) ?_
      ·go_simp;refine Calls.mono (eG s 15 _ (by omega)) ?_;rintro e w' ⟨rfl,r,rfl⟩;refine hK _ _ ?_;clear hK K;refine wpAny_ready (rs:=[20]) (by kernel_rfl) (by simp) ?_;refine AllReady.cons rfl (fun K hK=>?_) ?_
       ·go_simp;refine Calls.mono (eG s 19 _ (by omega)) ?_;rintro e w' ⟨rfl,k,rfl⟩;refine hK _ _ ?_;clear hK K;refine wpAny_take (i:=21) (v:=?v25) rfl (by kernel_rfl) (by kernel_rfl) (by kernel_rfl) (fun _ _ _ h=>h) (Or.inl ⟨by rfl,?y25⟩) ?k25
        case y25=>intro w;go_simp;with_reducible rfl
        refine wpAny_take (i:=22) (v:=?v26) rfl (by kernel_rfl) (by kernel_rfl) (by kernel_rfl) (fun _ _ _ h=>h) (Or.inl ⟨by rfl,?y26⟩) ?k26
        case y26=>intro w;go_simp;with_reducible rfl
        refine wpAny_ready (rs:=[24]) (by kernel_rfl) (by simp) ?_;refine AllReady.cons rfl (fun K hK=>?_) ?_
        ·go_simp;refine hK _ _ ?_;clear hK K;refine wpAny_done (by kernel_rfl) ?_ _;go_wp2_with fail
         go_meet
         case rel=>
          go_light
          refine⟨rfl,?_⟩;rw[aGk _ _ _ (by simp)];exact⟨_,_,rfl⟩
        exact AllReady.nil
       exact AllReady.nil
      exact AllReady.nil
     exact AllReady.nil
    exact AllReady.nil
   exact AllReady.nil
  refine AllReady.cons rfl (fun K hK=>?_) ?_
  ·go_simp;refine hK _ _ ?_;clear hK K;refine wpAny_ready (rs:=[5]) (by kernel_rfl) (by simp) ?_;refine AllReady.cons rfl (fun K hK=>?_) ?_
   ·go_simp;refine Calls.mono (eG s 2 _ (by omega)) ?_;rintro e w' ⟨rfl,m2,rfl⟩;refine hK _ _ ?_;clear hK K;refine wpAny_ready (rs:=[8]) (by kernel_rfl) (by simp) ?_;refine AllReady.cons rfl (fun K hK=>?_) ?_
    ·go_simp;refine Calls.mono (eG s 6 _ (by omega)) ?_;rintro e w' ⟨rfl,O,rfl⟩;refine hK _ _ ?_;clear hK K;refine wpAny_ready (rs:=[14]) (by kernel_rfl) (by simp) ?_;refine AllReady.cons rfl (fun K hK=>?_) ?_
     ·go_simp;refine Calls.mono (eG s 11 _ (by omega)) ?_;rintro e w' ⟨rfl,B,rfl⟩;refine hK _ _ ?_;clear hK K;refine wpAny_ready (rs:=[17]) (by kernel_rfl) (by simp) ?_;refine AllReady.cons rfl (fun K hK=>?_) ?_
      ·go_simp;refine Calls.mono (eG s 15 _ (by omega)) ?_;rintro e w' ⟨rfl,r,rfl⟩;refine hK _ _ ?_;clear hK K;refine wpAny_ready (rs:=[20]) (by kernel_rfl) (by simp) ?_;refine AllReady.cons rfl (fun K hK=>?_) ?_
       ·go_simp;refine Calls.mono (eG s 19 _ (by omega)) ?_;rintro e w' ⟨rfl,k,rfl⟩;refine hK _ _ ?_;clear hK K;refine wpAny_take (i:=21) (v:=?v27) rfl (by kernel_rfl) (by kernel_rfl) (by kernel_rfl) (fun _ _ _ h=>h) (Or.inl ⟨by rfl,?y27⟩) ?k27
        case y27=>intro w;go_simp;with_reducible rfl
        refine wpAny_take (i:=22) (v:=?v28) rfl (by kernel_rfl) (by kernel_rfl) (by kernel_rfl) (fun _ _ _ h=>h) (Or.inl ⟨by rfl,?y28⟩) ?k28
        case y28=>intro w;go_simp;with_reducible rfl
        refine wpAny_ready (rs:=[24]) (by kernel_rfl) (by simp) ?_;refine AllReady.cons rfl (fun K hK=>?_) ?_
        ·go_simp;refine hK _ _ ?_;clear hK K;refine wpAny_done (by kernel_rfl) ?_ _;go_wp2_with fail
         go_meet
         case rel=>
          go_light
          refine⟨rfl,?_⟩;rw[aGk _ _ _ (by simp)];exact⟨0,_,rfl⟩
        exact AllReady.nil
       exact AllReady.nil
      exact AllReady.nil
     exact AllReady.nil
    exact AllReady.nil
   exact AllReady.nil
  exact AllReady.nil
 case rest=>
  obtain⟨rfl,d,m,y⟩:=hcut;have G:Below (w.heap.size+1) (w.alloc Z7) wc:=by
   rw[y];exact below_drewN (Below.alloc (below_drewN (aJ _ _) _) (by simp) _) _
  have E:w.heap.size+1<wc.heap.size:=by rw[y];simp
  have A:wc.heap[w.heap.size+1]?=some (.cells (rwL R).toArray 58 (0,0)):=by
   rw[y,T.out];have h:=aA ((w.alloc Z7).drewN d) (.cells (rwL (nB (dF s))).toArray 58);have e1:IntKind.i64.wrap (s[1].toNat:Int)=(dF s).getD 1 0:=by rw[aA6,lW s 1 U]
   have L:IntKind.i64.wrap (s[10].toNat:Int)=(dF s).getD 10 0:=by rw[aA6,lW s 10 J]
   rw[e1,L];have I:((w.alloc Z7).drewN d).heap.size=w.heap.size+1:=by simp
   rw[I]at h;exact h
  clear y T;obtain⟨l,p,a,o,t,u,v⟩:=R;have N:∀W,Below wc.heap.size wc W→∀j x,([.int .i64 l,.int .i64 p,.int .i64 a,.int .i64 o,.int .i64 t,.int .i64 u,.int .i64 v]:List Value)[j]?=some x→W.cell? ⟨w.heap.size+1,j,none⟩=some x:=by
   intro W H j x D;rw[H.cell (p:=⟨w.heap.size+1,j,none⟩) E,cell_of_row wc _ j _ _ _ A];simpa using D
  have M:∀W,Below wc.heap.size wc W→∀j x,([.int .i64 0,.int .i64 0,.int .i64 0,.int .i64 0,.int .i64 0,.int .i64 0,.int .i64 0]:List Value)[j]?=some x→W.cell? ⟨w.heap.size,j,none⟩=some x∧W.frozen? ⟨w.heap.size,j,none⟩=false:=by
   intro W H j x D;rw[H.cell (p:=⟨w.heap.size,j,none⟩) (by show w.heap.size<_;omega),H.frozen (p:=⟨w.heap.size,j,none⟩) (by show w.heap.size<_;omega),G.cell (p:=⟨w.heap.size,j,none⟩) (Nat.lt_succ_self _),G.frozen (p:=⟨w.heap.size,j,none⟩) (Nat.lt_succ_self _)];exact⟨by simpa using D,by simp⟩
  have C:=((aJ w.heap.size w).alloc (aE _) _).trans (G.mono (by omega));have g:=cB N;have f:=cB M;clear N M G A;have Z:=g.out wc (aJ _ _) 0 _ rfl;have r1:=g.out wc (aJ _ _) 1 _ rfl;have r2:=g.out wc (aJ _ _) 2 _ rfl;have r3:=g.out wc (aJ _ _) 3 _ rfl;have r4:=g.out wc (aJ _ _) 4 _ rfl;have r5:=g.out wc (aJ _ _) 5 _ rfl;have X:=g.out wc (aJ _ _) 6 _ rfl;have hq:=V.out;go_wp2_with fail
  go_region_with (go_at_call 100;refine(aDn ⟨l,p,a,o,t,u,v⟩ _).mono ?_;rintro e c ⟨rfl,F⟩)
  have b:=((aJ wc.heap.size wc).drew).trans F;have c0:=g.out c b 0 _ rfl;have z0:=(f.out c b 0 _ rfl).1;have f0:=(f.out c b 0 _ rfl).2;have c1:=g.out c b 1 _ rfl;have z1:=(f.out c b 1 _ rfl).1;have f1:=(f.out c b 1 _ rfl).2;have c2:=g.out c b 2 _ rfl;have z2:=(f.out c b 2 _ rfl).1;have f2:=(f.out c b 2 _ rfl).2;have c3:=g.out c b 3 _ rfl;have z3:=(f.out c b 3 _ rfl).1;have f3:=(f.out c b 3 _ rfl).2;have c4:=g.out c b 4 _ rfl;have Y:=(f.out c b 4 _ rfl).1;have f4:=(f.out c b 4 _ rfl).2;have c5:=g.out c b 5 _ rfl;have z5:=(f.out c b 5 _ rfl).1;have f5:=(f.out c b 5 _ rfl).2;have c6:=g.out c b 6 _ rfl;have z6:=(f.out c b 6 _ rfl).1;have f6:=(f.out c b 6 _ rfl).2;have z:=C.trans (b.mono C.size);have P:=cB z;clear z C b F Z r1 r2 r3 r4 r5 X E;have n:∀j,j<7→(c.cell? ⟨w.heap.size,j,none⟩).isSome=true:=fun j D=>by
   match j,D with
   |0,_=>rw[z0];rfl
   |1,_=>rw[z1];rfl
   |2,_=>rw[z2];rfl
   |3,_=>rw[z3];rfl
   |4,_=>rw[Y];rfl
   |5,_=>rw[z5];rfl
   |6,_=>rw[z6];rfl
  have Q:=aJJ c w.heap.size n;have S:=fun v0 v1 v2 v3 v4 v5 v6=>(show Hid _ from Q v0 v1 v2 v3 v4 v5 v6);clear Q n;cases q
  ·go_wp2;exact bodyPost_ret (v:=.tuple #[rwV zRw,.bool false]) (by simp[results,results97,asAddr,(S _ _ _ _ _ _ _).out]) rfl ⟨rfl,(((((((P.out.setCell (aE _) _).setCell (aE _) _).setCell (aE _) _).setCell (aE _) _).setCell (aE _) _).setCell (aE _) _).setCell (aE _) _)⟩
  ·go_wp2;exact bodyPost_ret (v:=.tuple #[rwV ⟨l,p,a,o,t,u,v⟩,.bool true]) (by simp[results,results97,asAddr,(S _ _ _ _ _ _ _).out]) rfl ⟨rfl,(((((((P.out.setCell (aE _) _).setCell (aE _) _).setCell (aE _) _).setCell (aE _) _).setCell (aE _) _).setCell (aE _) _).setCell (aE _) _)⟩
section
open Go.RowKit Go.Maps
def fq(L:List Int):Bool:=decide (25≤L.length)&&tH (L.take 25)
theorem aGN(L:List Int):fq L=true↔(25≤L.length∧tH (L.take 25)=true):=by simp[fq]
theorem aAW{L:List Int}{k n:Nat}(h:k<n):(L.take n).getD k 0=L.getD k 0:=by
 simp[List.getD,h]
theorem vM(L:List Int):nB (L.take 25)=nB L:=by
 have e:∀a,a+4≤25→((L.take 25).drop a).take 4=(L.drop a).take 4:=fun a ha=>by
  rw[List.drop_take,List.take_take,Nat.min_eq_left (by omega)]
 simp only[nB,aAW (show 1<25 by omega),aAW (show 10<25 by omega),e 2 (by omega),e 6 (by omega),e 11 (by omega),e 15 (by omega),e 19 (by omega)]
theorem aAY(s:ByteArray)(w:World):
 Calls prog 97 #[.string s] w fun e w'=>e= .returned (.tuple #[rwV (if fq (dF s)=true then nB (dF s)else zRw),.bool (fq (dF s))])∧Below w.heap.size w w':=by
 by_cases h:s.size<25
 ·have a:fq (dF s)=false:=by simp[fq,gH];omega
  rw[a];exact aCo s w h
 ·have a:((strOfNums (dR (nB (dF s)))).toList==(s.extract 0 25).toList)=fq (dF s):=by
   rw[aIF,rA,List.drop_zero];have e:fq (dF s)=tH ((dF s).take 25):=by
    have:25≤(dF s).length:=by rw[gH];omega
    simp[fq,this]
   rw[e,tH,vM]
  exact aDj s w (by omega) _ rfl _ a
def xK(r:Rw):DataW Unit:=.agg [.lit (.int .i64 r.lock),.lit (.int .i64 r.prom),.lit (.int .i64 r.acc),.lit (.int .i64 r.own),.lit (.int .i64 r.tok),.lit (.int .i64 r.ttl),.lit (.int .i64 r.seq)]
def rU:Value→Option (DataW Unit×List MemPlace)
 |.agg ⟨[.int .i64 a,.int .i64 b,.int .i64 c,.int .i64 d,.int .i64 e,.int .i64 f,.int .i64 g]⟩=>some (xK ⟨a,b,c,d,e,f,g⟩,[])
 |_=>none
theorem xY(r:Rw):rU (rwV r)=some (xK r,[]):=rfl
def mT:List Rw→DataW Unit
 |rs=>rs.foldl (fun D r=>D.put (.int .i64 r.lock) (xK r)) (.map [])
theorem rL(rs:List Rw)(r:Rw):mT (rs++[r])=(mT rs).put (.int .i64 r.lock) (xK r):=by simp[mT]
theorem aFE:Keyed prog 3:=int_keyed underlying3
theorem rB{M:List Int}(h:tH M=true)(hl:M.length=25):okB (nB M)=true:=by
 simp only[tH,aM]at h;by_cases a:okB (nB M)=true
 ·exact a
 ·unfold dR at h;rw[if_neg a]at h;rw[←h]at hl;simp at hl
theorem aCi{n:Int}(h0:0≤n)(h1:n≤2147483647):(Lit.int .i64 n).wf=true:=WalkArith.wf_i64 (by omega)
theorem aCq{r:Rw}(h:okB r=true):0≤r.lock∧r.lock≤3:=by
 simp only[okB,aR,aM]at h;omega
structure RowCell(W:World)(B g:Nat)(r:Rw):Prop where
 base:B≤g
 lt:g<W.heap.size
 row:W.heap[g]?=some (.cells (rwL r).toArray 58 (0,0))
section
variable {W:World} {B g:Nat} {r:Rw}
theorem RowCell.cell(h:RowCell W B g r):∀j x,(rwL r)[j]?=some x→W.cell? ⟨g,j,none⟩=some x:=fun j x hj=>by
 rw[cell_of_row W g j _ _ _ h.row];simpa using hj
theorem RowCell.frozen(h:RowCell W B g r)(j:Nat):W.frozen? ⟨g,j,none⟩=false:=frozen_of_row W g j _ _ h.row
end
theorem aC0(W:World)(g:Nat)(x0 x1 x2 x3 x4 x5 x6:Value)(t:TypeId)(h:W.heap[g]?=some (.cells #[x0,x1,x2,x3,x4,x5,x6] t (0,0)))(v0 v1 v2 v3 v4 v5 v6:Value):
 (((((((W.setCell ⟨g,0,none⟩ v0).setCell ⟨g,1,none⟩ v1).setCell ⟨g,2,none⟩ v2).setCell ⟨g,3,none⟩ v3).setCell ⟨g,4,none⟩ v4).setCell ⟨g,5,none⟩ v5).setCell ⟨g,6,none⟩ v6).heap[g]?=some (.cells #[v0,v1,v2,v3,v4,v5,v6] t (0,0)):=by
 have d:=heap_setCell_same _ g 0 _ t v0 h;have b:=heap_setCell_same _ g 1 _ t v1 d;have i:=heap_setCell_same _ g 2 _ t v2 b;have c:=heap_setCell_same _ g 3 _ t v3 i;have f:=heap_setCell_same _ g 4 _ t v4 c;have a:=heap_setCell_same _ g 5 _ t v5 f;have e:=heap_setCell_same _ g 6 _ t v6 a;rw[e]
 rfl
theorem aBe(W:World)(g b:Nat)(h:b≠g)(v0 v1 v2 v3 v4 v5 v6:Value):
 (((((((W.setCell ⟨g,0,none⟩ v0).setCell ⟨g,1,none⟩ v1).setCell ⟨g,2,none⟩ v2).setCell ⟨g,3,none⟩ v3).setCell ⟨g,4,none⟩ v4).setCell ⟨g,5,none⟩ v5).setCell ⟨g,6,none⟩ v6).heap[b]?=W.heap[b]?:=by
 rw[heap_setCell_other _ _ _ _ h,heap_setCell_other _ _ _ _ h,heap_setCell_other _ _ _ _ h,heap_setCell_other _ _ _ _ h,heap_setCell_other _ _ _ _ h,heap_setCell_other _ _ _ _ h,heap_setCell_other _ _ _ _ h]
theorem iJ{w w':World}{R:Value→Option (DataW Unit×List MemPlace)}{b n:Nat}{D:DataW Unit}(h:w.ownsMap prog 3 R b n D)(hb:w'.heap[b]?=w.heap[b]?):w'.ownsMap prog 3 R b n D:=by
 obtain⟨d,a,c,e⟩:=h;exact⟨d,a,hb.trans c,e⟩
theorem eO{W:World}{g:Nat}{r:Rw}(h:W.heap[g]?=some (.cells (rwL r).toArray 58 (0,0)))(j:Nat)(x:Value)(hj:(rwL r)[j]?=some x):W.cell? ⟨g,j,none⟩=some x:=by
 rw[cell_of_row W g j _ _ _ h];simpa using hj
theorem aAJ(s:ByteArray)(w:World)(hs:s.size≤1000000000000):
 Calls prog 61 #[.string s] w fun e w'=>∃b n,e= .returned (.tuple #[.map (some b),.int .i64 (25*((dU (dF s)).length:Int))])∧w'.ownsMap prog 3 rU b n (mT (dU (dF s)))∧n≤1000000000000∧w.heap.size≤b∧Below w.heap.size w w':=by
 have d8:= @run_makeMap prog;have HL:=cB (gH s);have h0:=fun W=>aAY s W;generalize T:fq (dF s)=q0 at h0;generalize a4:(if q0=true then nB (dF s)else zRw)=R0 at h0;have b5:=cB T;have b1:=cB a4;have H0:=cB h0;clear h0 T a4;obtain⟨l0,p0,a0,o0,t0,u0,v0⟩:=R0;go_enter func61,ntmps61;go_wp2_with fail;refine(H0.out _).mono ?_;rintro e w1 ⟨rfl,G⟩;go_wp2;go_loopw [5,6,7] (fun n r ok wr=>∃(k p g:Nat) (I:List Rw) (R:Rw) (q:Bool),p=25*k∧p≤s.size∧n= .int .i64 p∧r= .pointer (some ⟨g,0,none⟩)∧ok= .bool q∧I.length=k∧dU (dF s)=I++iX (s.size-k) ((dF s).drop p)∧fq ((dF s).drop p)=q∧(q=true→nB ((dF s).drop p)=R)∧RowCell wr (w.heap.size+1) g R∧wr.ownsMap prog 3 rU w.heap.size k (mT I)∧Below w.heap.size w wr) (fun n _ _ _=>s.size-(intOf n).toNat)
 case atStart=>
  have b6:w.heap.size+1≤w1.heap.size:=by have:=G.size;simpa using this
  refine⟨0,0,w1.heap.size,[],⟨l0,p0,a0,o0,t0,u0,v0⟩,q0,rfl,by omega,rfl,rfl,rfl,rfl,?_,?_,?_,⟨b6,by simp,aA _ _⟩,?_,?_⟩
  ·simp only[dU,List.nil_append,List.drop_zero,Nat.sub_zero];rw[HL.out]
  ·rw[List.drop_zero];exact b5.out
  ·intro hq;rw[List.drop_zero,←b1.out,if_pos hq]
  ·refine iJ (World.ownsMap_made w prog 3 rU) ?_;rw[Below.heap_alloc _ _ _ (by omega)];exact G.block _ (by simp)
  ·exact(((aJ w.heap.size w).alloc (aE _) _).trans (G.mono (by simp))).alloc (by omega) _
 case round=>
  clear G;obtain⟨k,p,g,I,R,q,a5,hp,rfl,rfl,rfl,V,y,a1,a3,C,A,hB⟩:=hrel;have N:=cB a5;have S:=cB V;have Z:=cB y;have J:=cB a1;have K:=cB a3;have f:=cB C;clear a5 V y a1 a3 C;have b4:=hB.size;cases q
  ·go_wp2
   go_ret2
   have E:iX (s.size-k) ((dF s).drop p)=[]:=oC _ _ (by rw[←aGN,J.out];simp);have y:=Z.out;rw[E,aC]at y;refine⟨_,k,?_,by rw[y];exact A,by have:=N.out;omega,aE _,hB⟩;rw[y,S.out,N.out];simp
  ·have F:=(aGN _).1 J.out;rw[aV,HL.out]at F;have d9:p+25≤s.size:=by omega
   have P:okB R=true:=by
    rw[←K.out rfl,←vM];exact rB F.2 (by rw[bD,aV,HL.out];omega)
   have O:=aCq P;have b9:=cB (K.out rfl);have a9:Hid (25≤((dF s).drop p).length∧tH (((dF s).drop p).take 25)=true):=⟨by rw[aV,HL.out];omega,F.2⟩;clear F P K J;have Q:=wM s (p+25);have M:=fun W=>aAY (s.extract (p+25) s.size) W;rw[Q]at M;generalize Y:fq ((dF s).drop (p+25))=q2 at M;generalize X:(if q2=true then nB ((dF s).drop (p+25))else zRw)=R2 at M;have b8:=cB Y;have b3:=cB X;have HF:=cB M;clear M Y X Q;obtain⟨l,D,a,o,t,u,v⟩:=R;obtain⟨l2,b7,a2,o2,t2,u2,v2⟩:=R2;have H:keyOf prog 3 (.int .i64 l)=some (.int .i64 l):=keyOf_int_mk underlying3 (WalkArith.wf_i64 (by have:=O.1;have:=O.2;simp at*;omega));have d7:k≤1000000000000:=by have:=N.out;omega
   have a7:some g≠some w.heap.size:=by have:=f.out.base;simp;omega
   have b0:∀j,some w.heap.size=some j→w.heap.size≤j:=fun j hj=>by cases hj;exact aE _
   have c0:wr.cell? ⟨g,0,none⟩=some (.int .i64 l):=f.out.cell 0 _ rfl;have c1:wr.cell? ⟨g,1,none⟩=some (.int .i64 D):=f.out.cell 1 _ rfl;have c2:wr.cell? ⟨g,2,none⟩=some (.int .i64 a):=f.out.cell 2 _ rfl;have c3:wr.cell? ⟨g,3,none⟩=some (.int .i64 o):=f.out.cell 3 _ rfl;have c4:wr.cell? ⟨g,4,none⟩=some (.int .i64 t):=f.out.cell 4 _ rfl;have c5:wr.cell? ⟨g,5,none⟩=some (.int .i64 u):=f.out.cell 5 _ rfl;have c6:wr.cell? ⟨g,6,none⟩=some (.int .i64 v):=f.out.cell 6 _ rfl;go_wp2_with (at_mapUpdate;refine wpList_mapUpdate_own _ rfl _ _ _ 118 rfl 3 58 aFE underlying118 rU w.heap.size k (mT I) rfl A (by unfold maxLen;omega) _ (rwV ⟨l,D,a,o,t,u,v⟩) (.int .i64 l) rfl rfl H (xK ⟨l,D,a,o,t,u,v⟩) [] (xY _) ?_;intro i B h;have d:i.heap[g]?=some (.cells (rwL ⟨l,D,a,o,t,u,v⟩).toArray 58 (0,0)):=(h.block g f.out.lt a7).trans f.out.row;have c9:g<i.heap.size:=aG f.out.lt h.size;have d0:i.cell? ⟨g,0,none⟩=some (.int .i64 l):=eO d 0 _ rfl;have d1:i.cell? ⟨g,1,none⟩=some (.int .i64 D):=eO d 1 _ rfl;have d2:i.cell? ⟨g,2,none⟩=some (.int .i64 a):=eO d 2 _ rfl;have d3:i.cell? ⟨g,3,none⟩=some (.int .i64 o):=eO d 3 _ rfl;have d4:i.cell? ⟨g,4,none⟩=some (.int .i64 t):=eO d 4 _ rfl;have d5:i.cell? ⟨g,5,none⟩=some (.int .i64 u):=eO d 5 _ rfl;have d6:i.cell? ⟨g,6,none⟩=some (.int .i64 v):=eO d 6 _ rfl;have U:Below w.heap.size w i:=hB.grown h b4 b0;clear h d A hB);refine(HF.out _).mono ?_;rintro e m ⟨rfl,z⟩
   have c:m.heap[i.heap.size]?=some (.cells (rwL ⟨l,D,a,o,t,u,v⟩).toArray 58 (0,0)):=(z.block _ (by simp)).trans (aA _ _);have a6:w.heap.size+1≤i.heap.size:=by have:=f.out.base;omega
   have c7:i.heap.size<m.heap.size:=by have:=z.size;simp at this;omega
   have b2:=(U.alloc (by omega) _).trans (z.mono (by simp;omega));have L:m.ownsMap prog 3 rU w.heap.size (k+1) ((mT I).put (.int .i64 l) (xK ⟨l,D,a,o,t,u,v⟩)):=by
    refine iJ B ?_;rw[z.block _ (by simp;omega)];exact Below.heap_alloc _ _ _ (by omega)
   have e0:m.cell? ⟨i.heap.size,0,none⟩=some (.int .i64 l):=eO c 0 _ rfl;have f0:=frozen_of_row m _ 0 _ _ c;have e1:m.cell? ⟨i.heap.size,1,none⟩=some (.int .i64 D):=eO c 1 _ rfl;have f1:=frozen_of_row m _ 1 _ _ c;have e2:m.cell? ⟨i.heap.size,2,none⟩=some (.int .i64 a):=eO c 2 _ rfl;have f2:=frozen_of_row m _ 2 _ _ c;have e3:m.cell? ⟨i.heap.size,3,none⟩=some (.int .i64 o):=eO c 3 _ rfl;have f3:=frozen_of_row m _ 3 _ _ c;have e4:m.cell? ⟨i.heap.size,4,none⟩=some (.int .i64 t):=eO c 4 _ rfl;have f4:=frozen_of_row m _ 4 _ _ c;have e5:m.cell? ⟨i.heap.size,5,none⟩=some (.int .i64 u):=eO c 5 _ rfl;have f5:=frozen_of_row m _ 5 _ _ c;have e6:m.cell? ⟨i.heap.size,6,none⟩=some (.int .i64 v):=eO c 6 _ rfl;have f6:=frozen_of_row m _ 6 _ _ c;have a8:=cB c;clear z U B c d0 d1 d2 d3 d4 d5 d6 c0 c1 c2 c3 c4 c5 c6 HF H;go_wp2;go_roundw
   case rel=>
    refine⟨k+1,p+25,i.heap.size,I++[⟨l,D,a,o,t,u,v⟩],⟨l2,b7,a2,o2,t2,u2,v2⟩,q2,by rw[N.out];omega,by omega,by go_num,rfl,rfl,by simp[S.out],?_,b8.out,fun hq=>by rw[←b3.out,if_pos hq],⟨a6,by simp;omega,aC0 _ _ _ _ _ _ _ _ _ _ a8.out _ _ _ _ _ _ _⟩,?_,?_⟩
    ·have E:=oF (s.size-(k+1)) ((dF s).drop p) a9.out;have c8:=N.out;rw[show s.size-(k+1)+1=s.size-k by omega,vM,b9.out,List.drop_drop]at E;rw[Z.out,E];simp
    ·rw[rL];exact iJ L (aBe _ _ _ (by omega) _ _ _ _ _ _ _)
    ·have x:w.heap.size≤i.heap.size:=by omega
     exact(((((((b2.setCell x _).setCell x _).setCell x _).setCell x _).setCell x _).setCell x _).setCell x _)
   case measure=>simp[intOf];omega
end
section
open Go.RowKit Go.Maps Go.Sort Go.Shelf
theorem aJr(m:Nat):AnyZI.SortsIn prog sortedA_ren Fence.wide m:=
 ⟨fun blk off cap ss W hH hblk hsz=>callsIn_wide.2 (AnyM.slices_Sort_int sortA blk off cap ss W hH hblk hsz),
  fun p cap W=>callsIn_wide.2 (AnyM.slices_Sort_int_none sortA p cap W)⟩
theorem aGY(mb:Option Nat)(W:World):
 Calls prog 99 #[.map mb] W fun e w'=>e= .returned (.func (.func 139) #[] #[.pointer (some ⟨W.heap.size,0,none⟩)])∧w'=W.alloc (.cells #[.map mb] 118):=
 (callsIn_wide (n:=5)).1 (AnyZI.keys_in keysA Fence.wide 5 trivial rfl mb W)
theorem aDz(b nn:Nat)(D0:DataW Unit)(R:Value→Option (DataW Unit×List MemPlace))(w:World)(hown:w.ownsMap prog 3 R b nn D0)(hmax:Maps.size D0≤1000000000000):
 Calls prog 98 #[.func (.func 139) #[] #[.pointer (some ⟨w.heap.size,0,none⟩)]] (w.alloc (.cells #[.map (some b)] 118)) fun e w'=>∃(v:Value) (ss:List Int),e= .returned v∧ss.Perm (intKeys D0)∧
  w'.ownsRow w.heap.size 3 1 v ss.length ((ss.mergeSort (fun x y=>decide (x≤y))).map encZ)∧Below w.heap.size w w':=by
 have g:=hown.lt;have c:SeqGives Fence.wide 2 prog 139 #[.pointer (some ⟨w.heap.size,0,none⟩)] encZ (fun ss=>ss.Perm (intKeys D0)) (Maps.size D0) (w.alloc (.cells #[.map (some b)] 118)):=
  AnyZI.keys_gives (ρ:=keysA_ren) {keysA with} Fence.wide _ trivial rfl (by omega) w.heap.size b nn D0 _ (by simp) (by simp) (by
   obtain⟨k,a,f,i,l,m⟩:=hown;exact⟨k,a,(Below.heap_alloc _ _ b g).trans f,i,l,m⟩)
 have h:=AnyZI.sorted_in sortedA Fence.wide 5 trivial trivial trivial trivial rfl (by omega) (aJr _) (enters_of func138 (by kernel_rfl) rfl) 139 #[.pointer (some ⟨w.heap.size,0,none⟩)] trivial (enters_of func139 (by kernel_rfl) rfl) _ _ (by unfold maxLen;omega) (by omega) _ c;change CallsIn _ _ prog 98 _ _ _ at h;refine((callsIn_wide (n:=5)).1 h).mono ?_;rintro e w' ⟨v,ss,rfl,j,d,_,f⟩;exact⟨v,ss,rfl,j,aBs d (by simp),((aJ _ w).alloc (aE _) _).trans (f.mono (by simp))⟩
theorem aI1(x:Int):WideAt.IsKeyLit (.int .i64 x):=by simp[WideAt.IsKeyLit]
theorem aAj(rs:List Rw):IsMap (mT rs):=by
 suffices h:∀(l:List Rw) (D:DataW Unit),IsMap D→IsMap (l.foldl (fun D r=>D.put (.int .i64 r.lock) (xK r)) D)from h rs _ ⟨[],rfl⟩
 intro l;induction l with
 |nil=>intro D h;exact h
 |cons r l ih=>
  intro D h;refine ih _ ?_;obtain⟨a,rfl⟩:=h;exact⟨_,rfl⟩
theorem mL(rs:List Rw)(r:Rw)(k:Nat):dS (rs++[r]) k=if r.lock=(k:Int)then some r else dS rs k:=by
 unfold dS;rw[List.reverse_append,List.reverse_singleton,List.singleton_append,List.find?_cons];by_cases a:r.lock=(k:Int)
 ·simp[a]
 ·simp[a]
theorem aBk(z:DataW Unit)(k:Nat):∀n (rs:List Rw),rs.length=n→(mT rs).atKey (.int .i64 k) z=(match dS rs k with|some r=>xK r|none=>z)
 |0,rs,h=>by
  obtain rfl:=List.length_eq_zero_iff.1 h
  rfl
 |n+1,rs,h=>by
  have hne:rs≠[]:=fun e=>by rw[e]at h;cases h
  obtain⟨l,r,rfl⟩:∃l r,rs=l++[r]:=⟨rs.dropLast,rs.getLast hne,(List.dropLast_concat_getLast hne).symm⟩;have ih:=aBk z k n l (by simpa using h);rw[rL,mL];by_cases hc:r.lock=(k:Int)
  ·rw[if_pos hc,hc,atKey_put_same (aAj l) (aI1 _)]
  ·rw[if_neg hc,atKey_put_other (fun e=>hc (by simpa using e.symm)),ih]
theorem aB1(x:Int):∀n (rs:List Rw),rs.length=n→(has (mT rs) (.int .i64 x)=true↔∃r ∈ rs,r.lock=x)
 |0,rs,h=>by
  obtain rfl:=List.length_eq_zero_iff.1 h;simp[mT,has_eq]
 |n+1,rs,h=>by
  have hne:rs≠[]:=fun e=>by rw[e]at h;cases h
  obtain⟨l,r,rfl⟩:∃l r,rs=l++[r]:=⟨rs.dropLast,rs.getLast hne,(List.dropLast_concat_getLast hne).symm⟩;have ih:=aB1 x n l (by simpa using h);rw[rL];by_cases hc:r.lock=x
  ·rw[hc,has_put_same (aAj l) (aI1 _)];simp[hc]
  ·rw[has_put_other (fun e=>hc (by simpa using e.symm)),ih];simp[hc]
theorem aBT(rs:List Rw)(k:Nat):(dS rs k).isSome=true↔∃r ∈ rs,r.lock=(k:Int):=by
 unfold dS;rw[List.find?_isSome];simp
def jN(rs:List Rw):List Nat:=(List.range 4).filter fun k=>(dS rs k).isSome
theorem wN(rs:List Rw):gQ rs 4=(jN rs).map fun k=>(dS rs k).getD zRw:=by
 unfold gQ jN;generalize List.range 4=l;induction l with
 |nil=>rfl
 |cons k l ih=>
  rw[List.filterMap_cons,List.filter_cons];cases h:dS rs k with
  |none=>simp[ih]
  |some r=>simp[ih,h]
theorem aBY(rs:List Rw):((jN rs).map fun k:Nat=>(k:Int)).Pairwise (fun a b=>a<b):=by
 rw[List.pairwise_map];exact((List.pairwise_lt_range (n:=4)).filter _).imp fun h=>by exact_mod_cast h
section
variable {rs:List Rw}
theorem zJ(hl:∀r ∈ rs,0≤r.lock∧r.lock≤3){w:World}{R:Value→Option (DataW Unit×List MemPlace)}{b n:Nat}(hown:w.ownsMap prog 3 R b n (mT rs)):
 ((jN rs).map fun k:Nat=>(k:Int)).Perm (intKeys (mT rs)):=by
 obtain⟨l,d,g,_⟩:=hown.entries aFE;obtain⟨i,a,f⟩:=hown.keysOf;obtain rfl:l=i:=by rw[d]at a;simpa using a
 rw[d];refine perm_intKeys g (fun p hp=>by obtain⟨v,j⟩:=f p hp;obtain⟨x,_,m,_⟩:=Maps.keyOf_i64 underlying3 j;exact⟨x,m⟩) ((aBY rs).imp fun h e=>by omega) (fun x=>?_);rw[←d,aB1 x _ rs rfl];simp only[jN,bN,bV,List.mem_range,aBT];constructor
 ·rintro⟨k,⟨_,r,c,e⟩,rfl⟩;exact⟨r,c,e⟩
 ·rintro⟨r,c,rfl⟩;have:=hl r c;exact⟨r.lock.toNat,⟨by omega,r,c,by omega⟩,by omega⟩
theorem aB4(hl:∀r ∈ rs,0≤r.lock∧r.lock≤3){w:World}{R:Value→Option (DataW Unit×List MemPlace)}{b n:Nat}(hown:w.ownsMap prog 3 R b n (mT rs)){ss:List Int}(hp:ss.Perm (intKeys (mT rs))):
 ss.mergeSort (fun x y=>decide (x≤y))=(jN rs).map fun k:Nat=>(k:Int):=by
 refine List.Perm.eq_of_pairwise (le:=fun a b=>a≤b) (fun a b _ _ h1 h2=>Int.le_antisymm h1 h2) ?_ ((aBY rs).imp fun h=>by omega) (((List.mergeSort_perm ss _).trans hp).trans (zJ hl hown).symm);have:=List.pairwise_mergeSort (le:=fun x y:Int=>decide (x≤y)) (fun a b c h1 h2=>by simp only[aM]at*;omega) (fun a b=>by simp only[Bool.or_eq_true,aM];omega) ss;exact this.imp fun h=>by simpa using h
theorem sN(hl:∀r ∈ rs,0≤r.lock∧r.lock≤3){w:World}{R:Value→Option (DataW Unit×List MemPlace)}{b n:Nat}(hown:w.ownsMap prog 3 R b n (mT rs)):
 Maps.size (mT rs)=(jN rs).length:=by
 have h:=(zJ hl hown).length_eq;obtain⟨c,a,_,_⟩:=hown.entries aFE;rw[bL]at h;rw[h,a];simp[intKeys,Maps.size]
end
theorem nA(rs:List Rw):(jN rs).length≤4:=by
 have:=List.length_filter_le (fun k=>(dS rs k).isSome) (List.range 4);simpa[jN]using this
theorem aFL{rs:List Rw}{m:Nat}(h:m<(jN rs).length):∃(k:Nat) (r:Rw),(jN rs)[m]=k∧dS rs k=some r∧k<4:=by
 have a:=bF h;generalize (jN rs)[m]=k at a;simp only[jN,bV,List.mem_range]at a;obtain⟨r,b⟩:=Option.isSome_iff_exists.1 a.2;exact⟨k,r,rfl,b,a.1⟩
theorem yV{v:Value}{r:Rw}{ps:List MemPlace}(h:rU v=some (xK r,ps)):v=rwV r:=by
 unfold rU at h;split at h
 ·simp only[xK,Option.some.injEq,Prod.mk.injEq,DataW.agg.injEq,List.cons.injEq,DataW.lit.injEq,Lit.int.injEq,true_and,and_true]at h;obtain⟨⟨e,c,i,d,g,b,f⟩,_⟩:=h;obtain⟨l,p,a,o,t,u,q⟩:=r;subst e c i d g b f
  rfl
 ·cases h
theorem aEJ(w:World):(zeroValue 58).run prog w= .ok (rwV zRw) w:=by kernel_rfl
theorem aDD{rs:List Rw}{w:World}{b n:Nat}(hown:w.ownsMap prog 3 rU b n (mT rs)){k:Nat}{r:Rw}(hk:k<4)(hr:dS rs k=some r):
 (Instr.lookup 118 (.map (some b)) (.int .i64 (k:Int)) false).run prog w= .ok (rwV r) w:=by
 have c:keyOf prog 3 (.int .i64 (k:Int))=some (.int .i64 (k:Int)):=keyOf_int_mk underlying3 (WalkArith.wf_i64 (by omega));obtain⟨v,e,a,d⟩:=hown.lookup aFE underlying118 (aEJ w) (xY zRw) c;rw[aBk (xK zRw) k _ rs rfl,hr]at d;rw[a,yV d]
theorem sY(rs:List Rw):(gQ rs 4).length=(jN rs).length:=by rw[wN,bL]
theorem aHi{rs:List Rw}{m:Nat}(h:m<(jN rs).length){r:Rw}(hr:dS rs (jN rs)[m]=some r):(gQ rs 4).take (m+1)=(gQ rs 4).take m++[r]:=by
 have a:m<(gQ rs 4).length:=by rw[sY];exact h
 rw[List.take_succ_eq_append_getElem a]
 congr 2
 simp only[wN,List.getElem_map,hr,Option.getD_some]
theorem aDs{w:World}{base:Nat}{v:Value}{n:Nat}{xs:List Int}(h:w.ownsRow base 3 1 v n (xs.map encZ)):∃(p:Option Addr) (cap:Nat),v= .slice p n cap∧(∀g,v.ownBlock=some g→base≤g∧g<w.heap.size)∧(∀m (hm:m<xs.length),∃g,p=some ⟨g,0,none⟩∧base≤g∧g<w.heap.size∧w.cell? ⟨g,m,none⟩=some (.int .i64 xs[m])):=by
 have a:=h.lt;have b:=h.1;rcases h.2 with⟨rfl,rfl⟩|⟨g,cap,d,rfl,i,j,l,k,e,f⟩
 ·refine⟨none,0,rfl,a,fun m hm=>?_⟩;simp at b;rw[b]at hm;simp at hm
 ·refine⟨some ⟨g,0,none⟩,cap,rfl,a,fun m hm=>⟨g,rfl,(a g rfl).1,(a g rfl).2,?_⟩⟩;have c:m<n*1:=by simp at b;omega
  rw[h.cellAt m c];simp[hm,encZ]
theorem aAF(b nn:Nat)(rs:List Rw)(w:World)(hown:w.ownsMap prog 3 rU b nn (mT rs))(hl:∀r ∈ rs,0≤r.lock∧r.lock≤3):
 Calls prog 62 #[.map (some b)] w fun e w'=>∃v,e= .returned v∧w'.ownsRow w.heap.size 58 7 v (gQ rs 4).length (cellsOf (gQ rs 4))∧Below w.heap.size w w':=by
 obtain⟨i0,hi,P,T,S⟩:=info_parts aHz;have A:=sN hl hown;have a6:=nA rs;have HT:=cB (sY rs);generalize hN:(jN rs).length=N at A a6;have X:=cB hN;have G:=hown.lt;clear hN;go_enter func62,ntmps62;go_wp2_with (first
  |(at_len;refine wpList_len_own _ rfl _ 118 rfl 3 58 underlying118 rU b nn (mT rs) rfl hown ?_;rw[A])
  |(at_make;refine wpList_make_own _ rfl _ _ 47 rfl w.heap.size 58 i0 _ 7 underlying47 hi P T _ _ _ N rfl rfl rfl (by rw[S];omega) (by unfold maxLen;omega) (aE _) ?_;intro Y B E))
 have d:=iJ hown (E.block b G (by simp));have M:=(aJ w.heap.size w).grown E (aE _) (fun j f=>by cases f);have a9:w.heap.size<Y.heap.size:=(B.lt _ rfl).2;refine(aGY (some b) Y).mono ?_;rintro e w2 ⟨rfl,rfl⟩;go_wp2_with fail;refine(aDz b nn (mT rs) rU Y d (by rw[A];omega)).mono ?_;rintro e L ⟨v3,ss,rfl,hp,n,F⟩;rw[aB4 hl d hp]at n;have Q:ss.length=N:=by
  have:=n.1;simp at this;rw[←this];exact X.out
 rw[Q]at n;obtain⟨p,b1,rfl,x,q⟩:=aDs n;have O:=M.trans (F.mono (by omega));have I:=vN B F;have a8:=iJ hown (O.block b G);clear F M d B E hp Q;have HC:Hid (∀m (hm:m<(jN rs).length),∃g,p=some ⟨g,0,none⟩∧Y.heap.size≤g∧g<L.heap.size∧L.cell? ⟨g,m,none⟩=some (.int .i64 ((jN rs)[m]:Nat))):=by
  intro m hm;obtain⟨g,h1,h2,h3,h4⟩:=q m (by simpa using hm);exact⟨g,h1,h2,h3,by simpa using h4⟩
 clear q n x;go_wp2;go_loopw [3,13] (fun v i wr=>∃(m:Nat),m≤N∧i= .int .i64 m∧wr.ownsRow w.heap.size 58 7 v m (cellsOf ((gQ rs 4).take m))∧(v.ownBlock=some w.heap.size∨∀j,v.ownBlock=some j→L.heap.size≤j)∧L.grownBy wr (some w.heap.size)∧Below w.heap.size w wr) (fun _ i _=>N-(intOf i).toNat)
 case atStart=>exact⟨0,by omega,rfl,I,Or.inl rfl,World.grownBy.refl _ _,O⟩
 case round=>
  obtain⟨m,hm,rfl,c,x,y,h⟩:=hrel;have a3:=h.size;by_cases a1:m<N
  ·have D:m<(jN rs).length:=by rw[X.out];exact a1
   obtain⟨g,rfl,b2,b0,Z⟩:=HC.out m D;obtain⟨k,R,hk,C,a7⟩:=aFL D;have a0:=cB (aHi D (by rw[hk];exact C));rw[hk]at Z;have a2:=y.cell Z (by simp;omega);have s:=iJ hown (h.block b G);have K:=aDD s a7 C;obtain⟨l,pr,a,o,t,u,sq⟩:=R;have a5:(m:Int)<(N:Int):=by omega
   clear Z hk C s;go_wp2_with (at_builtin;refine wpList_append_own_at _ rfl _ _ 47 rfl w.heap.size 58 i0 _ 7 56 underlying47 hi P T S rfl (by decide) _ _ _ rfl (c.alloc _) ⟨wr.heap.size,0,none⟩ 1 1 (rwL ⟨l,pr,a,o,t,u,sq⟩) rfl rfl ?qa ?qb ?qc ?qd ?qe ?_)
   case qa=>exact oS _ _ _
   case qb=>exact aCx _
   case qc=>unfold maxLen;omega
   case qd=>omega
   case qe=>simp;omega
   intro v5 w5 J H _ z;have a4:=(h.alloc a3 _).grown H (by simp;omega) (fun j f=>(c.lt j f).1);have W:v5.ownBlock=some w.heap.size∨∀j,v5.ownBlock=some j→L.heap.size≤j:=by
    rcases z with e|e
    ·rw[e];exact x
    ·right;intro j f;rw[e]at f;have:=y.size;simp at f;omega
   have V:L.grownBy w5 (some w.heap.size):=by
    refine(y.andThen (World.grownBy_alloc wr _ none) (fun j f=>by cases f)).andThen H (fun j f=>?_);rcases x with e|e
    ·right;rw[←f,e]
    ·exact Or.inl (e j f)
   clear H y c h z K a2;go_wp2;go_roundw
   case rel=>exact⟨m+1,by omega,by go_num,by rw[a0.out,aBI];exact J,W,V,a4⟩
   case measure=>simp[intOf];omega
  ·have U:=cB ((by omega:m=N));have a5:¬(m:Int)<(N:Int):=by omega
   go_wp2;go_ret;have e:(gQ rs 4).take m=gQ rs 4:=aY (by rw[HT.out,X.out,U.out];omega);rw[e]at c;exact⟨_,rfl,by rw[HT.out,X.out,←U.out];exact c,h⟩
end
structure Dk where
 room:Int
 log:List Int
 lsyn:Int
 new:Option (List Int×Int)
 old:Option (List Int×Int)
 fail:Option (Int×Int)
abbrev How:=Option (Option Int)
theorem lS{motive:How→Prop}(h:How)(fine:motive none)(full:motive (some none))(dies:∀q,motive (some (some q))):motive h:=by
 rcases h with _|_|q
 ·exact fine
 ·exact full
 ·exact dies q
def fR(k:Dk):Option Dk:=match k.fail with
 |none=>some k
 |some (n,q)=>if n=0 then none else some {k with fail:=some (n-1,q)}
def jZ(k:Dk):Int:=match k.fail with
 |none=>0
 |some (_,q)=>q
def hP(k:Dk):Int:=match k.new with
 |none=>0
 |some (t,_)=>t.length
def jO(k:Dk):Int:=k.log.length+hP k
def kD(k:Dk)(s:List Int):Dk:={k with log:=k.log++s}
def lC(k:Dk):Dk:={k with lsyn:=k.log.length}
def kM(k:Dk):Dk:={k with new:=some ([],0)}
def iQ(k:Dk)(s:List Int):Dk:={k with new:=match k.new with
 |some (t,y)=>some (t++s,y)
 |none=>none}
def iD(k:Dk):Dk:={k with new:=match k.new with
 |some (t,_)=>some (t,t.length)
 |none=>none}
def gG(k:Dk):Dk:=match k.new with
 |some (t,y)=>{k with log:=t,lsyn:=y,new:=none,old:=some (k.log,k.lsyn)}
 |none=>k
def oD(k:Dk):Dk:={k with old:=none}
def eM(k:Dk):List Int×Int:=match k.old with
 |some p=>p
 |none=>(k.log,k.lsyn)
def vH(t:List Int)(y q:Int):List Int:=t.take (y+min q (t.length-y)).toNat
def gC(k:Dk)(q:Int):Dk:={k with log:=vH (eM k).1 (eM k).2 q,lsyn:=(vH (eM k).1 (eM k).2 q).length,new:=none,old:=none,fail:=none}
def dQ(k:Dk)(s:List Int)(put:Dk→List Int→Dk):Dk×How:=match fR k with
 |none=>(k,(.some (.some (jZ k))))
 |some k1=>if k1.room<jO k1+s.length then(k1,(.some .none))else(put k1 s,.none)
def dH(k:Dk)(go:Dk→Dk):Dk×How:=match fR k with
 |none=>(k,(.some (.some (jZ k))))
 |some k1=>(go k1,.none)
def iF(p:Dk×How)(go:Dk→Dk×How):Dk×How:=match p with
 |(k,.none)=>go k
 |(k,h)=>(k,h)
def lZ(k:Dk)(s:List Int):Dk×How:=iF (dQ k s kD) fun k=>dH k lC
def fZ(k:Dk)(s:List Int):Dk×How:=
 iF (dH k kM) fun k=>iF (dQ k s iQ) fun k=>iF (dH k iD) fun k=>iF (dH k gG) fun k=>dH k oD
structure Ac where
 num:Int
 compact:Int
 dk:Dk
 rows:List Rw
 st:Int
def aHc(room:Int):Dk:=⟨room,[],0,none,none,none⟩
def rX(f:Cf)(num:Int):Ac:=⟨num,f.compact,aHc f.room,[],0⟩
def rY(a:Ac)(lock:Int):Rw:={(dS a.rows lock.toNat).getD zRw with lock:=lock}
def fA(m:Mg)(r:Rw):Rw:=if m.bal<r.prom then r else if m.kind=1 then{r with prom:=m.bal}else⟨r.lock,m.bal,m.bal,m.val.own,m.val.tok,m.val.ttl,m.val.seq⟩
def decMsg(m:Mg)(r:Rw):Mg:=if m.bal<r.prom then{zMg with kind:=5,base:=r.prom}else if m.kind=1 then{zMg with kind:=2,base:=r.acc,val:=⟨r.own,r.tok,r.ttl,r.seq⟩}else{zMg with kind:=4}
def nN(m:Mg)(r:Rw):Bool:=if m.bal<r.prom then false else if m.kind=1 then decide (r.prom<m.bal)else true
def lB(a:Ac)(x m:Mg):Mg:={x with src:=a.num,dst:=m.src,lock:=m.lock,bal:=m.bal}
def gU(rs:List Rw):List Int:=(gQ rs 4).flatMap dR
def mJ(a:Ac):Bool:=decide (a.compact<(a.dk.log.length:Int) / 25)
def fY(a:Ac)(r:Rw):Ac×How:=match lZ a.dk (dR r)with
 |(k,.none)=>({a with dk:=k,rows:=a.rows++[r]},.none)
 |(k,h)=>({a with dk:=k},h)
def dA(a:Ac):Ac×How:=({a with dk:=(fZ a.dk (gU a.rows)).1},(fZ a.dk (gU a.rows)).2)
def iW(a:Ac)(m:Mg):Ac×List Ev×How:=
 let r:=rY a m.lock
 let x:=[fI (lB a (decMsg m r) m)]
 if nN m r=true then
  match fY a (fA m r)with
  |(a1,.none)=>if mJ a1=true then((dA a1).1,x,(dA a1).2)else(a1,x,.none)
  |(a1,h)=>(a1,[],h)
 else(a,x,.none)
def crashA(a:Ac)(q:Int):Ac:={a with dk:=gC a.dk q,rows:=[],st:=2}
def mY(a:Ac)(h:How):Ac:=match h with
 |(.some .none)=>{a with st:=1}
 |_=>a
def jJ(a:Ac)(m:Mg):Ac:=if a.st≠0 then a else match iW a m with
 |(a1,_,(.some (.some q)))=>crashA a1 q
 |(a1,_,h)=>mY a1 h
def lG(a:Ac)(m:Mg):List Ev:=if a.st≠0 then[]else match iW a m with
 |(_,e,(.some (.some _)))=>e++[gD a.num]
 |(_,e,_)=>e
def tB(a:Ac)(m:Mg):Int:=if a.st≠0 then 0 else match iW a m with
 |(_,_,(.some (.some _)))=>6
 |_=>0
def aCt(a:Ac):Int:=if a.st=2 then 2 else 0
def qM(a:Ac)(n q:Int):Ac:=if a.st=2 then a else if n=0 then crashA a q else{a with dk:={a.dk with fail:=some (n,q)}}
def qH(a:Ac)(n:Int):List Ev:=if a.st=2 then[]else if n=0 then[gD a.num]else[]
def fF(a:Ac):Ac×How:=
 let rs:=dU a.dk.log
 let a1:={a with rows:=rs}
 if 25*(rs.length:Int)<a.dk.log.length∨mJ a=true then dA a1 else(a1,.none)
def aAk(a:Ac):Int:=if a.st=0 then 3 else 0
def gE(a:Ac):Ac:=if a.st=0 then a else
 let a1:=if a.st=1 then crashA a 0 else a
 mY (fF {a1 with st:=0}).1 (fF {a1 with st:=0}).2
def oT(a:Ac):List Ev:=if a.st=0 then[]else if a.st=1 then[gD a.num,pD a.num]else[pD a.num]
section
open Go.RowKit Go.Maps
abbrev pS:List UInt8:=[108,111,103]
abbrev uZ:List UInt8:=[110,101,119]
abbrev rZ:Value:=.string ⟨#[108,111,103]⟩
abbrev vJ:Value:=.string ⟨#[110,101,119]⟩
abbrev pH(b:Nat):Value:=.pointer (some ⟨b,0,none⟩)
def oX:Value→Option (DataW Unit×List MemPlace)
 |.pointer (some ⟨b,0,none⟩)=>some (.lit (.int .i64 b),[])
 |.pointer none=>some (.lit (.int .i64 (-1)),[])
 |_=>none
theorem aAt(b:Nat):oX (pH b)=some (.lit (.int .i64 b),[]):=rfl
theorem nC{v:Value}{b:Nat}{ps:List MemPlace}(h:oX v=some (.lit (.int .i64 b),ps)):v=pH b:=by
 unfold oX at h;split at h
 ·simp at h;have e:=h.1
  norm_cast at e
  rw[e]
 ·simp at h
 ·cases h
def fL(fl:Nat):Option Nat→DataW Unit
 |none=>.map [(.string pS,.lit (.int .i64 fl))]
 |some fn=>.map [(.string pS,.lit (.int .i64 fl)),(.string uZ,.lit (.int .i64 fn))]
abbrev mS(W:World)(b fl:Nat)(fn:Option Nat):Prop:=W.ownsMap prog 9 oX b 2 (fL fl fn)
theorem xM:Keyed prog 9:=string_keyed underlying9
section
variable {H:Type} {P:Program} {kt:TypeId}
theorem dM{w:World}{R:Value→Option (DataW H×List MemPlace)}{b n:Nat}{D:DataW H}(h:w.ownsMap P kt R b n D):∃e k,w.heap[b]?=some (.map e k):=by
 obtain⟨c,a,d,_⟩:=h;exact⟨c,a,d⟩
theorem dE{w w':World}{R:Value→Option (DataW H×List MemPlace)}{b n:Nat}{D:DataW H}(h:w.ownsMap P kt R b n D)(hb:w'.heap[b]?=w.heap[b]?):w'.ownsMap P kt R b n D:=by
 obtain⟨d,a,c,e⟩:=h;exact⟨d,a,hb.trans c,e⟩
theorem pN{w w':World}{R:Value→Option (DataW H×List MemPlace)}{b c n:Nat}{D:DataW H}(h:w.ownsMap P kt R b n D)(hb:w'.heap[c]?=w.heap[b]?):w'.ownsMap P kt R c n D:=by
 obtain⟨e,a,d,f⟩:=h;exact⟨e,a,hb.trans d,f⟩
theorem mC{w:World}{R:Value→Option (DataW H×List MemPlace)}{b n m:Nat}{D:DataW H}(h:w.ownsMap P kt R b n D)(hm:Maps.size D≤m):w.ownsMap P kt R b m D:=by
 obtain⟨c,a,f,d,g,rfl⟩:=h;refine⟨c,a,f,d,?_,rfl⟩;have e:Maps.size (DataW.map ((c.toList.map (WideElems.rg P kt R)).foldr DataW.insert []))=c.size:=by simp[Maps.size,length_sorted]
 omega
end
theorem nP{w w':World}{b:Nat}(h:w.mapTurned w' b):Chg (fun k=>k=b) w w':=by
 obtain⟨e,c,d,a,f,rfl⟩:=h;exact iO _ _ _
theorem mO{w w':World}{b:Nat}(h:w.mapTurned w' b):w'.heap.size=w.heap.size:=by
 obtain⟨e,c,d,a,f,rfl⟩:=h;simp[ChangeMaps.setBlock]
def FileAt(W:World)(b:Nat)(t:List Int)(y:Int):Prop:=W.heap[b]?=some (.cells #[.string (strOfNums t),.int .i64 y] 214 (0,0))
def NewAt(W:World)(F:Nat→Prop)(fl:Nat)(fn:Option Nat):Option (List Int×Int)→Prop
 |none=>fn=none
 |some p=>∃b,fn=some b∧FileAt W b p.1 p.2∧F b∧b≠fl
def OldAt(W:World)(F:Nat→Prop)(fl:Nat)(fn:Option Nat)(fk:Nat):Option (List Int×Int)→Prop
 |none=>fk=fl
 |some p=>FileAt W fk p.1 p.2∧F fk∧fk≠fl∧fn≠some fk
def FailAt(W:World)(F:Nat→Prop)(v:Value):Option (Int×Int)→Prop
 |none=>v= .pointer none
 |some p=>∃b,v= .pointer (some ⟨b,0,none⟩)∧W.heap[b]?=some (.cells #[.int .i64 p.1,.int .i64 p.2] 248 (0,0))∧F b
abbrev dkL(k:Dk)(nm km:Nat)(fv:Value):List Value:=[.int .i64 k.room,.map (some nm),.map (some km),fv]
structure DkAt(W:World)(F:Nat→Prop)(d:Nat)(k:Dk)(nm km fl:Nat)(fn:Option Nat)(fk:Nat)(fv:Value):Prop where
 blk:W.heap[d]?=some (.cells (dkL k nm km fv).toArray 212 (0,0))
 fd:F d
 names:mS W nm fl fn
 kept:mS W km fk none
 fnm:F nm
 fkm:F km
 nk:nm≠km
 log:FileAt W fl k.log k.lsyn
 flog:F fl
 new:NewAt W F fl fn k.new
 old:OldAt W F fl fn fk k.old
 fail:FailAt W F fv k.fail
 lt:∀x,F x→x<W.heap.size
section
variable {W W':World}{F S:Nat→Prop}{d:Nat}{k:Dk}{nm km fl fk:Nat}{fn:Option Nat}{fv:Value}
section
variable {x:Option (List Int×Int)}
theorem NewAt.of_heap(h:NewAt W F fl fn x)(hb:∀k,F k→W'.heap[k]?=W.heap[k]?):NewAt W' F fl fn x:=by
 cases x with
 |none=>exact h
 |some p=>obtain⟨b,e,c,a,d⟩:=h;exact⟨b,e,(hb b a).trans c,a,d⟩
theorem OldAt.of_heap(h:OldAt W F fl fn fk x)(hb:∀k,F k→W'.heap[k]?=W.heap[k]?):OldAt W' F fl fn fk x:=by
 cases x with
 |none=>exact h
 |some p=>obtain⟨b,a,c⟩:=h;exact⟨(hb _ a).trans b,a,c⟩
end
theorem FailAt.of_heap{v:Value}{x:Option (Int×Int)}(h:FailAt W F v x)(hb:∀k,F k→W'.heap[k]?=W.heap[k]?):FailAt W' F v x:=by
 cases x with
 |none=>exact h
 |some p=>obtain⟨b,c,d,a⟩:=h;exact⟨b,c,(hb b a).trans d,a⟩
theorem DkAt.of_heap(h:DkAt W F d k nm km fl fn fk fv)(hs:W.heap.size≤W'.heap.size)(hb:∀k,F k→W'.heap[k]?=W.heap[k]?):DkAt W' F d k nm km fl fn fk fv:=
 ⟨(hb d h.fd).trans h.blk,h.fd,dE h.names (hb _ h.fnm),dE h.kept (hb _ h.fkm),h.fnm,h.fkm,h.nk,(hb _ h.flog).trans h.log,h.flog,h.new.of_heap hb,h.old.of_heap hb,h.fail.of_heap hb,fun x hx=>aG (h.lt x hx) hs⟩
theorem DkAt.apart(h:DkAt W F d k nm km fl fn fk fv)(hc:Chg S W W')(hn:∀k,F k→¬S k):DkAt W' F d k nm km fl fn fk fv:=
 h.of_heap hc.size fun x hx=>hc.block x (h.lt x hx) (hn x hx)
theorem DkAt.cell(h:DkAt W F d k nm km fl fn fk fv)(j:Nat)(x:Value)(hj:(dkL k nm km fv)[j]?=some x):W.cell? ⟨d,j,none⟩=some x:=cC h.blk j x (by simpa using hj)
theorem DkAt.froz(h:DkAt W F d k nm km fl fn fk fv)(j:Nat):W.frozen? ⟨d,j,none⟩=false:=cV h.blk j
section
variable {x:Option (List Int×Int)} {c:Nat} {o:Obj}
theorem NewAt.kept(h:NewAt W F fl fn x)(hx:W.heap[c]?=some o)(ho:∀cs fr,o≠.cells cs 214 fr)(hc:Chg (fun k=>k=c) W W'):NewAt W' F fl fn x:=by
 cases x with
 |none=>exact h
 |some p=>obtain⟨b,f,a,g,d⟩:=h;exact⟨b,f,hc.kept a (fun e=>dT a hx (fun e=>ho _ _ e.symm) e),g,d⟩
theorem OldAt.kept(h:OldAt W F fl fn fk x)(hx:W.heap[c]?=some o)(ho:∀cs fr,o≠.cells cs 214 fr)(hc:Chg (fun k=>k=c) W W'):OldAt W' F fl fn fk x:=by
 cases x with
 |none=>exact h
 |some p=>obtain⟨a,b,d⟩:=h;exact⟨hc.kept a (fun e=>dT a hx (fun e=>ho _ _ e.symm) e),b,d⟩
end
theorem FailAt.kept{v:Value}{x:Option (Int×Int)}{c:Nat}{o:Obj}(h:FailAt W F v x)(hx:W.heap[c]?=some o)(ho:∀cs fr,o≠.cells cs 248 fr)(hc:Chg (fun k=>k=c) W W'):FailAt W' F v x:=by
 cases x with
 |none=>exact h
 |some p=>obtain⟨b,d,a,f⟩:=h;exact⟨b,d,hc.kept a (fun e=>dT a hx (fun e=>ho _ _ e.symm) e),f⟩
end
def Disk(W:World)(F:Nat→Prop)(d:Nat)(k:Dk):Prop:=∃nm km fl fn fk fv,DkAt W F d k nm km fl fn fk fv
def DkTo(W:World)(F:Nat→Prop)(d:Nat)(k:Dk)(W':World):Prop:=∃F',Disk W' F' d k∧Chg F W W'∧∀x,F' x→F x∨W.heap.size≤x
theorem DkTo.of{W:World}{F:Nat→Prop}{d:Nat}{k:Dk}(h:Disk W F d k):DkTo W F d k W:=⟨F,h,Chg.refl _ _,fun _ h=>Or.inl h⟩
theorem DkTo.trans{A B C:World}{F F1:Nat→Prop}{d:Nat}{k:Dk}(hc:Chg F A B)(hf:∀x,F1 x→F x∨A.heap.size≤x)(h:DkTo B F1 d k C):DkTo A F d k C:=by
 obtain⟨a,c,b,e⟩:=h;refine⟨a,c,hc.trans b (fun x hx h'=>?_),fun x hx=>?_⟩
 ·rcases hf x h' with h|h
  ·exact h
  ·omega
 ·rcases e x hx with h|h
  ·exact hf x h
  ·right;have:=hc.size;omega
abbrev pI(q:Int):List PanicEntry:=[{v:=.iface 199 (.agg #[.int .i64 q]),recovered:=false}]
def gV(k:Dk):Prop:=∀p,k.fail=some p→0≤p.1∧p.1≤9223372036854775807
theorem DkAt.self{W W':World}{F:Nat→Prop}{d:Nat}{k k':Dk}{nm km fl fk nm' km' fk':Nat}{fn:Option Nat}{fv fv':Value}(h:DkAt W F d k nm km fl fn fk fv)(hc:Chg (fun x=>x=d) W W')
 (hb:W'.heap[d]?=some (.cells (dkL k' nm' km' fv').toArray 212 (0,0))) (hn:mS W nm' fl fn) (hk:mS W km' fk' none) (hfn:F nm') (hfk:F km') (hne:nm'≠km')
 (h1:k'.log=k.log) (h2:k'.lsyn=k.lsyn) (h3:k'.new=k.new) (h4:OldAt W F fl fn fk' k'.old) (h5:FailAt W F fv' k'.fail):DkAt W' F d k' nm' km' fl fn fk' fv':=by
 obtain⟨_,_,b⟩:=dM hn;obtain⟨_,_,a⟩:=dM hk;refine⟨hb,h.fd,dE hn (by rw[b];exact hc.kept b (fun e=>dT b h.blk (by simp) e)),dE hk (by rw[a];exact hc.kept a (fun e=>dT a h.blk (by simp) e)),hfn,hfk,hne,?_,h.flog,?_,h4.kept h.blk (by simp) hc,h5.kept h.blk (by simp) hc,fun x hx=>aG (h.lt x hx) hc.size⟩
 ·rw[h1,h2];exact hc.kept h.log (fun e=>dT h.log h.blk (by simp) e)
 ·rw[h3];exact h.new.kept h.blk (by simp) hc
theorem DkAt.grow{W:World}{F F':Nat→Prop}{d:Nat}{k:Dk}{nm km fl fk:Nat}{fn:Option Nat}{fv:Value}(h:DkAt W F d k nm km fl fn fk fv)(hF:∀x,F x→F' x)(hlt:∀x,F' x→x<W.heap.size):DkAt W F' d k nm km fl fn fk fv:=by
 refine⟨h.blk,hF _ h.fd,h.names,h.kept,hF _ h.fnm,hF _ h.fkm,h.nk,h.log,hF _ h.flog,?_,?_,?_,hlt⟩
 ·have a:=h.new;cases hk:k.new with
  |none=>rw[hk]at a;exact a
  |some p=>rw[hk]at a;obtain⟨b,e,c,f,g⟩:=a;exact⟨b,e,c,hF _ f,g⟩
 ·have a:=h.old;cases hk:k.old with
  |none=>rw[hk]at a;exact a
  |some p=>rw[hk]at a;obtain⟨e,c,f⟩:=a;exact⟨e,hF _ c,f⟩
 ·have a:=h.fail;cases hk:k.fail with
  |none=>rw[hk]at a;exact a
  |some p=>rw[hk]at a;obtain⟨b,e,c,f⟩:=a;exact⟨b,e,c,hF _ f⟩
theorem DkAt.self'{W W':World}{F:Nat→Prop}{d:Nat}{k k':Dk}{nm km fl fk nm' km' fk':Nat}{fn:Option Nat}{fv fv':Value}(h:DkAt W F d k nm km fl fn fk fv)(hc:Chg (fun x=>x=d) W W')
 (hb:W'.heap[d]?=some (.cells (dkL k' nm' km' fv').toArray 212 (0,0))) (hn:mS W nm' fl fn) (hk:mS W km' fk' none) (hfn:F nm') (hfk:F km') (hne:nm'≠km')
 (h1:k'.log=k.log) (h2:k'.lsyn=k.lsyn) (h3:k'.new=k.new) (h4:OldAt W F fl fn fk' k'.old) (h5:FailAt W' F fv' k'.fail):DkAt W' F d k' nm' km' fl fn fk' fv':=by
 obtain⟨_,_,b⟩:=dM hn;obtain⟨_,_,a⟩:=dM hk;refine⟨hb,h.fd,dE hn (by rw[b];exact hc.kept b (fun e=>dT b h.blk (by simp) e)),dE hk (by rw[a];exact hc.kept a (fun e=>dT a h.blk (by simp) e)),hfn,hfk,hne,?_,h.flog,?_,h4.kept h.blk (by simp) hc,h5,fun x hx=>aG (h.lt x hx) hc.size⟩
 ·rw[h1,h2];exact hc.kept h.log (fun e=>dT h.log h.blk (by simp) e)
 ·rw[h3];exact h.new.kept h.blk (by simp) hc
end
section
open Go.RowKit Go.Maps
theorem xB:∀(f:Nat) (L:List Int),∀r ∈ iX f L,0≤r.lock∧r.lock≤3
 |0,L=>by simp[iX]
 |f+1,L=>by
  simp only[iX];split
  ·rename_i h;intro r hr;rcases List.mem_cons.1 hr with rfl|hr
   ·exact aCq (rB h.2 (by rw[bD];omega))
   ·exact xB f _ r hr
  ·simp
theorem aFB(s:ByteArray):25*(dU (dF s)).length≤s.size:=by
 have h:=wA (dF s).length (dF s);rw[gH]at h;unfold dU;rw[gH];exact h
end
end Go.Proofs.YtbbdgokdfhdpiaaGreatDoor
