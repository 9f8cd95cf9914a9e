/- A part. -/
import Derived.Deep.AppendLies
import Derived.Deep.RegionLaw
import Derived.OrdersHeld
import Derived.StillTail
import Derived.Tactics
import Derived.Test.YtbbdgokdfhdpiaaGreatDoorA1
namespace Go.Proofs.YtbbdgokdfhdpiaaGreatDoor
set_option linter.all false
set_option maxRecDepth 100000
set_option maxHeartbeats 0
open Go.Proofs.Tryz Go.RowKit
theorem zV(s:ByteArray)(a:Nat):dH (s.extract a s.size)=(dH s).drop a:=by
 rw[mY,aY];rw[aV,fH];omega
theorem fD(s:ByteArray)(a:Nat)(w:World)(h:a+4≤s.size):
 Calls prog 136 #[.string (s.extract a s.size)] w fun e w'=>e= .returned (.int .i64 (iX (((dH s).drop a).take 4)))∧∃m,w'=w.drewN m:=by
 rw[←zV s a];exact aFZ _ _ (by rw[ByteArray.size_extract];omega)
abbrev Z7:Obj:=.cells #[.int .i64 0,.int .i64 0,.int .i64 0,.int .i64 0,.int .i64 0,.int .i64 0,.int .i64 0] 58
abbrev zRw:Rw:=⟨0,0,0,0,0,0,0⟩
theorem aIs(W:World)(g m:Nat)(hg:W.heap.size=g)(v0 v1 v2 v3 v4 v5 v6:Value):
 ((((((((W.alloc Z7).drewN m).setCell ⟨g,0,none⟩ v0).setCell ⟨g,1,none⟩ v1).setCell ⟨g,2,none⟩ v2).setCell ⟨g,3,none⟩ v3).setCell ⟨g,4,none⟩ v4).setCell ⟨g,5,none⟩ v5).setCell ⟨g,6,none⟩ v6=(W.alloc (.cells #[v0,v1,v2,v3,v4,v5,v6] 58)).drewN m:=by
 have b:∀(V:World) (a:Addr) (v:Value),(V.drewN m).setCell a v=(V.setCell a v).drewN m:=fun V a v=>by
  unfold World.setCell World.drewN;cases V;simp only
 simp only[b,World.setCell_alloc_at _ _ _ _ _ hg.symm]
 rfl
theorem aKN(W:World)(g:Nat)(h:∀j,j<7→(W.cell? ⟨g,j,none⟩).isSome=true)(v0 v1 v2 v3 v4 v5 v6:Value):
 ∀j u,[v0,v1,v2,v3,v4,v5,v6][j]?=some u→(((((((W.setCell ⟨g,0,none⟩ v0).setCell ⟨g,1,none⟩ v1).setCell ⟨g,2,none⟩ v2).setCell ⟨g,3,none⟩ v3).setCell ⟨g,4,none⟩ v4).setCell ⟨g,5,none⟩ v5).setCell ⟨g,6,none⟩ v6).cell? ((⟨g,0,none⟩:Addr).add j)=some u:=by
 intro j u hj;have e:(⟨g,0,none⟩:Addr).add j=⟨g,j,none⟩:=by unfold Addr.add;split<;>simp_all
 rw[e];have i:=h 0 (by omega);have d:=h 1 (by omega);have b:=h 2 (by omega);have l:=h 3 (by omega);have c:=h 4 (by omega);have f:=h 5 (by omega);have a:=h 6 (by omega)
 match j,hj with
 |0,hj=>simp at hj;subst hj;simp[World.cell?_setCell_other,World.cell?_setCell_same',i]
 |1,hj=>simp at hj;subst hj;simp[World.cell?_setCell_other,World.cell?_setCell_same',d]
 |2,hj=>simp at hj;subst hj;simp[World.cell?_setCell_other,World.cell?_setCell_same',b]
 |3,hj=>simp at hj;subst hj;simp[World.cell?_setCell_other,World.cell?_setCell_same',l]
 |4,hj=>simp at hj;subst hj;simp[World.cell?_setCell_other,World.cell?_setCell_same',c]
 |5,hj=>simp at hj;subst hj;simp[World.cell?_setCell_other,World.cell?_setCell_same',f]
 |6,hj=>simp at hj;subst hj;simp[World.cell?_setCell_other,World.cell?_setCell_same',a]
 |k+7,hj=>simp at hj
theorem aK6(W:World)(g:Nat)(h:∀j,j<7→(W.cell? ⟨g,j,none⟩).isSome=true)(v0 v1 v2 v3 v4 v5 v6:Value):
 (loadVar 58 ⟨g,0,none⟩).run prog (((((((W.setCell ⟨g,0,none⟩ v0).setCell ⟨g,1,none⟩ v1).setCell ⟨g,2,none⟩ v2).setCell ⟨g,3,none⟩ v3).setCell ⟨g,4,none⟩ v4).setCell ⟨g,5,none⟩ v5).setCell ⟨g,6,none⟩ v6)=
  .ok (.agg #[v0,v1,v2,v3,v4,v5,v6]) (((((((W.setCell ⟨g,0,none⟩ v0).setCell ⟨g,1,none⟩ v1).setCell ⟨g,2,none⟩ v2).setCell ⟨g,3,none⟩ v3).setCell ⟨g,4,none⟩ v4).setCell ⟨g,5,none⟩ v5).setCell ⟨g,6,none⟩ v6):=
 fC _ _ 58 [v0,v1,v2,v3,v4,v5,v6] _ (aKN W g h v0 v1 v2 v3 v4 v5 v6) underlying58 rfl (by kernel_rfl)
theorem aEj(s:ByteArray)(w:World)(hs:s.size<25):
 Calls prog 97 #[.string s] w fun e w'=>e= .returned (.tuple #[rwV zRw,.bool false])∧Below w.heap.size w w':=by
 go_enter func97,ntmps97;go_wp2;exact bodyPost_ret (v:=.tuple #[rwV zRw,.bool false]) (by simp[results,results97,go_sem]) rfl ⟨rfl,(aJ _ _).alloc (aE _) _⟩
theorem aFb(s:ByteArray)(w:World)(hs:25≤s.size)(R:Rw)(hR:R=lF (dH s))(q:Bool)(hq:((strOfNums (dW R)).toList==(s.extract 0 25).toList)=q):
 Calls prog 97 #[.string s] w fun e w'=>e= .returned (.tuple #[rwV (if q=true then R else zRw),.bool q])∧Below w.heap.size w w':=by
 have U:1<s.size:=by omega
 have J:10<s.size:=by omega
 have i1:(1:Int)<(s.size:Int):=by omega
 have a3:(10:Int)<(s.size:Int):=by omega
 have b2:(2:Int)≤(s.size:Int):=by omega
 have b6:(6:Int)≤(s.size:Int):=by omega
 have a0:(11:Int)≤(s.size:Int):=by omega
 have a1:(15:Int)≤(s.size:Int):=by omega
 have a4:(19:Int)≤(s.size:Int):=by omega
 have a2:(25:Int)≤(s.size:Int):=by omega
 have T:=cN hR;have V:=cN hq;clear hR hq;go_enter func97,ntmps97;go_wp2_with fail
 go_cut [4]from 5 to 31 (fun s4 wc=>s4= .pointer (some ⟨w.heap.size+1,0,none⟩)∧∃d m,wc=(((w.alloc Z7).drewN d).alloc (.cells #[.int .i64 (IntKind.i64.wrap (s[1].toNat:Int)),.int .i64 (iX (List.take 4 (List.drop 2 (dH s)))),.int .i64 (iX (List.take 4 (List.drop 6 (dH s)))),.int .i64 (IntKind.i64.wrap (s[10].toNat:Int)),.int .i64 (iX (List.take 4 (List.drop 11 (dH s)))),.int .i64 (iX (List.take 4 (List.drop 15 (dH s)))),.int .i64 (iX (List.take 4 (List.drop 19 (dH s))))] 58)).drewN m)
 case first=>
  refine wp_region_any (by kernel_rfl) ?_;change wpAny _ _ _ _ _ _ _ (World.drew _);refine wpAny_take (i:=0) (v:=?v1) rfl (by kernel_rfl) (by kernel_rfl) (by kernel_rfl) (fun _ _ _ h=>h) (Or.inl ⟨by rfl,?y1⟩) ?k1
  case y1=>intro w;go_simp;with_reducible rfl
  refine wpAny_take (i:=1) (v:=?v2) rfl (by kernel_rfl) (by kernel_rfl) (by kernel_rfl) (fun _ _ _ h=>h) (Or.inl ⟨by rfl,?y2⟩) ?k2
  case y2=>intro w;go_simp;with_reducible rfl
  refine wpAny_take (i:=2) (v:=?v3) rfl (by kernel_rfl) (by kernel_rfl) (by kernel_rfl) (fun _ _ _ h=>h) (Or.inl ⟨by rfl,?y3⟩) ?k3
  case y3=>intro w;go_simp;with_reducible rfl
  refine wpAny_take (i:=3) (v:=?v4) rfl (by kernel_rfl) (by kernel_rfl) (by kernel_rfl) (fun _ _ _ h=>h) (Or.inl ⟨by rfl,?y4⟩) ?k4
  case y4=>intro w;go_simp;with_reducible rfl
  refine wpAny_take (i:=4) (v:=?v5) rfl (by kernel_rfl) (by kernel_rfl) (by kernel_rfl) (fun _ _ _ h=>h) (Or.inl ⟨by rfl,?y5⟩) ?k5
  case y5=>intro w;go_simp;with_reducible rfl
  refine wpAny_take (i:=6) (v:=?v6) rfl (by kernel_rfl) (by kernel_rfl) (by kernel_rfl) (fun _ _ _ h=>h) (Or.inl ⟨by rfl,?y6⟩) ?k6
  case y6=>intro w;go_simp;with_reducible rfl
  refine wpAny_take (i:=7) (v:=?v7) rfl (by kernel_rfl) (by kernel_rfl) (by kernel_rfl) (fun _ _ _ h=>h) (Or.inl ⟨by rfl,?y7⟩) ?k7
  case y7=>intro w;go_simp;with_reducible rfl
  refine wpAny_take (i:=9) (v:=?v8) rfl (by kernel_rfl) (by kernel_rfl) (by kernel_rfl) (fun _ _ _ h=>h) (Or.inl ⟨by rfl,?y8⟩) ?k8
  case y8=>intro w;go_simp;with_reducible rfl
  refine wpAny_take (i:=10) (v:=?v9) rfl (by kernel_rfl) (by kernel_rfl) (by kernel_rfl) (fun _ _ _ h=>h) (Or.inl ⟨by rfl,?y9⟩) ?k9
  case y9=>intro w;go_simp;with_reducible rfl
  refine wpAny_take (i:=11) (v:=?v10) rfl (by kernel_rfl) (by kernel_rfl) (by kernel_rfl) (fun _ _ _ h=>h) (Or.inl ⟨by rfl,?y10⟩) ?k10
  case y10=>intro w;go_simp;with_reducible rfl
  refine wpAny_take (i:=12) (v:=?v11) rfl (by kernel_rfl) (by kernel_rfl) (by kernel_rfl) (fun _ _ _ h=>h) (Or.inl ⟨by rfl,?y11⟩) ?k11
  case y11=>intro w;go_simp;with_reducible rfl
  refine wpAny_take (i:=13) (v:=?v12) rfl (by kernel_rfl) (by kernel_rfl) (by kernel_rfl) (fun _ _ _ h=>h) (Or.inl ⟨by rfl,?y12⟩) ?k12
  case y12=>intro w;go_simp;with_reducible rfl
  refine wpAny_take (i:=15) (v:=?v13) rfl (by kernel_rfl) (by kernel_rfl) (by kernel_rfl) (fun _ _ _ h=>h) (Or.inl ⟨by rfl,?y13⟩) ?k13
  case y13=>intro w;go_simp;with_reducible rfl
  refine wpAny_take (i:=16) (v:=?v14) rfl (by kernel_rfl) (by kernel_rfl) (by kernel_rfl) (fun _ _ _ h=>h) (Or.inl ⟨by rfl,?y14⟩) ?k14
  case y14=>intro w;go_simp;with_reducible rfl
  refine wpAny_take (i:=18) (v:=?v15) rfl (by kernel_rfl) (by kernel_rfl) (by kernel_rfl) (fun _ _ _ h=>h) (Or.inl ⟨by rfl,?y15⟩) ?k15
  case y15=>intro w;go_simp;with_reducible rfl
  refine wpAny_take (i:=19) (v:=?v16) rfl (by kernel_rfl) (by kernel_rfl) (by kernel_rfl) (fun _ _ _ h=>h) (Or.inl ⟨by rfl,?y16⟩) ?k16
  case y16=>intro w;go_simp;with_reducible rfl
  refine wpAny_ready (rs:=[5,23]) (by kernel_rfl) (by simp) ?_;refine AllReady.cons rfl (fun K hK=>?_) ?_
  ·go_simp;refine Calls.mono (fD s 2 _ (by omega)) ?_;rintro e w' ⟨rfl,m2,rfl⟩;refine hK _ _ ?_;clear hK K;refine wpAny_ready (rs:=[8,23]) (by kernel_rfl) (by simp) ?_;refine AllReady.cons rfl (fun K hK=>?_) ?_
   ·go_simp;refine Calls.mono (fD s 6 _ (by omega)) ?_;rintro e w' ⟨rfl,O,rfl⟩;refine hK _ _ ?_;clear hK K;refine wpAny_ready (rs:=[14,23]) (by kernel_rfl) (by simp) ?_;refine AllReady.cons rfl (fun K hK=>?_) ?_
    ·go_simp;refine Calls.mono (fD s 11 _ (by omega)) ?_;rintro e w' ⟨rfl,B,rfl⟩;refine hK _ _ ?_;clear hK K;refine wpAny_ready (rs:=[17,23]) (by kernel_rfl) (by simp) ?_;refine AllReady.cons rfl (fun K hK=>?_) ?_
     ·go_simp;refine Calls.mono (fD s 15 _ (by omega)) ?_;rintro e w' ⟨rfl,r,rfl⟩;refine hK _ _ ?_;clear hK K;refine wpAny_ready (rs:=[20,23]) (by kernel_rfl) (by simp) ?_;refine AllReady.cons rfl (fun K hK=>?_) ?_
      ·go_simp;refine Calls.mono (fD s 19 _ (by omega)) ?_;rintro e w' ⟨rfl,k,rfl⟩;refine hK _ _ ?_;clear hK K;refine wpAny_take (i:=21) (v:=?v17) rfl (by kernel_rfl) (by kernel_rfl) (by kernel_rfl) (fun _ _ _ h=>h) (Or.inl ⟨by rfl,?y17⟩) ?k17
       case y17=>intro w;go_simp;with_reducible rfl
       refine wpAny_take (i:=22) (v:=?v18) rfl (by kernel_rfl) (by kernel_rfl) (by kernel_rfl) (fun _ _ _ h=>h) (Or.inl ⟨by rfl,?y18⟩) ?k18
       case y18=>intro w;go_simp;with_reducible rfl
       refine wpAny_ready (rs:=[23]) (by kernel_rfl) (by simp) ?_;refine AllReady.cons rfl (fun K hK=>?_) ?_
       ·go_simp;refine hK _ _ ?_;clear hK K;refine wpAny_ready (rs:=[24]) (by kernel_rfl) (by simp) ?_;refine AllReady.cons rfl (fun K hK=>?_) ?_
        ·go_simp;refine hK _ _ ?_;clear hK K;refine wpAny_done (by kernel_rfl) ?_ _;go_wp2_with fail
         go_meet
         case rel=>exact⟨rfl,_,0,rfl⟩
        exact AllReady.nil
       exact AllReady.nil
      refine AllReady.cons rfl (fun K hK=>?_) ?_
      ·go_simp;refine hK _ _ ?_;clear hK K;refine wpAny_ready (rs:=[20]) (by kernel_rfl) (by simp) ?_;refine AllReady.cons rfl (fun K hK=>?_) ?_
       ·go_simp;refine Calls.mono (fD s 19 _ (by omega)) ?_;rintro e w' ⟨rfl,k,rfl⟩;refine hK _ _ ?_;clear hK K;refine wpAny_take (i:=21) (v:=?v19) rfl (by kernel_rfl) (by kernel_rfl) (by kernel_rfl) (fun _ _ _ h=>h) (Or.inl ⟨by rfl,?y19⟩) ?k19
        case y19=>intro w;go_simp;with_reducible rfl
        refine wpAny_take (i:=22) (v:=?v20) rfl (by kernel_rfl) (by kernel_rfl) (by kernel_rfl) (fun _ _ _ h=>h) (Or.inl ⟨by rfl,?y20⟩) ?k20
        case y20=>intro w;go_simp;with_reducible rfl
        refine wpAny_ready (rs:=[24]) (by kernel_rfl) (by simp) ?_;refine AllReady.cons rfl (fun K hK=>?_) ?_
        ·go_simp;refine hK _ _ ?_;clear hK K;refine wpAny_done (by kernel_rfl) ?_ _;go_wp2_with fail
         go_meet
         case rel=>
          go_light
          refine⟨rfl,?_⟩;rw[aIs _ _ _ (by simp)];exact⟨_,_,rfl⟩
        exact AllReady.nil
       exact AllReady.nil
      exact AllReady.nil
     refine AllReady.cons rfl (fun K hK=>?_) ?_
     ·go_simp;refine hK _ _ ?_;clear hK K;refine wpAny_ready (rs:=[17]) (by kernel_rfl) (by simp) ?_;refine AllReady.cons rfl (fun K hK=>?_) ?_
      ·go_simp;refine Calls.mono (fD s 15 _ (by omega)) ?_;rintro e w' ⟨rfl,r,rfl⟩;refine hK _ _ ?_;clear hK K;refine wpAny_ready (rs:=[20]) (by kernel_rfl) (by simp) ?_;refine AllReady.cons rfl (fun K hK=>?_) ?_
       ·go_simp;refine Calls.mono (fD s 19 _ (by omega)) ?_;rintro e w' ⟨rfl,k,rfl⟩;refine hK _ _ ?_;clear hK K;refine wpAny_take (i:=21) (v:=?v21) rfl (by kernel_rfl) (by kernel_rfl) (by kernel_rfl) (fun _ _ _ h=>h) (Or.inl ⟨by rfl,?y21⟩) ?k21
        case y21=>intro w;go_simp;with_reducible rfl
        refine wpAny_take (i:=22) (v:=?v22) rfl (by kernel_rfl) (by kernel_rfl) (by kernel_rfl) (fun _ _ _ h=>h) (Or.inl ⟨by rfl,?y22⟩) ?k22
        case y22=>intro w;go_simp;with_reducible rfl
        refine wpAny_ready (rs:=[24]) (by kernel_rfl) (by simp) ?_;refine AllReady.cons rfl (fun K hK=>?_) ?_
        ·go_simp;refine hK _ _ ?_;clear hK K;refine wpAny_done (by kernel_rfl) ?_ _;go_wp2_with fail
         go_meet
         case rel=>
          go_light
          refine⟨rfl,?_⟩;rw[aIs _ _ _ (by simp)];exact⟨_,_,rfl⟩
        exact AllReady.nil
       exact AllReady.nil
      exact AllReady.nil
     exact AllReady.nil
    refine AllReady.cons rfl (fun K hK=>?_) ?_
    ·go_simp;refine hK _ _ ?_;clear hK K;refine wpAny_ready (rs:=[14]) (by kernel_rfl) (by simp) ?_;refine AllReady.cons rfl (fun K hK=>?_) ?_
     ·go_simp;refine Calls.mono (fD s 11 _ (by omega)) ?_;rintro e w' ⟨rfl,B,rfl⟩;refine hK _ _ ?_;clear hK K;refine wpAny_ready (rs:=[17]) (by kernel_rfl) (by simp) ?_;refine AllReady.cons rfl (fun K hK=>?_) ?_
      ·go_simp;refine Calls.mono (fD s 15 _ (by omega)) ?_;rintro e w' ⟨rfl,r,rfl⟩;refine hK _ _ ?_;clear hK K;refine wpAny_ready (rs:=[20]) (by kernel_rfl) (by simp) ?_;refine AllReady.cons rfl (fun K hK=>?_) ?_
       ·go_simp;refine Calls.mono (fD s 19 _ (by omega)) ?_;rintro e w' ⟨rfl,k,rfl⟩;refine hK _ _ ?_;clear hK K;refine wpAny_take (i:=21) (v:=?v23) rfl (by kernel_rfl) (by kernel_rfl) (by kernel_rfl) (fun _ _ _ h=>h) (Or.inl ⟨by rfl,?y23⟩) ?k23
        case y23=>intro w;go_simp;with_reducible rfl
        refine wpAny_take (i:=22) (v:=?v24) rfl (by kernel_rfl) (by kernel_rfl) (by kernel_rfl) (fun _ _ _ h=>h) (Or.inl ⟨by rfl,?y24⟩) ?k24
        case y24=>intro w;go_simp;with_reducible rfl
        refine wpAny_ready (rs:=[24]) (by kernel_rfl) (by simp) ?_;refine AllReady.cons rfl (fun K hK=>?_) ?_
        ·go_simp;refine hK _ _ ?_;clear hK K;refine wpAny_done (by kernel_rfl) ?_ _;go_wp2_with fail
         go_meet
         case rel=>
          go_light
          refine⟨rfl,?_⟩;rw[aIs _ _ _ (by simp)];exact⟨_,_,rfl⟩
        exact AllReady.nil
       exact AllReady.nil
      exact AllReady.nil
     exact AllReady.nil
    exact AllReady.nil
   refine AllReady.cons rfl (fun K hK=>?_) ?_
   ·go_simp;refine hK _ _ ?_;clear hK K;refine wpAny_ready (rs:=[8]) (by kernel_rfl) (by simp) ?_;refine AllReady.cons rfl (fun K hK=>?_) ?_
    ·go_simp;refine Calls.mono (fD s 6 _ (by omega)) ?_;rintro e w' ⟨rfl,O,rfl⟩;refine hK _ _ ?_;clear hK K;refine wpAny_ready (rs:=[14]) (by kernel_rfl) (by simp) ?_;refine AllReady.cons rfl (fun K hK=>?_) ?_
     ·go_simp;refine Calls.mono (fD s 11 _ (by omega)) ?_;rintro e w' ⟨rfl,B,rfl⟩;refine hK _ _ ?_;clear hK K;refine wpAny_ready (rs:=[17]) (by kernel_rfl) (by simp) ?_;refine AllReady.cons rfl (fun K hK=>?_) ?_
      ·go_simp;refine Calls.mono (fD s 15 _ (by omega)) ?_;rintro e w' ⟨rfl,r,rfl⟩;refine hK _ _ ?_;clear hK K;refine wpAny_ready (rs:=[20]) (by kernel_rfl) (by simp) ?_;refine AllReady.cons rfl (fun K hK=>?_) ?_
       ·go_simp;refine Calls.mono (fD s 19 _ (by omega)) ?_;rintro e w' ⟨rfl,k,rfl⟩;refine hK _ _ ?_;clear hK K;refine wpAny_take (i:=21) (v:=?v25) rfl (by kernel_rfl) (by kernel_rfl) (by kernel_rfl) (fun _ _ _ h=>h) (Or.inl ⟨by rfl,?y25⟩) ?k25
        case y25=>intro w;go_simp;with_reducible rfl
        refine wpAny_take (i:=22) (v:=?v26) rfl (by kernel_rfl) (by kernel_rfl) (by kernel_rfl) (fun _ _ _ h=>h) (Or.inl ⟨by rfl,?y26⟩) ?k26
        case y26=>intro w;go_simp;with_reducible rfl
        refine wpAny_ready (rs:=[24]) (by kernel_rfl) (by simp) ?_;refine AllReady.cons rfl (fun K hK=>?_) ?_
        ·go_simp;refine hK _ _ ?_;clear hK K;refine wpAny_done (by kernel_rfl) ?_ _;go_wp2_with fail
         go_meet
         case rel=>
          go_light
          refine⟨rfl,?_⟩;rw[aIs _ _ _ (by simp)];exact⟨_,_,rfl⟩
        exact AllReady.nil
       exact AllReady.nil
      exact AllReady.nil
     exact AllReady.nil
    exact AllReady.nil
   exact AllReady.nil
  refine AllReady.cons rfl (fun K hK=>?_) ?_
  ·go_simp;refine hK _ _ ?_;clear hK K;refine wpAny_ready (rs:=[5]) (by kernel_rfl) (by simp) ?_;refine AllReady.cons rfl (fun K hK=>?_) ?_
   ·go_simp;refine Calls.mono (fD s 2 _ (by omega)) ?_;rintro e w' ⟨rfl,m2,rfl⟩;refine hK _ _ ?_;clear hK K;refine wpAny_ready (rs:=[8]) (by kernel_rfl) (by simp) ?_;refine AllReady.cons rfl (fun K hK=>?_) ?_
    ·go_simp;refine Calls.mono (fD s 6 _ (by omega)) ?_;rintro e w' ⟨rfl,O,rfl⟩;refine hK _ _ ?_;clear hK K;refine wpAny_ready (rs:=[14]) (by kernel_rfl) (by simp) ?_;refine AllReady.cons rfl (fun K hK=>?_) ?_
     ·go_simp;refine Calls.mono (fD s 11 _ (by omega)) ?_;rintro e w' ⟨rfl,B,rfl⟩;refine hK _ _ ?_;clear hK K;refine wpAny_ready (rs:=[17]) (by kernel_rfl) (by simp) ?_;refine AllReady.cons rfl (fun K hK=>?_) ?_
      ·go_simp;refine Calls.mono (fD s 15 _ (by omega)) ?_;rintro e w' ⟨rfl,r,rfl⟩;refine hK _ _ ?_;clear hK K;refine wpAny_ready (rs:=[20]) (by kernel_rfl) (by simp) ?_;refine AllReady.cons rfl (fun K hK=>?_) ?_
       ·go_simp;refine Calls.mono (fD s 19 _ (by omega)) ?_;rintro e w' ⟨rfl,k,rfl⟩;refine hK _ _ ?_;clear hK K;refine wpAny_take (i:=21) (v:=?v27) rfl (by kernel_rfl) (by kernel_rfl) (by kernel_rfl) (fun _ _ _ h=>h) (Or.inl ⟨by rfl,?y27⟩) ?k27
        case y27=>intro w;go_simp;with_reducible rfl
        refine wpAny_take (i:=22) (v:=?v28) rfl (by kernel_rfl) (by kernel_rfl) (by kernel_rfl) (fun _ _ _ h=>h) (Or.inl ⟨by rfl,?y28⟩) ?k28
        case y28=>intro w;go_simp;with_reducible rfl
        refine wpAny_ready (rs:=[24]) (by kernel_rfl) (by simp) ?_;refine AllReady.cons rfl (fun K hK=>?_) ?_
        ·go_simp;refine hK _ _ ?_;clear hK K;refine wpAny_done (by kernel_rfl) ?_ _;go_wp2_with fail
         go_meet
         case rel=>
          go_light
          refine⟨rfl,?_⟩;rw[aIs _ _ _ (by simp)];exact⟨0,_,rfl⟩
        exact AllReady.nil
       exact AllReady.nil
      exact AllReady.nil
     exact AllReady.nil
    exact AllReady.nil
   exact AllReady.nil
  exact AllReady.nil
 case rest=>
  obtain⟨rfl,d,m,y⟩:=hcut;have G:Below (w.heap.size+1) (w.alloc Z7) wc:=by
   rw[y];exact below_drewN (Below.alloc (below_drewN (aJ _ _) _) (by simp) _) _
  have E:w.heap.size+1<wc.heap.size:=by rw[y];simp
  have A:wc.heap[w.heap.size+1]?=some (.cells (rwL R).toArray 58 (0,0)):=by
   rw[y,T.out];have h:=aA ((w.alloc Z7).drewN d) (.cells (rwL (lF (dH s))).toArray 58);have e1:IntKind.i64.wrap (s[1].toNat:Int)=(dH s).getD 1 0:=by rw[rR,jY s 1 U]
   have L:IntKind.i64.wrap (s[10].toNat:Int)=(dH s).getD 10 0:=by rw[rR,jY s 10 J]
   rw[e1,L];have I:((w.alloc Z7).drewN d).heap.size=w.heap.size+1:=by simp
   rw[I]at h;exact h
  clear y T;obtain⟨l,p,a,o,t,u,v⟩:=R;have N:∀W,Below wc.heap.size wc W→∀j x,([.int .i64 l,.int .i64 p,.int .i64 a,.int .i64 o,.int .i64 t,.int .i64 u,.int .i64 v]:List Value)[j]?=some x→W.cell? ⟨w.heap.size+1,j,none⟩=some x:=by
   intro W H j x D;rw[H.cell (p:=⟨w.heap.size+1,j,none⟩) E,cell_of_row wc _ j _ _ _ A];simpa using D
  have M:∀W,Below wc.heap.size wc W→∀j x,([.int .i64 0,.int .i64 0,.int .i64 0,.int .i64 0,.int .i64 0,.int .i64 0,.int .i64 0]:List Value)[j]?=some x→W.cell? ⟨w.heap.size,j,none⟩=some x∧W.frozen? ⟨w.heap.size,j,none⟩=false:=by
   intro W H j x D;rw[H.cell (p:=⟨w.heap.size,j,none⟩) (by show w.heap.size<_;omega),H.frozen (p:=⟨w.heap.size,j,none⟩) (by show w.heap.size<_;omega),G.cell (p:=⟨w.heap.size,j,none⟩) (Nat.lt_succ_self _),G.frozen (p:=⟨w.heap.size,j,none⟩) (Nat.lt_succ_self _)];exact⟨by simpa using D,by simp⟩
  have C:=((aJ w.heap.size w).alloc (aE _) _).trans (G.mono (by omega));have g:=cN N;have f:=cN M;clear N M G A;have Z:=g.out wc (aJ _ _) 0 _ rfl;have r1:=g.out wc (aJ _ _) 1 _ rfl;have r2:=g.out wc (aJ _ _) 2 _ rfl;have r3:=g.out wc (aJ _ _) 3 _ rfl;have r4:=g.out wc (aJ _ _) 4 _ rfl;have r5:=g.out wc (aJ _ _) 5 _ rfl;have X:=g.out wc (aJ _ _) 6 _ rfl;have hq:=V.out;go_wp2_with fail
  go_region_with (go_at_call 100;refine(aCN ⟨l,p,a,o,t,u,v⟩ _).mono ?_;rintro e c ⟨rfl,F⟩)
  have b:=((aJ wc.heap.size wc).drew).trans F;have c0:=g.out c b 0 _ rfl;have z0:=(f.out c b 0 _ rfl).1;have f0:=(f.out c b 0 _ rfl).2;have c1:=g.out c b 1 _ rfl;have z1:=(f.out c b 1 _ rfl).1;have f1:=(f.out c b 1 _ rfl).2;have c2:=g.out c b 2 _ rfl;have z2:=(f.out c b 2 _ rfl).1;have f2:=(f.out c b 2 _ rfl).2;have c3:=g.out c b 3 _ rfl;have z3:=(f.out c b 3 _ rfl).1;have f3:=(f.out c b 3 _ rfl).2;have c4:=g.out c b 4 _ rfl;have Y:=(f.out c b 4 _ rfl).1;have f4:=(f.out c b 4 _ rfl).2;have c5:=g.out c b 5 _ rfl;have z5:=(f.out c b 5 _ rfl).1;have f5:=(f.out c b 5 _ rfl).2;have c6:=g.out c b 6 _ rfl;have z6:=(f.out c b 6 _ rfl).1;have f6:=(f.out c b 6 _ rfl).2;have z:=C.trans (b.mono C.size);have P:=cN z;clear z C b F Z r1 r2 r3 r4 r5 X E;have n:∀j,j<7→(c.cell? ⟨w.heap.size,j,none⟩).isSome=true:=fun j D=>by
   match j,D with
   |0,_=>rw[z0];rfl
   |1,_=>rw[z1];rfl
   |2,_=>rw[z2];rfl
   |3,_=>rw[z3];rfl
   |4,_=>rw[Y];rfl
   |5,_=>rw[z5];rfl
   |6,_=>rw[z6];rfl
  have Q:=aK6 c w.heap.size n;have S:=fun v0 v1 v2 v3 v4 v5 v6=>(show Hid _ from Q v0 v1 v2 v3 v4 v5 v6);clear Q n;cases q
  ·go_wp2;exact bodyPost_ret (v:=.tuple #[rwV zRw,.bool false]) (by simp[results,results97,asAddr,(S _ _ _ _ _ _ _).out]) rfl ⟨rfl,(((((((P.out.setCell (aE _) _).setCell (aE _) _).setCell (aE _) _).setCell (aE _) _).setCell (aE _) _).setCell (aE _) _).setCell (aE _) _)⟩
  ·go_wp2;exact bodyPost_ret (v:=.tuple #[rwV ⟨l,p,a,o,t,u,v⟩,.bool true]) (by simp[results,results97,asAddr,(S _ _ _ _ _ _ _).out]) rfl ⟨rfl,(((((((P.out.setCell (aE _) _).setCell (aE _) _).setCell (aE _) _).setCell (aE _) _).setCell (aE _) _).setCell (aE _) _).setCell (aE _) _)⟩
section
open Go.RowKit Go.Sort
theorem xV(v:Int)(k:Nat):(strOfNums (eQ v k)).size=k:=by rw[dU,gP]
theorem aLc(r:Rw):(⟨#[82]⟩:ByteArray)++strOfNums (eQ r.lock 1)++strOfNums (eQ r.prom 4)++strOfNums (eQ r.acc 4)++strOfNums (eQ r.own 1)++strOfNums (eQ r.tok 4)++strOfNums (eQ r.ttl 4)++strOfNums (eQ r.seq 4)=strOfNums (iJ r):=by
 have e:(⟨#[82]⟩:ByteArray)=strOfNums [82]:=by rfl
 rw[e];simp only[fS,iJ]
theorem aCW(r:Rw)(w:World)(hno:okB r=false):
 Calls prog 70 #[rwV r] w fun e w'=>e= .returned (.string (strOfNums []))∧Below w.heap.size w w':=by
 obtain⟨l,p,a,o,t,u,q⟩:=r;have B:∀o,Below w.heap.size w (w.alloc o):=fun o=>(aJ _ _).alloc (aE _) o;have b:=cN hno;clear hno;go_enter func70,ntmps70;go_wp2_with (first
  |(go_at_call 101;refine(aAp _ _).mono ?_;rintro e w' ⟨rfl,rfl⟩))
 all_goals first
  |(go_ret;exact⟨rfl,B _⟩)
  |(exfalso;have hno:=b.out;simp_all [okB])
theorem yP(n:Int):wrB n=true↔0≤n∧n≤2147483647:=by simp[wrB]
theorem aB1(r:Rw)(w:World)(hok:okB r=true):
 Calls prog 70 #[rwV r] w fun e w'=>e= .returned (.string (strOfNums (nF r)))∧Below w.heap.size w w':=by
 have s:=aLc r;obtain⟨l,p,a,o,t,u,q⟩:=r;simp only[okB,aR,aM]at hok;obtain⟨⟨⟨⟨⟨⟨⟨⟨hp,ha⟩,ht⟩,hu⟩,hq⟩,E⟩,R⟩,D⟩,Z⟩:=hok;have bp:=(yP p).1 hp;have ba:=(yP a).1 ha;have bt:=(yP t).1 ht;have bu:=(yP u).1 hu;have bq:=(yP q).1 hq;have I:Hid ((⟨#[82]⟩:ByteArray)++strOfNums (eQ l 1)++strOfNums (eQ p 4)++strOfNums (eQ a 4)++strOfNums (eQ o 1)++strOfNums (eQ t 4)++strOfNums (eQ u 4)++strOfNums (eQ q 4)=strOfNums (iJ ⟨l,p,a,o,t,u,q⟩)):=s;clear s;generalize M:w.alloc (.cells #[.int .i64 l,.int .i64 p,.int .i64 a,.int .i64 o,.int .i64 t,.int .i64 u,.int .i64 q] 58)=W;have c:∀j v,(#[Value.int .i64 l,.int .i64 p,.int .i64 a,.int .i64 o,.int .i64 t,.int .i64 u,.int .i64 q]:Array Value)[j]?=some v→W.cell? ⟨w.heap.size,j,none⟩=some v:=by
  intro j v hj;rw[←M];simpa using hj
 have C:Below w.heap.size w W:=by rw[←M];exact(aJ _ _).alloc (aE _) _
 have k0:=cell_regrown (c 0 _ rfl);have k1:=cell_regrown (c 1 _ rfl);have k2:=cell_regrown (c 2 _ rfl);have k3:=cell_regrown (c 3 _ rfl);have k4:=cell_regrown (c 4 _ rfl);have k5:=cell_regrown (c 5 _ rfl);have k6:=cell_regrown (c 6 _ rfl);have HW:=cN M;have x:∀(v:Int) (k:Nat),0≤v∧v≤2147483647→k≤4→∀d os,Calls prog 102 #[.int .i64 v,.int .i64 k] (grow (redrawn W d) os) fun e w''=>e= .returned (.string (strOfNums (eQ v k)))∧∃p:Regrown,w''=grow (redrawn W p.d) p.os:=
  fun v k h1 h2 d os=>Calls.regrown_of (aGK v k _ h1.1 h1.2 (by omega))
 have bl:0≤l∧l≤2147483647:=⟨E,by omega⟩;have bo:0≤o∧o≤2147483647:=⟨D,by omega⟩;have KL:Hid (∀d os,Calls prog 102 #[.int .i64 l,.int .i64 1] (grow (redrawn W d) os) fun e w''=>e= .returned (.string (strOfNums (eQ l 1)))∧∃p:Regrown,w''=grow (redrawn W p.d) p.os):=x l 1 bl (by omega);have KP:Hid (∀d os,Calls prog 102 #[.int .i64 p,.int .i64 4] (grow (redrawn W d) os) fun e w''=>e= .returned (.string (strOfNums (eQ p 4)))∧∃p:Regrown,w''=grow (redrawn W p.d) p.os):=x p 4 bp (by omega);have KA:Hid (∀d os,Calls prog 102 #[.int .i64 a,.int .i64 4] (grow (redrawn W d) os) fun e w''=>e= .returned (.string (strOfNums (eQ a 4)))∧∃p:Regrown,w''=grow (redrawn W p.d) p.os):=x a 4 ba (by omega);have KO:Hid (∀d os,Calls prog 102 #[.int .i64 o,.int .i64 1] (grow (redrawn W d) os) fun e w''=>e= .returned (.string (strOfNums (eQ o 1)))∧∃p:Regrown,w''=grow (redrawn W p.d) p.os):=x o 1 bo (by omega);have KT:Hid (∀d os,Calls prog 102 #[.int .i64 t,.int .i64 4] (grow (redrawn W d) os) fun e w''=>e= .returned (.string (strOfNums (eQ t 4)))∧∃p:Regrown,w''=grow (redrawn W p.d) p.os):=x t 4 bt (by omega);have KU:Hid (∀d os,Calls prog 102 #[.int .i64 u,.int .i64 4] (grow (redrawn W d) os) fun e w''=>e= .returned (.string (strOfNums (eQ u 4)))∧∃p:Regrown,w''=grow (redrawn W p.d) p.os):=x u 4 bu (by omega);have KQ:Hid (∀d os,Calls prog 102 #[.int .i64 q,.int .i64 4] (grow (redrawn W d) os) fun e w''=>e= .returned (.string (strOfNums (eQ q 4)))∧∃p:Regrown,w''=grow (redrawn W p.d) p.os):=x q 4 bq (by omega)
 have z:=xV;clear x c bl bo bp ba bt bu bq M;go_enter func70,ntmps70;go_wp2_with (first
  |(go_at_call 101;refine(aAp _ _).mono ?_;rintro e w' ⟨rfl,rfl⟩))
 rw[HW.out];refine wp_region_quiet_below (by kernel_rfl) (by kernel_rfl) ?_
 repeat(quiet_step (first|(go_at_call_of 102 (l);exact KL.out _ _)|(go_at_call_of 102 (p);exact KP.out _ _)|(go_at_call_of 102 (a);exact KA.out _ _)|(go_at_call_of 102 (o);exact KO.out _ _)|(go_at_call_of 102 (t);exact KT.out _ _)|(go_at_call_of 102 (u);exact KU.out _ _)|(go_at_call_of 102 (q);exact KQ.out _ _)))
 refine wpQuiet_nil ?_;intro _ T;obtain⟨⟨dq,G⟩,J⟩:=T;subst J;have H:=C.trans ((below_regrown W dq G).mono C.size);clear KL KP KA KO KT KU KQ HW C k0 k1 k2 k3 k4 k5 k6;generalize grow (redrawn W dq) G=Wx at H⊢;go_wp2;rw[I.out];have A:(strOfNums (iJ ⟨l,p,a,o,t,u,q⟩)).size=23:=by rw[dU,oU]
 have b:=nJ (sD ⟨l,p,a,o,t,u,q⟩);have f:=sD ⟨l,p,a,o,t,u,q⟩;have g:=oU ⟨l,p,a,o,t,u,q⟩;have y:strOfNums (nF ⟨l,p,a,o,t,u,q⟩)=strOfNums (iJ ⟨l,p,a,o,t,u,q⟩)++strOfNums (eQ (lL (iJ ⟨l,p,a,o,t,u,q⟩) 0 0) 2):=(fS _ _).symm;have Q:=cN y;clear I y E R D Z hp ha ht hu hq z;generalize hS:strOfNums (iJ ⟨l,p,a,o,t,u,q⟩)=S at A b Q⊢;generalize hL:iJ ⟨l,p,a,o,t,u,q⟩=L at b f g Q hS;have HN:=cN b;have HB:=cN f;have F:=cN g;have a5:S.size≤23:=by omega
 have a6:23≤S.size:=by omega
 clear hS hL b f g A;go_loopw [5,6] (fun n i wr=>∃(k:Nat) (m:Int),k≤23∧i= .int .i64 k∧n= .int .i64 m∧m=lL (L.take k) 0 0∧0≤m∧m<65536∧Below w.heap.size w wr) (fun _ i _=>23-(intOf i).toNat)
 case atStart=>exact⟨0,0,by omega,rfl,rfl,by simp[lL],by omega,by omega,H⟩
 case round=>
  obtain⟨k,m,hk,rfl,rfl,hm,V,a7,P⟩:=hrel;have N:=cN hm;clear hm;by_cases U:k<S.size
  ·have O:=jY S k U;rw[HN.out]at O;have B:=aCG (bs:=L) (k:=k) (by rw[F.out];omega) 0 0;rw[O,←N.out]at B;have Y:(0:Int)≤(S[k].toNat:Int)∧(S[k].toNat:Int)<256:=⟨by omega,by have:=S[k].toNat_lt;omega⟩;have a1:=cN B;have a4:k<23:=by omega
   have a3:((k:Int)+1)*(S[k].toNat:Int)≤23*256:=by
    apply Int.mul_le_mul<;>omega
   have a2:0≤((k:Int)+1)*(S[k].toNat:Int):=Int.mul_nonneg (by omega) Y.1;clear O B;go_wp2;go_roundw
   case rel=>
    exact⟨k+1,_,by omega,by go_num,rfl,by rw[a1.out,Nat.zero_add],Int.emod_nonneg _ (by omega),Int.emod_lt_of_pos _ (by omega),P⟩
   case measure=>simp[intOf];omega
  ·have K:k=23:=by omega
   have hz:=xV m 2;have X:Hid (m=lL L 0 0):=by
    have h:=N.out;rw[aY (by rw[F.out];omega)]at h;exact h
   clear N K;go_wp2_with (go_at_call 102;refine(aGK m 2 _ V (by omega) (by omega)).mono ?_;rintro e w1 ⟨rfl,a0⟩);go_ret;exact⟨by rw[Q.out,←X.out];rfl,P.trans (a0.mono P.size)⟩
theorem nX(r:Rw)(w:World):
 Calls prog 70 #[rwV r] w fun e w'=>e= .returned (.string (strOfNums (dW r)))∧Below w.heap.size w w':=by
 unfold dW;by_cases h:okB r=true
 ·rw[if_pos h];exact aB1 r w h
 ·rw[if_neg h];exact aCW r w (by simpa using h)
end
def sV(M:List Int):Bool:=decide (dW (lF M)=M)
def iN:Nat→List Int→List Rw
 |0,_=>[]
 |f+1,L=>if 25≤L.length∧sV (L.take 25)=true then lF (L.take 25)::iN f (L.drop 25)else[]
def dO(L:List Int):List Rw:=iN L.length L
theorem lW(f:Nat)(L:List Int)(h:¬(25≤L.length∧sV (L.take 25)=true)):iN f L=[]:=by
 cases f with
 |zero=>rfl
 |succ f=>simp only[iN];rw[if_neg h]
theorem nQ(f:Nat)(L:List Int)(h:25≤L.length∧sV (L.take 25)=true):iN (f+1) L=lF (L.take 25)::iN f (L.drop 25):=by
 simp only[iN];rw[if_pos h]
theorem pC(r:Rw):∀x ∈ dW r,0≤x∧x<256:=by
 unfold dW;split
 ·exact aHY r
 ·simp
theorem aGL(r:Rw)(s:ByteArray):((strOfNums (dW r)).toList==s.toList)=decide (dW r=dH s):=by
 rw[ByteArray.toList_eq,ByteArray.toList_eq,Bool.eq_iff_iff,beq_iff_eq,aM];constructor
 ·intro h;have e:strOfNums (dW r)=s:=by
   apply ByteArray.ext;exact Array.toList_inj.1 h
  rw[←e,nJ (pC r)]
 ·intro h;rw[h];simp only[strOfNums,dH,List.map_map];have e:((fun n:Int=>UInt8.ofNat n.toNat)∘fun b:UInt8=>(b.toNat:Int))=id:=by
   funext b
   simp
  rw[e,List.map_id]
theorem yJ:(prog.info? 58).map (fun i=>(i.zero,i.size,i.bytes))=some (some (.agg #[.int .i64 0,.int .i64 0,.int .i64 0,.int .i64 0,.int .i64 0,.int .i64 0,.int .i64 0]),7,56):=by kernel_rfl
theorem uL(r:Rw):∀x ∈ rwL r,x.oneCell'=true:=by
 intro x a;simp only[rwL,List.mem_cons,List.not_mem_nil,or_false]at a;rcases a with rfl|rfl|rfl|rfl|rfl|rfl|rfl<;>rfl
theorem vU(w:World)(xs:List Value)(t:TypeId):∀j u,xs[j]?=some u→(w.alloc (.cells xs.toArray t)).cell? ((⟨w.heap.size,0,none⟩:Addr).add j)=some u:=by
 intro j u h;have e:(⟨w.heap.size,0,none⟩:Addr).add j=⟨w.heap.size,j,none⟩:=by unfold Addr.add;split<;>simp_all
 rw[e];simpa using h
theorem jJ{w w':World}{base:Nat}{e:TypeId}{size:Nat}{v:Value}{n:Nat}{xs:List Value}(h:w.ownsRow base e size v n xs)(hb:Below w.heap.size w w'):w'.ownsRow base e size v n xs:=by
 have c:=h.lt;obtain⟨i,f⟩:=h;refine⟨i,?_⟩;rcases f with l|⟨g,d,b,rfl,j,k,a⟩
 ·exact Or.inl l
 ·exact Or.inr ⟨g,d,b,rfl,j,by rw[hb.block g (c g rfl).2];exact k,a⟩
theorem aDT(s:ByteArray)(w:World)(hs:s.size≤1000000000000):
 Calls prog 143 #[.string s] w fun e w'=>∃v,e= .returned v∧w'.ownsRow w.heap.size 58 7 v (dO (dH s)).length (cellsOf (dO (dH s)))∧Below w.heap.size w w':=by
 obtain⟨i0,hi,Z,a0,a1⟩:=info_parts yJ;have U:=cN (fH s);go_enter func143,ntmps143;go_wp2;go_loopw [3,4] (fun v i wr=>∃(k p:Nat) (H:List Rw),p=25*k∧p≤s.size∧i= .int .i64 p∧H.length=k∧dO (dH s)=H++iN (s.size-k) ((dH s).drop p)∧wr.ownsRow w.heap.size 58 7 v k (cellsOf H)∧Below w.heap.size w wr) (fun _ i _=>s.size-(intOf i).toNat)
 case atStart=>exact⟨0,0,[],rfl,by omega,rfl,rfl,by simp only[dO,List.nil_append,List.drop_zero,Nat.sub_zero];rw[U.out],aZ _ _ _ _,aJ _ _⟩
 case round=>
  obtain⟨k,p,H,M,hp,rfl,N,c,h,S⟩:=hrel;have Y:=cN M;have C:=cN N;have E:=cN c;clear M N c;have L:=S.size;by_cases a4:p+25≤s.size
  ·have y:=mY s p (p+25);rw[show p+25-p=25 by omega]at y;have D:=fun r=>aGL r (s.extract p (p+25));have f:=fun W=>aGf (s.extract p (p+25)) W (by rw[ByteArray.size_extract];omega);rw[y]at f;simp only[y]at D;have T:=D (lF (((dH s).drop p).take 25));generalize X:lF (((dH s).drop p).take 25)=R at f T;have HR:=cN X;have J:decide (dW R=((dH s).drop p).take 25)=sV (((dH s).drop p).take 25):=by rw[sV,X]
   rw[J]at T;generalize hq:sV (((dH s).drop p).take 25)=q at T;have HQ:=cN hq;have A:=fun W=>nX R W;clear y D X J hq;obtain⟨l,Q,a,o,t,u,P⟩:=R;go_wp2_with fail;refine(f wr).mono ?_;rintro e w1 ⟨rfl,F⟩;have B:=S.trans (F.mono L);have m:=jJ h F;have K:=B.size;clear f F h S L;go_wp2_with fail;refine(A _).mono ?_;rintro e w2 ⟨rfl,z⟩;have b:=jJ (m.alloc (.cells #[.int .i64 l,.int .i64 Q,.int .i64 a,.int .i64 o,.int .i64 t,.int .i64 u,.int .i64 P] 58)) z;have n:=(B.alloc K _).trans (z.mono (by simp;omega));have O:=n.size;have d:∀j x,([.int .i64 l,.int .i64 Q,.int .i64 a,.int .i64 o,.int .i64 t,.int .i64 u,.int .i64 P]:List Value)[j]?=some x→w2.cell? ⟨w1.heap.size,j,none⟩=some x:=by
    intro j x V;rw[z.cell (p:=⟨w1.heap.size,j,none⟩) (by simp)];simpa using V
   have c0:=d 0 _ rfl;have c1:=d 1 _ rfl;have c2:=d 2 _ rfl;have c3:=d 3 _ rfl;have c4:=d 4 _ rfl;have c5:=d 5 _ rfl;have c6:=d 6 _ rfl;clear A z m B K d;cases q
   ·go_wp2;go_ret;have g:iN (s.size-k) ((dH s).drop p)=[]:=lW _ _ (by rw[HQ.out];simp);have c:=E.out;rw[g,aC]at c;exact⟨_,rfl,by rw[c,C.out];exact b,n⟩
   ·have a5:k+1≤1000000000000:=by have:=Y.out;omega
    go_wp2_with (at_builtin;refine wpList_append_own_at _ rfl _ _ 47 rfl w.heap.size 58 i0 _ 7 56 underlying47 hi Z a0 a1 rfl (by decide) _ _ _ rfl (b.alloc _) ⟨w2.heap.size,0,none⟩ 1 1 (rwL ⟨l,Q,a,o,t,u,P⟩) rfl rfl ?qa ?qb ?qc ?qd ?qe ?_)
    case qa=>exact vU _ _ _
    case qb=>exact uL _
    case qc=>unfold maxLen;omega
    case qd=>omega
    case qe=>simp;omega
    intro v3 w3 G I _ _;have a2:=(n.alloc O _).grown I (by simp;omega) (fun j V=>(b.lt j V).1);clear I b n O c0 c1 c2 c3 c4 c5 c6;go_wp2;go_roundw
    case rel=>
     refine⟨k+1,p+25,H++[⟨l,Q,a,o,t,u,P⟩],by rw[Y.out];omega,by omega,by go_num,by simp[C.out],?_,by rw[tG];exact G,a2⟩;have a3:=Y.out;have g:=nQ (s.size-(k+1)) ((dH s).drop p) ⟨by rw[aV,U.out];omega,HQ.out⟩;rw[show s.size-(k+1)+1=s.size-k by omega,HR.out,List.drop_drop]at g;rw[E.out,g];simp
    case measure=>simp[intOf];omega
  ·go_wp2;go_ret;have g:iN (s.size-k) ((dH s).drop p)=[]:=lW _ _ (by rw[aV,U.out];omega);have c:=E.out;rw[g,aC]at c;exact⟨_,rfl,by rw[c,C.out];exact h,S⟩
def dX(rs:List Rw)(k:Nat):Option Rw:=rs.reverse.find? fun r=>decide (r.lock=(k:Int))
def eG(rs:List Rw)(k:Nat):List Rw:=(List.range k).filterMap (dX rs)
theorem pV(rs:List Rw)(k:Nat):eG rs (k+1)=eG rs k++(dX rs k).toList:=by
 simp only[eG,List.range_succ,List.filterMap_append,List.filterMap_cons,List.filterMap_nil];cases dX rs k<;>rfl
theorem aEC{rs:List Rw}{n:Nat}(h:n<rs.length)(k:Nat):dX (rs.take (n+1)) k=if rs[n].lock=(k:Int)then some rs[n]else dX (rs.take n) k:=by
 unfold dX;rw[List.take_succ_eq_append_getElem h,List.reverse_append,List.reverse_singleton,List.singleton_append,List.find?_cons];by_cases a:rs[n].lock=(k:Int)
 ·simp[a]
 ·simp[a]
theorem lC(rs:List Rw)(k:Nat):(eG rs k).length≤k:=by
 have:=List.length_filterMap_le (dX rs) (List.range k);simpa[eG]using this
theorem aDD(g cap:Nat)(rs:List Rw)(w:World)(hg:g<w.heap.size)(hr:sP w g rs)(hn:rs.length≤1000000000000):
 Calls prog 144 #[.slice (some ⟨g,0,none⟩) rs.length cap] w fun e w'=>∃v,e= .returned v∧w'.ownsRow w.heap.size 58 7 v (eG rs 4).length (cellsOf (eG rs 4))∧Below w.heap.size w w':=by
 obtain⟨Z,hi,H,I,J⟩:=info_parts yJ;have X:Hid (∀W,Below w.heap.size w W→∀i (h:i<rs.length),∀j v,(rwL rs[i])[j]?=some v→W.cell? ⟨g,i*7+j,none⟩=some v):=by
  intro W T i h j v G;rw[T.cell (p:=⟨g,i*7+j,none⟩) hg];exact hr i h j v G
 clear hr;generalize O:rs.length=N at hn⊢;have M:=cN O;clear O;go_enter func144,ntmps144;go_wp2;go_loopw [3,4] (fun v i wr=>∃(k n:Nat),k≤4∧i= .int .i64 k∧n=(eG rs k).length∧wr.ownsRow w.heap.size 58 7 v n (cellsOf (eG rs k))∧Below w.heap.size w wr) (fun _ i _=>4-(intOf i).toNat)
 case atStart=>exact⟨0,0,by omega,rfl,rfl,aZ _ _ _ _,aJ _ _⟩
 case round=>
  obtain⟨k,n,hk,rfl,D,b,s⟩:=hrel;have z:=cN D;have a0:n≤4:=by have:=lC rs k;omega
  clear D;by_cases a1:k<4
  ·go_wp2;go_loopw [3,5] (fun v i wx=>∃(m:Nat),m≤N∧i= .int .i64 ((m:Int)-1)∧dX rs k=dX (rs.take m) k∧wx.ownsRow w.heap.size 58 7 v n (cellsOf (eG rs k))∧Below w.heap.size w wx) (fun _ i _=>(intOf i+1).toNat)
   case atStart=>exact⟨N,by omega,by go_num,by rw[aY (by rw[M.out];omega)],b,s⟩
   case round=>
    clear b s;obtain⟨m,hm,rfl,d,b,s⟩:=hrel;have y:=cN d;clear d;by_cases a3:0<m
    ·obtain⟨x,rfl⟩:∃x,m=x+1:=⟨m-1,by omega⟩;have E:x<rs.length:=by rw[M.out];omega
     have a2:(x:Int)<(N:Int):=by omega
     have c:=X.out _ s x E;have r:=aEC E k;generalize rs[x]=R at c r;have P:=cN r;obtain⟨l,p,a,o,t,u,q⟩:=R;have V:wr.cell? ⟨g,x*7,none⟩=some (.int .i64 l):=c 0 _ rfl;have Y:wr.cell? ⟨g,x*7+1,none⟩=some (.int .i64 p):=c 1 _ rfl;have c2:wr.cell? ⟨g,x*7+2,none⟩=some (.int .i64 a):=c 2 _ rfl;have c3:wr.cell? ⟨g,x*7+3,none⟩=some (.int .i64 o):=c 3 _ rfl;have c4:wr.cell? ⟨g,x*7+4,none⟩=some (.int .i64 t):=c 4 _ rfl;have c5:wr.cell? ⟨g,x*7+5,none⟩=some (.int .i64 u):=c 5 _ rfl;have c6:wr.cell? ⟨g,x*7+6,none⟩=some (.int .i64 q):=c 6 _ rfl;have C:=s.size;clear c r E;by_cases f:l=(k:Int)
     ·have S:(l==(k:Int))=true:=by simp[f]
      have F:=cN f;clear f;go_wp2_with (at_builtin;refine wpList_append_own_at _ rfl _ _ 47 rfl w.heap.size 58 Z _ 7 56 underlying47 hi H I J rfl (by decide) _ _ _ rfl (b.alloc _) ⟨wr.heap.size,0,none⟩ 1 1 (rwL ⟨l,p,a,o,t,u,q⟩) rfl rfl ?qa ?qb ?qc ?qd ?qe ?_)
      case qb=>first|exact uL _|exact⟨rfl,rfl,rfl,rfl,rfl,rfl,rfl⟩
      case qc=>unfold maxLen;omega
      case qd=>omega
      case qe=>first|omega|(simp;omega)
      intro v3 w3 A B _ _;have L:=(s.alloc C _).grown B (by simp;omega) (fun j G=>(b.lt j G).1);clear B b s C V Y c2 c3 c4 c5 c6;go_wp2;go_roundw
      case rel=>
       have d:dX rs k=some ⟨l,p,a,o,t,u,q⟩:=by rw[y.out,P.out,if_pos F.out]
       refine⟨k+1,n+1,by omega,by go_num,?_,?_,L⟩
       ·rw[pV,d,z.out];simp
       ·rw[pV,d,Option.toList_some,tG];exact A
      case measure=>simp[intOf];omega
     ·have S:(l==(k:Int))=false:=by simp[f]
      have F:Hid (¬l=(k:Int)):=f;clear f;go_wp2;go_roundw
      case rel=>exact⟨x,by omega,by go_num,by rw[y.out,P.out,if_neg F.out],b,s⟩
      case measure=>simp[intOf]
    ·have Q:=cN ((by omega:m=0));go_wp2;go_roundw
     case rel=>
      have d:dX rs k=none:=by rw[y.out,Q.out];rfl
      refine⟨k+1,n,by omega,by go_num,?_,?_,s⟩
      ·rw[pV,d,z.out];simp
      ·rw[pV,d,Option.toList_none,aC];exact b
     case measure=>simp[intOf];omega
  ·have K:=cN ((by omega:k=4));go_wp2;go_ret;have U:=K.out;subst U;exact⟨_,rfl,by rw[←z.out];exact b,s⟩
theorem aFN(p:Option Addr)(cap:Nat)(w:World):
 Calls prog 144 #[.slice p 0 cap] w fun e w'=>e= .returned (.slice none 0 0)∧Below w.heap.size w w':=by
 go_enter func144,ntmps144;go_wp2;go_loopw [3,4] (fun v i wr=>∃(k:Nat),k≤4∧i= .int .i64 k∧v= .slice none 0 0∧wr=w) (fun _ i _=>4-(intOf i).toNat)
 case atStart=>exact⟨0,by omega,rfl,rfl,rfl⟩
 case round=>
  obtain⟨k,b,rfl,rfl,rfl⟩:=hrel;by_cases a:k<4
  ·go_wp2
   go_loop [3,5] (fun v i=>v= .slice none 0 0∧i= .int .i64 (-1)) (fun _ _=>0)
   case atStart=>exact⟨rfl,rfl⟩
   case round=>
    obtain⟨rfl,rfl⟩:=hrel;go_wp2;go_roundw
    case rel=>exact⟨k+1,by omega,by go_num,by simp⟩
    case measure=>simp[intOf];omega
  ·go_wp2;go_ret;exact⟨rfl,aJ _ _⟩
theorem mL{w:World}{base g cap:Nat}{rs:List Rw}(h:w.ownsRow base 58 7 (.slice (some ⟨g,0,none⟩) rs.length cap) rs.length (cellsOf rs)):sP w g rs:=by
 intro i c j v b;have a:j<7:=by
  have:=(aF.1 b).1;simpa using this
 rw[h.cellAt (i*7+j) (by omega),uH rs i c j a];exact b
theorem gL{w:World}{base base':Nat}{e:TypeId}{size:Nat}{v:Value}{n:Nat}{xs:List Value}(h:w.ownsRow base e size v n xs)(hb:base'≤base):w.ownsRow base' e size v n xs:=by
 obtain⟨i,f⟩:=h;refine⟨i,?_⟩;rcases f with k|⟨g,c,b,d,j,a⟩
 ·exact Or.inl k
 ·exact Or.inr ⟨g,c,b,d,cA hb j,a⟩
theorem pE:∀(f:Nat) (L:List Int),25*(iN f L).length≤L.length
 |0,L=>by simp[iN]
 |f+1,L=>by
  simp only[iN];split
  ·rename_i h;have ih:=pE f (L.drop 25);rw[aV]at ih;rw[bI];omega
  ·simp
theorem aH9(k:Nat):eG [] k=[]:=by
 have:∀k,dX [] k=none:=fun k=>rfl;simp[eG,this]
theorem qR(s:ByteArray)(w:World)(hs:s.size≤1000000000000):
 Calls prog 103 #[.string s] w fun e w'=>∃v,e= .returned (.tuple #[v,.int .i64 (25*((dO (dH s)).length:Int))])∧w'.ownsRow w.heap.size 58 7 v (eG (dO (dH s)) 4).length (cellsOf (eG (dO (dH s)) 4))∧Below w.heap.size w w':=by
 have a:=aDT s w hs;have d:25*(dO (dH s)).length≤1000000000000:=by
  have h:=pE (dH s).length (dH s);rw[fH]at h;unfold dO;rw[fH];omega
 generalize dO (dH s)=rs at a d⊢;have n:Hid (Calls prog 143 #[.string s] w fun e w'=>∃v,e= .returned v∧w'.ownsRow w.heap.size 58 7 v rs.length (cellsOf rs)∧Below w.heap.size w w'):=a;clear a;generalize o:rs.length=N at d⊢;have j:=cN o;clear o;go_enter func103,ntmps103;go_wp2_with fail;refine n.out.mono ?_;rintro e q ⟨v,rfl,b,k⟩;rw[j.out]at b;clear n;rcases b.2 with⟨rfl,r⟩|⟨g,m,y,rfl,z,_,p,A,_⟩
 ·subst r;have t:=aH9 4;have l:=List.length_eq_zero_iff.1 j.out;go_wp2_with (go_at_call 144;refine(aFN _ _ _).mono ?_;rintro e x ⟨rfl,f⟩)
  go_ret2
  exact⟨.slice none 0 0,rfl,by rw[l,t];exact aZ _ _ _ _,k.trans (f.mono k.size)⟩
 ·have c:=aDD g m rs q ((b.lt g rfl).2) (mL (by rw[j.out];exact b)) (by rw[j.out];omega);rw[j.out]at c;go_wp2_with (go_at_call 144;refine c.mono ?_;rintro e x ⟨u,rfl,i,f⟩)
  go_ret2
  exact⟨u,rfl,gL i k.size,k.trans (f.mono k.size)⟩
section
open Go.Maps
def fq(L:List Int):Bool:=decide (25≤L.length)&&sV (L.take 25)
theorem aIR(L:List Int):fq L=true↔(25≤L.length∧sV (L.take 25)=true):=by simp[fq]
theorem aCq{L:List Int}{k n:Nat}(h:k<n):(L.take n).getD k 0=L.getD k 0:=by
 simp[List.getD,h]
theorem yX(L:List Int):lF (L.take 25)=lF L:=by
 have e:∀a,a+4≤25→((L.take 25).drop a).take 4=(L.drop a).take 4:=fun a ha=>by
  rw[List.drop_take,List.take_take,Nat.min_eq_left (by omega)]
 simp only[lF,aCq (show 1<25 by omega),aCq (show 10<25 by omega),e 2 (by omega),e 6 (by omega),e 11 (by omega),e 15 (by omega),e 19 (by omega)]
theorem aCs(s:ByteArray)(w:World):
 Calls prog 97 #[.string s] w fun e w'=>e= .returned (.tuple #[rwV (if fq (dH s)=true then lF (dH s)else zRw),.bool (fq (dH s))])∧Below w.heap.size w w':=by
 by_cases h:s.size<25
 ·have a:fq (dH s)=false:=by simp[fq,fH];omega
  rw[a];exact aEj s w h
 ·have a:((strOfNums (dW (lF (dH s)))).toList==(s.extract 0 25).toList)=fq (dH s):=by
   rw[aGL,mY,List.drop_zero];have e:fq (dH s)=sV ((dH s).take 25):=by
    have:25≤(dH s).length:=by rw[fH];omega
    simp[fq,this]
   rw[e,sV,yX]
  exact aFb s w (by omega) _ rfl _ a
def aAy(r:Rw):DataW Unit:=.agg [.lit (.int .i64 r.lock),.lit (.int .i64 r.prom),.lit (.int .i64 r.acc),.lit (.int .i64 r.own),.lit (.int .i64 r.tok),.lit (.int .i64 r.ttl),.lit (.int .i64 r.seq)]
def tY:Value→Option (DataW Unit×List MemPlace)
 |.agg ⟨[.int .i64 a,.int .i64 b,.int .i64 c,.int .i64 d,.int .i64 e,.int .i64 f,.int .i64 g]⟩=>some (aAy ⟨a,b,c,d,e,f,g⟩,[])
 |_=>none
theorem aAM(r:Rw):tY (rwV r)=some (aAy r,[]):=rfl
def oD:List Rw→DataW Unit
 |rs=>rs.foldl (fun D r=>D.put (.int .i64 r.lock) (aAy r)) (.map [])
theorem vC(rs:List Rw)(r:Rw):oD (rs++[r])=(oD rs).put (.int .i64 r.lock) (aAy r):=by simp[oD]
theorem aHQ:Keyed prog 3:=int_keyed underlying3
theorem uI{M:List Int}(h:sV M=true)(hl:M.length=25):okB (lF M)=true:=by
 simp only[sV,aM]at h;by_cases a:okB (lF M)=true
 ·exact a
 ·unfold dW at h;rw[if_neg a]at h;rw[←h]at hl;simp at hl
theorem aEd{n:Int}(h0:0≤n)(h1:n≤2147483647):(Lit.int .i64 n).wf=true:=WalkArith.wf_i64 (by omega)
theorem aEm{r:Rw}(h:okB r=true):0≤r.lock∧r.lock≤3:=by
 simp only[okB,aR,aM]at h;omega
structure RowCell(W:World)(B g:Nat)(r:Rw):Prop where
 base:B≤g
 lt:g<W.heap.size
 row:W.heap[g]?=some (.cells (rwL r).toArray 58 (0,0))
section
variable {W:World} {B g:Nat} {r:Rw}
theorem RowCell.cell(h:RowCell W B g r):∀j x,(rwL r)[j]?=some x→W.cell? ⟨g,j,none⟩=some x:=fun j x hj=>by
 rw[cell_of_row W g j _ _ _ h.row];simpa using hj
theorem RowCell.frozen(h:RowCell W B g r)(j:Nat):W.frozen? ⟨g,j,none⟩=false:=frozen_of_row W g j _ _ h.row
end
theorem aEU(W:World)(g:Nat)(x0 x1 x2 x3 x4 x5 x6:Value)(t:TypeId)(h:W.heap[g]?=some (.cells #[x0,x1,x2,x3,x4,x5,x6] t (0,0)))(v0 v1 v2 v3 v4 v5 v6:Value):
 (((((((W.setCell ⟨g,0,none⟩ v0).setCell ⟨g,1,none⟩ v1).setCell ⟨g,2,none⟩ v2).setCell ⟨g,3,none⟩ v3).setCell ⟨g,4,none⟩ v4).setCell ⟨g,5,none⟩ v5).setCell ⟨g,6,none⟩ v6).heap[g]?=some (.cells #[v0,v1,v2,v3,v4,v5,v6] t (0,0)):=by
 have d:=heap_setCell_same _ g 0 _ t v0 h;have b:=heap_setCell_same _ g 1 _ t v1 d;have i:=heap_setCell_same _ g 2 _ t v2 b;have c:=heap_setCell_same _ g 3 _ t v3 i;have f:=heap_setCell_same _ g 4 _ t v4 c;have a:=heap_setCell_same _ g 5 _ t v5 f;have e:=heap_setCell_same _ g 6 _ t v6 a;rw[e]
 rfl
theorem aCM(W:World)(g b:Nat)(h:b≠g)(v0 v1 v2 v3 v4 v5 v6:Value):
 (((((((W.setCell ⟨g,0,none⟩ v0).setCell ⟨g,1,none⟩ v1).setCell ⟨g,2,none⟩ v2).setCell ⟨g,3,none⟩ v3).setCell ⟨g,4,none⟩ v4).setCell ⟨g,5,none⟩ v5).setCell ⟨g,6,none⟩ v6).heap[b]?=W.heap[b]?:=by
 rw[heap_setCell_other _ _ _ _ h,heap_setCell_other _ _ _ _ h,heap_setCell_other _ _ _ _ h,heap_setCell_other _ _ _ _ h,heap_setCell_other _ _ _ _ h,heap_setCell_other _ _ _ _ h,heap_setCell_other _ _ _ _ h]
theorem iU{w w':World}{R:Value→Option (DataW Unit×List MemPlace)}{b n:Nat}{D:DataW Unit}(h:w.ownsMap prog 3 R b n D)(hb:w'.heap[b]?=w.heap[b]?):w'.ownsMap prog 3 R b n D:=by
 obtain⟨d,a,c,e⟩:=h;exact⟨d,a,hb.trans c,e⟩
theorem fJ{W:World}{g:Nat}{r:Rw}(h:W.heap[g]?=some (.cells (rwL r).toArray 58 (0,0)))(j:Nat)(x:Value)(hj:(rwL r)[j]?=some x):W.cell? ⟨g,j,none⟩=some x:=by
 rw[cell_of_row W g j _ _ _ h];simpa using hj
theorem vV(s:ByteArray)(w:World)(hs:s.size≤1000000000000):
 Calls prog 61 #[.string s] w fun e w'=>∃b n,e= .returned (.tuple #[.map (some b),.int .i64 (25*((dO (dH s)).length:Int))])∧w'.ownsMap prog 3 tY b n (oD (dO (dH s)))∧n≤1000000000000∧w.heap.size≤b∧Below w.heap.size w w':=by
 have d8:= @run_makeMap prog;have HL:=cN (fH s);have h0:=fun W=>aCs s W;generalize T:fq (dH s)=q0 at h0;generalize a4:(if q0=true then lF (dH s)else zRw)=R0 at h0;have b5:=cN T;have b1:=cN a4;have H0:=cN h0;clear h0 T a4;obtain⟨l0,p0,a0,o0,t0,u0,v0⟩:=R0;go_enter func61,ntmps61;go_wp2_with fail;refine(H0.out _).mono ?_;rintro e w1 ⟨rfl,G⟩;go_wp2;go_loopw [5,6,7] (fun n r ok wr=>∃(k p g:Nat) (I:List Rw) (R:Rw) (q:Bool),p=25*k∧p≤s.size∧n= .int .i64 p∧r= .pointer (some ⟨g,0,none⟩)∧ok= .bool q∧I.length=k∧dO (dH s)=I++iN (s.size-k) ((dH s).drop p)∧fq ((dH s).drop p)=q∧(q=true→lF ((dH s).drop p)=R)∧RowCell wr (w.heap.size+1) g R∧wr.ownsMap prog 3 tY w.heap.size k (oD I)∧Below w.heap.size w wr) (fun n _ _ _=>s.size-(intOf n).toNat)
 case atStart=>
  have b6:w.heap.size+1≤w1.heap.size:=by have:=G.size;simpa using this
  refine⟨0,0,w1.heap.size,[],⟨l0,p0,a0,o0,t0,u0,v0⟩,q0,rfl,by omega,rfl,rfl,rfl,rfl,?_,?_,?_,⟨b6,by simp,aA _ _⟩,?_,?_⟩
  ·simp only[dO,List.nil_append,List.drop_zero,Nat.sub_zero];rw[HL.out]
  ·rw[List.drop_zero];exact b5.out
  ·intro hq;rw[List.drop_zero,←b1.out,if_pos hq]
  ·refine iU (World.ownsMap_made w prog 3 tY) ?_;rw[Below.heap_alloc _ _ _ (by omega)];exact G.block _ (by simp)
  ·exact(((aJ w.heap.size w).alloc (aE _) _).trans (G.mono (by simp))).alloc (by omega) _
 case round=>
  clear G;obtain⟨k,p,g,I,R,q,a5,hp,rfl,rfl,rfl,V,y,a1,a3,C,A,hB⟩:=hrel;have N:=cN a5;have S:=cN V;have Z:=cN y;have J:=cN a1;have K:=cN a3;have f:=cN C;clear a5 V y a1 a3 C;have b4:=hB.size;cases q
  ·go_wp2
   go_ret2
   have E:iN (s.size-k) ((dH s).drop p)=[]:=lW _ _ (by rw[←aIR,J.out];simp);have y:=Z.out;rw[E,aC]at y;refine⟨_,k,?_,by rw[y];exact A,by have:=N.out;omega,aE _,hB⟩;rw[y,S.out,N.out];simp
  ·have F:=(aIR _).1 J.out;rw[aV,HL.out]at F;have d9:p+25≤s.size:=by omega
   have P:okB R=true:=by
    rw[←K.out rfl,←yX];exact uI F.2 (by rw[bD,aV,HL.out];omega)
   have O:=aEm P;have b9:=cN (K.out rfl);have a9:Hid (25≤((dH s).drop p).length∧sV (((dH s).drop p).take 25)=true):=⟨by rw[aV,HL.out];omega,F.2⟩;clear F P K J;have Q:=zV s (p+25);have M:=fun W=>aCs (s.extract (p+25) s.size) W;rw[Q]at M;generalize Y:fq ((dH s).drop (p+25))=q2 at M;generalize X:(if q2=true then lF ((dH s).drop (p+25))else zRw)=R2 at M;have b8:=cN Y;have b3:=cN X;have HF:=cN M;clear M Y X Q;obtain⟨l,D,a,o,t,u,v⟩:=R;obtain⟨l2,b7,a2,o2,t2,u2,v2⟩:=R2;have H:keyOf prog 3 (.int .i64 l)=some (.int .i64 l):=keyOf_int_mk underlying3 (WalkArith.wf_i64 (by have:=O.1;have:=O.2;simp at*;omega));have d7:k≤1000000000000:=by have:=N.out;omega
   have a7:some g≠some w.heap.size:=by have:=f.out.base;simp;omega
   have b0:∀j,some w.heap.size=some j→w.heap.size≤j:=fun j hj=>by cases hj;exact aE _
   have c0:wr.cell? ⟨g,0,none⟩=some (.int .i64 l):=f.out.cell 0 _ rfl;have c1:wr.cell? ⟨g,1,none⟩=some (.int .i64 D):=f.out.cell 1 _ rfl;have c2:wr.cell? ⟨g,2,none⟩=some (.int .i64 a):=f.out.cell 2 _ rfl;have c3:wr.cell? ⟨g,3,none⟩=some (.int .i64 o):=f.out.cell 3 _ rfl;have c4:wr.cell? ⟨g,4,none⟩=some (.int .i64 t):=f.out.cell 4 _ rfl;have c5:wr.cell? ⟨g,5,none⟩=some (.int .i64 u):=f.out.cell 5 _ rfl;have c6:wr.cell? ⟨g,6,none⟩=some (.int .i64 v):=f.out.cell 6 _ rfl;go_wp2_with (at_mapUpdate;refine wpList_mapUpdate_own _ rfl _ _ _ 118 rfl 3 58 aHQ underlying118 tY w.heap.size k (oD I) rfl A (by unfold maxLen;omega) _ (rwV ⟨l,D,a,o,t,u,v⟩) (.int .i64 l) rfl rfl H (aAy ⟨l,D,a,o,t,u,v⟩) [] (aAM _) ?_;intro i B h;have d:i.heap[g]?=some (.cells (rwL ⟨l,D,a,o,t,u,v⟩).toArray 58 (0,0)):=(h.block g f.out.lt a7).trans f.out.row;have c9:g<i.heap.size:=aG f.out.lt h.size;have d0:i.cell? ⟨g,0,none⟩=some (.int .i64 l):=fJ d 0 _ rfl;have d1:i.cell? ⟨g,1,none⟩=some (.int .i64 D):=fJ d 1 _ rfl;have d2:i.cell? ⟨g,2,none⟩=some (.int .i64 a):=fJ d 2 _ rfl;have d3:i.cell? ⟨g,3,none⟩=some (.int .i64 o):=fJ d 3 _ rfl;have d4:i.cell? ⟨g,4,none⟩=some (.int .i64 t):=fJ d 4 _ rfl;have d5:i.cell? ⟨g,5,none⟩=some (.int .i64 u):=fJ d 5 _ rfl;have d6:i.cell? ⟨g,6,none⟩=some (.int .i64 v):=fJ d 6 _ rfl;have U:Below w.heap.size w i:=hB.grown h b4 b0;clear h d A hB);refine(HF.out _).mono ?_;rintro e m ⟨rfl,z⟩
   have c:m.heap[i.heap.size]?=some (.cells (rwL ⟨l,D,a,o,t,u,v⟩).toArray 58 (0,0)):=(z.block _ (by simp)).trans (aA _ _);have a6:w.heap.size+1≤i.heap.size:=by have:=f.out.base;omega
   have c7:i.heap.size<m.heap.size:=by have:=z.size;simp at this;omega
   have b2:=(U.alloc (by omega) _).trans (z.mono (by simp;omega));have L:m.ownsMap prog 3 tY w.heap.size (k+1) ((oD I).put (.int .i64 l) (aAy ⟨l,D,a,o,t,u,v⟩)):=by
    refine iU B ?_;rw[z.block _ (by simp;omega)];exact Below.heap_alloc _ _ _ (by omega)
   have e0:m.cell? ⟨i.heap.size,0,none⟩=some (.int .i64 l):=fJ c 0 _ rfl;have f0:=frozen_of_row m _ 0 _ _ c;have e1:m.cell? ⟨i.heap.size,1,none⟩=some (.int .i64 D):=fJ c 1 _ rfl;have f1:=frozen_of_row m _ 1 _ _ c;have e2:m.cell? ⟨i.heap.size,2,none⟩=some (.int .i64 a):=fJ c 2 _ rfl;have f2:=frozen_of_row m _ 2 _ _ c;have e3:m.cell? ⟨i.heap.size,3,none⟩=some (.int .i64 o):=fJ c 3 _ rfl;have f3:=frozen_of_row m _ 3 _ _ c;have e4:m.cell? ⟨i.heap.size,4,none⟩=some (.int .i64 t):=fJ c 4 _ rfl;have f4:=frozen_of_row m _ 4 _ _ c;have e5:m.cell? ⟨i.heap.size,5,none⟩=some (.int .i64 u):=fJ c 5 _ rfl;have f5:=frozen_of_row m _ 5 _ _ c;have e6:m.cell? ⟨i.heap.size,6,none⟩=some (.int .i64 v):=fJ c 6 _ rfl;have f6:=frozen_of_row m _ 6 _ _ c;have a8:=cN c;clear z U B c d0 d1 d2 d3 d4 d5 d6 c0 c1 c2 c3 c4 c5 c6 HF H;go_wp2;go_roundw
   case rel=>
    refine⟨k+1,p+25,i.heap.size,I++[⟨l,D,a,o,t,u,v⟩],⟨l2,b7,a2,o2,t2,u2,v2⟩,q2,by rw[N.out];omega,by omega,by go_num,rfl,rfl,by simp[S.out],?_,b8.out,fun hq=>by rw[←b3.out,if_pos hq],⟨a6,by simp;omega,aEU _ _ _ _ _ _ _ _ _ _ a8.out _ _ _ _ _ _ _⟩,?_,?_⟩
    ·have E:=nQ (s.size-(k+1)) ((dH s).drop p) a9.out;have c8:=N.out;rw[show s.size-(k+1)+1=s.size-k by omega,yX,b9.out,List.drop_drop]at E;rw[Z.out,E];simp
    ·rw[vC];exact iU L (aCM _ _ _ (by omega) _ _ _ _ _ _ _)
    ·have x:w.heap.size≤i.heap.size:=by omega
     exact(((((((b2.setCell x _).setCell x _).setCell x _).setCell x _).setCell x _).setCell x _).setCell x _)
   case measure=>simp[intOf];omega
end
structure Dk where
 room:Int
 log:List Int
 lsyn:Int
 new:Option (List Int×Int)
 old:Option (List Int×Int)
 fail:Option (Int×Int)
abbrev How:=Option (Option Int)
theorem mM{motive:How→Prop}(h:How)(fine:motive none)(full:motive (some none))(dies:∀q,motive (some (some q))):motive h:=by
 rcases h with _|_|q
 ·exact fine
 ·exact full
 ·exact dies q
def fQ(k:Dk):Option Dk:=match k.fail with
 |none=>some k
 |some (n,q)=>if n=0 then none else some {k with fail:=some (n-1,q)}
def iP(k:Dk):Int:=match k.fail with
 |none=>0
 |some (_,q)=>q
def hP(k:Dk):Int:=match k.new with
 |none=>0
 |some (t,_)=>t.length
def jS(k:Dk):Int:=k.log.length+hP k
def lI(k:Dk)(s:List Int):Dk:={k with log:=k.log++s}
def mN(k:Dk):Dk:={k with lsyn:=k.log.length}
def lH(k:Dk):Dk:={k with new:=some ([],0)}
def iQ(k:Dk)(s:List Int):Dk:={k with new:=match k.new with
 |some (t,y)=>some (t++s,y)
 |none=>none}
def hU(k:Dk):Dk:={k with new:=match k.new with
 |some (t,_)=>some (t,t.length)
 |none=>none}
def gI(k:Dk):Dk:=match k.new with
 |some (t,y)=>{k with log:=t,lsyn:=y,new:=none,old:=some (k.log,k.lsyn)}
 |none=>k
def oJ(k:Dk):Dk:={k with old:=none}
def fB(k:Dk):List Int×Int:=match k.old with
 |some p=>p
 |none=>(k.log,k.lsyn)
def wY(t:List Int)(y q:Int):List Int:=t.take (y+min q (t.length-y)).toNat
def fM(k:Dk)(q:Int):Dk:={k with log:=wY (fB k).1 (fB k).2 q,lsyn:=(wY (fB k).1 (fB k).2 q).length,new:=none,old:=none,fail:=none}
def eP(k:Dk)(s:List Int)(put:Dk→List Int→Dk):Dk×How:=match fQ k with
 |none=>(k,(.some (.some (iP k))))
 |some k1=>if k1.room<jS k1+s.length then(k1,(.some .none))else(put k1 s,.none)
def dZ(k:Dk)(go:Dk→Dk):Dk×How:=match fQ k with
 |none=>(k,(.some (.some (iP k))))
 |some k1=>(go k1,.none)
def iF(p:Dk×How)(go:Dk→Dk×How):Dk×How:=match p with
 |(k,.none)=>go k
 |(k,h)=>(k,h)
def lY(k:Dk)(s:List Int):Dk×How:=iF (eP k s lI) fun k=>dZ k mN
def fU(k:Dk)(s:List Int):Dk×How:=
 iF (dZ k lH) fun k=>iF (eP k s iQ) fun k=>iF (dZ k hU) fun k=>iF (dZ k gI) fun k=>dZ k oJ
structure Ac where
 num:Int
 compact:Int
 dk:Dk
 rows:List Rw
 st:Int
def aI8(room:Int):Dk:=⟨room,[],0,none,none,none⟩
def xN(f:Cf)(num:Int):Ac:=⟨num,f.compact,aI8 f.room,[],0⟩
def qD(a:Ac)(lock:Int):Rw:={(dX a.rows lock.toNat).getD zRw with lock:=lock}
def iR(m:Mg)(r:Rw):Rw:=if m.bal<r.prom then r else if m.kind=1 then{r with prom:=m.bal}else⟨r.lock,m.bal,m.bal,m.val.own,m.val.tok,m.val.ttl,m.val.seq⟩
def kA(m:Mg)(r:Rw):Mg:=if m.bal<r.prom then{zMg with kind:=5,base:=r.prom}else if m.kind=1 then{zMg with kind:=2,base:=r.acc,val:=⟨r.own,r.tok,r.ttl,r.seq⟩}else{zMg with kind:=4}
def mV(m:Mg)(r:Rw):Bool:=if m.bal<r.prom then false else if m.kind=1 then decide (r.prom<m.bal)else true
def mH(a:Ac)(x m:Mg):Mg:={x with src:=a.num,dst:=m.src,lock:=m.lock,bal:=m.bal}
def fA(rs:List Rw):List Int:=(eG rs 4).flatMap dW
def mB(a:Ac):Bool:=decide (a.compact<(a.dk.log.length:Int) / 25)
def gN(a:Ac)(r:Rw):Ac×How:=match lY a.dk (dW r)with
 |(k,.none)=>({a with dk:=k,rows:=a.rows++[r]},.none)
 |(k,h)=>({a with dk:=k},h)
def eJ(a:Ac):Ac×How:=({a with dk:=(fU a.dk (fA a.rows)).1},(fU a.dk (fA a.rows)).2)
def jE(a:Ac)(m:Mg):Ac×List Ev×How:=
 let r:=qD a m.lock
 let x:=[sentEv (mH a (kA m r) m)]
 if mV m r=true then
  match gN a (iR m r)with
  |(a1,.none)=>if mB a1=true then((eJ a1).1,x,(eJ a1).2)else(a1,x,.none)
  |(a1,h)=>(a1,[],h)
 else(a,x,.none)
def crashA(a:Ac)(q:Int):Ac:={a with dk:=fM a.dk q,rows:=[],st:=2}
def uP(a:Ac)(h:How):Ac:=match h with
 |(.some .none)=>{a with st:=1}
 |_=>a
def sU(a:Ac)(m:Mg):Ac:=if a.st≠0 then a else match jE a m with
 |(a1,_,(.some (.some q)))=>crashA a1 q
 |(a1,_,h)=>uP a1 h
def mZ(a:Ac)(m:Mg):List Ev:=if a.st≠0 then[]else match jE a m with
 |(_,e,(.some (.some _)))=>e++[eO a.num]
 |(_,e,_)=>e
def wK(a:Ac)(m:Mg):Int:=if a.st≠0 then 0 else match jE a m with
 |(_,_,(.some (.some _)))=>6
 |_=>0
def aBn(a:Ac):Int:=if a.st=2 then 2 else 0
def yN(a:Ac)(n q:Int):Ac:=if a.st=2 then a else if n=0 then crashA a q else{a with dk:={a.dk with fail:=some (n,q)}}
def tN(a:Ac)(n:Int):List Ev:=if a.st=2 then[]else if n=0 then[eO a.num]else[]
def fR(a:Ac):Ac×How:=
 let rs:=dO a.dk.log
 let a1:={a with rows:=rs}
 if 25*(rs.length:Int)<a.dk.log.length∨mB a=true then eJ a1 else(a1,.none)
def uT(a:Ac):Int:=if a.st=0 then 3 else 0
def iL(a:Ac):Ac:=if a.st=0 then a else
 let a1:=if a.st=1 then crashA a 0 else a
 uP (fR {a1 with st:=0}).1 (fR {a1 with st:=0}).2
def nP(a:Ac):List Ev:=if a.st=0 then[]else if a.st=1 then[eO a.num,jD a.num]else[jD a.num]
theorem aBM{p:Prop}(h:p):Hid p:=h
theorem aGA{p:Prop}(h:Hid p):p:=h.out
theorem nR{w:World}{base:Nat}{v:Value}{rs:List Rw}(h:w.ownsRow base 58 7 v rs.length (cellsOf rs)):vA w v rs∨(rs=[]∧∃p c,v= .slice p 0 c):=by
 rcases h.2 with⟨rfl,d⟩|⟨g,a,f,rfl,j,l,e,b,k,i⟩
 ·exact Or.inl (Or.inl ⟨rfl,List.eq_nil_of_length_eq_zero d⟩)
 ·exact Or.inl (Or.inr ⟨g,a,rfl,e,b,mL h⟩)
end Go.Proofs.YtbbdgokdfhdpiaaGreatDoor
