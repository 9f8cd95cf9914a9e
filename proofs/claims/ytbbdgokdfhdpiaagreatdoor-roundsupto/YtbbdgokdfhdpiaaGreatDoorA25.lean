/- A part. -/
import Derived.Test.YtbbdgokdfhdpiaaGreatDoorA2
import Derived.Test.YtbbdgokdfhdpiaaGreatDoorA19
namespace Go.Proofs.YtbbdgokdfhdpiaaGreatDoor
set_option linter.all false
set_option maxRecDepth 100000
set_option maxHeartbeats 0
open Go.Proofs.Tryz Go.RowKit
section
open Go.Maps
theorem aBS(W:World)(B:Nat)(eb:Addr)(b:Nat)(hgl:GlAt W B eb):
 Calls prog 129 #[.pointer (some ⟨b,0,none⟩),.nilIface] W fun e W'=>e= .returned (.tuple #[])∧Chg NoS W W':=by
 have a:Chg NoS W (W.alloc (.cells #[.pointer none] 234)):=(Chg.refl _ _).alloc _;generalize c:W.alloc (.cells #[.pointer none] 234)=W1 at*;have g:=cN c;have i:=(hgl.kept a (fun _ h=>h.elim)).err;have d:=cN (aKI eb W1);have f:=cN a;clear c a hgl;go_enter func129,ntmps129;go_wp2_with (first|rw[g.out]|(go_at_call 167;refine d.out.mono ?_;rintro e j ⟨rfl,rfl⟩))
 (first|go_end0|((try simp only[Exit.inBlock,Exit.then]);refine bodyPost_ret (results_none rfl _ _ _) rfl ?_))
 exact⟨rfl,f.out⟩
theorem zI(W:World)(F:Nat→Prop)(B:Nat)(eb:Addr)(b g fb:Nat)(a:Ac)(h:Acc W F b g a)(hgl:GlAt W B eb)(hf:lU W fb (oO eb)):
 Calls prog 129 #[.pointer (some ⟨b,0,none⟩),lV fb] W fun e W'=>e= .returned (.tuple #[])∧Acc W' F b g {a with st:=1}∧Chg (fun x=>x=b) W W':=by
 obtain⟨nm,hf⟩:=hf;obtain⟨FD,d,tb,ha,hin,hlt⟩:=h;have hc1:Chg NoS W (W.alloc (.cells #[.pointer none] 234)):=(Chg.refl _ _).alloc _;have hb1:=aA W (.cells #[.pointer none] 234);generalize hX1:W.alloc (.cells #[.pointer none] 234)=W1 at*;have HX1:=cN hX1;have hg1:=hgl.kept hc1 (fun _ h=>h.elim);have hev:=hg1.err;have hf1:=hc1.kept hf (fun h=>h);have HIS:=cN (aJm fb eb W1 (cO hf1 2 _ rfl));have HAS:=cN (aIX fb W.heap.size W1 hg1.typ (aG hg1.b1 hg1.hB) hb1);have HH:=cN (aLs ha hin hlt hc1 hf1 (dG hf));clear hX1 hc1 hgl hg1 hf1 hf hb1 ha hin hlt;go_enter func129,ntmps129;go_wp2_with (first|rw[HX1.out]|(go_at_call 167;refine HIS.out.mono ?_;rintro e w' ⟨rfl,rfl⟩)|(go_at_call 168;refine HAS.out.mono ?_;rintro e W2 ⟨rfl,k2,b2⟩;refine cQ ?_));have t0:=cO b2 0 _ rfl;have hf2:=k2.kept HH.out.2.2.2.2.1 (by have:=HH.out.2.2.2.2.2;omega);have f0:=cO hf2 0 _ rfl;have hc2:=HH.out.2.2.2.1.trans (S:=NoS) k2 (fun x hx e=>by omega);have ha2:=HH.out.1.kept hc2 (fun _ _ h=>h);have c4:=ha2.cell 4 _ rfl;have z4:=ha2.froz 4;have hc3:=cY W2 b 4 (.int .i64 1);have hb3:=dD ha2.blk 4 (.int .i64 1);generalize hX3:W2.setCell ⟨b,4,none⟩ (.int .i64 1)=W3 at*;have HX3:=cN hX3;have HR:Hid (Acc W3 F b g {a with st:=1}∧Chg (fun x=>x=b) W W3):=by
  refine⟨⟨FD,d,tb,⟨hb3,ha2.disk.of_heap hc3.size (fun x hx=>hc3.block x (ha2.disk.lt x hx) (fun e=>ha2.nb (e▸hx))),eB ha2.table (hc3.block _ ha2.table.lt (fun e=>ha2.bt e.symm)),ha2.nb,ha2.ntb⟩,HH.out.2.1,fun x hx=>aG (HH.out.2.2.1 x hx) (cA hc2.size hc3.size)⟩,(hc2.nos:Chg (fun x=>x=b) W W2).trans hc3 (fun _ _ h=>h)⟩
 clear hX3 hc3 hb3 ha2 hc2 hf2 b2 k2;refine cN ?_;go_wp2_with (first|rw[HX3.out])
 (first|go_end0|((try simp only[Exit.inBlock,Exit.then]);refine bodyPost_ret (results_none rfl _ _ _) rfl ?_))
 exact⟨rfl,HR.out⟩
end
end Go.Proofs.YtbbdgokdfhdpiaaGreatDoor
