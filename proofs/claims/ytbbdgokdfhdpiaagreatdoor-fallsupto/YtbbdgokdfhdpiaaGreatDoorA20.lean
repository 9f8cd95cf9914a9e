/- A part. -/
import Derived.Test.YtbbdgokdfhdpiaaGreatDoorA3
import Derived.Test.YtbbdgokdfhdpiaaGreatDoorA15
namespace Go.Proofs.YtbbdgokdfhdpiaaGreatDoor
set_option linter.all false
set_option maxRecDepth 100000
set_option maxHeartbeats 0
open Go.Proofs.Tryz Go.RowKit
section
open Go.ChangeShapes Go.WideShapes Go.ChangeAt Go.RowKit
theorem aLn:(prog.cutTypes.find? (·.1== "internal/reflectlite.rtype")).map (·.2)=some 295:=by kernel_rfl
theorem aKG:((List.range prog.types.size).filter fun t=>prog.rowNamed t [101,114,114,111,114])=[202]:=by kernel_rfl
theorem aGy: "*"++ "errors.errorString"= "*errors.errorString":=by decide
theorem aKP(u:TypeId)(h:prog.typeName? 3 u=some "*errors.errorString"):u=328:=
 typeName_ptr_named (nm:= "errors.errorString") (by rw[aGy];kernel_rfl) (by kernel_rfl) (by decide) u (by rw[aGy];exact h)
theorem aLb:prog.cellsOf 346=1:=by kernel_rfl
theorem aKZ:prog.cellsOf 9=1:=by kernel_rfl
theorem aLh:(prog.globals[0]?).map (·.type)=some 202:=by kernel_rfl
theorem wX{W:World}(h:laidMetH prog aKy W):∃eb,GlAt W W.heap.size eb:=by
 have x:laidMet prog [("mooring/disk.ErrRoom",Rows.laid_mooring_disk_ErrRoom)] W∧handlesMet prog [("errors.errorType",Rows.laid_errors_errorType)] W:=h;obtain⟨y,w⟩:=x;obtain⟨d,u,D,E,z,F,G,m⟩:=w _ (List.mem_singleton.2 rfl);have C:d=[101,114,114,111,114]:=(aN E).symm;subst C;obtain rfl:=aN (aLn.symm.trans z);have o:D ∈ (List.range prog.types.size).filter fun t=>prog.rowNamed t [101,114,114,111,114]:=List.mem_filter.2 ⟨List.mem_range.2 F,G⟩;rw[aKG]at o;obtain rfl:=List.mem_singleton.1 o;have B:typeHandle prog 202= .pointer (some ⟨2,202,none⟩):=by kernel_rfl
 rw[B]at m;have n:W.cell? ⟨1,0,none⟩=some aIS:=by simpa using World.var?_cell et m 0
 obtain⟨N,⟨O,Q,j,M,R,s,a,k,c,l,i,r⟩,L,b⟩:=y;obtain rfl:=aN (er.symm.trans a);obtain rfl:=aN (aLh.symm.trans k);have f:s=[]:=i;subst f;subst r;obtain⟨A⟩:=j;have g:∀u v,A=[.iface u v]→Value.okWide prog W .any 0 u v:=fun u v e=>by
  subst e;exact(b 0 0 (by simp[MemPlace.row])).2 u v (by simpa using World.var?_cell a c 0)
 obtain⟨p,P,rfl,I,K,J,rfl⟩:=errorString_of_trod underlying202 aKP underlying328 underlying346 rfl rfl underlying9 aLb aKZ l g;have H:W.cell? ⟨0,0,none⟩=some (oO p):=by simpa using World.var?_cell a c 0
 have q:1<W.heap.size:=World.block_lt_of_cell? W ⟨1,0,none⟩ n;exact⟨p,by omega,q,aE _,H,n⟩
theorem aFp{x:Int}(h:(Lit.int .i64 x).wf=true):x≤9223372036854775807:=by
 have a:x≤IntKind.i64.max:=of_decide_eq_true ((Bool.and_eq_true_iff.1 h).2);exact Int.le_trans a (by decide)
end
end Go.Proofs.YtbbdgokdfhdpiaaGreatDoor
