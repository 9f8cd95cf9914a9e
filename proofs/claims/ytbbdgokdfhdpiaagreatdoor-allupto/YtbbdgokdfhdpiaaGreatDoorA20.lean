/- A part of the proof: GlLaid. -/
import Derived.Test.YtbbdgokdfhdpiaaGreatDoorA3
import Derived.Test.YtbbdgokdfhdpiaaGreatDoorA15
namespace Go.Proofs.YtbbdgokdfhdpiaaGreatDoor
set_option linter.all false
set_option maxRecDepth 100000
set_option maxHeartbeats 40000000
open Go.Proofs.Tryz Go.RowKit
section
open Go.ChangeShapes Go.WideShapes Go.ChangeAt Go.RowKit
theorem aLk:(prog.cutTypes.find? (·.1=="internal/reflectlite.rtype")).map (·.2)=some 295:=by kernel_rfl
theorem aKE:((List.range prog.types.size).filter fun t=>prog.rowNamed t [101,114,114,111,114])=[202]:=by kernel_rfl
theorem aGs:"*"++"errors.errorString"="*errors.errorString":=by decide
theorem aKQ(u:TypeId)(h:prog.typeName? 3 u=some "*errors.errorString"):u=328:=
 typeName_ptr_named (nm:="errors.errorString") (by rw[aGs];kernel_rfl) (by kernel_rfl) (by decide) u (by rw[aGs];exact h)
theorem aK1:prog.cellsOf 346=1:=by kernel_rfl
theorem aKW:prog.cellsOf 9=1:=by kernel_rfl
theorem aLe:(prog.globals[0]?).map (·.type)=some 202:=by kernel_rfl
theorem xA{W:World}(h:laidMetH prog aKq W):∃eb,GlAt W W.heap.size eb:=by
 have B:laidMet prog [("mooring/disk.ErrRoom",Rows.laid_mooring_disk_ErrRoom)] W∧handlesMet prog [("errors.errorType",Rows.laid_errors_errorType)] W:=h;obtain⟨q,D⟩:=B;obtain⟨d,u,A,x,z,G,w,n⟩:=D _ (List.mem_singleton.2 rfl);have s:d=[101,114,114,111,114]:=(aN x).symm;subst s;obtain rfl:=aN (aLk.symm.trans z);have p:A ∈ (List.range prog.types.size).filter fun t=>prog.rowNamed t [101,114,114,111,114]:=List.mem_filter.2 ⟨List.mem_range.2 G,w⟩;rw[aKE]at p;obtain rfl:=List.mem_singleton.1 p;have r:typeHandle prog 202= .pointer (some ⟨2,202,none⟩):=by kernel_rfl
 rw[r]at n;have o:W.cell? ⟨1,0,none⟩=some aJc:=by simpa using World.var?_cell et n 0
 obtain⟨N,⟨R,O,k,M,Q,E,a,l,c,i,g,H⟩,L,b⟩:=q;obtain rfl:=aN (er.symm.trans a);obtain rfl:=aN (aLe.symm.trans l);have f:E=[]:=g;subst f;subst H;obtain⟨y⟩:=k;have j:∀u v,y=[.iface u v]→Value.okWide prog W .any 0 u v:=fun u v e=>by
  subst e;exact(b 0 0 (by simp[MemPlace.row])).2 u v (by simpa using World.var?_cell a c 0)
 obtain⟨m,P,rfl,J,K,I,rfl⟩:=errorString_of_trod underlying202 aKQ underlying328 underlying346 rfl rfl underlying9 aK1 aKW i j;have C:W.cell? ⟨0,0,none⟩=some (oQ m):=by simpa using World.var?_cell a c 0
 have F:1<W.heap.size:=World.block_lt_of_cell? W ⟨1,0,none⟩ o;exact⟨m,by omega,F,aE _,C,o⟩
theorem aFX{x:Int}(h:(Lit.int .i64 x).wf=true):x≤9223372036854775807:=by
 have a:x≤IntKind.i64.max:=of_decide_eq_true ((Bool.and_eq_true_iff.1 h).2);exact Int.le_trans a (by decide)
end
end Go.Proofs.YtbbdgokdfhdpiaaGreatDoor
