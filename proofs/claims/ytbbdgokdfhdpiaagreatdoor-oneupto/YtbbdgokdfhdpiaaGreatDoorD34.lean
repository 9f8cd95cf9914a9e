/- A part of the proof: KpArg. -/
import Derived.Test.YtbbdgokdfhdpiaaGreatDoorD15
import Derived.Test.YtbbdgokdfhdpiaaGreatDoorD31
namespace Go.Proofs.YtbbdgokdfhdpiaaGreatDoor
set_option linter.all false
set_option maxRecDepth 100000
set_option maxHeartbeats 40000000
open Go.Proofs.Tryz Go.RowKit
section
open Go.ChangeShapes Go.WideShapes Go.ChangeAt Go.RowKit Go.Deep
theorem zN:prog.cellsOf 34=4:=by kernel_rfl
theorem aAT{H:Type}{ds:List (DataW H)}{d:DataW H}{len:Nat}{D:Nat→DataW H}{E:List (DataW H)}(hk:Rows.uptoSmall H ds=true)(hd:d ∈ ds)(hs:d= .slice ((List.range len).map D) E):len≤1048576:=by
 have h:Rows.uptoBulkAll ds≤1048576:=of_decide_eq_true hk;have a:=aCu hd;subst hs;simp only[Rows.uptoBulk]at a;have b:=zU ((List.range len).map D);simp only[bL,List.length_range]at b;omega
theorem aHr(b off j:Nat):(⟨b,off,none⟩:Addr).add j=⟨b,off+j,none⟩:=by unfold Addr.add;split<;>simp_all
theorem aBA{x:Int}(h:(Lit.int .i64 x).wf=true): -9223372036854775808≤x:=by
 have a:IntKind.i64.min≤x:=of_decide_eq_true ((Bool.and_eq_true_iff.1 h).1);exact Int.le_trans (by decide) a
section
variable {H:Type}{enc:TypeId×Value→H}{W:World}{sp:Nat→Bool}{hd:Bool}
theorem aGQ{v:Value}{d:DataW H}{ps:List MemPlace}{len cap:Nat}{p:Option Addr}(hv:v= .slice p len cap)(h:DataW.Trod enc prog W 0 sp hd 25 v d ps):
 (∃l,RawAt W p len l)∧∃(D:Nat→DataW H) (E:List (DataW H)),len=0∨d= .slice ((List.range len).map D) E:=by
 by_cases t:len=0
 ·exact⟨⟨fun _=>0,fun k hk=>by omega⟩,fun _=>.nil,[],Or.inl t⟩
 obtain⟨C,w⟩:=h;subst hv;rcases open_slice underlying25 w with⟨c,r⟩|⟨a,B,A,m,O,D,P,c,_,N,K,x,r,n⟩
 ·simp[Value.cells]at c;exact absurd c.2.1 t
 ·simp[Value.cells]at c;obtain⟨rfl,rfl,rfl⟩:=c;simp only[Prod.mk.injEq]at r;have M:len≤m:=by rw[x];split<;>omega
  clear w x;rw[aA9]at n;have j:∀i,∃z:Int,i<len→W.cell? (a.add i)=some (.int .i64 z)∧(Lit.int .i64 z).wf=true:=by
   intro i;by_cases g:i<len
   ·obtain⟨L,J,F⟩:=n i (by omega);obtain⟨z,e,_,y⟩:=DataW.trod_int underlying3 F;have:=aAg J 0 (by decide);rw[e]at this;refine⟨z,fun _=>⟨?_,y⟩⟩;have I:(a.add (i*1)).add 0=a.add i:=by
     unfold Addr.add;by_cases G:i=0<;>simp[G]
    rw[I]at this;exact this
   ·exact⟨0,fun h=>absurd h g⟩
  have q:=fun i=>Classical.choose_spec (j i);obtain⟨b,s,o⟩:=a;have u:=(q 0 (by omega)).1;have f:o=none:=by simpa[Addr.add]using World.cell?_spot u
  subst f;refine⟨⟨fun i=>Classical.choose (j i),fun i g=>⟨b,s,rfl,?_,?_,aBA (q i g).2,aBh (q i g).2⟩⟩,D,_,Or.inr r.1⟩
  ·have:=block_lt_of_cell u;simpa[Addr.add]using this
  ·rw[←aHr];exact(q i g).1
theorem aDl{cs:List Value}{base n:Nat}{y:DataW H×List MemPlace}(h:DataW.trod enc prog W base sp hd n 34 cs=some y):cs.length=4∧∀j,j<4→aJD cs j:=by
 obtain⟨b,m,_,_,d,f,a⟩:=DataW.trod_struct underlying34 h;have c:b.length=4:=f;refine⟨by rw[d,zN],fun j hj=>?_⟩;have g:∀(i:Nat),i<4→∃y,b[i]?=some y:=fun i hi=>⟨b[i],by simp[c,hi]⟩
 match j,hj with
 |0,_=>obtain⟨y,e⟩:=g 0 (by omega);exact uU ((a 0 _ rfl).trans e)
 |1,_=>obtain⟨y,e⟩:=g 1 (by omega);exact uU ((a 1 _ rfl).trans e)
 |2,_=>obtain⟨y,e⟩:=g 2 (by omega);exact uU ((a 2 _ rfl).trans e)
 |3,_=>obtain⟨y,e⟩:=g 3 (by omega);exact uU ((a 3 _ rfl).trans e)
theorem aCV{v:Value}{d:DataW H}{ps:List MemPlace}{len cap:Nat}{p:Option Addr}(hv:v= .slice p len cap)(h:DataW.Trod enc prog W 0 sp hd 26 v d ps):
 (∃o,ScAt W p len o)∧∃(D:Nat→DataW H) (E:List (DataW H)),len=0∨d= .slice ((List.range len).map D) E:=by
 by_cases A:len=0
 ·exact⟨⟨fun _=>⟨0,0,0,0⟩,fun k hk=>by omega⟩,fun _=>.nil,[],Or.inl A⟩
 obtain⟨M,C⟩:=h;subst hv;rcases open_slice underlying26 C with⟨e,u⟩|⟨a,L,K,m,n',D,Pl,e,_,Z,V,G,u,q⟩
 ·simp[Value.cells]at e;exact absurd e.2.1 A
 ·simp[Value.cells]at e;obtain⟨rfl,rfl,rfl⟩:=e;simp only[Prod.mk.injEq]at u;have Y:len≤m:=by rw[G];split<;>omega
  clear C G;rw[zN]at q;have n:∀i,∃z:St,i<len→(∀j v,(stL z)[j]?=some v→W.cell? ((a.add (i*4)).add j)=some v)∧nL z:=by
   intro i;by_cases s:i<len
   ·obtain⟨X,U,P⟩:=q i (by omega);obtain⟨h4,c⟩:=aDl P;obtain⟨k,N,k2⟩:=c 0 (by decide);obtain⟨x,T,F⟩:=c 1 (by decide);obtain⟨y,Q,J⟩:=c 2 (by decide);obtain⟨z,R,B⟩:=c 3 (by decide);refine⟨⟨k,x,y,z⟩,fun _=>⟨fun j v f=>?_,⟨aBA F,aBh F,aBA J,aBh J,aBA B,aBh B⟩⟩⟩;have l:j<4:=(aF.1 f).1;rw[aAg U j l]
    match j,l with
    |0,_=>rw[N];exact f
    |1,_=>rw[T];exact f
    |2,_=>rw[Q];exact f
    |3,_=>rw[R];exact f
   ·exact⟨⟨0,0,0,0⟩,fun h=>absurd h s⟩
  have t:=fun i=>Classical.choose_spec (n i);obtain⟨b,w,r⟩:=a;have I:=(t 0 (by omega)).1 0 _ rfl;have g:r=none:=by simpa[Addr.add]using World.cell?_spot I
  subst g;refine⟨⟨fun i=>Classical.choose (n i),fun i s=>⟨b,w,rfl,?_,?_,(t i s).2⟩⟩,D,_,Or.inr u.1⟩
  ·have:=block_lt_of_cell I;simpa[Addr.add]using this
  ·intro j v f;rw[←(t i s).1 j v f]
   congr 1
   unfold Addr.add;by_cases S:i*4=0<;>by_cases O:j=0<;>simp[S,O,Nat.add_assoc]
end
end
end Go.Proofs.YtbbdgokdfhdpiaaGreatDoor
