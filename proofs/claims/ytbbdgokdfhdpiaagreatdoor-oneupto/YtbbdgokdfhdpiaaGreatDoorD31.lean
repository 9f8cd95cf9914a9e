/- A part of the proof: KpRun. -/
import Derived.Test.YtbbdgokdfhdpiaaGreatDoorD26
import Derived.Test.YtbbdgokdfhdpiaaGreatDoorD27
namespace Go.Proofs.YtbbdgokdfhdpiaaGreatDoor
set_option linter.all false
set_option maxRecDepth 100000
set_option maxHeartbeats 40000000
open Go.Proofs.Tryz Go.RowKit
abbrev stL(o:St):List Value:=[.int .i64 o.kind,.int .i64 o.x,.int .i64 o.y,.int .i64 o.z]
def ScAt(W:World)(p:Option Addr)(len:Nat)(o:Nat→St):Prop:=∀k,k<len→∃b f,p=some ⟨b,f,none⟩∧b<W.heap.size∧(∀j v,(stL (o k))[j]?=some v→W.cell? ((⟨b,f+k*4,none⟩:Addr).add j)=some v)∧nL (o k)
theorem ScAt.bel{W W':World}{n0:Nat}{p:Option Addr}{len:Nat}{o:Nat→St}(h:ScAt W p len o)(hb:Below n0 W W')(hp:∀g f,p=some ⟨g,f,none⟩→g<n0):ScAt W' p len o:=fun k hk=>by
 obtain⟨b,f,rfl,h1,h2,h3⟩:=h k hk;refine⟨b,f,rfl,aG h1 hb.size,fun j v hj=>?_,h3⟩;have hlt:=hp b f rfl;have ea:((⟨b,f+k*4,none⟩:Addr).add j).block=b:=by unfold Addr.add;split<;>rfl
 rw[hb.cell (p:=(⟨b,f+k*4,none⟩:Addr).add j) (by rw[ea];exact hlt)];exact h2 j v hj
def RunAt(W0 wr:World)(eb:Addr)(b g:Nat)(c:Cf)(n:Nat)(x:Mo):Prop:=
 ∃own a d s,KF wr W0.heap.size eb b own g c x a d (1800*n) (10*n)∧KSim c x a d s∧Below W0.heap.size W0 wr
section
variable {W0 wr wr':World}{eb:Addr}{b g:Nat}{c:Cf}{n:Nat}{x:Mo}
theorem RunAt.bel(h:RunAt W0 wr eb b g c n x):Below W0.heap.size W0 wr:=by
 obtain⟨own,a,d,s,_,_,h⟩:=h;exact h
theorem RunAt.chg0(h:RunAt W0 wr eb b g c n x)(hc:Chg NoS wr wr'):RunAt W0 wr' eb b g c n x:=by
 obtain⟨own,a,d,s,j,i,f⟩:=h;exact⟨own,a,d,s,j.chg0 hc,i,f.trans (hc.below (fun _ e=>e.elim) f.size)⟩
theorem RunAt.cells(h:RunAt W0 wr eb b g c n x):FlB wr b c g (Classical.choose (Classical.choose_spec h)) (Classical.choose (Classical.choose_spec (Classical.choose_spec h))):=by
 obtain⟨s,a,_⟩:=Classical.choose_spec (Classical.choose_spec (Classical.choose_spec h));exact a.fl
theorem RunAt.cell0(h:RunAt W0 wr eb b g c n x):wr.cell? ⟨b,0,none⟩=some (.int .i64 c.f):=cC h.cells 0 _ rfl
theorem RunAt.cell7(h:RunAt W0 wr eb b g c n x):wr.cell? ⟨b,7,none⟩=some (.pointer (some ⟨g,0,none⟩)):=cC h.cells 7 _ rfl
theorem RunAt.conf(h:RunAt W0 wr eb b g c n x):iL c=true:=by
 obtain⟨own,a,d,s,e,f,i⟩:=h;rw[←e.cf];exact e.kw.ok.conf
theorem RunAt.step(h:RunAt W0 wr eb b g c n x)(hn:n≤10000000)(o:St)(ho:nL o):
 Calls prog 15 #[.pointer (some ⟨b,0,none⟩),.agg #[.int .i64 o.kind,.int .i64 o.x,.int .i64 o.y,.int .i64 o.z]] wr fun r W'=>r= .returned (.tuple #[])∧∃y,RunAt W0 W' eb b g c (n+1) y:=by
 obtain⟨own,a,d,s,f,m,i⟩:=h;refine(aGD f (by omega) (by omega) ho).mono ?_;rintro r W' ⟨q,u,j,v,A⟩;obtain⟨l,t⟩:=aE3 f.kw.ok m o (by omega);refine⟨q,_,u,_,_,l,?_,t,i.trans (v.below (fun k hk=>?_) i.size)⟩
 ·have w:(1800:Int)*((n+1:Nat):Int)=1800*n+1800:=by omega
  have p:(10:Int)*((n+1:Nat):Int)=10*n+10:=by omega
  rw[w,p];exact j
 ·rcases hk with e|e
  ·rw[e];exact f.bB
  ·exact f.kw.ow k e
end
theorem aFw{W0 W1 W2:World}{eb:Addr}(hgl:GlAt W0 W0.heap.size eb){c:Cf}(hc:iL c=true)(hr:aCv c){b:Nat}{own:Nat→Nat}{g:Nat}(hc1:Chg NoS W0 W1)(h:FlW W2 b own g c (lI c) (fun _ _=>0) (fun _=>false))(ho:∀k,own k≠0→W1.heap.size≤k)(hb:W1.heap.size≤b)(hc2:Chg NoS W1 W2):RunAt W0 W2 eb b g c 0 (lI c):=by
 have a:=hc1.trans hc2 (fun _ _ e=>e);have d:=hc1.size;exact⟨own,_,_,pU,⟨⟨h.mo,hgl.kept a (fun _ e=>e.elim),fun k hk=>bU d (ho k hk),MoOk.new hc⟩,h.fl,h.ob,bU d hb,rfl,fun _ _=>⟨aL _,aL _⟩⟩,aGL hr (by have:=(dO hc).2.1;omega),a.below (fun _ e=>e.elim) (aE _)⟩
end Go.Proofs.YtbbdgokdfhdpiaaGreatDoor
