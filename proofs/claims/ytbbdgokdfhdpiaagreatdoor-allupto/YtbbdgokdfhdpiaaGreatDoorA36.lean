/- A part of the proof: PMor7. -/
import Derived.Test.YtbbdgokdfhdpiaaGreatDoorA26
import Derived.Test.YtbbdgokdfhdpiaaGreatDoorA33
namespace Go.Proofs.YtbbdgokdfhdpiaaGreatDoor
set_option linter.all false
set_option maxRecDepth 100000
set_option maxHeartbeats 40000000
open Go.Proofs.Tryz Go.RowKit
theorem MOk.vl{f:Cf}{m:Mg}(h:MOk f m):aB2 m.val:=⟨h.v.t1,h.v.t2,h.v.s1,h.v.s2⟩
theorem aIr(a:Ac)(m:Mg):(jD a m).1.num=a.num:=by
 have b:∀r,(gN a r).1.num=a.num:=fun r=>by unfold gN;split<;>rfl
 unfold jD;dsimp only;split
 ·have h:=b (iT m (qE a m.lock));cases he:gN a (iT m (qE a m.lock))with
  |mk a1 hw=>
   rw[he]at h;cases hw using nB with
   |fine=>
    dsimp only at h⊢;split
    ·exact h
    ·exact h
   |full=>exact h
   |dies q=>exact h
 ·rfl
theorem aEG{x:Mo}{N:Int}(hok:MoOk N x)(hN:N≤90000000000){i:Int}(hi:dT i x.cls.length=true){m:Mg}(hm:MOk x.cf m){W:World}{F G:Nat→Prop}{b g:Nat}{av cv:Value}{net:List Mg}(hnl:(net.length:Int)≤90000000000)(hs:Sys W F G b g x.cf av cv (clM x i) net x.tr):
 Calls prog 86 #[.pointer (some ⟨b,0,none⟩),mgV m] W fun r W'=>r= .returned (.tuple #[])∧After W F G b g x.cf av cv (gQ x.cf (clM x i) m) (net++dJ (iA x.cf (clM x i) m)) (x.tr++iA x.cf (clM x i) m) W':=by
 have a:=fJ hok.conf;obtain⟨c,e⟩:=hok.cl hi;have d:=hok.tl;exact aHr W F G b g x.cf av cv (clM x i) net x.tr m hs a.1.1 a.1.2 a.2.2.2.2.1.1 a.2.2.2.2.1.2 (aAZ hok hi hN) hm.vl hm.e1 hm.e2 (by have:=hm.k1;omega)
  (fun o ho=>by
   have q:=c.on o ho;refine⟨⟨q.g1,by have:=q.g2;omega,q.t1,q.t2,q.r1,by have:=q.r2;omega,q.a1,by have:=q.a2;omega⟩,⟨q.v.t1,q.v.t2,q.v.s1,q.v.s2⟩,by have:=q.mine;omega,by have:=q.ans;omega⟩)
  (fun l=>by have:=c.core.w l;omega) (by omega) (by omega)
theorem vT{x:Mo}{N:Int}(hok:MoOk N x)(hN:N≤90000000000){i:Int}(hi:dT i x.acs.length=true){m:Mg}(hm:MOk x.cf m)(hA:m.kind=1∨m.kind=3){W:World}{F G:Nat→Prop}{B:Nat}{eb:Addr}{b g:Nat}{av cv:Value}{net:List Mg}(hnl:(net.length:Int)≤90000000000)(hs:ASys W F G b g av cv (acM x i) net x.tr)(hgl:GlAt W B eb)(hFB:∀k,F k→B≤k)(hGB:∀k,G k→B≤k):
 Calls prog 85 #[.pointer (some ⟨b,0,none⟩),mgV m] W fun e W'=>e= .returned (.int .i64 (wA (acM x i) m))∧AfterA W F G b g av cv (sD (acM x i) m) (net++dJ (mV (acM x i) m)) (x.tr++mV (acM x i) m) W':=by
 have c:=fJ hok.conf;obtain⟨a,d,j⟩:=hok.ac hi;have s:=hok.tl;have r:=c.2.2.2.2.2.2.2;have l:=a.dk.len;refine aG9 W F G B eb b g av cv (acM x i) net x.tr m hs hgl hFB hGB (a.acOk j c.2.2.2.2.2.1.1 c.2.2.2.2.2.1.2 r) (by omega) (fun h=>a.new (by omega)) a.dk.old (fun hst q hq=>?_) (aIr _ _) (fun hst=>cA (aC2 a hst d hm hA).2.2 (by decide)) hm.l1 hm.l2 (by omega) (by omega)
 ·have f:=(aC2 a hst d hm hA).1;unfold HowOk at f;dsimp only at f;rw[hq]at f;obtain⟨n,⟨p,o,t⟩,_⟩:=f;exact⟨⟨p,o,by omega⟩,n⟩
end Go.Proofs.YtbbdgokdfhdpiaaGreatDoor
