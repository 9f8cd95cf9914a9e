/- A part. -/
import Derived.Test.YtbbdgokdfhdpiaaGreatDoorA34
import Derived.Test.YtbbdgokdfhdpiaaGreatDoorA38
import Derived.Test.YtbbdgokdfhdpiaaGreatDoorA41
import Derived.Test.YtbbdgokdfhdpiaaGreatDoorA42
import Derived.Test.YtbbdgokdfhdpiaaGreatDoorA43
namespace Go.Proofs.YtbbdgokdfhdpiaaGreatDoor
set_option linter.all false
set_option maxRecDepth 100000
set_option maxHeartbeats 0
open Go.Proofs.Tryz Go.RowKit
section
variable {W:World} {n0 g0 B L:Nat}
theorem aCC{N:Int}{bP:Nat→Nat}(h:LwW W n0 g0 N B L bP)(hN:N≤10000000000)(hB:B≤100000000000){i:Nat}(hi:i<L)(n:Nat→Int)(s:ByteArray)(hk:10≤n 0)(hk':n 0≤15):
 Calls prog 73 #[.pointer (some ⟨g0,0,none⟩),.pointer (some ⟨bP i,0,none⟩),.agg (opL n s).toArray] W fun e W'=>e= .returned (.bool true)∧LwW W' n0 g0 N (B+1) L bP∧Below n0 W W':=by
 obtain⟨p,P,w,z,A,C,G,D,F,a,m,o,l,v,t,u,rfl,d,b⟩:=h;have O:=b.nx;have Q:=b.lR;have K:=b.lM;have M:=b.lE;have H:=b.n0;have I:n 0=10∨n 0=11∨n 0=12∨n 0=13∨n 0=14∨n 0=15:=by omega
 rcases I with e|e|e|e|e|e
 ·refine(aHJ u hi (d i hi) hN (by omega) (by omega) n s e).mono ?_;rintro r W' ⟨j,c,x,E,k,f,J,y,g⟩;exact⟨j,⟨c,P,w,z,A,x,E,D,F,a+1,m,k,l,v,t,f,rfl,d,H,by omega,by omega,by omega,by omega,b.kR,fun q hq=>(y q hq).elim (b.kM q) (fun h=>by omega),b.kE⟩,g⟩
 ·refine(aCU u hi (d i hi) hN (by omega) (by omega) n s e).mono ?_;rintro r W' ⟨j,c,x,E,k,f,J,y,g⟩;exact⟨j,⟨c,P,w,z,A,C,G,x,E,a+1,m,o,k,v,t,f,rfl,d,H,by omega,by omega,by omega,by omega,b.kR,b.kM,fun q hq=>(y q hq).elim (b.kE q) (fun h=>by omega)⟩,g⟩
 ·refine(aEH u hi (d i hi) hN (by omega) n s e).mono ?_;rintro r W' ⟨j,f,g⟩;exact⟨j,⟨p,P,w,z,A,C,G,D,F,a,m,o,l,v,t,f,rfl,d,b.mono (aL _) (by omega)⟩,g⟩
 ·refine(aGi u hi (d i hi) hN (by omega) n s e).mono ?_;rintro r W' ⟨j,f,g⟩;exact⟨j,⟨p,P,w,z,A,C,G,D,F,a,m,o,l,v,t,f,rfl,d,b.mono (aL _) (by omega)⟩,g⟩
 ·refine(aDS u hi (d i hi) hN (by omega) (by omega) n s e).mono ?_;rintro r W' ⟨j,c,x,E,k,f,J,y,g⟩;exact⟨j,⟨c,P,w,x,E,C,G,D,F,a+1,k,o,l,v,t,f,rfl,d,H,by omega,by omega,by omega,by omega,fun q hq=>(y q hq).elim (b.kR q) (fun h=>by omega),b.kM,b.kE⟩,g⟩
 ·refine(aHM u hi (d i hi) hN (by omega) n s e).mono ?_;rintro r W' ⟨j,f,g⟩;exact⟨j,⟨p,P,w,z,A,C,G,D,F,a,m,o,l,v,t,f,rfl,d,b.mono (aL _) (by omega)⟩,g⟩
theorem aAO{eb:Addr}{N:Int}{bP:Nat→Nat}(h:LwW W n0 g0 N B L bP)(hgl:GlAt W n0 eb)(hN:N≤10000000000){i:Nat}(hi:i<L)(n:Nat→Int)(s:ByteArray)(hk:(5≤n 0∧n 0≤9)∨(16≤n 0∧n 0≤19))(hn18:n 18≤9223372036854775807):
 Calls prog 74 #[.pointer (some ⟨bP i,0,none⟩),.agg (opL n s).toArray] W fun e W'=>e= .returned (.bool true)∧LwW W' n0 g0 (N+6) B L bP∧Below n0 W W':=by
 obtain⟨a0,P,O,H,I,J,R,K,Q,r,z,A,v,M,G,u,rfl,d,U⟩:=h;have T:∀(e:Ending) (W':World),(e= .returned (.bool true)∧∃p F E,LwAt W' n0 p g0 (P.set i (F,E)) O H I J R K Q r z A v bP M G∧PairOk false (N+6) F E∧Below n0 W W')→
  e= .returned (.bool true)∧LwW W' n0 g0 (N+6) B P.length bP∧Below n0 W W':=by
  rintro e W' ⟨Y,p,F,E,f,g,X⟩;refine⟨Y,⟨p,P.set i (F,E),O,H,I,J,R,K,Q,r,z,A,v,M,G,f,bV,fun j hj=>?_,U.mono (by omega) (aE _)⟩,X⟩;rw[List.getElem_set];by_cases D:i=j
  ·rw[if_pos D];exact g
  ·rw[if_neg D];exact(d j (by rw[bV]at hj;exact hj)).mono (by omega)
 have S:n 0=5∨n 0=6∨n 0=7∨n 0=8∨n 0=9∨n 0=16∨n 0=17∨n 0=18∨n 0=19:=by omega
 have o:=(d i hi).sim.ok (d i hi).ok;have C:P[i].2.cf.room≤2000:=by rw[(d i hi).sim.cf];exact(fL (d i hi).ok.conf).2.2.2.2.2.2.2
 have k:∀{x:Mo} {y:Rm} (q:PairOk false (N+6) x y) (e:Ending) (W':World),(e= .returned (.bool true)∧∃p,LwAt W' n0 p g0 (P.set i (x,y)) O H I J R K Q r z A v bP M G∧Below n0 W W')→e= .returned (.bool true)∧LwW W' n0 g0 (N+6) B P.length bP∧Below n0 W W':=
  fun q e W' ⟨a,l,b,c⟩=>T e W' ⟨a,l,_,_,b,q,c⟩
 rcases S with e|e|e|e|e|e|e|e|e
 ·obtain⟨f,g⟩:=aE3 (d i hi) (n 17) (n 18) (n 19) (n 20);exact(lA u hgl hi n s (by simp[e];rfl) (fun Z ox m gl w=>aFh Z ox _ _ N (n 17) (n 18) (n 19) (n 20) m (d i hi).ok (by omega)) (fun Z oy V m=>by have t:=aF0 Z oy _ _ V N (n 17) (n 18) (n 19) (n 20) m o (by omega);rw[f]at t;exact t.mono (fun _ _ h=>⟨h.1,h.2.go⟩))).mono (k g)
 ·obtain⟨f,g⟩:=aG8 (d i hi) (n 17);exact(lA u hgl hi n s (by simp[e];rfl) (fun Z ox m gl w=>aIe Z ox _ _ N (n 17) m (d i hi).ok (by omega)) (fun Z oy V m=>by have t:=aH4 Z oy _ _ V N (n 17) m o (by omega);rw[f]at t;exact t.mono (fun _ _ h=>⟨h.1,h.2.go⟩))).mono (k g)
 ·obtain⟨f,g⟩:=aCT (d i hi) (n 17);exact(lA u hgl hi n s (by simp[e];rfl) (fun Z ox m gl w=>aCV Z ox _ n0 eb _ N (n 17) m gl w (d i hi).ok (by omega)) (fun Z oy V m=>by have t:=aCJ Z oy _ _ V N (n 17) m o (by omega) C;rw[f]at t;exact t.mono (fun _ _ h=>⟨h.1,h.2.go⟩))).mono (k g)
 ·obtain⟨f,g⟩:=aG6 (d i hi) (n 17);exact(lA u hgl hi n s (by simp[e];rfl) (fun Z ox m gl w=>aGY Z ox _ _ N (n 17) m (d i hi).ok (by omega)) (fun Z oy V m=>by have t:=aHS Z oy _ _ V N (n 17) m o (by omega);rw[f]at t;exact t.mono (fun _ _ h=>⟨h.1,h.2.go⟩))).mono (k g)
 ·obtain⟨f,g⟩:=aHG (d i hi) (n 17);exact(lA u hgl hi n s (by simp[e];rfl) (fun Z ox m gl w=>aGZ Z ox _ _ N (n 17) m (d i hi).ok (by omega)) (fun Z oy V m=>by have t:=aHH Z oy _ _ V N (n 17) m o (by omega);rw[f]at t;exact t.mono (fun _ _ h=>⟨h.1,h.2.go⟩))).mono (k g)
 ·obtain⟨f,g⟩:=aHs (d i hi) (n 17);exact(lA u hgl hi n s (by simp[e];rfl) (fun Z ox m gl w=>aHF Z ox _ _ N (n 17) m (d i hi).ok (by omega)) (fun Z oy V m=>by have t:=aHd Z oy _ _ V N (n 17) m o (by omega);rw[f]at t;exact t.mono (fun _ _ h=>⟨h.1,h.2⟩))).mono (k g)
 ·obtain⟨f,g⟩:=aDQ (d i hi) (n 17);exact(lA u hgl hi n s (by simp[e];rfl) (fun Z ox m gl w=>aEK Z ox _ _ N (n 17) m (d i hi).ok (by omega)) (fun Z oy V m=>by have t:=aD0 Z oy _ _ V N (n 17) m o (by omega);rw[f]at t;exact t.mono (fun _ _ h=>⟨h.1,h.2⟩))).mono (k g)
 ·obtain⟨f,g⟩:=aHv (d i hi) (n 17) (n 18) (n 19) hn18;exact(lA u hgl hi n s (by simp[e];rfl) (fun Z ox m gl w=>aHq Z ox _ _ N (n 17) (n 18) (n 19) m (d i hi).ok (by omega)) (fun Z oy V m=>by have t:=aIk Z oy _ _ V N (n 17) (n 18) (n 19) m o (by omega);rw[f]at t;exact t.mono (fun _ _ h=>⟨h.1,h.2.go⟩))).mono (k g)
 ·obtain⟨f,g⟩:=aFx (d i hi) (n 17);exact(lA u hgl hi n s (by simp[e];rfl) (fun Z ox m gl w=>aGk Z ox _ n0 eb _ N (n 17) m gl w (d i hi).ok (by omega)) (fun Z oy V m=>by have t:=aGp Z oy _ _ V N (n 17) m o (by omega);rw[f]at t;exact t.mono (fun _ _ h=>⟨h.1,h.2.go⟩))).mono (k g)
end
theorem LwW.list{W:World}{n0 g0 B L:Nat}{N:Int}{bP:Nat→Nat}(h:LwW W n0 g0 N B L bP):∃(p:Option Addr) (cap:Nat),W.cell? ⟨g0,0,none⟩=some (.slice p L cap)∧∀i,i<L→∃k,p=some ⟨k,0,none⟩∧W.cell? ⟨k,i,none⟩=some (fG (bP i)):=by
 obtain⟨e,P,t,m,n,o,v,q,u,b,f,g,d,s,l,a,rfl,r,j⟩:=h;obtain⟨p,cap,rfl,c⟩:=fK a.pr.row;exact⟨p,cap,cO a.hg 0 _ rfl,c⟩
theorem yU{W1:World}{b:Nat}{n:Nat→Int}{s:ByteArray}(hbx:W1.heap[b]?=some (.cells (opL n s).toArray 83 (0,0))):∀j v,(opL n s)[j]?=some v→W1.cell? ((⟨b,0,none⟩:Addr).add j)=some v:=by
 intro j v a;have e:((⟨b,0,none⟩:Addr).add j)=⟨b,0+j,none⟩:=by cases j<;>rfl
 rw[e,Nat.zero_add];exact cO hbx j v (by simpa using a)
theorem aG9{W:World}{n0 g0 B L:Nat}{N:Int}{bP:Nat→Nat}(h:LwW W n0 g0 N B L bP)(hL1:1≤L)(hL:L≤100000000)(hN:N≤10000000000)(hB:B≤100000000000)(n:Nat→Int)(s:ByteArray)(hk:10≤n 0)(hk':n 0≤15):
 Calls prog 30 #[.pointer (some ⟨g0,0,none⟩),.agg (opL n s).toArray] W fun e w'=>e= .returned (.bool true)∧LwW w' n0 g0 N (B+1) L bP∧Below n0 W w':=by
 have K:=h.size;have b:=aA W (.cells (opL n s).toArray 83);have a:Chg NoS W (W.alloc (.cells (opL n s).toArray 83)):=(Chg.refl _ _).alloc _;generalize c:W.alloc (.cells (opL n s).toArray 83)=W1 at b a;have o:=cN c;have j:=h.kept a;have Q:W1.cell? ⟨W.heap.size,0,none⟩=some (.int .i64 (n 0)):=cO b 0 (.int .i64 (n 0)) rfl;have C:W1.cell? ⟨W.heap.size,1,none⟩=some (.int .i64 (n 1)):=cO b 1 (.int .i64 (n 1)) rfl;have E:=cN (yU b);have g:Below n0 W W1:=⟨a.os,a.tape,a.output,a.size,fun k hk=>a.block k (by omega) (fun h=>h)⟩;obtain⟨p,l,m,u⟩:=j.list;obtain⟨y,rfl,A⟩:=u (pickOf (n 1) L) (pF _ hL1);have d:=pF (n 1) hL1;have t:=cN (aCC (j.kept ((Chg.refl NoS W1).drew)) hN hB d n s hk hk');have w:=cN (fun x=>aBL (n 1) L x);have D:=cN g.drew;generalize pickOf (n 1) L=i at A d t w;have P:(decide (n 0<1))=false:=by simp;omega
 have g:¬n 0=1:=by omega
 have I:¬n 0=2:=by omega
 have M:¬n 0=3:=by omega
 have J:¬n 0=4:=by omega
 have G:¬(L:Int)=0:=by omega
 have H:((L:Int)==0)=false:=by simp;omega
 have F:¬19<n 0:=by omega
 clear h j b a c u;go_enter func30,ntmps30;go_wp2_with (first|rw[o.out]);refine rlx [0,0,0,1,0,1,0,0,0,1,1,1,0,1,0] (fun z=>z.cell? ⟨g0,0,none⟩=some (.slice (some ⟨y,0,none⟩) L l)∧z.cell? ⟨W.heap.size,1,none⟩=some (.int .i64 (n 1))∧z.cell? ⟨y,i,none⟩=some (fG (bP i))) (by kernel_rfl) (fun _ _ _ _=>rfl) ?_ ?_
 ·exact⟨m,C,A⟩
 simp only[dC,dB];iterate 11 (apply sB rfl rfl;·(intro x h;(try have h:=h rfl);(try dsimp only at h);go_simp;with_reducible rfl))
 try simp only[pA]
 refine eW (v:=.int .i64 (i:Int)) (f:=72) (args:=#[.int .i64 (n 1),.int .i64 (L:Int)]) rfl (fun x hx=>by go_simp;try rfl) (fun x hx=>w.out x) ?_;(try simp only[pA]);iterate 3 (apply sB rfl rfl;·(intro x h;(try have h:=h rfl);(try dsimp only at h);go_simp;with_reducible rfl))
 refine cP ?_;try simp only[pA]
 go_wp2_with (first
  |(go_at_call 73;refine t.out.mono ?_;rintro e O ⟨rfl,q⟩;have r:=cN q;clear q;refine cQ ?_)
  |(refine cW rfl 83 (.tmp 3) rfl ⟨W.heap.size,0,none⟩ rfl (opL n s) _ E.out underlying83 rfl (by kernel_rfl) ?_))
 refine cN ?_;go_wp2;go_ret;exact⟨rfl,r.out.1,D.out.trans r.out.2⟩
theorem aEt{W:World}{n0 g0 B L:Nat}{N:Int}{bP:Nat→Nat}(h:LwW W n0 g0 N B L bP)(hL1:1≤L)(hL:L≤100000000){eb:Addr}(hgl:GlAt W n0 eb)(hN:N≤10000000000)(n:Nat→Int)(s:ByteArray)(hk:5≤n 0)(hk':n 0≤9)(hn18:n 18≤9223372036854775807):
 Calls prog 30 #[.pointer (some ⟨g0,0,none⟩),.agg (opL n s).toArray] W fun e w'=>e= .returned (.bool true)∧LwW w' n0 g0 (N+6) B L bP∧Below n0 W w':=by
 have O:=h.size;have b:=aA W (.cells (opL n s).toArray 83);have a:Chg NoS W (W.alloc (.cells (opL n s).toArray 83)):=(Chg.refl _ _).alloc _;generalize c:W.alloc (.cells (opL n s).toArray 83)=W1 at b a;have r:=cN c;have l:=h.kept a;have S:W1.cell? ⟨W.heap.size,0,none⟩=some (.int .i64 (n 0)):=cO b 0 (.int .i64 (n 0)) rfl;have D:W1.cell? ⟨W.heap.size,1,none⟩=some (.int .i64 (n 1)):=cO b 1 (.int .i64 (n 1)) rfl;have E:=cN (yU b);have j:Below n0 W W1:=⟨a.os,a.tape,a.output,a.size,fun k hk=>a.block k (by omega) (fun h=>h)⟩;obtain⟨p,m,o,w⟩:=l.list;obtain⟨A,rfl,C⟩:=w (pickOf (n 1) L) (pF _ hL1);have d:=pF (n 1) hL1;have g:GlAt W1.drew n0 eb:=(hgl.kept a (fun _ h=>h.elim)).kept ((Chg.refl NoS W1).drew) (fun _ h=>h.elim);have u:=cN (aAO (l.kept ((Chg.refl NoS W1).drew)) g hN d n s (by omega) hn18);have y:=cN (fun x=>aBL (n 1) L x);have F:=cN j.drew;generalize pickOf (n 1) L=i at C d u y;have R:(decide (n 0<1))=false:=by simp;omega
 have j:¬n 0=1:=by omega
 have K:¬n 0=2:=by omega
 have P:¬n 0=3:=by omega
 have M:¬n 0=4:=by omega
 have H:¬(L:Int)=0:=by omega
 have I:((L:Int)==0)=false:=by simp;omega
 have J:¬10≤n 0:=by omega
 have G:¬19<n 0:=by omega
 clear h l hgl g b a c w;go_enter func30,ntmps30;go_wp2_with (first|rw[r.out]);refine rlx [0,0,0,1,0,1,0,0,0,1,1,1,0,1,0] (fun z=>z.cell? ⟨g0,0,none⟩=some (.slice (some ⟨A,0,none⟩) L m)∧z.cell? ⟨W.heap.size,1,none⟩=some (.int .i64 (n 1))∧z.cell? ⟨A,i,none⟩=some (fG (bP i))) (by kernel_rfl) (fun _ _ _ _=>rfl) ?_ ?_
 ·exact⟨o,D,C⟩
 simp only[dC,dB];iterate 11 (apply sB rfl rfl;·(intro x h;(try have h:=h rfl);(try dsimp only at h);go_simp;with_reducible rfl))
 try simp only[pA]
 refine eW (v:=.int .i64 (i:Int)) (f:=72) (args:=#[.int .i64 (n 1),.int .i64 (L:Int)]) rfl (fun x hx=>by go_simp;try rfl) (fun x hx=>y.out x) ?_;(try simp only[pA]);iterate 3 (apply sB rfl rfl;·(intro x h;(try have h:=h rfl);(try dsimp only at h);go_simp;with_reducible rfl))
 refine cP ?_;try simp only[pA]
 go_wp2_with (first
  |(go_at_call 74;refine u.out.mono ?_;rintro e Q ⟨rfl,q⟩;have t:=cN q;clear q;refine cQ ?_)
  |(refine cW rfl 83 (.tmp 3) rfl ⟨W.heap.size,0,none⟩ rfl (opL n s) _ E.out underlying83 rfl (by kernel_rfl) ?_))
 refine cN ?_;go_wp2;go_ret;exact⟨rfl,t.out.1,F.out.trans t.out.2⟩
theorem aDU{W:World}{n0 g0 B L:Nat}{N:Int}{bP:Nat→Nat}(h:LwW W n0 g0 N B L bP)(hL1:1≤L)(hL:L≤100000000){eb:Addr}(hgl:GlAt W n0 eb)(hN:N≤10000000000)(n:Nat→Int)(s:ByteArray)(hk:16≤n 0)(hk':n 0≤19)(hn18:n 18≤9223372036854775807):
 Calls prog 30 #[.pointer (some ⟨g0,0,none⟩),.agg (opL n s).toArray] W fun e w'=>e= .returned (.bool true)∧LwW w' n0 g0 (N+6) B L bP∧Below n0 W w':=by
 have O:=h.size;have b:=aA W (.cells (opL n s).toArray 83);have a:Chg NoS W (W.alloc (.cells (opL n s).toArray 83)):=(Chg.refl _ _).alloc _;generalize c:W.alloc (.cells (opL n s).toArray 83)=W1 at b a;have r:=cN c;have l:=h.kept a;have S:W1.cell? ⟨W.heap.size,0,none⟩=some (.int .i64 (n 0)):=cO b 0 (.int .i64 (n 0)) rfl;have D:W1.cell? ⟨W.heap.size,1,none⟩=some (.int .i64 (n 1)):=cO b 1 (.int .i64 (n 1)) rfl;have E:=cN (yU b);have j:Below n0 W W1:=⟨a.os,a.tape,a.output,a.size,fun k hk=>a.block k (by omega) (fun h=>h)⟩;obtain⟨p,m,o,w⟩:=l.list;obtain⟨A,rfl,C⟩:=w (pickOf (n 1) L) (pF _ hL1);have d:=pF (n 1) hL1;have g:GlAt W1.drew n0 eb:=(hgl.kept a (fun _ h=>h.elim)).kept ((Chg.refl NoS W1).drew) (fun _ h=>h.elim);have u:=cN (aAO (l.kept ((Chg.refl NoS W1).drew)) g hN d n s (by omega) hn18);have y:=cN (fun x=>aBL (n 1) L x);have F:=cN j.drew;generalize pickOf (n 1) L=i at C d u y;have R:(decide (n 0<1))=false:=by simp;omega
 have j:¬n 0=1:=by omega
 have K:¬n 0=2:=by omega
 have P:¬n 0=3:=by omega
 have M:¬n 0=4:=by omega
 have H:¬(L:Int)=0:=by omega
 have I:((L:Int)==0)=false:=by simp;omega
 have J:¬n 0≤15:=by omega
 have G:¬19<n 0:=by omega
 clear h l hgl g b a c w;go_enter func30,ntmps30;go_wp2_with (first|rw[r.out]);refine rlx [0,0,0,1,0,1,0,0,0,1,1,1,0,1,0] (fun z=>z.cell? ⟨g0,0,none⟩=some (.slice (some ⟨A,0,none⟩) L m)∧z.cell? ⟨W.heap.size,1,none⟩=some (.int .i64 (n 1))∧z.cell? ⟨A,i,none⟩=some (fG (bP i))) (by kernel_rfl) (fun _ _ _ _=>rfl) ?_ ?_
 ·exact⟨o,D,C⟩
 simp only[dC,dB];iterate 11 (apply sB rfl rfl;·(intro x h;(try have h:=h rfl);(try dsimp only at h);go_simp;with_reducible rfl))
 try simp only[pA]
 refine eW (v:=.int .i64 (i:Int)) (f:=72) (args:=#[.int .i64 (n 1),.int .i64 (L:Int)]) rfl (fun x hx=>by go_simp;try rfl) (fun x hx=>y.out x) ?_;(try simp only[pA]);iterate 3 (apply sB rfl rfl;·(intro x h;(try have h:=h rfl);(try dsimp only at h);go_simp;with_reducible rfl))
 refine cP ?_;try simp only[pA]
 go_wp2_with (first
  |(go_at_call 74;refine u.out.mono ?_;rintro e Q ⟨rfl,q⟩;have t:=cN q;clear q;refine cQ ?_)
  |(refine cW rfl 83 (.tmp 3) rfl ⟨W.heap.size,0,none⟩ rfl (opL n s) _ E.out underlying83 rfl (by kernel_rfl) ?_))
 refine cN ?_;go_wp2;go_ret;exact⟨rfl,t.out.1,F.out.trans t.out.2⟩
theorem LwW.below{W W':World}{n0 g0 B L:Nat}{N:Int}{bP:Nat→Nat}(h:LwW W n0 g0 N B L bP)(hb:Below W.heap.size W W'):LwW W' n0 g0 N B L bP:=h.kept (Chg.below' hb)
theorem GlAt.bel{W W':World}{n0:Nat}{eb:Addr}(h:GlAt W n0 eb)(hb:Below n0 W W'):GlAt W' n0 eb:=h.of_heap hb.size (fun k hk=>hb.block k hk)
theorem aIf{W:World}{n0 g0 B L:Nat}{N:Int}{bP:Nat→Nat}(h:LwW W n0 g0 N B L bP)(hL1:1≤L)(hL:L≤90000000){eb:Addr}(hgl:GlAt W n0 eb)(hN:N≤10000000000)(hB:B≤100000000000)(n:Nat→Int)(s:ByteArray)(hs:s.size≤1000000000000)(hk:1≤n 0)(hk':n 0≤19)(hn18:n 18≤9223372036854775807):
 Calls prog 30 #[.pointer (some ⟨g0,0,none⟩),.agg (opL n s).toArray] W fun e w'=>e= .returned (.bool true)∧(∃L' bP',L'≤L+1∧L≤L'∧LwW w' n0 g0 (N+6) (B+1) L' bP')∧Below n0 W w':=by
 have f:=h.size;have i:n 0=1∨n 0=2∨n 0=3∨n 0=4∨(5≤n 0∧n 0≤9)∨(10≤n 0∧n 0≤15)∨16≤n 0:=by omega
 rcases i with e|e|e|e|⟨e,g⟩|⟨e,g⟩|e
 ·refine(aEh _ n s e W).mono ?_;rintro r d ⟨b,a⟩;exact⟨b,⟨L,bP,by omega,aE _,(h.below a).mono (by omega) (by omega)⟩,a.mono f⟩
 ·unfold opL;rw[e];refine(aEl (some ⟨g0,0,none⟩) _ _ _ _ _ _ _ _ ⟨n 9,n 10,n 11,n 12,n 13,n 14,n 15⟩ s _ _ _ _ W).mono ?_;rintro r d ⟨b,a⟩;exact⟨b,⟨L,bP,by omega,aE _,(h.below a).mono (by omega) (by omega)⟩,a.mono f⟩
 ·refine(aC6 h hB n s hs e).mono ?_;rintro r d ⟨b,c,a⟩;exact⟨b,⟨L,bP,by omega,aE _,c.mono (by omega) (by omega)⟩,a⟩
 ·refine(aF3 h (by omega) n s e).mono ?_;rintro r d ⟨b,⟨L',bP',k,j,l⟩,a⟩;exact⟨b,⟨L',bP',k,j,l.mono (by omega) (by omega)⟩,a⟩
 ·refine(aEt h hL1 (by omega) hgl hN n s e g hn18).mono ?_;rintro r d ⟨b,c,a⟩;exact⟨b,⟨L,bP,by omega,aE _,c.mono (by omega) (by omega)⟩,a⟩
 ·refine(aG9 h hL1 (by omega) hN hB n s e g).mono ?_;rintro r d ⟨b,c,a⟩;exact⟨b,⟨L,bP,by omega,aE _,c.mono (by omega) (by omega)⟩,a⟩
 ·refine(aDU h hL1 (by omega) hgl hN n s e hk' hn18).mono ?_;rintro r d ⟨b,c,a⟩;exact⟨b,⟨L,bP,by omega,aE _,c.mono (by omega) (by omega)⟩,a⟩
def EndAt(W wr:World)(n0 g0:Nat)(N:Int)(B L:Nat)(bP:Nat→Nat):Prop:=LwW wr n0 g0 N B L bP∧Below n0 W wr
theorem EndAt.ask{W wr:World}{n0 g0:Nat}{N:Int}{B L:Nat}{bP:Nat→Nat}(h:EndAt W wr n0 g0 N B L bP)(hN:N≤10000000000)(hB:B≤100000000000){i:Nat}(hi:i<L)(k X Y:Int)(hk:10≤k)(hk':k≤15)(s:ByteArray):
 Calls prog 73 #[.pointer (some ⟨g0,0,none⟩),.pointer (some ⟨bP i,0,none⟩),.agg #[.int .i64 k,.int .i64 0,.int .i64 0,.int .i64 0,.int .i64 0,.int .i64 0,.int .i64 0,.int .i64 0,.int .i64 0,.int .i64 0,.int .i64 0,.int .i64 0,.int .i64 0,.int .i64 0,.int .i64 0,.int .i64 0,.string s,.int .i64 X,.int .i64 Y,.int .i64 0,.int .i64 0]] wr
  fun e W'=>e= .returned (.bool true)∧EndAt W W' n0 g0 N (B+1) L bP:=by
 have a:=aCC h.1 hN hB hi (fun j=>if j=0 then k else if j=17 then X else if j=18 then Y else 0) s hk hk';exact a.mono fun e W' ⟨he,hw,hb⟩=>⟨he,hw,h.2.trans hb⟩
theorem aIK{W:World}{n0 g0 B L:Nat}{N:Int}{bP:Nat→Nat}(h:LwW W n0 g0 N B L bP)(hL:L≤100000000)(hN:N≤10000000000)(hB:B≤1000000000):
 Calls prog 31 #[.pointer (some ⟨g0,0,none⟩)] W fun e W'=>e= .returned (.bool true)∧LwW W' n0 g0 N (B+42*L) L bP∧Below n0 W W':=by
 have f:=cN (show EndAt W W n0 g0 N B L bP from⟨h,aJ _ _⟩);clear h;go_enter func31,ntmps31;go_wp2_with fail;go_loopw [3] (fun i wr=>∃(k:Nat),k≤L∧i= .int .i64 k∧Hid (EndAt W wr n0 g0 N (B+42*k) L bP)) (fun i _=>L-(intOf i).toNat)
 case atStart=>exact⟨0,by omega,rfl,f⟩
 case round=>
  clear f;obtain⟨k,C,rfl,a⟩:=hrel;obtain⟨p,y,d,j⟩:=a.out.1.list;by_cases b:k<L
  ·obtain⟨F,rfl,w⟩:=j k b;have r:(k:Int)<(L:Int):=by omega
   clear j;go_wp2_with fail;go_loopw [5] (fun i wr=>∃(q:Nat),q≤6∧i= .int .i64 ((q:Int)+10)∧Hid (EndAt W wr n0 g0 N (B+42*k+7*q) L bP)) (fun i _=>16-(intOf i).toNat)
   case atStart=>exact⟨0,by omega,rfl,a⟩
   case round=>
    clear a d w;obtain⟨q,D,rfl,a⟩:=hrel;by_cases x:q<6
    ·have u:(q:Int)+10≤15:=by omega
     go_wp2_with fail;go_loopw [6] (fun i wr=>∃(m:Nat),m≤7∧i= .int .i64 ((m:Int)-1)∧Hid (EndAt W wr n0 g0 N (B+42*k+7*q+m) L bP)) (fun i _=>7-((intOf i)+1).toNat)
     case atStart=>exact⟨0,by omega,rfl,a⟩
     case round=>
      clear a;obtain⟨m,E,rfl,a⟩:=hrel;by_cases z:m<7
      ·have v:(m:Int)-1≤5:=by omega
       have o:=cN (fun X Y s=>a.out.ask hN (by omega) b ((q:Int)+10) X Y (by omega) (by omega) s);go_wp2_with (first|(go_at_call 73;refine(o.out _ _ _).mono ?_;rintro e A ⟨rfl,g⟩;have l:=cN g;clear g));go_roundw
       case rel=>exact⟨m+1,by omega,by go_num,l⟩
       case measure=>simp[intOf];omega
      ·have v:¬(m:Int)-1≤5:=by omega
       have t:m=7:=by omega
       subst t;go_wp2_with fail;go_roundw
       case rel=>exact⟨q+1,by omega,by go_num,a⟩
       case measure=>simp[intOf];omega
    ·have u:¬(q:Int)+10≤15:=by omega
     have n:q=6:=by omega
     subst n;go_wp2_with fail;go_roundw
     case rel=>exact⟨k+1,by omega,by go_num,a⟩
     case measure=>simp[intOf];omega
  ·have r:¬(k:Int)<(L:Int):=by omega
   have c:k=L:=by omega
   go_wp2_with fail;go_ret;rw[←c];exact⟨rfl,by rw[c];rw[c]at a;exact a.out.1,a.out.2⟩
def PlayW(w wr:World)(k:Nat):Prop:=∃L bP,1≤L∧L≤1+k∧LwW wr w.heap.size w.heap.size (6*(k:Int)) k L bP∧Below w.heap.size w wr
theorem PlayW.below{w wr:World}{k:Nat}(h:PlayW w wr k):Below w.heap.size w wr:=by
 obtain⟨L,b,d,c,e,a⟩:=h;exact a
theorem PlayW.next{w wr:World}{k:Nat}(h:PlayW w wr k):PlayW w wr (k+1):=by
 obtain⟨L,a,c,e,d,b⟩:=h;exact⟨L,a,c,by omega,d.mono (by omega) (by omega),b⟩
theorem aI0(w:World):LwW (w.alloc W0) w.heap.size w.heap.size 0 0 0 (fun _=>0):=by
 have e:=aA w W0;have j:(w.alloc W0).heap.size=w.heap.size+1:=by simp
 have c:∀t sz,(w.alloc W0).ownsRow 0 t sz (.slice none 0 0) 0 []:=fun t sz=>aZ _ _ _ _;have d:∀(t:TypeId) (f:Int→List Value) (sz a:Nat) (lab:Nat→Nat),StK t f sz a (w.alloc W0) lab (.slice none 0 0) (.slice none 0 0) []:=fun t f sz a lab=>
  ⟨c _ _,c _ _,(fun k b=>by cases b),(fun k b=>by cases b),(fun q hq=>by cases hq),(fun q hq=>by cases hq)⟩
 refine⟨fun k=>if k<w.heap.size then 10 else if k=w.heap.size then 1 else 0,[],.slice none 0 0,.slice none 0 0,.slice none 0 0,.slice none 0 0,.slice none 0 0,.slice none 0 0,.slice none 0 0,0,[],[],[],fun _=>0,fun _=>0,⟨?_,?_,?_,?_,⟨c _ _,(fun k b=>by cases b),(fun i hi=>absurd hi (Nat.not_lt_zero _)),(fun i hi=>absurd hi (Nat.not_lt_zero _)),(fun i hi=>absurd hi (Nat.not_lt_zero _)),(fun i hi=>absurd hi (Nat.not_lt_zero _))⟩,d _ _ _ _ _,d _ _ _ _ _,d _ _ _ _ _⟩,rfl,(fun i hi=>absurd hi (Nat.not_lt_zero _)),aL _,aE _,aE _,aE _,aE _,(fun q hq=>by cases hq),(fun q hq=>by cases hq),(fun q hq=>by cases hq)⟩
 ·rw[e];rfl
 ·simp
 ·intro k b;rw[j];by_cases h:k<w.heap.size
  ·omega
  ·by_cases g:k=w.heap.size
   ·omega
   ·simp[h,g]at b
 ·intro k b;simp[b]
section
variable {w wr:World} {k:Nat}
theorem PlayW.looks(hk:k≤10000000){B L:Nat}{bP:Nat→Nat}(hB:B≤100000000000)(h:LwW wr w.heap.size w.heap.size (6*(k:Int)) B L bP):
 Calls prog 32 #[.pointer (some ⟨w.heap.size,0,none⟩)] wr fun e w'=>e= .returned (.bool true)∧Below wr.heap.size wr w':=by
 obtain⟨f,P,o,j,l,m,r,n,p,b,g,i,d,y,u,c,s,x,a⟩:=h;have z:=a.lR;have t:=a.lM;have v:=a.lE;exact aGc wr f w.heap.size o j l m r n p b g i d c.hg c.R c.M c.E (by omega) (by omega) (by omega) (fun q hq=>by have:=a.kR q hq;omega) (fun q hq=>by have:=a.kM q hq;omega) (fun q hq=>by have:=a.kE q hq;omega)
theorem PlayW.step{eb:Addr}(h:PlayW w wr k)(hgl:GlAt w w.heap.size eb)(hk:k≤10000000)(n:Nat→Int)(s:ByteArray)(hs:s.size≤1000000000000)(h0:1≤n 0)(h1:n 0≤19)(h18:n 18≤9223372036854775807):
 Calls prog 30 #[.pointer (some ⟨w.heap.size,0,none⟩),.agg (opL n s).toArray] wr fun e w'=>e= .returned (.bool true)∧PlayW w w' (k+1):=by
 obtain⟨L,m,c,o,g,b⟩:=h;refine(aIf g c (by omega) (hgl.bel b) (by omega) (by omega) n s hs h0 h1 h18).mono ?_;rintro e w' ⟨d,⟨f,a,l,p,j⟩,i⟩;exact⟨d,f,a,by omega,by omega,j.mono (by omega) (aE _),b.trans i⟩
theorem PlayW.ends(h:PlayW w wr k)(hk:k≤10000000):
 Calls prog 31 #[.pointer (some ⟨w.heap.size,0,none⟩)] wr fun e w'=>e= .returned (.bool true)∧(∃B L bP,B≤100000000000∧LwW w' w.heap.size w.heap.size (6*(k:Int)) B L bP)∧Below w.heap.size w w':=by
 obtain⟨L,bP,g,i,d,a⟩:=h;refine(aIK d (by omega) (by omega) (by omega)).mono ?_;rintro e w' ⟨c,b,f⟩;exact⟨c,⟨_,_,_,by omega,b⟩,a.trans f⟩
end
theorem aA3(w:World):Calls prog 29 #[.pointer (some ⟨w.heap.size,0,none⟩),.agg #[.int .i64 1,.int .i64 2,.int .i64 3,.int .i64 3,.int .i64 0,.int .i64 3,.int .i64 400]] (w.alloc W0) fun e w'=>e= .returned (.bool true)∧PlayW w w' 0:=by
 refine(aD5 (aI0 w) (by omega) ⟨1,2,3,3,0,3,400⟩).mono ?_;rintro e w' ⟨c,i,a,h,j,f,d,b⟩;have g:=f (by decide);subst g;exact⟨c,_,a,aE _,aE _,d,((aJ _ w).alloc (aE _) _).trans b⟩
theorem wL(lo hi:Int)(hlo:1≤lo)(hhi:4≤hi)(hhi':hi≤19)(b off len cap:Nat)(n:Nat→Nat→Int)(s:Nat→ByteArray)(w:World){eb:Addr}(hgl:GlAt w w.heap.size eb)(hb:b<w.heap.size)(hm:len≤10000000)(hops:OpsAt w ⟨b,off,none⟩ len n s)(hss:∀i,i<len→(s i).size≤1000000000000)(h18:∀i,i<len→n i 18≤9223372036854775807):
 Calls prog 12 #[.slice (some ⟨b,off,none⟩) len cap,.int .i64 lo,.int .i64 hi] w fun e w'=>e= .returned (.bool true)∧Below w.heap.size w w':=by
 have I:Hid (OpsAt w ⟨b,off,none⟩ len n s):=hops;have y:Hid (∀i,i<len→(s i).size≤1000000000000∧n i 18≤9223372036854775807):=fun i hi=>⟨hss i hi,h18 i hi⟩;have D:=cN hgl;have C:=cN (aA3 w);have J:decide (4≤hi)=true:=by simp;omega
 clear hops hss h18 hgl;go_enter func12,ntmps12;go_wp2_with (first|(go_at_call 29;refine C.out.mono ?_;rintro e Q ⟨rfl,q⟩;have u:=cN q;clear q));go_loopw [9] (fun i wr=>∃k:Nat,k≤len∧i= .int .i64 k∧Hid (PlayW w wr k)) (fun i _=>len-(intOf i).toNat)
 case atStart=>exact⟨0,aI _,rfl,u⟩
 case round=>
  clear u;obtain⟨k,N,rfl,d⟩:=hrel;by_cases c:k<len
  ·obtain⟨K,m⟩:=I.out.at_ (wr:=wr) (fun o=>d.out.below.cell (p:=⟨b,o,none⟩) hb) c;have E:Hid (∀j v,(opL (n k) (s k))[j]?=some v→wr.cell? ((⟨b,off+k*21,none⟩:Addr).add j)=some v):=m;have g:(k:Int)<(len:Int):=by omega
   clear m;by_cases P:lo≤n k 0
   ·by_cases M:n k 0≤hi
    ·have F:=cN (d.out.step D.out (by omega) (n k) (s k) (y.out k c).1 (by omega) (by omega) (y.out k c).2);go_wp2_with (first
      |(go_at_call 30;refine F.out.mono ?_;rintro e A ⟨rfl,a⟩;have h:=cN a;clear a)
      |(refine cW rfl 83 (.tmp 46) rfl ⟨b,off+k*21,none⟩ rfl (opL (n k) (s k)) _ E.out underlying83 rfl (by kernel_rfl) ?_))
     go_roundw
     case rel=>exact⟨k+1,by omega,by go_num,h⟩
     case measure=>simp[intOf];omega
    ·go_wp2;go_roundw
     case rel=>exact⟨k+1,by omega,by go_num,cN d.out.next⟩
     case measure=>simp[intOf];omega
   ·go_wp2;go_roundw
    case rel=>exact⟨k+1,by omega,by go_num,cN d.out.next⟩
    case measure=>simp[intOf];omega
  ·have H:=cN (d.out.ends (by omega));have g:¬(k:Int)<(len:Int):=by omega
   go_wp2_with (first
    |(go_at_call 31;refine H.out.mono ?_;rintro e A ⟨rfl,⟨B,L,O,z,r⟩,a⟩;have x:=cN (aLo z r);have t:=cN a;clear z r a;refine cQ ?_))
   refine cN ?_;have G:=cN (PlayW.looks (w:=w) (k:=k) (by omega) x.out.1 x.out.2);go_wp2_with (first
    |(go_at_call 32;refine G.out.mono ?_;rintro e R ⟨rfl,f⟩;have l:=cN f;clear f;refine cQ ?_))
   refine cN ?_;go_wp2;go_ret;exact⟨rfl,t.out.trans (l.out.mono t.out.size)⟩
theorem nO(lo hi:Int)(hlo:1≤lo)(hhi:4≤hi)(hhi':hi≤19)(p:Option Addr)(cap:Nat)(w:World):
 Calls prog 12 #[.slice p 0 cap,.int .i64 lo,.int .i64 hi] w fun e w'=>e= .returned (.bool true)∧Below w.heap.size w w':=by
 have l:=cN (aA3 w);have r:decide (4≤hi)=true:=by simp;omega
 go_enter func12,ntmps12;go_wp2_with (first|(go_at_call 29;refine l.out.mono ?_;rintro e u ⟨rfl,q⟩;have g:=cN q;clear q));go_loopw [9] (fun i wr=>i= .int .i64 0∧Hid (PlayW w wr 0)) (fun _ _=>0)
 case atStart=>exact⟨rfl,g⟩
 case round=>
  clear g;obtain⟨rfl,n⟩:=hrel;have o:=cN (n.out.ends (by omega));go_wp2_with (first
   |(go_at_call 31;refine o.out.mono ?_;rintro e s ⟨rfl,⟨B,L,t,j,d⟩,b⟩;have h:=cN (aLo j d);have f:=cN b;clear j d b;refine cQ ?_))
  refine cN ?_;have m:=cN (PlayW.looks (w:=w) (k:=0) (by omega) h.out.1 h.out.2);go_wp2_with (first
   |(go_at_call 32;refine m.out.mono ?_;rintro e v ⟨rfl,a⟩;have c:=cN a;clear a;refine cQ ?_))
  refine cN ?_;go_wp2;go_ret;exact⟨rfl,f.out.trans (c.out.mono f.out.size)⟩
end Go.Proofs.YtbbdgokdfhdpiaaGreatDoor
