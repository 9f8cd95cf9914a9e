/- A part of the proof: LwAsk3, LwAsk4, LwAsk6, LwCal. -/
import Derived.Test.YtbbdgokdfhdpiaaGreatDoorA7
import Derived.Test.YtbbdgokdfhdpiaaGreatDoorA26
import Derived.Test.YtbbdgokdfhdpiaaGreatDoorA38
namespace Go.Proofs.YtbbdgokdfhdpiaaGreatDoor
set_option linter.all false
set_option maxRecDepth 100000
set_option maxHeartbeats 40000000
open Go.Proofs.Tryz Go.RowKit
theorem aD4{W:World}{n0 g0 next:Nat}{lab:Nat→Nat}{P:List (Mo×Rm)}{lv c1 c2 c3 c4 c5 c6:Value}{lsR lsM lsE:List (Value×Nat×Int)}{bP bX bY:Nat→Nat}(h:LwAt W n0 lab g0 P lv c1 c2 c3 c4 c5 c6 next lsR lsM lsE bP bX bY)
 {i:Nat} (hi:i<P.length) {N:Int} (hpo:PairOk false N P[i].1 P[i].2) (hN:N≤10000000000) (hnx:next≤1000000000000) (n:Nat→Int) (s:ByteArray) (hk:n 0=12):
 Calls prog 73 #[.pointer (some ⟨g0,0,none⟩),.pointer (some ⟨bP i,0,none⟩),.agg (opL n s).toArray] W fun e W'=>e= .returned (.bool true)∧LwAt W' n0 lab g0 P lv c1 c2 c3 c4 c5 c6 next lsR lsM lsE bP bX bY∧Below n0 W W':=by
 have a3:=h.size;have f:=aA W (.cells (opL n s).toArray 83);have c:Chg NoS W (W.alloc (.cells (opL n s).toArray 83)):=(Chg.refl _ _).alloc _;have a1:W.heap.size+1≤(W.alloc (.cells (opL n s).toArray 83)).heap.size:=by simp
 generalize t:W.alloc (.cells (opL n s).toArray 83)=W1 at*;have H:=cN t;have G:=h.kept c (fun _ _ h=>h);have S:W1.cell? ⟨W.heap.size,0,none⟩=some (.int .i64 12):=by rw[←hk];exact cO f 0 (.int .i64 (n 0)) rfl
 have J:W1.cell? ⟨W.heap.size,17,none⟩=some (.int .i64 (n 17)):=cO f 17 (.int .i64 (n 17)) rfl;have I:W1.cell? ⟨W.heap.size,18,none⟩=some (.int .i64 (n 18)):=cO f 18 (.int .i64 (n 18)) rfl;have u:Below n0 W W1:=⟨c.os,c.tape,c.output,c.size,fun k hk=>c.block k (by omega) (fun h=>h)⟩;have B:lab W.heap.size=0:=aH fun e=>by have:=h.lt _ e;omega
 have y:=aGc hpo.sim hpo.ok (n 17) (n 18);have w:=hpo.sim.ok hpo.ok;obtain⟨q,b⟩:=aLx (W1.drew);have A:=cN b;have l:=G.drew;rw[b]at l;have p:q.heap[W.heap.size]?=some (.cells (opL n s).toArray 83 (0,0)):=by rw[←b];exact f
 have m:Below n0 W q:=by rw[←b];exact u.drew
 have U:W1.cell? ⟨bP i,0,none⟩=some (fG (bX i)):=cO (G.pr.pb i hi) 0 _ rfl;obtain⟨X,mx,R⟩:=l.pr.xs i hi;have HM:=cN (aFI q X (bX i) P[i].1 N (n 17) (n 18) mx hpo.ok);have D:=cN (aLm l m p);have M:=cN (aLl y w);clear h G l f p c t b hpo hk u m B mx R y w;go_enter func73,ntmps73;go_wp2_with (first|rw[H.out]);refine eD [0,0,0,1,0,1,0,1] (by kernel_rfl) (fun _ _ _ _=>rfl) ?_;simp only[dC,dB];iterate 8 (apply sB rfl rfl;·(intro x h;(try cases h rfl);go_simp;with_reducible rfl))
 refine cP ?_;try simp only[pA]
 go_wp2_with (first|rw[A.out]|(go_at_call 16;refine HM.out.mono ?_;rintro e r ⟨rfl,a⟩;refine cQ ?_));have F:=D.out.1.below a;have g:r.heap[W.heap.size]?=some (.cells (opL n s).toArray 83 (0,0)):=(Chg.below' a).kept D.out.2.2 (fun h=>h);have a2:r.cell? ⟨W.heap.size,17,none⟩=some (.int .i64 (n 17)):=cO g 17 (.int .i64 (n 17)) rfl;have a0:r.cell? ⟨W.heap.size,18,none⟩=some (.int .i64 (n 18)):=cO g 18 (.int .i64 (n 18)) rfl;have p1:r.cell? ⟨bP i,1,none⟩=some (fG (bY i)):=cO (F.pr.pb i hi) 1 _ rfl;obtain⟨v,d⟩:=aLx (r.drew);have C:=cN d;have j:=F.drew;rw[d]at j;have o:Below n0 W v:=by rw[←d];exact(D.out.2.1.trans (a.mono D.out.1.size)).drew
 obtain⟨Y,V,Q,T⟩:=j.pr.ys i hi;have K:=cN (aFy v Y (bY i) P[i].2 V N (n 17) (n 18) Q M.out.2);rw[M.out.1]at K;have E:=cN (aLl j o);clear F g j o d Q T a U S J I;refine cN ?_;go_wp2_with fail;refine eD [0,0,0,0,1,0,1,0,1] (by kernel_rfl) (fun _ _ _ _=>rfl) ?_;simp only[dC,dB];iterate 9 (apply sB rfl rfl;·(intro x h;(try cases h rfl);go_simp;with_reducible rfl))
 refine cP ?_;try simp only[pA]
 go_wp2_with (first|rw[C.out]|(go_at_call 108;refine K.out.mono ?_;rintro e W3 ⟨rfl,a⟩;refine cQ ?_));have O:=E.out.1.below a;have z:=E.out.2.trans (a.mono E.out.1.size);have L:=cN (aLl O z);clear O z a;refine cN ?_;go_wp2_with fail;go_ret;exact⟨by simp,L.out.1,L.out.2⟩
theorem aFk{W:World}{n0 g0 next:Nat}{lab:Nat→Nat}{P:List (Mo×Rm)}{lv c1 c2 c3 c4 c5 c6:Value}{lsR lsM lsE:List (Value×Nat×Int)}{bP bX bY:Nat→Nat}(h:LwAt W n0 lab g0 P lv c1 c2 c3 c4 c5 c6 next lsR lsM lsE bP bX bY)
 {i:Nat} (hi:i<P.length) {N:Int} (hpo:PairOk false N P[i].1 P[i].2) (hN:N≤10000000000) (hnx:next≤1000000000000) (n:Nat→Int) (s:ByteArray) (hk:n 0=13):
 Calls prog 73 #[.pointer (some ⟨g0,0,none⟩),.pointer (some ⟨bP i,0,none⟩),.agg (opL n s).toArray] W fun e W'=>e= .returned (.bool true)∧LwAt W' n0 lab g0 P lv c1 c2 c3 c4 c5 c6 next lsR lsM lsE bP bX bY∧Below n0 W W':=by
 have a2:=h.size;have g:=aA W (.cells (opL n s).toArray 83);have c:Chg NoS W (W.alloc (.cells (opL n s).toArray 83)):=(Chg.refl _ _).alloc _;have a0:W.heap.size+1≤(W.alloc (.cells (opL n s).toArray 83)).heap.size:=by simp
 generalize r:W.alloc (.cells (opL n s).toArray 83)=W1 at*;have H:=cN r;have G:=h.kept c (fun _ _ h=>h);have R:W1.cell? ⟨W.heap.size,0,none⟩=some (.int .i64 13):=by rw[←hk];exact cO g 0 (.int .i64 (n 0)) rfl
 have I:W1.cell? ⟨W.heap.size,17,none⟩=some (.int .i64 (n 17)):=cO g 17 (.int .i64 (n 17)) rfl;have t:Below n0 W W1:=⟨c.os,c.tape,c.output,c.size,fun k hk=>c.block k (by omega) (fun h=>h)⟩;have A:lab W.heap.size=0:=aH fun e=>by have:=h.lt _ e;omega
 have w:=aG0 hpo.sim (n 17);have v:=hpo.sim.ok hpo.ok;obtain⟨q,b⟩:=aLx (W1.drew);have z:=cN b;have j:=G.drew;rw[b]at j;have p:q.heap[W.heap.size]?=some (.cells (opL n s).toArray 83 (0,0)):=by rw[←b];exact g
 have m:Below n0 W q:=by rw[←b];exact t.drew
 have T:W1.cell? ⟨bP i,0,none⟩=some (fG (bX i)):=cO (G.pr.pb i hi) 0 _ rfl;obtain⟨U,mx,Q⟩:=j.pr.xs i hi;have Y:=cN (aG5 q U (bX i) P[i].1 N (n 17) mx hpo.ok);have D:=cN (aLm j m p);have L:=cN (aLl w v);clear h G j g p c r b hpo hk t m A mx Q w v;go_enter func73,ntmps73;go_wp2_with (first|rw[H.out]);refine eD [0,0,0,1,0,1] (by kernel_rfl) (fun _ _ _ _=>rfl) ?_;simp only[dC,dB];iterate 6 (apply sB rfl rfl;·(intro x h;(try cases h rfl);go_simp;with_reducible rfl))
 refine cP ?_;try simp only[pA]
 go_wp2_with (first|rw[z.out]|(go_at_call 109;refine Y.out.mono ?_;rintro e C ⟨rfl,a⟩;refine cQ ?_));have F:=D.out.1.below a;have l:C.heap[W.heap.size]?=some (.cells (opL n s).toArray 83 (0,0)):=(Chg.below' a).kept D.out.2.2 (fun h=>h);have a1:C.cell? ⟨W.heap.size,17,none⟩=some (.int .i64 (n 17)):=cO l 17 (.int .i64 (n 17)) rfl;have p1:C.cell? ⟨bP i,1,none⟩=some (fG (bY i)):=cO (F.pr.pb i hi) 1 _ rfl;obtain⟨u,d⟩:=aLx (C.drew);have B:=cN d;have f:=F.drew;rw[d]at f;have o:Below n0 W u:=by rw[←d];exact(D.out.2.1.trans (a.mono D.out.1.size)).drew
 obtain⟨X,V,O,S⟩:=f.pr.ys i hi;have J:=cN (aHC u X (bY i) P[i].2 V N (n 17) O L.out.2);rw[L.out.1]at J;have E:=cN (aLl f o);clear F l f o d O S a T R I;refine cN ?_;go_wp2_with fail;refine eD [0,0,0,0,1,0,1] (by kernel_rfl) (fun _ _ _ _=>rfl) ?_;simp only[dC,dB];iterate 7 (apply sB rfl rfl;·(intro x h;(try cases h rfl);go_simp;with_reducible rfl))
 refine cP ?_;try simp only[pA]
 go_wp2_with (first|rw[B.out]|(go_at_call 110;refine J.out.mono ?_;rintro e W3 ⟨rfl,a⟩;refine cQ ?_));have M:=E.out.1.below a;have y:=E.out.2.trans (a.mono E.out.1.size);have K:=cN (aLl M y);clear M y a;refine cN ?_;go_wp2_with fail;go_ret;exact⟨by simp,K.out.1,K.out.2⟩
theorem aGY{W:World}{n0 g0 next:Nat}{lab:Nat→Nat}{P:List (Mo×Rm)}{lv c1 c2 c3 c4 c5 c6:Value}{lsR lsM lsE:List (Value×Nat×Int)}{bP bX bY:Nat→Nat}(h:LwAt W n0 lab g0 P lv c1 c2 c3 c4 c5 c6 next lsR lsM lsE bP bX bY)
 {i:Nat} (hi:i<P.length) {N:Int} (hpo:PairOk false N P[i].1 P[i].2) (hN:N≤10000000000) (hnx:next≤1000000000000) (n:Nat→Int) (s:ByteArray) (hk:n 0=15):
 Calls prog 73 #[.pointer (some ⟨g0,0,none⟩),.pointer (some ⟨bP i,0,none⟩),.agg (opL n s).toArray] W fun e W'=>e= .returned (.bool true)∧LwAt W' n0 lab g0 P lv c1 c2 c3 c4 c5 c6 next lsR lsM lsE bP bX bY∧Below n0 W W':=by
 have a0:=h.size;have f:=aA W (.cells (opL n s).toArray 83);have a:Chg NoS W (W.alloc (.cells (opL n s).toArray 83)):=(Chg.refl _ _).alloc _;have t:W.heap.size+1≤(W.alloc (.cells (opL n s).toArray 83)).heap.size:=by simp
 generalize u:W.alloc (.cells (opL n s).toArray 83)=W1 at*;have M:=cN u;have L:=h.kept a (fun _ _ h=>h);have U:W1.cell? ⟨W.heap.size,0,none⟩=some (.int .i64 15):=by rw[←hk];exact cO f 0 (.int .i64 (n 0)) rfl
 have q:W1.cell? ⟨W.heap.size,17,none⟩=some (.int .i64 (n 17)):=cO f 17 (.int .i64 (n 17)) rfl;have v:Below n0 W W1:=⟨a.os,a.tape,a.output,a.size,fun k hk=>a.block k (by omega) (fun h=>h)⟩;have E:lab W.heap.size=0:=aH fun e=>by have:=h.lt _ e;omega
 have B:=aIT hpo.sim (n 17);have A:=hpo.sim.ok hpo.ok;have r:=L.drew;have j:Below n0 W W1.drew:=v.drew;have I:W1.cell? ⟨bP i,0,none⟩=some (fG (bX i)):=cO (L.pr.pb i hi) 0 _ rfl;obtain⟨ox,mx,T⟩:=r.pr.xs i hi;have HM:=cN (aJf W1.drew ox (bX i) P[i].1 N (n 17) mx hpo.ok);have F:=cN (aLn r j (show W1.drew.heap[W.heap.size]?=_ from f) (show W.heap.size+1≤W1.drew.heap.size from t));have K:=cN (aLl B A);clear h L r f a t u hpo hk v j E mx T B A;go_enter func73,ntmps73;go_wp2_with (first|rw[M.out]);refine rlx [0,0,0,1,0,1,2,0,0,0,0,0] (fun z=>z.cell? ⟨bP i,0,none⟩=some (fG (bX i))∧z.cell? ⟨W.heap.size,17,none⟩=some (.int .i64 (n 17))) (by kernel_rfl) (fun _ _ _ _=>rfl) ?_ ?_
 ·exact⟨I,q⟩
 simp only[dC,dB];iterate 6 (apply sB rfl rfl;·(intro x h;(try have h:=h rfl);(try dsimp only at h);go_simp;with_reducible rfl))
 try simp only[pA]
 refine dI rfl (fun C hC=>?_);go_simp;refine HM.out.mono ?_;rintro e c ⟨rfl,rfl⟩;obtain⟨c,y⟩:=aLx (W1.drew);have b:Below W1.drew.heap.size W1.drew c:=by rw[←y];exact aJ _ _
 refine hC _ _ ⟨I,q⟩ ?_;clear hC C;(try simp only[pA]);iterate 5 (apply sB rfl rfl;·(intro x h;(try have h:=h rfl);(try dsimp only at h);go_simp;with_reducible rfl))
 refine cP ?_;try simp only[pA]
 try rw[y]
 have J:=F.out.1.below b;have g:c.heap[W.heap.size]?=some (.cells (opL n s).toArray 83 (0,0)):=(Chg.below' b).kept F.out.2.2.1 (fun h=>h);have p:c.cell? ⟨W.heap.size,17,none⟩=some (.int .i64 (n 17)):=cO g 17 (.int .i64 (n 17)) rfl;have H:c.cell? ⟨bP i,1,none⟩=some (fG (bY i)):=cO (J.pr.pb i hi) 1 _ rfl;have o:=J.drew;have w:W1.drew.heap.size≤c.heap.size:=b.size;have l:Below n0 W c.drew:=(F.out.2.1.trans (b.mono F.out.1.size)).drew;obtain⟨oy,V,S,Y⟩:=o.pr.ys i hi;have O:=cN (aJa c.drew oy (bY i) P[i].2 V N (n 17) S K.out.2);rw[K.out.1.1,K.out.1.2]at O;have G:=cN (aLm o l w);clear J g o l w S Y b I U q;(try simp only[pA]);go_wp2_with fail;refine rlx [0,0,0,1,0,1,2,0,0,0,0,0] (fun z=>z.cell? ⟨bP i,1,none⟩=some (fG (bY i))∧z.cell? ⟨W.heap.size,17,none⟩=some (.int .i64 (n 17))) (by kernel_rfl) (fun _ _ _ _=>rfl) ?_ ?_
 ·exact⟨H,p⟩
 simp only[dC,dB];iterate 6 (apply sB rfl rfl;·(intro x h;(try have h:=h rfl);(try dsimp only at h);go_simp;with_reducible rfl))
 try simp only[pA]
 refine dI rfl (fun C hC=>?_);go_simp;refine O.out.mono ?_;rintro e X ⟨rfl,d⟩;have m:Chg NoS c.drew X:=Chg.below' d;refine hC _ _ ⟨m.cellN H,m.cellN p⟩ ?_;clear hC C;(try simp only[pA]);iterate 5 (apply sB rfl rfl;·(intro x h;(try have h:=h rfl);(try dsimp only at h);go_simp;with_reducible rfl))
 refine cP ?_;try simp only[pA]
 have R:=G.out.1.below d;have D:=G.out.2.1.trans (d.mono G.out.1.size);have Q:=cN (aLl R D);clear R D d m H p;(try simp only[pA]);go_wp2_with (go_at_call 66;refine(vL _ _).mono ?_;rintro e W4 ⟨rfl,rfl⟩);go_ret;exact⟨by simp,Q.out.1,Q.out.2⟩
theorem lG{W:World}{n0 g0 next:Nat}{eb:Addr}{lab:Nat→Nat}{P:List (Mo×Rm)}{lv c1 c2 c3 c4 c5 c6:Value}{lsR lsM lsE:List (Value×Nat×Int)}{bP bX bY:Nat→Nat}(h:LwAt W n0 lab g0 P lv c1 c2 c3 c4 c5 c6 next lsR lsM lsE bP bX bY)
 (hgl:GlAt W n0 eb) {i:Nat} (hi:i<P.length) (n:Nat→Int) (s:ByteArray) {fx fy:FuncId} {al:List Value} {x:Mo} {y:Rm} {r:Int}
 (hf:(n 0=5∧fx=37∧fy=113∧al=[.int .i64 (n 17),.int .i64 (n 18),.int .i64 (n 19),.int .i64 (n 20)])∨(n 0=6∧fx=82∧fy=114∧al=[.int .i64 (n 17)])∨(n 0=7∧fx=39∧fy=115∧al=[.int .i64 (n 17)])∨(n 0=8∧fx=40∧fy=116∧al=[.int .i64 (n 17)])∨(n 0=9∧fx=41∧fy=117∧al=[.int .i64 (n 17)])∨(n 0=16∧fx=44∧fy=118∧al=[.int .i64 (n 17)])∨(n 0=17∧fx=26∧fy=119∧al=[.int .i64 (n 17)])∨(n 0=18∧fx=42∧fy=120∧al=[.int .i64 (n 17),.int .i64 (n 18),.int .i64 (n 19)])∨(n 0=19∧fx=43∧fy=121∧al=[.int .i64 (n 17)]))
 (hx:∀Z ox,Moor Z ox (bX i) P[i].1→GlAt Z n0 eb→(∀k,ox k≠0→n0≤k)→Calls prog fx (.pointer (some ⟨bX i,0,none⟩)::al).toArray Z fun e W'=>e= .returned (.int .i64 r)∧MoTo Z ox (bX i) x W')
 (hy:∀Z oy V,RmAt Z oy (bY i) P[i].2 V→Calls prog fy (.pointer (some ⟨bY i,0,none⟩)::al).toArray Z fun e W'=>e= .returned (.int .i64 r)∧RmGo Z oy (bY i) y W'):
 Calls prog 74 #[.pointer (some ⟨bP i,0,none⟩),.agg (opL n s).toArray] W fun e W'=>e= .returned (.bool true)∧∃lab',LwAt W' n0 lab' g0 (P.set i (x,y)) lv c1 c2 c3 c4 c5 c6 next lsR lsM lsE bP bX bY∧Below n0 W W':=by
 have b1:=h.size;have g:=aA W (.cells (opL n s).toArray 83);have G:Chg NoS W (W.alloc (.cells (opL n s).toArray 83)):=(Chg.refl _ _).alloc _;generalize C:W.alloc (.cells (opL n s).toArray 83)=W1 at*;have a1:=cN C;obtain⟨p,d⟩:=aLx (W1.drew);have J:=cN d;have l:Chg NoS W p:=by rw[←d];exact G.drew
 have v:p.heap[W.heap.size]?=some (.cells (opL n s).toArray 83 (0,0)):=by rw[←d];exact g
 have B:=h.kept l (fun _ _ h=>h);have u:GlAt p n0 eb:=hgl.kept l (fun k b=>b.elim);have o0:W1.cell? ⟨W.heap.size,0,none⟩=some (.int .i64 (n 0)):=cO g 0 (.int .i64 (n 0)) rfl;have a6:W1.cell? ⟨W.heap.size,17,none⟩=some (.int .i64 (n 17)):=cO g 17 (.int .i64 (n 17)) rfl;have a3:W1.cell? ⟨W.heap.size,18,none⟩=some (.int .i64 (n 18)):=cO g 18 (.int .i64 (n 18)) rfl;have U:W1.cell? ⟨W.heap.size,19,none⟩=some (.int .i64 (n 19)):=cO g 19 (.int .i64 (n 19)) rfl;have a4:W1.cell? ⟨W.heap.size,20,none⟩=some (.int .i64 (n 20)):=cO g 20 (.int .i64 (n 20)) rfl;have D:W1.heap[bP i]?=some (.cells #[fG (bX i),fG (bY i)] 131 (0,0)):=by
  have:=B.pr.pb i hi;rw[←d]at this;exact this
 have p0:W1.cell? ⟨bP i,0,none⟩=some (fG (bX i)):=cO D 0 _ rfl;obtain⟨ox,mx,N⟩:=B.pr.xs i hi;have HM:=cN (hx p ox mx u (fun k b=>Nat.le_of_not_lt fun hlt=>by have:=N k b;have:=B.out k hlt;omega));have m:=cN (aLn B l v N);have H:=cN h;have X:=cN hy;clear h B G l g v C d D mx N hgl u hx hy;rcases hf with⟨b,rfl,rfl,rfl⟩|⟨b,rfl,rfl,rfl⟩|⟨b,rfl,rfl,rfl⟩|⟨b,rfl,rfl,rfl⟩|⟨b,rfl,rfl,rfl⟩|⟨b,rfl,rfl,rfl⟩|⟨b,rfl,rfl,rfl⟩|⟨b,rfl,rfl,rfl⟩|⟨b,rfl,rfl,rfl⟩;all_goals
  rw[b]at o0;clear b;go_enter func74,ntmps74;go_wp2_with (first|rw[a1.out]);first
   |refine eD [0,0,0,1,0,1,0,1,0,1,0,1] (by kernel_rfl) (fun _ _ _ _=>rfl) ?_
    simp only[dC,dB]
    repeat(first|(apply sW rfl;·(intro x;go_simp;with_reducible rfl))|(apply sR rfl;·(intro x hx;subst hx;go_simp;with_reducible rfl)))
    refine cP ?_
   |refine eD [0,0,0,1,0,1,0,1,0,1] (by kernel_rfl) (fun _ _ _ _=>rfl) ?_
    simp only[dC,dB]
    repeat(first|(apply sW rfl;·(intro x;go_simp;with_reducible rfl))|(apply sR rfl;·(intro x hx;subst hx;go_simp;with_reducible rfl)))
    refine cP ?_
   |refine eD [0,0,0,1,0,1] (by kernel_rfl) (fun _ _ _ _=>rfl) ?_
    simp only[dC,dB]
    repeat(first|(apply sW rfl;·(intro x;go_simp;with_reducible rfl))|(apply sR rfl;·(intro x hx;subst hx;go_simp;with_reducible rfl)))
    refine cP ?_
  (try simp only[pA]);go_wp2_with (first|rw[J.out]|((first|go_at_call 37|go_at_call 82|go_at_call 39|go_at_call 40|go_at_call 41|go_at_call 44|go_at_call 26|go_at_call 42|go_at_call 43);refine HM.out.mono ?_;rintro e q ⟨rfl,f⟩;refine cQ ?_));obtain⟨a8,R,E⟩:=m.out.1.goX hi m.out.2.2.2 f;have a:Chg (fun k=>ox k≠0) p q:=by
   obtain⟨_,_,Q,_⟩:=f;exact Q
  have c:q.heap[W.heap.size]?=some (.cells (opL n s).toArray 83 (0,0)):=a.kept m.out.2.2.1 (fun e=>by have A:=m.out.2.2.2 _ e;have:=H.out.lt W.heap.size (by omega);omega);have F:Below n0 W q:=⟨a.os.trans m.out.2.1.os,a.tape.trans m.out.2.1.tape,a.output.trans m.out.2.1.output,cA m.out.2.1.size a.size,fun k b=>(a.block k (by have:=m.out.2.1.size;omega) (fun e=>by have A:=m.out.2.2.2 _ e;have:=H.out.out k b;omega)).trans (m.out.2.1.block k (by omega) (fun h=>h))⟩;have w:i<(P.set i (x,P[i].2)).length:=by simpa using hi
  have a2:q.cell? ⟨W.heap.size,17,none⟩=some (.int .i64 (n 17)):=cO c 17 (.int .i64 (n 17)) rfl;have T:q.cell? ⟨W.heap.size,18,none⟩=some (.int .i64 (n 18)):=cO c 18 (.int .i64 (n 18)) rfl;have Y:q.cell? ⟨W.heap.size,19,none⟩=some (.int .i64 (n 19)):=cO c 19 (.int .i64 (n 19)) rfl;have a7:q.cell? ⟨W.heap.size,20,none⟩=some (.int .i64 (n 20)):=cO c 20 (.int .i64 (n 20)) rfl;have p1:q.cell? ⟨bP i,1,none⟩=some (fG (bY i)):=cO (R.pr.pb i w) 1 _ rfl;obtain⟨o,j⟩:=aLx (q.drew);have L:=cN j;have t:=R.drew;rw[j]at t;obtain⟨oy,V,S,wy⟩:=t.pr.ys i w;have ey:(P.set i (x,P[i].2))[i].2=P[i].2:=by simp
  rw[ey]at S;have HY:=cN (X.out o oy V S);have z:=cN (aLn t F E wy);have a5:=cN j;clear f R E a c F t j S wy ey o0 p0 a6 a3 U a4;refine cN ?_;go_wp2_with fail;first
   |refine eD [0,0,0,1,0,1,0,1,0,1,0,1] (by kernel_rfl) (fun _ _ _ _=>rfl) ?_
    simp only[dC,dB]
    repeat(first|(apply sW rfl;·(intro x;go_simp;with_reducible rfl))|(apply sR rfl;·(intro x hx;subst hx;go_simp;with_reducible rfl)))
    refine cP ?_
   |refine eD [0,0,0,1,0,1,0,1,0,1] (by kernel_rfl) (fun _ _ _ _=>rfl) ?_
    simp only[dC,dB]
    repeat(first|(apply sW rfl;·(intro x;go_simp;with_reducible rfl))|(apply sR rfl;·(intro x hx;subst hx;go_simp;with_reducible rfl)))
    refine cP ?_
   |refine eD [0,0,0,1,0,1] (by kernel_rfl) (fun _ _ _ _=>rfl) ?_
    simp only[dC,dB]
    repeat(first|(apply sW rfl;·(intro x;go_simp;with_reducible rfl))|(apply sR rfl;·(intro x hx;subst hx;go_simp;with_reducible rfl)))
    refine cP ?_
  (try simp only[pA]);go_wp2_with (first|rw[L.out]|((first|go_at_call 113|go_at_call 114|go_at_call 115|go_at_call 116|go_at_call 117|go_at_call 118|go_at_call 119|go_at_call 120|go_at_call 121);refine HY.out.mono ?_;rintro e O ⟨rfl,f⟩;refine cQ ?_));have a:Chg (fun k=>oy k≠0) o O:=by
   obtain⟨_,_,_,Q,_⟩:=f;exact Q
  obtain⟨a9,A,a0⟩:=z.out.1.goY (own:=oy) w z.out.2.2.2 f;have e9:(P.set i (x,P[i].2)).set i ((P.set i (x,P[i].2))[i].1,y)=P.set i (x,y):=by simp
  rw[e9]at A;have I:Below n0 W O:=by
   have b0:n0≤o.heap.size:=z.out.1.size;have K:Below n0 o O:=⟨a.os,a.tape,a.output,a.size,fun k b=>a.block k (by omega) (fun e=>by have h4:=z.out.2.2.2 _ e;have:=z.out.1.out k b;omega)⟩;have M:Below n0 W o:=by rw[←a5.out];exact z.out.2.1.drew
   exact M.trans K
  have H3:=cN (aLl A I);clear f A a0 a e9 I p1 a2 T Y a7;refine cN ?_;go_wp2_with (go_at_call 66;refine(vL _ _).mono ?_;rintro e W4 ⟨rfl,rfl⟩);go_ret;exact⟨rfl,_,H3.out.1,H3.out.2⟩
end Go.Proofs.YtbbdgokdfhdpiaaGreatDoor
