/- A part. -/
import Derived.Test.YtbbdgokdfhdpiaaGreatDoorA7
import Derived.Test.YtbbdgokdfhdpiaaGreatDoorA31
import Derived.Test.YtbbdgokdfhdpiaaGreatDoorA39
namespace Go.Proofs.YtbbdgokdfhdpiaaGreatDoor
set_option linter.all false
set_option maxRecDepth 100000
set_option maxHeartbeats 0
open Go.Proofs.Tryz Go.RowKit
theorem aEH{W:World}{n0 g0 next:Nat}{lab:Nat→Nat}{P:List (Mo×Rm)}{lv c1 c2 c3 c4 c5 c6:Value}{lsR lsM lsE:List (Value×Nat×Int)}{bP bX bY:Nat→Nat}(h:LwAt W n0 lab g0 P lv c1 c2 c3 c4 c5 c6 next lsR lsM lsE bP bX bY)
 {i:Nat} (hi:i<P.length) {N:Int} (hpo:PairOk false N P[i].1 P[i].2) (hN:N≤10000000000) (hnx:next≤1000000000000) (n:Nat→Int) (s:ByteArray) (hk:n 0=12):
 Calls prog 73 #[.pointer (some ⟨g0,0,none⟩),.pointer (some ⟨bP i,0,none⟩),.agg (opL n s).toArray] W fun e W'=>e= .returned (.bool true)∧LwAt W' n0 lab g0 P lv c1 c2 c3 c4 c5 c6 next lsR lsM lsE bP bX bY∧Below n0 W W':=by
 have a3:=h.size;have f:=aA W (.cells (opL n s).toArray 83);have c:Chg NoS W (W.alloc (.cells (opL n s).toArray 83)):=(Chg.refl _ _).alloc _;have a1:W.heap.size+1≤(W.alloc (.cells (opL n s).toArray 83)).heap.size:=by simp
 generalize t:W.alloc (.cells (opL n s).toArray 83)=W1 at*;have J:=cN t;have F:=h.kept c (fun _ _ h=>h);have Y:W1.cell? ⟨W.heap.size,0,none⟩=some (.int .i64 12):=by rw[←hk];exact cO f 0 (.int .i64 (n 0)) rfl
 have I:W1.cell? ⟨W.heap.size,17,none⟩=some (.int .i64 (n 17)):=cO f 17 (.int .i64 (n 17)) rfl;have H:W1.cell? ⟨W.heap.size,18,none⟩=some (.int .i64 (n 18)):=cO f 18 (.int .i64 (n 18)) rfl;have w:Below n0 W W1:=⟨c.os,c.tape,c.output,c.size,fun k hk=>c.block k (by omega) (fun h=>h)⟩;have A:lab W.heap.size=0:=aH fun e=>by have:=h.lt _ e;omega
 have u:=aGj hpo.sim hpo.ok (n 17) (n 18);have y:=hpo.sim.ok hpo.ok;obtain⟨q,b⟩:=aLA (W1.drew);have B:=cN b;have l:=F.drew;rw[b]at l;have m:q.heap[W.heap.size]?=some (.cells (opL n s).toArray 83 (0,0)):=by rw[←b];exact f
 have p:Below n0 W q:=by rw[←b];exact w.drew
 have p0:W1.cell? ⟨bP i,0,none⟩=some (fG (bX i)):=cO (F.pr.pb i hi) 0 _ rfl;obtain⟨X,mx,U⟩:=l.pr.xs i hi;have T:=cN (aFI q X (bX i) P[i].1 N (n 17) (n 18) mx hpo.ok);have D:=cN (aLp l p m);have M:=cN (aLo u y);clear h F l f m c t b hpo hk w p A mx U u y;go_enter func73,ntmps73;go_wp2_with (first|rw[J.out]);refine eD [0,0,0,1,0,1,0,1] (by kernel_rfl) (fun _ _ _ _=>rfl) ?_;simp only[dC,dB];iterate 8 (apply sB rfl rfl;·(intro x h;(try cases h rfl);go_simp;with_reducible rfl))
 refine cP ?_;try simp only[pA]
 go_wp2_with (first|rw[B.out]|(go_at_call 16;refine T.out.mono ?_;rintro e r ⟨rfl,a⟩;refine cQ ?_));have E:=D.out.1.below a;have g:r.heap[W.heap.size]?=some (.cells (opL n s).toArray 83 (0,0)):=(Chg.below' a).kept D.out.2.2 (fun h=>h);have a2:r.cell? ⟨W.heap.size,17,none⟩=some (.int .i64 (n 17)):=cO g 17 (.int .i64 (n 17)) rfl;have a0:r.cell? ⟨W.heap.size,18,none⟩=some (.int .i64 (n 18)):=cO g 18 (.int .i64 (n 18)) rfl;have p1:r.cell? ⟨bP i,1,none⟩=some (fG (bY i)):=cO (E.pr.pb i hi) 1 _ rfl;obtain⟨v,d⟩:=aLA (r.drew);have C:=cN d;have j:=E.drew;rw[d]at j;have o:Below n0 W v:=by rw[←d];exact(D.out.2.1.trans (a.mono D.out.1.size)).drew
 obtain⟨R,V,K,S⟩:=j.pr.ys i hi;have O:=cN (aFm v R (bY i) P[i].2 V N (n 17) (n 18) K M.out.2);rw[M.out.1]at O;have G:=cN (aLo j o);clear E g j o d K S a p0 Y I H;refine cN ?_;go_wp2_with fail;refine eD [0,0,0,0,1,0,1,0,1] (by kernel_rfl) (fun _ _ _ _=>rfl) ?_;simp only[dC,dB];iterate 9 (apply sB rfl rfl;·(intro x h;(try cases h rfl);go_simp;with_reducible rfl))
 refine cP ?_;try simp only[pA]
 go_wp2_with (first|rw[C.out]|(go_at_call 108;refine O.out.mono ?_;rintro e W3 ⟨rfl,a⟩;refine cQ ?_));have Q:=G.out.1.below a;have z:=G.out.2.trans (a.mono G.out.1.size);have L:=cN (aLo Q z);clear Q z a;refine cN ?_;go_wp2_with fail;go_ret;exact⟨by simp,L.out.1,L.out.2⟩
theorem aGi{W:World}{n0 g0 next:Nat}{lab:Nat→Nat}{P:List (Mo×Rm)}{lv c1 c2 c3 c4 c5 c6:Value}{lsR lsM lsE:List (Value×Nat×Int)}{bP bX bY:Nat→Nat}(h:LwAt W n0 lab g0 P lv c1 c2 c3 c4 c5 c6 next lsR lsM lsE bP bX bY)
 {i:Nat} (hi:i<P.length) {N:Int} (hpo:PairOk false N P[i].1 P[i].2) (hN:N≤10000000000) (hnx:next≤1000000000000) (n:Nat→Int) (s:ByteArray) (hk:n 0=13):
 Calls prog 73 #[.pointer (some ⟨g0,0,none⟩),.pointer (some ⟨bP i,0,none⟩),.agg (opL n s).toArray] W fun e W'=>e= .returned (.bool true)∧LwAt W' n0 lab g0 P lv c1 c2 c3 c4 c5 c6 next lsR lsM lsE bP bX bY∧Below n0 W W':=by
 have a2:=h.size;have g:=aA W (.cells (opL n s).toArray 83);have c:Chg NoS W (W.alloc (.cells (opL n s).toArray 83)):=(Chg.refl _ _).alloc _;have a0:W.heap.size+1≤(W.alloc (.cells (opL n s).toArray 83)).heap.size:=by simp
 generalize r:W.alloc (.cells (opL n s).toArray 83)=W1 at*;have I:=cN r;have F:=h.kept c (fun _ _ h=>h);have X:W1.cell? ⟨W.heap.size,0,none⟩=some (.int .i64 13):=by rw[←hk];exact cO g 0 (.int .i64 (n 0)) rfl
 have H:W1.cell? ⟨W.heap.size,17,none⟩=some (.int .i64 (n 17)):=cO g 17 (.int .i64 (n 17)) rfl;have v:Below n0 W W1:=⟨c.os,c.tape,c.output,c.size,fun k hk=>c.block k (by omega) (fun h=>h)⟩;have z:lab W.heap.size=0:=aH fun e=>by have:=h.lt _ e;omega
 have t:=aIh hpo.sim (n 17);have w:=hpo.sim.ok hpo.ok;obtain⟨q,b⟩:=aLA (W1.drew);have A:=cN b;have j:=F.drew;rw[b]at j;have l:q.heap[W.heap.size]?=some (.cells (opL n s).toArray 83 (0,0)):=by rw[←b];exact g
 have p:Below n0 W q:=by rw[←b];exact v.drew
 have Y:W1.cell? ⟨bP i,0,none⟩=some (fG (bX i)):=cO (F.pr.pb i hi) 0 _ rfl;obtain⟨U,mx,T⟩:=j.pr.xs i hi;have S:=cN (aHe q U (bX i) P[i].1 N (n 17) mx hpo.ok);have C:=cN (aLp j p l);have L:=cN (aLo t w);clear h F j g l c r b hpo hk v p z mx T t w;go_enter func73,ntmps73;go_wp2_with (first|rw[I.out]);refine eD [0,0,0,1,0,1] (by kernel_rfl) (fun _ _ _ _=>rfl) ?_;simp only[dC,dB];iterate 6 (apply sB rfl rfl;·(intro x h;(try cases h rfl);go_simp;with_reducible rfl))
 refine cP ?_;try simp only[pA]
 go_wp2_with (first|rw[A.out]|(go_at_call 109;refine S.out.mono ?_;rintro e D ⟨rfl,a⟩;refine cQ ?_));have E:=C.out.1.below a;have m:D.heap[W.heap.size]?=some (.cells (opL n s).toArray 83 (0,0)):=(Chg.below' a).kept C.out.2.2 (fun h=>h);have a1:D.cell? ⟨W.heap.size,17,none⟩=some (.int .i64 (n 17)):=cO m 17 (.int .i64 (n 17)) rfl;have p1:D.cell? ⟨bP i,1,none⟩=some (fG (bY i)):=cO (E.pr.pb i hi) 1 _ rfl;obtain⟨u,d⟩:=aLA (D.drew);have B:=cN d;have f:=E.drew;rw[d]at f;have o:Below n0 W u:=by rw[←d];exact(C.out.2.1.trans (a.mono C.out.1.size)).drew
 obtain⟨Q,V,J,R⟩:=f.pr.ys i hi;have M:=cN (aG7 u Q (bY i) P[i].2 V N (n 17) J L.out.2);rw[L.out.1]at M;have G:=cN (aLo f o);clear E m f o d J R a Y X H;refine cN ?_;go_wp2_with fail;refine eD [0,0,0,0,1,0,1] (by kernel_rfl) (fun _ _ _ _=>rfl) ?_;simp only[dC,dB];iterate 7 (apply sB rfl rfl;·(intro x h;(try cases h rfl);go_simp;with_reducible rfl))
 refine cP ?_;try simp only[pA]
 go_wp2_with (first|rw[B.out]|(go_at_call 110;refine M.out.mono ?_;rintro e W3 ⟨rfl,a⟩;refine cQ ?_));have O:=G.out.1.below a;have y:=G.out.2.trans (a.mono G.out.1.size);have K:=cN (aLo O y);clear O y a;refine cN ?_;go_wp2_with fail;go_ret;exact⟨by simp,K.out.1,K.out.2⟩
theorem lA{W:World}{n0 g0 next:Nat}{eb:Addr}{lab:Nat→Nat}{P:List (Mo×Rm)}{lv c1 c2 c3 c4 c5 c6:Value}{lsR lsM lsE:List (Value×Nat×Int)}{bP bX bY:Nat→Nat}(h:LwAt W n0 lab g0 P lv c1 c2 c3 c4 c5 c6 next lsR lsM lsE bP bX bY)
 (hgl:GlAt W n0 eb) {i:Nat} (hi:i<P.length) (n:Nat→Int) (s:ByteArray) {fx fy:FuncId} {al:List Value} {x:Mo} {y:Rm} {r:Int}
 (hf:(n 0=5∧fx=37∧fy=113∧al=[.int .i64 (n 17),.int .i64 (n 18),.int .i64 (n 19),.int .i64 (n 20)])∨(n 0=6∧fx=82∧fy=114∧al=[.int .i64 (n 17)])∨(n 0=7∧fx=39∧fy=115∧al=[.int .i64 (n 17)])∨(n 0=8∧fx=40∧fy=116∧al=[.int .i64 (n 17)])∨(n 0=9∧fx=41∧fy=117∧al=[.int .i64 (n 17)])∨(n 0=16∧fx=44∧fy=118∧al=[.int .i64 (n 17)])∨(n 0=17∧fx=26∧fy=119∧al=[.int .i64 (n 17)])∨(n 0=18∧fx=42∧fy=120∧al=[.int .i64 (n 17),.int .i64 (n 18),.int .i64 (n 19)])∨(n 0=19∧fx=43∧fy=121∧al=[.int .i64 (n 17)]))
 (hx:∀Z ox,Moor Z ox (bX i) P[i].1→GlAt Z n0 eb→(∀k,ox k≠0→n0≤k)→Calls prog fx (.pointer (some ⟨bX i,0,none⟩)::al).toArray Z fun e W'=>e= .returned (.int .i64 r)∧MoTo Z ox (bX i) x W')
 (hy:∀Z oy V,RmAt Z oy (bY i) P[i].2 V→Calls prog fy (.pointer (some ⟨bY i,0,none⟩)::al).toArray Z fun e W'=>e= .returned (.int .i64 r)∧RmGo Z oy (bY i) y W'):
 Calls prog 74 #[.pointer (some ⟨bP i,0,none⟩),.agg (opL n s).toArray] W fun e W'=>e= .returned (.bool true)∧∃lab',LwAt W' n0 lab' g0 (P.set i (x,y)) lv c1 c2 c3 c4 c5 c6 next lsR lsM lsE bP bX bY∧Below n0 W W':=by
 have b1:=h.size;have g:=aA W (.cells (opL n s).toArray 83);have I:Chg NoS W (W.alloc (.cells (opL n s).toArray 83)):=(Chg.refl _ _).alloc _;generalize D:W.alloc (.cells (opL n s).toArray 83)=W1 at*;have a7:=cN D;obtain⟨o,d⟩:=aLA (W1.drew);have L:=cN d;have l:Chg NoS W o:=by rw[←d];exact I.drew
 have u:o.heap[W.heap.size]?=some (.cells (opL n s).toArray 83 (0,0)):=by rw[←d];exact g
 have A:=h.kept l (fun _ _ h=>h);have v:GlAt o n0 eb:=hgl.kept l (fun k b=>b.elim);have o0:W1.cell? ⟨W.heap.size,0,none⟩=some (.int .i64 (n 0)):=cO g 0 (.int .i64 (n 0)) rfl;have a2:W1.cell? ⟨W.heap.size,17,none⟩=some (.int .i64 (n 17)):=cO g 17 (.int .i64 (n 17)) rfl;have a1:W1.cell? ⟨W.heap.size,18,none⟩=some (.int .i64 (n 18)):=cO g 18 (.int .i64 (n 18)) rfl;have T:W1.cell? ⟨W.heap.size,19,none⟩=some (.int .i64 (n 19)):=cO g 19 (.int .i64 (n 19)) rfl;have a0:W1.cell? ⟨W.heap.size,20,none⟩=some (.int .i64 (n 20)):=cO g 20 (.int .i64 (n 20)) rfl;have C:W1.heap[bP i]?=some (.cells #[fG (bX i),fG (bY i)] 131 (0,0)):=by
  have:=A.pr.pb i hi;rw[←d]at this;exact this
 have p0:W1.cell? ⟨bP i,0,none⟩=some (fG (bX i)):=cO C 0 _ rfl;obtain⟨ox,mx,Q⟩:=A.pr.xs i hi;have HM:=cN (hx o ox mx v (fun k b=>Nat.le_of_not_lt fun hlt=>by have:=Q k b;have:=A.out k hlt;omega));have m:=cN (aLq A l u Q);have H:=cN h;have X:=cN hy;clear h A I l g u D d C mx Q hgl v hx hy;rcases hf with⟨b,rfl,rfl,rfl⟩|⟨b,rfl,rfl,rfl⟩|⟨b,rfl,rfl,rfl⟩|⟨b,rfl,rfl,rfl⟩|⟨b,rfl,rfl,rfl⟩|⟨b,rfl,rfl,rfl⟩|⟨b,rfl,rfl,rfl⟩|⟨b,rfl,rfl,rfl⟩|⟨b,rfl,rfl,rfl⟩;all_goals
  rw[b]at o0;clear b;go_enter func74,ntmps74;go_wp2_with (first|rw[a7.out]);first
   |refine eD [0,0,0,1,0,1,0,1,0,1,0,1] (by kernel_rfl) (fun _ _ _ _=>rfl) ?_
    simp only[dC,dB]
    repeat(first|(apply sW rfl;·(intro x;go_simp;with_reducible rfl))|(apply sR rfl;·(intro x hx;subst hx;go_simp;with_reducible rfl)))
    refine cP ?_
   |refine eD [0,0,0,1,0,1,0,1,0,1] (by kernel_rfl) (fun _ _ _ _=>rfl) ?_
    simp only[dC,dB]
    repeat(first|(apply sW rfl;·(intro x;go_simp;with_reducible rfl))|(apply sR rfl;·(intro x hx;subst hx;go_simp;with_reducible rfl)))
    refine cP ?_
   |refine eD [0,0,0,1,0,1] (by kernel_rfl) (fun _ _ _ _=>rfl) ?_
    simp only[dC,dB]
    repeat(first|(apply sW rfl;·(intro x;go_simp;with_reducible rfl))|(apply sR rfl;·(intro x hx;subst hx;go_simp;with_reducible rfl)))
    refine cP ?_
  (try simp only[pA]);go_wp2_with (first|rw[L.out]|((first|go_at_call 37|go_at_call 82|go_at_call 39|go_at_call 40|go_at_call 41|go_at_call 44|go_at_call 26|go_at_call 42|go_at_call 43);refine HM.out.mono ?_;rintro e q ⟨rfl,f⟩;refine cQ ?_));obtain⟨a9,N,E⟩:=m.out.1.goX hi m.out.2.2.2 f;have a:Chg (fun k=>ox k≠0) o q:=by
   obtain⟨_,_,S,_⟩:=f;exact S
  have c:q.heap[W.heap.size]?=some (.cells (opL n s).toArray 83 (0,0)):=a.kept m.out.2.2.1 (fun e=>by have B:=m.out.2.2.2 _ e;have:=H.out.lt W.heap.size (by omega);omega);have F:Below n0 W q:=⟨a.os.trans m.out.2.1.os,a.tape.trans m.out.2.1.tape,a.output.trans m.out.2.1.output,cA m.out.2.1.size a.size,fun k b=>(a.block k (by have:=m.out.2.1.size;omega) (fun e=>by have B:=m.out.2.2.2 _ e;have:=H.out.out k b;omega)).trans (m.out.2.1.block k (by omega) (fun h=>h))⟩;have w:i<(P.set i (x,P[i].2)).length:=by simpa using hi
  have a4:q.cell? ⟨W.heap.size,17,none⟩=some (.int .i64 (n 17)):=cO c 17 (.int .i64 (n 17)) rfl;have Y:q.cell? ⟨W.heap.size,18,none⟩=some (.int .i64 (n 18)):=cO c 18 (.int .i64 (n 18)) rfl;have a6:q.cell? ⟨W.heap.size,19,none⟩=some (.int .i64 (n 19)):=cO c 19 (.int .i64 (n 19)) rfl;have U:q.cell? ⟨W.heap.size,20,none⟩=some (.int .i64 (n 20)):=cO c 20 (.int .i64 (n 20)) rfl;have p1:q.cell? ⟨bP i,1,none⟩=some (fG (bY i)):=cO (N.pr.pb i w) 1 _ rfl;obtain⟨p,j⟩:=aLA (q.drew);have M:=cN j;have t:=N.drew;rw[j]at t;obtain⟨oy,V,O,wy⟩:=t.pr.ys i w;have ey:(P.set i (x,P[i].2))[i].2=P[i].2:=by simp
  rw[ey]at O;have HY:=cN (X.out p oy V O);have z:=cN (aLq t F E wy);have a3:=cN j;clear f N E a c F t j O wy ey o0 p0 a2 a1 T a0;refine cN ?_;go_wp2_with fail;first
   |refine eD [0,0,0,1,0,1,0,1,0,1,0,1] (by kernel_rfl) (fun _ _ _ _=>rfl) ?_
    simp only[dC,dB]
    repeat(first|(apply sW rfl;·(intro x;go_simp;with_reducible rfl))|(apply sR rfl;·(intro x hx;subst hx;go_simp;with_reducible rfl)))
    refine cP ?_
   |refine eD [0,0,0,1,0,1,0,1,0,1] (by kernel_rfl) (fun _ _ _ _=>rfl) ?_
    simp only[dC,dB]
    repeat(first|(apply sW rfl;·(intro x;go_simp;with_reducible rfl))|(apply sR rfl;·(intro x hx;subst hx;go_simp;with_reducible rfl)))
    refine cP ?_
   |refine eD [0,0,0,1,0,1] (by kernel_rfl) (fun _ _ _ _=>rfl) ?_
    simp only[dC,dB]
    repeat(first|(apply sW rfl;·(intro x;go_simp;with_reducible rfl))|(apply sR rfl;·(intro x hx;subst hx;go_simp;with_reducible rfl)))
    refine cP ?_
  (try simp only[pA]);go_wp2_with (first|rw[M.out]|((first|go_at_call 113|go_at_call 114|go_at_call 115|go_at_call 116|go_at_call 117|go_at_call 118|go_at_call 119|go_at_call 120|go_at_call 121);refine HY.out.mono ?_;rintro e R ⟨rfl,f⟩;refine cQ ?_));have a:Chg (fun k=>oy k≠0) p R:=by
   obtain⟨_,_,_,S,_⟩:=f;exact S
  obtain⟨a8,B,a5⟩:=z.out.1.goY (own:=oy) w z.out.2.2.2 f;have e9:(P.set i (x,P[i].2)).set i ((P.set i (x,P[i].2))[i].1,y)=P.set i (x,y):=by simp
  rw[e9]at B;have G:Below n0 W R:=by
   have b0:n0≤p.heap.size:=z.out.1.size;have J:Below n0 p R:=⟨a.os,a.tape,a.output,a.size,fun k b=>a.block k (by omega) (fun e=>by have h4:=z.out.2.2.2 _ e;have:=z.out.1.out k b;omega)⟩;have K:Below n0 W p:=by rw[←a3.out];exact z.out.2.1.drew
   exact K.trans J
  have H3:=cN (aLo B G);clear f B a5 a e9 G p1 a4 Y a6 U;refine cN ?_;go_wp2_with (go_at_call 66;refine(uZ _ _).mono ?_;rintro e W4 ⟨rfl,rfl⟩);go_ret;exact⟨rfl,_,H3.out.1,H3.out.2⟩
end Go.Proofs.YtbbdgokdfhdpiaaGreatDoor
