/- A part of the proof: LwAsk1, LwAsk2, LwAsk5, LwMk, LawStep, LwStep. -/
import Derived.Test.YtbbdgokdfhdpiaaGreatDoorA7
import Derived.Test.YtbbdgokdfhdpiaaGreatDoorA40
namespace Go.Proofs.YtbbdgokdfhdpiaaGreatDoor
set_option linter.all false
set_option maxRecDepth 100000
set_option maxHeartbeats 40000000
open Go.Proofs.Tryz Go.RowKit
theorem aGX{W:World}{n0 g0 next:Nat}{lab:Nat→Nat}{P:List (Mo×Rm)}{lv c1 c2 c3 c4 c5 c6:Value}{lsR lsM lsE:List (Value×Nat×Int)}{bP bX bY:Nat→Nat}(h:LwAt W n0 lab g0 P lv c1 c2 c3 c4 c5 c6 next lsR lsM lsE bP bX bY)
 {i:Nat} (hi:i<P.length) {N:Int} (hpo:PairOk false N P[i].1 P[i].2) (hN:N≤10000000000) (hnx:next≤1000000000000) (hls:lsM.length≤1000000000000) (n:Nat→Int) (s:ByteArray) (hk:n 0=10):
 Calls prog 73 #[.pointer (some ⟨g0,0,none⟩),.pointer (some ⟨bP i,0,none⟩),.agg (opL n s).toArray] W fun e W'=>e= .returned (.bool true)∧∃lab' c3' c4' ls',LwAt W' n0 lab' g0 P lv c1 c2 c3' c4' c5 c6 (next+1) lsR ls' lsE bP bX bY∧ls'.length=lsM.length+4∧(∀q ∈ ls',q ∈ lsM∨(q.2.1:Int)≤N+3)∧Below n0 W W':=by
 have w:=h.size;have d:=aA W (.cells (opL n s).toArray 83);have a:Chg NoS W (W.alloc (.cells (opL n s).toArray 83)):=(Chg.refl _ _).alloc _;have v:W.heap.size+1≤(W.alloc (.cells (opL n s).toArray 83)).heap.size:=by simp
 generalize b:W.alloc (.cells (opL n s).toArray 83)=W1 at*;have j:=cN b;have r:=h.kept a (fun _ _ h=>h);have y:W1.cell? ⟨W.heap.size,0,none⟩=some (.int .i64 10):=by rw[←hk];exact cO d 0 (.int .i64 (n 0)) rfl
 have c:Below n0 W W1:=⟨a.os,a.tape,a.output,a.size,fun k hk=>a.block k (by omega) (fun h=>h)⟩;have f:lab W.heap.size=0:=aH fun e=>by have:=h.lt _ e;omega
 have u:=cN (aLd r hi hpo hN hnx hls);have t:=cN c;clear h r d a b hpo hk c f;go_enter func73,ntmps73;go_wp2_with (first|rw[j.out]|(go_at_call 106;refine u.out.mono ?_;rintro e x ⟨rfl,lab',c3',c4',ls',m,l,o,p⟩;refine cQ ?_));have g:=cN (aLn m l o (t.out.trans p));clear m l o p;refine cN ?_;go_wp2_with fail;go_ret;exact⟨rfl,lab',c3',c4',ls',g.out.1,g.out.2.1,g.out.2.2.1,g.out.2.2.2⟩
theorem aDn{W:World}{n0 g0 next:Nat}{lab:Nat→Nat}{P:List (Mo×Rm)}{lv c1 c2 c3 c4 c5 c6:Value}{lsR lsM lsE:List (Value×Nat×Int)}{bP bX bY:Nat→Nat}(h:LwAt W n0 lab g0 P lv c1 c2 c3 c4 c5 c6 next lsR lsM lsE bP bX bY)
 {i:Nat} (hi:i<P.length) {N:Int} (hpo:PairOk false N P[i].1 P[i].2) (hN:N≤10000000000) (hnx:next≤1000000000000) (hls:lsE.length≤1000000000000) (n:Nat→Int) (s:ByteArray) (hk:n 0=11):
 Calls prog 73 #[.pointer (some ⟨g0,0,none⟩),.pointer (some ⟨bP i,0,none⟩),.agg (opL n s).toArray] W fun e W'=>e= .returned (.bool true)∧∃lab' c3' c4' ls',LwAt W' n0 lab' g0 P lv c1 c2 c3 c4 c3' c4' (next+1) lsR lsM ls' bP bX bY∧ls'.length=lsE.length+4∧(∀q ∈ ls',q ∈ lsE∨(q.2.1:Int)≤N+3)∧Below n0 W W':=by
 have w:=h.size;have b:=aA W (.cells (opL n s).toArray 83);have a:Chg NoS W (W.alloc (.cells (opL n s).toArray 83)):=(Chg.refl _ _).alloc _;have v:W.heap.size+1≤(W.alloc (.cells (opL n s).toArray 83)).heap.size:=by simp
 generalize c:W.alloc (.cells (opL n s).toArray 83)=W1 at*;have j:=cN c;have r:=h.kept a (fun _ _ h=>h);have z:W1.cell? ⟨W.heap.size,0,none⟩=some (.int .i64 11):=by rw[←hk];exact cO b 0 (.int .i64 (n 0)) rfl
 have x:W1.cell? ⟨W.heap.size,17,none⟩=some (.int .i64 (n 17)):=cO b 17 (.int .i64 (n 17)) rfl;have d:Below n0 W W1:=⟨a.os,a.tape,a.output,a.size,fun k hk=>a.block k (by omega) (fun h=>h)⟩;have f:lab W.heap.size=0:=aH fun e=>by have:=h.lt _ e;omega
 have u:=cN (aIx r hi hpo hN hnx hls (n 17));have t:=cN d;clear h r b a c hpo hk d f;go_enter func73,ntmps73;go_wp2_with (first|rw[j.out]|(go_at_call 107;refine u.out.mono ?_;rintro e y ⟨rfl,lab',c3',c4',ls',m,l,o,p⟩;refine cQ ?_));have g:=cN (aLn m l o (t.out.trans p));clear m l o p;refine cN ?_;go_wp2_with fail;go_ret;exact⟨rfl,lab',c3',c4',ls',g.out.1,g.out.2.1,g.out.2.2.1,g.out.2.2.2⟩
theorem aEa{W:World}{n0 g0 next:Nat}{lab:Nat→Nat}{P:List (Mo×Rm)}{lv c1 c2 c3 c4 c5 c6:Value}{lsR lsM lsE:List (Value×Nat×Int)}{bP bX bY:Nat→Nat}(h:LwAt W n0 lab g0 P lv c1 c2 c3 c4 c5 c6 next lsR lsM lsE bP bX bY)
 {i:Nat} (hi:i<P.length) {N:Int} (hpo:PairOk false N P[i].1 P[i].2) (hN:N≤10000000000) (hnx:next≤1000000000000) (hls:lsR.length≤1000000000000) (n:Nat→Int) (s:ByteArray) (hk:n 0=14):
 Calls prog 73 #[.pointer (some ⟨g0,0,none⟩),.pointer (some ⟨bP i,0,none⟩),.agg (opL n s).toArray] W fun e W'=>e= .returned (.bool true)∧∃lab' c1' c2' ls',LwAt W' n0 lab' g0 P lv c1' c2' c3 c4 c5 c6 (next+1) ls' lsM lsE bP bX bY∧ls'.length=lsR.length+4∧(∀q ∈ ls',q ∈ lsR∨(q.2.1:Int)≤7)∧Below n0 W W':=by
 have a7:=h.size;have j:=aA W (.cells (opL n s).toArray 83);have a:Chg NoS W (W.alloc (.cells (opL n s).toArray 83)):=(Chg.refl _ _).alloc _;have J:W.heap.size+1≤(W.alloc (.cells (opL n s).toArray 83)).heap.size:=by simp
 generalize L:W.alloc (.cells (opL n s).toArray 83)=W1 at*;have a0:=cN L;have h1:=h.kept a (fun _ _ h=>h);have o0:W1.cell? ⟨W.heap.size,0,none⟩=some (.int .i64 14):=by rw[←hk];exact cO j 0 (.int .i64 (n 0)) rfl
 have v:W1.cell? ⟨W.heap.size,17,none⟩=some (.int .i64 (n 17)):=cO j 17 (.int .i64 (n 17)) rfl;have Q:Below n0 W W1:=⟨a.os,a.tape,a.output,a.size,fun k hk=>a.block k (by omega) (fun h=>h)⟩;have U:lab W.heap.size=0:=aH fun e=>by have:=h.lt _ e;omega
 have I:=aFa hpo.sim hpo.ok (n 17);have M:=hpo.sim.ok hpo.ok;have D:=h1.drew;have o:Below n0 W W1.drew:=Q.drew;have p0:W1.cell? ⟨bP i,0,none⟩=some (fG (bX i)):=cO (h1.pr.pb i hi) 0 _ rfl;obtain⟨ox,mx,wx⟩:=D.pr.xs i hi;have HM:=cN (aFE W1.drew ox (bX i) P[i].1 N (n 17) mx hpo.ok);have G:=cN (aLn D o (show W1.drew.heap[W.heap.size]?=_ from j) (show W.heap.size+1≤W1.drew.heap.size from J));have HP:=cN (aLl I M);have a3:(oH P[i].1 (n 17)).length≤4:=by
  unfold oH;split
  ·exact lD _ _
  ·exact aI _
 clear h h1 D j a J L hpo hk Q o U mx wx I M;go_enter func73,ntmps73;go_wp2_with (first|rw[a0.out]);refine rlx [0,0,0,1,0,1,2,0,0,0,0,0] (fun z=>z.cell? ⟨bP i,0,none⟩=some (fG (bX i))∧z.cell? ⟨W.heap.size,17,none⟩=some (.int .i64 (n 17))) (by kernel_rfl) (fun _ _ _ _=>rfl) ?_ ?_
 ·exact⟨p0,v⟩
 simp only[dC,dB];iterate 6 (apply sB rfl rfl;·(intro x h;(try have h:=h rfl);(try dsimp only at h);go_simp;with_reducible rfl))
 try simp only[pA]
 refine dI rfl (fun C hC=>?_);go_simp;refine HM.out.mono ?_;rintro e d ⟨X,rfl,O,c⟩;have w:Chg NoS W1.drew d:=Chg.below' c;refine hC _ _ ⟨w.cellN p0,w.cellN v⟩ ?_;clear hC C;(try simp only[pA]);iterate 5 (apply sB rfl rfl;·(intro x h;(try have h:=h rfl);(try dsimp only at h);go_simp;with_reducible rfl))
 refine cP ?_;try simp only[pA]
 have h2:=G.out.1.below c;have t:d.heap[W.heap.size]?=some (.cells (opL n s).toArray 83 (0,0)):=(Chg.below' c).kept G.out.2.2.1 (fun h=>h);have u:d.cell? ⟨W.heap.size,17,none⟩=some (.int .i64 (n 17)):=cO t 17 (.int .i64 (n 17)) rfl;have p1:d.cell? ⟨bP i,1,none⟩=some (fG (bY i)):=cO (h2.pr.pb i hi) 1 _ rfl;have y:=h2.drew;have S:W1.drew.heap.size≤d.heap.size:=c.size;have p:Below n0 W d.drew:=(G.out.2.1.trans (c.mono G.out.1.size)).drew;obtain⟨oy,V,my,wy⟩:=y.pr.ys i hi;have HY:=cN (aFW d.drew oy (bY i) P[i].2 V N (n 17) my HP.out.2);rw[HP.out.1.1,HP.out.1.2]at HY;have Y:=cN (aLm y p S);have a4:=cN O;clear h2 t y p S my wy c p0 o0 v O w;(try simp only[pA]);go_wp2_with fail;refine rlx [0,0,0,1,0,1,2,0,0,0,0,0] (fun z=>z.cell? ⟨bP i,1,none⟩=some (fG (bY i))∧z.cell? ⟨W.heap.size,17,none⟩=some (.int .i64 (n 17))) (by kernel_rfl) (fun _ _ _ _=>rfl) ?_ ?_
 ·exact⟨p1,u⟩
 simp only[dC,dB];iterate 6 (apply sB rfl rfl;·(intro x h;(try have h:=h rfl);(try dsimp only at h);go_simp;with_reducible rfl))
 try simp only[pA]
 refine dI rfl (fun C hC=>?_);go_simp;refine HY.out.mono ?_;rintro e W3 ⟨v2,rfl,A,g⟩;have f:Chg NoS d.drew W3:=Chg.below' g;refine hC _ _ ⟨f.cellN p1,f.cellN u⟩ ?_;clear hC C;(try simp only[pA]);iterate 5 (apply sB rfl rfl;·(intro x h;(try have h:=h rfl);(try dsimp only at h);go_simp;with_reducible rfl))
 refine cP ?_;try simp only[pA]
 have h3:=Y.out.1.below g;have K:=Y.out.2.1.trans (g.mono Y.out.1.size);have b:W3.ownsRow W1.drew.heap.size 58 7 X (oH P[i].1 (n 17)).length (cellsOf (oH P[i].1 (n 17))):=f.row (show d.drew.ownsRow W1.drew.heap.size 58 7 X (oH P[i].1 (n 17)).length (cellsOf (oH P[i].1 (n 17)))from a4.out) (fun _ _ h=>h);generalize oH P[i].1 (n 17)=T at a3 b A;have a1:=cN (yR X v2 T W3 (nV b) (nV A));have Z:=cN (aLm h3 K b);have a6:W1.drew.heap.size≤d.drew.heap.size:=Y.out.2.2;clear h3 K g f p1 u b A;(try simp only[pA]);go_wp2_with (go_at_call 104;refine a1.out.mono ?_;rintro e W4 ⟨rfl,l⟩;refine cQ ?_);have E:=Z.out.1.below l;have B:=(Chg.below' l).row Z.out.2.2 (fun _ _ h=>h);have H:=Z.out.2.1.trans (l.mono Z.out.1.size);have HO:=cN (aAI (Or.inl ⟨rfl,rfl,rfl,rfl,rfl,rfl,rfl,rfl,rfl,rfl⟩) (F:=rwL) (mk:=aKm) (fun _=>rfl) (fun _=>rfl) (wd:=fun r m n=>(wdL lv r m c3 c4 c5 c6 n).toArray) (fun _ _ _=>⟨rfl,rfl,rfl,fun _=>rfl,fun _=>rfl,fun _=>rfl⟩) W4 lab g0 c1 c2 next lsR E.hg E.l0 E.lt E.R hnx hls X T.length T (by omega) rfl (gL B (aI _)) (fun k hk=>aH fun e=>by have h5:=G.out.1.lt k e;have:=(B.lt k hk).1;omega));have H4:=cN (aLl E H);clear E B H l;refine cN ?_;go_wp2_with (go_at_call 105;refine HO.out.mono ?_;rintro e W5 ⟨rfl,lab',a5,a2,ls',q1,q2,q3,q4,q5,q6,q7,q8⟩;refine cQ ?_);obtain⟨r1,r2⟩:=H4.out.1.ownR q3 q4 q5 q6 q8;have HF:=cN (aLn r1 q1 q2 (H4.out.2.trans r2));clear q1 q2 q3 q4 q5 q6 q7 q8 r1 r2;refine cN ?_;go_wp2_with (go_at_call 66;refine(vL _ _).mono ?_;rintro e W6 ⟨rfl,rfl⟩);go_ret
 exact⟨by simp,lab',a5,a2,ls',HF.out.1,HF.out.2.1,fun q hq=>(HF.out.2.2.1 q hq).imp id (fun h=>by omega),HF.out.2.2.2⟩
theorem aGg:(prog.info? 129).map (fun i=>(i.zero,i.size,i.bytes))=some (some (.pointer none),1,8):=by kernel_rfl
theorem aHH(f:Nat→Nat)(n b:Nat):qA (fun j=>if j=n then b else f j) (n+1)=qA f n++[fG b]:=wS f n b
def pJ(lab ox oy:Nat→Nat)(L b gt:Nat):Nat→Nat:=fun k=>
 if lab k≠0 then lab k else if ox k≠0 then 12+3*L else if oy k≠0 then 13+3*L else if k=b then 11+3*L else if k=gt then 2 else 0
theorem LwAt.add{W W3 W5:World}{n0 g0 next:Nat}{lab:Nat→Nat}{P:List (Mo×Rm)}{lv c1 c2 c3 c4 c5 c6:Value}{lsR lsM lsE:List (Value×Nat×Int)}{bP bX bY:Nat→Nat}(h:LwAt W n0 lab g0 P lv c1 c2 c3 c4 c5 c6 next lsR lsM lsE bP bX bY)
 {ox oy:Nat→Nat} {gx gy b gt cap:Nat} {x:Mo} {y:Rm} {V:RmV} (hc:Chg NoS W W3) (hx:Moor W3 ox gx x) (hy:RmAt W3 oy gy y V) (hox:∀k,ox k≠0→W.heap.size≤k) (hoy:∀k,oy k≠0→W.heap.size≤k) (hoo:∀k,ox k≠0→oy k=0) (hob:ox b=0∧oy b=0) (hbn:W.heap.size≤b)
 (hb:W3.heap[b]?=some (.cells #[fG gx,fG gy] 131 (0,0)))
 (hgr:W3.grownBy W5 lv.ownBlock) (hrow:W5.ownsRow 0 129 1 (.slice (some ⟨gt,0,none⟩) (P.length+1) cap) (P.length+1) (qA bP P.length++[fG b])) (hat:lv.ownBlock=some gt∨W3.heap.size≤gt):
 ∃lab' bP' bX' bY',LwAt (W5.setCell ⟨g0,0,none⟩ (.slice (some ⟨gt,0,none⟩) (P.length+1) cap)) n0 lab' g0 (P++[(x,y)]) (.slice (some ⟨gt,0,none⟩) (P.length+1) cap) c1 c2 c3 c4 c5 c6 next lsR lsM lsE bP' bX' bY'∧Below n0 W (W5.setCell ⟨g0,0,none⟩ (.slice (some ⟨gt,0,none⟩) (P.length+1) cap)):=by
 have L:=hc.size;have J:=hgr.size;have K:g0<W.heap.size:=dG h.hg;have g:∀k,lv.ownBlock=some k→lab k=2:=h.pr.rl;have A:W5.heap[g0]?=_:=(hgr.block g0 (by omega) (fun e=>by have:=g g0 e.symm;rw[h.l0]at this;omega)).trans (hc.kept h.hg (fun h=>h));have l:=cY W5 g0 0 (.slice (some ⟨gt,0,none⟩) (P.length+1) cap);have w:=dD A 0 (.slice (some ⟨gt,0,none⟩) (P.length+1) cap);have B:=eY hrow gt rfl;have C:gt≠g0:=fun e=>by
  rcases hat with p|p
  ·have:=g gt p;rw[e,h.l0]at this;omega
  ·omega
 have o:=l.row hrow (fun q hq e=>by have:gt=q:=(by simpa[Value.ownBlock]using hq);omega);have N:=l.size;generalize O:W5.setCell ⟨g0,0,none⟩ (.slice (some ⟨gt,0,none⟩) (P.length+1) cap)=W6 at*;have d:∀k,lab k≠0→lab k≠1→lab k≠2→W6.heap[k]?=W.heap[k]?:=fun k h0 h1 h2=>by
  have a:=h.lt k h0;exact(l.block k (by omega) (fun e=>by rw[e,h.l0]at h1;exact h1 rfl)).trans ((hgr.block k (by omega) (fun e=>h2 (g k e.symm))).trans (hc.block k a (fun h=>h)))
 have m:∀k,W.heap.size≤k→k<W3.heap.size→W6.heap[k]?=W3.heap[k]?:=fun k h0 h1=>
  (l.block k (by omega) (fun e=>by omega)).trans (hgr.block k h1 (fun e=>by have:=eY h.pr.row k e.symm;omega))
 have t:∀k,W.heap.size≤k→lab k=0:=fun k a=>aH fun e=>by have:=h.lt k e;omega
 have c:∀k,lab k≠0→pJ lab ox oy P.length b gt k=lab k:=fun k a=>if_pos a;have z:b<W3.heap.size:=dG hb;have D:∀k,ox k≠0→pJ lab ox oy P.length b gt k=12+3*P.length:=fun k a=>by
  unfold pJ;rw[if_neg (by rw[t k (hox k a)];decide),if_pos a]
 have F:∀k,oy k≠0→pJ lab ox oy P.length b gt k=13+3*P.length:=fun k a=>by
  unfold pJ;rw[if_neg (by rw[t k (hoy k a)];decide),if_neg (fun e=>a (hoo k e)),if_pos a]
 have G:pJ lab ox oy P.length b gt b=11+3*P.length:=by
  unfold pJ;rw[if_neg (by rw[t b hbn];decide),if_neg (fun e=>e hob.1),if_neg (fun e=>e hob.2),if_pos rfl]
 have I:pJ lab ox oy P.length b gt gt=2:=by
  rcases hat with p|p
  ·rw[c gt (by rw[g gt p];decide)];exact g gt p
  ·unfold pJ;rw[if_neg (by rw[t gt (by omega)];decide),if_neg (fun e=>by have:=hx.lt gt e;omega),if_neg (fun e=>by have:=hy.lt gt e;omega),if_neg (by omega),if_pos rfl]
 have s:(P++[(x,y)]).length=P.length+1:=by simp
 have n:∀(j:Nat) (hj:j<(P++[(x,y)]).length),(∃f:j<P.length,(P++[(x,y)])[j]=P[j])∨(j=P.length∧(P++[(x,y)])[j]=(x,y)):=fun j hj=>by
  by_cases e:j<P.length
  ·left;exact⟨e,by rw[cD e]⟩
  ·right;have i:j=P.length:=by rw[s]at hj;omega
   subst i;exact⟨rfl,by simp⟩
 refine⟨pJ lab ox oy P.length b gt,fun j=>if j=P.length then b else bP j,fun j=>if j=P.length then gx else bX j,fun j=>if j=P.length then gy else bY j,
  ⟨w,by rw[c g0 (by rw[h.l0];decide)];exact h.l0,fun k a=>?_,fun k a=>by have:=h.out k a;rw[c k (by omega)];exact this,⟨?_,?_,fun j hj=>?_,fun j hj=>?_,fun j hj=>?_,fun j hj=>?_⟩,
   h.R.frame (by decide) (by omega) (fun k a=>d k (by omega) (by omega) (by omega)) c,h.M.frame (by decide) (by omega) (fun k a=>d k (by omega) (by omega) (by omega)) c,h.E.frame (by decide) (by omega) (fun k a=>d k (by omega) (by omega) (by omega)) c⟩,?_⟩
 ·unfold pJ at a;split at a
  ·have:=h.lt k (by assumption);omega
  ·split at a
   ·have:=hx.lt k (by assumption);omega
   ·split at a
    ·have:=hy.lt k (by assumption);omega
    ·split at a
     ·omega
     ·split at a
      ·omega
      ·exact absurd rfl a
 ·rw[s,aHH];exact o
 ·intro k a;have:gt=k:=by simpa[Value.ownBlock]using a
  subst this;exact I
 ·by_cases i:j=P.length
  ·subst i;simp only[if_true];exact(m b hbn z).trans hb
  ·have f:j<P.length:=by rw[s]at hj;omega
   simp only[if_neg i];have:=h.pr.pl j f;exact(d _ (by omega) (by omega) (by omega)).trans (h.pr.pb j f)
 ·by_cases i:j=P.length
  ·subst i;simp only[if_true];exact G
  ·have f:j<P.length:=by rw[s]at hj;omega
   simp only[if_neg i];have:=h.pr.pl j f;rw[c _ (by omega)];exact this
 ·rcases n j hj with⟨f,e⟩|⟨i,e⟩
  ·rw[e];have i:j≠P.length:=by omega
   simp only[if_neg i];obtain⟨v,u,r⟩:=h.pr.xs j f;exact⟨v,u.of_heap (by omega) fun k a=>by have:=r k a;exact d k (by omega) (by omega) (by omega),fun k a=>by have:=r k a;rw[c k (by omega)];exact this⟩
  ·rw[e];subst i;simp only[if_true];exact⟨ox,hx.of_heap (by omega) fun k a=>m k (hox k a) (hx.lt k a),D⟩
 ·rcases n j hj with⟨f,e⟩|⟨i,e⟩
  ·rw[e];have i:j≠P.length:=by omega
   simp only[if_neg i];obtain⟨v,H,u,r⟩:=h.pr.ys j f;exact⟨v,H,u.of_heap (by omega) fun k a=>by have:=r k a;exact d k (by omega) (by omega) (by omega),fun k a=>by have:=r k a;rw[c k (by omega)];exact this⟩
  ·rw[e];subst i;simp only[if_true];exact⟨oy,V,hy.of_heap (by omega) fun k a=>m k (hoy k a) (hy.lt k a),F⟩
 ·have Q:=h.size;refine⟨l.os.trans (hgr.os.trans hc.os),l.tape.trans (hgr.tape.trans hc.tape),l.output.trans (hgr.output.trans hc.output),by omega,fun k a=>?_⟩;have:=h.out k a;exact d k (by omega) (by omega) (by omega)
theorem aD1{W:World}{n0 g0 B L:Nat}{N:Int}{bP:Nat→Nat}(h:LwW W n0 g0 N B L bP)(hL:L≤100000000)(f:Cf):
 Calls prog 29 #[.pointer (some ⟨g0,0,none⟩),cgV f] W fun e W'=>e= .returned (.bool true)∧∃L' bP',L'≤L+1∧L≤L'∧(oN f=true→L'=L+1)∧LwW W' n0 g0 N B L' bP'∧Below n0 W W':=by
 obtain⟨ia,c7,b5,b6,c8⟩:=info_parts aGg;obtain⟨b7,P,lv,c1,c2,c3,c4,c5,c6,K,a3,a7,a4,bX,bY,X,rfl,h3,h4⟩:=h;have d4:=X.size;have r:=aA W (qG f);have C:Chg NoS W (W.alloc (qG f)):=(Chg.refl _ _).alloc _;have a2:(W.alloc (qG f)).heap.size=W.heap.size+1:=by simp
 generalize O:W.alloc (qG f)=W0 at*;have a1:Hid (W.alloc (.cells #[.int .i64 f.f,.int .i64 f.clients,.int .i64 f.patience,.int .i64 f.tries,.int .i64 f.drift,.int .i64 f.compact,.int .i64 f.room] 30)=W0):=O;have Z:Hid (∀q y,(cgL f)[q]?=some y→W0.cell? ((⟨W.heap.size,0,none⟩:Addr).add q)=some y):=cR (cs:=cgL f) r;have HM:=cN (aJq W0 f);by_cases a:oN f=true
 ·simp only[if_pos a]at HM;have g:=cN (aLo X h3 h4 C r);have t:=cN a;clear X h3 h4 C r a2 O a;go_enter func29,ntmps29;go_wp2_with (first|rw[a1.out]|(refine cW rfl 30 _ rfl ⟨W.heap.size,0,none⟩ rfl (cgL f) _ Z.out underlying30 rfl (by kernel_rfl) ?_)|(go_at_call 34;refine HM.out.mono ?_;rintro e U ⟨gx,ox,rfl,hx,s,l⟩;refine cQ ?_));have S:Hid (∀q y,(cgL f)[q]?=some y→U.cell? ((⟨W.heap.size,0,none⟩:Addr).add q)=some y):=cR (cs:=cgL f) (l.kept g.out.2.2.2.2 (fun h=>h));have T:=cN (aDF U f);simp only[if_pos t.out]at T;have F:=cN (aLm hx s l);clear hx s l;refine cN ?_;go_wp2_with (first|(refine cW rfl 30 _ rfl ⟨W.heap.size,0,none⟩ rfl (cgL f) _ S.out underlying30 rfl (by kernel_rfl) ?_)|(go_at_call 65;refine T.out.mono ?_;rintro e j ⟨gy,oy,V,rfl,hy,o,d⟩;refine cQ ?_));have b3:=cN d.size;have b:Chg NoS W j:=(g.out.2.2.2.1.trans F.out.2.2 (fun _ _ h=>h)).trans d (fun _ _ h=>h);have a6:=F.out.1.kept d (fun _ _ h=>h);have u:Chg NoS j (j.alloc (.cells #[fG gx,fG gy] 131)):=(Chg.refl _ _).alloc _;have Q:=aA j (.cells #[fG gx,fG gy] 131);have R:(j.alloc (.cells #[fG gx,fG gy] 131)).heap.size=j.heap.size+1:=by simp
  generalize a0:j.alloc (.cells #[fG gx,fG gy] 131)=W3 at u Q R;have c9:=cN a0;have w:Chg NoS W W3:=b.trans u (fun _ _ h=>h);have D:=g.out.1.kept w (fun _ _ h=>h);obtain⟨pv,v,E,_⟩:=jP D.pr.row;have m:=D.pr.row;rw[E]at m;have b8:j.cell? ⟨g0,0,none⟩=some (.slice pv P.length v):=by
   have:=cO (g.out.1.kept b (fun _ _ h=>h)).hg 0 lv rfl;rw[←E];exact this
  have J:Chg NoS W3 (W3.alloc (.cells #[fG j.heap.size] 129)):=(Chg.refl _ _).alloc _;have a9:=cN (J.row m (fun _ _ h=>h));have b1:=cN (aA W3 (.cells #[fG j.heap.size] 129));have A:=cN (aLs w (a6.kept u (fun _ _ h=>h)) (hy.kept u (fun _ _ h=>h)) Q E R o b (show∀k,oy k≠0→k<j.heap.size from fun k hk=>hy.lt k hk));have Y:=cN (D.hg);clear b a6 u Q R a0 w D E m J hy o d;refine cN ?_;go_wp2_with (first|rw[c9.out]|(go_at_call 66;refine(vL _ _).mono ?_;rintro e W9 ⟨rfl,a5⟩;rw[a5];clear a5)|(at_builtin;refine wpList_append_lies _ rfl _ _ 75 rfl 0 129 ia _ 1 8 underlying75 c7 b5 b6 c8 rfl (by decide) (.slice pv P.length v) P.length (qA bP P.length) rfl a9.out ⟨W3.heap.size,0,none⟩ 1 1 [fG j.heap.size] rfl rfl (cR (cs:=[fG j.heap.size]) b1.out) (by simp[Value.oneCell']) (by decide) (by unfold maxLen;omega) (by omega) (aI _) (W3.heap.size+1) (by simp) ?_;intro gt d3 W5 z c H b0;refine cQ ?_));have n:W3.grownBy W5 lv.ownBlock:=by
   rw[A.out.2.2.2.2.1];exact(show W3.grownBy (W3.alloc (.cells #[fG j.heap.size] 129)) (Value.slice pv P.length v).ownBlock from World.grownBy_alloc _ _ _).trans ⟨c.os,c.tape,c.output,c.size,c.block⟩
  have b9:=A.out.2.2.2.2.2.1;have o:=A.out.2.2.2.2.2.2.1;have d:=A.out.2.2.2.2.2.2.2.1.size;have d2:=b3.out;have s:=F.out.2.1;have b2:=F.out.2.2.size;have a8:=g.out.2.2.2.1.size;obtain⟨b4,bP',c0,d1,G,I⟩:=g.out.1.add (W5:=W5) (x:=mC f) (y:=vP f) A.out.1 A.out.2.1 A.out.2.2.1 (fun k hk=>by have:=s k hk;omega) (fun k hk=>by have:=o k hk;omega) (fun k hk=>aH fun e=>by have h5:=o k e;have:=F.out.1.lt k hk;omega)
   ⟨aH fun e=>by have:=F.out.1.lt _ e;omega,aH fun e=>by have:=A.out.2.2.2.2.2.2.2.2 _ e;omega⟩ (by omega) A.out.2.2.2.1 n z (by
    rw[A.out.2.2.2.2.1];rcases H with h|h
    ·left;first|exact h|(rw[h];rfl)
    ·right;omega)
  have M:W5.heap[g0]?=_:=(n.block g0 (dG Y.out) (fun e=>by have:=g.out.1.pr.rl g0 e.symm;rw[g.out.1.l0]at this;omega)).trans Y.out;have d0:W5.cell? ⟨g0,0,none⟩=some lv:=cO M 0 _ rfl;have z0:=cX M 0;have HF:=cN (aLl G I);clear G I M c n z H b0 b9 o d s b2 a8 b8;refine cN ?_;go_wp2_with fail;go_ret;refine⟨rfl,P.length+1,bP',by omega,by omega,fun _=>rfl,⟨b4,_,_,c1,c2,c3,c4,c5,c6,K,a3,a7,a4,c0,d1,HF.out.1,by simp,fun i hi=>?_,g.out.2.2.1⟩,HF.out.2⟩;by_cases e:i<P.length
  ·rw[cD e];exact g.out.2.1 i e
  ·have ei:i=P.length:=by simp at hi;omega
   subst ei;simp only[List.getElem_append_right (aE _),Nat.sub_self,List.getElem_cons_zero];exact(aJv t.out).mono g.out.2.2.1.n0
 ·simp only[if_neg a]at HM;have g:=cN (aLo X h3 h4 C r);have t:=cN a;clear X h3 h4 C r a2 O a;go_enter func29,ntmps29;go_wp2_with (first|rw[a1.out]|(refine cW rfl 30 _ rfl ⟨W.heap.size,0,none⟩ rfl (cgL f) _ Z.out underlying30 rfl (by kernel_rfl) ?_)|(go_at_call 34;refine HM.out.mono ?_;rintro e U ⟨rfl,l⟩;refine cQ ?_));have S:Hid (∀q y,(cgL f)[q]?=some y→U.cell? ((⟨W.heap.size,0,none⟩:Addr).add q)=some y):=cR (cs:=cgL f) (l.kept g.out.2.2.2.2 (fun h=>h));have T:=cN (aDF U f);simp only[if_neg t.out]at T;have F:=cN l;clear l;refine cN ?_;go_wp2_with (first|(refine cW rfl 30 _ rfl ⟨W.heap.size,0,none⟩ rfl (cgL f) _ S.out underlying30 rfl (by kernel_rfl) ?_)|(go_at_call 65;refine T.out.mono ?_;rintro e j ⟨rfl,d⟩;refine cQ ?_));have b:Chg NoS W j:=(g.out.2.2.2.1.trans F.out (fun _ _ h=>h)).trans d (fun _ _ h=>h);have p:=cN b;clear d b;refine cN ?_;go_wp2_with (go_at_call 66;refine(vL _ _).mono ?_;rintro e W9 ⟨rfl,rfl⟩);go_ret;exact⟨rfl,P.length,bP,by omega,by omega,fun e=>absurd e t.out,⟨b7,P,lv,c1,c2,c3,c4,c5,c6,K,a3,a7,a4,bX,bY,g.out.1.kept p.out (fun _ _ h=>h),rfl,g.out.2.1,g.out.2.2.1⟩,
   p.out.os,p.out.tape,p.out.output,p.out.size,fun k hk=>p.out.block k (by omega) (fun h=>h)⟩
theorem aEz(pv:Option Addr)(at_:Int)(f c p t d k r:Int)(R:Rw)(s:ByteArray)(x y z u:Int)(w:World):
 Calls prog 30 #[.pointer pv,aK0 2 at_ f c p t d k r R.lock R.prom R.acc R.own R.tok R.ttl R.seq s x y z u] w fun e w'=>e= .returned (.bool true)∧Below w.heap.size w w':=by
 have D:=fun w=>aF4 R w;have C:=fun w=>nX R w;obtain⟨l,i,a,o,n,m,q⟩:=R;generalize strOfNums (dW ⟨l,i,a,o,n,m,q⟩)=X at D C;have I:Hid (∀w,Calls prog 69 #[.agg #[.int .i64 l,.int .i64 i,.int .i64 a,.int .i64 o,.int .i64 n,.int .i64 m,.int .i64 q]] w fun e w'=>e= .returned (.string X)∧Below w.heap.size w w'):=D;have H:Hid (∀w,Calls prog 70 #[.agg #[.int .i64 l,.int .i64 i,.int .i64 a,.int .i64 o,.int .i64 n,.int .i64 m,.int .i64 q]] w fun e w'=>e= .returned (.string X)∧Below w.heap.size w w'):=C;clear D C;go_enter func30,ntmps30;go_wp2_with (go_at_call 69;refine(I.out _).mono ?_;rintro e g ⟨rfl,h⟩;refine aGM ?_);have B:=((aJ _ w).alloc (aE _) _).trans (h.mono (by simp));have b:∀j v,(#[Value.int .i64 2,.int .i64 at_,.int .i64 f,.int .i64 c,.int .i64 p,.int .i64 t,.int .i64 d,.int .i64 k,.int .i64 r,.int .i64 l,.int .i64 i,.int .i64 a,.int .i64 o,.int .i64 n,.int .i64 m,.int .i64 q,.string s,.int .i64 x,.int .i64 y,.int .i64 z,.int .i64 u]:Array Value)[j]?=some v→g.cell? ⟨w.heap.size,j,none⟩=some v:=by
  intro j v J;rw[h.cell (p:=⟨w.heap.size,j,none⟩) (by simp)];simpa using J
 have S:g.cell? ⟨w.heap.size,9,none⟩=some (.int .i64 l):=b 9 _ rfl;have K:g.cell? ⟨w.heap.size,10,none⟩=some (.int .i64 i):=b 10 _ rfl;have P:g.cell? ⟨w.heap.size,11,none⟩=some (.int .i64 a):=b 11 _ rfl;have O:g.cell? ⟨w.heap.size,12,none⟩=some (.int .i64 o):=b 12 _ rfl;have N:g.cell? ⟨w.heap.size,13,none⟩=some (.int .i64 n):=b 13 _ rfl;have Q:g.cell? ⟨w.heap.size,14,none⟩=some (.int .i64 m):=b 14 _ rfl;have M:g.cell? ⟨w.heap.size,15,none⟩=some (.int .i64 q):=b 15 _ rfl;have F:=B.size;have G:=cN B;clear b h B;refine aBk ?_;go_wp2_with (go_at_call 70;refine(H.out _).mono ?_;rintro e L ⟨rfl,A⟩;have E:=aBk A;clear A;refine aGM ?_);refine aBk ?_;go_wp2;go_ret;exact⟨by simp,G.out.trans (E.out.mono F)⟩
section
variable {W:World} {n0 g0 B L:Nat} {N:Int} {bP:Nat→Nat}
theorem aC5(h:LwW W n0 g0 N B L bP)(hB:B≤100000000000)(n:Nat→Int)(s:ByteArray)(hs:s.size≤1000000000000)(hk:n 0=3):
 Calls prog 30 #[.pointer (some ⟨g0,0,none⟩),.agg (opL n s).toArray] W fun e w'=>e= .returned (.bool true)∧LwW w' n0 g0 N (B+1) L bP∧Below n0 W w':=by
 have o:=h.size;have b:=aA W (.cells (opL n s).toArray 83);have a:Chg NoS W (W.alloc (.cells (opL n s).toArray 83)):=(Chg.refl _ _).alloc _;generalize c:W.alloc (.cells (opL n s).toArray 83)=W1 at b a;have f:=cN c;have g:=h.kept a;have p:W1.cell? ⟨W.heap.size,0,none⟩=some (.int .i64 3):=by rw[←hk];exact cO b 0 (.int .i64 (n 0)) rfl
 have m:W1.cell? ⟨W.heap.size,16,none⟩=some (.string s):=cO b 16 (.string s) rfl;have d:Below n0 W W1:=⟨a.os,a.tape,a.output,a.size,fun k hk=>a.block k (by omega) (fun h=>h)⟩;have l:=cN (aHb g hB s hs);have j:=cN d;clear h g b a c hk d;go_enter func30,ntmps30;go_wp2_with (first|rw[f.out]|(go_at_call 71;refine l.out.mono ?_;rintro e r ⟨rfl,q⟩;have i:=cN q;clear q;refine cQ ?_));refine cN ?_;go_wp2;go_ret;exact⟨rfl,i.out.1,j.out.trans i.out.2⟩
theorem aGb(h:LwW W n0 g0 N B L bP)(hL:L≤100000000)(n:Nat→Int)(s:ByteArray)(hk:n 0=4):
 Calls prog 30 #[.pointer (some ⟨g0,0,none⟩),.agg (opL n s).toArray] W fun e w'=>e= .returned (.bool true)∧(∃L' bP',L'≤L+1∧L≤L'∧LwW w' n0 g0 N B L' bP')∧Below n0 W w':=by
 have t:=h.size;have a:=aA W (.cells (opL n s).toArray 83);have b:Chg NoS W (W.alloc (.cells (opL n s).toArray 83)):=(Chg.refl _ _).alloc _;generalize c:W.alloc (.cells (opL n s).toArray 83)=W1 at a b;have g:=cN c;have o:=h.kept b;have u:W1.cell? ⟨W.heap.size,0,none⟩=some (.int .i64 4):=by rw[←hk];exact cO a 0 (.int .i64 (n 0)) rfl
 have w:W1.cell? ⟨W.heap.size,2,none⟩=some (.int .i64 (n 2)):=cO a 2 (.int .i64 (n 2)) rfl;have A:W1.cell? ⟨W.heap.size,3,none⟩=some (.int .i64 (n 3)):=cO a 3 (.int .i64 (n 3)) rfl;have D:W1.cell? ⟨W.heap.size,4,none⟩=some (.int .i64 (n 4)):=cO a 4 (.int .i64 (n 4)) rfl;have C:W1.cell? ⟨W.heap.size,5,none⟩=some (.int .i64 (n 5)):=cO a 5 (.int .i64 (n 5)) rfl;have v:W1.cell? ⟨W.heap.size,6,none⟩=some (.int .i64 (n 6)):=cO a 6 (.int .i64 (n 6)) rfl;have x:W1.cell? ⟨W.heap.size,7,none⟩=some (.int .i64 (n 7)):=cO a 7 (.int .i64 (n 7)) rfl;have z:W1.cell? ⟨W.heap.size,8,none⟩=some (.int .i64 (n 8)):=cO a 8 (.int .i64 (n 8)) rfl;have d:Below n0 W W1:=⟨b.os,b.tape,b.output,b.size,fun k hk=>b.block k (by omega) (fun h=>h)⟩;have r:Hid (Calls prog 29 #[.pointer (some ⟨g0,0,none⟩),.agg #[.int .i64 (n 2),.int .i64 (n 3),.int .i64 (n 4),.int .i64 (n 5),.int .i64 (n 6),.int .i64 (n 7),.int .i64 (n 8)]] W1 fun e W'=>e= .returned (.bool true)∧∃L' bP',L'≤L+1∧L≤L'∧(oN ⟨n 2,n 3,n 4,n 5,n 6,n 7,n 8⟩=true→L'=L+1)∧LwW W' n0 g0 N B L' bP'∧Below n0 W1 W'):=cN (aD1 o hL ⟨n 2,n 3,n 4,n 5,n 6,n 7,n 8⟩);have q:=cN d;clear h o a b c hk d;go_enter func30,ntmps30;go_wp2_with (first|rw[g.out]|(go_at_call 29;refine r.out.mono ?_;rintro e y ⟨rfl,L',bP',i,j,p,m,l⟩;have f:=cN (aLn i j m l);clear i j p m l;refine cQ ?_));refine cN ?_;go_wp2;go_ret;exact⟨rfl,⟨L',bP',f.out.1,f.out.2.1,f.out.2.2.1⟩,q.out.trans f.out.2.2.2⟩
end
end Go.Proofs.YtbbdgokdfhdpiaaGreatDoor
