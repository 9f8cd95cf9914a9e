/- A part. -/
import Derived.Test.YtbbdgokdfhdpiaaGreatDoorA7
import Derived.Test.YtbbdgokdfhdpiaaGreatDoorA26
import Derived.Test.YtbbdgokdfhdpiaaGreatDoorA31
import Derived.Test.YtbbdgokdfhdpiaaGreatDoorA39
namespace Go.Proofs.YtbbdgokdfhdpiaaGreatDoor
set_option linter.all false
set_option maxRecDepth 100000
set_option maxHeartbeats 0
open Go.Proofs.Tryz Go.RowKit
theorem aDS{W:World}{n0 g0 next:Nat}{lab:Nat→Nat}{P:List (Mo×Rm)}{lv c1 c2 c3 c4 c5 c6:Value}{lsR lsM lsE:List (Value×Nat×Int)}{bP bX bY:Nat→Nat}(h:LwAt W n0 lab g0 P lv c1 c2 c3 c4 c5 c6 next lsR lsM lsE bP bX bY)
 {i:Nat} (hi:i<P.length) {N:Int} (hpo:PairOk false N P[i].1 P[i].2) (hN:N≤10000000000) (hnx:next≤1000000000000) (hls:lsR.length≤1000000000000) (n:Nat→Int) (s:ByteArray) (hk:n 0=14):
 Calls prog 73 #[.pointer (some ⟨g0,0,none⟩),.pointer (some ⟨bP i,0,none⟩),.agg (opL n s).toArray] W fun e W'=>e= .returned (.bool true)∧∃lab' c1' c2' ls',LwAt W' n0 lab' g0 P lv c1' c2' c3 c4 c5 c6 (next+1) ls' lsM lsE bP bX bY∧ls'.length=lsR.length+4∧(∀q ∈ ls',q ∈ lsR∨(q.2.1:Int)≤7)∧Below n0 W W':=by
 have a7:=h.size;have g:=aA W (.cells (opL n s).toArray 83);have a:Chg NoS W (W.alloc (.cells (opL n s).toArray 83)):=(Chg.refl _ _).alloc _;have O:W.heap.size+1≤(W.alloc (.cells (opL n s).toArray 83)).heap.size:=by simp
 generalize H:W.alloc (.cells (opL n s).toArray 83)=W1 at*;have a2:=cN H;have h1:=h.kept a (fun _ _ h=>h);have o0:W1.cell? ⟨W.heap.size,0,none⟩=some (.int .i64 14):=by rw[←hk];exact cO g 0 (.int .i64 (n 0)) rfl
 have D:W1.cell? ⟨W.heap.size,17,none⟩=some (.int .i64 (n 17)):=cO g 17 (.int .i64 (n 17)) rfl;have S:Below n0 W W1:=⟨a.os,a.tape,a.output,a.size,fun k hk=>a.block k (by omega) (fun h=>h)⟩;have U:lab W.heap.size=0:=aH fun e=>by have:=h.lt _ e;omega
 have M:=aFO hpo.sim hpo.ok (n 17);have J:=hpo.sim.ok hpo.ok;have u:=h1.drew;have t:Below n0 W W1.drew:=S.drew;have p0:W1.cell? ⟨bP i,0,none⟩=some (fG (bX i)):=cO (h1.pr.pb i hi) 0 _ rfl;obtain⟨ox,mx,wx⟩:=u.pr.xs i hi;have HM:=cN (aFf W1.drew ox (bX i) P[i].1 N (n 17) mx hpo.ok);have G:=cN (aLq u t (show W1.drew.heap[W.heap.size]?=_ from g) (show W.heap.size+1≤W1.drew.heap.size from O));have HP:=cN (aLo M J);have a5:(oG P[i].1 (n 17)).length≤4:=by
  unfold oG;split
  ·exact lC _ _
  ·exact aI _
 clear h h1 u g a O H hpo hk S t U mx wx M J;go_enter func73,ntmps73;go_wp2_with (first|rw[a2.out]);refine rlx [0,0,0,1,0,1,2,0,0,0,0,0] (fun z=>z.cell? ⟨bP i,0,none⟩=some (fG (bX i))∧z.cell? ⟨W.heap.size,17,none⟩=some (.int .i64 (n 17))) (by kernel_rfl) (fun _ _ _ _=>rfl) ?_ ?_
 ·exact⟨p0,D⟩
 simp only[dC,dB];iterate 6 (apply sB rfl rfl;·(intro x h;(try have h:=h rfl);(try dsimp only at h);go_simp;with_reducible rfl))
 try simp only[pA]
 refine dI rfl (fun C hC=>?_);go_simp;refine HM.out.mono ?_;rintro e d ⟨X,rfl,K,c⟩;have v:Chg NoS W1.drew d:=Chg.below' c;refine hC _ _ ⟨v.cellN p0,v.cellN D⟩ ?_;clear hC C;(try simp only[pA]);iterate 5 (apply sB rfl rfl;·(intro x h;(try have h:=h rfl);(try dsimp only at h);go_simp;with_reducible rfl))
 refine cP ?_;try simp only[pA]
 have h2:=G.out.1.below c;have p:d.heap[W.heap.size]?=some (.cells (opL n s).toArray 83 (0,0)):=(Chg.below' c).kept G.out.2.2.1 (fun h=>h);have y:d.cell? ⟨W.heap.size,17,none⟩=some (.int .i64 (n 17)):=cO p 17 (.int .i64 (n 17)) rfl;have p1:d.cell? ⟨bP i,1,none⟩=some (fG (bY i)):=cO (h2.pr.pb i hi) 1 _ rfl;have A:=h2.drew;have I:W1.drew.heap.size≤d.heap.size:=c.size;have o:Below n0 W d.drew:=(G.out.2.1.trans (c.mono G.out.1.size)).drew;obtain⟨oy,V,my,wy⟩:=A.pr.ys i hi;have HY:=cN (aFg d.drew oy (bY i) P[i].2 V N (n 17) my HP.out.2);rw[HP.out.1.1,HP.out.1.2]at HY;have H2:=cN (aLp A o I);have a3:=cN K;clear h2 p A o I my wy c p0 o0 D K v;(try simp only[pA]);go_wp2_with fail;refine rlx [0,0,0,1,0,1,2,0,0,0,0,0] (fun z=>z.cell? ⟨bP i,1,none⟩=some (fG (bY i))∧z.cell? ⟨W.heap.size,17,none⟩=some (.int .i64 (n 17))) (by kernel_rfl) (fun _ _ _ _=>rfl) ?_ ?_
 ·exact⟨p1,y⟩
 simp only[dC,dB];iterate 6 (apply sB rfl rfl;·(intro x h;(try have h:=h rfl);(try dsimp only at h);go_simp;with_reducible rfl))
 try simp only[pA]
 refine dI rfl (fun C hC=>?_);go_simp;refine HY.out.mono ?_;rintro e W3 ⟨v2,rfl,B,l⟩;have j:Chg NoS d.drew W3:=Chg.below' l;refine hC _ _ ⟨j.cellN p1,j.cellN y⟩ ?_;clear hC C;(try simp only[pA]);iterate 5 (apply sB rfl rfl;·(intro x h;(try have h:=h rfl);(try dsimp only at h);go_simp;with_reducible rfl))
 refine cP ?_;try simp only[pA]
 have h3:=H2.out.1.below l;have L:=H2.out.2.1.trans (l.mono H2.out.1.size);have b:W3.ownsRow W1.drew.heap.size 58 7 X (oG P[i].1 (n 17)).length (cellsOf (oG P[i].1 (n 17))):=j.row (show d.drew.ownsRow W1.drew.heap.size 58 7 X (oG P[i].1 (n 17)).length (cellsOf (oG P[i].1 (n 17)))from a3.out) (fun _ _ h=>h);generalize oG P[i].1 (n 17)=T at a5 b B;have a4:=cN (xO X v2 T W3 (nR b) (nR B));have Z:=cN (aLp h3 L b);have a6:W1.drew.heap.size≤d.drew.heap.size:=H2.out.2.2;clear h3 L l j p1 y b B;(try simp only[pA]);go_wp2_with (go_at_call 104;refine a4.out.mono ?_;rintro e W4 ⟨rfl,f⟩;refine cQ ?_);have E:=Z.out.1.below f;have w:=(Chg.below' f).row Z.out.2.2 (fun _ _ h=>h);have Q:=Z.out.2.1.trans (f.mono Z.out.1.size);have HO:=cN (aAG (Or.inl ⟨rfl,rfl,rfl,rfl,rfl,rfl,rfl,rfl,rfl,rfl⟩) (F:=rwL) (mk:=aKd) (fun _=>rfl) (fun _=>rfl) (wd:=fun r m n=>(wdL lv r m c3 c4 c5 c6 n).toArray) (fun _ _ _=>⟨rfl,rfl,rfl,fun _=>rfl,fun _=>rfl,fun _=>rfl⟩) W4 lab g0 c1 c2 next lsR E.hg E.l0 E.lt E.R hnx hls X T.length T (by omega) rfl (gL w (aI _)) (fun k hk=>aH fun e=>by have h5:=G.out.1.lt k e;have:=(w.lt k hk).1;omega));have H4:=cN (aLo E Q);clear E w Q f;refine cN ?_;go_wp2_with (go_at_call 105;refine HO.out.mono ?_;rintro e W5 ⟨rfl,lab',a1,a0,ls',q1,q2,q3,q4,q5,q6,q7,q8⟩;refine cQ ?_);obtain⟨r1,r2⟩:=H4.out.1.ownR q3 q4 q5 q6 q8;have Y:=cN (aLq r1 q1 q2 (H4.out.2.trans r2));clear q1 q2 q3 q4 q5 q6 q7 q8 r1 r2;refine cN ?_;go_wp2_with (go_at_call 66;refine(uZ _ _).mono ?_;rintro e W6 ⟨rfl,rfl⟩)
 go_ret;exact⟨by simp,lab',a1,a0,ls',Y.out.1,Y.out.2.1,fun q hq=>(Y.out.2.2.1 q hq).imp id (fun h=>by omega),Y.out.2.2.2⟩
theorem aHM{W:World}{n0 g0 next:Nat}{lab:Nat→Nat}{P:List (Mo×Rm)}{lv c1 c2 c3 c4 c5 c6:Value}{lsR lsM lsE:List (Value×Nat×Int)}{bP bX bY:Nat→Nat}(h:LwAt W n0 lab g0 P lv c1 c2 c3 c4 c5 c6 next lsR lsM lsE bP bX bY)
 {i:Nat} (hi:i<P.length) {N:Int} (hpo:PairOk false N P[i].1 P[i].2) (hN:N≤10000000000) (hnx:next≤1000000000000) (n:Nat→Int) (s:ByteArray) (hk:n 0=15):
 Calls prog 73 #[.pointer (some ⟨g0,0,none⟩),.pointer (some ⟨bP i,0,none⟩),.agg (opL n s).toArray] W fun e W'=>e= .returned (.bool true)∧LwAt W' n0 lab g0 P lv c1 c2 c3 c4 c5 c6 next lsR lsM lsE bP bX bY∧Below n0 W W':=by
 have a0:=h.size;have d:=aA W (.cells (opL n s).toArray 83);have a:Chg NoS W (W.alloc (.cells (opL n s).toArray 83)):=(Chg.refl _ _).alloc _;have w:W.heap.size+1≤(W.alloc (.cells (opL n s).toArray 83)).heap.size:=by simp
 generalize u:W.alloc (.cells (opL n s).toArray 83)=W1 at*;have M:=cN u;have I:=h.kept a (fun _ _ h=>h);have o0:W1.cell? ⟨W.heap.size,0,none⟩=some (.int .i64 15):=by rw[←hk];exact cO d 0 (.int .i64 (n 0)) rfl
 have q:W1.cell? ⟨W.heap.size,17,none⟩=some (.int .i64 (n 17)):=cO d 17 (.int .i64 (n 17)) rfl;have A:Below n0 W W1:=⟨a.os,a.tape,a.output,a.size,fun k hk=>a.block k (by omega) (fun h=>h)⟩;have E:lab W.heap.size=0:=aH fun e=>by have:=h.lt _ e;omega
 have v:=aIQ hpo.sim (n 17);have B:=hpo.sim.ok hpo.ok;have p:=I.drew;have l:Below n0 W W1.drew:=A.drew;have L:W1.cell? ⟨bP i,0,none⟩=some (fG (bX i)):=cO (I.pr.pb i hi) 0 _ rfl;obtain⟨ox,mx,Y⟩:=p.pr.xs i hi;have X:=cN (aJv W1.drew ox (bX i) P[i].1 N (n 17) mx hpo.ok);have F:=cN (aLq p l (show W1.drew.heap[W.heap.size]?=_ from d) (show W.heap.size+1≤W1.drew.heap.size from w));have H:=cN (aLo v B);clear h I p d a w u hpo hk A l E mx Y v B;go_enter func73,ntmps73;go_wp2_with (first|rw[M.out]);refine rlx [0,0,0,1,0,1,2,0,0,0,0,0] (fun z=>z.cell? ⟨bP i,0,none⟩=some (fG (bX i))∧z.cell? ⟨W.heap.size,17,none⟩=some (.int .i64 (n 17))) (by kernel_rfl) (fun _ _ _ _=>rfl) ?_ ?_
 ·exact⟨L,q⟩
 simp only[dC,dB];iterate 6 (apply sB rfl rfl;·(intro x h;(try have h:=h rfl);(try dsimp only at h);go_simp;with_reducible rfl))
 try simp only[pA]
 refine dI rfl (fun C hC=>?_);go_simp;refine X.out.mono ?_;rintro e c ⟨rfl,rfl⟩;obtain⟨c,t⟩:=aLA (W1.drew);have b:Below W1.drew.heap.size W1.drew c:=by rw[←t];exact aJ _ _
 refine hC _ _ ⟨L,q⟩ ?_;clear hC C;(try simp only[pA]);iterate 5 (apply sB rfl rfl;·(intro x h;(try have h:=h rfl);(try dsimp only at h);go_simp;with_reducible rfl))
 refine cP ?_;try simp only[pA]
 try rw[t]
 have G:=F.out.1.below b;have g:c.heap[W.heap.size]?=some (.cells (opL n s).toArray 83 (0,0)):=(Chg.below' b).kept F.out.2.2.1 (fun h=>h);have r:c.cell? ⟨W.heap.size,17,none⟩=some (.int .i64 (n 17)):=cO g 17 (.int .i64 (n 17)) rfl;have J:c.cell? ⟨bP i,1,none⟩=some (fG (bY i)):=cO (G.pr.pb i hi) 1 _ rfl;have m:=G.drew;have y:W1.drew.heap.size≤c.heap.size:=b.size;have j:Below n0 W c.drew:=(F.out.2.1.trans (b.mono F.out.1.size)).drew;obtain⟨T,V,O,U⟩:=m.pr.ys i hi;have R:=cN (aJx c.drew T (bY i) P[i].2 V N (n 17) O H.out.2);rw[H.out.1.1,H.out.1.2]at R;have K:=cN (aLp m j y);clear G g m j y O U b L o0 q;(try simp only[pA]);go_wp2_with fail;refine rlx [0,0,0,1,0,1,2,0,0,0,0,0] (fun z=>z.cell? ⟨bP i,1,none⟩=some (fG (bY i))∧z.cell? ⟨W.heap.size,17,none⟩=some (.int .i64 (n 17))) (by kernel_rfl) (fun _ _ _ _=>rfl) ?_ ?_
 ·exact⟨J,r⟩
 simp only[dC,dB];iterate 6 (apply sB rfl rfl;·(intro x h;(try have h:=h rfl);(try dsimp only at h);go_simp;with_reducible rfl))
 try simp only[pA]
 refine dI rfl (fun C hC=>?_);go_simp;refine R.out.mono ?_;rintro e W3 ⟨rfl,f⟩;have o:Chg NoS c.drew W3:=Chg.below' f;refine hC _ _ ⟨o.cellN J,o.cellN r⟩ ?_;clear hC C;(try simp only[pA]);iterate 5 (apply sB rfl rfl;·(intro x h;(try have h:=h rfl);(try dsimp only at h);go_simp;with_reducible rfl))
 refine cP ?_;try simp only[pA]
 have S:=K.out.1.below f;have D:=K.out.2.1.trans (f.mono K.out.1.size);have Q:=cN (aLo S D);clear S D f o J r;(try simp only[pA]);go_wp2_with (go_at_call 66;refine(uZ _ _).mono ?_;rintro e W4 ⟨rfl,rfl⟩);go_ret;exact⟨by simp,Q.out.1,Q.out.2⟩
theorem aHC{W:World}{n0 g0 B L:Nat}{N:Int}{bP:Nat→Nat}(h:LwW W n0 g0 N B L bP)(hB:B≤100000000000)(s:ByteArray)(hs:s.size≤1000000000000):
 Calls prog 71 #[.pointer (some ⟨g0,0,none⟩),.string s] W fun e w'=>e= .returned (.bool true)∧LwW w' n0 g0 N (B+1) L bP∧Below n0 W w':=by
 obtain⟨J,P,lv,c1,c2,c3,c4,c5,c6,b,O,S,H,bX,bY,z,rfl,j,a⟩:=h;have T:=z.size;have g:=aBq s W hs;have p:=fun w=>qR s w hs;have K:(eG (dO (dH s)) 4).length≤4:=lC _ _;generalize eG (dO (dH s)) 4=t at g p K;generalize (dO (dH s)).length=Q at g p;have H2:Hid (∀w,Calls prog 103 #[.string s] w fun e w'=>∃v,e= .returned (.tuple #[v,.int .i64 (25*(Q:Int))])∧w'.ownsRow w.heap.size 58 7 v t.length (cellsOf t)∧Below w.heap.size w w'):=p;have H1:Hid (Calls prog 22 #[.string s] W fun e w'=>∃v,e= .returned (.tuple #[v,.int .i64 (25*(Q:Int))])∧w'.ownsRow W.heap.size 58 7 v t.length (cellsOf t)∧Below W.heap.size W w'):=g;have HS:=cN z;have D:=cN (aLo j a);clear g p z j a;go_enter func71,ntmps71;go_wp2_with fail;refine H1.out.mono ?_;rintro e w1 ⟨A,rfl,o1,U⟩;have O1:=aBM o1;have l:=aBM U;clear o1 U;go_wp2_with (go_at_call 103;refine(H2.out w1).mono ?_;rintro e w2 ⟨v2,rfl,o2,b2⟩;have O2:=aBM o2;have C:=aBM b2;clear o2 b2;refine aGA ?_);refine aBM ?_;have c:=aBM (jJ O1.out (C.out.mono (by have:=l.out.size;omega)));go_wp2_with (go_at_call 104;refine(xO A v2 t w2 (nR c.out) (nR O2.out)).mono ?_;rintro e x ⟨rfl,X⟩;have B3:=aBM X;clear X;refine aGA ?_);refine aBM ?_;have d:Hid (Below W.heap.size W x):=l.out.trans ((C.out.mono l.out.size).trans (B3.out.mono (cA l.out.size C.out.size)));have S3:=HS.out.below d.out;have V:Hid (x.ownsRow W.heap.size 58 7 A t.length (cellsOf t)):=jJ c.out B3.out;have hn:=D.out.2.nx;have hR:=D.out.2.lR
 have HO:=cN (aAG (Or.inl ⟨rfl,rfl,rfl,rfl,rfl,rfl,rfl,rfl,rfl,rfl⟩) (F:=rwL) (mk:=aKd) (fun _=>rfl) (fun _=>rfl) (wd:=fun r m n=>(wdL lv r m c3 c4 c5 c6 n).toArray) (fun _ _ _=>⟨rfl,rfl,rfl,fun _=>rfl,fun _=>rfl,fun _=>rfl⟩) x J g0 c1 c2 b O S3.hg S3.l0 S3.lt S3.R (by omega) (by omega) A t.length t (by omega) rfl (gL V.out (aI _)) (fun k hk=>aH fun e=>by have h5:=HS.out.lt k e;have:=(V.out.lt k hk).1;omega));have H3:=cN S3;clear S3;go_wp2_with (go_at_call 105;refine HO.out.mono ?_;rintro e w4 ⟨rfl,f,I,G,E,y,u,Z,q4,q5,Y,q7,q8⟩;refine cQ ?_);obtain⟨i,o⟩:=H3.out.ownR Z q4 q5 Y q8;have HF:=cN (aLq i y u ((d.out.mono T).trans o));clear y u Z q4 q5 Y q7 q8 i o;refine cN ?_;go_wp2;go_ret;obtain⟨i,y,u,o⟩:=HF.out;obtain⟨j,a⟩:=D.out;have M:=a.n0;have a1:=a.lR;have a2:=a.lM;have a0:=a.lE;exact⟨by simp,⟨f,P,lv,I,G,c3,c4,c5,c6,b+1,E,S,H,bX,bY,i,rfl,j,M,by omega,by omega,by omega,by omega,fun q hq=>(u q hq).elim (a.kR q) (fun h=>by omega),a.kM,a.kE⟩,o⟩
theorem aE9:(prog.info? 129).map (fun i=>(i.zero,i.size,i.bytes))=some (some (.pointer none),1,8):=by kernel_rfl
theorem aHN(f:Nat→Nat)(n b:Nat):pO (fun j=>if j=n then b else f j) (n+1)=pO f n++[fG b]:=vW f n b
def pR(lab ox oy:Nat→Nat)(L b gt:Nat):Nat→Nat:=fun k=>
 if lab k≠0 then lab k else if ox k≠0 then 12+3*L else if oy k≠0 then 13+3*L else if k=b then 11+3*L else if k=gt then 2 else 0
theorem LwAt.add{W W3 W5:World}{n0 g0 next:Nat}{lab:Nat→Nat}{P:List (Mo×Rm)}{lv c1 c2 c3 c4 c5 c6:Value}{lsR lsM lsE:List (Value×Nat×Int)}{bP bX bY:Nat→Nat}(h:LwAt W n0 lab g0 P lv c1 c2 c3 c4 c5 c6 next lsR lsM lsE bP bX bY)
 {ox oy:Nat→Nat} {gx gy b gt cap:Nat} {x:Mo} {y:Rm} {V:RmV} (hc:Chg NoS W W3) (hx:Moor W3 ox gx x) (hy:RmAt W3 oy gy y V) (hox:∀k,ox k≠0→W.heap.size≤k) (hoy:∀k,oy k≠0→W.heap.size≤k) (hoo:∀k,ox k≠0→oy k=0) (hob:ox b=0∧oy b=0) (hbn:W.heap.size≤b)
 (hb:W3.heap[b]?=some (.cells #[fG gx,fG gy] 131 (0,0)))
 (hgr:W3.grownBy W5 lv.ownBlock) (hrow:W5.ownsRow 0 129 1 (.slice (some ⟨gt,0,none⟩) (P.length+1) cap) (P.length+1) (pO bP P.length++[fG b])) (hat:lv.ownBlock=some gt∨W3.heap.size≤gt):
 ∃lab' bP' bX' bY',LwAt (W5.setCell ⟨g0,0,none⟩ (.slice (some ⟨gt,0,none⟩) (P.length+1) cap)) n0 lab' g0 (P++[(x,y)]) (.slice (some ⟨gt,0,none⟩) (P.length+1) cap) c1 c2 c3 c4 c5 c6 next lsR lsM lsE bP' bX' bY'∧Below n0 W (W5.setCell ⟨g0,0,none⟩ (.slice (some ⟨gt,0,none⟩) (P.length+1) cap)):=by
 have K:=hc.size;have L:=hgr.size;have O:g0<W.heap.size:=dG h.hg;have g:∀k,lv.ownBlock=some k→lab k=2:=h.pr.rl;have A:W5.heap[g0]?=_:=(hgr.block g0 (by omega) (fun e=>by have:=g g0 e.symm;rw[h.l0]at this;omega)).trans (hc.kept h.hg (fun h=>h));have l:=cY W5 g0 0 (.slice (some ⟨gt,0,none⟩) (P.length+1) cap);have z:=dD A 0 (.slice (some ⟨gt,0,none⟩) (P.length+1) cap);have C:=eY hrow gt rfl;have B:gt≠g0:=fun e=>by
  rcases hat with p|p
  ·have:=g gt p;rw[e,h.l0]at this;omega
  ·omega
 have o:=l.row hrow (fun q hq e=>by have:gt=q:=(by simpa[Value.ownBlock]using hq);omega);have N:=l.size;generalize J:W5.setCell ⟨g0,0,none⟩ (.slice (some ⟨gt,0,none⟩) (P.length+1) cap)=W6 at*;have d:∀k,lab k≠0→lab k≠1→lab k≠2→W6.heap[k]?=W.heap[k]?:=fun k h0 h1 h2=>by
  have a:=h.lt k h0;exact(l.block k (by omega) (fun e=>by rw[e,h.l0]at h1;exact h1 rfl)).trans ((hgr.block k (by omega) (fun e=>h2 (g k e.symm))).trans (hc.block k a (fun h=>h)))
 have m:∀k,W.heap.size≤k→k<W3.heap.size→W6.heap[k]?=W3.heap[k]?:=fun k h0 h1=>
  (l.block k (by omega) (fun e=>by omega)).trans (hgr.block k h1 (fun e=>by have:=eY h.pr.row k e.symm;omega))
 have s:∀k,W.heap.size≤k→lab k=0:=fun k a=>aH fun e=>by have:=h.lt k e;omega
 have c:∀k,lab k≠0→pR lab ox oy P.length b gt k=lab k:=fun k a=>if_pos a;have w:b<W3.heap.size:=dG hb;have F:∀k,ox k≠0→pR lab ox oy P.length b gt k=12+3*P.length:=fun k a=>by
  unfold pR;rw[if_neg (by rw[s k (hox k a)];decide),if_pos a]
 have I:∀k,oy k≠0→pR lab ox oy P.length b gt k=13+3*P.length:=fun k a=>by
  unfold pR;rw[if_neg (by rw[s k (hoy k a)];decide),if_neg (fun e=>a (hoo k e)),if_pos a]
 have H:pR lab ox oy P.length b gt b=11+3*P.length:=by
  unfold pR;rw[if_neg (by rw[s b hbn];decide),if_neg (fun e=>e hob.1),if_neg (fun e=>e hob.2),if_pos rfl]
 have D:pR lab ox oy P.length b gt gt=2:=by
  rcases hat with p|p
  ·rw[c gt (by rw[g gt p];decide)];exact g gt p
  ·unfold pR;rw[if_neg (by rw[s gt (by omega)];decide),if_neg (fun e=>by have:=hx.lt gt e;omega),if_neg (fun e=>by have:=hy.lt gt e;omega),if_neg (by omega),if_pos rfl]
 have t:(P++[(x,y)]).length=P.length+1:=by simp
 have n:∀(j:Nat) (hj:j<(P++[(x,y)]).length),(∃f:j<P.length,(P++[(x,y)])[j]=P[j])∨(j=P.length∧(P++[(x,y)])[j]=(x,y)):=fun j hj=>by
  by_cases e:j<P.length
  ·left;exact⟨e,by rw[cD e]⟩
  ·right;have i:j=P.length:=by rw[t]at hj;omega
   subst i;exact⟨rfl,by simp⟩
 refine⟨pR lab ox oy P.length b gt,fun j=>if j=P.length then b else bP j,fun j=>if j=P.length then gx else bX j,fun j=>if j=P.length then gy else bY j,
  ⟨z,by rw[c g0 (by rw[h.l0];decide)];exact h.l0,fun k a=>?_,fun k a=>by have:=h.out k a;rw[c k (by omega)];exact this,⟨?_,?_,fun j hj=>?_,fun j hj=>?_,fun j hj=>?_,fun j hj=>?_⟩,
   h.R.frame (by decide) (by omega) (fun k a=>d k (by omega) (by omega) (by omega)) c,h.M.frame (by decide) (by omega) (fun k a=>d k (by omega) (by omega) (by omega)) c,h.E.frame (by decide) (by omega) (fun k a=>d k (by omega) (by omega) (by omega)) c⟩,?_⟩
 ·unfold pR at a;split at a
  ·have:=h.lt k (by assumption);omega
  ·split at a
   ·have:=hx.lt k (by assumption);omega
   ·split at a
    ·have:=hy.lt k (by assumption);omega
    ·split at a
     ·omega
     ·split at a
      ·omega
      ·exact absurd rfl a
 ·rw[t,aHN];exact o
 ·intro k a;have:gt=k:=by simpa[Value.ownBlock]using a
  subst this;exact D
 ·by_cases i:j=P.length
  ·subst i;simp only[if_true];exact(m b hbn w).trans hb
  ·have f:j<P.length:=by rw[t]at hj;omega
   simp only[if_neg i];have:=h.pr.pl j f;exact(d _ (by omega) (by omega) (by omega)).trans (h.pr.pb j f)
 ·by_cases i:j=P.length
  ·subst i;simp only[if_true];exact H
  ·have f:j<P.length:=by rw[t]at hj;omega
   simp only[if_neg i];have:=h.pr.pl j f;rw[c _ (by omega)];exact this
 ·rcases n j hj with⟨f,e⟩|⟨i,e⟩
  ·rw[e];have i:j≠P.length:=by omega
   simp only[if_neg i];obtain⟨v,u,r⟩:=h.pr.xs j f;exact⟨v,u.of_heap (by omega) fun k a=>by have:=r k a;exact d k (by omega) (by omega) (by omega),fun k a=>by have:=r k a;rw[c k (by omega)];exact this⟩
  ·rw[e];subst i;simp only[if_true];exact⟨ox,hx.of_heap (by omega) fun k a=>m k (hox k a) (hx.lt k a),F⟩
 ·rcases n j hj with⟨f,e⟩|⟨i,e⟩
  ·rw[e];have i:j≠P.length:=by omega
   simp only[if_neg i];obtain⟨v,G,u,r⟩:=h.pr.ys j f;exact⟨v,G,u.of_heap (by omega) fun k a=>by have:=r k a;exact d k (by omega) (by omega) (by omega),fun k a=>by have:=r k a;rw[c k (by omega)];exact this⟩
  ·rw[e];subst i;simp only[if_true];exact⟨oy,V,hy.of_heap (by omega) fun k a=>m k (hoy k a) (hy.lt k a),I⟩
 ·have Q:=h.size;refine⟨l.os.trans (hgr.os.trans hc.os),l.tape.trans (hgr.tape.trans hc.tape),l.output.trans (hgr.output.trans hc.output),by omega,fun k a=>?_⟩;have:=h.out k a;exact d k (by omega) (by omega) (by omega)
theorem aD5{W:World}{n0 g0 B L:Nat}{N:Int}{bP:Nat→Nat}(h:LwW W n0 g0 N B L bP)(hL:L≤100000000)(f:Cf):
 Calls prog 29 #[.pointer (some ⟨g0,0,none⟩),cgV f] W fun e W'=>e= .returned (.bool true)∧∃L' bP',L'≤L+1∧L≤L'∧(oK f=true→L'=L+1)∧LwW W' n0 g0 N B L' bP'∧Below n0 W W':=by
 obtain⟨ia,c0,c9,b7,c8⟩:=info_parts aE9;obtain⟨c7,P,lv,c1,c2,c3,c4,c5,c6,G,a4,a0,a6,bX,bY,U,rfl,h3,h4⟩:=h;have d4:=U.size;have s:=aA W (qE f);have D:Chg NoS W (W.alloc (qE f)):=(Chg.refl _ _).alloc _;have a1:(W.alloc (qE f)).heap.size=W.heap.size+1:=by simp
 generalize R:W.alloc (qE f)=W0 at*;have a2:Hid (W.alloc (.cells #[.int .i64 f.f,.int .i64 f.clients,.int .i64 f.patience,.int .i64 f.tries,.int .i64 f.drift,.int .i64 f.compact,.int .i64 f.room] 30)=W0):=R;have Z:Hid (∀q y,(cgL f)[q]?=some y→W0.cell? ((⟨W.heap.size,0,none⟩:Addr).add q)=some y):=cR (cs:=cgL f) s;have HM:=cN (aJi W0 f);by_cases a:oK f=true
 ·simp only[if_pos a]at HM;have g:=cN (aLr U h3 h4 D s);have t:=cN a;clear U h3 h4 D s a1 R a;go_enter func29,ntmps29;go_wp2_with (first|rw[a2.out]|(refine cW rfl 30 _ rfl ⟨W.heap.size,0,none⟩ rfl (cgL f) _ Z.out underlying30 rfl (by kernel_rfl) ?_)|(go_at_call 34;refine HM.out.mono ?_;rintro e X ⟨gx,ox,rfl,hx,u,l⟩;refine cQ ?_));have O:Hid (∀q y,(cgL f)[q]?=some y→X.cell? ((⟨W.heap.size,0,none⟩:Addr).add q)=some y):=cR (cs:=cgL f) (l.kept g.out.2.2.2.2 (fun h=>h));have T:=cN (aDz X f);simp only[if_pos t.out]at T;have F:=cN (aLp hx u l);clear hx u l;refine cN ?_;go_wp2_with (first|(refine cW rfl 30 _ rfl ⟨W.heap.size,0,none⟩ rfl (cgL f) _ O.out underlying30 rfl (by kernel_rfl) ?_)|(go_at_call 65;refine T.out.mono ?_;rintro e j ⟨gy,oy,V,rfl,hy,p,d⟩;refine cQ ?_));have a9:=cN d.size;have b:Chg NoS W j:=(g.out.2.2.2.1.trans F.out.2.2 (fun _ _ h=>h)).trans d (fun _ _ h=>h);have Y:=F.out.1.kept d (fun _ _ h=>h);have r:Chg NoS j (j.alloc (.cells #[fG gx,fG gy] 131)):=(Chg.refl _ _).alloc _;have Q:=aA j (.cells #[fG gx,fG gy] 131);have M:(j.alloc (.cells #[fG gx,fG gy] 131)).heap.size=j.heap.size+1:=by simp
  generalize a7:j.alloc (.cells #[fG gx,fG gy] 131)=W3 at r Q M;have b9:=cN a7;have w:Chg NoS W W3:=b.trans r (fun _ _ h=>h);have C:=g.out.1.kept w (fun _ _ h=>h);obtain⟨pv,v,E,_⟩:=jR C.pr.row;have n:=C.pr.row;rw[E]at n;have b8:j.cell? ⟨g0,0,none⟩=some (.slice pv P.length v):=by
   have:=cO (g.out.1.kept b (fun _ _ h=>h)).hg 0 lv rfl;rw[←E];exact this
  have I:Chg NoS W3 (W3.alloc (.cells #[fG j.heap.size] 129)):=(Chg.refl _ _).alloc _;have b1:=cN (I.row n (fun _ _ h=>h));have b2:=cN (aA W3 (.cells #[fG j.heap.size] 129));have A:=cN (aLv w (Y.kept r (fun _ _ h=>h)) (hy.kept r (fun _ _ h=>h)) Q E M p b (show∀k,oy k≠0→k<j.heap.size from fun k hk=>hy.lt k hk));have a5:=cN (C.hg);clear b Y r Q M a7 w C E n I hy p d;refine cN ?_;go_wp2_with (first|rw[b9.out]|(go_at_call 66;refine(uZ _ _).mono ?_;rintro e W9 ⟨rfl,a3⟩;rw[a3];clear a3)|(at_builtin;refine wpList_append_lies _ rfl _ _ 75 rfl 0 129 ia _ 1 8 underlying75 c0 c9 b7 c8 rfl (by decide) (.slice pv P.length v) P.length (pO bP P.length) rfl b1.out ⟨W3.heap.size,0,none⟩ 1 1 [fG j.heap.size] rfl rfl (cR (cs:=[fG j.heap.size]) b2.out) (by simp[Value.oneCell']) (by decide) (by unfold maxLen;omega) (by omega) (aI _) (W3.heap.size+1) (by simp) ?_;intro gt d3 W5 z c J b4;refine cQ ?_));have m:W3.grownBy W5 lv.ownBlock:=by
   rw[A.out.2.2.2.2.1];exact(show W3.grownBy (W3.alloc (.cells #[fG j.heap.size] 129)) (Value.slice pv P.length v).ownBlock from World.grownBy_alloc _ _ _).trans ⟨c.os,c.tape,c.output,c.size,c.block⟩
  have b6:=A.out.2.2.2.2.2.1;have p:=A.out.2.2.2.2.2.2.1;have d:=A.out.2.2.2.2.2.2.2.1.size;have d2:=a9.out;have u:=F.out.2.1;have a8:=F.out.2.2.size;have b3:=g.out.2.2.2.1.size;obtain⟨b0,bP',b5,d1,K,H⟩:=g.out.1.add (W5:=W5) (x:=mC f) (y:=vS f) A.out.1 A.out.2.1 A.out.2.2.1 (fun k hk=>by have:=u k hk;omega) (fun k hk=>by have:=p k hk;omega) (fun k hk=>aH fun e=>by have h5:=p k e;have:=F.out.1.lt k hk;omega)
   ⟨aH fun e=>by have:=F.out.1.lt _ e;omega,aH fun e=>by have:=A.out.2.2.2.2.2.2.2.2 _ e;omega⟩ (by omega) A.out.2.2.2.1 m z (by
    rw[A.out.2.2.2.2.1];rcases J with h|h
    ·left;first|exact h|(rw[h];rfl)
    ·right;omega)
  have S:W5.heap[g0]?=_:=(m.block g0 (dG a5.out) (fun e=>by have:=g.out.1.pr.rl g0 e.symm;rw[g.out.1.l0]at this;omega)).trans a5.out;have d0:W5.cell? ⟨g0,0,none⟩=some lv:=cO S 0 _ rfl;have z0:=cX S 0;have HF:=cN (aLo K H);clear K H S c m z J b4 b6 p d u a8 b3 b8;refine cN ?_;go_wp2_with fail;go_ret;refine⟨rfl,P.length+1,bP',by omega,by omega,fun _=>rfl,⟨b0,_,_,c1,c2,c3,c4,c5,c6,G,a4,a0,a6,b5,d1,HF.out.1,by simp,fun i hi=>?_,g.out.2.2.1⟩,HF.out.2⟩;by_cases e:i<P.length
  ·rw[cD e];exact g.out.2.1 i e
  ·have ei:i=P.length:=by simp at hi;omega
   subst ei;simp only[List.getElem_append_right (aE _),Nat.sub_self,List.getElem_cons_zero];exact(aJt t.out).mono g.out.2.2.1.n0
 ·simp only[if_neg a]at HM;have g:=cN (aLr U h3 h4 D s);have t:=cN a;clear U h3 h4 D s a1 R a;go_enter func29,ntmps29;go_wp2_with (first|rw[a2.out]|(refine cW rfl 30 _ rfl ⟨W.heap.size,0,none⟩ rfl (cgL f) _ Z.out underlying30 rfl (by kernel_rfl) ?_)|(go_at_call 34;refine HM.out.mono ?_;rintro e X ⟨rfl,l⟩;refine cQ ?_));have O:Hid (∀q y,(cgL f)[q]?=some y→X.cell? ((⟨W.heap.size,0,none⟩:Addr).add q)=some y):=cR (cs:=cgL f) (l.kept g.out.2.2.2.2 (fun h=>h));have T:=cN (aDz X f);simp only[if_neg t.out]at T;have F:=cN l;clear l;refine cN ?_;go_wp2_with (first|(refine cW rfl 30 _ rfl ⟨W.heap.size,0,none⟩ rfl (cgL f) _ O.out underlying30 rfl (by kernel_rfl) ?_)|(go_at_call 65;refine T.out.mono ?_;rintro e j ⟨rfl,d⟩;refine cQ ?_));have b:Chg NoS W j:=(g.out.2.2.2.1.trans F.out (fun _ _ h=>h)).trans d (fun _ _ h=>h);have o:=cN b;clear d b;refine cN ?_;go_wp2_with (go_at_call 66;refine(uZ _ _).mono ?_;rintro e W9 ⟨rfl,rfl⟩);go_ret;exact⟨rfl,P.length,bP,by omega,by omega,fun e=>absurd e t.out,⟨c7,P,lv,c1,c2,c3,c4,c5,c6,G,a4,a0,a6,bX,bY,g.out.1.kept o.out (fun _ _ h=>h),rfl,g.out.2.1,g.out.2.2.1⟩,
   o.out.os,o.out.tape,o.out.output,o.out.size,fun k hk=>o.out.block k (by omega) (fun h=>h)⟩
section
variable {W:World} {n0 g0 B L:Nat} {N:Int} {bP:Nat→Nat}
theorem aC6(h:LwW W n0 g0 N B L bP)(hB:B≤100000000000)(n:Nat→Int)(s:ByteArray)(hs:s.size≤1000000000000)(hk:n 0=3):
 Calls prog 30 #[.pointer (some ⟨g0,0,none⟩),.agg (opL n s).toArray] W fun e w'=>e= .returned (.bool true)∧LwW w' n0 g0 N (B+1) L bP∧Below n0 W w':=by
 have m:=h.size;have b:=aA W (.cells (opL n s).toArray 83);have a:Chg NoS W (W.alloc (.cells (opL n s).toArray 83)):=(Chg.refl _ _).alloc _;generalize c:W.alloc (.cells (opL n s).toArray 83)=W1 at b a;have f:=cN c;have g:=h.kept a;have r:W1.cell? ⟨W.heap.size,0,none⟩=some (.int .i64 3):=by rw[←hk];exact cO b 0 (.int .i64 (n 0)) rfl
 have o:W1.cell? ⟨W.heap.size,16,none⟩=some (.string s):=cO b 16 (.string s) rfl;have d:Below n0 W W1:=⟨a.os,a.tape,a.output,a.size,fun k hk=>a.block k (by omega) (fun h=>h)⟩;have l:=cN (aHC g hB s hs);have j:=cN d;clear h g b a c hk d;go_enter func30,ntmps30;go_wp2_with (first|rw[f.out]|(go_at_call 71;refine l.out.mono ?_;rintro e p ⟨rfl,q⟩;have i:=cN q;clear q;refine cQ ?_));refine cN ?_;go_wp2;go_ret;exact⟨rfl,i.out.1,j.out.trans i.out.2⟩
theorem aF3(h:LwW W n0 g0 N B L bP)(hL:L≤100000000)(n:Nat→Int)(s:ByteArray)(hk:n 0=4):
 Calls prog 30 #[.pointer (some ⟨g0,0,none⟩),.agg (opL n s).toArray] W fun e w'=>e= .returned (.bool true)∧(∃L' bP',L'≤L+1∧L≤L'∧LwW w' n0 g0 N B L' bP')∧Below n0 W w':=by
 have t:=h.size;have a:=aA W (.cells (opL n s).toArray 83);have b:Chg NoS W (W.alloc (.cells (opL n s).toArray 83)):=(Chg.refl _ _).alloc _;generalize c:W.alloc (.cells (opL n s).toArray 83)=W1 at a b;have g:=cN c;have i:=h.kept b;have D:W1.cell? ⟨W.heap.size,0,none⟩=some (.int .i64 4):=by rw[←hk];exact cO a 0 (.int .i64 (n 0)) rfl
 have y:W1.cell? ⟨W.heap.size,2,none⟩=some (.int .i64 (n 2)):=cO a 2 (.int .i64 (n 2)) rfl;have A:W1.cell? ⟨W.heap.size,3,none⟩=some (.int .i64 (n 3)):=cO a 3 (.int .i64 (n 3)) rfl;have C:W1.cell? ⟨W.heap.size,4,none⟩=some (.int .i64 (n 4)):=cO a 4 (.int .i64 (n 4)) rfl;have w:W1.cell? ⟨W.heap.size,5,none⟩=some (.int .i64 (n 5)):=cO a 5 (.int .i64 (n 5)) rfl;have v:W1.cell? ⟨W.heap.size,6,none⟩=some (.int .i64 (n 6)):=cO a 6 (.int .i64 (n 6)) rfl;have x:W1.cell? ⟨W.heap.size,7,none⟩=some (.int .i64 (n 7)):=cO a 7 (.int .i64 (n 7)) rfl;have z:W1.cell? ⟨W.heap.size,8,none⟩=some (.int .i64 (n 8)):=cO a 8 (.int .i64 (n 8)) rfl;have d:Below n0 W W1:=⟨b.os,b.tape,b.output,b.size,fun k hk=>b.block k (by omega) (fun h=>h)⟩;have q:Hid (Calls prog 29 #[.pointer (some ⟨g0,0,none⟩),.agg #[.int .i64 (n 2),.int .i64 (n 3),.int .i64 (n 4),.int .i64 (n 5),.int .i64 (n 6),.int .i64 (n 7),.int .i64 (n 8)]] W1 fun e W'=>e= .returned (.bool true)∧∃L' bP',L'≤L+1∧L≤L'∧(oK ⟨n 2,n 3,n 4,n 5,n 6,n 7,n 8⟩=true→L'=L+1)∧LwW W' n0 g0 N B L' bP'∧Below n0 W1 W'):=cN (aD5 i hL ⟨n 2,n 3,n 4,n 5,n 6,n 7,n 8⟩);have r:=cN d;clear h i a b c hk d;go_enter func30,ntmps30;go_wp2_with (first|rw[g.out]|(go_at_call 29;refine q.out.mono ?_;rintro e u ⟨rfl,L',bP',m,o,p,l,j⟩;have f:=cN (aLq m o l j);clear m o p l j;refine cQ ?_));refine cN ?_;go_wp2;go_ret;exact⟨rfl,⟨L',bP',f.out.1,f.out.2.1,f.out.2.2.1⟩,r.out.trans f.out.2.2.2⟩
end
end Go.Proofs.YtbbdgokdfhdpiaaGreatDoor
