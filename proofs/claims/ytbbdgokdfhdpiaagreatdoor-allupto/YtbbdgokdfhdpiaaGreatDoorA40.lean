/- A part of the proof: LwNet, LwTrace, LwRep. -/
import Derived.Test.YtbbdgokdfhdpiaaGreatDoorA28
import Derived.Test.YtbbdgokdfhdpiaaGreatDoorA38
namespace Go.Proofs.YtbbdgokdfhdpiaaGreatDoor
set_option linter.all false
set_option maxRecDepth 100000
set_option maxHeartbeats 40000000
open Go.Proofs.Tryz Go.RowKit
theorem aLd{W:World}{n0 g0 next:Nat}{lab:Nat→Nat}{P:List (Mo×Rm)}{lv c1 c2 c3 c4 c5 c6:Value}{lsR lsM lsE:List (Value×Nat×Int)}{bP bX bY:Nat→Nat}(h:LwAt W n0 lab g0 P lv c1 c2 c3 c4 c5 c6 next lsR lsM lsE bP bX bY)
 {i:Nat} (hi:i<P.length) {N:Int} (hpo:PairOk false N P[i].1 P[i].2) (hN:N≤10000000000) (hnx:next≤1000000000000) (hls:lsM.length≤1000000000000):
 Calls prog 106 #[.pointer (some ⟨g0,0,none⟩),.pointer (some ⟨bP i,0,none⟩)] W fun e W'=>e= .returned (.bool true)∧∃lab' c3' c4' lsM',LwAt W' n0 lab' g0 P lv c1 c2 c3' c4' c5 c6 (next+1) lsR lsM' lsE bP bX bY∧lsM'.length=lsM.length+4∧(∀q ∈ lsM',q ∈ lsM∨(q.2.1:Int)≤N+3)∧Below n0 W W':=by
 have a7:=hpo.ok.nl;obtain⟨ox,mx,wx⟩:=h.pr.xs i hi;obtain⟨oy,V,my,wy⟩:=h.pr.ys i hi;have p0:W.cell? ⟨bP i,0,none⟩=some (fG (bX i)):=cO (h.pr.pb i hi) 0 _ rfl;have HM:=cN (aJz W ox (bX i) P[i].1 N mx hpo.ok (by omega));have z:=cN hpo.sim.net;have H:=cN (aLm h my hpo);clear h mx my hpo wx;go_enter func106,ntmps106;go_wp2_with (go_at_call 36;refine HM.out.mono ?_;rintro e a ⟨v,rfl,R,c⟩;refine cQ ?_);generalize P[i].1.net=net at R a7 z;have Z:=H.out.1.below c;have B:Chg NoS W a:=Chg.below' c;have f:=H.out.2.1.kept B (fun _ _ h=>h);have l:=f.net;rw[z.out]at l;have p1:a.cell? ⟨bP i,1,none⟩=some (fG (bY i)):=cO (Z.pr.pb i hi) 1 _ rfl;obtain⟨py,cy,y,t⟩:=nU l;obtain⟨px,cx,a6,A⟩:=nU (gL R (aI _));have y9:a.cell? ⟨bY i,9,none⟩=some (.slice py net.length cy):=by rw[←y];exact f.cell 9 _ rfl
 subst a6;have Y:=cN (aLm Z c R);have HX:=cN A;have HY:=cN t;clear Z B f l y A t R c p0;refine cN ?_;go_wp2_with fail;go_loopw [7,6] (fun j ok wr=>∃(k d:Nat),k≤net.length∧j= .int .i64 k∧ok= .bool true∧wr=a.drewN d) (fun j _ _=>net.length-(intOf j).toNat)
 case atStart=>exact⟨0,0,aI _,rfl,rfl,rfl⟩
 case round=>
  obtain⟨k,d,hk,rfl,rfl,rfl⟩:=hrel;by_cases C:k<net.length
  ·obtain⟨I,rfl,_,p⟩:=HX.out k C;obtain⟨O,rfl,_,g⟩:=HY.out k C;obtain⟨m,hm⟩:=aLx (net[k]);rw[hm]at p g;have a8:(k:Int)<(net.length:Int):=by omega
   have a3:=cN (show∀j u,(mgL m)[j]?=some u→(a.drewN d).drew.cell? ((⟨I,k*10,none⟩:Addr).add j)=some u from fun j u hj=>by
    have e:(⟨I,k*10,none⟩:Addr).add j=⟨I,k*10+j,none⟩:=by unfold Addr.add;split<;>simp_all
    rw[e];exact p j u hj)
   have a5:=cN (show∀j u,(mgL m)[j]?=some u→(a.drewN d).drew.cell? ((⟨O,k*10,none⟩:Addr).add j)=some u from fun j u hj=>by
    have e:(⟨O,k*10,none⟩:Addr).add j=⟨O,k*10+j,none⟩:=by unfold Addr.add;split<;>simp_all
    rw[e];exact g j u hj)
   clear p g hm;obtain⟨J,K,D,U,E,X,G,L,T,Q⟩:=m;go_wp2_with fail;refine eD [0,0,0,1,0,0,0,1,0,0,1,0,0,1,0,0] (by kernel_rfl) (fun _ _ _ _=>rfl) ?_;simp only[dC,dB];iterate 3 (apply sB rfl rfl;·(intro x h;(try cases h rfl);go_simp;with_reducible rfl))
   try simp only[pA]
   refine dA (v:=mgV ⟨J,K,D,U,E,X,G,L,T,Q⟩) rfl (fun zz hx=>cU 66 _ rfl ⟨I,k*10,none⟩ rfl (mgL ⟨J,K,D,U,E,X,G,L,T,Q⟩) _ (by subst hx;exact a3.out) underlying66 rfl (by kernel_rfl)) ?_;(try simp only[pA]);iterate 9 (apply sB rfl rfl;·(intro x h;(try cases h rfl);go_simp;with_reducible rfl))
   try simp only[pA]
   refine dA (v:=mgV ⟨J,K,D,U,E,X,G,L,T,Q⟩) rfl (fun zz hx=>cU 66 _ rfl ⟨O,k*10,none⟩ rfl (mgL ⟨J,K,D,U,E,X,G,L,T,Q⟩) _ (by subst hx;exact a5.out) underlying66 rfl (by kernel_rfl)) ?_;(try simp only[pA]);iterate 2 (apply sB rfl rfl;·(intro x h;(try cases h rfl);go_simp;with_reducible rfl))
   refine cP ?_;try simp only[pA]
   go_wp2_with fail;go_roundw
   case rel=>exact⟨k+1,d+1,by omega,by go_num,rfl,rfl⟩
   case measure=>simp[intOf];omega
  ·have a2:k=net.length:=by omega
   subst a2;have b:Chg NoS a (a.drewN d):=Chg.below' (below_drewN (aJ _ _) d);have s:=Y.out.1.kept b (fun _ _ h=>h);have o:=b.row Y.out.2.2 (fun _ _ h=>h);have HO:=cN (aAI (Or.inr (Or.inl ⟨rfl,rfl,rfl,rfl,rfl,rfl,rfl,rfl,rfl,rfl⟩)) (F:=mgL) (mk:=aKG) (fun _=>rfl) (fun _=>rfl) (wd:=fun r m n=>(wdL lv c1 c2 r m c5 c6 n).toArray) (fun _ _ _=>⟨rfl,rfl,rfl,fun _=>rfl,fun _=>rfl,fun _=>rfl⟩) (a.drewN d) lab g0 c3 c4 next lsM s.hg s.l0 s.lt s.M hnx hls _ net.length net (by omega) rfl (gL o (aI _)) (fun k hk=>aH fun e=>by have h5:=H.out.1.lt k e;have:=(o.lt k hk).1;omega));have H2:=cN (aLl s b);clear s b o;go_wp2_with (go_at_call 145;refine HO.out.mono ?_;rintro e W2 ⟨rfl,lab',a4,a1,a0,q1,q2,q3,q4,q5,q6,q7,q8⟩;refine cQ ?_);obtain⟨r1,r2⟩:=H2.out.1.ownM q3 q4 q5 q6 q8;have w:Below n0 W W2:=(Y.out.2.1.mono H.out.1.size).trans ((below_drewN (aJ _ _) d).trans r2);have S:=cN (aLn r1 q1 q2 w);clear q1 q2 q3 q4 q5 q6 q7 q8 r1 r2 w;refine cN ?_;go_wp2_with fail;go_ret;exact⟨rfl,lab',a4,a1,a0,S.out.1,S.out.2.1,fun q hq=>(S.out.2.2.1 q hq).imp id (fun h=>by omega),S.out.2.2.2⟩
theorem aIx{W:World}{n0 g0 next:Nat}{lab:Nat→Nat}{P:List (Mo×Rm)}{lv c1 c2 c3 c4 c5 c6:Value}{lsR lsM lsE:List (Value×Nat×Int)}{bP bX bY:Nat→Nat}(h:LwAt W n0 lab g0 P lv c1 c2 c3 c4 c5 c6 next lsR lsM lsE bP bX bY)
 {i:Nat} (hi:i<P.length) {N:Int} (hpo:PairOk false N P[i].1 P[i].2) (hN:N≤10000000000) (hnx:next≤1000000000000) (hls:lsE.length≤1000000000000) (fr:Int):
 Calls prog 107 #[.pointer (some ⟨g0,0,none⟩),.pointer (some ⟨bP i,0,none⟩),.int .i64 fr] W fun e W'=>e= .returned (.bool true)∧∃lab' c5' c6' lsE',LwAt W' n0 lab' g0 P lv c1 c2 c3 c4 c5' c6' (next+1) lsR lsM lsE' bP bX bY∧lsE'.length=lsE.length+4∧(∀q ∈ lsE',q ∈ lsE∨(q.2.1:Int)≤N+3)∧Below n0 W W':=by
 have a8:=hpo.ok.tl;have S:=hpo.sim.ok hpo.ok;obtain⟨ox,mx,wx⟩:=h.pr.xs i hi;obtain⟨oy,V,my,wy⟩:=h.pr.ys i hi;have p0:W.cell? ⟨bP i,0,none⟩=some (fG (bX i)):=cO (h.pr.pb i hi) 0 _ rfl;have HM:=cN (aFD W ox (bX i) P[i].1 N fr mx hpo.ok (by omega));have et:sK P[i].2 fr=qY P[i].1 fr:=by unfold sK qY;rw[hpo.sim.tr]
 have a2:((qY P[i].1 fr).length:Int)≤N:=by unfold qY;rw[aV];omega
 have H:=cN (aLm h my S);have D:=cN et;clear h mx my hpo wx S et;go_enter func107,ntmps107;go_wp2_with (go_at_call 17;refine HM.out.mono ?_;rintro e W1 ⟨v,rfl,J,y⟩;refine cQ ?_);have h1:=H.out.1.below y;have U:Chg NoS W W1:=Chg.below' y;have O:=H.out.2.1.kept U (fun _ _ h=>h);have p1:W1.cell? ⟨bP i,1,none⟩=some (fG (bY i)):=cO (h1.pr.pb i hi) 1 _ rfl;have HA:=cN (aFV W1 oy (bY i) P[i].2 V N fr O H.out.2.2 (by omega) (qY P[i].1 fr).length (by rw[D.out]));rw[D.out]at HA;generalize qY P[i].1 fr=L at J a2 HA D;obtain⟨px,cx,Y,a7⟩:=jP J;have T:∀k (K:k<L.length) j u,(evL L[k])[j]?=some u→∀g,px=some ⟨g,0,none⟩→W1.cell? ⟨g,k*19+j,none⟩=some u:=fun k K j u hj g hg=>by
  have Z:j<19:=(aF.1 hj).1;have e:=lY evL (k:=19) (fun _=>rfl) L k K j Z;rw[hj]at e;rw[Y,hg]at J;rw[J.cellAt (k*19+j) (by omega)];exact e
 subst Y;have H1:=cN (aLm h1 y J);have HX:=cN T;clear h1 U O J y p0 T;refine cN ?_;go_wp2_with (go_at_call 146;refine HA.out.mono ?_;rintro e I ⟨⟨py,cy,rfl,Q⟩,rfl⟩;refine cQ ?_);have HY:=cN Q;clear Q p1;refine cN ?_;go_wp2_with fail;go_loopw [10,9] (fun j ok wr=>∃(k d:Nat),k≤L.length∧j= .int .i64 k∧ok= .bool true∧wr=I.drewN d) (fun j _ _=>L.length-(intOf j).toNat)
 case atStart=>exact⟨0,0,aI _,rfl,rfl,rfl⟩
 case round=>
  obtain⟨k,d,K,rfl,rfl,rfl⟩:=hrel;by_cases X:k<L.length
  ·obtain⟨M,rfl⟩:=a7 (by omega);obtain⟨gy,a,rfl,A⟩:=HY.out k X;have C:=fun j u hj=>HX.out k X j u hj M rfl;obtain⟨m,hm⟩:=aLx (L[k]);rw[hm]at C A;have a9:(k:Int)<(L.length:Int):=by omega
   have a4:=cN (show∀j u,(evL m)[j]?=some u→(I.drewN d).drew.cell? ((⟨M,k*19,none⟩:Addr).add j)=some u from fun j u hj=>by
    have e:(⟨M,k*19,none⟩:Addr).add j=⟨M,k*19+j,none⟩:=by unfold Addr.add;split<;>simp_all
    rw[e];exact C j u hj)
   have a6:=cN (show∀j u,(evL m)[j]?=some u→(I.drewN d).drew.cell? ((⟨gy,a+k*19,none⟩:Addr).add j)=some u from fun j u hj=>by
    have e:(⟨gy,a+k*19,none⟩:Addr).add j=⟨gy,a+(k*19+j),none⟩:=by unfold Addr.add;split<;>simp_all<;>omega
    rw[e];exact A j u hj)
   clear C A hm;obtain⟨e0,e1,⟨e2,e3,e4,e5,e6,e7,⟨e8,e9,s,p⟩⟩,t,b,z,o,w,f,l⟩:=m;go_wp2_with fail;refine eD [0,0,0,1,0,0,0,1,0,0] (by kernel_rfl) (fun _ _ _ _=>rfl) ?_;simp only[dC,dB];iterate 3 (apply sB rfl rfl;·(intro x h;(try cases h rfl);go_simp;with_reducible rfl))
   try simp only[pA]
   refine dA (v:=evV ⟨e0,e1,⟨e2,e3,e4,e5,e6,e7,⟨e8,e9,s,p⟩⟩,t,b,z,o,w,f,l⟩) rfl (fun zz hx=>cU 70 _ rfl ⟨M,k*19,none⟩ rfl (evL ⟨e0,e1,⟨e2,e3,e4,e5,e6,e7,⟨e8,e9,s,p⟩⟩,t,b,z,o,w,f,l⟩) _ (by subst hx;exact a4.out) underlying70 rfl (by kernel_rfl)) ?_;(try simp only[pA]);iterate 3 (apply sB rfl rfl;·(intro x h;(try cases h rfl);go_simp;with_reducible rfl))
   try simp only[pA]
   refine dA (v:=evV ⟨e0,e1,⟨e2,e3,e4,e5,e6,e7,⟨e8,e9,s,p⟩⟩,t,b,z,o,w,f,l⟩) rfl (fun zz hx=>cU 70 _ rfl ⟨gy,a+k*19,none⟩ rfl (evL ⟨e0,e1,⟨e2,e3,e4,e5,e6,e7,⟨e8,e9,s,p⟩⟩,t,b,z,o,w,f,l⟩) _ (by subst hx;exact a6.out) underlying70 rfl (by kernel_rfl)) ?_;(try simp only[pA]);iterate 2 (apply sB rfl rfl;·(intro x h;(try cases h rfl);go_simp;with_reducible rfl))
   refine cP ?_;try simp only[pA]
   go_wp2_with fail;go_roundw
   case rel=>exact⟨k+1,d+1,by omega,by go_num,rfl,rfl⟩
   case measure=>simp[intOf];omega
  ·have a3:k=L.length:=by omega
   subst a3;have c:Chg NoS I (I.drewN d):=Chg.below' (below_drewN (aJ _ _) d);have G:=H1.out.1.kept c (fun _ _ h=>h);have B:=c.row H1.out.2.2 (fun _ _ h=>h);have HO:=cN (aAI (Or.inr (Or.inr ⟨rfl,rfl,rfl,rfl,rfl,rfl,rfl,rfl,rfl,rfl⟩)) (F:=evL) (mk:=aKC) (fun _=>rfl) (fun _=>rfl) (wd:=fun r m n=>(wdL lv c1 c2 c3 c4 r m n).toArray) (fun _ _ _=>⟨rfl,rfl,rfl,fun _=>rfl,fun _=>rfl,fun _=>rfl⟩) (I.drewN d) lab g0 c5 c6 next lsE G.hg G.l0 G.lt G.E hnx hls _ L.length L (by omega) rfl (gL B (aI _)) (fun k K=>aH fun e=>by have h5:=H.out.1.lt k e;have:=(B.lt k K).1;omega));have H2:=cN (aLl G c);clear G c B;go_wp2_with (go_at_call 147;refine HO.out.mono ?_;rintro e W3 ⟨rfl,lab',a5,a1,a0,q1,q2,q3,q4,q5,q6,q7,q8⟩;refine cQ ?_);obtain⟨r1,r2⟩:=H2.out.1.ownE q3 q4 q5 q6 q8;have R:Below n0 W W3:=(H1.out.2.1.mono H.out.1.size).trans ((below_drewN (aJ _ _) d).trans r2);have HF:=cN (aLn r1 q1 q2 R);clear q1 q2 q3 q4 q5 q6 q7 q8 r1 r2 R;refine cN ?_;go_wp2_with fail;go_ret;exact⟨rfl,lab',a5,a1,a0,HF.out.1,HF.out.2.1,fun q hq=>(HF.out.2.2.1 q hq).imp id (fun h=>by omega),HF.out.2.2.2⟩
theorem aHb{W:World}{n0 g0 B L:Nat}{N:Int}{bP:Nat→Nat}(h:LwW W n0 g0 N B L bP)(hB:B≤100000000000)(s:ByteArray)(hs:s.size≤1000000000000):
 Calls prog 71 #[.pointer (some ⟨g0,0,none⟩),.string s] W fun e w'=>e= .returned (.bool true)∧LwW w' n0 g0 N (B+1) L bP∧Below n0 W w':=by
 obtain⟨H,P,Z,c1,c2,U,c4,c5,c6,b,I,S,T,bX,bY,C,rfl,p,a⟩:=h;have M:=C.size;have u:=aBs s W hs;have j:=fun w=>rD s w hs;have O:(eG (dO (dH s)) 4).length≤4:=lD _ _;generalize eG (dO (dH s)) 4=t at u j O;generalize (dO (dH s)).length=Q at u j;have H2:Hid (∀w,Calls prog 103 #[.string s] w fun e w'=>∃v,e= .returned (.tuple #[v,.int .i64 (25*(Q:Int))])∧w'.ownsRow w.heap.size 58 7 v t.length (cellsOf t)∧Below w.heap.size w w'):=j;have H1:Hid (Calls prog 22 #[.string s] W fun e w'=>∃v,e= .returned (.tuple #[v,.int .i64 (25*(Q:Int))])∧w'.ownsRow W.heap.size 58 7 v t.length (cellsOf t)∧Below W.heap.size W w'):=u;have HS:=cN C;have y:=cN (aLl p a);clear u j C p a;go_enter func71,ntmps71;go_wp2_with fail;refine H1.out.mono ?_;rintro e w1 ⟨D,rfl,o1,V⟩;have O1:=aBk o1;have l:=aBk V;clear o1 V;go_wp2_with (go_at_call 103;refine(H2.out w1).mono ?_;rintro e w2 ⟨v2,rfl,X,b2⟩;have O2:=aBk X;have A:=aBk b2;clear X b2;refine aGM ?_);refine aBk ?_;have c:=aBk (jI O1.out (A.out.mono (by have:=l.out.size;omega)));go_wp2_with (go_at_call 104;refine(yR D v2 t w2 (nV c.out) (nV O2.out)).mono ?_;rintro e x ⟨rfl,b3⟩;have B3:=aBk b3;clear b3;refine aGM ?_);refine aBk ?_;have d:Hid (Below W.heap.size W x):=l.out.trans ((A.out.mono l.out.size).trans (B3.out.mono (cA l.out.size A.out.size)));have S3:=HS.out.below d.out;have O3:Hid (x.ownsRow W.heap.size 58 7 D t.length (cellsOf t)):=jI c.out B3.out;have hn:=y.out.2.nx;have hR:=y.out.2.lR
 have HO:=cN (aAI (Or.inl ⟨rfl,rfl,rfl,rfl,rfl,rfl,rfl,rfl,rfl,rfl⟩) (F:=rwL) (mk:=aKm) (fun _=>rfl) (fun _=>rfl) (wd:=fun r m n=>(wdL Z r m U c4 c5 c6 n).toArray) (fun _ _ _=>⟨rfl,rfl,rfl,fun _=>rfl,fun _=>rfl,fun _=>rfl⟩) x H g0 c1 c2 b I S3.hg S3.l0 S3.lt S3.R (by omega) (by omega) D t.length t (by omega) rfl (gL O3.out (aI _)) (fun k hk=>aH fun e=>by have h5:=HS.out.lt k e;have:=(O3.out.lt k hk).1;omega));have H3:=cN S3;clear S3;go_wp2_with (go_at_call 105;refine HO.out.mono ?_;rintro e w4 ⟨rfl,f,E,J,K,z,g,q3,q4,Y,q6,q7,q8⟩;refine cQ ?_);obtain⟨o,i⟩:=H3.out.ownR q3 q4 Y q6 q8;have HF:=cN (aLn o z g ((d.out.mono M).trans i));clear z g q3 q4 Y q6 q7 q8 o i;refine cN ?_;go_wp2;go_ret;obtain⟨o,z,g,i⟩:=HF.out;obtain⟨p,a⟩:=y.out;have G:=a.n0;have a2:=a.lR;have a1:=a.lM;have a0:=a.lE;exact⟨by simp,⟨f,P,Z,E,J,U,c4,c5,c6,b+1,K,S,T,bX,bY,o,rfl,p,G,by omega,by omega,by omega,by omega,fun q hq=>(g q hq).elim (a.kR q) (fun h=>by omega),a.kM,a.kE⟩,i⟩
end Go.Proofs.YtbbdgokdfhdpiaaGreatDoor
