/- A part. -/
import Derived.Test.YtbbdgokdfhdpiaaGreatDoorA26
import Derived.Test.YtbbdgokdfhdpiaaGreatDoorA39
namespace Go.Proofs.YtbbdgokdfhdpiaaGreatDoor
set_option linter.all false
set_option maxRecDepth 100000
set_option maxHeartbeats 0
open Go.Proofs.Tryz Go.RowKit
theorem aLf{W:World}{n0 g0 next:Nat}{lab:Nat→Nat}{P:List (Mo×Rm)}{lv c1 c2 c3 c4 c5 c6:Value}{lsR lsM lsE:List (Value×Nat×Int)}{bP bX bY:Nat→Nat}(h:LwAt W n0 lab g0 P lv c1 c2 c3 c4 c5 c6 next lsR lsM lsE bP bX bY)
 {i:Nat} (hi:i<P.length) {N:Int} (hpo:PairOk false N P[i].1 P[i].2) (hN:N≤10000000000) (hnx:next≤1000000000000) (hls:lsM.length≤1000000000000):
 Calls prog 106 #[.pointer (some ⟨g0,0,none⟩),.pointer (some ⟨bP i,0,none⟩)] W fun e W'=>e= .returned (.bool true)∧∃lab' c3' c4' lsM',LwAt W' n0 lab' g0 P lv c1 c2 c3' c4' c5 c6 (next+1) lsR lsM' lsE bP bX bY∧lsM'.length=lsM.length+4∧(∀q ∈ lsM',q ∈ lsM∨(q.2.1:Int)≤N+3)∧Below n0 W W':=by
 have a7:=hpo.ok.nl;obtain⟨ox,mx,wx⟩:=h.pr.xs i hi;obtain⟨oy,V,my,wy⟩:=h.pr.ys i hi;have p0:W.cell? ⟨bP i,0,none⟩=some (fG (bX i)):=cO (h.pr.pb i hi) 0 _ rfl;have HM:=cN (aJz W ox (bX i) P[i].1 N mx hpo.ok (by omega));have A:=cN hpo.sim.net;have H:=cN (aLp h my hpo);clear h mx my hpo wx;go_enter func106,ntmps106;go_wp2_with (go_at_call 36;refine HM.out.mono ?_;rintro e a ⟨v,rfl,R,c⟩;refine cQ ?_);generalize P[i].1.net=net at R a7 A;have Z:=H.out.1.below c;have C:Chg NoS W a:=Chg.below' c;have l:=H.out.2.1.kept C (fun _ _ h=>h);have p:=l.net;rw[A.out]at p;have p1:a.cell? ⟨bP i,1,none⟩=some (fG (bY i)):=cO (Z.pr.pb i hi) 1 _ rfl;obtain⟨py,cy,z,t⟩:=nV p;obtain⟨px,cx,a6,B⟩:=nV (gL R (aI _));have y9:a.cell? ⟨bY i,9,none⟩=some (.slice py net.length cy):=by rw[←z];exact l.cell 9 _ rfl
 subst a6;have Y:=cN (aLp Z c R);have HX:=cN B;have HY:=cN t;clear Z C l p z B t R c p0;refine cN ?_;go_wp2_with fail;go_loopw [7,6] (fun j ok wr=>∃(k d:Nat),k≤net.length∧j= .int .i64 k∧ok= .bool true∧wr=a.drewN d) (fun j _ _=>net.length-(intOf j).toNat)
 case atStart=>exact⟨0,0,aI _,rfl,rfl,rfl⟩
 case round=>
  obtain⟨k,d,hk,rfl,rfl,rfl⟩:=hrel;by_cases y:k<net.length
  ·obtain⟨G,rfl,_,f⟩:=HX.out k y;obtain⟨U,rfl,_,o⟩:=HY.out k y;obtain⟨m,hm⟩:=aLA (net[k]);rw[hm]at f o;have a8:(k:Int)<(net.length:Int):=by omega
   have a4:=cN (show∀j u,(mgL m)[j]?=some u→(a.drewN d).drew.cell? ((⟨G,k*10,none⟩:Addr).add j)=some u from fun j u hj=>by
    have e:(⟨G,k*10,none⟩:Addr).add j=⟨G,k*10+j,none⟩:=by unfold Addr.add;split<;>simp_all
    rw[e];exact f j u hj)
   have a2:=cN (show∀j u,(mgL m)[j]?=some u→(a.drewN d).drew.cell? ((⟨U,k*10,none⟩:Addr).add j)=some u from fun j u hj=>by
    have e:(⟨U,k*10,none⟩:Addr).add j=⟨U,k*10+j,none⟩:=by unfold Addr.add;split<;>simp_all
    rw[e];exact o j u hj)
   clear f o hm;obtain⟨L,Q,S,O,I,E,J,D,X,T⟩:=m;go_wp2_with fail;refine eD [0,0,0,1,0,0,0,1,0,0,1,0,0,1,0,0] (by kernel_rfl) (fun _ _ _ _=>rfl) ?_;simp only[dC,dB];iterate 3 (apply sB rfl rfl;·(intro x h;(try cases h rfl);go_simp;with_reducible rfl))
   try simp only[pA]
   refine dA (v:=mgV ⟨L,Q,S,O,I,E,J,D,X,T⟩) rfl (fun zz hx=>cU 66 _ rfl ⟨G,k*10,none⟩ rfl (mgL ⟨L,Q,S,O,I,E,J,D,X,T⟩) _ (by subst hx;exact a4.out) underlying66 rfl (by kernel_rfl)) ?_;(try simp only[pA]);iterate 9 (apply sB rfl rfl;·(intro x h;(try cases h rfl);go_simp;with_reducible rfl))
   try simp only[pA]
   refine dA (v:=mgV ⟨L,Q,S,O,I,E,J,D,X,T⟩) rfl (fun zz hx=>cU 66 _ rfl ⟨U,k*10,none⟩ rfl (mgL ⟨L,Q,S,O,I,E,J,D,X,T⟩) _ (by subst hx;exact a2.out) underlying66 rfl (by kernel_rfl)) ?_;(try simp only[pA]);iterate 2 (apply sB rfl rfl;·(intro x h;(try cases h rfl);go_simp;with_reducible rfl))
   refine cP ?_;try simp only[pA]
   go_wp2_with fail;go_roundw
   case rel=>exact⟨k+1,d+1,by omega,by go_num,rfl,rfl⟩
   case measure=>simp[intOf];omega
  ·have a0:k=net.length:=by omega
   subst a0;have b:Chg NoS a (a.drewN d):=Chg.below' (below_drewN (aJ _ _) d);have s:=Y.out.1.kept b (fun _ _ h=>h);have g:=b.row Y.out.2.2 (fun _ _ h=>h);have HO:=cN (aAG (Or.inr (Or.inl ⟨rfl,rfl,rfl,rfl,rfl,rfl,rfl,rfl,rfl,rfl⟩)) (F:=mgL) (mk:=aKX) (fun _=>rfl) (fun _=>rfl) (wd:=fun r m n=>(wdL lv c1 c2 r m c5 c6 n).toArray) (fun _ _ _=>⟨rfl,rfl,rfl,fun _=>rfl,fun _=>rfl,fun _=>rfl⟩) (a.drewN d) lab g0 c3 c4 next lsM s.hg s.l0 s.lt s.M hnx hls _ net.length net (by omega) rfl (gL g (aI _)) (fun k hk=>aH fun e=>by have h5:=H.out.1.lt k e;have:=(g.lt k hk).1;omega));have H2:=cN (aLo s b);clear s b g;go_wp2_with (go_at_call 145;refine HO.out.mono ?_;rintro e W2 ⟨rfl,lab',a3,a1,a5,q1,q2,q3,q4,q5,q6,q7,q8⟩;refine cQ ?_);obtain⟨r1,r2⟩:=H2.out.1.ownM q3 q4 q5 q6 q8;have w:Below n0 W W2:=(Y.out.2.1.mono H.out.1.size).trans ((below_drewN (aJ _ _) d).trans r2);have K:=cN (aLq r1 q1 q2 w);clear q1 q2 q3 q4 q5 q6 q7 q8 r1 r2 w;refine cN ?_;go_wp2_with fail;go_ret;exact⟨rfl,lab',a3,a1,a5,K.out.1,K.out.2.1,fun q hq=>(K.out.2.2.1 q hq).imp id (fun h=>by omega),K.out.2.2.2⟩
theorem aII{W:World}{n0 g0 next:Nat}{lab:Nat→Nat}{P:List (Mo×Rm)}{lv c1 c2 c3 c4 c5 c6:Value}{lsR lsM lsE:List (Value×Nat×Int)}{bP bX bY:Nat→Nat}(h:LwAt W n0 lab g0 P lv c1 c2 c3 c4 c5 c6 next lsR lsM lsE bP bX bY)
 {i:Nat} (hi:i<P.length) {N:Int} (hpo:PairOk false N P[i].1 P[i].2) (hN:N≤10000000000) (hnx:next≤1000000000000) (hls:lsE.length≤1000000000000) (fr:Int):
 Calls prog 107 #[.pointer (some ⟨g0,0,none⟩),.pointer (some ⟨bP i,0,none⟩),.int .i64 fr] W fun e W'=>e= .returned (.bool true)∧∃lab' c5' c6' lsE',LwAt W' n0 lab' g0 P lv c1 c2 c3 c4 c5' c6' (next+1) lsR lsM lsE' bP bX bY∧lsE'.length=lsE.length+4∧(∀q ∈ lsE',q ∈ lsE∨(q.2.1:Int)≤N+3)∧Below n0 W W':=by
 have a9:=hpo.ok.tl;have R:=hpo.sim.ok hpo.ok;obtain⟨ox,mx,wx⟩:=h.pr.xs i hi;obtain⟨oy,V,my,wy⟩:=h.pr.ys i hi;have p0:W.cell? ⟨bP i,0,none⟩=some (fG (bX i)):=cO (h.pr.pb i hi) 0 _ rfl;have HM:=cN (aGq W ox (bX i) P[i].1 N fr mx hpo.ok (by omega));have et:tA P[i].2 fr=qS P[i].1 fr:=by unfold tA qS;rw[hpo.sim.tr]
 have a6:((qS P[i].1 fr).length:Int)≤N:=by unfold qS;rw[aV];omega
 have H:=cN (aLp h my R);have D:=cN et;clear h mx my hpo wx R et;go_enter func107,ntmps107;go_wp2_with (go_at_call 17;refine HM.out.mono ?_;rintro e W1 ⟨v,rfl,J,y⟩;refine cQ ?_);have h1:=H.out.1.below y;have X:Chg NoS W W1:=Chg.below' y;have U:=H.out.2.1.kept X (fun _ _ h=>h);have p1:W1.cell? ⟨bP i,1,none⟩=some (fG (bY i)):=cO (h1.pr.pb i hi) 1 _ rfl;have HA:=cN (aFR W1 oy (bY i) P[i].2 V N fr U H.out.2.2 (by omega) (qS P[i].1 fr).length (by rw[D.out]));rw[D.out]at HA;generalize qS P[i].1 fr=L at J a6 HA D;obtain⟨px,cx,T,a7⟩:=jR J;have Y:∀k (M:k<L.length) j u,(evL L[k])[j]?=some u→∀g,px=some ⟨g,0,none⟩→W1.cell? ⟨g,k*19+j,none⟩=some u:=fun k M j u hj g hg=>by
  have Z:j<19:=(aF.1 hj).1;have e:=lX evL (k:=19) (fun _=>rfl) L k M j Z;rw[hj]at e;rw[T,hg]at J;rw[J.cellAt (k*19+j) (by omega)];exact e
 subst T;have H1:=cN (aLp h1 y J);have HX:=cN Y;clear h1 X U J y p0 Y;refine cN ?_;go_wp2_with (go_at_call 146;refine HA.out.mono ?_;rintro e I ⟨⟨py,cy,rfl,O⟩,rfl⟩;refine cQ ?_);have HY:=cN O;clear O p1;refine cN ?_;go_wp2_with fail;go_loopw [10,9] (fun j ok wr=>∃(k d:Nat),k≤L.length∧j= .int .i64 k∧ok= .bool true∧wr=I.drewN d) (fun j _ _=>L.length-(intOf j).toNat)
 case atStart=>exact⟨0,0,aI _,rfl,rfl,rfl⟩
 case round=>
  obtain⟨k,d,M,rfl,rfl,rfl⟩:=hrel;by_cases S:k<L.length
  ·obtain⟨K,rfl⟩:=a7 (by omega);obtain⟨gy,o,rfl,C⟩:=HY.out k S;have A:=fun j u hj=>HX.out k S j u hj K rfl;obtain⟨m,hm⟩:=aLA (L[k]);rw[hm]at A C;have a8:(k:Int)<(L.length:Int):=by omega
   have a4:=cN (show∀j u,(evL m)[j]?=some u→(I.drewN d).drew.cell? ((⟨K,k*19,none⟩:Addr).add j)=some u from fun j u hj=>by
    have e:(⟨K,k*19,none⟩:Addr).add j=⟨K,k*19+j,none⟩:=by unfold Addr.add;split<;>simp_all
    rw[e];exact A j u hj)
   have a2:=cN (show∀j u,(evL m)[j]?=some u→(I.drewN d).drew.cell? ((⟨gy,o+k*19,none⟩:Addr).add j)=some u from fun j u hj=>by
    have e:(⟨gy,o+k*19,none⟩:Addr).add j=⟨gy,o+(k*19+j),none⟩:=by unfold Addr.add;split<;>simp_all<;>omega
    rw[e];exact C j u hj)
   clear A C hm;obtain⟨e0,e1,⟨e2,e3,e4,e5,e6,e7,⟨e8,e9,p,w⟩⟩,t,c,l,b,f,z,a⟩:=m;go_wp2_with fail;refine eD [0,0,0,1,0,0,0,1,0,0] (by kernel_rfl) (fun _ _ _ _=>rfl) ?_;simp only[dC,dB];iterate 3 (apply sB rfl rfl;·(intro x h;(try cases h rfl);go_simp;with_reducible rfl))
   try simp only[pA]
   refine dA (v:=evV ⟨e0,e1,⟨e2,e3,e4,e5,e6,e7,⟨e8,e9,p,w⟩⟩,t,c,l,b,f,z,a⟩) rfl (fun zz hx=>cU 70 _ rfl ⟨K,k*19,none⟩ rfl (evL ⟨e0,e1,⟨e2,e3,e4,e5,e6,e7,⟨e8,e9,p,w⟩⟩,t,c,l,b,f,z,a⟩) _ (by subst hx;exact a4.out) underlying70 rfl (by kernel_rfl)) ?_;(try simp only[pA]);iterate 3 (apply sB rfl rfl;·(intro x h;(try cases h rfl);go_simp;with_reducible rfl))
   try simp only[pA]
   refine dA (v:=evV ⟨e0,e1,⟨e2,e3,e4,e5,e6,e7,⟨e8,e9,p,w⟩⟩,t,c,l,b,f,z,a⟩) rfl (fun zz hx=>cU 70 _ rfl ⟨gy,o+k*19,none⟩ rfl (evL ⟨e0,e1,⟨e2,e3,e4,e5,e6,e7,⟨e8,e9,p,w⟩⟩,t,c,l,b,f,z,a⟩) _ (by subst hx;exact a2.out) underlying70 rfl (by kernel_rfl)) ?_;(try simp only[pA]);iterate 2 (apply sB rfl rfl;·(intro x h;(try cases h rfl);go_simp;with_reducible rfl))
   refine cP ?_;try simp only[pA]
   go_wp2_with fail;go_roundw
   case rel=>exact⟨k+1,d+1,by omega,by go_num,rfl,rfl⟩
   case measure=>simp[intOf];omega
  ·have a0:k=L.length:=by omega
   subst a0;have s:Chg NoS I (I.drewN d):=Chg.below' (below_drewN (aJ _ _) d);have G:=H1.out.1.kept s (fun _ _ h=>h);have B:=s.row H1.out.2.2 (fun _ _ h=>h);have HO:=cN (aAG (Or.inr (Or.inr ⟨rfl,rfl,rfl,rfl,rfl,rfl,rfl,rfl,rfl,rfl⟩)) (F:=evL) (mk:=aKH) (fun _=>rfl) (fun _=>rfl) (wd:=fun r m n=>(wdL lv c1 c2 c3 c4 r m n).toArray) (fun _ _ _=>⟨rfl,rfl,rfl,fun _=>rfl,fun _=>rfl,fun _=>rfl⟩) (I.drewN d) lab g0 c5 c6 next lsE G.hg G.l0 G.lt G.E hnx hls _ L.length L (by omega) rfl (gL B (aI _)) (fun k M=>aH fun e=>by have h5:=H.out.1.lt k e;have:=(B.lt k M).1;omega));have H2:=cN (aLo G s);clear G s B;go_wp2_with (go_at_call 147;refine HO.out.mono ?_;rintro e W3 ⟨rfl,lab',a3,a1,a5,q1,q2,q3,q4,q5,q6,q7,q8⟩;refine cQ ?_);obtain⟨r1,r2⟩:=H2.out.1.ownE q3 q4 q5 q6 q8;have Q:Below n0 W W3:=(H1.out.2.1.mono H.out.1.size).trans ((below_drewN (aJ _ _) d).trans r2);have HF:=cN (aLq r1 q1 q2 Q);clear q1 q2 q3 q4 q5 q6 q7 q8 r1 r2 Q;refine cN ?_;go_wp2_with fail;go_ret;exact⟨rfl,lab',a3,a1,a5,HF.out.1,HF.out.2.1,fun q hq=>(HF.out.2.2.1 q hq).imp id (fun h=>by omega),HF.out.2.2.2⟩
end Go.Proofs.YtbbdgokdfhdpiaaGreatDoor
