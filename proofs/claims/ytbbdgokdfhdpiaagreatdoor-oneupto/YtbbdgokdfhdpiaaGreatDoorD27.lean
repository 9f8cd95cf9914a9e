/- A part of the proof: KpSt1, KpSt2. -/
import Derived.Test.YtbbdgokdfhdpiaaGreatDoorD25
namespace Go.Proofs.YtbbdgokdfhdpiaaGreatDoor
set_option linter.all false
set_option maxRecDepth 100000
set_option maxHeartbeats 40000000
open Go.Proofs.Tryz Go.RowKit
section
variable {W:World}{B:Nat}{eb:Addr}{b:Nat}{own:Nat→Nat}{g:Nat}{c:Cf}{x:Mo}{a:Int→Int→Int}{d:Int→Bool}{N M:Int}{o:St}
theorem aDv(h:KF W B eb b own g c x a d N M)(hN:N≤60000000000)(hM:M≤900000000000)(ho:nL o)(hk:o.kind=1):
 Calls prog 15 #[.pointer (some ⟨b,0,none⟩),.agg #[.int .i64 o.kind,.int .i64 o.x,.int .i64 o.y,.int .i64 o.z]] W fun r W'=>r= .returned (.tuple #[])∧KFTo W B eb b own g c (eZ c x a d o) (fQ c x a d o) (fN c x d o) (N+1800) (M+10) W':=by
 have H:eZ c x a d o=fO x (cO o.x c.clients) (1+cO o.y 4) (cO (o.y.tdiv 4) 4) (1+cO o.z 30):=by unfold eZ;simp[hk]
 have A:fQ c x a d o=a:=by unfold fQ;simp[hk]
 have D:fN c x d o=d:=by unfold fN;simp[hk]
 rw[H,A,D,hk];clear H A D hk;have i:=aA W (.cells #[.int .i64 1,.int .i64 o.x,.int .i64 o.y,.int .i64 o.z] 34);have j:Chg NoS W (W.alloc (.cells #[.int .i64 1,.int .i64 o.x,.int .i64 o.y,.int .i64 o.z] 34)):=(Chg.refl _ _).alloc _;generalize l:W.alloc (.cells #[.int .i64 1,.int .i64 o.x,.int .i64 o.y,.int .i64 o.z] 34)=W1 at i j;have u:=cB l;have k:=h.chg0 j;obtain⟨⟨X,f2⟩,⟨l1,l2⟩,_⟩:=dO (show iL c=true by rw[←h.cf];exact h.kw.ok.conf);have s0:W1.cell? ⟨W.heap.size,0,none⟩=some (.int .i64 1):=cC i 0 _ rfl;have s1:W1.cell? ⟨W.heap.size,1,none⟩=some (.int .i64 o.x):=cC i 1 _ rfl;have Y:W1.cell? ⟨W.heap.size,2,none⟩=some (.int .i64 o.y):=cC i 2 _ rfl;have s3:W1.cell? ⟨W.heap.size,3,none⟩=some (.int .i64 o.z):=cC i 3 _ rfl;have Z:W1.cell? ⟨b,0,none⟩=some (.int .i64 c.f):=cC k.fl 0 _ rfl;have U:W1.cell? ⟨b,1,none⟩=some (.int .i64 c.clients):=cC k.fl 1 _ rfl;have b7:W1.cell? ⟨b,7,none⟩=some (.pointer (some ⟨g,0,none⟩)):=cC k.fl 7 _ rfl;have T:IntKind.i64.wrap (2*c.f)=2*c.f:=dZ (by omega) (by omega);have w2:IntKind.i64.wrap (2*c.f+1)=2*c.f+1:=dZ (by omega) (by omega);have R:=ho.x1;have Q:=ho.x2;have C:=ho.y1;have I:=ho.y2;have P:=ho.z1;have L:=ho.z2;have q:=cB (fun w=>eI o.x c.clients w R Q (by omega) (by omega));have J:=dX (c:=o.x) (n:=c.clients) (by omega);have p:=cB (fun w=>eI o.y 4 w C I (by decide) (by decide));have F: -9223372036854775808≤o.y.tdiv 4∧o.y.tdiv 4≤9223372036854775807:=aJG C I;have t:=cB (fun w=>eI (o.y.tdiv 4) 4 w F.1 F.2 (by decide) (by decide))
 have s:=cB (fun w=>eI o.z 30 w P L (by decide) (by decide));have py:=dX (c:=o.y) (n:=4) (by decide);have pz:=dX (c:=o.z) (n:=30) (by decide);have V:IntKind.i64.wrap (1+cO o.y 4)=1+cO o.y 4:=dZ (by omega) (by omega);have S:IntKind.i64.wrap (1+cO o.z 30)=1+cO o.z 30:=dZ (by omega) (by omega);have w5:IntKind.i64.wrap (o.y.tdiv 4)=o.y.tdiv 4:=dZ (by omega) (by omega);have O:=cB (fun w (hw:KF w B eb b own g c x a d N M)=>yP w own g x N (cO o.x c.clients) (1+cO o.y 4) (cO (o.y.tdiv 4) 4) (1+cO o.z 30) hw.kw.mo hw.kw.ok (by omega));have G:=cB (aJW k j);clear h k i l j;go_enter func15,ntmps15;go_wp2_with (first|rw[u.out]);refine dJ [0,1,0,0,0,0,1,1,0] (by kernel_rfl) (fun _ _ _ _=>rfl) ?_;simp only[cL,cK];iterate 7 (apply sB rfl rfl;·(intro x h;(try cases h rfl);go_simp;with_reducible rfl))
 try simp only[pA]
 refine dB (v:=.int .i64 (cO o.x c.clients)) (f:=19) (args:=#[.int .i64 o.x,.int .i64 c.clients]) rfl (fun x hx=>by subst hx;go_simp;try rfl) (fun x hx=>q.out x) ?_;(try simp only[pA]);iterate 1 (apply sB rfl rfl;·(intro x h;(try cases h rfl);go_simp;with_reducible rfl))
 refine cD ?_;try simp only[pA]
 go_wp2_with fail;refine dJ [0,0,0,1,0,0,1,1,0,0,1,0,1,0,1,1,0] (by kernel_rfl) (fun _ _ _ _=>rfl) ?_;simp only[cL,cK];iterate 7 (apply sB rfl rfl;·(intro x h;(try cases h rfl);go_simp;with_reducible rfl))
 try simp only[pA]
 refine dB (v:=.int .i64 (cO o.y 4)) (f:=19) (args:=#[.int .i64 o.y,.int .i64 4]) rfl (fun x hx=>by subst hx;go_simp;try rfl) (fun x hx=>p.out x) ?_;(try simp only[pA]);iterate 4 (apply sB rfl rfl;·(intro x h;(try cases h rfl);go_simp;with_reducible rfl))
 try simp only[pA]
 refine dB (v:=.int .i64 (cO (o.y.tdiv 4) 4)) (f:=19) (args:=#[.int .i64 (o.y.tdiv 4),.int .i64 4]) rfl (fun x hx=>by subst hx;go_simp;try rfl) (fun x hx=>t.out x) ?_;(try simp only[pA]);iterate 2 (apply sB rfl rfl;·(intro x h;(try cases h rfl);go_simp;with_reducible rfl))
 try simp only[pA]
 refine dB (v:=.int .i64 (cO o.z 30)) (f:=19) (args:=#[.int .i64 o.z,.int .i64 30]) rfl (fun x hx=>by subst hx;go_simp;try rfl) (fun x hx=>s.out x) ?_;(try simp only[pA]);iterate 1 (apply sB rfl rfl;·(intro x h;(try cases h rfl);go_simp;with_reducible rfl))
 refine cD ?_;try simp only[pA]
 have m:KF W1.drew.drew B eb b own g c x a d N M:=G.out.1.chg0 ((Chg.refl _ _).drew.drew);go_wp2_with (go_at_call 37;refine(O.out _ m).mono ?_;rintro e W2 ⟨rfl,E⟩;have K:=cB E;clear E;refine cE ?_);refine cB ?_;go_wp2_with fail
 (first|go_end0|((try simp only[Exit.inBlock,Exit.then]);refine bodyPost_ret (results_none rfl _ _ _) rfl ?_))
 exact⟨rfl,KFTo.mono ((((m.go K.out (m.kw.ok.begin _ _ _ _) (aCd _ _ _ _ _)).before ((Chg.refl _ W1).drew.drew))).before (G.out.2)) (by omega) (by omega)⟩
theorem aEh(h:KF W B eb b own g c x a d N M)(hN:N≤60000000000)(hM:M≤900000000000)(ho:nL o)(hk:o.kind=2):
 Calls prog 15 #[.pointer (some ⟨b,0,none⟩),.agg #[.int .i64 o.kind,.int .i64 o.x,.int .i64 o.y,.int .i64 o.z]] W fun r W'=>r= .returned (.tuple #[])∧KFTo W B eb b own g c (eZ c x a d o) (fQ c x a d o) (fN c x d o) (N+1800) (M+10) W':=by
 have I:eZ c x a d o=nT c x a d (cO o.x c.clients):=by unfold eZ;simp[hk]
 have E:fQ c x a d o=oP c x a d (cO o.x c.clients):=by unfold fQ;simp[hk]
 have F:fN c x d o=d:=by unfold fN;simp[hk]
 rw[I,E,F,hk];clear I E F hk;have i:=aA W (.cells #[.int .i64 2,.int .i64 o.x,.int .i64 o.y,.int .i64 o.z] 34);have j:Chg NoS W (W.alloc (.cells #[.int .i64 2,.int .i64 o.x,.int .i64 o.y,.int .i64 o.z] 34)):=(Chg.refl _ _).alloc _;generalize m:W.alloc (.cells #[.int .i64 2,.int .i64 o.x,.int .i64 o.y,.int .i64 o.z] 34)=W1 at i j;have D:=cB m;have l:=h.chg0 j;obtain⟨⟨V,f2⟩,⟨J,K⟩,_⟩:=dO (show iL c=true by rw[←h.cf];exact h.kw.ok.conf);have s0:W1.cell? ⟨W.heap.size,0,none⟩=some (.int .i64 2):=cC i 0 _ rfl;have s1:W1.cell? ⟨W.heap.size,1,none⟩=some (.int .i64 o.x):=cC i 1 _ rfl;have X:W1.cell? ⟨W.heap.size,2,none⟩=some (.int .i64 o.y):=cC i 2 _ rfl;have s3:W1.cell? ⟨W.heap.size,3,none⟩=some (.int .i64 o.z):=cC i 3 _ rfl;have Y:W1.cell? ⟨b,0,none⟩=some (.int .i64 c.f):=cC l.fl 0 _ rfl;have S:W1.cell? ⟨b,1,none⟩=some (.int .i64 c.clients):=cC l.fl 1 _ rfl;have b7:W1.cell? ⟨b,7,none⟩=some (.pointer (some ⟨g,0,none⟩)):=cC l.fl 7 _ rfl;have R:IntKind.i64.wrap (2*c.f)=2*c.f:=dZ (by omega) (by omega);have w2:IntKind.i64.wrap (2*c.f+1)=2*c.f+1:=dZ (by omega) (by omega);have Q:=ho.x1;have P:=ho.x2;have T:=ho.y1;have y2:=ho.y2;have Z:=ho.z1;have U:=ho.z2;have s:=cB (fun w=>eI o.x c.clients w Q P (by omega) (by omega));have t:=dX (c:=o.x) (n:=c.clients) (by omega);obtain⟨A,C⟩:∃n:Nat,cO o.x c.clients=n:=⟨(cO o.x c.clients).toNat,by omega⟩;rw[C]at s t⊢;have u:A<4:=by omega
 have O:=cB (fun w (hw:KF w B eb b own g c x a d N M)=>aFz w b own g c x a d N hw.flw hw.kw.ok (by omega) J K (dO (show iL c=true by rw[←hw.cf];exact hw.kw.ok.conf)).2.2.2.2.1.1 (dO (show iL c=true by rw[←hw.cf];exact hw.kw.ok.conf)).2.2.2.2.1.2 (fun p q=>⟨(hw.ab p q).1,Int.le_trans (hw.ab p q).2 (by omega)⟩) A u);have H:=cB (aJW l j);clear h l i m j;go_enter func15,ntmps15;go_wp2_with (first|rw[D.out]);refine dJ [0,1,0,0,0,0,1,1,0] (by kernel_rfl) (fun _ _ _ _=>rfl) ?_;simp only[cL,cK];iterate 7 (apply sB rfl rfl;·(intro x h;(try cases h rfl);go_simp;with_reducible rfl))
 try simp only[pA]
 refine dB (v:=.int .i64 (A:Int)) (f:=19) (args:=#[.int .i64 o.x,.int .i64 c.clients]) rfl (fun x hx=>by subst hx;go_simp;try rfl) (fun x hx=>s.out x) ?_;(try simp only[pA]);iterate 1 (apply sB rfl rfl;·(intro x h;(try cases h rfl);go_simp;with_reducible rfl))
 refine cD ?_;try simp only[pA]
 have k:KF W1.drew B eb b own g c x a d N M:=H.out.1.chg0 ((Chg.refl _ _).drew);go_wp2_with (go_at_call 38;refine(O.out _ k).mono ?_;rintro e W2 ⟨rfl,G⟩;have L:=cB G;clear G;refine cE ?_);refine cB ?_;go_wp2_with fail
 (first|go_end0|((try simp only[Exit.inBlock,Exit.then]);refine bodyPost_ret (results_none rfl _ _ _) rfl ?_))
 exact⟨rfl,KFTo.mono ((((k.goF (N':=N+6) (M':=M+10) L.out (aHH k.kw.ok _ _ _ _) (aGM _ _ _ _ _) (aHM J K (dO (show iL c=true by rw[←k.cf];exact k.kw.ok.conf)).2.2.2.2.1.1 k.ab _ _ _)).before ((Chg.refl _ W1).drew))).before (H.out.2)) (by omega) (by omega)⟩
theorem aBn(h:KF W B eb b own g c x a d N M)(hN:N≤60000000000)(hM:M≤900000000000)(ho:nL o)(hk:o.kind=3):
 Calls prog 15 #[.pointer (some ⟨b,0,none⟩),.agg #[.int .i64 o.kind,.int .i64 o.x,.int .i64 o.y,.int .i64 o.z]] W fun r W'=>r= .returned (.tuple #[])∧KFTo W B eb b own g c (eZ c x a d o) (fQ c x a d o) (fN c x d o) (N+1800) (M+10) W':=by
 have eX:eZ c x a d o=fG x (qY x o):=by unfold eZ;simp[hk]
 have eA:fQ c x a d o=a:=by unfold fQ;simp[hk]
 have eD:fN c x d o=d:=by unfold fN;simp[hk]
 rw[eX,eA,eD,hk];clear eX eA eD;have i:=aA W (.cells #[.int .i64 3,.int .i64 o.x,.int .i64 o.y,.int .i64 o.z] 34);have t:Chg NoS W (W.alloc (.cells #[.int .i64 3,.int .i64 o.x,.int .i64 o.y,.int .i64 o.z] 34)):=(Chg.refl _ _).alloc _;generalize F:W.alloc (.cells #[.int .i64 3,.int .i64 o.x,.int .i64 o.y,.int .i64 o.z] 34)=W1 at i t;have Z:=cB F;have C:=h.chg0 t;obtain⟨⟨f1,f2⟩,⟨l1,l2⟩,_⟩:=dO (show iL c=true by rw[←h.cf];exact h.kw.ok.conf);have O:W1.cell? ⟨W.heap.size,0,none⟩=some (.int .i64 3):=cC i 0 _ rfl;have P:W1.cell? ⟨W.heap.size,1,none⟩=some (.int .i64 o.x):=cC i 1 _ rfl;have s2:W1.cell? ⟨W.heap.size,2,none⟩=some (.int .i64 o.y):=cC i 2 _ rfl;have s3:W1.cell? ⟨W.heap.size,3,none⟩=some (.int .i64 o.z):=cC i 3 _ rfl;have b0:W1.cell? ⟨b,0,none⟩=some (.int .i64 c.f):=cC C.fl 0 _ rfl;have b1:W1.cell? ⟨b,1,none⟩=some (.int .i64 c.clients):=cC C.fl 1 _ rfl;have T:W1.cell? ⟨b,7,none⟩=some (.pointer (some ⟨g,0,none⟩)):=cC C.fl 7 _ rfl;have w1:IntKind.i64.wrap (2*c.f)=2*c.f:=dZ (by omega) (by omega);have w2:IntKind.i64.wrap (2*c.f+1)=2*c.f+1:=dZ (by omega) (by omega);have x1:=ho.x1;have x2:=ho.x2;have y1:=ho.y1;have y2:=ho.y2;have z1:=ho.z1;have z2:=ho.z2;have G:=cB (fun w=>eI o.x c.clients w x1 x2 (by omega) (by omega));have a0:=dX (c:=o.x) (n:=c.clients) (by omega);have HB:=cB (fun m w (j:KF w B eb b own g c x a d N M)=>uJ w own g B eb x N m j.kw.mo j.kw.gl j.kw.ow j.kw.ok (by omega))
 have Y:=cB (fun w (j:KF w B eb b own g c x a d N M)=>aAq w own g x N j.kw.mo j.kw.ok (by omega));have J:Hid (qY x o=if 0<x.net.length then cO o.x x.net.length else -1):=by
  show qY x o=_;unfold qY;simp[hk]
 have V:=cB C.kw.ok.nl;have E:=cB (show W.heap.size<W1.drew.heap.size from qR i);have U:=cB (aJW C t);clear h C i F t hk;go_enter func15,ntmps15;go_wp2_with (first|rw[Z.out]);refine dJ [0,1,0,0,0,0,1,1,0] (by kernel_rfl) (fun _ _ _ _=>rfl) ?_;simp only[cL,cK];iterate 7 (apply sB rfl rfl;·(intro x h;(try cases h rfl);go_simp;with_reducible rfl))
 try simp only[pA]
 refine dB (v:=.int .i64 (cO o.x c.clients)) (f:=19) (args:=#[.int .i64 o.x,.int .i64 c.clients]) rfl (fun x hx=>by subst hx;go_simp;try rfl) (fun x hx=>G.out x) ?_;(try simp only[pA]);iterate 1 (apply sB rfl rfl;·(intro x h;(try cases h rfl);go_simp;with_reducible rfl))
 refine cD ?_;try simp only[pA]
 have R:KF W1.drew B eb b own g c x a d N M:=U.out.1.chg0 ((Chg.refl _ _).drew);go_wp2_with (go_at_call 36;refine(Y.out _ R).mono ?_;rintro e q ⟨v,rfl,hv,I⟩;refine cE ?_);obtain⟨p,a1,rfl,_,_⟩:=LsAt.of_owns (f:=mgL) (sz:=10) (fun _=>rfl) hv rfl;have k:Chg NoS W1.drew q:=Chg.below' I;have L:=cB (R.chg0 k);have H:=cB (((Chg.refl NoS W1).drew).trans k (fun _ _ e=>e));have Q:=cB (aJW ((aW (k.block W.heap.size (E.out) (fun e=>e))).trans O) ((aW (k.block W.heap.size (E.out) (fun e=>e))).trans P));clear hv I k O P s2 s3 b0 b1 T R;generalize K:x.net.length=nn at*;by_cases s:0<nn
 ·have A:=cB (fun w=>eI o.x nn w x1 x2 (by omega) (by have:=V.out;omega));have bn:decide ((0:Int)<(nn:Int))=true:=by simp;omega
  have X:(0:Int)<(nn:Int):=by omega
  have u:=cB s;clear s K;have l:KF q B eb b own g c x a d N M:=L.out;have T:q.cell? ⟨b,7,none⟩=some (.pointer (some ⟨g,0,none⟩)):=cC l.fl 7 _ rfl;have O:q.cell? ⟨W.heap.size,0,none⟩=some (.int .i64 3):=Q.out.1;have P:q.cell? ⟨W.heap.size,1,none⟩=some (.int .i64 o.x):=Q.out.2;refine cB ?_;go_wp2_with (first|(go_at_call 19;refine(A.out _).mono ?_;rintro e w ⟨rfl,j⟩;rw[j];clear j w)|(go_at_call 39;refine(HB.out (cO o.x nn) _ l).mono ?_;rintro e W3 ⟨rfl,D⟩;have S:=cB D;clear D;refine cE ?_));refine cB ?_;go_wp2_with fail
  (first|go_end0|((try simp only[Exit.inBlock,Exit.then]);refine bodyPost_ret (results_none rfl _ _ _) rfl ?_))
  rw[J.out,if_pos u.out];refine⟨rfl,KFTo.mono (((l.go (N':=N+6) S.out (l.kw.ok.deliver _) (nF _ _)).before H.out).before (U.out.2)) (by omega) (by omega)⟩
 ·have bn:decide ((0:Int)<(nn:Int))=false:=by simp;omega
  have A:=cB G.out;have X:¬(0:Int)<(nn:Int):=by omega
  have u:=cB s;clear s K;have l:KF q B eb b own g c x a d N M:=L.out;have T:q.cell? ⟨b,7,none⟩=some (.pointer (some ⟨g,0,none⟩)):=cC l.fl 7 _ rfl;have O:q.cell? ⟨W.heap.size,0,none⟩=some (.int .i64 3):=Q.out.1;have P:q.cell? ⟨W.heap.size,1,none⟩=some (.int .i64 o.x):=Q.out.2;refine cB ?_;go_wp2_with (first|(go_at_call 19;refine(A.out _).mono ?_;rintro e w ⟨rfl,j⟩;rw[j];clear j w)|(go_at_call 39;refine(HB.out (-1) _ l).mono ?_;rintro e W3 ⟨rfl,D⟩;have S:=cB D;clear D;refine cE ?_));refine cB ?_;go_wp2_with fail
  (first|go_end0|((try simp only[Exit.inBlock,Exit.then]);refine bodyPost_ret (results_none rfl _ _ _) rfl ?_))
  rw[J.out,if_neg u.out];refine⟨rfl,KFTo.mono (((l.go (N':=N+6) S.out (l.kw.ok.deliver _) (nF _ _)).before H.out).before (U.out.2)) (by omega) (by omega)⟩
theorem aF2(h:KF W B eb b own g c x a d N M)(hN:N≤60000000000)(hM:M≤900000000000)(ho:nL o)(hk:o.kind=4):
 Calls prog 15 #[.pointer (some ⟨b,0,none⟩),.agg #[.int .i64 o.kind,.int .i64 o.x,.int .i64 o.y,.int .i64 o.z]] W fun r W'=>r= .returned (.tuple #[])∧KFTo W B eb b own g c (eZ c x a d o) (fQ c x a d o) (fN c x d o) (N+1800) (M+10) W':=by
 have eX:eZ c x a d o=eN x (qY x o):=by unfold eZ;simp[hk]
 have eA:fQ c x a d o=a:=by unfold fQ;simp[hk]
 have eD:fN c x d o=d:=by unfold fN;simp[hk]
 rw[eX,eA,eD,hk];clear eX eA eD;have i:=aA W (.cells #[.int .i64 4,.int .i64 o.x,.int .i64 o.y,.int .i64 o.z] 34);have t:Chg NoS W (W.alloc (.cells #[.int .i64 4,.int .i64 o.x,.int .i64 o.y,.int .i64 o.z] 34)):=(Chg.refl _ _).alloc _;generalize F:W.alloc (.cells #[.int .i64 4,.int .i64 o.x,.int .i64 o.y,.int .i64 o.z] 34)=W1 at i t;have Z:=cB F;have C:=h.chg0 t;obtain⟨⟨f1,f2⟩,⟨l1,l2⟩,_⟩:=dO (show iL c=true by rw[←h.cf];exact h.kw.ok.conf);have O:W1.cell? ⟨W.heap.size,0,none⟩=some (.int .i64 4):=cC i 0 _ rfl;have P:W1.cell? ⟨W.heap.size,1,none⟩=some (.int .i64 o.x):=cC i 1 _ rfl;have s2:W1.cell? ⟨W.heap.size,2,none⟩=some (.int .i64 o.y):=cC i 2 _ rfl;have s3:W1.cell? ⟨W.heap.size,3,none⟩=some (.int .i64 o.z):=cC i 3 _ rfl;have b0:W1.cell? ⟨b,0,none⟩=some (.int .i64 c.f):=cC C.fl 0 _ rfl;have b1:W1.cell? ⟨b,1,none⟩=some (.int .i64 c.clients):=cC C.fl 1 _ rfl;have T:W1.cell? ⟨b,7,none⟩=some (.pointer (some ⟨g,0,none⟩)):=cC C.fl 7 _ rfl;have w1:IntKind.i64.wrap (2*c.f)=2*c.f:=dZ (by omega) (by omega);have w2:IntKind.i64.wrap (2*c.f+1)=2*c.f+1:=dZ (by omega) (by omega);have x1:=ho.x1;have x2:=ho.x2;have y1:=ho.y1;have y2:=ho.y2;have z1:=ho.z1;have z2:=ho.z2;have G:=cB (fun w=>eI o.x c.clients w x1 x2 (by omega) (by omega));have a0:=dX (c:=o.x) (n:=c.clients) (by omega);have HB:=cB (fun m w (j:KF w B eb b own g c x a d N M)=>aEU w own g x N m j.kw.mo j.kw.ok (by omega));have Y:=cB (fun w (j:KF w B eb b own g c x a d N M)=>aAq w own g x N j.kw.mo j.kw.ok (by omega))
 have J:Hid (qY x o=if 0<x.net.length then cO o.x x.net.length else -1):=by
  show qY x o=_;unfold qY;simp[hk]
 have V:=cB C.kw.ok.nl;have E:=cB (show W.heap.size<W1.drew.heap.size from qR i);have U:=cB (aJW C t);clear h C i F t hk;go_enter func15,ntmps15;go_wp2_with (first|rw[Z.out]);refine dJ [0,1,0,0,0,0,1,1,0] (by kernel_rfl) (fun _ _ _ _=>rfl) ?_;simp only[cL,cK];iterate 7 (apply sB rfl rfl;·(intro x h;(try cases h rfl);go_simp;with_reducible rfl))
 try simp only[pA]
 refine dB (v:=.int .i64 (cO o.x c.clients)) (f:=19) (args:=#[.int .i64 o.x,.int .i64 c.clients]) rfl (fun x hx=>by subst hx;go_simp;try rfl) (fun x hx=>G.out x) ?_;(try simp only[pA]);iterate 1 (apply sB rfl rfl;·(intro x h;(try cases h rfl);go_simp;with_reducible rfl))
 refine cD ?_;try simp only[pA]
 have R:KF W1.drew B eb b own g c x a d N M:=U.out.1.chg0 ((Chg.refl _ _).drew);go_wp2_with (go_at_call 36;refine(Y.out _ R).mono ?_;rintro e q ⟨v,rfl,hv,I⟩;refine cE ?_);obtain⟨p,a1,rfl,_,_⟩:=LsAt.of_owns (f:=mgL) (sz:=10) (fun _=>rfl) hv rfl;have k:Chg NoS W1.drew q:=Chg.below' I;have L:=cB (R.chg0 k);have H:=cB (((Chg.refl NoS W1).drew).trans k (fun _ _ e=>e));have Q:=cB (aJW ((aW (k.block W.heap.size (E.out) (fun e=>e))).trans O) ((aW (k.block W.heap.size (E.out) (fun e=>e))).trans P));clear hv I k O P s2 s3 b0 b1 T R;generalize K:x.net.length=nn at*;by_cases s:0<nn
 ·have A:=cB (fun w=>eI o.x nn w x1 x2 (by omega) (by have:=V.out;omega));have bn:decide ((0:Int)<(nn:Int))=true:=by simp;omega
  have X:(0:Int)<(nn:Int):=by omega
  have u:=cB s;clear s K;have l:KF q B eb b own g c x a d N M:=L.out;have T:q.cell? ⟨b,7,none⟩=some (.pointer (some ⟨g,0,none⟩)):=cC l.fl 7 _ rfl;have O:q.cell? ⟨W.heap.size,0,none⟩=some (.int .i64 4):=Q.out.1;have P:q.cell? ⟨W.heap.size,1,none⟩=some (.int .i64 o.x):=Q.out.2;refine cB ?_;go_wp2_with (first|(go_at_call 19;refine(A.out _).mono ?_;rintro e w ⟨rfl,j⟩;rw[j];clear j w)|(go_at_call 40;refine(HB.out (cO o.x nn) _ l).mono ?_;rintro e W3 ⟨rfl,D⟩;have S:=cB D;clear D;refine cE ?_));refine cB ?_;go_wp2_with fail
  (first|go_end0|((try simp only[Exit.inBlock,Exit.then]);refine bodyPost_ret (results_none rfl _ _ _) rfl ?_))
  rw[J.out,if_pos u.out];refine⟨rfl,KFTo.mono (((l.go (N':=N+6) S.out ((l.kw.ok.drop _).mono (by omega)) (uG _ _)).before H.out).before (U.out.2)) (by omega) (by omega)⟩
 ·have bn:decide ((0:Int)<(nn:Int))=false:=by simp;omega
  have A:=cB G.out;have X:¬(0:Int)<(nn:Int):=by omega
  have u:=cB s;clear s K;have l:KF q B eb b own g c x a d N M:=L.out;have T:q.cell? ⟨b,7,none⟩=some (.pointer (some ⟨g,0,none⟩)):=cC l.fl 7 _ rfl;have O:q.cell? ⟨W.heap.size,0,none⟩=some (.int .i64 4):=Q.out.1;have P:q.cell? ⟨W.heap.size,1,none⟩=some (.int .i64 o.x):=Q.out.2;refine cB ?_;go_wp2_with (first|(go_at_call 19;refine(A.out _).mono ?_;rintro e w ⟨rfl,j⟩;rw[j];clear j w)|(go_at_call 40;refine(HB.out (-1) _ l).mono ?_;rintro e W3 ⟨rfl,D⟩;have S:=cB D;clear D;refine cE ?_));refine cB ?_;go_wp2_with fail
  (first|go_end0|((try simp only[Exit.inBlock,Exit.then]);refine bodyPost_ret (results_none rfl _ _ _) rfl ?_))
  rw[J.out,if_neg u.out];refine⟨rfl,KFTo.mono (((l.go (N':=N+6) S.out ((l.kw.ok.drop _).mono (by omega)) (uG _ _)).before H.out).before (U.out.2)) (by omega) (by omega)⟩
theorem aF4(h:KF W B eb b own g c x a d N M)(hN:N≤60000000000)(hM:M≤900000000000)(ho:nL o)(hk:o.kind=5):
 Calls prog 15 #[.pointer (some ⟨b,0,none⟩),.agg #[.int .i64 o.kind,.int .i64 o.x,.int .i64 o.y,.int .i64 o.z]] W fun r W'=>r= .returned (.tuple #[])∧KFTo W B eb b own g c (eZ c x a d o) (fQ c x a d o) (fN c x d o) (N+1800) (M+10) W':=by
 have eX:eZ c x a d o=lE x (qY x o):=by unfold eZ;simp[hk]
 have eA:fQ c x a d o=a:=by unfold fQ;simp[hk]
 have eD:fN c x d o=d:=by unfold fN;simp[hk]
 rw[eX,eA,eD,hk];clear eX eA eD;have i:=aA W (.cells #[.int .i64 5,.int .i64 o.x,.int .i64 o.y,.int .i64 o.z] 34);have t:Chg NoS W (W.alloc (.cells #[.int .i64 5,.int .i64 o.x,.int .i64 o.y,.int .i64 o.z] 34)):=(Chg.refl _ _).alloc _;generalize F:W.alloc (.cells #[.int .i64 5,.int .i64 o.x,.int .i64 o.y,.int .i64 o.z] 34)=W1 at i t;have Z:=cB F;have C:=h.chg0 t;obtain⟨⟨f1,f2⟩,⟨l1,l2⟩,_⟩:=dO (show iL c=true by rw[←h.cf];exact h.kw.ok.conf);have O:W1.cell? ⟨W.heap.size,0,none⟩=some (.int .i64 5):=cC i 0 _ rfl;have P:W1.cell? ⟨W.heap.size,1,none⟩=some (.int .i64 o.x):=cC i 1 _ rfl;have s2:W1.cell? ⟨W.heap.size,2,none⟩=some (.int .i64 o.y):=cC i 2 _ rfl;have s3:W1.cell? ⟨W.heap.size,3,none⟩=some (.int .i64 o.z):=cC i 3 _ rfl;have b0:W1.cell? ⟨b,0,none⟩=some (.int .i64 c.f):=cC C.fl 0 _ rfl;have b1:W1.cell? ⟨b,1,none⟩=some (.int .i64 c.clients):=cC C.fl 1 _ rfl;have T:W1.cell? ⟨b,7,none⟩=some (.pointer (some ⟨g,0,none⟩)):=cC C.fl 7 _ rfl;have w1:IntKind.i64.wrap (2*c.f)=2*c.f:=dZ (by omega) (by omega);have w2:IntKind.i64.wrap (2*c.f+1)=2*c.f+1:=dZ (by omega) (by omega);have x1:=ho.x1;have x2:=ho.x2;have y1:=ho.y1;have y2:=ho.y2;have z1:=ho.z1;have z2:=ho.z2;have G:=cB (fun w=>eI o.x c.clients w x1 x2 (by omega) (by omega));have a0:=dX (c:=o.x) (n:=c.clients) (by omega);have HB:=cB (fun m w (j:KF w B eb b own g c x a d N M)=>aEV w own g x N m j.kw.mo j.kw.ok (by omega));have Y:=cB (fun w (j:KF w B eb b own g c x a d N M)=>aAq w own g x N j.kw.mo j.kw.ok (by omega))
 have J:Hid (qY x o=if 0<x.net.length then cO o.x x.net.length else -1):=by
  show qY x o=_;unfold qY;simp[hk]
 have V:=cB C.kw.ok.nl;have E:=cB (show W.heap.size<W1.drew.heap.size from qR i);have U:=cB (aJW C t);clear h C i F t hk;go_enter func15,ntmps15;go_wp2_with (first|rw[Z.out]);refine dJ [0,1,0,0,0,0,1,1,0] (by kernel_rfl) (fun _ _ _ _=>rfl) ?_;simp only[cL,cK];iterate 7 (apply sB rfl rfl;·(intro x h;(try cases h rfl);go_simp;with_reducible rfl))
 try simp only[pA]
 refine dB (v:=.int .i64 (cO o.x c.clients)) (f:=19) (args:=#[.int .i64 o.x,.int .i64 c.clients]) rfl (fun x hx=>by subst hx;go_simp;try rfl) (fun x hx=>G.out x) ?_;(try simp only[pA]);iterate 1 (apply sB rfl rfl;·(intro x h;(try cases h rfl);go_simp;with_reducible rfl))
 refine cD ?_;try simp only[pA]
 have R:KF W1.drew B eb b own g c x a d N M:=U.out.1.chg0 ((Chg.refl _ _).drew);go_wp2_with (go_at_call 36;refine(Y.out _ R).mono ?_;rintro e q ⟨v,rfl,hv,I⟩;refine cE ?_);obtain⟨p,a1,rfl,_,_⟩:=LsAt.of_owns (f:=mgL) (sz:=10) (fun _=>rfl) hv rfl;have k:Chg NoS W1.drew q:=Chg.below' I;have L:=cB (R.chg0 k);have H:=cB (((Chg.refl NoS W1).drew).trans k (fun _ _ e=>e));have Q:=cB (aJW ((aW (k.block W.heap.size (E.out) (fun e=>e))).trans O) ((aW (k.block W.heap.size (E.out) (fun e=>e))).trans P));clear hv I k O P s2 s3 b0 b1 T R;generalize K:x.net.length=nn at*;by_cases s:0<nn
 ·have A:=cB (fun w=>eI o.x nn w x1 x2 (by omega) (by have:=V.out;omega));have bn:decide ((0:Int)<(nn:Int))=true:=by simp;omega
  have X:(0:Int)<(nn:Int):=by omega
  have u:=cB s;clear s K;have l:KF q B eb b own g c x a d N M:=L.out;have T:q.cell? ⟨b,7,none⟩=some (.pointer (some ⟨g,0,none⟩)):=cC l.fl 7 _ rfl;have O:q.cell? ⟨W.heap.size,0,none⟩=some (.int .i64 5):=Q.out.1;have P:q.cell? ⟨W.heap.size,1,none⟩=some (.int .i64 o.x):=Q.out.2;refine cB ?_;go_wp2_with (first|(go_at_call 19;refine(A.out _).mono ?_;rintro e w ⟨rfl,j⟩;rw[j];clear j w)|(go_at_call 41;refine(HB.out (cO o.x nn) _ l).mono ?_;rintro e W3 ⟨rfl,D⟩;have S:=cB D;clear D;refine cE ?_));refine cB ?_;go_wp2_with fail
  (first|go_end0|((try simp only[Exit.inBlock,Exit.then]);refine bodyPost_ret (results_none rfl _ _ _) rfl ?_))
  rw[J.out,if_pos u.out];refine⟨rfl,KFTo.mono (((l.go (N':=N+6) S.out (l.kw.ok.copy _) (aBK _ _)).before H.out).before (U.out.2)) (by omega) (by omega)⟩
 ·have bn:decide ((0:Int)<(nn:Int))=false:=by simp;omega
  have A:=cB G.out;have X:¬(0:Int)<(nn:Int):=by omega
  have u:=cB s;clear s K;have l:KF q B eb b own g c x a d N M:=L.out;have T:q.cell? ⟨b,7,none⟩=some (.pointer (some ⟨g,0,none⟩)):=cC l.fl 7 _ rfl;have O:q.cell? ⟨W.heap.size,0,none⟩=some (.int .i64 5):=Q.out.1;have P:q.cell? ⟨W.heap.size,1,none⟩=some (.int .i64 o.x):=Q.out.2;refine cB ?_;go_wp2_with (first|(go_at_call 19;refine(A.out _).mono ?_;rintro e w ⟨rfl,j⟩;rw[j];clear j w)|(go_at_call 41;refine(HB.out (-1) _ l).mono ?_;rintro e W3 ⟨rfl,D⟩;have S:=cB D;clear D;refine cE ?_));refine cB ?_;go_wp2_with fail
  (first|go_end0|((try simp only[Exit.inBlock,Exit.then]);refine bodyPost_ret (results_none rfl _ _ _) rfl ?_))
  rw[J.out,if_neg u.out];refine⟨rfl,KFTo.mono (((l.go (N':=N+6) S.out (l.kw.ok.copy _) (aBK _ _)).before H.out).before (U.out.2)) (by omega) (by omega)⟩
theorem aF6(h:KF W B eb b own g c x a d N M)(hN:N≤60000000000)(hM:M≤900000000000)(ho:nL o)(hk:o.kind=6):
 Calls prog 15 #[.pointer (some ⟨b,0,none⟩),.agg #[.int .i64 o.kind,.int .i64 o.x,.int .i64 o.y,.int .i64 o.z]] W fun r W'=>r= .returned (.tuple #[])∧KFTo W B eb b own g c (eZ c x a d o) (fQ c x a d o) (fN c x d o) (N+1800) (M+10) W':=by
 have G:eZ c x a d o=lM x (cO o.x (2*c.f+1)) (cO o.y 9) (cO o.z 30):=by unfold eZ;simp[hk]
 have A:fQ c x a d o=a:=by unfold fQ;simp[hk]
 have C:fN c x d o=d:=by unfold fN;simp[hk]
 rw[G,A,C,hk];clear G A C hk;have i:=aA W (.cells #[.int .i64 6,.int .i64 o.x,.int .i64 o.y,.int .i64 o.z] 34);have j:Chg NoS W (W.alloc (.cells #[.int .i64 6,.int .i64 o.x,.int .i64 o.y,.int .i64 o.z] 34)):=(Chg.refl _ _).alloc _;generalize l:W.alloc (.cells #[.int .i64 6,.int .i64 o.x,.int .i64 o.y,.int .i64 o.z] 34)=W1 at i j;have u:=cB l;have k:=h.chg0 j;obtain⟨⟨T,f2⟩,⟨l1,l2⟩,_⟩:=dO (show iL c=true by rw[←h.cf];exact h.kw.ok.conf);have X:W1.cell? ⟨W.heap.size,0,none⟩=some (.int .i64 6):=cC i 0 _ rfl;have s1:W1.cell? ⟨W.heap.size,1,none⟩=some (.int .i64 o.x):=cC i 1 _ rfl;have U:W1.cell? ⟨W.heap.size,2,none⟩=some (.int .i64 o.y):=cC i 2 _ rfl;have s3:W1.cell? ⟨W.heap.size,3,none⟩=some (.int .i64 o.z):=cC i 3 _ rfl;have V:W1.cell? ⟨b,0,none⟩=some (.int .i64 c.f):=cC k.fl 0 _ rfl;have S:W1.cell? ⟨b,1,none⟩=some (.int .i64 c.clients):=cC k.fl 1 _ rfl;have Y:W1.cell? ⟨b,7,none⟩=some (.pointer (some ⟨g,0,none⟩)):=cC k.fl 7 _ rfl;have R:IntKind.i64.wrap (2*c.f)=2*c.f:=dZ (by omega) (by omega);have w2:IntKind.i64.wrap (2*c.f+1)=2*c.f+1:=dZ (by omega) (by omega);have H:=ho.x1;have F:=ho.x2;have J:=ho.y1;have Q:=ho.y2;have P:=ho.z1;have L:=ho.z2;have s:=cB (fun w=>eI o.x c.clients w H F (by omega) (by omega));have I:=dX (c:=o.x) (n:=c.clients) (by omega);have p:=cB (fun w=>eI o.x (2*c.f+1) w H F (by omega) (by omega));have q:=cB (fun w=>eI o.y 9 w J Q (by decide) (by decide));have t:=cB (fun w=>eI o.z 30 w P L (by decide) (by decide));have Z:=dX (c:=o.y) (n:=9) (by decide)
 have O:=cB (fun w (hw:KF w B eb b own g c x a d N M)=>aFi w own g x N (cO o.x (2*c.f+1)) (cO o.y 9) (cO o.z 30) hw.kw.mo hw.kw.ok (by omega));have E:=cB (aJW k j);clear h k i l j;go_enter func15,ntmps15;go_wp2_with (first|rw[u.out]);refine dJ [0,1,0,0,0,0,1,1,0] (by kernel_rfl) (fun _ _ _ _=>rfl) ?_;simp only[cL,cK];iterate 7 (apply sB rfl rfl;·(intro x h;(try cases h rfl);go_simp;with_reducible rfl))
 try simp only[pA]
 refine dB (v:=.int .i64 (cO o.x c.clients)) (f:=19) (args:=#[.int .i64 o.x,.int .i64 c.clients]) rfl (fun x hx=>by subst hx;go_simp;try rfl) (fun x hx=>s.out x) ?_;(try simp only[pA]);iterate 1 (apply sB rfl rfl;·(intro x h;(try cases h rfl);go_simp;with_reducible rfl))
 refine cD ?_;try simp only[pA]
 go_wp2_with fail;refine dJ [0,0,0,1,0,1,0,1,0,1,1,0,1,1] (by kernel_rfl) (fun _ _ _ _=>rfl) ?_;simp only[cL,cK];iterate 7 (apply sB rfl rfl;·(intro x h;(try cases h rfl);go_simp;with_reducible rfl))
 try simp only[pA]
 refine dB (v:=.int .i64 (cO o.x (2*c.f+1))) (f:=19) (args:=#[.int .i64 o.x,.int .i64 (2*c.f+1)]) rfl (fun x hx=>by subst hx;go_simp;try rfl) (fun x hx=>p.out x) ?_;(try simp only[pA]);iterate 2 (apply sB rfl rfl;·(intro x h;(try cases h rfl);go_simp;with_reducible rfl))
 try simp only[pA]
 refine dB (v:=.int .i64 (cO o.y 9)) (f:=19) (args:=#[.int .i64 o.y,.int .i64 9]) rfl (fun x hx=>by subst hx;go_simp;try rfl) (fun x hx=>q.out x) ?_;(try simp only[pA]);iterate 2 (apply sB rfl rfl;·(intro x h;(try cases h rfl);go_simp;with_reducible rfl))
 try simp only[pA]
 refine dB (v:=.int .i64 (cO o.z 30)) (f:=19) (args:=#[.int .i64 o.z,.int .i64 30]) rfl (fun x hx=>by subst hx;go_simp;try rfl) (fun x hx=>t.out x) ?_;(try simp only[pA]);refine cD ?_;have m:KF W1.drew.drew B eb b own g c x a d N M:=E.out.1.chg0 ((Chg.refl _ _).drew.drew);go_wp2_with (go_at_call 42;refine(O.out _ m).mono ?_;rintro e W2 ⟨rfl,D⟩;have K:=cB D;clear D;refine cE ?_);refine cB ?_;go_wp2_with fail
 (first|go_end0|((try simp only[Exit.inBlock,Exit.then]);refine bodyPost_ret (results_none rfl _ _ _) rfl ?_))
 exact⟨rfl,KFTo.mono ((((m.go (N':=N+6) K.out (m.kw.ok.fail _ _ _ (by omega)) (aEy _ _ _ _)).before ((Chg.refl _ W1).drew.drew))).before (E.out.2)) (by omega) (by omega)⟩
theorem aEg(h:KF W B eb b own g c x a d N M)(hN:N≤60000000000)(hM:M≤900000000000)(ho:nL o)(hk:o.kind=7):
 Calls prog 15 #[.pointer (some ⟨b,0,none⟩),.agg #[.int .i64 o.kind,.int .i64 o.x,.int .i64 o.y,.int .i64 o.z]] W fun r W'=>r= .returned (.tuple #[])∧KFTo W B eb b own g c (eZ c x a d o) (fQ c x a d o) (fN c x d o) (N+1800) (M+10) W':=by
 have E:eZ c x a d o=jM x (cO o.x (2*c.f+1)):=by unfold eZ;simp[hk]
 have t:fQ c x a d o=a:=by unfold fQ;simp[hk]
 have u:fN c x d o=d:=by unfold fN;simp[hk]
 rw[E,t,u,hk];clear E t u hk;have i:=aA W (.cells #[.int .i64 7,.int .i64 o.x,.int .i64 o.y,.int .i64 o.z] 34);have j:Chg NoS W (W.alloc (.cells #[.int .i64 7,.int .i64 o.x,.int .i64 o.y,.int .i64 o.z] 34)):=(Chg.refl _ _).alloc _;generalize l:W.alloc (.cells #[.int .i64 7,.int .i64 o.x,.int .i64 o.y,.int .i64 o.z] 34)=W1 at i j;have s:=cB l;have k:=h.chg0 j;obtain⟨⟨P,Y⟩,⟨l1,l2⟩,_⟩:=dO (show iL c=true by rw[←h.cf];exact h.kw.ok.conf);have T:W1.cell? ⟨W.heap.size,0,none⟩=some (.int .i64 7):=cC i 0 _ rfl;have V:W1.cell? ⟨W.heap.size,1,none⟩=some (.int .i64 o.x):=cC i 1 _ rfl;have Q:W1.cell? ⟨W.heap.size,2,none⟩=some (.int .i64 o.y):=cC i 2 _ rfl;have Z:W1.cell? ⟨W.heap.size,3,none⟩=some (.int .i64 o.z):=cC i 3 _ rfl;have R:W1.cell? ⟨b,0,none⟩=some (.int .i64 c.f):=cC k.fl 0 _ rfl;have K:W1.cell? ⟨b,1,none⟩=some (.int .i64 c.clients):=cC k.fl 1 _ rfl;have U:W1.cell? ⟨b,7,none⟩=some (.pointer (some ⟨g,0,none⟩)):=cC k.fl 7 _ rfl;have J:IntKind.i64.wrap (2*c.f)=2*c.f:=dZ (by omega) (by omega);have w2:IntKind.i64.wrap (2*c.f+1)=2*c.f+1:=dZ (by omega) (by omega);have F:=ho.x1;have D:=ho.x2;have L:=ho.y1;have y2:=ho.y2;have S:=ho.z1;have O:=ho.z2;have q:=cB (fun w=>eI o.x c.clients w F D (by omega) (by omega));have G:=dX (c:=o.x) (n:=c.clients) (by omega);have p:=cB (fun w=>eI o.x (2*c.f+1) w F D (by omega) (by omega));have I:=cB (fun w (hw:KF w B eb b own g c x a d N M)=>aD7 w own g B eb x N (cO o.x (2*c.f+1)) hw.kw.mo hw.kw.gl hw.kw.ow hw.kw.ok (by omega));have C:=cB (aJW k j)
 clear h k i l j;go_enter func15,ntmps15;go_wp2_with (first|rw[s.out]);refine dJ [0,1,0,0,0,0,1,1,0] (by kernel_rfl) (fun _ _ _ _=>rfl) ?_;simp only[cL,cK];iterate 7 (apply sB rfl rfl;·(intro x h;(try cases h rfl);go_simp;with_reducible rfl))
 try simp only[pA]
 refine dB (v:=.int .i64 (cO o.x c.clients)) (f:=19) (args:=#[.int .i64 o.x,.int .i64 c.clients]) rfl (fun x hx=>by subst hx;go_simp;try rfl) (fun x hx=>q.out x) ?_;(try simp only[pA]);iterate 1 (apply sB rfl rfl;·(intro x h;(try cases h rfl);go_simp;with_reducible rfl))
 refine cD ?_;try simp only[pA]
 go_wp2_with fail;refine dJ [0,0,0,1,0,1,0,1] (by kernel_rfl) (fun _ _ _ _=>rfl) ?_;simp only[cL,cK];iterate 7 (apply sB rfl rfl;·(intro x h;(try cases h rfl);go_simp;with_reducible rfl))
 try simp only[pA]
 refine dB (v:=.int .i64 (cO o.x (2*c.f+1))) (f:=19) (args:=#[.int .i64 o.x,.int .i64 (2*c.f+1)]) rfl (fun x hx=>by subst hx;go_simp;try rfl) (fun x hx=>p.out x) ?_;(try simp only[pA]);refine cD ?_;have m:KF W1.drew.drew B eb b own g c x a d N M:=C.out.1.chg0 ((Chg.refl _ _).drew.drew);go_wp2_with (go_at_call 43;refine(I.out _ m).mono ?_;rintro e X ⟨rfl,A⟩;have H:=cB A;clear A;refine cE ?_);refine cB ?_;go_wp2_with fail
 (first|go_end0|((try simp only[Exit.inBlock,Exit.then]);refine bodyPost_ret (results_none rfl _ _ _) rfl ?_))
 exact⟨rfl,KFTo.mono ((((m.go (N':=N+6) H.out (m.kw.ok.start _) (aCU _ _)).before ((Chg.refl _ W1).drew.drew))).before (C.out.2)) (by omega) (by omega)⟩
theorem aFP(h:KF W B eb b own g c x a d N M)(hN:N≤60000000000)(hM:M≤900000000000)(ho:nL o)(hk:o.kind=8):
 Calls prog 15 #[.pointer (some ⟨b,0,none⟩),.agg #[.int .i64 o.kind,.int .i64 o.x,.int .i64 o.y,.int .i64 o.z]] W fun r W'=>r= .returned (.tuple #[])∧KFTo W B eb b own g c (eZ c x a d o) (fQ c x a d o) (fN c x d o) (N+1800) (M+10) W':=by
 have S:eZ c x a d o=kP x (cO o.x c.clients):=by unfold eZ;simp[hk]
 have P:fQ c x a d o=(if kE x (cO o.x c.clients)=0 then iP a (cO o.x c.clients)else a):=by unfold fQ;simp[hk]
 have Q:fN c x d o=(if kE x (cO o.x c.clients)=0 then(fun p=>if p=cO o.x c.clients then true else d p)else d):=by unfold fN;simp[hk]
 rw[S,P,Q,hk];clear S P Q hk;have i:=aA W (.cells #[.int .i64 8,.int .i64 o.x,.int .i64 o.y,.int .i64 o.z] 34);have j:Chg NoS W (W.alloc (.cells #[.int .i64 8,.int .i64 o.x,.int .i64 o.y,.int .i64 o.z] 34)):=(Chg.refl _ _).alloc _;generalize u:W.alloc (.cells #[.int .i64 8,.int .i64 o.x,.int .i64 o.y,.int .i64 o.z] 34)=W1 at i j;have O:=cB u;have t:=h.chg0 j;obtain⟨⟨f1,f2⟩,⟨l1,l2⟩,_⟩:=dO (show iL c=true by rw[←h.cf];exact h.kw.ok.conf);have s0:W1.cell? ⟨W.heap.size,0,none⟩=some (.int .i64 8):=cC i 0 _ rfl;have s1:W1.cell? ⟨W.heap.size,1,none⟩=some (.int .i64 o.x):=cC i 1 _ rfl;have s2:W1.cell? ⟨W.heap.size,2,none⟩=some (.int .i64 o.y):=cC i 2 _ rfl;have s3:W1.cell? ⟨W.heap.size,3,none⟩=some (.int .i64 o.z):=cC i 3 _ rfl;have b0:W1.cell? ⟨b,0,none⟩=some (.int .i64 c.f):=cC t.fl 0 _ rfl;have b1:W1.cell? ⟨b,1,none⟩=some (.int .i64 c.clients):=cC t.fl 1 _ rfl;have b7:W1.cell? ⟨b,7,none⟩=some (.pointer (some ⟨g,0,none⟩)):=cC t.fl 7 _ rfl;have w1:IntKind.i64.wrap (2*c.f)=2*c.f:=dZ (by omega) (by omega);have w2:IntKind.i64.wrap (2*c.f+1)=2*c.f+1:=dZ (by omega) (by omega);have x1:=ho.x1;have X:=ho.x2;have y1:=ho.y1;have y2:=ho.y2;have z1:=ho.z1;have z2:=ho.z2;have C:=cB (fun w=>eI o.x c.clients w x1 X (by omega) (by omega));have D:=dX (c:=o.x) (n:=c.clients) (by omega);obtain⟨l,K⟩:∃n:Nat,cO o.x c.clients=n:=⟨(cO o.x c.clients).toNat,by omega⟩;rw[K]at C D⊢;have E:l<4:=by omega
 have U:=cB (fun w (hw:KF w B eb b own g c x a d N M)=>aFu w own g x N l hw.kw.mo hw.kw.ok (by omega));have I:=cB (aJW t j);clear h t i u j;go_enter func15,ntmps15;go_wp2_with (first|rw[O.out]);refine dJ [0,1,0,0,0,0,1,1,0] (by kernel_rfl) (fun _ _ _ _=>rfl) ?_;simp only[cL,cK];iterate 7 (apply sB rfl rfl;·(intro x h;(try cases h rfl);go_simp;with_reducible rfl))
 try simp only[pA]
 refine dB (v:=.int .i64 (l:Int)) (f:=19) (args:=#[.int .i64 o.x,.int .i64 c.clients]) rfl (fun x hx=>by subst hx;go_simp;try rfl) (fun x hx=>C.out x) ?_;(try simp only[pA]);iterate 1 (apply sB rfl rfl;·(intro x h;(try cases h rfl);go_simp;with_reducible rfl))
 refine cD ?_;try simp only[pA]
 have H:KF W1.drew B eb b own g c x a d N M:=I.out.1.chg0 ((Chg.refl _ _).drew);go_wp2_with (go_at_call 44;refine(U.out _ H).mono ?_;rintro e Y ⟨rfl,k⟩;have T:=cB k;clear k;refine cE ?_);have J:=cB (KF.go (N':=N+6) H T.out (H.kw.ok.lose _) (aEj _ _));by_cases s:kE x l=0
 ·obtain⟨o',F,Z,V⟩:=J.out;have m:=cB (aEu Y b c g a d F.fl l E true);have L:=cB F.ab;have G:=cB s;rw[s];clear F Z V s;refine cB ?_;go_wp2_with (go_at_call 45;refine m.out.mono ?_;rintro e R ⟨rfl,k⟩;have A:=cB k;clear k;refine cE ?_);refine cB ?_;go_wp2_with fail
  (first|go_end0|((try simp only[Exit.inBlock,Exit.then]);refine bodyPost_ret (results_none rfl _ _ _) rfl ?_))
  refine⟨rfl,?_⟩;have hk:=KFTo.mono (N':=N+1800) (M':=M+10) ((((J.out.fleet (M':=M) A.out.2 A.out.1 (fun p q=>by
   have:=L.out p q;unfold iP;split<;>omega)).before ((Chg.refl _ W1).drew))).before (I.out.2)) (by omega) (by omega)
  simpa[G.out]using hk
 ·have m:=cB (fun w=>aEO w b l (kE x l) s true);have G:=cB s;clear s;refine cB ?_;go_wp2_with (go_at_call 45;refine(m.out _).mono ?_;rintro e R ⟨rfl,k⟩;rw[k];clear k R;refine cE ?_);refine cB ?_;go_wp2_with fail
  (first|go_end0|((try simp only[Exit.inBlock,Exit.then]);refine bodyPost_ret (results_none rfl _ _ _) rfl ?_))
  refine⟨rfl,?_⟩;have hk:=KFTo.mono (N':=N+1800) (M':=M+10) (((J.out.before ((Chg.refl _ W1).drew))).before (I.out.2)) (by omega) (by omega);simpa[G.out]using hk
theorem aCr(h:KF W B eb b own g c x a d N M)(hN:N≤60000000000)(hM:M≤900000000000)(ho:nL o)(hk:o.kind=9):
 Calls prog 15 #[.pointer (some ⟨b,0,none⟩),.agg #[.int .i64 o.kind,.int .i64 o.x,.int .i64 o.y,.int .i64 o.z]] W fun r W'=>r= .returned (.tuple #[])∧KFTo W B eb b own g c (eZ c x a d o) (fQ c x a d o) (fN c x d o) (N+1800) (M+10) W':=by
 have S:eZ c x a d o=iB x (cO o.x c.clients):=by unfold eZ;simp[hk]
 have P:fQ c x a d o=(if gO x (cO o.x c.clients)=0 then iP a (cO o.x c.clients)else a):=by unfold fQ;simp[hk]
 have Q:fN c x d o=(if gO x (cO o.x c.clients)=0 then(fun p=>if p=cO o.x c.clients then false else d p)else d):=by unfold fN;simp[hk]
 rw[S,P,Q,hk];clear S P Q hk;have i:=aA W (.cells #[.int .i64 9,.int .i64 o.x,.int .i64 o.y,.int .i64 o.z] 34);have j:Chg NoS W (W.alloc (.cells #[.int .i64 9,.int .i64 o.x,.int .i64 o.y,.int .i64 o.z] 34)):=(Chg.refl _ _).alloc _;generalize u:W.alloc (.cells #[.int .i64 9,.int .i64 o.x,.int .i64 o.y,.int .i64 o.z] 34)=W1 at i j;have O:=cB u;have t:=h.chg0 j;obtain⟨⟨f1,f2⟩,⟨l1,l2⟩,_⟩:=dO (show iL c=true by rw[←h.cf];exact h.kw.ok.conf);have s0:W1.cell? ⟨W.heap.size,0,none⟩=some (.int .i64 9):=cC i 0 _ rfl;have s1:W1.cell? ⟨W.heap.size,1,none⟩=some (.int .i64 o.x):=cC i 1 _ rfl;have s2:W1.cell? ⟨W.heap.size,2,none⟩=some (.int .i64 o.y):=cC i 2 _ rfl;have s3:W1.cell? ⟨W.heap.size,3,none⟩=some (.int .i64 o.z):=cC i 3 _ rfl;have b0:W1.cell? ⟨b,0,none⟩=some (.int .i64 c.f):=cC t.fl 0 _ rfl;have b1:W1.cell? ⟨b,1,none⟩=some (.int .i64 c.clients):=cC t.fl 1 _ rfl;have b7:W1.cell? ⟨b,7,none⟩=some (.pointer (some ⟨g,0,none⟩)):=cC t.fl 7 _ rfl;have w1:IntKind.i64.wrap (2*c.f)=2*c.f:=dZ (by omega) (by omega);have w2:IntKind.i64.wrap (2*c.f+1)=2*c.f+1:=dZ (by omega) (by omega);have x1:=ho.x1;have X:=ho.x2;have y1:=ho.y1;have y2:=ho.y2;have z1:=ho.z1;have z2:=ho.z2;have C:=cB (fun w=>eI o.x c.clients w x1 X (by omega) (by omega));have D:=dX (c:=o.x) (n:=c.clients) (by omega);obtain⟨l,K⟩:∃n:Nat,cO o.x c.clients=n:=⟨(cO o.x c.clients).toNat,by omega⟩;rw[K]at C D⊢;have E:l<4:=by omega
 have U:=cB (fun w (hw:KF w B eb b own g c x a d N M)=>aCQ w own g x N l hw.kw.mo hw.kw.ok (by omega));have I:=cB (aJW t j);clear h t i u j;go_enter func15,ntmps15;go_wp2_with (first|rw[O.out]);refine dJ [0,1,0,0,0,0,1,1,0] (by kernel_rfl) (fun _ _ _ _=>rfl) ?_;simp only[cL,cK];iterate 7 (apply sB rfl rfl;·(intro x h;(try cases h rfl);go_simp;with_reducible rfl))
 try simp only[pA]
 refine dB (v:=.int .i64 (l:Int)) (f:=19) (args:=#[.int .i64 o.x,.int .i64 c.clients]) rfl (fun x hx=>by subst hx;go_simp;try rfl) (fun x hx=>C.out x) ?_;(try simp only[pA]);iterate 1 (apply sB rfl rfl;·(intro x h;(try cases h rfl);go_simp;with_reducible rfl))
 refine cD ?_;try simp only[pA]
 have H:KF W1.drew B eb b own g c x a d N M:=I.out.1.chg0 ((Chg.refl _ _).drew);go_wp2_with (go_at_call 26;refine(U.out _ H).mono ?_;rintro e Y ⟨rfl,k⟩;have T:=cB k;clear k;refine cE ?_);have J:=cB (KF.go (N':=N+6) H T.out (H.kw.ok.return _) (aAO _ _));by_cases s:gO x l=0
 ·obtain⟨o',F,Z,V⟩:=J.out;have m:=cB (aEu Y b c g a d F.fl l E false);have L:=cB F.ab;have G:=cB s;rw[s];clear F Z V s;refine cB ?_;go_wp2_with (go_at_call 45;refine m.out.mono ?_;rintro e R ⟨rfl,k⟩;have A:=cB k;clear k;refine cE ?_);refine cB ?_;go_wp2_with fail
  (first|go_end0|((try simp only[Exit.inBlock,Exit.then]);refine bodyPost_ret (results_none rfl _ _ _) rfl ?_))
  refine⟨rfl,?_⟩;have hk:=KFTo.mono (N':=N+1800) (M':=M+10) ((((J.out.fleet (M':=M) A.out.2 A.out.1 (fun p q=>by
   have:=L.out p q;unfold iP;split<;>omega)).before ((Chg.refl _ W1).drew))).before (I.out.2)) (by omega) (by omega)
  simpa[G.out]using hk
 ·have m:=cB (fun w=>aEO w b l (gO x l) s false);have G:=cB s;clear s;refine cB ?_;go_wp2_with (go_at_call 45;refine(m.out _).mono ?_;rintro e R ⟨rfl,k⟩;rw[k];clear k R;refine cE ?_);refine cB ?_;go_wp2_with fail
  (first|go_end0|((try simp only[Exit.inBlock,Exit.then]);refine bodyPost_ret (results_none rfl _ _ _) rfl ?_))
  refine⟨rfl,?_⟩;have hk:=KFTo.mono (N':=N+1800) (M':=M+10) (((J.out.before ((Chg.refl _ W1).drew))).before (I.out.2)) (by omega) (by omega);simpa[G.out]using hk
theorem aBX(h:KF W B eb b own g c x a d N M)(hN:N≤60000000000)(hM:M≤900000000000)(ho:nL o)(hk:o.kind=10):
 Calls prog 15 #[.pointer (some ⟨b,0,none⟩),.agg #[.int .i64 o.kind,.int .i64 o.x,.int .i64 o.y,.int .i64 o.z]] W fun r W'=>r= .returned (.tuple #[])∧KFTo W B eb b own g c (eZ c x a d o) (fQ c x a d o) (fN c x d o) (N+1800) (M+10) W':=by
 have C:eZ c x a d o=iE 300 x:=by unfold eZ;simp[hk]
 have s:fQ c x a d o=a:=by unfold fQ;simp[hk]
 have t:fN c x d o=d:=by unfold fN;simp[hk]
 rw[C,s,t,hk];clear C s t hk;have i:=aA W (.cells #[.int .i64 10,.int .i64 o.x,.int .i64 o.y,.int .i64 o.z] 34);have j:Chg NoS W (W.alloc (.cells #[.int .i64 10,.int .i64 o.x,.int .i64 o.y,.int .i64 o.z] 34)):=(Chg.refl _ _).alloc _;generalize l:W.alloc (.cells #[.int .i64 10,.int .i64 o.x,.int .i64 o.y,.int .i64 o.z] 34)=W1 at i j;have p:=cB l;have k:=h.chg0 j;obtain⟨⟨O,X⟩,⟨Z,l2⟩,_⟩:=dO (show iL c=true by rw[←h.cf];exact h.kw.ok.conf);have S:W1.cell? ⟨W.heap.size,0,none⟩=some (.int .i64 10):=cC i 0 _ rfl;have U:W1.cell? ⟨W.heap.size,1,none⟩=some (.int .i64 o.x):=cC i 1 _ rfl;have P:W1.cell? ⟨W.heap.size,2,none⟩=some (.int .i64 o.y):=cC i 2 _ rfl;have Y:W1.cell? ⟨W.heap.size,3,none⟩=some (.int .i64 o.z):=cC i 3 _ rfl;have Q:W1.cell? ⟨b,0,none⟩=some (.int .i64 c.f):=cC k.fl 0 _ rfl;have J:W1.cell? ⟨b,1,none⟩=some (.int .i64 c.clients):=cC k.fl 1 _ rfl;have T:W1.cell? ⟨b,7,none⟩=some (.pointer (some ⟨g,0,none⟩)):=cC k.fl 7 _ rfl;have I:IntKind.i64.wrap (2*c.f)=2*c.f:=dZ (by omega) (by omega);have w2:IntKind.i64.wrap (2*c.f+1)=2*c.f+1:=dZ (by omega) (by omega);have H:=ho.x1;have G:=ho.x2;have K:=ho.y1;have y2:=ho.y2;have R:=ho.z1;have L:=ho.z2;have m:=cB (fun w=>eI o.x c.clients w H G (by omega) (by omega));have D:=dX (c:=o.x) (n:=c.clients) (by omega);have F:=cB (fun w (hw:KF w B eb b own g c x a d N M)=>yF w B eb own g x N 300 hw.kw (by decide) (by omega));have A:=cB (aJW k j);clear h k i l j;go_enter func15,ntmps15;go_wp2_with (first|rw[p.out])
 refine dJ [0,1,0,0,0,0,1,1,0] (by kernel_rfl) (fun _ _ _ _=>rfl) ?_;simp only[cL,cK];iterate 7 (apply sB rfl rfl;·(intro x h;(try cases h rfl);go_simp;with_reducible rfl))
 try simp only[pA]
 refine dB (v:=.int .i64 (cO o.x c.clients)) (f:=19) (args:=#[.int .i64 o.x,.int .i64 c.clients]) rfl (fun x hx=>by subst hx;go_simp;try rfl) (fun x hx=>m.out x) ?_;(try simp only[pA]);iterate 1 (apply sB rfl rfl;·(intro x h;(try cases h rfl);go_simp;with_reducible rfl))
 refine cD ?_;try simp only[pA]
 have q:KF W1.drew B eb b own g c x a d N M:=A.out.1.chg0 ((Chg.refl _ _).drew);go_wp2_with (go_at_call 46;refine(F.out _ q).mono ?_;rintro e V ⟨rfl,u⟩;have E:=cB u;clear u;refine cE ?_);refine cB ?_;go_wp2_with fail
 (first|go_end0|((try simp only[Exit.inBlock,Exit.then]);refine bodyPost_ret (results_none rfl _ _ _) rfl ?_))
 exact⟨rfl,KFTo.mono ((((q.goK E.out (aAX _ _)).before ((Chg.refl _ W1).drew))).before (A.out.2)) (by omega) (by omega)⟩
end
section
variable {W:World}{B:Nat}{eb:Addr}{b:Nat}{own:Nat→Nat}{g:Nat}{c:Cf}{x:Mo}{a:Int→Int→Int}{d:Int→Bool}{N M:Int}{o:St}
theorem aEb(h:KF W B eb b own g c x a d N M)(hN:N≤60000000000)(hM:M≤900000000000)(ho:nL o)(hk:o.kind<1∨10<o.kind):
 Calls prog 15 #[.pointer (some ⟨b,0,none⟩),.agg #[.int .i64 o.kind,.int .i64 o.x,.int .i64 o.y,.int .i64 o.z]] W fun r W'=>r= .returned (.tuple #[])∧KFTo W B eb b own g c (eZ c x a d o) (fQ c x a d o) (fN c x d o) (N+1800) (M+10) W':=by
 have D:eZ c x a d o=x:=by
  unfold eZ;rw[if_neg (by omega),if_neg (by omega),if_neg (by omega),if_neg (by omega),if_neg (by omega),if_neg (by omega),if_neg (by omega),if_neg (by omega),if_neg (by omega),if_neg (by omega)]
 have A:fQ c x a d o=a:=by unfold fQ;rw[if_neg (by omega),if_neg (by omega)]
 have C:fN c x d o=d:=by unfold fN;rw[if_neg (by omega),if_neg (by omega)]
 rw[D,A,C];clear D A C;generalize u:o.kind=kk at*;clear u;have i:=aA W (.cells #[.int .i64 kk,.int .i64 o.x,.int .i64 o.y,.int .i64 o.z] 34);have j:Chg NoS W (W.alloc (.cells #[.int .i64 kk,.int .i64 o.x,.int .i64 o.y,.int .i64 o.z] 34)):=(Chg.refl _ _).alloc _;generalize k:W.alloc (.cells #[.int .i64 kk,.int .i64 o.x,.int .i64 o.y,.int .i64 o.z] 34)=W1 at i j;have q:=cB k;have l:=h.chg0 j;obtain⟨⟨T,f2⟩,⟨l1,l2⟩,_⟩:=dO (show iL c=true by rw[←h.cf];exact h.kw.ok.conf);have Z:W1.cell? ⟨W.heap.size,0,none⟩=some (.int .i64 kk):=cC i 0 _ rfl;have s1:W1.cell? ⟨W.heap.size,1,none⟩=some (.int .i64 o.x):=cC i 1 _ rfl;have U:W1.cell? ⟨W.heap.size,2,none⟩=some (.int .i64 o.y):=cC i 2 _ rfl;have s3:W1.cell? ⟨W.heap.size,3,none⟩=some (.int .i64 o.z):=cC i 3 _ rfl;have V:W1.cell? ⟨b,0,none⟩=some (.int .i64 c.f):=cC l.fl 0 _ rfl;have L:W1.cell? ⟨b,1,none⟩=some (.int .i64 c.clients):=cC l.fl 1 _ rfl;have b7:W1.cell? ⟨b,7,none⟩=some (.pointer (some ⟨g,0,none⟩)):=cC l.fl 7 _ rfl;have K:IntKind.i64.wrap (2*c.f)=2*c.f:=dZ (by omega) (by omega);have w2:IntKind.i64.wrap (2*c.f+1)=2*c.f+1:=dZ (by omega) (by omega);have G:=ho.x1;have F:=ho.x2;have P:=ho.y1;have y2:=ho.y2;have Y:=ho.z1;have S:=ho.z2;have p:=cB (fun w=>eI o.x c.clients w G F (by omega) (by omega));have E:=dX (c:=o.x) (n:=c.clients) (by omega);have s:=cB (aJW l j);have J:(kk==1)=false:=by simp;omega
 have k2:(kk==2)=false:=by simp;omega
 have X:(kk==3)=false:=by simp;omega
 have k4:(kk==4)=false:=by simp;omega
 have k5:(kk==5)=false:=by simp;omega
 have k6:(kk==6)=false:=by simp;omega
 have Q:(kk==7)=false:=by simp;omega
 have O:(kk==8)=false:=by simp;omega
 have R:(kk==9)=false:=by simp;omega
 have I:(kk==10)=false:=by simp;omega
 rcases hk with hk|hk
 ·have H:decide (3≤kk)=false:=by simp;omega
  clear h l i k j hk;go_enter func15,ntmps15;go_wp2_with (first|rw[q.out]);refine dJ [0,1,0,0,0,0,1,1,0] (by kernel_rfl) (fun _ _ _ _=>rfl) ?_;simp only[cL,cK];iterate 7 (apply sB rfl rfl;·(intro x h;(try cases h rfl);go_simp;with_reducible rfl))
  try simp only[pA]
  refine dB (v:=.int .i64 (cO o.x c.clients)) (f:=19) (args:=#[.int .i64 o.x,.int .i64 c.clients]) rfl (fun x hx=>by subst hx;go_simp;try rfl) (fun x hx=>p.out x) ?_;(try simp only[pA]);iterate 1 (apply sB rfl rfl;·(intro x h;(try cases h rfl);go_simp;with_reducible rfl))
  refine cD ?_;try simp only[pA]
  have m:KF W1.drew B eb b own g c x a d N M:=s.out.1.chg0 ((Chg.refl _ _).drew);have t:=cB (KFTo.before (KFTo.before (KFTo.mono (N':=N+1800) (M':=M+10) ⟨own,m,Chg.refl _ _,fun _ e=>Or.inl e⟩ (by omega) (by omega)) ((Chg.refl _ W1).drew)) s.out.2);clear m;go_wp2_with fail
  (first|go_end0|((try simp only[Exit.inBlock,Exit.then]);refine bodyPost_ret (results_none rfl _ _ _) rfl ?_))
  exact⟨rfl,t.out⟩
 ·have H:decide (3≤kk)=true:=by simp;omega
  have g5:decide (kk≤5)=false:=by simp;omega
  clear h l i k j hk;go_enter func15,ntmps15;go_wp2_with (first|rw[q.out]);refine dJ [0,1,0,0,0,0,1,1,0] (by kernel_rfl) (fun _ _ _ _=>rfl) ?_;simp only[cL,cK];iterate 7 (apply sB rfl rfl;·(intro x h;(try cases h rfl);go_simp;with_reducible rfl))
  try simp only[pA]
  refine dB (v:=.int .i64 (cO o.x c.clients)) (f:=19) (args:=#[.int .i64 o.x,.int .i64 c.clients]) rfl (fun x hx=>by subst hx;go_simp;try rfl) (fun x hx=>p.out x) ?_;(try simp only[pA]);iterate 1 (apply sB rfl rfl;·(intro x h;(try cases h rfl);go_simp;with_reducible rfl))
  refine cD ?_;try simp only[pA]
  have m:KF W1.drew B eb b own g c x a d N M:=s.out.1.chg0 ((Chg.refl _ _).drew);have t:=cB (KFTo.before (KFTo.before (KFTo.mono (N':=N+1800) (M':=M+10) ⟨own,m,Chg.refl _ _,fun _ e=>Or.inl e⟩ (by omega) (by omega)) ((Chg.refl _ W1).drew)) s.out.2);clear m;go_wp2_with fail
  (first|go_end0|((try simp only[Exit.inBlock,Exit.then]);refine bodyPost_ret (results_none rfl _ _ _) rfl ?_))
  exact⟨rfl,t.out⟩
theorem aGD(h:KF W B eb b own g c x a d N M)(hN:N≤60000000000)(hM:M≤900000000000)(ho:nL o):
 Calls prog 15 #[.pointer (some ⟨b,0,none⟩),.agg #[.int .i64 o.kind,.int .i64 o.x,.int .i64 o.y,.int .i64 o.z]] W fun r W'=>r= .returned (.tuple #[])∧KFTo W B eb b own g c (eZ c x a d o) (fQ c x a d o) (fN c x d o) (N+1800) (M+10) W':=by
 by_cases q:o.kind<1∨10<o.kind
 ·exact aEb h hN hM ho q
 ·have:o.kind=1∨o.kind=2∨o.kind=3∨o.kind=4∨o.kind=5∨o.kind=6∨o.kind=7∨o.kind=8∨o.kind=9∨o.kind=10:=by omega
  rcases this with q|q|q|q|q|q|q|q|q|q
  ·exact aDv h hN hM ho q
  ·exact aEh h hN hM ho q
  ·exact aBn h hN hM ho q
  ·exact aF2 h hN hM ho q
  ·exact aF4 h hN hM ho q
  ·exact aF6 h hN hM ho q
  ·exact aEg h hN hM ho q
  ·exact aFP h hN hM ho q
  ·exact aCr h hN hM ho q
  ·exact aBX h hN hM ho q
end
end Go.Proofs.YtbbdgokdfhdpiaaGreatDoor
