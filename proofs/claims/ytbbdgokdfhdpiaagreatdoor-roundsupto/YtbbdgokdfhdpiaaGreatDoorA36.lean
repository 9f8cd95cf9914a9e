/- A part. -/
import Derived.Test.YtbbdgokdfhdpiaaGreatDoorA22
import Derived.Test.YtbbdgokdfhdpiaaGreatDoorA24
import Derived.Test.YtbbdgokdfhdpiaaGreatDoorA33
namespace Go.Proofs.YtbbdgokdfhdpiaaGreatDoor
set_option linter.all false
set_option maxRecDepth 100000
set_option maxHeartbeats 0
open Go.Proofs.Tryz Go.RowKit
theorem aDk(m:Mg)(r:Rw):(iR m r).lock=r.lock:=by
 unfold iR;split
 ·rfl
 ·split<;>rfl
theorem aE0(W:World)(own:Nat→Nat)(y:Nat)(x:Rm)(V:RmV)(N:Int)(q:Nat)(m:Mg)(d:Nat)(h:RmAt W own y x V)(hok:tS N x)(hN:N≤80000000000)(hq:q<x.net.length)(hm:x.net[q]=m)(hdd:m.dst=(d:Int))(hk:m.kind=2∨m.kind=4∨m.kind=5):
 Calls prog 115 #[.pointer (some ⟨y,0,none⟩),.int .i64 q] W fun r W'=>r= .returned (.int .i64 0)∧RmTo W own y V (dP {x with net:=x.net.eraseIdx q} d (fY x.cf (oB x d) m) (fI x.cf x.acs.length (oB x d) m)) W':=by
 have HKK:=cN hk;have hc4:=hok.c4;have hn5:=hok.n5;have htr:=hok.tr;have hnt:=hok.net;have hmo:=hok.msgs m (by rw[←hm];exact bF hq);obtain⟨pn,capn,hnv,_⟩:=nV h.net;have HTH:=cN (qC W y q pn x.net.length capn (by rw[←hnv];exact h.cell 9 _ rfl));rw[kQ q _ hq]at HTH;have HTK:=cN (xB W own y x V q h hq (by omega));rw[hm]at HTK;have HNE:=cN (cG x.net q);have hdl:d<x.cls.length:=by have:=hmo.toC (by omega);omega
 rw[oA hdl];obtain⟨c,hc⟩:=aLA (x.cls[d]);rw[hc];have HOK:=cN hok;clear hnv h hm hok;have kk:(m.kind==2)=true∨(m.kind==2)=false∧((m.kind==4)=true∨(m.kind==4)=false∧(m.kind==5)=true):=by
  rcases HKK.out with e|e|e<;>simp[e]
 clear HKK;rcases kk with kk0|⟨kk0,kk1|⟨kk1,kk2⟩⟩;all_goals
  go_enter func115,ntmps115;go_wp2_with (first|(go_at_call 152;refine HTH.out.mono ?_;rintro e W1 ⟨rfl,rfl⟩)|(go_at_call 153;refine HTK.out.mono ?_;rintro e W2 ⟨rfl,hto⟩;refine cQ ?_));obtain⟨own1,V1,h1,hA1,hC1,hch1,hf1⟩:=hto;have H1:=cN (aLq hA1 hC1 hch1 hf1);have HH1:=cN h1;clear h1 hA1 hC1 hch1 hf1;refine cN ?_;go_wp2_with (refine cV rfl 66 _ _ rfl (W2.heap.size) 0 66 _ _ (mgL m) rfl rfl (aA W2 _) (by kernel_rfl) (by simp[Value.oneCell']) (by simp) rfl ?_;intro W3 hc3 hs3 bn3;refine cQ ?_);have hn23:Chg NoS W2 W3:=((Chg.refl NoS W2).alloc _).fresh hc3 (aE _);have h3:=HH1.out.kept hn23 (fun _ _ h=>h);obtain⟨pc,capc,hcv,hcr⟩:=fK h3.rcv;obtain⟨g,rfl,hg⟩:=hcr d hdl;have y8:W3.cell? ⟨y,8,none⟩=some (.slice (some ⟨g,0,none⟩) x.cls.length capc):=by rw[←hcv];exact h3.cell 8 _ rfl
  obtain⟨B,hB⟩:=aLz (V1.bC d);have hg':W3.cell? ⟨g,d,none⟩=some (.pointer (some ⟨B,0,none⟩)):=by rw[hB];exact hg
  have b0:W3.cell? ⟨W2.heap.size,0,none⟩=some (.int .i64 m.kind):=cO bn3 0 _ rfl;have b2:W3.cell? ⟨W2.heap.size,2,none⟩=some (.int .i64 d):=by rw[←hdd];exact cO bn3 2 _ rfl
  have HLM:=cN (show∀j u,(mgL m)[j]?=some u→W3.cell? ((⟨W2.heap.size,0,none⟩:Addr).add j)=some u from cR bn3);have hcc:=HOK.out.cls d hdl;rw[hc]at hcc;have hne:=HNE.out;have HHE:=cN (aF6 W3.drew own1 y {x with net:=x.net.eraseIdx q} V1 d c N m h3.drew hdl hc hcc.1 hcc.2 (by omega) hn5 (by show(x.net.eraseIdx q).length≤_;omega) (by show x.tr.length≤_;omega) hmo.v hmo.e0 hmo.e1 HOK.out.f0 HOK.out.f1 HOK.out.d0 HOK.out.d1);rw[←hB]at HHE;have hdi:(d:Int)<(x.cls.length:Int):=by omega
  have HN:=cN hn23;clear hc3 hs3 bn3 hn23 h3 hcv hcr hg hB hcc hne hk hmo;refine cN ?_;go_wp2_with fail;refine eD [0,0,0,0,1,0,1,0,1,1] (by kernel_rfl) (fun _ _ _ _=>rfl) ?_;simp only[dC,dB];iterate 9 (apply sB rfl rfl;·(intro x h;(try cases h rfl);go_simp;with_reducible rfl))
  try simp only[pA]
  refine dA (v:=mgV m) rfl (fun zz hx=>cU 66 _ rfl ⟨W2.heap.size,0,none⟩ rfl (mgL m) _ (by subst hx;exact HLM.out) underlying66 rfl (by kernel_rfl)) ?_;refine cP ?_;(try simp only[pA]);go_wp2_with (go_at_call 154;refine HHE.out.mono ?_;rintro e W4 ⟨rfl,hto⟩);go_ret;exact⟨rfl,RmTo.trans H1.out.1 H1.out.2.1 H1.out.2.2.1 H1.out.2.2.2 (RmTo.behind (S:=NoS) HN.out (fun _ _ h=>h.elim) hto.drew)⟩
theorem aBw(a:Ra)(i:Int):dJ (jQ a i)=[]:=by
 unfold jQ;split
 ·rfl
 ·rfl
theorem zL(X:Mg)(a:Ra)(i:Int):dJ (sentEv X::jQ a i)=[X]:=by
 have:dJ (sentEv X::jQ a i)=X::dJ (jQ a i):=rfl;rw[this,aBw]
theorem aCp{room:Int}{a:Ra}{r:Rw}(h:(dR room a r).2=true)(hr:room≤2000):(dR room a r).1.log.length≤1000000000:=by
 unfold dR at h⊢;dsimp only at h⊢;split at h
 ·cases h
 ·rename_i d;rw[if_neg d];split at h
  ·cases h
  ·rename_i b;rw[if_neg b];split at h
   ·cases h
   ·rename_i c;rw[if_neg c];show(a.log++dW r).length≤_;rw[aD];omega
theorem aCm{a:Ra}(h0: -1≤a.left)(h1:a.left≤9223372036854775807): -1≤(stepR a).left∧(stepR a).left≤9223372036854775807:=by
 unfold stepR;split
 ·show -1≤a.left-1∧a.left-1≤_;omega
 ·exact⟨h0,h1⟩
section
variable {room:Int} {a:Ra} {r:Rw}
theorem aE5(h0: -1≤a.left)(h1:a.left≤9223372036854775807): -1≤(dR room a r).1.left∧(dR room a r).1.left≤9223372036854775807:=by
 have b:=aCm h0 h1;unfold dR;dsimp only;split
 ·show(-1:Int)≤ -1∧(-1:Int)≤_
  decide
 ·split
  ·exact b
  ·split
   ·show(-1:Int)≤ -1∧(-1:Int)≤_
    decide
   ·exact aCm b.1 b.2
theorem aEI(h:∀x ∈ a.log,0≤x∧x<256):∀x ∈ (dR room a r).1.log,0≤x∧x<256:=by
 have c:(stepR a).log=a.log:=by unfold stepR;split<;>rfl
 unfold dR;dsimp only;split
 ·exact h
 ·split
  ·show∀x ∈ (stepR a).log,_;rw[c];exact h
  ·split
   ·intro x b;rcases aO.1 (show x ∈ a.log++_ from b)with b|b
    ·exact h x b
    ·exact pC r x (List.mem_of_mem_take b)
   ·intro x b;rcases aO.1 (show x ∈ a.log++dW r from b)with b|b
    ·exact h x b
    ·exact pC r x b
end
theorem aDi(W:World)(own:Nat→Nat)(y:Nat)(x:Rm)(V:RmV)(N:Int)(q:Nat)(m:Mg)(d:Nat)(h:RmAt W own y x V)(hok:tS N x)(hN:N≤80000000000)(hq:q<x.net.length)(hm:x.net[q]=m)(hdd:m.dst=(d:Int))(hk:m.kind=1∨m.kind=3)(a:Ra)(ha:x.acs[d]?=some a)(hroom:x.cf.room≤2000):
 Calls prog 115 #[.pointer (some ⟨y,0,none⟩),.int .i64 q] W fun r W'=>r= .returned (.int .i64 (mX x.cf a m))∧RmTo W own y V (gF {x with net:=x.net.eraseIdx q} d (gQ x.cf a m) (mP x.cf a m)) W':=by
 have hc4:=hok.c4;have hn5:=hok.n5;have htr:=hok.tr;have hnt:=hok.net;have hmo:=hok.msgs m (by rw[←hm];exact bF hq);obtain⟨pn,capn,hnv,_⟩:=nV h.net;have HTH:=cN (qC W y q pn x.net.length capn (by rw[←hnv];exact h.cell 9 _ rfl));rw[kQ q _ hq]at HTH;have HTK:=cN (xB W own y x V q h hq (by omega));rw[hm]at HTK;have HNE:=cN (cG x.net q);have kk0:(m.kind==2)=false:=by simp;omega
 have kk1:(m.kind==4)=false:=by simp;omega
 have kk2:(m.kind==5)=false:=by simp;omega
 have hdl:d<x.acs.length:=by have:=hmo.toA hk;omega
 have ha':x.acs[d]=a:=by have:=aP hdl;rw[this]at ha;exact aN ha
 have hao:=hok.acs d hdl;rw[ha']at hao;obtain⟨ro,X,hans⟩:∃ro X,kD a m=(ro,X):=⟨_,_,rfl⟩;have hrl:∀r,ro=some r→0≤r.lock:=by
  intro r hr;subst hr;unfold kD at hans;dsimp only at hans;have h2:=(Prod.mk.inj hans).1;split at h2
  ·cases h2;rw[aDk,aCt a m.lock hmo.l0];exact hmo.l0
  ·cases h2
 have HRL:=cN hrl;have HAS:=cN hans;have hus:a.up=false∨a.up=true∧(a.silent=true∨a.silent=false):=by cases a.up<;>cases a.silent<;>simp
 have hsi:=True.intro;have HOK:=cN hok;clear hnv h hm hok hrl;rcases hus with hup|⟨hup,hsi|hsi⟩;all_goals
  go_enter func115,ntmps115;go_wp2_with (first|(go_at_call 152;refine HTH.out.mono ?_;rintro e W1 ⟨rfl,rfl⟩)|(go_at_call 153;refine HTK.out.mono ?_;rintro e W2 ⟨rfl,hto⟩;refine cQ ?_));obtain⟨own1,V1,h1,hA1,hC1,hch1,hf1⟩:=hto;have H1:=cN (aLq hA1 hC1 hch1 hf1);have HH1:=cN h1;clear h1 hA1 hC1 hch1 hf1;refine cN ?_;go_wp2_with (refine cV rfl 66 _ _ rfl (W2.heap.size) 0 66 _ _ (mgL m) rfl rfl (aA W2 _) (by kernel_rfl) (by simp[Value.oneCell']) (by simp) rfl ?_;intro W3 hc3 hs3 bn3;refine cQ ?_);have hn23:Chg NoS W2 W3:=((Chg.refl NoS W2).alloc _).fresh hc3 (aE _);have h3:=HH1.out.kept hn23 (fun _ _ h=>h);obtain⟨pc,capc,hcv,hcr⟩:=fK h3.rav;obtain⟨g,rfl,hg⟩:=hcr d hdl;have y7:W3.cell? ⟨y,7,none⟩=some (.slice (some ⟨g,0,none⟩) x.acs.length capc):=by rw[←hcv];exact h3.cell 7 _ rfl
  obtain⟨B,hB⟩:=aLz (V1.bA d);have hg':W3.cell? ⟨g,d,none⟩=some (.pointer (some ⟨B,0,none⟩)):=by rw[hB];exact hg
  have b0:W3.cell? ⟨W2.heap.size,0,none⟩=some (.int .i64 m.kind):=cO bn3 0 _ rfl;have b2:W3.cell? ⟨W2.heap.size,2,none⟩=some (.int .i64 d):=by rw[←hdd];exact cO bn3 2 _ rfl
  have hdi:(d:Int)<(x.acs.length:Int):=by omega
  have hra:RaAt W3 B x.cf a:=by have:=h3.acs d hdl;rw[ha']at this;rw[hB];exact this
  have hBo:own1 B≠0:=by rw[hB];have:=h3.aco d hdl;omega
  have hm0:own1 W2.heap.size=0:=by
   have:=HH1.out.lt W2.heap.size;exact aH fun e=>cB _ (this e)
  obtain⟨W3d,hW3d⟩:=aLA (W3.drew);have hn23d:Chg NoS W2 W3d:=by rw[←hW3d];exact hn23.drew
  have bn3d:W3d.heap[W2.heap.size]?=some (.cells (mgL m).toArray 66 (0,0)):=by rw[←hW3d];exact bn3
  have hra3:RaAt W3d B x.cf a:=by rw[←hW3d];exact hra
  have h3d:RmAt W3d own1 y {x with net:=x.net.eraseIdx q} V1:=by rw[←hW3d];exact h3.drew
  have HX3d:=cN hW3d;have u8:W3d.cell? ⟨B,8,none⟩=some (.bool a.up):=cO hra3 8 _ rfl;have u9:W3d.cell? ⟨B,9,none⟩=some (.bool a.silent):=cO hra3 9 _ rfl;have bb2:W3d.cell? ⟨W2.heap.size,2,none⟩=some (.int .i64 d):=by rw[←hdd];exact cO bn3d 2 _ rfl
  rw[hup]at u8;try rw[hsi]at u9
  have HLM:=cN (show∀j u,(mgL m)[j]?=some u→W3d.cell? ((⟨W2.heap.size,0,none⟩:Addr).add j)=some u from cR bn3d);have HAN:=cN (aDw W3d B x.cf a m hra3 hao.len hao.by_ hmo.l0 hmo.l3 hk);rw[hans]at HAN;have hE3:Hid (RmAt W3d own1 y {x with net:=x.net.eraseIdx q} V1∧Chg NoS W2 W3d∧W3d.heap[W2.heap.size]?=some (.cells (mgL m).toArray 66 (0,0))∧RaAt W3d B x.cf a):=cN ⟨h3d,hn23d,bn3d,hra3⟩;clear hc3 hs3 bn3 hn23 h3 hcv hcr hg hra hW3d hn23d bn3d hra3 h3d hans;have HTO:=cN (RmTo.behind (S:=NoS) hE3.out.2.1 (fun _ _ h=>h.elim) (RmTo.of hE3.out.1));have HBB:=cN hB;clear hB;have hkc:=hk;clear hk;have HKC:=cN hkc;clear hkc;refine cN ?_;go_wp2_with fail;refine eD [0,0,0,1,0,1,0,1,0] (by kernel_rfl) (fun _ _ _ _=>rfl) ?_;simp only[dC,dB];iterate 9 (apply sB rfl rfl;·(intro x h;(try cases h rfl);go_simp;with_reducible rfl))
  refine cP ?_;try simp only[pA]
 all_goals first
  |have HUS:Hid (a.up=true∧a.silent=false):=cN ⟨hup,hsi⟩
   have HND:Hid (¬(a.up=false∨a.silent=true)):=cN (by rw[HUS.out.1,HUS.out.2];simp);clear HTO;go_wp2_with (first|rw[HX3d.out]|(refine cW rfl 66 _ rfl ⟨W2.heap.size,0,none⟩ rfl (mgL m) _ HLM.out underlying66 rfl (by kernel_rfl) ?_)|(go_at_call 155;refine HAN.out.mono ?_;rintro e W4 ⟨rfl,hb4⟩;refine cQ ?_));clear y7 hg' b0 b2;refine cN ?_;go_wp2_with (refine cV rfl 58 _ _ rfl (W4.heap.size) 0 58 _ _ (rwL (sG ro)) rfl rfl (Eq.trans (by first|exact heap_alloc_old _ _ (by simp)|exact heap_alloc_old _ _ _ (by simp)) (aA W4 _)) (by kernel_rfl) (by simp[Value.oneCell']) (by simp) rfl ?_;intro W5 hc5 hs5 bn5;refine cQ ?_);have b5x:W5.heap[W4.heap.size+1]?=some (.cells (mgL zMg).toArray 66 (0,0)):=by
    have:=hc5.kept (aA (W4.alloc (.cells (rwL zRw).toArray 58)) (.cells (mgL zMg).toArray 66)) (by simp);simpa using this
   have hn35:Chg NoS W3d W5:=(((Chg.below' hb4).alloc _).alloc _).fresh hc5 hb4.size;have hs5':W4.heap.size+2≤W5.heap.size:=by have:=hc5.size;simp at this;omega
   refine cN ?_;go_wp2_with (refine cV rfl 66 _ _ rfl (W4.heap.size+1) 0 66 _ _ (mgL X) rfl rfl b5x (by kernel_rfl) (by simp[Value.oneCell']) (by simp) rfl ?_;intro W6 hc6 hs6 bn6;refine cQ ?_);have b56:=hc6.kept bn5 (by omega);have hn36:Chg NoS W3d W6:=hn35.fresh hc6 (by have:=hb4.size;omega);have bm6:=hn36.kept hE3.out.2.2.1 (fun h=>h);have hra6:RaAt W6 B x.cf a:=hn36.kept hE3.out.2.2.2 (fun h=>h);have h6:=hE3.out.1.kept hn36 (fun _ _ h=>h);have hc26:Chg NoS W2 W6:=hE3.out.2.1.trans hn36 (fun _ _ h=>h);have hs24:W2.heap.size<W4.heap.size:=aG (dG hE3.out.2.2.1) hb4.size;have hBl:B<W2.heap.size:=HH1.out.lt B hBo;have hown6:∀k,W2.heap.size≤k→own1 k=0:=fun k hk=>aH fun e=>by have:=HH1.out.lt k e;omega
   have r8:W6.cell? ⟨W4.heap.size,0,none⟩=some (.int .i64 (sG ro).lock):=cO b56 0 _ rfl;cases ro with
   |none=>
    have hS:gQ x.cf a m=a:=by unfold gQ;rw[if_neg HND.out,HAS.out];skip
    have HES:=cN (show mX x.cf a m=pI (a)∧gQ x.cf a m=a∧mP x.cf a m=sentEv X::jQ a (d:Int)from⟨by unfold mX;rw[if_neg HND.out,hS],hS,by unfold mP;rw[if_neg HND.out,hS,HAS.out,hdd];skip⟩);clear hb4 hc5 hs5 bn5 b5x hn35 hs5' hc6 hs6 hn36 hE3 HAN HLM u8 u9 bb2;have HSZ:=cN (aLr h6 hra6 bm6 bn6 hc26);have hW6:=h6;have bxW6:=bn6;have HLX:=cN (show∀j u,(mgL X)[j]?=some u→W6.cell? ((⟨W4.heap.size+1,0,none⟩:Addr).add j)=some u from cR bxW6);have hne:=HNE.out;have HSE:=cN (sY W6 own1 y {x with net:=x.net.eraseIdx q} V1 X hW6 (by show(x.net.eraseIdx q).length≤_;omega) (by show x.tr.length≤_;omega));clear h6 hra6 bm6 bn6 hc26 hW6 bxW6 b56 hne;refine cN ?_;go_wp2_with (first|(refine cW rfl 66 _ rfl ⟨W4.heap.size+1,0,none⟩ rfl (mgL X) _ HLX.out underlying66 rfl (by kernel_rfl) ?_)|(go_at_call 158;refine HSE.out.mono ?_;rintro e W7 ⟨rfl,hto⟩;refine cQ ?_));obtain⟨own2,V2,h7,hA7,hC7,hch7,hf7⟩:=hto;have hra7:RaAt W7 B x.cf a:=by have:=h7.acs d hdl;rw[hA7,←HBB.out]at this;rw[←ha'];exact this
    have hm7:W7.cell? ⟨W2.heap.size,2,none⟩=some (.int .i64 d):=by rw[←hdd];exact cO (hch7.kept HSZ.out.2.2.1 (fun e=>e hm0)) 2 _ rfl
    have HMA:=cN (aCj W7 B x.cf a hra7 hao.len);have hlen2:(x.tr++[sentEv X]).length≤100000000000:=by rw[aD,aK];omega
    have HFA:=cN (mG W7.drew own2 y (jA {x with net:=x.net.eraseIdx q} X) V2 d a h7.drew hdl ha' hn5 hlen2);have H7:=cN (aLq hA7 hC7 hch7 hf7);clear h7 hA7 hC7 hch7 hf7 hra7 r8;refine cN ?_;go_wp2_with (first|(go_at_call 159;refine HMA.out.mono ?_;rintro e W8 ⟨rfl,rfl⟩)|(go_at_call 157;refine HFA.out.mono ?_;rintro e W9 ⟨rfl,hto⟩));go_ret;rw[HES.out.1,HES.out.2.1,HES.out.2.2];refine⟨rfl,RmTo.trans H1.out.1 H1.out.2.1 H1.out.2.2.1 H1.out.2.2.2 (RmTo.behind (S:=NoS) HSZ.out.2.2.2.2 (fun _ _ h=>h.elim) (RmTo.trans H7.out.1 H7.out.2.1 H7.out.2.2.1 H7.out.2.2.2 ?_))⟩;have e9:gF {x with net:=x.net.eraseIdx q} d a (sentEv X::jQ a (d:Int))={jA {x with net:=x.net.eraseIdx q} X with tr:=(jA {x with net:=x.net.eraseIdx q} X).tr++jQ a (d:Int)}:=by
     unfold gF;rw[zL,←ha',bH];unfold jA;simp
    rw[e9];exact hto.drew
   |some r=>
    change W6.cell? ⟨W4.heap.size,0,none⟩=some (.int .i64 r.lock)at r8;have hrl:=HRL.out r rfl;clear hb4 hc5 hs5 bn5 b5x hn35 hs5' hc6 hs6 hn36 hE3 HAN HLM u8 u9 bb2;have HLR:=cN (show∀j u,(rwL r)[j]?=some u→W6.cell? ((⟨W4.heap.size,0,none⟩:Addr).add j)=some u from cR b56);have HST:=cN (aFK W6 B x.cf a r hra6 hao.len hao.l0 hao.l1 hao.k0);obtain⟨sb,hsb⟩:=aLA ((dR x.cf.room a r).2);rw[hsb]at HST;have HSB:=cN hsb;obtain⟨a1,ha1⟩:=aLA ((dR x.cf.room a r).1);rw[ha1]at HST;have HA1:=cN ha1;have hBd:V1.bA d=B:=HBB.out.symm;have HSZ:=cN (aLq h6 bm6 bn6 hc26);have hl9:decide (0≤r.lock)=true:=by simp[hrl]
    clear h6 hra6 bm6 bn6 hc26 b56 ha1 hsb;refine cN ?_;go_wp2_with (first|(refine cW rfl 58 _ rfl ⟨W4.heap.size,0,none⟩ rfl (rwL r) _ HLR.out underlying58 rfl (by kernel_rfl) ?_)|(go_at_call 156;refine HST.out.mono ?_;rintro e W7 ⟨rfl,hto⟩;refine cQ ?_));have hW7:RmAt W7 own1 y {x with net:=x.net.eraseIdx q,acs:=x.acs.set d a1} V1:=HSZ.out.1.acceptor hdl a1 (by rw[hBd];exact hto.2) (by rw[hBd];exact hto.1);have hra7:RaAt W7 B x.cf a1:=hto.1;have hc67:=hto.2;have bm7:=hc67.kept HSZ.out.2.1 (by omega);have bxW7:=hc67.kept HSZ.out.2.2.1 (by omega);have hm7:W7.cell? ⟨W2.heap.size,2,none⟩=some (.int .i64 d):=by rw[←hdd];exact cO bm7 2 _ rfl
    have hc27:Chg (fun k=>own1 k≠0) W2 W7:=(HSZ.out.2.2.2.mono (T:=fun k=>own1 k≠0) (fun _ _ h=>h.elim)).trans hc67 (fun k _ e=>by subst e;exact hBo);have hd1:d<({x with net:=x.net.eraseIdx q,acs:=x.acs.set d a1}:Rm).acs.length:=by simpa using hdl
    have hg1:({x with net:=x.net.eraseIdx q,acs:=x.acs.set d a1}:Rm).acs[d]'hd1=a1:=by simp
    have hn51:({x with net:=x.net.eraseIdx q,acs:=x.acs.set d a1}:Rm).acs.length≤5:=by simpa using hn5
    clear hto r8 HLR hc67;cases sb
    ·have hS:gQ x.cf a m=(dR x.cf.room a r).1:=by unfold gQ;rw[if_neg HND.out,HAS.out];dsimp only;rw[HSB.out];simp only[Bool.true_eq_false,if_false,if_true,aU]
     have HES:=cN (show mX x.cf a m=pI ((dR x.cf.room a r).1)∧gQ x.cf a m=(dR x.cf.room a r).1∧mP x.cf a m=jQ (dR x.cf.room a r).1 (d:Int)from⟨by unfold mX;rw[if_neg HND.out,hS],hS,by unfold mP;rw[if_neg HND.out,hS,HAS.out,hdd];dsimp only;rw[HSB.out];simp⟩);have HFA:=cN (mG W7 own1 y {x with net:=x.net.eraseIdx q,acs:=x.acs.set d a1} V1 d a1 hW7 hd1 hg1 hn51 (by show x.tr.length≤_;omega));have HCC:=cN hc27;clear hW7 hra7 bm7 bxW7 hc27 hd1 hg1 hn51;refine cN ?_;go_wp2_with (go_at_call 157;refine HFA.out.mono ?_;rintro e W9 ⟨rfl,hto⟩);go_ret;rw[HES.out.1,HES.out.2.1,HES.out.2.2,HA1.out];refine⟨rfl,RmTo.trans H1.out.1 H1.out.2.1 H1.out.2.2.1 H1.out.2.2.2 (RmTo.trans (own1:=own1) (V1:=V1) rfl rfl HCC.out (fun _ h=>Or.inl h) ?_)⟩;have e9:gF {x with net:=x.net.eraseIdx q} d a1 (jQ a1 (d:Int))={x with net:=x.net.eraseIdx q,acs:=x.acs.set d a1,tr:=x.tr++jQ a1 (d:Int)}:=by
      unfold gF;rw[aBw];simp
     rw[e9];exact hto
    ·have HLX:=cN (show∀j u,(mgL X)[j]?=some u→W7.cell? ((⟨W4.heap.size+1,0,none⟩:Addr).add j)=some u from cR bxW7);have hne:=HNE.out;have HSE:=cN (sY W7 own1 y {x with net:=x.net.eraseIdx q,acs:=x.acs.set d a1} V1 X hW7 (by show(x.net.eraseIdx q).length≤_;omega) (by show x.tr.length≤_;omega));have HCC:=cN hc27;have HM7:=cN bm7;have HD1:=cN (aLo hd1 hn51);clear hW7 hra7 bm7 bxW7 hc27 hd1 hn51 hne hm7 hg1;refine cN ?_;go_wp2_with (first|(refine cW rfl 66 _ rfl ⟨W4.heap.size+1,0,none⟩ rfl (mgL X) _ HLX.out underlying66 rfl (by kernel_rfl) ?_)|(go_at_call 158;refine HSE.out.mono ?_;rintro e W8 ⟨rfl,hto⟩;refine cQ ?_));obtain⟨own2,V2,h8,hA8,hC8,hch8,hf8⟩:=hto;have hd1:=HD1.out.1;have hg1:(jA {x with net:=x.net.eraseIdx q,acs:=x.acs.set d a1} X).acs[d]'hd1=a1:=by simp[jA]
     have hra8:RaAt W8 B x.cf a1:=by have:=h8.acs d hd1;rw[hA8,←HBB.out,hg1]at this;exact this
     have bm8:=hch8.kept HM7.out (fun e=>e hm0);have hm8:W8.cell? ⟨W2.heap.size,2,none⟩=some (.int .i64 d):=by rw[←hdd];exact cO bm8 2 _ rfl
     have HMA:=cN (aCj W8 B x.cf a1 hra8 (by rw[←HA1.out];exact aCp HSB.out hroom));obtain⟨my,hmy⟩:=aLA (aAR x.cf.compact (dR x.cf.room a r).1);have HMY:=cN hmy;rw[←HA1.out,hmy]at HMA;have hlen2:(x.tr++[sentEv X]).length≤100000000000:=by rw[aD,aK];omega
     have H8:=cN (aLq hA8 hC8 hch8 hf8);clear hmy;cases my
     ·have hS:gQ x.cf a m=(dR x.cf.room a r).1:=by unfold gQ;rw[if_neg HND.out,HAS.out];dsimp only;rw[HSB.out];simp only[Bool.true_eq_false,if_false,if_true,aU];rw[HMY.out];simp only[aU,if_false,if_true]
      have HES:=cN (show mX x.cf a m=pI ((dR x.cf.room a r).1)∧gQ x.cf a m=(dR x.cf.room a r).1∧mP x.cf a m=sentEv X::jQ (dR x.cf.room a r).1 (d:Int)from⟨by unfold mX;rw[if_neg HND.out,hS],hS,by unfold mP;rw[if_neg HND.out,hS,HAS.out,hdd];dsimp only;rw[HSB.out];simp⟩);have HFA:=cN (mG W8.drew own2 y (jA {x with net:=x.net.eraseIdx q,acs:=x.acs.set d a1} X) V2 d a1 h8.drew hd1 hg1 HD1.out.2 hlen2);clear h8 hA8 hC8 hch8 hf8 hra8 bm8 hd1 hg1 hlen2;refine cN ?_;go_wp2_with (first|(go_at_call 159;refine HMA.out.mono ?_;rintro e W9 ⟨rfl,rfl⟩)|(go_at_call 157;refine HFA.out.mono ?_;rintro e W10 ⟨rfl,hto⟩));go_ret;rw[HES.out.1,HES.out.2.1,HES.out.2.2,HA1.out];refine⟨rfl,RmTo.trans H1.out.1 H1.out.2.1 H1.out.2.2.1 H1.out.2.2.2 (RmTo.trans (own1:=own1) (V1:=V1) rfl rfl HCC.out (fun _ h=>Or.inl h) (RmTo.trans H8.out.1 H8.out.2.1 H8.out.2.2.1 H8.out.2.2.2 ?_))⟩;have e9:gF {x with net:=x.net.eraseIdx q} d a1 (sentEv X::jQ a1 (d:Int))={jA {x with net:=x.net.eraseIdx q,acs:=x.acs.set d a1} X with tr:=(jA {x with net:=x.net.eraseIdx q,acs:=x.acs.set d a1} X).tr++jQ a1 (d:Int)}:=by
       unfold gF;rw[zL];unfold jA;simp
      rw[e9];exact hto.drew
     ·have hS:gQ x.cf a m=gY x.cf.room (dR x.cf.room a r).1:=by unfold gQ;rw[if_neg HND.out,HAS.out];dsimp only;rw[HSB.out];simp only[Bool.true_eq_false,if_false,if_true,aU];rw[HMY.out];simp only[aU,if_false,if_true]
      have HES:=cN (show mX x.cf a m=pI (gY x.cf.room (dR x.cf.room a r).1)∧gQ x.cf a m=gY x.cf.room (dR x.cf.room a r).1∧mP x.cf a m=sentEv X::jQ (gY x.cf.room (dR x.cf.room a r).1) (d:Int)from⟨by unfold mX;rw[if_neg HND.out,hS],hS,by unfold mP;rw[if_neg HND.out,hS,HAS.out,hdd];dsimp only;rw[HSB.out];simp⟩);obtain⟨a2,ha2⟩:=aLA (gY x.cf.room a1);have HA2:=cN ha2;have hlb:=aE5 (room:=x.cf.room) (r:=r) hao.l0 hao.l1;rw[HA1.out]at hlb;have HCO:=cN (yG W8.drew B x.cf a1 hra8 (by rw[←HA1.out];exact aCp HSB.out hroom) (by rw[←HA1.out];exact aEI hao.by_) hlb.1 hlb.2);rw[ha2]at HCO;have HH8:=cN h8;clear h8 hA8 hC8 hch8 hf8 hra8 ha2 hlb;refine cN ?_;go_wp2_with (first|(go_at_call 159;refine HMA.out.mono ?_;rintro e W9 ⟨rfl,rfl⟩)|(go_at_call 160;refine HCO.out.mono ?_;rintro e W10 ⟨rfl,hto⟩;refine cQ ?_));have hB2:V2.bA d=B:=by rw[H8.out.1];exact HBB.out.symm
      have h10:RmAt W10 own2 y {jA {x with net:=x.net.eraseIdx q,acs:=x.acs.set d a1} X with acs:=(x.acs.set d a1).set d a2} V2:=(HH8.out.drew).acceptor hd1 a2 (by rw[hB2];exact hto.2) (by rw[hB2];exact hto.1);have hc810:Chg (fun k=>own2 k≠0) W8 W10:=(hto.2.mono (fun k _ e=>by subst e;rw[←hB2];have:=HH8.out.aco d hd1;omega)).of_drew;have hm10:W10.cell? ⟨W2.heap.size,2,none⟩=some (.int .i64 d):=by rw[←hdd];exact cO (hto.2.kept (show W8.drew.heap[W2.heap.size]?=_ from bm8) (by omega)) 2 _ rfl
      have hd2:d<({jA {x with net:=x.net.eraseIdx q,acs:=x.acs.set d a1} X with acs:=(x.acs.set d a1).set d a2}:Rm).acs.length:=by simpa using hdl
      have hg2:({jA {x with net:=x.net.eraseIdx q,acs:=x.acs.set d a1} X with acs:=(x.acs.set d a1).set d a2}:Rm).acs[d]'hd2=a2:=by simp
      have hn52:({jA {x with net:=x.net.eraseIdx q,acs:=x.acs.set d a1} X with acs:=(x.acs.set d a1).set d a2}:Rm).acs.length≤5:=by simpa using hn5
      have HFA:=cN (mG W10 own2 y {jA {x with net:=x.net.eraseIdx q,acs:=x.acs.set d a1} X with acs:=(x.acs.set d a1).set d a2} V2 d a2 h10 hd2 hg2 hn52 hlen2);have HC10:=cN hc810;clear h10 hto hc810 hd2 hg2 hn52 hlen2 bm8 hm8;refine cN ?_;go_wp2_with (go_at_call 157;refine HFA.out.mono ?_;rintro e W11 ⟨rfl,hto⟩);go_ret;rw[HES.out.1,HES.out.2.1,HES.out.2.2,HA1.out,HA2.out];refine⟨rfl,RmTo.trans H1.out.1 H1.out.2.1 H1.out.2.2.1 H1.out.2.2.2 (RmTo.trans (own1:=own1) (V1:=V1) rfl rfl HCC.out (fun _ h=>Or.inl h) (RmTo.trans H8.out.1 H8.out.2.1 H8.out.2.2.1 H8.out.2.2.2 (RmTo.trans (own1:=own2) (V1:=V2) rfl rfl HC10.out (fun _ h=>Or.inl h) ?_)))⟩;have e9:gF {x with net:=x.net.eraseIdx q} d a2 (sentEv X::jQ a2 (d:Int))={jA {x with net:=x.net.eraseIdx q,acs:=x.acs.set d a1} X with acs:=(x.acs.set d a1).set d a2,tr:=(jA {x with net:=x.net.eraseIdx q,acs:=x.acs.set d a1} X).tr++jQ a2 (d:Int)}:=by
       unfold gF;rw[zL];unfold jA;simp
      rw[e9];exact hto
  |have HES:=cN (show mX x.cf a m=0∧gQ x.cf a m=a∧mP x.cf a m=[]from by have hh:a.up=false∨a.silent=true:=(by first|exact Or.inl hup|exact Or.inr hsi);exact⟨if_pos hh,if_pos hh,if_pos hh⟩)
   go_wp2_with (first|rw[HX3d.out]);go_ret;rw[HES.out.1,HES.out.2.1,HES.out.2.2];refine⟨rfl,?_⟩;have e9:gF {x with net:=x.net.eraseIdx q} d a []={x with net:=x.net.eraseIdx q}:=by
    rw[sF];have:x.acs.set d a=x.acs:=by rw[←ha'];exact bH _
    rw[this]
   rw[e9];exact RmTo.trans H1.out.1 H1.out.2.1 H1.out.2.2.1 H1.out.2.2.2 HTO.out
end Go.Proofs.YtbbdgokdfhdpiaaGreatDoor
