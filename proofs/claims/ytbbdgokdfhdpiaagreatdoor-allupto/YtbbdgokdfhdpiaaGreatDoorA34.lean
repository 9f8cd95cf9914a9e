/- A part of the proof: RfDel, RfBg. -/
import Derived.Test.YtbbdgokdfhdpiaaGreatDoorA23
import Derived.Test.YtbbdgokdfhdpiaaGreatDoorA33
namespace Go.Proofs.YtbbdgokdfhdpiaaGreatDoor
set_option linter.all false
set_option maxRecDepth 100000
set_option maxHeartbeats 40000000
open Go.Proofs.Tryz Go.RowKit
theorem aCO(m:Mg)(r:Rw):(iT m r).lock=r.lock:=by
 unfold iT;split
 ·rfl
 ·split<;>rfl
theorem aEj(W:World)(own:Nat→Nat)(y:Nat)(x:Rm)(V:RmV)(N:Int)(q:Nat)(m:Mg)(d:Nat)(h:RmAt W own y x V)(hok:tU N x)(hN:N≤80000000000)(hq:q<x.net.length)(hm:x.net[q]=m)(hdd:m.dst=(d:Int))(hk:m.kind=2∨m.kind=4∨m.kind=5):
 Calls prog 115 #[.pointer (some ⟨y,0,none⟩),.int .i64 q] W fun r W'=>r= .returned (.int .i64 0)∧RmTo W own y V (dP {x with net:=x.net.eraseIdx q} d (fZ x.cf (nZ x d) m) (fL x.cf x.acs.length (nZ x d) m)) W':=by
 have HKK:=cN hk;have hc4:=hok.c4;have hn5:=hok.n5;have htr:=hok.tr;have hnt:=hok.net;have hmo:=hok.msgs m (by rw[←hm];exact bF hq);obtain⟨pn,capn,hnv,_⟩:=nU h.net;have HTH:=cN (pZ W y q pn x.net.length capn (by rw[←hnv];exact h.cell 9 _ rfl));rw[kS q _ hq]at HTH;have HTK:=cN (wM W own y x V q h hq (by omega));rw[hm]at HTK;have HNE:=cN (cG x.net q);have hdl:d<x.cls.length:=by have:=hmo.toC (by omega);omega
 rw[oG hdl];obtain⟨c,hc⟩:=aLx (x.cls[d]);rw[hc];have HOK:=cN hok;clear hnv h hm hok;have kk:(m.kind==2)=true∨(m.kind==2)=false∧((m.kind==4)=true∨(m.kind==4)=false∧(m.kind==5)=true):=by
  rcases HKK.out with e|e|e<;>simp[e]
 clear HKK;rcases kk with kk0|⟨kk0,kk1|⟨kk1,kk2⟩⟩;all_goals
  go_enter func115,ntmps115;go_wp2_with (first|(go_at_call 152;refine HTH.out.mono ?_;rintro e W1 ⟨rfl,rfl⟩)|(go_at_call 153;refine HTK.out.mono ?_;rintro e W2 ⟨rfl,hto⟩;refine cQ ?_));obtain⟨own1,V1,h1,hA1,hC1,hch1,hf1⟩:=hto;have H1:=cN (aLn hA1 hC1 hch1 hf1);have HH1:=cN h1;clear h1 hA1 hC1 hch1 hf1;refine cN ?_;go_wp2_with (refine cV rfl 66 _ _ rfl (W2.heap.size) 0 66 _ _ (mgL m) rfl rfl (aA W2 _) (by kernel_rfl) (by simp[Value.oneCell']) (by simp) rfl ?_;intro W3 hc3 hs3 bn3;refine cQ ?_);have hn23:Chg NoS W2 W3:=((Chg.refl NoS W2).alloc _).fresh hc3 (aE _);have h3:=HH1.out.kept hn23 (fun _ _ h=>h);obtain⟨pc,capc,hcv,hcr⟩:=fK h3.rcv;obtain⟨g,rfl,hg⟩:=hcr d hdl;have y8:W3.cell? ⟨y,8,none⟩=some (.slice (some ⟨g,0,none⟩) x.cls.length capc):=by rw[←hcv];exact h3.cell 8 _ rfl
  obtain⟨B,hB⟩:=aLw (V1.bC d);have hg':W3.cell? ⟨g,d,none⟩=some (.pointer (some ⟨B,0,none⟩)):=by rw[hB];exact hg
  have b0:W3.cell? ⟨W2.heap.size,0,none⟩=some (.int .i64 m.kind):=cO bn3 0 _ rfl;have b2:W3.cell? ⟨W2.heap.size,2,none⟩=some (.int .i64 d):=by rw[←hdd];exact cO bn3 2 _ rfl
  have HLM:=cN (show∀j u,(mgL m)[j]?=some u→W3.cell? ((⟨W2.heap.size,0,none⟩:Addr).add j)=some u from cR bn3);have hcc:=HOK.out.cls d hdl;rw[hc]at hcc;have hne:=HNE.out;have HHE:=cN (aGj W3.drew own1 y {x with net:=x.net.eraseIdx q} V1 d c N m h3.drew hdl hc hcc.1 hcc.2 (by omega) hn5 (by show(x.net.eraseIdx q).length≤_;omega) (by show x.tr.length≤_;omega) hmo.v hmo.e0 hmo.e1 HOK.out.f0 HOK.out.f1 HOK.out.d0 HOK.out.d1);rw[←hB]at HHE;have hdi:(d:Int)<(x.cls.length:Int):=by omega
  have HN:=cN hn23;clear hc3 hs3 bn3 hn23 h3 hcv hcr hg hB hcc hne hk hmo;refine cN ?_;go_wp2_with fail;refine eD [0,0,0,0,1,0,1,0,1,1] (by kernel_rfl) (fun _ _ _ _=>rfl) ?_;simp only[dC,dB];iterate 9 (apply sB rfl rfl;·(intro x h;(try cases h rfl);go_simp;with_reducible rfl))
  try simp only[pA]
  refine dA (v:=mgV m) rfl (fun zz hx=>cU 66 _ rfl ⟨W2.heap.size,0,none⟩ rfl (mgL m) _ (by subst hx;exact HLM.out) underlying66 rfl (by kernel_rfl)) ?_;refine cP ?_;(try simp only[pA]);go_wp2_with (go_at_call 154;refine HHE.out.mono ?_;rintro e W4 ⟨rfl,hto⟩);go_ret;exact⟨rfl,RmTo.trans H1.out.1 H1.out.2.1 H1.out.2.2.1 H1.out.2.2.2 (RmTo.behind (S:=NoS) HN.out (fun _ _ h=>h.elim) hto.drew)⟩
theorem aBR(a:Ra)(i:Int):dJ (jS a i)=[]:=by
 unfold jS;split
 ·rfl
 ·rfl
theorem yV(X:Mg)(a:Ra)(i:Int):dJ (sentEv X::jS a i)=[X]:=by
 have:dJ (sentEv X::jS a i)=X::dJ (jS a i):=rfl;rw[this,aBR]
theorem aCC{room:Int}{a:Ra}{r:Rw}(h:(dR room a r).2=true)(hr:room≤2000):(dR room a r).1.log.length≤1000000000:=by
 unfold dR at h⊢;dsimp only at h⊢;split at h
 ·cases h
 ·rename_i d;rw[if_neg d];split at h
  ·cases h
  ·rename_i c;rw[if_neg c];split at h
   ·cases h
   ·rename_i b;rw[if_neg b];show(a.log++dW r).length≤_;rw[aD];omega
theorem aCl{a:Ra}(h0: -1≤a.left)(h1:a.left≤9223372036854775807): -1≤(stepR a).left∧(stepR a).left≤9223372036854775807:=by
 unfold stepR;split
 ·show -1≤a.left-1∧a.left-1≤_;omega
 ·exact⟨h0,h1⟩
section
variable {room:Int} {a:Ra} {r:Rw}
theorem aF2(h0: -1≤a.left)(h1:a.left≤9223372036854775807): -1≤(dR room a r).1.left∧(dR room a r).1.left≤9223372036854775807:=by
 have b:=aCl h0 h1;unfold dR;dsimp only;split
 ·show(-1:Int)≤ -1∧(-1:Int)≤_
  decide
 ·split
  ·exact b
  ·split
   ·show(-1:Int)≤ -1∧(-1:Int)≤_
    decide
   ·exact aCl b.1 b.2
theorem aEJ(h:∀x ∈ a.log,0≤x∧x<256):∀x ∈ (dR room a r).1.log,0≤x∧x<256:=by
 have c:(stepR a).log=a.log:=by unfold stepR;split<;>rfl
 unfold dR;dsimp only;split
 ·exact h
 ·split
  ·show∀x ∈ (stepR a).log,_;rw[c];exact h
  ·split
   ·intro x b;rcases aO.1 (show x ∈ a.log++_ from b)with b|b
    ·exact h x b
    ·exact pE r x (List.mem_of_mem_take b)
   ·intro x b;rcases aO.1 (show x ∈ a.log++dW r from b)with b|b
    ·exact h x b
    ·exact pE r x b
end
theorem aDk(W:World)(own:Nat→Nat)(y:Nat)(x:Rm)(V:RmV)(N:Int)(q:Nat)(m:Mg)(d:Nat)(h:RmAt W own y x V)(hok:tU N x)(hN:N≤80000000000)(hq:q<x.net.length)(hm:x.net[q]=m)(hdd:m.dst=(d:Int))(hk:m.kind=1∨m.kind=3)(a:Ra)(ha:x.acs[d]?=some a)(hroom:x.cf.room≤2000):
 Calls prog 115 #[.pointer (some ⟨y,0,none⟩),.int .i64 q] W fun r W'=>r= .returned (.int .i64 (mS x.cf a m))∧RmTo W own y V (gF {x with net:=x.net.eraseIdx q} d (gO x.cf a m) (nD x.cf a m)) W':=by
 have hc4:=hok.c4;have hn5:=hok.n5;have htr:=hok.tr;have hnt:=hok.net;have hmo:=hok.msgs m (by rw[←hm];exact bF hq);obtain⟨pn,capn,hnv,_⟩:=nU h.net;have HTH:=cN (pZ W y q pn x.net.length capn (by rw[←hnv];exact h.cell 9 _ rfl));rw[kS q _ hq]at HTH;have HTK:=cN (wM W own y x V q h hq (by omega));rw[hm]at HTK;have HNE:=cN (cG x.net q);have kk0:(m.kind==2)=false:=by simp;omega
 have kk1:(m.kind==4)=false:=by simp;omega
 have kk2:(m.kind==5)=false:=by simp;omega
 have hdl:d<x.acs.length:=by have:=hmo.toA hk;omega
 have ha':x.acs[d]=a:=by have:=aP hdl;rw[this]at ha;exact aN ha
 have hao:=hok.acs d hdl;rw[ha']at hao;obtain⟨ro,X,hans⟩:∃ro X,kF a m=(ro,X):=⟨_,_,rfl⟩;have hrl:∀r,ro=some r→0≤r.lock:=by
  intro r hr;subst hr;unfold kF at hans;dsimp only at hans;have h2:=(Prod.mk.inj hans).1;split at h2
  ·cases h2;rw[aCO,aCk a m.lock hmo.l0];exact hmo.l0
  ·cases h2
 have HRL:=cN hrl;have HAS:=cN hans;have hus:a.up=false∨a.up=true∧(a.silent=true∨a.silent=false):=by cases a.up<;>cases a.silent<;>simp
 have hsi:=True.intro;have HOK:=cN hok;clear hnv h hm hok hrl;rcases hus with hup|⟨hup,hsi|hsi⟩;all_goals
  go_enter func115,ntmps115;go_wp2_with (first|(go_at_call 152;refine HTH.out.mono ?_;rintro e W1 ⟨rfl,rfl⟩)|(go_at_call 153;refine HTK.out.mono ?_;rintro e W2 ⟨rfl,hto⟩;refine cQ ?_));obtain⟨own1,V1,h1,hA1,hC1,hch1,hf1⟩:=hto;have H1:=cN (aLn hA1 hC1 hch1 hf1);have HH1:=cN h1;clear h1 hA1 hC1 hch1 hf1;refine cN ?_;go_wp2_with (refine cV rfl 66 _ _ rfl (W2.heap.size) 0 66 _ _ (mgL m) rfl rfl (aA W2 _) (by kernel_rfl) (by simp[Value.oneCell']) (by simp) rfl ?_;intro W3 hc3 hs3 bn3;refine cQ ?_);have hn23:Chg NoS W2 W3:=((Chg.refl NoS W2).alloc _).fresh hc3 (aE _);have h3:=HH1.out.kept hn23 (fun _ _ h=>h);obtain⟨pc,capc,hcv,hcr⟩:=fK h3.rav;obtain⟨g,rfl,hg⟩:=hcr d hdl;have y7:W3.cell? ⟨y,7,none⟩=some (.slice (some ⟨g,0,none⟩) x.acs.length capc):=by rw[←hcv];exact h3.cell 7 _ rfl
  obtain⟨B,hB⟩:=aLw (V1.bA d);have hg':W3.cell? ⟨g,d,none⟩=some (.pointer (some ⟨B,0,none⟩)):=by rw[hB];exact hg
  have b0:W3.cell? ⟨W2.heap.size,0,none⟩=some (.int .i64 m.kind):=cO bn3 0 _ rfl;have b2:W3.cell? ⟨W2.heap.size,2,none⟩=some (.int .i64 d):=by rw[←hdd];exact cO bn3 2 _ rfl
  have hdi:(d:Int)<(x.acs.length:Int):=by omega
  have hra:RaAt W3 B x.cf a:=by have:=h3.acs d hdl;rw[ha']at this;rw[hB];exact this
  have hBo:own1 B≠0:=by rw[hB];have:=h3.aco d hdl;omega
  have hm0:own1 W2.heap.size=0:=by
   have:=HH1.out.lt W2.heap.size;exact aH fun e=>cB _ (this e)
  obtain⟨W3d,hW3d⟩:=aLx (W3.drew);have hn23d:Chg NoS W2 W3d:=by rw[←hW3d];exact hn23.drew
  have bn3d:W3d.heap[W2.heap.size]?=some (.cells (mgL m).toArray 66 (0,0)):=by rw[←hW3d];exact bn3
  have hra3:RaAt W3d B x.cf a:=by rw[←hW3d];exact hra
  have h3d:RmAt W3d own1 y {x with net:=x.net.eraseIdx q} V1:=by rw[←hW3d];exact h3.drew
  have HX3d:=cN hW3d;have u8:W3d.cell? ⟨B,8,none⟩=some (.bool a.up):=cO hra3 8 _ rfl;have u9:W3d.cell? ⟨B,9,none⟩=some (.bool a.silent):=cO hra3 9 _ rfl;have bb2:W3d.cell? ⟨W2.heap.size,2,none⟩=some (.int .i64 d):=by rw[←hdd];exact cO bn3d 2 _ rfl
  rw[hup]at u8;try rw[hsi]at u9
  have HLM:=cN (show∀j u,(mgL m)[j]?=some u→W3d.cell? ((⟨W2.heap.size,0,none⟩:Addr).add j)=some u from cR bn3d);have HAN:=cN (aDd W3d B x.cf a m hra3 hao.len hao.by_ hmo.l0 hmo.l3 hk);rw[hans]at HAN;have hE3:Hid (RmAt W3d own1 y {x with net:=x.net.eraseIdx q} V1∧Chg NoS W2 W3d∧W3d.heap[W2.heap.size]?=some (.cells (mgL m).toArray 66 (0,0))∧RaAt W3d B x.cf a):=cN ⟨h3d,hn23d,bn3d,hra3⟩;clear hc3 hs3 bn3 hn23 h3 hcv hcr hg hra hW3d hn23d bn3d hra3 h3d hans;have HTO:=cN (RmTo.behind (S:=NoS) hE3.out.2.1 (fun _ _ h=>h.elim) (RmTo.of hE3.out.1));have HBB:=cN hB;clear hB;have hkc:=hk;clear hk;have HKC:=cN hkc;clear hkc;refine cN ?_;go_wp2_with fail;refine eD [0,0,0,1,0,1,0,1,0] (by kernel_rfl) (fun _ _ _ _=>rfl) ?_;simp only[dC,dB];iterate 9 (apply sB rfl rfl;·(intro x h;(try cases h rfl);go_simp;with_reducible rfl))
  refine cP ?_;try simp only[pA]
 all_goals first
  |have HUS:Hid (a.up=true∧a.silent=false):=cN ⟨hup,hsi⟩
   have HND:Hid (¬(a.up=false∨a.silent=true)):=cN (by rw[HUS.out.1,HUS.out.2];simp);clear HTO;go_wp2_with (first|rw[HX3d.out]|(refine cW rfl 66 _ rfl ⟨W2.heap.size,0,none⟩ rfl (mgL m) _ HLM.out underlying66 rfl (by kernel_rfl) ?_)|(go_at_call 155;refine HAN.out.mono ?_;rintro e W4 ⟨rfl,hb4⟩;refine cQ ?_));clear y7 hg' b0 b2;refine cN ?_;go_wp2_with (refine cV rfl 58 _ _ rfl (W4.heap.size) 0 58 _ _ (rwL (sT ro)) rfl rfl (Eq.trans (by first|exact heap_alloc_old _ _ (by simp)|exact heap_alloc_old _ _ _ (by simp)) (aA W4 _)) (by kernel_rfl) (by simp[Value.oneCell']) (by simp) rfl ?_;intro W5 hc5 hs5 bn5;refine cQ ?_);have b5x:W5.heap[W4.heap.size+1]?=some (.cells (mgL zMg).toArray 66 (0,0)):=by
    have:=hc5.kept (aA (W4.alloc (.cells (rwL zRw).toArray 58)) (.cells (mgL zMg).toArray 66)) (by simp);simpa using this
   have hn35:Chg NoS W3d W5:=(((Chg.below' hb4).alloc _).alloc _).fresh hc5 hb4.size;have hs5':W4.heap.size+2≤W5.heap.size:=by have:=hc5.size;simp at this;omega
   refine cN ?_;go_wp2_with (refine cV rfl 66 _ _ rfl (W4.heap.size+1) 0 66 _ _ (mgL X) rfl rfl b5x (by kernel_rfl) (by simp[Value.oneCell']) (by simp) rfl ?_;intro W6 hc6 hs6 bn6;refine cQ ?_);have b56:=hc6.kept bn5 (by omega);have hn36:Chg NoS W3d W6:=hn35.fresh hc6 (by have:=hb4.size;omega);have bm6:=hn36.kept hE3.out.2.2.1 (fun h=>h);have hra6:RaAt W6 B x.cf a:=hn36.kept hE3.out.2.2.2 (fun h=>h);have h6:=hE3.out.1.kept hn36 (fun _ _ h=>h);have hc26:Chg NoS W2 W6:=hE3.out.2.1.trans hn36 (fun _ _ h=>h);have hs24:W2.heap.size<W4.heap.size:=aG (dG hE3.out.2.2.1) hb4.size;have hBl:B<W2.heap.size:=HH1.out.lt B hBo;have hown6:∀k,W2.heap.size≤k→own1 k=0:=fun k hk=>aH fun e=>by have:=HH1.out.lt k e;omega
   have r8:W6.cell? ⟨W4.heap.size,0,none⟩=some (.int .i64 (sT ro).lock):=cO b56 0 _ rfl;cases ro with
   |none=>
    have hS:gO x.cf a m=a:=by unfold gO;rw[if_neg HND.out,HAS.out];skip
    have HES:=cN (show mS x.cf a m=pM (a)∧gO x.cf a m=a∧nD x.cf a m=sentEv X::jS a (d:Int)from⟨by unfold mS;rw[if_neg HND.out,hS],hS,by unfold nD;rw[if_neg HND.out,hS,HAS.out,hdd];skip⟩);clear hb4 hc5 hs5 bn5 b5x hn35 hs5' hc6 hs6 hn36 hE3 HAN HLM u8 u9 bb2;have HSZ:=cN (aLo h6 hra6 bm6 bn6 hc26);have hW6:=h6;have bxW6:=bn6;have HLX:=cN (show∀j u,(mgL X)[j]?=some u→W6.cell? ((⟨W4.heap.size+1,0,none⟩:Addr).add j)=some u from cR bxW6);have hne:=HNE.out;have HSE:=cN (sF W6 own1 y {x with net:=x.net.eraseIdx q} V1 X hW6 (by show(x.net.eraseIdx q).length≤_;omega) (by show x.tr.length≤_;omega));clear h6 hra6 bm6 bn6 hc26 hW6 bxW6 b56 hne;refine cN ?_;go_wp2_with (first|(refine cW rfl 66 _ rfl ⟨W4.heap.size+1,0,none⟩ rfl (mgL X) _ HLX.out underlying66 rfl (by kernel_rfl) ?_)|(go_at_call 158;refine HSE.out.mono ?_;rintro e W7 ⟨rfl,hto⟩;refine cQ ?_));obtain⟨own2,V2,h7,hA7,hC7,hch7,hf7⟩:=hto;have hra7:RaAt W7 B x.cf a:=by have:=h7.acs d hdl;rw[hA7,←HBB.out]at this;rw[←ha'];exact this
    have hm7:W7.cell? ⟨W2.heap.size,2,none⟩=some (.int .i64 d):=by rw[←hdd];exact cO (hch7.kept HSZ.out.2.2.1 (fun e=>e hm0)) 2 _ rfl
    have HMA:=cN (aCz W7 B x.cf a hra7 hao.len);have hlen2:(x.tr++[sentEv X]).length≤100000000000:=by rw[aD,aK];omega
    have HFA:=cN (mG W7.drew own2 y (jA {x with net:=x.net.eraseIdx q} X) V2 d a h7.drew hdl ha' hn5 hlen2);have H7:=cN (aLn hA7 hC7 hch7 hf7);clear h7 hA7 hC7 hch7 hf7 hra7 r8;refine cN ?_;go_wp2_with (first|(go_at_call 159;refine HMA.out.mono ?_;rintro e W8 ⟨rfl,rfl⟩)|(go_at_call 157;refine HFA.out.mono ?_;rintro e W9 ⟨rfl,hto⟩));go_ret;rw[HES.out.1,HES.out.2.1,HES.out.2.2];refine⟨rfl,RmTo.trans H1.out.1 H1.out.2.1 H1.out.2.2.1 H1.out.2.2.2 (RmTo.behind (S:=NoS) HSZ.out.2.2.2.2 (fun _ _ h=>h.elim) (RmTo.trans H7.out.1 H7.out.2.1 H7.out.2.2.1 H7.out.2.2.2 ?_))⟩;have e9:gF {x with net:=x.net.eraseIdx q} d a (sentEv X::jS a (d:Int))={jA {x with net:=x.net.eraseIdx q} X with tr:=(jA {x with net:=x.net.eraseIdx q} X).tr++jS a (d:Int)}:=by
     unfold gF;rw[yV,←ha',bH];unfold jA;simp
    rw[e9];exact hto.drew
   |some r=>
    change W6.cell? ⟨W4.heap.size,0,none⟩=some (.int .i64 r.lock)at r8;have hrl:=HRL.out r rfl;clear hb4 hc5 hs5 bn5 b5x hn35 hs5' hc6 hs6 hn36 hE3 HAN HLM u8 u9 bb2;have HLR:=cN (show∀j u,(rwL r)[j]?=some u→W6.cell? ((⟨W4.heap.size,0,none⟩:Addr).add j)=some u from cR b56);have HST:=cN (aFg W6 B x.cf a r hra6 hao.len hao.l0 hao.l1 hao.k0);obtain⟨sb,hsb⟩:=aLx ((dR x.cf.room a r).2);rw[hsb]at HST;have HSB:=cN hsb;obtain⟨a1,ha1⟩:=aLx ((dR x.cf.room a r).1);rw[ha1]at HST;have HA1:=cN ha1;have hBd:V1.bA d=B:=HBB.out.symm;have HSZ:=cN (aLn h6 bm6 bn6 hc26);have hl9:decide (0≤r.lock)=true:=by simp[hrl]
    clear h6 hra6 bm6 bn6 hc26 b56 ha1 hsb;refine cN ?_;go_wp2_with (first|(refine cW rfl 58 _ rfl ⟨W4.heap.size,0,none⟩ rfl (rwL r) _ HLR.out underlying58 rfl (by kernel_rfl) ?_)|(go_at_call 156;refine HST.out.mono ?_;rintro e W7 ⟨rfl,hto⟩;refine cQ ?_));have hW7:RmAt W7 own1 y {x with net:=x.net.eraseIdx q,acs:=x.acs.set d a1} V1:=HSZ.out.1.acceptor hdl a1 (by rw[hBd];exact hto.2) (by rw[hBd];exact hto.1);have hra7:RaAt W7 B x.cf a1:=hto.1;have hc67:=hto.2;have bm7:=hc67.kept HSZ.out.2.1 (by omega);have bxW7:=hc67.kept HSZ.out.2.2.1 (by omega);have hm7:W7.cell? ⟨W2.heap.size,2,none⟩=some (.int .i64 d):=by rw[←hdd];exact cO bm7 2 _ rfl
    have hc27:Chg (fun k=>own1 k≠0) W2 W7:=(HSZ.out.2.2.2.mono (T:=fun k=>own1 k≠0) (fun _ _ h=>h.elim)).trans hc67 (fun k _ e=>by subst e;exact hBo);have hd1:d<({x with net:=x.net.eraseIdx q,acs:=x.acs.set d a1}:Rm).acs.length:=by simpa using hdl
    have hg1:({x with net:=x.net.eraseIdx q,acs:=x.acs.set d a1}:Rm).acs[d]'hd1=a1:=by simp
    have hn51:({x with net:=x.net.eraseIdx q,acs:=x.acs.set d a1}:Rm).acs.length≤5:=by simpa using hn5
    clear hto r8 HLR hc67;cases sb
    ·have hS:gO x.cf a m=(dR x.cf.room a r).1:=by unfold gO;rw[if_neg HND.out,HAS.out];dsimp only;rw[HSB.out];simp only[Bool.true_eq_false,if_false,if_true,aU]
     have HES:=cN (show mS x.cf a m=pM ((dR x.cf.room a r).1)∧gO x.cf a m=(dR x.cf.room a r).1∧nD x.cf a m=jS (dR x.cf.room a r).1 (d:Int)from⟨by unfold mS;rw[if_neg HND.out,hS],hS,by unfold nD;rw[if_neg HND.out,hS,HAS.out,hdd];dsimp only;rw[HSB.out];simp⟩);have HFA:=cN (mG W7 own1 y {x with net:=x.net.eraseIdx q,acs:=x.acs.set d a1} V1 d a1 hW7 hd1 hg1 hn51 (by show x.tr.length≤_;omega));have HCC:=cN hc27;clear hW7 hra7 bm7 bxW7 hc27 hd1 hg1 hn51;refine cN ?_;go_wp2_with (go_at_call 157;refine HFA.out.mono ?_;rintro e W9 ⟨rfl,hto⟩);go_ret;rw[HES.out.1,HES.out.2.1,HES.out.2.2,HA1.out];refine⟨rfl,RmTo.trans H1.out.1 H1.out.2.1 H1.out.2.2.1 H1.out.2.2.2 (RmTo.trans (own1:=own1) (V1:=V1) rfl rfl HCC.out (fun _ h=>Or.inl h) ?_)⟩;have e9:gF {x with net:=x.net.eraseIdx q} d a1 (jS a1 (d:Int))={x with net:=x.net.eraseIdx q,acs:=x.acs.set d a1,tr:=x.tr++jS a1 (d:Int)}:=by
      unfold gF;rw[aBR];simp
     rw[e9];exact hto
    ·have HLX:=cN (show∀j u,(mgL X)[j]?=some u→W7.cell? ((⟨W4.heap.size+1,0,none⟩:Addr).add j)=some u from cR bxW7);have hne:=HNE.out;have HSE:=cN (sF W7 own1 y {x with net:=x.net.eraseIdx q,acs:=x.acs.set d a1} V1 X hW7 (by show(x.net.eraseIdx q).length≤_;omega) (by show x.tr.length≤_;omega));have HCC:=cN hc27;have HM7:=cN bm7;have HD1:=cN (aLl hd1 hn51);clear hW7 hra7 bm7 bxW7 hc27 hd1 hn51 hne hm7 hg1;refine cN ?_;go_wp2_with (first|(refine cW rfl 66 _ rfl ⟨W4.heap.size+1,0,none⟩ rfl (mgL X) _ HLX.out underlying66 rfl (by kernel_rfl) ?_)|(go_at_call 158;refine HSE.out.mono ?_;rintro e W8 ⟨rfl,hto⟩;refine cQ ?_));obtain⟨own2,V2,h8,hA8,hC8,hch8,hf8⟩:=hto;have hd1:=HD1.out.1;have hg1:(jA {x with net:=x.net.eraseIdx q,acs:=x.acs.set d a1} X).acs[d]'hd1=a1:=by simp[jA]
     have hra8:RaAt W8 B x.cf a1:=by have:=h8.acs d hd1;rw[hA8,←HBB.out,hg1]at this;exact this
     have bm8:=hch8.kept HM7.out (fun e=>e hm0);have hm8:W8.cell? ⟨W2.heap.size,2,none⟩=some (.int .i64 d):=by rw[←hdd];exact cO bm8 2 _ rfl
     have HMA:=cN (aCz W8 B x.cf a1 hra8 (by rw[←HA1.out];exact aCC HSB.out hroom));obtain⟨my,hmy⟩:=aLx (aAV x.cf.compact (dR x.cf.room a r).1);have HMY:=cN hmy;rw[←HA1.out,hmy]at HMA;have hlen2:(x.tr++[sentEv X]).length≤100000000000:=by rw[aD,aK];omega
     have H8:=cN (aLn hA8 hC8 hch8 hf8);clear hmy;cases my
     ·have hS:gO x.cf a m=(dR x.cf.room a r).1:=by unfold gO;rw[if_neg HND.out,HAS.out];dsimp only;rw[HSB.out];simp only[Bool.true_eq_false,if_false,if_true,aU];rw[HMY.out];simp only[aU,if_false,if_true]
      have HES:=cN (show mS x.cf a m=pM ((dR x.cf.room a r).1)∧gO x.cf a m=(dR x.cf.room a r).1∧nD x.cf a m=sentEv X::jS (dR x.cf.room a r).1 (d:Int)from⟨by unfold mS;rw[if_neg HND.out,hS],hS,by unfold nD;rw[if_neg HND.out,hS,HAS.out,hdd];dsimp only;rw[HSB.out];simp⟩);have HFA:=cN (mG W8.drew own2 y (jA {x with net:=x.net.eraseIdx q,acs:=x.acs.set d a1} X) V2 d a1 h8.drew hd1 hg1 HD1.out.2 hlen2);clear h8 hA8 hC8 hch8 hf8 hra8 bm8 hd1 hg1 hlen2;refine cN ?_;go_wp2_with (first|(go_at_call 159;refine HMA.out.mono ?_;rintro e W9 ⟨rfl,rfl⟩)|(go_at_call 157;refine HFA.out.mono ?_;rintro e W10 ⟨rfl,hto⟩));go_ret;rw[HES.out.1,HES.out.2.1,HES.out.2.2,HA1.out];refine⟨rfl,RmTo.trans H1.out.1 H1.out.2.1 H1.out.2.2.1 H1.out.2.2.2 (RmTo.trans (own1:=own1) (V1:=V1) rfl rfl HCC.out (fun _ h=>Or.inl h) (RmTo.trans H8.out.1 H8.out.2.1 H8.out.2.2.1 H8.out.2.2.2 ?_))⟩;have e9:gF {x with net:=x.net.eraseIdx q} d a1 (sentEv X::jS a1 (d:Int))={jA {x with net:=x.net.eraseIdx q,acs:=x.acs.set d a1} X with tr:=(jA {x with net:=x.net.eraseIdx q,acs:=x.acs.set d a1} X).tr++jS a1 (d:Int)}:=by
       unfold gF;rw[yV];unfold jA;simp
      rw[e9];exact hto.drew
     ·have hS:gO x.cf a m=gX x.cf.room (dR x.cf.room a r).1:=by unfold gO;rw[if_neg HND.out,HAS.out];dsimp only;rw[HSB.out];simp only[Bool.true_eq_false,if_false,if_true,aU];rw[HMY.out];simp only[aU,if_false,if_true]
      have HES:=cN (show mS x.cf a m=pM (gX x.cf.room (dR x.cf.room a r).1)∧gO x.cf a m=gX x.cf.room (dR x.cf.room a r).1∧nD x.cf a m=sentEv X::jS (gX x.cf.room (dR x.cf.room a r).1) (d:Int)from⟨by unfold mS;rw[if_neg HND.out,hS],hS,by unfold nD;rw[if_neg HND.out,hS,HAS.out,hdd];dsimp only;rw[HSB.out];simp⟩);obtain⟨a2,ha2⟩:=aLx (gX x.cf.room a1);have HA2:=cN ha2;have hlb:=aF2 (room:=x.cf.room) (r:=r) hao.l0 hao.l1;rw[HA1.out]at hlb;have HCO:=cN (xS W8.drew B x.cf a1 hra8 (by rw[←HA1.out];exact aCC HSB.out hroom) (by rw[←HA1.out];exact aEJ hao.by_) hlb.1 hlb.2);rw[ha2]at HCO;have HH8:=cN h8;clear h8 hA8 hC8 hch8 hf8 hra8 ha2 hlb;refine cN ?_;go_wp2_with (first|(go_at_call 159;refine HMA.out.mono ?_;rintro e W9 ⟨rfl,rfl⟩)|(go_at_call 160;refine HCO.out.mono ?_;rintro e W10 ⟨rfl,hto⟩;refine cQ ?_));have hB2:V2.bA d=B:=by rw[H8.out.1];exact HBB.out.symm
      have h10:RmAt W10 own2 y {jA {x with net:=x.net.eraseIdx q,acs:=x.acs.set d a1} X with acs:=(x.acs.set d a1).set d a2} V2:=(HH8.out.drew).acceptor hd1 a2 (by rw[hB2];exact hto.2) (by rw[hB2];exact hto.1);have hc810:Chg (fun k=>own2 k≠0) W8 W10:=(hto.2.mono (fun k _ e=>by subst e;rw[←hB2];have:=HH8.out.aco d hd1;omega)).of_drew;have hm10:W10.cell? ⟨W2.heap.size,2,none⟩=some (.int .i64 d):=by rw[←hdd];exact cO (hto.2.kept (show W8.drew.heap[W2.heap.size]?=_ from bm8) (by omega)) 2 _ rfl
      have hd2:d<({jA {x with net:=x.net.eraseIdx q,acs:=x.acs.set d a1} X with acs:=(x.acs.set d a1).set d a2}:Rm).acs.length:=by simpa using hdl
      have hg2:({jA {x with net:=x.net.eraseIdx q,acs:=x.acs.set d a1} X with acs:=(x.acs.set d a1).set d a2}:Rm).acs[d]'hd2=a2:=by simp
      have hn52:({jA {x with net:=x.net.eraseIdx q,acs:=x.acs.set d a1} X with acs:=(x.acs.set d a1).set d a2}:Rm).acs.length≤5:=by simpa using hn5
      have HFA:=cN (mG W10 own2 y {jA {x with net:=x.net.eraseIdx q,acs:=x.acs.set d a1} X with acs:=(x.acs.set d a1).set d a2} V2 d a2 h10 hd2 hg2 hn52 hlen2);have HC10:=cN hc810;clear h10 hto hc810 hd2 hg2 hn52 hlen2 bm8 hm8;refine cN ?_;go_wp2_with (go_at_call 157;refine HFA.out.mono ?_;rintro e W11 ⟨rfl,hto⟩);go_ret;rw[HES.out.1,HES.out.2.1,HES.out.2.2,HA1.out,HA2.out];refine⟨rfl,RmTo.trans H1.out.1 H1.out.2.1 H1.out.2.2.1 H1.out.2.2.2 (RmTo.trans (own1:=own1) (V1:=V1) rfl rfl HCC.out (fun _ h=>Or.inl h) (RmTo.trans H8.out.1 H8.out.2.1 H8.out.2.2.1 H8.out.2.2.2 (RmTo.trans (own1:=own2) (V1:=V2) rfl rfl HC10.out (fun _ h=>Or.inl h) ?_)))⟩;have e9:gF {x with net:=x.net.eraseIdx q} d a2 (sentEv X::jS a2 (d:Int))={jA {x with net:=x.net.eraseIdx q,acs:=x.acs.set d a1} X with acs:=(x.acs.set d a1).set d a2,tr:=(jA {x with net:=x.net.eraseIdx q,acs:=x.acs.set d a1} X).tr++jS a2 (d:Int)}:=by
       unfold gF;rw[yV];unfold jA;simp
      rw[e9];exact hto
  |have HES:=cN (show mS x.cf a m=0∧gO x.cf a m=a∧nD x.cf a m=[]from by have hh:a.up=false∨a.silent=true:=(by first|exact Or.inl hup|exact Or.inr hsi);exact⟨if_pos hh,if_pos hh,if_pos hh⟩)
   go_wp2_with (first|rw[HX3d.out]);go_ret;rw[HES.out.1,HES.out.2.1,HES.out.2.2];refine⟨rfl,?_⟩;have e9:gF {x with net:=x.net.eraseIdx q} d a []={x with net:=x.net.eraseIdx q}:=by
    rw[tG];have:x.acs.set d a=x.acs:=by rw[←ha'];exact bH _
    rw[this]
   rw[e9];exact RmTo.trans H1.out.1 H1.out.2.1 H1.out.2.2.1 H1.out.2.2.2 HTO.out
theorem aHT(W:World)(own:Nat→Nat)(y:Nat)(x:Rm)(V:RmV)(N:Int)(q:Nat)(k:Int)(lk:Nat)(t u:Int)(h:RmAt W own y x V)(hok:tU N x)(hN:N≤80000000000)(hq:q<x.cls.length)(c:Rc)(hc:x.cls[q]=c)(hu:c.up=true)(hbz:c.busy=false)(hl3:lk≤3)(hku:(1≤k∧k≤2∧u=t∧1≤t∧t≤1000)∨(3≤k∧k≤4∧u=0)):
 Calls prog 113 #[.pointer (some ⟨y,0,none⟩),.int .i64 q,.int .i64 k,.int .i64 lk,.int .i64 t] W fun r W'=>r= .returned (.int .i64 0)∧RmTo W own y V (dP x q (mM (nO c k lk u)) (kJ c.id k lk u::kN x.acs.length (nO c k lk u))) W':=by
 obtain⟨ie,h7,h8,h5,i7⟩:=info_parts nS;obtain⟨pc,g8,d8,c5⟩:=fK h.rcv;have y8:W.cell? ⟨y,8,none⟩=some (.slice pc x.cls.length g8):=by rw[←d8];exact h.cell 8 _ rfl
 have k7:=hok.c4;have j9:=hok.n5;have k5:=hok.tr;have l1:=hok.net;obtain⟨g,rfl,hg⟩:=c5 q hq;obtain⟨B,hB⟩:=aLw (V.bC q);have k3:W.cell? ⟨g,q,none⟩=some (.pointer (some ⟨B,0,none⟩)):=by rw[hB];exact hg
 have F:=(hok.cls q hq).1;rw[hc]at F;have g5:c.id=(q:Int):=by have:=hok.ids q hq;rw[hc]at this;exact this
 have f:=hok.rest q hq;rw[hc]at f;have a3:RcAt W B c (V.mv q) (V.hv q) (V.bv q):=by have:=h.cls q hq;rw[hc]at this;rw[hB];exact this
 have b8:=a3.blk;have b2:W.cell? ⟨B,2,none⟩=some (.bool true):=by rw[←hu];exact a3.cell 2 _ rfl
 have j1:W.cell? ⟨B,37,none⟩=some (.bool false):=by rw[←hbz];exact a3.cell 37 _ rfl
 have h9:=cX b8 37;have f1:decide ((q:Int)<0)=false:=by simp
 have f2:decide ((x.cls.length:Int)≤(q:Int))=false:=by simp;omega
 have f3:decide (k<1)=false:=by simp;omega
 have f4:decide (4<k)=false:=by simp;omega
 have f5:decide ((lk:Int)<0)=false:=by simp
 have f6:decide ((3:Int)<(lk:Int))=false:=by simp;omega
 have k8:(lk:Int)<4:=by omega
 have g2:(W.setCell ⟨B,37,none⟩ (.bool true)).heap[B]?=some (.cells (rcL {c with busy:=true} (V.mv q) (V.hv q) (V.bv q)).toArray 182 (0,0)):=dD b8 37 _;have e6:=cY W B 37 (.bool true);generalize d9:W.setCell ⟨B,37,none⟩ (.bool true)=W1 at*;have h3:=cN d9;have H:=cN h;have HB:=cN (aLm hB hc g5);have H1:=cN (aLl e6 g2);clear d9 e6 h d8 c5 hg a3 b8 hB hc g5 hbz hu;have i8:=cN hku;have d6:=F.k0;have b0:=F.k1;have hw:(k≤2∧u=t∧c.clock+t<c.til lk)∨(k≤2∧u=t∧¬c.clock+t<c.til lk)∨k=3∧u=0∨k=4∧u=0:=by omega
 have w3:wrap64 c.clock=c.clock:=by unfold wrap64;omega
 have w2:IntKind.i64.wrap c.clock=c.clock:=fX (by omega) (by omega);have b6:(0:Int)≤u∧u≤1000:=by omega
 have b5:=cN b6;clear hku b6;rcases hw with⟨i,rfl,a⟩|⟨i,rfl,a⟩|⟨i,b7⟩|⟨i,b7⟩;all_goals
  have hK:=i8.out;first
   |have f7:decide (k≤2)=true:=by simp;omega
    have f8:decide (u<1)=false:=by simp;omega
    have f9:decide (1000<u)=false:=by simp;omega
    have k2:decide (2<k)=false:=by simp;omega
    have g6:(k==3)=false:=by simp;omega
    have w1:IntKind.i64.wrap (c.clock+u)=c.clock+u:=fX (by omega) (by omega);have HC:=cN (aLl i a);clear hK i a d6 b0
   |have f7:decide (k≤2)=false:=by simp;omega
    have k2:decide (2<k)=true:=by simp;omega
    have HC:=cN (aLl i b7);clear hK d6 b0 b7;first
     |have g6:(k==3)=true:=by rw[i];rfl
      clear i
     |have g6:(k==3)=false:=by rw[i];rfl
      clear i
  go_enter func113,ntmps113;go_wp2_with (first|rw[h3.out]|(refine ws H1.out.2 (rcL {c with busy:=true,kind:=k,lock:=(lk:Int),ttl:=u} (V.mv q) (V.hv q) (V.bv q)) rfl rfl rfl rfl (by kernel_rfl) (by first|rfl|(rw[HC.out.2];rfl)) ?_;intro W2 d1 j7 M;refine cQ ?_));have a4:=H1.out.1.trans d1 (fun _ _ h=>h);clear d1 j7 y8 k3 b2 j1 h9 g2 H1;have d3:W2.cell? ⟨B,3,none⟩=some (.int .i64 c.clock):=cO M 3 _ rfl;have i4:W2.cell? ⟨B,41,none⟩=some (.int .i64 c.began):=cO M 41 _ rfl;have j8:=cX M 41;have a0:(W2.setCell ⟨B,41,none⟩ (.int .i64 c.clock)).heap[B]?=some (.cells (rcL {c with busy:=true,kind:=k,lock:=(lk:Int),ttl:=u,began:=c.clock} (V.mv q) (V.hv q) (V.bv q)).toArray 182 (0,0)):=dD M 41 _;have g7:=a4.trans (cY W2 B 41 (.int .i64 c.clock)) (fun _ _ h=>h);generalize e1:W2.setCell ⟨B,41,none⟩ (.int .i64 c.clock)=W3 at*;have j5:=cN e1;have i6:W3.cell? ⟨B,42,none⟩=some (.int .i64 c.tries):=cO a0 42 _ rfl;have i5:=cX a0 42;have X:(W3.setCell ⟨B,42,none⟩ (.int .i64 0)).heap[B]?=some (.cells (rcL {c with busy:=true,kind:=k,lock:=(lk:Int),ttl:=u,began:=c.clock,tries:=0} (V.mv q) (V.hv q) (V.bv q)).toArray 182 (0,0)):=dD a0 42 _;have a7:=g7.trans (cY W3 B 42 (.int .i64 0)) (fun _ _ h=>h);generalize e0:W3.setCell ⟨B,42,none⟩ (.int .i64 0)=W4 at*;have j6:=cN e0;have j0:W4.cell? ⟨B,43,none⟩=some (V.mv q):=cO X 43 _ rfl;have i3:=cX X 43
  have a1:(W4.setCell ⟨B,43,none⟩ (.slice none 0 0)).heap[B]?=some (.cells (rcL {c with busy:=true,kind:=k,lock:=(lk:Int),ttl:=u,began:=c.clock,tries:=0,mine:=[]} (.slice none 0 0) (V.hv q) (V.bv q)).toArray 182 (0,0)):=dD X 43 _;have c7:=a7.trans (cY W4 B 43 (.slice none 0 0)) (fun _ _ h=>h);generalize d4:W4.setCell ⟨B,43,none⟩ (.slice none 0 0)=W5 at*;have j4:=cN d4;have i9:W5.cell? ⟨B,44,none⟩=some (.int .i64 c.bal):=cO a1 44 _ rfl;have j2:=cX a1 44;obtain⟨p,d⟩:=aLw (({c with busy:=true,kind:=k,lock:=(lk:Int),ttl:=u,began:=c.clock,tries:=0,mine:=[],bal:=0}:Rc));have U:(W5.setCell ⟨B,44,none⟩ (.int .i64 0)).heap[B]?=some (.cells (rcL p (.slice none 0 0) (V.hv q) (V.bv q)).toArray 182 (0,0)):=by rw[d];exact dD a1 44 _
  have g0:=c7.trans (cY W5 B 44 (.int .i64 0)) (fun _ _ h=>h);generalize e4:W5.setCell ⟨B,44,none⟩ (.int .i64 0)=W6 at*;have h6:=cN e4;have m:W6.drew.heap[B]?=some (.cells (rcL p (.slice none 0 0) (V.hv q) (V.bv q)).toArray 182 (0,0)):=U;have P:=g0.drew;obtain⟨l,O⟩:=aLx (W6.drew);rw[O]at m P;have a9:=cN O;have e3:W6.cell? ⟨B,3,none⟩=some (.int .i64 c.clock):=by have:=cO U 3 (.int .i64 p.clock) rfl;rw[d]at this;exact this
  have eT:W6.cell? ⟨B,9+lk,none⟩=some (.int .i64 (c.til lk)):=by have:=cO U (9+lk) (.int .i64 (p.til lk)) (by rw[List.getElem?_toArray];exact oY p _ _ _ lk hl3);rw[d]at this;exact this
  have g3:l.cell? ⟨B,3,none⟩=some (.int .i64 c.clock):=by have:=cO m 3 (.int .i64 p.clock) rfl;rw[d]at this;exact this
  have gT:l.cell? ⟨B,9+lk,none⟩=some (.int .i64 (c.til lk)):=by have:=cO m (9+lk) (.int .i64 (p.til lk)) (by rw[List.getElem?_toArray];exact oY p _ _ _ lk hl3);rw[d]at this;exact this
  have zT:=cX m (9+lk);have d2:=cN d;have H6:=cN (aLl P m);clear e1 e0 d4 e4 O M a0 X a1 U m a4 g7 a7 c7 g0 P d;refine cN ?_;go_wp2_with (first|rw[j5.out]|rw[j6.out]|rw[j4.out]|rw[h6.out]);clear i4 j8 i6 i5 j0 i3 i9 j2 d3;obtain⟨s,A⟩:=aLw (nO c k lk u);have S:s={p with til:=aFu c k lk u}:=by rw[A,d2.out];rfl
  have a2:p.til=c.til:=by rw[d2.out]
  first
   |have a:=HC.out.2
    have Q:decide (c.clock+u<c.til lk)=true:=by simp[a]
    rw[show aFu c k lk u=upd p.til lk (c.clock+u)from a2▸if_pos (Or.inr HC.out)]at S;clear a;have I:(l.setCell ⟨B,9+lk,none⟩ (.int .i64 (c.clock+u))).heap[B]?=some (.cells (rcL s (.slice none 0 0) (V.hv q) (V.bv q)).toArray 182 (0,0)):=by
     rw[S,←yI p _ _ _ lk hl3];exact dD H6.out.2 (9+lk) _
    have b:=H6.out.1.trans (cY l B (9+lk) (.int .i64 (c.clock+u))) (fun _ _ h=>h);generalize o:l.setCell ⟨B,9+lk,none⟩ (.int .i64 (c.clock+u))=E at*;have Y:=cN o;clear o S
   |have a:=HC.out.1
    rw[show aFu c k lk u=upd p.til lk c.clock from a2▸(if_pos (Or.inl a)).trans (by rw[HC.out.2,Int.add_zero])]at S;clear a;have I:(l.setCell ⟨B,9+lk,none⟩ (.int .i64 (c.clock))).heap[B]?=some (.cells (rcL s (.slice none 0 0) (V.hv q) (V.bv q)).toArray 182 (0,0)):=by
     rw[S,←yI p _ _ _ lk hl3];exact dD H6.out.2 (9+lk) _
    have b:=H6.out.1.trans (cY l B (9+lk) (.int .i64 (c.clock))) (fun _ _ h=>h);generalize o:l.setCell ⟨B,9+lk,none⟩ (.int .i64 (c.clock))=E at*;have Y:=cN o;clear o S
   |have Q:True∨decide (c.clock+u<c.til lk)=false:=Or.inl trivial
    rw[show aFu c k lk u=p.til from a2▸if_neg (by have:=HC.out;omega)]at S;have I:l.heap[B]?=some (.cells (rcL s (.slice none 0 0) (V.hv q) (V.bv q)).toArray 182 (0,0)):=by rw[S];exact H6.out.2
    have b:=H6.out.1;obtain⟨E,o⟩:=aLx (l);rw[o]at I b;have Y:=cN o;clear o S Q;try have Q:decide (c.clock+u<c.til lk)=false:=by have:=HC.out;simp;omega
  clear a2;have a5:own B=7+5*q:=by rw[HB.out.1];exact H.out.clo q hq
  have J:RmTo W own y V {x with cls:=x.cls.set q s} E:=by
   refine H.out.client hq (c':=s) (mv':=.slice none 0 0) (hv':=V.hv q) (bv':=V.bv q) (b.mono (fun k _ e=>by subst e;exact Or.inl a5)) ⟨by rw[←HB.out.1];exact I,by rw[A];exact aCK,?_,?_⟩ (fun k i=>by cases i) (fun k i=>Or.inl (H.out.ho q hq k i)) (fun k i=>Or.inl (H.out.bo q hq k i)) (fun k i=>by cases i)
   ·have hm:=(H.out.cls q hq).heard;rw[HB.out.2.1]at hm;rw[A];exact b.row hm (fun k i e=>by have:=H.out.ho q hq k i;subst e;omega)
   ·have hm:=(H.out.cls q hq).back;rw[HB.out.2.1]at hm;rw[A];exact b.row hm (fun k i e=>by have:=H.out.bo q hq k i;subst e;omega)
  obtain⟨k4,V1,h1,g4,d5,b1,e7⟩:=J;have c2:E.cell? ⟨y,10,none⟩=some V1.tv:=h1.cell 10 _ rfl;have c3:Hid (∀j v,([.int .i64 k,.int .i64 lk,.int .i64 u]:List Value)[j]?=some v→E.cell? ((⟨B,38,none⟩:Addr).add j)=some v):=
   eL I 38 _ (fun j v hj=>by
    have k9:j<3:=(aF.1 hj).1;rw[A];rcases j with _|_|_|j<;>first|exact hj|omega)
  have K:=cN h1;have L:=cN (aLn g4 d5 b1 e7);have c1:=cN A;clear h1 g4 d5 b1 e7 I b A a5;refine eD [0,0,0,0,0,0,0,0,0,0,0,1,0,0,0,1,0,0,0,0,0] (by kernel_rfl) (fun _ _ _ _=>rfl) ?_;simp only[dC,dB];iterate 21 ((try simp only[pA]);first|(apply sB rfl rfl;·(intro x h;(try cases h rfl);go_simp;with_reducible rfl))|apply dN rfl|apply dL rfl)
  refine cP ?_;try simp only[pA]
  go_wp2_with (first|rw[a9.out]|rw[Y.out]);try
   refine eD [0,0,0,0,0,1,0,0,0,0,0] (by kernel_rfl) (fun _ _ _ _=>rfl) ?_;simp only[dC,dB];iterate 11 (apply sB rfl rfl;·(intro x h;(try cases h rfl);go_simp;with_reducible rfl))
   refine cP ?_;try simp only[pA]
   go_wp2_with (first|rw[a9.out]|rw[Y.out])
  clear e3 eT g3 gT zT;refine rlx [0,0,0,0,1,0,0,0,0,1,0,2] (fun z=>z.cell? ⟨y,10,none⟩=some V1.tv∧∀j v,([.int .i64 k,.int .i64 lk,.int .i64 u]:List Value)[j]?=some v→z.cell? ((⟨B,38,none⟩:Addr).add j)=some v) (by kernel_rfl) (fun _ _ _ _=>rfl) ?_ ?_
  ·exact⟨c2,fun j u hj=>c3.out j u hj⟩
  simp only[dC,dB];iterate 9 (apply sB rfl rfl;·(intro x h;(try have h:=h rfl);(try dsimp only at h);go_simp;with_reducible rfl))
  try simp only[pA]
  refine dA (v:=.agg #[.int .i64 k,.int .i64 lk,.int .i64 u]) rfl (fun zz hx=>cU 68 _ rfl ⟨B,38,none⟩ rfl ([.int .i64 k,.int .i64 lk,.int .i64 u]) _ hx.2 underlying68 rfl (by kernel_rfl)) ?_;iterate 1 (apply sB rfl rfl;·(intro x h;(try have h:=h rfl);(try dsimp only at h);go_simp;with_reducible rfl))
  try simp only[pA]
  (try simp only[pA]);refine dI rfl (fun C hC=>?_);go_simp;have j3:Hid (kJ (q:Int) k lk u=kJ c.id k lk u):=by rw[HB.out.2.2];exact rfl
  have G:Chg NoS E.drew (E.drew.alloc (.cells (evL (kJ (q:Int) k lk u)).toArray 70)):=(Chg.refl _ _).alloc _;have a8:=aA E.drew (.cells (evL (kJ (q:Int) k lk u)).toArray 70);refine hC _ _ ⟨G.cellN c2,fun j u hj=>by
   have e:(⟨B,38,none⟩:Addr).add j=⟨B,38+j,none⟩:=by unfold Addr.add;split<;>simp_all
   have:=c3.out j u hj;rw[e]at this⊢;exact G.cellN this⟩ ?_
  clear hC C;refine cP ?_;refine wpList_append_lies _ rfl _ _ 43 rfl 0 70 ie _ 19 152 underlying43 h7 h8 h5 i7 rfl (by decide) V1.tv x.tr.length (cZ evL x.tr) rfl (G.row (show E.drew.ownsRow 0 70 19 V1.tv x.tr.length (cZ evL x.tr)from K.out.tr) (fun _ _ h=>h)) ⟨E.heap.size,0,none⟩ 1 1 (evL (kJ (q:Int) k lk u)) rfl rfl (cR a8) (nY _) (by decide) (by unfold maxLen;omega) (by omega) (aI _) (E.heap.size+1) (by simp) ?_;intro gt g9 W9 R n a6 h0;have D:(E.drew.alloc (.cells (evL (kJ (q:Int) k lk u)).toArray 70)).grownBy W9 V1.tv.ownBlock:=⟨n.os,n.tape,n.output,n.size,n.block⟩;have J:=K.out.trAppend (e:=kJ (q:Int) k lk u) (W1:=E.drew.alloc (.cells (evL (kJ (q:Int) k lk u)).toArray 70)) G.of_drew D R (a6.imp (fun h=>h) (fun h=>by simp;omega));have b3:Chg (fun q=>some q=V1.tv.ownBlock) E W9:=(G.of_drew.mono (T:=fun q=>some q=V1.tv.ownBlock) (fun _ _ h=>h.elim)).trans (Chg.of_grown D) (fun _ _ h=>h);have b9:=b3.kept K.out.blk (fun e=>by have:=K.out.tvo _ e.symm;have:=K.out.yo;omega);have k6:W9.cell? ⟨y,10,none⟩=some V1.tv:=cO b9 10 _ rfl;have l2:=cX b9 10;generalize f0:W9.setCell ⟨y,10,none⟩ (.slice (some ⟨gt,0,none⟩) (x.tr.length+1) g9)=W10 at*;have i2:=cN f0;obtain⟨h2,V4,h4,e2,c0,b4,g1⟩:=J;have c9:({x with cls:=x.cls.set q s,tr:=x.tr++[kJ (q:Int) k lk u]}:Rm).cls[q]'(by simpa using hq)=s:=by simp
  have d7:V4.bC q=B:=by rw[c0,L.out.2.1];exact HB.out.1.symm
  have e5:=cN (aBj W10 h2 y {x with cls:=x.cls.set q s,tr:=x.tr++[kJ (q:Int) k lk u]} V4 q s x.cf N h4 (by simpa using hq) c9
   (by rw[c1.out];exact⟨F.d0,F.d3,F.i0,F.i1,F.k0,F.k1,F.r0,F.r1,F.w⟩)
   (by rw[c1.out];exact⟨by show 0≤(lk:Int);omega,by show(lk:Int)≤3;omega,by show(0:Int)≤u;exact b5.out.1,by show(u:Int)≤1000;exact b5.out.2,F.k0,F.k1,by show(0:Int)≤0;omega,by show(0:Int)≤8;omega,f.1,f.2.1,by show((0:Nat):Int)≤N;omega,f.2.2.1,f.2.2.2⟩) (by omega) j9 (by show x.net.length≤_;omega) (by show(x.tr++[kJ (q:Int) k lk u]).length≤_;rw[aD,aK];omega))
  rw[d7]at e5;have H4:=cN (aLn e2 c0 b4 g1);clear b3 b9 R n D a6 h0 a8 G c2 f0 h4 e2 c0 b4 g1 c9 d7 c3;go_wp2_with (first|rw[i2.out]|(go_at_call 150;refine e5.out.mono ?_;rintro e l0 ⟨rfl,J⟩));go_ret;refine⟨rfl,RmTo.trans L.out.1 L.out.2.1 L.out.2.2.1 L.out.2.2.2 (RmTo.trans H4.out.1 H4.out.2.1 H4.out.2.2.1 H4.out.2.2.2 ?_)⟩;have e9:dP x q (mM (nO c k lk u)) (kJ c.id k lk u::kN x.acs.length (nO c k lk u))=dP {x with cls:=x.cls.set q s,tr:=x.tr++[kJ (q:Int) k lk u]} q (mM s) (kN x.acs.length s):=by
   rw[c1.out,j3.out];unfold dP;rw[show dJ (kJ c.id k lk u::kN x.acs.length (nO c k lk u))=dJ (kN x.acs.length (nO c k lk u))from rfl];simp
  rw[e9];exact J
end Go.Proofs.YtbbdgokdfhdpiaaGreatDoor
