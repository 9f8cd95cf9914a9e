/- A part. -/
import Derived.Test.YtbbdgokdfhdpiaaGreatDoorA30
import Derived.Test.YtbbdgokdfhdpiaaGreatDoorA37
namespace Go.Proofs.YtbbdgokdfhdpiaaGreatDoor
set_option linter.all false
set_option maxRecDepth 100000
set_option maxHeartbeats 0
open Go.Proofs.Tryz Go.RowKit
theorem aG0:(prog.info? 174).map (fun i=>(i.zero,i.size,i.bytes))=some (some (.pointer none),1,8):=by kernel_rfl
theorem aIj:(prog.info? 177).map (fun i=>(i.zero,i.size,i.bytes))=some (some (.pointer none),1,8):=by kernel_rfl
def rmN(f:Cf)(k c:Nat):Rm:=⟨f,(List.range k).map (fun _=>oL),(List.range c).map (fun (i:Nat)=>gM i 0 true),[],[]⟩
section
variable (f:Cf) (k c:Nat)
theorem aK5:{rmN f k c with acs:=(rmN f k c).acs++[oL]}=rmN f (k+1) c:=by
 unfold rmN;rw[List.range_succ,bU]
 rfl
theorem aK8:{rmN f k c with cls:=(rmN f k c).cls++[gM (c:Int) 0 true]}=rmN f k (c+1):=by
 unfold rmN;rw[List.range_succ (n:=c),bU]
 rfl
theorem aCH:(rmN f k c).acs.length=k:=by simp[rmN]
theorem aCI:(rmN f k c).cls.length=c:=by simp[rmN]
end
structure RnSt(W wr:World)(f:Cf)(y k c:Nat):Prop where
 ex:∃own V,RmAt wr own y (rmN f k c) V∧∀q,own q≠0→W.heap.size+1≤q
 cf:wr.heap[W.heap.size]?=some (qE f)
 chg:Chg NoS W wr
 sz:W.heap.size+1≤wr.heap.size
theorem RnSt.next{W wr wr':World}{f:Cf}{y k c k' c':Nat}{own own':Nat→Nat}{V':RmV}(h:RnSt W wr f y k c)(hlo:∀q,own q≠0→W.heap.size+1≤q)(h':RmAt wr' own' y (rmN f k' c') V')(hc:Chg (fun q=>own q≠0) wr wr')(hl:∀q,own' q≠0→own q≠0∨wr.heap.size≤q):RnSt W wr' f y k' c':=
 ⟨⟨own',V',h',fun q hq=>(hl q hq).elim (hlo q) (fun h'=>by have:=h.sz;omega)⟩,hc.kept h.cf (fun e=>by have:=hlo _ e;omega),h.chg.trans hc (fun x hx h'=>by have:=hlo x h';omega),by have:=h.sz;have:=hc.size;omega⟩
theorem aI4(f:Cf):cfN f.f f.clients f.patience f.tries f.drift f.compact f.room=if oK f=true then 0 else 1:=by
 unfold cfN;rw[←aGJ]
theorem aDz(W:World)(f:Cf):
 Calls prog 65 #[cgV f] W fun r W'=>if oK f=true then∃y own V,r= .returned (.tuple #[fG y,.int .i64 0])∧RmAt W' own y (vS f) V∧(∀k,own k≠0→W.heap.size≤k)∧Chg NoS W W' else r= .returned (.tuple #[.pointer none,.int .i64 1])∧Chg NoS W W':=by
 obtain⟨ia,c5,d3,c3,c9⟩:=info_parts aG0;obtain⟨ic,c0,d6,c2,d4⟩:=info_parts aIj;have N:=aA W (qE f);have Y:Chg NoS W (W.alloc (qE f)):=(Chg.refl _ _).alloc _;have X:(W.alloc (qE f)).heap.size=W.heap.size+1:=by simp
 generalize a7:W.alloc (qE f)=W0 at*;have b4:Hid (W.alloc (.cells #[.int .i64 f.f,.int .i64 f.clients,.int .i64 f.patience,.int .i64 f.tries,.int .i64 f.drift,.int .i64 f.compact,.int .i64 f.room] 30)=W0):=a7;have b0:Hid (∀q y,(cgL f)[q]?=some y→W0.cell? ((⟨W.heap.size,0,none⟩:Addr).add q)=some y):=cR (cs:=cgL f) N;have s:=xR f.f f.clients f.patience f.tries f.drift f.compact f.room W0;rw[aI4]at s;by_cases u:oK f=true
 ·simp only[if_pos u]at s⊢;have a6:=cN s;have J:=cN (fL u);have P:=cN (aLp N Y X);clear s u N Y X a7;go_enter func65,ntmps65;go_wp2_with (first|rw[b4.out]|(refine cW rfl 30 _ rfl ⟨W.heap.size,0,none⟩ rfl (cgL f) _ b0.out underlying30 rfl (by kernel_rfl) ?_)|(go_at_call 68;refine a6.out.mono ?_;rintro e W1 ⟨rfl,B⟩;have a4:=cN B;clear B;refine cQ ?_));have Z:Chg NoS W0 W1:=(Chg.of_below a4.out);have a8:=Z.kept P.out.1 (fun h=>h);have c6:W.heap.size+1≤W1.heap.size:=by have:=Z.size;have:=P.out.2.2;omega
  have a0:Chg NoS W W1:=P.out.2.1.trans (S:=NoS) Z (fun _ _ h=>h);have c4:Hid (∀q y,(cgL f)[q]?=some y→W1.cell? ((⟨W.heap.size,0,none⟩:Addr).add q)=some y):=cR (cs:=cgL f) a8;have b3:=aA W1 (.cells (rmL f eU eU eU eU).toArray 173);have c:RnSt W (W1.alloc (.cells (rmL f eU eU eU eU).toArray 173)) f W1.heap.size 0 0:=
   ⟨⟨_,_,aHa b3,fun q hq=>by
     by_cases e:q=W1.heap.size
     ·omega
     ·simp[e]at hq⟩,dM _ a8,a0.alloc _,by simp;omega⟩
  generalize b1:W1.alloc (.cells (rmL f eU eU eU eU).toArray 173)=W2 at*;have d5:Hid (W1.alloc (.cells #[.int .i64 f.f,.int .i64 f.clients,.int .i64 f.patience,.int .i64 f.tries,.int .i64 f.drift,.int .i64 f.compact,.int .i64 f.room,.slice none 0 0,.slice none 0 0,.slice none 0 0,.slice none 0 0] 173)=W2):=b1;have b5:=cN c;have w1:IntKind.i64.wrap (2*f.f)=2*f.f:=fV (by have:=J.out.1;omega) (by have:=J.out.1;omega);have w2:IntKind.i64.wrap (2*f.f+1)=2*f.f+1:=fV (by have:=J.out.1;omega) (by have:=J.out.1;omega);clear Z a8 c6 a0 b3 b1 c;refine cN ?_;go_wp2_with (first|rw[d5.out]|(refine cW rfl 30 _ rfl ⟨W.heap.size,0,none⟩ rfl (cgL f) _ c4.out underlying30 rfl (by kernel_rfl) ?_));go_loopw [6] (fun i wr=>∃(k:Nat),k≤gJ f∧i= .int .i64 k∧RnSt W wr f W1.heap.size k 0) (fun i _=>gJ f-(intOf i).toNat)
  case atStart=>exact⟨0,aI _,rfl,b5.out⟩
  case round=>
   clear b5;obtain⟨k,hk,rfl,c⟩:=hrel;have d0:wr.cell? ⟨W.heap.size,0,none⟩=some (.int .i64 f.f):=cO c.cf 0 _ rfl;by_cases c1:(k:Int)<2*f.f+1
   ·obtain⟨own,V,M,H⟩:=c.ex;have G:k+1≤gJ f:=by unfold gJ;omega
    have w:=M.rav;rw[aCH]at w;obtain⟨pv,g,z,_⟩:=mD w;have c7:wr.cell? ⟨W1.heap.size,7,none⟩=some (.slice pv k g):=by rw[←z];exact M.cell 7 _ rfl
    have b8:(k:Int)≤1000:=by have:=J.out.1;have:=J.out.2.1;omega
    have a3:=cN c.cf;have HS:=cN c;have A:=cN (aLp M H z);have m:=w;rw[z]at m;have a2:=cN m;clear c M H w m z;go_wp2_with fail;clear d0;refine rlx [0,0,0,0,1,1,0,2,2] (fun x=>x.cell? ⟨W1.heap.size,7,none⟩=some (.slice pv k g)∧∀j y,(cgL f)[j]?=some y→x.cell? ((⟨W.heap.size,0,none⟩:Addr).add j)=some y) (by kernel_rfl) (fun _ _ _ _=>rfl) ?_ ?_
    ·exact⟨c7,cR (cs:=cgL f) (W:=wr.drew) a3.out⟩
    simp only[dC,dB];iterate 5 (apply sB rfl rfl;·(intro x h;(try have h:=h rfl);(try dsimp only at h);go_simp;with_reducible rfl))
    try simp only[pA]
    refine dA (v:=cgV f) rfl (fun x hx=>cU 30 _ rfl ⟨W.heap.size,0,none⟩ rfl (cgL f) _ hx.2 underlying30 rfl (by kernel_rfl)) ?_;(try simp only[pA]);iterate 1 (apply sB rfl rfl;·(intro x h;(try have h:=h rfl);(try dsimp only at h);go_simp;with_reducible rfl))
    try simp only[pA]
    refine dI rfl (fun C hC=>?_);go_simp;have l:Chg NoS wr (wr.alloc (.cells (raL f oL).toArray 176)):=((Chg.refl NoS wr).alloc _);have O:=aA wr (.cells (raL f oL).toArray 176);refine hC _ _ ⟨l.drew.cellN c7,cR (cs:=cgL f) (l.drew.kept a3.out (fun h=>h))⟩ ?_;clear hC C;(try simp only[pA]);refine dI rfl (fun C hC=>?_);go_simp;have L:(wr.alloc (.cells (raL f oL).toArray 176)).heap.size=wr.heap.size+1:=by simp
    have Q:Chg NoS (wr.alloc (.cells (raL f oL).toArray 176)) ((wr.alloc (.cells (raL f oL).toArray 176)).alloc (.cells #[fG wr.heap.size] 174)):=(Chg.refl _ _).alloc _;have a1:=aA (wr.alloc (.cells (raL f oL).toArray 176)) (.cells #[fG wr.heap.size] 174);have p:Chg NoS wr ((wr.alloc (.cells (raL f oL).toArray 176)).alloc (.cells #[fG wr.heap.size] 174)).drew:=(l.trans (S:=NoS) Q (fun _ _ h=>h)).drew;refine hC _ _ ⟨p.cellN c7,cR (cs:=cgL f) (p.kept a3.out (fun h=>h))⟩ ?_;clear hC C;refine cP ?_;(try simp only[pA]);have T:=p.row a2.out (fun _ _ h=>h);refine wpList_append_lies _ rfl _ _ 170 rfl 0 174 ia _ 1 8 underlying170 c5 d3 c3 c9 rfl (by decide) (.slice pv k g) k (nD V.bA k) rfl T ⟨wr.heap.size+1,0,none⟩ 1 1 [fG wr.heap.size] rfl rfl (cR (cs:=[fG wr.heap.size]) (by rw[←L];exact a1)) (by simp[Value.oneCell']) (by decide) (by unfold maxLen;omega) (by omega) (aI _) (wr.heap.size+2) (by simp) ?_;intro gt b9 U t b D R;have d:(wr.alloc (.cells (raL f oL).toArray 176)).grownBy U V.av.ownBlock:=by
     rw[A.out.2.2];exact(show(wr.alloc (.cells (raL f oL).toArray 176)).grownBy ((wr.alloc (.cells (raL f oL).toArray 176)).alloc (.cells #[fG wr.heap.size] 174)) (Value.slice pv k g).ownBlock from World.grownBy_alloc _ _ _).trans ⟨b.os,b.tape,b.output,b.size,b.block⟩
    obtain⟨b6,V',I,o,F⟩:=A.out.1.addA (a:=oL) (W2:=U) (n:=wr.heap.size) l (aE _) O d (by rw[aCH];exact t) (by
     rw[A.out.2.2];rcases D with h|h
     ·left;first|exact h|(rw[h];rfl)
     ·right;omega)
    rw[aCH,aK5]at I;rw[aCH]at o;have K:U.heap[W1.heap.size]?=_:=((d.block W1.heap.size (by have:=l.size;have:=dG A.out.1.blk;omega) (fun e=>by have:=A.out.1.avo _ e.symm;have:=A.out.1.yo;omega)).trans (l.kept A.out.1.blk (fun h=>h)));have e7:U.cell? ⟨W1.heap.size,7,none⟩=some V.av:=cO K 7 _ rfl;have z7:=cX K 7;have a5:=cN (HS.out.next A.out.2.1 I o F);clear I o F K b d t D R a1 T p Q l O L c7;(try simp only[pA]);go_wp2_with fail;go_roundw
    case rel=>exact⟨k+1,G,by go_num,a5.out⟩
    case measure=>simp[intOf];omega
   ·have G:k=gJ f:=by unfold gJ at hk⊢;omega
    subst G;have E:=cN c;clear c;go_wp2_with fail;clear d0;go_loopw [7] (fun i wr=>∃(k:Nat),k≤f.clients.toNat∧i= .int .i64 k∧RnSt W wr f W1.heap.size (gJ f) k) (fun i _=>f.clients.toNat-(intOf i).toNat)
    case atStart=>exact⟨0,aI _,rfl,E.out⟩
    case round=>
     clear E;obtain⟨k,hk,rfl,c⟩:=hrel;have d1:wr.cell? ⟨W.heap.size,1,none⟩=some (.int .i64 f.clients):=cO c.cf 1 _ rfl;by_cases c1:(k:Int)<f.clients
     ·obtain⟨own,V,M,H⟩:=c.ex;have G:k+1≤f.clients.toNat:=by omega
      have w:=M.rcv;rw[aCI]at w;obtain⟨pv,g,z,_⟩:=mD w;have c8:wr.cell? ⟨W1.heap.size,8,none⟩=some (.slice pv k g):=by rw[←z];exact M.cell 8 _ rfl
      have b8:(k:Int)≤1000:=by have:=J.out.2.1;omega
      have HS:=cN c;have A:=cN (aLp M H z);have m:=w;rw[z]at m;have a2:=cN m;have hZ:((zeroCells182.setIfInBounds 0 (.int .i64 k)).setIfInBounds 2 (.bool true))=(rcL (gM k 0 true) eU eU eU).toArray:=rfl;have l:Chg NoS wr (wr.alloc (.cells (rcL (gM k 0 true) eU eU eU).toArray 182)):=(Chg.refl NoS wr).alloc _;have O:=aA wr (.cells (rcL (gM k 0 true) eU eU eU).toArray 182);have L:(wr.alloc (.cells (rcL (gM k 0 true) eU eU eU).toArray 182)).heap.size=wr.heap.size+1:=by simp
      generalize b2:wr.alloc (.cells (rcL (gM k 0 true) eU eU eU).toArray 182)=w4 at*;have d2:Hid (wr.alloc (.cells ((zeroCells182.setIfInBounds 0 (.int .i64 k)).setIfInBounds 2 (.bool true)) 182)=w4):=by rw[hZ];exact b2
      have Q:Chg NoS w4 (w4.alloc (.cells #[fG wr.heap.size] 177)):=(Chg.refl _ _).alloc _;have p:=l.trans (S:=NoS) Q (fun _ _ h=>h);have a9:=cN (p.row a2.out (fun _ _ h=>h));have b7:=cN (aA w4 (.cells #[fG wr.heap.size] 177));have H4:=cN (aLp l O L);clear c M H w m z hZ b2 l Q p O L;go_wp2_with (first|rw[d2.out]|(at_builtin;refine wpList_append_lies _ rfl _ _ 171 rfl 0 177 ic _ 1 8 underlying171 c0 d6 c2 d4 rfl (by decide) (.slice pv k g) k (nD V.bC k) rfl a9.out ⟨w4.heap.size,0,none⟩ 1 1 [fG wr.heap.size] rfl rfl (cR (cs:=[fG wr.heap.size]) b7.out) (by simp[Value.oneCell']) (by decide) (by unfold maxLen;omega) (by omega) (aI _) (w4.heap.size+1) (by simp) ?_;intro gt b9 U t b D R;refine cQ ?_));have d:w4.grownBy U V.cv.ownBlock:=by
       rw[A.out.2.2];exact(show w4.grownBy (w4.alloc (.cells #[fG wr.heap.size] 177)) (Value.slice pv k g).ownBlock from World.grownBy_alloc _ _ _).trans ⟨b.os,b.tape,b.output,b.size,b.block⟩
      obtain⟨b6,V',I,o,F⟩:=A.out.1.addC (a:=gM k 0 true) (W1:=w4) (W2:=U) (n:=wr.heap.size) H4.out.1 (aE _) H4.out.2.1 d rfl rfl rfl (by rw[aCI];exact t) (by
       have L:=H4.out.2.2;rw[A.out.2.2];rcases D with h|h
       ·left;first|exact h|(rw[h];rfl)
       ·right;omega)
      rw[aCI,aK8]at I;rw[aCI]at o;have K:U.heap[W1.heap.size]?=_:=((d.block W1.heap.size (by have:=H4.out.1.size;have:=dG A.out.1.blk;omega) (fun e=>by have:=A.out.1.cvo _ e.symm;have:=A.out.1.yo;omega)).trans (H4.out.1.kept A.out.1.blk (fun h=>h)));have e8:U.cell? ⟨W1.heap.size,8,none⟩=some V.cv:=cO K 8 _ rfl;have z8:=cX K 8;have a5:=cN (HS.out.next A.out.2.1 I o F);clear I o F K b d t D R c8 d1;refine cN ?_;go_wp2_with fail;go_roundw
      case rel=>exact⟨k+1,G,by go_num,a5.out⟩
      case measure=>simp[intOf];omega
     ·have G:k=f.clients.toNat:=by omega
      subst G;have E:=cN c;clear c;go_wp2_with fail
      go_ret2
      obtain⟨own,V,M,H⟩:=E.out.ex;exact⟨W1.heap.size,rfl,own,⟨V,M⟩,fun q hq=>by have:=H q hq;omega,E.out.chg⟩
 ·simp only[if_neg u]at s⊢;have a6:=cN s;have P:=cN (aLp N Y X);clear s u N Y X a7;go_enter func65,ntmps65;go_wp2_with (first|rw[b4.out]|(refine cW rfl 30 _ rfl ⟨W.heap.size,0,none⟩ rfl (cgL f) _ b0.out underlying30 rfl (by kernel_rfl) ?_)|(go_at_call 68;refine a6.out.mono ?_;rintro e W1 ⟨rfl,B⟩;have a4:=cN B;clear B))
  go_ret2
  exact⟨rfl,P.out.2.1.trans (S:=NoS) (Chg.of_below a4.out) (fun _ _ h=>h)⟩
structure LwP(W:World)(lab:Nat→Nat)(P:List (Mo×Rm))(lv:Value)(bP bX bY:Nat→Nat):Prop where
 row:W.ownsRow 0 129 1 lv P.length (pO bP P.length)
 rl:∀k,lv.ownBlock=some k→lab k=2
 pb:∀i,i<P.length→W.heap[bP i]?=some (.cells #[fG (bX i),fG (bY i)] 131 (0,0))
 pl:∀i,i<P.length→lab (bP i)=11+3*i
 xs:∀i (h:i<P.length),∃own,Moor W own (bX i) P[i].1∧∀k,own k≠0→lab k=12+3*i
 ys:∀i (h:i<P.length),∃own V,RmAt W own (bY i) P[i].2 V∧∀k,own k≠0→lab k=13+3*i
structure LwAt(W:World)(n0:Nat)(lab:Nat→Nat)(g0:Nat)(P:List (Mo×Rm))(lv c1 c2 c3 c4 c5 c6:Value)(next:Nat)(lsR lsM lsE:List (Value×Nat×Int))(bP bX bY:Nat→Nat):Prop where
 hg:W.heap[g0]?=some (.cells (wdL lv c1 c2 c3 c4 c5 c6 (next:Int)).toArray 80 (0,0))
 l0:lab g0=1
 lt:∀k,lab k≠0→k<W.heap.size
 out:∀k,k<n0→lab k=10
 pr:LwP W lab P lv bP bX bY
 R:StK 47 kRw 7 3 W lab c1 c2 lsR
 M:StK 88 kMg 10 5 W lab c3 c4 lsM
 E:StK 43 kEv 19 7 W lab c5 c6 lsE
section
variable {W W':World}{n0 g0 next:Nat}{lab lab':Nat→Nat}{P:List (Mo×Rm)}{lv c1 c2 c3 c4 c5 c6:Value}{lsR lsM lsE:List (Value×Nat×Int)}{bP bX bY:Nat→Nat}
theorem LwP.frame(h:LwP W lab P lv bP bX bY)(hlt:∀k,lab k≠0→k<W.heap.size)(hs:W.heap.size≤W'.heap.size)(hb:∀k,lab k=2∨11≤lab k→W'.heap[k]?=W.heap[k]?)(hl:∀k,lab k≠0→lab' k=lab k):LwP W' lab' P lv bP bX bY:=
 ⟨dF h.row fun k hk=>hb k (Or.inl (h.rl k hk)),fun k hk=>by have:=h.rl k hk;rw[hl k (by omega)];exact this,
  fun i hi=>(hb _ (Or.inr (by rw[h.pl i hi];omega))).trans (h.pb i hi),fun i hi=>by have:=h.pl i hi;rw[hl _ (by omega)];exact this,
  fun i hi=>by
   obtain⟨own,h1,h2⟩:=h.xs i hi;exact⟨own,h1.of_heap hs fun k hk=>hb k (Or.inr (by rw[h2 k hk];omega)),fun k hk=>by have:=h2 k hk;rw[hl k (by omega)];exact this⟩,
  fun i hi=>by
   obtain⟨own,V,h1,h2⟩:=h.ys i hi;exact⟨own,V,h1.of_heap hs fun k hk=>hb k (Or.inr (by rw[h2 k hk];omega)),fun k hk=>by have:=h2 k hk;rw[hl k (by omega)];exact this⟩⟩
theorem LwAt.kept{S:Nat→Prop}(h:LwAt W n0 lab g0 P lv c1 c2 c3 c4 c5 c6 next lsR lsM lsE bP bX bY)(hc:Chg S W W')(hn:∀k,lab k≠0→¬S k):LwAt W' n0 lab g0 P lv c1 c2 c3 c4 c5 c6 next lsR lsM lsE bP bX bY:=by
 have a:∀k,lab k≠0→W'.heap[k]?=W.heap[k]?:=fun k hk=>hc.block k (h.lt k hk) (hn k hk);exact⟨(a g0 (by rw[h.l0];decide)).trans h.hg,h.l0,fun k hk=>aG (h.lt k hk) hc.size,h.out,h.pr.frame h.lt hc.size (fun k hk=>a k (by omega)) (fun _ _=>rfl),
  h.R.frame (by decide) hc.size (fun k hk=>a k (by omega)) (fun _ _=>rfl),h.M.frame (by decide) hc.size (fun k hk=>a k (by omega)) (fun _ _=>rfl),h.E.frame (by decide) hc.size (fun k hk=>a k (by omega)) (fun _ _=>rfl)⟩
theorem LwAt.drew(h:LwAt W n0 lab g0 P lv c1 c2 c3 c4 c5 c6 next lsR lsM lsE bP bX bY):LwAt W.drew n0 lab g0 P lv c1 c2 c3 c4 c5 c6 next lsR lsM lsE bP bX bY:=h.kept (S:=NoS) (Chg.refl _ _).drew (fun _ _ h=>h)
theorem LwAt.below(h:LwAt W n0 lab g0 P lv c1 c2 c3 c4 c5 c6 next lsR lsM lsE bP bX bY)(hb:Below W.heap.size W W'):LwAt W' n0 lab g0 P lv c1 c2 c3 c4 c5 c6 next lsR lsM lsE bP bX bY:=h.kept (Chg.below' hb) (fun _ _ h=>h)
theorem LwAt.size(h:LwAt W n0 lab g0 P lv c1 c2 c3 c4 c5 c6 next lsR lsM lsE bP bX bY):n0≤W.heap.size:=by
 cases n0 with
 |zero=>exact aI _
 |succ n=>
  have:=h.out n (by omega);exact h.lt n (by omega)
def aCK(W:World)(lab own:Nat→Nat)(p:Nat):Nat→Nat:=fun k=>if lab k≠0 then lab k else if own k≠0∧W.heap.size≤k then p else 0
theorem aBO{own:Nat→Nat}{p k:Nat}(h:lab k≠0):aCK W lab own p k=lab k:=if_pos h
theorem aGO{own own':Nat→Nat}{p:Nat}(hp:p≠0)(hlt:∀k,lab k≠0→k<W.heap.size)(hw:∀k,own k≠0→lab k=p)(hf:∀k,own' k≠0→own k≠0∨W.heap.size≤k)(k:Nat)(hk:own' k≠0):aCK W lab own' p k=p:=by
 rcases hf k hk with h|h
 ·have:=hw k h;rw[aBO (by omega)];exact this
 ·have a:lab k=0:=aH fun e=>by have:=hlt k e;omega
  unfold aCK;rw[if_neg (by omega),if_pos ⟨hk,h⟩]
theorem aGG{own':Nat→Nat}{p:Nat}(hlt:∀k,lab k≠0→k<W.heap.size)(hs:W.heap.size≤W'.heap.size)(ho:∀k,own' k≠0→k<W'.heap.size):∀k,aCK W lab own' p k≠0→k<W'.heap.size:=fun k hk=>by
 unfold aCK at hk;split at hk
 ·have:=hlt k (by assumption);omega
 ·split at hk
  ·rename_i h;exact ho k h.1
  ·exact absurd rfl hk
theorem LwAt.goX(h:LwAt W n0 lab g0 P lv c1 c2 c3 c4 c5 c6 next lsR lsM lsE bP bX bY){i:Nat}(hi:i<P.length){x':Mo}{own:Nat→Nat}(hw:∀k,own k≠0→lab k=12+3*i)(ht:MoTo W own (bX i) x' W'):
 ∃lab',LwAt W' n0 lab' g0 (P.set i (x',P[i].2)) lv c1 c2 c3 c4 c5 c6 next lsR lsM lsE bP bX bY∧∀k,lab k≠0→lab' k=lab k:=by
 obtain⟨c,m,p,q⟩:=ht;have g:=p.size;have f:∀k,lab k≠0→lab k≠12+3*i→W'.heap[k]?=W.heap[k]?:=fun k h0 m=>p.block k (h.lt k h0) (fun e=>m (hw k e));have b:∀k,lab k≠0→aCK W lab c (12+3*i) k=lab k:=fun k h=>aBO h;have d:=h.pr;refine⟨aCK W lab c (12+3*i),⟨(f g0 (by rw[h.l0];decide) (by rw[h.l0];omega)).trans h.hg,by rw[b g0 (by rw[h.l0];decide)];exact h.l0,aGG h.lt g m.lt,fun k hkn=>by have:=h.out k hkn;rw[b k (by omega)];exact this,?_,
  h.R.frame (by decide) g (fun k b=>f k (by omega) (by omega)) b,h.M.frame (by decide) g (fun k b=>f k (by omega) (by omega)) b,h.E.frame (by decide) g (fun k b=>f k (by omega) (by omega)) b⟩,b⟩
 refine⟨?_,fun k hkk=>by have:=d.rl k hkk;rw[b k (by omega)];exact this,fun j hj=>?_,fun j hj=>?_,fun j hj=>?_,fun j hj=>?_⟩
 ·rw[bV];exact dF d.row fun k hkk=>by have:=d.rl k hkk;exact f k (by omega) (by omega)
 ·have a:j<P.length:=by simpa using hj
  have:=d.pl j a;exact(f _ (by omega) (by omega)).trans (d.pb j a)
 ·have a:j<P.length:=by simpa using hj
  have:=d.pl j a;rw[b _ (by omega)];exact this
 ·have a:j<P.length:=by simpa using hj
  by_cases e:j=i
  ·subst e;refine⟨c,?_,fun k hkk=>aGO (by omega) h.lt hw q k hkk⟩;simpa using m
  ·obtain⟨n,o,l⟩:=d.xs j a;refine⟨n,?_,fun k hkk=>by have:=l k hkk;rw[b k (by omega)];exact this⟩;simp only[List.getElem_set_ne (Ne.symm e)];exact o.of_heap g fun k hkk=>by have:=l k hkk;exact f k (by omega) (by omega)
 ·have a:j<P.length:=by simpa using hj
  obtain⟨n,V,o,l⟩:=d.ys j a;have r:(P.set i (x',P[i].2))[j].2=P[j].2:=by
   by_cases e:j=i
   ·subst e;simp
   ·simp only[List.getElem_set_ne (Ne.symm e)]
  refine⟨n,V,?_,fun k hkk=>by have:=l k hkk;rw[b k (by omega)];exact this⟩;rw[r];exact o.of_heap g fun k hkk=>by have:=l k hkk;exact f k (by omega) (by omega)
theorem LwAt.goY(h:LwAt W n0 lab g0 P lv c1 c2 c3 c4 c5 c6 next lsR lsM lsE bP bX bY){i:Nat}(hi:i<P.length){y':Rm}{own:Nat→Nat}(hw:∀k,own k≠0→lab k=13+3*i)(ht:RmGo W own (bY i) y' W'):
 ∃lab',LwAt W' n0 lab' g0 (P.set i (P[i].1,y')) lv c1 c2 c3 c4 c5 c6 next lsR lsM lsE bP bX bY∧∀k,lab k≠0→lab' k=lab k:=by
 obtain⟨c,r,m,p,q⟩:=ht;have g:=p.size;have f:∀k,lab k≠0→lab k≠13+3*i→W'.heap[k]?=W.heap[k]?:=fun k h0 m=>p.block k (h.lt k h0) (fun e=>m (hw k e));have b:∀k,lab k≠0→aCK W lab c (13+3*i) k=lab k:=fun k h=>aBO h;have d:=h.pr;refine⟨aCK W lab c (13+3*i),⟨(f g0 (by rw[h.l0];decide) (by rw[h.l0];omega)).trans h.hg,by rw[b g0 (by rw[h.l0];decide)];exact h.l0,aGG h.lt g m.lt,fun k hkn=>by have:=h.out k hkn;rw[b k (by omega)];exact this,?_,
  h.R.frame (by decide) g (fun k b=>f k (by omega) (by omega)) b,h.M.frame (by decide) g (fun k b=>f k (by omega) (by omega)) b,h.E.frame (by decide) g (fun k b=>f k (by omega) (by omega)) b⟩,b⟩
 refine⟨?_,fun k hkk=>by have:=d.rl k hkk;rw[b k (by omega)];exact this,fun j hj=>?_,fun j hj=>?_,fun j hj=>?_,fun j hj=>?_⟩
 ·rw[bV];exact dF d.row fun k hkk=>by have:=d.rl k hkk;exact f k (by omega) (by omega)
 ·have a:j<P.length:=by simpa using hj
  have:=d.pl j a;exact(f _ (by omega) (by omega)).trans (d.pb j a)
 ·have a:j<P.length:=by simpa using hj
  have:=d.pl j a;rw[b _ (by omega)];exact this
 ·have a:j<P.length:=by simpa using hj
  obtain⟨o,n,l⟩:=d.xs j a;have s:(P.set i (P[i].1,y'))[j].1=P[j].1:=by
   by_cases e:j=i
   ·subst e;simp
   ·simp only[List.getElem_set_ne (Ne.symm e)]
  refine⟨o,?_,fun k hkk=>by have:=l k hkk;rw[b k (by omega)];exact this⟩;rw[s];exact n.of_heap g fun k hkk=>by have:=l k hkk;exact f k (by omega) (by omega)
 ·have a:j<P.length:=by simpa using hj
  by_cases e:j=i
  ·subst e;refine⟨c,r,?_,fun k hkk=>aGO (by omega) h.lt hw q k hkk⟩;simpa using m
  ·obtain⟨o,V,n,l⟩:=d.ys j a;refine⟨o,V,?_,fun k hkk=>by have:=l k hkk;rw[b k (by omega)];exact this⟩;simp only[List.getElem_set_ne (Ne.symm e)];exact n.of_heap g fun k hkk=>by have:=l k hkk;exact f k (by omega) (by omega)
end
structure PairOk(gd:Bool)(N:Int)(x:Mo)(y:Rm):Prop where
 ok:MoOk N x
 sim:MSim x y
 ea:Ea x
theorem PairOk.mono{gd:Bool}{N M:Int}{x:Mo}{y:Rm}(h:PairOk gd N x y)(hm:N≤M):PairOk gd M x y:=⟨h.ok.mono hm,h.sim,h.ea⟩
theorem Ea.early{x:Mo}(h:Ea x):aKu x:=fun i hi o ho hn m hm hk hb=>hn (h.ask m hm (Or.inr hk) i hi o ho hb)
theorem aJt{gd:Bool}{f:Cf}(hf:oK f=true):PairOk gd 0 (mC f) (vS f):=⟨MoOk.new hf,aJw f,Ea.new f⟩
section
variable {gd:Bool}{N:Int}{x:Mo}{y:Rm}
theorem aE3(h:PairOk gd N x y)(i k l t:Int):uG y i k l t=yQ x i k l t∧PairOk gd (N+6) (oS x i k l t) (uK y i k l t):=
 have q:=aFV h.sim h.ok i k l t
 ⟨q.1,h.ok.begin i k l t,q.2,h.ea.begin h.ok i k l t⟩
theorem aG8(h:PairOk gd N x y)(i:Int):yK y i=aBC x i∧PairOk gd (N+6) (tF x i) (xY y i):=
 have q:=aHo h.sim h.ok i
 ⟨q.1,h.ok.tick i,q.2,h.ea.tick h.ok i⟩
theorem aHs(h:PairOk gd N x y)(i:Int):yR y i=aBf x i∧PairOk gd (N+6) (rW x i) (xK y i):=
 have q:=aHg h.sim h.ok i
 ⟨q.1,h.ok.lose i,q.2,h.ea.lose h.ok i⟩
theorem aDQ(h:PairOk gd N x y)(i:Int):rP y i=uE x i∧PairOk gd (N+6) (nC x i) (rD y i):=
 have q:=aEp h.sim h.ok i
 ⟨q.1,h.ok.return i,q.2,h.ea.return h.ok i⟩
theorem aG6(h:PairOk gd N x y)(i:Int):qF y i=uR x i∧PairOk gd (N+6) (iS x i) (oV y i):=
 have q:=yS h.sim i
 ⟨q.1,(h.ok.drop i).mono (by omega),q.2,h.ea.same (aBz x i).1 (aBz x i).2⟩
theorem aHG(h:PairOk gd N x y)(i:Int):qF y i=uR x i∧PairOk gd (N+6) (sE x i) (xQ y i):=
 ⟨(yS h.sim i).1,h.ok.copy i,aHP h.sim i,h.ea.copy i⟩
theorem aCT(h:PairOk gd N x y)(i:Int):kV y i=rL x i∧PairOk gd (N+6) (kZ x i) (kY y i):=
 have q:=aCY h.sim h.ok h.ea.early i
 ⟨q.1,h.ok.deliver i,q.2,h.ea.deliver h.ok i⟩
theorem aHv(h:PairOk gd N x y)(i n q:Int)(hn:n≤9223372036854775807):sT y i n q=aBF x i n q∧PairOk gd (N+6) (tJ x i n q) (rZ y i n q):=
 have p:=aHi h.sim h.ok i n q
 ⟨p.1,h.ok.fail i n q hn,p.2,h.ea.fail i n q⟩
theorem aFx(h:PairOk gd N x y)(i:Int):uB y i=xX x i∧PairOk gd (N+6) (oQ x i) (tZ y i):=
 have q:=aF1 h.sim h.ok i
 ⟨q.1,h.ok.start i,q.2,h.ea.start i⟩
end
section
variable {W W':World}{n0 g0 next:Nat}{lab lab':Nat→Nat}{P:List (Mo×Rm)}{lv c1 c2 c3 c4 c5 c6 rv' mv':Value}{lsR lsM lsE ls':List (Value×Nat×Int)}{bP bX bY:Nat→Nat}
theorem LwAt.ownR(h:LwAt W n0 lab g0 P lv c1 c2 c3 c4 c5 c6 next lsR lsM lsE bP bX bY)(hg:W'.heap[g0]?=some (.cells (wdL lv rv' mv' c3 c4 c5 c6 ((next:Int)+1)).toArray 80 (0,0)))
 (hS:StK 47 kRw 7 3 W' lab' rv' mv' ls') (hl:∀k,lab k≠0→lab' k=lab k) (hlt:∀k,lab' k≠0→k<W'.heap.size) (hc:Chg (fun k=>k=g0∨lab k=3∨lab k=3+1∨lab k=0) W W'):
 LwAt W' n0 lab' g0 P lv rv' mv' c3 c4 c5 c6 (next+1) ls' lsM lsE bP bX bY∧Below n0 W W':=by
 have a:∀k,lab k≠0→lab k≠1→¬(lab k=3∨lab k=3+1)→W'.heap[k]?=W.heap[k]?:=fun k h0 b h2=>hc.block k (h.lt k h0) (fun e=>by
  rcases e with e|e|e|e
  ·rw[e,h.l0]at b;exact b rfl
  ·exact h2 (Or.inl e)
  ·exact h2 (Or.inr e)
  ·exact h0 e)
 refine⟨⟨hg,by rw[hl g0 (by rw[h.l0];decide)];exact h.l0,hlt,fun k hk=>by have:=h.out k hk;rw[hl k (by omega)];exact this,h.pr.frame h.lt hc.size (fun k hk=>a k (by omega) (by omega) (by omega)) hl,
  hS,h.M.frame (by decide) hc.size (fun k hk=>a k (by omega) (by omega) (by omega)) hl,h.E.frame (by decide) hc.size (fun k hk=>a k (by omega) (by omega) (by omega)) hl⟩,hc.os,hc.tape,hc.output,hc.size,fun k hk=>by have b:=h.out k hk;exact a k (by omega) (by omega) (by omega)⟩
theorem LwAt.ownM(h:LwAt W n0 lab g0 P lv c1 c2 c3 c4 c5 c6 next lsR lsM lsE bP bX bY)(hg:W'.heap[g0]?=some (.cells (wdL lv c1 c2 rv' mv' c5 c6 ((next:Int)+1)).toArray 80 (0,0)))
 (hS:StK 88 kMg 10 5 W' lab' rv' mv' ls') (hl:∀k,lab k≠0→lab' k=lab k) (hlt:∀k,lab' k≠0→k<W'.heap.size) (hc:Chg (fun k=>k=g0∨lab k=5∨lab k=5+1∨lab k=0) W W'):
 LwAt W' n0 lab' g0 P lv c1 c2 rv' mv' c5 c6 (next+1) lsR ls' lsE bP bX bY∧Below n0 W W':=by
 have a:∀k,lab k≠0→lab k≠1→¬(lab k=5∨lab k=5+1)→W'.heap[k]?=W.heap[k]?:=fun k h0 b h2=>hc.block k (h.lt k h0) (fun e=>by
  rcases e with e|e|e|e
  ·rw[e,h.l0]at b;exact b rfl
  ·exact h2 (Or.inl e)
  ·exact h2 (Or.inr e)
  ·exact h0 e)
 refine⟨⟨hg,by rw[hl g0 (by rw[h.l0];decide)];exact h.l0,hlt,fun k hk=>by have:=h.out k hk;rw[hl k (by omega)];exact this,h.pr.frame h.lt hc.size (fun k hk=>a k (by omega) (by omega) (by omega)) hl,
  h.R.frame (by decide) hc.size (fun k hk=>a k (by omega) (by omega) (by omega)) hl,hS,h.E.frame (by decide) hc.size (fun k hk=>a k (by omega) (by omega) (by omega)) hl⟩,hc.os,hc.tape,hc.output,hc.size,fun k hk=>by have b:=h.out k hk;exact a k (by omega) (by omega) (by omega)⟩
theorem LwAt.ownE(h:LwAt W n0 lab g0 P lv c1 c2 c3 c4 c5 c6 next lsR lsM lsE bP bX bY)(hg:W'.heap[g0]?=some (.cells (wdL lv c1 c2 c3 c4 rv' mv' ((next:Int)+1)).toArray 80 (0,0)))
 (hS:StK 43 kEv 19 7 W' lab' rv' mv' ls') (hl:∀k,lab k≠0→lab' k=lab k) (hlt:∀k,lab' k≠0→k<W'.heap.size) (hc:Chg (fun k=>k=g0∨lab k=7∨lab k=7+1∨lab k=0) W W'):
 LwAt W' n0 lab' g0 P lv c1 c2 c3 c4 rv' mv' (next+1) lsR lsM ls' bP bX bY∧Below n0 W W':=by
 have a:∀k,lab k≠0→lab k≠1→¬(lab k=7∨lab k=7+1)→W'.heap[k]?=W.heap[k]?:=fun k h0 b h2=>hc.block k (h.lt k h0) (fun e=>by
  rcases e with e|e|e|e
  ·rw[e,h.l0]at b;exact b rfl
  ·exact h2 (Or.inl e)
  ·exact h2 (Or.inr e)
  ·exact h0 e)
 refine⟨⟨hg,by rw[hl g0 (by rw[h.l0];decide)];exact h.l0,hlt,fun k hk=>by have:=h.out k hk;rw[hl k (by omega)];exact this,h.pr.frame h.lt hc.size (fun k hk=>a k (by omega) (by omega) (by omega)) hl,
  h.R.frame (by decide) hc.size (fun k hk=>a k (by omega) (by omega) (by omega)) hl,h.M.frame (by decide) hc.size (fun k hk=>a k (by omega) (by omega) (by omega)) hl,hS⟩,hc.os,hc.tape,hc.output,hc.size,fun k hk=>by have b:=h.out k hk;exact a k (by omega) (by omega) (by omega)⟩
end
structure LwBd(N:Int)(B next:Nat)(lsR lsM lsE:List (Value×Nat×Int)):Prop where
 n0:0≤N
 nx:next≤B
 lR:lsR.length≤4*B
 lM:lsM.length≤4*B
 lE:lsE.length≤4*B
 kR:∀q ∈ lsR,(q.2.1:Int)≤N+10
 kM:∀q ∈ lsM,(q.2.1:Int)≤N+10
 kE:∀q ∈ lsE,(q.2.1:Int)≤N+10
theorem LwBd.mono{N M:Int}{B C next:Nat}{lsR lsM lsE:List (Value×Nat×Int)}(h:LwBd N B next lsR lsM lsE)(hN:N≤M)(hB:B≤C):LwBd M C next lsR lsM lsE:=
 ⟨by have:=h.n0;omega,by have:=h.nx;omega,by have:=h.lR;omega,by have:=h.lM;omega,by have:=h.lE;omega,fun q hq=>by have:=h.kR q hq;omega,fun q hq=>by have:=h.kM q hq;omega,fun q hq=>by have:=h.kE q hq;omega⟩
def LwW(W:World)(n0 g0:Nat)(N:Int)(B L:Nat)(bP:Nat→Nat):Prop:=∃lab P lv c1 c2 c3 c4 c5 c6 next lsR lsM lsE bX bY,LwAt W n0 lab g0 P lv c1 c2 c3 c4 c5 c6 next lsR lsM lsE bP bX bY∧P.length=L∧(∀i (h:i<P.length),PairOk false N P[i].1 P[i].2)∧LwBd N B next lsR lsM lsE
theorem LwW.mono{W:World}{n0 g0 B C L:Nat}{N M:Int}{bP:Nat→Nat}(h:LwW W n0 g0 N B L bP)(hN:N≤M)(hB:B≤C):LwW W n0 g0 M C L bP:=by
 obtain⟨c,P,r,l,m,n,t,o,s,a,d,e,b,q,j,k,f,p,g⟩:=h;exact⟨c,P,r,l,m,n,t,o,s,a,d,e,b,q,j,k,f,fun i hi=>(p i hi).mono hN,g.mono hN hB⟩
theorem LwW.kept{W W':World}{n0 g0 B L:Nat}{N:Int}{bP:Nat→Nat}(h:LwW W n0 g0 N B L bP)(hc:Chg NoS W W'):LwW W' n0 g0 N B L bP:=by
 obtain⟨c,P,q,k,l,m,s,n,r,a,d,e,b,p,i,j,f,o,g⟩:=h;exact⟨c,P,q,k,l,m,s,n,r,a,d,e,b,p,i,j.kept hc (fun _ _ h=>h),f,o,g⟩
theorem LwW.size{W:World}{n0 g0 B L:Nat}{N:Int}{bP:Nat→Nat}(h:LwW W n0 g0 N B L bP):n0≤W.heap.size:=by
 obtain⟨f,P,k,o,g,j,p,l,m,a,e,d,c,i,n,b,_⟩:=h;exact b.size
end Go.Proofs.YtbbdgokdfhdpiaaGreatDoor
