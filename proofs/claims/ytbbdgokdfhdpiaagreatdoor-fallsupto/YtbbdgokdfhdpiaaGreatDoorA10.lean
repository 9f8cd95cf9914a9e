/- A part. -/
import Derived.Conc.EventLaws
import Derived.Laws.CopyRow
import Derived.Test.YtbbdgokdfhdpiaaGreatDoorA9
namespace Go.Proofs.YtbbdgokdfhdpiaaGreatDoor
set_option linter.all false
set_option maxRecDepth 100000
set_option maxHeartbeats 0
open Go.Proofs.Tryz Go.RowKit
section
variable {W W':World}{F:Nat→Prop}{b g:Nat}{f:Cf}{c:Ct}{ch tk hd wt:Nat}{dv:Value}
theorem ClAt.keep(h:ClAt W F b g f c ch tk hd wt dv)(hc:Chg (S3 tk hd wt) W W'){x:Nat}{cs:Array Value}{t:TypeId}{fr:Nat×Nat}(hx:W.heap[x]?=some (.cells cs t fr)):W'.heap[x]?=some (.cells cs t fr):=by
 obtain⟨_,_,e⟩:=h.maps.toks.obj;obtain⟨_,_,d⟩:=h.maps.holds.obj;obtain⟨_,_,a⟩:=h.maps.wat.obj;refine hc.kept hx (fun hk=>?_);rcases hk with rfl|rfl|rfl
 ·exact eX hx e (by simp) rfl
 ·exact eX hx d (by simp) rfl
 ·exact eX hx a (by simp) rfl
theorem ClAt.inF(h:ClAt W F b g f c ch tk hd wt dv):∀k,S3 tk hd wt k→F k:=by
 intro k a;rcases a with rfl|rfl|rfl
 ·exact h.maps.ft
 ·exact h.maps.fh
 ·exact h.maps.fw
theorem ClAt.cells(h:ClAt W F b g f c ch tk hd wt dv)(hc:Chg (fun k=>k=b) W W')(c':Ct)(dv':Value)(hup:c'.up=c.up)(ht:c'.toks=c.toks)(hh:c'.holds=c.holds)(hw:c'.wat=c.wat)
 (hb:W'.heap[b]?=some (.cells (clL f c' ch tk hd wt g dv').toArray 150 (0,0))) (hd':DoAt W' F tk hd wt dv' c'.doing):ClAt W' F b g f c' ch tk hd wt dv':=by
 refine⟨hb,h.fb,?_,h.fc,⟨?_,?_,?_,h.maps.th,h.maps.tw,h.maps.hw,h.maps.ft,h.maps.fh,h.maps.fw⟩,hd',fun k hk=>aG (h.lt k hk) hc.size⟩
 ·rw[hup];exact hc.kept h.chan (fun e=>eX h.chan h.blk (by simp) e)
 ·rw[ht];exact h.maps.toks.kept hc (fun e=>h.bt e.symm)
 ·rw[hh];exact h.maps.holds.kept hc (fun e=>h.bh e.symm)
 ·rw[hw];exact h.maps.wat.kept hc (fun e=>h.bw e.symm)
end
theorem cY(W:World)(b i:Nat)(v:Value):Chg (fun k=>k=b) W (W.setCell ⟨b,i,none⟩ v):=(Chg.refl _ _).setCell _ _ (fun _=>rfl)
abbrev wA(r o t:Int):Value:=.agg #[.int .i64 r,.int .i64 o,.int .i64 t]
theorem tW(c:Ct)(o:On)(res tok:Int)(v:Vl):(gW c o res tok v).num=c.num:=by
 unfold gW;split
 ·unfold kP oI;dsimp only;split<;>rfl
 ·split
  ·rfl
  ·split
   ·unfold nM;dsimp only;split<;>rfl
   ·rfl
theorem xF(W:World)(F G:Nat→Prop)(b g:Nat)(f:Cf)(av cv:Value)(c:Ct)(o:On)(net:List Mg)(tr:List Ev)(res own tok:Int)(v:Vl)(h:Sys W F G b g f av cv c net tr)(hd:c.doing=some o)(hn1:0≤c.num)(hn2:c.num≤1000)
 (hb1:0≤o.began) (hb2:o.began≤1000000000000) (ht1:0≤o.ttl) (ht2:o.ttl≤1000000) (hn:net.length≤100000000000) (ht:tr.length≤100000000000):
 Calls prog 164 #[.pointer (some ⟨b,0,none⟩),wA res own tok,vlV v] W fun r W'=>r= .returned (.tuple #[])∧After W F G b g f av cv (gW c o res tok v) net (tr++rH c o res own tok) W':=by
 obtain⟨⟨E,D,l,wt,dv,V⟩,c0,b5⟩:=h;have b8:=V.doing;rw[hd]at b8;obtain⟨H,an,mv,rfl,b9,_⟩:=b8;generalize hX:(W.alloc (.cells #[.int .i64 res,.int .i64 own,.int .i64 tok] 191)).alloc (.cells #[.int .i64 v.own,.int .i64 v.tok,.int .i64 v.ttl,.int .i64 v.seq] 56)=W0;have HX:=cN hX;have P:Chg NoS W W0:=by rw[←hX];exact Chg.alloc2 _ _ _
 have be:W0.heap[W.heap.size]?=some (.cells #[.int .i64 res,.int .i64 own,.int .i64 tok] 191 (0,0)):=by rw[←hX];exact dM _ (aA W _)
 have bv:W0.heap[W.heap.size+1]?=some (.cells (vlL v).toArray 56 (0,0)):=by
  rw[←hX];have:=aA (W.alloc (.cells #[.int .i64 res,.int .i64 own,.int .i64 tok] 191)) (.cells #[.int .i64 v.own,.int .i64 v.tok,.int .i64 v.ttl,.int .i64 v.seq] 56);simpa using this
 have c4:W0.heap.size=W.heap.size+2:=by rw[←hX];simp
 clear hX;have i:=V.kept P (fun _ _ h=>h);have a8:=c0.kept P (fun _ _ h=>h);have t:=b9.of_heap (W':=W0) (fun k hk=>P.block k (V.lt k hk) (fun h=>h));have c2:=V.lt;clear V c0 b9;have b3:=t.1;have X:=gA i.blk b3 (by decide);have b6:=gA i.blk be (by decide);have b4:=gA i.blk bv (by decide);have C:Chg (fun k=>k=b) W0 (W0.setCell ⟨b,16,none⟩ (.pointer none)):=cY _ _ _ _;have b0:=i.cells C {c with doing:=none} (.pointer none) rfl rfl rfl rfl (dD i.blk 16 _) rfl;have a5:=C.kept be (fun e=>b6 e.symm);have b2:=C.kept bv (fun e=>b4 e.symm);have a0:=C.kept b3 (fun e=>X e.symm);have b1:=a8.kept C (fun k hk e=>b5 b i.fb (e▸hk));have a9:OnAt (W0.setCell ⟨b,16,none⟩ (.pointer none)) F H an mv o:=by
  refine⟨a0,t.2.1,?_,C.row t.2.2.2.1 (fun q hq e=>fN t.2.2.2.1 i.blk (by decide) q hq e),t.2.2.2.2⟩;rcases t.2.2.1 with h|⟨am,e,hm,hf⟩
  ·exact Or.inl h
  ·exact Or.inr ⟨am,e,hm.kept C (fun e=>(hm.ne_cells i.blk) e),hf⟩
 have L:=i.cell 16 _ rfl;have K:=i.froz 16;have Q:Hid (Went W (W0.setCell ⟨b,16,none⟩ (.pointer none)) F F G G):=⟨((P.mono (T:=fun k=>F k∨G k) (fun _ _ h=>h.elim))).trans C (fun x _ e=>Or.inl (e▸i.fb)),fun _ h=>Or.inl h,fun _ h=>Or.inl h⟩;generalize b7:W0.setCell ⟨b,16,none⟩ (.pointer none)=W1 at*;have O:=cN b7;have d:=cN b0;have c3:Hid (OnAt W1 F H an mv o):=a9;have R:=cN a5;have c5:=cN b2;have M:Hid (NtAt W1 G g av cv net tr):=b1;have HB:Hid (b≠H∧b≠W.heap.size∧b≠W.heap.size+1):=⟨X,b6,b4⟩;have u:=cN b5;have d0:=cO a5 0 _ rfl;have d2:=cO a5 2 _ rfl;have d4:=cO a0 1 _ rfl;have N:=cN a0;have c1:=cN (cR (W:=W1.drew) b2);clear b7 i a8 t C P b0 b1 a9 X b6 b4 b5 a5 b2 a0 be bv b3 c2 hd c4;go_enter func164,ntmps164;by_cases h1:res=1∨res=3∨res=2∨res=4
 ·rcases h1 with rfl|rfl|rfl|rfl
  ·have J:=aEc W1 F b g f {c with doing:=none} E D l wt (.pointer none) H an mv o tok d.out c3.out hb1 hb2 ht1 ht2;go_wp2_with (first|rw[HX.out]|rw[O.out]|(go_at_call 187;refine J.mono ?_;rintro r a ⟨rfl,n,m⟩));clear J;change ClAt a F b g f (gW c o 1 tok v) E D l wt (.pointer none)at n;have s:=d.out.keep m R.out;have w:=d.out.keep m N.out;have a3:=n.cell 10 _ rfl;have c7:a.cell? ⟨b,7,none⟩=some (.int .i64 c.num):=by
    have:=n.cell 7 _ rfl;rw[tW]at this;exact this
   have a1:=cO s 0 _ rfl;have a2:=cO s 1 _ rfl;have a7:=cO s 2 _ rfl;have o5:=cO w 5 _ rfl;have y:Hid (∀j x,([.int .i64 o.kind,.int .i64 o.lock,.int .i64 o.ttl]:List Value)[j]?=some x→a.drew.cell? ((⟨H,0,none⟩:Addr).add j)=some x):=eL (W:=a.drew) w 0 _ (fun j x hj=>by
    have a6:j<3:=(aF.1 hj).1;rcases j with _|_|_|j
    ·exact hj
    ·exact hj
    ·exact hj
    ·omega)
   have Z:Hid (NtAt a G g av cv net tr):=M.out.kept m (fun k hk hs=>u.out k (d.out.inF k hs) hk);have K1:=cN n;have Y:=cN (Q.out.trans ⟨m.mono (fun k _ hk=>Or.inl (d.out.inF k hk)),fun _ h=>Or.inl h,fun _ h=>Or.inl h⟩);have I:=jW a.drew F G b g f av cv (gW c o 1 tok v) net tr (gE c.num o 1 own tok) (Sys.drew ⟨⟨E,D,l,wt,.pointer none,K1.out⟩,Z.out,u.out⟩) hn ht;have z:Hid (Calls prog 77 #[.pointer (some ⟨g,0,none⟩),evV (gE c.num o 1 own tok)] a.drew fun r W'=>r= .returned (.tuple #[])∧∃G',Sys W' F G' b g f av cv (gW c o 1 tok v) (net++dJ [gE c.num o 1 own tok]) (tr++[gE c.num o 1 own tok])∧Chg G a.drew W'∧∀k,G' k→G k∨a.drew.heap.size≤k):=I;clear I s w n m d0 d2 d4 L K;refine eD [0,0,0,1,0,0,0,1,0,0,0,1,0,1,0,1,0,1,0,0,0,0,1,0] (by kernel_rfl) (fun _ _ _ _=>rfl) ?_;simp only[dC,dB];iterate 11 (apply sB rfl rfl;·(intro x h;(try cases h rfl);go_simp;with_reducible rfl))
   try simp only[pA]
   refine dA (v:=opV o.kind o.lock o.ttl) rfl (fun x hx=>cU 68 _ rfl ⟨H,0,none⟩ rfl [.int .i64 o.kind,.int .i64 o.lock,.int .i64 o.ttl] _ (by subst hx;exact y.out) underlying68 rfl (by kernel_rfl)) ?_;iterate 12 (apply sB rfl rfl;·(intro x h;(try cases h rfl);go_simp;with_reducible rfl))
   refine cP ?_;try simp only[pA]
   go_wp2_with fail;refine z.out.mono ?_;rintro r W3 ⟨rfl,G3,p,B,A⟩;go_wp2_with fail;go_end0;refine⟨rfl,F,G3,?_,Y.out.trans ⟨B.of_drew.mono (fun _ _ h=>Or.inr h),fun _ h=>Or.inl h,A⟩⟩;rw[fE _ (show(3:Int)≠1 by decide),aC]at p;exact p
  ·have J:=aAU W1 F b g f {c with doing:=none} E D l wt (.pointer none) o.lock d.out;go_wp2_with (first|rw[HX.out]|rw[O.out]|(go_at_call 188;refine J.mono ?_;rintro r a ⟨rfl,n,m⟩));clear J;change ClAt a F b g f (gW c o 3 tok v) E D l wt (.pointer none)at n;have s:=d.out.keep m R.out;have w:=d.out.keep m N.out;have a3:=n.cell 10 _ rfl;have c7:a.cell? ⟨b,7,none⟩=some (.int .i64 c.num):=by
    have:=n.cell 7 _ rfl;rw[tW]at this;exact this
   have a1:=cO s 0 _ rfl;have a2:=cO s 1 _ rfl;have a7:=cO s 2 _ rfl;have o5:=cO w 5 _ rfl;have y:Hid (∀j x,([.int .i64 o.kind,.int .i64 o.lock,.int .i64 o.ttl]:List Value)[j]?=some x→a.drew.cell? ((⟨H,0,none⟩:Addr).add j)=some x):=eL (W:=a.drew) w 0 _ (fun j x hj=>by
    have a6:j<3:=(aF.1 hj).1;rcases j with _|_|_|j
    ·exact hj
    ·exact hj
    ·exact hj
    ·omega)
   have Z:Hid (NtAt a G g av cv net tr):=M.out.kept m (fun k hk hs=>u.out k (d.out.inF k hs) hk);have K1:=cN n;have Y:=cN (Q.out.trans ⟨m.mono (fun k _ hk=>Or.inl (d.out.inF k hk)),fun _ h=>Or.inl h,fun _ h=>Or.inl h⟩);have I:=jW a.drew F G b g f av cv (gW c o 3 tok v) net tr (gE c.num o 3 own tok) (Sys.drew ⟨⟨E,D,l,wt,.pointer none,K1.out⟩,Z.out,u.out⟩) hn ht;have z:Hid (Calls prog 77 #[.pointer (some ⟨g,0,none⟩),evV (gE c.num o 3 own tok)] a.drew fun r W'=>r= .returned (.tuple #[])∧∃G',Sys W' F G' b g f av cv (gW c o 3 tok v) (net++dJ [gE c.num o 3 own tok]) (tr++[gE c.num o 3 own tok])∧Chg G a.drew W'∧∀k,G' k→G k∨a.drew.heap.size≤k):=I;clear I s w n m d0 d2 d4 L K;refine eD [0,0,0,1,0,0,0,1,0,0,0,1,0,1,0,1,0,1,0,0,0,0,1,0] (by kernel_rfl) (fun _ _ _ _=>rfl) ?_;simp only[dC,dB];iterate 11 (apply sB rfl rfl;·(intro x h;(try cases h rfl);go_simp;with_reducible rfl))
   try simp only[pA]
   refine dA (v:=opV o.kind o.lock o.ttl) rfl (fun x hx=>cU 68 _ rfl ⟨H,0,none⟩ rfl [.int .i64 o.kind,.int .i64 o.lock,.int .i64 o.ttl] _ (by subst hx;exact y.out) underlying68 rfl (by kernel_rfl)) ?_;iterate 12 (apply sB rfl rfl;·(intro x h;(try cases h rfl);go_simp;with_reducible rfl))
   refine cP ?_;try simp only[pA]
   go_wp2_with fail;refine z.out.mono ?_;rintro r W3 ⟨rfl,G3,p,B,A⟩;go_wp2_with fail;go_end0;refine⟨rfl,F,G3,?_,Y.out.trans ⟨B.of_drew.mono (fun _ _ h=>Or.inr h),fun _ h=>Or.inl h,A⟩⟩;rw[fE _ (show(3:Int)≠1 by decide),aC]at p;exact p
  ·have J:=xD W1.drew F b g f {c with doing:=none} E D l wt (.pointer none) o.lock v (d.out.kept (S:=NoS) (Chg.refl _ _).drew (fun _ _ h=>h)) hn1 hn2;go_wp2_with (first|rw[HX.out]|rw[O.out]);refine eD [0,0,0,0,0,1,1] (by kernel_rfl) (fun _ _ _ _=>rfl) ?_;simp only[dC,dB];iterate 6 (apply sB rfl rfl;·(intro x h;(try cases h rfl);go_simp;with_reducible rfl))
   try simp only[pA]
   refine dA (v:=vlV v) rfl (fun x hx=>cU 56 _ rfl ⟨W.heap.size+1,0,none⟩ rfl (vlL v) _ (by subst hx;exact c1.out) underlying56 rfl (by kernel_rfl)) ?_;refine cP ?_;go_wp2_with (go_at_call 189;refine J.mono ?_;rintro r a ⟨rfl,n,U⟩);clear J;have m:=U.of_drew;clear U;change ClAt a F b g f (gW c o 2 tok v) E D l wt (.pointer none)at n;have s:=d.out.keep m R.out;have w:=d.out.keep m N.out;have a3:=n.cell 10 _ rfl;have c7:a.cell? ⟨b,7,none⟩=some (.int .i64 c.num):=by
    have:=n.cell 7 _ rfl;rw[tW]at this;exact this
   have a1:=cO s 0 _ rfl;have a2:=cO s 1 _ rfl;have a7:=cO s 2 _ rfl;have o5:=cO w 5 _ rfl;have y:Hid (∀j x,([.int .i64 o.kind,.int .i64 o.lock,.int .i64 o.ttl]:List Value)[j]?=some x→a.drew.cell? ((⟨H,0,none⟩:Addr).add j)=some x):=eL (W:=a.drew) w 0 _ (fun j x hj=>by
    have a6:j<3:=(aF.1 hj).1;rcases j with _|_|_|j
    ·exact hj
    ·exact hj
    ·exact hj
    ·omega)
   have Z:Hid (NtAt a G g av cv net tr):=M.out.kept m (fun k hk hs=>u.out k (d.out.inF k hs) hk);have K1:=cN n;have Y:=cN (Q.out.trans ⟨m.mono (fun k _ hk=>Or.inl (d.out.inF k hk)),fun _ h=>Or.inl h,fun _ h=>Or.inl h⟩);have I:=jW a.drew F G b g f av cv (gW c o 2 tok v) net tr (gE c.num o 2 own tok) (Sys.drew ⟨⟨E,D,l,wt,.pointer none,K1.out⟩,Z.out,u.out⟩) hn ht;have z:Hid (Calls prog 77 #[.pointer (some ⟨g,0,none⟩),evV (gE c.num o 2 own tok)] a.drew fun r W'=>r= .returned (.tuple #[])∧∃G',Sys W' F G' b g f av cv (gW c o 2 tok v) (net++dJ [gE c.num o 2 own tok]) (tr++[gE c.num o 2 own tok])∧Chg G a.drew W'∧∀k,G' k→G k∨a.drew.heap.size≤k):=I;clear I s w n m d0 d2 d4 L K;refine eD [0,0,0,1,0,0,0,1,0,0,0,1,0,1,0,1,0,1,0,0,0,0,1,0] (by kernel_rfl) (fun _ _ _ _=>rfl) ?_;simp only[dC,dB];iterate 11 (apply sB rfl rfl;·(intro x h;(try cases h rfl);go_simp;with_reducible rfl))
   try simp only[pA]
   refine dA (v:=opV o.kind o.lock o.ttl) rfl (fun x hx=>cU 68 _ rfl ⟨H,0,none⟩ rfl [.int .i64 o.kind,.int .i64 o.lock,.int .i64 o.ttl] _ (by subst hx;exact y.out) underlying68 rfl (by kernel_rfl)) ?_;iterate 12 (apply sB rfl rfl;·(intro x h;(try cases h rfl);go_simp;with_reducible rfl))
   refine cP ?_;try simp only[pA]
   go_wp2_with fail;refine z.out.mono ?_;rintro r W3 ⟨rfl,G3,p,B,A⟩;go_wp2_with fail;go_end0;refine⟨rfl,F,G3,?_,Y.out.trans ⟨B.of_drew.mono (fun _ _ h=>Or.inr h),fun _ h=>Or.inl h,A⟩⟩;rw[fE _ (show(3:Int)≠1 by decide),aC]at p;exact p
  ·have J:=xD W1.drew F b g f {c with doing:=none} E D l wt (.pointer none) o.lock v (d.out.kept (S:=NoS) (Chg.refl _ _).drew (fun _ _ h=>h)) hn1 hn2;go_wp2_with (first|rw[HX.out]|rw[O.out]);refine eD [0,0,0,0,0,1,1] (by kernel_rfl) (fun _ _ _ _=>rfl) ?_;simp only[dC,dB];iterate 6 (apply sB rfl rfl;·(intro x h;(try cases h rfl);go_simp;with_reducible rfl))
   try simp only[pA]
   refine dA (v:=vlV v) rfl (fun x hx=>cU 56 _ rfl ⟨W.heap.size+1,0,none⟩ rfl (vlL v) _ (by subst hx;exact c1.out) underlying56 rfl (by kernel_rfl)) ?_;refine cP ?_;go_wp2_with (go_at_call 189;refine J.mono ?_;rintro r a ⟨rfl,n,U⟩);clear J;have m:=U.of_drew;clear U;change ClAt a F b g f (gW c o 4 tok v) E D l wt (.pointer none)at n;have s:=d.out.keep m R.out;have w:=d.out.keep m N.out;have a3:=n.cell 10 _ rfl;have c7:a.cell? ⟨b,7,none⟩=some (.int .i64 c.num):=by
    have:=n.cell 7 _ rfl;rw[tW]at this;exact this
   have a1:=cO s 0 _ rfl;have a2:=cO s 1 _ rfl;have a7:=cO s 2 _ rfl;have o5:=cO w 5 _ rfl;have y:Hid (∀j x,([.int .i64 o.kind,.int .i64 o.lock,.int .i64 o.ttl]:List Value)[j]?=some x→a.drew.cell? ((⟨H,0,none⟩:Addr).add j)=some x):=eL (W:=a.drew) w 0 _ (fun j x hj=>by
    have a6:j<3:=(aF.1 hj).1;rcases j with _|_|_|j
    ·exact hj
    ·exact hj
    ·exact hj
    ·omega)
   have Z:Hid (NtAt a G g av cv net tr):=M.out.kept m (fun k hk hs=>u.out k (d.out.inF k hs) hk);have K1:=cN n;have Y:=cN (Q.out.trans ⟨m.mono (fun k _ hk=>Or.inl (d.out.inF k hk)),fun _ h=>Or.inl h,fun _ h=>Or.inl h⟩);have I:=jW a.drew F G b g f av cv (gW c o 4 tok v) net tr (gE c.num o 4 own tok) (Sys.drew ⟨⟨E,D,l,wt,.pointer none,K1.out⟩,Z.out,u.out⟩) hn ht;have z:Hid (Calls prog 77 #[.pointer (some ⟨g,0,none⟩),evV (gE c.num o 4 own tok)] a.drew fun r W'=>r= .returned (.tuple #[])∧∃G',Sys W' F G' b g f av cv (gW c o 4 tok v) (net++dJ [gE c.num o 4 own tok]) (tr++[gE c.num o 4 own tok])∧Chg G a.drew W'∧∀k,G' k→G k∨a.drew.heap.size≤k):=I;clear I s w n m d0 d2 d4 L K;refine eD [0,0,0,1,0,0,0,1,0,0,0,1,0,1,0,1,0,1,0,0,0,0,1,0] (by kernel_rfl) (fun _ _ _ _=>rfl) ?_;simp only[dC,dB];iterate 11 (apply sB rfl rfl;·(intro x h;(try cases h rfl);go_simp;with_reducible rfl))
   try simp only[pA]
   refine dA (v:=opV o.kind o.lock o.ttl) rfl (fun x hx=>cU 68 _ rfl ⟨H,0,none⟩ rfl [.int .i64 o.kind,.int .i64 o.lock,.int .i64 o.ttl] _ (by subst hx;exact y.out) underlying68 rfl (by kernel_rfl)) ?_;iterate 12 (apply sB rfl rfl;·(intro x h;(try cases h rfl);go_simp;with_reducible rfl))
   refine cP ?_;try simp only[pA]
   go_wp2_with fail;refine z.out.mono ?_;rintro r W3 ⟨rfl,G3,p,B,A⟩;go_wp2_with fail;go_end0;refine⟨rfl,F,G3,?_,Y.out.trans ⟨B.of_drew.mono (fun _ _ h=>Or.inr h),fun _ h=>Or.inl h,A⟩⟩;rw[fE _ (show(3:Int)≠1 by decide),aC]at p;exact p
 ·have q1:(res==1)=false:=by simp;omega
  have q2:(res==3)=false:=by simp;omega
  have q3:(res==2)=false:=by simp;omega
  have q4:(res==4)=false:=by simp;omega
  have HR:Hid (¬(res=1∨res=3∨res=2∨res=4)):=h1;clear h1;go_wp2_with (first|rw[HX.out]|rw[O.out]);have n:ClAt W1 F b g f (gW c o res tok v) E D l wt (.pointer none):=by
   have h1:=HR.out;unfold gW;rw[if_neg (fun e=>h1 (Or.inl e)),if_neg (fun e=>h1 (Or.inr (Or.inl e))),if_neg (fun e=>h1 (Or.inr (Or.inr e)))];exact d.out
  obtain⟨a,a4⟩:∃a,W1=a:=⟨W1,rfl⟩;have m:Chg (S3 D l wt) W1 a:=by rw[←a4];exact Chg.refl _ _
  rw[a4]at n;rw[a4];clear a4 q1 q2 q3 q4;have s:=d.out.keep m R.out;have w:=d.out.keep m N.out;have a3:=n.cell 10 _ rfl;have c7:a.cell? ⟨b,7,none⟩=some (.int .i64 c.num):=by
   have:=n.cell 7 _ rfl;rw[tW]at this;exact this
  have a1:=cO s 0 _ rfl;have a2:=cO s 1 _ rfl;have a7:=cO s 2 _ rfl;have o5:=cO w 5 _ rfl;have y:Hid (∀j x,([.int .i64 o.kind,.int .i64 o.lock,.int .i64 o.ttl]:List Value)[j]?=some x→a.drew.cell? ((⟨H,0,none⟩:Addr).add j)=some x):=eL (W:=a.drew) w 0 _ (fun j x hj=>by
   have a6:j<3:=(aF.1 hj).1;rcases j with _|_|_|j
   ·exact hj
   ·exact hj
   ·exact hj
   ·omega)
  have Z:Hid (NtAt a G g av cv net tr):=M.out.kept m (fun k hk hs=>u.out k (d.out.inF k hs) hk);have K1:=cN n;have Y:=cN (Q.out.trans ⟨m.mono (fun k _ hk=>Or.inl (d.out.inF k hk)),fun _ h=>Or.inl h,fun _ h=>Or.inl h⟩);have I:=jW a.drew F G b g f av cv (gW c o res tok v) net tr (gE c.num o res own tok) (Sys.drew ⟨⟨E,D,l,wt,.pointer none,K1.out⟩,Z.out,u.out⟩) hn ht;have z:Hid (Calls prog 77 #[.pointer (some ⟨g,0,none⟩),evV (gE c.num o res own tok)] a.drew fun r W'=>r= .returned (.tuple #[])∧∃G',Sys W' F G' b g f av cv (gW c o res tok v) (net++dJ [gE c.num o res own tok]) (tr++[gE c.num o res own tok])∧Chg G a.drew W'∧∀k,G' k→G k∨a.drew.heap.size≤k):=I;clear I s w n m d0 d2 d4 L K;refine eD [0,0,0,1,0,0,0,1,0,0,0,1,0,1,0,1,0,1,0,0,0,0,1,0] (by kernel_rfl) (fun _ _ _ _=>rfl) ?_;simp only[dC,dB];iterate 11 (apply sB rfl rfl;·(intro x h;(try cases h rfl);go_simp;with_reducible rfl))
  try simp only[pA]
  refine dA (v:=opV o.kind o.lock o.ttl) rfl (fun x hx=>cU 68 _ rfl ⟨H,0,none⟩ rfl [.int .i64 o.kind,.int .i64 o.lock,.int .i64 o.ttl] _ (by subst hx;exact y.out) underlying68 rfl (by kernel_rfl)) ?_;iterate 12 (apply sB rfl rfl;·(intro x h;(try cases h rfl);go_simp;with_reducible rfl))
  refine cP ?_;try simp only[pA]
  go_wp2_with fail;refine z.out.mono ?_;rintro r W3 ⟨rfl,G3,p,B,A⟩;go_wp2_with fail;go_end0;refine⟨rfl,F,G3,?_,Y.out.trans ⟨B.of_drew.mono (fun _ _ h=>Or.inr h),fun _ h=>Or.inl h,A⟩⟩;rw[fE _ (show(3:Int)≠1 by decide),aC]at p;exact p
theorem aCB{P:Program}(t:TypeId)(w:World):(Instr.makeMap t none).run P w= .ok (.map (some w.heap.size)) (w.alloc (.map #[] 0)):=rfl
theorem aBP(W:World)(g:Nat)(cs:Array Value):Chg (fun k=>k=g) W (W.setRow g cs):=⟨rfl,rfl,rfl,by simp[World.setRow],fun k _ hk=>setRow_other W g k cs hk⟩
theorem tL{P:Program}(w:World)(g o:Nat)(ty t:TypeId)(cur cells:Array Value)(hg:w.heap[g]?=some (.cells cur t (0,0)))(hi:(P.info? ty).map (·.size)=some cells.size)(h1:cells.all (·.oneCell')=true)(hfit:o+cells.size≤cur.size):
 (Instr.storeAt ty (.pointer (some ⟨g,o,none⟩)) (.agg cells)).run P w= .ok () (w.setRow g (cur.toList.take o++cells.toList++cur.toList.drop (o+cells.size)).toArray):=by
 have:=run_storeCells_at P g o t cells.toList 0 cur w hg (by simpa using hfit) (fun v hv=>(Array.all_eq_true_iff_forall_mem.1 h1) v (by simpa using hv));cases hq:P.info? ty with
 |none=>simp[hq]at hi
 |some i=>
  have a:cells.size=i.size:=by simp[hq]at hi;omega
  simp only[Nat.add_zero]at this;simp[Instr.storeAt,Instr.sureAddr,storeVar,sizeOf,typeInfo,hq,Value.cells,aT,a];simpa[a]using this
theorem cV{P:Program}{ops:Array Oper}{rest:List Oper}{op:Oper}{a:Act}{w:World}{Q:Exit→Act→World→Prop}(hgd:op.guard=none)(ty:TypeId)(x y:Operand)(ho:op.op= .store ty x y)
 (g o:Nat) (t:TypeId) (cur cells:Array Value) (new:List Value) (hx:a.eval x= .pointer (some ⟨g,o,none⟩)) (hy:a.eval y= .agg cells)
 (hg:w.heap[g]?=some (.cells cur t (0,0))) (hi:(P.info? ty).map (·.size)=some cells.size) (h1:cells.all (·.oneCell')=true) (hfit:o+cells.size≤cur.size)
 (hnew:cur.toList.take o++cells.toList++cur.toList.drop (o+cells.size)=new)
 (h:∀w',Chg (fun k=>k=g) w w'→w'.heap.size=w.heap.size→w'.heap[g]?=some (.cells new.toArray t (0,0))→wpList P ops Q rest (a.put op.dst undef) w'):wpList P ops Q (op::rest) a w:=by
 refine xA hgd _ ?_ (h (w.setRow g new.toArray) (aBP _ _ _) (by simp[World.setRow]) (setRow_heap _ _ _ _ _ _ hg));have b:=tL (P:=P) w g o ty t cur cells hg hi h1 hfit;rw[hnew]at b;simp[execOp,ho,hx,hy,b,Result.andThen]
def stB(P:Program)(ty:TypeId)(o:Nat)(cells cur:Array Value):Bool:=(match P.info? ty with|some i=>i.size==cells.size|none=>false)&&cells.all (·.oneCell')&&decide (o+cells.size≤cur.size)
theorem aEf{P:Program}{ty:TypeId}{o:Nat}{cells cur:Array Value}(h:stB P ty o cells cur=true):(P.info? ty).map (·.size)=some cells.size∧cells.all (·.oneCell')=true∧o+cells.size≤cur.size:=by
 unfold stB at h;rw[aR,aR]at h;obtain⟨⟨a,b⟩,c⟩:=h;refine⟨?_,b,of_decide_eq_true c⟩;cases hi:P.info? ty with
 |none=>rw[hi]at a;cases a
 |some i=>rw[hi]at a;simpa using a
theorem ws{P:Program}{ops:Array Oper}{rest:List Oper}{op:Oper}{a:Act}{w:World}{Q:Exit→Act→World→Prop}{ty:TypeId}{x y:Operand}{g o:Nat}{t:TypeId}{cur cells:Array Value}(hg:w.heap[g]?=some (.cells cur t (0,0)))(new:List Value)(hgd:op.guard=none)(ho:op.op= .store ty x y)(hx:a.eval x= .pointer (some ⟨g,o,none⟩))(hy:a.eval y= .agg cells)(hk:stB P ty o cells cur=true)
 (hnew:cur.toList.take o++cells.toList++cur.toList.drop (o+cells.size)=new)
 (h:∀w',Chg (fun k=>k=g) w w'→w'.heap.size=w.heap.size→w'.heap[g]?=some (.cells new.toArray t (0,0))→wpList P ops Q rest (a.put op.dst undef) w'):wpList P ops Q (op::rest) a w:=
 have⟨h1,h2,h3⟩:=aEf hk
 cV hgd ty x y ho g o t cur cells new hx hy hg h1 h2 h3 hnew h
section
variable {W W':World}{F F':Nat→Prop}{b g:Nat}{f:Cf}{c:Ct}{ch tk hd wt:Nat}{dv:Value}
theorem AnsAt.mono{v:Value}{t:At}(h:AnsAt W F v t)(hF:∀k,F k→F' k):AnsAt W F' v t:=by
 rcases h with h|⟨a,c,b,d⟩
 ·exact Or.inl h
 ·exact Or.inr ⟨a,c,b,hF _ d⟩
theorem OnAt.mono{ob:Nat}{an mv:Value}{o:On}(h:OnAt W F ob an mv o)(hF:∀k,F k→F' k):OnAt W F' ob an mv o:=
 ⟨h.1,hF _ h.2.1,h.2.2.1.mono hF,h.2.2.2.1,fun k hk=>hF _ (h.2.2.2.2 k hk)⟩
theorem ClAt.grow(h:ClAt W F b g f c ch tk hd wt dv)(hF:∀k,F k→F' k)(hlt:∀k,F' k→k<W.heap.size):ClAt W F' b g f c ch tk hd wt dv:=by
 refine⟨h.blk,hF _ h.fb,h.chan,hF _ h.fc,{h.maps with ft:=hF _ h.maps.ft,fh:=hF _ h.maps.fh,fw:=hF _ h.maps.fw},?_,hlt⟩;have hd:=h.doing;cases hc:c.doing with
 |none=>rw[hc]at hd;exact hd
 |some o=>
  rw[hc]at hd;obtain⟨j,a,d,i,e,l⟩:=hd;exact⟨j,a,d,i,e.mono hF,l⟩
theorem AnsAt.kept{v:Value}{t:At}{x:Nat}{cs:Array Value}{ty:TypeId}{fr:Nat×Nat}(h:AnsAt W F v t)(hx:W.heap[x]?=some (.cells cs ty fr))(hc:Chg (fun k=>k=x) W W'):AnsAt W' F v t:=by
 rcases h with h|⟨b,c,a,d⟩
 ·exact Or.inl h
 ·exact Or.inr ⟨b,c,a.kept hc (a.ne_cells hx),d⟩
theorem OnAt.kept{ob x:Nat}{an mv:Value}{o:On}{cs:Array Value}{ty:TypeId}{fr:Nat×Nat}(h:OnAt W F ob an mv o)(hx:W.heap[x]?=some (.cells cs ty fr))(h1:ty≠195)(h2:ty≠3)(hc:Chg (fun k=>k=x) W W'):OnAt W' F ob an mv o:=
 ⟨hc.kept h.1 (gA h.1 hx (Ne.symm h1)),h.2.1,h.2.2.1.kept hx hc,hc.row h.2.2.2.1 (fun q hq=>fN h.2.2.2.1 hx (Ne.symm h2) q hq),h.2.2.2.2⟩
theorem DoAt.kept{x:Nat}{d:Option On}{cs:Array Value}{ty:TypeId}{fr:Nat×Nat}(h:DoAt W F tk hd wt dv d)(hx:W.heap[x]?=some (.cells cs ty fr))(h1:ty≠195)(h2:ty≠3)(hc:Chg (fun k=>k=x) W W'):DoAt W' F tk hd wt dv d:=by
 cases d with
 |none=>exact h
 |some o=>
  obtain⟨g,c,f,e,a,b⟩:=h;exact⟨g,c,f,e,a.kept hx h1 h2 hc,b⟩
theorem ClAt.opcells{ob:Nat}{an mv an' mv':Value}{o o':On}(h:ClAt W F b g f c ch tk hd wt (.pointer (some ⟨ob,0,none⟩)))(hob:W.heap[ob]?=some (.cells (wJ o an mv).toArray 195 (0,0)))(hc:Chg (fun k=>k=ob) W W')
 (hon:OnAt W' F ob an' mv' o') (hne:an'≠.map (some tk)∧an'≠.map (some hd)∧an'≠.map (some wt)):ClAt W' F b g f {c with doing:=some o'} ch tk hd wt (.pointer (some ⟨ob,0,none⟩)):=by
 obtain⟨_,_,o1⟩:=h.maps.toks.obj;obtain⟨_,_,o2⟩:=h.maps.holds.obj;obtain⟨_,_,o3⟩:=h.maps.wat.obj;refine⟨hc.kept h.blk (gA h.blk hob (by decide)),h.fb,hc.kept h.chan (fun e=>eX h.chan hob (by simp) e),h.fc,⟨h.maps.toks.kept hc (fun e=>eX hob o1 (by simp) e.symm),h.maps.holds.kept hc (fun e=>eX hob o2 (by simp) e.symm),h.maps.wat.kept hc (fun e=>eX hob o3 (by simp) e.symm),h.maps.th,h.maps.tw,h.maps.hw,h.maps.ft,h.maps.fh,h.maps.fw⟩,⟨ob,an',mv',rfl,hon,hne⟩,fun k hk=>aG (h.lt k hk) hc.size⟩
end
structure aAz(c:Ct):Prop where
 n1:0≤c.num
 n2:c.num≤3
 i1:0≤c.inc
 i2:c.inc≤63
 c1:0≤c.clock
 c2:c.clock≤100000000000
 r1:0≤c.round
 r2:c.round≤1000
structure aF2(o:On):Prop where
 b1:0≤o.began
 b2:o.began≤100000000000
 t1:0≤o.ttl
 t2:o.ttl≤1000
 k1:0≤o.tries
 k2:o.tries≤100000000000
 a1:0≤o.att.began
 a2:o.att.began≤100000000000
theorem rO(c:Ct)(o:On)(res own tok:Int):dJ (rH c o res own tok)=[]:=fE _ (show(3:Int)≠1 by decide)
theorem rF(W:World)(F G:Nat→Prop)(b g:Nat)(f:Cf)(av cv:Value)(c:Ct)(o:On)(net:List Mg)(tr:List Ev)(h:Sys W F G b g f av cv c net tr)(hd:c.doing=some o)(hf1:1≤f.f)(hf2:f.f≤2)(hc:aAz c)(ho:aF2 o)
 (hn:net.length≤99999999990) (ht:tr.length≤99999999990):
 Calls prog 124 #[.pointer (some ⟨b,0,none⟩)] W fun r W'=>r= .returned (.tuple #[])∧After W F G b g f av cv (gD c o) (net++dJ (fO f c o)) (tr++fO f c o) W':=by
 by_cases U:1000≤c.round
 ·have c2:decide (1000≤c.round)=true:=by simpa using U
  have O:=xF W F G b g f av cv c o net tr 6 0 0 zVl h hd hc.n1 (by have:=hc.n2;omega) ho.b1 (by have:=ho.b2;omega) ho.t1 (by have:=ho.t2;omega) (by omega) (by omega);have e1:gD c o=gW c o 6 0 zVl:=by unfold gD;rw[if_pos U]
  have e2:fO f c o=rH c o 6 0 0:=by unfold fO;rw[if_pos U]
  rw[e1,e2,rO,aC];obtain⟨⟨ch,tk,Y,wt,dv,l⟩,_,_⟩:=h;have a9:=l.cell 12 _ rfl;have b5:Hid (Calls prog 164 #[.pointer (some ⟨b,0,none⟩),wA 6 0 0,vlV zVl] W fun r W'=>r= .returned (.tuple #[])∧After W F G b g f av cv (gW c o 6 0 zVl) net (tr++rH c o 6 0 0) W'):=O;clear O l hd e1 e2;go_enter func124,ntmps124;go_wp2_with (go_at_call 164;refine b5.out.mono ?_;rintro r j ⟨rfl,k1⟩)
  ((try simp only[Exit.inBlock,Exit.then]);refine bodyPost_ret (results_none rfl _ _ _) rfl ?_)
  exact⟨rfl,k1⟩
 ·have c2:decide (1000≤c.round)=false:=by simpa using U
  have e1:gD c o={c with round:=c.round+1,doing:=some (lK o c)}:=by unfold gD;rw[if_neg U]
  have e2:fO f c o=gX c (lK o c) 1 0 zVl (gJ f):=by unfold fO;rw[if_neg U]
  rw[e1,e2];clear e1 e2;obtain⟨⟨ch,tk,Y,wt,dv,l⟩,b0,E⟩:=h;have a1:=l.doing;rw[hd]at a1;obtain⟨n,an,Z,rfl,X,V⟩:=a1;have a9:=l.cell 12 _ rfl;have c4:=l.froz 12;have c6:IntKind.i64.wrap (c.round+1)=c.round+1:=fV (by have:=hc.r1;omega) (by have:=hc.r2;omega);have w:=cY W b 12 (.int .i64 (c.round+1));have y:=l.cells w {c with round:=c.round+1} (.pointer (some ⟨n,0,none⟩)) rfl rfl rfl rfl (dD l.blk 12 _) (by rw[show({c with round:=c.round+1}:Ct).doing=some o from hd];exact DoAt.kept (d:=some o) ⟨n,an,Z,rfl,X,V⟩ l.blk (by decide) (by decide) w);have a:=X.kept l.blk (by decide) (by decide) w;have Q:=b0.kept w (fun k m e=>E b l.fb (e▸m));have a6:Went W (W.setCell ⟨b,12,none⟩ (.int .i64 (c.round+1))) F F G G:=⟨w.mono (fun k _ e=>Or.inl (e▸l.fb)),fun _ h=>Or.inl h,fun _ h=>Or.inl h⟩;generalize a0:W.setCell ⟨b,12,none⟩ (.int .i64 (c.round+1))=W1 at*;have c0:=cN a0;clear a0 w l X b0;have b9:=y.cell 16 _ rfl;have o4:=cO a.1 4 _ rfl;have z4:=cX a.1 4;have w4:IntKind.i64.wrap (o.tries+1)=o.tries+1:=fV (by have:=ho.k1;omega) (by have:=ho.k2;omega);have u:=cY W1 n 4 (.int .i64 (o.tries+1));have z:OnAt (W1.setCell ⟨n,4,none⟩ (.int .i64 (o.tries+1))) F n an Z {o with tries:=o.tries+1}:=
   ⟨dD a.1 4 _,a.2.1,a.2.2.1.kept a.1 u,u.row a.2.2.2.1 (fun q hq=>fN a.2.2.2.1 a.1 (by decide) q hq),a.2.2.2.2⟩
  have H:=y.opcells a.1 u z V;have R:=Q.kept u (fun k m e=>E n a.2.1 (e▸m));have a3:=a6.trans (⟨u.mono (fun k _ e=>Or.inl (e▸a.2.1)),fun _ h=>Or.inl h,fun _ h=>Or.inl h⟩:Went W1 (W1.setCell ⟨n,4,none⟩ (.int .i64 (o.tries+1))) F F G G);generalize a8:W1.setCell ⟨n,4,none⟩ (.int .i64 (o.tries+1))=j at*;have c3:=cN a8;clear a8 u y a Q a6;have i:Hid (ClAt j F b g f {c with round:=c.round+1,doing:=some {o with tries:=o.tries+1}} ch tk Y wt (.pointer (some ⟨n,0,none⟩))):=H;have p:Hid (OnAt j F n an Z {o with tries:=o.tries+1}):=z;have a7:Hid (NtAt j G g av cv net tr):=R;have b7:=cN a3;have b3:=cN E;have c5:Hid (aAz c∧aF2 o):=⟨hc,ho⟩;have n1:=hc.n1;have n2:=hc.n2;have i1:=hc.i1;have i2:=hc.i2;have r1:=hc.r1;have r2:=hc.r2;clear H z R a3 E hc ho hd U V;go_enter func124,ntmps124;go_wp2_with (first|rw[c0.out]|rw[c3.out]);have v1:IntKind.i64.wrap ((c.round+1)*256)=(c.round+1)*256:=fV (by omega) (by omega);have v2:IntKind.i64.wrap (c.inc*4)=c.inc*4:=fV (by omega) (by omega);have v3:IntKind.i64.wrap ((c.round+1)*256+c.inc*4)=(c.round+1)*256+c.inc*4:=fV (by omega) (by omega);have v4:IntKind.i64.wrap ((c.round+1)*256+c.inc*4+c.num)=(c.round+1)*256+c.inc*4+c.num:=fV (by omega) (by omega)
  refine rlx [0,0,0,1,0,0,0,1,0,0,0,0,1,0,0,0,0,0,1,0,0,0,0,1,2,0,0,0] (fun x=>x.cell? ⟨b,16,none⟩=some (.pointer (some ⟨n,0,none⟩))∧x.cell? ⟨b,12,none⟩=some (.int .i64 (c.round+1))∧x.cell? ⟨b,8,none⟩=some (.int .i64 c.inc)∧x.cell? ⟨b,7,none⟩=some (.int .i64 c.num)∧x.cell? ⟨b,11,none⟩=some (.int .i64 c.clock)) (by kernel_rfl) (fun _ _ _ _=>rfl) ?_ ?_
  ·exact⟨i.out.cell 16 _ rfl,i.out.cell 12 _ rfl,i.out.cell 8 _ rfl,i.out.cell 7 _ rfl,i.out.cell 11 _ rfl⟩
  simp only[dC,dB];iterate 24 (apply sB rfl rfl;·(intro x h;(try have h:=h rfl);(try dsimp only at h);go_simp;with_reducible rfl))
  try simp only[pA]
  refine dI rfl (fun C hC=>?_);go_simp;rw[aCB];go_simp;have s:∀{x:Nat} {n:Obj},j.heap[x]?=some n→(j.alloc (.map #[] 0)).drew.heap[x]?=some n:=fun h=>dM _ h;refine hC _ _ ⟨cO (s i.out.blk) 16 _ rfl,cO (s i.out.blk) 12 _ rfl,cO (s i.out.blk) 8 _ rfl,cO (s i.out.blk) 7 _ rfl,cO (s i.out.blk) 11 _ rfl⟩ ?_;clear hC C;have D:=s p.out.1;have v:Chg NoS j (j.alloc (.map #[] 0)).drew:=((Chg.refl _ _).alloc _).drew;have b6:(j.alloc (.map #[] 0)).drew.heap.size=j.heap.size+1:=by simp
  have b4:SetAt (j.alloc (.map #[] 0)).drew j.heap.size []:=SetAt.made j;clear s;generalize (j.alloc (.map #[] 0)).drew=W3 at*;iterate 3 (apply sB rfl rfl;·(intro x h;(try have h:=h rfl);(try dsimp only at h);go_simp;with_reducible rfl))
  refine cP ?_;try simp only[pA]
  refine cV rfl 193 _ _ rfl n 5 195 (wJ {o with tries:=o.tries+1} an Z).toArray _ (wJ (lK o c) (.map (some j.heap.size)) Z) rfl rfl D (by kernel_rfl) (by simp[Value.oneCell']) (by simp) rfl ?_;intro B t c1 J;have K:n≠j.heap.size:=fun e=>by have:=dG p.out.1;omega
  have a4:SetAt B j.heap.size []:=MapAt.kept b4 t (fun e=>K e.symm);have a5:∀k,(F k∨k=j.heap.size)→k<B.heap.size:=fun k m=>by
   rcases m with m|rfl
   ·have:=i.out.lt k m;omega
   ·omega
  have I:=(i.out.kept v (fun _ _ h=>h)).grow (fun _ h=>Or.inl h) (fun k m=>by have:=a5 k m;omega);have S:=t.row ((v.row p.out.2.2.2.1 (fun _ _ h=>h))) (fun q hq=>fN (v.row p.out.2.2.2.1 (fun _ _ h=>h)) D (by decide) q hq);have L:OnAt B (fun k=>F k∨k=j.heap.size) n (.map (some j.heap.size)) Z (lK o c):=
   ⟨J,Or.inl p.out.2.1,Or.inr ⟨j.heap.size,rfl,a4,Or.inr rfl⟩,S,fun k m=>Or.inl (p.out.2.2.2.2 k m)⟩
  have M:=I.opcells D t L ⟨fun e=>by have:=i.out.maps.toks.lt;simp at e;omega,fun e=>by have:=i.out.maps.holds.lt;simp at e;omega,fun e=>by have:=i.out.maps.wat.lt;simp at e;omega⟩;have P:=(a7.out.kept v (fun _ _ h=>h)).kept t (fun k m e=>b3.out n p.out.2.1 (e▸m));have N:∀k,(F k∨k=j.heap.size)→¬G k:=fun k m hg=>by
   rcases m with m|rfl
   ·exact b3.out k m hg
   ·have:=a7.out.lt _ hg;omega
  have a2:Went W B F (fun k=>F k∨k=j.heap.size) G G:=b7.out.trans (⟨(v.mono (T:=fun k=>F k∨G k) (fun _ _ h=>h.elim)).trans t (fun x _ e=>Or.inl (e▸p.out.2.1)),fun k m=>by
   rcases m with m|rfl
   ·exact Or.inl m
   ·exact Or.inr (aE _),fun _ h=>Or.inl h⟩:Went j B F (fun k=>F k∨k=j.heap.size) G G)
  have A:=uA B (fun k=>F k∨k=j.heap.size) G b g f av cv {c with round:=c.round+1,doing:=some (lK o c)} (lK o c) net tr 1 0 zVl ⟨⟨ch,tk,Y,wt,_,M⟩,P,N⟩ rfl hf1 hf2 hn ht;have HS:Hid (Calls prog 165 #[.pointer (some ⟨b,0,none⟩),mgV ⟨1,0,0,0,0,0,zVl⟩] B fun r W'=>r= .returned (.tuple #[])∧
   ∃G',Sys W' (fun k=>F k∨k=j.heap.size) G' b g f av cv {c with round:=c.round+1,doing:=some (lK o c)} (net++dJ (gX c (lK o c) 1 0 zVl (gJ f))) (tr++gX c (lK o c) 1 0 zVl (gJ f))∧Chg G B W'∧∀k,G' k→G k∨B.heap.size≤k):=A
  have b8:=cN a2;clear A a2 N P M L S I a5 a4 K J c1 t b4 b6 v D b9 o4 z4 a9 c4;go_wp2_with (go_at_call 165;refine HS.out.mono ?_;rintro r W5 ⟨rfl,G5,k1,k2,k3⟩);go_end0;exact⟨rfl,_,G5,k1,b8.out.trans ⟨k2.mono (fun _ _ h=>Or.inr h),fun _ h=>Or.inl h,k3⟩⟩
theorem After.drew{W W':World}{F G:Nat→Prop}{b g:Nat}{f:Cf}{av cv:Value}{c:Ct}{net:List Mg}{tr:List Ev}(h:After W.drew F G b g f av cv c net tr W'):After W F G b g f av cv c net tr W':=by
 obtain⟨i,e,d,a⟩:=h;exact⟨i,e,d,⟨a.chg.of_drew,a.f,a.g⟩⟩
theorem uQ(W:World)(F G:Nat→Prop)(b g:Nat)(f:Cf)(av cv:Value)(c:Ct)(o:On)(net:List Mg)(tr:List Ev)(h:Sys W F G b g f av cv c net tr)(hd:c.doing=some o)(hf1:1≤f.f)(hf2:f.f≤2)(hc:aAz c)(ho:aF2 o)
 (hn:net.length≤99999999990) (ht:tr.length≤99999999990):
 Calls prog 131 #[.pointer (some ⟨b,0,none⟩)] W fun r W'=>r= .returned (.tuple #[])∧After W F G b g f av cv (kX f c o) (net++dJ (kI f c o)) (tr++kI f c o) W':=by
 have q:Hid (Calls prog 164 #[.pointer (some ⟨b,0,none⟩),wA 5 0 0,vlV zVl] W.drew fun r W'=>r= .returned (.tuple #[])∧After W.drew F G b g f av cv (gW c o 5 0 zVl) net (tr++rH c o 5 0 0) W'):=
  xF W.drew F G b g f av cv c o net tr 5 0 0 zVl h.drew hd hc.n1 (by have:=hc.n2;omega) ho.b1 (by have:=ho.b2;omega) ho.t1 (by have:=ho.t2;omega) (by omega) (by omega)
 have m:Hid (Calls prog 124 #[.pointer (some ⟨b,0,none⟩)] W.drew fun r W'=>r= .returned (.tuple #[])∧After W.drew F G b g f av cv (gD c o) (net++dJ (fO f c o)) (tr++fO f c o) W'):=
  rF W.drew F G b g f av cv c o net tr h.drew hd hf1 hf2 hc ho hn ht
 obtain⟨⟨u,w,s,wt,v,d⟩,_,_⟩:=h;have i:=d.doing;rw[hd]at i;obtain⟨y,B,C,rfl,j,l⟩:=i;have t:=d.cell 16 _ rfl;have z:=d.cell 3 _ rfl;have A:=cO j.1 4 _ rfl;clear d j l hd;go_enter func131,ntmps131;by_cases a:o.tries<f.tries
 ·have n:decide (o.tries<f.tries)=true:=by simpa using a
  have e:=cN a;clear a;go_wp2_with fail;refine eD [0,0,0,1,0,0,1,0,0,0,0,1,0] (by kernel_rfl) (fun _ _ _ _=>rfl) ?_;simp only[dC,dB];iterate 13 (apply sB rfl rfl;·(intro x h;(try cases h rfl);go_simp;with_reducible rfl))
  refine cP ?_;try simp only[pA]
  go_wp2_with (go_at_call 124;refine m.out.mono ?_;rintro r p ⟨rfl,k⟩)
  ((try simp only[Exit.inBlock,Exit.then]);refine bodyPost_ret (results_none rfl _ _ _) rfl ?_)
  refine⟨rfl,?_⟩;unfold kX kI;rw[if_pos (by have:=e.out;omega),if_pos (by have:=e.out;omega)];exact k.drew
 ·have n:decide (o.tries<f.tries)=false:=by simpa using a
  have e:Hid (¬o.tries<f.tries):=a;clear a;go_wp2_with fail;refine eD [0,0,0,1,0,0,1,0,0,0,0,1,0] (by kernel_rfl) (fun _ _ _ _=>rfl) ?_;simp only[dC,dB];iterate 13 (apply sB rfl rfl;·(intro x h;(try cases h rfl);go_simp;with_reducible rfl))
  refine cP ?_;try simp only[pA]
  go_wp2_with (go_at_call 164;refine q.out.mono ?_;rintro r p ⟨rfl,k⟩);go_end0;refine⟨rfl,?_⟩;unfold kX kI;rw[if_neg (by have:=e.out;omega),if_neg (by have:=e.out;omega),rO,aC];exact k.drew
section
variable (W:World) (F:Nat→Prop) (b g:Nat) (f:Cf) (c:Ct) (ch tk hd wt:Nat) (dv:Value)
theorem aHm(l:Int)(h:ClAt W F b g f c ch tk hd wt dv):
 Calls prog 48 #[.pointer (some ⟨b,0,none⟩),.int .i64 l] W fun r W'=>r= .returned (.bool (aDt c l))∧W'=W.drew:=by
 have d:Hid (∀x,x=W.drew→Calls prog 90 #[.pointer (some ⟨b,0,none⟩)] x fun e w'=>e= .returned (.bool c.up)∧w'=x):=fun x hx=>by
  subst hx;exact wO W.drew b ch c.up (h.cell 9 _ rfl) h.chan
 have j:=h.cell 14 _ rfl;have i:=h.cell 11 _ rfl;have a:=MapI.get (W:=W.drew) h.maps.holds l;clear h;unfold aDt;go_enter func48,ntmps48;go_wp2_with fail;cases hu:c.up;all_goals
  refine eD [0,1,0,0,0,0,1,0,1,0,0,0,1,0,0,0] (by kernel_rfl) (fun _ _ _ _=>rfl) ?_;simp only[dC,dB];iterate 1 (apply sB rfl rfl;·(intro x h;(try cases h rfl);go_simp;with_reducible rfl))
  try simp only[pA]
  refine eW (v:=.bool c.up) (f:=90) (args:=#[.pointer (some ⟨b,0,none⟩)]) rfl (fun x hx=>by subst hx;go_simp;try rfl) (fun x hx=>d.out x hx) ?_;rw[hu];(try simp only[pA]);iterate 14 ((try simp only[pA]);first|(apply sB rfl rfl;·(intro x h;(try cases h rfl);go_simp;with_reducible rfl))|apply dN rfl|apply dL rfl)
  refine cP ?_;try simp only[pA]
  go_wp2_with fail;go_ret;exact⟨by simp[hu],rfl⟩
theorem aIG(h:ClAt W F b g f c ch tk hd wt dv):
 Calls prog 148 #[.pointer (some ⟨b,0,none⟩)] W fun r W'=>r= .returned (.bool (aGz c))∧W'=W:=by
 have j:=wO W b ch c.up (h.cell 9 _ rfl) h.chan;have k:=h.cell 16 _ rfl;have d:=h.doing;clear h;unfold aGz;go_enter func148,ntmps148;cases hu:c.up
 ·rw[hu]at j;have a:Hid (Calls prog 90 #[.pointer (some ⟨b,0,none⟩)] W fun e i=>e= .returned (.bool false)∧i=W):=j;clear j;go_wp2_with (go_at_call 90;refine a.out.mono ?_;rintro e i ⟨rfl,rfl⟩);go_ret;exact⟨by simp,rfl⟩
 ·rw[hu]at j;have a:Hid (Calls prog 90 #[.pointer (some ⟨b,0,none⟩)] W fun e i=>e= .returned (.bool true)∧i=W):=j;clear j;cases hdd:c.doing with
  |none=>
   rw[hdd]at d;obtain rfl:dv= .pointer none:=d;go_wp2_with (go_at_call 90;refine a.out.mono ?_;rintro e i ⟨rfl,rfl⟩);go_ret;exact⟨by simp,rfl⟩
  |some o=>
   rw[hdd]at d;obtain⟨n,l,m,rfl,_⟩:=d;go_wp2_with (go_at_call 90;refine a.out.mono ?_;rintro e i ⟨rfl,rfl⟩);go_ret;exact⟨by simp,rfl⟩
end
theorem aJg(W:World)(F G:Nat→Prop)(b g:Nat)(f:Cf)(av cv:Value)(c:Ct)(net:List Mg)(tr:List Ev)(h:Sys W F G b g f av cv c net tr)(hf1:1≤f.f)(hf2:f.f≤2)(hc:aAz c)(hc':c.clock<100000000000)(ho:∀o,c.doing=some o→aF2 o)
 (hn:net.length≤99999999990) (ht:tr.length≤99999999990):
 Calls prog 125 #[.pointer (some ⟨b,0,none⟩)] W fun r W'=>r= .returned (.int .i64 (xL c))∧After W F G b g f av cv (lP f c) (net++dJ (oE f c)) (tr++oE f c) W':=by
 have w:=cN h;obtain⟨⟨O,Q,N,wt,K,a⟩,z,s⟩:=h;have C:=wO W b O c.up (a.cell 9 _ rfl) a.chan;cases hu:c.up
 ·rw[hu]at C;have m:Hid (Calls prog 90 #[.pointer (some ⟨b,0,none⟩)] W fun e y=>e= .returned (.bool false)∧y=W):=C;have D:xL c=2:=by unfold xL;rw[if_pos hu]
  have j:lP f c=c:=by unfold lP;rw[if_pos hu]
  have l:oE f c=[]:=by unfold oE;rw[if_pos hu]
  rw[D,j,l,fF,aC,aC];clear C D j l a z s hc ho hu;go_enter func125,ntmps125;go_wp2_with (go_at_call 90;refine m.out.mono ?_;rintro e y ⟨rfl,rfl⟩);go_ret;exact⟨rfl,F,G,w.out,Went.refl _ _ _⟩
 ·rw[hu]at C;have m:Hid (Calls prog 90 #[.pointer (some ⟨b,0,none⟩)] W fun e y=>e= .returned (.bool true)∧y=W):=C;have D:xL c=0:=by unfold xL;rw[if_neg (by simp[hu])]
  rw[D];have S:=a.cell 11 _ rfl;have V:=a.froz 11;have R:IntKind.i64.wrap (c.clock+1)=c.clock+1:=fV (by have:=hc.c1;omega) (by omega);have n:=cY W b 11 (.int .i64 (c.clock+1));have d:=a.cells n {c with clock:=c.clock+1} K rfl rfl rfl rfl (dD a.blk 11 _) (a.doing.kept a.blk (by decide) (by decide) n);have v:=z.kept n (fun k hk e=>s b a.fb (e▸hk));have J:Went W (W.setCell ⟨b,11,none⟩ (.int .i64 (c.clock+1))) F F G G:=⟨n.mono (fun k _ e=>Or.inl (e▸a.fb)),fun _ h=>Or.inl h,fun _ h=>Or.inl h⟩;generalize E:W.setCell ⟨b,11,none⟩ (.int .i64 (c.clock+1))=W1 at*;have B:=cN E;have T:=d.cell 11 _ rfl;have U:=d.cell 16 _ rfl;have X:=d.cell 2 _ rfl;have I:Sys W1 F G b g f av cv {c with clock:=c.clock+1} net tr:=⟨⟨O,Q,N,wt,K,d⟩,v,s⟩;have q:=d.doing;have i:=cN J;have A:=cN I;have t:aAz {c with clock:=c.clock+1}:={hc with c1:=by have:=hc.c1;show 0≤c.clock+1;omega,c2:=by show c.clock+1≤100000000000;omega};have q1:=hc.c1;clear E n a d z v J s C w D I;cases hdd:c.doing with
  |none=>
   have j:lP f c={c with clock:=c.clock+1}:=by unfold lP;rw[if_neg (by simp[hu]),hdd]
   have l:oE f c=[]:=by unfold oE;rw[if_neg (by simp[hu]),hdd]
   rw[j,l,fF,aC,aC];rw[show({c with clock:=c.clock+1}:Ct).doing=none from hdd]at q;obtain rfl:K= .pointer none:=q;clear j l hdd hc ho t hu;go_enter func125,ntmps125;go_wp2_with (first|rw[B.out]|(go_at_call 90;refine m.out.mono ?_;rintro e y ⟨rfl,rfl⟩));refine eD [0,0,0,1,0,0,0,0,0,1,0,0,0,1,0,0,0,1,0,0,0,0,0,1,0,0] (by kernel_rfl) (fun _ _ _ _=>rfl) ?_;simp only[dC,dB];iterate 26 ((try simp only[pA]);first|(apply sB rfl rfl;·(intro x h;(try cases h rfl);go_simp;with_reducible rfl))|apply dN rfl|apply dL rfl)
   refine cP ?_;try simp only[pA]
   go_wp2_with fail;go_ret;exact⟨rfl,F,G,A.out.drew,⟨i.out.chg.drew,i.out.f,i.out.g⟩⟩
  |some o=>
   rw[show({c with clock:=c.clock+1}:Ct).doing=some o from hdd]at q;obtain⟨ob,an,mv,rfl,H,_⟩:=q;have Y:=cO H.1 6 _ rfl;have p:=ho o hdd;have Z:IntKind.i64.wrap (c.clock+1-o.att.began)=c.clock+1-o.att.began:=fV (by have:=p.a2;omega) (by have:=p.a1;omega);have M:Hid (Calls prog 131 #[.pointer (some ⟨b,0,none⟩)] W1.drew fun r W'=>r= .returned (.tuple #[])∧After W1.drew F G b g f av cv (kX f {c with clock:=c.clock+1} o) (net++dJ (kI f {c with clock:=c.clock+1} o)) (tr++kI f {c with clock:=c.clock+1} o) W'):=
    uQ W1.drew F G b g f av cv {c with clock:=c.clock+1} o net tr A.out.drew hdd hf1 hf2 t p hn ht
   clear H;by_cases u:f.patience≤c.clock+1-o.att.began
   ·have L:decide (f.patience≤c.clock+1-o.att.began)=true:=by simpa using u
    have j:lP f c=kX f {c with clock:=c.clock+1} o:=by unfold lP;rw[if_neg (by simp[hu]),hdd];exact if_pos u
    have l:oE f c=kI f {c with clock:=c.clock+1} o:=by unfold oE;rw[if_neg (by simp[hu]),hdd];exact if_pos u
    rw[j,l];clear j l hdd hc ho t p u hu;go_enter func125,ntmps125;go_wp2_with (first|rw[B.out]|(go_at_call 90;refine m.out.mono ?_;rintro e y ⟨rfl,rfl⟩));refine eD [0,0,0,1,0,0,0,0,0,1,0,0,0,1,0,0,0,1,0,0,0,0,0,1,0,0] (by kernel_rfl) (fun _ _ _ _=>rfl) ?_;simp only[dC,dB];iterate 26 ((try simp only[pA]);first|(apply sB rfl rfl;·(intro x h;(try cases h rfl);go_simp;with_reducible rfl))|apply dN rfl|apply dL rfl)
    refine cP ?_;try simp only[pA]
    go_wp2_with (go_at_call 131;refine M.out.mono ?_;rintro r W5 ⟨rfl,P⟩);go_ret;exact⟨rfl,After.trans i.out P.drew⟩
   ·have L:decide (f.patience≤c.clock+1-o.att.began)=false:=by simpa using u
    have j:lP f c={c with clock:=c.clock+1}:=by unfold lP;rw[if_neg (by simp[hu]),hdd];exact if_neg u
    have l:oE f c=[]:=by unfold oE;rw[if_neg (by simp[hu]),hdd];exact if_neg u
    rw[j,l,fF,aC,aC];clear j l hdd hc ho t p u hu;go_enter func125,ntmps125;go_wp2_with (first|rw[B.out]|(go_at_call 90;refine m.out.mono ?_;rintro e y ⟨rfl,rfl⟩));refine eD [0,0,0,1,0,0,0,0,0,1,0,0,0,1,0,0,0,1,0,0,0,0,0,1,0,0] (by kernel_rfl) (fun _ _ _ _=>rfl) ?_;simp only[dC,dB];iterate 26 ((try simp only[pA]);first|(apply sB rfl rfl;·(intro x h;(try cases h rfl);go_simp;with_reducible rfl))|apply dN rfl|apply dL rfl)
    refine cP ?_;try simp only[pA]
    go_wp2_with fail;go_ret;exact⟨rfl,F,G,A.out.drew,⟨i.out.chg.drew,i.out.f,i.out.g⟩⟩
section
open Go.ChangeMaps (setBlock)
def aA0(c:Ct):Ct:={c with clock:=0,round:=0,toks:=fun _=>0,holds:=fun _=>0,wat:=fun _=>zWt,doing:=none}
theorem aFw(W:World)(F:Nat→Prop)(b g:Nat)(f:Cf)(c:Ct)(ch tk hd wt:Nat)(dv:Value)(h:ClAt W F b g f c ch tk hd wt dv):
 Calls prog 135 #[.pointer (some ⟨b,0,none⟩)] W fun r W'=>r= .returned (.tuple #[])∧ClAt W' F b g f (aA0 c) ch tk hd wt (.pointer none)∧Chg (fun k=>k=b∨S3 tk hd wt k) W W':=by
 have U:=h.cell 11 _ rfl;have Y:=h.froz 11;have p:=cY W b 11 (.int .i64 0);have a:=h.cells p {c with clock:=0} dv rfl rfl rfl rfl (dD h.blk 11 _) (h.doing.kept h.blk (by decide) (by decide) p);generalize l:W.setCell ⟨b,11,none⟩ (.int .i64 0)=W1 at*;have H:=cN l;clear l;have T:=a.cell 12 _ rfl;have V:=a.froz 12;have o:=cY W1 b 12 (.int .i64 0);have j:=a.cells o {c with clock:=0,round:=0} dv rfl rfl rfl rfl (dD a.blk 12 _) (a.doing.kept a.blk (by decide) (by decide) o);generalize m:W1.setCell ⟨b,12,none⟩ (.int .i64 0)=W2 at*;have B:=cN m;clear m;have Z:=j.cell 16 _ rfl;have X:=j.froz 16;have x:=cY W2 b 16 (.pointer none);have v:=j.cells x {c with clock:=0,round:=0,doing:=none} (.pointer none) rfl rfl rfl rfl (dD j.blk 16 _) rfl;generalize n:W2.setCell ⟨b,16,none⟩ (.pointer none)=W3 at*;have y:=cN n;clear n;have G:=v.cell 13 _ rfl;have q:=cN v;have K:Hid (Chg (fun k=>k=b∨S3 tk hd wt k) W W3):=((p.trans o (fun _ _ h=>h)).trans x (fun _ _ h=>h)).mono (fun _ _ h=>Or.inl h);clear h a j v p o x;go_enter func135,ntmps135;go_wp2_with (first|rw[H.out]|rw[B.out]|rw[y.out]|(refine pX rfl _ _ rfl _ rfl _ (q.out.maps.toks.clr _) ?_));intro Q e C N;have w:=q.out.setT e N;have t:Hid (ClAt Q F b g f {c with clock:=0,round:=0,doing:=none,toks:=fun _=>0} ch tk hd wt (.pointer none)):=w;have J:=cN (K.out.one e (Or.inr (Or.inl rfl)));have A:=w.cell 14 _ rfl;clear q w e C N K G;go_wp2_with (refine pX rfl _ _ rfl _ rfl _ (t.out.maps.holds.clr _) ?_);intro S d z M;have u:=t.out.setH d M
 have s:Hid (ClAt S F b g f {c with clock:=0,round:=0,doing:=none,toks:=fun _=>0,holds:=fun _=>0} ch tk hd wt (.pointer none)):=u;have L:=cN (J.out.one d (Or.inr (Or.inr (Or.inl rfl))));have D:=u.cell 15 _ rfl;clear t u d z M J A;go_wp2_with (refine pX rfl _ _ rfl _ rfl _ (s.out.maps.wat.clr _) ?_);intro R i E I;have O:Hid (ClAt R F b g f (aA0 c) ch tk hd wt (.pointer none)):=s.out.setW i I;have P:=cN (L.out.one i (Or.inr (Or.inr (Or.inr rfl))));clear s i E I L D;go_wp2_with fail;go_end0;exact⟨rfl,O.out,P.out⟩
theorem aCP{P:Program}{ops:Array Oper}{rest:List Oper}{o:Oper}{a:Act}{W:World}{Q:Exit→Act→World→Prop}(hg:o.guard=none)(t:TypeId)(x:Operand)(hop:o.op= .call {callee:=.builtin .close,args:=#[x],argTypes:=#[t]})(r:Nat)(hx:a.eval x= .chan (some r))
 (hr:W.heap[r]?=some (.chan 0 #[] false 0 0 false)) (h:∀W',Chg (fun k=>k=r) W W'→W'.heap.size=W.heap.size→W'.heap[r]?=some (.chan 0 #[] true 0 0 false)→wpList P ops Q rest (a.put o.dst (.tuple #[])) W'):wpList P ops Q (o::rest) a W:=by
 refine wS hg _ (setBlock W r (.chan 0 #[] true 0 0 false)) ?_ (h _ (iY _ _ _) (by simp[setBlock]) (jV hr _));have h1:=run_close_open (P:=P) #[t] o.type hr;simp[execOp,hop,resolve,invoke,builtin,hx,h1,Result.andThen,setBlock]
theorem ClAt.shut{W W':World}{F:Nat→Prop}{b g:Nat}{f:Cf}{c:Ct}{ch tk hd wt:Nat}{dv:Value}(h:ClAt W F b g f c ch tk hd wt dv)(_:c.up=true)(hc:Chg (fun k=>k=ch) W W')(hr:W'.heap[ch]?=some (.chan 0 #[] true 0 0 false)):ClAt W' F b g f {c with up:=false} ch tk hd wt dv:=by
 have hch:=h.chan;obtain⟨_,_,o1⟩:=h.maps.toks.obj;obtain⟨_,_,o2⟩:=h.maps.holds.obj;obtain⟨_,_,o3⟩:=h.maps.wat.obj;have ne:∀{x:Nat} {ob:Obj},W.heap[x]?=some ob→(∀z,ob≠.chan 0 #[] z 0 0 false)→x≠ch:=fun hx hne e=>by
  subst e;rw[hch]at hx;exact hne _ (aN hx).symm
 refine⟨hc.kept h.blk (ne h.blk (by simp)),h.fb,hr,h.fc,⟨h.maps.toks.kept hc (fun e=>ne o1 (by simp) e),h.maps.holds.kept hc (fun e=>ne o2 (by simp) e),h.maps.wat.kept hc (fun e=>ne o3 (by simp) e),h.maps.th,h.maps.tw,h.maps.hw,h.maps.ft,h.maps.fh,h.maps.fw⟩,?_,fun k hk=>aG (h.lt k hk) hc.size⟩;have hdo:=h.doing;show DoAt W' F tk hd wt dv c.doing;cases hcd:c.doing with
 |none=>rw[hcd]at hdo;exact hdo
 |some o=>
  rw[hcd]at hdo;obtain⟨ob,an,mv,e,⟨q1,q2,q3,q4,q5⟩,hne⟩:=hdo;refine⟨ob,an,mv,e,⟨hc.kept q1 (ne q1 (by simp)),q2,?_,hc.row q4 (fun q hq e=>?_),q5⟩,hne⟩
  ·rcases q3 with q3|⟨am,r1,r2,r3⟩
   ·exact Or.inl q3
   ·obtain⟨_,_,om⟩:=r2.obj;exact Or.inr ⟨am,r1,r2.kept hc (fun e=>ne om (by simp) e),r3⟩
  ·subst e;rcases nN q4 with⟨rfl,_⟩|⟨g',cap,cur,rfl,_,hg⟩
   ·cases hq
   ·have:g'=q:=by simpa[Value.ownBlock]using hq
    subst this;exact ne hg (by simp) rfl
theorem aIo(W:World)(F G:Nat→Prop)(b g:Nat)(f:Cf)(av cv:Value)(c:Ct)(net:List Mg)(tr:List Ev)(h:Sys W F G b g f av cv c net tr)(hn1:0≤c.num)(hn2:c.num≤1000)(hn:net.length≤100000000000)(ht:tr.length≤100000000000):
 Calls prog 89 #[.pointer (some ⟨b,0,none⟩)] W fun r W'=>r= .returned (.int .i64 (aEZ c))∧After W F G b g f av cv (uD c) net (tr++uM c) W':=by
 have y:=cN h;obtain⟨⟨n,q,d,wt,P,a⟩,j,l⟩:=h;have o:=wO W b n c.up (a.cell 9 _ rfl) a.chan;unfold aEZ uD uM;cases hu:c.up
 ·rw[hu]at o;have i:Hid (Calls prog 90 #[.pointer (some ⟨b,0,none⟩)] W fun e p=>e= .returned (.bool false)∧p=W):=o;rw[if_pos rfl,if_pos rfl,if_pos rfl,aC];clear o a j l hu;go_enter func89,ntmps89;go_wp2_with (go_at_call 90;refine i.out.mono ?_;rintro e p ⟨rfl,rfl⟩);go_ret;exact⟨rfl,F,G,y.out,Went.refl _ _ _⟩
 ·rw[hu]at o;have i:Hid (Calls prog 90 #[.pointer (some ⟨b,0,none⟩)] W fun e p=>e= .returned (.bool true)∧p=W):=o;rw[if_neg (by decide),if_neg (by decide),if_neg (by decide)];have H:Hid (W.heap[n]?=some (.chan 0 #[] false 0 0 false)):=by
   have:=a.chan;rw[hu]at this;exact this
  have z:Hid (ClAt W F b g f c n q d wt P∧c.up=true):=⟨a,hu⟩;have Y:Hid (NtAt W G g av cv net tr):=j;have t:=cN l;have U:=a.cell 9 _ rfl;clear o a j l hu;go_enter func89,ntmps89;go_wp2_with (first|(refine aCP rfl _ _ rfl _ rfl H.out ?_)|(go_at_call 90;refine i.out.mono ?_;rintro e p ⟨rfl,R⟩;have L:=R.symm;subst L;clear R));intro C m K w;have B:=z.out.1.shut z.out.2 m w;have Q:=aFw C F b g f {c with up:=false} n q d wt P B;have N:Hid (Calls prog 135 #[.pointer (some ⟨b,0,none⟩)] C fun r W'=>r= .returned (.tuple #[])∧ClAt W' F b g f (aA0 {c with up:=false}) n q d wt (.pointer none)∧Chg (fun k=>k=b∨S3 q d wt k) C W'):=Q;have J:=cN ((Chg.refl F W).one m z.out.1.fc);have V:=cN B.inF;clear Q B m K w U;go_wp2_with (go_at_call 135;refine N.out.mono ?_;rintro e s ⟨rfl,A,S⟩);have D:=J.out.trans S (fun x _ hx=>hx.elim (fun e=>e▸z.out.1.fb) (V.out x));have O:=Y.out.kept D (fun k hk hf=>t.out k hf hk);have a0:=A.cell 10 _ rfl;have c7:s.cell? ⟨b,7,none⟩=some (.int .i64 c.num):=A.cell 7 _ rfl;have hw:IntKind.i64.wrap (-1-c.num)= -1-c.num:=fV (by omega) (by omega);have Z:wrap64 (-1-c.num)= -1-c.num:=by unfold wrap64;omega
  have T:=jW s.drew F G b g f av cv (aA0 {c with up:=false}) net tr (eO (-1-c.num)) (Sys.drew ⟨⟨n,q,d,wt,.pointer none,A⟩,O,t.out⟩) hn ht;have M:Hid (Calls prog 77 #[.pointer (some ⟨g,0,none⟩),evV (eO (-1-c.num))] s.drew fun r W'=>r= .returned (.tuple #[])∧∃G',Sys W' F G' b g f av cv (aA0 {c with up:=false}) (net++dJ [eO (-1-c.num)]) (tr++[eO (-1-c.num)])∧Chg G s.drew W'∧∀k,G' k→G k∨s.drew.heap.size≤k):=T;have u:=cN D;clear T O D A S;go_wp2_with fail;refine eD [0,0,0,1,0,0,0,1,0,0] (by kernel_rfl) (fun _ _ _ _=>rfl) ?_;simp only[dC,dB];iterate 10 (apply sB rfl rfl;·(intro x h;(try cases h rfl);go_simp;with_reducible rfl))
  refine cP ?_;try simp only[pA]
  go_wp2_with fail;refine M.out.mono ?_;rintro r W3 ⟨rfl,X,v,E,I⟩;go_wp2_with fail;go_ret;refine⟨rfl,F,X,?_,(u.out.mono (fun _ _ h=>Or.inl h)).trans E.of_drew (fun _ _ h=>Or.inr h),fun _ h=>Or.inl h,fun k hk=>?_⟩
  ·rw[fE _ (show(4:Int)≠1 by decide),aC]at v;exact v
  ·rcases I k hk with h|h
   ·exact Or.inl h
   ·exact Or.inr (cA u.out.size h)
theorem iW(w:World):(Instr.makeChan 145 (.int .i64 0)).run prog w= .ok (.chan (some w.heap.size)) (w.alloc (.chan 0 #[] false 0 0 false)):=by
 have h:(prog.info? 206).map (fun i=>(i.zero,i.size,i.bytes))=some (some (.agg #[]),0,0):=by kernel_rfl
 obtain⟨i,b,c,d,a⟩:=info_parts h;simp[Instr.makeChan,aT,run_underlying underlying145,typeInfo,b,a,asInt,newObj,IntKind.max,IntKind.bits,IntKind.signed]
 rfl
theorem aFW(W:World)(F G:Nat→Prop)(b g:Nat)(f:Cf)(av cv:Value)(c:Ct)(net:List Mg)(tr:List Ev)(h:Sys W F G b g f av cv c net tr)(hd:c.up=false→c.doing=none)(hc:aAz c)(hn:net.length≤100000000000)(ht:tr.length≤100000000000):
 Calls prog 63 #[.pointer (some ⟨b,0,none⟩)] W fun r W'=>r= .returned (.int .i64 (gS c))∧After W F G b g f av cv (mT c) net (tr++nE c) W':=by
 have D:=cN h;obtain⟨⟨ch,S,H,wt,R,d⟩,v,n⟩:=h;have E:=wO W b ch c.up (d.cell 9 _ rfl) d.chan;unfold mT nE;cases hu:c.up
 ·rw[hu]at E;have u:Hid (Calls prog 90 #[.pointer (some ⟨b,0,none⟩)] W fun e I=>e= .returned (.bool false)∧I=W):=E;have c8:=d.cell 8 _ rfl;by_cases J:c.inc=63
  ·have Y:(c.inc==63)=true:=by simp[J]
   have z:gS c=5:=by unfold gS;rw[if_neg (by simp[hu]),if_pos J]
   rw[z,if_pos (by decide),if_pos (by decide),aC];clear E d v n hu z hd hc J;go_enter func63,ntmps63;go_wp2_with (go_at_call 90;refine u.out.mono ?_;rintro e I ⟨rfl,y⟩;have p:=y.symm;subst p;clear y);go_ret;exact⟨rfl,F,G,D.out,Went.refl _ _ _⟩
  ·have Y:(c.inc==63)=false:=by simp[J]
   have z:gS c=0:=by unfold gS;rw[if_neg (by simp[hu]),if_neg J]
   rw[z,if_neg (by decide),if_neg (by decide)];have i1:=hc.i1;have i2:=hc.i2;have n1:=hc.n1;have n2:=hc.n2;have w8:IntKind.i64.wrap (c.inc+1)=c.inc+1:=fV (by omega) (by omega);have w7:IntKind.i64.wrap (-1-c.num)= -1-c.num:=fV (by omega) (by omega);have a4:wrap64 (-1-c.num)= -1-c.num:=by unfold wrap64;omega
   have z8:=d.froz 8;have o:=cY W b 8 (.int .i64 (c.inc+1));have l:=d.cells o {c with inc:=c.inc+1} R rfl rfl rfl rfl (dD d.blk 8 _) (d.doing.kept d.blk (by decide) (by decide) o);have s:=v.kept o (fun k i e=>n b d.fb (e▸i));have q:=o.mono (fun k _ e=>e▸d.fb);generalize L:W.setCell ⟨b,8,none⟩ (.int .i64 (c.inc+1))=W1 at*;have a3:=cN L;have w:Chg NoS W1 (W1.alloc (.chan 0 #[] false 0 0 false)):=(Chg.refl _ _).alloc _;have a:=(l.kept w (fun _ _ h=>h)).grow (F':=fun k=>F k∨k=W1.heap.size) (fun _ h=>Or.inl h) (fun k i=>by
    rcases i with i|rfl
    ·have:=l.lt k i;simp;omega
    ·simp)
   have C:=s.kept w (fun _ _ h=>h);have A:=aA W1 (.chan 0 #[] false 0 0 false);have a1:(W1.alloc (.chan 0 #[] false 0 0 false)).heap.size=W1.heap.size+1:=by simp
   generalize M:W1.alloc (.chan 0 #[] false 0 0 false)=W2 at*;have V:=cN M;have d9:=a.cell 9 _ rfl;have z9:=a.froz 9;have j:=cY W2 b 9 (.chan (some W1.heap.size));have Q:b≠W1.heap.size:=fun e=>by have:=l.lt b l.fb;omega
   have O:({c with inc:=c.inc+1}:Ct).doing=none:=hd hu;have m:ClAt (W2.setCell ⟨b,9,none⟩ (.chan (some W1.heap.size))) (fun k=>F k∨k=W1.heap.size) b g f {c with inc:=c.inc+1,up:=true} W1.heap.size S H wt R:=by
    refine⟨dD a.blk 9 _,a.fb,(j.kept A (fun e=>Q e.symm)),Or.inr rfl,⟨a.maps.toks.kept j (fun e=>a.bt e.symm),a.maps.holds.kept j (fun e=>a.bh e.symm),a.maps.wat.kept j (fun e=>a.bw e.symm),a.maps.th,a.maps.tw,a.maps.hw,a.maps.ft,a.maps.fh,a.maps.fw⟩,?_,fun k i=>aG (a.lt k i) j.size⟩;have:=a.doing;show DoAt _ _ S H wt R ({c with inc:=c.inc+1}:Ct).doing;rw[O]at this⊢;exact this
   have t:∀k,(F k∨k=W1.heap.size)→¬G k:=fun k i hg=>by
    rcases i with i|rfl
    ·exact n k i hg
    ·have:=s.lt _ hg;omega
   have B:=C.kept j (fun k i e=>t b a.fb (e▸i));have N:Went W (W2.setCell ⟨b,9,none⟩ (.chan (some W1.heap.size))) F (fun k=>F k∨k=W1.heap.size) G G:=⟨((q.trans w (fun _ _ h=>h.elim)).trans j (fun x _ e=>e▸d.fb)).mono (fun _ _ h=>Or.inl h),fun k i=>by
    rcases i with i|rfl
    ·exact Or.inl i
    ·exact Or.inr q.size,fun _ h=>Or.inl h⟩
   generalize P:W2.setCell ⟨b,9,none⟩ (.chan (some W1.heap.size))=W3 at*;have T:=cN P;have a5:=m.cell 10 _ rfl;have e7:W3.cell? ⟨b,7,none⟩=some (.int .i64 c.num):=m.cell 7 _ rfl;have HR:=jW W3.drew (fun k=>F k∨k=W1.heap.size) G b g f av cv {c with inc:=c.inc+1,up:=true} net tr (jD (-1-c.num)) (Sys.drew ⟨⟨_,S,H,wt,_,m⟩,B,t⟩) hn ht;have a2:Hid (Calls prog 77 #[.pointer (some ⟨g,0,none⟩),evV (jD (-1-c.num))] W3.drew fun r W'=>r= .returned (.tuple #[])∧∃G',Sys W' (fun k=>F k∨k=W1.heap.size) G' b g f av cv {c with inc:=c.inc+1,up:=true} (net++dJ [jD (-1-c.num)]) (tr++[jD (-1-c.num)])∧Chg G W3.drew W'∧∀k,G' k→G k∨W3.drew.heap.size≤k):=HR;have Z:=cN N;have X:=cN (iW W1);clear HR N m B t C a j w l s o q d v n E L M P Q O A a1 z hd hc J hu;go_enter func63,ntmps63;go_wp2_with (first|rw[a3.out]|rw[X.out]|rw[V.out]|rw[T.out]|(go_at_call 90;refine u.out.mono ?_;rintro e I ⟨rfl,y⟩;have p:=y.symm;subst p;clear y));refine eD [0,0,0,1,0,0,0,1,0,0] (by kernel_rfl) (fun _ _ _ _=>rfl) ?_;simp only[dC,dB];iterate 10 (apply sB rfl rfl;·(intro x h;(try cases h rfl);go_simp;with_reducible rfl))
   refine cP ?_;try simp only[pA]
   go_wp2_with fail;refine a2.out.mono ?_;rintro r W4 ⟨rfl,G4,K,a0,U⟩;go_wp2_with fail;go_ret;refine⟨rfl,_,G4,?_,Z.out.trans ⟨a0.of_drew.mono (fun _ _ h=>Or.inr h),fun _ h=>Or.inl h,U⟩⟩;rw[fE _ (show(5:Int)≠1 by decide),aC]at K;exact K
 ·rw[hu]at E;have u:Hid (Calls prog 90 #[.pointer (some ⟨b,0,none⟩)] W fun e I=>e= .returned (.bool true)∧I=W):=E;have z:gS c=3:=by unfold gS;rw[if_pos hu]
  rw[z,if_pos (by decide),if_pos (by decide),aC];clear E d v n hu z hd hc;go_enter func63,ntmps63;go_wp2_with (go_at_call 90;refine u.out.mono ?_;rintro e I ⟨rfl,y⟩;have p:=y.symm;subst p;clear y);go_ret;exact⟨rfl,F,G,D.out,Went.refl _ _ _⟩
end
end Go.Proofs.YtbbdgokdfhdpiaaGreatDoor
