/- A part. -/
import Derived.Test.YtbbdgokdfhdpiaaGreatDoorA12
namespace Go.Proofs.YtbbdgokdfhdpiaaGreatDoor
set_option linter.all false
set_option maxRecDepth 100000
set_option maxHeartbeats 0
open Go.Proofs.Tryz Go.RowKit
theorem vB{W:World}{own:Nat→Nat}{y:Nat}{x:Rm}{V:RmV}(h:RmAt W own y x V){k:Nat}(hk:W.heap.size≤k):own k=0:=by
 rcases cC (own k)with e|e
 ·exact e
 ·have:=h.lt k (by omega);omega
structure EnSt(W:World)(own:Nat→Nat)(y:Nat)(x:Rm)(V:RmV)(i n0:Nat)(c:Rc)(E:Ev):Prop where
 rm:RmAt W own y {x with cls:=x.cls.set i c} V
 box:W.heap[n0]?=some (.cells (evL E).toArray 70 (0,0))
 no:own n0=0
section
variable {W W':World}{own:Nat→Nat}{y:Nat}{x:Rm}{V:RmV}{i n0:Nat}{c:Rc}{E:Ev}
theorem EnSt.drew(h:EnSt W own y x V i n0 c E):EnSt W.drew own y x V i n0 c E:=⟨h.rm.drew,h.box,h.no⟩
theorem EnSt.rc(h:EnSt W own y x V i n0 c E)(hi:i<x.cls.length):RcAt W (V.bC i) c (V.mv i) (V.hv i) (V.bv i):=by
 have:=h.rm.cls i (by simpa using hi);simpa using this
theorem EnSt.set(h:EnSt W own y x V i n0 c E)(hi:i<x.cls.length)(c':Rc)(j:Nat)(v:Value)(hb:(rcL c (V.mv i) (V.hv i) (V.bv i)).toArray.setIfInBounds j v=(rcL c' (V.mv i) (V.hv i) (V.bv i)).toArray)(h1:c'.mine=c.mine)(h2:c'.heard=c.heard)(h3:c'.back=c.back):
 EnSt (W.setCell ⟨V.bC i,j,none⟩ v) own y x V i n0 c' E:=by
 have b:n0≠V.bC i:=fun e=>by
  have:=h.rm.clo i (by simpa using hi);rw[←e,h.no]at this;omega
 refine⟨?_,(cY W (V.bC i) j v).kept h.box b,h.no⟩;have a:=dD (h.rc hi).blk j v;rw[hb]at a;have:=h.rm.cells (i:=i) (by simpa using hi) c' (cY W (V.bC i) j v) a (by simpa using h1) (by simpa using h2) (by simpa using h3);simpa using this
theorem EnSt.put(h:EnSt W own y x V i n0 c E){E':Ev}(hc:Chg (fun k=>k=n0) W W')(hb:W'.heap[n0]?=some (.cells (evL E').toArray 70 (0,0))):EnSt W' own y x V i n0 c E':=
 ⟨h.rm.kept hc (fun k hk e=>by subst e;exact hk h.no),hb,h.no⟩
theorem EnSt.chg(h:EnSt W own y x V i n0 c E)(hi:i<x.cls.length)(j:Nat)(v:Value){A:World}(hc:Chg (fun k=>own k≠0∨k=n0) A W):Chg (fun k=>own k≠0∨k=n0) A (W.setCell ⟨V.bC i,j,none⟩ v):=
 hc.trans (cY W (V.bC i) j v) (fun k _ e=>by subst e;left;have:=h.rm.clo i (by simpa using hi);omega)
end
theorem aGC{α:Type}(f:Int→α)(k:Int)(a b:α):upd (upd f k a) k b=upd f k b:=by
 funext z;unfold upd;split<;>rfl
theorem vI(W:World)(own:Nat→Nat)(y:Nat)(x:Rm)(V:RmV)(i:Nat)(c:Rc)(f:Cf)(N:Int)(h:RmAt W own y x V)(hi:i<x.cls.length)(hc:x.cls[i]=c)(ha:RcA N c)(hbs:RcB f N c)(hN:N≤90000000000)(res ow tk:Int)(ht:x.tr.length≤100000000000):
 Calls prog 180 #[.pointer (some ⟨y,0,none⟩),.pointer (some ⟨V.bC i,0,none⟩),evV (fEv res ow tk)] W fun r W'=>r= .returned (.tuple #[])∧RmTo W own y V {x with cls:=x.cls.set i (fP c res tk),tr:=x.tr++jX c res ow tk} W':=by
 obtain⟨i0,hin,hz0,hz1,hz2⟩:=info_parts nT;obtain⟨B,hB⟩:=aLz (V.bC i);rw[←hB];have HBB:=cN hB;obtain⟨k,hk⟩:∃k:Nat,c.lock=(k:Int):=⟨c.lock.toNat,by have:=hbs.l0;omega⟩;have hk3:k≤3:=by have:=hbs.l3;omega
 have hk4:(k:Int)<4:=by omega
 have HK:=cN hk;have hb0:=aA W (.cells #[.int .i64 0,.int .i64 0,.int .i64 0,.int .i64 0,.int .i64 0,.int .i64 0,.int .i64 0,.int .i64 0,.int .i64 0,.int .i64 0,.int .i64 0,.int .i64 0,.int .i64 0,.int .i64 0,.int .i64 0,.int .i64 res,.int .i64 ow,.int .i64 tk,.int .i64 0] 70);have hc0:Chg NoS W (W.alloc (.cells #[.int .i64 0,.int .i64 0,.int .i64 0,.int .i64 0,.int .i64 0,.int .i64 0,.int .i64 0,.int .i64 0,.int .i64 0,.int .i64 0,.int .i64 0,.int .i64 0,.int .i64 0,.int .i64 0,.int .i64 0,.int .i64 res,.int .i64 ow,.int .i64 tk,.int .i64 0] 70)):=(Chg.refl _ _).alloc _;have h0:=h.alloc (.cells #[.int .i64 0,.int .i64 0,.int .i64 0,.int .i64 0,.int .i64 0,.int .i64 0,.int .i64 0,.int .i64 0,.int .i64 0,.int .i64 0,.int .i64 0,.int .i64 0,.int .i64 0,.int .i64 0,.int .i64 0,.int .i64 res,.int .i64 ow,.int .i64 tk,.int .i64 0] 70);generalize hX0:W.alloc (.cells #[.int .i64 0,.int .i64 0,.int .i64 0,.int .i64 0,.int .i64 0,.int .i64 0,.int .i64 0,.int .i64 0,.int .i64 0,.int .i64 0,.int .i64 0,.int .i64 0,.int .i64 0,.int .i64 0,.int .i64 0,.int .i64 res,.int .i64 ow,.int .i64 tk,.int .i64 0] 70)=W0 at*;have HX0:=cN hX0;have hn0:own W.heap.size=0:=vB h (aE _);have HW:=cN (show W.heap.size≤W.heap.size from aE _);obtain⟨n0,hn⟩:=aLz (W.heap.size);have hE0:EnSt W0 own y x V i n0 c (fEv res ow tk):=⟨by rw[←hc,bH];exact h0,by rw[hn];exact hb0,by rw[hn];exact hn0⟩;have HN0:=cN hn;have hg0:Chg (fun k=>own k≠0∨k=n0) W W0:=hc0.mono (fun _ _ h=>h.elim)
 have lk0:W0.cell? ⟨B,39,none⟩=some (.int .i64 k):=by rw[hB,←hk];exact(hE0.rc hi).cell 39 _ rfl
 have b0:W0.cell? ⟨n0,0,none⟩=some (.int .i64 0):=cO hE0.box 0 _ rfl;have zb0:=cX hE0.box 0;have hE1:=hE0.put (E':={fEv res ow tk with kind:=3}) (cY W0 n0 0 (.int .i64 3)) (dD hE0.box 0 (.int .i64 3));have hg1:=hg0.trans (cY W0 n0 0 (.int .i64 3)) (fun _ _ e=>Or.inr e);generalize hX1:W0.setCell ⟨n0,0,none⟩ (.int .i64 3)=W1 at*;have HX1:=cN hX1;have e1:W1.cell? ⟨B,0,none⟩=some (.int .i64 c.id):=by rw[hB];exact(hE1.rc hi).cell 0 _ rfl
 have b1:W1.cell? ⟨n0,1,none⟩=some (.int .i64 0):=cO hE1.box 1 _ rfl;have zb1:=cX hE1.box 1;have hE2:=hE1.put (E':={fEv res ow tk with kind:=3,node:=c.id}) (cY W1 n0 1 (.int .i64 c.id)) (dD hE1.box 1 (.int .i64 c.id));have hg2:=hg1.trans (cY W1 n0 1 (.int .i64 c.id)) (fun _ _ e=>Or.inr e);generalize hX2:W1.setCell ⟨n0,1,none⟩ (.int .i64 c.id)=W2 at*;have HX2:=cN hX2;have HLO:Hid (∀j u,([.int .i64 c.kind,.int .i64 c.lock,.int .i64 c.ttl]:List Value)[j]?=some u→W2.cell? ((⟨B,38,none⟩:Addr).add j)=some u):=by
  rw[hB];exact eL (hE2.rc hi).blk 38 _ (fun j v hj=>by
   have hj3:j<3:=(aF.1 hj).1;rcases j with _|_|_|j<;>first|exact hj|omega)
 have HE2:=cN hE2;have HG2:=cN hg2;have HC:=cN hc;clear hX0 hX1 hX2 hE0 hE1 hE2 hg0 hg1 hg2 hb0 hc0 h0 h hn0 hB hk hc;subst hn;obtain⟨x',hx'⟩:=aLz (({x with cls:=x.cls.set i (fP c res tk),tr:=x.tr++jX c res ow tk}:Rm));rw[←hx'];have HXX:=cN hx';clear hx';show Calls prog 180 #[.pointer (some ⟨y,0,none⟩),.pointer (some ⟨B,0,none⟩),.agg #[.int .i64 0,.int .i64 0,.int .i64 0,.int .i64 0,.int .i64 0,.int .i64 0,.int .i64 0,.int .i64 0,.int .i64 0,.int .i64 0,.int .i64 0,.int .i64 0,.int .i64 0,.int .i64 0,.int .i64 0,.int .i64 res,.int .i64 ow,.int .i64 tk,.int .i64 0]] W _;go_enter func180,ntmps180;go_wp2_with (first|rw[HX0.out]|rw[HX1.out]|rw[HX2.out]|(refine cW rfl 68 _ rfl ⟨B,38,none⟩ rfl ([.int .i64 c.kind,.int .i64 c.lock,.int .i64 c.ttl]) _ HLO.out underlying68 rfl (by kernel_rfl) ?_)|(refine cV rfl 68 _ _ rfl (W.heap.size) 12 70 _ _ (evL {fEv res ow tk with kind:=3,node:=c.id,okind:=c.kind,olock:=c.lock,ottl:=c.ttl}) rfl rfl HE2.out.box (by kernel_rfl) (by simp[Value.oneCell']) (by simp) rfl ?_;intro W3 hc3 hs3 bn3;refine cQ ?_));have hE3:=HE2.out.put hc3 bn3;have hg3:=HG2.out.trans hc3 (fun _ _ e=>Or.inr e);clear hc3 hs3 bn3 lk0 b0 zb0 e1 b1 zb1 HLO;have e13:W3.cell? ⟨B,44,none⟩=some (.int .i64 c.bal):=by rw[HBB.out];exact(hE3.rc hi).cell 44 _ rfl
 have b18:W3.cell? ⟨W.heap.size,18,none⟩=some (.int .i64 0):=cO hE3.box 18 _ rfl;have zb18:=cX hE3.box 18;have hE4:=hE3.put (E':=iT c res ow tk) (cY W3 W.heap.size 18 (.int .i64 c.bal)) (dD hE3.box 18 (.int .i64 c.bal));have hg4:=hg3.trans (cY W3 W.heap.size 18 (.int .i64 c.bal)) (fun _ _ e=>Or.inr e);generalize hX4:W3.setCell ⟨W.heap.size,18,none⟩ (.int .i64 c.bal)=W4 at*;have HX4:=cN hX4;have b37:W4.cell? ⟨B,37,none⟩=some (.bool c.busy):=by rw[HBB.out];exact(hE4.rc hi).cell 37 _ rfl
 have zb37:W4.frozen? ⟨B,37,none⟩=false:=by rw[HBB.out];exact cX (hE4.rc hi).blk 37
 have hE5:=hE4.set hi {c with busy:=false} 37 (.bool false) rfl rfl rfl rfl;have hg5:=hE4.chg hi 37 (.bool false) hg4;rw[←HBB.out]at hE5 hg5;generalize hX5:W4.setCell ⟨B,37,none⟩ (.bool false)=W5 at*;have HX5:=cN hX5;have b15:W5.cell? ⟨W.heap.size,15,none⟩=some (.int .i64 res):=cO hE5.box 15 _ rfl;have HE5:=cN hE5;have HG5:=cN hg5;clear hX4 hX5 hE3 hE4 hE5 hg3 hg4 hg5;refine cN ?_;have hcs:(res=1∧c.kind=3)∨(res=1∧¬c.kind=3)∨res=3∨(res=2∨res=4)∨(¬res=1∧¬res=3∧¬(res=2∨res=4)):=by omega
 rcases hcs with⟨h1,h3⟩|⟨h1,h3⟩|h3|h24|⟨h1,h3,h24⟩;all_goals first
  |have H1:Hid (res=1):=cN h1
   clear h1;have hr1:(res==1)=true:=by simp[H1.out]
   have b16:W5.cell? ⟨W.heap.size,17,none⟩=some (.int .i64 tk):=cO HE5.out.box 17 _ rfl;have c6:W5.cell? ⟨B,5+k,none⟩=some (.int .i64 (c.tok k)):=by rw[HBB.out];exact(HE5.out.rc hi).cell (5+k) _ (vJ _ _ _ _ k hk3)
   have z6:W5.frozen? ⟨B,5+k,none⟩=false:=by rw[HBB.out];exact cX (HE5.out.rc hi).blk (5+k)
   have hE6:=HE5.out.set hi ({c with busy:=false,tok:=upd c.tok k tk}) (5+k) (.int .i64 (tk)) (aCR _ _ _ _ k hk3 _) rfl rfl rfl;have hg6:=HE5.out.chg hi (5+k) (.int .i64 (tk)) HG5.out;rw[←HBB.out]at hE6 hg6;generalize hX6:W5.setCell ⟨B,5+k,none⟩ (.int .i64 (tk))=W6 at*;have HX6:=cN hX6;have HE6:=cN hE6;have HG6:=cN hg6;clear hX6 hE6 hg6;have e11:W6.cell? ⟨B,41,none⟩=some (.int .i64 c.began):=by rw[HBB.out];exact(HE6.out.rc hi).cell 41 _ rfl
   have e10:W6.cell? ⟨B,40,none⟩=some (.int .i64 c.ttl):=by rw[HBB.out];exact(HE6.out.rc hi).cell 40 _ rfl
   have w1:IntKind.i64.wrap (c.began+c.ttl)=c.began+c.ttl:=fV (by have:=hbs.g0;have:=hbs.t0;omega) (by have:=hbs.g1;have:=hbs.t1;omega);have c7:W6.cell? ⟨B,9+k,none⟩=some (.int .i64 (c.til k)):=by rw[HBB.out];exact(HE6.out.rc hi).cell (9+k) _ (oY _ _ _ _ k hk3)
   have z7:W6.frozen? ⟨B,9+k,none⟩=false:=by rw[HBB.out];exact cX (HE6.out.rc hi).blk (9+k)
   have hE7:=HE6.out.set hi ({c with busy:=false,tok:=upd c.tok k tk,til:=upd c.til k (c.began+c.ttl)}) (9+k) (.int .i64 (c.began+c.ttl)) (yF _ _ _ _ k hk3 _) rfl rfl rfl;have hg7:=HE6.out.chg hi (9+k) (.int .i64 (c.began+c.ttl)) HG6.out;rw[←HBB.out]at hE7 hg7;generalize hX7:W6.setCell ⟨B,9+k,none⟩ (.int .i64 (c.began+c.ttl))=W7 at*;have HX7:=cN hX7;have HE7:=cN hE7;have HG7:=cN hg7;clear hX7 hE7 hg7;have e38:W7.cell? ⟨B,38,none⟩=some (.int .i64 c.kind):=by rw[HBB.out];exact(HE7.out.rc hi).cell 38 _ rfl
   first
    |have H3:Hid (c.kind=3):=cN h3
     have hr3:(c.kind==3)=true:=by simp[h3]
     have c8:W7.cell? ⟨B,5+k,none⟩=some (.int .i64 (upd c.tok k tk k)):=by rw[HBB.out];exact(HE7.out.rc hi).cell (5+k) _ (vJ _ _ _ _ k hk3)
     have z8:W7.frozen? ⟨B,5+k,none⟩=false:=by rw[HBB.out];exact cX (HE7.out.rc hi).blk (5+k)
     have hE8:=HE7.out.set hi ({c with busy:=false,tok:=upd (upd c.tok k tk) k 0,til:=upd c.til k (c.began+c.ttl)}) (5+k) (.int .i64 (0)) (aCR _ _ _ _ k hk3 _) rfl rfl rfl;have hg8:=HE7.out.chg hi (5+k) (.int .i64 (0)) HG7.out;rw[←HBB.out]at hE8 hg8;generalize hX8:W7.setCell ⟨B,5+k,none⟩ (.int .i64 (0))=W8 at*;have HX8:=cN hX8;have HE8:=cN hE8;have HG8:=cN hg8;clear hX8 hE8 hg8;have c9:W8.cell? ⟨B,9+k,none⟩=some (.int .i64 (upd c.til k (c.began+c.ttl) k)):=by rw[HBB.out];exact(HE8.out.rc hi).cell (9+k) _ (oY _ _ _ _ k hk3)
     have z9:W8.frozen? ⟨B,9+k,none⟩=false:=by rw[HBB.out];exact cX (HE8.out.rc hi).blk (9+k)
     have hE9:=HE8.out.set hi ({c with busy:=false,tok:=upd (upd c.tok k tk) k 0,til:=upd (upd c.til k (c.began+c.ttl)) k 0}) (9+k) (.int .i64 (0)) (yF _ _ _ _ k hk3 _) rfl rfl rfl;have hg9:=HE8.out.chg hi (9+k) (.int .i64 (0)) HG8.out;rw[←HBB.out]at hE9 hg9;generalize hX9:W8.setCell ⟨B,9+k,none⟩ (.int .i64 (0))=W9 at*;have HX9:=cN hX9;have HE9:=cN hE9;have HG9:=cN hg9;clear hX9 hE9 hg9;have HFC0:Hid (fP c res tk={c with busy:=false,tok:=upd (upd c.tok k tk) k 0,til:=upd (upd c.til k (c.began+c.ttl)) k 0}):=by
      show _=_;unfold fP;dsimp only;rw[if_pos H1.out,if_pos h3,aGC,aGC,HK.out]
     have HZ0:=cN (show EnSt W9 own y x V i W.heap.size (fP c res tk) (iT c res ow tk)from by rw[HFC0.out];exact HE9.out);have HGW:=HG9;clear h3 HE6 HG6 HE7 HG7 HE8 HG8 HE9
    |have hr3:(c.kind==3)=false:=by simp[h3]
     have HFC0:Hid (fP c res tk={c with busy:=false,tok:=upd c.tok k tk,til:=upd c.til k (c.began+c.ttl)}):=by
      show _=_;unfold fP;dsimp only;rw[if_pos H1.out,if_neg h3,HK.out]
     have HZ0:=cN (show EnSt W7 own y x V i W.heap.size (fP c res tk) (iT c res ow tk)from by rw[HFC0.out];exact HE7.out);have HGW:=HG7;clear h3 HE6 HG6 HE7
   rename World=>WW;go_wp2_with (first|rw[HX4.out]|rw[HX5.out]);clear e13 b18 zb18 b37 zb37;refine eD [0,0,0,1,0,0,0] (by kernel_rfl) (fun _ _ _ _=>rfl) ?_;simp only[dC,dB];iterate 7 (apply sB rfl rfl;·(intro x h;(try cases h rfl);go_simp;with_reducible rfl))
   refine cP ?_;try simp only[pA]
   go_wp2_with (first|rw[HX6.out]);clear c6 z6;refine eD [0,0,0,0,0,1,0,0,0,0,1,0,0,0,0] (by kernel_rfl) (fun _ _ _ _=>rfl) ?_;simp only[dC,dB];iterate 15 (apply sB rfl rfl;·(intro x h;(try cases h rfl);go_simp;with_reducible rfl))
   refine cP ?_;try simp only[pA]
   go_wp2_with (first|rw[HX7.out]|rw[HX8.out]|rw[HX9.out]);clear c7 z7 e38 e11 e10 b16 b15;try clear c8 z8 c9 z9
   generalize hWd:WW.drew.drew=WZ;have HZ:=cN (show EnSt WZ own y x V i W.heap.size (fP c res tk) (iT c res ow tk)from hWd▸HZ0.out.drew.drew);have HGZ:=cN (show Chg (fun k=>own k≠0∨k=W.heap.size) W WZ from hWd▸HGW.out.drew.drew)
  |have H3:Hid (res=3):=cN h3
   have hr1:(res==1)=false:=by rw[H3.out];rfl
   have hr3:(res==3)=true:=by simp[h3]
   have c6:W5.cell? ⟨B,5+k,none⟩=some (.int .i64 (c.tok k)):=by rw[HBB.out];exact(HE5.out.rc hi).cell (5+k) _ (vJ _ _ _ _ k hk3)
   have z6:W5.frozen? ⟨B,5+k,none⟩=false:=by rw[HBB.out];exact cX (HE5.out.rc hi).blk (5+k)
   have hE6:=HE5.out.set hi ({c with busy:=false,tok:=upd c.tok k 0}) (5+k) (.int .i64 (0)) (aCR _ _ _ _ k hk3 _) rfl rfl rfl;have hg6:=HE5.out.chg hi (5+k) (.int .i64 (0)) HG5.out;rw[←HBB.out]at hE6 hg6;generalize hX6:W5.setCell ⟨B,5+k,none⟩ (.int .i64 (0))=W6 at*;have HX6:=cN hX6;have HE6:=cN hE6;have HG6:=cN hg6;clear hX6 hE6 hg6;have c7:W6.cell? ⟨B,9+k,none⟩=some (.int .i64 (c.til k)):=by rw[HBB.out];exact(HE6.out.rc hi).cell (9+k) _ (oY _ _ _ _ k hk3)
   have z7:W6.frozen? ⟨B,9+k,none⟩=false:=by rw[HBB.out];exact cX (HE6.out.rc hi).blk (9+k)
   have hE7:=HE6.out.set hi ({c with busy:=false,tok:=upd c.tok k 0,til:=upd c.til k 0}) (9+k) (.int .i64 (0)) (yF _ _ _ _ k hk3 _) rfl rfl rfl;have hg7:=HE6.out.chg hi (9+k) (.int .i64 (0)) HG6.out;rw[←HBB.out]at hE7 hg7;generalize hX7:W6.setCell ⟨B,9+k,none⟩ (.int .i64 (0))=W7 at*;have HX7:=cN hX7;have HE7:=cN hE7;have HG7:=cN hg7;clear hX7 hE7 hg7;have HFC:Hid (fP c res tk={c with busy:=false,tok:=upd c.tok k 0,til:=upd c.til k 0}):=by
    show _=_;unfold fP;dsimp only;rw[if_neg (by omega),if_pos h3,HK.out]
   have HZ:=cN (show EnSt W7 own y x V i W.heap.size (fP c res tk) (iT c res ow tk)from by rw[HFC.out];exact HE7.out);have HGZ:=cN HG7.out;clear h3 HE6 HG6 HE7 HG7;go_wp2_with (first|rw[HX4.out]|rw[HX5.out]|rw[HX6.out]|rw[HX7.out]);clear c6 z6 c7 z7 b15 e13 b18 zb18 b37 zb37;rename World=>WZ
  |have H24:Hid (¬(res=2∨res=4)):=cN h24
   have hr1:(res==1)=false:=by simp[h1]
   have hr3:(res==3)=false:=by simp[h3]
   have hr2:(res==2)=false:=by simp;omega
   have hr4:(res==4)=false:=by simp;omega
   have HFC0:Hid (fP c res tk={c with busy:=false}):=by
    show _=_;unfold fP;dsimp only;rw[if_neg h1,if_neg h3,if_neg h24]
   have HZ:=cN (show EnSt W5 own y x V i W.heap.size (fP c res tk) (iT c res ow tk)from by rw[HFC0.out];exact HE5.out);have HGZ:=cN HG5.out;clear h1 h3 h24;go_wp2_with (first|rw[HX4.out]|rw[HX5.out]);clear b15 e13 b18 zb18 b37 zb37;rename World=>WZ
  |have h1:¬res=1:=by omega
   have h3:¬res=3:=by omega
   have hr1:(res==1)=false:=by simp[h1]
   have hr3:(res==3)=false:=by simp[h3]
   have hr24:(res==2)=true∨((res==2)=false∧(res==4)=true):=by
    rcases h24 with h|h
    ·left;simp[h]
    ·right;constructor<;>simp[h]
   have hE:fP c res tk=wM {c with busy:=false}:=by
    unfold fP;dsimp only;rw[if_neg h1,if_neg h3,if_pos h24]
   have HEQ:=cN hE;clear hE h1 h3 h24;obtain⟨u,hu⟩:=aLA (c.wat k);obtain⟨v,hv⟩:=aLA (c.next);have HU:=cN hu;have HV:=cN hv;have HLV:Hid (∀j z,(vlL v)[j]?=some z→W5.cell? ((⟨B,48,none⟩:Addr).add j)=some z):=by
    rw[HBB.out,←hv];exact eL (HE5.out.rc hi).blk 48 _ (fun j z hj=>by
     have hj4:j<4:=(aF.1 hj).1;rcases j with _|_|_|_|j<;>first|exact hj|omega)
   have HLU0:∀Z,EnSt Z own y x V i W.heap.size {c with busy:=false} (iT c res ow tk)→∀j z,(aCQ u)[j]?=some z→Z.cell? ((⟨B,13+k*6,none⟩:Addr).add j)=some z:=by
    intro Z hZ;rw[HBB.out,←hu];exact eL (hZ.rc hi).blk (13+k*6) _ (aCA {c with busy:=false} _ _ _ k hk3)
   have HLUQ:=cN HLU0;clear HLU0 hu hv;rcases hr24 with hr2|⟨hr2,hr4⟩;all_goals
    go_wp2_with (first|rw[HX4.out]|rw[HX5.out]|(refine cW rfl 56 _ rfl ⟨B,48,none⟩ rfl (vlL v) _ HLV.out underlying56 rfl (by kernel_rfl) ?_)|(refine cV rfl 56 _ _ rfl (W5.heap.size) 0 56 _ _ (vlL v) rfl rfl (aA W5 _) (by kernel_rfl) (by simp[Value.oneCell']) (by simp) rfl ?_;intro W6 hc6 hs6 bn6;refine cQ ?_));clear e13 b18 zb18 b37 zb37 b15;have hc56:Chg (fun q=>q=W5.heap.size) W5 W6:=((Chg.refl NoS W5).alloc _).nos.trans hc6 (fun _ _ h=>h);have hs6':W6.heap.size=W5.heap.size+1:=by rw[hs6];simp
    have hw5:W.heap.size<W5.heap.size:=dG HE5.out.box;have hE6:EnSt W6 own y x V i W.heap.size {c with busy:=false} (iT c res ow tk):=⟨HE5.out.rm.kept hc56 (fun q hq e=>by subst e;exact hq (vB HE5.out.rm (aE _))),hc56.kept HE5.out.box (by omega),HE5.out.no⟩;have hg6:Chg (fun q=>own q≠0∨q=W.heap.size) W W6:=HG5.out.trans hc56 (fun q hq e=>by have:=HG5.out.size;omega);have HLU:=cN (HLUQ.out W6 hE6);have HE6:=cN hE6;have HG6:=cN hg6;have HB6:=cN bn6;have HS6:=cN hs6';obtain⟨n5,hn5⟩:=aLA (W5.heap.size);have HN5:=cN (aLo hn5 hw5);clear hc6 hs6 bn6 hc56 hs6' hE6 hg6 hw5;refine cN ?_;simp only[hn5];clear hn5;go_wp2_with (first|(refine cW rfl 179 _ rfl ⟨B,13+k*6,none⟩ rfl (aCQ u) _ HLU.out underlying179 rfl (by kernel_rfl) ?_)|(refine cV rfl 179 _ _ rfl (W6.heap.size) 0 179 _ _ (aCQ u) rfl rfl (aA W6 _) (by kernel_rfl) (by simp[Value.oneCell']) (by simp) rfl ?_;intro W7 hc7 hs7 bn7;refine cQ ?_));have hc67:Chg (fun q=>q=W6.heap.size) W6 W7:=((Chg.refl NoS W6).alloc _).nos.trans hc7 (fun _ _ h=>h);have hs6:=HS6.out;rw[HN5.out.1]at hs6;rw[hs6]at hc67 bn7;have hw5:=HN5.out.2;rw[HN5.out.1]at hw5;have hE7:EnSt W7 own y x V i W.heap.size {c with busy:=false} (iT c res ow tk):=⟨HE6.out.rm.kept hc67 (fun q hq e=>by subst e;exact hq (vB HE6.out.rm (by omega))),hc67.kept HE6.out.box (by omega),HE6.out.no⟩;have hg7:Chg (fun q=>own q≠0∨q=W.heap.size) W W7:=HG6.out.trans hc67 (fun q hq e=>by have:=HG6.out.size;omega);have hb6:=HB6.out;rw[HN5.out.1]at hb6;have hv7:=hc67.kept hb6 (by omega)
    have HE7:=cN hE7;have HG7:=cN hg7;refine cN ?_;simp only[hs6];have v0:W7.cell? ⟨n5,0,none⟩=some (.int .i64 v.own):=cO hv7 0 _ rfl;have v1:W7.cell? ⟨n5,1,none⟩=some (.int .i64 v.tok):=cO hv7 1 _ rfl;have v3:W7.cell? ⟨n5,3,none⟩=some (.int .i64 v.seq):=cO hv7 3 _ rfl;have u0:W7.cell? ⟨n5+1,0,none⟩=some (.bool u.on):=cO bn7 0 _ rfl;have u1:W7.cell? ⟨n5+1,1,none⟩=some (.int .i64 u.val.own):=cO bn7 1 _ rfl;have u2:W7.cell? ⟨n5+1,2,none⟩=some (.int .i64 u.val.tok):=cO bn7 2 _ rfl;have u4:W7.cell? ⟨n5+1,4,none⟩=some (.int .i64 u.val.seq):=cO bn7 4 _ rfl;have HV7:=cN hv7;have e0:W7.cell? ⟨B,0,none⟩=some (.int .i64 c.id):=by rw[HBB.out];exact(hE7.rc hi).cell 0 _ rfl
    have e3:W7.cell? ⟨B,3,none⟩=some (.int .i64 c.clock):=by rw[HBB.out];exact(hE7.rc hi).cell 3 _ rfl
    have w1:IntKind.i64.wrap (c.id+1)=c.id+1:=fV (by have:=ha.d0;omega) (by have:=ha.d3;omega);clear hc7 hs7 bn7 hc67 hs6 hw5 hE7 hg7 hb6 hv7 HLU;obtain⟨q,hq⟩:∃q:Bool,q=(u.on&&(u.val.own==v.own)&&(u.val.tok==v.tok)&&(u.val.seq==v.seq)):=⟨_,rfl⟩;have HQ:=cN hq;clear hq;have hsp:u.on=false∨u.on=true∧((u.val.own==v.own)=false∨(u.val.own==v.own)=true∧((u.val.tok==v.tok)=false∨(u.val.tok==v.tok)=true∧((u.val.seq==v.seq)=false∨(u.val.seq==v.seq)=true))):=by
     cases u.on<;>cases (u.val.own==v.own)<;>cases (u.val.tok==v.tok)<;>cases (u.val.seq==v.seq)<;>simp
    have hsv:(v.own==0)=true∨((v.own==0)=false∧(v.own==c.id+1)=true)∨((v.own==0)=false∧(v.own==c.id+1)=false):=by
     cases (v.own==0)<;>cases (v.own==c.id+1)<;>simp
    have fin0:((v.own==0)=true∨(v.own==c.id+1)=true∨q=true)→fP c res tk={c with busy:=false}:=by
     intro hh;rw[HEQ.out];unfold wM;dsimp only;rw[HV.out,HK.out,HU.out];rw[if_neg];intro⟨g1,g2,g3⟩;rcases hh with hh|hh|hh
     ·exact g1 (by simpa using hh)
     ·exact g2 (by simpa using hh)
     ·apply g3;have:=HQ.out;rw[hh]at this;simpa[and_assoc]using this.symm
    have fin1:((v.own==0)=false∧(v.own==c.id+1)=false∧q=false)→fP c res tk={c with busy:=false,wat:=upd c.wat k ⟨true,v,c.clock⟩}:=by
     intro⟨g1,g2,g3⟩;rw[HEQ.out];unfold wM;dsimp only;rw[HV.out,HK.out,HU.out];rw[if_pos];refine⟨by simpa using g1,by simpa using g2,fun hh=>?_⟩;have:=HQ.out;rw[g3]at this;simp[hh.1,hh.2.1,hh.2.2.1,hh.2.2.2]at this
    have HF0:=cN fin0;have HF1:=cN fin1;clear fin0 fin1;have p2:=True.intro;have p3:=True.intro;have p4:=True.intro;have s1:=True.intro;rcases hsp with p1|⟨p1,p2|⟨p2,p3|⟨p3,p4|p4⟩⟩⟩;all_goals
     go_wp2_with fail;rcases hsv with s0|⟨s0,s1⟩|⟨s0,s1⟩
    all_goals
     first
      |have hn0:(v.own !=0)=false:=congrArg not s0
      |have hn0:(v.own !=0)=true:=congrArg not s0
     first
      |have hn1:(v.own !=c.id+1)=false:=congrArg not s1
      |have hn1:(v.own !=c.id+1)=true:=congrArg not s1
      |skip
     refine eD [0,1,0,0,0,1,0,0,0,1,0,0,0,0,0,0,0] (by kernel_rfl) (fun _ _ _ _=>rfl) ?_;simp only[dC,dB];iterate 17 ((try simp only[pA]);first|(apply sB rfl rfl;·(intro x h;(try cases h rfl);go_simp;with_reducible rfl))|apply dN rfl|apply dL rfl)
     refine cP ?_;try simp only[pA]
     go_wp2_with fail;first
      |refine lQ (p:=Hid (fP c res tk={c with busy:=false})) (cN (HF0.out ?_)) fun HFE=>?_
       ·first|exact Or.inl s0|exact Or.inr (Or.inl s1)|(right;right;rw[HQ.out];simp[p1,p2,p3,p4])
       generalize hWd:W7.drew=WZ;have HZ:=cN (show EnSt WZ own y x V i W.heap.size (fP c res tk) (iT c res ow tk)from by rw[HFE.out];exact hWd▸HE7.out.drew);have HGZ:=cN (show Chg (fun k=>own k≠0∨k=W.heap.size) W WZ from hWd▸HG7.out.drew);clear v0 v1 v3 u0 u1 u2 u4 e0 e3
      |have HFE:=cN (HF1.out ⟨s0,s1,by rw[HQ.out];simp[p1,p2,p3,p4]⟩)
       have HLV7:Hid (∀j z,(vlL v)[j]?=some z→W7.drew.cell? ((⟨n5,0,none⟩:Addr).add j)=some z):=cR (W:=W7.drew) HV7.out;have HRC:=cN (show W7.heap[B]?=some (.cells (rcL {c with busy:=false} (V.mv i) (V.hv i) (V.bv i)).toArray 182 (0,0))from by rw[HBB.out];exact(HE7.out.rc hi).blk);refine eD [0,0,1,0,0,0,1,0,0,0,0] (by kernel_rfl) (fun _ _ _ _=>rfl) ?_;simp only[dC,dB];iterate 2 (apply sB rfl rfl;·(intro x h;(try cases h rfl);go_simp;with_reducible rfl))
       try simp only[pA]
       refine dA (v:=vlV v) rfl (fun zz hx=>cU 56 _ rfl ⟨n5,0,none⟩ rfl (vlL v) _ (by subst hx;exact HLV7.out) underlying56 rfl (by kernel_rfl)) ?_;(try simp only[pA]);iterate 8 (apply sB rfl rfl;·(intro x h;(try cases h rfl);go_simp;with_reducible rfl))
       refine cP ?_;try simp only[pA]
       clear v0 v1 v3 u0 u1 u2 u4;go_wp2_with (refine cV rfl 179 _ _ rfl B (13+k*6) 182 _ _ (rcL {c with busy:=false,wat:=upd c.wat k ⟨true,v,c.clock⟩} (V.mv i) (V.hv i) (V.bv i)) rfl rfl (show W7.drew.drew.heap[B]?=_ from HRC.out) (by kernel_rfl) (by simp[Value.oneCell']) (by simp;omega) (aFa {c with busy:=false} _ _ _ k hk3 ⟨true,v,c.clock⟩) ?_;intro W8 hc8 hs8 bn8;refine cQ ?_);have hE8:EnSt W8 own y x V i W.heap.size {c with busy:=false,wat:=upd c.wat k ⟨true,v,c.clock⟩} (iT c res ow tk):=by
        have hbc:B=V.bC i:=HBB.out;rw[hbc]at hc8 bn8;refine⟨?_,hc8.kept HE7.out.box (fun e=>by have:=HE7.out.rm.clo i (by simpa using hi);rw[←e,HE7.out.no]at this;omega),HE7.out.no⟩;have:=HE7.out.rm.cells (W':=W8) (i:=i) (by simpa using hi) {c with busy:=false,wat:=upd c.wat k ⟨true,v,c.clock⟩} hc8.of_drew.of_drew bn8 (by simp) (by simp) (by simp);simpa using this
       have HZ:=cN (show EnSt W8 own y x V i W.heap.size (fP c res tk) (iT c res ow tk)from by rw[HFE.out];exact hE8);have HGZ:Hid (Chg (fun q=>own q≠0∨q=W.heap.size) W W8):=HG7.out.trans hc8.of_drew.of_drew (fun q _ e=>by subst e;left;have:=HE7.out.rm.clo i (by simpa using hi);rw[HBB.out];omega);clear hc8 hs8 bn8 hE8 e0 e3;refine cN ?_;go_wp2_with fail;rename World=>WZ
 all_goals
  have c10:WZ.cell? ⟨y,10,none⟩=some V.tv:=HZ.out.rm.cell 10 _ rfl;refine rlx [0,0,0,0,1,1,2] (fun z=>z.cell? ⟨y,10,none⟩=some V.tv∧∀j u,(evL (iT c res ow tk))[j]?=some u→z.cell? ((⟨W.heap.size,0,none⟩:Addr).add j)=some u) (by kernel_rfl) (fun _ _ _ _=>rfl) ?_ ?_
  ·exact⟨c10,cR (W:=WZ.drew) HZ.out.box⟩
  simp only[dC,dB];iterate 5 (apply sB rfl rfl;·(intro x h;(try have h:=h rfl);(try dsimp only at h);go_simp;with_reducible rfl))
  try simp only[pA]
  refine dA (v:=evV (iT c res ow tk)) rfl (fun zz hx=>cU 70 _ rfl ⟨W.heap.size,0,none⟩ rfl (evL (iT c res ow tk)) _ hx.2 underlying70 rfl (by kernel_rfl)) ?_;(try simp only[pA]);refine dI rfl (fun C hC=>?_);go_simp;have hn1:Chg NoS WZ.drew (WZ.drew.alloc (.cells (evL (iT c res ow tk)).toArray 70)):=(Chg.refl _ _).alloc _;have hbn:=aA WZ.drew (.cells (evL (iT c res ow tk)).toArray 70);refine hC _ _ ⟨hn1.cellN c10,cR (hn1.kept HZ.out.box (fun h=>h))⟩ ?_;clear hC C;refine cP ?_;refine wpList_append_lies _ rfl _ _ 43 rfl 0 70 i0 _ 19 152 underlying43 hin hz0 hz1 hz2 rfl (by decide) V.tv x.tr.length (cZ evL x.tr) rfl (hn1.row HZ.out.rm.drew.tr (fun _ _ h=>h)) ⟨WZ.heap.size,0,none⟩ 1 1 (evL (iT c res ow tk)) rfl rfl (cR hbn) (nU _) (by decide) (by unfold maxLen;omega) (by omega) (aI _) (WZ.heap.size+1) (by simp) ?_;intro gt cap2 W23 hown3 hgr3 hat3 hlt3;have hto:=HZ.out.rm.trAppend (e:=iT c res ow tk) (W1:=WZ.drew.alloc (.cells (evL (iT c res ow tk)).toArray 70)) hn1.of_drew ⟨hgr3.os,hgr3.tape,hgr3.output,hgr3.size,hgr3.block⟩ hown3 (hat3.imp (fun h=>h) (fun h=>by simp;omega));have hn01:Chg (fun k=>some k=V.tv.ownBlock) WZ W23:=(hn1.of_drew.mono (T:=fun k=>some k=V.tv.ownBlock) (fun _ _ h=>h.elim)).trans (Chg.of_grown ⟨hgr3.os,hgr3.tape,hgr3.output,hgr3.size,hgr3.block⟩) (fun _ _ h=>h);have hy3:=hn01.kept HZ.out.rm.blk (fun e=>by have:=HZ.out.rm.tvo _ e.symm;have:=HZ.out.rm.yo;omega);have d10:W23.cell? ⟨y,10,none⟩=some V.tv:=cO hy3 10 _ rfl;have z10:=cX hy3 10;have HTO:=cN hto
  clear hto hn01 hy3 hown3 hgr3 hat3 hlt3 hn1 hbn c10;(try simp only[pA]);go_wp2_with fail;go_end0;refine⟨rfl,?_⟩;rw[HXX.out];refine RmTo.trans (own1:=own) (V1:=V) rfl rfl ((HGZ.out.mono (S:=fun k=>own k≠0∨k=W.heap.size) (fun k hk e=>e.elim (fun e=>e) (fun e=>by omega))):Chg (fun k=>own k≠0) W WZ) (fun _ h=>Or.inl h) ?_;exact HTO.out
end Go.Proofs.YtbbdgokdfhdpiaaGreatDoor
