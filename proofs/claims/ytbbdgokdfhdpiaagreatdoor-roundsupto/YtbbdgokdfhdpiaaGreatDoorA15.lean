/- A part. -/
import Derived.Test.YtbbdgokdfhdpiaaGreatDoorA12
namespace Go.Proofs.YtbbdgokdfhdpiaaGreatDoor
set_option linter.all false
set_option maxRecDepth 100000
set_option maxHeartbeats 0
open Go.Proofs.Tryz Go.RowKit
section
open Go.Maps
theorem aD3{fl:Nat}{fn:Option Nat}{kl:Lit}{y:DataW Unit}(h:∀zd,(fZ fl fn).atKey kl zd=y):(kl= .string sL∧y= .lit (.int .i64 fl))∨∃b,fn=some b∧kl= .string yH∧y= .lit (.int .i64 b):=by
 have a:=h (.lit (.int .i64 0));have c:=h (.lit (.int .i64 1));cases fn with
 |none=>
  simp only[fZ,DataW.atKey,List.find?_cons,List.find?_nil]at a c;cases hk:(Lit.string sL).sameKey kl with
  |true=>rw[hk]at a;exact Or.inl ⟨(WideAt.sameKey_eq hk).symm,a.symm⟩
  |false=>rw[hk]at a c;dsimp only at a c;rw[←c]at a;cases a
 |some b=>
  simp only[fZ,DataW.atKey,List.find?_cons,List.find?_nil]at a c;cases hk:(Lit.string sL).sameKey kl with
  |true=>rw[hk]at a;exact Or.inl ⟨(WideAt.sameKey_eq hk).symm,a.symm⟩
  |false=>
   cases hk':(Lit.string yH).sameKey kl with
   |true=>rw[hk,hk']at a;exact Or.inr ⟨b,rfl,(WideAt.sameKey_eq hk').symm,a.symm⟩
   |false=>rw[hk,hk']at a c;dsimp only at a c;rw[←c]at a;cases a
theorem aF4(W:World)(F:Nat→Prop)(d:Nat)(k:Dk)(q:Int)(h:Disk W F d k)(hy0:0≤(fB k).2)(hy1:(fB k).2≤((fB k).1.length:Int))(hl:((fB k).1.length:Int)≤1000000000000)(hq:0≤q):
 Calls prog 166 #[.pointer (some ⟨d,0,none⟩),.int .i64 q] W fun e W'=>e= .returned (.tuple #[])∧DkTo W F d (fM k q) W':=by
 obtain⟨nm,km,fl,fn,a,fv,h⟩:=h;have f:FileAt W a (fB k).1 (fB k).2∧F a:=by
  have ho:=h.old;unfold fB;cases hk:k.old with
  |none=>rw[hk]at ho;obtain rfl:a=fl:=ho;exact⟨h.log,h.flog⟩
  |some p=>rw[hk]at ho;exact⟨ho.1,ho.2.1⟩
 have eC:fM k q=⟨k.room,wY (fB k).1 (fB k).2 q,(wY (fB k).1 (fB k).2 q).length,none,none,none⟩:=rfl;rw[eC];clear eC;generalize hp:fB k=p at*;obtain⟨t,y⟩:=p;dsimp only at f hy0 hy1 hl⊢;obtain⟨J,hJ⟩:=aLz (y+min q ((t.length:Int)-y));have eC:wY t y q=t.take J.toNat:=by unfold wY;rw[hJ]
 rw[eC];have g4:0≤J:=by omega
 have f9:J≤(t.length:Int):=by omega
 have e7:=kH t;have g5:J≤((strOfNums t).size:Int):=by rw[e7];exact f9
 have z3:=h.froz 3;have c3:=h.cell 3 _ rfl;have N:=cY W d 3 (.pointer none);have c8:=dD h.blk 3 (.pointer none);have K:(W.setCell ⟨d,3,none⟩ (.pointer none)).heap.size=W.heap.size:=by simp
 generalize a4:W.setCell ⟨d,3,none⟩ (.pointer none)=W1 at*;have b3:=cN a4;have h1:DkAt W1 F d {k with fail:=none} nm km fl fn a (.pointer none):=h.self' N c8 h.names h.kept h.fnm h.fkm h.nk rfl rfl rfl h.old rfl;have f1:FileAt W1 a t y:=N.kept f.1 (fun e=>gA f.1 h.blk (by decide) e);have d2:=h1.cell 2 _ rfl;obtain⟨O,l,o1⟩:=eH h1.kept;have c5:=cN (yY W1 km O l o1);have I:Chg NoS W1 (W1.alloc (.map O l)):=(Chg.refl _ _).alloc _;have Z:(W1.alloc (.map O l)).heap[W1.heap.size]?=some (.map O l):=aA W1 _;have a6:(W1.alloc (.map O l)).heap.size=W.heap.size+1:=by simp[K]
 have E:=h1.apart I (fun _ _ h=>h);have f2:FileAt (W1.alloc (.map O l)) a t y:=I.kept f1 (fun h=>h);have n2:oH (W1.alloc (.map O l)) W1.heap.size a none:=sC h1.kept (Z.trans o1.symm);generalize e6:W1.alloc (.map O l)=W2 at*;rw[K]at n2 Z;have z1:=E.froz 1;have d1:=E.cell 1 _ rfl;have u:=cY W2 d 1 (.map (some W.heap.size));have a1:=dD E.blk 1 (.map (some W.heap.size));have a3:(W2.setCell ⟨d,1,none⟩ (.map (some W.heap.size))).heap.size=W.heap.size+1:=by simpa using a6
 generalize c7:W2.setCell ⟨d,1,none⟩ (.map (some W.heap.size))=W3 at*;have b4:=cN c7;have f3:FileAt W3 a t y:=u.kept f2 (fun e=>gA f2 E.blk (by decide) e);have n3:oH W3 W.heap.size a none:=eB n2 (u.block _ (by omega) (fun e=>by have:=h.lt d h.fd;omega));have k3:oH W3 km a none:=eB E.kept (u.block _ E.kept.lt (fun e=>by obtain⟨_,_,o⟩:=eH E.kept;exact eX o E.blk (by simp) e));have e8:=cN (((N.mono (fun x _ e=>e▸h.fd):Chg F W W1).nos' I).trans u (fun x _ e=>e▸h.fd));have b5:Hid (W3.heap[d]?=some (.cells (dkL ⟨k.room,t.take J.toNat,(t.take J.toNat).length,none,none,none⟩ W.heap.size km (.pointer none)).toArray 212 (0,0))):=a1;have C:=cN f3;have H:=cN n3;have L:=cN k3;have m:=cN (aLq h.fd h.fkm f.2 h.lt);have e4:=cN (h.lt _ h.fkm);have e0:=cN K;have e9:=cN a3;have e1:=cO a1 1 _ rfl;clear a4 e6 c7 N I u c8 Z a1 h1 E f1 f2 f3 n2 n3 k3 h f a6 a3 K o1 hp eC;go_enter func166,ntmps166;go_wp2_with (first|rw[b3.out]|rw[b4.out]|(go_at_call 186;refine c5.out.mono ?_;rintro r g3 ⟨rfl,rfl⟩;try rw[e0.out])|(at_range;refine wpList_range_own _ rfl _ 209 rfl 9 207 aAA underlying209 rG W.heap.size 2 (fZ a none) rfl H.out ?_;intro W4 U a7 b0;refine cQ ?_));have B:=cN a7;have d8:=cN U;have c9:=cN b0;clear a7 U b0 b3 b4 c5 z1 d1 d2 z3 c3 e1;refine cN ?_;go_wp2_with fail;refine wp_loop_rounds 2 ?_;rw[rounds_succ]
 go_wp2_with (at_next;refine wpList_next_ranges _ rfl _ rfl 9 aAA rG (fun v:Value=>v) (fun v:Value=>v) (fun key kl h=>⟨key,rfl⟩) (fun v y h=>⟨v,rfl⟩) W.heap.size W3.heap.size 2 (fZ a none) _ _ rfl d8.out ?_ ?_)
 ·intro a2;exact absurd (show(1:Nat)=0 from a2) (by decide)
 ·intro x c kl y1 y2 W5 d9 d5 e3 hR c4 T d7 s a9 g0;have a2:d9=0:=by have e:Maps.size (fZ a none)=1:=rfl;omega
  subst a2;have f0:c=rQ a:=by
   rcases aD3 c4 with⟨_,e⟩|⟨b,e,_⟩
   ·subst e;exact pB hR
   ·cases e
  subst f0;have Q:=cN T;have D:Chg NoS W3 W5:=by
   have q4:Chg NoS W3 W4:=⟨B.out.os,B.out.tape,B.out.output,B.out.size,fun x n _=>B.out.block x n (by simp)⟩;have q5:Chg (fun x=>x=W3.heap.size) W4 W5:=⟨s.os,s.tape,s.output,s.size,fun x n hn=>s.block x n (fun e=>hn (aN e))⟩;exact(q4.mono (fun _ _ h=>h.elim):Chg NoS W3 W4).trans (S:=NoS) q5 (fun x n e=>by omega)
  have R:W5.heap.size=W3.heap.size+1:=by rw[a9,c9.out]
  have G:FileAt W5 a t y:=D.kept C.out (fun h=>h);have c0:=cO G 0 _ rfl;have c1:=cO G 1 _ rfl;have b9:=cN G;have b8:=cN D;have b1:=cN R;clear d5 e3 hR c4 T d7 s a9 G D R;have w1:IntKind.i64.wrap ((t.length:Int)-y)=(t.length:Int)-y:=fV (by omega) (by omega);have e5:wrap64 ((t.length:Int)-y)=(t.length:Int)-y:=by unfold wrap64;omega
  go_wp2_with fail;refine rlx [0,0,0,0,1,0,0,0,1,0,0,0,0,1,1,0,0,0,1,0,0,0,0,0,0] (fun x=>x.cell? ⟨a,0,none⟩=some (.string (strOfNums t))∧x.cell? ⟨a,1,none⟩=some (.int .i64 y)) (by kernel_rfl) (fun _ _ _ _=>rfl) ?_ ?_
  ·exact⟨c0,c1⟩
  have w2:IntKind.i64.wrap (y+min q ((t.length:Int)-y))=J:=by rw[←hJ];exact fV (by omega) (by omega)
  have f6:wrap64 (y+min q ((t.length:Int)-y))=J:=by rw[←hJ];unfold wrap64;omega
  clear hJ;simp only[dC,dB];iterate 25 (apply sB rfl rfl;·(intro x h;(try have h:=h rfl);(try dsimp only at h);go_simp;with_reducible rfl))
  refine cP ?_;try simp only[pA]
  rw[pH];obtain⟨j,V⟩:=aLz (t.take J.toNat);rw[←V];have HT:=cN V;clear V w1 e5 w2 f6 c0 c1 g0;generalize A:W5.drew=Wd;have M:FileAt Wd a t y:=by rw[←A];exact b9.out
  have b2:Chg NoS W3 Wd:=by rw[←A];exact b8.out.drew
  have c2:Wd.ranges prog 9 rG W.heap.size W3.heap.size 2 (fZ a none) (fun z=>has (fZ a none) z&& !z.sameKey kl) 0:=by rw[←A];exact Q.out
  have g1:Wd.heap.size=W3.heap.size+1:=by rw[←A];exact b1.out
  clear A b9 b8 Q b1;have c0:=cO M 0 _ rfl;have z0:=cX M 0;have a0:=cY Wd a 0 (.string (strOfNums j));have b6:=dD M 0 (.string (strOfNums j));have e2:(Wd.setCell ⟨a,0,none⟩ (.string (strOfNums j))).heap.size=Wd.heap.size:=by simp
  generalize a8:Wd.setCell ⟨a,0,none⟩ (.string (strOfNums j))=W6 at*;have f4:=cN a8;have w:FileAt W6 a j y:=b6;have d0:=cO w 0 _ rfl;have d1:=cO w 1 _ rfl;have z1:=cX w 1;have g2:=kH j;have X:=cY W6 a 1 (.int .i64 (j.length:Int));have c6:=dD w 1 (.int .i64 (j.length:Int));have f8:(W6.setCell ⟨a,1,none⟩ (.int .i64 (j.length:Int))).heap.size=W6.heap.size:=by simp
  generalize b7:W6.setCell ⟨a,1,none⟩ (.int .i64 (j.length:Int))=W7 at*;have f5:=cN b7;have a5:FileAt W7 a j j.length:=c6;have i:=((b2.nos:Chg (fun x=>x=a) W3 Wd).trans a0 (fun _ _ h=>h)).trans X (fun _ _ h=>h);have g:=a0.trans X (fun _ _ h=>h);have d4:=dG C.out;have f7:=m.out.2.2.2 a m.out.2.2.1;have P:=c2.kept (row:=some a) ⟨g.os,g.tape,g.output,g.size,fun x n hn=>g.block x n (fun e=>hn (by rw[e]))⟩ (by simp;omega) (by simp;omega);have d3:=cN P;have d6:Hid (DkTo W F d ⟨k.room,j,j.length,none,none,none⟩ W7):=by
   have h7:DkAt W7 (fun x=>F x∨x=W.heap.size) d ⟨k.room,j,j.length,none,none,none⟩ W.heap.size km a none a (.pointer none):=by
    have Y:=b5.out;rw[←HT.out]at Y;exact⟨i.kept Y (fun e=>gA Y C.out (by decide) e),Or.inl m.out.1,eB H.out (i.block _ H.out.lt (by omega)),eB L.out (i.block _ L.out.lt (fun e=>by obtain⟨_,_,o⟩:=eH L.out;exact eX o C.out (by simp) e)),Or.inr rfl,Or.inl m.out.2.1,(by have:=e4.out;omega),a5,Or.inl m.out.2.2.1,rfl,rfl,rfl,fun x n=>by
     have:=i.size;have:=e9.out;rcases n with n|n
     ·have:=m.out.2.2.2 x n;omega
     ·omega⟩
   exact⟨_,⟨_,_,_,_,_,_,h7⟩,e8.out.trans i (fun x _ e=>e▸m.out.2.2.1),fun x n=>n.elim Or.inl (fun e=>Or.inr (by omega))⟩
  clear a8 b7 a0 X b6 c6 w a5 i g P c2 b2 g1 e2 f8 M C b5 H L d4 f7;go_wp2_with (first|rw[f4.out]|rw[f5.out]);rw[rounds_succ];go_wp2_with (at_next;refine wpList_next_ranges _ rfl _ rfl 9 aAA rG (fun v:Value=>v) (fun v:Value=>v) (fun key kl h=>⟨key,rfl⟩) (fun v y h=>⟨v,rfl⟩) W.heap.size W3.heap.size 2 (fZ a none) _ _ rfl d3.out ?_ ?_);try intros
  go_wp2_with fail
  (first|go_end0|((try simp only[Exit.inBlock,Exit.then]);refine bodyPost_ret (results_none rfl _ _ _) rfl ?_))
  rw[←HT.out];exact⟨rfl,d6.out⟩
end
section
open Go.Maps
def aB5(k:Dk)(left:Lit→Bool):Int:=(if left (.string sL)=true then(k.log.length:Int)else 0)+(if left (.string yH)=true then hP k else 0)
section
variable (W:World) (F:Nat→Prop) (d:Nat) (k:Dk)
theorem yI(ev:Value)(n:Int)(h:Disk W F d k)(hev:W.cell? ⟨0,0,none⟩=some ev)(hn0:0≤n)(hn1:n≤1000000000000)(hl:(k.log.length:Int)≤1000000000000)(hl2:hP k≤1000000000000):
 Calls prog 221 #[.pointer (some ⟨d,0,none⟩),.int .i64 n] W fun e W'=>e= .returned (if k.room<jS k+n then ev else .nilIface)∧Chg NoS W W':=by
 obtain⟨nm,km,r,M,fk,fv,h⟩:=h;have c1:=h.cell 1 _ rfl;have HD:=cN h;have b2:=cN hev;have P:=Nat.lt_of_le_of_lt (aI d) (h.lt d h.fd);clear h hev;have a6:=cN P;clear P;have c4:0≤hP k:=by unfold hP;split<;>omega
 obtain⟨R,L,K⟩:∃R,(k.room<jS k+n→R=ev)∧(¬k.room<jS k+n→R= .nilIface):=⟨if k.room<jS k+n then ev else .nilIface,fun h=>if_pos h,fun h=>if_neg h⟩;have a0:=cN (aLo L K);have eR:(if k.room<jS k+n then ev else .nilIface)=R:=by
  by_cases hq:k.room<jS k+n
  ·rw[if_pos hq,L hq]
  ·rw[if_neg hq,K hq]
 rw[eR];clear eR L K;go_enter func221,ntmps221;go_wp2_with (at_range;refine wpList_range_own _ rfl _ 209 rfl 9 207 aAA underlying209 rG nm 2 (fZ r M) rfl HD.out.names ?_;intro W4 E O Q;refine cQ ?_);have m:=cN O;have a5:=cN E;have b3:=cN Q;have A:aB5 k (has (fZ r M))=jS k:=by
  have j:=HD.out.new;unfold aB5 jS hP;cases hk:k.new with
  |none=>
   rw[hk]at j;obtain rfl:M=none:=j;have H:has (fZ r none) (.string sL)=true:=rfl;have I:has (fZ r none) (.string yH)=false:=rfl;rw[H,I];simp
  |some p=>
   rw[hk]at j;obtain⟨b,rfl,_⟩:=j;have H:has (fZ r (some b)) (.string sL)=true:=rfl;have I:has (fZ r (some b)) (.string yH)=true:=rfl;rw[H,I];simp
 have a2:=cN A;clear O E Q c1 A;refine cN ?_;go_wp2_with fail;go_loopw [1] (fun i wr=>∃(a:Lit→Bool) (T:Nat) (x:Int),i= .int .i64 x∧wr.ranges prog 9 rG nm W.heap.size 2 (fZ r M) a T∧x+aB5 k a=jS k+n∧0≤x∧Chg NoS W wr) (fun _ wr=>wr.rangeLeft nm W.heap.size)
 case atStart=>
  exact⟨_,_,n,rfl,a5.out,by rw[a2.out];omega,hn0,⟨m.out.os,m.out.tape,m.out.output,m.out.size,fun x G _=>m.out.block x G (by simp)⟩⟩
 case round=>
  obtain⟨a,T,x,rfl,Z,G,b7,U⟩:=hrel;have V:=cN Z;have l:=cN U;have HX:=cN G;clear Z U G;go_wp2_with (at_next;refine wpList_next_ranges _ rfl _ rfl 9 aAA rG (fun v:Value=>v) (fun v:Value=>v) (fun key kl h=>⟨key,rfl⟩) (fun v y h=>⟨v,rfl⟩) nm W.heap.size 2 (fZ r M) _ _ rfl V.out ?_ ?_)
  ·intro c0 N;have S:x=jS k+n:=by
    have:=HX.out;unfold aB5 at this;rw[N,N]at this;simpa using this
   have f:=HD.out.apart l.out (fun _ _ h=>h);have d0:=f.cell 0 _ rfl;have b4:=(aW (l.out.block 0 a6.out (fun h=>h))).trans b2.out;have Y:=cN S;clear f S;by_cases s:k.room<x
   ·have hb:decide (k.room<x)=true:=by simpa using s
    have HE:=cN (a0.out.1 (by have:=Y.out;omega));clear s;go_wp2_with fail;go_ret;exact⟨by rw[HE.out];rfl,l.out⟩
   ·have hb:decide (k.room<x)=false:=by simpa using s
    have HE:=cN (a0.out.2 (by have:=Y.out;omega));clear s;go_wp2_with fail;go_ret;exact⟨by rw[HE.out];rfl,l.out⟩
  ·intro xk c kl y1 y2 W5 b5 a4 J hR X C B g a7 c3;have o:Chg NoS W W5:=by
    have q5:Chg (fun x=>x=W.heap.size) _ W5:=⟨g.os,g.tape,g.output,g.size,fun x G j=>g.block x G (fun e=>j (aN e))⟩;exact l.out.trans q5 (fun x G e=>by omega)
   have f:=HD.out.apart o (fun _ _ h=>h);obtain⟨b,t,y,hc,q,w,b8⟩:∃b t y,c=rQ b∧FileAt W5 b t y∧aB5 k a=(t.length:Int)+aB5 k (fun z=>a z&& !z.sameKey kl)∧(t.length:Int)≤1000000000000:=by
    rcases aD3 X with⟨rfl,e⟩|⟨b,hb,rfl,e⟩
    ·subst e;refine⟨r,k.log,k.lsyn,pB hR,f.log,?_,hl⟩;have H:(Lit.string sL).sameKey (.string sL)=true:=rfl;have I:(Lit.string yH).sameKey (.string sL)=false:=rfl;simp[aB5,J,H,I]
    ·subst e;subst hb;have j:=f.new;cases hk:k.new with
     |none=>rw[hk]at j;cases j
     |some p=>
      rw[hk]at j;obtain⟨b',a8,hf,_⟩:=j;obtain rfl:=aN a8;have D:hP k=p.1.length:=by unfold hP;rw[hk]
      refine⟨b,p.1,p.2,pB hR,hf,?_,by rw[←D];exact hl2⟩;have H:(Lit.string yH).sameKey (.string yH)=true:=rfl;have I:(Lit.string sL).sameKey (.string yH)=false:=rfl;simp[aB5,J,H,I,D];try omega
   subst hc;have f0:=cO q 0 _ rfl;have b9:=kH t;have b0:0≤aB5 k (fun z=>a z&& !z.sameKey kl):=by
    unfold aB5;split<;>split<;>omega
   have c2:jS k≤2000000000000:=by unfold jS;omega
   have w1:IntKind.i64.wrap (x+(t.length:Int))=x+(t.length:Int):=fV (by omega) (by have:=HX.out;omega);have b6:wrap64 (x+(t.length:Int))=x+(t.length:Int):=by have:=HX.out;unfold wrap64;omega
   have u:=cN C;have a9:=cN o;have a1:=cN w;have a3:=cN B;have b1:0≤x+(t.length:Int):=by omega
   clear a4 J hR X C B g a7 f q w o b0;go_wp2_with fail;go_roundw
   case rel=>exact⟨_,_,_,rfl,u.out,by have:=HX.out;have:=a1.out;omega,b1,a9.out⟩
   case measure=>rw[u.out.left_eq,V.out.left_eq];exact a3.out
theorem aBX(te:TypeId)(ve:Value)(s:List Int)(h:Disk W F d k)(hok:iC k)(hev:W.cell? ⟨0,0,none⟩=some (.iface te ve))(h0F:¬F 0)(hold:k.old=none)(hs1:(s.length:Int)≤1000000000000)(hl:(k.log.length:Int)≤1000000000000)(hl2:hP k≤1000000000000):
 Calls prog 196 #[.pointer (some ⟨d,0,none⟩),vL,.string (strOfNums s)] W fun e W'=>EndsK .nilIface (.iface te ve) W F d (eP k s lI) e W':=by
 obtain⟨V,Z,j,v,H,fv,h⟩:=h;cases hs:fQ k with
 |none=>
  have X:eP k s lI=(k,(.some (.some (iP k)))):=by unfold eP;rw[hs]
  rw[X];have HD:=cN h;have G:Hid (Calls prog 185 #[.pointer (some ⟨d,0,none⟩)] W fun e W'=>e= .panicked (rS (iP k))∧W'=W):=nL W F d k V Z j v H fv h hs;clear h hs;go_enter func196,ntmps196;go_wp2_with (go_at_call 185;refine G.out.mono ?_;rintro r n ⟨rfl,rfl⟩);exact⟨rfl,EndsK.dies ⟨_,_,_,_,_,_,HD.out⟩⟩
 |some k1=>
  have K:=gR hs;have R:=cN (Nat.lt_of_le_of_lt (aI d) (h.lt d h.fd));have G:Hid (Calls prog 185 #[.pointer (some ⟨d,0,none⟩)] W fun e W'=>e= .returned (.tuple #[])∧DkAt W' F d k1 V Z j v H fv∧Chg F W W'∧W'.heap.size=W.heap.size):=nK W F d k k1 V Z j v H fv h hok hs;have S:(k1.log.length:Int)≤1000000000000:=by rw[K.2.1];exact hl
  have t:hP k1≤1000000000000:=by unfold hP at hl2⊢;rw[K.2.2.2.1];exact hl2
  have l:=K.2.2.2.2.trans hold;have T:=cN hev;have E:=cN (aLq S t l K);have eF:∀q:Prop,[Decidable q]→(if q then(Value.iface te ve)else .nilIface)=if q then(Value.iface te ve)else .nilIface:=fun _ _=>rfl
  have X:eP k s lI=if k1.room<jS k1+s.length then(k1,(.some .none))else(lI k1 s,.none):=by unfold eP;rw[hs]
  rw[X];clear h hs hev hl hl2 hold S t l K eF X;by_cases g:k1.room<jS k1+s.length
  ·rw[if_pos g];have z:=cN g;clear g;go_enter func196,ntmps196;go_wp2_with (go_at_call 185;refine G.out.mono ?_;rintro r n ⟨rfl,i,u,L⟩;refine cQ ?_);have Q:=cN L;have A:=cN u;have a:=(aW (u.block 0 R.out h0F)).trans T.out;have a0:=kH s;have c:=yI n F d k1 (.iface te ve) s.length ⟨_,_,_,_,_,_,i⟩ a (by omega) hs1 E.out.1 E.out.2.1;have f:=aBJ i.names;have c1:=i.cell 1 _ rfl;have C:=cN i;clear u L a G i;rw[if_pos z.out]at c;have B:Hid (Calls prog 221 #[.pointer (some ⟨d,0,none⟩),.int .i64 s.length] n fun e W'=>e= .returned (.iface te ve)∧Chg NoS n W'):=c;clear c;refine cN ?_;go_wp2_with (first|(go_at_call 221;refine B.out.mono ?_;rintro r m ⟨rfl,y⟩;refine cQ ?_));have M:Chg NoS n (m.alloc (.cells #[.string ⟨#[97,112,112,101,110,100]⟩,vL,.iface te ve] 239)):=y.alloc _;have O:(m.alloc (.cells #[.string ⟨#[97,112,112,101,110,100]⟩,vL,.iface te ve] 239)).heap[m.heap.size]?=some (.cells #[.string ⟨#[97,112,112,101,110,100]⟩,vL,.iface te ve] 239 (0,0)):=aA m _;generalize J:m.alloc (.cells #[.string ⟨#[97,112,112,101,110,100]⟩,vL,.iface te ve] 239)=W3 at*;have HX:=cN J;have N:=cN M;have a1:=cN O;have a2:=cN y.size;clear J M O y f c1;refine cN ?_;go_wp2_with (first|rw[HX.out]);go_ret;exact⟨⟨F,⟨_,_,_,_,_,_,C.out.apart N.out (fun _ _ h=>h)⟩,A.out.nos' N.out,fun x hx=>Or.inl hx⟩,m.heap.size,rfl,⟨_,a1.out⟩,by have:=a2.out;have:=Q.out;omega⟩
  ·rw[if_neg g];have z:=cN g;clear g;go_enter func196,ntmps196;go_wp2_with (go_at_call 185;refine G.out.mono ?_;rintro r n ⟨rfl,i,u,L⟩;refine cQ ?_);have Q:=cN L;have A:=cN u;have a:=(aW (u.block 0 R.out h0F)).trans T.out;have a0:=kH s;have c:=yI n F d k1 (.iface te ve) s.length ⟨_,_,_,_,_,_,i⟩ a (by omega) hs1 E.out.1 E.out.2.1;have f:=aBJ i.names;have c1:=i.cell 1 _ rfl;have C:=cN i;clear u L a G i;rw[if_neg (by have:=z.out;omega)]at c;have B:Hid (Calls prog 221 #[.pointer (some ⟨d,0,none⟩),.int .i64 s.length] n fun e W'=>e= .returned .nilIface∧Chg NoS n W'):=c;clear c;refine cN ?_;go_wp2_with (first|(go_at_call 221;refine B.out.mono ?_;rintro r m ⟨rfl,y⟩;refine cQ ?_));have D:=C.out.apart y (fun _ _ h=>h);have I:=D.log;have f0:=cO I 0 _ rfl;have z0:=cX I 0;have o:=cY m j 0 (.string (strOfNums k1.log++strOfNums s));have U:FileAt (m.setCell ⟨j,0,none⟩ (.string (strOfNums k1.log++strOfNums s))) j (k1.log++s) k1.lsyn:=by
    have:=dD I 0 (.string (strOfNums k1.log++strOfNums s));rw[fS]at this⊢;exact this
   generalize J:m.setCell ⟨j,0,none⟩ (.string (strOfNums k1.log++strOfNums s))=W3 at*;have HX:=cN J;have h3:DkAt W3 F d (lI k1 s) V Z j v H fv:=D.file I o rfl U (by
    show NewAt W3 F j v (lI k1 s).new;show NewAt W3 F j v k1.new;have Y:=D.new;cases hk:k1.new with
    |none=>rw[hk]at Y;exact Y
    |some p=>rw[hk]at Y;obtain⟨b,n1,n2,n3,n4⟩:=Y;exact⟨b,n1,o.kept n2 n4,n3,n4⟩) (by
    show OldAt W3 F j v H k1.old;have ho:=D.old;rw[E.out.2.2.1]at ho⊢;exact ho) rfl
   have HR:=cN h3;have HC:=cN ((A.out.nos' y).trans o (fun x _ e=>e▸D.flog));have a3:=fun w=>run_string_add_sum (P:=prog) w (strOfNums k1.log) (strOfNums s) (by rw[dU,dU];have:=E.out.1;omega);clear J o U h3 D y I f c1;refine cN ?_;go_wp2_with (first|rw[HX.out]);go_ret;exact⟨⟨_,⟨_,_,_,_,_,_,HR.out⟩,HC.out,fun x hx=>Or.inl hx⟩,rfl⟩
theorem aCb(te:TypeId)(ve:Value)(s:List Int)(t:List Int)(y:Int)(h:Disk W F d k)(hok:iC k)(hev:W.cell? ⟨0,0,none⟩=some (.iface te ve))(h0F:¬F 0)(hnew:k.new=some (t,y))(hold:k.old=none)(hs1:(s.length:Int)≤1000000000000)(hl:(k.log.length:Int)≤1000000000000)(hl2:hP k≤1000000000000):
 Calls prog 196 #[.pointer (some ⟨d,0,none⟩),yO,.string (strOfNums s)] W fun e W'=>EndsK .nilIface (.iface te ve) W F d (eP k s iQ) e W':=by
 obtain⟨nm,km,v,fn,K,fv,h⟩:=h;cases hs:fQ k with
 |none=>
  have eS:eP k s iQ=(k,(.some (.some (iP k)))):=by unfold eP;rw[hs]
  rw[eS];have HD:=cN h;have J:Hid (Calls prog 185 #[.pointer (some ⟨d,0,none⟩)] W fun e W'=>e= .panicked (rS (iP k))∧W'=W):=nL W F d k nm km v fn K fv h hs;clear h hs;go_enter func196,ntmps196;go_wp2_with (go_at_call 185;refine J.out.mono ?_;rintro r n ⟨rfl,rfl⟩);exact⟨rfl,EndsK.dies ⟨_,_,_,_,_,_,HD.out⟩⟩
 |some k1=>
  have H:=gR hs;have U:=cN (Nat.lt_of_le_of_lt (aI d) (h.lt d h.fd));have J:Hid (Calls prog 185 #[.pointer (some ⟨d,0,none⟩)] W fun e W'=>e= .returned (.tuple #[])∧DkAt W' F d k1 nm km v fn K fv∧Chg F W W'∧W'.heap.size=W.heap.size):=nK W F d k k1 nm km v fn K fv h hok hs;have V:(k1.log.length:Int)≤1000000000000:=by rw[H.2.1];exact hl
  have u:hP k1≤1000000000000:=by unfold hP at hl2⊢;rw[H.2.2.2.1];exact hl2
  have m:=H.2.2.2.2.trans hold;have e4:=H.2.2.2.1.trans hnew;have C:=cN e4;obtain⟨b,rfl,p⟩:∃b,fn=some b∧b≠v:=by
   have O:=h.new;rw[hnew]at O;obtain⟨b,i,_,_,q4⟩:=O;exact⟨b,i,q4⟩
  clear e4;have X:=cN hev;have I:=cN (aLq V u m H);have eF:∀q:Prop,[Decidable q]→(if q then(Value.iface te ve)else .nilIface)=if q then(Value.iface te ve)else .nilIface:=fun _ _=>rfl
  have eS:eP k s iQ=if k1.room<jS k1+s.length then(k1,(.some .none))else(iQ k1 s,.none):=by unfold eP;rw[hs]
  rw[eS];clear h hs hev hl hl2 hold V u m H eF eS;by_cases g:k1.room<jS k1+s.length
  ·rw[if_pos g];have B:=cN g;clear g;go_enter func196,ntmps196;go_wp2_with (go_at_call 185;refine J.out.mono ?_;rintro r n ⟨rfl,j,i,A⟩;refine cQ ?_);have T:=cN A;have D:=cN i;have a:=(aW (i.block 0 U.out h0F)).trans X.out;have a0:=kH s;have c:=yI n F d k1 (.iface te ve) s.length ⟨_,_,_,_,_,_,j⟩ a (by omega) hs1 I.out.1 I.out.2.1;have f:=xH j.names;have c1:=j.cell 1 _ rfl;have G:=cN j;clear i A a J j;rw[if_pos B.out]at c;have E:Hid (Calls prog 221 #[.pointer (some ⟨d,0,none⟩),.int .i64 s.length] n fun e W'=>e= .returned (.iface te ve)∧Chg NoS n W'):=c;clear c;refine cN ?_;go_wp2_with (first|(go_at_call 221;refine E.out.mono ?_;rintro r l ⟨rfl,z⟩;refine cQ ?_));have Q:Chg NoS n (l.alloc (.cells #[.string ⟨#[97,112,112,101,110,100]⟩,yO,.iface te ve] 239)):=z.alloc _;have S:(l.alloc (.cells #[.string ⟨#[97,112,112,101,110,100]⟩,yO,.iface te ve] 239)).heap[l.heap.size]?=some (.cells #[.string ⟨#[97,112,112,101,110,100]⟩,yO,.iface te ve] 239 (0,0)):=aA l _;generalize N:l.alloc (.cells #[.string ⟨#[97,112,112,101,110,100]⟩,yO,.iface te ve] 239)=W3 at*;have HX:=cN N;have R:=cN Q;have a1:=cN S;have a2:=cN z.size;clear N Q S z f c1;refine cN ?_;go_wp2_with (first|rw[HX.out]);go_ret;exact⟨⟨F,⟨_,_,_,_,_,_,G.out.apart R.out (fun _ _ h=>h)⟩,D.out.nos' R.out,fun x hx=>Or.inl hx⟩,l.heap.size,rfl,⟨_,a1.out⟩,by have:=a2.out;have:=T.out;omega⟩
  ·rw[if_neg g];have B:=cN g;clear g;go_enter func196,ntmps196;go_wp2_with (go_at_call 185;refine J.out.mono ?_;rintro r n ⟨rfl,j,i,A⟩;refine cQ ?_);have T:=cN A;have D:=cN i;have a:=(aW (i.block 0 U.out h0F)).trans X.out;have a0:=kH s;have c:=yI n F d k1 (.iface te ve) s.length ⟨_,_,_,_,_,_,j⟩ a (by omega) hs1 I.out.1 I.out.2.1;have f:=xH j.names;have c1:=j.cell 1 _ rfl;have G:=cN j;clear i A a J j;rw[if_neg (by have:=B.out;omega)]at c;have E:Hid (Calls prog 221 #[.pointer (some ⟨d,0,none⟩),.int .i64 s.length] n fun e W'=>e= .returned .nilIface∧Chg NoS n W'):=c;clear c;refine cN ?_;go_wp2_with (first|(go_at_call 221;refine E.out.mono ?_;rintro r l ⟨rfl,z⟩;refine cQ ?_));have L:=G.out.apart z (fun _ _ h=>h);obtain⟨M,Z⟩:FileAt l b t y∧F b:=by
    have O:=L.new;rw[C.out]at O;obtain⟨b',i,A,q3,q4⟩:=O;obtain rfl:=aN i;exact⟨A,q3⟩
   have f0:=cO M 0 _ rfl;have z0:=cX M 0;have o:=cY l b 0 (.string (strOfNums t++strOfNums s));have Y:FileAt (l.setCell ⟨b,0,none⟩ (.string (strOfNums t++strOfNums s))) b (t++s) y:=by
    have:=dD M 0 (.string (strOfNums t++strOfNums s));rw[fS]at this⊢;exact this
   generalize N:l.setCell ⟨b,0,none⟩ (.string (strOfNums t++strOfNums s))=W3 at*;have HX:=cN N;have h3:DkAt W3 F d (iQ k1 s) nm km v (some b) K fv:=L.file M o rfl (o.kept L.log (Ne.symm p)) (by
    show NewAt W3 F v (some b) (iQ k1 s).new;unfold iQ;rw[C.out];exact⟨b,rfl,Y,Z,p⟩) (by
    show OldAt W3 F v (some b) K k1.old;have ho:=L.old;rw[I.out.2.2.1]at ho⊢;exact ho) rfl
   have HR:=cN h3;have HC:=cN ((D.out.nos' z).trans o (fun x _ e=>e▸Z));have a3:=fun w=>run_string_add_sum (P:=prog) w (strOfNums t) (strOfNums s) (by rw[dU,dU];have:=I.out.2.1;have e:hP k1=t.length:=(by unfold hP;rw[C.out]);omega);clear N o Y h3 L z M f c1;refine cN ?_;go_wp2_with (first|rw[HX.out]);go_ret;exact⟨⟨_,⟨_,_,_,_,_,_,HR.out⟩,HC.out,fun x hx=>Or.inl hx⟩,rfl⟩
end
end
section
open Go.Maps
abbrev oO(eb:Addr):Value:=.iface 328 (.pointer (some eb))
abbrev aIS:Value:=.iface 295 (.agg #[.pointer (some ⟨2,202,none⟩)])
structure GlAt(W:World)(B:Nat)(eb:Addr):Prop where
 b0:0<B
 b1:1<B
 hB:B≤W.heap.size
 err:W.cell? ⟨0,0,none⟩=some (oO eb)
 typ:W.cell? ⟨1,0,none⟩=some aIS
theorem GlAt.of_heap{W W':World}{B:Nat}{eb:Addr}(h:GlAt W B eb)(hs:W.heap.size≤W'.heap.size)(hb:∀k,k<B→W'.heap[k]?=W.heap[k]?):GlAt W' B eb:=
 ⟨h.b0,h.b1,cA h.hB hs,(aW (hb 0 h.b0)).trans h.err,(aW (hb 1 h.b1)).trans h.typ⟩
theorem GlAt.kept{W W':World}{S:Nat→Prop}{B:Nat}{eb:Addr}(h:GlAt W B eb)(hc:Chg S W W')(hn:∀k,S k→B≤k):GlAt W' B eb:=
 h.of_heap hc.size fun k hk=>hc.block k (aG hk h.hB) (fun hs=>by have:=hn k hs;omega)
abbrev acL(a:Ac)(d tb g:Nat):List Value:=[.int .i64 a.num,.int .i64 a.compact,.pointer (some ⟨d,0,none⟩),.map (some tb),.int .i64 a.st,yW g]
abbrev aBv(W:World)(b:Nat)(rs:List Rw):Prop:=W.ownsMap prog 3 tY b 4 (oD rs)
structure AcAt(W:World)(FD:Nat→Prop)(b g d tb:Nat)(a:Ac):Prop where
 blk:W.heap[b]?=some (.cells (acL a d tb g).toArray 162 (0,0))
 disk:Disk W FD d a.dk
 table:aBv W tb a.rows
 nb:¬FD b
 ntb:¬FD tb
def InF(FD:Nat→Prop)(b tb:Nat):Nat→Prop:=fun x=>FD x∨x=b∨x=tb
def Acc(W:World)(F:Nat→Prop)(b g:Nat)(a:Ac):Prop:=∃FD d tb,AcAt W FD b g d tb a∧(∀x,InF FD b tb x→F x)∧∀x,F x→x<W.heap.size
theorem Disk.of_heap{W W':World}{F:Nat→Prop}{d:Nat}{k:Dk}(h:Disk W F d k)(hs:W.heap.size≤W'.heap.size)(hb:∀k,F k→W'.heap[k]?=W.heap[k]?):Disk W' F d k:=by
 obtain⟨b,e,f,c,a,g,h⟩:=h;exact⟨b,e,f,c,a,g,h.of_heap hs hb⟩
section
variable {W:World} {F:Nat→Prop} {d:Nat} {k:Dk}
theorem Disk.lt(h:Disk W F d k):∀x,F x→x<W.heap.size:=by
 obtain⟨b,e,f,c,a,g,h⟩:=h;exact h.lt
theorem Disk.fd(h:Disk W F d k):F d:=by
 obtain⟨b,e,f,c,a,g,h⟩:=h;exact h.fd
end
section
variable {W W':World}{FD F S:Nat→Prop}{b g d tb:Nat}{a:Ac}
theorem AcAt.of_heap(h:AcAt W FD b g d tb a)(hs:W.heap.size≤W'.heap.size)(hb:∀x,InF FD b tb x→W'.heap[x]?=W.heap[x]?):AcAt W' FD b g d tb a:=
 ⟨(hb b (Or.inr (Or.inl rfl))).trans h.blk,h.disk.of_heap hs (fun x hx=>hb x (Or.inl hx)),eB h.table (hb tb (Or.inr (Or.inr rfl))),h.nb,h.ntb⟩
theorem AcAt.inlt(h:AcAt W FD b g d tb a):∀x,InF FD b tb x→x<W.heap.size:=fun x hx=>by
 rcases hx with hx|hx|hx
 ·exact h.disk.lt x hx
 ·subst hx;exact dG h.blk
 ·subst hx;exact h.table.lt
theorem AcAt.kept(h:AcAt W FD b g d tb a)(hc:Chg S W W')(hn:∀x,InF FD b tb x→¬S x):AcAt W' FD b g d tb a:=
 h.of_heap hc.size fun x hx=>hc.block x (h.inlt x hx) (hn x hx)
theorem AcAt.cell(h:AcAt W FD b g d tb a)(j:Nat)(x:Value)(hj:(acL a d tb g)[j]?=some x):W.cell? ⟨b,j,none⟩=some x:=cO h.blk j x (by simpa using hj)
theorem AcAt.froz(h:AcAt W FD b g d tb a)(j:Nat):W.frozen? ⟨b,j,none⟩=false:=cX h.blk j
theorem AcAt.bt(h:AcAt W FD b g d tb a):b≠tb:=fun e=>by
 obtain⟨_,_,o⟩:=eH h.table;exact eX h.blk o (by simp) e
theorem Acc.kept(h:Acc W F b g a)(hc:Chg S W W')(hn:∀x,F x→¬S x):Acc W' F b g a:=by
 obtain⟨j,d,e,f,c,i⟩:=h;exact⟨j,d,e,f.kept hc (fun x hx=>hn x (c x hx)),c,fun x hx=>aG (i x hx) hc.size⟩
theorem Acc.lt(h:Acc W F b g a):∀x,F x→x<W.heap.size:=by
 obtain⟨j,d,e,i,f,c⟩:=h;exact c
theorem AcAt.disk'{FD':Nat→Prop}{k:Dk}(h:AcAt W FD b g d tb a)(hd:Disk W' FD' d k)(hc:Chg FD W W')(hf:∀x,FD' x→FD x∨W.heap.size≤x):AcAt W' FD' b g d tb {a with dk:=k}:=by
 refine⟨hc.kept h.blk h.nb,hd,eB h.table (hc.block _ h.table.lt h.ntb),fun hx=>?_,fun hx=>?_⟩
 ·rcases hf b hx with h'|h'
  ·exact h.nb h'
  ·have:=dG h.blk;omega
 ·rcases hf tb hx with h'|h'
  ·exact h.ntb h'
  ·have:=h.table.lt;omega
end
def AcTo(W:World)(F:Nat→Prop)(b g:Nat)(a:Ac)(W':World):Prop:=∃F',Acc W' F' b g a∧Chg F W W'∧∀x,F' x→F x∨W.heap.size≤x
theorem AcTo.of{W:World}{F:Nat→Prop}{b g:Nat}{a:Ac}(h:Acc W F b g a):AcTo W F b g a W:=⟨F,h,Chg.refl _ _,fun _ h=>Or.inl h⟩
theorem AcTo.trans{A B C:World}{F F1:Nat→Prop}{b g:Nat}{a:Ac}(hc:Chg F A B)(hf:∀x,F1 x→F x∨A.heap.size≤x)(h:AcTo B F1 b g a C):AcTo A F b g a C:=by
 obtain⟨c,e,d,f⟩:=h;refine⟨c,e,hc.trans d (fun x hx h'=>?_),fun x hx=>?_⟩
 ·rcases hf x h' with h|h
  ·exact h
  ·omega
 ·rcases f x hx with h|h
  ·exact hf x h
  ·right;have:=hc.size;omega
theorem AcAt.to{W W':World}{FD F:Nat→Prop}{b g d tb:Nat}{a:Ac}{k:Dk}(h:AcAt W FD b g d tb a)(hF:∀x,InF FD b tb x→F x)(hlt:∀x,F x→x<W.heap.size)(hd:DkTo W FD d k W'):∃FD':Nat→Prop,∃F':Nat→Prop,AcAt W' FD' b g d tb {a with dk:=k}∧(∀x,InF FD' b tb x→F' x)∧(∀x,F' x→x<W'.heap.size)∧Chg F W W'∧(∀x,F x→F' x)∧∀x,F' x→F x∨W.heap.size≤x:=by
 obtain⟨FD',h1,h2,h3⟩:=hd;refine⟨FD',fun x=>F x∨FD' x,h.disk' h1 h2 h3,fun x hx=>?_,fun x hx=>?_,h2.mono (fun x _ hx=>hF x (Or.inl hx)),fun x hx=>Or.inl hx,fun x hx=>?_⟩
 ·rcases hx with hx|hx|hx
  ·exact Or.inr hx
  ·exact Or.inl (hF x (Or.inr (Or.inl hx)))
  ·exact Or.inl (hF x (Or.inr (Or.inr hx)))
 ·rcases hx with hx|hx
  ·exact aG (hlt x hx) h2.size
  ·exact h1.lt x hx
 ·rcases hx with hx|hx
  ·exact Or.inl hx
  ·rcases h3 x hx with h'|h'
   ·exact Or.inl (hF x (Or.inl h'))
   ·exact Or.inr h'
def tM(v ev:Value)(W:World)(F:Nat→Prop)(b g:Nat)(p:Ac×How)(e:Ending)(W':World):Prop:=AcTo W F b g p.1 W'∧match p.2 with
 |.none=>e= .returned v
 |(.some (.some q))=>e= .panicked (rS q)
 |(.some .none)=>∃fb,e= .returned (lV fb)∧lU W' fb ev∧W.heap.size≤fb
structure yA(a:Ac):Prop where
 n0:0≤a.num
 n1:a.num≤100
 c0:0≤a.compact
 c1:a.compact≤1000
 lk:∀r ∈ a.rows,0≤r.lock∧r.lock≤3
 fo:iC a.dk
 l1:(a.dk.log.length:Int)≤100000000000
end
section
open Go.Maps
theorem aJ8{W:World}{tb:Nat}{rs:List Rw}(h:aBv W tb rs)(l:Int)(hl0:0≤l)(hl3:l≤3):(Instr.lookup 118 (.map (some tb)) (.int .i64 l) false).run prog W= .ok (rwV ((dX rs l.toNat).getD zRw)) W:=by
 have b:keyOf prog 3 (.int .i64 l)=some (.int .i64 l):=keyOf_int_mk underlying3 (aEd hl0 (by omega));obtain⟨v,d,c,a⟩:=h.lookup aHQ underlying118 (aGM W) (aAM zRw) b;have e:=aCS (aAy zRw) l.toNat rs.length rs rfl;rw[Int.toNat_of_nonneg hl0]at e;rw[e]at a;rw[c];cases hq:dX rs l.toNat with
 |none=>rw[hq]at a;rw[aBb a];rfl
 |some r=>rw[hq]at a;rw[aBb a];rfl
theorem zJ(fn:Func)(hr:fn.results=#[.cell 4 58])(tmps:Array Value)(x:Nat)(r:Rw)(W:World)(h4:tmps.getD 4 undef= .pointer (some ⟨x,0,none⟩))(hb:W.heap[x]?=some (.cells (rwL r).toArray 58 (0,0))):
 (results fn tmps).run prog W= .ok (rwV r) W:=by
 have a:(loadVar 58 ⟨x,0,none⟩).run prog W= .ok (rwV r) W:=fC W ⟨x,0,none⟩ 58 (rwL r) _ (cR hb) underlying58 rfl (by kernel_rfl);unfold results;rw[hr];simp only[cK]at h4;simp[h4,asAddr,aT,a]
theorem tX(fn:Func)(hr:fn.results=#[.cell 4 58,.cell 5 66,.tmp 6])(tmps:Array Value)(x y:Nat)(r:Rw)(m:Mg)(q:Bool)(W:World)(h4:tmps.getD 4 undef= .pointer (some ⟨x,0,none⟩))(h5:tmps.getD 5 undef= .pointer (some ⟨y,0,none⟩))(h6:tmps.getD 6 undef= .bool q)(hb:W.heap[x]?=some (.cells (rwL r).toArray 58 (0,0)))(hc:W.heap[y]?=some (.cells (mgL m).toArray 66 (0,0))):
 (results fn tmps).run prog W= .ok (.tuple #[rwV r,mgV m,.bool q]) W:=by
 have b:(loadVar 58 ⟨x,0,none⟩).run prog W= .ok (rwV r) W:=fC W ⟨x,0,none⟩ 58 (rwL r) _ (cR hb) underlying58 rfl (by kernel_rfl);have a:(loadVar 66 ⟨y,0,none⟩).run prog W= .ok (mgV m) W:=fC W ⟨y,0,none⟩ 66 (mgL m) _ (cR hc) underlying66 rfl (by kernel_rfl);unfold results;rw[hr];simp only[cK]at h4 h5 h6;simp[h4,h5,h6,asAddr,aT,b,a]
theorem aJ1(W:World)(F:Nat→Prop)(b g:Nat)(a:Ac)(l:Int)(h:Acc W F b g a)(hl0:0≤l)(hl3:l≤3):
 Calls prog 170 #[.pointer (some ⟨b,0,none⟩),.int .i64 l] W fun e W'=>e= .returned (rwV (qD a l))∧Chg NoS W W':=by
 obtain⟨FD,d,tb,h,_,_⟩:=h;obtain⟨R,C⟩:=aLz ((dX a.rows l.toNat).getD zRw);have A:=fun x (hx:Chg NoS W x)=>aJ8 (h.kept hx (fun _ _ h=>h)).table l hl0 hl3;rw[←C]at A;have U:qD a l={R with lock:=l}:=by unfold qD;rw[C]
 rw[U];have V:=cN A;have HA:=cN h;have i:Chg NoS W (W.alloc (.cells #[.int .i64 0,.int .i64 0,.int .i64 0,.int .i64 0,.int .i64 0,.int .i64 0,.int .i64 0] 58)):=(Chg.refl _ _).alloc _;have w:=aA W (.cells #[.int .i64 0,.int .i64 0,.int .i64 0,.int .i64 0,.int .i64 0,.int .i64 0,.int .i64 0] 58);have f:(W.alloc (.cells #[.int .i64 0,.int .i64 0,.int .i64 0,.int .i64 0,.int .i64 0,.int .i64 0,.int .i64 0] 58)).heap.size=W.heap.size+1:=by simp
 generalize p:W.alloc (.cells #[.int .i64 0,.int .i64 0,.int .i64 0,.int .i64 0,.int .i64 0,.int .i64 0,.int .i64 0] 58)=W1 at*;have T:=cN p;have Y:=(h.kept i (fun _ _ h=>h)).cell 3 _ rfl;have z:=V.out W1 i;have o:=aA W1 (.cells #[.int .i64 0,.int .i64 0,.int .i64 0,.int .i64 0,.int .i64 0,.int .i64 0,.int .i64 0] 58);have n:Chg NoS W1 (W1.alloc (.cells #[.int .i64 0,.int .i64 0,.int .i64 0,.int .i64 0,.int .i64 0,.int .i64 0,.int .i64 0] 58)):=(Chg.refl _ _).alloc _;have M:(W1.alloc (.cells #[.int .i64 0,.int .i64 0,.int .i64 0,.int .i64 0,.int .i64 0,.int .i64 0,.int .i64 0] 58)).heap.size=W.heap.size+2:=by simp[f]
 have j:=n.kept w (fun h=>h);generalize q:W1.alloc (.cells #[.int .i64 0,.int .i64 0,.int .i64 0,.int .i64 0,.int .i64 0,.int .i64 0,.int .i64 0] 58)=W2 at*;rw[f]at o;have H:=cN q;have I:=cN f;have N:=cN o;have L:=cN (i.trans (S:=NoS) n (fun _ _ h=>h));have y:=cN j;clear p q w i n o j M f h A U C;go_enter func170,ntmps170;go_wp2_with (first|rw[T.out]|(rw[H.out,I.out])|(refine cV rfl 58 _ _ rfl (W.heap.size+1) 0 58 _ _ (rwL R) rfl rfl N.out (by kernel_rfl) (by simp[Value.oneCell']) (by simp) rfl ?_;intro B k E c;refine cQ ?_));have X:=cO c 0 _ rfl;have Z:=cX c 0;have m:=cY B (W.heap.size+1) 0 (.int .i64 l);have v:(B.setCell ⟨W.heap.size+1,0,none⟩ (.int .i64 l)).heap[W.heap.size+1]?=some (.cells (rwL {R with lock:=l}).toArray 58 (0,0)):=dD c 0 (.int .i64 l);have s:=m.kept (k.kept y.out (by omega)) (by omega);generalize t:B.setCell ⟨W.heap.size+1,0,none⟩ (.int .i64 l)=W4 at*;have O:=cN t;have P:=cN (cR v);have D:=cN s;have Q:=cN (((L.out.nos:Chg (fun x=>x=W.heap.size+1) W W2).trans k (fun _ _ h=>h)).trans m (fun _ _ h=>h));clear t k E c m v s;refine cN ?_;go_wp2_with (first|rw[O.out]|(refine cW rfl 58 _ rfl ⟨W.heap.size+1,0,none⟩ rfl (rwL {R with lock:=l}) _ P.out underlying58 rfl (by kernel_rfl) ?_)|(refine cV rfl 58 _ _ rfl W.heap.size 0 58 _ _ (rwL {R with lock:=l}) rfl rfl D.out (by kernel_rfl) (by simp[Value.oneCell']) (by simp) rfl ?_;intro W5 r G u;refine cQ ?_));have J:=cN u
 have K:Hid (Chg NoS W W5):=((Q.out.mono (fun _ _ h=>Or.inl h):Chg (fun x=>x=W.heap.size+1∨x=W.heap.size) W W4).trans r (fun _ _ h=>Or.inr h)).mono (fun x hx h=>by omega);clear r G u X Z Y z;refine cN ?_;go_wp2_with fail;exact bodyPost_ret (zJ _ results170 _ W.heap.size {R with lock:=l} _ rfl J.out) rfl ⟨rfl,K.out⟩
abbrev oW(r:Rw):Vl:=⟨r.own,r.tok,r.ttl,r.seq⟩
theorem aDl(r:Rw):∀j x,(vlL (oW r))[j]?=some x→(rwL r).toArray[3+j]?=some x:=by
 intro j x a;have b:j<4:=(aF.1 a).1;rcases j with _|_|_|_|j
 ·exact a
 ·exact a
 ·exact a
 ·exact a
 ·omega
theorem aC8(m:Mg):∀j x,(vlL m.val)[j]?=some x→(mgL m).toArray[6+j]?=some x:=by
 intro j x a;have b:j<4:=(aF.1 a).1;rcases j with _|_|_|_|j
 ·exact a
 ·exact a
 ·exact a
 ·exact a
 ·omega
structure DecAt(W0 W:World)(m:Mg)(r:Rw):Prop where
 bm:W.heap[W0.heap.size]?=some (.cells (mgL m).toArray 66 (0,0))
 br:W.heap[W0.heap.size+1]?=some (.cells (rwL r).toArray 58 (0,0))
 ba:W.heap[W0.heap.size+2]?=some (.cells (rwL zRw).toArray 58 (0,0))
 bx:W.heap[W0.heap.size+3]?=some (.cells (mgL zMg).toArray 66 (0,0))
 ch:Chg NoS W0 W
theorem DecAt.drew{W0 W:World}{m:Mg}{r:Rw}(h:DecAt W0 W m r):DecAt W0 W.drew m r:=⟨h.bm,h.br,h.ba,h.bx,h.ch.drew⟩
theorem aFr(W:World)(m:Mg)(r:Rw):
 Calls prog 169 #[mgV m,rwV r] W fun e W'=>e= .returned (.tuple #[rwV (iR m r),mgV (kA m r),.bool (mV m r)])∧Chg NoS W W':=by
 have b7:=aA W (.cells #[.int .i64 m.kind,.int .i64 m.src,.int .i64 m.dst,.int .i64 m.lock,.int .i64 m.bal,.int .i64 m.base,.int .i64 m.val.own,.int .i64 m.val.tok,.int .i64 m.val.ttl,.int .i64 m.val.seq] 66);have c0:Chg NoS W (W.alloc (.cells #[.int .i64 m.kind,.int .i64 m.src,.int .i64 m.dst,.int .i64 m.lock,.int .i64 m.bal,.int .i64 m.base,.int .i64 m.val.own,.int .i64 m.val.tok,.int .i64 m.val.ttl,.int .i64 m.val.seq] 66)):=(Chg.refl _ _).alloc _;have p:(W.alloc (.cells #[.int .i64 m.kind,.int .i64 m.src,.int .i64 m.dst,.int .i64 m.lock,.int .i64 m.bal,.int .i64 m.base,.int .i64 m.val.own,.int .i64 m.val.tok,.int .i64 m.val.ttl,.int .i64 m.val.seq] 66)).heap.size=W.heap.size+1:=by simp
 generalize a2:W.alloc (.cells #[.int .i64 m.kind,.int .i64 m.src,.int .i64 m.dst,.int .i64 m.lock,.int .i64 m.bal,.int .i64 m.base,.int .i64 m.val.own,.int .i64 m.val.tok,.int .i64 m.val.ttl,.int .i64 m.val.seq] 66)=W1 at*;have U:=cN a2;have K:=aA W1 (.cells #[.int .i64 r.lock,.int .i64 r.prom,.int .i64 r.acc,.int .i64 r.own,.int .i64 r.tok,.int .i64 r.ttl,.int .i64 r.seq] 58);have R:Chg NoS W1 (W1.alloc (.cells #[.int .i64 r.lock,.int .i64 r.prom,.int .i64 r.acc,.int .i64 r.own,.int .i64 r.tok,.int .i64 r.ttl,.int .i64 r.seq] 58)):=(Chg.refl _ _).alloc _;have o:(W1.alloc (.cells #[.int .i64 r.lock,.int .i64 r.prom,.int .i64 r.acc,.int .i64 r.own,.int .i64 r.tok,.int .i64 r.ttl,.int .i64 r.seq] 58)).heap.size=W.heap.size+2:=by simp[p]
 generalize a7:W1.alloc (.cells #[.int .i64 r.lock,.int .i64 r.prom,.int .i64 r.acc,.int .i64 r.own,.int .i64 r.tok,.int .i64 r.ttl,.int .i64 r.seq] 58)=W2 at*;have a0:=cN a7;have P:=aA W2 (.cells #[.int .i64 0,.int .i64 0,.int .i64 0,.int .i64 0,.int .i64 0,.int .i64 0,.int .i64 0] 58);have G:Chg NoS W2 (W2.alloc (.cells #[.int .i64 0,.int .i64 0,.int .i64 0,.int .i64 0,.int .i64 0,.int .i64 0,.int .i64 0] 58)):=(Chg.refl _ _).alloc _;have t:(W2.alloc (.cells #[.int .i64 0,.int .i64 0,.int .i64 0,.int .i64 0,.int .i64 0,.int .i64 0,.int .i64 0] 58)).heap.size=W.heap.size+3:=by simp[o]
 generalize b9:W2.alloc (.cells #[.int .i64 0,.int .i64 0,.int .i64 0,.int .i64 0,.int .i64 0,.int .i64 0,.int .i64 0] 58)=W3 at*;have V:=cN b9;have M:=aA W3 (.cells #[.int .i64 0,.int .i64 0,.int .i64 0,.int .i64 0,.int .i64 0,.int .i64 0,.int .i64 0,.int .i64 0,.int .i64 0,.int .i64 0] 66);have z:Chg NoS W3 (W3.alloc (.cells #[.int .i64 0,.int .i64 0,.int .i64 0,.int .i64 0,.int .i64 0,.int .i64 0,.int .i64 0,.int .i64 0,.int .i64 0,.int .i64 0] 66)):=(Chg.refl _ _).alloc _;generalize a9:W3.alloc (.cells #[.int .i64 0,.int .i64 0,.int .i64 0,.int .i64 0,.int .i64 0,.int .i64 0,.int .i64 0,.int .i64 0,.int .i64 0,.int .i64 0] 66)=W4 at*;have Z:=cN a9;rw[p]at K;rw[o]at P;rw[t]at M;have d:Hid (DecAt W W4 m r):=⟨z.kept (G.kept (R.kept b7 (fun h=>h)) (fun h=>h)) (fun h=>h),z.kept (G.kept K (fun h=>h)) (fun h=>h),z.kept P (fun h=>h),M,((c0.trans R (fun _ _ h=>h)).trans G (fun _ _ h=>h)).trans z (fun _ _ h=>h)⟩;have m4:=cO d.out.bm 4 _ rfl;have r1:=cO d.out.br 1 _ rfl;clear a2 a7 b9 a9 b7 K P M c0 R G z;have HS:=cN (aLp p o t);by_cases k:m.bal<r.prom
 ·have H:iR m r=r:=if_pos k;have I:kA m r={zMg with kind:=5,base:=r.prom}:=if_pos k;have J:mV m r=false:=if_pos k;rw[H,I,J];have hb:decide (m.bal<r.prom)=true:=by simpa using k
  clear H I J k;go_enter func169,ntmps169;go_wp2_with (first|rw[U.out]|rw[a0.out]|rw[V.out]|rw[Z.out]);clear p o t;refine rlx [1,0,1,0,2] (fun x=>x.cell? ⟨W.heap.size+1,1,none⟩=some (.int .i64 r.prom)∧∀j y,(rwL r)[j]?=some y→x.cell? ((⟨W.heap.size+1,0,none⟩:Addr).add j)=some y) (by kernel_rfl) (fun _ _ _ _=>rfl) ?_ ?_
  ·exact⟨r1,cR (W:=W4.drew) d.out.br⟩
  simp only[dC,dB];refine dA (v:=rwV r) rfl (fun x hx=>cU 58 _ rfl ⟨W.heap.size+1,0,none⟩ rfl (rwL r) _ hx.2 underlying58 rfl (by kernel_rfl)) ?_;iterate 3 (apply sB rfl rfl;·(intro x h;(try have h:=h rfl);(try dsimp only at h);go_simp;with_reducible rfl))
  try simp only[pA]
  refine dI rfl (fun C hC=>?_);refine eM 58 _ _ rfl (W.heap.size+2) 0 58 _ _ (rwL r) rfl rfl d.out.drew.ba (by kernel_rfl) (by simp[Value.oneCell']) (by simp) rfl ?_;intro s b c3 b3;have a:=b.kept d.out.drew.br (by omega);refine hC _ _ ⟨cO a 1 _ rfl,cR a⟩ ?_;clear hC C;refine cP ?_;have B:=b.kept d.out.drew.bx (by omega);have f:=cN (aLo b3 B);have X:=cN ((d.out.drew.ch.nos:Chg (fun x=>x=W.heap.size+2) W _).trans b (fun _ _ h=>h));clear b c3 b3 a B m4 r1;(try simp only[pA]);go_wp2_with (first|(refine cV rfl 66 _ _ rfl (W.heap.size+3) 0 66 _ _ (mgL {zMg with kind:=5,base:=r.prom}) rfl rfl f.out.2 (by kernel_rfl) (by simp[Value.oneCell']) (by simp) rfl ?_;intro W6 c N u;refine cQ ?_));have b4:=c.kept f.out.1 (by omega);have g:=cN (aLo b4 u);have O:Hid (Chg NoS W W6):=((X.out.mono (fun _ _ h=>Or.inl h):Chg (fun x=>x=W.heap.size+2∨x=W.heap.size+3) W s).trans c (fun _ _ h=>Or.inr h)).mono (fun x hx h=>by omega);clear c N u b4;refine cN ?_;go_wp2_with fail;exact bodyPost_ret (tX _ results169 _ (W.heap.size+2) (W.heap.size+3) r {zMg with kind:=5,base:=r.prom} false _ rfl rfl rfl g.out.1 g.out.2) rfl ⟨rfl,O.out⟩
 ·have hb:decide (m.bal<r.prom)=false:=by simpa using k
  by_cases F:m.kind=1
  ·obtain⟨q,hq⟩:=aLz (decide (r.prom<m.bal));have H:iR m r={r with prom:=m.bal}:=(if_neg k).trans (if_pos F);have I:kA m r={zMg with kind:=2,base:=r.acc,val:=oW r}:=(if_neg k).trans (if_pos F);have J:mV m r=q:=by rw[hq];exact(if_neg k).trans (if_pos F)
   rw[H,I,J];have hk:(m.kind==1)=true:=by simp[F]
   have m0:=cO d.out.bm 0 _ rfl;have z1:=cX d.out.br 1;have b:=cY W4 (W.heap.size+1) 1 (.int .i64 m.bal);have a:(W4.setCell ⟨W.heap.size+1,1,none⟩ (.int .i64 m.bal)).heap[W.heap.size+1]?=some (.cells (rwL {r with prom:=m.bal}).toArray 58 (0,0)):=dD d.out.br 1 (.int .i64 m.bal);have b0:=b.kept d.out.ba (by omega);have B:=b.kept d.out.bx (by omega);generalize A:W4.setCell ⟨W.heap.size+1,1,none⟩ (.int .i64 m.bal)=s at*;have T:=cN A;have HQ:=cN hq;have f:=cN (aLp a b0 B);have X:=cN ((d.out.ch.nos:Chg (fun x=>x=W.heap.size+1) W W4).trans b (fun _ _ h=>h));have r2:=cO a 2 _ rfl;clear H I J k F A b a b0 B hq;go_enter func169,ntmps169;go_wp2_with (first|rw[U.out]|rw[a0.out]|rw[V.out]|rw[Z.out]|rw[T.out]);clear p o t;rw[←HQ.out];refine rlx [1,0,1,0,1,0,0,2] (fun x=>x.cell? ⟨W.heap.size+1,2,none⟩=some (.int .i64 r.acc)∧(∀j y,(rwL {r with prom:=m.bal})[j]?=some y→x.cell? ((⟨W.heap.size+1,0,none⟩:Addr).add j)=some y)∧(∀j y,(vlL (oW r))[j]?=some y→x.cell? ((⟨W.heap.size+1,3,none⟩:Addr).add j)=some y)) (by kernel_rfl) (fun _ _ _ _=>rfl) ?_ ?_
   ·exact⟨r2,cR (W:=s.drew) f.out.1,eL (W:=s.drew) f.out.1 3 _ (aDl {r with prom:=m.bal})⟩
   simp only[dC,dB];refine dA (v:=rwV {r with prom:=m.bal}) rfl (fun x hx=>cU 58 _ rfl ⟨W.heap.size+1,0,none⟩ rfl (rwL {r with prom:=m.bal}) _ hx.2.1 underlying58 rfl (by kernel_rfl)) ?_;iterate 3 (apply sB rfl rfl;·(intro x h;(try have h:=h rfl);(try dsimp only at h);go_simp;with_reducible rfl))
   try simp only[pA]
   refine dA (v:=vlV (oW r)) rfl (fun x hx=>cU 56 _ rfl ⟨W.heap.size+1,3,none⟩ rfl (vlL (oW r)) _ hx.2.2 underlying56 rfl (by kernel_rfl)) ?_;iterate 2 (apply sB rfl rfl;·(intro x h;(try have h:=h rfl);(try dsimp only at h);go_simp;with_reducible rfl))
   try simp only[pA]
   refine dI rfl (fun C hC=>?_);refine eM 58 _ _ rfl (W.heap.size+2) 0 58 _ _ (rwL {r with prom:=m.bal}) rfl rfl (show s.drew.heap[W.heap.size+2]?=_ from f.out.2.1) (by kernel_rfl) (by simp[Value.oneCell']) (by simp) rfl ?_;intro W6 c N u;have i:=c.kept (show s.drew.heap[W.heap.size+1]?=_ from f.out.1) (by omega);refine hC _ _ ⟨cO i 2 _ rfl,cR i,eL i 3 _ (aDl {r with prom:=m.bal})⟩ ?_;clear hC C;refine cP ?_;have b5:=c.kept (show s.drew.heap[W.heap.size+3]?=_ from f.out.2.2) (by omega);have g:=cN (aLo u b5);have O:=cN (((X.out.mono (fun _ _ h=>Or.inl h):Chg (fun x=>x=W.heap.size+1∨x=W.heap.size+2) W s).drew).trans c (fun _ _ h=>Or.inr h));clear c N u i b5 m4 r1 m0 z1 r2;(try simp only[pA]);go_wp2_with (first|(refine cV rfl 66 _ _ rfl (W.heap.size+3) 0 66 _ _ (mgL {zMg with kind:=2,base:=r.acc,val:=oW r}) rfl rfl g.out.2 (by kernel_rfl) (by simp[Value.oneCell']) (by simp) rfl ?_;intro W7 n Y w;refine cQ ?_));have a6:=n.kept g.out.1 (by omega);have b2:=cN (aLo a6 w);have L:Hid (Chg NoS W W7):=((O.out.mono (fun _ _ h=>Or.inl h):Chg (fun x=>(x=W.heap.size+1∨x=W.heap.size+2)∨x=W.heap.size+3) W W6).trans n (fun _ _ h=>Or.inr h)).mono (fun x hx h=>by omega);clear n Y w a6;refine cN ?_;go_wp2_with fail;exact bodyPost_ret (tX _ results169 _ (W.heap.size+2) (W.heap.size+3) {r with prom:=m.bal} {zMg with kind:=2,base:=r.acc,val:=oW r} q _ rfl rfl rfl b2.out.1 b2.out.2) rfl ⟨rfl,L.out⟩
  ·have H:iR m r=⟨r.lock,m.bal,m.bal,m.val.own,m.val.tok,m.val.ttl,m.val.seq⟩:=(if_neg k).trans (if_neg F);have I:kA m r={zMg with kind:=4}:=(if_neg k).trans (if_neg F);have J:mV m r=true:=(if_neg k).trans (if_neg F);rw[H,I,J];have hk:(m.kind==1)=false:=by simp[F]
   have m0:=cO d.out.bm 0 _ rfl;clear H I J k F;go_enter func169,ntmps169;go_wp2_with (first|rw[U.out]|rw[a0.out]|rw[V.out]|rw[Z.out]);clear p o t;have HM:Hid (∀x,Chg (fun y=>y=W.heap.size+1) W4 x→x.cell? ⟨W.heap.size,4,none⟩=some (.int .i64 m.bal)∧∀j y,(vlL m.val)[j]?=some y→x.cell? ((⟨W.heap.size,6,none⟩:Addr).add j)=some y):=fun x hx=>by
    have hb:=hx.kept d.out.bm (by omega);exact⟨cO hb 4 _ rfl,eL hb 6 _ (aC8 m)⟩
   refine rlx [0,1,0,1,0,1,0,2,0,2,0] (fun x=>x.cell? ⟨W.heap.size,4,none⟩=some (.int .i64 m.bal)∧∀j y,(vlL m.val)[j]?=some y→x.cell? ((⟨W.heap.size,6,none⟩:Addr).add j)=some y) (by kernel_rfl) (fun _ _ _ _=>rfl) ?_ ?_
   ·exact HM.out _ (Chg.refl _ W4).drew
   simp only[dC,dB];iterate 5 (apply sB rfl rfl;·(intro x h;(try have h:=h rfl);(try dsimp only at h);go_simp;with_reducible rfl))
   try simp only[pA]
   refine dA (v:=vlV m.val) rfl (fun x hx=>cU 56 _ rfl ⟨W.heap.size,6,none⟩ rfl (vlL m.val) _ hx.2 underlying56 rfl (by kernel_rfl)) ?_;iterate 1 (apply sB rfl rfl;·(intro x h;(try have h:=h rfl);(try dsimp only at h);go_simp;with_reducible rfl))
   try simp only[pA]
   have r1:=cO d.out.drew.br 1 _ rfl;have z1:=cX d.out.drew.br 1;have b:=cY W4.drew (W.heap.size+1) 1 (.int .i64 m.bal);have a:(W4.drew.setCell ⟨W.heap.size+1,1,none⟩ (.int .i64 m.bal)).heap[W.heap.size+1]?=some (.cells (rwL {r with prom:=m.bal}).toArray 58 (0,0)):=dD d.out.drew.br 1 (.int .i64 m.bal);generalize A:W4.drew.setCell ⟨W.heap.size+1,1,none⟩ (.int .i64 m.bal)=s at*;have T:=cN A;have E:=b.of_drew;refine dI rfl (fun C hC=>?_);go_simp;try rw[T.out]
   refine hC _ _ (HM.out _ E) ?_;clear hC C;iterate 1 (apply sB rfl rfl;·(intro x h;(try have h:=h rfl);(try dsimp only at h);go_simp;with_reducible rfl))
   try simp only[pA]
   have r2:=cO a 2 _ rfl;have z2:=cX a 2;have c:=cY s (W.heap.size+1) 2 (.int .i64 m.bal);have i:(s.setCell ⟨W.heap.size+1,2,none⟩ (.int .i64 m.bal)).heap[W.heap.size+1]?=some (.cells (rwL {r with prom:=m.bal,acc:=m.bal}).toArray 58 (0,0)):=dD a 2 (.int .i64 m.bal);generalize a5:s.setCell ⟨W.heap.size+1,2,none⟩ (.int .i64 m.bal)=W6 at*;have c6:=cN a5;have D:=E.trans c (fun _ _ h=>h);refine dI rfl (fun C hC=>?_);go_simp;try rw[c6.out]
   refine hC _ _ (HM.out _ D) ?_;clear hC C;iterate 1 (apply sB rfl rfl;·(intro x h;(try have h:=h rfl);(try dsimp only at h);go_simp;with_reducible rfl))
   refine cP ?_;try simp only[pA]
   have g:=cN i;have c1:=cN D;clear b a A E r1 z1 r2 z2 c i a5 D m4 m0;go_wp2_with (first|(refine cV rfl 56 _ _ rfl (W.heap.size+1) 3 58 _ _ (rwL ⟨r.lock,m.bal,m.bal,m.val.own,m.val.tok,m.val.ttl,m.val.seq⟩) rfl rfl g.out (by kernel_rfl) (by simp[Value.oneCell']) (by simp) rfl ?_;intro W7 n Y w;refine cQ ?_));have l:=c1.out.trans n (fun _ _ h=>h);have c5:=cN (cR w);have a3:=cN (aLo (l.kept d.out.ba (by omega)) (l.kept d.out.bx (by omega)));have L:=cN ((d.out.ch.nos:Chg (fun x=>x=W.heap.size+1) W W4).trans l (fun _ _ h=>h));clear n Y w l;refine cN ?_;go_wp2_with (first|(refine cW rfl 58 _ rfl ⟨W.heap.size+1,0,none⟩ rfl (rwL ⟨r.lock,m.bal,m.bal,m.val.own,m.val.tok,m.val.ttl,m.val.seq⟩) _ c5.out underlying58 rfl (by kernel_rfl) ?_)|(refine cV rfl 58 _ _ rfl (W.heap.size+2) 0 58 _ _ (rwL ⟨r.lock,m.bal,m.bal,m.val.own,m.val.tok,m.val.ttl,m.val.seq⟩) rfl rfl a3.out.1 (by kernel_rfl) (by simp[Value.oneCell']) (by simp) rfl ?_;intro W8 S c4 b6;refine cQ ?_));have a1:=S.kept a3.out.2 (by omega);have b1:=cN (aLo b6 a1);have c7:=cN ((L.out.mono (fun _ _ h=>Or.inl h):Chg (fun x=>x=W.heap.size+1∨x=W.heap.size+2) W W7).trans S (fun _ _ h=>Or.inr h));clear S c4 b6 a1;refine cN ?_;go_wp2_with (first|(refine cV rfl 66 _ _ rfl (W.heap.size+3) 0 66 _ _ (mgL {zMg with kind:=4}) rfl rfl b1.out.2 (by kernel_rfl) (by simp[Value.oneCell']) (by simp) rfl ?_;intro W9 Q c8 a4;refine cQ ?_));have b8:=Q.kept b1.out.1 (by omega);have a8:=cN (aLo b8 a4)
   have c2:Hid (Chg NoS W W9):=((c7.out.mono (fun _ _ h=>Or.inl h):Chg (fun x=>(x=W.heap.size+1∨x=W.heap.size+2)∨x=W.heap.size+3) W W8).trans Q (fun _ _ h=>Or.inr h)).mono (fun x hx h=>by omega);clear Q c8 a4 b8;refine cN ?_;go_wp2_with fail;exact bodyPost_ret (tX _ results169 _ (W.heap.size+2) (W.heap.size+3) ⟨r.lock,m.bal,m.bal,m.val.own,m.val.tok,m.val.ttl,m.val.seq⟩ {zMg with kind:=4} true _ rfl rfl rfl a8.out.1 a8.out.2) rfl ⟨rfl,c2.out⟩
end
structure RwOk(r:Rw):Prop where
 l1:0≤r.lock
 l2:r.lock≤3
 p1:0≤r.prom
 p2:r.prom≤256255
 a1:0≤r.acc
 a2:r.acc≤r.prom
 v:VOk ⟨r.own,r.tok,r.ttl,r.seq⟩
theorem RwOk.ok{r:Rw}(h:RwOk r):okB r=true:=aKD (by
 have:=h.l1;have:=h.l2;have:=h.p1;have:=h.p2;have:=h.a1;have:=h.a2;have:=h.v.o1;have:=h.v.o2;have:=h.v.k1;have:=h.v.k2;have:=h.v.t1;have:=h.v.t2;have:=h.v.s1;have:=h.v.s2;dsimp only at*;omega)
structure DOk(f:Cf)(k:Dk):Prop where
 room:k.room=f.room
 by_:∀x ∈ k.log,0≤x∧x<256
 syn:k.lsyn=k.log.length
 len:(k.log.length:Int)≤f.room
 old:k.old=none
 fail:∀p,k.fail=some p→0≤p.1∧p.1≤9223372036854775807∧0≤p.2
 rows:∀r ∈ dO k.log,RwOk r
structure AOk(f:Cf)(i:Nat)(a:Ac):Prop where
 num:a.num=i
 comp:a.compact=f.compact
 st:a.st=0∨a.st=1∨a.st=2
 dk:DOk f a.dk
 new:a.st≠1→a.dk.new=none
 nofail:a.st=2→a.dk.fail=none
 tab:a.st≠2→∀k,dX a.rows k=dX (dO a.dk.log) k
 rows:∀r ∈ a.rows,RwOk r
 full:a.st=0→25*(dO a.dk.log).length=a.dk.log.length
section
variable {f:Cf}{i:Nat}{a:Ac}
theorem aGF(h:AOk f i a)(lock:Int)(h0:0≤lock)(h3:lock≤3):RwOk (qD a lock)∧(qD a lock).lock=lock:=by
 unfold qD;refine⟨?_,rfl⟩;cases hl:dX a.rows lock.toNat with
 |none=>exact⟨h0,h3,aL 0,(by decide:(0:Int)≤256255),aL 0,aL 0,aA5⟩
 |some r=>
  have b:=h.rows r (pT hl).1;exact⟨h0,h3,b.p1,b.p2,b.a1,b.a2,b.v⟩
theorem aCk{m:Mg}{r:Rw}(hm:MOk f m)(hr:RwOk r):RwOk (iR m r)∧(iR m r).lock=r.lock:=by
 have:=hm.b1;have:=hm.b2;have:=hr.p1;unfold iR;split
 ·exact⟨hr,rfl⟩
 ·split
  ·exact⟨⟨hr.l1,hr.l2,hm.b1,hm.b2,hr.a1,by show r.acc≤m.bal;have:=hr.a2;omega,hr.v⟩,rfl⟩
  ·exact⟨⟨hr.l1,hr.l2,hm.b1,hm.b2,hm.b1,aL _,hm.v⟩,rfl⟩
theorem aKz{m:Mg}{r:Rw}(hi:(i:Int)<2*f.f+1)(hn:a.num=i)(hm:MOk f m)(hA:m.kind=1∨m.kind=3)(hr:RwOk r):MOk f (mH a (kA m r) m):=by
 have d:=hm.toA hA;have c:∀(k b:Int) (v:Vl),(k=2∨k=4∨k=5)→0≤b→b≤256255→VOk v→(k=4→b=0)→MOk f (mH a {zMg with kind:=k,base:=b,val:=v} m):=fun k b v hk hb hb' hv h40=>
  ⟨by show 1≤k;omega,by show k≤5;omega,hm.l1,hm.l2,hm.b1,hm.b2,hb,hb',hv,by show 0≤a.num;omega,hm.s1,h40,fun h=>by exfalso;have:k=1∨k=3:=h;omega,fun _=>⟨by show a.num<_;omega,d.1⟩⟩
 unfold kA;split
 ·exact c 5 r.prom zVl (by omega) hr.p1 hr.p2 aA5 (by omega)
 ·split
  ·exact c 2 r.acc ⟨r.own,r.tok,r.ttl,r.seq⟩ (by omega) hr.a1 (by have:=hr.a2;have:=hr.p2;omega) hr.v (by omega)
  ·exact c 4 0 zVl (by omega) (by decide) (by decide) aA5 (fun _=>rfl)
theorem aEa(m:Mg):dJ [sentEv m]=[m]:=rfl
theorem aJY{m:Mg}(h:MOk f m):EOk f [sentEv m]:=⟨fun x hx=>(by rw[aEa]at hx;simp at hx;subst hx;exact h),by simp⟩
theorem jZ{k k1:Dk}(h:fQ k=some k1)(hf:∀p,k.fail=some p→0≤p.1∧p.1≤9223372036854775807∧0≤p.2):
 (∃fl,k1={k with fail:=fl})∧∀p,k1.fail=some p→0≤p.1∧p.1≤9223372036854775807∧0≤p.2:=by
 unfold fQ at h;split at h
 ·rename_i hn;cases h;exact⟨⟨k.fail,rfl⟩,hf⟩
 ·rename_i n q hn;split at h
  ·cases h
  ·rename_i h0;cases h;have:=hf _ hn;refine⟨⟨_,rfl⟩,fun p hp=>?_⟩;cases hp;dsimp only at*;omega
theorem jC{k:Dk}(h:fQ k=none):∃q,k.fail=some (0,q)∧iP k=q:=by
 unfold fQ at h;split at h
 ·cases h
 ·rename_i n q a;split at h
  ·rename_i b;subst b;exact⟨q,a,by unfold iP;rw[a]⟩
  ·cases h
theorem aJA{t:List Int}{q:Int}(hq:0≤q):wY t t.length q=t:=by
 unfold wY;rw[aY];omega
theorem aAV{k:Dk}(hsyn:(fB k).2=(fB k).1.length){q:Int}(hq:0≤q):fM k q={k with log:=(fB k).1,lsyn:=(fB k).1.length,new:=none,old:=none,fail:=none}:=by
 unfold fM;rw[hsyn,aJA hq]
theorem rE{k:Dk}(h:DOk f k){q:Int}(hq:0≤q):DOk f (fM k q)∧(fM k q).log=k.log:=by
 have e:fB k=(k.log,k.lsyn):=by unfold fB;rw[h.old]
 have:=aAV (k:=k) (by rw[e];exact h.syn) hq;rw[this,e];exact⟨⟨h.room,h.by_,rfl,h.len,rfl,fun p hp=>(by cases hp),h.rows⟩,rfl⟩
theorem rT{q:Int}(hn:a.num=i)(hc:a.compact=f.compact)(h:DOk f (fM a.dk q)):AOk f i (crashA a q):=
 ⟨hn,hc,Or.inr (Or.inr rfl),h,fun _=>rfl,fun _=>rfl,fun h=>absurd rfl h,fun r hr=>(by cases hr),fun h=>absurd (show(2:Int)=0 from h) (by decide)⟩
def wE(f:Cf)(k:Dk):Prop:=0≤(fB k).2∧(fB k).2≤((fB k).1.length:Int)∧((fB k).1.length:Int)≤f.room
theorem vE{k k1:Dk}(h:DOk f k)(he:fB k1=(k.log,k.lsyn)):wE f k1:=by
 have a:=h.syn;have b:=h.len;unfold wE;rw[he];dsimp only;omega
theorem aJj{k:Dk}(h:DOk f k)(hnew:k.new=none)(hfull:25*(dO k.log).length=k.log.length){r:Rw}(hr:RwOk r):
 (∃fl,lY k (dW r)=({k with fail:=fl,log:=k.log++dW r,lsyn:=(k.log++dW r).length},.none)∧DOk f {k with fail:=fl,log:=k.log++dW r,lsyn:=(k.log++dW r).length})∨
 (∃fl,lY k (dW r)=({k with fail:=fl},(.some .none))∧DOk f {k with fail:=fl})∨
 (∃k1 q,lY k (dW r)=(k1,(.some (.some q)))∧0≤q∧wE f k1∧DOk f (fM k1 q)∧∃p,p.length≤25∧p=(dW r).take p.length∧(fM k1 q).log=k.log++p):=by
 unfold lY eP dZ;have hrl:=pL hr.ok;have hx:∀fl,(∀p,fl=some p→0≤p.1∧p.1≤9223372036854775807∧0≤p.2)→DOk f {k with fail:=fl}:=fun fl hfl=>⟨h.room,h.by_,h.syn,h.len,h.old,hfl,h.rows⟩;cases h1:fQ k with
 |none=>
  obtain⟨q,hq,hk⟩:=jC h1;have hq0:0≤q:=(h.fail _ hq).2.2;obtain⟨c1,c2⟩:=rE h hq0;exact Or.inr (Or.inr ⟨k,q,by simp[iF,hk],hq0,vE h (by unfold fB;rw[h.old]),c1,[],by simp,rfl,by simpa using c2⟩)
 |some k1=>
  obtain⟨⟨fl,rfl⟩,hfl⟩:=jZ h1 h.fail;dsimp only;have hu:jS {k with fail:=fl}=k.log.length:=by unfold jS hP;dsimp only;rw[hnew];simp
  have hrm:=h.room;rw[hu,hrl];by_cases h2:k.room<(k.log.length:Int)+((25:Nat):Int)
  ·rw[if_pos h2];exact Or.inr (Or.inl ⟨fl,rfl,hx fl hfl⟩)
  ·rw[if_neg h2];dsimp only[iF];dsimp only[lI];have hrows:∀x ∈ dO (k.log++dW r),RwOk x:=fun x hx=>by
    rw[vY hfull hr.ok]at hx;rcases aO.1 hx with hx|hx
    ·exact h.rows x hx
    ·simp at hx;subst hx;exact hr
   have hby:∀x ∈ k.log++dW r,0≤x∧x<256:=fun x hx=>(aO.1 hx).elim (h.by_ x) (pC r x);cases h3:fQ {k with fail:=fl,log:=k.log++dW r}with
   |none=>
    obtain⟨q,hq,hk⟩:=jC h3;have hq0:0≤q:=(hfl _ hq).2.2;have hl:fB ({k with fail:=fl,log:=k.log++dW r}:Dk)=(k.log++dW r,k.lsyn):=by unfold fB;dsimp only;rw[h.old]
    have hcut:wY (k.log++dW r) k.lsyn q=k.log++(dW r).take (min q 25).toNat:=by
     unfold wY;rw[h.syn,aD,hrl,show((k.log.length:Int)+min q (((k.log.length+25:Nat):Int)-(k.log.length:Int))).toNat=k.log.length+(min q 25).toNat by omega,List.take_append,aY (by omega)];simp
    have hpl:((dW r).take (min q 25).toNat).length=(min q 25).toNat:=by rw[bD,hrl];omega
    refine Or.inr (Or.inr ⟨{k with fail:=fl,log:=k.log++dW r},q,by rw[hk],hq0,?_,?_,(dW r).take (min q 25).toNat,by omega,by rw[hpl],?_⟩)
    ·unfold wE;rw[hl];have h5:=h.syn;have h6:=h.len;dsimp only;rw[aD,hrl];omega
    ·unfold fM;rw[hl];dsimp only;rw[hcut];refine⟨h.room,fun x hx=>?_,rfl,?_,rfl,fun p hp=>(by cases hp),fun x hx=>?_⟩
     ·rcases aO.1 hx with hx|hx
      ·exact h.by_ x hx
      ·exact pC r x (List.mem_of_mem_take hx)
     ·rw[aD,hpl];omega
     ·by_cases hq25:25≤q
      ·rw[show(min q 25).toNat=25 by omega,aY (by omega)]at hx;exact hrows x hx
      ·rw[aGs hfull (by omega)]at hx;exact h.rows x hx
    ·unfold fM;rw[hl];exact hcut
   |some k2=>
    obtain⟨⟨fl2,rfl⟩,hfl2⟩:=jZ h3 (by exact hfl);refine Or.inl ⟨fl2,rfl,h.room,hby,rfl,?_,h.old,hfl2,hrows⟩;rw[aD,hrl];omega
end
section
open Go.Maps
section
variable (W:World) (F:Nat→Prop) (b g:Nat) (a:Ac)
theorem aBD(h:Acc W F b g a):
 Calls prog 60 #[.pointer (some ⟨b,0,none⟩)] W fun e W'=>e= .returned (.string (strOfNums a.dk.log))∧W'=W:=by
 obtain⟨c,d,j,h,_,_⟩:=h;have i:=h.cell 2 _ rfl;have f:=cN (aJy W c d a.dk h.disk);clear h;go_enter func60,ntmps60;go_wp2_with (go_at_call 96;refine f.out.mono ?_;rintro e k ⟨rfl,rfl⟩);go_ret;exact⟨rfl,rfl⟩
theorem aBx(h:Acc W F b g a)(hl:(a.dk.log.length:Int)≤1000000000000):
 Calls prog 173 #[.pointer (some ⟨b,0,none⟩)] W fun e W'=>e= .returned (.bool (mB a))∧W'=W.drew:=by
 have c:Hid (∀x,x=W.drew→Calls prog 60 #[.pointer (some ⟨b,0,none⟩)] x fun e w'=>e= .returned (.string (strOfNums a.dk.log))∧w'=x):=fun x hx=>by
  subst hx;exact aBD W.drew F b g a (h.kept (Chg.refl NoS W).drew (fun _ _ h=>h))
 obtain⟨m,d,l,h,_,_⟩:=h;have n:=h.cell 1 _ rfl;have i:=kH a.dk.log;have j:((a.dk.log.length:Int)).tdiv 25=(a.dk.log.length:Int) / 25:=Int.tdiv_eq_ediv_of_nonneg (by omega);have k:IntKind.i64.wrap ((a.dk.log.length:Int) / 25)=(a.dk.log.length:Int) / 25:=fV (by omega) (by omega);clear h;unfold mB;go_enter func173,ntmps173;go_wp2_with fail;refine eD [0,1,1,0,0,0,0,1,0,0] (by kernel_rfl) (fun _ _ _ _=>rfl) ?_;simp only[dC,dB];iterate 1 (apply sB rfl rfl;·(intro x h;(try cases h rfl);go_simp;with_reducible rfl))
 try simp only[pA]
 refine eW (v:=.string (strOfNums a.dk.log)) (f:=60) (args:=#[.pointer (some ⟨b,0,none⟩)]) rfl (fun x hx=>by subst hx;go_simp;try rfl) (fun x hx=>c.out x hx) ?_;(try simp only[pA]);iterate 8 (apply sB rfl rfl;·(intro x h;(try cases h rfl);go_simp;with_reducible rfl))
 refine cP ?_;try simp only[pA]
 go_wp2_with fail;go_ret;exact⟨by first|rfl|simp,rfl⟩
end
end
end Go.Proofs.YtbbdgokdfhdpiaaGreatDoor
