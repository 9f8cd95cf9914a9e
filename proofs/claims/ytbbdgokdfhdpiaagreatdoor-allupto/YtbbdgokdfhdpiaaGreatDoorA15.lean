/- A part of the proof: PDk6, PDk7, MemAc2, PAc5, MoInvA, PAc1. -/
import Derived.Test.YtbbdgokdfhdpiaaGreatDoorA12
namespace Go.Proofs.YtbbdgokdfhdpiaaGreatDoor
set_option linter.all false
set_option maxRecDepth 100000
set_option maxHeartbeats 40000000
open Go.Proofs.Tryz Go.RowKit
section
open Go.RowKit Go.Maps
theorem aD2{fl:Nat}{fn:Option Nat}{kl:Lit}{y:DataW Unit}(h:∀zd,(fY fl fn).atKey kl zd=y):(kl= .string sI∧y= .lit (.int .i64 fl))∨∃b,fn=some b∧kl= .string xZ∧y= .lit (.int .i64 b):=by
 have a:=h (.lit (.int .i64 0));have c:=h (.lit (.int .i64 1));cases fn with
 |none=>
  simp only[fY,DataW.atKey,List.find?_cons,List.find?_nil]at a c;cases hk:(Lit.string sI).sameKey kl with
  |true=>rw[hk]at a;exact Or.inl ⟨(WideAt.sameKey_eq hk).symm,a.symm⟩
  |false=>rw[hk]at a c;dsimp only at a c;rw[←c]at a;cases a
 |some b=>
  simp only[fY,DataW.atKey,List.find?_cons,List.find?_nil]at a c;cases hk:(Lit.string sI).sameKey kl with
  |true=>rw[hk]at a;exact Or.inl ⟨(WideAt.sameKey_eq hk).symm,a.symm⟩
  |false=>
   cases hk':(Lit.string xZ).sameKey kl with
   |true=>rw[hk,hk']at a;exact Or.inr ⟨b,rfl,(WideAt.sameKey_eq hk').symm,a.symm⟩
   |false=>rw[hk,hk']at a c;dsimp only at a c;rw[←c]at a;cases a
theorem aFw(W:World)(F:Nat→Prop)(d:Nat)(k:Dk)(q:Int)(h:Disk W F d k)(hy0:0≤(fC k).2)(hy1:(fC k).2≤((fC k).1.length:Int))(hl:((fC k).1.length:Int)≤1000000000000)(hq:0≤q):
 Calls prog 166 #[.pointer (some ⟨d,0,none⟩),.int .i64 q] W fun e W'=>e= .returned (.tuple #[])∧DkTo W F d (fM k q) W':=by
 obtain⟨nm,km,fl,fn,a,fv,h⟩:=h;have f:FileAt W a (fC k).1 (fC k).2∧F a:=by
  have ho:=h.old;unfold fC;cases hk:k.old with
  |none=>rw[hk]at ho;obtain rfl:a=fl:=ho;exact⟨h.log,h.flog⟩
  |some p=>rw[hk]at ho;exact⟨ho.1,ho.2.1⟩
 have eC:fM k q=⟨k.room,wI (fC k).1 (fC k).2 q,(wI (fC k).1 (fC k).2 q).length,none,none,none⟩:=rfl;rw[eC];clear eC;generalize hp:fC k=p at*;obtain⟨t,y⟩:=p;dsimp only at f hy0 hy1 hl⊢;obtain⟨J,hJ⟩:=aLw (y+min q ((t.length:Int)-y));have eC:wI t y q=t.take J.toNat:=by unfold wI;rw[hJ]
 rw[eC];have g5:0≤J:=by omega
 have e9:J≤(t.length:Int):=by omega
 have f5:=kI t;have g3:J≤((strOfNums t).size:Int):=by rw[f5];exact e9
 have z3:=h.froz 3;have c3:=h.cell 3 _ rfl;have L:=cY W d 3 (.pointer none);have c2:=dD h.blk 3 (.pointer none);have H:(W.setCell ⟨d,3,none⟩ (.pointer none)).heap.size=W.heap.size:=by simp
 generalize b0:W.setCell ⟨d,3,none⟩ (.pointer none)=W1 at*;have a5:=cN b0;have h1:DkAt W1 F d {k with fail:=none} nm km fl fn a (.pointer none):=h.self' L c2 h.names h.kept h.fnm h.fkm h.nk rfl rfl rfl h.old rfl;have f1:FileAt W1 a t y:=L.kept f.1 (fun e=>gA f.1 h.blk (by decide) e);have d2:=h1.cell 2 _ rfl;obtain⟨O,l,o1⟩:=eH h1.kept;have a8:=cN (zP W1 km O l o1);have G:Chg NoS W1 (W1.alloc (.map O l)):=(Chg.refl _ _).alloc _;have a2:(W1.alloc (.map O l)).heap[W1.heap.size]?=some (.map O l):=aA W1 _;have c6:(W1.alloc (.map O l)).heap.size=W.heap.size+1:=by simp[H]
 have E:=h1.apart G (fun _ _ h=>h);have f2:FileAt (W1.alloc (.map O l)) a t y:=G.kept f1 (fun h=>h);have n2:oI (W1.alloc (.map O l)) W1.heap.size a none:=sS h1.kept (a2.trans o1.symm);generalize f6:W1.alloc (.map O l)=W2 at*;rw[H]at n2 a2;have z1:=E.froz 1;have d1:=E.cell 1 _ rfl;have C:=cY W2 d 1 (.map (some W.heap.size));have Y:=dD E.blk 1 (.map (some W.heap.size));have b2:(W2.setCell ⟨d,1,none⟩ (.map (some W.heap.size))).heap.size=W.heap.size+1:=by simpa using c6
 generalize b3:W2.setCell ⟨d,1,none⟩ (.map (some W.heap.size))=W3 at*;have c5:=cN b3;have f3:FileAt W3 a t y:=C.kept f2 (fun e=>gA f2 E.blk (by decide) e);have n3:oI W3 W.heap.size a none:=eB n2 (C.block _ (by omega) (fun e=>by have:=h.lt d h.fd;omega));have k3:oI W3 km a none:=eB E.kept (C.block _ E.kept.lt (fun e=>by obtain⟨_,_,o⟩:=eH E.kept;exact eX o E.blk (by simp) e));have e0:=cN (((L.mono (fun x _ e=>e▸h.fd):Chg F W W1).nos' G).trans C (fun x _ e=>e▸h.fd));have b7:Hid (W3.heap[d]?=some (.cells (dkL ⟨k.room,t.take J.toNat,(t.take J.toNat).length,none,none,none⟩ W.heap.size km (.pointer none)).toArray 212 (0,0))):=Y;have w:=cN f3;have N:=cN n3;have K:=cN k3;have m:=cN (aLn h.fd h.fkm f.2 h.lt);have e2:=cN (h.lt _ h.fkm);have f9:=cN H;have e8:=cN b2;have e1:=cO Y 1 _ rfl;clear b0 f6 b3 L G C c2 a2 Y h1 E f1 f2 f3 n2 n3 k3 h f c6 b2 H o1 hp eC;go_enter func166,ntmps166;go_wp2_with (first|rw[a5.out]|rw[c5.out]|(go_at_call 186;refine a8.out.mono ?_;rintro r g4 ⟨rfl,rfl⟩;try rw[f9.out])|(at_range;refine wpList_range_own _ rfl _ 209 rfl 9 207 aAs underlying209 rJ W.heap.size 2 (fY a none) rfl N.out ?_;intro W4 Q b1 b4;refine cQ ?_));have A:=cN b1;have d5:=cN Q;have d3:=cN b4;clear b1 Q b4 a5 c5 a8 z1 d1 d2 z3 c3 e1;refine cN ?_;go_wp2_with fail;refine wp_loop_rounds 2 ?_;rw[rounds_succ]
 go_wp2_with (at_next;refine wpList_next_ranges _ rfl _ rfl 9 aAs rJ (fun v:Value=>v) (fun v:Value=>v) (fun key kl h=>⟨key,rfl⟩) (fun v y h=>⟨v,rfl⟩) W.heap.size W3.heap.size 2 (fY a none) _ _ rfl d5.out ?_ ?_)
 ·intro X;exact absurd (show(1:Nat)=0 from X) (by decide)
 ·intro x c kl y1 y2 W5 d9 d4 f0 hR b5 R d7 s a4 e5;have X:d9=0:=by have e:Maps.size (fY a none)=1:=rfl;omega
  subst X;have f8:c=rQ a:=by
   rcases aD2 b5 with⟨_,e⟩|⟨b,e,_⟩
   ·subst e;exact oZ hR
   ·cases e
  subst f8;have T:=cN R;have D:Chg NoS W3 W5:=by
   have q4:Chg NoS W3 W4:=⟨A.out.os,A.out.tape,A.out.output,A.out.size,fun x n _=>A.out.block x n (by simp)⟩;have q5:Chg (fun x=>x=W3.heap.size) W4 W5:=⟨s.os,s.tape,s.output,s.size,fun x n hn=>s.block x n (fun e=>hn (aN e))⟩;exact(q4.mono (fun _ _ h=>h.elim):Chg NoS W3 W4).trans (S:=NoS) q5 (fun x n e=>by omega)
  have P:W5.heap.size=W3.heap.size+1:=by rw[a4,d3.out]
  have M:FileAt W5 a t y:=D.kept w.out (fun h=>h);have c0:=cO M 0 _ rfl;have c1:=cO M 1 _ rfl;have c7:=cN M;have a9:=cN D;have a6:=cN P;clear d4 f0 hR b5 R d7 s a4 M D P;have w1:IntKind.i64.wrap ((t.length:Int)-y)=(t.length:Int)-y:=fX (by omega) (by omega);have e3:wrap64 ((t.length:Int)-y)=(t.length:Int)-y:=by unfold wrap64;omega
  go_wp2_with fail;refine rlx [0,0,0,0,1,0,0,0,1,0,0,0,0,1,1,0,0,0,1,0,0,0,0,0,0] (fun x=>x.cell? ⟨a,0,none⟩=some (.string (strOfNums t))∧x.cell? ⟨a,1,none⟩=some (.int .i64 y)) (by kernel_rfl) (fun _ _ _ _=>rfl) ?_ ?_
  ·exact⟨c0,c1⟩
  have w2:IntKind.i64.wrap (y+min q ((t.length:Int)-y))=J:=by rw[←hJ];exact fX (by omega) (by omega)
  have g1:wrap64 (y+min q ((t.length:Int)-y))=J:=by rw[←hJ];unfold wrap64;omega
  clear hJ;simp only[dC,dB];iterate 25 (apply sB rfl rfl;·(intro x h;(try have h:=h rfl);(try dsimp only at h);go_simp;with_reducible rfl))
  refine cP ?_;try simp only[pA]
  rw[pX];obtain⟨j,a1⟩:=aLw (t.take J.toNat);rw[←a1];have HT:=cN a1;clear a1 w1 e3 w2 g1 c0 c1 e5;generalize B:W5.drew=Wd;have I:FileAt Wd a t y:=by rw[←B];exact c7.out
  have c4:Chg NoS W3 Wd:=by rw[←B];exact a9.out.drew
  have b9:Wd.ranges prog 9 rJ W.heap.size W3.heap.size 2 (fY a none) (fun z=>has (fY a none) z&& !z.sameKey kl) 0:=by rw[←B];exact T.out
  have g0:Wd.heap.size=W3.heap.size+1:=by rw[←B];exact a6.out
  clear B c7 a9 T a6;have c0:=cO I 0 _ rfl;have z0:=cX I 0;have a0:=cY Wd a 0 (.string (strOfNums j));have a3:=dD I 0 (.string (strOfNums j));have f4:(Wd.setCell ⟨a,0,none⟩ (.string (strOfNums j))).heap.size=Wd.heap.size:=by simp
  generalize b6:Wd.setCell ⟨a,0,none⟩ (.string (strOfNums j))=W6 at*;have e4:=cN b6;have u:FileAt W6 a j y:=a3;have d0:=cO u 0 _ rfl;have d1:=cO u 1 _ rfl;have z1:=cX u 1;have g2:=kI j;have Z:=cY W6 a 1 (.int .i64 (j.length:Int));have a7:=dD u 1 (.int .i64 (j.length:Int));have f7:(W6.setCell ⟨a,1,none⟩ (.int .i64 (j.length:Int))).heap.size=W6.heap.size:=by simp
  generalize b8:W6.setCell ⟨a,1,none⟩ (.int .i64 (j.length:Int))=W7 at*;have e7:=cN b8;have c8:FileAt W7 a j j.length:=a7;have g:=((c4.nos:Chg (fun x=>x=a) W3 Wd).trans a0 (fun _ _ h=>h)).trans Z (fun _ _ h=>h);have i:=a0.trans Z (fun _ _ h=>h);have d6:=dG w.out;have e6:=m.out.2.2.2 a m.out.2.2.1;have U:=b9.kept (row:=some a) ⟨i.os,i.tape,i.output,i.size,fun x n hn=>i.block x n (fun e=>hn (by rw[e]))⟩ (by simp;omega) (by simp;omega);have d8:=cN U;have c9:Hid (DkTo W F d ⟨k.room,j,j.length,none,none,none⟩ W7):=by
   have h7:DkAt W7 (fun x=>F x∨x=W.heap.size) d ⟨k.room,j,j.length,none,none,none⟩ W.heap.size km a none a (.pointer none):=by
    have V:=b7.out;rw[←HT.out]at V;exact⟨g.kept V (fun e=>gA V w.out (by decide) e),Or.inl m.out.1,eB N.out (g.block _ N.out.lt (by omega)),eB K.out (g.block _ K.out.lt (fun e=>by obtain⟨_,_,o⟩:=eH K.out;exact eX o w.out (by simp) e)),Or.inr rfl,Or.inl m.out.2.1,(by have:=e2.out;omega),c8,Or.inl m.out.2.2.1,rfl,rfl,rfl,fun x n=>by
     have:=g.size;have:=e8.out;rcases n with n|n
     ·have:=m.out.2.2.2 x n;omega
     ·omega⟩
   exact⟨_,⟨_,_,_,_,_,_,h7⟩,e0.out.trans g (fun x _ e=>e▸m.out.2.2.1),fun x n=>n.elim Or.inl (fun e=>Or.inr (by omega))⟩
  clear b6 b8 a0 Z a3 a7 u c8 g i U b9 c4 g0 f4 f7 I w b7 N K d6 e6;go_wp2_with (first|rw[e4.out]|rw[e7.out]);rw[rounds_succ];go_wp2_with (at_next;refine wpList_next_ranges _ rfl _ rfl 9 aAs rJ (fun v:Value=>v) (fun v:Value=>v) (fun key kl h=>⟨key,rfl⟩) (fun v y h=>⟨v,rfl⟩) W.heap.size W3.heap.size 2 (fY a none) _ _ rfl d8.out ?_ ?_);try intros
  go_wp2_with fail
  (first|go_end0|((try simp only[Exit.inBlock,Exit.then]);refine bodyPost_ret (results_none rfl _ _ _) rfl ?_))
  rw[←HT.out];exact⟨rfl,c9.out⟩
end
section
open Go.RowKit Go.Maps
def aB0(k:Dk)(left:Lit→Bool):Int:=(if left (.string sI)=true then(k.log.length:Int)else 0)+(if left (.string xZ)=true then iD k else 0)
section
variable (W:World) (F:Nat→Prop) (d:Nat) (k:Dk)
theorem yM(ev:Value)(n:Int)(h:Disk W F d k)(hev:W.cell? ⟨0,0,none⟩=some ev)(hn0:0≤n)(hn1:n≤1000000000000)(hl:(k.log.length:Int)≤1000000000000)(hl2:iD k≤1000000000000):
 Calls prog 221 #[.pointer (some ⟨d,0,none⟩),.int .i64 n] W fun e W'=>e= .returned (if k.room<jQ k+n then ev else .nilIface)∧Chg NoS W W':=by
 obtain⟨nm,km,r,M,fk,fv,h⟩:=h;have c1:=h.cell 1 _ rfl;have HD:=cN h;have b1:=cN hev;have V:=Nat.lt_of_le_of_lt (aI d) (h.lt d h.fd);clear h hev;have a9:=cN V;clear V;have c4:0≤iD k:=by unfold iD;split<;>omega
 obtain⟨R,K,L⟩:∃R,(k.room<jQ k+n→R=ev)∧(¬k.room<jQ k+n→R= .nilIface):=⟨if k.room<jQ k+n then ev else .nilIface,fun h=>if_pos h,fun h=>if_neg h⟩;have O:=cN (aLl K L);have eR:(if k.room<jQ k+n then ev else .nilIface)=R:=by
  by_cases hq:k.room<jQ k+n
  ·rw[if_pos hq,K hq]
  ·rw[if_neg hq,L hq]
 rw[eR];clear eR K L;go_enter func221,ntmps221;go_wp2_with (at_range;refine wpList_range_own _ rfl _ 209 rfl 9 207 aAs underlying209 rJ nm 2 (fY r M) rfl HD.out.names ?_;intro W4 A T X;refine cQ ?_);have m:=cN T;have a4:=cN A;have b3:=cN X;have D:aB0 k (has (fY r M))=jQ k:=by
  have j:=HD.out.new;unfold aB0 jQ iD;cases hk:k.new with
  |none=>
   rw[hk]at j;obtain rfl:M=none:=j;have G:has (fY r none) (.string sI)=true:=rfl;have I:has (fY r none) (.string xZ)=false:=rfl;rw[G,I];simp
  |some p=>
   rw[hk]at j;obtain⟨b,rfl,_⟩:=j;have G:has (fY r (some b)) (.string sI)=true:=rfl;have I:has (fY r (some b)) (.string xZ)=true:=rfl;rw[G,I];simp
 have a5:=cN D;clear T A X c1 D;refine cN ?_;go_wp2_with fail;go_loopw [1] (fun i wr=>∃(a:Lit→Bool) (Q:Nat) (x:Int),i= .int .i64 x∧wr.ranges prog 9 rJ nm W.heap.size 2 (fY r M) a Q∧x+aB0 k a=jQ k+n∧0≤x∧Chg NoS W wr) (fun _ wr=>wr.rangeLeft nm W.heap.size)
 case atStart=>
  exact⟨_,_,n,rfl,a4.out,by rw[a5.out];omega,hn0,⟨m.out.os,m.out.tape,m.out.output,m.out.size,fun x H _=>m.out.block x H (by simp)⟩⟩
 case round=>
  obtain⟨a,Q,x,rfl,S,H,c2,a0⟩:=hrel;have U:=cN S;have l:=cN a0;have HX:=cN H;clear S a0 H;go_wp2_with (at_next;refine wpList_next_ranges _ rfl _ rfl 9 aAs rJ (fun v:Value=>v) (fun v:Value=>v) (fun key kl h=>⟨key,rfl⟩) (fun v y h=>⟨v,rfl⟩) nm W.heap.size 2 (fY r M) _ _ rfl U.out ?_ ?_)
  ·intro b8 N;have P:x=jQ k+n:=by
    have:=HX.out;unfold aB0 at this;rw[N,N]at this;simpa using this
   have f:=HD.out.apart l.out (fun _ _ h=>h);have d0:=f.cell 0 _ rfl;have b4:=(aW (l.out.block 0 a9.out (fun h=>h))).trans b1.out;have Z:=cN P;clear f P;by_cases s:k.room<x
   ·have hb:decide (k.room<x)=true:=by simpa using s
    have HE:=cN (O.out.1 (by have:=Z.out;omega));clear s;go_wp2_with fail;go_ret;exact⟨by rw[HE.out];rfl,l.out⟩
   ·have hb:decide (k.room<x)=false:=by simpa using s
    have HE:=cN (O.out.2 (by have:=Z.out;omega));clear s;go_wp2_with fail;go_ret;exact⟨by rw[HE.out];rfl,l.out⟩
  ·intro xk c kl y1 y2 W5 b5 a2 J hR Y C B g a6 b7;have o:Chg NoS W W5:=by
    have q5:Chg (fun x=>x=W.heap.size) _ W5:=⟨g.os,g.tape,g.output,g.size,fun x H j=>g.block x H (fun e=>j (aN e))⟩;exact l.out.trans q5 (fun x H e=>by omega)
   have f:=HD.out.apart o (fun _ _ h=>h);obtain⟨b,t,y,hc,q,u,c3⟩:∃b t y,c=rQ b∧FileAt W5 b t y∧aB0 k a=(t.length:Int)+aB0 k (fun z=>a z&& !z.sameKey kl)∧(t.length:Int)≤1000000000000:=by
    rcases aD2 Y with⟨rfl,e⟩|⟨b,hb,rfl,e⟩
    ·subst e;refine⟨r,k.log,k.lsyn,oZ hR,f.log,?_,hl⟩;have G:(Lit.string sI).sameKey (.string sI)=true:=rfl;have I:(Lit.string xZ).sameKey (.string sI)=false:=rfl;simp[aB0,J,G,I]
    ·subst e;subst hb;have j:=f.new;cases hk:k.new with
     |none=>rw[hk]at j;cases j
     |some p=>
      rw[hk]at j;obtain⟨b',a7,hf,_⟩:=j;obtain rfl:=aN a7;have w:iD k=p.1.length:=by unfold iD;rw[hk]
      refine⟨b,p.1,p.2,oZ hR,hf,?_,by rw[←w];exact hl2⟩;have G:(Lit.string xZ).sameKey (.string xZ)=true:=rfl;have I:(Lit.string sI).sameKey (.string xZ)=false:=rfl;simp[aB0,J,G,I,w];try omega
   subst hc;have f0:=cO q 0 _ rfl;have c0:=kI t;have a8:0≤aB0 k (fun z=>a z&& !z.sameKey kl):=by
    unfold aB0;split<;>split<;>omega
   have b9:jQ k≤2000000000000:=by unfold jQ;omega
   have w1:IntKind.i64.wrap (x+(t.length:Int))=x+(t.length:Int):=fX (by omega) (by have:=HX.out;omega);have b6:wrap64 (x+(t.length:Int))=x+(t.length:Int):=by have:=HX.out;unfold wrap64;omega
   have E:=cN C;have b0:=cN o;have a1:=cN u;have a3:=cN B;have b2:0≤x+(t.length:Int):=by omega
   clear a2 J hR Y C B g a6 f q u o a8;go_wp2_with fail;go_roundw
   case rel=>exact⟨_,_,_,rfl,E.out,by have:=HX.out;have:=a1.out;omega,b2,b0.out⟩
   case measure=>rw[E.out.left_eq,U.out.left_eq];exact a3.out
theorem aB5(te:TypeId)(ve:Value)(s:List Int)(h:Disk W F d k)(hok:hP k)(hev:W.cell? ⟨0,0,none⟩=some (.iface te ve))(h0F:¬F 0)(hold:k.old=none)(hs1:(s.length:Int)≤1000000000000)(hl:(k.log.length:Int)≤1000000000000)(hl2:iD k≤1000000000000):
 Calls prog 196 #[.pointer (some ⟨d,0,none⟩),vO,.string (strOfNums s)] W fun e W'=>EndsK .nilIface (.iface te ve) W F d (eP k s lL) e W':=by
 obtain⟨Y,V,i,u,I,Z,h⟩:=h;cases hs:fQ k with
 |none=>
  have eS:eP k s lL=(k,(.some (.some (iP k)))):=by unfold eP;rw[hs]
  rw[eS];have HD:=cN h;have E:Hid (Calls prog 185 #[.pointer (some ⟨d,0,none⟩)] W fun e W'=>e= .panicked (rT (iP k))∧W'=W):=nK W F d k Y V i u I Z h hs;clear h hs;go_enter func196,ntmps196;go_wp2_with (go_at_call 185;refine E.out.mono ?_;rintro r n ⟨rfl,rfl⟩);exact⟨rfl,EndsK.dies ⟨_,_,_,_,_,_,HD.out⟩⟩
 |some k1=>
  have K:=gR hs;have Q:=cN (Nat.lt_of_le_of_lt (aI d) (h.lt d h.fd));have E:Hid (Calls prog 185 #[.pointer (some ⟨d,0,none⟩)] W fun e W'=>e= .returned (.tuple #[])∧DkAt W' F d k1 Y V i u I Z∧Chg F W W'∧W'.heap.size=W.heap.size):=nL W F d k k1 Y V i u I Z h hok hs;have S:(k1.log.length:Int)≤1000000000000:=by rw[K.2.1];exact hl
  have t:iD k1≤1000000000000:=by unfold iD at hl2⊢;rw[K.2.2.2.1];exact hl2
  have l:=K.2.2.2.2.trans hold;have R:=cN hev;have D:=cN (aLn S t l K);have eF:∀q:Prop,[Decidable q]→(if q then(Value.iface te ve)else .nilIface)=if q then(Value.iface te ve)else .nilIface:=fun _ _=>rfl
  have eS:eP k s lL=if k1.room<jQ k1+s.length then(k1,(.some .none))else(lL k1 s,.none):=by unfold eP;rw[hs]
  rw[eS];clear h hs hev hl hl2 hold S t l K eF eS;by_cases g:k1.room<jQ k1+s.length
  ·rw[if_pos g];have A:=cN g;clear g;go_enter func196,ntmps196;go_wp2_with (go_at_call 185;refine E.out.mono ?_;rintro r n ⟨rfl,j,y,H⟩;refine cQ ?_);have O:=cN H;have C:=cN y;have a:=(aW (y.block 0 Q.out h0F)).trans R.out;have a1:=kI s;have c:=yM n F d k1 (.iface te ve) s.length ⟨_,_,_,_,_,_,j⟩ a (by omega) hs1 D.out.1 D.out.2.1;have f:=aA6 j.names;have c1:=j.cell 1 _ rfl;have B:=cN j;clear y H a E j;rw[if_pos A.out]at c;have z:Hid (Calls prog 221 #[.pointer (some ⟨d,0,none⟩),.int .i64 s.length] n fun e W'=>e= .returned (.iface te ve)∧Chg NoS n W'):=c;clear c;refine cN ?_;go_wp2_with (first|(go_at_call 221;refine z.out.mono ?_;rintro r m ⟨rfl,v⟩;refine cQ ?_));have T:Chg NoS n (m.alloc (.cells #[.string ⟨#[97,112,112,101,110,100]⟩,vO,.iface te ve] 239)):=v.alloc _;have M:(m.alloc (.cells #[.string ⟨#[97,112,112,101,110,100]⟩,vO,.iface te ve] 239)).heap[m.heap.size]?=some (.cells #[.string ⟨#[97,112,112,101,110,100]⟩,vO,.iface te ve] 239 (0,0)):=aA m _;generalize L:m.alloc (.cells #[.string ⟨#[97,112,112,101,110,100]⟩,vO,.iface te ve] 239)=W3 at*;have HX:=cN L;have N:=cN T;have a0:=cN M;have a2:=cN v.size;clear L T M v f c1;refine cN ?_;go_wp2_with (first|rw[HX.out]);go_ret;exact⟨⟨F,⟨_,_,_,_,_,_,B.out.apart N.out (fun _ _ h=>h)⟩,C.out.nos' N.out,fun x hx=>Or.inl hx⟩,m.heap.size,rfl,⟨_,a0.out⟩,by have:=a2.out;have:=O.out;omega⟩
  ·rw[if_neg g];have A:=cN g;clear g;go_enter func196,ntmps196;go_wp2_with (go_at_call 185;refine E.out.mono ?_;rintro r n ⟨rfl,j,y,H⟩;refine cQ ?_);have O:=cN H;have C:=cN y;have a:=(aW (y.block 0 Q.out h0F)).trans R.out;have a1:=kI s;have c:=yM n F d k1 (.iface te ve) s.length ⟨_,_,_,_,_,_,j⟩ a (by omega) hs1 D.out.1 D.out.2.1;have f:=aA6 j.names;have c1:=j.cell 1 _ rfl;have B:=cN j;clear y H a E j;rw[if_neg (by have:=A.out;omega)]at c;have z:Hid (Calls prog 221 #[.pointer (some ⟨d,0,none⟩),.int .i64 s.length] n fun e W'=>e= .returned .nilIface∧Chg NoS n W'):=c;clear c;refine cN ?_;go_wp2_with (first|(go_at_call 221;refine z.out.mono ?_;rintro r m ⟨rfl,v⟩;refine cQ ?_));have G:=B.out.apart v (fun _ _ h=>h);have J:=G.log;have f0:=cO J 0 _ rfl;have z0:=cX J 0;have o:=cY m i 0 (.string (strOfNums k1.log++strOfNums s));have U:FileAt (m.setCell ⟨i,0,none⟩ (.string (strOfNums k1.log++strOfNums s))) i (k1.log++s) k1.lsyn:=by
    have:=dD J 0 (.string (strOfNums k1.log++strOfNums s));rw[fT]at this⊢;exact this
   generalize L:m.setCell ⟨i,0,none⟩ (.string (strOfNums k1.log++strOfNums s))=W3 at*;have HX:=cN L;have h3:DkAt W3 F d (lL k1 s) Y V i u I Z:=G.file J o rfl U (by
    show NewAt W3 F i u (lL k1 s).new;show NewAt W3 F i u k1.new;have X:=G.new;cases hk:k1.new with
    |none=>rw[hk]at X;exact X
    |some p=>rw[hk]at X;obtain⟨b,n1,n2,n3,n4⟩:=X;exact⟨b,n1,o.kept n2 n4,n3,n4⟩) (by
    show OldAt W3 F i u I k1.old;have ho:=G.old;rw[D.out.2.2.1]at ho⊢;exact ho) rfl
   have HR:=cN h3;have HC:=cN ((C.out.nos' v).trans o (fun x _ e=>e▸G.flog));have a3:=fun w=>run_string_add_sum (P:=prog) w (strOfNums k1.log) (strOfNums s) (by rw[dU,dU];have:=D.out.1;omega);clear L o U h3 G v J f c1;refine cN ?_;go_wp2_with (first|rw[HX.out]);go_ret;exact⟨⟨_,⟨_,_,_,_,_,_,HR.out⟩,HC.out,fun x hx=>Or.inl hx⟩,rfl⟩
theorem aB4(te:TypeId)(ve:Value)(s:List Int)(t:List Int)(y:Int)(h:Disk W F d k)(hok:hP k)(hev:W.cell? ⟨0,0,none⟩=some (.iface te ve))(h0F:¬F 0)(hnew:k.new=some (t,y))(hold:k.old=none)(hs1:(s.length:Int)≤1000000000000)(hl:(k.log.length:Int)≤1000000000000)(hl2:iD k≤1000000000000):
 Calls prog 196 #[.pointer (some ⟨d,0,none⟩),xF,.string (strOfNums s)] W fun e W'=>EndsK .nilIface (.iface te ve) W F d (eP k s iQ) e W':=by
 obtain⟨nm,km,z,fn,K,fv,h⟩:=h;cases hs:fQ k with
 |none=>
  have eS:eP k s iQ=(k,(.some (.some (iP k)))):=by unfold eP;rw[hs]
  rw[eS];have HD:=cN h;have I:Hid (Calls prog 185 #[.pointer (some ⟨d,0,none⟩)] W fun e W'=>e= .panicked (rT (iP k))∧W'=W):=nK W F d k nm km z fn K fv h hs;clear h hs;go_enter func196,ntmps196;go_wp2_with (go_at_call 185;refine I.out.mono ?_;rintro r n ⟨rfl,rfl⟩);exact⟨rfl,EndsK.dies ⟨_,_,_,_,_,_,HD.out⟩⟩
 |some k1=>
  have J:=gR hs;have U:=cN (Nat.lt_of_le_of_lt (aI d) (h.lt d h.fd));have I:Hid (Calls prog 185 #[.pointer (some ⟨d,0,none⟩)] W fun e W'=>e= .returned (.tuple #[])∧DkAt W' F d k1 nm km z fn K fv∧Chg F W W'∧W'.heap.size=W.heap.size):=nL W F d k k1 nm km z fn K fv h hok hs;have X:(k1.log.length:Int)≤1000000000000:=by rw[J.2.1];exact hl
  have p:iD k1≤1000000000000:=by unfold iD at hl2⊢;rw[J.2.2.2.1];exact hl2
  have m:=J.2.2.2.2.trans hold;have e4:=J.2.2.2.1.trans hnew;have D:=cN e4;obtain⟨b,rfl,u⟩:∃b,fn=some b∧b≠z:=by
   have M:=h.new;rw[hnew]at M;obtain⟨b,j,_,_,q4⟩:=M;exact⟨b,j,q4⟩
  clear e4;have V:=cN hev;have H:=cN (aLn X p m J);have eF:∀q:Prop,[Decidable q]→(if q then(Value.iface te ve)else .nilIface)=if q then(Value.iface te ve)else .nilIface:=fun _ _=>rfl
  have eS:eP k s iQ=if k1.room<jQ k1+s.length then(k1,(.some .none))else(iQ k1 s,.none):=by unfold eP;rw[hs]
  rw[eS];clear h hs hev hl hl2 hold X p m J eF eS;by_cases g:k1.room<jQ k1+s.length
  ·rw[if_pos g];have C:=cN g;clear g;go_enter func196,ntmps196;go_wp2_with (go_at_call 185;refine I.out.mono ?_;rintro r n ⟨rfl,l,j,v⟩;refine cQ ?_);have T:=cN v;have G:=cN j;have a:=(aW (j.block 0 U.out h0F)).trans V.out;have a1:=kI s;have c:=yM n F d k1 (.iface te ve) s.length ⟨_,_,_,_,_,_,l⟩ a (by omega) hs1 H.out.1 H.out.2.1;have f:=xI l.names;have c1:=l.cell 1 _ rfl;have E:=cN l;clear j v a I l;rw[if_pos C.out]at c;have B:Hid (Calls prog 221 #[.pointer (some ⟨d,0,none⟩),.int .i64 s.length] n fun e W'=>e= .returned (.iface te ve)∧Chg NoS n W'):=c;clear c;refine cN ?_;go_wp2_with (first|(go_at_call 221;refine B.out.mono ?_;rintro r i ⟨rfl,A⟩;refine cQ ?_));have Y:Chg NoS n (i.alloc (.cells #[.string ⟨#[97,112,112,101,110,100]⟩,xF,.iface te ve] 239)):=A.alloc _;have Q:(i.alloc (.cells #[.string ⟨#[97,112,112,101,110,100]⟩,xF,.iface te ve] 239)).heap[i.heap.size]?=some (.cells #[.string ⟨#[97,112,112,101,110,100]⟩,xF,.iface te ve] 239 (0,0)):=aA i _;generalize O:i.alloc (.cells #[.string ⟨#[97,112,112,101,110,100]⟩,xF,.iface te ve] 239)=W3 at*;have HX:=cN O;have R:=cN Y;have a0:=cN Q;have a2:=cN A.size;clear O Y Q A f c1;refine cN ?_;go_wp2_with (first|rw[HX.out]);go_ret;exact⟨⟨F,⟨_,_,_,_,_,_,E.out.apart R.out (fun _ _ h=>h)⟩,G.out.nos' R.out,fun x hx=>Or.inl hx⟩,i.heap.size,rfl,⟨_,a0.out⟩,by have:=a2.out;have:=T.out;omega⟩
  ·rw[if_neg g];have C:=cN g;clear g;go_enter func196,ntmps196;go_wp2_with (go_at_call 185;refine I.out.mono ?_;rintro r n ⟨rfl,l,j,v⟩;refine cQ ?_);have T:=cN v;have G:=cN j;have a:=(aW (j.block 0 U.out h0F)).trans V.out;have a1:=kI s;have c:=yM n F d k1 (.iface te ve) s.length ⟨_,_,_,_,_,_,l⟩ a (by omega) hs1 H.out.1 H.out.2.1;have f:=xI l.names;have c1:=l.cell 1 _ rfl;have E:=cN l;clear j v a I l;rw[if_neg (by have:=C.out;omega)]at c;have B:Hid (Calls prog 221 #[.pointer (some ⟨d,0,none⟩),.int .i64 s.length] n fun e W'=>e= .returned .nilIface∧Chg NoS n W'):=c;clear c;refine cN ?_;go_wp2_with (first|(go_at_call 221;refine B.out.mono ?_;rintro r i ⟨rfl,A⟩;refine cQ ?_));have N:=E.out.apart A (fun _ _ h=>h);obtain⟨L,S⟩:FileAt i b t y∧F b:=by
    have M:=N.new;rw[D.out]at M;obtain⟨b',j,v,q3,q4⟩:=M;obtain rfl:=aN j;exact⟨v,q3⟩
   have f0:=cO L 0 _ rfl;have z0:=cX L 0;have o:=cY i b 0 (.string (strOfNums t++strOfNums s));have Z:FileAt (i.setCell ⟨b,0,none⟩ (.string (strOfNums t++strOfNums s))) b (t++s) y:=by
    have:=dD L 0 (.string (strOfNums t++strOfNums s));rw[fT]at this⊢;exact this
   generalize O:i.setCell ⟨b,0,none⟩ (.string (strOfNums t++strOfNums s))=W3 at*;have HX:=cN O;have h3:DkAt W3 F d (iQ k1 s) nm km z (some b) K fv:=N.file L o rfl (o.kept N.log (Ne.symm u)) (by
    show NewAt W3 F z (some b) (iQ k1 s).new;unfold iQ;rw[D.out];exact⟨b,rfl,Z,S,u⟩) (by
    show OldAt W3 F z (some b) K k1.old;have ho:=N.old;rw[H.out.2.2.1]at ho⊢;exact ho) rfl
   have HR:=cN h3;have HC:=cN ((G.out.nos' A).trans o (fun x _ e=>e▸S));have a3:=fun w=>run_string_add_sum (P:=prog) w (strOfNums t) (strOfNums s) (by rw[dU,dU];have:=H.out.2.1;have e:iD k1=t.length:=(by unfold iD;rw[D.out]);omega);clear O o Z h3 N A L f c1;refine cN ?_;go_wp2_with (first|rw[HX.out]);go_ret;exact⟨⟨_,⟨_,_,_,_,_,_,HR.out⟩,HC.out,fun x hx=>Or.inl hx⟩,rfl⟩
end
end
section
open Go.RowKit Go.Maps
abbrev oQ(eb:Addr):Value:=.iface 328 (.pointer (some eb))
abbrev aJc:Value:=.iface 295 (.agg #[.pointer (some ⟨2,202,none⟩)])
structure GlAt(W:World)(B:Nat)(eb:Addr):Prop where
 b0:0<B
 b1:1<B
 hB:B≤W.heap.size
 err:W.cell? ⟨0,0,none⟩=some (oQ eb)
 typ:W.cell? ⟨1,0,none⟩=some aJc
theorem GlAt.of_heap{W W':World}{B:Nat}{eb:Addr}(h:GlAt W B eb)(hs:W.heap.size≤W'.heap.size)(hb:∀k,k<B→W'.heap[k]?=W.heap[k]?):GlAt W' B eb:=
 ⟨h.b0,h.b1,cA h.hB hs,(aW (hb 0 h.b0)).trans h.err,(aW (hb 1 h.b1)).trans h.typ⟩
theorem GlAt.kept{W W':World}{S:Nat→Prop}{B:Nat}{eb:Addr}(h:GlAt W B eb)(hc:Chg S W W')(hn:∀k,S k→B≤k):GlAt W' B eb:=
 h.of_heap hc.size fun k hk=>hc.block k (aG hk h.hB) (fun hs=>by have:=hn k hs;omega)
abbrev acL(a:Ac)(d tb g:Nat):List Value:=[.int .i64 a.num,.int .i64 a.compact,.pointer (some ⟨d,0,none⟩),.map (some tb),.int .i64 a.st,yT g]
abbrev aA8(W:World)(b:Nat)(rs:List Rw):Prop:=W.ownsMap prog 3 uI b 4 (oF rs)
structure AcAt(W:World)(FD:Nat→Prop)(b g d tb:Nat)(a:Ac):Prop where
 blk:W.heap[b]?=some (.cells (acL a d tb g).toArray 162 (0,0))
 disk:Disk W FD d a.dk
 table:aA8 W tb a.rows
 nb:¬FD b
 ntb:¬FD tb
def InF(FD:Nat→Prop)(b tb:Nat):Nat→Prop:=fun x=>FD x∨x=b∨x=tb
def Acc(W:World)(F:Nat→Prop)(b g:Nat)(a:Ac):Prop:=∃FD d tb,AcAt W FD b g d tb a∧(∀x,InF FD b tb x→F x)∧∀x,F x→x<W.heap.size
theorem Disk.of_heap{W W':World}{F:Nat→Prop}{d:Nat}{k:Dk}(h:Disk W F d k)(hs:W.heap.size≤W'.heap.size)(hb:∀k,F k→W'.heap[k]?=W.heap[k]?):Disk W' F d k:=by
 obtain⟨g,a,f,b,c,e,h⟩:=h;exact⟨g,a,f,b,c,e,h.of_heap hs hb⟩
section
variable {W:World} {F:Nat→Prop} {d:Nat} {k:Dk}
theorem Disk.lt(h:Disk W F d k):∀x,F x→x<W.heap.size:=by
 obtain⟨g,a,f,b,c,e,h⟩:=h;exact h.lt
theorem Disk.fd(h:Disk W F d k):F d:=by
 obtain⟨g,a,f,b,c,e,h⟩:=h;exact h.fd
end
section
variable {W W':World}{FD F S:Nat→Prop}{b g d tb:Nat}{a:Ac}
theorem AcAt.of_heap(h:AcAt W FD b g d tb a)(hs:W.heap.size≤W'.heap.size)(hb:∀x,InF FD b tb x→W'.heap[x]?=W.heap[x]?):AcAt W' FD b g d tb a:=
 ⟨(hb b (Or.inr (Or.inl rfl))).trans h.blk,h.disk.of_heap hs (fun x hx=>hb x (Or.inl hx)),eB h.table (hb tb (Or.inr (Or.inr rfl))),h.nb,h.ntb⟩
theorem AcAt.inlt(h:AcAt W FD b g d tb a):∀x,InF FD b tb x→x<W.heap.size:=fun x hx=>by
 rcases hx with hx|hx|hx
 ·exact h.disk.lt x hx
 ·subst hx;exact dG h.blk
 ·subst hx;exact h.table.lt
theorem AcAt.kept(h:AcAt W FD b g d tb a)(hc:Chg S W W')(hn:∀x,InF FD b tb x→¬S x):AcAt W' FD b g d tb a:=
 h.of_heap hc.size fun x hx=>hc.block x (h.inlt x hx) (hn x hx)
theorem AcAt.cell(h:AcAt W FD b g d tb a)(j:Nat)(x:Value)(hj:(acL a d tb g)[j]?=some x):W.cell? ⟨b,j,none⟩=some x:=cO h.blk j x (by simpa using hj)
theorem AcAt.froz(h:AcAt W FD b g d tb a)(j:Nat):W.frozen? ⟨b,j,none⟩=false:=cX h.blk j
theorem AcAt.bt(h:AcAt W FD b g d tb a):b≠tb:=fun e=>by
 obtain⟨_,_,o⟩:=eH h.table;exact eX h.blk o (by simp) e
theorem Acc.kept(h:Acc W F b g a)(hc:Chg S W W')(hn:∀x,F x→¬S x):Acc W' F b g a:=by
 obtain⟨f,d,e,j,c,i⟩:=h;exact⟨f,d,e,j.kept hc (fun x hx=>hn x (c x hx)),c,fun x hx=>aG (i x hx) hc.size⟩
theorem Acc.lt(h:Acc W F b g a):∀x,F x→x<W.heap.size:=by
 obtain⟨f,d,e,j,i,c⟩:=h;exact c
theorem AcAt.disk'{FD':Nat→Prop}{k:Dk}(h:AcAt W FD b g d tb a)(hd:Disk W' FD' d k)(hc:Chg FD W W')(hf:∀x,FD' x→FD x∨W.heap.size≤x):AcAt W' FD' b g d tb {a with dk:=k}:=by
 refine⟨hc.kept h.blk h.nb,hd,eB h.table (hc.block _ h.table.lt h.ntb),fun hx=>?_,fun hx=>?_⟩
 ·rcases hf b hx with h'|h'
  ·exact h.nb h'
  ·have:=dG h.blk;omega
 ·rcases hf tb hx with h'|h'
  ·exact h.ntb h'
  ·have:=h.table.lt;omega
end
def AcTo(W:World)(F:Nat→Prop)(b g:Nat)(a:Ac)(W':World):Prop:=∃F',Acc W' F' b g a∧Chg F W W'∧∀x,F' x→F x∨W.heap.size≤x
theorem AcTo.of{W:World}{F:Nat→Prop}{b g:Nat}{a:Ac}(h:Acc W F b g a):AcTo W F b g a W:=⟨F,h,Chg.refl _ _,fun _ h=>Or.inl h⟩
theorem AcTo.trans{A B C:World}{F F1:Nat→Prop}{b g:Nat}{a:Ac}(hc:Chg F A B)(hf:∀x,F1 x→F x∨A.heap.size≤x)(h:AcTo B F1 b g a C):AcTo A F b g a C:=by
 obtain⟨d,e,c,f⟩:=h;refine⟨d,e,hc.trans c (fun x hx h'=>?_),fun x hx=>?_⟩
 ·rcases hf x h' with h|h
  ·exact h
  ·omega
 ·rcases f x hx with h|h
  ·exact hf x h
  ·right;have:=hc.size;omega
theorem AcAt.to{W W':World}{FD F:Nat→Prop}{b g d tb:Nat}{a:Ac}{k:Dk}(h:AcAt W FD b g d tb a)(hF:∀x,InF FD b tb x→F x)(hlt:∀x,F x→x<W.heap.size)(hd:DkTo W FD d k W'):∃FD':Nat→Prop,∃F':Nat→Prop,AcAt W' FD' b g d tb {a with dk:=k}∧(∀x,InF FD' b tb x→F' x)∧(∀x,F' x→x<W'.heap.size)∧Chg F W W'∧(∀x,F x→F' x)∧∀x,F' x→F x∨W.heap.size≤x:=by
 obtain⟨FD',h1,h2,h3⟩:=hd;refine⟨FD',fun x=>F x∨FD' x,h.disk' h1 h2 h3,fun x hx=>?_,fun x hx=>?_,h2.mono (fun x _ hx=>hF x (Or.inl hx)),fun x hx=>Or.inl hx,fun x hx=>?_⟩
 ·rcases hx with hx|hx|hx
  ·exact Or.inr hx
  ·exact Or.inl (hF x (Or.inr (Or.inl hx)))
  ·exact Or.inl (hF x (Or.inr (Or.inr hx)))
 ·rcases hx with hx|hx
  ·exact aG (hlt x hx) h2.size
  ·exact h1.lt x hx
 ·rcases hx with hx|hx
  ·exact Or.inl hx
  ·rcases h3 x hx with h'|h'
   ·exact Or.inl (hF x (Or.inl h'))
   ·exact Or.inr h'
def tN(v ev:Value)(W:World)(F:Nat→Prop)(b g:Nat)(p:Ac×How)(e:Ending)(W':World):Prop:=AcTo W F b g p.1 W'∧match p.2 with
 |.none=>e= .returned v
 |(.some (.some q))=>e= .panicked (rT q)
 |(.some .none)=>∃fb,e= .returned (lX fb)∧lW W' fb ev∧W.heap.size≤fb
structure xN(a:Ac):Prop where
 n0:0≤a.num
 n1:a.num≤100
 c0:0≤a.compact
 c1:a.compact≤1000
 lk:∀r ∈ a.rows,0≤r.lock∧r.lock≤3
 fo:hP a.dk
 l1:(a.dk.log.length:Int)≤100000000000
end
section
open Go.RowKit Go.Maps
theorem aJU{W:World}{tb:Nat}{rs:List Rw}(h:aA8 W tb rs)(l:Int)(hl0:0≤l)(hl3:l≤3):(Instr.lookup 118 (.map (some tb)) (.int .i64 l) false).run prog W= .ok (rwV ((dX rs l.toNat).getD zRw)) W:=by
 have c:keyOf prog 3 (.int .i64 l)=some (.int .i64 l):=keyOf_int_mk underlying3 (aDZ hl0 (by omega));obtain⟨v,d,b,a⟩:=h.lookup aHI underlying118 (aGH W) (aAF zRw) c;have e:=aCS (aAu zRw) l.toNat rs.length rs rfl;rw[Int.toNat_of_nonneg hl0]at e;rw[e]at a;rw[b];cases hq:dX rs l.toNat with
 |none=>rw[hq]at a;rw[aBq a];rfl
 |some r=>rw[hq]at a;rw[aBq a];rfl
theorem yS(fn:Func)(hr:fn.results=#[.cell 4 58])(tmps:Array Value)(x:Nat)(r:Rw)(W:World)(h4:tmps.getD 4 undef= .pointer (some ⟨x,0,none⟩))(hb:W.heap[x]?=some (.cells (rwL r).toArray 58 (0,0))):
 (results fn tmps).run prog W= .ok (rwV r) W:=by
 have a:(loadVar 58 ⟨x,0,none⟩).run prog W= .ok (rwV r) W:=fB W ⟨x,0,none⟩ 58 (rwL r) _ (cR hb) underlying58 rfl (by kernel_rfl);unfold results;rw[hr];simp only[cK]at h4;simp[h4,asAddr,aT,a]
theorem uJ(fn:Func)(hr:fn.results=#[.cell 4 58,.cell 5 66,.tmp 6])(tmps:Array Value)(x y:Nat)(r:Rw)(m:Mg)(q:Bool)(W:World)(h4:tmps.getD 4 undef= .pointer (some ⟨x,0,none⟩))(h5:tmps.getD 5 undef= .pointer (some ⟨y,0,none⟩))(h6:tmps.getD 6 undef= .bool q)(hb:W.heap[x]?=some (.cells (rwL r).toArray 58 (0,0)))(hc:W.heap[y]?=some (.cells (mgL m).toArray 66 (0,0))):
 (results fn tmps).run prog W= .ok (.tuple #[rwV r,mgV m,.bool q]) W:=by
 have b:(loadVar 58 ⟨x,0,none⟩).run prog W= .ok (rwV r) W:=fB W ⟨x,0,none⟩ 58 (rwL r) _ (cR hb) underlying58 rfl (by kernel_rfl);have a:(loadVar 66 ⟨y,0,none⟩).run prog W= .ok (mgV m) W:=fB W ⟨y,0,none⟩ 66 (mgL m) _ (cR hc) underlying66 rfl (by kernel_rfl);unfold results;rw[hr];simp only[cK]at h4 h5 h6;simp[h4,h5,h6,asAddr,aT,b,a]
theorem aJG(W:World)(F:Nat→Prop)(b g:Nat)(a:Ac)(l:Int)(h:Acc W F b g a)(hl0:0≤l)(hl3:l≤3):
 Calls prog 170 #[.pointer (some ⟨b,0,none⟩),.int .i64 l] W fun e W'=>e= .returned (rwV (qE a l))∧Chg NoS W W':=by
 obtain⟨FD,d,tb,h,_,_⟩:=h;obtain⟨R,C⟩:=aLw ((dX a.rows l.toNat).getD zRw);have A:=fun x (hx:Chg NoS W x)=>aJU (h.kept hx (fun _ _ h=>h)).table l hl0 hl3;rw[←C]at A;have U:qE a l={R with lock:=l}:=by unfold qE;rw[C]
 rw[U];have Z:=cN A;have HA:=cN h;have i:Chg NoS W (W.alloc (.cells #[.int .i64 0,.int .i64 0,.int .i64 0,.int .i64 0,.int .i64 0,.int .i64 0,.int .i64 0] 58)):=(Chg.refl _ _).alloc _;have q:=aA W (.cells #[.int .i64 0,.int .i64 0,.int .i64 0,.int .i64 0,.int .i64 0,.int .i64 0,.int .i64 0] 58);have c:(W.alloc (.cells #[.int .i64 0,.int .i64 0,.int .i64 0,.int .i64 0,.int .i64 0,.int .i64 0,.int .i64 0] 58)).heap.size=W.heap.size+1:=by simp
 generalize p:W.alloc (.cells #[.int .i64 0,.int .i64 0,.int .i64 0,.int .i64 0,.int .i64 0,.int .i64 0,.int .i64 0] 58)=W1 at*;have L:=cN p;have V:=(h.kept i (fun _ _ h=>h)).cell 3 _ rfl;have y:=Z.out W1 i;have n:=aA W1 (.cells #[.int .i64 0,.int .i64 0,.int .i64 0,.int .i64 0,.int .i64 0,.int .i64 0,.int .i64 0] 58);have m:Chg NoS W1 (W1.alloc (.cells #[.int .i64 0,.int .i64 0,.int .i64 0,.int .i64 0,.int .i64 0,.int .i64 0,.int .i64 0] 58)):=(Chg.refl _ _).alloc _;have J:(W1.alloc (.cells #[.int .i64 0,.int .i64 0,.int .i64 0,.int .i64 0,.int .i64 0,.int .i64 0,.int .i64 0] 58)).heap.size=W.heap.size+2:=by simp[c]
 have j:=m.kept q (fun h=>h);generalize w:W1.alloc (.cells #[.int .i64 0,.int .i64 0,.int .i64 0,.int .i64 0,.int .i64 0,.int .i64 0,.int .i64 0] 58)=W2 at*;rw[c]at n;have E:=cN w;have G:=cN c;have M:=cN n;have T:=cN (i.trans (S:=NoS) m (fun _ _ h=>h));have z:=cN j;clear p w q i m n j J c h A U C;go_enter func170,ntmps170;go_wp2_with (first|rw[L.out]|(rw[E.out,G.out])|(refine cV rfl 58 _ _ rfl (W.heap.size+1) 0 58 _ _ (rwL R) rfl rfl M.out (by kernel_rfl) (by simp[Value.oneCell']) (by simp) rfl ?_;intro B o H f;refine cQ ?_));have d0:=cO f 0 _ rfl;have Y:=cX f 0;have k:=cY B (W.heap.size+1) 0 (.int .i64 l);have v:(B.setCell ⟨W.heap.size+1,0,none⟩ (.int .i64 l)).heap[W.heap.size+1]?=some (.cells (rwL {R with lock:=l}).toArray 58 (0,0)):=dD f 0 (.int .i64 l);have t:=k.kept (o.kept z.out (by omega)) (by omega);generalize r:B.setCell ⟨W.heap.size+1,0,none⟩ (.int .i64 l)=W4 at*;have I:=cN r;have Q:=cN (cR v);have K:=cN t;have N:=cN (((T.out.nos:Chg (fun x=>x=W.heap.size+1) W W2).trans o (fun _ _ h=>h)).trans k (fun _ _ h=>h));clear r o H f k v t;refine cN ?_;go_wp2_with (first|rw[I.out]|(refine cW rfl 58 _ rfl ⟨W.heap.size+1,0,none⟩ rfl (rwL {R with lock:=l}) _ Q.out underlying58 rfl (by kernel_rfl) ?_)|(refine cV rfl 58 _ _ rfl W.heap.size 0 58 _ _ (rwL {R with lock:=l}) rfl rfl K.out (by kernel_rfl) (by simp[Value.oneCell']) (by simp) rfl ?_;intro X s D u;refine cQ ?_));have O:=cN u
 have P:Hid (Chg NoS W X):=((N.out.mono (fun _ _ h=>Or.inl h):Chg (fun x=>x=W.heap.size+1∨x=W.heap.size) W W4).trans s (fun _ _ h=>Or.inr h)).mono (fun x hx h=>by omega);clear s D u d0 Y V y;refine cN ?_;go_wp2_with fail;exact bodyPost_ret (yS _ results170 _ W.heap.size {R with lock:=l} _ rfl O.out) rfl ⟨rfl,P.out⟩
abbrev oP(r:Rw):Vl:=⟨r.own,r.tok,r.ttl,r.seq⟩
theorem aC7(r:Rw):∀j x,(vlL (oP r))[j]?=some x→(rwL r).toArray[3+j]?=some x:=by
 intro j x a;have b:j<4:=(aF.1 a).1;rcases j with _|_|_|_|j
 ·exact a
 ·exact a
 ·exact a
 ·exact a
 ·omega
theorem aCI(m:Mg):∀j x,(vlL m.val)[j]?=some x→(mgL m).toArray[6+j]?=some x:=by
 intro j x a;have b:j<4:=(aF.1 a).1;rcases j with _|_|_|_|j
 ·exact a
 ·exact a
 ·exact a
 ·exact a
 ·omega
structure DecAt(W0 W:World)(m:Mg)(r:Rw):Prop where
 bm:W.heap[W0.heap.size]?=some (.cells (mgL m).toArray 66 (0,0))
 br:W.heap[W0.heap.size+1]?=some (.cells (rwL r).toArray 58 (0,0))
 ba:W.heap[W0.heap.size+2]?=some (.cells (rwL zRw).toArray 58 (0,0))
 bx:W.heap[W0.heap.size+3]?=some (.cells (mgL zMg).toArray 66 (0,0))
 ch:Chg NoS W0 W
theorem DecAt.drew{W0 W:World}{m:Mg}{r:Rw}(h:DecAt W0 W m r):DecAt W0 W.drew m r:=⟨h.bm,h.br,h.ba,h.bx,h.ch.drew⟩
theorem aFC(W:World)(m:Mg)(r:Rw):
 Calls prog 169 #[mgV m,rwV r] W fun e W'=>e= .returned (.tuple #[rwV (iT m r),mgV (jX m r),.bool (mN m r)])∧Chg NoS W W':=by
 have a7:=aA W (.cells #[.int .i64 m.kind,.int .i64 m.src,.int .i64 m.dst,.int .i64 m.lock,.int .i64 m.bal,.int .i64 m.base,.int .i64 m.val.own,.int .i64 m.val.tok,.int .i64 m.val.ttl,.int .i64 m.val.seq] 66);have b7:Chg NoS W (W.alloc (.cells #[.int .i64 m.kind,.int .i64 m.src,.int .i64 m.dst,.int .i64 m.lock,.int .i64 m.bal,.int .i64 m.base,.int .i64 m.val.own,.int .i64 m.val.tok,.int .i64 m.val.ttl,.int .i64 m.val.seq] 66)):=(Chg.refl _ _).alloc _;have n:(W.alloc (.cells #[.int .i64 m.kind,.int .i64 m.src,.int .i64 m.dst,.int .i64 m.lock,.int .i64 m.bal,.int .i64 m.base,.int .i64 m.val.own,.int .i64 m.val.tok,.int .i64 m.val.ttl,.int .i64 m.val.seq] 66)).heap.size=W.heap.size+1:=by simp
 generalize b0:W.alloc (.cells #[.int .i64 m.kind,.int .i64 m.src,.int .i64 m.dst,.int .i64 m.lock,.int .i64 m.bal,.int .i64 m.base,.int .i64 m.val.own,.int .i64 m.val.tok,.int .i64 m.val.ttl,.int .i64 m.val.seq] 66)=W1 at*;have K:=cN b0;have P:=aA W1 (.cells #[.int .i64 r.lock,.int .i64 r.prom,.int .i64 r.acc,.int .i64 r.own,.int .i64 r.tok,.int .i64 r.ttl,.int .i64 r.seq] 58);have L:Chg NoS W1 (W1.alloc (.cells #[.int .i64 r.lock,.int .i64 r.prom,.int .i64 r.acc,.int .i64 r.own,.int .i64 r.tok,.int .i64 r.ttl,.int .i64 r.seq] 58)):=(Chg.refl _ _).alloc _;have p:(W1.alloc (.cells #[.int .i64 r.lock,.int .i64 r.prom,.int .i64 r.acc,.int .i64 r.own,.int .i64 r.tok,.int .i64 r.ttl,.int .i64 r.seq] 58)).heap.size=W.heap.size+2:=by simp[n]
 generalize b6:W1.alloc (.cells #[.int .i64 r.lock,.int .i64 r.prom,.int .i64 r.acc,.int .i64 r.own,.int .i64 r.tok,.int .i64 r.ttl,.int .i64 r.seq] 58)=W2 at*;have S:=cN b6;have Y:=aA W2 (.cells #[.int .i64 0,.int .i64 0,.int .i64 0,.int .i64 0,.int .i64 0,.int .i64 0,.int .i64 0] 58);have G:Chg NoS W2 (W2.alloc (.cells #[.int .i64 0,.int .i64 0,.int .i64 0,.int .i64 0,.int .i64 0,.int .i64 0,.int .i64 0] 58)):=(Chg.refl _ _).alloc _;have A:(W2.alloc (.cells #[.int .i64 0,.int .i64 0,.int .i64 0,.int .i64 0,.int .i64 0,.int .i64 0,.int .i64 0] 58)).heap.size=W.heap.size+3:=by simp[p]
 generalize b2:W2.alloc (.cells #[.int .i64 0,.int .i64 0,.int .i64 0,.int .i64 0,.int .i64 0,.int .i64 0,.int .i64 0] 58)=W3 at*;have Z:=cN b2;have R:=aA W3 (.cells #[.int .i64 0,.int .i64 0,.int .i64 0,.int .i64 0,.int .i64 0,.int .i64 0,.int .i64 0,.int .i64 0,.int .i64 0,.int .i64 0] 66);have w:Chg NoS W3 (W3.alloc (.cells #[.int .i64 0,.int .i64 0,.int .i64 0,.int .i64 0,.int .i64 0,.int .i64 0,.int .i64 0,.int .i64 0,.int .i64 0,.int .i64 0] 66)):=(Chg.refl _ _).alloc _;generalize b1:W3.alloc (.cells #[.int .i64 0,.int .i64 0,.int .i64 0,.int .i64 0,.int .i64 0,.int .i64 0,.int .i64 0,.int .i64 0,.int .i64 0,.int .i64 0] 66)=W4 at*;have a0:=cN b1;rw[n]at P;rw[p]at Y;rw[A]at R;have d:Hid (DecAt W W4 m r):=⟨w.kept (G.kept (L.kept a7 (fun h=>h)) (fun h=>h)) (fun h=>h),w.kept (G.kept P (fun h=>h)) (fun h=>h),w.kept Y (fun h=>h),R,((b7.trans L (fun _ _ h=>h)).trans G (fun _ _ h=>h)).trans w (fun _ _ h=>h)⟩;have m4:=cO d.out.bm 4 _ rfl;have r1:=cO d.out.br 1 _ rfl;clear b0 b6 b2 b1 a7 P Y R b7 L G w;have HS:=cN (aLm n p A);by_cases k:m.bal<r.prom
 ·have I:iT m r=r:=if_pos k;have J:jX m r={zMg with kind:=5,base:=r.prom}:=if_pos k;have H:mN m r=false:=if_pos k;rw[I,J,H];have hb:decide (m.bal<r.prom)=true:=by simpa using k
  clear I J H k;go_enter func169,ntmps169;go_wp2_with (first|rw[K.out]|rw[S.out]|rw[Z.out]|rw[a0.out]);clear n p A;refine rlx [1,0,1,0,2] (fun x=>x.cell? ⟨W.heap.size+1,1,none⟩=some (.int .i64 r.prom)∧∀j y,(rwL r)[j]?=some y→x.cell? ((⟨W.heap.size+1,0,none⟩:Addr).add j)=some y) (by kernel_rfl) (fun _ _ _ _=>rfl) ?_ ?_
  ·exact⟨r1,cR (W:=W4.drew) d.out.br⟩
  simp only[dC,dB];refine dA (v:=rwV r) rfl (fun x hx=>cU 58 _ rfl ⟨W.heap.size+1,0,none⟩ rfl (rwL r) _ hx.2 underlying58 rfl (by kernel_rfl)) ?_;iterate 3 (apply sB rfl rfl;·(intro x h;(try have h:=h rfl);(try dsimp only at h);go_simp;with_reducible rfl))
  try simp only[pA]
  refine dI rfl (fun C hC=>?_);refine eM 58 _ _ rfl (W.heap.size+2) 0 58 _ _ (rwL r) rfl rfl d.out.drew.ba (by kernel_rfl) (by simp[Value.oneCell']) (by simp) rfl ?_;intro s a c2 b3;have b:=a.kept d.out.drew.br (by omega);refine hC _ _ ⟨cO b 1 _ rfl,cR b⟩ ?_;clear hC C;refine cP ?_;have B:=a.kept d.out.drew.bx (by omega);have f:=cN (aLl b3 B);have Q:=cN ((d.out.drew.ch.nos:Chg (fun x=>x=W.heap.size+2) W _).trans a (fun _ _ h=>h));clear a c2 b3 b B m4 r1;(try simp only[pA]);go_wp2_with (first|(refine cV rfl 66 _ _ rfl (W.heap.size+3) 0 66 _ _ (mgL {zMg with kind:=5,base:=r.prom}) rfl rfl f.out.2 (by kernel_rfl) (by simp[Value.oneCell']) (by simp) rfl ?_;intro W6 c T t;refine cQ ?_));have a2:=c.kept f.out.1 (by omega);have g:=cN (aLl a2 t);have M:Hid (Chg NoS W W6):=((Q.out.mono (fun _ _ h=>Or.inl h):Chg (fun x=>x=W.heap.size+2∨x=W.heap.size+3) W s).trans c (fun _ _ h=>Or.inr h)).mono (fun x hx h=>by omega);clear c T t a2;refine cN ?_;go_wp2_with fail;exact bodyPost_ret (uJ _ results169 _ (W.heap.size+2) (W.heap.size+3) r {zMg with kind:=5,base:=r.prom} false _ rfl rfl rfl g.out.1 g.out.2) rfl ⟨rfl,M.out⟩
 ·have hb:decide (m.bal<r.prom)=false:=by simpa using k
  by_cases F:m.kind=1
  ·obtain⟨q,hq⟩:=aLw (decide (r.prom<m.bal));have I:iT m r={r with prom:=m.bal}:=(if_neg k).trans (if_pos F);have J:jX m r={zMg with kind:=2,base:=r.acc,val:=oP r}:=(if_neg k).trans (if_pos F);have H:mN m r=q:=by rw[hq];exact(if_neg k).trans (if_pos F)
   rw[I,J,H];have hk:(m.kind==1)=true:=by simp[F]
   have m0:=cO d.out.bm 0 _ rfl;have z1:=cX d.out.br 1;have a:=cY W4 (W.heap.size+1) 1 (.int .i64 m.bal);have b:(W4.setCell ⟨W.heap.size+1,1,none⟩ (.int .i64 m.bal)).heap[W.heap.size+1]?=some (.cells (rwL {r with prom:=m.bal}).toArray 58 (0,0)):=dD d.out.br 1 (.int .i64 m.bal);have c0:=a.kept d.out.ba (by omega);have B:=a.kept d.out.bx (by omega);generalize z:W4.setCell ⟨W.heap.size+1,1,none⟩ (.int .i64 m.bal)=s at*;have X:=cN z;have HQ:=cN hq;have f:=cN (aLm b c0 B);have Q:=cN ((d.out.ch.nos:Chg (fun x=>x=W.heap.size+1) W W4).trans a (fun _ _ h=>h));have r2:=cO b 2 _ rfl;clear I J H k F z a b c0 B hq;go_enter func169,ntmps169;go_wp2_with (first|rw[K.out]|rw[S.out]|rw[Z.out]|rw[a0.out]|rw[X.out]);clear n p A;rw[←HQ.out];refine rlx [1,0,1,0,1,0,0,2] (fun x=>x.cell? ⟨W.heap.size+1,2,none⟩=some (.int .i64 r.acc)∧(∀j y,(rwL {r with prom:=m.bal})[j]?=some y→x.cell? ((⟨W.heap.size+1,0,none⟩:Addr).add j)=some y)∧(∀j y,(vlL (oP r))[j]?=some y→x.cell? ((⟨W.heap.size+1,3,none⟩:Addr).add j)=some y)) (by kernel_rfl) (fun _ _ _ _=>rfl) ?_ ?_
   ·exact⟨r2,cR (W:=s.drew) f.out.1,eL (W:=s.drew) f.out.1 3 _ (aC7 {r with prom:=m.bal})⟩
   simp only[dC,dB];refine dA (v:=rwV {r with prom:=m.bal}) rfl (fun x hx=>cU 58 _ rfl ⟨W.heap.size+1,0,none⟩ rfl (rwL {r with prom:=m.bal}) _ hx.2.1 underlying58 rfl (by kernel_rfl)) ?_;iterate 3 (apply sB rfl rfl;·(intro x h;(try have h:=h rfl);(try dsimp only at h);go_simp;with_reducible rfl))
   try simp only[pA]
   refine dA (v:=vlV (oP r)) rfl (fun x hx=>cU 56 _ rfl ⟨W.heap.size+1,3,none⟩ rfl (vlL (oP r)) _ hx.2.2 underlying56 rfl (by kernel_rfl)) ?_;iterate 2 (apply sB rfl rfl;·(intro x h;(try have h:=h rfl);(try dsimp only at h);go_simp;with_reducible rfl))
   try simp only[pA]
   refine dI rfl (fun C hC=>?_);refine eM 58 _ _ rfl (W.heap.size+2) 0 58 _ _ (rwL {r with prom:=m.bal}) rfl rfl (show s.drew.heap[W.heap.size+2]?=_ from f.out.2.1) (by kernel_rfl) (by simp[Value.oneCell']) (by simp) rfl ?_;intro W6 c T t;have i:=c.kept (show s.drew.heap[W.heap.size+1]?=_ from f.out.1) (by omega);refine hC _ _ ⟨cO i 2 _ rfl,cR i,eL i 3 _ (aC7 {r with prom:=m.bal})⟩ ?_;clear hC C;refine cP ?_;have a9:=c.kept (show s.drew.heap[W.heap.size+3]?=_ from f.out.2.2) (by omega);have g:=cN (aLl t a9);have M:=cN (((Q.out.mono (fun _ _ h=>Or.inl h):Chg (fun x=>x=W.heap.size+1∨x=W.heap.size+2) W s).drew).trans c (fun _ _ h=>Or.inr h));clear c T t i a9 m4 r1 m0 z1 r2;(try simp only[pA]);go_wp2_with (first|(refine cV rfl 66 _ _ rfl (W.heap.size+3) 0 66 _ _ (mgL {zMg with kind:=2,base:=r.acc,val:=oP r}) rfl rfl g.out.2 (by kernel_rfl) (by simp[Value.oneCell']) (by simp) rfl ?_;intro W7 o U u;refine cQ ?_));have a6:=o.kept g.out.1 (by omega);have a4:=cN (aLl a6 u);have N:Hid (Chg NoS W W7):=((M.out.mono (fun _ _ h=>Or.inl h):Chg (fun x=>(x=W.heap.size+1∨x=W.heap.size+2)∨x=W.heap.size+3) W W6).trans o (fun _ _ h=>Or.inr h)).mono (fun x hx h=>by omega);clear o U u a6;refine cN ?_;go_wp2_with fail;exact bodyPost_ret (uJ _ results169 _ (W.heap.size+2) (W.heap.size+3) {r with prom:=m.bal} {zMg with kind:=2,base:=r.acc,val:=oP r} q _ rfl rfl rfl a4.out.1 a4.out.2) rfl ⟨rfl,N.out⟩
  ·have I:iT m r=⟨r.lock,m.bal,m.bal,m.val.own,m.val.tok,m.val.ttl,m.val.seq⟩:=(if_neg k).trans (if_neg F);have J:jX m r={zMg with kind:=4}:=(if_neg k).trans (if_neg F);have H:mN m r=true:=(if_neg k).trans (if_neg F);rw[I,J,H];have hk:(m.kind==1)=false:=by simp[F]
   have m0:=cO d.out.bm 0 _ rfl;clear I J H k F;go_enter func169,ntmps169;go_wp2_with (first|rw[K.out]|rw[S.out]|rw[Z.out]|rw[a0.out]);clear n p A;have HM:Hid (∀x,Chg (fun y=>y=W.heap.size+1) W4 x→x.cell? ⟨W.heap.size,4,none⟩=some (.int .i64 m.bal)∧∀j y,(vlL m.val)[j]?=some y→x.cell? ((⟨W.heap.size,6,none⟩:Addr).add j)=some y):=fun x hx=>by
    have hb:=hx.kept d.out.bm (by omega);exact⟨cO hb 4 _ rfl,eL hb 6 _ (aCI m)⟩
   refine rlx [0,1,0,1,0,1,0,2,0,2,0] (fun x=>x.cell? ⟨W.heap.size,4,none⟩=some (.int .i64 m.bal)∧∀j y,(vlL m.val)[j]?=some y→x.cell? ((⟨W.heap.size,6,none⟩:Addr).add j)=some y) (by kernel_rfl) (fun _ _ _ _=>rfl) ?_ ?_
   ·exact HM.out _ (Chg.refl _ W4).drew
   simp only[dC,dB];iterate 5 (apply sB rfl rfl;·(intro x h;(try have h:=h rfl);(try dsimp only at h);go_simp;with_reducible rfl))
   try simp only[pA]
   refine dA (v:=vlV m.val) rfl (fun x hx=>cU 56 _ rfl ⟨W.heap.size,6,none⟩ rfl (vlL m.val) _ hx.2 underlying56 rfl (by kernel_rfl)) ?_;iterate 1 (apply sB rfl rfl;·(intro x h;(try have h:=h rfl);(try dsimp only at h);go_simp;with_reducible rfl))
   try simp only[pA]
   have r1:=cO d.out.drew.br 1 _ rfl;have z1:=cX d.out.drew.br 1;have a:=cY W4.drew (W.heap.size+1) 1 (.int .i64 m.bal);have b:(W4.drew.setCell ⟨W.heap.size+1,1,none⟩ (.int .i64 m.bal)).heap[W.heap.size+1]?=some (.cells (rwL {r with prom:=m.bal}).toArray 58 (0,0)):=dD d.out.drew.br 1 (.int .i64 m.bal);generalize z:W4.drew.setCell ⟨W.heap.size+1,1,none⟩ (.int .i64 m.bal)=s at*;have X:=cN z;have D:=a.of_drew;refine dI rfl (fun C hC=>?_);go_simp;try rw[X.out]
   refine hC _ _ (HM.out _ D) ?_;clear hC C;iterate 1 (apply sB rfl rfl;·(intro x h;(try have h:=h rfl);(try dsimp only at h);go_simp;with_reducible rfl))
   try simp only[pA]
   have r2:=cO b 2 _ rfl;have z2:=cX b 2;have c:=cY s (W.heap.size+1) 2 (.int .i64 m.bal);have i:(s.setCell ⟨W.heap.size+1,2,none⟩ (.int .i64 m.bal)).heap[W.heap.size+1]?=some (.cells (rwL {r with prom:=m.bal,acc:=m.bal}).toArray 58 (0,0)):=dD b 2 (.int .i64 m.bal);generalize b4:s.setCell ⟨W.heap.size+1,2,none⟩ (.int .i64 m.bal)=W6 at*;have c4:=cN b4;have E:=D.trans c (fun _ _ h=>h);refine dI rfl (fun C hC=>?_);go_simp;try rw[c4.out]
   refine hC _ _ (HM.out _ E) ?_;clear hC C;iterate 1 (apply sB rfl rfl;·(intro x h;(try have h:=h rfl);(try dsimp only at h);go_simp;with_reducible rfl))
   refine cP ?_;try simp only[pA]
   have g:=cN i;have c1:=cN E;clear a b z D r1 z1 r2 z2 c i b4 E m4 m0;go_wp2_with (first|(refine cV rfl 56 _ _ rfl (W.heap.size+1) 3 58 _ _ (rwL ⟨r.lock,m.bal,m.bal,m.val.own,m.val.tok,m.val.ttl,m.val.seq⟩) rfl rfl g.out (by kernel_rfl) (by simp[Value.oneCell']) (by simp) rfl ?_;intro W7 o U u;refine cQ ?_));have l:=c1.out.trans o (fun _ _ h=>h);have c6:=cN (cR u);have a5:=cN (aLl (l.kept d.out.ba (by omega)) (l.kept d.out.bx (by omega)));have N:=cN ((d.out.ch.nos:Chg (fun x=>x=W.heap.size+1) W W4).trans l (fun _ _ h=>h));clear o U u l;refine cN ?_;go_wp2_with (first|(refine cW rfl 58 _ rfl ⟨W.heap.size+1,0,none⟩ rfl (rwL ⟨r.lock,m.bal,m.bal,m.val.own,m.val.tok,m.val.ttl,m.val.seq⟩) _ c6.out underlying58 rfl (by kernel_rfl) ?_)|(refine cV rfl 58 _ _ rfl (W.heap.size+2) 0 58 _ _ (rwL ⟨r.lock,m.bal,m.bal,m.val.own,m.val.tok,m.val.ttl,m.val.seq⟩) rfl rfl a5.out.1 (by kernel_rfl) (by simp[Value.oneCell']) (by simp) rfl ?_;intro W8 O c8 b9;refine cQ ?_));have a8:=O.kept a5.out.2 (by omega);have b8:=cN (aLl b9 a8);have c5:=cN ((N.out.mono (fun _ _ h=>Or.inl h):Chg (fun x=>x=W.heap.size+1∨x=W.heap.size+2) W W7).trans O (fun _ _ h=>Or.inr h));clear O c8 b9 a8;refine cN ?_;go_wp2_with (first|(refine cV rfl 66 _ _ rfl (W.heap.size+3) 0 66 _ _ (mgL {zMg with kind:=4}) rfl rfl b8.out.2 (by kernel_rfl) (by simp[Value.oneCell']) (by simp) rfl ?_;intro W9 V c3 a3;refine cQ ?_));have b5:=V.kept b8.out.1 (by omega);have a1:=cN (aLl b5 a3)
   have c7:Hid (Chg NoS W W9):=((c5.out.mono (fun _ _ h=>Or.inl h):Chg (fun x=>(x=W.heap.size+1∨x=W.heap.size+2)∨x=W.heap.size+3) W W8).trans V (fun _ _ h=>Or.inr h)).mono (fun x hx h=>by omega);clear V c3 a3 b5;refine cN ?_;go_wp2_with fail;exact bodyPost_ret (uJ _ results169 _ (W.heap.size+2) (W.heap.size+3) ⟨r.lock,m.bal,m.bal,m.val.own,m.val.tok,m.val.ttl,m.val.seq⟩ {zMg with kind:=4} true _ rfl rfl rfl a1.out.1 a1.out.2) rfl ⟨rfl,c7.out⟩
end
structure RwOk(r:Rw):Prop where
 l1:0≤r.lock
 l2:r.lock≤3
 p1:0≤r.prom
 p2:r.prom≤256255
 a1:0≤r.acc
 a2:r.acc≤r.prom
 v:VOk ⟨r.own,r.tok,r.ttl,r.seq⟩
theorem RwOk.ok{r:Rw}(h:RwOk r):okB r=true:=aKV (by
 have:=h.l1;have:=h.l2;have:=h.p1;have:=h.p2;have:=h.a1;have:=h.a2;have:=h.v.o1;have:=h.v.o2;have:=h.v.k1;have:=h.v.k2;have:=h.v.t1;have:=h.v.t2;have:=h.v.s1;have:=h.v.s2;dsimp only at*;omega)
structure DOk(f:Cf)(k:Dk):Prop where
 room:k.room=f.room
 by_:∀x ∈ k.log,0≤x∧x<256
 syn:k.lsyn=k.log.length
 len:(k.log.length:Int)≤f.room
 old:k.old=none
 fail:∀p,k.fail=some p→0≤p.1∧p.1≤9223372036854775807∧0≤p.2
 rows:∀r ∈ dO k.log,RwOk r
structure AOk(f:Cf)(i:Nat)(a:Ac):Prop where
 num:a.num=i
 comp:a.compact=f.compact
 st:a.st=0∨a.st=1∨a.st=2
 dk:DOk f a.dk
 new:a.st≠1→a.dk.new=none
 nofail:a.st=2→a.dk.fail=none
 tab:a.st≠2→∀k,dX a.rows k=dX (dO a.dk.log) k
 rows:∀r ∈ a.rows,RwOk r
 full:a.st=0→25*(dO a.dk.log).length=a.dk.log.length
section
variable {f:Cf}{i:Nat}{a:Ac}
theorem aGv(h:AOk f i a)(lock:Int)(h0:0≤lock)(h3:lock≤3):RwOk (qE a lock)∧(qE a lock).lock=lock:=by
 unfold qE;refine⟨?_,rfl⟩;cases hl:dX a.rows lock.toNat with
 |none=>exact⟨h0,h3,aL 0,(by decide:(0:Int)≤256255),aL 0,aL 0,aAY⟩
 |some r=>
  have b:=h.rows r (pY hl).1;exact⟨h0,h3,b.p1,b.p2,b.a1,b.a2,b.v⟩
theorem aCs{m:Mg}{r:Rw}(hm:MOk f m)(hr:RwOk r):RwOk (iT m r)∧(iT m r).lock=r.lock:=by
 have:=hm.b1;have:=hm.b2;have:=hr.p1;unfold iT;split
 ·exact⟨hr,rfl⟩
 ·split
  ·exact⟨⟨hr.l1,hr.l2,hm.b1,hm.b2,hr.a1,by show r.acc≤m.bal;have:=hr.a2;omega,hr.v⟩,rfl⟩
  ·exact⟨⟨hr.l1,hr.l2,hm.b1,hm.b2,hm.b1,aL _,hm.v⟩,rfl⟩
theorem aKy{m:Mg}{r:Rw}(hi:(i:Int)<2*f.f+1)(hn:a.num=i)(hm:MOk f m)(hA:m.kind=1∨m.kind=3)(hr:RwOk r):MOk f (mJ a (jX m r) m):=by
 have d:=hm.toA hA;have c:∀(k b:Int) (v:Vl),(k=2∨k=4∨k=5)→0≤b→b≤256255→VOk v→(k=4→b=0)→MOk f (mJ a {zMg with kind:=k,base:=b,val:=v} m):=fun k b v hk hb hb' hv h40=>
  ⟨by show 1≤k;omega,by show k≤5;omega,hm.l1,hm.l2,hm.b1,hm.b2,hb,hb',hv,by show 0≤a.num;omega,hm.s1,h40,fun h=>by exfalso;have:k=1∨k=3:=h;omega,fun _=>⟨by show a.num<_;omega,d.1⟩⟩
 unfold jX;split
 ·exact c 5 r.prom zVl (by omega) hr.p1 hr.p2 aAY (by omega)
 ·split
  ·exact c 2 r.acc ⟨r.own,r.tok,r.ttl,r.seq⟩ (by omega) hr.a1 (by have:=hr.a2;have:=hr.p2;omega) hr.v (by omega)
  ·exact c 4 0 zVl (by omega) (by decide) (by decide) aAY (fun _=>rfl)
theorem aDS(m:Mg):dJ [sentEv m]=[m]:=rfl
theorem aJ9{m:Mg}(h:MOk f m):EOk f [sentEv m]:=⟨fun x hx=>(by rw[aDS]at hx;simp at hx;subst hx;exact h),by simp⟩
theorem kA{k k1:Dk}(h:fQ k=some k1)(hf:∀p,k.fail=some p→0≤p.1∧p.1≤9223372036854775807∧0≤p.2):
 (∃fl,k1={k with fail:=fl})∧∀p,k1.fail=some p→0≤p.1∧p.1≤9223372036854775807∧0≤p.2:=by
 unfold fQ at h;split at h
 ·rename_i hn;cases h;exact⟨⟨k.fail,rfl⟩,hf⟩
 ·rename_i n q hn;split at h
  ·cases h
  ·rename_i h0;cases h;have:=hf _ hn;refine⟨⟨_,rfl⟩,fun p hp=>?_⟩;cases hp;dsimp only at*;omega
theorem jB{k:Dk}(h:fQ k=none):∃q,k.fail=some (0,q)∧iP k=q:=by
 unfold fQ at h;split at h
 ·cases h
 ·rename_i n q a;split at h
  ·rename_i b;subst b;exact⟨q,a,by unfold iP;rw[a]⟩
  ·cases h
theorem aID{t:List Int}{q:Int}(hq:0≤q):wI t t.length q=t:=by
 unfold wI;rw[aY];omega
theorem aBS{k:Dk}(hsyn:(fC k).2=(fC k).1.length){q:Int}(hq:0≤q):fM k q={k with log:=(fC k).1,lsyn:=(fC k).1.length,new:=none,old:=none,fail:=none}:=by
 unfold fM;rw[hsyn,aID hq]
theorem rO{k:Dk}(h:DOk f k){q:Int}(hq:0≤q):DOk f (fM k q)∧(fM k q).log=k.log:=by
 have e:fC k=(k.log,k.lsyn):=by unfold fC;rw[h.old]
 have:=aBS (k:=k) (by rw[e];exact h.syn) hq;rw[this,e];exact⟨⟨h.room,h.by_,rfl,h.len,rfl,fun p hp=>(by cases hp),h.rows⟩,rfl⟩
theorem rH{q:Int}(hn:a.num=i)(hc:a.compact=f.compact)(h:DOk f (fM a.dk q)):AOk f i (crashA a q):=
 ⟨hn,hc,Or.inr (Or.inr rfl),h,fun _=>rfl,fun _=>rfl,fun h=>absurd rfl h,fun r hr=>(by cases hr),fun h=>absurd (show(2:Int)=0 from h) (by decide)⟩
def vY(f:Cf)(k:Dk):Prop:=0≤(fC k).2∧(fC k).2≤((fC k).1.length:Int)∧((fC k).1.length:Int)≤f.room
theorem vI{k k1:Dk}(h:DOk f k)(he:fC k1=(k.log,k.lsyn)):vY f k1:=by
 have b:=h.syn;have a:=h.len;unfold vY;rw[he];dsimp only;omega
theorem aIn{k:Dk}(h:DOk f k)(hnew:k.new=none)(hfull:25*(dO k.log).length=k.log.length){r:Rw}(hr:RwOk r):
 (∃fl,lZ k (dW r)=({k with fail:=fl,log:=k.log++dW r,lsyn:=(k.log++dW r).length},.none)∧DOk f {k with fail:=fl,log:=k.log++dW r,lsyn:=(k.log++dW r).length})∨
 (∃fl,lZ k (dW r)=({k with fail:=fl},(.some .none))∧DOk f {k with fail:=fl})∨
 (∃k1 q,lZ k (dW r)=(k1,(.some (.some q)))∧0≤q∧vY f k1∧DOk f (fM k1 q)∧∃p,p.length≤25∧p=(dW r).take p.length∧(fM k1 q).log=k.log++p):=by
 unfold lZ eP dZ;have hrl:=pI hr.ok;have hx:∀fl,(∀p,fl=some p→0≤p.1∧p.1≤9223372036854775807∧0≤p.2)→DOk f {k with fail:=fl}:=fun fl hfl=>⟨h.room,h.by_,h.syn,h.len,h.old,hfl,h.rows⟩;cases h1:fQ k with
 |none=>
  obtain⟨q,hq,hk⟩:=jB h1;have hq0:0≤q:=(h.fail _ hq).2.2;obtain⟨c1,c2⟩:=rO h hq0;exact Or.inr (Or.inr ⟨k,q,by simp[iG,hk],hq0,vI h (by unfold fC;rw[h.old]),c1,[],by simp,rfl,by simpa using c2⟩)
 |some k1=>
  obtain⟨⟨fl,rfl⟩,hfl⟩:=kA h1 h.fail;dsimp only;have hu:jQ {k with fail:=fl}=k.log.length:=by unfold jQ iD;dsimp only;rw[hnew];simp
  have hrm:=h.room;rw[hu,hrl];by_cases h2:k.room<(k.log.length:Int)+((25:Nat):Int)
  ·rw[if_pos h2];exact Or.inr (Or.inl ⟨fl,rfl,hx fl hfl⟩)
  ·rw[if_neg h2];dsimp only[iG];dsimp only[lL];have hrows:∀x ∈ dO (k.log++dW r),RwOk x:=fun x hx=>by
    rw[wN hfull hr.ok]at hx;rcases aO.1 hx with hx|hx
    ·exact h.rows x hx
    ·simp at hx;subst hx;exact hr
   have hby:∀x ∈ k.log++dW r,0≤x∧x<256:=fun x hx=>(aO.1 hx).elim (h.by_ x) (pE r x);cases h3:fQ {k with fail:=fl,log:=k.log++dW r}with
   |none=>
    obtain⟨q,hq,hk⟩:=jB h3;have hq0:0≤q:=(hfl _ hq).2.2;have hl:fC ({k with fail:=fl,log:=k.log++dW r}:Dk)=(k.log++dW r,k.lsyn):=by unfold fC;dsimp only;rw[h.old]
    have hcut:wI (k.log++dW r) k.lsyn q=k.log++(dW r).take (min q 25).toNat:=by
     unfold wI;rw[h.syn,aD,hrl,show((k.log.length:Int)+min q (((k.log.length+25:Nat):Int)-(k.log.length:Int))).toNat=k.log.length+(min q 25).toNat by omega,List.take_append,aY (by omega)];simp
    have hpl:((dW r).take (min q 25).toNat).length=(min q 25).toNat:=by rw[bD,hrl];omega
    refine Or.inr (Or.inr ⟨{k with fail:=fl,log:=k.log++dW r},q,by rw[hk],hq0,?_,?_,(dW r).take (min q 25).toNat,by omega,by rw[hpl],?_⟩)
    ·unfold vY;rw[hl];have h5:=h.syn;have h6:=h.len;dsimp only;rw[aD,hrl];omega
    ·unfold fM;rw[hl];dsimp only;rw[hcut];refine⟨h.room,fun x hx=>?_,rfl,?_,rfl,fun p hp=>(by cases hp),fun x hx=>?_⟩
     ·rcases aO.1 hx with hx|hx
      ·exact h.by_ x hx
      ·exact pE r x (List.mem_of_mem_take hx)
     ·rw[aD,hpl];omega
     ·by_cases hq25:25≤q
      ·rw[show(min q 25).toNat=25 by omega,aY (by omega)]at hx;exact hrows x hx
      ·rw[aFA hfull (by omega)]at hx;exact h.rows x hx
    ·unfold fM;rw[hl];exact hcut
   |some k2=>
    obtain⟨⟨fl2,rfl⟩,hfl2⟩:=kA h3 (by exact hfl);refine Or.inl ⟨fl2,rfl,h.room,hby,rfl,?_,h.old,hfl2,hrows⟩;rw[aD,hrl];omega
end
section
open Go.RowKit Go.Maps
section
variable (W:World) (F:Nat→Prop) (b g:Nat) (a:Ac)
theorem aAP(h:Acc W F b g a):
 Calls prog 60 #[.pointer (some ⟨b,0,none⟩)] W fun e W'=>e= .returned (.string (strOfNums a.dk.log))∧W'=W:=by
 obtain⟨c,d,i,h,_,_⟩:=h;have k:=h.cell 2 _ rfl;have f:=cN (aIS W c d a.dk h.disk);clear h;go_enter func60,ntmps60;go_wp2_with (go_at_call 96;refine f.out.mono ?_;rintro e j ⟨rfl,rfl⟩);go_ret;exact⟨rfl,rfl⟩
theorem aA2(h:Acc W F b g a)(hl:(a.dk.log.length:Int)≤1000000000000):
 Calls prog 173 #[.pointer (some ⟨b,0,none⟩)] W fun e W'=>e= .returned (.bool (mD a))∧W'=W.drew:=by
 have c:Hid (∀x,x=W.drew→Calls prog 60 #[.pointer (some ⟨b,0,none⟩)] x fun e w'=>e= .returned (.string (strOfNums a.dk.log))∧w'=x):=fun x hx=>by
  subst hx;exact aAP W.drew F b g a (h.kept (Chg.refl NoS W).drew (fun _ _ h=>h))
 obtain⟨m,d,l,h,_,_⟩:=h;have n:=h.cell 1 _ rfl;have j:=kI a.dk.log;have i:((a.dk.log.length:Int)).tdiv 25=(a.dk.log.length:Int) / 25:=Int.tdiv_eq_ediv_of_nonneg (by omega);have k:IntKind.i64.wrap ((a.dk.log.length:Int) / 25)=(a.dk.log.length:Int) / 25:=fX (by omega) (by omega);clear h;unfold mD;go_enter func173,ntmps173;go_wp2_with fail;refine eD [0,1,1,0,0,0,0,1,0,0] (by kernel_rfl) (fun _ _ _ _=>rfl) ?_;simp only[dC,dB];iterate 1 (apply sB rfl rfl;·(intro x h;(try cases h rfl);go_simp;with_reducible rfl))
 try simp only[pA]
 refine eW (v:=.string (strOfNums a.dk.log)) (f:=60) (args:=#[.pointer (some ⟨b,0,none⟩)]) rfl (fun x hx=>by subst hx;go_simp;try rfl) (fun x hx=>c.out x hx) ?_;(try simp only[pA]);iterate 8 (apply sB rfl rfl;·(intro x h;(try cases h rfl);go_simp;with_reducible rfl))
 refine cP ?_;try simp only[pA]
 go_wp2_with fail;go_ret;exact⟨by first|rfl|simp,rfl⟩
end
end
end Go.Proofs.YtbbdgokdfhdpiaaGreatDoor
