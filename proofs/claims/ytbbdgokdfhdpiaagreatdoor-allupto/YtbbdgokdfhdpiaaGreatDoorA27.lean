/- A part of the proof: PAc3. -/
import Derived.Test.YtbbdgokdfhdpiaaGreatDoorA2
import Derived.Test.YtbbdgokdfhdpiaaGreatDoorA18
import Derived.Test.YtbbdgokdfhdpiaaGreatDoorA22
namespace Go.Proofs.YtbbdgokdfhdpiaaGreatDoor
set_option linter.all false
set_option maxRecDepth 100000
set_option maxHeartbeats 40000000
open Go.Proofs.Tryz Go.RowKit
section
open Go.RowKit Go.Maps
theorem aAq(a b:ByteArray):Lib.strCells (a++b)=Lib.strCells a++Lib.strCells b:=by
 simp[Lib.strCells,ByteArray.data_append]
theorem aIJ{w:World}{base:Nat}{e:TypeId}{size:Nat}{v:Value}{n:Nat}{xs:List Value}(h:w.ownsRow base e size v n xs):∃p cap,v= .slice p n cap∧(0<n→∃g cur,p=some ⟨g,0,none⟩∧base≤g∧w.heap[g]?=some (.cells cur e (0,0))):=by
 rcases nI h with⟨rfl,rfl⟩|⟨g,cap,cur,rfl,a,b⟩
 ·exact⟨none,0,rfl,fun h=>absurd h (by omega)⟩
 ·exact⟨some ⟨g,0,none⟩,cap,rfl,fun _=>⟨g,cur,rfl,a,b⟩⟩
theorem aI8{W:World}{base g n cap:Nat}{rs:List Rw}(h:W.ownsRow base 58 7 (.slice (some ⟨g,0,none⟩) n cap) n (cellsOf rs))(hn:n=rs.length)(i:Nat)(hi:i<rs.length):∀j y,(rwL rs[i])[j]?=some y→W.cell? ((⟨g,i*7,none⟩:Addr).add j)=some y:=by
 intro j y b;have e:(⟨g,i*7,none⟩:Addr).add j=⟨g,i*7+j,none⟩:=by unfold Addr.add;split<;>simp_all
 have a:j<7:=(aF.1 b).1;rw[e,h.cellAt (i*7+j) (by omega),uS rs i hi j a];exact b
theorem aCt(rs:List Rw):(eG rs 4).length≤4:=by
 rw[wW];exact oV rs
theorem zH(W:World)(F:Nat→Prop)(b g:Nat)(a:Ac)(h:Acc W F b g a)(hok:xN a):
 Calls prog 199 #[.pointer (some ⟨b,0,none⟩)] W fun e W'=>e= .returned (.string (strOfNums (eZ a.rows)))∧Chg NoS W W':=by
 obtain⟨FD,d,tb,h,c9,a3⟩:=h;have J:Chg NoS W (W.alloc (.cells #[.pointer none,.slice none 0 0] 312)):=(Chg.refl _ _).alloc _;have M:(W.alloc (.cells #[.pointer none,.slice none 0 0] 312)).heap[W.heap.size]?=some (.cells #[.pointer none,.slice none 0 0] 312 (0,0)):=aA W _;have X:(W.alloc (.cells #[.pointer none,.slice none 0 0] 312)).heap.size=W.heap.size+1:=by simp
 generalize R:W.alloc (.cells #[.pointer none,.slice none 0 0] 312)=W0 at*;have c7:=cN R;have h0:=h.kept J (fun _ _ h=>h);have c3:=h0.cell 3 _ rfl;have K:=cN (qT tb 4 a.rows W0 h0.table hok.lk);have d3:=cN J;have b8:=cN M;have b1:=cN X;have Q:=aCt a.rows;obtain⟨T,hT⟩:=aLw (eG a.rows 4);have eT:eZ a.rows=T.flatMap dW:=by rw[hT];rfl
 rw[eT];rw[←hT]at Q;have HT:=cN hT;clear eT hT R h0 h c9 a3 hok J M X;go_enter func199,ntmps199;go_wp2_with (first|rw[c7.out]|(go_at_call 62;refine K.out.mono ?_;rintro e W1 ⟨v,rfl,f,c⟩;obtain⟨pv,b5,rfl,A⟩:=aIJ f;refine cQ ?_));rw[←HT.out]at f A⊢;obtain⟨n,hn⟩:=aLw (T.length);rw[←hn]at f A⊢Q;have B:=cN hn;have a0:=(Chg.below' c).kept b8.out (fun h=>h);have Z:=d3.out.trans (S:=NoS) (Chg.below' c) (fun _ _ h=>h);have E:BldAt W.heap.size W1 W.heap.size (.slice none 0 0) (Lib.strCells (strOfNums ((T.take 0).flatMap dW))):=⟨⟨_,Or.inl rfl,a0⟩,⟨rfl,Or.inl ⟨rfl,rfl⟩⟩,(by intro h;cases h),aE _⟩;have a9:=cN f;have b0:=cN E;have c1:=cN Z;have b9:=cN A;have D:W.heap.size+1≤W1.heap.size:=by have:=(Chg.below' c).size;have:=b1.out;omega
 have d6:=cN D;clear hn f A a0 Z E c c3 D;refine cN ?_;go_wp2_with fail;go_loopw [12] (fun i wr=>∃(k:Nat) (bv:Value),k≤n∧i= .int .i64 k∧BldAt W.heap.size wr W.heap.size bv (Lib.strCells (strOfNums ((T.take k).flatMap dW)))∧wr.ownsRow W0.heap.size 58 7 (.slice pv n b5) n (cellsOf T)∧Chg NoS W wr) (fun i _=>n-(intOf i).toNat)
 case atStart=>exact⟨0,_,aI _,rfl,b0.out,a9.out,c1.out⟩
 case round=>
  obtain⟨k,bv,hk,rfl,a2,f,a4⟩:=hrel;have o:=cN a2;have U:=cN f;have z:=cN a4;clear a2 f a4;by_cases a3:k<n
  ·have c2:(k:Int)<(n:Int):=by omega
   obtain⟨g',d7,rfl,d8,_⟩:=b9.out (by omega);have V:k<T.length:=by have:=B.out;omega
   obtain⟨r,hr⟩:=aLw (T[k]);have HR:Hid (T.take (k+1)=T.take k++[r]):=by
    show _=_;rw[hr,List.take_succ_eq_append_getElem V]
   have L:Hid (∀j y,(rwL r)[j]?=some y→wr.cell? ((⟨g',k*7,none⟩:Addr).add j)=some y):=by
    rw[hr];exact aI8 U.out B.out k V
   clear hr;go_wp2_with (first|(refine cW rfl 58 _ rfl ⟨g',k*7,none⟩ rfl (rwL r) _ L.out underlying58 rfl (by kernel_rfl) ?_;refine cQ ?_));have a5:=aA wr (.cells #[.int .i64 0,.int .i64 0,.int .i64 0,.int .i64 0,.int .i64 0,.int .i64 0,.int .i64 0] 58);have P:Chg NoS wr (wr.alloc (.cells #[.int .i64 0,.int .i64 0,.int .i64 0,.int .i64 0,.int .i64 0,.int .i64 0,.int .i64 0] 58)):=(Chg.refl _ _).alloc _;generalize Y:wr.alloc (.cells #[.int .i64 0,.int .i64 0,.int .i64 0,.int .i64 0,.int .i64 0,.int .i64 0,.int .i64 0] 58)=W2 at*;have c5:=cN Y;have d1:=cN P;clear Y P;refine cN ?_;go_wp2_with (first|rw[c5.out]|(refine cV rfl 58 _ _ rfl wr.heap.size 0 58 _ _ (rwL r) rfl rfl a5 (by kernel_rfl) (by simp[Value.oneCell']) (by simp) rfl ?_;intro W3 a7 c6 O;refine cQ ?_));have C:=d1.out.trans (S:=NoS) a7 (fun x hx e=>by omega);have b7:=cN (cR O);have b3:=cN C;have b4:Hid (Calls prog 100 #[rwV r] W3 fun e w'=>e= .returned (.string (strOfNums (dW r)))∧Below W3.heap.size W3 w'):=aCP r W3;clear a7 c6 O a5 C;refine cN ?_;go_wp2_with (first|(refine cW rfl 58 _ rfl ⟨wr.heap.size,0,none⟩ rfl (rwL r) _ b7.out underlying58 rfl (by kernel_rfl) ?_)|(go_at_call 100;refine b4.out.mono ?_;rintro e W4 ⟨rfl,c⟩;refine cQ ?_));have m:=b3.out.trans (S:=NoS) (Chg.below' c) (fun _ _ h=>h);have t:BldAt W.heap.size W4 W.heap.size bv (Lib.strCells (strOfNums ((T.take k).flatMap dW))):=by
    obtain⟨p,hp,hb⟩:=o.out.blk;exact⟨⟨p,hp,m.kept hb (fun h=>h)⟩,m.row o.out.own (fun _ _ h=>h),o.out.ne,o.out.hB⟩
   have d2:=tX (T.take k);have b2:(T.take k).length≤4:=by rw[bD];have:=B.out;omega
   have c4:=oE r;have d4:=cN (aAp W.heap.size W.heap.size bv (Lib.strCells (strOfNums ((T.take k).flatMap dW))) (strOfNums (dW r)) W4 t (by rw[Lib.strCells_length,dU,dU];omega) (by have:=z.out.size;have:=m.size;omega));have N:=cN m;have s:=cN t;clear m t d2 b2 c4 c;refine cN ?_;go_wp2_with (first|(go_at_call 222;refine d4.out.mono ?_;rintro e W5 ⟨rfl,a1,G,I⟩;refine cQ ?_));have w:BldAt W.heap.size W5 W.heap.size a1 (Lib.strCells (strOfNums ((T.take (k+1)).flatMap dW))):=by
    rw[HR.out,List.flatMap_append,←fT,aAq];simpa using G
   have l:=N.out.row U.out (fun _ _ h=>h);have u:=I.row l (fun q hq h=>by
    rcases h with h|h
    ·obtain⟨p,_,hb⟩:=s.out.blk;exact fN l hb (by decide) q hq h
    ·exact nT l s.out.own (by decide) q hq h)
   have H:Chg NoS W W5:=by
    refine(z.out.trans (S:=NoS) N.out (fun _ _ h=>h)).trans I (fun x hx h=>?_);rcases h with h|h
    ·omega
    ·have:=(s.out.own.lt x h).1;omega
   have d0:=cN w;have b6:=cN u;have d5:=cN H;clear G I w l u H;refine cN ?_;go_wp2_with fail;go_roundw
   case rel=>exact⟨k+1,a1,by omega,by go_num,d0.out,b6.out,d5.out⟩
   case measure=>simp[intOf];omega
  ·have c2:¬(k:Int)<(n:Int):=by omega
   have c8:k=n:=by omega
   subst c8;have a6:T.take k=T:=aY (by have:=B.out;omega);have a8:=cN (Builder_String_any W.heap.size W.heap.size (strOfNums (T.flatMap dW)).data.toList wr (by have:=o.out.is;rw[a6]at this;exact this) z.out.size);clear a6;go_wp2_with (first|(go_at_call 223;refine a8.out.mono ?_;rintro e W5 ⟨rfl,c⟩;refine cQ ?_));have c0:=cN (z.out.trans (S:=NoS) (⟨c.os,c.tape,c.output,c.size,fun x hx hn=>c.block x (by omega)⟩:Chg (fun x=>W.heap.size≤x) wr W5) (fun x hx h=>by omega));clear c;refine cN ?_;go_wp2_with fail;go_ret;exact⟨rfl,c0.out⟩
end
end Go.Proofs.YtbbdgokdfhdpiaaGreatDoor
