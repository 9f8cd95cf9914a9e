/- A part. -/
import Derived.Test.YtbbdgokdfhdpiaaGreatDoorA2
import Derived.Test.YtbbdgokdfhdpiaaGreatDoorA18
namespace Go.Proofs.YtbbdgokdfhdpiaaGreatDoor
set_option linter.all false
set_option maxRecDepth 100000
set_option maxHeartbeats 0
open Go.Proofs.Tryz Go.RowKit
section
open Go.Maps
theorem aAw(a b:ByteArray):Lib.strCells (a++b)=Lib.strCells a++Lib.strCells b:=by
 simp[Lib.strCells,ByteArray.data_append]
theorem aIx{w:World}{base:Nat}{e:TypeId}{size:Nat}{v:Value}{n:Nat}{xs:List Value}(h:w.ownsRow base e size v n xs):∃p cap,v= .slice p n cap∧(0<n→∃g cur,p=some ⟨g,0,none⟩∧base≤g∧w.heap[g]?=some (.cells cur e (0,0))):=by
 rcases nN h with⟨rfl,rfl⟩|⟨g,cap,cur,rfl,b,a⟩
 ·exact⟨none,0,rfl,fun h=>absurd h (by omega)⟩
 ·exact⟨some ⟨g,0,none⟩,cap,rfl,fun _=>⟨g,cur,rfl,b,a⟩⟩
theorem aJo{W:World}{base g n cap:Nat}{rs:List Rw}(h:W.ownsRow base 58 7 (.slice (some ⟨g,0,none⟩) n cap) n (cellsOf rs))(hn:n=rs.length)(i:Nat)(hi:i<rs.length):∀j y,(rwL rs[i])[j]?=some y→W.cell? ((⟨g,i*7,none⟩:Addr).add j)=some y:=by
 intro j y b;have e:(⟨g,i*7,none⟩:Addr).add j=⟨g,i*7+j,none⟩:=by unfold Addr.add;split<;>simp_all
 have a:j<7:=(aF.1 b).1;rw[e,h.cellAt (i*7+j) (by omega),uH rs i hi j a];exact b
theorem aCh(rs:List Rw):(eG rs 4).length≤4:=by
 rw[wH];exact oP rs
theorem zD(r:Rw):(dW r).length≤25:=by
 unfold dW;split
 ·rw[oC];omega
 ·simp
theorem zM:∀rs:List Rw,(rs.flatMap dW).length≤25*rs.length
 |[]=>by simp
 |r::rs=>by
  have:=zM rs;have:=zD r;simp only[List.flatMap_cons,aD,bI];omega
theorem zS(W:World)(F:Nat→Prop)(b g:Nat)(a:Ac)(h:Acc W F b g a)(hok:yA a):
 Calls prog 199 #[.pointer (some ⟨b,0,none⟩)] W fun e W'=>e= .returned (.string (strOfNums (fA a.rows)))∧Chg NoS W W':=by
 obtain⟨FD,d,tb,h,d5,O⟩:=h;have I:Chg NoS W (W.alloc (.cells #[.pointer none,.slice none 0 0] 312)):=(Chg.refl _ _).alloc _;have R:(W.alloc (.cells #[.pointer none,.slice none 0 0] 312)).heap[W.heap.size]?=some (.cells #[.pointer none,.slice none 0 0] 312 (0,0)):=aA W _;have Q:(W.alloc (.cells #[.pointer none,.slice none 0 0] 312)).heap.size=W.heap.size+1:=by simp
 generalize a3:W.alloc (.cells #[.pointer none,.slice none 0 0] 312)=W0 at*;have c7:=cN a3;have h0:=h.kept I (fun _ _ h=>h);have c3:=h0.cell 3 _ rfl;have L:=cN (qW tb 4 a.rows W0 h0.table hok.lk);have b6:=cN I;have c6:=cN R;have b4:=cN Q;have a2:=aCh a.rows;obtain⟨T,hT⟩:=aLz (eG a.rows 4);have eT:fA a.rows=T.flatMap dW:=by rw[hT];rfl
 rw[eT];rw[←hT]at a2;have HT:=cN hT;clear eT hT a3 h0 h d5 O hok I R Q;go_enter func199,ntmps199;go_wp2_with (first|rw[c7.out]|(go_at_call 62;refine L.out.mono ?_;rintro e W1 ⟨v,rfl,f,c⟩;obtain⟨pv,d4,rfl,B⟩:=aIx f;refine cQ ?_));rw[←HT.out]at f B⊢;obtain⟨n,hn⟩:=aLz (T.length);rw[←hn]at f B⊢a2;have z:=cN hn;have a6:=(Chg.below' c).kept c6.out (fun h=>h);have a7:=b6.out.trans (S:=NoS) (Chg.below' c) (fun _ _ h=>h);have G:BldAt W.heap.size W1 W.heap.size (.slice none 0 0) (Lib.strCells (strOfNums ((T.take 0).flatMap dW))):=⟨⟨_,Or.inl rfl,a6⟩,⟨rfl,Or.inl ⟨rfl,rfl⟩⟩,(by intro h;cases h),aE _⟩;have a9:=cN f;have a8:=cN G;have b9:=cN a7;have c9:=cN B;have E:W.heap.size+1≤W1.heap.size:=by have:=(Chg.below' c).size;have:=b4.out;omega
 have d6:=cN E;clear hn f B a6 a7 G c c3 E;refine cN ?_;go_wp2_with fail;go_loopw [12] (fun i wr=>∃(k:Nat) (bv:Value),k≤n∧i= .int .i64 k∧BldAt W.heap.size wr W.heap.size bv (Lib.strCells (strOfNums ((T.take k).flatMap dW)))∧wr.ownsRow W0.heap.size 58 7 (.slice pv n d4) n (cellsOf T)∧Chg NoS W wr) (fun i _=>n-(intOf i).toNat)
 case atStart=>exact⟨0,_,aI _,rfl,a8.out,a9.out,b9.out⟩
 case round=>
  obtain⟨k,bv,hk,rfl,Y,f,a1⟩:=hrel;have m:=cN Y;have a0:=cN f;have A:=cN a1;clear Y f a1;by_cases O:k<n
  ·have b8:(k:Int)<(n:Int):=by omega
   obtain⟨g',d7,rfl,d8,_⟩:=c9.out (by omega);have Z:k<T.length:=by have:=z.out;omega
   obtain⟨r,hr⟩:=aLz (T[k]);have HR:Hid (T.take (k+1)=T.take k++[r]):=by
    show _=_;rw[hr,List.take_succ_eq_append_getElem Z]
   have K:Hid (∀j y,(rwL r)[j]?=some y→wr.cell? ((⟨g',k*7,none⟩:Addr).add j)=some y):=by
    rw[hr];exact aJo a0.out z.out k Z
   clear hr;go_wp2_with (first|(refine cW rfl 58 _ rfl ⟨g',k*7,none⟩ rfl (rwL r) _ K.out underlying58 rfl (by kernel_rfl) ?_;refine cQ ?_));have V:=aA wr (.cells #[.int .i64 0,.int .i64 0,.int .i64 0,.int .i64 0,.int .i64 0,.int .i64 0,.int .i64 0] 58);have U:Chg NoS wr (wr.alloc (.cells #[.int .i64 0,.int .i64 0,.int .i64 0,.int .i64 0,.int .i64 0,.int .i64 0,.int .i64 0] 58)):=(Chg.refl _ _).alloc _;generalize P:wr.alloc (.cells #[.int .i64 0,.int .i64 0,.int .i64 0,.int .i64 0,.int .i64 0,.int .i64 0,.int .i64 0] 58)=W2 at*;have d2:=cN P;have c2:=cN U;clear P U;refine cN ?_;go_wp2_with (first|rw[d2.out]|(refine cV rfl 58 _ _ rfl wr.heap.size 0 58 _ _ (rwL r) rfl rfl V (by kernel_rfl) (by simp[Value.oneCell']) (by simp) rfl ?_;intro W3 X b2 a4;refine cQ ?_));have H:=c2.out.trans (S:=NoS) X (fun x hx e=>by omega);have c5:=cN (cR a4);have c0:=cN H;have b5:Hid (Calls prog 100 #[rwV r] W3 fun e w'=>e= .returned (.string (strOfNums (dW r)))∧Below W3.heap.size W3 w'):=aCN r W3;clear X b2 a4 V H;refine cN ?_;go_wp2_with (first|(refine cW rfl 58 _ rfl ⟨wr.heap.size,0,none⟩ rfl (rwL r) _ c5.out underlying58 rfl (by kernel_rfl) ?_)|(go_at_call 100;refine b5.out.mono ?_;rintro e W4 ⟨rfl,c⟩;refine cQ ?_));have o:=c0.out.trans (S:=NoS) (Chg.below' c) (fun _ _ h=>h);have s:BldAt W.heap.size W4 W.heap.size bv (Lib.strCells (strOfNums ((T.take k).flatMap dW))):=by
    obtain⟨p,hp,hb⟩:=m.out.blk;exact⟨⟨p,hp,o.kept hb (fun h=>h)⟩,o.row m.out.own (fun _ _ h=>h),m.out.ne,m.out.hB⟩
   have c1:=zM (T.take k);have d1:(T.take k).length≤4:=by rw[bD];have:=z.out;omega
   have c4:=zD r;have b3:=cN (aAq W.heap.size W.heap.size bv (Lib.strCells (strOfNums ((T.take k).flatMap dW))) (strOfNums (dW r)) W4 s (by rw[Lib.strCells_length,dU,dU];omega) (by have:=A.out.size;have:=o.size;omega));have N:=cN o;have t:=cN s;clear o s c1 d1 c4 c;refine cN ?_;go_wp2_with (first|(go_at_call 222;refine b3.out.mono ?_;rintro e W5 ⟨rfl,M,D,J⟩;refine cQ ?_));have u:BldAt W.heap.size W5 W.heap.size M (Lib.strCells (strOfNums ((T.take (k+1)).flatMap dW))):=by
    rw[HR.out,List.flatMap_append,←fS,aAw];simpa using D
   have l:=N.out.row a0.out (fun _ _ h=>h);have w:=J.row l (fun q hq h=>by
    rcases h with h|h
    ·obtain⟨p,_,hb⟩:=t.out.blk;exact fN l hb (by decide) q hq h
    ·exact nS l t.out.own (by decide) q hq h)
   have C:Chg NoS W W5:=by
    refine(A.out.trans (S:=NoS) N.out (fun _ _ h=>h)).trans J (fun x hx h=>?_);rcases h with h|h
    ·omega
    ·have:=(t.out.own.lt x h).1;omega
   have d3:=cN u;have b7:=cN w;have d0:=cN C;clear D J u l w C;refine cN ?_;go_wp2_with fail;go_roundw
   case rel=>exact⟨k+1,M,by omega,by go_num,d3.out,b7.out,d0.out⟩
   case measure=>simp[intOf];omega
  ·have b8:¬(k:Int)<(n:Int):=by omega
   have b1:k=n:=by omega
   subst b1;have a5:T.take k=T:=aY (by have:=z.out;omega);have b0:=cN (Builder_String_any W.heap.size W.heap.size (strOfNums (T.flatMap dW)).data.toList wr (by have:=m.out.is;rw[a5]at this;exact this) A.out.size);clear a5;go_wp2_with (first|(go_at_call 223;refine b0.out.mono ?_;rintro e W5 ⟨rfl,c⟩;refine cQ ?_));have c8:=cN (A.out.trans (S:=NoS) (⟨c.os,c.tape,c.output,c.size,fun x hx hn=>c.block x (by omega)⟩:Chg (fun x=>W.heap.size≤x) wr W5) (fun x hx h=>by omega));clear c;refine cN ?_;go_wp2_with fail;go_ret;exact⟨rfl,c8.out⟩
end
theorem xS{B:Nat}{w w':World}{row:Option Nat}(h:w.grownBy w' row)(hr:∀g,row=some g→B≤g)(hB:B≤w.heap.size):Below B w w':=
 ⟨h.os,h.tape,h.output,h.size,fun k hk=>h.block k (aG hk hB) (fun e=>absurd hk (Nat.not_lt.2 (hr k e.symm)))⟩
section
variable (W:World)
theorem aDI:Calls prog 79 #[.slice none 0 0] W fun r W'=>r= .returned (.slice none 0 0)∧W'=W:=by
 have a:∀w:World,(binOp BinOp.eql 88 (.slice none 0 0) (.slice none 0 0)).run prog w= .ok (.bool true) w:=fun w=>Lib.run_eql_slice_nil w _ _ none 0 0 0 0 underlying88;go_enter func79,ntmps79;go_wp2_with fail;go_ret;exact⟨rfl,rfl⟩
theorem aDW(A:Addr)(c:Nat)(l:List Mg)(hn:l.length≤100000000000)(hl:∀j u,(cZ mgL l)[j]?=some u→W.cell? (A.add j)=some u):
 Calls prog 79 #[.slice (some A) l.length c] W fun r W'=>∃v,r= .returned v∧W'.ownsRow W.heap.size 66 10 v l.length (cZ mgL l)∧Below W.heap.size W W':=by
 obtain⟨F,z,q,t,o⟩:=info_parts mJ;have H:∀w:World,(binOp BinOp.eql 88 (.slice (some A) l.length c) (.slice none 0 0)).run prog w= .ok (.bool false) w:=fun w=>Lib.run_eql_slice_nil w _ _ (some A) l.length c 0 0 underlying88;have E:Hid (∀j u,(cZ mgL l)[j]?=some u→(W.alloc (.cells #[] 66)).cell? (A.add j)=some u):=fun j u hj=>Lib.cell?_alloc_some _ (hl j u hj);have i:Below W.heap.size W (W.alloc (.cells #[] 66)):=(aJ _ _).alloc (aE _) _;have f:(W.alloc (.cells #[] 66)).ownsRow W.heap.size 66 10 (.slice (some ⟨W.heap.size,0,none⟩) 0 0) 0 []:=⟨rfl,Or.inr ⟨W.heap.size,0,#[],rfl,aE _,aA W _,aE _,by decide,rfl,rfl⟩⟩;have b:∀u ∈ cZ mgL l,u.oneCell'=true:=fun u hu=>by
  obtain⟨m,_,G⟩:=List.mem_flatMap.1 hu;exact oT m u G
 have B:=cN i;have C:=cN f;have D:=cN b;have g:(W.alloc (.cells #[] 66)).heap.size=W.heap.size+1:=by simp
 generalize d:W.alloc (.cells #[] 66)=W1 at*;have y:=cN d;have e:=cN g;clear hl i f b d g;go_enter func79,ntmps79;go_wp2_with (first|rw[y.out]|(refine wpList_append_own_at _ rfl _ _ 88 rfl W.heap.size 66 F _ 10 80 underlying88 z q t o rfl (by decide) (.slice (some ⟨W.heap.size,0,none⟩) 0 0) 0 [] rfl C.out A l.length c (cZ mgL l) rfl (eV mgL (k:=10) (fun _=>rfl) l) E.out D.out (by unfold maxLen;omega) (by omega) (by have:=e.out;omega) ?_;intro J I a h n p;refine cQ ?_));refine cN ?_;rw[List.nil_append,Nat.zero_add]at a;have x:=cN a;have s:=cN (B.out.trans (xS h (fun k hk=>by cases hk;exact aE _) (by have:=e.out;omega)));clear a h n p;go_wp2_with fail;go_ret;exact⟨_,rfl,x.out,s.out⟩
theorem aEL:Calls prog 49 #[.slice none 0 0] W fun r W'=>r= .returned (.slice none 0 0)∧W'=W:=by
 have a:∀w:World,(binOp BinOp.eql 43 (.slice none 0 0) (.slice none 0 0)).run prog w= .ok (.bool true) w:=fun w=>Lib.run_eql_slice_nil w _ _ none 0 0 0 0 underlying43;go_enter func49,ntmps49;go_wp2_with fail;go_ret;exact⟨rfl,rfl⟩
theorem aEu(A:Addr)(c:Nat)(l:List Ev)(hn:l.length≤100000000000)(hl:∀j u,(cZ evL l)[j]?=some u→W.cell? (A.add j)=some u):
 Calls prog 49 #[.slice (some A) l.length c] W fun r W'=>∃v,r= .returned v∧W'.ownsRow W.heap.size 70 19 v l.length (cZ evL l)∧Below W.heap.size W W':=by
 obtain⟨F,z,q,t,o⟩:=info_parts nT;have H:∀w:World,(binOp BinOp.eql 43 (.slice (some A) l.length c) (.slice none 0 0)).run prog w= .ok (.bool false) w:=fun w=>Lib.run_eql_slice_nil w _ _ (some A) l.length c 0 0 underlying43;have E:Hid (∀j u,(cZ evL l)[j]?=some u→(W.alloc (.cells #[] 70)).cell? (A.add j)=some u):=fun j u hj=>Lib.cell?_alloc_some _ (hl j u hj);have i:Below W.heap.size W (W.alloc (.cells #[] 70)):=(aJ _ _).alloc (aE _) _;have f:(W.alloc (.cells #[] 70)).ownsRow W.heap.size 70 19 (.slice (some ⟨W.heap.size,0,none⟩) 0 0) 0 []:=⟨rfl,Or.inr ⟨W.heap.size,0,#[],rfl,aE _,aA W _,aE _,by decide,rfl,rfl⟩⟩;have b:∀u ∈ cZ evL l,u.oneCell'=true:=fun u hu=>by
  obtain⟨m,_,G⟩:=List.mem_flatMap.1 hu;exact nU m u G
 have B:=cN i;have C:=cN f;have D:=cN b;have g:(W.alloc (.cells #[] 70)).heap.size=W.heap.size+1:=by simp
 generalize d:W.alloc (.cells #[] 70)=W1 at*;have y:=cN d;have e:=cN g;clear hl i f b d g;go_enter func49,ntmps49;go_wp2_with (first|rw[y.out]|(refine wpList_append_own_at _ rfl _ _ 43 rfl W.heap.size 70 F _ 19 152 underlying43 z q t o rfl (by decide) (.slice (some ⟨W.heap.size,0,none⟩) 0 0) 0 [] rfl C.out A l.length c (cZ evL l) rfl (eV evL (k:=19) (fun _=>rfl) l) E.out D.out (by unfold maxLen;omega) (by omega) (by have:=e.out;omega) ?_;intro J I a h n p;refine cQ ?_));refine cN ?_;rw[List.nil_append,Nat.zero_add]at a;have x:=cN a;have s:=cN (B.out.trans (xS h (fun k hk=>by cases hk;exact aE _) (by have:=e.out;omega)));clear a h n p;go_wp2_with fail;go_ret;exact⟨_,rfl,x.out,s.out⟩
end
def aKd(x:Int):Rw:=⟨x,0,0,0,0,0,0⟩
def aKX(x:Int):Mg:={zMg with kind:=x}
def aKH(x:Int):Ev:={zEv with kind:=x}
abbrev kRw(x:Int):List Value:=rwL (aKd x)
abbrev kMg(x:Int):List Value:=mgL (aKX x)
abbrev kEv(x:Int):List Value:=evL (aKH x)
def MkTo(f:Int→List Value)(sz:Nat)(W:World)(g k:Nat)(x:Int):Prop:=∀i,i<k→∀j u,(f x)[j]?=some u→W.cell? ⟨g,i*sz+j,none⟩=some u
def MkL(f:Int→List Value)(sz:Nat)(W:World)(v:Value)(k:Nat)(x:Int):Prop:=
 ∃p cap,v= .slice p k cap∧(∀g,v.ownBlock=some g→g<W.heap.size)∧(0<k→∃g,p=some ⟨g,0,none⟩∧MkTo f sz W g k x)
section
variable {f:Int→List Value}{sz:Nat}{W W':World}{v:Value}{k:Nat}{x:Int}
theorem MkTo.of_heap{g:Nat}(h:MkTo f sz W g k x)(hb:W'.heap[g]?=W.heap[g]?):MkTo f sz W' g k x:=fun i hi j u hj=>
 (aW hb).trans (h i hi j u hj)
theorem MkL.of_heap(h:MkL f sz W v k x)(hs:W.heap.size≤W'.heap.size)(hb:∀g,v.ownBlock=some g→W'.heap[g]?=W.heap[g]?):MkL f sz W' v k x:=by
 obtain⟨p,c,rfl,b,d⟩:=h;refine⟨p,c,rfl,fun g hg=>aG (b g hg) hs,fun hk=>?_⟩;obtain⟨g,rfl,a⟩:=d hk;exact⟨g,rfl,a.of_heap (hb g rfl)⟩
theorem xU(hf:∀y,(f y).length=sz){t:TypeId}{base g n cap:Nat}(h:W.ownsRow base t sz (.slice (some ⟨g,0,none⟩) n cap) n (cZ f (List.replicate n x))):MkTo f sz W g n x:=by
 intro i d j u c;have b:j<sz:=by rw[←hf x];exact(aF.1 c).1
 have a:i*sz+j<n*sz:=by
  have:(i+1)*sz≤n*sz:=Nat.mul_le_mul_right _ (by omega);rw[Nat.add_mul]at this;omega
 rw[h.cellAt _ a,lX f (k:=sz) hf _ i (by simpa using d) j b];simpa using c
theorem aAl(hf:∀y,(f y).length=sz){t:TypeId}{base n:Nat}(h:W.ownsRow base t sz v n (cZ f (List.replicate n x))):MkL f sz W v n x:=by
 have a:=h.lt;rcases h.2 with⟨rfl,rfl⟩|⟨g,b,c,rfl,_⟩
 ·exact⟨none,0,rfl,(fun g hg=>by cases hg),fun h=>absurd h (by omega)⟩
 ·exact⟨some ⟨g,0,none⟩,b,rfl,fun g' hg'=>(a g' hg').2,fun _=>⟨g,rfl,xU hf h⟩⟩
theorem MkL.appended(hf:∀y,(f y).length=sz){t:TypeId}{base n m:Nat}{v' u:Value}(hu:MkL f sz W u k x)(hk:k≤n+m)
 (hown:W'.ownsRow base t sz v' (n+m) (cZ f (List.replicate (n+m) x))) (h:aEP W W' v v'):MkL f sz W' u k x:=by
 rcases h with⟨_,l,c⟩|⟨_,c⟩
 ·obtain⟨p,j,rfl,b,w⟩:=hu;refine⟨p,j,rfl,fun g hg'=>aG (b g hg') c.size,fun hk0=>?_⟩;obtain⟨g,rfl,q⟩:=w hk0;refine⟨g,rfl,?_⟩;by_cases o:v.ownBlock=some g
  ·obtain⟨d,a,rfl,_⟩:∃d a,v'= .slice (some ⟨d,0,none⟩) (n+m) a∧True:=by
    rcases hown.2 with⟨rfl,A⟩|⟨d,a,z,rfl,_⟩
    ·rw[o]at l;cases l
    ·exact⟨d,a,rfl,trivial⟩
   rw[o]at l;have s:d=g:=by simpa[Value.ownBlock]using l
   subst s;have r:=xU hf hown;exact fun i hi=>r i (by omega)
  ·exact q.of_heap (c.block g (b g rfl) (fun e=>o e.symm))
 ·exact hu.of_heap c.size (fun g hg'=>by
   obtain⟨p,j,rfl,b,_⟩:=hu;exact c.block g (b g hg') (by simp))
end
theorem sH{α:Type}(f:α→List Value)(a b:List α):cZ f (a++b)=cZ f a++cZ f b:=by simp[cZ]
theorem aJD{α:Type}{F:α→List Value}{sz:Nat}(hF:∀y,(F y).length=sz){W W':World}{base:Nat}{t:TypeId}{g n cap k:Nat}{A B:List α}{r y:α}(hk:A.length=k)
 (h:W.ownsRow base t sz (.slice (some ⟨g,0,none⟩) n cap) n (cZ F (A++r::B))) {cur:Array Value} (hg:W.heap[g]?=some (.cells cur t (0,0)))
 (hg':W'.heap[g]?=some (.cells (cur.toList.take (k*sz)++F y++cur.toList.drop (k*sz+sz)).toArray t (0,0))):
 W'.ownsRow base t sz (.slice (some ⟨g,0,none⟩) n cap) n (cZ F (A++y::B)):=by
 have b:∀z:α,(cZ F (A++z::B)).length=(A++z::B).length*sz:=fun z=>eV F hF _;have o:=(b r).symm.trans h.1;have a:(cZ F A).length=k*sz:=by rw[eV F hF,hk]
 refine⟨by rw[b,←o];simp,?_⟩;rcases h.2 with⟨e,_⟩|⟨E,q,s,e,v,d,c,i,m,j⟩
 ·cases e
 ·cases e;rw[hg]at d;cases d;have D:k*sz+sz≤n*sz:=by
   have:(k+1)*sz≤(A++r::B).length*sz:=Nat.mul_le_mul_right _ (by simp;omega);rw[Nat.add_mul,o]at this;omega
  have l:n*sz≤cur.toList.length:=by rw[Array.length_toList,m];exact Nat.mul_le_mul_right _ c
  refine Or.inr ⟨g,cap,_,rfl,v,hg',c,i,?_,?_⟩
  ·simp only[List.size_toArray,aD,bD,aV,hF,Array.length_toList];rw[Array.length_toList]at l;omega
  ·have p:cur.toList=cZ F (A++r::B)++cur.toList.drop (n*sz):=by rw[←j,cH]
   have f:cZ F (A++r::B)=cZ F A++(F r++cZ F B):=by rw[sH];rfl
   have x:cZ F (A++y::B)=cZ F A++(F y++cZ F B):=by rw[sH];rfl
   have C:(cZ F B).length=n*sz-(k*sz+sz):=by
    have:=h.1;rw[f,aD,aD,hF,a]at this;omega
   have w:cur.toList.take (k*sz)=cZ F A:=by rw[p,f,aS,List.take_left' a]
   have u:cur.toList.drop (k*sz+sz)=cZ F B++cur.toList.drop (n*sz):=by
    conv=>lhs;rw[p,f]
    rw[aS,aS,←aS,List.drop_left' (by rw[aD,a,hF])]
   show(cur.toList.take (k*sz)++F y++cur.toList.drop (k*sz+sz)).take (n*sz)=_;rw[w,u,x,←aS,List.take_left' (by simp only[aD,a,hF,C];omega)];simp
structure StK(t:TypeId)(f:Int→List Value)(sz a:Nat)(W:World)(lab:Nat→Nat)(rv mv:Value)(ls:List (Value×Nat×Int)):Prop where
 rows:W.ownsRow 0 t 1 rv ls.length (ls.map fun q=>q.1)
 marks:W.ownsRow 0 3 1 mv ls.length (ls.map fun q=>.int .i64 q.2.2)
 rl:∀k,rv.ownBlock=some k→lab k=a
 ml:∀k,mv.ownBlock=some k→lab k=a+1
 each:∀q ∈ ls,MkL f sz W q.1 q.2.1 q.2.2
 el:∀q ∈ ls,∀k,q.1.ownBlock=some k→lab k=9
theorem StK.frame{t:TypeId}{f:Int→List Value}{sz a:Nat}(ha:a≠0){W W':World}{lab lab':Nat→Nat}{rv mv:Value}{ls:List (Value×Nat×Int)}(h:StK t f sz a W lab rv mv ls)(hs:W.heap.size≤W'.heap.size)
 (hb:∀k,lab k=a∨lab k=a+1∨lab k=9→W'.heap[k]?=W.heap[k]?) (hl:∀k,lab k≠0→lab' k=lab k):StK t f sz a W' lab' rv mv ls:=
 ⟨dF h.rows fun k hk=>hb k (Or.inl (h.rl k hk)),dF h.marks fun k hk=>hb k (Or.inr (Or.inl (h.ml k hk))),fun k hk=>by have:=h.rl k hk;rw[hl k (by omega)];exact this,fun k hk=>by have:=h.ml k hk;rw[hl k (by omega)];exact this,
  fun q hq=>(h.each q hq).of_heap hs fun k hk=>hb k (Or.inr (Or.inr (h.el q hq k hk))),fun q hq k hk=>by have:=h.el q hq k hk;rw[hl k (by omega)];exact this⟩
theorem aFj:(prog.info? 47).map (fun i=>(i.zero,i.size,i.bytes))=some (some (.slice none 0 0),1,24):=by kernel_rfl
theorem aHl:(prog.info? 88).map (fun i=>(i.zero,i.size,i.bytes))=some (some (.slice none 0 0),1,24):=by kernel_rfl
theorem aI9:(prog.info? 43).map (fun i=>(i.zero,i.size,i.bytes))=some (some (.slice none 0 0),1,24):=by kernel_rfl
theorem aHD:(prog.info? 3).map (fun i=>(i.zero,i.size,i.bytes))=some (some (.int .i64 0),1,8):=by kernel_rfl
abbrev wdL(lv rv rm sv sm ev em:Value)(next:Int):List Value:=[lv,rv,rm,sv,sm,ev,em,.int .i64 next]
theorem aHn{w w':World}{v v':Value}(h:aEP w w' v v'):(v'.ownBlock=v.ownBlock∨v'.ownBlock=some w.heap.size)∧w.grownBy w' v.ownBlock:=by
 rcases h with⟨_,h,a⟩|⟨h,a⟩
 ·exact⟨Or.inl h,a⟩
 ·exact⟨Or.inr h,a.but _⟩
def lJ(lab:Nat→Nat)(a:Nat)(v va vb vc vr vm:Value):Nat→Nat:=fun k=>
 if lab k≠0 then lab k else if v.ownBlock=some k∨va.ownBlock=some k∨vb.ownBlock=some k∨vc.ownBlock=some k then 9 else if vr.ownBlock=some k then a else if vm.ownBlock=some k then a+1 else 0
theorem aIY{t:TypeId}{f:Int→List Value}{sz a:Nat}(ha:a=3∨a=5∨a=7){W wc wd we wf wg:World}{lab:Nat→Nat}{g0:Nat}{v va vb vc vr vm rv mv:Value}{ls:List (Value×Nat×Int)}{n:Nat}{x:Int}
 (hS:StK t f sz a W lab rv mv ls) (hl0:lab g0=1) (hlt:∀k,lab k≠0→k<W.heap.size) (hvl:∀k,v.ownBlock=some k→lab k=0)
 (hcW:Chg (fun q=>q=g0∨some q=v.ownBlock) W wc)
 (m0:MkL f sz wc v n x) (m1:MkL f sz wc va (n+1) x) (m2:MkL f sz wc vb (n+2) x) (m3:MkL f sz wc vc (n+3) x)
 (b1:va.ownBlock=v.ownBlock∨∃q,va.ownBlock=some q∧W.heap.size≤q) (b2:vb.ownBlock=v.ownBlock∨∃q,vb.ownBlock=some q∧W.heap.size≤q) (b3:vc.ownBlock=v.ownBlock∨∃q,vc.ownBlock=some q∧W.heap.size≤q)
 (hcd:Chg (fun q=>some q=rv.ownBlock) wc wd) (hrow:wd.ownsRow 0 t 1 vr (ls.length+4) ((ls.map fun q=>q.1)++[v,va,vb,vc])) (hr:vr.ownBlock=rv.ownBlock∨∃q,vr.ownBlock=some q∧wc.heap.size≤q)
 (hde:Chg (fun q=>q=g0) wd we)
 (hef:Chg (fun q=>some q=mv.ownBlock) we wf) (hmar:wf.ownsRow 0 3 1 vm (ls.length+4) ((ls.map fun q=>.int .i64 q.2.2)++[.int .i64 x,.int .i64 x,.int .i64 x,.int .i64 x])) (hm:vm.ownBlock=mv.ownBlock∨∃q,vm.ownBlock=some q∧we.heap.size≤q)
 (hfg:Chg (fun q=>q=g0) wf wg):
 StK t f sz a wg (lJ lab a v va vb vc vr vm) vr vm (ls++[(v,n,x),(va,n+1,x),(vb,n+2,x),(vc,n+3,x)])∧(∀k,lab k≠0→lJ lab a v va vb vc vr vm k=lab k)∧(∀k,lJ lab a v va vb vc vr vm k≠0→k<wg.heap.size)∧
  (∀k,lJ lab a v va vb vc vr vm k≠0→lab k≠0∨lJ lab a v va vb vc vr vm k=a∨lJ lab a v va vb vc vr vm k=a+1∨lJ lab a v va vb vc vr vm k=9)∧
  Chg (fun k=>k=g0∨lab k=a∨lab k=a+1∨lab k=0) W wg:=by
 have Z:=hcW.size;have Q:=hcd.size;have S:=hde.size;have R:=hef.size;have P:=hfg.size;have O:∀k,rv.ownBlock=some k→k<W.heap.size:=fun k b=>eY hS.rows k b;have N:∀k,mv.ownBlock=some k→k<W.heap.size:=fun k b=>eY hS.marks k b;have i:∀{u:Value} {k:Nat},MkL f sz wc u k x→∀g,u.ownBlock=some g→g<wc.heap.size:=fun h g hg=>by
  obtain⟨p,L,X,hlt,_⟩:=h;exact hlt g hg
 have c:∀k,lab k≠0→lJ lab a v va vb vc vr vm k=lab k:=fun k b=>if_pos b;have A:∀{u:Value},(u.ownBlock=v.ownBlock∨∃q,u.ownBlock=some q∧W.heap.size≤q)→∀k,u.ownBlock=some k→lab k=0:=fun hu k b=>by
  rcases hu with h|⟨q,h,y⟩
  ·exact hvl k (h.symm.trans b)
  ·rw[h]at b
   injection b with e
   subst e;exact aH fun hne=>by have:=hlt _ hne;omega
 have E:∀{u:Value},u=v∨u=va∨u=vb∨u=vc→∀k,u.ownBlock=some k→lJ lab a v va vb vc vr vm k=9:=fun hu k b=>by
  have o:lab k=0:=by
   rcases hu with rfl|rfl|rfl|rfl
   ·exact hvl k b
   ·exact A b1 k b
   ·exact A b2 k b
   ·exact A b3 k b
  unfold lJ;rw[if_neg (by omega),if_pos];rcases hu with rfl|rfl|rfl|rfl
  ·exact Or.inl b
  ·exact Or.inr (Or.inl b)
  ·exact Or.inr (Or.inr (Or.inl b))
  ·exact Or.inr (Or.inr (Or.inr b))
 have d:∀k,(v.ownBlock=some k∨va.ownBlock=some k∨vb.ownBlock=some k∨vc.ownBlock=some k)→k<wc.heap.size:=fun k b=>by
  rcases b with h|h|h|h
  ·exact i m0 k h
  ·exact i m1 k h
  ·exact i m2 k h
  ·exact i m3 k h
 have s:∀k,vr.ownBlock=some k→lJ lab a v va vb vc vr vm k=a:=fun k b=>by
  rcases hr with h|⟨q,h,y⟩
  ·rw[c k (by rw[hS.rl k (h.symm.trans b)];omega)];exact hS.rl k (h.symm.trans b)
  ·rw[h]at b
   injection b with e
   subst e;have o:lab q=0:=aH fun hne=>by have:=hlt _ hne;omega
   unfold lJ;rw[if_neg (by omega),if_neg (fun e=>by have:=d q e;omega),if_pos h]
 have B:∀k,vm.ownBlock=some k→lJ lab a v va vb vc vr vm k=a+1:=fun k b=>by
  rcases hm with h|⟨q,h,y⟩
  ·rw[c k (by rw[hS.ml k (h.symm.trans b)];omega)];exact hS.ml k (h.symm.trans b)
  ·rw[h]at b
   injection b with e
   subst e;have o:lab q=0:=aH fun hne=>by have:=hlt _ hne;omega
   unfold lJ;rw[if_neg (by omega),if_neg (fun e=>by have:=d q e;omega),if_neg (fun e=>by have:=eY hrow q e;omega),if_pos h]
 have M:∀k,(v.ownBlock=some k∨va.ownBlock=some k∨vb.ownBlock=some k∨vc.ownBlock=some k)→k≠g0∧some k≠rv.ownBlock∧some k≠mv.ownBlock:=fun k b=>by
  have o:lab k=0:=by
   rcases b with h|h|h|h
   ·exact hvl k h
   ·exact A b1 k h
   ·exact A b2 k h
   ·exact A b3 k h
  refine⟨fun e=>by rw[e,hl0]at o;omega,fun e=>?_,fun e=>?_⟩
  ·have:=hS.rl k e.symm;omega
  ·have:=hS.ml k e.symm;omega
 have j:∀k,k<wc.heap.size→k≠g0→some k≠rv.ownBlock→some k≠mv.ownBlock→wg.heap[k]?=wc.heap[k]?:=fun k z r H F=>
  ((hfg.block k (by omega) r).trans (hef.block k (by omega) F)).trans ((hde.block k (by omega) r).trans (hcd.block k z H))
 refine⟨⟨?_,?_,s,B,?_,?_⟩,c,?_,?_,?_⟩
 ·have I:(ls++[(v,n,x),(va,n+1,x),(vb,n+2,x),(vc,n+3,x)]).length=ls.length+4:=by simp
  have G:((ls++[(v,n,x),(va,n+1,x),(vb,n+2,x),(vc,n+3,x)]).map fun q=>q.1)=(ls.map fun q=>q.1)++[v,va,vb,vc]:=by simp
  rw[I,G];refine dF hrow (fun k b=>?_);have w:=eY hrow k b;have m:k≠g0:=fun e=>by
   have:=s k b;rw[c k (by rw[e,hl0];decide),e,hl0]at this;omega
  have J:some k≠mv.ownBlock:=fun e=>by
   have z:=hS.ml k e.symm;have r:=s k b;rw[c k (by omega)]at r;omega
  exact(hfg.block k (by omega) m).trans ((hef.block k (by omega) J).trans (hde.block k w m))
 ·have I:(ls++[(v,n,x),(va,n+1,x),(vb,n+2,x),(vc,n+3,x)]).length=ls.length+4:=by simp
  have G:((ls++[(v,n,x),(va,n+1,x),(vb,n+2,x),(vc,n+3,x)]).map fun q=>(Value.int .i64 q.2.2))=(ls.map fun q=>.int .i64 q.2.2)++[.int .i64 x,.int .i64 x,.int .i64 x,.int .i64 x]:=by simp
  rw[I,G];refine dF hmar (fun k b=>?_);have w:=eY hmar k b;have m:k≠g0:=fun e=>by
   have:=B k b;rw[c k (by rw[e,hl0];decide),e,hl0]at this;omega
  exact hfg.block k w m
 ·intro q y;rcases aO.1 y with h|h
  ·obtain⟨p,L,X,D,b⟩:=hS.each q h;refine(hS.each q h).of_heap (by omega) (fun g hg=>?_);have z:=D g hg;have r:=hS.el q h g hg;have C:g≠g0:=fun e=>by rw[e,hl0]at r;omega
   rw[j g (by omega) C (fun e=>by have:=hS.rl g e.symm;omega) (fun e=>by have:=hS.ml g e.symm;omega)];exact hcW.block g z (fun e=>by
    rcases e with e|e
    ·exact C e
    ·have:=hvl g e.symm;omega)
  ·simp only[List.mem_cons,List.not_mem_nil,or_false]at h;have l:∀{u:Value} {k:Nat},MkL f sz wc u k x→(u=v∨u=va∨u=vb∨u=vc)→MkL f sz wg u k x:=fun hmk hu=>by
    refine hmk.of_heap (by omega) (fun g hg=>?_);have K:v.ownBlock=some g∨va.ownBlock=some g∨vb.ownBlock=some g∨vc.ownBlock=some g:=by
     rcases hu with rfl|rfl|rfl|rfl
     ·exact Or.inl hg
     ·exact Or.inr (Or.inl hg)
     ·exact Or.inr (Or.inr (Or.inl hg))
     ·exact Or.inr (Or.inr (Or.inr hg))
    obtain⟨U,Y,V⟩:=M g K;exact j g (i hmk g hg) U Y V
   rcases h with rfl|rfl|rfl|rfl
   ·exact l m0 (Or.inl rfl)
   ·exact l m1 (Or.inr (Or.inl rfl))
   ·exact l m2 (Or.inr (Or.inr (Or.inl rfl)))
   ·exact l m3 (Or.inr (Or.inr (Or.inr rfl)))
 ·intro q y k b;rcases aO.1 y with h|h
  ·have:=hS.el q h k b;rw[c k (by omega)];exact this
  ·simp only[List.mem_cons,List.not_mem_nil,or_false]at h;rcases h with rfl|rfl|rfl|rfl
   ·exact E (Or.inl rfl) k b
   ·exact E (Or.inr (Or.inl rfl)) k b
   ·exact E (Or.inr (Or.inr (Or.inl rfl))) k b
   ·exact E (Or.inr (Or.inr (Or.inr rfl))) k b
 ·intro k b;unfold lJ at b;split at b
  ·have:=hlt k (by assumption);omega
  ·split at b
   ·have:=d k (by assumption);omega
   ·split at b
    ·have:=eY hrow k (by assumption);omega
    ·split at b
     ·have:=eY hmar k (by assumption);omega
     ·exact absurd rfl b
 ·intro k b;unfold lJ at b⊢;split
  ·left;assumption
  ·right;split
   ·right;right;rfl
   ·split
    ·left;rfl
    ·split
     ·right;left;rfl
     ·rename_i z r H F;rw[if_neg z,if_neg r,if_neg H,if_neg F]at b;exact absurd rfl b
 ·refine(((((hcW.mono (T:=fun k=>k=g0∨lab k=a∨lab k=a+1∨lab k=0) (fun k _ b=>?_)).trans hcd (fun k _ b=>?_)).trans hde (fun k _ b=>Or.inl b)).trans hef (fun k _ b=>?_)).trans hfg (fun k _ b=>Or.inl b))
  ·rcases b with b|b
   ·exact Or.inl b
   ·exact Or.inr (Or.inr (Or.inr (hvl k b.symm)))
  ·exact Or.inr (Or.inl (hS.rl k b.symm))
  ·exact Or.inr (Or.inr (Or.inl (hS.ml k b.symm)))
theorem aCi:∀(L:List Value) (off k:Nat) (cs:Array Value),off+k+L.length≤cs.size→(L.zipIdx k).foldl (fun (cs:Array Value) (p:Value×Nat)=>cs.setIfInBounds (off+p.2) p.1) cs=(cs.toList.take (off+k)++L++cs.toList.drop (off+k+L.length)).toArray
 |[],off,k,cs,_=>by simp
 |x::L,off,k,cs,h=>by
  rw[List.zipIdx_cons,List.foldl_cons];simp only[bI]at h;have ih:=aCi L off (k+1) (cs.setIfInBounds (off+k) x) (by simp;omega);dsimp only at ih⊢;rw[ih]
  congr 1
  have hlt:off+k<cs.toList.length:=by rw[Array.length_toList];omega
  rw[Array.toList_setIfInBounds,show off+(k+1)=off+k+1 by omega,List.take_add_one,List.drop_set_of_lt (by omega),List.getElem?_set_self (by omega)];rw[List.take_set_of_le (by omega)];simp only[bI,Option.toList,aS,List.cons_append,List.nil_append];rw[show off+k+1+L.length=off+k+(L.length+1) by omega]
def gH(m:Nat)(L:List Value):List Value:=(List.replicate m L).flatten
theorem sA(m:Nat)(L:List Value):(gH m L).length=m*L.length:=by
 unfold gH;induction m with
 |zero=>simp
 |succ m ih=>rw[List.replicate_succ,List.flatten_cons,aD,ih,Nat.succ_mul];omega
theorem aAe(m:Nat)(L:List Value):gH (m+1) L=gH m L++L:=by
 unfold gH;rw[List.replicate_succ',List.flatten_append];simp
theorem wP{L:List Value}(h:∀u ∈ L,u.oneCell'=true)(m:Nat):∀u ∈ gH m L,u.oneCell'=true:=fun u hu=>by
 unfold gH at hu;obtain⟨l,hl,hu⟩:=List.mem_flatten.1 hu;rw[(List.mem_replicate.1 hl).2]at hu;exact h u hu
theorem aBk{f:Int→List Value}{x:Int}:∀m,gH m (f x)=cZ f (List.replicate m x)
 |0=>rfl
 |m+1=>by
  rw[aAe,aBk m,List.replicate_succ',sH];simp[cZ]
theorem zY(L:List Value)(hsz:0<L.length)(cs:Array Value)(M:Nat)(hc:cs.size=M*L.length):∀m k,k+m=M→
 Instr.fill (fun i=>some (i*L.length,L.length)) ((gH k L).toArray++(cs.toList.drop (k*L.length)).toArray) ((List.range' k m).map fun i=>(i,Value.agg L.toArray))=some (gH M L).toArray
 |0,k,h=>by
  have hk:k=M:=by omega
  subst hk;have:cs.toList.drop (k*L.length)=[]:=List.drop_eq_nil_of_le (by rw[Array.length_toList,hc];exact aE _);rw[this];simp[Instr.fill]
 |m+1,k,h=>by
  rw[List.range'_succ,List.map_cons];unfold Instr.fill;dsimp only;have g:k*L.length+L.length≤M*L.length:=by
   have:(k+1)*L.length≤M*L.length:=Nat.mul_le_mul_right _ (by omega);rw[Nat.add_mul]at this;omega
  have a:((gH k L).toArray++(cs.toList.drop (k*L.length)).toArray).size=M*L.length:=by
   simp only[Array.size_append,List.size_toArray,sA,aV,Array.length_toList,hc];omega
  have b:(Value.agg L.toArray).cells.size=L.length:=by simp[Value.cells]
  rw[if_neg (by rw[b,a];simp;omega)];have d:Array.foldl (fun (cs:Array Value) (x:Value×Nat)=>cs.setIfInBounds (k*L.length+x.2) x.1) ((gH k L).toArray++(cs.toList.drop (k*L.length)).toArray) (Value.agg L.toArray).cells.zipIdx=((gH (k+1) L).toArray++(cs.toList.drop ((k+1)*L.length)).toArray):=by
   rw[←Array.foldl_toList];have e:(Value.agg L.toArray).cells.zipIdx.toList=L.zipIdx 0:=by simp[Value.cells]
   rw[e,aCi L (k*L.length) 0 _ (by rw[a];omega)];have f:((gH k L).toArray++(cs.toList.drop (k*L.length)).toArray).toList=gH k L++cs.toList.drop (k*L.length):=by simp
   rw[f,Nat.add_zero,List.take_left' (sA k L),←List.drop_drop,List.drop_left' (sA k L),List.drop_drop,aAe,Nat.add_mul,Nat.one_mul];simp
  have c:=zY L hsz cs M hc m (k+1) (by omega);rw[←d]at c;exact c
section
variable {P:Program}
theorem tV(w:World)(t e:TypeId)(i:TypeInfo)(z:Value)(L:List Value)(m:Nat)(ht:P.underlying t=some (.slice e))(hi:P.info? e=some i)(hz:i.zero=some z)(hs:i.size=L.length)(hL:0<L.length)(hm:0<m)(hb:m*L.length≤1000000):
 (Instr.buildSlice t m ((List.range' 0 m).map fun i=>(i,Value.agg L.toArray)).toArray).run P w= .ok (.slice (some ⟨w.heap.size,0,none⟩) m m) (w.alloc (.cells (gH m L).toArray e)):=by
 have b:=Nat.mul_pos hm hL;have a:=zY L hL ((Array.range (m*L.length)).map (fun q=>z.cells[q % z.cells.size]!)) m (by simp) m 0 (by omega);have c:(gH 0 L).toArray++(List.drop (0*L.length) ((Array.range (m*L.length)).map (fun q=>z.cells[q % z.cells.size]!)).toList).toArray=(Array.range (m*L.length)).map (fun q=>z.cells[q % z.cells.size]!):=by
  apply Array.ext';simp[gH]
 rw[c]at a;unfold Instr.buildSlice;simp only[aT,run_underlying ht,Result.andThen_ok,sizeOf,typeInfo,run_program,hi,Sem.run_pure,hs,zeroValue,hz,newRow];rw[if_neg (show¬m*L.length>2 ^ 24 by omega)];simp only[aT,Sem.run_pure,Result.andThen_ok,if_neg (show¬m*L.length=0 by omega),run_program,hi,hz,a,run_newObj_alloc]
theorem qT{ops:Array Oper}{rest:List Oper}{o:Oper}{a:Act}{w:World}{Q:Exit→Act→World→Prop}(hgd:o.guard=none)(t:TypeId)(m:Nat)(parts:List (Nat×Operand))(ho:o.op= .buildSlice t m parts.toArray)
 (e:TypeId) (i:TypeInfo) (z:Value) (L:List Value) (ht:P.underlying t=some (.slice e)) (hi:P.info? e=some i) (hz:i.zero=some z) (hs:i.size=L.length) (hL:0<L.length) (hm:0<m) (hb:m*L.length≤1000000)
 (hp:(parts.map fun (q:Nat×Operand)=>(q.1,a.eval q.2))=((List.range' 0 m).map fun i=>(i,Value.agg L.toArray)))
 (h:wpList P ops Q rest (a.put o.dst (.slice (some ⟨w.heap.size,0,none⟩) m m)) (w.alloc (.cells (gH m L).toArray e))):wpList P ops Q (o::rest) a w:=by
 refine wpList_plain hgd fun K hK=>?_;have b:=tV (P:=P) w t e i z L m ht hi hz hs hL hm hb;rw[←hp]at b;unfold Oper.wp execOp;simp only[ho,List.map_toArray,aT,b,Sem.run_pure,Result.andThen_ok];exact hK _ _ h
end
end Go.Proofs.YtbbdgokdfhdpiaaGreatDoor
