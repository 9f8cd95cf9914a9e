/- A part of the proof: PBegin, PClone. -/
import Derived.Lib.SliceRun
import Derived.Maps.Own
import Derived.Maps.OwnOps
import Derived.Maps.RangeWalk
import Derived.Shelf.SlIterI.Nil
import Derived.Shelf.SlMaps.Clone
import Derived.Shelf.SortM.Plain
import Derived.Shelf.SortM.SortNone
import Derived.Test.YtbbdgokdfhdpiaaGreatDoorD7
namespace Go.Proofs.YtbbdgokdfhdpiaaGreatDoor
set_option linter.all false
set_option maxRecDepth 100000
set_option maxHeartbeats 40000000
open Go.Proofs.Tryz Go.RowKit
theorem aBJ(c:Ct)(k l t:Int):(dN c k l t).num=c.num∧(dN c k l t).inc=c.inc∧(dN c k l t).clock=c.clock∧(dN c k l t).round=c.round∧(dN c k l t).doing=c.doing∧(dN c k l t).up=c.up∧(dN c k l t).wat=c.wat∧(dN c k l t).toks=c.toks:=by
 unfold dN;split
 ·exact⟨rfl,rfl,rfl,rfl,rfl,rfl,rfl,rfl⟩
 ·split<;>exact⟨rfl,rfl,rfl,rfl,rfl,rfl,rfl,rfl⟩
theorem wH(W:World)(F G:Nat→Prop)(b g:Nat)(f:Cf)(av cv:Value)(c:Ct)(net:List Mg)(tr:List Ev)(k l t:Int)(h:Sys W F G b g f av cv c net tr)(hf1:1≤f.f)(hf2:f.f≤2)(hc:xL c)(ht1:0≤t)(ht2:t≤1000)(hn:net.length≤99999999990)(ht:tr.length≤99999999980):
 Calls prog 81 #[.pointer (some ⟨b,0,none⟩),opV k l t] W fun r W'=>r= .returned (.int .i64 (kV c))∧After W F G b g f av cv (iV c k l t) (net++cJ (iI f c k l t)) (tr++iI f c k l t) W':=by
 generalize K:W.alloc (.cells #[.int .i64 k,.int .i64 l,.int .i64 t] 68)=W0;have a2:=cB K;have a1:Chg NoS W W0:=by rw[←K];exact(Chg.refl _ _).alloc _
 have R:W0.heap[W.heap.size]?=some (.cells #[.int .i64 k,.int .i64 l,.int .i64 t] 68 (0,0)):=by rw[←K];exact aA W _
 have s:=cB (h.kept a1 (fun _ _ h=>h) (fun _ _ h=>h));have b5:=cB R;have y:Hid (Went W W0 F F G G):=⟨a1.mono (fun _ _ h=>h.elim),fun _ h=>Or.inl h,fun _ h=>Or.inl h⟩;have i:=s.out.cl;obtain⟨ch,tk,d2,wt,dv,i⟩:=i;have HU:∀q,c.up=q→Hid (Calls prog 90 #[.pointer (some ⟨b,0,none⟩)] W0 fun e w'=>e= .returned (.bool q)∧w'=W0):=fun q e=>e▸vZ W0 b ch c.up (i.cell 9 _ rfl) i.chan;have d4:=i.cell 16 _ rfl;have c4:=cB i;have u:=cB hc;have a9:=cW R;have e5:=cB a9;have b9:Hid (¬F W.heap.size∧¬G W.heap.size):=⟨fun a=>by have:=h.ltF _ a;omega,fun a=>by have:=h.nt.lt _ a;omega⟩;clear K a1 R h hc a9;cases hu:c.up
 ·have m:kV c=2:=by unfold kV;rw[if_pos hu]
  have L:iV c k l t=c:=by unfold iV;rw[if_pos (by rw[m];decide)]
  have M:iI f c k l t=[]:=by unfold iI;rw[if_pos (by rw[m];decide)]
  rw[m,L,M,fE,aC,aC];clear L M;have D:=HU _ hu;clear m hu HU i;go_enter func81,ntmps81;go_wp2_with (first|rw[a2.out]|(go_at_call 90;refine D.out.mono ?_;rintro e w' ⟨rfl,N⟩;have w:=N.symm;subst w;clear N));go_ret;exact⟨rfl,F,G,s.out,y.out⟩
 ·have D:=HU _ hu;have E:=i.doing;clear HU i;cases hd:c.doing with
  |some o=>
   rw[hd]at E;obtain⟨ob,an,mv,rfl,_,_⟩:=E;have m:kV c=4:=by unfold kV;rw[if_neg (by simp[hu]),hd];rfl
   have L:iV c k l t=c:=by unfold iV;rw[if_pos (by rw[m];decide)]
   have M:iI f c k l t=[]:=by unfold iI;rw[if_pos (by rw[m];decide)]
   rw[m,L,M,fE,aC,aC];clear L M;clear m hu hd;go_enter func81,ntmps81;go_wp2_with (first|rw[a2.out]|(go_at_call 90;refine D.out.mono ?_;rintro e w' ⟨rfl,N⟩;have w:=N.symm;subst w;clear N));go_ret;exact⟨rfl,F,G,s.out,y.out⟩
  |none=>
   rw[hd]at E;obtain rfl:dv= .pointer none:=E;have m:kV c=0:=by unfold kV;rw[if_neg (by simp[hu]),hd];rfl
   have L:iV c k l t=gY (dN {c with doing:=some (eH c k l t)} k l t) (eH c k l t):=by unfold iV;rw[if_neg (by rw[m];decide)]
   have M:iI f c k l t=gJ c.num (eH c k l t)::fV f (dN {c with doing:=some (eH c k l t)} k l t) (eH c k l t):=by unfold iI;rw[if_neg (by rw[m];decide)]
   rw[m,L,M];clear L M;clear m hu hd;have e4:=c4.out.cell 11 _ rfl;have c0:=cB (cF (W:=W0.drew) b5.out);go_enter func81,ntmps81;go_wp2_with (first|rw[a2.out]|(go_at_call 90;refine D.out.mono ?_;rintro e w' ⟨rfl,N⟩;have w:=N.symm;subst w;clear N));refine dJ [0,1,0,0,0,1,0] (by kernel_rfl) (fun _ _ _ _=>rfl) ?_;simp only[cL,cK];iterate 1 (apply sB rfl rfl;·(intro x h;(try cases h rfl);go_simp;with_reducible rfl))
   try simp only[pA]
   refine cM (v:=opV k l t) rfl (fun x hx=>cG 68 _ rfl ⟨W.heap.size,0,none⟩ rfl [.int .i64 k,.int .i64 l,.int .i64 t] _ (by subst hx;exact c0.out) underlying68 rfl (by kernel_rfl)) ?_;iterate 5 (apply sB rfl rfl;·(intro x h;(try cases h rfl);go_simp;with_reducible rfl))
   refine cD ?_;try simp only[pA]
   generalize p:W0.drew=Wd at*;have j:=p▸c4.out.kept (S:=NoS) (Chg.refl _ _).drew (fun _ _ h=>h);have B:=p▸s.out.drew.nt;have b0:Wd.heap[W.heap.size]?=some (.cells #[.int .i64 k,.int .i64 l,.int .i64 t] 68 (0,0)):=p▸b5.out;have b3:Went W Wd F F G G:=p▸⟨y.out.chg.drew,y.out.f,y.out.g⟩;have b7:=s.out.apart;clear p;have z:Chg NoS Wd (Wd.alloc (.cells #[.int .i64 k,.int .i64 l,.int .i64 t,.int .i64 c.clock,.int .i64 0,.int .i64 0,.int .i64 0,.int .i64 0,.map none,.int .i64 0,.int .i64 0,.int .i64 0,.int .i64 0,.int .i64 0,.int .i64 0,.int .i64 0,.int .i64 0,.slice none 0 0] 195)):=(Chg.refl _ _).alloc _;have a4:(Wd.alloc (.cells #[.int .i64 k,.int .i64 l,.int .i64 t,.int .i64 c.clock,.int .i64 0,.int .i64 0,.int .i64 0,.int .i64 0,.map none,.int .i64 0,.int .i64 0,.int .i64 0,.int .i64 0,.int .i64 0,.int .i64 0,.int .i64 0,.int .i64 0,.slice none 0 0] 195)).heap[Wd.heap.size]?=some (.cells (tA (eH c k l t) (.map none) (.slice none 0 0)).toArray 195 (0,0)):=aA Wd _;have e2:(Wd.alloc (.cells #[.int .i64 k,.int .i64 l,.int .i64 t,.int .i64 c.clock,.int .i64 0,.int .i64 0,.int .i64 0,.int .i64 0,.map none,.int .i64 0,.int .i64 0,.int .i64 0,.int .i64 0,.int .i64 0,.int .i64 0,.int .i64 0,.int .i64 0,.slice none 0 0] 195)).heap.size=Wd.heap.size+1:=by simp
   generalize a5:Wd.alloc (.cells #[.int .i64 k,.int .i64 l,.int .i64 t,.int .i64 c.clock,.int .i64 0,.int .i64 0,.int .i64 0,.int .i64 0,.map none,.int .i64 0,.int .i64 0,.int .i64 0,.int .i64 0,.int .i64 0,.int .i64 0,.int .i64 0,.int .i64 0,.slice none 0 0] 195)=W1 at*;have d7:=cB a5;have d:=(j.kept z (fun _ _ h=>h)).grow (F':=fun q=>F q∨q=Wd.heap.size) (fun _ h=>Or.inl h) (fun q a=>by
    rcases a with a|rfl
    ·have:=j.lt q a;omega
    ·omega)
   have c9:=d.cell 16 _ rfl;have d1:=d.froz 16;have O:=fM d.blk a4 (by decide);have a:=cZ W1 b 16 (.pointer (some ⟨Wd.heap.size,0,none⟩));have P:OnAt (W1.setCell ⟨b,16,none⟩ (.pointer (some ⟨Wd.heap.size,0,none⟩))) (fun q=>F q∨q=Wd.heap.size) Wd.heap.size (.map none) (.slice none 0 0) (eH c k l t):=
    ⟨a.kept a4 (fun e=>O e.symm),Or.inr rfl,Or.inl ⟨rfl,rfl,rfl⟩,⟨rfl,Or.inl ⟨rfl,rfl⟩⟩,fun q a=>by cases a⟩
   have n:=d.cells a {c with doing:=some (eH c k l t)} (.pointer (some ⟨Wd.heap.size,0,none⟩)) rfl rfl rfl rfl (cU d.blk 16 _) ⟨Wd.heap.size,.map none,.slice none 0 0,rfl,P,by simp,by simp,by simp⟩;have C:∀q,(F q∨q=Wd.heap.size)→¬G q:=fun q a hg=>by
    rcases a with a|rfl
    ·exact b7 q a hg
    ·have:=B.lt _ hg;omega
   have Q:=(B.kept z (fun _ _ h=>h)).kept a (fun q hg e=>C b d.fb (e▸hg));have Z:=a.kept (z.kept b0 (fun h=>h)) (fun e=>b9.out.1 (by have:=j.fb;rw[e];exact this));have a7:Went W (W1.setCell ⟨b,16,none⟩ (.pointer (some ⟨Wd.heap.size,0,none⟩))) F (fun q=>F q∨q=Wd.heap.size) G G:=b3.trans ⟨((z.mono (T:=F) (fun _ _ h=>h.elim)).trans a (fun x _ e=>e▸j.fb)).mono (fun _ _ h=>Or.inl h),fun q a=>by
    rcases a with a|rfl
    ·exact Or.inl a
    ·exact Or.inr (aE _),fun _ h=>Or.inl h⟩
   generalize b1:W1.setCell ⟨b,16,none⟩ (.pointer (some ⟨Wd.heap.size,0,none⟩))=W2 at*;have e3:=cB b1;have d9:=n.cell 10 _ rfl;have e7:W2.cell? ⟨b,7,none⟩=some (.int .i64 c.num):=n.cell 7 _ rfl;have c8:=cB a7;have d6:=cB Z;have HR:Hid (Calls prog 77 #[.pointer (some ⟨g,0,none⟩),evV (gJ c.num (eH c k l t))] W2.drew fun r W'=>r= .returned (.tuple #[])∧∃G',Sys W' (fun q=>F q∨q=Wd.heap.size) G' b g f av cv {c with doing:=some (eH c k l t)} (net++cJ [gJ c.num (eH c k l t)]) (tr++[gJ c.num (eH c k l t)])∧Chg G W2.drew W'∧∀q,G' q→G q∨W2.drew.heap.size≤q):=
    jE W2.drew _ G b g f av cv _ net tr (gJ c.num (eH c k l t)) (Sys.drew ⟨⟨ch,tk,d2,wt,_,n⟩,Q,C⟩) (by omega) (by omega)
   have d3:=cB (cF (W:=W2.drew) Z);clear a5 b1 d n Q P a z a4 e2 j B b0 b3 b7 C Z a7 c0 O e4 d4;go_wp2_with (first|rw[d7.out]|rw[e3.out]);refine dJ [0,0,0,1,0,0,0,1,1,0] (by kernel_rfl) (fun _ _ _ _=>rfl) ?_;simp only[cL,cK];iterate 8 (apply sB rfl rfl;·(intro x h;(try cases h rfl);go_simp;with_reducible rfl))
   try simp only[pA]
   refine cM (v:=opV k l t) rfl (fun x hx=>cG 68 _ rfl ⟨W.heap.size,0,none⟩ rfl [.int .i64 k,.int .i64 l,.int .i64 t] _ (by subst hx;exact d3.out) underlying68 rfl (by kernel_rfl)) ?_;iterate 1 (apply sB rfl rfl;·(intro x h;(try cases h rfl);go_simp;with_reducible rfl))
   refine cD ?_;try simp only[pA]
   go_wp2_with fail;refine HR.out.mono ?_;rintro r W3 ⟨rfl,G3,V,a0,b2⟩;have b4:=a0.of_drew.kept d6.out b9.out.2;have e0:=cB (cF b4);rw[fH _ (show(2:Int)≠1 by decide),aC]at V;have b6:=c8.out.trans ⟨a0.of_drew.mono (fun _ _ h=>Or.inr h),fun _ h=>Or.inl h,b2⟩;have Y:=cB V;have d8:=cB b6;obtain⟨⟨X,J,H,I,a3,A⟩,c5,c6⟩:=V;have d5:Hid (Calls prog 123 #[.pointer (some ⟨b,0,none⟩),opV k l t] W3 fun r W'=>r= .returned (.tuple #[])∧ClAt W' (fun q=>F q∨q=Wd.heap.size) b g f (dN {c with doing:=some (eH c k l t)} k l t) X J H I a3∧Chg (S3 J H I) W3 W'):=
    aCf W3 _ b g f {c with doing:=some (eH c k l t)} X J H I a3 k l t A u.out.c1 (by have:=u.out.c2;show c.clock≤1000000000000;omega) ht1 (by omega)
   have b8:=cB A.inF;clear a0 b2 b4 b6 A c5 c6 d9 e7 c9 d1;go_wp2_with (first|(refine cI rfl 68 _ rfl ⟨W.heap.size,0,none⟩ rfl [.int .i64 k,.int .i64 l,.int .i64 t] _ e0.out underlying68 rfl (by kernel_rfl) ?_)|(go_at_call 123;refine d5.out.mono ?_;rintro r W4 ⟨rfl,k1,k2⟩;refine cE ?_));have c3:Sys W4 (fun q=>F q∨q=Wd.heap.size) G3 b g f av cv (dN {c with doing:=some (eH c k l t)} k l t) net (tr++[gJ c.num (eH c k l t)]):=⟨⟨X,J,H,I,a3,k1⟩,Y.out.nt.kept k2 (fun q a hs=>Y.out.apart q (b8.out q hs) a),Y.out.apart⟩;have a6:=d8.out.trans (⟨k2.mono (fun q _ hs=>Or.inl (b8.out q hs)),fun _ h=>Or.inl h,fun _ h=>Or.inl h⟩:Went W3 W4 (fun q=>F q∨q=Wd.heap.size) (fun q=>F q∨q=Wd.heap.size) G3 G3);have U:=aBJ {c with doing:=some (eH c k l t)} k l t;have a8:xL (dN {c with doing:=some (eH c k l t)} k l t):=by
    obtain⟨s1,s2,s3,s4,_⟩:=U;have q:=u.out;refine⟨?_,?_,?_,?_,?_,?_,?_,?_⟩
    ·rw[s1];exact q.n1
    ·rw[s1];exact q.n2
    ·rw[s2];exact q.i1
    ·rw[s2];exact q.i2
    ·rw[s3];exact q.c1
    ·rw[s3];exact q.c2
    ·rw[s4];exact q.r1
    ·rw[s4];exact q.r2
   have c7:=cB (oW W4 _ G3 b g f av cv (dN {c with doing:=some (eH c k l t)} k l t) (eH c k l t) net (tr++[gJ c.num (eH c k l t)]) c3 U.2.2.2.2.1 hf1 hf2 a8 ⟨u.out.c1,u.out.c2,ht1,ht2,by show(0:Int)≤0;omega,by show(0:Int)≤100000000000;omega,by show(0:Int)≤0;omega,by show(0:Int)≤100000000000;omega⟩ hn (by rw[aD,aK];omega));have d0:=cB a6;clear c3 a6 U a8 k1 k2;refine cB ?_;go_wp2_with (first|(go_at_call 124;refine c7.out.mono ?_;rintro r W5 ⟨rfl,k5⟩));go_ret;refine⟨rfl,After.trans d0.out ?_⟩;rw[aS]at k5;have e:cJ (gJ c.num (eH c k l t)::fV f (dN {c with doing:=some (eH c k l t)} k l t) (eH c k l t))=cJ (fV f (dN {c with doing:=some (eH c k l t)} k l t) (eH c k l t)):=by
    simp[cJ,qL,gJ]
   rw[e];exact k5
theorem uN{B:Nat}{w w':World}{row:Option Nat}(h:w.grownBy w' row)(hr:∀g,row=some g→B≤g)(hB:B≤w.heap.size):Below B w w':=
 ⟨h.os,h.tape,h.output,h.size,fun k hk=>h.block k (aG hk hB) (fun e=>absurd hk (Nat.not_lt.2 (hr k e.symm)))⟩
section
variable (W:World)
theorem aBZ:Calls prog 79 #[.slice none 0 0] W fun r W'=>r= .returned (.slice none 0 0)∧W'=W:=by
 have a:∀w:World,(binOp BinOp.eql 88 (.slice none 0 0) (.slice none 0 0)).run prog w= .ok (.bool true) w:=fun w=>Lib.run_eql_slice_nil w _ _ none 0 0 0 0 underlying88;go_enter func79,ntmps79;go_wp2_with fail;go_ret;exact⟨rfl,rfl⟩
theorem aB7(A:Addr)(c:Nat)(l:List Mg)(hn:l.length≤100000000000)(hl:∀j u,(cQ mgL l)[j]?=some u→W.cell? (A.add j)=some u):
 Calls prog 79 #[.slice (some A) l.length c] W fun r W'=>∃v,r= .returned v∧W'.ownsRow W.heap.size 66 10 v l.length (cQ mgL l)∧Below W.heap.size W W':=by
 obtain⟨F,z,q,t,o⟩:=info_parts tR;have H:∀w:World,(binOp BinOp.eql 88 (.slice (some A) l.length c) (.slice none 0 0)).run prog w= .ok (.bool false) w:=fun w=>Lib.run_eql_slice_nil w _ _ (some A) l.length c 0 0 underlying88;have E:Hid (∀j u,(cQ mgL l)[j]?=some u→(W.alloc (.cells #[] 66)).cell? (A.add j)=some u):=fun j u hj=>Lib.cell?_alloc_some _ (hl j u hj);have i:Below W.heap.size W (W.alloc (.cells #[] 66)):=(aJ _ _).alloc (aE _) _;have f:(W.alloc (.cells #[] 66)).ownsRow W.heap.size 66 10 (.slice (some ⟨W.heap.size,0,none⟩) 0 0) 0 []:=⟨rfl,Or.inr ⟨W.heap.size,0,#[],rfl,aE _,aA W _,aE _,by decide,rfl,rfl⟩⟩;have b:∀u ∈ cQ mgL l,u.oneCell'=true:=fun u hu=>by
  obtain⟨m,_,G⟩:=List.mem_flatMap.1 hu;exact vC m u G
 have B:=cB i;have C:=cB f;have D:=cB b;have g:(W.alloc (.cells #[] 66)).heap.size=W.heap.size+1:=by simp
 generalize d:W.alloc (.cells #[] 66)=W1 at*;have y:=cB d;have e:=cB g;clear hl i f b d g;go_enter func79,ntmps79;go_wp2_with (first|rw[y.out]|(refine wpList_append_own_at _ rfl _ _ 88 rfl W.heap.size 66 F _ 10 80 underlying88 z q t o rfl (by decide) (.slice (some ⟨W.heap.size,0,none⟩) 0 0) 0 [] rfl C.out A l.length c (cQ mgL l) rfl (eL mgL (k:=10) (fun _=>rfl) l) E.out D.out (by unfold maxLen;omega) (by omega) (by have:=e.out;omega) ?_;intro J I a h n p;refine cE ?_));refine cB ?_;rw[List.nil_append,Nat.zero_add]at a;have x:=cB a;have s:=cB (B.out.trans (uN h (fun k hk=>by cases hk;exact aE _) (by have:=e.out;omega)));clear a h n p;go_wp2_with fail;go_ret;exact⟨_,rfl,x.out,s.out⟩
theorem aCS:Calls prog 49 #[.slice none 0 0] W fun r W'=>r= .returned (.slice none 0 0)∧W'=W:=by
 have a:∀w:World,(binOp BinOp.eql 43 (.slice none 0 0) (.slice none 0 0)).run prog w= .ok (.bool true) w:=fun w=>Lib.run_eql_slice_nil w _ _ none 0 0 0 0 underlying43;go_enter func49,ntmps49;go_wp2_with fail;go_ret;exact⟨rfl,rfl⟩
theorem aCA(A:Addr)(c:Nat)(l:List Ev)(hn:l.length≤100000000000)(hl:∀j u,(cQ evL l)[j]?=some u→W.cell? (A.add j)=some u):
 Calls prog 49 #[.slice (some A) l.length c] W fun r W'=>∃v,r= .returned v∧W'.ownsRow W.heap.size 70 19 v l.length (cQ evL l)∧Below W.heap.size W W':=by
 obtain⟨F,z,q,t,o⟩:=info_parts aEs;have H:∀w:World,(binOp BinOp.eql 43 (.slice (some A) l.length c) (.slice none 0 0)).run prog w= .ok (.bool false) w:=fun w=>Lib.run_eql_slice_nil w _ _ (some A) l.length c 0 0 underlying43;have E:Hid (∀j u,(cQ evL l)[j]?=some u→(W.alloc (.cells #[] 70)).cell? (A.add j)=some u):=fun j u hj=>Lib.cell?_alloc_some _ (hl j u hj);have i:Below W.heap.size W (W.alloc (.cells #[] 70)):=(aJ _ _).alloc (aE _) _;have f:(W.alloc (.cells #[] 70)).ownsRow W.heap.size 70 19 (.slice (some ⟨W.heap.size,0,none⟩) 0 0) 0 []:=⟨rfl,Or.inr ⟨W.heap.size,0,#[],rfl,aE _,aA W _,aE _,by decide,rfl,rfl⟩⟩;have b:∀u ∈ cQ evL l,u.oneCell'=true:=fun u hu=>by
  obtain⟨m,_,G⟩:=List.mem_flatMap.1 hu;exact aEt m u G
 have B:=cB i;have C:=cB f;have D:=cB b;have g:(W.alloc (.cells #[] 70)).heap.size=W.heap.size+1:=by simp
 generalize d:W.alloc (.cells #[] 70)=W1 at*;have y:=cB d;have e:=cB g;clear hl i f b d g;go_enter func49,ntmps49;go_wp2_with (first|rw[y.out]|(refine wpList_append_own_at _ rfl _ _ 43 rfl W.heap.size 70 F _ 19 152 underlying43 z q t o rfl (by decide) (.slice (some ⟨W.heap.size,0,none⟩) 0 0) 0 [] rfl C.out A l.length c (cQ evL l) rfl (eL evL (k:=19) (fun _=>rfl) l) E.out D.out (by unfold maxLen;omega) (by omega) (by have:=e.out;omega) ?_;intro J I a h n p;refine cE ?_));refine cB ?_;rw[List.nil_append,Nat.zero_add]at a;have x:=cB a;have s:=cB (B.out.trans (uN h (fun k hk=>by cases hk;exact aE _) (by have:=e.out;omega)));clear a h n p;go_wp2_with fail;go_ret;exact⟨_,rfl,x.out,s.out⟩
end
end Go.Proofs.YtbbdgokdfhdpiaaGreatDoor
