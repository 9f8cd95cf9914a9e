/- A part of the proof: PAc3, PAc4, PAc9, MemMo, Saf1, KpFl. -/
import Derived.Test.YtbbdgokdfhdpiaaGreatDoorD2
import Derived.Test.YtbbdgokdfhdpiaaGreatDoorD11
namespace Go.Proofs.YtbbdgokdfhdpiaaGreatDoor
set_option linter.all false
set_option maxRecDepth 100000
set_option maxHeartbeats 40000000
open Go.Proofs.Tryz Go.RowKit
section
open Go.RowKit Go.Maps
theorem xI(a b:ByteArray):Lib.strCells (a++b)=Lib.strCells a++Lib.strCells b:=by
 simp[Lib.strCells,ByteArray.data_append]
theorem aGr{w:World}{base:Nat}{e:TypeId}{size:Nat}{v:Value}{n:Nat}{xs:List Value}(h:w.ownsRow base e size v n xs):∃p cap,v= .slice p n cap∧(0<n→∃g cur,p=some ⟨g,0,none⟩∧base≤g∧w.heap[g]?=some (.cells cur e (0,0))):=by
 rcases jW h with⟨rfl,rfl⟩|⟨g,cap,cur,rfl,b,a⟩
 ·exact⟨none,0,rfl,fun h=>absurd h (by omega)⟩
 ·exact⟨some ⟨g,0,none⟩,cap,rfl,fun _=>⟨g,cur,rfl,b,a⟩⟩
theorem aHu{W:World}{base g n cap:Nat}{rs:List Rw}(h:W.ownsRow base 58 7 (.slice (some ⟨g,0,none⟩) n cap) n (cellsOf rs))(hn:n=rs.length)(i:Nat)(hi:i<rs.length):∀j y,(rwL rs[i])[j]?=some y→W.cell? ((⟨g,i*7,none⟩:Addr).add j)=some y:=by
 intro j y b;have e:(⟨g,i*7,none⟩:Addr).add j=⟨g,i*7+j,none⟩:=by unfold Addr.add;split<;>simp_all
 have a:j<7:=(aF.1 b).1;rw[e,h.cellAt (i*7+j) (by omega),wW rs i hi j a];exact b
theorem aAR(rs:List Rw):(gQ rs 4).length≤4:=by
 rw[sY];exact nA rs
theorem vS(r:Rw):(dR r).length≤25:=by
 unfold dR;split
 ·rw[oK];omega
 ·simp
theorem wG:∀rs:List Rw,(rs.flatMap dR).length≤25*rs.length
 |[]=>by simp
 |r::rs=>by
  have:=wG rs;have:=vS r;simp only[List.flatMap_cons,aD,bH];omega
theorem wL(W:World)(F:Nat→Prop)(b g:Nat)(a:Ac)(h:Acc W F b g a)(hok:wB a):
 Calls prog 199 #[.pointer (some ⟨b,0,none⟩)] W fun e W'=>e= .returned (.string (strOfNums (gU a.rows)))∧Chg NoS W W':=by
 obtain⟨FD,d,tb,h,d5,O⟩:=h;have I:Chg NoS W (W.alloc (.cells #[.pointer none,.slice none 0 0] 312)):=(Chg.refl _ _).alloc _;have R:(W.alloc (.cells #[.pointer none,.slice none 0 0] 312)).heap[W.heap.size]?=some (.cells #[.pointer none,.slice none 0 0] 312 (0,0)):=aA W _;have Q:(W.alloc (.cells #[.pointer none,.slice none 0 0] 312)).heap.size=W.heap.size+1:=by simp
 generalize a3:W.alloc (.cells #[.pointer none,.slice none 0 0] 312)=W0 at*;have c7:=cB a3;have h0:=h.kept I (fun _ _ h=>h);have c3:=h0.cell 3 _ rfl;have L:=cB (aAF tb 4 a.rows W0 h0.table hok.lk);have b6:=cB I;have c6:=cB R;have b4:=cB Q;have a2:=aAR a.rows;obtain⟨T,hT⟩:=aJ7 (gQ a.rows 4);have eT:gU a.rows=T.flatMap dR:=by rw[hT];rfl
 rw[eT];rw[←hT]at a2;have HT:=cB hT;clear eT hT a3 h0 h d5 O hok I R Q;go_enter func199,ntmps199;go_wp2_with (first|rw[c7.out]|(go_at_call 62;refine L.out.mono ?_;rintro e W1 ⟨v,rfl,f,c⟩;obtain⟨pv,d4,rfl,B⟩:=aGr f;refine cE ?_));rw[←HT.out]at f B⊢;obtain⟨n,hn⟩:=aJ7 (T.length);rw[←hn]at f B⊢a2;have z:=cB hn;have a6:=(Chg.below' c).kept c6.out (fun h=>h);have a7:=b6.out.trans (S:=NoS) (Chg.below' c) (fun _ _ h=>h);have G:BldAt W.heap.size W1 W.heap.size (.slice none 0 0) (Lib.strCells (strOfNums ((T.take 0).flatMap dR))):=⟨⟨_,Or.inl rfl,a6⟩,⟨rfl,Or.inl ⟨rfl,rfl⟩⟩,(by intro h;cases h),aE _⟩;have a9:=cB f;have a8:=cB G;have b9:=cB a7;have c9:=cB B;have E:W.heap.size+1≤W1.heap.size:=by have:=(Chg.below' c).size;have:=b4.out;omega
 have d6:=cB E;clear hn f B a6 a7 G c c3 E;refine cB ?_;go_wp2_with fail;go_loopw [12] (fun i wr=>∃(k:Nat) (bv:Value),k≤n∧i= .int .i64 k∧BldAt W.heap.size wr W.heap.size bv (Lib.strCells (strOfNums ((T.take k).flatMap dR)))∧wr.ownsRow W0.heap.size 58 7 (.slice pv n d4) n (cellsOf T)∧Chg NoS W wr) (fun i _=>n-(intOf i).toNat)
 case atStart=>exact⟨0,_,aI _,rfl,a8.out,a9.out,b9.out⟩
 case round=>
  obtain⟨k,bv,hk,rfl,Y,f,a1⟩:=hrel;have m:=cB Y;have a0:=cB f;have A:=cB a1;clear Y f a1;by_cases O:k<n
  ·have b8:(k:Int)<(n:Int):=by omega
   obtain⟨g',d7,rfl,d8,_⟩:=c9.out (by omega);have Z:k<T.length:=by have:=z.out;omega
   obtain⟨r,hr⟩:=aJ7 (T[k]);have HR:Hid (T.take (k+1)=T.take k++[r]):=by
    show _=_;rw[hr,List.take_succ_eq_append_getElem Z]
   have K:Hid (∀j y,(rwL r)[j]?=some y→wr.cell? ((⟨g',k*7,none⟩:Addr).add j)=some y):=by
    rw[hr];exact aHu a0.out z.out k Z
   clear hr;go_wp2_with (first|(refine cI rfl 58 _ rfl ⟨g',k*7,none⟩ rfl (rwL r) _ K.out underlying58 rfl (by kernel_rfl) ?_;refine cE ?_));have V:=aA wr (.cells #[.int .i64 0,.int .i64 0,.int .i64 0,.int .i64 0,.int .i64 0,.int .i64 0,.int .i64 0] 58);have U:Chg NoS wr (wr.alloc (.cells #[.int .i64 0,.int .i64 0,.int .i64 0,.int .i64 0,.int .i64 0,.int .i64 0,.int .i64 0] 58)):=(Chg.refl _ _).alloc _;generalize P:wr.alloc (.cells #[.int .i64 0,.int .i64 0,.int .i64 0,.int .i64 0,.int .i64 0,.int .i64 0,.int .i64 0] 58)=W2 at*;have d2:=cB P;have c2:=cB U;clear P U;refine cB ?_;go_wp2_with (first|rw[d2.out]|(refine cH rfl 58 _ _ rfl wr.heap.size 0 58 _ _ (rwL r) rfl rfl V (by kernel_rfl) (by simp[Value.oneCell']) (by simp) rfl ?_;intro W3 X b2 a4;refine cE ?_));have H:=c2.out.trans (S:=NoS) X (fun x hx e=>by omega);have c5:=cB (cF a4);have c0:=cB H;have b5:Hid (Calls prog 100 #[rwV r] W3 fun e w'=>e= .returned (.string (strOfNums (dR r)))∧Below W3.heap.size W3 w'):=aDn r W3;clear X b2 a4 V H;refine cB ?_;go_wp2_with (first|(refine cI rfl 58 _ rfl ⟨wr.heap.size,0,none⟩ rfl (rwL r) _ c5.out underlying58 rfl (by kernel_rfl) ?_)|(go_at_call 100;refine b5.out.mono ?_;rintro e W4 ⟨rfl,c⟩;refine cE ?_));have o:=c0.out.trans (S:=NoS) (Chg.below' c) (fun _ _ h=>h);have s:BldAt W.heap.size W4 W.heap.size bv (Lib.strCells (strOfNums ((T.take k).flatMap dR))):=by
    obtain⟨p,hp,hb⟩:=m.out.blk;exact⟨⟨p,hp,o.kept hb (fun h=>h)⟩,o.row m.out.own (fun _ _ h=>h),m.out.ne,m.out.hB⟩
   have c1:=wG (T.take k);have d1:(T.take k).length≤4:=by rw[bD];have:=z.out;omega
   have c4:=vS r;have b3:=cB (xE W.heap.size W.heap.size bv (Lib.strCells (strOfNums ((T.take k).flatMap dR))) (strOfNums (dR r)) W4 s (by rw[Lib.strCells_length,fJ,fJ];omega) (by have:=A.out.size;have:=o.size;omega));have N:=cB o;have t:=cB s;clear o s c1 d1 c4 c;refine cB ?_;go_wp2_with (first|(go_at_call 222;refine b3.out.mono ?_;rintro e W5 ⟨rfl,M,D,J⟩;refine cE ?_));have u:BldAt W.heap.size W5 W.heap.size M (Lib.strCells (strOfNums ((T.take (k+1)).flatMap dR))):=by
    rw[HR.out,List.flatMap_append,←lY,xI];simpa using D
   have l:=N.out.row a0.out (fun _ _ h=>h);have w:=J.row l (fun q hq h=>by
    rcases h with h|h
    ·obtain⟨p,_,hb⟩:=t.out.blk;exact fS l hb (by decide) q hq h
    ·exact pO l t.out.own (by decide) q hq h)
   have C:Chg NoS W W5:=by
    refine(A.out.trans (S:=NoS) N.out (fun _ _ h=>h)).trans J (fun x hx h=>?_);rcases h with h|h
    ·omega
    ·have:=(t.out.own.lt x h).1;omega
   have d3:=cB u;have b7:=cB w;have d0:=cB C;clear D J u l w C;refine cB ?_;go_wp2_with fail;go_roundw
   case rel=>exact⟨k+1,M,by omega,by go_num,d3.out,b7.out,d0.out⟩
   case measure=>simp[intOf];omega
  ·have b8:¬(k:Int)<(n:Int):=by omega
   have b1:k=n:=by omega
   subst b1;have a5:T.take k=T:=aY (by have:=z.out;omega);have b0:=cB (Builder_String_any W.heap.size W.heap.size (strOfNums (T.flatMap dR)).data.toList wr (by have:=m.out.is;rw[a5]at this;exact this) A.out.size);clear a5;go_wp2_with (first|(go_at_call 223;refine b0.out.mono ?_;rintro e W5 ⟨rfl,c⟩;refine cE ?_));have c8:=cB (A.out.trans (S:=NoS) (⟨c.os,c.tape,c.output,c.size,fun x hx hn=>c.block x (by omega)⟩:Chg (fun x=>W.heap.size≤x) wr W5) (fun x hx h=>by omega));clear c;refine cB ?_;go_wp2_with fail;go_ret;exact⟨rfl,c8.out⟩
end
section
open Go.RowKit Go.Maps
def Nx(W:World)(F:Nat→Prop)(b g d tb:Nat)(a:Ac)(W':World):Prop:=∃FD':Nat→Prop,∃F':Nat→Prop,AcAt W' FD' b g d tb a∧(∀x,InF FD' b tb x→F' x)∧(∀x,F' x→x<W'.heap.size)∧Chg F W W'∧∀x,F' x→F x∨W.heap.size≤x
theorem Nx.to{W W':World}{F:Nat→Prop}{b g d tb:Nat}{a:Ac}(h:Nx W F b g d tb a W'):AcTo W F b g a W':=by
 obtain⟨c,e,j,f,l,i,k⟩:=h;exact⟨e,⟨c,d,tb,j,f,l⟩,i,k⟩
theorem Nx.of{W:World}{FD F:Nat→Prop}{b g d tb:Nat}{a:Ac}(h:AcAt W FD b g d tb a)(hin:∀x,InF FD b tb x→F x)(hlt:∀x,F x→x<W.heap.size):Nx W F b g d tb a W:=⟨FD,F,h,hin,hlt,Chg.refl _ _,fun _ h=>Or.inl h⟩
theorem Nx.trans{A B C:World}{F F1:Nat→Prop}{b g d tb:Nat}{a:Ac}(hc:Chg F A B)(hf:∀x,F1 x→F x∨A.heap.size≤x)(h:Nx B F1 b g d tb a C):Nx A F b g d tb a C:=by
 obtain⟨c,e,j,f,l,i,k⟩:=h;refine⟨c,e,j,f,l,hc.trans i (fun x hx h'=>?_),fun x hx=>?_⟩
 ·rcases hf x h' with h|h
  ·exact h
  ·omega
 ·rcases k x hx with h|h
  ·exact hf x h
  ·right;have:=hc.size;omega
theorem Nx.nos{A B C:World}{F:Nat→Prop}{b g d tb:Nat}{a:Ac}(h:Nx A F b g d tb a B)(hc:Chg NoS B C):Nx A F b g d tb a C:=by
 obtain⟨c,e,j,f,l,i,k⟩:=h;exact⟨c,e,j.kept hc (fun _ _ h=>h),f,fun x hx=>aG (l x hx) hc.size,i.nos' hc,k⟩
theorem aAa{f:FuncId}{args:Array Value}{v ev:Value}{W0 W:World}{FD F F0:Nat→Prop}{b g d tb:Nat}{a:Ac}{p:Dk×How}(h:AcAt W FD b g d tb a)(hin:∀x,InF FD b tb x→F x)(hlt:∀x,F x→x<W.heap.size)(hc0:Chg F0 W0 W)(hf0:∀x,F x→F0 x∨W0.heap.size≤x)
 (hc:Calls prog f args W fun e W'=>EndsK v ev W FD d p e W'):match p.2 with
 |.none=>Calls prog f args W fun e W'=>e= .returned v∧Nx W0 F0 b g d tb {a with dk:=p.1} W'
 |(.some (.some q))=>Calls prog f args W fun e W'=>e= .panicked (pI q)∧Nx W0 F0 b g d tb {a with dk:=p.1} W'
 |(.some .none)=>Calls prog f args W fun e W'=>∃fb,e= .returned (kQ fb)∧kO W' fb ev∧W0.heap.size≤fb∧Nx W0 F0 b g d tb {a with dk:=p.1} W':=by
 have hn:∀W',DkTo W FD d p.1 W'→Nx W0 F0 b g d tb {a with dk:=p.1} W':=fun W' ht=>by
  obtain⟨FD',F',h1,h2,h3,h4,h5,h6⟩:=h.to hin hlt ht;exact Nx.trans hc0 hf0 ⟨FD',F',h1,h2,h3,h4,h6⟩
 have hk:=aD2 hc;obtain⟨k,h1⟩:=p;cases h1 using lS with
 |fine=>exact hk.mono fun e W' ⟨h1,h2⟩=>⟨h1,hn _ h2⟩
 |dies q=>exact hk.mono fun e W' ⟨h1,h2⟩=>⟨h1,hn _ h2⟩
 |full=>exact hk.mono fun e W' ⟨b,h2,h3,h4,h5⟩=>⟨b,h2,h3,bU hc0.size h4,hn _ h5⟩
theorem oL{k k1:Dk}{go:Dk→Dk}(h:dH k go=(k1,.none)):∃k0,fR k=some k0∧k1=go k0:=by
 unfold dH at h;cases hs:fR k with
 |none=>rw[hs]at h;cases h
 |some k0=>rw[hs]at h;exact⟨k0,rfl,(Prod.mk.inj h).1.symm⟩
theorem sK{k k1:Dk}{s:List Int}{put:Dk→List Int→Dk}(h:dQ k s put=(k1,.none)):∃k0,fR k=some k0∧k1=put k0 s:=by
 unfold dQ at h;cases hs:fR k with
 |none=>rw[hs]at h;cases h
 |some k0=>
  rw[hs]at h;dsimp only at h;split at h
  ·cases h
  ·exact⟨k0,rfl,(Prod.mk.inj h).1.symm⟩
theorem oM{k:Dk}{go:Dk→Dk}:(dH k go).2≠(.some .none):=by
 unfold dH;cases fR k<;>simp
theorem aAG{k:Dk}(h:gV k):gV (gG k):=by
 unfold gG;split
 ·exact h
 ·exact h
theorem nH(W:World)(F:Nat→Prop)(B:Nat)(eb:Addr)(b g:Nat)(a:Ac)(h:Acc W F b g a)(hgl:GlAt W B eb)(hFB:∀x,F x→B≤x)(hok:wB a)(hnew:a.dk.new=none)(hold:a.dk.old=none):
 Calls prog 174 #[.pointer (some ⟨b,0,none⟩)] W fun e W'=>qG .nilIface (mZ eb) W F b g (dA a) e W':=by
 obtain⟨FD,d,tb,h,d7,b3⟩:=h;obtain⟨s,hs⟩:=aJ7 (gU a.rows);have e7:=cB hs;have b5:(s.length:Int)≤100:=by
  have N:=wG (gQ a.rows 4);have J:=aAR a.rows;rw[hs];unfold gU;omega
 have b4:∀k hw,fZ a.dk s=(k,hw)→dA a=({a with dk:=k},hw):=fun k hw e=>by unfold dA;rw[←hs,e]
 have z:=cB b4;have e5:=cB b5;have c2:=h.cell 2 _ rfl;have b2:=cB (aAa h d7 b3 (Chg.refl F W) (fun _ h=>Or.inl h) (aDJ W FD d a.dk (mZ eb) h.disk hok.fo hnew hold));have M:=cB (aJZ hgl hFB hok hnew hold);clear b4 hs b5 h d7 b3 hgl hFB hok hnew hold;go_enter func174,ntmps174;obtain⟨m,n⟩:=aJ8 ((dH a.dk kM).1);have N:=b2.out;rw[n]at N;have d1:=cB n;clear n b2;cases hp:(dH a.dk kM).2 using lS with
 |full=>exact absurd hp oM
 |dies q=>
  have e:dH a.dk kM=(m,(.some (.some q))):=by rw[←d1.out,←hp]
  have j:Hid (dA a=({a with dk:=m},(.some (.some q)))):=z.out _ _ (by unfold fZ;rw[e];rfl);rw[hp]at N;have H1:=cB N;clear N hp e;go_wp2_with (first|(go_at_call 198;refine H1.out.mono ?_;rintro e W1 ⟨rfl,c⟩;refine cE ?_));have y:=cB c;clear c;refine cB ?_;go_wp2_with fail;refine⟨rfl,?_⟩;rw[j.out];exact⟨y.out.to,rfl⟩
 |fine=>
  have e1:dH a.dk kM=(m,.none):=by rw[←d1.out,←hp]
  rw[hp]at N;have H1:=cB N;have l:=cB e1;clear N hp e1;go_wp2_with (first|(go_at_call 198;refine H1.out.mono ?_;rintro e W1 ⟨rfl,S,F1,a1,i1,l1,q1,f1⟩;refine cE ?_));obtain⟨k0,f,n⟩:=oL l.out;have i:=gM f;have a9:gV m:=by have G:=jS f M.out.2.2.1.fo;rw[n];exact G
  have c1:m.old=none:=by have G:=i.2.2.2.2.trans M.out.2.2.2.2;rw[n];exact G
  have b1:m.new=some ([],0):=by rw[n];rfl
  have V:m.log=a.dk.log:=by rw[n];exact i.2.1
  have L:wB {a with dk:=m}:={M.out.2.2.1 with fo:=a9,l1:=by show((m.log.length:Nat):Int)≤_;rw[V];exact M.out.2.2.1.l1};have c7:=cB (fun x (hx:x=W1.drew)=>hx▸wL W1.drew F1 b g {a with dk:=m} ⟨S,d,tb,a1.kept (Chg.refl NoS W1).drew (fun _ _ h=>h),i1,l1⟩ L);have d2:=a1.cell 2 _ rfl;have o:=cB (aJZ a1 i1 l1 q1 f1);have p:=cB (aJZ a9 c1 b1 V L);clear a1 i1 l1 q1 f1 a9 c1 b1 V L i f n c2;refine cB ?_;go_wp2_with fail;refine rlx [0,0,0,1,0,2] (fun x=>x.cell? ⟨b,2,none⟩=some (.pointer (some ⟨d,0,none⟩))) (by kernel_rfl) (fun _ _ _ _=>rfl) ?_ ?_
  ·exact d2
  simp only[cL,cK];iterate 5 (apply sB rfl rfl;·(intro x h;(try have h:=h rfl);(try dsimp only at h);go_simp;with_reducible rfl))
  try simp only[pA]
  refine dC rfl (fun C hC=>?_);go_simp;refine(c7.out _ rfl).mono ?_;rintro e W2 ⟨rfl,b7⟩;have u:=b7.of_drew;have a2:=o.out.1.kept u (fun _ _ h=>h);refine hC _ _ (a2.cell 2 _ rfl) ?_;clear hC C;refine cD ?_;have es:gU ({a with dk:=m}:Ac).rows=s:=e7.out.symm;rw[es];have E:=M.out.1.kept ((o.out.2.2.2.1.nos' u:Chg F W W2)) (fun x hx=>M.out.2.1 x hx);have O:¬S 0:=fun hx=>by
   rcases o.out.2.2.2.2 0 (o.out.2.1 0 (Or.inl hx))with h|h
   ·have:=M.out.2.1 0 h;have:=E.b0;omega
   ·have:=M.out.1.hB;have:=E.b0;omega
  have e6:hP m=0:=by unfold hP;rw[p.out.2.2.1];rfl
  have b9:=cB (aAa a2 o.out.2.1 (fun x hx=>aG (o.out.2.2.1 x hx) u.size) (o.out.2.2.2.1.nos' u:Chg F W W2) o.out.2.2.2.2
   (aAM W2 S d m _ _ s [] 0 a2.disk p.out.1 E.err O p.out.2.2.1 p.out.2.1 (by have:=e5.out;omega) (by rw[p.out.2.2.2.1];have:=M.out.2.2.1.l1;omega) (by omega)))
  clear b7 u a2 E O e6 es d2 c7;obtain⟨w,r⟩:=aJ8 ((dQ m s iQ).1);have J:=b9.out;rw[r]at J;have a7:=cB r;clear r b9;cases hp:(dQ m s iQ).2 using lS with
  |dies q=>
   have e:dQ m s iQ=(w,(.some (.some q))):=by rw[←a7.out,←hp]
   have j:Hid (dA a=({a with dk:=w},(.some (.some q)))):=z.out _ _ (by unfold fZ;rw[l.out];unfold iF;dsimp only;rw[e]);rw[hp]at J;have H2:=cB J;clear J hp e;go_wp2_with (first|(go_at_call 196;refine H2.out.mono ?_;rintro e W3 ⟨rfl,c⟩;refine cE ?_));have y:=cB c;clear c;refine cB ?_;go_wp2_with fail;refine⟨rfl,?_⟩;rw[j.out];exact⟨y.out.to,rfl⟩
  |full=>
   have e:dQ m s iQ=(w,(.some .none)):=by rw[←a7.out,←hp]
   have j:Hid (dA a=({a with dk:=w},(.some .none))):=z.out _ _ (by unfold fZ;rw[l.out];unfold iF;dsimp only;rw[e]);rw[hp]at J;have H2:=cB J;clear J hp e;go_wp2_with (first|(go_at_call 196;refine H2.out.mono ?_;rintro e W3 ⟨fb,rfl,d4,b8,c⟩;refine cE ?_));have y:=cB (aJX c d4 b8);clear c d4 b8;refine cB ?_;go_wp2_with fail;go_ret;rw[j.out];exact⟨y.out.1.to,fb,rfl,y.out.2.1,y.out.2.2⟩
  |fine=>
   have e2:dQ m s iQ=(w,.none):=by rw[←a7.out,←hp]
   rw[hp]at J;have H2:=cB J;have v:=cB e2;clear J hp e2;go_wp2_with (first|(go_at_call 196;refine H2.out.mono ?_;rintro e W3 ⟨rfl,d9,F3,a3,i3,l3,q3,f3⟩;refine cE ?_));obtain⟨k0,f,r⟩:=sK v.out;have i:=gM f;have Y:gV w:=by have G:=jS f p.out.1;rw[r];exact G
   have Z:w.old=none:=by have G:=i.2.2.2.2.trans p.out.2.1;rw[r];exact G
   have a8:w.new=some (s,0):=by rw[r];unfold iQ;rw[i.2.2.2.1,p.out.2.2.1];rfl
   have c3:=a3.cell 2 _ rfl;have d0:=cB (aAa a3 i3 l3 q3 f3 (aBU W3 d9 d w (mZ eb) s 0 a3.disk Y a8 Z));have U:=cB (aJX Y Z a8);clear a3 i3 l3 q3 f3 Y Z a8 i f r;obtain⟨H,t⟩:=aJ8 ((dH w iD).1);have P:=d0.out;rw[t]at P;have c0:=cB t;clear t d0;refine cB ?_;cases hp:(dH w iD).2 using lS with
   |full=>exact absurd hp oM
   |dies q=>
    have e:dH w iD=(H,(.some (.some q))):=by rw[←c0.out,←hp]
    have j:Hid (dA a=({a with dk:=H},(.some (.some q)))):=z.out _ _ (by unfold fZ;rw[l.out];unfold iF;dsimp only;rw[v.out];dsimp only;rw[e]);rw[hp]at P;have H3:=cB P;clear P hp e;go_wp2_with (first|(go_at_call 197;refine H3.out.mono ?_;rintro e W4 ⟨rfl,c⟩;refine cE ?_));have y:=cB c;clear c;refine cB ?_;go_wp2_with fail;refine⟨rfl,?_⟩;rw[j.out];exact⟨y.out.to,rfl⟩
   |fine=>
    have e3:dH w iD=(H,.none):=by rw[←c0.out,←hp]
    rw[hp]at P;have H3:=cB P;have D:=cB e3;clear P hp e3;go_wp2_with (first|(go_at_call 197;refine H3.out.mono ?_;rintro e W4 ⟨rfl,e0,F4,a4,i4,l4,q4,f4⟩;refine cE ?_));obtain⟨k0,f,t⟩:=oL D.out;have i:=gM f;have T:gV H:=by have G:=jS f U.out.1;rw[t];exact G
    have a6:H.old=none:=by have G:=i.2.2.2.2.trans U.out.2.1;rw[t];exact G
    have X:H.new=some (s,(s.length:Int)):=by rw[t];unfold iD;rw[i.2.2.2.1,U.out.2.2]
    have c4:=a4.cell 2 _ rfl;have d5:=cB (aAa a4 i4 l4 q4 f4 (aDN W4 e0 d H (mZ eb) s s.length a4.disk T X a6));have d6:=cB (aJX T a6 X);clear a4 i4 l4 q4 f4 T a6 X i f t c3;obtain⟨I,A⟩:=aJ8 ((dH H gG).1);have R:=d5.out;rw[A]at R;have c8:=cB A;clear A d5;refine cB ?_;cases hp:(dH H gG).2 using lS with
    |full=>exact absurd hp oM
    |dies q=>
     have e:dH H gG=(I,(.some (.some q))):=by rw[←c8.out,←hp]
     have j:Hid (dA a=({a with dk:=I},(.some (.some q)))):=z.out _ _ (by unfold fZ;rw[l.out];unfold iF;dsimp only;rw[v.out];dsimp only;rw[D.out];dsimp only;rw[e]);rw[hp]at R;have H4:=cB R;clear R hp e;go_wp2_with (first|(go_at_call 200;refine H4.out.mono ?_;rintro e W5 ⟨rfl,c⟩;refine cE ?_));have y:=cB c;clear c;refine cB ?_;go_wp2_with fail;refine⟨rfl,?_⟩;rw[j.out];exact⟨y.out.to,rfl⟩
    |fine=>
     have e4:dH H gG=(I,.none):=by rw[←c8.out,←hp]
     rw[hp]at R;have H4:=cB R;have K:=cB e4;clear R hp e4;go_wp2_with (first|(go_at_call 200;refine H4.out.mono ?_;rintro e W5 ⟨rfl,d8,F5,a5,i5,l5,q5,f5⟩;refine cE ?_));obtain⟨k0,f,A⟩:=oL K.out;have i:=gM f;have b6:gV I:=by have G:=jS f d6.out.1;rw[A];exact aAG G
     have d3:I.new=none:=by rw[A];unfold gG;rw[i.2.2.2.1,d6.out.2.2]
     have c5:=a5.cell 2 _ rfl;have c9:=cB (aAa a5 i5 l5 q5 f5 (aAB W5 d8 d I (mZ eb) a5.disk b6 d3));clear a5 i5 l5 q5 f5 b6 d3 i f A c4;obtain⟨k5,a0⟩:=aJ8 ((dH I oD).1);have Q:=c9.out;rw[a0]at Q;have c6:=cB a0;clear a0 c9;refine cB ?_;cases hp:(dH I oD).2 using lS with
     |full=>exact absurd hp oM
     |dies q=>
      have e:dH I oD=(k5,(.some (.some q))):=by rw[←c6.out,←hp]
      have j:Hid (dA a=({a with dk:=k5},(.some (.some q)))):=z.out _ _ (by unfold fZ;rw[l.out];unfold iF;dsimp only;rw[v.out];dsimp only;rw[D.out];dsimp only;rw[K.out];dsimp only;rw[e]);rw[hp]at Q;have H5:=cB Q;clear Q hp e;go_wp2_with (first|(go_at_call 163;refine H5.out.mono ?_;rintro e W6 ⟨rfl,c⟩;refine cE ?_));have y:=cB c;clear c;refine cB ?_;go_wp2_with fail;refine⟨rfl,?_⟩;rw[j.out];exact⟨y.out.to,rfl⟩
     |fine=>
      have e:dH I oD=(k5,.none):=by rw[←c6.out,←hp]
      have j:Hid (dA a=({a with dk:=k5},.none)):=z.out _ _ (by unfold fZ;rw[l.out];unfold iF;dsimp only;rw[v.out];dsimp only;rw[D.out];dsimp only;rw[K.out];dsimp only;rw[e]);rw[hp]at Q;have H5:=cB Q;clear Q hp e;go_wp2_with (first|(go_at_call 163;refine H5.out.mono ?_;rintro e W6 ⟨rfl,c⟩;refine cE ?_));have y:=cB c;clear c;refine cB ?_;go_wp2_with fail;go_ret;rw[j.out];exact⟨y.out.to,rfl⟩
end
section
open Go.RowKit Go.Maps
theorem zY(W:World)(F:Nat→Prop)(B:Nat)(eb:Addr)(b g:Nat)(a:Ac)(h:Acc W F b g a)(hgl:GlAt W B eb)(hFB:∀x,F x→B≤x)(hok:wB a)(hby:∀x ∈ a.dk.log,0≤x∧x<256)(hnew:a.dk.new=none)(hold:a.dk.old=none):
 Calls prog 134 #[.pointer (some ⟨b,0,none⟩)] W fun e W'=>qG .nilIface (mZ eb) W F b g (fF a) e W':=by
 have b2:=cB (aCG W F b g a h);have a1:(strOfNums a.dk.log).size≤1000000000000:=by rw[fJ];have:=hok.l1;omega
 have M:=aAJ (strOfNums a.dk.log) W a1;rw[sX hby]at M;obtain⟨l,H⟩:=aJ7 (dU a.dk.log);rw[←H]at M;have a2:∀r ∈ l,0≤r.lock∧r.lock≤3:=by rw[H];exact xB _ _
 have b4:25*(l.length:Int)≤a.dk.log.length:=by
  have:=aFB (strOfNums a.dk.log);rw[sX hby,←H,fJ]at this;omega
 have a4:fF a=if 25*(l.length:Int)<a.dk.log.length∨mJ a=true then dA {a with rows:=l}else({a with rows:=l},.none):=by unfold fF;rw[←H]
 have b0:=cB M;have X:=cB a4;have a8:=cB a2;have E:=cB (aJ0 h hgl hFB hok hnew hold);have b8:=nR a.dk.log;clear M a4 a2 H hby a1 h hgl hFB hok hnew hold;go_enter func134,ntmps134;go_wp2_with (first|(go_at_call 60;refine b2.out.mono ?_;rintro e w' ⟨rfl,L⟩;have b1:=L.symm;subst b1;clear L)|(go_at_call 61;refine b0.out.mono ?_;rintro e W1 ⟨m,n,rfl,K,hn,b6,R⟩;refine cE ?_));have Y:=Chg.below' R;have G:zQ W1 m l:=mC K (by rw[sN a8.out K];exact nA _);obtain⟨FD,d,tb,ha,N,a3⟩:=E.out.1;have s:=ha.kept Y (fun _ _ h=>h);have c3:=s.cell 3 _ rfl;have z3:=s.froz 3;have A:=cZ W1 b 3 (.map (some m));have a7:=cU s.blk 3 (.map (some m));generalize a5:W1.setCell ⟨b,3,none⟩ (.map (some m))=W2 at*;have v:=cB a5;obtain⟨_,_,o⟩:=dM G;have b9:=cW ha.blk;have b5:=G.lt;have a9:AcAt W2 FD b g d m {a with rows:=l}:=⟨a7,s.disk.of_heap A.size (fun x i=>A.block x (s.disk.lt x i) (fun e=>s.nb (e▸i))),dE G (A.block _ G.lt (by omega)),s.nb,fun i=>by have:=ha.disk.lt m i;omega⟩;have w:=(Y.nos:Chg F W W1).trans A (fun x _ e=>e▸N b (Or.inr (Or.inl rfl)));have b7:=A.size;have J:Acc W2 (fun x=>F x∨x=m) b g {a with rows:=l}:=⟨FD,d,m,a9,fun x i=>by
  rcases i with i|i|i
  ·exact Or.inl (N x (Or.inl i))
  ·exact Or.inl (N x (Or.inr (Or.inl i)))
  ·exact Or.inr i,fun x i=>by
  rcases i with i|i
  ·have:=a3 x i;have:=w.size;omega
  ·omega⟩
 have a6:∀x,(F x∨x=m)→F x∨W.heap.size≤x:=fun x i=>i.elim Or.inl (fun e=>Or.inr (by omega));have S:wB {a with rows:=l}:={E.out.2.2.2.1 with lk:=a8.out};have T:=E.out.2.1.kept w E.out.2.2.1;have U:∀x,(F x∨x=m)→B≤x:=fun x i=>by
  rcases i with i|i
  ·exact E.out.2.2.1 x i
  ·have:=E.out.2.1.hB;omega
 have O:=cB (zS W2 _ b g _ J (by have:=E.out.2.2.2.1.l1;show(a.dk.log.length:Int)≤_;omega));have j:=cB (aJ0 J w a6 S T U);clear J w a6 S T U a9 s ha a7 A a5 Y G K R N a3 o;have u:Hid (∀(x:World) p e W',Chg NoS W2 x→qG .nilIface (mZ eb) x (fun y=>F y∨y=m) b g p e W'→qG .nilIface (mZ eb) W F b g p e W'):=fun x p e W' i c=>by
  obtain⟨Q,h2⟩:=c;have a0:=j.out.2.1.nos' i;refine⟨AcTo.trans a0 (fun y hy=>j.out.2.2.1 y hy) Q,?_⟩;obtain⟨P,hw⟩:=p;cases hw using lS with
  |fine=>exact h2
  |dies q=>exact h2
  |full=>obtain⟨z,g1,g2,g3⟩:=h2;exact⟨z,g1,g2,bU a0.size g3⟩
 refine cB ?_;by_cases Q:25*(l.length:Int)<a.dk.log.length
 ·have b3:decide (25*(l.length:Int)<a.dk.log.length)=true:=by simpa using Q
  have t:=cB (X.out.trans (if_pos (Or.inl Q)));have Z:=cB (nH W2 _ B eb b g {a with rows:=l} j.out.1 j.out.2.2.2.2.1 j.out.2.2.2.2.2 j.out.2.2.2.1 E.out.2.2.2.2.1 E.out.2.2.2.2.2);clear Q;obtain⟨p,V⟩:=aJ7 (dA {a with rows:=l});have HP:=cB V;have f:=Z.out;rw[←V]at f;clear V;obtain⟨P,hw⟩:=p;have k:=cB (t.out.trans HP.out.symm);cases hw using lS with
  |fine=>
   have D:Hid (Calls prog 174 #[.pointer (some ⟨b,0,none⟩)] W2 fun e W'=>e= .returned .nilIface∧qG .nilIface (mZ eb) W2 (fun y=>F y∨y=m) b g (P,.none) e W'):=f.mono fun e W' c=>⟨c.2,c⟩;clear f;go_wp2_with (first|rw[v.out]|(go_at_call 174;refine D.out.mono ?_;rintro e W3 ⟨rfl,c⟩;refine cE ?_));have C:=cB (u.out _ _ _ _ (Chg.refl _ _) c);clear c;refine cB ?_;go_wp2_with fail;go_ret;rw[k.out];exact C.out
  |dies q=>
   have D:Hid (Calls prog 174 #[.pointer (some ⟨b,0,none⟩)] W2 fun e W'=>e= .panicked (pI q)∧qG .nilIface (mZ eb) W2 (fun y=>F y∨y=m) b g (P,(.some (.some q))) e W'):=f.mono fun e W' c=>⟨c.2,c⟩;clear f;go_wp2_with (first|rw[v.out]|(go_at_call 174;refine D.out.mono ?_;rintro e W3 ⟨rfl,c⟩;refine cE ?_));have C:=cB (u.out _ _ _ _ (Chg.refl _ _) c);clear c;refine cB ?_;go_wp2_with fail;refine⟨rfl,?_⟩;rw[k.out];exact C.out
  |full=>
   have D:Hid (Calls prog 174 #[.pointer (some ⟨b,0,none⟩)] W2 fun e W'=>∃z,e= .returned (kQ z)∧qG .nilIface (mZ eb) W2 (fun y=>F y∨y=m) b g (P,(.some .none)) (.returned (kQ z)) W'):=f.mono fun e W' c=>by
    obtain⟨z,g1,g2⟩:=c.2;subst g1;exact⟨z,rfl,c⟩
   clear f;go_wp2_with (first|rw[v.out]|(go_at_call 174;refine D.out.mono ?_;rintro e W3 ⟨z,rfl,c⟩;refine cE ?_));have C:=cB (u.out _ _ _ _ (Chg.refl _ _) c);clear c;refine cB ?_;go_wp2_with fail;go_ret;rw[k.out];exact C.out
 ·have b3:decide (25*(l.length:Int)<a.dk.log.length)=false:=by simpa using Q
  cases hq:mJ a with
  |true=>
   have t:=cB (X.out.trans (if_pos (Or.inr hq)));have I:Hid (Calls prog 173 #[.pointer (some ⟨b,0,none⟩)] W2 fun e W'=>e= .returned (.bool true)∧W'=W2.drew):=by
    have h:=O.out;have e:mJ {a with rows:=l}=true:=hq;rw[e]at h;exact h
   have Z:=cB (nH W2.drew _ B eb b g {a with rows:=l} (j.out.1.kept (Chg.refl NoS W2).drew (fun _ _ h=>h)) (j.out.2.2.2.2.1.kept (Chg.refl NoS W2).drew (fun _ h=>h.elim)) j.out.2.2.2.2.2 j.out.2.2.2.1 E.out.2.2.2.2.1 E.out.2.2.2.2.2);clear Q hq O;obtain⟨p,V⟩:=aJ7 (dA {a with rows:=l});have HP:=cB V;have f:=Z.out;rw[←V]at f;clear V;obtain⟨P,hw⟩:=p;have k:=cB (t.out.trans HP.out.symm);cases hw using lS with
   |fine=>
    have D:Hid (Calls prog 174 #[.pointer (some ⟨b,0,none⟩)] W2.drew fun e W'=>e= .returned .nilIface∧qG .nilIface (mZ eb) W2.drew (fun y=>F y∨y=m) b g (P,.none) e W'):=f.mono fun e W' c=>⟨c.2,c⟩;clear f;go_wp2_with (first|rw[v.out]|(go_at_call 173;refine I.out.mono ?_;rintro e w' ⟨rfl,L⟩;subst L)|(go_at_call 174;refine D.out.mono ?_;rintro e W3 ⟨rfl,c⟩;refine cE ?_));have C:=cB (u.out _ _ _ _ (Chg.refl NoS W2).drew c);clear c;refine cB ?_;go_wp2_with fail;go_ret;rw[k.out];exact C.out
   |dies q=>
    have D:Hid (Calls prog 174 #[.pointer (some ⟨b,0,none⟩)] W2.drew fun e W'=>e= .panicked (pI q)∧qG .nilIface (mZ eb) W2.drew (fun y=>F y∨y=m) b g (P,(.some (.some q))) e W'):=f.mono fun e W' c=>⟨c.2,c⟩;clear f;go_wp2_with (first|rw[v.out]|(go_at_call 173;refine I.out.mono ?_;rintro e w' ⟨rfl,L⟩;subst L)|(go_at_call 174;refine D.out.mono ?_;rintro e W3 ⟨rfl,c⟩;refine cE ?_));have C:=cB (u.out _ _ _ _ (Chg.refl NoS W2).drew c);clear c;refine cB ?_;go_wp2_with fail;refine⟨rfl,?_⟩;rw[k.out];exact C.out
   |full=>
    have D:Hid (Calls prog 174 #[.pointer (some ⟨b,0,none⟩)] W2.drew fun e W'=>∃z,e= .returned (kQ z)∧qG .nilIface (mZ eb) W2.drew (fun y=>F y∨y=m) b g (P,(.some .none)) (.returned (kQ z)) W'):=f.mono fun e W' c=>by
     obtain⟨z,g1,g2⟩:=c.2;subst g1;exact⟨z,rfl,c⟩
    clear f;go_wp2_with (first|rw[v.out]|(go_at_call 173;refine I.out.mono ?_;rintro e w' ⟨rfl,L⟩;subst L)|(go_at_call 174;refine D.out.mono ?_;rintro e W3 ⟨z,rfl,c⟩;refine cE ?_));have C:=cB (u.out _ _ _ _ (Chg.refl NoS W2).drew c);clear c;refine cB ?_;go_wp2_with fail;go_ret;rw[k.out];exact C.out
  |false=>
   have t:=cB (X.out.trans (if_neg (by rw[hq];simp;omega)));have I:Hid (Calls prog 173 #[.pointer (some ⟨b,0,none⟩)] W2 fun e W'=>e= .returned (.bool false)∧W'=W2.drew):=by
    have h:=O.out;have e:mJ {a with rows:=l}=false:=hq;rw[e]at h;exact h
   clear Q hq O;go_wp2_with (first|rw[v.out]|(go_at_call 173;refine I.out.mono ?_;rintro e w' ⟨rfl,L⟩;subst L));go_ret;rw[t.out];exact u.out _ _ _ _ (Chg.refl NoS W2).drew ⟨.of (j.out.1.kept (Chg.refl NoS W2).drew (fun _ _ h=>h)),rfl⟩
end
abbrev mH(b:Nat):Value:=.pointer (some ⟨b,0,none⟩)
abbrev sF(f:Nat→Nat)(n:Nat):List Value:=(List.range n).map fun i=>mH (f i)
structure MoAt(W:World)(own:Nat→Nat)(g:Nat)(x:Mo)(av cv:Value)(bA bC:Nat→Nat):Prop where
 nt:NtAt W (fun k=>own k=1) g av cv x.net x.tr
 rav:W.ownsRow 0 114 1 av x.acs.length (sF bA x.acs.length)
 rcv:W.ownsRow 0 96 1 cv x.cls.length (sF bC x.cls.length)
 avb:∀k,av.ownBlock=some k→own k=2
 cvb:∀k,cv.ownBlock=some k→own k=2
 acc:∀i (h:i<x.acs.length),Acc W (fun k=>own k=3+2*i) (bA i) g x.acs[i]
 cls:∀i (h:i<x.cls.length),∃ch tk hd wt dv,ClAt W (fun k=>own k=4+2*i) (bC i) g x.cf x.cls[i] ch tk hd wt dv
 lt:∀k,own k≠0→k<W.heap.size
def Moor(W:World)(own:Nat→Nat)(g:Nat)(x:Mo):Prop:=∃av cv bA bC,MoAt W own g x av cv bA bC
def MoTo(W:World)(own:Nat→Nat)(g:Nat)(x:Mo)(W':World):Prop:=∃own',Moor W' own' g x∧Chg (fun k=>own k≠0) W W'∧∀k,own' k≠0→own k≠0∨W.heap.size≤k
theorem NtAt.grow{W:World}{G G':Nat→Prop}{g:Nat}{av cv:Value}{net:List Mg}{tr:List Ev}(h:NtAt W G g av cv net tr)(hg:∀k,G k→G' k)(hlt:∀k,G' k→k<W.heap.size):NtAt W G' g av cv net tr:=by
 obtain⟨a,b,f,d,j,e,i,c,l⟩:=h;exact⟨a,b,f,hg _ d,j,e,fun k hk=>hg _ (i k hk),fun k hk=>hg _ (c k hk),hlt⟩
theorem Acc.grow{W:World}{F F':Nat→Prop}{b g:Nat}{a:Ac}(h:Acc W F b g a)(hf:∀k,F k→F' k)(hlt:∀k,F' k→k<W.heap.size):Acc W F' b g a:=by
 obtain⟨i,d,c,f,e,j⟩:=h;exact⟨i,d,c,f,fun x hx=>hf _ (e x hx),hlt⟩
section
variable {W W':World}{own:Nat→Nat}{g:Nat}{x:Mo}{av cv:Value}{bA bC:Nat→Nat}
theorem MoAt.of_heap(h:MoAt W own g x av cv bA bC)(hs:W.heap.size≤W'.heap.size)(hb:∀k,own k≠0→W'.heap[k]?=W.heap[k]?):MoAt W' own g x av cv bA bC:=by
 refine⟨h.nt.of_heap hs (fun k hk=>hb k (by simp only[hk];decide)),fP h.rav (fun k hk=>hb k (by rw[h.avb k hk];decide)),fP h.rcv (fun k hk=>hb k (by rw[h.cvb k hk];decide)),h.avb,h.cvb,fun i hi=>?_,fun i hi=>?_,fun k hk=>aG (h.lt k hk) hs⟩
 ·obtain⟨n,d,c,a,b,m⟩:=h.acc i hi;exact⟨n,d,c,a.of_heap hs (fun k hk=>hb k (by have:=b k hk;omega)),b,fun k hk=>aG (m k hk) hs⟩
 ·obtain⟨j,f,e,wt,l,a⟩:=h.cls i hi;exact⟨j,f,e,wt,l,a.of_heap hs (fun k hk=>hb k (by omega))⟩
theorem Moor.of_heap(h:Moor W own g x)(hs:W.heap.size≤W'.heap.size)(hb:∀k,own k≠0→W'.heap[k]?=W.heap[k]?):Moor W' own g x:=by
 obtain⟨d,b,c,a,h⟩:=h;exact⟨d,b,c,a,h.of_heap hs hb⟩
theorem Moor.lt(h:Moor W own g x):∀k,own k≠0→k<W.heap.size:=by
 obtain⟨d,b,c,a,h⟩:=h;exact h.lt
theorem Moor.kept{S:Nat→Prop}(h:Moor W own g x)(hc:Chg S W W')(hn:∀k,own k≠0→¬S k):Moor W' own g x:=
 h.of_heap hc.size fun k hk=>hc.block k (h.lt k hk) (hn k hk)
theorem MoAt.kept{S:Nat→Prop}(h:MoAt W own g x av cv bA bC)(hc:Chg S W W')(hn:∀k,own k≠0→¬S k):MoAt W' own g x av cv bA bC:=
 h.of_heap hc.size fun k hk=>hc.block k (h.lt k hk) (hn k hk)
theorem MoAt.drew(h:MoAt W own g x av cv bA bC):MoAt W.drew own g x av cv bA bC:=h.kept (S:=NoS) (Chg.refl _ _).drew (fun _ _ h=>h)
theorem MoTo.of(h:Moor W own g x):MoTo W own g x W:=⟨own,h,Chg.refl _ _,fun _ h=>Or.inl h⟩
theorem MoTo.kept{S:Nat→Prop}(h:Moor W own g x)(hc:Chg S W W')(hn:∀k,own k≠0→¬S k)(hS:∀k,k<W.heap.size→¬S k):MoTo W own g x W':=⟨own,h.kept hc hn,hc.mono (fun k hk hs=>(hS k hk hs).elim),fun _ h=>Or.inl h⟩
theorem MoTo.trans{A B C:World}{own1:Nat→Nat}{x:Mo}(hc:Chg (fun k=>own k≠0) A B)(hf:∀k,own1 k≠0→own k≠0∨A.heap.size≤k)(h:MoTo B own1 g x C):MoTo A own g x C:=by
 obtain⟨a,c,b,d⟩:=h;refine⟨a,c,hc.trans b (fun k hk h'=>?_),fun k hk=>?_⟩
 ·rcases hf k h' with h|h
  ·exact h
  ·omega
 ·rcases d k hk with h|h
  ·exact hf k h
  ·right;have:=hc.size;omega
theorem MoTo.drew(h:MoTo W.drew own g x W'):MoTo W own g x W':=by
 obtain⟨b,c,a,d⟩:=h;exact⟨b,c,⟨a.os,a.tape,a.output,a.size,a.block⟩,d⟩
theorem MoAt.sys(h:MoAt W own g x av cv bA bC)(i:Nat)(hi:i<x.cls.length):Sys W (fun k=>own k=4+2*i) (fun k=>own k=1) (bC i) g x.cf av cv x.cls[i] x.net x.tr:=
 ⟨h.cls i hi,h.nt,fun k hk hk'=>by omega⟩
theorem MoAt.asys(h:MoAt W own g x av cv bA bC)(i:Nat)(hi:i<x.acs.length):ASys W (fun k=>own k=3+2*i) (fun k=>own k=1) (bA i) g av cv x.acs[i] x.net x.tr:=
 ⟨h.acc i hi,h.nt,fun k hk hk'=>by omega⟩
def iU(W:World)(own:Nat→Nat)(F G:Nat→Prop) [DecidablePred F] [DecidablePred G] (p:Nat):Nat→Nat:=fun k=>if k<W.heap.size then own k else if F k then p else if G k then 1 else 0
theorem rO{F G:Nat→Prop} [DecidablePred F] [DecidablePred G] {p k:Nat}(hk:k<W.heap.size):iU W own F G p k=own k:=by unfold iU;rw[if_pos hk]
theorem aFh{F G:Nat→Prop} [DecidablePred F] [DecidablePred G] {p k:Nat}(hk:W.heap.size≤k):iU W own F G p k=p∨iU W own F G p k=1∨iU W own F G p k=0:=by
 unfold iU;rw[if_neg (by omega)];split
 ·exact Or.inl rfl
 ·split
  ·exact Or.inr (Or.inl rfl)
  ·exact Or.inr (Or.inr rfl)
theorem aEw{F F0 G:Nat→Prop} [DecidablePred F] [DecidablePred G] {p k:Nat}(hF0:∀k,F0 k→own k=p)(hf:∀k,F k→F0 k∨W.heap.size≤k)(hk:F k):iU W own F G p k=p:=by
 unfold iU;split
 ·rcases hf k hk with h|h
  ·exact hF0 k h
  ·omega
 ·rfl
theorem aBy{F G G0:Nat→Prop} [DecidablePred F] [DecidablePred G] {p k:Nat}(hap:∀k,F k→¬G k)(hG0:∀k,G0 k→own k=1)(hg:∀k,G k→G0 k∨W.heap.size≤k)(hk:G k):iU W own F G p k=1:=by
 unfold iU;split
 ·rcases hg k hk with h|h
  ·exact hG0 k h
  ·omega
 ·rw[if_neg (fun h=>hap k h hk)]
theorem aAe{F G:Nat→Prop} [DecidablePred F] [DecidablePred G] {p:Nat}(hlt:∀k,own k≠0→k<W.heap.size)(hs:W.heap.size≤W'.heap.size)(hF:∀k,F k→k<W'.heap.size)(hG:∀k,G k→k<W'.heap.size):∀k,iU W own F G p k≠0→k<W'.heap.size:=fun k hk=>by
 unfold iU at hk;split at hk
 ·have:=hlt k hk;omega
 ·split at hk
  ·rename_i h;exact hF k h
  ·split at hk
   ·rename_i h;exact hG k h
   ·exact absurd rfl hk
theorem fX{F G:Nat→Prop} [DecidablePred F] [DecidablePred G] {p q:Nat}(hq0:q≠0)(hq1:q≠1)(hqp:q≠p)(hlt:∀k,own k≠0→k<W.heap.size)(k:Nat):iU W own F G p k=q↔own k=q:=by
 by_cases a:k<W.heap.size
 ·rw[rO a]
 ·constructor
  ·intro h;rcases aFh (own:=own) (F:=F) (G:=G) (p:=p) (Nat.le_of_not_lt a)with b|b|b<;>omega
  ·intro h;exact absurd (hlt k (by omega)) a
theorem MoAt.clientTo(h:MoAt W own g x av cv bA bC)(i:Nat)(hi:i<x.cls.length){c':Ct}{net':List Mg}{tr':List Ev}(ha:After W (fun k=>own k=4+2*i) (fun k=>own k=1) (bC i) g x.cf av cv c' net' tr' W'):
 MoTo W own g {x with cls:=x.cls.set i c',net:=net',tr:=tr'} W':=by
 classical
 obtain⟨F',G',hs,hw⟩:=ha;have hsz:=hw.chg.size;have hF:=hs.ltF;have hG:=hs.nt.lt;have hF':∀k,F' k→iU W own F' G' (4+2*i) k=4+2*i:=fun k hk=>aEw (F0:=fun k=>own k=4+2*i) (fun _ h=>h) hw.f hk;have hG':∀k,G' k→iU W own F' G' (4+2*i) k=1:=fun k hk=>aBy (G0:=fun k=>own k=1) hs.apart (fun _ h=>h) hw.g hk;have hlt:=aAe (own:=own) (p:=4+2*i) h.lt hsz hF hG;have hblk:∀k,own k≠0→own k≠1→own k≠4+2*i→W'.heap[k]?=W.heap[k]?:=fun k h0 h1 h2=>hw.chg.block k (h.lt k h0) (fun hs=>by omega);refine⟨iU W own F' G' (4+2*i),⟨av,cv,bA,bC,?_⟩,hw.chg.mono (fun k _ hk=>by omega),fun k hk=>?_⟩
 ·refine⟨hs.nt.grow hG' (fun k hk=>hlt k (by omega)),fP h.rav (fun k hk=>hblk k (by rw[h.avb k hk];decide) (by rw[h.avb k hk];decide) (by rw[h.avb k hk];omega)),?_,?_,?_,?_,?_,hlt⟩
  ·have:=fP (w':=W') h.rcv (fun k hk=>hblk k (by rw[h.cvb k hk];decide) (by rw[h.cvb k hk];decide) (by rw[h.cvb k hk];omega));simpa using this
  ·exact fun k hk=>(fX (by decide) (by decide) (by omega) h.lt k).2 (h.avb k hk)
  ·exact fun k hk=>(fX (by decide) (by decide) (by omega) h.lt k).2 (h.cvb k hk)
  ·intro j hj;have e:(fun k=>iU W own F' G' (4+2*i) k=3+2*j)=(fun k=>own k=3+2*j):=funext fun k=>propext (fX (by omega) (by omega) (by omega) h.lt k);rw[e];exact(h.acc j hj).kept hw.chg (fun k hk hs=>by omega)
  ·intro j hj;have hj':j<x.cls.length:=by simpa using hj
   by_cases hji:j=i
   ·subst hji;obtain⟨ch,tk,hd,wt,dv,hc⟩:=hs.cl;refine⟨ch,tk,hd,wt,dv,?_⟩;simp only[bQ];exact hc.grow hF' (fun k hk=>hlt k (by omega))
   ·have e:(fun k=>iU W own F' G' (4+2*i) k=4+2*j)=(fun k=>own k=4+2*j):=funext fun k=>propext (fX (by omega) (by omega) (by omega) h.lt k);obtain⟨ch,tk,hd,wt,dv,hc⟩:=h.cls j hj';refine⟨ch,tk,hd,wt,dv,?_⟩;simp only[List.getElem_set_ne (Ne.symm hji)];rw[e];exact hc.kept hw.chg (fun k hk hs=>by omega)
 ·by_cases hk':k<W.heap.size
  ·rw[rO hk']at hk;exact Or.inl hk
  ·exact Or.inr (by omega)
theorem MoAt.acceptorTo(h:MoAt W own g x av cv bA bC)(i:Nat)(hi:i<x.acs.length){a':Ac}{net':List Mg}{tr':List Ev}(ha:AfterA W (fun k=>own k=3+2*i) (fun k=>own k=1) (bA i) g av cv a' net' tr' W'):
 MoTo W own g {x with acs:=x.acs.set i a',net:=net',tr:=tr'} W':=by
 classical
 obtain⟨F',G',hs,hw⟩:=ha;have hsz:=hw.chg.size;have hF:=hs.acc.lt;have hG:=hs.nt.lt;have hF':∀k,F' k→iU W own F' G' (3+2*i) k=3+2*i:=fun k hk=>aEw (F0:=fun k=>own k=3+2*i) (fun _ h=>h) hw.f hk;have hG':∀k,G' k→iU W own F' G' (3+2*i) k=1:=fun k hk=>aBy (G0:=fun k=>own k=1) hs.apart (fun _ h=>h) hw.g hk;have hlt:=aAe (own:=own) (p:=3+2*i) h.lt hsz hF hG;have hblk:∀k,own k≠0→own k≠1→own k≠3+2*i→W'.heap[k]?=W.heap[k]?:=fun k h0 h1 h2=>hw.chg.block k (h.lt k h0) (fun hs=>by omega);refine⟨iU W own F' G' (3+2*i),⟨av,cv,bA,bC,?_⟩,hw.chg.mono (fun k _ hk=>by omega),fun k hk=>?_⟩
 ·refine⟨hs.nt.grow hG' (fun k hk=>hlt k (by omega)),?_,fP h.rcv (fun k hk=>hblk k (by rw[h.cvb k hk];decide) (by rw[h.cvb k hk];decide) (by rw[h.cvb k hk];omega)),?_,?_,?_,?_,hlt⟩
  ·have:=fP (w':=W') h.rav (fun k hk=>hblk k (by rw[h.avb k hk];decide) (by rw[h.avb k hk];decide) (by rw[h.avb k hk];omega));simpa using this
  ·exact fun k hk=>(fX (by decide) (by decide) (by omega) h.lt k).2 (h.avb k hk)
  ·exact fun k hk=>(fX (by decide) (by decide) (by omega) h.lt k).2 (h.cvb k hk)
  ·intro j hj;have hj':j<x.acs.length:=by simpa using hj
   by_cases hji:j=i
   ·subst hji;simp only[bQ];exact hs.acc.grow hF' (fun k hk=>hlt k (by omega))
   ·have e:(fun k=>iU W own F' G' (3+2*i) k=3+2*j)=(fun k=>own k=3+2*j):=funext fun k=>propext (fX (by omega) (by omega) (by omega) h.lt k);simp only[List.getElem_set_ne (Ne.symm hji)];rw[e];exact(h.acc j hj').kept hw.chg (fun k hk hs=>by omega)
  ·intro j hj;have e:(fun k=>iU W own F' G' (3+2*i) k=4+2*j)=(fun k=>own k=4+2*j):=funext fun k=>propext (fX (by omega) (by omega) (by omega) h.lt k);obtain⟨ch,tk,hd,wt,dv,hc⟩:=h.cls j hj;refine⟨ch,tk,hd,wt,dv,?_⟩;rw[e];exact hc.kept hw.chg (fun k hk hs=>by omega)
 ·by_cases hk':k<W.heap.size
  ·rw[rO hk']at hk;exact Or.inl hk
  ·exact Or.inr (by omega)
theorem MoAt.netTo(h:MoAt W own g x av cv bA bC){G':Nat→Prop}{net':List Mg}{tr':List Ev}(hn:NtAt W' G' g av cv net' tr')(hc:Chg (fun k=>own k=1) W W')(hg:∀k,G' k→own k=1∨W.heap.size≤k):
 MoTo W own g {x with net:=net',tr:=tr'} W':=by
 classical
 have hsz:=hc.size;have hG':∀k,G' k→iU W own (fun _=>False) G' 1 k=1:=fun k hk=>aBy (G0:=fun k=>own k=1) (fun _ h=>h.elim) (fun _ h=>h) hg hk;have hlt:=aAe (own:=own) (F:=fun _=>False) (p:=1) h.lt hsz (fun _ h=>h.elim) hn.lt;have hblk:∀k,own k≠0→own k≠1→W'.heap[k]?=W.heap[k]?:=fun k h0 h1=>hc.block k (h.lt k h0) (fun hs=>by omega);refine⟨iU W own (fun _=>False) G' 1,⟨av,cv,bA,bC,?_⟩,hc.mono (fun k _ hk=>by omega),fun k hk=>?_⟩
 ·refine⟨hn.grow hG' (fun k hk=>hlt k (by omega)),fP h.rav (fun k hk=>hblk k (by rw[h.avb k hk];decide) (by rw[h.avb k hk];decide)),fP h.rcv (fun k hk=>hblk k (by rw[h.cvb k hk];decide) (by rw[h.cvb k hk];decide)),?_,?_,?_,?_,hlt⟩
  ·exact fun k hk=>(fX (by decide) (by decide) (by decide) h.lt k).2 (h.avb k hk)
  ·exact fun k hk=>(fX (by decide) (by decide) (by decide) h.lt k).2 (h.cvb k hk)
  ·intro j hj;have e:(fun k=>iU W own (fun _=>False) G' 1 k=3+2*j)=(fun k=>own k=3+2*j):=funext fun k=>propext (fX (by omega) (by omega) (by omega) h.lt k);rw[e];exact(h.acc j hj).kept hc (fun k hk hs=>by omega)
  ·intro j hj;have e:(fun k=>iU W own (fun _=>False) G' 1 k=4+2*j)=(fun k=>own k=4+2*j):=funext fun k=>propext (fX (by omega) (by omega) (by omega) h.lt k);obtain⟨ch,tk,hd,wt,dv,hcl⟩:=h.cls j hj;refine⟨ch,tk,hd,wt,dv,?_⟩;rw[e];exact hcl.kept hc (fun k hk hs=>by omega)
 ·by_cases hk':k<W.heap.size
  ·rw[rO hk']at hk;exact Or.inl hk
  ·exact Or.inr (by omega)
end
def aJM(c:Ct):Prop:=c.up=false→c.clock=0∧c.round=0∧c.toks=(fun _=>0)∧c.holds=(fun _=>0)∧c.wat=(fun _=>zWt)∧c.doing=none
structure Bg where
 used:Bool
 op:Nat
 cl:Int
 lock:Int
 kind:Int
 ttl:Int
 start:Int
 t0:Nat
 asked:Bool
 base:Int
 pv:Vl
 val:Vl
 t1:Nat
def zBg:Bg:=⟨false,0,0,0,0,0,0,0,false,0,zVl,zVl,0⟩
structure Sx where
 cl:Int→Ct
 tb:Int→Int→Rw
 tr:List Ev
 opx:Int→Nat
 bl:Int→Bg
 ah:Int→Int→Int
def Sx.setC(s:Sx)(i:Int)(c:Ct)(e:List Ev):Sx:={s with cl:=upd s.cl i c,tr:=s.tr++e}
def aBd(f:Cf)(a:Int→Int→Int)(i:Int):Int→Int→Int:=fun k j=>
 if k=j then a k j else if j=i then a k j+10 else if k=i then max 0 (a k j-(10+f.drift))else a k j
def iP(a:Int→Int→Int)(i:Int):Int→Int→Int:=fun k j=>if k=i∨j=i then 0 else a k j
def uS(f:Cf)(s:Sx)(i:Int):Sx:={s.setC i {s.cl i with clock:=(s.cl i).clock+1} []with ah:=aBd f s.ah i}
def uX(s:Sx)(i r:Int):Sx:=s.setC i {s.cl i with round:=r} []
def gN(s:Sx)(i k l t:Int):Sx:={s.setC i (dN {s.cl i with doing:=some (eH (s.cl i) k l t)} k l t) [gJ (s.cl i).num (eH (s.cl i) k l t)]with opx:=upd s.opx i s.tr.length}
def iH(f:Cf)(s:Sx)(i:Int)(o:On):Sx:={s.setC i {s.cl i with round:=(s.cl i).round+1,doing:=some (fB o (s.cl i))} (fD (s.cl i) (fB o (s.cl i)) 1 0 zVl (gB f))with
 bl:=upd s.bl (gL (s.cl i)).bal ⟨true,s.opx i,i,o.lock,o.kind,o.ttl,o.began,s.tr.length,false,0,zVl,zVl,0⟩}
def vB(s:Sx)(i:Int)(o:On)(res:Int):Sx:=s.setC i {s.cl i with doing:=none} (lO (s.cl i) o res 0 0)
def qJ(s:Sx)(i:Int)(o:On):Sx:=s.setC i (gA (s.cl i) o o.att.eres o.att.etok o.att.val) (lO (s.cl i) o o.att.eres o.att.eown o.att.etok)
def kJ(s:Sx)(i:Int)(o:On)(m:Mg):Sx:=s.setC i {s.cl i with doing:=some (heardOn o m)} []
def gP(f:Cf)(s:Sx)(i:Int)(o:On):Sx:=
 let w:=dD f (s.cl i) o o.att.val
 {s.setC i {s.cl i with doing:=some (eV o w)} (fD (s.cl i) (eV o w) 3 o.att.base w.next (gB f))with
  bl:=upd s.bl o.att.bal {s.bl o.att.bal with asked:=true,base:=o.att.base,pv:=o.att.val,val:=w.next,t1:=s.tr.length}}
def sM(s:Sx)(i:Int):Sx:={s.setC i (mX (s.cl i)) (jU (s.cl i))with ah:=iP s.ah i}
def uL(s:Sx)(i:Int):Sx:={s.setC i (jC (s.cl i)) (fW (s.cl i))with ah:=iP s.ah i}
def jH(j:Int)(r:Rw)(m:Mg):Mg:={decMsg m r with src:=j,dst:=m.src,lock:=m.lock,bal:=m.bal}
def sD(s:Sx)(j:Int)(m:Mg)(e:List Ev):Sx:={s with tb:=fun a l=>if a=j∧l=m.lock then fA m (s.tb j m.lock)else s.tb a l,tr:=s.tr++e}
def sEv(s:Sx)(j k:Int):Sx:={s with tr:=s.tr++[{zEv with kind:=k,node:=j}]}
def aA0(f:Cf)(s:Sx)(i:Int):Prop:=∀k,0≤k→k<f.clients→k≠i→(s.cl k).up=true→s.ah k i≤10
def Mi(f:Cf)(gd:Bool)(s s':Sx):Prop:=∀P:Sx→Prop,
 (∀(i:Int) (h0:0≤i) (h1:i<f.clients) (hu:(s.cl i).up=true) (hg:gd=true→aA0 f s i),P (uS f s i))→
 (∀(i r:Int) (o:On) (h0:0≤i) (h1:i<f.clients) (hu:(s.cl i).up=true) (hd:(s.cl i).doing=some o) (hr:(s.cl i).round≤r) (hr':r≤1000),P (uX s i r))→
 (∀(i k l t:Int) (h0:0≤i) (h1:i<f.clients) (hu:(s.cl i).up=true) (hd:(s.cl i).doing=none) (hk:1≤k∧k≤4) (hl:0≤l∧l≤3) (ht:0≤t∧t≤1000) (ht1:k≤2→1≤t) (ht2:2<k→t=0),P (gN s i k l t))→
 (∀(i:Int) (o:On) (h0:0≤i) (h1:i<f.clients) (hu:(s.cl i).up=true) (hd:(s.cl i).doing=some o) (hr:(s.cl i).round<1000),P (iH f s i o))→
 (∀(i:Int) (o:On) (res:Int) (h0:0≤i) (h1:i<f.clients) (hu:(s.cl i).up=true) (hd:(s.cl i).doing=some o) (hr:res=5∨res=6),P (vB s i o res))→
 (∀(i:Int) (o:On) (h0:0≤i) (h1:i<f.clients) (hu:(s.cl i).up=true) (hd:(s.cl i).doing=some o) (h4:o.att.awaited=4) (hq:f.f<o.att.ans.length),P (qJ s i o))→
 (∀(i:Int) (o:On) (m:Mg) (h0:0≤i) (h1:i<f.clients) (hu:(s.cl i).up=true) (hd:(s.cl i).doing=some o) (hm:m ∈ cJ s.tr) (hb:m.bal=o.att.bal) (hk0:1≤m.kind) (hk:m.kind=o.att.awaited) (ha:o.att.ans.contains m.src=false),P (kJ s i o m))→
 (∀(i:Int) (o:On) (h0:0≤i) (h1:i<f.clients) (hu:(s.cl i).up=true) (hd:(s.cl i).doing=some o) (h2:o.att.awaited=2) (hq:f.f<o.att.ans.length) (hr:(dD f (s.cl i) o o.att.val).res≠5),P (gP f s i o))→
 (∀(i:Int) (h0:0≤i) (h1:i<f.clients) (hu:(s.cl i).up=true),P (sM s i))→
 (∀(i:Int) (h0:0≤i) (h1:i<f.clients) (hu:(s.cl i).up=false) (hi:(s.cl i).inc<63),P (uL s i))→
 (∀(j:Int) (m:Mg) (e:List Ev) (h0:0≤j) (h1:j<2*f.f+1) (hm:m ∈ cJ s.tr) (hk:m.kind=1∨m.kind=3) (he:e=[]∨e=[fI (jH j (s.tb j m.lock) m)]),P (sD s j m e))→
 (∀(j k:Int) (h0:0≤j) (hk:k=4∨k=5),P (sEv s j k))→
 P s'
theorem Mi.elim{f:Cf}{gd:Bool}{s s':Sx}{P:Sx→Prop}(h:Mi f gd s s')(tick:∀(i:Int) (h0:0≤i) (h1:i<f.clients) (hu:(s.cl i).up=true) (hg:gd=true→aA0 f s i),P (uS f s i))
 (bump:∀(i r:Int) (o:On) (h0:0≤i) (h1:i<f.clients) (hu:(s.cl i).up=true) (hd:(s.cl i).doing=some o) (hr:(s.cl i).round≤r) (hr':r≤1000),P (uX s i r))
 (began:∀(i k l t:Int) (h0:0≤i) (h1:i<f.clients) (hu:(s.cl i).up=true) (hd:(s.cl i).doing=none) (hk:1≤k∧k≤4) (hl:0≤l∧l≤3) (ht:0≤t∧t≤1000) (ht1:k≤2→1≤t) (ht2:2<k→t=0),P (gN s i k l t))
 (att:∀(i:Int) (o:On) (h0:0≤i) (h1:i<f.clients) (hu:(s.cl i).up=true) (hd:(s.cl i).doing=some o) (hr:(s.cl i).round<1000),P (iH f s i o))
 (endU:∀(i:Int) (o:On) (res:Int) (h0:0≤i) (h1:i<f.clients) (hu:(s.cl i).up=true) (hd:(s.cl i).doing=some o) (hr:res=5∨res=6),P (vB s i o res))
 (endQ:∀(i:Int) (o:On) (h0:0≤i) (h1:i<f.clients) (hu:(s.cl i).up=true) (hd:(s.cl i).doing=some o) (h4:o.att.awaited=4) (hq:f.f<o.att.ans.length),P (qJ s i o))
 (hear:∀(i:Int) (o:On) (m:Mg) (h0:0≤i) (h1:i<f.clients) (hu:(s.cl i).up=true) (hd:(s.cl i).doing=some o) (hm:m ∈ cJ s.tr) (hb:m.bal=o.att.bal) (hk0:1≤m.kind) (hk:m.kind=o.att.awaited) (ha:o.att.ans.contains m.src=false),P (kJ s i o m))
 (prop:∀(i:Int) (o:On) (h0:0≤i) (h1:i<f.clients) (hu:(s.cl i).up=true) (hd:(s.cl i).doing=some o) (h2:o.att.awaited=2) (hq:f.f<o.att.ans.length) (hr:(dD f (s.cl i) o o.att.val).res≠5),P (gP f s i o))
 (lose:∀(i:Int) (h0:0≤i) (h1:i<f.clients) (hu:(s.cl i).up=true),P (sM s i))
 (ret:∀(i:Int) (h0:0≤i) (h1:i<f.clients) (hu:(s.cl i).up=false) (hi:(s.cl i).inc<63),P (uL s i))
 (acc:∀(j:Int) (m:Mg) (e:List Ev) (h0:0≤j) (h1:j<2*f.f+1) (hm:m ∈ cJ s.tr) (hk:m.kind=1∨m.kind=3) (he:e=[]∨e=[fI (jH j (s.tb j m.lock) m)]),P (sD s j m e))
 (ev:∀(j k:Int) (h0:0≤j) (hk:k=4∨k=5),P (sEv s j k)):P s':=h P tick bump began att endU endQ hear prop lose ret acc ev
section
variable {f:Cf}{gd:Bool}(s:Sx)
theorem Mi.tick(i:Int)(h0:0≤i)(h1:i<f.clients)(hu:(s.cl i).up=true)(hg:gd=true→aA0 f s i):Mi f gd s (uS f s i):=fun _ c _ _ _ _ _ _ _ _ _ _ _=>c i h0 h1 hu hg
theorem Mi.bump(i r:Int)(o:On)(h0:0≤i)(h1:i<f.clients)(hu:(s.cl i).up=true)(hd:(s.cl i).doing=some o)(hr:(s.cl i).round≤r)(hr':r≤1000):Mi f gd s (uX s i r):=fun _ _ c _ _ _ _ _ _ _ _ _ _=>c i r o h0 h1 hu hd hr hr'
theorem Mi.began(i k l t:Int)(h0:0≤i)(h1:i<f.clients)(hu:(s.cl i).up=true)(hd:(s.cl i).doing=none)(hk:1≤k∧k≤4)(hl:0≤l∧l≤3)(ht:0≤t∧t≤1000)(ht1:k≤2→1≤t)(ht2:2<k→t=0):Mi f gd s (gN s i k l t):=fun _ _ _ c _ _ _ _ _ _ _ _ _=>c i k l t h0 h1 hu hd hk hl ht ht1 ht2
section
variable (i:Int) (o:On)
theorem Mi.att(h0:0≤i)(h1:i<f.clients)(hu:(s.cl i).up=true)(hd:(s.cl i).doing=some o)(hr:(s.cl i).round<1000):Mi f gd s (iH f s i o):=fun _ _ _ _ c _ _ _ _ _ _ _ _=>c i o h0 h1 hu hd hr
theorem Mi.endU(res:Int)(h0:0≤i)(h1:i<f.clients)(hu:(s.cl i).up=true)(hd:(s.cl i).doing=some o)(hr:res=5∨res=6):Mi f gd s (vB s i o res):=fun _ _ _ _ _ c _ _ _ _ _ _ _=>c i o res h0 h1 hu hd hr
theorem Mi.endQ(h0:0≤i)(h1:i<f.clients)(hu:(s.cl i).up=true)(hd:(s.cl i).doing=some o)(h4:o.att.awaited=4)(hq:f.f<o.att.ans.length):Mi f gd s (qJ s i o):=fun _ _ _ _ _ _ c _ _ _ _ _ _=>c i o h0 h1 hu hd h4 hq
theorem Mi.hear(m:Mg)(h0:0≤i)(h1:i<f.clients)(hu:(s.cl i).up=true)(hd:(s.cl i).doing=some o)(hm:m ∈ cJ s.tr)(hb:m.bal=o.att.bal)(hk0:1≤m.kind)(hk:m.kind=o.att.awaited)(ha:o.att.ans.contains m.src=false):Mi f gd s (kJ s i o m):=fun _ _ _ _ _ _ _ c _ _ _ _ _=>c i o m h0 h1 hu hd hm hb hk0 hk ha
theorem Mi.prop(h0:0≤i)(h1:i<f.clients)(hu:(s.cl i).up=true)(hd:(s.cl i).doing=some o)(h2:o.att.awaited=2)(hq:f.f<o.att.ans.length)(hr:(dD f (s.cl i) o o.att.val).res≠5):Mi f gd s (gP f s i o):=fun _ _ _ _ _ _ _ _ c _ _ _ _=>c i o h0 h1 hu hd h2 hq hr
end
theorem Mi.lose(i:Int)(h0:0≤i)(h1:i<f.clients)(hu:(s.cl i).up=true):Mi f gd s (sM s i):=fun _ _ _ _ _ _ _ _ _ c _ _ _=>c i h0 h1 hu
theorem Mi.ret(i:Int)(h0:0≤i)(h1:i<f.clients)(hu:(s.cl i).up=false)(hi:(s.cl i).inc<63):Mi f gd s (uL s i):=fun _ _ _ _ _ _ _ _ _ _ c _ _=>c i h0 h1 hu hi
theorem Mi.acc(j:Int)(m:Mg)(e:List Ev)(h0:0≤j)(h1:j<2*f.f+1)(hm:m ∈ cJ s.tr)(hk:m.kind=1∨m.kind=3)(he:e=[]∨e=[fI (jH j (s.tb j m.lock) m)]):Mi f gd s (sD s j m e):=fun _ _ _ _ _ _ _ _ _ _ _ c _=>c j m e h0 h1 hm hk he
theorem Mi.ev(j k:Int)(h0:0≤j)(hk:k=4∨k=5):Mi f gd s (sEv s j k):=fun _ _ _ _ _ _ _ _ _ _ _ _ c=>c j k h0 hk
end
def pU:Sx:=⟨fun i=>wC i,fun _ l=>{zRw with lock:=l},[],fun _=>0,fun _=>zBg,fun _ _=>0⟩
def MiR(f:Cf)(gd:Bool)(s:Sx):Prop:=∀P:Sx→Prop,P pU→(∀s s',P s→Mi f gd s s'→P s')→P s
section
variable {f:Cf} {gd:Bool}
theorem MiR.new:MiR f gd pU:=fun _ h _=>h
theorem MiR.step{s s':Sx}(h:MiR f gd s)(h':Mi f gd s s'):MiR f gd s':=fun P a b=>b s s' (h P a b) h'
theorem MiR.ind{P:Sx→Prop}(h0:P pU)(hs:∀s s',MiR f gd s→P s→Mi f gd s s'→P s'){s:Sx}(h:MiR f gd s):P s:=
 (h (fun s=>MiR f gd s∧P s) ⟨.new,h0⟩ (fun s s' k h'=>⟨k.1.step h',hs s s' k.1 k.2 h'⟩)).2
end
abbrev flL(c:Cf)(g:Nat)(a:Int→Int→Int)(d:Int→Bool):List Value:=
 [.int .i64 c.f,.int .i64 c.clients,.int .i64 c.patience,.int .i64 c.tries,.int .i64 c.drift,.int .i64 c.compact,.int .i64 c.room,.pointer (some ⟨g,0,none⟩),
  .int .i64 (a 0 0),.int .i64 (a 0 1),.int .i64 (a 0 2),.int .i64 (a 0 3),.int .i64 (a 1 0),.int .i64 (a 1 1),.int .i64 (a 1 2),.int .i64 (a 1 3),
  .int .i64 (a 2 0),.int .i64 (a 2 1),.int .i64 (a 2 2),.int .i64 (a 2 3),.int .i64 (a 3 0),.int .i64 (a 3 1),.int .i64 (a 3 2),.int .i64 (a 3 3),
  .bool (d 0),.bool (d 1),.bool (d 2),.bool (d 3)]
def FlB(W:World)(b:Nat)(c:Cf)(g:Nat)(a:Int→Int→Int)(d:Int→Bool):Prop:=W.heap[b]?=some (.cells (flL c g a d).toArray 40 (0,0))
def uR(a:Int→Int→Int)(k i v:Int):Int→Int→Int:=fun p q=>if p=k∧q=i then v else a p q
section
variable {W W':World}{b:Nat}{c:Cf}{g:Nat}{a a':Int→Int→Int}{d d':Int→Bool}
theorem FlB.congr(h:FlB W b c g a d)(ha:∀p q:Int,0≤p→p<4→0≤q→q<4→a p q=a' p q)(hd:∀p:Int,0≤p→p<4→d p=d' p):FlB W b c g a' d':=by
 have e:flL c g a d=flL c g a' d':=by
  unfold flL;rw[ha 0 0 (by decide) (by decide) (by decide) (by decide),ha 0 1 (by decide) (by decide) (by decide) (by decide),ha 0 2 (by decide) (by decide) (by decide) (by decide),ha 0 3 (by decide) (by decide) (by decide) (by decide),ha 1 0 (by decide) (by decide) (by decide) (by decide),ha 1 1 (by decide) (by decide) (by decide) (by decide),ha 1 2 (by decide) (by decide) (by decide) (by decide),ha 1 3 (by decide) (by decide) (by decide) (by decide),ha 2 0 (by decide) (by decide) (by decide) (by decide),ha 2 1 (by decide) (by decide) (by decide) (by decide),ha 2 2 (by decide) (by decide) (by decide) (by decide),ha 2 3 (by decide) (by decide) (by decide) (by decide),ha 3 0 (by decide) (by decide) (by decide) (by decide),ha 3 1 (by decide) (by decide) (by decide) (by decide),ha 3 2 (by decide) (by decide) (by decide) (by decide),ha 3 3 (by decide) (by decide) (by decide) (by decide),hd 0 (by decide) (by decide),hd 1 (by decide) (by decide),hd 2 (by decide) (by decide),hd 3 (by decide) (by decide)]
 unfold FlB at h⊢;rw[←e];exact h
theorem aE1{k:Nat}(h:k<4):k=0∨k=1∨k=2∨k=3:=by omega
theorem FlB.ah(h:FlB W b c g a d){k i:Nat}(hk:k<4)(hi:i<4):W.cell? ⟨b,8+k*4+i,none⟩=some (.int .i64 (a k i)):=by
 refine cC h _ _ ?_;rcases aE1 hk with rfl|rfl|rfl|rfl<;>rcases aE1 hi with rfl|rfl|rfl|rfl<;>rfl
theorem FlB.dn(h:FlB W b c g a d){k:Nat}(hk:k<4):W.cell? ⟨b,24+k,none⟩=some (.bool (d k)):=by
 refine cC h _ _ ?_;rcases aE1 hk with rfl|rfl|rfl|rfl<;>rfl
theorem FlB.setA(h:FlB W b c g a d){k i:Nat}(hk:k<4)(hi:i<4)(v:Int):FlB (W.setCell ⟨b,8+k*4+i,none⟩ (.int .i64 v)) b c g (uR a k i v) d:=by
 have:=cU h (8+k*4+i) (.int .i64 v);unfold FlB;rw[this];rcases aE1 hk with rfl|rfl|rfl|rfl<;>rcases aE1 hi with rfl|rfl|rfl|rfl<;>rfl
theorem FlB.setD(h:FlB W b c g a d){k:Nat}(hk:k<4)(v:Bool):FlB (W.setCell ⟨b,24+k,none⟩ (.bool v)) b c g a (fun p=>if p=k then v else d p):=by
 have:=cU h (24+k) (.bool v);unfold FlB;rw[this];rcases aE1 hk with rfl|rfl|rfl|rfl<;>rfl
theorem FlB.of_heap(h:FlB W b c g a d)(hb:W'.heap[b]?=W.heap[b]?):FlB W' b c g a d:=hb.trans h
theorem FlB.lt(h:FlB W b c g a d):b<W.heap.size:=by
 have:=h;unfold FlB at this;exact(Array.getElem?_eq_some_iff.1 this).1
end
def xR(a:Int→Int→Int)(i n:Int):Int→Int→Int:=fun p q=>if(p=i∧q<n)∨(q=i∧p<n)then 0 else a p q
theorem aEO(W:World)(b:Nat)(i:Int)(e:Int)(he:e≠0)(v:Bool):
 Calls prog 45 #[.pointer (some ⟨b,0,none⟩),.int .i64 i,.int .i64 e,.bool v] W fun r W'=>r= .returned (.tuple #[])∧W'=W:=by
 have a:(e !=0)=true:=by simp[he]
 clear he;go_enter func45,ntmps45;go_wp2_with fail
 ((try simp only[Exit.inBlock,Exit.then]);refine bodyPost_ret (results_none rfl _ _ _) rfl ?_)
 exact⟨rfl,rfl⟩
theorem FlB.open_{W:World}{b:Nat}{c:Cf}{g:Nat}{a:Int→Int→Int}{d:Int→Bool}(h:FlB W b c g a d):∃X:Array Value,W.heap[b]?=some (.cells X 40 (0,0)):=⟨_,h⟩
theorem aEu(W:World)(b:Nat)(c:Cf)(g:Nat)(a:Int→Int→Int)(d:Int→Bool)(h:FlB W b c g a d)(i:Nat)(hi:i<4)(v:Bool):
 Calls prog 45 #[.pointer (some ⟨b,0,none⟩),.int .i64 (i:Int),.int .i64 0,.bool v] W fun r W'=>r= .returned (.tuple #[])∧Chg (fun k=>k=b) W W'∧FlB W' b c g (iP a i) (fun p=>if p=i then v else d p):=by
 have u:=cB hi;have j:=h.setD hi v;obtain⟨X,t⟩:=h.open_;have G:=h.dn hi;have F:=cV t (24+i);have J:decide ((i:Int)<0)=false:=by simp
 have K:decide ((4:Int)≤(i:Int))=false:=by simp;omega
 have E:(i:Int)<4:=by omega
 have e:Chg (fun k=>k=b) W (W.setCell ⟨b,24+i,none⟩ (.bool v)):=(Chg.refl _ _).setCell _ _ (fun _=>rfl);generalize f:W.setCell ⟨b,24+i,none⟩ (.bool v)=W1 at j e;have B:=cB f;have D:=cB (aJW j e);clear h f j e hi;go_enter func45,ntmps45;go_wp2_with (first|rw[B.out]);clear t G F;go_loopw [8] (fun k wr=>∃n:Nat,n≤4∧k= .int .i64 n∧Hid (FlB wr b c g (xR a i n) (fun p=>if p=i then v else d p)∧Chg (fun k=>k=b) W wr)) (fun k _=>4-(intOf k).toNat)
 case atStart=>exact⟨0,by decide,rfl,⟨D.out.1.congr (fun p q p0 p1 q0 q1=>by unfold xR;rw[if_neg];omega) (fun _ _ _=>rfl),D.out.2⟩⟩
 case round=>
  obtain⟨n,O,rfl,o⟩:=hrel;by_cases l:n<4
  ·obtain⟨X,t⟩:=o.out.1.open_;have M:=o.out.1.ah u.out l;have L:=cV t (8+i*4+n);have j:=o.out.1.setA u.out l 0;have e:=o.out.2.setCell ⟨b,8+i*4+n,none⟩ (.int .i64 0) (fun _=>rfl);generalize f:wr.setCell ⟨b,8+i*4+n,none⟩ (.int .i64 0)=W2 at j e;have A:=cB f;obtain⟨Q,y⟩:=j.open_;have N:=j.ah l u.out;have P:=cV y (8+n*4+i);have w:=j.setA l u.out 0;have m:=e.setCell ⟨b,8+n*4+i,none⟩ (.int .i64 0) (fun _=>rfl);generalize s:W2.setCell ⟨b,8+n*4+i,none⟩ (.int .i64 0)=W3 at w m;have z:=cB s;have C:=cB (aJW w m);clear f s j e w m;have I:decide ((n:Int)<0)=false:=by simp
   have H:decide ((4:Int)≤(n:Int))=false:=by simp;omega
   have x:(n:Int)<4:=by omega
   go_wp2_with (first|rw[A.out]|rw[z.out]);go_roundw
   case rel=>exact⟨n+1,by omega,by go_num,⟨C.out.1.congr (fun p q p0 p1 q0 q1=>by
    unfold uR xR
    repeat' split
    all_goals first|rfl|(exfalso;omega)) (fun _ _ _=>rfl),C.out.2⟩⟩
   case measure=>simp[intOf];omega
  ·have x:¬(n:Int)<4:=by omega
   go_wp2_with fail
   (first|go_end0|((try simp only[Exit.inBlock,Exit.then]);refine bodyPost_ret (results_none rfl _ _ _) rfl ?_))
   exact⟨rfl,o.out.2,o.out.1.congr (fun p q p0 p1 q0 q1=>by
    unfold xR iP
    repeat' split
    all_goals first|rfl|(exfalso;omega)) (fun _ _ _=>rfl)⟩
end Go.Proofs.YtbbdgokdfhdpiaaGreatDoor
