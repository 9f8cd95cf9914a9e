/- A part of the proof: PAc2, KpEv, PProp2, PCount. -/
import Derived.Test.YtbbdgokdfhdpiaaGreatDoorE16
namespace Go.Proofs.YtbbdgokdfhdpiaaGreatDoor
set_option linter.all false
set_option maxRecDepth 100000
set_option maxHeartbeats 40000000
open Go.Proofs.Tryz Go.RowKit
section
open Go.RowKit Go.Maps
theorem Chg.below'{A B:World}(h:Below A.heap.size A B):Chg NoS A B:=⟨h.os,h.tape,h.output,h.size,fun k hk _=>h.block k hk⟩
theorem aCU{f:FuncId}{args:Array Value}{v ev:Value}{W:World}{F:Nat→Prop}{d:Nat}{p:Dk×How}(h:Calls prog f args W fun e W'=>EndsK v ev W F d p e W'):match p.2 with
 |.none=>Calls prog f args W fun e W'=>e= .returned v∧DkTo W F d p.1 W'
 |(.some (.some q))=>Calls prog f args W fun e W'=>e= .panicked (oM q)∧DkTo W F d p.1 W'
 |(.some .none)=>Calls prog f args W fun e W'=>∃b,e= .returned (kI b)∧kH W' b ev∧W.heap.size≤b∧DkTo W F d p.1 W':=by
 obtain⟨k,a⟩:=p;cases a using lB with
 |fine=>exact h.mono fun e W' ⟨a,h2⟩=>⟨h2,a⟩
 |dies q=>exact h.mono fun e W' ⟨a,h2⟩=>⟨h2,a⟩
 |full=>exact h.mono fun e W' ⟨a,b,h2,h3,h4⟩=>⟨b,h2,h3,h4,a⟩
theorem EndsK.log{v ev:Value}{W W':World}{F:Nat→Prop}{d:Nat}{p:Dk×How}{e:Ending}(h:EndsK v ev W F d p e W'):DkTo W F d p.1 W':=h.1
theorem aGD{W:World}{tb:Nat}{rs:List Rw}(h:xV W tb rs)(r:Rw)(hr:0≤r.lock∧r.lock≤3)(hl:∀r ∈ rs,0≤r.lock∧r.lock≤3):∃W',(Instr.mapUpdate 118 (.map (some tb)) (.int .i64 r.lock) (rwV r)).run prog W= .ok () W'∧xV W' tb (rs++[r])∧Chg (fun x=>x=tb) W W'∧W'.heap.size=W.heap.size:=by
 have c:keyOf prog 3 (.int .i64 r.lock)=some (.int .i64 r.lock):=keyOf_int_mk underlying3 (aBt hr.1 (by omega));obtain⟨W',d,a,b⟩:=h.store aEk underlying118 (by decide) c (wF r);refine⟨W',d,?_,mX b,lR b⟩;rw[←qJ]at a;have e:=rH (rs:=rs++[r]) (fun x hx=>by
  rcases aO.1 hx with h|h
  ·exact hl x h
  ·rw[List.mem_singleton]at h;subst h;exact hr) a
 exact lJ a (by rw[e];exact mG _)
theorem aD7(W:World)(F:Nat→Prop)(B:Nat)(eb:Addr)(b g:Nat)(a:Ac)(r:Rw)(h:Acc W F b g a)(hgl:GlAt W B eb)(hFB:∀x,F x→B≤x)(hok:uM a)(hr:0≤r.lock∧r.lock≤3)(hnew:a.dk.new=none)(hold:a.dk.old=none):
 Calls prog 171 #[.pointer (some ⟨b,0,none⟩),rwV r] W fun e W'=>pF .nilIface (mF eb) W F b g (gC a r) e W':=by
 obtain⟨FD,d,tb,h,d6,c4⟩:=h;have b5:Chg NoS W (W.alloc (.cells #[.int .i64 r.lock,.int .i64 r.prom,.int .i64 r.acc,.int .i64 r.own,.int .i64 r.tok,.int .i64 r.ttl,.int .i64 r.seq] 58)):=(Chg.refl _ _).alloc _;have c6:(W.alloc (.cells #[.int .i64 r.lock,.int .i64 r.prom,.int .i64 r.acc,.int .i64 r.own,.int .i64 r.tok,.int .i64 r.ttl,.int .i64 r.seq] 58)).heap[W.heap.size]?=some (.cells (rwL r).toArray 58 (0,0)):=aA W _;have c5:(W.alloc (.cells #[.int .i64 r.lock,.int .i64 r.prom,.int .i64 r.acc,.int .i64 r.own,.int .i64 r.tok,.int .i64 r.ttl,.int .i64 r.seq] 58)).heap.size=W.heap.size+1:=by simp
 generalize d2:W.alloc (.cells #[.int .i64 r.lock,.int .i64 r.prom,.int .i64 r.acc,.int .i64 r.own,.int .i64 r.tok,.int .i64 r.ttl,.int .i64 r.seq] 58)=W0 at*;have c8:=cA d2;have h0:=h.kept b5 (fun _ _ h=>h);have c2:=h0.cell 2 _ rfl;have E:=cA (aIa h d6 c4 hgl hFB hok hr hnew hold);have c1:=cA b5;have b4:=cA c6;have b9:=cA c5;have c0:Hid (∀x,x=W0.drew→Calls prog 100 #[rwV r] x fun e w'=>e= .returned (.string (strOfNums (dM r)))∧Below x.heap.size x w'):=fun x hx=>aCj r x;clear d2 b5 c6 c5 h0 h d6 c4 hgl hFB hok hr hnew hold;go_enter func171,ntmps171;go_wp2_with (first|rw[c8.out]);refine rlx [0,0,0,1,1,2] (fun x=>x.cell? ⟨b,2,none⟩=some (.pointer (some ⟨d,0,none⟩))∧∀j y,(rwL r)[j]?=some y→x.cell? ((⟨W.heap.size,0,none⟩:Addr).add j)=some y) (by kernel_rfl) (fun _ _ _ _=>rfl) ?_ ?_
 ·exact⟨c2,cE (W:=W0.drew) b4.out⟩
 simp only[cM,cL];iterate 4 (apply sB rfl rfl;·(intro x h;(try have h:=h rfl);(try dsimp only at h);go_simp;with_reducible rfl))
 try simp only[pA]
 refine cK (v:=rwV r) rfl (fun x hx=>cF 58 _ rfl ⟨W.heap.size,0,none⟩ rfl (rwL r) _ hx.2 underlying58 rfl (by kernel_rfl)) ?_;(try simp only[pA]);refine dC rfl (fun C hC=>?_);go_simp;refine(c0.out _ rfl).mono ?_;rintro e W1 ⟨rfl,U⟩;have a7:=c1.out.trans (S:=NoS) (Chg.below' U).of_drew (fun _ _ h=>h);have b7:=(Chg.below' U).of_drew.kept b4.out (fun h=>h);have d0:W.heap.size+1≤W1.heap.size:=by have:=(Chg.below' U).size;have:=b9.out;simp at*;omega
 have h1:=E.out.1.kept a7 (fun _ _ h=>h);refine hC _ _ ⟨h1.cell 2 _ rfl,cE b7⟩ ?_;clear hC C;refine cC ?_;have a3:=E.out.2.2.2.1.kept a7 (fun _ h=>h.elim);have hok:=E.out.2.2.2.2.2.1;have e1:((dM r).length:Int)≤25:=by
  unfold dM;split
  ·rw[nQ];decide
  ·decide
 have a9:¬FD 0:=fun hx=>by
  have:=E.out.2.2.2.2.1 0 (E.out.2.1 0 (Or.inl hx));have:=a3.b0;omega
 have e4:gU a.dk=0:=by unfold gU;rw[E.out.2.2.2.2.2.2.2.1]
 have R:=cA (zB W1 FD d a.dk _ _ (dM r) h1.disk hok.fo a3.err a9 E.out.2.2.2.2.2.2.2.2 (by omega) (by have:=hok.l1;omega) (by omega));have X:=cA a7;have b6:=cA b7;have O:=cA d0;have b1:=cA h1;clear U a7 b7 d0 h1 a3 hok e1 a9 e4 c2 c0 b4 c1 b9 c8;obtain⟨J,d3⟩:=aIf ((dL a.dk (dM r) jJ).1);have V:=cA d3;clear d3;have c:=aCU R.out;cases hp:(dL a.dk (dM r) jJ).2 using lB with
 |dies q=>
  rw[hp]at c;have k:=cA c;clear c R;go_wp2_with (first|(go_at_call 196;refine k.out.mono ?_;rintro e W2 ⟨rfl,l⟩;refine cD ?_));obtain⟨Y,Z,T,n,s,i,t,A⟩:=b1.out.to E.out.2.1 (fun x hx=>aG (E.out.2.2.1 x hx) X.out.size) l;rw[V.out]at T;have p:=(X.out.nos:Chg F W W1).trans i (fun _ _ h=>h);have m:∀x,Z x→F x∨W.heap.size≤x:=fun x hx=>by
   rcases A x hx with h|h
   ·exact Or.inl h
   ·right;have:=O.out;omega
  have z:¬F W.heap.size:=fun hx=>by have:=E.out.2.2.1 _ hx;omega
  have u:¬Z W.heap.size:=fun hx=>by
   rcases A _ hx with h|h
   ·exact z h
   ·have:=O.out;omega
  have K:=i.kept b6.out z;have a4:Hid (AcTo W F b g {a with dk:=J} W2):=⟨Z,⟨Y,d,tb,T,n,s⟩,p,m⟩;have f:=cA (aH8 T n s p m u K);have c9:=cA (l.choose_spec.2.1.size);clear T n s p m u K l i t A z;have P:Hid (gC a r=({a with dk:=J},(.some (.some q)))):=by
   show _=_;have e:dL a.dk (dM r) jJ=(J,(.some (.some q))):=by rw[←V.out,←hp]
   unfold gC kM gM;rw[e]
  clear hp;refine cA ?_;go_wp2_with fail;refine⟨rfl,?_⟩;rw[P.out];exact⟨a4.out,rfl⟩
 |full=>
  rw[hp]at c;have k:=cA c;clear c R;go_wp2_with (first|(go_at_call 196;refine k.out.mono ?_;rintro e W2 ⟨fb,rfl,d4,e5,l⟩;refine cD ?_));obtain⟨Y,Z,T,n,s,i,t,A⟩:=b1.out.to E.out.2.1 (fun x hx=>aG (E.out.2.2.1 x hx) X.out.size) l;rw[V.out]at T;have p:=(X.out.nos:Chg F W W1).trans i (fun _ _ h=>h);have m:∀x,Z x→F x∨W.heap.size≤x:=fun x hx=>by
   rcases A x hx with h|h
   ·exact Or.inl h
   ·right;have:=O.out;omega
  have z:¬F W.heap.size:=fun hx=>by have:=E.out.2.2.1 _ hx;omega
  have u:¬Z W.heap.size:=fun hx=>by
   rcases A _ hx with h|h
   ·exact z h
   ·have:=O.out;omega
  have K:=i.kept b6.out z;have a4:Hid (AcTo W F b g {a with dk:=J} W2):=⟨Z,⟨Y,d,tb,T,n,s⟩,p,m⟩;have f:=cA (aH8 T n s p m u K);have c9:=cA (l.choose_spec.2.1.size);clear T n s p m u K l i t A z;have P:Hid (gC a r=({a with dk:=J},(.some .none))):=by
   show _=_;have e:dL a.dk (dM r) jJ=(J,(.some .none)):=by rw[←V.out,←hp]
   unfold gC kM gM;rw[e]
  have e3:=cA d4;clear hp d4;refine cA ?_;go_wp2_with fail;go_ret;rw[P.out];exact⟨a4.out,fb,rfl,e3.out,by have:=O.out;omega⟩
 |fine=>
  rw[hp]at c;have k:=cA c;clear c R;go_wp2_with (first|(go_at_call 196;refine k.out.mono ?_;rintro e W2 ⟨rfl,l⟩;refine cD ?_));obtain⟨Y,Z,T,n,s,i,t,A⟩:=b1.out.to E.out.2.1 (fun x hx=>aG (E.out.2.2.1 x hx) X.out.size) l;rw[V.out]at T;have p:=(X.out.nos:Chg F W W1).trans i (fun _ _ h=>h);have m:∀x,Z x→F x∨W.heap.size≤x:=fun x hx=>by
   rcases A x hx with h|h
   ·exact Or.inl h
   ·right;have:=O.out;omega
  have z:¬F W.heap.size:=fun hx=>by have:=E.out.2.2.1 _ hx;omega
  have u:¬Z W.heap.size:=fun hx=>by
   rcases A _ hx with h|h
   ·exact z h
   ·have:=O.out;omega
  have K:=i.kept b6.out z;have a4:Hid (AcTo W F b g {a with dk:=J} W2):=⟨Z,⟨Y,d,tb,T,n,s⟩,p,m⟩;have f:=cA (aH8 T n s p m u K);have c9:=cA (l.choose_spec.2.1.size);clear T n s p m u K l i t A z;have D:dL a.dk (dM r) jJ=(J,.none):=by rw[←V.out,←hp]
  obtain⟨k0,b3,a2⟩:∃k0,fS a.dk=some k0∧J=jJ k0 (dM r):=by
   unfold dL at D;cases hs:fS a.dk with
   |none=>rw[hs]at D;cases D
   |some k0=>
    rw[hs]at D;dsimp only at D;split at D
    ·cases D
    ·exact⟨k0,rfl,(Prod.mk.inj D).1.symm⟩
  have hok:=E.out.2.2.2.2.2.1;have d7:gZ J:=by have h':=jR b3 hok.fo;rw[a2];exact h'
  have d1:J.old=none:=by have h':=(gO b3).2.2.2.2.trans E.out.2.2.2.2.2.2.2.2;rw[a2];exact h'
  have c2:=f.out.1.cell 2 _ rfl;have b8:=cA (aBU W2 Y d J (mF eb) f.out.1.disk d7 d1);have R:=cA D;clear hp D b3 a2 hok d7 d1;refine cA ?_;obtain⟨k2,b2⟩:=aIf ((dD J kR).1);have a6:=cA b2;have c:=aCU b8.out;cases hp:(dD J kR).2 using lB with
  |full=>
   exfalso;unfold dD at hp;split at hp<;>cases hp
  |dies q=>
   rw[hp]at c;have k:=cA c;clear c b8 b2;go_wp2_with (first|(go_at_call 197;refine k.out.mono ?_;rintro e W3 ⟨rfl,l⟩;refine cD ?_));obtain⟨a5,F3,N,H,M,i,t,Q⟩:=f.out.1.to f.out.2.1 f.out.2.2.1 l;rw[a6.out]at N;have L:Chg F W W3:=f.out.2.2.2.1.trans i (fun x hx h=>by
    rcases f.out.2.2.2.2.1 x h with h|h
    ·exact h
    ·omega)
   have I:∀x,F3 x→F x∨W.heap.size≤x:=fun x hx=>by
    rcases Q x hx with h|h
    ·exact f.out.2.2.2.2.1 x h
    ·right;have:=f.out.2.2.2.1.size;omega
   have a0:=i.kept f.out.2.2.2.2.2.2 f.out.2.2.2.2.2.1;have a1:¬F3 W.heap.size:=fun hx=>by
    rcases Q _ hx with h|h
    ·exact f.out.2.2.2.2.2.1 h
    ·have:=cX f.out.2.2.2.2.2.2;omega
   have P:Hid (gC a r=({a with dk:=k2},(.some (.some q)))):=by
    show _=_;have e:dD J kR=(k2,(.some (.some q))):=by rw[←a6.out,←hp]
    unfold gC kM gM;rw[R.out];dsimp only;rw[e]
   have d9:Hid (AcTo W F b g {a with dk:=k2} W3):=⟨F3,⟨a5,d,tb,N,H,M⟩,L,I⟩;clear hp N H M L I a0 a1 l i t Q;refine cA ?_;go_wp2_with fail;refine⟨rfl,?_⟩;rw[P.out];exact⟨d9.out,rfl⟩
  |fine=>
   rw[hp]at c;have k:=cA c;clear c b8 b2;go_wp2_with (first|(go_at_call 197;refine k.out.mono ?_;rintro e W3 ⟨rfl,l⟩;refine cD ?_));obtain⟨a5,F3,N,H,M,i,t,Q⟩:=f.out.1.to f.out.2.1 f.out.2.2.1 l;rw[a6.out]at N;have L:Chg F W W3:=f.out.2.2.2.1.trans i (fun x hx h=>by
    rcases f.out.2.2.2.2.1 x h with h|h
    ·exact h
    ·omega)
   have I:∀x,F3 x→F x∨W.heap.size≤x:=fun x hx=>by
    rcases Q x hx with h|h
    ·exact f.out.2.2.2.2.1 x h
    ·right;have:=f.out.2.2.2.1.size;omega
   have a0:=i.kept f.out.2.2.2.2.2.2 f.out.2.2.2.2.2.1;have a1:¬F3 W.heap.size:=fun hx=>by
    rcases Q _ hx with h|h
    ·exact f.out.2.2.2.2.2.1 h
    ·have:=cX f.out.2.2.2.2.2.2;omega
   have P:Hid (gC a r=({a with dk:=k2,rows:=a.rows++[r]},.none)):=by
    show _=_;have e:dD J kR=(k2,.none):=by rw[←a6.out,←hp]
    unfold gC kM gM;rw[R.out];dsimp only;rw[e]
   obtain⟨W4,a8,d5,c7,e6⟩:=aGD (W:=W3.drew) N.table r E.out.2.2.2.2.2.2.1 E.out.2.2.2.2.2.1.lk;have G:=c7.of_drew;have h4:AcAt W4 a5 b g d tb {a with dk:=k2,rows:=a.rows++[r]}:=by
    obtain⟨_,_,o⟩:=dK N.table;exact⟨G.kept N.blk N.bt,N.disk.of_heap G.size (fun x hx=>G.block x (N.disk.lt x hx) (fun e=>N.ntb (e▸hx))),d5,N.nb,N.ntb⟩
   have d8:Hid (AcTo W F b g {a with dk:=k2,rows:=a.rows++[r]} W4):=⟨F3,⟨a5,d,tb,h4,H,fun x hx=>aG (M x hx) G.size⟩,L.trans G (fun x hx e=>by
    rcases I tb (H tb (Or.inr (Or.inr rfl)))with h|h
    ·exact e▸h
    ·omega),I⟩
   have c3:=N.cell 3 _ rfl;have r0:=cB a0 0 _ rfl;have e0:=cA a8;have e2:=cA a0;clear hp N H M L I a0 a1 l i t Q h4 a8 d5 c7 G c2;refine cA ?_;go_wp2_with fail;refine rlx [0,0,0,1,0,1,1] (fun x=>x.cell? ⟨b,3,none⟩=some (.map (some tb))∧x.cell? ⟨W.heap.size,0,none⟩=some (.int .i64 r.lock)∧∀j y,(rwL r)[j]?=some y→x.cell? ((⟨W.heap.size,0,none⟩:Addr).add j)=some y) (by kernel_rfl) (fun _ _ _ _=>rfl) ?_ ?_
   ·exact⟨c3,r0,cE (W:=W3.drew) e2.out⟩
   simp only[cM,cL];iterate 6 (apply sB rfl rfl;·(intro x h;(try have h:=h rfl);(try dsimp only at h);go_simp;with_reducible rfl))
   try simp only[pA]
   refine cK (v:=rwV r) rfl (fun x hx=>cF 58 _ rfl ⟨W.heap.size,0,none⟩ rfl (rwL r) _ hx.2.2 underlying58 rfl (by kernel_rfl)) ?_;refine cC ?_;(try simp only[pA]);go_wp2_with (at_mapUpdate;refine jS rfl 118 _ _ _ rfl (.map (some tb)) (.int .i64 r.lock) (rwV r) rfl rfl rfl (fun w=>w=W4) ⟨W4,e0.out,rfl⟩ ?_;rintro _ rfl);go_ret;rw[P.out];exact⟨d8.out,rfl⟩
end
def LsAt{α:Type}(f:α→List Value)(sz:Nat)(W:World)(p:Option Addr)(l:List α):Prop:=
 ∀k (h:k<l.length),∃g,p=some ⟨g,0,none⟩∧g<W.heap.size∧∀j u,(f l[k])[j]?=some u→W.cell? ⟨g,k*sz+j,none⟩=some u
section
variable {α:Type}{f:α→List Value}{sz:Nat}{W W':World}{p:Option Addr}{l:List α}
theorem LsAt.of_owns(hf:∀x,(f x).length=sz){base n:Nat}{t:TypeId}{v:Value}(h:W.ownsRow base t sz v n (cQ f l))(hn:n=l.length):∃p cap,v= .slice p n cap∧LsAt f sz W p l∧∀g,p=some ⟨g,0,none⟩→base≤g:=by
 subst hn;have b:=h.lt;rcases h.2 with⟨rfl,d⟩|⟨g,cap,i,rfl,e,_⟩
 ·refine⟨none,0,by rw[d],fun k hk=>by omega,fun g hg=>(by cases hg)⟩
 ·refine⟨some ⟨g,0,none⟩,cap,rfl,fun k hk=>⟨g,rfl,(b g rfl).2,fun j u hj=>?_⟩,fun g' hg'=>by cases hg';exact e⟩;have c:j<sz:=by rw[←hf l[k]];exact(aF.1 hj).1
  have a:k*sz+j<l.length*sz:=by
   have:(k+1)*sz≤l.length*sz:=Nat.mul_le_mul_right _ hk;rw[Nat.add_mul]at this;omega
  rw[h.cellAt _ a,sF f (k:=sz) hf _ k hk j c];exact hj
theorem LsAt.of_heap(h:LsAt f sz W p l)(hs:W.heap.size≤W'.heap.size)(hb:∀g,p=some ⟨g,0,none⟩→g<W.heap.size→W'.heap[g]?=W.heap[g]?):LsAt f sz W' p l:=fun k hk=>by
 obtain⟨g,rfl,hg,hc⟩:=h k hk;exact⟨g,rfl,aG hg hs,fun j u hj=>(aW (hb g rfl hg)).trans (hc j u hj)⟩
theorem LsAt.chg(h:LsAt f sz W p l){S:Nat→Prop}(hc:Chg S W W')(hn:∀g,p=some ⟨g,0,none⟩→¬S g):LsAt f sz W' p l:=h.of_heap hc.size fun g e hg=>hc.block g hg (hn g e)
theorem LsAt.chg0(h:LsAt f sz W p l)(hc:Chg NoS W W'):LsAt f sz W' p l:=h.chg hc fun _ _ z=>z
theorem LsAt.below(h:LsAt f sz W p l)(hb:Below W.heap.size W W'):LsAt f sz W' p l:=h.chg0 (Chg.below' hb)
end
theorem xX(fn:Func){x t:Tmp}(hr:fn.results=#[.cell x 70,.tmp t])(tmps:Array Value)(b:Nat)(e:Ev)(q:Bool)(W:World)(h4:tmps.getD x undef= .pointer (some ⟨b,0,none⟩))(h5:tmps.getD t undef= .bool q)(hb:W.heap[b]?=some (.cells (evL e).toArray 70 (0,0))):
 (results fn tmps).run prog W= .ok (.tuple #[evV e,.bool q]) W:=by
 have a:(loadVar 70 ⟨b,0,none⟩).run prog W= .ok (evV e) W:=fD W ⟨b,0,none⟩ 70 (evL e) _ (cE hb) underlying70 rfl (by kernel_rfl);unfold results;rw[hr];simp only[bX]at h4 h5;simp[h4,h5,asAddr,aT,a]
theorem zR(fn:Func){x:Tmp}(hr:fn.results=#[.cell x 70])(tmps:Array Value)(b:Nat)(e:Ev)(W:World)(h4:tmps.getD x undef= .pointer (some ⟨b,0,none⟩))(hb:W.heap[b]?=some (.cells (evL e).toArray 70 (0,0))):
 (results fn tmps).run prog W= .ok (evV e) W:=by
 have a:(loadVar 70 ⟨b,0,none⟩).run prog W= .ok (evV e) W:=fD W ⟨b,0,none⟩ 70 (evL e) _ (cE hb) underlying70 rfl (by kernel_rfl);unfold results;rw[hr];simp only[bX]at h4;simp[h4,asAddr,aT,a]
def jD(t:List Ev)(c:Int):Nat→Ev×Bool
 |0=>(zEv,false)
 |n+1=>if(t.getD n zEv).kind=3∧(t.getD n zEv).node=c then(t.getD n zEv,true)else jD t c n
theorem aDQ(W:World)(p:Option Addr)(cap:Nat)(t:List Ev)(c:Int)(h:LsAt evL 19 W p t)(ht:t.length≤1000000000000):
 Calls prog 64 #[.slice p t.length cap,.int .i64 c] W fun r W'=>r= .returned (.tuple #[evV (jD t c t.length).1,.bool (jD t c t.length).2])∧Chg NoS W W':=by
 have w:=aA W (.cells #[.int .i64 0,.int .i64 0,.int .i64 0,.int .i64 0,.int .i64 0,.int .i64 0,.int .i64 0,.int .i64 0,.int .i64 0,.int .i64 0,.int .i64 0,.int .i64 0,.int .i64 0,.int .i64 0,.int .i64 0,.int .i64 0,.int .i64 0,.int .i64 0,.int .i64 0] 70);have f:Chg NoS W (W.alloc (.cells #[.int .i64 0,.int .i64 0,.int .i64 0,.int .i64 0,.int .i64 0,.int .i64 0,.int .i64 0,.int .i64 0,.int .i64 0,.int .i64 0,.int .i64 0,.int .i64 0,.int .i64 0,.int .i64 0,.int .i64 0,.int .i64 0,.int .i64 0,.int .i64 0,.int .i64 0] 70)):=(Chg.refl _ _).alloc _;generalize A:W.alloc (.cells #[.int .i64 0,.int .i64 0,.int .i64 0,.int .i64 0,.int .i64 0,.int .i64 0,.int .i64 0,.int .i64 0,.int .i64 0,.int .i64 0,.int .i64 0,.int .i64 0,.int .i64 0,.int .i64 0,.int .i64 0,.int .i64 0,.int .i64 0,.int .i64 0,.int .i64 0] 70)=W1 at w f;have J:=h.chg0 f;have H:=cA A;have C:=cA w;have N:=cA J;have K:=cA f;clear h J w A f;go_enter func64,ntmps64;go_wp2_with (first|rw[H.out]);go_loopw [6] (fun k wr=>∃n:Nat,n≤t.length∧k= .int .i64 ((n:Int)-1)∧wr=W1∧Hid (jD t c t.length=jD t c n)) (fun k _=>(intOf k+1).toNat)
 case atStart=>exact⟨t.length,aE _,rfl,rfl,rfl⟩
 case round=>
  obtain⟨n,l,rfl,rfl,D⟩:=hrel;rcases n with _|m
  ·have z:decide ((0:Int)≤((0:Nat):Int)-1)=false:=by decide
   have E:Hid (wr.heap[W.heap.size]?=some (.cells (evL zEv).toArray 70 (0,0))):=C.out;go_wp2_with (first|(refine cG rfl 70 _ _ rfl W.heap.size 0 70 _ _ (evL zEv) rfl rfl E.out (by kernel_rfl) (by simp[Value.oneCell']) (by simp) rfl ?_;intro M d s b;have x:=cA d;have v:=cA b;clear d s b;refine cD ?_));refine cA ?_;go_wp2_with fail;rw[D.out];exact bodyPost_ret (xX _ results64 _ W.heap.size zEv false _ rfl rfl v.out) rfl ⟨rfl,K.out.fresh x.out (aE _)⟩
  ·obtain⟨g,rfl,S,a⟩:=N.out m (by omega);obtain⟨e,F⟩:=aIf (t[m]);rw[F]at a;have z:decide ((0:Int)≤((m+1:Nat):Int)-1)=true:=decide_eq_true (by omega);have B:t.getD m zEv=e:=by rw[aQ,aP (by omega),F];rfl
   have L:((m+1:Nat):Int)-1=(m:Int):=by omega
   have R:(m:Int)<(t.length:Int):=by omega
   have P:decide ((m:Int)<0)=false:=by simp
   have Q:IntKind.i64.wrap ((m:Int)-1)=(m:Int)-1:=eI (by omega) (by omega);have T:wr.cell? ⟨g,m*19,none⟩=some (.int .i64 e.kind):=a 0 _ rfl;have U:wr.cell? ⟨g,m*19+1,none⟩=some (.int .i64 e.node):=a 1 _ rfl;have G:Hid (∀j u,(evL e)[j]?=some u→wr.cell? ((⟨g,m*19,none⟩:Addr).add j)=some u):=fun j u hj=>by
    have O:(⟨g,m*19,none⟩:Addr).add j=⟨g,m*19+j,none⟩:=by unfold Addr.add;split<;>simp_all
    rw[O];exact a j u hj
   have o:Hid (jD t c (m+1)=if e.kind=3∧e.node=c then(e,true)else jD t c m):=by
    show jD t c (m+1)=_;rw[jD,B]
   have E:Hid (wr.heap[W.heap.size]?=some (.cells (evL zEv).toArray 70 (0,0))):=C.out;rw[L]at z⊢;clear a F B L;by_cases i:e.kind=3
   ·by_cases l:e.node=c
    ·have I:(e.kind==3)=true:=by simp[i]
     have bn:(e.node==c)=true:=by simp[l]
     have y:=cA (o.out.trans (if_pos ⟨i,l⟩));clear i l;go_wp2_with (first|(refine cG rfl 70 _ _ rfl W.heap.size 0 70 _ _ (evL e) rfl rfl E.out (by kernel_rfl) (by simp[Value.oneCell']) (by simp) rfl ?_;intro M d s b;have x:=cA d;have v:=cA b;clear d s b;refine cD ?_)|(refine cJ rfl 70 _ rfl ⟨g,m*19,none⟩ rfl (evL e) _ G.out underlying70 rfl (by kernel_rfl) ?_));refine cA ?_;go_wp2_with fail;rw[D.out,y.out];exact bodyPost_ret (xX _ results64 _ W.heap.size e true _ rfl rfl v.out) rfl ⟨rfl,K.out.fresh x.out (aE _)⟩
    ·have I:(e.kind==3)=true:=by simp[i]
     have bn:(e.node==c)=false:=by simp[l]
     have y:=cA (o.out.trans (if_neg (fun q=>l q.2)));clear i l;go_wp2_with fail;go_roundw
     case rel=>exact⟨m,by omega,by go_num,trivial,D.out.trans y.out⟩
     case measure=>simp[intOf]
   ·have I:(e.kind==3)=false:=by simp[i]
    have y:=cA (o.out.trans (if_neg (fun q=>i q.1)));clear i;go_wp2_with fail;go_roundw
    case rel=>exact⟨m,by omega,by go_num,trivial,D.out.trans y.out⟩
    case measure=>simp[intOf]
theorem aE0:(prog.info? 3).map (fun i=>(i.zero,i.size,i.bytes))=some (some (iK 0),1,8):=by kernel_rfl
theorem vZ(o:On)(an mv:Value):∀j x,(vlL o.att.val)[j]?=some x→(rT o an mv).toArray[10+j]?=some x:=by
 intro j x a;have b:j<4:=(aF.1 a).1;rcases j with _|_|_|_|j
 ·exact a
 ·exact a
 ·exact a
 ·exact a
 ·omega
theorem uZ(W:World)(F G:Nat→Prop)(b g:Nat)(f:Cf)(av cv:Value)(c:Ct)(o:On)(net:List Mg)(tr:List Ev)(h:Sys W F G b g f av cv c net tr)(hd:c.doing=some o)(hf1:1≤f.f)(hf2:f.f≤2)(hdr1:0≤f.drift)(hdr2:f.drift≤10)(hc:vQ c)(ho:aCL o)(hv:zP o.att.val)
 (haw:o.att.awaited≠0) (hm:o.mine.length≤100000000000) (hw:∀l,0≤(c.wat l).since∧(c.wat l).since≤100000000000) (hn:net.length≤99999999990) (ht:tr.length≤99999999990):
 Calls prog 175 #[.pointer (some ⟨b,0,none⟩)] W fun r W'=>r= .returned (.tuple #[])∧After W F G b g f av cv (hP f c o) (net++cH (gT f c o)) (tr++gT f c o) W':=by
 obtain⟨⟨ch,tk,a4,wt,dv,g4⟩,f2,f3⟩:=h;obtain⟨t,an,mv,rfl,a⟩:=g4.kt hd;obtain⟨am,rfl,d4,L⟩:∃am,an= .map (some am)∧SetAt W am o.att.ans∧F am:=by
  rcases a.on.2.2.1 with⟨_,_,h⟩|h
  ·exact absurd h haw
  ·exact h
 have c2:=aBe W F b g f c o ch tk a4 wt t (.map (some am)) mv o.att.val a hc.n1 (by have:=hc.n2;omega) (by omega) hdr1 hdr2 hv.t1 hv.t2 hv.s1 hv.s2 (hw _).1 (hw _).2;obtain⟨w,a7⟩:=aIe (cU f c o o.att.val);rw[←a7]at c2;have eS:hP f c o=if w.res=5 then fT c o w.res w.tok o.att.val else{c with doing:=some (eJ o w)}:=by unfold hP;rw[←a7]
 have eE:gT f c o=if w.res=5 then kX c o w.res w.own w.tok else fA c (eJ o w) 3 o.att.base w.next (dI f):=by unfold gT;rw[←a7]
 rw[eS,eE];clear eS eE a7;have e4:Hid (Calls prog 201 #[.pointer (some ⟨b,0,none⟩),vlV o.att.val] W fun r W'=>r= .returned (.tuple #[vlV w.next,rM w.res w.own w.tok])∧Chg NoS W W'):=c2;have g3:=cA (fF a.on.1 10 _ (vZ o _ _));have HK:=cA a;have p:=cA (aH5 f2 f3 d4 L);have d:=cA (aH5 hc ho hn ht);have g9:=a.cl.cell 16 _ rfl;clear c2 a f2 f3 g4 hc ho hw hd d4 hv;go_enter func175,ntmps175;go_wp2_with (first|(refine cJ rfl 56 _ rfl ⟨t,10,none⟩ rfl (vlL o.att.val) _ g3.out underlying56 rfl (by kernel_rfl) ?_)|(go_at_call 201;refine e4.out.mono ?_;rintro r B ⟨rfl,k1⟩;refine cD ?_));generalize Q:(B.alloc (.cells #[.int .i64 0,.int .i64 0,.int .i64 0,.int .i64 0] 56)).alloc (.cells #[.int .i64 0,.int .i64 0,.int .i64 0] 191)=W2;have g0:=cA Q;have d8:W2.heap[B.heap.size]?=some (.cells (vlL zVl).toArray 56 (0,0)):=by rw[←Q];exact cR _ (aA B _)
 have d7:W2.heap[B.heap.size+1]?=some (.cells (oJ 0 0 0).toArray 191 (0,0)):=by
  rw[←Q];have h:=aA (B.alloc (.cells #[.int .i64 0,.int .i64 0,.int .i64 0,.int .i64 0] 56)) (.cells #[.int .i64 0,.int .i64 0,.int .i64 0] 191);have e:(B.alloc (.cells #[.int .i64 0,.int .i64 0,.int .i64 0,.int .i64 0] 56)).heap.size=B.heap.size+1:=by simp
  rw[e]at h;exact h
 have e6:Chg NoS W W2:=k1.trans (by rw[←Q];exact Chg.alloc2 _ _ _) (fun _ _ h=>h);have d6:=cA k1.size;clear Q k1;refine cA ?_;go_wp2_with (first|rw[g0.out]|(refine cG rfl 56 _ _ rfl B.heap.size 0 56 _ _ (vlL w.next) rfl rfl d8 (by kernel_rfl) (by simp[Value.oneCell']) (by simp) rfl ?_));intro W3 c7 g7 f7;have g1:=c7.kept d7 (by omega);have b4:=e6.fresh c7 d6.out;clear e6 d8 d7 g0;go_wp2_with (first|(refine cG rfl 191 _ _ rfl (B.heap.size+1) 0 191 _ _ (oJ w.res w.own w.tok) rfl rfl g1 (by kernel_rfl) (by simp[Value.oneCell']) (by simp) rfl ?_));intro W4 c0 i1 a9;have e7:=cA (c0.kept f7 (by omega));have z:=b4.fresh c0 (by have:=d6.out;omega);have i6:=cA a9;have a5:=cA z;have I:=cA (HK.out.kept z);have a6:=cA (p.out.1.kept z (fun _ _ h=>h));have h9:Hid (SetAt W4 am o.att.ans):=MapAt.kept p.out.2.2.1 z (fun h=>h);have e0:=cB a9 0 _ rfl;have g2:=cA (cE a9);have g5:=cA (fF I.out.on.1 10 _ (vZ o _ _));clear c7 g7 f7 g1 b4 c0 i1 a9 z g9 g3 e4;by_cases s:w.res=5
 ·have hr:(w.res==5)=true:=by simp[s]
  have M:=cA s;have HE:Hid (Calls prog 164 #[.pointer (some ⟨b,0,none⟩),rM w.res w.own w.tok,vlV o.att.val] W4.drew fun r W'=>r= .returned (.tuple #[])∧After W4.drew F G b g f av cv (fT c o w.res w.tok o.att.val) net (tr++kX c o w.res w.own w.tok) W'):=
   sK W4.drew F G b g f av cv c o net tr w.res w.own w.tok o.att.val (Sys.drew ⟨⟨ch,tk,a4,wt,_,I.out.cl⟩,a6.out,p.out.2.1⟩) HK.out.doing d.out.1.n1 (by have:=d.out.1.n2;omega) d.out.2.1.b1 (by have:=d.out.2.1.b2;omega) d.out.2.1.t1 (by have:=d.out.2.1.t2;omega) (by have:=d.out.2.2.1;omega) (by have:=d.out.2.2.2;omega)
  clear s;go_wp2_with fail;refine rlx [0,1,0,0,0,1] (fun x=>(∀j y,(oJ w.res w.own w.tok)[j]?=some y→x.cell? ((⟨B.heap.size+1,0,none⟩:Addr).add j)=some y)∧(∀j y,(vlL o.att.val)[j]?=some y→x.cell? ((⟨t,10,none⟩:Addr).add j)=some y)) (by kernel_rfl) (fun _ _ _ _=>rfl) ?_ ?_
  ·exact⟨g2.out,g5.out⟩
  simp only[cM,cL];iterate 1 (apply sB rfl rfl;·(intro x h;(try have h:=h rfl);(try dsimp only at h);go_simp;with_reducible rfl))
  try simp only[pA]
  refine cK (v:=rM w.res w.own w.tok) rfl (fun x hx=>cF 191 _ rfl ⟨B.heap.size+1,0,none⟩ rfl (oJ w.res w.own w.tok) _ hx.1 underlying191 rfl (by kernel_rfl)) ?_;iterate 3 (apply sB rfl rfl;·(intro x h;(try have h:=h rfl);(try dsimp only at h);go_simp;with_reducible rfl))
  try simp only[pA]
  refine cK (v:=vlV o.att.val) rfl (fun x hx=>cF 56 _ rfl ⟨t,10,none⟩ rfl (vlL o.att.val) _ hx.2 underlying56 rfl (by kernel_rfl)) ?_;refine cC ?_;go_wp2_with (go_at_call 164;refine HE.out.mono ?_;rintro r W5 ⟨rfl,k5⟩)
  ((try simp only[Exit.inBlock,Exit.then]);refine bodyPost_ret (results_none rfl _ _ _) rfl ?_)
  have e5:=M.out;(try rw[e5]at k5);(try simp only[e5,if_true]);rw[oK,aC];exact⟨by first|rfl|trivial,After.trans (⟨a5.out.mono (fun _ _ h=>h.elim),fun _ h=>Or.inl h,fun _ h=>Or.inl h⟩:Went W W4 F F G G) k5.drew⟩
 ·have hr:(w.res==5)=false:=by simp[s]
  have M:Hid (w.res≠5):=s;clear s g5;go_wp2_with (first|(refine cJ rfl 191 _ rfl ⟨B.heap.size+1,0,none⟩ rfl (oJ w.res w.own w.tok) _ g2.out underlying191 rfl (by kernel_rfl) ?_)|(refine cG rfl 191 _ _ rfl t 14 195 _ _ (rT {o with att:={o.att with eres:=w.res,eown:=w.own,etok:=w.tok}} (.map (some am)) mv) rfl rfl I.out.on.1 (by kernel_rfl) (by simp[Value.oneCell']) (by simp) rfl ?_));intro W5 H h5 b5;have E:=I.out.opset H {o with att:={o.att with eres:=w.res,eown:=w.own,etok:=w.tok}} b5 rfl id id rfl;have g6:=H;have b6:=H.kept e7.out (fun e=>fQ e7.out I.out.on.1 (by decide) e);have o7:=cB E.on.1 7 _ rfl;have z7:=cY E.on.1 7;have S:=dA W5 t 7 (.int .i64 4);have c3:=E.opset S {o with att:={o.att with eres:=w.res,eown:=w.own,etok:=w.tok,awaited:=4}} (cO E.on.1 7 _) rfl (fun h=>absurd (show(4:Int)=0 from h) (by decide)) (fun h=>absurd h haw) rfl;generalize d9:W5.setCell ⟨t,7,none⟩ (.int .i64 4)=W6 at*;have e8:=cA d9;have A:=h9.out;have f0:SetAt W6 am o.att.ans:=MapAt.kept (MapAt.kept A H (A.ne_cells I.out.on.1)) S ((MapAt.kept A H (A.ne_cells I.out.on.1)).ne_cells E.on.1);have f1:=cA (S.kept b6 (fun e=>fQ b6 E.on.1 (by decide) e));have o8:=cB c3.on.1 8 _ rfl;have i4:=cA c3;have c8:=cA f0;have h0:=cA (H.trans S (fun _ _ h=>h));clear d9 H h5 b5 E S c3 f0 A b6 g6 e0;go_wp2_with (first|rw[e8.out]|(refine nE rfl _ _ rfl _ rfl _ (SetAt.clr c8.out _) ?_));intro W7 a3 i3 m7;obtain⟨_,_,f8⟩:=MapAt.obj c8.out;have a2:=i4.out.ansset a3 c8.out [] m7 p.out.2.2.2
  have d1:=cA (a3.kept f1.out (fun e=>dR f1.out f8 (by simp) e));have d0:=cA a2;have d5:=cA ((h0.out.mono (T:=fun k=>k=t∨k=am) (fun _ _ h=>Or.inl h)).trans a3 (fun _ _ h=>Or.inr h));have e9:=a2.cl.cell 16 _ rfl;have p5:=cB a2.on.1 5 _ rfl;have h8:=cA (cE (W:=W7.drew) d1.out);clear a3 i3 m7 f8 a2 o8 o7 z7 e8;go_wp2_with fail;refine dZ [0,0,0,1,1,0,0,0,1] (by kernel_rfl) (fun _ _ _ _=>rfl) ?_;simp only[cM,cL];iterate 4 (apply sB rfl rfl;·(intro x h;(try cases h rfl);go_simp;with_reducible rfl))
  try simp only[pA]
  refine cK (v:=vlV w.next) rfl (fun x hx=>cF 56 _ rfl ⟨B.heap.size,0,none⟩ rfl (vlL w.next) _ (by subst hx;exact h8.out) underlying56 rfl (by kernel_rfl)) ?_;iterate 4 (apply sB rfl rfl;·(intro x h;(try cases h rfl);go_simp;with_reducible rfl))
  refine cC ?_;try simp only[pA]
  have a8:∀q,oC o w.next=q→Hid (Calls prog 202 #[.pointer (some ⟨t,0,none⟩),vlV w.next,.int .i64 o.att.bal] W7.drew fun r W'=>r= .returned (.bool q)∧Chg NoS W7.drew W'):=fun q e=>e▸aCz W7.drew F t _ _ {o with att:={o.att with eres:=w.res,eown:=w.own,etok:=w.tok,awaited:=4,ans:=[]}} w.next (d0.out.kept (Chg.refl _ _).drew).on;cases hmk:oC o w.next
  ·have R:=a8 _ hmk;have HQ:=cA hmk;clear a8 hmk e9 p5;go_wp2_with (go_at_call 202;refine R.out.mono ?_;rintro r D ⟨rfl,k8⟩;refine cD ?_);have u:=k8.of_drew;have U:=cA (d0.out.kept u);have c9:=cA (u.kept d1.out (fun h=>h));have f5:=cA (d5.out.trans u (fun _ _ h=>h.elim));clear k8 u R;refine cA ?_;have EO:Hid (eJ o w={o with att:={o.att with eres:=w.res,eown:=w.own,etok:=w.tok,awaited:=4,ans:=[]}}):=by
    unfold eJ;rw[HQ.out]
    rfl
   have c4:=cA (a6.out.kept f5.out (fun k a hs=>hs.elim (fun e=>p.out.2.1 t HK.out.on.2.1 (e▸a)) (fun e=>p.out.2.1 am L (e▸a))));have Y:=cA p.out.2.1;have b8:Hid (Went W D F F G G):=⟨(a5.out.mono (T:=fun k=>F k∨G k) (fun _ _ h=>h.elim)).trans f5.out (fun x _ hs=>Or.inl (hs.elim (fun e=>e▸HK.out.on.2.1) (fun e=>e▸L))),fun _ h=>Or.inl h,fun _ h=>Or.inl h⟩;go_wp2_with fail;have HS:Hid (Calls prog 165 #[.pointer (some ⟨b,0,none⟩),mgV ⟨3,0,0,0,0,o.att.base,w.next⟩] D.drew fun r W'=>r= .returned (.tuple #[])∧∃G',Sys W' F G' b g f av cv {c with doing:=some (eJ o w)} (net++cH (fA c (eJ o w) 3 o.att.base w.next (dI f))) (tr++fA c (eJ o w) 3 o.att.base w.next (dI f))∧Chg G D.drew W'∧∀k,G' k→G k∨D.drew.heap.size≤k):=
    pN D.drew F G b g f av cv {c with doing:=some (eJ o w)} (eJ o w) net tr 3 o.att.base w.next (Sys.drew ⟨⟨ch,tk,a4,wt,_,by rw[EO.out];exact U.out.cl⟩,c4.out,Y.out⟩) rfl hf1 hf2 d.out.2.2.1 d.out.2.2.2
   have b9:=cB U.out.on.1 9 _ rfl;have a0:=cA (cE (W:=D.drew) c9.out);refine dZ [0,0,0,0,1,1,0] (by kernel_rfl) (fun _ _ _ _=>rfl) ?_;simp only[cM,cL];iterate 5 (apply sB rfl rfl;·(intro x h;(try cases h rfl);go_simp;with_reducible rfl))
   try simp only[pA]
   refine cK (v:=vlV w.next) rfl (fun x hx=>cF 56 _ rfl ⟨B.heap.size,0,none⟩ rfl (vlL w.next) _ (by subst hx;exact a0.out) underlying56 rfl (by kernel_rfl)) ?_;iterate 1 (apply sB rfl rfl;·(intro x h;(try cases h rfl);go_simp;with_reducible rfl))
   refine cC ?_;try simp only[pA]
   go_wp2_with (go_at_call 165;refine HS.out.mono ?_;rintro r W9 ⟨rfl,G9,q1,q2,q3⟩);go_end0;(try rw[if_neg M.out,if_neg M.out]);exact⟨by first|rfl|trivial,F,G9,q1,b8.out.trans ⟨q2.of_drew.mono (fun _ _ h=>Or.inr h),fun _ h=>Or.inl h,q3⟩⟩
  ·have R:=a8 _ hmk;have HQ:=cA hmk;clear a8 hmk e9 p5;go_wp2_with (go_at_call 202;refine R.out.mono ?_;rintro r P ⟨rfl,k8⟩;refine cD ?_);have u:=k8.of_drew;have n:=cA (d0.out.kept u);have d2:=cA (u.kept d1.out (fun h=>h));have c1:=cA (d5.out.trans u (fun _ _ h=>h.elim));clear k8 u R;refine cA ?_;go_wp2_with fail;refine rlx [0,0,0,1,0,0,0,1,0,0,1,0,0,0,1,2,2,0,0] (fun x=>x.cell? ⟨b,16,none⟩=some (.pointer (some ⟨t,0,none⟩))∧x.cell? ⟨t,17,none⟩=some mv∧x.cell? ⟨t,5,none⟩=some (.int .i64 o.att.bal)) (by kernel_rfl) (fun _ _ _ _=>rfl) ?_ ?_
   ·exact⟨n.out.cl.cell 16 _ rfl,cB n.out.on.1 17 _ rfl,cB n.out.on.1 5 _ rfl⟩
   simp only[cM,cL];iterate 15 (apply sB rfl rfl;·(intro x h;(try have h:=h rfl);(try dsimp only at h);go_simp;with_reducible rfl))
   try simp only[pA]
   refine dC rfl (fun C hC=>?_);go_simp;have c6:Chg NoS P (P.alloc (.cells #[.int .i64 o.att.bal] 3)).drew:=((Chg.refl _ _).alloc _).drew;have bS:(P.alloc (.cells #[.int .i64 o.att.bal] 3)).drew.heap[P.heap.size]?=some (.cells #[.int .i64 o.att.bal] 3 (0,0)):=aA P _;have hsB:(P.alloc (.cells #[.int .i64 o.att.bal] 3)).drew.heap.size=P.heap.size+1:=by simp
   generalize (P.alloc (.cells #[.int .i64 o.att.bal] 3)).drew=WB at*;have i:=n.out.kept c6;refine hC _ _ ⟨i.cl.cell 16 _ rfl,cB i.on.1 17 _ rfl,cB i.on.1 5 _ rfl⟩ ?_;clear hC C;(try simp only[pA]);obtain⟨i0,hi,h4,i5,i2⟩:=info_parts aE0;refine dC rfl (fun C hC=>?_);refine wp_append_lies _ _ _ 25 rfl 0 3 i0 _ 1 8 underlying25 hi h4 i5 i2 rfl (by decide) mv o.mine.length (pL o.mine) rfl i.on.2.2.2.1 ⟨P.heap.size,0,none⟩ 1 1 [.int .i64 o.att.bal] rfl rfl (cE bS) (by simp[Value.oneCell']) (by decide) (by unfold maxLen;omega) (by omega) (aI _) (P.heap.size+1) hsB ?_;intro O b0 WC Z N f9 h3;have J:WB.grownBy WC mv.ownBlock:=⟨N.os,N.tape,N.output,N.size,N.block⟩;have b3:=gA i.on.2.2.2.1 i.on.1 (by decide);have m:=(Chg.of_grown J).kept i.on.1 (fun e=>b3 t e.symm rfl);have e2:=(Chg.of_grown J).kept i.cl.blk (fun e=>gA i.on.2.2.2.1 i.cl.blk (by decide) b e.symm rfl);refine hC _ _ ⟨cB e2 16 _ rfl,cB m 17 _ rfl,cB m 5 _ rfl⟩ ?_;clear hC C e2;(try simp only[pA]);iterate 2 (apply sB rfl rfl;·(intro x h;(try have h:=h rfl);(try dsimp only at h);go_simp;with_reducible rfl))
   refine cC ?_;try simp only[pA]
   have b7:=(c6.mono (T:=fun k=>some k=mv.ownBlock) (fun _ _ h=>h.elim)).trans (Chg.of_grown J) (fun _ _ h=>h);have d3:=gA Z m (by decide) O rfl;have i8:=cB m 17 _ rfl;have i7:=cY m 17;have c5:=dA WC t 17 (.slice (some ⟨O,0,none⟩) (o.mine.length+1) b0);have e1:=cO m 17 (.slice (some ⟨O,0,none⟩) (o.mine.length+1) b0);have h6:(WC.setCell ⟨t,17,none⟩ (.slice (some ⟨O,0,none⟩) (o.mine.length+1) b0)).heap.size=WC.heap.size:=by simp
   have a1:=c5.row Z (fun q hq e=>by simp[Value.ownBlock]at hq;omega);generalize f6:WC.setCell ⟨t,17,none⟩ (.slice (some ⟨O,0,none⟩) (o.mine.length+1) b0)=D at*;have h7:=cA f6;have K:=(b7.mono (T:=fun k=>some k=mv.ownBlock∨k=t) (fun _ _ h=>Or.inl h)).trans c5 (fun _ _ h=>Or.inr h);have g8:=b7.size;have e3:∀k,(F k∨k=O)→k<D.heap.size:=fun k a=>by
    rcases a with a|rfl
    ·have:=n.out.cl.lt k a;omega
    ·omega
   have f4:=n.out.mineset K o.att.bal (fun _ h=>Or.inl h) e3 (Or.inr rfl) e1 (by rw[show pL (o.mine++[o.att.bal])=pL o.mine++[.int .i64 o.att.bal] by simp[pL]];exact a1);have U:=cA f4;have X:∀k,k=O→F k∨P.heap.size≤k:=fun k e=>by
    subst e;rcases f9 with h|h
    ·exact Or.inl (n.out.on.2.2.2.2 _ h)
    ·right;omega
   have EO:Hid (eJ o w={o with att:={o.att with eres:=w.res,eown:=w.own,etok:=w.tok,awaited:=4,ans:=[]},mine:=o.mine++[o.att.bal]}):=by
    unfold eJ;rw[HQ.out]
    rfl
   have V:=(c1.out.mono (T:=F) (fun k _ hs=>hs.elim (fun e=>e▸HK.out.on.2.1) (fun e=>e▸L))).trans K (fun x _ hs=>hs.elim (fun e=>n.out.on.2.2.2.2 x e.symm) (fun e=>e▸HK.out.on.2.1));have c4:=cA (a6.out.kept V (fun k a hs=>p.out.2.1 k hs a));have Y:Hid (∀k,(F k∨k=O)→¬G k):=fun k a hg=>by
    have h1:=a6.out.lt k hg;have h2:=c1.out.size;rcases a with a|a
    ·exact p.out.2.1 k a hg
    ·rcases X k a with h|h
     ·exact p.out.2.1 k h hg
     ·omega
   have b8:Hid (Went W D F (fun k=>F k∨k=O) G G):=⟨((a5.out.mono (T:=F) (fun _ _ h=>h.elim)).trans V (fun _ _ h=>h)).mono (fun _ _ h=>Or.inl h),fun k a=>by
    rcases a with a|a
    ·exact Or.inl a
    ·rcases X k a with h|h
     ·exact Or.inl h
     ·right;have h1:=a5.out.size;have h2:=c1.out.size;omega,fun _ h=>Or.inl h⟩
   have c9:Hid (D.heap[B.heap.size]?=some (.cells (vlL w.next).toArray 56 (0,0))):=by
    refine K.kept d2.out (fun hs=>?_);rcases hs with e|e
    ·exact gA n.out.on.2.2.2.1 d2.out (by decide) _ e.symm rfl
    ·exact fQ d2.out n.out.on.1 (by decide) e
   clear f6 f4 K V X e3 a1 h6 e1 c5 b7 m N J Z i c6 bS hsB f9 h3 b3 d3 g8;(try simp only[pA]);go_wp2_with (first|rw[h7.out]);have HS:Hid (Calls prog 165 #[.pointer (some ⟨b,0,none⟩),mgV ⟨3,0,0,0,0,o.att.base,w.next⟩] D.drew fun r W'=>r= .returned (.tuple #[])∧∃G',Sys W' (fun k=>F k∨k=O) G' b g f av cv {c with doing:=some (eJ o w)} (net++cH (fA c (eJ o w) 3 o.att.base w.next (dI f))) (tr++fA c (eJ o w) 3 o.att.base w.next (dI f))∧Chg G D.drew W'∧∀k,G' k→G k∨D.drew.heap.size≤k):=
    pN D.drew (fun k=>F k∨k=O) G b g f av cv {c with doing:=some (eJ o w)} (eJ o w) net tr 3 o.att.base w.next (Sys.drew ⟨⟨ch,tk,a4,wt,_,by rw[EO.out];exact U.out.cl⟩,c4.out,Y.out⟩) rfl hf1 hf2 d.out.2.2.1 d.out.2.2.2
   have b9:=cB U.out.on.1 9 _ rfl;have a0:=cA (cE (W:=D.drew) c9.out);refine dZ [0,0,0,0,1,1,0] (by kernel_rfl) (fun _ _ _ _=>rfl) ?_;simp only[cM,cL];iterate 5 (apply sB rfl rfl;·(intro x h;(try cases h rfl);go_simp;with_reducible rfl))
   try simp only[pA]
   refine cK (v:=vlV w.next) rfl (fun x hx=>cF 56 _ rfl ⟨B.heap.size,0,none⟩ rfl (vlL w.next) _ (by subst hx;exact a0.out) underlying56 rfl (by kernel_rfl)) ?_;iterate 1 (apply sB rfl rfl;·(intro x h;(try cases h rfl);go_simp;with_reducible rfl))
   refine cC ?_;try simp only[pA]
   go_wp2_with (go_at_call 165;refine HS.out.mono ?_;rintro r W9 ⟨rfl,G9,q1,q2,q3⟩);go_end0;(try rw[if_neg M.out,if_neg M.out]);exact⟨by first|rfl|trivial,(fun k=>F k∨k=O),G9,q1,b8.out.trans ⟨q2.of_drew.mono (fun _ _ h=>Or.inr h),fun _ h=>Or.inl h,q3⟩⟩
theorem aDy(o:On)(an mv:Value):∀j x,(oJ o.att.eres o.att.eown o.att.etok)[j]?=some x→(rT o an mv).toArray[14+j]?=some x:=by
 intro j x a;have b:j<3:=(aF.1 a).1;rcases j with _|_|_|j
 ·exact a
 ·exact a
 ·exact a
 ·omega
theorem aFT(m:Mg):∀j x,(vlL m.val)[j]?=some x→(mgL m).toArray[6+j]?=some x:=by
 intro j x a;have b:j<4:=(aF.1 a).1;rcases j with _|_|_|_|j
 ·exact a
 ·exact a
 ·exact a
 ·exact a
 ·omega
section
variable {f:Cf}{c:Ct}{o:On}{m:Mg}
theorem pD(h:o.att.ans.contains m.src=false)(h2:((heardOn o m).att.ans.length:Int)≤f.f):iS f c o m={c with doing:=some (heardOn o m)}∧iW f c o m=[]:=by
 have hneg:¬o.att.ans.contains m.src=true:=by rw[h];decide
 constructor
 ·unfold iS;rw[if_neg hneg];exact if_pos h2
 ·unfold iW;rw[if_neg hneg];exact if_pos h2
theorem nP(h:o.att.ans.contains m.src=false)(h2:¬((heardOn o m).att.ans.length:Int)≤f.f)(h3:m.kind=2):iS f c o m=hP f {c with doing:=some (heardOn o m)} (heardOn o m)∧iW f c o m=gT f {c with doing:=some (heardOn o m)} (heardOn o m):=by
 have hneg:¬o.att.ans.contains m.src=true:=by rw[h];decide
 constructor
 ·unfold iS;rw[if_neg hneg];exact(if_neg h2).trans (if_pos h3)
 ·unfold iW;rw[if_neg hneg];exact(if_neg h2).trans (if_pos h3)
theorem oT(h:o.att.ans.contains m.src=false)(h2:¬((heardOn o m).att.ans.length:Int)≤f.f)(h3:m.kind≠2):iS f c o m=fT c (heardOn o m) (heardOn o m).att.eres (heardOn o m).att.etok (heardOn o m).att.val∧iW f c o m=kX c (heardOn o m) (heardOn o m).att.eres (heardOn o m).att.eown (heardOn o m).att.etok:=by
 have a:¬o.att.ans.contains m.src=true:=by rw[h];decide
 constructor
 ·unfold iS;rw[if_neg a];exact(if_neg h2).trans (if_neg h3)
 ·unfold iW;rw[if_neg a];exact(if_neg h2).trans (if_neg h3)
end
theorem aEg(W:World)(F G:Nat→Prop)(b g:Nat)(f:Cf)(av cv:Value)(c:Ct)(o:On)(net:List Mg)(tr:List Ev)(m:Mg)(h:Sys W F G b g f av cv c net tr)(hd:c.doing=some o)(hf1:1≤f.f)(hf2:f.f≤2)(hdr1:0≤f.drift)(hdr2:f.drift≤10)(hc:vQ c)(ho:aCL o)(hv:zP o.att.val)(hvm:zP m.val)
 (haw:o.att.awaited≠0) (hm:o.mine.length≤100000000000) (hw:∀l,0≤(c.wat l).since∧(c.wat l).since≤100000000000) (hla:o.att.ans.length≤100000000000) (hn:net.length≤99999999990) (ht:tr.length≤99999999990):
 Calls prog 132 #[.pointer (some ⟨b,0,none⟩),mgV m] W fun r W'=>r= .returned (.tuple #[])∧After W F G b g f av cv (iS f c o m) (net++cH (iW f c o m)) (tr++iW f c o m) W':=by
 obtain⟨⟨ch,tk,J,wt,dv,d7⟩,d1,d3⟩:=h;obtain⟨I,an,mv,rfl,hk⟩:=d7.kt hd;obtain⟨D,rfl,c8,b0⟩:∃D,an= .map (some D)∧SetAt W D o.att.ans∧F D:=by
  rcases hk.on.2.2.1 with⟨_,_,h⟩|h
  ·exact absurd h haw
  ·exact h
 generalize O:W.alloc (.cells #[.int .i64 m.kind,.int .i64 m.src,.int .i64 m.dst,.int .i64 m.lock,.int .i64 m.bal,.int .i64 m.base,.int .i64 m.val.own,.int .i64 m.val.tok,.int .i64 m.val.ttl,.int .i64 m.val.seq] 66)=W0;have d2:=cA O;have N:Chg NoS W W0:=by rw[←O];exact(Chg.refl _ _).alloc _
 have d6:W0.heap[W.heap.size]?=some (.cells (mgL m).toArray 66 (0,0)):=by rw[←O];exact aA W _
 have c9:W0.heap.size=W.heap.size+1:=by rw[←O];simp
 have E:=cA (hk.kept N);have c4:Hid (SetAt W0 D o.att.ans):=MapAt.kept c8 N (fun h=>h);have b5:=cA (d1.kept N (fun _ _ h=>h));have M:=cA d6;have b8:=cA N;have e6:=cA c9;have P:=cA d3;have a:=cA (aH8 hc ho hv hvm hw hd b0);have e7:=E.out.cl.cell 16 _ rfl;clear O N d6 c9 hk c8 d1 d7 d3 hc ho hv hvm hw;by_cases u:o.att.ans.contains m.src=true
 ·have eS:iS f c o m=c:=by unfold iS;rw[if_pos u]
  have eE:iW f c o m=[]:=by unfold iW;rw[if_pos u]
  rw[eS,eE,eU,aC,aC];have HG:∀x,Chg NoS W0 x→(Instr.lookup 189 (.map (some D)) (iK m.src) true).run prog x= .ok (.tuple #[.agg #[],.bool true]) x:=fun x hx=>u▸SetAt.has (MapAt.kept c4.out hx (fun h=>h)) m.src;clear eS eE u hd;go_enter func132,ntmps132;go_wp2_with (rw[d2.out]);refine rlx [0,0,0,1,0,1,1,0,0,0,2] (fun x=>x.cell? ⟨I,8,none⟩=some (.map (some D))∧x.cell? ⟨W.heap.size,1,none⟩=some (.int .i64 m.src)∧(Instr.lookup 189 (.map (some D)) (iK m.src) true).run prog x= .ok (.tuple #[.agg #[],.bool true]) x) (by kernel_rfl) (fun _ _ _ _=>rfl) ?_ ?_
  ·exact⟨cB E.out.on.1 8 _ rfl,cB M.out 1 _ rfl,HG _ (Chg.refl _ _).drew⟩
  simp only[cM,cL];iterate 10 (apply sB rfl rfl;·(intro x h;(try have h:=h rfl);(try dsimp only at h);go_simp;with_reducible rfl))
  try simp only[pA]
  refine dC rfl (fun C hC=>?_);go_simp;have z:Chg NoS W0 (W0.alloc (.cells #[] 206)).drew:=((Chg.refl _ _).alloc _).drew;have bE:(W0.alloc (.cells #[] 206)).drew.heap[W0.heap.size]?=some (.cells #[] 206 (0,0)):=aA W0 _;generalize (W0.alloc (.cells #[] 206)).drew=W1 at*;refine hC _ _ ⟨cB (z.kept E.out.on.1 (fun h=>h)) 8 _ rfl,cB (z.kept M.out (fun h=>h)) 1 _ rfl,HG _ z⟩ ?_;clear hC C;refine cC ?_;(try simp only[pA]);refine cG rfl 206 _ _ rfl W0.heap.size 0 206 _ _ [] rfl rfl bE (by kernel_rfl) (by simp) (by simp) rfl ?_;intro W2 L b6 c6;have H:=cA (z.fresh L (aE _));clear z bE L b6 c6 HG;go_wp2_with fail
  ((try simp only[Exit.inBlock,Exit.then]);refine bodyPost_ret (results_none rfl _ _ _) rfl ?_)
  have e3:=b8.out.trans H.out (fun _ _ h=>h);exact⟨rfl,F,G,⟨⟨ch,tk,J,wt,_,(E.out.kept H.out).cl⟩,b5.out.kept H.out (fun _ _ h=>h),P.out⟩,⟨e3.mono (fun _ _ h=>h.elim),fun _ h=>Or.inl h,fun _ h=>Or.inl h⟩⟩
 ·have u:o.att.ans.contains m.src=false:=by simpa using u
  have HG:∀x,Chg NoS W0 x→(Instr.lookup 189 (.map (some D)) (iK m.src) true).run prog x= .ok (.tuple #[.agg #[],.bool false]) x:=fun x hx=>u▸SetAt.has (MapAt.kept c4.out hx (fun h=>h)) m.src;clear hd;go_enter func132,ntmps132;go_wp2_with (rw[d2.out]);refine rlx [0,0,0,1,0,1,1,0,0,0,2] (fun x=>x.cell? ⟨I,8,none⟩=some (.map (some D))∧x.cell? ⟨W.heap.size,1,none⟩=some (.int .i64 m.src)∧(Instr.lookup 189 (.map (some D)) (iK m.src) true).run prog x= .ok (.tuple #[.agg #[],.bool false]) x) (by kernel_rfl) (fun _ _ _ _=>rfl) ?_ ?_
  ·exact⟨cB E.out.on.1 8 _ rfl,cB M.out 1 _ rfl,HG _ (Chg.refl _ _).drew⟩
  simp only[cM,cL];iterate 10 (apply sB rfl rfl;·(intro x h;(try have h:=h rfl);(try dsimp only at h);go_simp;with_reducible rfl))
  try simp only[pA]
  refine dC rfl (fun C hC=>?_);go_simp;have z:Chg NoS W0 (W0.alloc (.cells #[] 206)).drew:=((Chg.refl _ _).alloc _).drew;have bE:(W0.alloc (.cells #[] 206)).drew.heap[W0.heap.size]?=some (.cells #[] 206 (0,0)):=aA W0 _;generalize (W0.alloc (.cells #[] 206)).drew=W1 at*;refine hC _ _ ⟨cB (z.kept E.out.on.1 (fun h=>h)) 8 _ rfl,cB (z.kept M.out (fun h=>h)) 1 _ rfl,HG _ z⟩ ?_;clear hC C;refine cC ?_;(try simp only[pA]);refine cG rfl 206 _ _ rfl W0.heap.size 0 206 _ _ [] rfl rfl bE (by kernel_rfl) (by simp) (by simp) rfl ?_;intro W2 L b6 c6;have H:=cA (z.fresh L (aE _));clear z bE L b6 c6 HG;have i:=cA (E.out.kept H.out);have c7:Hid (SetAt W2 D o.att.ans):=MapAt.kept c4.out H.out (fun h=>h);have c0:=cA (H.out.kept M.out (fun h=>h));have a8:=cB i.out.on.1 8 _ rfl;have x1:=cB c0.out 1 _ rfl;go_wp2_with fail;refine dZ [0,0,0,1,0,1,0] (by kernel_rfl) (fun _ _ _ _=>rfl) ?_;simp only[cM,cL];iterate 7 (apply sB rfl rfl;·(intro x h;(try cases h rfl);go_simp;with_reducible rfl))
  refine cC ?_;try simp only[pA]
  refine jS rfl _ _ _ _ rfl _ _ _ rfl rfl rfl _ (SetAt.put (W:=W2.drew) c7.out m.src u) ?_;rintro W3 ⟨a3,e1,m3⟩;have d4:=i.out.ansset a3.of_drew c7.out _ m3 a.out.2.2.2.2.2.2;obtain⟨_,_,d5⟩:=MapAt.obj c7.out;have a4:=cA (a3.of_drew.kept c0.out (fun e=>dR c0.out d5 (by simp) e));have a5:=cA d4;have d0:=cA ((H.out.mono (T:=F) (fun _ _ h=>h.elim)).trans a3.of_drew (fun x _ e=>e▸b0));clear a3 e1 m3 d4 d5 a8 x1;have a9:=cB a5.out.on.1 9 _ rfl;have x5:=cB a4.out 5 _ rfl;go_wp2_with fail;by_cases hb:o.att.base<m.base
  ·have e4:decide (o.att.base<m.base)=true:=by simpa using hb
   have Q:=cA hb;clear hb;refine dZ [0,1,0,0,0,1,0] (by kernel_rfl) (fun _ _ _ _=>rfl) ?_;simp only[cM,cL];iterate 7 (apply sB rfl rfl;·(intro x h;(try cases h rfl);go_simp;with_reducible rfl))
   refine cC ?_;try simp only[pA]
   go_wp2_with fail;have z9:=cY a5.out.on.1 9;refine rlx [0,0,0,1,0,1,0,0,2,0,0] (fun x=>x.cell? ⟨W.heap.size,5,none⟩=some (.int .i64 m.base)∧(∀j y,(vlL m.val)[j]?=some y→x.cell? ((⟨W.heap.size,6,none⟩:Addr).add j)=some y)) (by kernel_rfl) (fun _ _ _ _=>rfl) ?_ ?_
   ·exact⟨x5,fF a4.out 6 _ (aFT m)⟩
   simp only[cM,cL];iterate 5 (apply sB rfl rfl;·(intro x h;(try have h:=h rfl);(try dsimp only at h);go_simp;with_reducible rfl))
   try simp only[pA]
   refine cK (v:=vlV m.val) rfl (fun x hx=>cF 56 _ rfl ⟨W.heap.size,6,none⟩ rfl (vlL m.val) _ hx.2 underlying56 rfl (by kernel_rfl)) ?_;iterate 2 (apply sB rfl rfl;·(intro x h;(try have h:=h rfl);(try dsimp only at h);go_simp;with_reducible rfl))
   try simp only[pA]
   refine dC rfl (fun C hC=>?_);generalize Z:W3.drew.drew=Wd at*;have B:Kt Wd F b g f {c with doing:=some {o with att:={o.att with ans:=o.att.ans++[m.src]}}} {o with att:={o.att with ans:=o.att.ans++[m.src]}} ch tk J wt I (.map (some D)) mv:=Z▸a5.out.kept (Chg.refl _ _).drew.drew;have V:Wd.heap[W.heap.size]?=some (.cells (mgL m).toArray 66 (0,0)):=Z▸a4.out;have b3:=Z▸d0.out.drew.drew;have d9:=cB B.on.1 9 _ rfl;have e2:=cY B.on.1 9;clear Z;go_simp;have a6:=dA Wd I 9 (.int .i64 m.base);have a7:=B.opset a6 {o with att:={o.att with ans:=o.att.ans++[m.src],base:=m.base}} (cO B.on.1 9 _) rfl (fun h=>absurd h haw) (fun h=>absurd h haw) rfl;have R:=a6.kept V (fun e=>fQ V B.on.1 (by decide) e);generalize Wd.setCell ⟨I,9,none⟩ (.int .i64 m.base)=We at*;refine hC _ _ ⟨cB R 5 _ rfl,fF R 6 _ (aFT m)⟩ ?_;clear hC C;(try simp only[pA]);iterate 2 (apply sB rfl rfl;·(intro x h;(try have h:=h rfl);(try dsimp only at h);go_simp;with_reducible rfl))
   refine cC ?_;try simp only[pA]
   refine cG rfl 56 _ _ rfl I 10 195 _ _ (rT (heardOn o m) (.map (some D)) mv) rfl rfl a7.on.1 (by kernel_rfl) (by simp[Value.oneCell']) (by simp) (by unfold heardOn;rw[if_pos Q.out,if_pos Q.out];rfl) ?_;intro t a0 e5 b4;have s:=cA (a7.opset a0 (heardOn o m) b4 rfl (fun h=>absurd h haw) (fun h=>absurd h haw) rfl);have c5:=cA (a0.kept R (fun e=>fQ R a7.on.1 (by decide) e));have K:=cA ((b3.trans a6 (fun x _ e=>e▸E.out.on.2.1)).trans a0 (fun x _ e=>e▸E.out.on.2.1));clear B V b3 d9 e2 a6 a7 R a0 e5 b4 a9 x5 z9;go_wp2_with fail;have w:Hid (Went W t F F G G):=⟨((b8.out.mono (T:=F) (fun _ _ h=>h.elim)).trans K.out (fun _ _ h=>h)).mono (fun _ _ h=>Or.inl h),fun _ h=>Or.inl h,fun _ h=>Or.inl h⟩;have b9:=cA (b5.out.kept K.out (fun k hk hs=>P.out k hs hk));have c3:Hid (SetAt t D (heardOn o m).att.ans):=by
    rcases s.out.on.2.2.1 with⟨_,_,h⟩|⟨x,h1,h2,_⟩
    ·exact absurd h haw
    ·have e:D=x:=by simpa using h1
     rw[e];exact h2
   have A:Hid (Sys t F G b g f av cv {c with doing:=some (heardOn o m)} net tr):=⟨⟨ch,tk,J,wt,_,s.out.cl⟩,b9.out,P.out⟩;have d8:=SetAt.size (W:=t.drew) c3.out 3;have r8:=cB s.out.on.1 8 _ rfl;have r0:=s.out.cl.cell 0 _ rfl;have e0:=cB c5.out 0 _ rfl;have q:=cA u;clear u;by_cases p:((heardOn o m).att.ans.length:Int)≤f.f
   ·have U:decide (((heardOn o m).att.ans.length:Int)≤f.f)=true:=by simpa using p
    have d:=cA p;clear p;refine dZ [0,0,0,1,1,0,0,0,0,1,0] (by kernel_rfl) (fun _ _ _ _=>rfl) ?_;simp only[cM,cL];iterate 11 (apply sB rfl rfl;·(intro x h;(try cases h rfl);go_simp;with_reducible rfl))
    refine cC ?_;try simp only[pA]
    go_wp2_with fail
    ((try simp only[Exit.inBlock,Exit.then]);refine bodyPost_ret (results_none rfl _ _ _) rfl ?_)
    rw[(pD q.out (by have:=d.out;omega)).1,(pD q.out (by have:=d.out;omega)).2,eU,aC,aC];exact⟨rfl,F,G,A.out.drew,⟨w.out.chg.drew,w.out.f,w.out.g⟩⟩
   ·have U:decide (((heardOn o m).att.ans.length:Int)≤f.f)=false:=by simpa using p
    have d:=cA p;clear p;have b7:Hid (zP (heardOn o m).att.val):=by
     show zP (if o.att.base<m.base then m.val else o.att.val);split
     ·exact a.out.2.2.2.1
     ·exact a.out.2.2.1
    by_cases n:m.kind=2
    ·have Y:(m.kind==2)=true:=by simp[n]
     have i:=cA n;clear n;have HP:Hid (Calls prog 175 #[.pointer (some ⟨b,0,none⟩)] t.drew fun r W'=>r= .returned (.tuple #[])∧After t.drew F G b g f av cv (hP f {c with doing:=some (heardOn o m)} (heardOn o m)) (net++cH (gT f {c with doing:=some (heardOn o m)} (heardOn o m))) (tr++gT f {c with doing:=some (heardOn o m)} (heardOn o m)) W'):=
      uZ t.drew F G b g f av cv {c with doing:=some (heardOn o m)} (heardOn o m) net tr A.out.drew rfl hf1 hf2 hdr1 hdr2 ⟨a.out.1.n1,a.out.1.n2,a.out.1.i1,a.out.1.i2,a.out.1.c1,a.out.1.c2,a.out.1.r1,a.out.1.r2⟩ ⟨a.out.2.1.b1,a.out.2.1.b2,a.out.2.1.t1,a.out.2.1.t2,a.out.2.1.k1,a.out.2.1.k2,a.out.2.1.a1,a.out.2.1.a2⟩ b7.out haw hm a.out.2.2.2.2.1 hn ht
     refine dZ [0,0,0,1,1,0,0,0,0,1,0] (by kernel_rfl) (fun _ _ _ _=>rfl) ?_;simp only[cM,cL];iterate 11 (apply sB rfl rfl;·(intro x h;(try cases h rfl);go_simp;with_reducible rfl))
     refine cC ?_;try simp only[pA]
     go_wp2_with (go_at_call 175;refine HP.out.mono ?_;rintro r W5 ⟨rfl,k5⟩)
     ((try simp only[Exit.inBlock,Exit.then]);refine bodyPost_ret (results_none rfl _ _ _) rfl ?_)
     rw[(nP q.out (by have:=d.out;omega) i.out).1,(nP q.out (by have:=d.out;omega) i.out).2];exact⟨rfl,After.trans w.out k5.drew⟩
    ·have Y:(m.kind==2)=false:=by simp[n]
     have i:=cA n;clear n;have HE:Hid (Calls prog 164 #[.pointer (some ⟨b,0,none⟩),rM (heardOn o m).att.eres (heardOn o m).att.eown (heardOn o m).att.etok,vlV (heardOn o m).att.val] t.drew.drew fun r W'=>r= .returned (.tuple #[])∧After t.drew.drew F G b g f av cv (fT {c with doing:=some (heardOn o m)} (heardOn o m) (heardOn o m).att.eres (heardOn o m).att.etok (heardOn o m).att.val) net (tr++kX {c with doing:=some (heardOn o m)} (heardOn o m) (heardOn o m).att.eres (heardOn o m).att.eown (heardOn o m).att.etok) W'):=
      sK t.drew.drew F G b g f av cv {c with doing:=some (heardOn o m)} (heardOn o m) net tr _ _ _ _ A.out.drew.drew rfl a.out.1.n1 (by have:=a.out.1.n2;show c.num≤1000;omega) a.out.2.1.b1 (by have:=a.out.2.1.b2;show o.began≤1000000000000;omega) a.out.2.1.t1 (by have:=a.out.2.1.t2;show o.ttl≤1000000;omega) (by omega) (by omega)
     have S:=cA (fF (W:=t.drew.drew) s.out.on.1 14 _ (aDy _ _ _));have X:=cA (fF (W:=t.drew.drew) s.out.on.1 10 _ (vZ _ _ _));refine dZ [0,0,0,1,1,0,0,0,0,1,0] (by kernel_rfl) (fun _ _ _ _=>rfl) ?_;simp only[cM,cL];iterate 11 (apply sB rfl rfl;·(intro x h;(try cases h rfl);go_simp;with_reducible rfl))
     refine cC ?_;try simp only[pA]
     go_wp2_with fail;refine dZ [0,0,0,0,1,0,0,0,1] (by kernel_rfl) (fun _ _ _ _=>rfl) ?_;simp only[cM,cL];iterate 4 (apply sB rfl rfl;·(intro x h;(try cases h rfl);go_simp;with_reducible rfl))
     try simp only[pA]
     refine cK (v:=rM (heardOn o m).att.eres (heardOn o m).att.eown (heardOn o m).att.etok) rfl (fun x hx=>cF 191 _ rfl ⟨I,14,none⟩ rfl (oJ (heardOn o m).att.eres (heardOn o m).att.eown (heardOn o m).att.etok) _ (by subst hx;exact S.out) underlying191 rfl (by kernel_rfl)) ?_;iterate 3 (apply sB rfl rfl;·(intro x h;(try cases h rfl);go_simp;with_reducible rfl))
     try simp only[pA]
     refine cK (v:=vlV (heardOn o m).att.val) rfl (fun x hx=>cF 56 _ rfl ⟨I,10,none⟩ rfl (vlL (heardOn o m).att.val) _ (by subst hx;exact X.out) underlying56 rfl (by kernel_rfl)) ?_;refine cC ?_;go_wp2_with (go_at_call 164;refine HE.out.mono ?_;rintro r W5 ⟨rfl,k5⟩);go_end0;rw[(oT q.out (by have:=d.out;omega) i.out).1,(oT q.out (by have:=d.out;omega) i.out).2,oK,aC];exact⟨rfl,After.trans w.out k5.drew.drew⟩
  ·have e4:decide (o.att.base<m.base)=false:=by simpa using hb
   have Q:=cA hb;clear hb;refine dZ [0,1,0,0,0,1,0] (by kernel_rfl) (fun _ _ _ _=>rfl) ?_;simp only[cM,cL];iterate 7 (apply sB rfl rfl;·(intro x h;(try cases h rfl);go_simp;with_reducible rfl))
   refine cC ?_;try simp only[pA]
   have s:Hid (Kt W3.drew F b g f {c with doing:=some (heardOn o m)} (heardOn o m) ch tk J wt I (.map (some D)) mv):=by
    have e:heardOn o m={o with att:={o.att with ans:=o.att.ans++[m.src]}}:=by unfold heardOn;rw[if_neg Q.out,if_neg Q.out]
    rw[e];exact a5.out.kept (Chg.refl _ _).drew
   have c5:Hid (W3.drew.heap[W.heap.size]?=some (.cells (mgL m).toArray 66 (0,0))):=a4.out;have K:=cA d0.out.drew;clear a9 x5;generalize W3.drew=t at*;go_wp2_with fail;have w:Hid (Went W t F F G G):=⟨((b8.out.mono (T:=F) (fun _ _ h=>h.elim)).trans K.out (fun _ _ h=>h)).mono (fun _ _ h=>Or.inl h),fun _ h=>Or.inl h,fun _ h=>Or.inl h⟩;have b9:=cA (b5.out.kept K.out (fun k hk hs=>P.out k hs hk));have c3:Hid (SetAt t D (heardOn o m).att.ans):=by
    rcases s.out.on.2.2.1 with⟨_,_,h⟩|⟨x,h1,h2,_⟩
    ·exact absurd h haw
    ·have e:D=x:=by simpa using h1
     rw[e];exact h2
   have A:Hid (Sys t F G b g f av cv {c with doing:=some (heardOn o m)} net tr):=⟨⟨ch,tk,J,wt,_,s.out.cl⟩,b9.out,P.out⟩;have d8:=SetAt.size (W:=t.drew) c3.out 3;have r8:=cB s.out.on.1 8 _ rfl;have r0:=s.out.cl.cell 0 _ rfl;have e0:=cB c5.out 0 _ rfl;have q:=cA u;clear u;by_cases p:((heardOn o m).att.ans.length:Int)≤f.f
   ·have U:decide (((heardOn o m).att.ans.length:Int)≤f.f)=true:=by simpa using p
    have d:=cA p;clear p;refine dZ [0,0,0,1,1,0,0,0,0,1,0] (by kernel_rfl) (fun _ _ _ _=>rfl) ?_;simp only[cM,cL];iterate 11 (apply sB rfl rfl;·(intro x h;(try cases h rfl);go_simp;with_reducible rfl))
    refine cC ?_;try simp only[pA]
    go_wp2_with fail
    ((try simp only[Exit.inBlock,Exit.then]);refine bodyPost_ret (results_none rfl _ _ _) rfl ?_)
    rw[(pD q.out (by have:=d.out;omega)).1,(pD q.out (by have:=d.out;omega)).2,eU,aC,aC];exact⟨rfl,F,G,A.out.drew,⟨w.out.chg.drew,w.out.f,w.out.g⟩⟩
   ·have U:decide (((heardOn o m).att.ans.length:Int)≤f.f)=false:=by simpa using p
    have d:=cA p;clear p;have b7:Hid (zP (heardOn o m).att.val):=by
     show zP (if o.att.base<m.base then m.val else o.att.val);split
     ·exact a.out.2.2.2.1
     ·exact a.out.2.2.1
    by_cases n:m.kind=2
    ·have Y:(m.kind==2)=true:=by simp[n]
     have i:=cA n;clear n;have HP:Hid (Calls prog 175 #[.pointer (some ⟨b,0,none⟩)] t.drew fun r W'=>r= .returned (.tuple #[])∧After t.drew F G b g f av cv (hP f {c with doing:=some (heardOn o m)} (heardOn o m)) (net++cH (gT f {c with doing:=some (heardOn o m)} (heardOn o m))) (tr++gT f {c with doing:=some (heardOn o m)} (heardOn o m)) W'):=
      uZ t.drew F G b g f av cv {c with doing:=some (heardOn o m)} (heardOn o m) net tr A.out.drew rfl hf1 hf2 hdr1 hdr2 ⟨a.out.1.n1,a.out.1.n2,a.out.1.i1,a.out.1.i2,a.out.1.c1,a.out.1.c2,a.out.1.r1,a.out.1.r2⟩ ⟨a.out.2.1.b1,a.out.2.1.b2,a.out.2.1.t1,a.out.2.1.t2,a.out.2.1.k1,a.out.2.1.k2,a.out.2.1.a1,a.out.2.1.a2⟩ b7.out haw hm a.out.2.2.2.2.1 hn ht
     refine dZ [0,0,0,1,1,0,0,0,0,1,0] (by kernel_rfl) (fun _ _ _ _=>rfl) ?_;simp only[cM,cL];iterate 11 (apply sB rfl rfl;·(intro x h;(try cases h rfl);go_simp;with_reducible rfl))
     refine cC ?_;try simp only[pA]
     go_wp2_with (go_at_call 175;refine HP.out.mono ?_;rintro r W5 ⟨rfl,k5⟩)
     ((try simp only[Exit.inBlock,Exit.then]);refine bodyPost_ret (results_none rfl _ _ _) rfl ?_)
     rw[(nP q.out (by have:=d.out;omega) i.out).1,(nP q.out (by have:=d.out;omega) i.out).2];exact⟨rfl,After.trans w.out k5.drew⟩
    ·have Y:(m.kind==2)=false:=by simp[n]
     have i:=cA n;clear n;have HE:Hid (Calls prog 164 #[.pointer (some ⟨b,0,none⟩),rM (heardOn o m).att.eres (heardOn o m).att.eown (heardOn o m).att.etok,vlV (heardOn o m).att.val] t.drew.drew fun r W'=>r= .returned (.tuple #[])∧After t.drew.drew F G b g f av cv (fT {c with doing:=some (heardOn o m)} (heardOn o m) (heardOn o m).att.eres (heardOn o m).att.etok (heardOn o m).att.val) net (tr++kX {c with doing:=some (heardOn o m)} (heardOn o m) (heardOn o m).att.eres (heardOn o m).att.eown (heardOn o m).att.etok) W'):=
      sK t.drew.drew F G b g f av cv {c with doing:=some (heardOn o m)} (heardOn o m) net tr _ _ _ _ A.out.drew.drew rfl a.out.1.n1 (by have:=a.out.1.n2;show c.num≤1000;omega) a.out.2.1.b1 (by have:=a.out.2.1.b2;show o.began≤1000000000000;omega) a.out.2.1.t1 (by have:=a.out.2.1.t2;show o.ttl≤1000000;omega) (by omega) (by omega)
     have S:=cA (fF (W:=t.drew.drew) s.out.on.1 14 _ (aDy _ _ _));have X:=cA (fF (W:=t.drew.drew) s.out.on.1 10 _ (vZ _ _ _));refine dZ [0,0,0,1,1,0,0,0,0,1,0] (by kernel_rfl) (fun _ _ _ _=>rfl) ?_;simp only[cM,cL];iterate 11 (apply sB rfl rfl;·(intro x h;(try cases h rfl);go_simp;with_reducible rfl))
     refine cC ?_;try simp only[pA]
     go_wp2_with fail;refine dZ [0,0,0,0,1,0,0,0,1] (by kernel_rfl) (fun _ _ _ _=>rfl) ?_;simp only[cM,cL];iterate 4 (apply sB rfl rfl;·(intro x h;(try cases h rfl);go_simp;with_reducible rfl))
     try simp only[pA]
     refine cK (v:=rM (heardOn o m).att.eres (heardOn o m).att.eown (heardOn o m).att.etok) rfl (fun x hx=>cF 191 _ rfl ⟨I,14,none⟩ rfl (oJ (heardOn o m).att.eres (heardOn o m).att.eown (heardOn o m).att.etok) _ (by subst hx;exact S.out) underlying191 rfl (by kernel_rfl)) ?_;iterate 3 (apply sB rfl rfl;·(intro x h;(try cases h rfl);go_simp;with_reducible rfl))
     try simp only[pA]
     refine cK (v:=vlV (heardOn o m).att.val) rfl (fun x hx=>cF 56 _ rfl ⟨I,10,none⟩ rfl (vlL (heardOn o m).att.val) _ (by subst hx;exact X.out) underlying56 rfl (by kernel_rfl)) ?_;refine cC ?_;go_wp2_with (go_at_call 164;refine HE.out.mono ?_;rintro r W5 ⟨rfl,k5⟩);go_end0;rw[(oT q.out (by have:=d.out;omega) i.out).1,(oT q.out (by have:=d.out;omega) i.out).2,oK,aC];exact⟨rfl,After.trans w.out k5.drew.drew⟩
end Go.Proofs.YtbbdgokdfhdpiaaGreatDoor
