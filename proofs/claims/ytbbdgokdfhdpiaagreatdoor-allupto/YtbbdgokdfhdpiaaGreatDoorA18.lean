/- A part. -/
import Derived.Test.YtbbdgokdfhdpiaaGreatDoorA15
namespace Go.Proofs.YtbbdgokdfhdpiaaGreatDoor
set_option linter.all false
set_option maxRecDepth 100000
set_option maxHeartbeats 0
open Go.Proofs.Tryz Go.RowKit
section
open Go.Maps
theorem Chg.below'{A B:World}(h:Below A.heap.size A B):Chg NoS A B:=⟨h.os,h.tape,h.output,h.size,fun k hk _=>h.block k hk⟩
theorem aF9{f:FuncId}{args:Array Value}{v ev:Value}{W:World}{F:Nat→Prop}{d:Nat}{p:Dk×How}(h:Calls prog f args W fun e W'=>EndsK v ev W F d p e W'):match p.2 with
 |.none=>Calls prog f args W fun e W'=>e= .returned v∧DkTo W F d p.1 W'
 |(.some (.some q))=>Calls prog f args W fun e W'=>e= .panicked (rS q)∧DkTo W F d p.1 W'
 |(.some .none)=>Calls prog f args W fun e W'=>∃b,e= .returned (lV b)∧lU W' b ev∧W.heap.size≤b∧DkTo W F d p.1 W':=by
 obtain⟨k,a⟩:=p;cases a using mM with
 |fine=>exact h.mono fun e W' ⟨a,h2⟩=>⟨h2,a⟩
 |dies q=>exact h.mono fun e W' ⟨a,h2⟩=>⟨h2,a⟩
 |full=>exact h.mono fun e W' ⟨a,b,h2,h3,h4⟩=>⟨b,h2,h3,h4,a⟩
theorem EndsK.log{v ev:Value}{W W':World}{F:Nat→Prop}{d:Nat}{p:Dk×How}{e:Ending}(h:EndsK v ev W F d p e W'):DkTo W F d p.1 W':=h.1
theorem aJV{W:World}{tb:Nat}{rs:List Rw}(h:aBv W tb rs)(r:Rw)(hr:0≤r.lock∧r.lock≤3)(hl:∀r ∈ rs,0≤r.lock∧r.lock≤3):∃W',(Instr.mapUpdate 118 (.map (some tb)) (.int .i64 r.lock) (rwV r)).run prog W= .ok () W'∧aBv W' tb (rs++[r])∧Chg (fun x=>x=tb) W W'∧W'.heap.size=W.heap.size:=by
 have c:keyOf prog 3 (.int .i64 r.lock)=some (.int .i64 r.lock):=keyOf_int_mk underlying3 (aEd hr.1 (by omega));obtain⟨W',d,a,b⟩:=h.store aHQ underlying118 (by decide) c (aAM r);refine⟨W',d,?_,pS b,oF b⟩;rw[←vC]at a;have e:=vX (rs:=rs++[r]) (fun x hx=>by
  rcases aO.1 hx with h|h
  ·exact hl x h
  ·rw[List.mem_singleton]at h;subst h;exact hr) a
 exact nY a (by rw[e];exact oP _)
theorem aHw(W:World)(F:Nat→Prop)(B:Nat)(eb:Addr)(b g:Nat)(a:Ac)(r:Rw)(h:Acc W F b g a)(hgl:GlAt W B eb)(hFB:∀x,F x→B≤x)(hok:yA a)(hr:0≤r.lock∧r.lock≤3)(hnew:a.dk.new=none)(hold:a.dk.old=none):
 Calls prog 171 #[.pointer (some ⟨b,0,none⟩),rwV r] W fun e W'=>tM .nilIface (oO eb) W F b g (gN a r) e W':=by
 obtain⟨FD,d,tb,h,d6,c4⟩:=h;have b5:Chg NoS W (W.alloc (.cells #[.int .i64 r.lock,.int .i64 r.prom,.int .i64 r.acc,.int .i64 r.own,.int .i64 r.tok,.int .i64 r.ttl,.int .i64 r.seq] 58)):=(Chg.refl _ _).alloc _;have c6:(W.alloc (.cells #[.int .i64 r.lock,.int .i64 r.prom,.int .i64 r.acc,.int .i64 r.own,.int .i64 r.tok,.int .i64 r.ttl,.int .i64 r.seq] 58)).heap[W.heap.size]?=some (.cells (rwL r).toArray 58 (0,0)):=aA W _;have c5:(W.alloc (.cells #[.int .i64 r.lock,.int .i64 r.prom,.int .i64 r.acc,.int .i64 r.own,.int .i64 r.tok,.int .i64 r.ttl,.int .i64 r.seq] 58)).heap.size=W.heap.size+1:=by simp
 generalize d2:W.alloc (.cells #[.int .i64 r.lock,.int .i64 r.prom,.int .i64 r.acc,.int .i64 r.own,.int .i64 r.tok,.int .i64 r.ttl,.int .i64 r.seq] 58)=W0 at*;have c8:=cN d2;have h0:=h.kept b5 (fun _ _ h=>h);have c2:=h0.cell 2 _ rfl;have E:=cN (aLv h d6 c4 hgl hFB hok hr hnew hold);have c1:=cN b5;have b4:=cN c6;have b9:=cN c5;have c0:Hid (∀x,x=W0.drew→Calls prog 100 #[rwV r] x fun e w'=>e= .returned (.string (strOfNums (dW r)))∧Below x.heap.size x w'):=fun x hx=>aCN r x;clear d2 b5 c6 c5 h0 h d6 c4 hgl hFB hok hr hnew hold;go_enter func171,ntmps171;go_wp2_with (first|rw[c8.out]);refine rlx [0,0,0,1,1,2] (fun x=>x.cell? ⟨b,2,none⟩=some (.pointer (some ⟨d,0,none⟩))∧∀j y,(rwL r)[j]?=some y→x.cell? ((⟨W.heap.size,0,none⟩:Addr).add j)=some y) (by kernel_rfl) (fun _ _ _ _=>rfl) ?_ ?_
 ·exact⟨c2,cR (W:=W0.drew) b4.out⟩
 simp only[dC,dB];iterate 4 (apply sB rfl rfl;·(intro x h;(try have h:=h rfl);(try dsimp only at h);go_simp;with_reducible rfl))
 try simp only[pA]
 refine dA (v:=rwV r) rfl (fun x hx=>cU 58 _ rfl ⟨W.heap.size,0,none⟩ rfl (rwL r) _ hx.2 underlying58 rfl (by kernel_rfl)) ?_;(try simp only[pA]);refine dI rfl (fun C hC=>?_);go_simp;refine(c0.out _ rfl).mono ?_;rintro e W1 ⟨rfl,U⟩;have a7:=c1.out.trans (S:=NoS) (Chg.below' U).of_drew (fun _ _ h=>h);have b7:=(Chg.below' U).of_drew.kept b4.out (fun h=>h);have d0:W.heap.size+1≤W1.heap.size:=by have:=(Chg.below' U).size;have:=b9.out;simp at*;omega
 have h1:=E.out.1.kept a7 (fun _ _ h=>h);refine hC _ _ ⟨h1.cell 2 _ rfl,cR b7⟩ ?_;clear hC C;refine cP ?_;have a3:=E.out.2.2.2.1.kept a7 (fun _ h=>h.elim);have hok:=E.out.2.2.2.2.2.1;have e1:((dW r).length:Int)≤25:=by
  unfold dW;split
  ·rw[oC];decide
  ·decide
 have a9:¬FD 0:=fun hx=>by
  have:=E.out.2.2.2.2.1 0 (E.out.2.1 0 (Or.inl hx));have:=a3.b0;omega
 have e4:hP a.dk=0:=by unfold hP;rw[E.out.2.2.2.2.2.2.2.1]
 have R:=cN (aBX W1 FD d a.dk _ _ (dW r) h1.disk hok.fo a3.err a9 E.out.2.2.2.2.2.2.2.2 (by omega) (by have:=hok.l1;omega) (by omega));have X:=cN a7;have b6:=cN b7;have O:=cN d0;have b1:=cN h1;clear U a7 b7 d0 h1 a3 hok e1 a9 e4 c2 c0 b4 c1 b9 c8;obtain⟨J,d3⟩:=aLA ((eP a.dk (dW r) lI).1);have V:=cN d3;clear d3;have c:=aF9 R.out;cases hp:(eP a.dk (dW r) lI).2 using mM with
 |dies q=>
  rw[hp]at c;have k:=cN c;clear c R;go_wp2_with (first|(go_at_call 196;refine k.out.mono ?_;rintro e W2 ⟨rfl,l⟩;refine cQ ?_));obtain⟨Y,Z,T,n,s,i,t,A⟩:=b1.out.to E.out.2.1 (fun x hx=>aG (E.out.2.2.1 x hx) X.out.size) l;rw[V.out]at T;have p:=(X.out.nos:Chg F W W1).trans i (fun _ _ h=>h);have m:∀x,Z x→F x∨W.heap.size≤x:=fun x hx=>by
   rcases A x hx with h|h
   ·exact Or.inl h
   ·right;have:=O.out;omega
  have z:¬F W.heap.size:=fun hx=>by have:=E.out.2.2.1 _ hx;omega
  have u:¬Z W.heap.size:=fun hx=>by
   rcases A _ hx with h|h
   ·exact z h
   ·have:=O.out;omega
  have K:=i.kept b6.out z;have a4:Hid (AcTo W F b g {a with dk:=J} W2):=⟨Z,⟨Y,d,tb,T,n,s⟩,p,m⟩;have f:=cN (aLt T n s p m u K);have c9:=cN (l.choose_spec.2.1.size);clear T n s p m u K l i t A z;have P:Hid (gN a r=({a with dk:=J},(.some (.some q)))):=by
   show _=_;have e:eP a.dk (dW r) lI=(J,(.some (.some q))):=by rw[←V.out,←hp]
   unfold gN lY iF;rw[e]
  clear hp;refine cN ?_;go_wp2_with fail;refine⟨rfl,?_⟩;rw[P.out];exact⟨a4.out,rfl⟩
 |full=>
  rw[hp]at c;have k:=cN c;clear c R;go_wp2_with (first|(go_at_call 196;refine k.out.mono ?_;rintro e W2 ⟨fb,rfl,d4,e5,l⟩;refine cQ ?_));obtain⟨Y,Z,T,n,s,i,t,A⟩:=b1.out.to E.out.2.1 (fun x hx=>aG (E.out.2.2.1 x hx) X.out.size) l;rw[V.out]at T;have p:=(X.out.nos:Chg F W W1).trans i (fun _ _ h=>h);have m:∀x,Z x→F x∨W.heap.size≤x:=fun x hx=>by
   rcases A x hx with h|h
   ·exact Or.inl h
   ·right;have:=O.out;omega
  have z:¬F W.heap.size:=fun hx=>by have:=E.out.2.2.1 _ hx;omega
  have u:¬Z W.heap.size:=fun hx=>by
   rcases A _ hx with h|h
   ·exact z h
   ·have:=O.out;omega
  have K:=i.kept b6.out z;have a4:Hid (AcTo W F b g {a with dk:=J} W2):=⟨Z,⟨Y,d,tb,T,n,s⟩,p,m⟩;have f:=cN (aLt T n s p m u K);have c9:=cN (l.choose_spec.2.1.size);clear T n s p m u K l i t A z;have P:Hid (gN a r=({a with dk:=J},(.some .none))):=by
   show _=_;have e:eP a.dk (dW r) lI=(J,(.some .none)):=by rw[←V.out,←hp]
   unfold gN lY iF;rw[e]
  have e3:=cN d4;clear hp d4;refine cN ?_;go_wp2_with fail;go_ret;rw[P.out];exact⟨a4.out,fb,rfl,e3.out,by have:=O.out;omega⟩
 |fine=>
  rw[hp]at c;have k:=cN c;clear c R;go_wp2_with (first|(go_at_call 196;refine k.out.mono ?_;rintro e W2 ⟨rfl,l⟩;refine cQ ?_));obtain⟨Y,Z,T,n,s,i,t,A⟩:=b1.out.to E.out.2.1 (fun x hx=>aG (E.out.2.2.1 x hx) X.out.size) l;rw[V.out]at T;have p:=(X.out.nos:Chg F W W1).trans i (fun _ _ h=>h);have m:∀x,Z x→F x∨W.heap.size≤x:=fun x hx=>by
   rcases A x hx with h|h
   ·exact Or.inl h
   ·right;have:=O.out;omega
  have z:¬F W.heap.size:=fun hx=>by have:=E.out.2.2.1 _ hx;omega
  have u:¬Z W.heap.size:=fun hx=>by
   rcases A _ hx with h|h
   ·exact z h
   ·have:=O.out;omega
  have K:=i.kept b6.out z;have a4:Hid (AcTo W F b g {a with dk:=J} W2):=⟨Z,⟨Y,d,tb,T,n,s⟩,p,m⟩;have f:=cN (aLt T n s p m u K);have c9:=cN (l.choose_spec.2.1.size);clear T n s p m u K l i t A z;have D:eP a.dk (dW r) lI=(J,.none):=by rw[←V.out,←hp]
  obtain⟨k0,b3,a2⟩:∃k0,fQ a.dk=some k0∧J=lI k0 (dW r):=by
   unfold eP at D;cases hs:fQ a.dk with
   |none=>rw[hs]at D;cases D
   |some k0=>
    rw[hs]at D;dsimp only at D;split at D
    ·cases D
    ·exact⟨k0,rfl,(Prod.mk.inj D).1.symm⟩
  have hok:=E.out.2.2.2.2.2.1;have d7:iC J:=by have h':=kS b3 hok.fo;rw[a2];exact h'
  have d1:J.old=none:=by have h':=(gR b3).2.2.2.2.trans E.out.2.2.2.2.2.2.2.2;rw[a2];exact h'
  have c2:=f.out.1.cell 2 _ rfl;have b8:=cN (aEE W2 Y d J (oO eb) f.out.1.disk d7 d1);have R:=cN D;clear hp D b3 a2 hok d7 d1;refine cN ?_;obtain⟨k2,b2⟩:=aLA ((dZ J mN).1);have a6:=cN b2;have c:=aF9 b8.out;cases hp:(dZ J mN).2 using mM with
  |full=>
   exfalso;unfold dZ at hp;split at hp<;>cases hp
  |dies q=>
   rw[hp]at c;have k:=cN c;clear c b8 b2;go_wp2_with (first|(go_at_call 197;refine k.out.mono ?_;rintro e W3 ⟨rfl,l⟩;refine cQ ?_));obtain⟨a5,F3,N,H,M,i,t,Q⟩:=f.out.1.to f.out.2.1 f.out.2.2.1 l;rw[a6.out]at N;have L:Chg F W W3:=f.out.2.2.2.1.trans i (fun x hx h=>by
    rcases f.out.2.2.2.2.1 x h with h|h
    ·exact h
    ·omega)
   have I:∀x,F3 x→F x∨W.heap.size≤x:=fun x hx=>by
    rcases Q x hx with h|h
    ·exact f.out.2.2.2.2.1 x h
    ·right;have:=f.out.2.2.2.1.size;omega
   have a0:=i.kept f.out.2.2.2.2.2.2 f.out.2.2.2.2.2.1;have a1:¬F3 W.heap.size:=fun hx=>by
    rcases Q _ hx with h|h
    ·exact f.out.2.2.2.2.2.1 h
    ·have:=dG f.out.2.2.2.2.2.2;omega
   have P:Hid (gN a r=({a with dk:=k2},(.some (.some q)))):=by
    show _=_;have e:dZ J mN=(k2,(.some (.some q))):=by rw[←a6.out,←hp]
    unfold gN lY iF;rw[R.out];dsimp only;rw[e]
   have d9:Hid (AcTo W F b g {a with dk:=k2} W3):=⟨F3,⟨a5,d,tb,N,H,M⟩,L,I⟩;clear hp N H M L I a0 a1 l i t Q;refine cN ?_;go_wp2_with fail;refine⟨rfl,?_⟩;rw[P.out];exact⟨d9.out,rfl⟩
  |fine=>
   rw[hp]at c;have k:=cN c;clear c b8 b2;go_wp2_with (first|(go_at_call 197;refine k.out.mono ?_;rintro e W3 ⟨rfl,l⟩;refine cQ ?_));obtain⟨a5,F3,N,H,M,i,t,Q⟩:=f.out.1.to f.out.2.1 f.out.2.2.1 l;rw[a6.out]at N;have L:Chg F W W3:=f.out.2.2.2.1.trans i (fun x hx h=>by
    rcases f.out.2.2.2.2.1 x h with h|h
    ·exact h
    ·omega)
   have I:∀x,F3 x→F x∨W.heap.size≤x:=fun x hx=>by
    rcases Q x hx with h|h
    ·exact f.out.2.2.2.2.1 x h
    ·right;have:=f.out.2.2.2.1.size;omega
   have a0:=i.kept f.out.2.2.2.2.2.2 f.out.2.2.2.2.2.1;have a1:¬F3 W.heap.size:=fun hx=>by
    rcases Q _ hx with h|h
    ·exact f.out.2.2.2.2.2.1 h
    ·have:=dG f.out.2.2.2.2.2.2;omega
   have P:Hid (gN a r=({a with dk:=k2,rows:=a.rows++[r]},.none)):=by
    show _=_;have e:dZ J mN=(k2,.none):=by rw[←a6.out,←hp]
    unfold gN lY iF;rw[R.out];dsimp only;rw[e]
   obtain⟨W4,a8,d5,c7,e6⟩:=aJV (W:=W3.drew) N.table r E.out.2.2.2.2.2.2.1 E.out.2.2.2.2.2.1.lk;have G:=c7.of_drew;have h4:AcAt W4 a5 b g d tb {a with dk:=k2,rows:=a.rows++[r]}:=by
    obtain⟨_,_,o⟩:=eH N.table;exact⟨G.kept N.blk N.bt,N.disk.of_heap G.size (fun x hx=>G.block x (N.disk.lt x hx) (fun e=>N.ntb (e▸hx))),d5,N.nb,N.ntb⟩
   have d8:Hid (AcTo W F b g {a with dk:=k2,rows:=a.rows++[r]} W4):=⟨F3,⟨a5,d,tb,h4,H,fun x hx=>aG (M x hx) G.size⟩,L.trans G (fun x hx e=>by
    rcases I tb (H tb (Or.inr (Or.inr rfl)))with h|h
    ·exact e▸h
    ·omega),I⟩
   have c3:=N.cell 3 _ rfl;have r0:=cO a0 0 _ rfl;have e0:=cN a8;have e2:=cN a0;clear hp N H M L I a0 a1 l i t Q h4 a8 d5 c7 G c2;refine cN ?_;go_wp2_with fail;refine rlx [0,0,0,1,0,1,1] (fun x=>x.cell? ⟨b,3,none⟩=some (.map (some tb))∧x.cell? ⟨W.heap.size,0,none⟩=some (.int .i64 r.lock)∧∀j y,(rwL r)[j]?=some y→x.cell? ((⟨W.heap.size,0,none⟩:Addr).add j)=some y) (by kernel_rfl) (fun _ _ _ _=>rfl) ?_ ?_
   ·exact⟨c3,r0,cR (W:=W3.drew) e2.out⟩
   simp only[dC,dB];iterate 6 (apply sB rfl rfl;·(intro x h;(try have h:=h rfl);(try dsimp only at h);go_simp;with_reducible rfl))
   try simp only[pA]
   refine dA (v:=rwV r) rfl (fun x hx=>cU 58 _ rfl ⟨W.heap.size,0,none⟩ rfl (rwL r) _ hx.2.2 underlying58 rfl (by kernel_rfl)) ?_;refine cP ?_;(try simp only[pA]);go_wp2_with (at_mapUpdate;refine kT rfl 118 _ _ _ rfl (.map (some tb)) (.int .i64 r.lock) (rwV r) rfl rfl rfl (fun w=>w=W4) ⟨W4,e0.out,rfl⟩ ?_;rintro _ rfl);go_ret;rw[P.out];exact⟨d8.out,rfl⟩
end
theorem aAx{P:Program}{w:World}{ops:Array Oper}{rest:List Oper}{o:Oper}{a:Act}{Q:Exit→Act→World→Prop}(hgd:o.guard=none)(s x:Operand)(t:TypeId)
 (ho:o.op= .call {callee:=.builtin .append,args:=#[s,x],argTypes:=#[t,t]})
 (e:TypeId) (i:TypeInfo) (ht:P.underlying t=some (.slice e)) (hi:P.info? e=some i)
 (g sLen sCap:Nat) (cur:Array Value) (hg:w.heap[g]?=some (.cells cur e (0,0))) (hs:a.eval s= .slice (some ⟨g,0,none⟩) sLen sCap)
 (A:Addr) (m c:Nat) (news:List Value) (hx:a.eval x= .slice (some A) m c) (hl:news.length=m*i.size) (hnews:∀j u,news[j]?=some u→w.cell? (A.add j)=some u) (h1:∀u ∈ news,u.oneCell'=true)
 (hroom:sLen+m≤sCap) (hfit:sLen*i.size+news.length≤cur.size)
 (h:wpList P ops Q rest (a.put o.dst (.slice (some ⟨g,0,none⟩) (sLen+m) sCap)) (w.setRow g (cur.toList.take (sLen*i.size)++news++cur.toList.drop (sLen*i.size+news.length)).toArray)):wpList P ops Q (o::rest) a w:=
 wpList_plain hgd fun _ hK=>by
  have hr:=run_append_room (P:=P) w t o.type e i ht hi g sLen sCap cur hg A m c news hl hnews h1 hroom hfit;unfold Oper.wp execOp;simp only[ho,resolve,invoke,builtin,aT,Sem.run_pure,Result.andThen_ok,List.map_toArray,List.map_cons,List.map_nil,hs,hx,hr];exact hK _ _ h
theorem aB7(w:World)(g k c:Nat)(cur:Array Value)(ty:TypeId)(hg:w.heap[g]?=some (.cells cur 66 (0,0)))(hk:k*10+10≤cur.size):
 (Builtin.clear_ #[88] ty #[.slice (some ⟨g,k*10,none⟩) 1 c]).run prog w= .ok (.tuple #[]) (w.setRow g (cur.toList.take (k*10)++mgL zMg++cur.toList.drop (k*10+10)).toArray):=by
 have f:(zeroValue 66).run prog w= .ok (mgV zMg) w:=by kernel_rfl
 have b:(Builtin.zeroCells (mgV zMg).cells 1).toList=mgL zMg:=by
  first
  |kernel_rfl
  |(simp[Builtin.zeroCells,Array.range,List.range_succ,Value.cells];rfl)
 have a:=run_storeCells_at prog g (k*10) 66 (mgL zMg) 0 cur w hg (by show k*10+0+10≤cur.size;omega) (oT zMg);simp only[Nat.add_zero]at a;have e:(mgL zMg).length=10:=rfl;rw[e]at a;have d:(storeCells ⟨g,k*10,none⟩ (Builtin.zeroCells (mgV zMg).cells 1).toList).run prog w= .ok () (w.setRow g (cur.toList.take (k*10)++mgL zMg++cur.toList.drop (k*10+10)).toArray):=by rw[b];exact a
 clear a b;simp only[Builtin.clear_,Array.getElem?_eq_getElem,List.getElem?_toArray,cM,aT,run_underlying underlying88,Result.andThen_ok,f,d,Sem.run_pure]
theorem aEA(net:List Mg)(i:Nat)(hi:i<net.length):cZ mgL (net.eraseIdx i)=cZ mgL (net.take i)++cZ mgL (net.drop (i+1)):=by
 rw[List.eraseIdx_eq_take_drop_succ];simp[cZ]
theorem aFB(W:World)(nv:Value)(net:List Mg)(i:Nat)(hi:i<net.length)(hn:net.length≤100000000000)(h:W.ownsRow 0 66 10 nv net.length (cZ mgL net)):
 Calls prog 126 #[nv,.int .i64 i,.int .i64 ((i:Int)+1)] W fun r W'=>∃v,r= .returned v∧W'.ownsRow 0 66 10 v (net.eraseIdx i).length (cZ mgL (net.eraseIdx i))∧v.ownBlock=nv.ownBlock∧Chg (fun k=>some k=nv.ownBlock) W W':=by
 obtain⟨i1,ji,a9,z,a5⟩:=info_parts mJ;rcases h.2 with⟨rfl,h0⟩|⟨g,a,b,rfl,X,M,J,t,L,n⟩
 ·omega
 ·have a8:(0:Int)≤(i:Int):=by omega
  have h1:(i:Int)+1≤(net.length:Int):=by omega
  have h2:(net.length:Int)≤(a:Int):=by omega
  have h3:(a:Int)≤9223372036854775807:=by unfold maxLen at t;omega
  have a4:((i:Int)==(i:Int)+1)=false:=by
   rw[beq_eq_false_iff_ne];omega
  have h4:i≤a:=by omega
  have h5:(0:Int)≤(i:Int)+1:=by omega
  have I:((net.drop (i+1)).flatMap mgL).length=(net.length-(i+1))*10:=by
   have:=eV mgL (k:=10) (fun _=>rfl) (net.drop (i+1));rw[aV]at this;exact this
  obtain⟨A,hA,l⟩:∃A:Addr,(if a=i+1 then(some ⟨g,0,none⟩:Option Addr)else some ⟨g,(i+1)*10,none⟩)=some A∧∀j u,(cZ mgL (net.drop (i+1)))[j]?=some u→W.drew.cell? (A.add j)=some u:=by
   by_cases hc:a=i+1
   ·refine⟨⟨g,0,none⟩,by rw[if_pos hc],fun j u hj=>?_⟩;rw[List.drop_eq_nil_of_le (by omega)]at hj;cases hj
   ·refine⟨⟨g,(i+1)*10,none⟩,by rw[if_neg hc],fun j u hj=>?_⟩;rw[Addr.add_lit];have e:(cZ mgL net)[(i+1)*10+j]?=some u:=by
     have Q:cZ mgL net=cZ mgL (net.take (i+1))++cZ mgL (net.drop (i+1)):=by
      unfold cZ;rw[←List.flatMap_append,cH]
     rw[Q,bN (by rw[eV mgL (k:=10) (fun _=>rfl),bD];omega),eV mgL (k:=10) (fun _=>rfl),bD,show(i+1)*10+j-min (i+1) net.length*10=j by omega];exact hj
    have C:=(aF.1 e).1;rw[eV mgL (k:=10) (fun _=>rfl)]at C;show W.cell? ⟨g,(i+1)*10+j,none⟩=some u;rw[h.cellAt _ C];exact e
  have H:=cN h;have B:=cN hi;have s:=cN (aLq J t L n);have HG:=cN M;have d:=cN I;have R:=cN l;clear h J t L n M I l;go_enter func126,ntmps126;go_wp2_with fail;refine eD [0,0,0,0,0,0] (by kernel_rfl) (fun _ _ _ _=>rfl) ?_;simp only[dC,dB];iterate 6 (apply sB rfl rfl;·(intro x h;(try cases h rfl);go_simp;with_reducible rfl))
  refine cP ?_;try simp only[pA]
  have P:Hid (∀u ∈ cZ mgL (net.drop (i+1)),u.oneCell'=true):=fun u hu=>by
   obtain⟨m,_,hm⟩:=List.mem_flatMap.1 hu;exact oT m u hm
  refine aAx rfl _ _ 88 rfl 66 i1 underlying88 ji g i a b HG.out rfl A (net.length-(i+1)) (a-(i+1)) (cZ mgL (net.drop (i+1))) rfl (by rw[z];exact d.out) R.out P.out (by have:=B.out;have:=s.out.1;omega) (by rw[z];have:=d.out;have:=B.out;have:=s.out;show i*10+(cZ mgL (net.drop (i+1))).length≤b.size;rw[show(cZ mgL (net.drop (i+1))).length=(net.length-(i+1))*10 from d.out];omega) ?_;have w:i+(net.length-(i+1))+1=net.length:=by have:=B.out;omega
  have HN:=cN w;rw[z];generalize hq:i+(net.length-(i+1))=q at*;have a1:net.length-q=1:=by omega
  have a6:(0:Int)≤(q:Int):=by omega
  have a7:¬a=q:=by have:=s.out.1;omega
  have a3:(q:Int)≤(net.length:Int):=by omega
  have HQ:=cN hq;have y:=setRow_heap W.drew g b (b.toList.take (i*10)++cZ mgL (net.drop (i+1))++b.toList.drop (i*10+(cZ mgL (net.drop (i+1))).length)).toArray _ _ HG.out;generalize f:b.toList.take (i*10)++cZ mgL (net.drop (i+1))++b.toList.drop (i*10+(cZ mgL (net.drop (i+1))).length)=cs2 at*;have c:cs2.length=a*10:=by
   have h1:=s.out.2.2.1;have h2:(cZ mgL (net.drop (i+1))).length=(net.length-(i+1))*10:=d.out;have h3:=B.out;have h4:=s.out.1;rw[←f];simp only[aD,bD,aV,Array.length_toList,h1,h2];omega
  have K:Chg (fun k=>k=g) W (W.drew.setRow g cs2.toArray):=⟨rfl,rfl,rfl,by simp[World.setRow],fun k hk hn=>setRow_other W.drew g k _ hn⟩;generalize D:W.drew.setRow g cs2.toArray=W2 at*;have S:=cN D;have a2:=fun ty=>aB7 W2 g q (a-q) cs2.toArray ty y (by have:=s.out.1;simp only[List.size_toArray,c];omega);have N:=setRow_heap W2 g cs2.toArray (cs2.toArray.toList.take (q*10)++mgL zMg++cs2.toArray.toList.drop (q*10+10)).toArray _ _ y;have O:Chg (fun k=>k=g) W2 (W2.setRow g (cs2.toArray.toList.take (q*10)++mgL zMg++cs2.toArray.toList.drop (q*10+10)).toArray):=⟨rfl,rfl,rfl,by simp[World.setRow],fun k hk hn=>setRow_other W2 g k _ hn⟩;generalize Z:W2.setRow g (cs2.toArray.toList.take (q*10)++mgL zMg++cs2.toArray.toList.drop (q*10+10)).toArray=W3 at*;have T:=cN N;have U:=cN (K.trans O (fun _ _ h=>h));have Y:=cN f;have E:=cN c;clear D Z N K O f c y hq w S;simp only[pA];go_wp2_with fail;go_ret;have F:=B.out;have G:=s.out;have w:=HN.out;have o:(net.eraseIdx i).length=q:=by rw[List.length_eraseIdx_of_lt F];omega
  have l1:(cZ mgL (net.take i)).length=i*10:=by rw[eV mgL (k:=10) (fun _=>rfl),bD,Nat.min_eq_left (by omega)]
  have l2:(cZ mgL (net.drop (i+1))).length=(net.length-(i+1))*10:=d.out;have p:b.toList.take (i*10)=cZ mgL (net.take i):=by
   have Q:cZ mgL net=cZ mgL (net.take i)++cZ mgL (net.drop i):=by unfold cZ;rw[←List.flatMap_append,cH]
   have e2:b.toList.take (i*10)=(b.toList.take (net.length*10)).take (i*10):=by rw[List.take_take,Nat.min_eq_left (by omega)]
   rw[e2,G.2.2.2,Q,List.take_left' l1]
  have V:cs2.take (q*10)=cZ mgL (net.eraseIdx i):=by
   rw[←Y.out,p,aEA net i F,List.take_left' (by rw[aD,l1,l2];omega)]
  have a0:(cs2.toArray.toList.take (q*10)).length=q*10:=by
   have:=E.out;rw[bD];have e:cs2.toArray.toList.length=a*10:=by simpa using this
   omega
  refine⟨.slice (some ⟨g,0,none⟩) q a,rfl,⟨by rw[o,eV mgL (k:=10) (fun _=>rfl),o],Or.inr ⟨g,a,_,by rw[o],X,T.out,by omega,G.2.1,?_,?_⟩⟩,rfl,?_⟩
  ·have e:=E.out;simp only[List.size_toArray,aD,bD,aV,e];have:(mgL zMg).length=10:=rfl;omega
  ·rw[o,aS,List.toList_toArray,List.take_left' a0,List.toList_toArray];exact V
  ·exact U.out.mono (fun k _ h=>by rw[h];rfl)
end Go.Proofs.YtbbdgokdfhdpiaaGreatDoor
