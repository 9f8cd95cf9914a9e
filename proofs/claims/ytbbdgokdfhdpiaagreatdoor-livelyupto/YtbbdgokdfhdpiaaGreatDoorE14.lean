/- A part of the proof: PDk1, PDel. -/
import Derived.Maps.RangeWalk
import Derived.Shelf.SlMaps.Clone
import Derived.Test.YtbbdgokdfhdpiaaGreatDoorE9
import Derived.Test.YtbbdgokdfhdpiaaGreatDoorE10
namespace Go.Proofs.YtbbdgokdfhdpiaaGreatDoor
set_option linter.all false
set_option maxRecDepth 100000
set_option maxHeartbeats 40000000
open Go.Proofs.Tryz Go.RowKit
section
open Go.RowKit Go.Maps
section
variable (W:World) (F:Nat→Prop) (d:Nat)
theorem lF(k:Dk)(nm km fl:Nat)(fn:Option Nat)(fk:Nat)(fv:Value)(h:DkAt W F d k nm km fl fn fk fv)(hs:fS k=none):
 Calls prog 185 #[.pointer (some ⟨d,0,none⟩)] W fun e W'=>e= .panicked (oM (jY k))∧W'=W:=by
 have m:=h.cell 3 _ rfl;have a:=h.fail;unfold fS at hs;cases hk:k.fail with
 |none=>rw[hk]at hs;cases hs
 |some p=>
  obtain⟨n,q⟩:=p;rw[hk]at hs a;have i:n=0:=by
   by_cases f:n=0
   ·exact f
   ·simp[f]at hs
  subst i;obtain⟨b,rfl,g,o⟩:=a;have l:=cB g 0 _ rfl;have j:=cB g 1 _ rfl;have c:jY k=q:=by unfold jY;rw[hk]
  rw[c];clear hs hk c h;go_enter func185,ntmps185;go_wp2;exact⟨rfl,rfl,rfl⟩
theorem lD(k k1:Dk)(nm km fl:Nat)(fn:Option Nat)(fk:Nat)(fv:Value)(h:DkAt W F d k nm km fl fn fk fv)(hok:gZ k)(hs:fS k=some k1):
 Calls prog 185 #[.pointer (some ⟨d,0,none⟩)] W fun e W'=>e= .returned (.tuple #[])∧DkAt W' F d k1 nm km fl fn fk fv∧Chg F W W'∧W'.heap.size=W.heap.size:=by
 have E:=h.cell 3 _ rfl;have i:=h.fail;unfold fS at hs;cases hk:k.fail with
 |none=>
  rw[hk]at hs i;obtain rfl:k=k1:=aN hs;obtain rfl:fv= .pointer none:=i;have y:=cA h;clear hk hs h hok;go_enter func185,ntmps185;go_wp2
  (first|go_end0|((try simp only[Exit.inBlock,Exit.then]);refine bodyPost_ret (results_none rfl _ _ _) rfl ?_))
  exact⟨by first|rfl|trivial,y.out,Chg.refl _ _,rfl⟩
 |some p=>
  obtain⟨n,q⟩:=p;have f:=hok (n,q) hk;rw[hk]at hs i;dsimp only at f;have m:n≠0:=fun h0=>by simp[h0]at hs
  have o:k1={k with fail:=some (n-1,q)}:=by simpa[m]using hs.symm
  subst o;obtain⟨b,rfl,a,t⟩:=i;have C:=cB a 0 _ rfl;have G:=cY a 0;have B:(n==0)=false:=by simp[m]
  have D:IntKind.i64.wrap (n-1)=n-1:=eI (by have:=f.1;omega) (by have:=f.2;omega);have A:wrap64 (n-1)=n-1:=by unfold wrap64;have:=f.1;have:=f.2;omega
  have c:=dA W b 0 (.int .i64 (n-1));have g:=cO a 0 (.int .i64 (n-1));have r:(W.setCell ⟨b,0,none⟩ (.int .i64 (n-1))).heap.size=W.heap.size:=by simp
  generalize s:W.setCell ⟨b,0,none⟩ (.int .i64 (n-1))=W1 at*;have z:=cA s;have u:DkAt W1 F d {k with fail:=some (n-1,q)} nm km fl fn fk (.pointer (some ⟨b,0,none⟩)):=by
   obtain⟨_,_,l⟩:=dK h.names;obtain⟨_,_,j⟩:=dK h.kept;exact⟨c.kept h.blk (fQ h.blk a (by decide)),h.fd,dF h.names (by rw[l];exact c.kept l (fun e=>dR l a (by simp) e)),dF h.kept (by rw[j];exact c.kept j (fun e=>dR j a (by simp) e)),h.fnm,h.fkm,h.nk,c.kept h.log (fQ h.log a (by decide)),h.flog,h.new.kept a (by simp) c,h.old.kept a (by simp) c,⟨b,rfl,g,t⟩,fun x hx=>aG (h.lt x hx) c.size⟩
  have v:=cA u;have w:=cA (c.mono (fun x _ e=>e▸t));clear hk hs h hok f m u c g s a;go_enter func185,ntmps185;go_wp2_with (first|rw[z.out])
  (first|go_end0|((try simp only[Exit.inBlock,Exit.then]);refine bodyPost_ret (results_none rfl _ _ _) rfl ?_))
  exact⟨by first|rfl|trivial,v.out,w.out,r⟩
theorem aDN(k:Dk)(n q:Int)(h:Disk W F d k):
 Calls prog 133 #[.pointer (some ⟨d,0,none⟩),.int .i64 n,.int .i64 q] W fun e W'=>e= .returned (.tuple #[])∧DkTo W F d {k with fail:=some (n,q)} W':=by
 obtain⟨nm,km,fl,fn,fk,fv,h⟩:=h;generalize hX:W.alloc (.cells #[.int .i64 n,.int .i64 q] 248)=W1;have HX:=cA hX;have hc1:Chg NoS W W1:=by rw[←hX];exact(Chg.refl _ _).alloc _
 have hb1:W1.heap[W.heap.size]?=some (.cells #[.int .i64 n,.int .i64 q] 248 (0,0)):=by rw[←hX];exact aA W _
 have hs1:W1.heap.size=W.heap.size+1:=by rw[←hX];simp
 have h1:=h.apart hc1 (fun _ _ h=>h);have c3:=h1.cell 3 _ rfl;have z3:=h1.froz 3;have hdl:=h.lt d h.fd;have hc2:=dA W1 d 3 (.pointer (some ⟨W.heap.size,0,none⟩));have hb2:=cO h1.blk 3 (.pointer (some ⟨W.heap.size,0,none⟩));generalize hY:W1.setCell ⟨d,3,none⟩ (.pointer (some ⟨W.heap.size,0,none⟩))=W2 at*;have HY:=cA hY;have hF':∀x,F x→F x∨x=W.heap.size:=fun _ h=>Or.inl h;have hR:DkAt W2 (fun x=>F x∨x=W.heap.size) d {k with fail:=some (n,q)} nm km fl fn fk (.pointer (some ⟨W.heap.size,0,none⟩)):=by
  have b2:=hc2.kept hb1 (by omega);have hR:=h1.grow (F':=fun x=>F x∨x=W.heap.size) hF' (fun x hx=>by rcases hx with hx|hx;exact h1.lt x hx;omega);exact hR.self' (k':={k with fail:=some (n,q)}) hc2 hb2 h1.names h1.kept (Or.inl h1.fnm) (Or.inl h1.fkm) h1.nk rfl rfl rfl hR.old ⟨_,rfl,b2,Or.inr rfl⟩
 have HR:=cA hR;have HC:=cA ((hc1.mono (fun _ _ h=>h.elim)).trans hc2 (fun x hx e=>e▸h.fd));clear hR hc2 hb2 hY h1 hb1 hX hc1 h;go_enter func133,ntmps133;go_wp2_with (first|rw[HX.out]|rw[HY.out])
 (first|go_end0|((try simp only[Exit.inBlock,Exit.then]);refine bodyPost_ret (results_none rfl _ _ _) rfl ?_))
 exact⟨by first|rfl|trivial,_,⟨_,_,_,_,_,_,HR.out⟩,HC.out,fun x hx=>hx.elim Or.inl (fun e=>Or.inr (by omega))⟩
theorem aGb(k:Dk)(h:Disk W F d k):
 Calls prog 96 #[.pointer (some ⟨d,0,none⟩),qY] W fun e W'=>e= .returned (.string (strOfNums k.log))∧W'=W:=by
 obtain⟨g,n,b,a,j,o,h⟩:=h;have p:=h.cell 1 _ rfl;have q:=cB h.log 0 _ rfl;have m:(Instr.lookup 209 (.map (some g)) qY true).run prog W= .ok (.tuple #[oL b,.bool true]) W:=by
  obtain⟨v,l,c,f⟩:=h.names.look_ok vR underlying209 (z:=.pointer none) (by kernel_rfl) (zd:=.lit (.int .i64 (-1))) (zp:=[]) rfl (key:=qY) (kl:=.string oV) (by kernel_rfl);have e:(fP b a).atKey (.string oV) (.lit (.int .i64 (-1)))= .lit (.int .i64 b):=by cases a<;>rfl
  have i:Maps.has (fP b a) (.string oV)=true:=by cases a<;>rfl
  rw[e]at f;rw[i]at c;rw[mN f]at c;exact c
 clear h;go_enter func96,ntmps96;go_wp2
 (first|go_ret|skip)
 exact⟨rfl,rfl⟩
end
end
theorem vO{P:Program}{w:World}{ops:Array Oper}{rest:List Oper}{o:Oper}{a:Act}{Q:Exit→Act→World→Prop}(hgd:o.guard=none)(s x:Operand)(t:TypeId)
 (ho:o.op= .call {callee:=.builtin .append,args:=#[s,x],argTypes:=#[t,t]})
 (e:TypeId) (i:TypeInfo) (ht:P.underlying t=some (.slice e)) (hi:P.info? e=some i)
 (g sLen sCap:Nat) (cur:Array Value) (hg:w.heap[g]?=some (.cells cur e (0,0))) (hs:a.eval s= .slice (some ⟨g,0,none⟩) sLen sCap)
 (A:Addr) (m c:Nat) (news:List Value) (hx:a.eval x= .slice (some A) m c) (hl:news.length=m*i.size) (hnews:∀j u,news[j]?=some u→w.cell? (A.add j)=some u) (h1:∀u ∈ news,u.oneCell'=true)
 (hroom:sLen+m≤sCap) (hfit:sLen*i.size+news.length≤cur.size)
 (h:wpList P ops Q rest (a.put o.dst (.slice (some ⟨g,0,none⟩) (sLen+m) sCap)) (w.setRow g (cur.toList.take (sLen*i.size)++news++cur.toList.drop (sLen*i.size+news.length)).toArray)):wpList P ops Q (o::rest) a w:=
 wpList_plain hgd fun _ hK=>by
  have hr:=run_append_room (P:=P) w t o.type e i ht hi g sLen sCap cur hg A m c news hl hnews h1 hroom hfit;unfold Oper.wp execOp;simp only[ho,resolve,invoke,builtin,aT,Sem.run_pure,Result.andThen_ok,List.map_toArray,List.map_cons,List.map_nil,hs,hx,hr];exact hK _ _ h
theorem zM(w:World)(g k c:Nat)(cur:Array Value)(ty:TypeId)(hg:w.heap[g]?=some (.cells cur 66 (0,0)))(hk:k*10+10≤cur.size):
 (Builtin.clear_ #[88] ty #[.slice (some ⟨g,k*10,none⟩) 1 c]).run prog w= .ok (.tuple #[]) (w.setRow g (cur.toList.take (k*10)++mgL zMg++cur.toList.drop (k*10+10)).toArray):=by
 have f:(zeroValue 66).run prog w= .ok (mgV zMg) w:=by kernel_rfl
 have b:(Builtin.zeroCells (mgV zMg).cells 1).toList=mgL zMg:=by
  first
  |kernel_rfl
  |(simp[Builtin.zeroCells,Array.range,List.range_succ,Value.cells];rfl)
 have a:=run_storeCells_at prog g (k*10) 66 (mgL zMg) 0 cur w hg (by show k*10+0+10≤cur.size;omega) (tP zMg);simp only[Nat.add_zero]at a;have e:(mgL zMg).length=10:=rfl;rw[e]at a;have d:(storeCells ⟨g,k*10,none⟩ (Builtin.zeroCells (mgV zMg).cells 1).toList).run prog w= .ok () (w.setRow g (cur.toList.take (k*10)++mgL zMg++cur.toList.drop (k*10+10)).toArray):=by rw[b];exact a
 clear a b;simp only[Builtin.clear_,Array.getElem?_eq_getElem,List.getElem?_toArray,bZ,aT,run_underlying underlying88,Result.andThen_ok,f,d,Sem.run_pure]
theorem aBS(net:List Mg)(i:Nat)(hi:i<net.length):cQ mgL (net.eraseIdx i)=cQ mgL (net.take i)++cQ mgL (net.drop (i+1)):=by
 rw[List.eraseIdx_eq_take_drop_succ];simp[cQ]
theorem aCv(W:World)(nv:Value)(net:List Mg)(i:Nat)(hi:i<net.length)(hn:net.length≤100000000000)(h:W.ownsRow 0 66 10 nv net.length (cQ mgL net)):
 Calls prog 126 #[nv,.int .i64 i,.int .i64 ((i:Int)+1)] W fun r W'=>∃v,r= .returned v∧W'.ownsRow 0 66 10 v (net.eraseIdx i).length (cQ mgL (net.eraseIdx i))∧v.ownBlock=nv.ownBlock∧Chg (fun k=>some k=nv.ownBlock) W W':=by
 obtain⟨i1,ji,a9,z,a5⟩:=info_parts sJ;rcases h.2 with⟨rfl,h0⟩|⟨g,a,b,rfl,X,M,J,t,L,n⟩
 ·omega
 ·have a8:(0:Int)≤(i:Int):=by omega
  have h1:(i:Int)+1≤(net.length:Int):=by omega
  have h2:(net.length:Int)≤(a:Int):=by omega
  have h3:(a:Int)≤9223372036854775807:=by unfold maxLen at t;omega
  have a4:((i:Int)==(i:Int)+1)=false:=by
   rw[beq_eq_false_iff_ne];omega
  have h4:i≤a:=by omega
  have h5:(0:Int)≤(i:Int)+1:=by omega
  have I:((net.drop (i+1)).flatMap mgL).length=(net.length-(i+1))*10:=by
   have:=eO mgL (k:=10) (fun _=>rfl) (net.drop (i+1));rw[aV]at this;exact this
  obtain⟨A,hA,l⟩:∃A:Addr,(if a=i+1 then(some ⟨g,0,none⟩:Option Addr)else some ⟨g,(i+1)*10,none⟩)=some A∧∀j u,(cQ mgL (net.drop (i+1)))[j]?=some u→W.drew.cell? (A.add j)=some u:=by
   by_cases hc:a=i+1
   ·refine⟨⟨g,0,none⟩,by rw[if_pos hc],fun j u hj=>?_⟩;rw[List.drop_eq_nil_of_le (by omega)]at hj;cases hj
   ·refine⟨⟨g,(i+1)*10,none⟩,by rw[if_neg hc],fun j u hj=>?_⟩;rw[Addr.add_lit];have e:(cQ mgL net)[(i+1)*10+j]?=some u:=by
     have Q:cQ mgL net=cQ mgL (net.take (i+1))++cQ mgL (net.drop (i+1)):=by
      unfold cQ;rw[←List.flatMap_append,bV]
     rw[Q,bJ (by rw[eO mgL (k:=10) (fun _=>rfl),aZ];omega),eO mgL (k:=10) (fun _=>rfl),aZ,show(i+1)*10+j-min (i+1) net.length*10=j by omega];exact hj
    have C:=(aF.1 e).1;rw[eO mgL (k:=10) (fun _=>rfl)]at C;show W.cell? ⟨g,(i+1)*10+j,none⟩=some u;rw[h.cellAt _ C];exact e
  have H:=cA h;have B:=cA hi;have s:=cA (aH5 J t L n);have HG:=cA M;have d:=cA I;have R:=cA l;clear h J t L n M I l;go_enter func126,ntmps126;go_wp2_with fail;refine dZ [0,0,0,0,0,0] (by kernel_rfl) (fun _ _ _ _=>rfl) ?_;simp only[cM,cL];iterate 6 (apply sB rfl rfl;·(intro x h;(try cases h rfl);go_simp;with_reducible rfl))
  refine cC ?_;try simp only[pA]
  have P:Hid (∀u ∈ cQ mgL (net.drop (i+1)),u.oneCell'=true):=fun u hu=>by
   obtain⟨m,_,hm⟩:=List.mem_flatMap.1 hu;exact tP m u hm
  refine vO rfl _ _ 88 rfl 66 i1 underlying88 ji g i a b HG.out rfl A (net.length-(i+1)) (a-(i+1)) (cQ mgL (net.drop (i+1))) rfl (by rw[z];exact d.out) R.out P.out (by have:=B.out;have:=s.out.1;omega) (by rw[z];have:=d.out;have:=B.out;have:=s.out;show i*10+(cQ mgL (net.drop (i+1))).length≤b.size;rw[show(cQ mgL (net.drop (i+1))).length=(net.length-(i+1))*10 from d.out];omega) ?_;have w:i+(net.length-(i+1))+1=net.length:=by have:=B.out;omega
  have HN:=cA w;rw[z];generalize hq:i+(net.length-(i+1))=q at*;have a1:net.length-q=1:=by omega
  have a6:(0:Int)≤(q:Int):=by omega
  have a7:¬a=q:=by have:=s.out.1;omega
  have a3:(q:Int)≤(net.length:Int):=by omega
  have HQ:=cA hq;have y:=setRow_heap W.drew g b (b.toList.take (i*10)++cQ mgL (net.drop (i+1))++b.toList.drop (i*10+(cQ mgL (net.drop (i+1))).length)).toArray _ _ HG.out;generalize f:b.toList.take (i*10)++cQ mgL (net.drop (i+1))++b.toList.drop (i*10+(cQ mgL (net.drop (i+1))).length)=cs2 at*;have c:cs2.length=a*10:=by
   have h1:=s.out.2.2.1;have h2:(cQ mgL (net.drop (i+1))).length=(net.length-(i+1))*10:=d.out;have h3:=B.out;have h4:=s.out.1;rw[←f];simp only[aD,aZ,aV,Array.length_toList,h1,h2];omega
  have K:Chg (fun k=>k=g) W (W.drew.setRow g cs2.toArray):=⟨rfl,rfl,rfl,by simp[World.setRow],fun k hk hn=>setRow_other W.drew g k _ hn⟩;generalize D:W.drew.setRow g cs2.toArray=W2 at*;have S:=cA D;have a2:=fun ty=>zM W2 g q (a-q) cs2.toArray ty y (by have:=s.out.1;simp only[List.size_toArray,c];omega);have N:=setRow_heap W2 g cs2.toArray (cs2.toArray.toList.take (q*10)++mgL zMg++cs2.toArray.toList.drop (q*10+10)).toArray _ _ y;have O:Chg (fun k=>k=g) W2 (W2.setRow g (cs2.toArray.toList.take (q*10)++mgL zMg++cs2.toArray.toList.drop (q*10+10)).toArray):=⟨rfl,rfl,rfl,by simp[World.setRow],fun k hk hn=>setRow_other W2 g k _ hn⟩;generalize Z:W2.setRow g (cs2.toArray.toList.take (q*10)++mgL zMg++cs2.toArray.toList.drop (q*10+10)).toArray=W3 at*;have T:=cA N;have U:=cA (K.trans O (fun _ _ h=>h));have Y:=cA f;have E:=cA c;clear D Z N K O f c y hq w S;simp only[pA];go_wp2_with fail;go_ret;have F:=B.out;have G:=s.out;have w:=HN.out;have o:(net.eraseIdx i).length=q:=by rw[List.length_eraseIdx_of_lt F];omega
  have l1:(cQ mgL (net.take i)).length=i*10:=by rw[eO mgL (k:=10) (fun _=>rfl),aZ,Nat.min_eq_left (by omega)]
  have l2:(cQ mgL (net.drop (i+1))).length=(net.length-(i+1))*10:=d.out;have p:b.toList.take (i*10)=cQ mgL (net.take i):=by
   have Q:cQ mgL net=cQ mgL (net.take i)++cQ mgL (net.drop i):=by unfold cQ;rw[←List.flatMap_append,bV]
   have e2:b.toList.take (i*10)=(b.toList.take (net.length*10)).take (i*10):=by rw[List.take_take,Nat.min_eq_left (by omega)]
   rw[e2,G.2.2.2,Q,List.take_left' l1]
  have V:cs2.take (q*10)=cQ mgL (net.eraseIdx i):=by
   rw[←Y.out,p,aBS net i F,List.take_left' (by rw[aD,l1,l2];omega)]
  have a0:(cs2.toArray.toList.take (q*10)).length=q*10:=by
   have:=E.out;rw[aZ];have e:cs2.toArray.toList.length=a*10:=by simpa using this
   omega
  refine⟨.slice (some ⟨g,0,none⟩) q a,rfl,⟨by rw[o,eO mgL (k:=10) (fun _=>rfl),o],Or.inr ⟨g,a,_,by rw[o],X,T.out,by omega,G.2.1,?_,?_⟩⟩,rfl,?_⟩
  ·have e:=E.out;simp only[List.size_toArray,aD,aZ,aV,e];have:(mgL zMg).length=10:=rfl;omega
  ·rw[o,aS,List.toList_toArray,List.take_left' a0,List.toList_toArray];exact V
  ·exact U.out.mono (fun k _ h=>by rw[h];rfl)
end Go.Proofs.YtbbdgokdfhdpiaaGreatDoor
