/- A part of the proof: Mem, MapLaw, MapKeys, PUp, ChkWalks, BldLay, Lex4, ChkPlays, Bulk. -/
import Derived.ChangeMaps5
import Derived.Conc.LoneSelect
import Derived.Deep.AppendLies
import Derived.Deep.DrawnRows
import Derived.Deep.RegionLaw
import Derived.Defers
import Derived.KernelRfl
import Derived.MapKept
import Derived.OrdersHeld
import Derived.Shelf.Strings.Builder1
import Derived.StillTail
import Derived.Test.YtbbdgokdfhdpiaaGreatDoorRows
import Derived.Test.YtbbdgokdfhdpiaaGreatDoorE1
namespace Go.Proofs.YtbbdgokdfhdpiaaGreatDoor
set_option linter.all false
set_option maxRecDepth 100000
set_option maxHeartbeats 40000000
open Go.Proofs.Tryz Go.RowKit
structure Chg(S:Nat→Prop)(W W':World):Prop where
 os:W'.os=W.os
 tape:W'.tape=W.tape
 output:W'.output=W.output
 size:W.heap.size≤W'.heap.size
 block:∀k,k<W.heap.size→¬S k→W'.heap[k]?=W.heap[k]?
theorem Chg.refl(S:Nat→Prop)(W:World):Chg S W W:=⟨rfl,rfl,rfl,aE _,fun _ _ _=>rfl⟩
theorem Chg.mono{S T:Nat→Prop}{W W':World}(h:Chg S W W')(hST:∀k,k<W.heap.size→S k→T k):Chg T W W':=
 ⟨h.os,h.tape,h.output,h.size,fun k hk hn=>h.block k hk (fun hs=>hn (hST k hk hs))⟩
theorem Chg.trans{S T:Nat→Prop}{A B C:World}(h:Chg S A B)(k:Chg T B C)(hT:∀x,x<A.heap.size→T x→S x):Chg S A C:=
 ⟨k.os.trans h.os,k.tape.trans h.tape,k.output.trans h.output,bP h.size k.size,fun x hx hn=>(k.block x (aG hx h.size) (fun ht=>hn (hT x hx ht))).trans (h.block x hx hn)⟩
section
variable {S:Nat→Prop}
theorem Chg.drew{A B:World}(h:Chg S A B):Chg S A B.drew:=⟨h.os,h.tape,h.output,h.size,h.block⟩
theorem Chg.alloc{A B:World}(h:Chg S A B)(o:Obj):Chg S A (B.alloc o):=
 ⟨h.os,h.tape,h.output,by simp;have:=h.size;omega,fun x hx hn=>by rw[Below.heap_alloc _ _ _ (aG hx h.size)];exact h.block x hx hn⟩
theorem Chg.setCell{A B:World}(h:Chg S A B)(p:Addr)(u:Value)(hp:p.block<A.heap.size→S p.block):Chg S A (B.setCell p u):=
 ⟨h.os,h.tape,h.output,by simpa using h.size,fun x hx hn=>by rw[Below.heap_setCell _ _ _ _ (fun e=>by subst e;exact hn (hp hx))];exact h.block x hx hn⟩
theorem Chg.grown{A B C:World}{row:Option Nat}(h:Chg S A B)(hg:B.grownBy C row)(hr:∀k,row=some k→k<A.heap.size→S k):Chg S A C:=
 ⟨hg.os.trans h.os,hg.tape.trans h.tape,hg.output.trans h.output,bP h.size hg.size,fun x hx hn=>by
  rw[hg.block x (aG hx h.size) (fun e=>hn (hr x e.symm hx))];exact h.block x hx hn⟩
theorem Chg.of_below{A B:World}(h:Below A.heap.size A B):Chg S A B:=⟨h.os,h.tape,h.output,h.size,fun k hk _=>h.block k hk⟩
theorem Chg.below{A B:World}{n:Nat}(h:Chg S A B)(hS:∀k,S k→n≤k)(hn:n≤A.heap.size):Below n A B:=
 ⟨h.os,h.tape,h.output,h.size,fun k hk=>h.block k (by omega) (fun hs=>by have:=hS k hs;omega)⟩
end
abbrev NoS:Nat→Prop:=fun _=>False
section
variable {W:World}
theorem cX{b:Nat}{o:Obj}(h:W.heap[b]?=some o):b<W.heap.size:=by
 rcases Nat.lt_or_ge b W.heap.size with a|a
 ·exact a
 ·rw[Array.getElem?_eq_none a]at h;cases h
theorem dR{a b:Nat}{x y:Obj}(h:W.heap[a]?=some x)(k:W.heap[b]?=some y)(hxy:x≠y):a≠b:=fun e=>hxy (by subst e;rw[h]at k;exact aN k)
theorem fQ{a b:Nat}{c d:Array Value}{s t:TypeId}{f g:Nat×Nat}(h:W.heap[a]?=some (.cells c s f))(k:W.heap[b]?=some (.cells d t g))(hst:s≠t):a≠b:=
 dR h k (fun e=>hst (by cases e;rfl))
theorem cB{g:Nat}{cur:Array Value}{t:TypeId}{f:Nat×Nat}(h:W.heap[g]?=some (.cells cur t f))(j:Nat)(x:Value)(hj:cur[j]?=some x):W.cell? ⟨g,j,none⟩=some x:=by
 rw[cell_of_row W g j _ _ _ h];exact hj
theorem cY{g:Nat}{cur:Array Value}{t:TypeId}(h:W.heap[g]?=some (.cells cur t (0,0)))(j:Nat):W.frozen? ⟨g,j,none⟩=false:=frozen_of_row W g j _ _ h
end
theorem lH{w:World}{base:Nat}{e:TypeId}{size:Nat}{v:Value}{n:Nat}{xs:List Value}(h:w.ownsRow base e size v n xs):
 (v= .slice none 0 0∧n=0)∨∃g cap cur,v= .slice (some ⟨g,0,none⟩) n cap∧base≤g∧w.heap[g]?=some (.cells cur e (0,0)):=by
 rcases h.2 with h|⟨g,cap,cur,a,c,b,_⟩
 ·exact Or.inl h
 ·exact Or.inr ⟨g,cap,cur,a,c,b⟩
theorem fU{w w':World}{base:Nat}{e:TypeId}{size:Nat}{v:Value}{n:Nat}{xs:List Value}(h:w.ownsRow base e size v n xs)(hb:∀g,v.ownBlock=some g→w'.heap[g]?=w.heap[g]?):w'.ownsRow base e size v n xs:=by
 refine⟨h.1,?_⟩;rcases h.2 with d|⟨g,b,a,c,i,f,r⟩
 ·exact Or.inl d
 ·exact Or.inr ⟨g,b,a,c,i,by rw[hb g (by rw[c];rfl)];exact f,r⟩
theorem rK{w:World}{base:Nat}{e:TypeId}{size:Nat}{v:Value}{n:Nat}{xs:List Value}(h:w.ownsRow base e size v n xs):∀g,v.ownBlock=some g→g<w.heap.size:=fun g hg=>(h.lt g hg).2
theorem gA{W:World}{base:Nat}{e:TypeId}{size:Nat}{v:Value}{n:Nat}{xs:List Value}(h:W.ownsRow base e size v n xs){b:Nat}{c:Array Value}{t:TypeId}{f:Nat×Nat}(hb:W.heap[b]?=some (.cells c t f))(het:e≠t):∀k,v.ownBlock=some k→k≠b:=fun k hk=>by
 rcases lH h with⟨rfl,_⟩|⟨q,cap,cur,rfl,_,hq⟩
 ·cases hk
 ·have:q=k:=by simpa[Value.ownBlock]using hk
  subst this;exact fQ hq hb het
theorem oS{W:World}{base base':Nat}{e e':TypeId}{size size':Nat}{v v':Value}{n n':Nat}{xs xs':List Value}(h:W.ownsRow base e size v n xs)(h':W.ownsRow base' e' size' v' n' xs')(het:e≠e'):∀k,v.ownBlock=some k→v'.ownBlock≠some k:=fun k hk hk'=>by
 rcases lH h' with⟨rfl,_⟩|⟨q,cap,cur,rfl,_,hq⟩
 ·cases hk'
 ·have:q=k:=by simpa[Value.ownBlock]using hk'
  subst this;exact gA h hq het _ hk rfl
section
variable {S:Nat→Prop} {W W':World}
theorem Chg.kept(h:Chg S W W'){b:Nat}{o:Obj}(hb:W.heap[b]?=some o)(hn:¬S b):W'.heap[b]?=some o:=(h.block b (cX hb) hn).trans hb
theorem Chg.row(h:Chg S W W'){base:Nat}{e:TypeId}{size:Nat}{v:Value}{n:Nat}{xs:List Value}(hv:W.ownsRow base e size v n xs)(hn:∀g,v.ownBlock=some g→¬S g):W'.ownsRow base e size v n xs:=
 fU hv fun g hg=>h.block g (rK hv g hg) (hn g hg)
end
theorem Chg.of_grown{A B:World}{row:Option Nat}(hg:A.grownBy B row):Chg (fun k=>some k=row) A B:=⟨hg.os,hg.tape,hg.output,hg.size,fun k hk hn=>hg.block k hk hn⟩
section
variable {W:World}
theorem cR{b:Nat}{x:Obj}(o:Obj)(h:W.heap[b]?=some x):(W.alloc o).heap[b]?=some x:=(Below.heap_alloc W o b (cX h)).trans h
theorem cO{b:Nat}{c:Array Value}{t:TypeId}(h:W.heap[b]?=some (.cells c t (0,0)))(i:Nat)(v:Value):(W.setCell ⟨b,i,none⟩ v).heap[b]?=some (.cells (c.setIfInBounds i v) t (0,0)):=heap_setCell_same W b i c t v h
theorem yI{b:Nat}{x:Obj}(h:W.heap[b]?=some x)(a:Addr)(v:Value)(hn:b≠a.block):(W.setCell a v).heap[b]?=some x:=(Below.heap_setCell W a v b hn).trans h
theorem fF{g:Nat}{cur:Array Value}{t:TypeId}{f:Nat×Nat}(h:W.heap[g]?=some (.cells cur t f))(off:Nat)(cs:List Value)(hc:∀j v,cs[j]?=some v→cur[off+j]?=some v):
 ∀j v,cs[j]?=some v→W.cell? ((⟨g,off,none⟩:Addr).add j)=some v:=by
 intro j v a;have e:(⟨g,off,none⟩:Addr).add j=⟨g,off+j,none⟩:=by unfold Addr.add;split<;>simp_all
 rw[e];exact cB h _ _ (hc j v a)
theorem cE{g:Nat}{cs:List Value}{t:TypeId}{f:Nat×Nat}(h:W.heap[g]?=some (.cells cs.toArray t f)):
 ∀j v,cs[j]?=some v→W.cell? ((⟨g,0,none⟩:Addr).add j)=some v:=fF h 0 cs (fun j v hj=>by simpa using hj)
end
section
open Go.ChangeMaps (setBlock)
structure aAk(P:Program)(kt:TypeId){α:Type}(inj:α→Value):Prop where
 desc:∃d,P.underlying kt=some d∧∀a b,Instr.sameNow d (inj a) (inj b)=some true↔a=b
 same:∀d a b,P.underlying kt=some d→∃r,Instr.sameNow d (inj a) (inj b)=some r
 check:∀empty a w,(Instr.checkKey empty 10000 kt (inj a)).run P w= .ok () w
 stays:∀a w,(Instr.keyThatStays (inj a) (inj a)).run P w= .ok (inj a) w
section
variable {P:Program}{α:Type}{kt:TypeId}{inj:α→Value}
abbrev ent(inj:α→Value)(p:α×Value×Nat):MapEntry:=⟨inj p.1,p.2.1,p.2.2⟩
def lk [DecidableEq α]:List (α×Value×Nat)→α→Option Value
 |[],_=>none
 |p::l,a=>if p.1=a then some p.2.1 else lk l a
def MapAt [DecidableEq α] (inj:α→Value)(W:World)(b:Nat)(f:α→Option Value)(n:Nat):Prop:=
 ∃(l:List (α×Value×Nat)) (clk:Nat),W.heap[b]?=some (.map (l.map (ent inj)).toArray clk)∧(l.map (·.1)).Nodup∧l.length=n∧∀a,lk l a=f a
variable [DecidableEq α]
theorem MapAt.lt{W:World}{b:Nat}{f:α→Option Value}{n:Nat}(h:MapAt inj W b f n):b<W.heap.size:=by
 obtain⟨l,c,a,_⟩:=h;exact cX a
theorem MapAt.of_heap{W W':World}{b:Nat}{f:α→Option Value}{n:Nat}(h:MapAt inj W b f n)(hb:W'.heap[b]?=W.heap[b]?):MapAt inj W' b f n:=by
 obtain⟨l,a,c,d⟩:=h;exact⟨l,a,hb.trans c,d⟩
theorem MapAt.kept{S:Nat→Prop}{W W':World}{b:Nat}{f:α→Option Value}{n:Nat}(h:MapAt inj W b f n)(hc:Chg S W W')(hn:¬S b):MapAt inj W' b f n:=h.of_heap (hc.block b h.lt hn)
theorem MapAt.congr{W:World}{b:Nat}{f g:α→Option Value}{n:Nat}(h:MapAt inj W b f n)(e:∀a,f a=g a):MapAt inj W b g n:=by
 obtain⟨l,c,j,d,k,i⟩:=h;exact⟨l,c,j,d,k,fun a=>(i a).trans (e a)⟩
theorem MapAt.ne_cells{W:World}{b c:Nat}{f:α→Option Value}{n:Nat}(h:MapAt inj W b f n){cs:Array Value}{t:TypeId}{fr:Nat×Nat}(hc:W.heap[c]?=some (.cells cs t fr)):b≠c:=by
 obtain⟨l,d,a,_⟩:=h;exact dR a hc (by simp)
theorem qR(K:aAk P kt inj){d:TypeDesc}(hd:P.underlying kt=some d)(a:α):∀(l:List (α×Value×Nat)) (i:Nat),
 (∃l1 v c l2,l=l1++(a,v,c)::l2∧(∀p ∈ l1,p.1≠a)∧Instr.findNow d (inj a) (l.map (ent inj)) i=some (some (i+l1.length,v)))∨((∀p ∈ l,p.1≠a)∧Instr.findNow d (inj a) (l.map (ent inj)) i=some none)
 |[],i=>Or.inr ⟨by simp,rfl⟩
 |(x,v,c)::l,i=>by
  obtain⟨d',hd',hsame⟩:=K.desc;obtain rfl:d=d':=aN (hd.symm.trans hd');obtain⟨r,hr⟩:=K.same d a x hd;by_cases hx:a=x
  ·subst hx;have:=(hsame a a).2 rfl;exact Or.inl ⟨[],v,c,l,rfl,by simp,by simp[Instr.findNow,this]⟩
  ·have hrf:r=false:=by
    cases r with
    |false=>rfl
    |true=>exact absurd ((hsame a x).1 hr) hx
   subst hrf;rcases qR K hd a l (i+1)with⟨l1,v',c',l2,rfl,h1,h2⟩|⟨h1,h2⟩
   ·refine Or.inl ⟨(x,v,c)::l1,v',c',l2,rfl,?_,?_⟩
    ·intro p hp;rcases List.mem_cons.1 hp with rfl|hp
     ·exact fun e=>hx e.symm
     ·exact h1 p hp
    ·simp only[List.map_cons,Instr.findNow,hr,h2,bF]
     congr 3
     omega
   ·refine Or.inr ⟨?_,by simp only[List.map_cons,Instr.findNow,hr,h2]⟩;intro p hp;rcases List.mem_cons.1 hp with rfl|hp
    ·exact fun e=>hx e.symm
    ·exact h1 p hp
theorem wD{l:List (α×Value×Nat)}{a:α}(h:∀p ∈ l,p.1≠a):lk l a=none:=by
 induction l with
 |nil=>rfl
 |cons p l ih=>simp only[lk];rw[if_neg (h p (by simp)),ih (fun q hq=>h q (by simp[hq]))]
section
variable {l1 l2:List (α×Value×Nat)}
theorem sL{a:α}{v:Value}{c:Nat}(h:∀p ∈ l1,p.1≠a):lk (l1++(a,v,c)::l2) a=some v:=by
 induction l1 with
 |nil=>simp[lk]
 |cons p l ih=>simp only[List.cons_append,lk];rw[if_neg (h p (by simp)),ih (fun q hq=>h q (by simp[hq]))]
theorem aET{a x:α}{v u:Value}{c e:Nat}(hx:x≠a):lk (l1++(a,v,c)::l2) x=lk (l1++(a,u,e)::l2) x:=by
 induction l1 with
 |nil=>simp[lk,Ne.symm hx]
 |cons p l ih=>simp only[List.cons_append,lk,ih]
theorem aG3{a x:α}{v:Value}{c:Nat}(hx:x≠a):lk (l1++(a,v,c)::l2) x=lk (l1++l2) x:=by
 induction l1 with
 |nil=>simp[lk,Ne.symm hx]
 |cons p l ih=>simp only[List.cons_append,lk,ih]
end
theorem aG9{l:List (α×Value×Nat)}{a x:α}{v:Value}{c:Nat}(h:∀p ∈ l,p.1≠a):lk (l++[(a,v,c)]) x=if x=a then some v else lk l x:=by
 induction l with
 |nil=>
   by_cases b:x=a
   ·subst b;simp[lk]
   ·simp[lk,b,Ne.symm b]
 |cons p l ih=>
  have d:=h p (by simp);simp only[List.cons_append,lk,ih (fun q hq=>h q (by simp[hq]))];by_cases b:p.1=x
  ·have:x≠a:=by rw[←b];exact d
   simp[b,this]
  ·simp[b]
theorem iT(_:aAk P kt inj){w:World}(a:α)(l:List (α×Value×Nat))(r:Option (Nat×Value))(d:TypeDesc)(hd:P.underlying kt=some d)(h:Instr.findNow d (inj a) (l.map (ent inj)) 0=some r):
 (Instr.findKey kt (inj a) (l.map (ent inj))).run P w= .ok r w:=by
 unfold Instr.findKey;simp[aT,run_underlying hd,h]
theorem MapAt.lookup(K:aAk P kt inj){W:World}{b:Nat}{f:α→Option Value}{n:Nat}(h:MapAt inj W b f n){t e:TypeId}(ht:P.underlying t=some (.map kt e)){z:Value}(hz:∀w,(zeroValue e).run P w= .ok z w)(a:α):
 (Instr.lookup t (.map (some b)) (inj a) false).run P W= .ok ((f a).getD z) W∧(Instr.lookup t (.map (some b)) (inj a) true).run P W= .ok (.tuple #[(f a).getD z,.bool (f a).isSome]) W:=by
 obtain⟨l,u,k,x,y,r⟩:=h;obtain⟨d,o,_⟩:=K.desc;have m:=K.check (l.map (ent inj)).toArray.isEmpty a W;have j:(l.map (ent inj)).toArray.toList=l.map (ent inj):=rfl;rcases qR K o a l 0 with⟨A,v,c,B,s,q,p⟩|⟨q,p⟩
 ·have i:f a=some v:=by rw[←r a,s,sL q]
  have g:=iT K (w:=W) a _ _ d o p;rw[←j]at g;generalize (l.map (ent inj)).toArray=es at k m g;constructor<;>simp[Instr.lookup,aT,run_underlying ht,MapKept.run_getObj_map k,m,g,i]
 ·have i:f a=none:=by rw[←r a,wD q]
  have g:=iT K (w:=W) a _ _ d o p;rw[←j]at g;generalize (l.map (ent inj)).toArray=es at k m g;constructor<;>simp[Instr.lookup,aT,run_underlying ht,MapKept.run_getObj_map k,m,g,i,hz W]
theorem iL(W:World)(b:Nat)(o:Obj):Chg (fun k=>k=b) W (setBlock W b o):=
 ⟨rfl,rfl,rfl,by simp[setBlock],fun k _ hk=>by simp only[setBlock];rw[Array.getElem?_setIfInBounds_ne (fun e=>hk e.symm)]⟩
theorem jC{W:World}{b:Nat}{x:Obj}(h:W.heap[b]?=some x)(o:Obj):(setBlock W b o).heap[b]?=some o:=by
 have:=cX h;simp[setBlock,this]
theorem MapAt.update(K:aAk P kt inj){W:World}{b:Nat}{f:α→Option Value}{n:Nat}(h:MapAt inj W b f n){t e:TypeId}(ht:P.underlying t=some (.map kt e))(a:α)(v:Value):
 ∃W',(Instr.mapUpdate t (.map (some b)) (inj a) v).run P W= .ok () W'∧Chg (fun k=>k=b) W W'∧W'.heap.size=W.heap.size∧MapAt inj W' b (fun x=>if x=a then some v else f x) (if(f a).isSome then n else n+1):=by
 obtain⟨l,i,j,r,J,I⟩:=h;obtain⟨d,M,_⟩:=K.desc;have O:=K.check false a W;have F:(l.map (ent inj)).toArray.toList=l.map (ent inj):=rfl;rcases qR K M a l 0 with⟨D,u,c,L,C,z,N⟩|⟨z,N⟩
 ·have q:f a=some u:=by rw[←I a,C,sL z]
  have m:=iT K (w:=W) a _ _ d M N;rw[←F]at m;rw[Nat.zero_add]at m;have H:(l.map (ent inj)).toArray.modify D.length (fun e=>{e with key:=inj a,val:=v})=((D++(a,v,c)::L).map (ent inj)).toArray:=by
   rw[C,List.modify_toArray,bN,bN]
   congr 1
   have G:∀(A:List MapEntry) (x:MapEntry) (B:List MapEntry) (g:MapEntry→MapEntry),(A++x::B).modify A.length g=A++g x::B:=by
    intro A;induction A with
    |nil=>intro x B g;rfl
    |cons y A ih=>intro x B g;simp[ih]
   have:=G (D.map (ent inj)) (ent inj (a,u,c)) (L.map (ent inj)) (fun e=>{e with key:=inj a,val:=v});rw[bK]at this;exact this
  have o:(((l.map (ent inj)).toArray[D.length]?).map (·.key)).getD (inj a)=inj a:=by
   rw[C];simp
  refine⟨setBlock W b (.map ((D++(a,v,c)::L).map (ent inj)).toArray i),?_,iL _ _ _,by simp[setBlock],D++(a,v,c)::L,i,jC j _,?_,?_,?_⟩
  ·rw[←H];generalize (l.map (ent inj)).toArray=es at j m o;simp[Instr.mapUpdate,aT,run_underlying ht,MapKept.run_getObj_map j,O,m,o,K.stays,MapKept.run_setObj_map _ j,Result.andThen,setBlock]
  ·rw[C]at r;simpa using r
  ·rw[C]at J;simp[q]at J⊢;exact J
  ·intro x;show _=if x=a then some v else f x
   by_cases E:x=a
   ·subst E;rw[if_pos rfl,sL z]
   ·rw[if_neg E,←I x,C];exact aET E
 ·have q:f a=none:=by rw[←I a,wD z]
  have m:=iT K (w:=W) a _ _ d M N;rw[←F]at m;have s:(l.map (ent inj)).toArray.push ⟨inj a,v,i⟩=((l++[(a,v,i)]).map (ent inj)).toArray:=by simp
  refine⟨setBlock W b (.map ((l++[(a,v,i)]).map (ent inj)).toArray (i+1)),?_,iL _ _ _,by simp[setBlock],l++[(a,v,i)],i+1,jC j _,?_,?_,?_⟩
  ·rw[←s];generalize (l.map (ent inj)).toArray=es at j m;simp[Instr.mapUpdate,aT,run_underlying ht,MapKept.run_getObj_map j,O,m,MapKept.run_setObj_map _ j,Result.andThen,setBlock]
  ·rw[bN,List.nodup_append];refine⟨r,by simp,fun x E y hy=>?_⟩;obtain⟨p,Q,rfl⟩:=bL.1 E;have:y=a:=by simpa using hy
   rw[this];exact z p Q
  ·simp[q,J]
  ·intro x;rw[aG9 z,I x]
theorem MapAt.delete(K:aAk P kt inj){W:World}{b:Nat}{f:α→Option Value}{n:Nat}(h:MapAt inj W b f n){t e ty:TypeId}(ht:P.underlying t=some (.map kt e))(a:α):
 ∃W',(Builtin.delete_ #[t,kt] ty #[.map (some b),inj a]).run P W= .ok (.tuple #[]) W'∧Chg (fun k=>k=b) W W'∧W'.heap.size=W.heap.size∧MapAt inj W' b (fun x=>if x=a then none else f x) (if(f a).isSome then n-1 else n):=by
 obtain⟨l,j,m,g,E,v⟩:=h;obtain⟨d,C,_⟩:=K.desc;have B:=K.check (l.map (ent inj)).toArray.isEmpty a W;have z:(l.map (ent inj)).toArray.toList=l.map (ent inj):=rfl;rcases qR K C a l 0 with⟨s,u,c,y,q,A,D⟩|⟨A,D⟩
 ·have i:f a=some u:=by rw[←v a,q,sL A]
  have o:=iT K (w:=W) a _ _ d C D;rw[←z]at o;have H:∀p ∈ y,p.1≠a:=fun p hp e=>by
   rw[q,bN,List.map_cons,List.nodup_append]at g;have:=(List.nodup_cons.1 g.2.1).1;exact this (by subst e;exact bL.2 ⟨p,hp,rfl⟩)
  rw[Nat.zero_add]at o;have G:(l.map (ent inj)).toArray.eraseIdxIfInBounds s.length=((s++y).map (ent inj)).toArray:=by
   rw[q];have F:s.length<((s++(a,u,c)::y).map (ent inj)).toArray.size:=by simp
   unfold Array.eraseIdxIfInBounds;rw[dif_pos F];apply Array.ext';simp[List.eraseIdx_append_of_length_le]
  refine⟨setBlock W b (.map ((s++y).map (ent inj)).toArray j),?_,iL _ _ _,by simp[setBlock],s++y,j,jC m _,?_,?_,?_⟩
  ·rw[←G];generalize (l.map (ent inj)).toArray=es at m o B;simp[Builtin.delete_,aT,run_underlying ht,MapKept.run_getObj_map m,B,o,MapKept.run_setObj_map _ m,Result.andThen,setBlock]
  ·rw[q]at g;simp only[bN,List.map_cons]at g⊢;exact g.sublist (List.Sublist.append_left (List.sublist_cons_self _ _) _)
  ·rw[q]at E;simp[i]at E⊢;omega
  ·intro x;show _=if x=a then none else f x
   by_cases r:x=a
   ·subst r;rw[if_pos rfl];exact wD (fun p hp=>(aO.1 hp).elim (A p) (H p))
   ·rw[if_neg r,←v x,q,aG3 r]
 ·have i:f a=none:=by rw[←v a,wD A]
  have o:=iT K (w:=W) a _ _ d C D;rw[←z]at o;refine⟨setBlock W b (.map (l.map (ent inj)).toArray j),?_,iL _ _ _,by simp[setBlock],l,j,jC m _,g,by simp[i,E],?_⟩
  ·generalize (l.map (ent inj)).toArray=es at m o B;simp[Builtin.delete_,aT,run_underlying ht,MapKept.run_getObj_map m,B,o,MapKept.run_setObj_map _ m,Result.andThen,setBlock]
  ·intro x;show _=if x=a then none else f x
   by_cases r:x=a
   ·subst r;rw[if_pos rfl,v,i]
   ·rw[if_neg r,v]
section
variable {W:World} {b:Nat} {f:α→Option Value} {n:Nat}
theorem MapAt.clear(h:MapAt inj W b f n){t e ty:TypeId}(ht:P.underlying t=some (.map kt e)):
 ∃W',(Builtin.clear_ #[t] ty #[.map (some b)]).run P W= .ok (.tuple #[]) W'∧Chg (fun k=>k=b) W W'∧W'.heap.size=W.heap.size∧MapAt inj W' b (fun _=>none) 0:=by
 obtain⟨l,a,c,d,i,g⟩:=h;refine⟨setBlock W b (.map #[] a),?_,iL _ _ _,by simp[setBlock],[],a,jC c _,by simp,rfl,fun _=>rfl⟩;generalize (l.map (ent inj)).toArray=es at c;simp[Builtin.clear_,aT,run_underlying ht,MapKept.run_getObj_map c,MapKept.run_setObj_map _ c,Result.andThen,setBlock]
theorem MapAt.len(h:MapAt inj W b f n){t e ty:TypeId}(ht:P.underlying t=some (.map kt e)):
 (Builtin.len_ #[t] ty #[.map (some b)]).run P W= .ok (.int .i64 n) W:=by
 obtain⟨l,g,c,i,d,j⟩:=h;have a:(l.map (ent inj)).toArray.size=n:=by simp[d]
 generalize (l.map (ent inj)).toArray=es at c a;simp[Builtin.len_,aT,run_underlying ht,MapKept.run_getObj_map c,goInt,a]
end
theorem MapAt.made(W:World):MapAt inj (W.alloc (.map #[] 0)) W.heap.size (fun _=>none) 0:=
 ⟨[],0,aA W _,by simp,rfl,fun _=>rfl⟩
end
end
abbrev iK(a:Int):Value:=.int .i64 a
theorem aBw:aAk prog 3 iK where
 desc:=⟨_,underlying3,fun a b=>by simp[Instr.sameNow]⟩
 same:=fun d a b hd=>by
  obtain rfl:=aN (underlying3.symm.trans hd);exact⟨_,by simp[Instr.sameNow];rfl⟩
 check:=fun empty a w=>by
  unfold Instr.checkKey;simp[aT,run_underlying underlying3]
 stays:=fun a w=>by simp[Instr.keyThatStays,Instr.sameBits]
section
open Go.RowKit Go.Conc
theorem uK(W:World)(b ch:Nat)(u:Bool)(hc:W.cell? ⟨b,9,none⟩=some (.chan (some ch)))(hb:W.heap[ch]?=some (.chan 0 #[] (!u) 0 0 false)):
 Calls prog 90 #[.pointer (some ⟨b,0,none⟩)] W fun e w'=>e= .returned (.bool u)∧w'=W:=by
 refine calls_of_loneTo fun cs=>?_;have e:Frame.enter prog 90 #[.pointer (some ⟨b,0,none⟩)] .normal=(base 90).at ⟨#[.pointer (some ⟨b,0,none⟩),undef,undef,undef,undef,undef,undef,undef,undef,undef],[]⟩ [.code (f90.body.getD .skip)]:=by
  simp[Frame.enter,Frame.at,func90,base,f90];try rfl
 rw[e];refine LoneTo.goes (n:=30) ?_;simp only[f90,Option.getD_some]
 s_c stepG_seq
 s_reg
 s_op
 s_c stepG_region_end
 s_c stepG_seq
 s_reg
 s_op
 s_op
 s_op
 s_op
 s_c stepG_region_end
 s_c stepG_seq
 s_reg
 s_stop
 cases u with
 |false=>
  refine LoneTo.step (step_lone_select_recv_shut (c:=ch) (z:=.agg #[]) (cap:=0) (s:=0) (r:=0) (tm:=false) (stepG_comm (cases:=#[rcase ch (.agg #[])]) (blocking:=false) (shape:=.select) (w':=W) rfl rfl (by decide) (by simp[go_sem,execOp,rcase,Act.eval])) hb) ?_;rw[Frame.finish_at]
  walk_nrm
  refine LoneTo.goes (n:=30) ?_
  s_op
  s_op
  s_c stepG_region_end
  s_c stepG_block
  s_cond true
  s_c stepG_seq
  s_reg
  s_op
  s_c stepG_region_end
  s_c stepG_ret'
  s_stop
  exact LoneTo.done ⟨.returned (.bool false),_,rfl,⟨rfl,rfl⟩,rfl,rfl,rfl,rfl,_,func90,by simp[results,f90,Frame.at]⟩
 |true=>
  refine LoneTo.step (step_lone_select_default (c:=ch) (z:=.agg #[]) (cap:=0) (s:=0) (r:=0) (tm:=false) (stepG_comm (cases:=#[rcase ch (.agg #[])]) (blocking:=false) (shape:=.select) (w':=W) rfl rfl (by decide) (by simp[go_sem,execOp,rcase,Act.eval])) hb) ?_;rw[Frame.finish_at]
  walk_nrm
  refine LoneTo.goes (n:=30) ?_
  s_op
  s_op
  s_c stepG_region_end
  s_c stepG_block
  s_cond false
  s_c stepG_seq
  s_reg
  s_op
  s_c stepG_region_end
  s_c stepG_ret'
  s_stop
  exact LoneTo.done ⟨.returned (.bool true),_,rfl,⟨rfl,rfl⟩,rfl,rfl,rfl,rfl,_,func90,by simp[results,f90,Frame.at]⟩
end
def wiB(n l m:Int):Bool:=decide (l≤n)&&decide (n≤m)
theorem iA(n l m:Int)(w:World):
 Calls prog 80 #[.int .i64 n,.int .i64 l,.int .i64 m] w fun e w'=>e= .returned (.bool (wiB n l m))∧w'=w:=by
 by_cases a:l≤n<;>by_cases b:n≤m<;>
 ·go_enter func80,ntmps80;go_wp2;go_ret;exact⟨by simp[wiB,a,b],rfl⟩
def cfA(f c p t:Int):Bool:=wiB f 1 2&&wiB c 1 4&&wiB p 1 20&&wiB t 1 8
def cfB(d k r:Int):Bool:=wiB d 0 10&&wiB k 2 16&&wiB r 100 2000
abbrev cfV(f c p t d k r:Int):Value:=.agg #[.int .i64 f,.int .i64 c,.int .i64 p,.int .i64 t,.int .i64 d,.int .i64 k,.int .i64 r]
theorem aAN(f c p t d k r:Int)(w:World):
 Calls prog 75 #[cfV f c p t d k r] w fun e w'=>e= .returned (.bool (cfA f c p t&&cfB d k r))∧Below w.heap.size w w':=by
 have B:∀o,Below w.heap.size w (w.alloc o):=fun o=>(aJ _ _).alloc (aE _) o;go_enter func75,ntmps75;go_wp2_with (go_at_call 80;refine(iA _ _ _ _).mono ?_;rintro e w' ⟨rfl,rfl⟩);all_goals
  go_ret;exact⟨by simp[cfA,cfB, *],B _⟩
section
open Go.Shelf
def lays169_ren:Go.Shelf.Ren:=⟨fun|169=>223|n=>n,fun|70=>310|9=>9|0=>0|72=>312|37=>218|127=>322|3=>3|5=>5|n=>n,fun|n=>n⟩
theorem lays169:Go.Proofs.Lays.n169 prog lays169_ren:={
 mixed:=by kernel_rfl
 f169:=func223.trans (congrArg some (by kernel_rfl))
 t0:=underlying0
 a0:=isAgg0
 z0:=sizeOf0
 v0:=zeroValue0
 t3:=underlying3
 a3:=isAgg3
 z3:=sizeOf3
 v3:=zeroValue3
 t9:=underlying9
 a9:=isAgg9
 z9:=sizeOf9
 v9:=zeroValue9
 t37:=underlying218
 a37:=isAgg218
 z37:=sizeOf218
 v37:=zeroValue218
 t70:=underlying310
 a70:=isAgg310
 z70:=sizeOf310
 v70:=zeroValue310
 t72:=underlying312
 a72:=isAgg312
 z72:=sizeOf312
 v72:=zeroValue312
 t127:=underlying322
 a127:=isAgg322
 z127:=sizeOf322
 v127:=zeroValue322}
theorem Builder_Extra_169:Builder.Extra prog lays169_ren:={
 sizeBuilder:=by kernel_rfl
 liesBuilder:=by kernel_rfl
 t5:=underlying5
 a5:=isAgg5
 z5:=sizeOf5
 v5:=zeroValue5
 infoByte:=by kernel_rfl
 cellsByte:=by kernel_rfl
 sizeByte:=by kernel_rfl
 neB5:=by decide}
open Go.RowKit in
theorem Builder_String_any(B b:Nat)(l:List UInt8)(w:World)(h:Lib.IsBuilder 312 5 B b (Lib.byteCells l) w)(hBw:B≤w.heap.size):
 Calls prog 223 #[.pointer (some ⟨b,0,none⟩)] w fun e w'=>e= .returned (.string ⟨l.toArray⟩)∧Below B w w':=Any.Builder_String_any lays169 Builder_Extra_169 B b l w h hBw
end
theorem qD{P:Program}{fn:Func}{R:Ending→World→Prop}{t t':Array Value}(h:∀w,(results fn t').run P w=(results fn t).run P w):
 ∀(ds:List Deferred) (u:FrameMode) (w:World),Leaves P fn t' R ds u w→Leaves P fn t R ds u w
 |[],.returning,w,hl=>by
  obtain⟨v,h1,h2⟩:=hl;exact⟨v,(h w).symm.trans h1,h2⟩
 |[],.panicking c,w,hl=>hl
 |[],.run,w,hl=>hl
 |d::ds,u,w,hl=>by
  obtain⟨h1,fv,cap,f,args,h2,h3,h4⟩:=hl;refine⟨h1,fv,cap,f,args,h2,h3,h4.mono ?_⟩;intro e u' w' he;cases e with
  |returned v=>exact qD h ds _ _ he
  |panicked c=>exact qD h ds _ _ he
  |outgrown=>exact he
abbrev W0:Obj:=.cells #[.slice none 0 0,.slice none 0 0,.slice none 0 0,.slice none 0 0,.slice none 0 0,.slice none 0 0,.slice none 0 0,.int .i64 0] 80
theorem aFJ{H:Type}(d:DataW H):0<Rows.uptoBulk d:=by
 cases d with
 |lit l=>cases l<;>simp only[Rows.uptoBulk]<;>omega
 |_=>simp only[Rows.uptoBulk];omega
theorem aBE{H:Type}{d:DataW H}:∀{l:List (DataW H)},d ∈ l→Rows.uptoBulk d≤Rows.uptoBulkAll l
 |[],h=>by cases h
 |x::r,h=>by
  simp only[Rows.uptoBulkAll];rcases List.mem_cons.1 h with e|e
  ·subst e;omega
  ·have:=aBE e;omega
theorem xY{H:Type}:∀l:List (DataW H),l.length≤Rows.uptoBulkAll l
 |[]=>aI _
 |x::r=>by
  have h1:=aFJ x;have h2:=xY r;simp only[Rows.uptoBulkAll,bF];omega
end Go.Proofs.YtbbdgokdfhdpiaaGreatDoor
