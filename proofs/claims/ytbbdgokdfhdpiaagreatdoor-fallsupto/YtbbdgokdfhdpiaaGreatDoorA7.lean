/- A part. -/
import Derived.ChangeAlike
import Derived.Deep.Slices
import Derived.ProofKit
import Derived.Test.YtbbdgokdfhdpiaaGreatDoorA5
namespace Go.Proofs.YtbbdgokdfhdpiaaGreatDoor
set_option linter.all false
set_option maxRecDepth 100000
set_option maxHeartbeats 0
open Go.Proofs.Tryz Go.RowKit
abbrev aK9(kd at_:Int)(f c p t d k r:Int)(l a b v1 v2 v3 v4:Int)(s:ByteArray)(x y z u:Int):Value:=
 .agg #[.int .i64 kd,.int .i64 at_,.int .i64 f,.int .i64 c,.int .i64 p,.int .i64 t,.int .i64 d,.int .i64 k,.int .i64 r,.int .i64 l,.int .i64 a,.int .i64 b,.int .i64 v1,.int .i64 v2,.int .i64 v3,.int .i64 v4,.string s,.int .i64 x,.int .i64 y,.int .i64 z,.int .i64 u]
theorem aGd(pv:Option Addr)(at_:Int)(f c p t d k r:Int)(l a b v1 v2 v3 v4:Int)(s:ByteArray)(x y z u:Int)(w:World):
 Calls prog 30 #[.pointer pv,aK9 1 at_ f c p t d k r l a b v1 v2 v3 v4 s x y z u] w fun e w'=>e= .returned (.bool true)∧Below w.heap.size w w':=by
 go_enter func30,ntmps30;go_wp2_with (go_at_call 67;refine(aG2 _ _ _ _ _ _ _ _).mono ?_;rintro e g ⟨rfl,i⟩);have o:=((aJ _ w).alloc (aE _) _).trans (i.mono (by simp));have h:∀j v,(#[Value.int .i64 1,.int .i64 at_,.int .i64 f,.int .i64 c,.int .i64 p,.int .i64 t,.int .i64 d,.int .i64 k,.int .i64 r,.int .i64 l,.int .i64 a,.int .i64 b,.int .i64 v1,.int .i64 v2,.int .i64 v3,.int .i64 v4,.string s,.int .i64 x,.int .i64 y,.int .i64 z,.int .i64 u]:Array Value)[j]?=some v→g.cell? ⟨w.heap.size,j,none⟩=some v:=by
  intro j v q;rw[i.cell (p:=⟨w.heap.size,j,none⟩) (by simp)];simpa using q
 have C:g.cell? ⟨w.heap.size,2,none⟩=some (.int .i64 f):=h 2 _ rfl;have D:g.cell? ⟨w.heap.size,3,none⟩=some (.int .i64 c):=h 3 _ rfl;have H:g.cell? ⟨w.heap.size,4,none⟩=some (.int .i64 p):=h 4 _ rfl;have E:g.cell? ⟨w.heap.size,5,none⟩=some (.int .i64 t):=h 5 _ rfl;have F:g.cell? ⟨w.heap.size,6,none⟩=some (.int .i64 d):=h 6 _ rfl;have B:g.cell? ⟨w.heap.size,7,none⟩=some (.int .i64 k):=h 7 _ rfl;have A:g.cell? ⟨w.heap.size,8,none⟩=some (.int .i64 r):=h 8 _ rfl;have m:=o.size;clear h i
 go_region_with (first
  |(go_at_call 66;refine(uZ _ _).mono ?_;rintro e w' ⟨rfl,rfl⟩)
  |(go_at_call 68;refine(xR _ _ _ _ _ _ _ _).mono ?_;rintro e G ⟨rfl,n⟩))
 all_goals
  go_wp2;go_ret;refine⟨by first|rfl|simp[Act.put],?_⟩;first|exact o.trans (n.mono m)|exact(o.trans (Below.drew (aJ _ _))).trans (n.mono m)
def opL(n:Nat→Int)(s:ByteArray):List Value:=[.int .i64 (n 0),.int .i64 (n 1),.int .i64 (n 2),.int .i64 (n 3),.int .i64 (n 4),.int .i64 (n 5),.int .i64 (n 6),.int .i64 (n 7),.int .i64 (n 8),.int .i64 (n 9),.int .i64 (n 10),.int .i64 (n 11),.int .i64 (n 12),.int .i64 (n 13),.int .i64 (n 14),.int .i64 (n 15),.string s,.int .i64 (n 17),.int .i64 (n 18),.int .i64 (n 19),.int .i64 (n 20)]
section
variable (n:Nat→Int) (s:ByteArray)
theorem aFc:(opL n s).length=21:=rfl
theorem aDY:(opL n s)[0]?=some (.int .i64 (n 0)):=rfl
end
def OpsAt(w:World)(a:Addr)(len:Nat)(n:Nat→Nat→Int)(s:Nat→ByteArray):Prop:=
 ∀i,i<len→∀j v,(opL (n i) (s i))[j]?=some v→w.cell? ⟨a.block,a.off+i*21+j,none⟩=some v
theorem aEh(pv:Option Addr)(n:Nat→Int)(s:ByteArray)(h:n 0=1)(w:World):
 Calls prog 30 #[.pointer pv,.agg (opL n s).toArray] w fun e w'=>e= .returned (.bool true)∧Below w.heap.size w w':=by
 unfold opL;rw[h];exact aGd _ _ _ _ _ _ _ _ _ _ _ _ _ _ _ _ _ _ _ _ _ _
abbrev W0:Obj:=.cells #[.slice none 0 0,.slice none 0 0,.slice none 0 0,.slice none 0 0,.slice none 0 0,.slice none 0 0,.slice none 0 0,.int .i64 0] 80
theorem OpsAt.at_{w wr:World}{b off len:Nat}{n:Nat→Nat→Int}{s:Nat→ByteArray}(h:OpsAt w ⟨b,off,none⟩ len n s)(hB:∀o,wr.cell? ⟨b,o,none⟩=w.cell? ⟨b,o,none⟩){k:Nat}(hk:k<len):
 wr.cell? ⟨b,off+k*21,none⟩=some (.int .i64 (n k 0))∧(∀j v,(opL (n k) (s k))[j]?=some v→wr.cell? ((⟨b,off+k*21,none⟩:Addr).add j)=some v):=by
 refine⟨?_,fun j v hj=>?_⟩
 ·rw[hB];exact h k hk 0 _ (aDY _ _)
 ·have e:(⟨b,off+k*21,none⟩:Addr).add j=⟨b,off+k*21+j,none⟩:=by unfold Addr.add;split<;>simp_all
  rw[e,hB];exact h k hk j v hj
section
open Go.ChangeShapes Go.WideShapes Go.ChangeAt Go.RowKit Go.Deep
theorem aIc:prog.cellsOf 3=1:=by kernel_rfl
theorem aDr:prog.cellsOf 9=1:=by kernel_rfl
theorem aAd:prog.cellsOf 56=4:=by kernel_rfl
theorem aCc:prog.cellsOf 58=7:=by kernel_rfl
theorem yD:prog.cellsOf 30=7:=by kernel_rfl
theorem aEM:prog.cellsOf 83=21:=by kernel_rfl
section
variable {H:Type}{enc:TypeId×Value→H}{W:World}{base:Nat}{sp:Nat→Bool}{hd:Bool}
section
variable {cs:List Value}
theorem sM{o k j:Nat}{v:Value}(h:((cs.drop o).take k)[j]?=some v)(hj:j<k):cs[o+j]?=some v:=by
 simpa[List.getElem?_take,hj]using h
theorem gC{o n:Nat}{y:DataW H×List MemPlace}(h:DataW.trod enc prog W base sp hd n 3 ((cs.drop o).take (prog.cellsOf 3))=some y):
 ∃a,cs[o]?=some (.int .i64 a)∧(Lit.int .i64 a).wf=true:=by
 obtain⟨a,e,_,wf⟩:=DataW.trod_int underlying3 h;rw[aIc]at e;exact⟨a,by simpa using sM (j:=0) (k:=1) (o:=o) (cs:=cs) (by rw[e];rfl) (by omega),wf⟩
theorem aD9{o n:Nat}{y:DataW H×List MemPlace}(h:DataW.trod enc prog W base sp hd n 9 ((cs.drop o).take (prog.cellsOf 9))=some y):
 ∃s:ByteArray,cs[o]?=some (.string s)∧s.size≤maxLen∧y.1= .lit (.string s.data.toList):=by
 obtain⟨s,e,b,a⟩:=DataW.trod_string underlying9 h;rw[aDr]at e;exact⟨s,by simpa using sM (j:=0) (k:=1) (o:=o) (cs:=cs) (by rw[e];rfl) (by omega),a,by rw[b]⟩
end
def IntAt(cs:List Value)(o:Nat):Prop:=∃a,cs[o]?=some (.int .i64 a)∧(Lit.int .i64 a).wf=true
section
variable {cs:List Value}
theorem IntAt.of_take{o k j:Nat}(h:IntAt ((cs.drop o).take k) j)(hj:j<k):IntAt cs (o+j):=by
 obtain⟨a,b,c⟩:=h;exact⟨a,sM b hj,c⟩
theorem aEG{n:Nat}{y:DataW H×List MemPlace}(h:DataW.trod enc prog W base sp hd n 56 cs=some y):
 cs.length=4∧∀j,j<4→IntAt cs j:=by
 obtain⟨b,m,_,_,d,f,a⟩:=DataW.trod_struct underlying56 h;have c:b.length=4:=f;refine⟨by rw[d,aAd],fun j hj=>?_⟩;have g:∀(i:Nat),i<4→∃y,b[i]?=some y:=fun i hi=>⟨b[i],by simp[c,hi]⟩
 match j,hj with
 |0,_=>obtain⟨y,e⟩:=g 0 (by omega);exact gC ((a 0 _ rfl).trans e)
 |1,_=>obtain⟨y,e⟩:=g 1 (by omega);exact gC ((a 1 _ rfl).trans e)
 |2,_=>obtain⟨y,e⟩:=g 2 (by omega);exact gC ((a 2 _ rfl).trans e)
 |3,_=>obtain⟨y,e⟩:=g 3 (by omega);exact gC ((a 3 _ rfl).trans e)
theorem aHE{n:Nat}{y:DataW H×List MemPlace}(h:DataW.trod enc prog W base sp hd n 58 cs=some y):
 cs.length=7∧∀j,j<7→IntAt cs j:=by
 obtain⟨b,m,_,_,f,k,a⟩:=DataW.trod_struct underlying58 h;have c:b.length=4:=k;refine⟨by rw[f,aCc],fun j hj=>?_⟩;have g:∀(i:Nat),i<4→∃y,b[i]?=some y:=fun i hi=>⟨b[i],by simp[c,hi]⟩;have v:∀j,j<4→IntAt cs (3+j):=fun j hj=>by
  obtain⟨y,e⟩:=g 3 (by omega);have d:DataW.trod enc prog W base sp hd m 56 ((cs.drop 3).take (prog.cellsOf 56))=some y:=(a 3 _ rfl).trans e;rw[aAd]at d;exact((aEG d).2 j hj).of_take (by omega)
 match j,hj with
 |0,_=>obtain⟨y,e⟩:=g 0 (by omega);exact gC ((a 0 _ rfl).trans e)
 |1,_=>obtain⟨y,e⟩:=g 1 (by omega);exact gC ((a 1 _ rfl).trans e)
 |2,_=>obtain⟨y,e⟩:=g 2 (by omega);exact gC ((a 2 _ rfl).trans e)
 |3,_=>exact v 0 (by omega)
 |4,_=>exact v 1 (by omega)
 |5,_=>exact v 2 (by omega)
 |6,_=>exact v 3 (by omega)
theorem aDc{n:Nat}{y:DataW H×List MemPlace}(h:DataW.trod enc prog W base sp hd n 30 cs=some y):
 cs.length=7∧∀j,j<7→IntAt cs j:=by
 obtain⟨b,m,_,_,d,f,a⟩:=DataW.trod_struct underlying30 h;have c:b.length=7:=f;refine⟨by rw[d,yD],fun j hj=>?_⟩;have g:∀(i:Nat),i<7→∃y,b[i]?=some y:=fun i hi=>⟨b[i],by simp[c,hi]⟩
 match j,hj with
 |0,_=>obtain⟨y,e⟩:=g 0 (by omega);exact gC ((a 0 _ rfl).trans e)
 |1,_=>obtain⟨y,e⟩:=g 1 (by omega);exact gC ((a 1 _ rfl).trans e)
 |2,_=>obtain⟨y,e⟩:=g 2 (by omega);exact gC ((a 2 _ rfl).trans e)
 |3,_=>obtain⟨y,e⟩:=g 3 (by omega);exact gC ((a 3 _ rfl).trans e)
 |4,_=>obtain⟨y,e⟩:=g 4 (by omega);exact gC ((a 4 _ rfl).trans e)
 |5,_=>obtain⟨y,e⟩:=g 5 (by omega);exact gC ((a 5 _ rfl).trans e)
 |6,_=>obtain⟨y,e⟩:=g 6 (by omega);exact gC ((a 6 _ rfl).trans e)
theorem aIO{n:Nat}{y:DataW H×List MemPlace}(h:DataW.trod enc prog W base sp hd n 83 cs=some y):
 cs.length=21∧(∀j,j<21→j≠16→IntAt cs j)∧∃s:ByteArray,cs[16]?=some (.string s)∧s.size≤maxLen∧∃ds:List (DataW H),y.1= .agg ds∧ds[4]?=some (.lit (.string s.data.toList)):=by
 obtain⟨d,m,_,o,l,u,a⟩:=DataW.trod_struct underlying83 h;have f:d.length=9:=u;have g:∀(i:Nat),i<9→∃y,d[i]?=some y:=fun i hi=>⟨d[i],by simp[f,hi]⟩;have c:∀j,j<7→IntAt cs (2+j):=fun j hj=>by
  obtain⟨y,e⟩:=g 2 (by omega);have b:DataW.trod enc prog W base sp hd m 30 ((cs.drop 2).take (prog.cellsOf 30))=some y:=(a 2 _ rfl).trans e;rw[yD]at b;exact((aDc b).2 j hj).of_take (by omega)
 have r:∀j,j<7→IntAt cs (9+j):=fun j hj=>by
  obtain⟨y,e⟩:=g 3 (by omega);have b:DataW.trod enc prog W base sp hd m 58 ((cs.drop 9).take (prog.cellsOf 58))=some y:=(a 3 _ rfl).trans e;rw[aCc]at b;exact((aHE b).2 j hj).of_take (by omega)
 refine⟨by rw[l,aEM],fun j hj hj'=>?_,?_⟩
 ·match j,hj,hj' with
  |0,_,_=>obtain⟨y,e⟩:=g 0 (by omega);exact gC ((a 0 _ rfl).trans e)
  |1,_,_=>obtain⟨y,e⟩:=g 1 (by omega);exact gC ((a 1 _ rfl).trans e)
  |2,_,_=>exact c 0 (by omega)
  |3,_,_=>exact c 1 (by omega)
  |4,_,_=>exact c 2 (by omega)
  |5,_,_=>exact c 3 (by omega)
  |6,_,_=>exact c 4 (by omega)
  |7,_,_=>exact c 5 (by omega)
  |8,_,_=>exact c 6 (by omega)
  |9,_,_=>exact r 0 (by omega)
  |10,_,_=>exact r 1 (by omega)
  |11,_,_=>exact r 2 (by omega)
  |12,_,_=>exact r 3 (by omega)
  |13,_,_=>exact r 4 (by omega)
  |14,_,_=>exact r 5 (by omega)
  |15,_,_=>exact r 6 (by omega)
  |17,_,_=>obtain⟨y,e⟩:=g 5 (by omega);exact gC ((a 5 _ rfl).trans e)
  |18,_,_=>obtain⟨y,e⟩:=g 6 (by omega);exact gC ((a 6 _ rfl).trans e)
  |19,_,_=>obtain⟨y,e⟩:=g 7 (by omega);exact gC ((a 7 _ rfl).trans e)
  |20,_,_=>obtain⟨y,e⟩:=g 8 (by omega);exact gC ((a 8 _ rfl).trans e)
  |16,_,h16=>exact absurd rfl h16
  |k+21,hk,_=>exact absurd hk (by omega)
 ·obtain⟨v,e⟩:=g 4 (by omega);obtain⟨s,q,p,t⟩:=aD9 ((a 4 _ rfl).trans e);exact⟨s,q,p,d.map (·.1),by rw[o],by simp[e,t]⟩
end
def aJ5:Value→Int
 |.int _ a=>a
 |_=>0
theorem aKT{cs:List Value}(hl:cs.length=21)(hi:∀j,j<21→j≠16→IntAt cs j){s:ByteArray}(hs:cs[16]?=some (.string s)):cs=opL (fun j=>aJ5 (cs.getD j (.int .i64 0))) s:=by
 have k:∀j,j<21→j≠16→cs[j]?=some (.int .i64 (aJ5 (cs.getD j (.int .i64 0)))):=fun j b hj'=>by
  obtain⟨a,h,_⟩:=hi j b hj';rw[aQ,h];rfl
 apply List.ext_getElem?;intro j;by_cases b:j<21
 ·match j,b with
  |16,_=>rw[hs];rfl
  |0,_=>rw[k 0 (by omega) (by omega)];rfl
  |1,_=>rw[k 1 (by omega) (by omega)];rfl
  |2,_=>rw[k 2 (by omega) (by omega)];rfl
  |3,_=>rw[k 3 (by omega) (by omega)];rfl
  |4,_=>rw[k 4 (by omega) (by omega)];rfl
  |5,_=>rw[k 5 (by omega) (by omega)];rfl
  |6,_=>rw[k 6 (by omega) (by omega)];rfl
  |7,_=>rw[k 7 (by omega) (by omega)];rfl
  |8,_=>rw[k 8 (by omega) (by omega)];rfl
  |9,_=>rw[k 9 (by omega) (by omega)];rfl
  |10,_=>rw[k 10 (by omega) (by omega)];rfl
  |11,_=>rw[k 11 (by omega) (by omega)];rfl
  |12,_=>rw[k 12 (by omega) (by omega)];rfl
  |13,_=>rw[k 13 (by omega) (by omega)];rfl
  |14,_=>rw[k 14 (by omega) (by omega)];rfl
  |15,_=>rw[k 15 (by omega) (by omega)];rfl
  |17,_=>rw[k 17 (by omega) (by omega)];rfl
  |18,_=>rw[k 18 (by omega) (by omega)];rfl
  |19,_=>rw[k 19 (by omega) (by omega)];rfl
  |20,_=>rw[k 20 (by omega) (by omega)];rfl
  |i+21,hi=>exact absurd hi (by omega)
 ·rw[List.getElem?_eq_none (by omega),List.getElem?_eq_none (by rw[aFc];omega)]
theorem aGh{w:World}{a:Addr}{n:Nat}{cs:List Value}(h:w.cells? base a n=some cs):∀j,j<n→w.cell? (a.add j)=cs[j]?:=by
 unfold World.cells? at h;split at h
 ·intro j b;have:=mapM_some_get h j j (by simp[b]);exact this
 ·cases h
theorem aAW{v:Value}{d:DataW H}{ps:List MemPlace}{len cap:Nat}{p:Option Addr}(hv:v= .slice p len cap)(h:DataW.Trod enc prog W 0 sp hd 22 v d ps):
 len=0∨∃(b off:Nat) (n:Nat→Nat→Int) (s:Nat→ByteArray) (D:Nat→DataW H) (E:List (DataW H)),p=some ⟨b,off,none⟩∧len≤cap∧cap≤maxLen∧d= .slice ((List.range len).map D) E∧b<W.heap.size∧OpsAt W ⟨b,off,none⟩ len n s∧
  (∀i,i<len→(∀j,j<21→j≠16→(Lit.int .i64 (n i j)).wf=true)∧(s i).size≤maxLen∧∃ds:List (DataW H),D i= .agg ds∧ds[4]?=some (.lit (.string (s i).data.toList))):=by
 by_cases L:len=0
 ·exact Or.inl L
 right;obtain⟨R,M⟩:=h;subst hv;rcases open_slice underlying22 M with⟨c,A⟩|⟨a,Q,P,m,X,D,Y,c,_,K,C,N,A,o⟩
 ·simp[Value.cells]at c;exact absurd c.2.1 L
 ·simp[Value.cells]at c;obtain⟨rfl,rfl,rfl⟩:=c;simp only[Prod.mk.injEq]at A;have V:len≤m:=by rw[N];split<;>omega
  clear M N;rw[aEM]at o;have g:∀i,∃(z:(Nat→Int)×ByteArray),i<len→(∀j v,(opL z.1 z.2)[j]?=some v→W.cell? ((a.add (i*21)).add j)=some v)∧(∀j,j<21→j≠16→(Lit.int .i64 (z.1 j)).wf=true)∧z.2.size≤maxLen∧∃ds:List (DataW H),D i= .agg ds∧ds[4]?=some (.lit (.string z.2.data.toList)):=by
   intro i;by_cases l:i<len
   ·obtain⟨q,U,S⟩:=o i (by omega);obtain⟨F,e,s,T,J,ds,G,B⟩:=aIO S;refine⟨(fun j=>aJ5 (q.getD j (.int .i64 0)),s),fun _=>⟨?_,?_,J,ds,G,B⟩⟩
    ·intro j v f;rw[←aKT F e T]at f;have t:j<21:=by
      have:=(aF.1 f).1;omega
     exact(aGh U j t).trans f
    ·intro j f I;obtain⟨x,w,u⟩:=e j f I;show(Lit.int .i64 (aJ5 (q.getD j (.int .i64 0)))).wf=true;rw[aQ,w];exact u
   ·exact⟨(fun _=>0,ByteArray.empty),fun h=>absurd h l⟩
  have y:=fun i=>Classical.choose_spec (g i);obtain⟨b,off,r⟩:=a;have O:=(y 0 (by omega)).1 0 _ (aDY _ _);have k:r=none:=by simpa[Addr.add]using World.cell?_spot O
  subst k;refine⟨b,off,fun i=>(Classical.choose (g i)).1,fun i=>(Classical.choose (g i)).2,D,_,rfl,K,C,A.1,?_,?_,fun i l=>(y i l).2⟩
  ·have:=block_lt_of_cell O;simpa[Addr.add]using this
  ·intro i l j v f;rw[←(y i l).1 j v f]
   congr 1
   unfold Addr.add;by_cases w:i*21=0<;>by_cases u:j=0<;>simp[w,u,Nat.add_assoc]
end
end
end Go.Proofs.YtbbdgokdfhdpiaaGreatDoor
