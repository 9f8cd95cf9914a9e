/- A part. -/
import Derived.Test.YtbbdgokdfhdpiaaGreatDoorA32
namespace Go.Proofs.YtbbdgokdfhdpiaaGreatDoor
set_option linter.all false
set_option maxRecDepth 100000
set_option maxHeartbeats 0
open Go.Proofs.Tryz Go.RowKit
def qB(x:Rm)(i n q:Int):Bool:= !(dT i x.acs.length)||decide (n<0)||decide (q<0)
def sT(x:Rm)(i n q:Int):Int:=if qB x i n q=true then 1 else zG (tB x i)
def rZ(x:Rm)(i n q:Int):Rm:=if qB x i n q=true then x else gF x i.toNat (uF (tB x i) n q) (yT (tB x i) i n)
theorem sF(x:Rm)(i:Nat)(a:Ra):gF x i a []={x with acs:=x.acs.set i a}:=by
 unfold gF;rw[fF,aC,aC]
theorem aIk(W:World)(own:Nat→Nat)(y:Nat)(x:Rm)(V:RmV)(N i n q:Int)(h:RmAt W own y x V)(hok:tS N x)(hN:N≤80000000000):
 Calls prog 120 #[.pointer (some ⟨y,0,none⟩),.int .i64 i,.int .i64 n,.int .i64 q] W fun r W'=>r= .returned (.int .i64 (sT x i n q))∧RmTo W own y V (rZ x i n q) W':=by
 obtain⟨pc,R,p,o⟩:=fK h.rav;have y7:W.cell? ⟨y,7,none⟩=some (.slice pc x.acs.length R):=by rw[←p];exact h.cell 7 _ rfl
 have a6:=hok.n5;have b3:=hok.tr;have HT:=cN (RmTo.of h);by_cases b:qB x i n q=true
 ·have C:sT x i n q=1:=if_pos b;have w:rZ x i n q=x:=if_pos b;rw[C,w];have a8:(decide (i<0)=true)∨(decide (i<0)=false∧decide ((x.acs.length:Int)≤i)=true)∨(decide (i<0)=false∧decide ((x.acs.length:Int)≤i)=false∧decide (n<0)=true)∨(decide (i<0)=false∧decide ((x.acs.length:Int)≤i)=false∧decide (n<0)=false∧decide (q<0)=true):=by
   unfold qB at b;by_cases O:i<0
   ·left;simp[O]
   ·right;by_cases S:(x.acs.length:Int)≤i
    ·left;simp[S];omega
    ·right;have X:dT i x.acs.length=true:=by rw[dY];omega
     rw[X]at b;by_cases h4:n<0
     ·left;simp[h4];omega
     ·right;simp[h4]at b;simp[b];omega
  clear h p o b C w;rcases a8 with U|⟨U,p2⟩|⟨U,p2,p3⟩|⟨U,p2,p3,p4⟩;all_goals
   go_enter func120,ntmps120;go_wp2_with fail;go_ret;exact⟨rfl,HT.out⟩
 ·have a7:dT i x.acs.length=true∧¬n<0∧¬q<0:=by
   unfold qB at b;simp only[Bool.or_eq_true,Bool.not_eq_true',aM,not_or,Bool.not_eq_false]at b;exact⟨b.1.1,b.1.2,b.2⟩
  obtain⟨Y,K,J⟩:=a7;obtain⟨h0,O⟩:=(dY _ _).1 Y;obtain⟨k,rfl⟩:∃k:Nat,i=(k:Int):=⟨i.toNat,by omega⟩;have v:k<x.acs.length:=by omega
  have C:sT x k n q=zG x.acs[k]:=by unfold sT;rw[if_neg b,pP v]
  have w:rZ x k n q=gF x k (uF x.acs[k] n q) (yT x.acs[k] k n):=by unfold rZ;rw[if_neg b,pP v,bB]
  rw[C,w];obtain⟨g,rfl,T⟩:=o k v;obtain⟨B,t⟩:=aLz (V.bA k);have b2:W.cell? ⟨g,k,none⟩=some (.pointer (some ⟨B,0,none⟩)):=by rw[t];exact T
  obtain⟨a,D⟩:=aLA (x.acs[k]);rw[D];have d:RaAt W B x.cf a:=by have:=h.acs k v;rw[D]at this;rw[t];exact this
  have b8:W.cell? ⟨B,8,none⟩=some (.bool a.up):=cO d 8 _ rfl;have U:decide ((k:Int)<0)=false:=by simp
  have p2:decide ((x.acs.length:Int)≤(k:Int))=false:=by simp;omega
  have p3:decide (n<0)=false:=by simp;omega
  have p4:decide (q<0)=false:=by simp;omega
  cases hu:a.up with
  |false=>
   have M:zG a=2:=if_pos hu;have A:uF a n q=a:=if_pos hu;have E:yT a k n=[]:=if_pos hu;rw[M,A,E,sF,←D,bH];rw[hu]at b8;clear h p o T b C w M A E D t d K J h0 O Y;go_enter func120,ntmps120;go_wp2_with fail;go_ret;exact⟨rfl,HT.out⟩
  |true=>
   rw[hu]at b8;have s:¬a.up=false:=by rw[hu];decide
   have M:zG a=0:=if_neg s;have A:uF a n q=if n=0 then fW {a with left:=n,keep:=q} a.log else{a with left:=n,keep:=q}:=if_neg s
   have E:yT a k n=if n=0 then[eO k]else[]:=if_neg s
   rw[M];have a2:W.cell? ⟨B,10,none⟩=some (.int .i64 a.left):=cO d 10 _ rfl;have a0:=cX d 10;have m:RaAt (W.setCell ⟨B,10,none⟩ (.int .i64 n)) B x.cf {a with left:=n}:=dD d 10 _;have L:=cY W B 10 (.int .i64 n);generalize G:W.setCell ⟨B,10,none⟩ (.int .i64 n)=W1 at*;have Q:=cN G;have a1:W1.cell? ⟨B,11,none⟩=some (.int .i64 a.keep):=cO m 11 _ rfl;have a9:=cX m 11;have f:RaAt (W1.setCell ⟨B,11,none⟩ (.int .i64 q)) B x.cf {a with left:=n,keep:=q}:=dD m 11 _;have l:=L.trans (cY W1 B 11 (.int .i64 q)) (fun _ _ h=>h);generalize I:W1.setCell ⟨B,11,none⟩ (.int .i64 q)=W2 at*;have P:=cN I;have u:∀{Z:World},Chg (fun z=>z=B) W Z→Chg (fun z=>own z≠0) W Z:=fun hz=>hz.mono (fun z _ e=>by subst e;rw[t];have:=h.aco k v;omega);by_cases c:n=0
   ·have b1:(n==0)=true:=by simp[c]
    rw[A,E,if_pos c,if_pos c];have d7:W2.cell? ⟨B,7,none⟩=some (.string (strOfNums a.log)):=cO f 7 _ rfl;have a5:=cN (pQ W2 B x.cf {a with left:=n,keep:=q} a.log f);have H:=cN (aLq h l t D);have b0:=cN (fun (Z:World) (hz:Chg (fun z=>z=B) W Z)=>u hz);clear h p o T b C w M A E D t d m f L l G I K J h0 O Y hu s u;have b4:=cN c;clear c;go_enter func120,ntmps120;go_wp2_with (first|rw[Q.out]|rw[P.out]|(go_at_call 161;refine a5.out.mono ?_;rintro e W3 ⟨rfl,j⟩;refine cQ ?_));have F:Chg (fun z=>z=B) W W3:=H.out.2.1.trans j.2 (fun _ _ h=>h);have X:=H.out.1.acceptor v (fW {a with left:=n,keep:=q} a.log) (by rw[←H.out.2.2.1];exact F) (by rw[←H.out.2.2.1];exact j.1);have a3:=cN (mG W3 own y {x with acs:=x.acs.set k (fW {a with left:=n,keep:=q} a.log)} V k (fW {a with left:=n,keep:=q} a.log) X (by simpa using v) (by simp) (by simpa using a6) (by show x.tr.length≤_;omega));have a4:=cN (b0.out W3 F);clear j F X b8 a2 a0 a1 a9 d7;refine cN ?_;go_wp2_with (go_at_call 157;refine a3.out.mono ?_;rintro e W4 ⟨rfl,j⟩);go_ret;refine⟨rfl,RmTo.trans (own1:=own) (V1:=V) rfl rfl a4.out (fun _ h=>Or.inl h) ?_⟩;have e4:gF x k (fW {a with left:=n,keep:=q} a.log) [eO k]={x with acs:=x.acs.set k (fW {a with left:=n,keep:=q} a.log),tr:=x.tr++[eO k]}:=by
     unfold gF;rw[fE _ (by show(4:Int)≠1;decide),aC]
    rw[e4];exact j
   ·have b1:(n==0)=false:=by simp[c]
    rw[A,E,if_neg c,if_neg c,sF];have S:=h.acceptor v {a with left:=n,keep:=q} (by rw[←t];exact l) (by rw[←t];exact f);have HR:=cN (RmTo.trans (V:=V) (V1:=V) rfl rfl (u l) (fun _ h=>Or.inl h) (RmTo.of S));clear h p o T b C w M A E D t d m f L l G I K J h0 O Y hu s u S c;go_enter func120,ntmps120;go_wp2_with (first|rw[Q.out]|rw[P.out]);go_ret;exact⟨rfl,HR.out⟩
theorem vW(f:Nat→Nat)(n b:Nat):nD (fun j=>if j=n then b else f j) (n+1)=nD f n++[rJ b]:=by
 unfold nD;rw[List.range_succ,bU]
 congr 1
 ·refine List.map_congr_left (fun j hj=>?_);have:=List.mem_range.1 hj;have a:j≠n:=by omega
  simp only[if_neg a]
 ·simp
section
variable {W W1 W2:World} {own:Nat→Nat} {y:Nat} {x:Rm} {V:RmV}
theorem RmAt.addA(h:RmAt W own y x V){n gt cap:Nat}{a:Ra}(h01:Chg NoS W W1)(hn:W.heap.size≤n)
 (hb:W1.heap[n]?=some (.cells (raL x.cf a).toArray 176 (0,0))) (h12:W1.grownBy W2 V.av.ownBlock)
 (hown:W2.ownsRow 0 174 1 (.slice (some ⟨gt,0,none⟩) (x.acs.length+1) cap) (x.acs.length+1) (nD V.bA x.acs.length++[rJ n]))
 (hat:V.av.ownBlock=some gt∨W1.heap.size≤gt):
 ∃own' V',RmAt (W2.setCell ⟨y,7,none⟩ (.slice (some ⟨gt,0,none⟩) (x.acs.length+1) cap)) own' y {x with acs:=x.acs++[a]} V'∧Chg (fun q=>own q≠0) W (W2.setCell ⟨y,7,none⟩ (.slice (some ⟨gt,0,none⟩) (x.acs.length+1) cap))∧∀q,own' q≠0→own q≠0∨W.heap.size≤q:=by
 have hc2:Chg (fun q=>own q=4∨own q=1) W W2:=(h01.mono (T:=fun q=>own q=4∨own q=1) (fun _ _ h=>h.elim)).trans (Chg.of_grown h12) (fun q _ e=>Or.inl (h.avo q e.symm));have hc3:=cY W2 y 7 (.slice (some ⟨gt,0,none⟩) (x.acs.length+1) cap);have hc:Chg (fun q=>own q=4∨own q=1) W (W2.setCell ⟨y,7,none⟩ (.slice (some ⟨gt,0,none⟩) (x.acs.length+1) cap)):=hc2.trans hc3 (fun q _ e=>by subst e;exact Or.inr h.yo);have hn1:n<W1.heap.size:=dG hb;have hyl:y<W.heap.size:=h.lt y (by rw[h.yo];decide);have hnb:(W2.setCell ⟨y,7,none⟩ (.slice (some ⟨gt,0,none⟩) (x.acs.length+1) cap)).heap[n]?=some (.cells (raL x.cf a).toArray 176 (0,0)):=
  hc3.kept ((h12.block n hn1 (fun e=>by have:=h.avo n e.symm;have:=h.lt n (by omega);omega)).trans hb) (by omega)
 have hyb:W2.heap[y]?=_:=((h12.block y (aG hyl h01.size) (fun e=>by have:=h.avo y e.symm;rw[h.yo]at this;omega)).trans ((h01.block y hyl (fun h=>h)).trans h.blk));have hyb2:=dD hyb 7 (.slice (some ⟨gt,0,none⟩) (x.acs.length+1) cap);have hgtl:=eY hown gt rfl;have hgy:gt≠y:=fun e=>by
  rcases hat with h'|h'
  ·have:=h.avo gt h';rw[e,h.yo]at this;omega
  ·have:=h01.size;omega
 have hrow:=hc3.row hown (fun q hq e=>by have:gt=q:=(by simpa[Value.ownBlock]using hq);omega);have hgn:gt≠n:=fun e=>by
  rcases hat with h'|h'
  ·have:=h.lt gt (by rw[h.avo gt h'];decide);omega
  ·omega
 have hs2:W2.heap.size≤(W2.setCell ⟨y,7,none⟩ (.slice (some ⟨gt,0,none⟩) (x.acs.length+1) cap)).heap.size:=hc3.size;have hs12:=h12.size;have hs01:=h01.size;generalize hW3:W2.setCell ⟨y,7,none⟩ (.slice (some ⟨gt,0,none⟩) (x.acs.length+1) cap)=W3 at*
 let f:Nat→Nat:=fun q=>if q=n then 6+5*x.acs.length else if q=gt then 4 else 0
 have hold:∀{q p:Nat},p≠0→own q=p→lO W own f q=p:=fun hp h'=>uO h.lt hp h';have hblk:∀q,own q≠0→own q≠4→own q≠1→W3.heap[q]?=W.heap[q]?:=fun q h0 h5 h1=>hc.block q (h.lt q h0) (fun e=>by omega);have hnew:lO W own f n=6+5*x.acs.length:=by rw[gK hn];simp[f]
 have hgw:∀q,gt=q→lO W own f q=4:=fun q e=>by
  subst e;rcases hat with h'|h'
  ·exact hold (by decide) (h.avo gt h')
  ·rw[gK (by omega)];simp only[f,if_neg hgn,if_true]
 refine⟨lO W own f,{V with av:=.slice (some ⟨gt,0,none⟩) (x.acs.length+1) cap,bA:=fun j=>if j=x.acs.length then n else V.bA j},?_,hc.mono (fun q _ hq=>by omega),fun q hq=>?_⟩
 ·exact{
   blk:=hyb2
   yo:=hold (by decide) h.yo
   net:=dF h.net fun q hq=>by have:=h.nvo q hq;exact hblk q (by omega) (by omega) (by omega)
   tr:=dF h.tr fun q hq=>by have:=h.tvo q hq;exact hblk q (by omega) (by omega) (by omega)
   rav:=by
    show W3.ownsRow 0 _ 1 (.slice (some ⟨gt,0,none⟩) (x.acs.length+1) cap) (x.acs++[a]).length (nD (fun j=>if j=x.acs.length then n else V.bA j) (x.acs++[a]).length);rw[aD,aK,vW];exact hrow
   rcv:=dF h.rcv fun q hq=>by have:=h.cvo q hq;exact hblk q (by omega) (by omega) (by omega)
   nvo:=fun q hq=>hold (by decide) (h.nvo q hq)
   tvo:=fun q hq=>hold (by decide) (h.tvo q hq)
   avo:=fun q hq=>hgw q (by simpa[Value.ownBlock]using hq)
   cvo:=fun q hq=>hold (by decide) (h.cvo q hq)
   acs:=fun j hj=>by
    have hj1:j<x.acs.length+1:=by simpa using hj
    by_cases hji:j=x.acs.length
    ·subst hji;simp only[if_true,List.getElem_concat_length];exact hnb
    ·have hj':j<x.acs.length:=by omega
     simp only[if_neg hji,cD hj'];have:=h.aco j hj';exact(hblk (V.bA j) (by omega) (by omega) (by omega)).trans (h.acs j hj')
   aco:=fun j hj=>by
    have hj1:j<x.acs.length+1:=by simpa using hj
    by_cases hji:j=x.acs.length
    ·subst hji;simp only[if_true];exact hnew
    ·simp only[if_neg hji];exact hold (by omega) (h.aco j (by omega))
   cls:=fun j hj=>by
    have q1:=h.clo j hj;exact(h.cls j hj).of_heap (hblk (V.bC j) (by omega) (by omega) (by omega)) (fun q hq=>by have:=h.mo j hj q hq;exact hblk q (by omega) (by omega) (by omega)) (fun q hq=>by have:=h.ho j hj q hq;exact hblk q (by omega) (by omega) (by omega)) (fun q hq=>by have:=h.bo j hj q hq;exact hblk q (by omega) (by omega) (by omega))
   clo:=fun j hj=>hold (by omega) (h.clo j hj)
   mo:=fun j hj q hq=>hold (by omega) (h.mo j hj q hq)
   ho:=fun j hj q hq=>hold (by omega) (h.ho j hj q hq)
   bo:=fun j hj q hq=>hold (by omega) (h.bo j hj q hq)
   lt:=fun q hq=>by
    rcases Nat.lt_or_ge q W.heap.size with h'|h'
    ·omega
    ·rw[gK h']at hq;simp only[f]at hq;split at hq
     ·omega
     ·split at hq
      ·omega
      ·exact absurd rfl hq}
 ·rcases Nat.lt_or_ge q W.heap.size with h'|h'
  ·rw[oX h']at hq;exact Or.inl hq
  ·exact Or.inr h'
theorem RmAt.addC(h:RmAt W own y x V){n gt cap:Nat}{a:Rc}(h01:Chg NoS W W1)(hn:W.heap.size≤n)
 (hb:W1.heap[n]?=some (.cells (rcL a eU eU eU).toArray 182 (0,0))) (h12:W1.grownBy W2 V.cv.ownBlock)
 (hm:a.mine=[]) (hh:a.heard=[]) (hbk:a.back=[])
 (hown:W2.ownsRow 0 177 1 (.slice (some ⟨gt,0,none⟩) (x.cls.length+1) cap) (x.cls.length+1) (nD V.bC x.cls.length++[rJ n]))
 (hat:V.cv.ownBlock=some gt∨W1.heap.size≤gt):
 ∃own' V',RmAt (W2.setCell ⟨y,8,none⟩ (.slice (some ⟨gt,0,none⟩) (x.cls.length+1) cap)) own' y {x with cls:=x.cls++[a]} V'∧Chg (fun q=>own q≠0) W (W2.setCell ⟨y,8,none⟩ (.slice (some ⟨gt,0,none⟩) (x.cls.length+1) cap))∧∀q,own' q≠0→own q≠0∨W.heap.size≤q:=by
 have hc2:Chg (fun q=>own q=5∨own q=1) W W2:=(h01.mono (T:=fun q=>own q=5∨own q=1) (fun _ _ h=>h.elim)).trans (Chg.of_grown h12) (fun q _ e=>Or.inl (h.cvo q e.symm));have hc3:=cY W2 y 8 (.slice (some ⟨gt,0,none⟩) (x.cls.length+1) cap);have hc:Chg (fun q=>own q=5∨own q=1) W (W2.setCell ⟨y,8,none⟩ (.slice (some ⟨gt,0,none⟩) (x.cls.length+1) cap)):=hc2.trans hc3 (fun q _ e=>by subst e;exact Or.inr h.yo);have hn1:n<W1.heap.size:=dG hb;have hyl:y<W.heap.size:=h.lt y (by rw[h.yo];decide);have hnb:(W2.setCell ⟨y,8,none⟩ (.slice (some ⟨gt,0,none⟩) (x.cls.length+1) cap)).heap[n]?=some (.cells (rcL a eU eU eU).toArray 182 (0,0)):=
  hc3.kept ((h12.block n hn1 (fun e=>by have:=h.cvo n e.symm;have:=h.lt n (by omega);omega)).trans hb) (by omega)
 have hyb:W2.heap[y]?=_:=((h12.block y (aG hyl h01.size) (fun e=>by have:=h.cvo y e.symm;rw[h.yo]at this;omega)).trans ((h01.block y hyl (fun h=>h)).trans h.blk));have hyb2:=dD hyb 8 (.slice (some ⟨gt,0,none⟩) (x.cls.length+1) cap);have hgtl:=eY hown gt rfl;have hgy:gt≠y:=fun e=>by
  rcases hat with h'|h'
  ·have:=h.cvo gt h';rw[e,h.yo]at this;omega
  ·have:=h01.size;omega
 have hrow:=hc3.row hown (fun q hq e=>by have:gt=q:=(by simpa[Value.ownBlock]using hq);omega);have hgn:gt≠n:=fun e=>by
  rcases hat with h'|h'
  ·have:=h.lt gt (by rw[h.cvo gt h'];decide);omega
  ·omega
 have hs2:W2.heap.size≤(W2.setCell ⟨y,8,none⟩ (.slice (some ⟨gt,0,none⟩) (x.cls.length+1) cap)).heap.size:=hc3.size;have hs12:=h12.size;have hs01:=h01.size;generalize hW3:W2.setCell ⟨y,8,none⟩ (.slice (some ⟨gt,0,none⟩) (x.cls.length+1) cap)=W3 at*
 let f:Nat→Nat:=fun q=>if q=n then 7+5*x.cls.length else if q=gt then 5 else 0
 have hold:∀{q p:Nat},p≠0→own q=p→lO W own f q=p:=fun hp h'=>uO h.lt hp h';have hblk:∀q,own q≠0→own q≠5→own q≠1→W3.heap[q]?=W.heap[q]?:=fun q h0 h5 h1=>hc.block q (h.lt q h0) (fun e=>by omega);have hnew:lO W own f n=7+5*x.cls.length:=by rw[gK hn];simp[f]
 have hgw:∀q,gt=q→lO W own f q=5:=fun q e=>by
  subst e;rcases hat with h'|h'
  ·exact hold (by decide) (h.cvo gt h')
  ·rw[gK (by omega)];simp only[f,if_neg hgn,if_true]
 refine⟨lO W own f,{V with cv:=.slice (some ⟨gt,0,none⟩) (x.cls.length+1) cap,bC:=fun j=>if j=x.cls.length then n else V.bC j,mv:=fun j=>if j=x.cls.length then eU else V.mv j,hv:=fun j=>if j=x.cls.length then eU else V.hv j,bv:=fun j=>if j=x.cls.length then eU else V.bv j},?_,hc.mono (fun q _ hq=>by omega),fun q hq=>?_⟩
 ·exact{
   blk:=hyb2
   yo:=hold (by decide) h.yo
   net:=dF h.net fun q hq=>by have:=h.nvo q hq;exact hblk q (by omega) (by omega) (by omega)
   tr:=dF h.tr fun q hq=>by have:=h.tvo q hq;exact hblk q (by omega) (by omega) (by omega)
   rav:=dF h.rav fun q hq=>by have:=h.avo q hq;exact hblk q (by omega) (by omega) (by omega)
   rcv:=by
    show W3.ownsRow 0 _ 1 (.slice (some ⟨gt,0,none⟩) (x.cls.length+1) cap) (x.cls++[a]).length (nD (fun j=>if j=x.cls.length then n else V.bC j) (x.cls++[a]).length);rw[aD,aK,vW];exact hrow
   nvo:=fun q hq=>hold (by decide) (h.nvo q hq)
   tvo:=fun q hq=>hold (by decide) (h.tvo q hq)
   avo:=fun q hq=>hold (by decide) (h.avo q hq)
   cvo:=fun q hq=>hgw q (by simpa[Value.ownBlock]using hq)
   acs:=fun j hj=>by have:=h.aco j hj;exact(hblk (V.bA j) (by omega) (by omega) (by omega)).trans (h.acs j hj)
   aco:=fun j hj=>hold (by omega) (h.aco j hj)
   cls:=fun j hj=>by
    have hj1:j<x.cls.length+1:=by simpa using hj
    by_cases hji:j=x.cls.length
    ·subst hji;simp only[if_true,List.getElem_concat_length];exact⟨hnb,by rw[hm];exact aZ _ _ _ _,by rw[hh];exact aZ _ _ _ _,by rw[hbk];exact aZ _ _ _ _⟩
    ·have hj':j<x.cls.length:=by omega
     simp only[if_neg hji,cD hj'];have q1:=h.clo j hj';exact(h.cls j hj').of_heap (hblk (V.bC j) (by omega) (by omega) (by omega)) (fun q hq=>by have:=h.mo j hj' q hq;exact hblk q (by omega) (by omega) (by omega)) (fun q hq=>by have:=h.ho j hj' q hq;exact hblk q (by omega) (by omega) (by omega)) (fun q hq=>by have:=h.bo j hj' q hq;exact hblk q (by omega) (by omega) (by omega))
   clo:=fun j hj=>by
    have hj1:j<x.cls.length+1:=by simpa using hj
    by_cases hji:j=x.cls.length
    ·subst hji;simp only[if_true];exact hnew
    ·simp only[if_neg hji];exact hold (by omega) (h.clo j (by omega))
   mo:=fun j hj q hq=>by
    have hj1:j<x.cls.length+1:=by simpa using hj
    by_cases hji:j=x.cls.length
    ·subst hji;simp only[if_true]at hq;cases hq
    ·simp only[if_neg hji]at hq;exact hold (by omega) (h.mo j (by omega) q hq)
   ho:=fun j hj q hq=>by
    have hj1:j<x.cls.length+1:=by simpa using hj
    by_cases hji:j=x.cls.length
    ·subst hji;simp only[if_true]at hq;cases hq
    ·simp only[if_neg hji]at hq;exact hold (by omega) (h.ho j (by omega) q hq)
   bo:=fun j hj q hq=>by
    have hj1:j<x.cls.length+1:=by simpa using hj
    by_cases hji:j=x.cls.length
    ·subst hji;simp only[if_true]at hq;cases hq
    ·simp only[if_neg hji]at hq;exact hold (by omega) (h.bo j (by omega) q hq)
   lt:=fun q hq=>by
    rcases Nat.lt_or_ge q W.heap.size with h'|h'
    ·omega
    ·rw[gK h']at hq;simp only[f]at hq;split at hq
     ·omega
     ·split at hq
      ·omega
      ·exact absurd rfl hq}
 ·rcases Nat.lt_or_ge q W.heap.size with h'|h'
  ·rw[oX h']at hq;exact Or.inl hq
  ·exact Or.inr h'
end
theorem aHa{W:World}{y:Nat}{f:Cf}(h:W.heap[y]?=some (.cells (rmL f eU eU eU eU).toArray 173 (0,0))):
 RmAt W (fun q=>if q=y then 1 else 0) y ⟨f,[],[],[],[]⟩ ⟨eU,eU,eU,eU,fun _=>0,fun _=>0,fun _=>eU,fun _=>eU,fun _=>eU⟩ where
 blk:=h
 yo:=if_pos rfl
 net:=aZ _ _ _ _
 tr:=aZ _ _ _ _
 rav:=aZ _ _ _ _
 rcv:=aZ _ _ _ _
 nvo:=fun k hk=>by cases hk
 tvo:=fun k hk=>by cases hk
 avo:=fun k hk=>by cases hk
 cvo:=fun k hk=>by cases hk
 acs:=fun i hi=>absurd hi (Nat.not_lt_zero _)
 aco:=fun i hi=>absurd hi (Nat.not_lt_zero _)
 cls:=fun i hi=>absurd hi (Nat.not_lt_zero _)
 clo:=fun i hi=>absurd hi (Nat.not_lt_zero _)
 mo:=fun i hi=>absurd hi (Nat.not_lt_zero _)
 ho:=fun i hi=>absurd hi (Nat.not_lt_zero _)
 bo:=fun i hi=>absurd hi (Nat.not_lt_zero _)
 lt:=fun k hk=>by
  by_cases e:k=y
  ·subst e;exact dG h
  ·simp[e]at hk
end Go.Proofs.YtbbdgokdfhdpiaaGreatDoor
