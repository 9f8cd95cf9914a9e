/- A part. -/
import Derived.Test.YtbbdgokdfhdpiaaGreatDoorA10
namespace Go.Proofs.YtbbdgokdfhdpiaaGreatDoor
set_option linter.all false
set_option maxRecDepth 100000
set_option maxHeartbeats 0
open Go.Proofs.Tryz Go.RowKit
abbrev iE(l:List Int):List Value:=l.map fun x=>.int .i64 x
theorem vK{W:World}{v:Value}{l:List Int}(h:W.ownsRow 0 3 1 v l.length (iE l)):∃(p:Option Addr) (cap:Nat),v= .slice p l.length cap∧(l.length:Int)≤cap∧∀(m:Nat) (hm:m<l.length),∃g,p=some ⟨g,0,none⟩∧W.cell? ⟨g,m,none⟩=some (.int .i64 l[m]):=by
 rcases h.2 with⟨rfl,e⟩|⟨g,cap,a,rfl,_,f,d,_,i,b⟩
 ·refine⟨none,0,by rw[e],by omega,fun m hm=>by omega⟩
 ·refine⟨some ⟨g,0,none⟩,cap,rfl,by omega,fun m hm=>⟨g,rfl,?_⟩⟩;rw[cell_of_row W g m _ _ _ f];have c:(a.toList.take (l.length*1))[m]?=some (.int .i64 l[m]):=by rw[b];simp[hm]
  rw[List.getElem?_take_of_lt (by omega)]at c;simpa using c
theorem aCf(l:List Int)(k:Nat)(hk:k<l.length)(x:Int):(l.take (k+1)).contains x=((l.take k).contains x||x==l[k]):=by
 have e:l.take (k+1)=l.take k++[l[k]]:=by rw[List.take_add_one,aP hk];rfl
 rw[e,Bool.eq_iff_iff];simp only[List.contains_iff_mem,aO,List.mem_singleton,Bool.or_eq_true,beq_iff_eq]
theorem aEW(l:List Int)(k:Nat)(hk:k<l.length)(f:Int→Bool):(l.take (k+1)).any f=((l.take k).any f||f l[k]):=by
 have e:l.take (k+1)=l.take k++[l[k]]:=by rw[List.take_add_one,aP hk];rfl
 rw[e,List.any_append];simp
section
variable (W:World) (v:Value) (l:List Int)
theorem aHV(x:Int)(h:W.ownsRow 0 3 1 v l.length (iE l))(hl:l.length≤1000000000000):
 Calls prog 245 #[v,.int .i64 x] W fun r W'=>(∃i:Int,r= .returned (.int .i64 i)∧decide (0≤i)=l.contains x)∧W'=W:=by
 obtain⟨p,u,rfl,e,f⟩:=vK h;clear h;obtain⟨N,m⟩:=aLz (l.length);rw[←m]at hl e⊢;have d:=cN m;clear m;go_enter func245,ntmps245;go_wp2_with fail;go_loopw [8] (fun i wr=>∃(k:Nat),k≤N∧i= .int .i64 k∧(l.take k).contains x=false∧wr=W) (fun i _=>N-(intOf i).toNat)
 case atStart=>exact⟨0,by omega,rfl,by simp,rfl⟩
 case round=>
  obtain⟨k,w,rfl,a,rfl⟩:=hrel;by_cases t:k<N
  ·have c:k<l.length:=by have:=d.out;omega
   obtain⟨g,rfl,y⟩:=f k c;by_cases b:x=l[k]
   ·have s:(x==l[k])=true:=by simp[b]
    have n:=cN b;clear b f;go_wp2_with fail;go_ret;refine⟨⟨k,rfl,?_⟩,rfl⟩;have:l.contains x=true:=by rw[n.out];simp
    rw[this];simp
   ·have s:(x==l[k])=false:=by simp[b]
    have n:Hid (¬x=l[k]):=b;have j:=cN a;clear b f a;go_wp2_with fail;go_roundw
    case measure=>simp[intOf];omega
    case rel=>
     refine⟨k+1,by omega,by go_num,?_,by first|rfl|trivial⟩;rw[aCf l k c,j.out];simpa using n.out
  ·have o:k=N:=by omega
   subst o;have j:=cN a;clear a f;go_wp2_with fail;go_ret;refine⟨⟨-1,rfl,?_⟩,rfl⟩;have q:=j.out;rw[aY (by have:=d.out;omega)]at q;rw[q];rfl
theorem aDx(x:Int)(h:W.ownsRow 0 3 1 v l.length (iE l))(hl:l.length≤1000000000000):
 Calls prog 242 #[v,.int .i64 x] W fun r W'=>r= .returned (.bool (l.contains x))∧W'=W:=by
 have a:Hid (Calls prog 245 #[v,.int .i64 x] W fun r W'=>(∃i:Int,r= .returned (.int .i64 i)∧decide (0≤i)=l.contains x)∧W'=W):=aHV W v l x h hl;clear h;generalize l.contains x=q at a⊢;go_enter func242,ntmps242;go_wp2_with (go_at_call 245;refine a.out.mono ?_;rintro r c ⟨⟨i,rfl,b⟩,rfl⟩);go_ret;exact⟨by rw[←b];rfl,rfl⟩
theorem aBZ(b:Nat)(f:Int→Bool)(hf:∀y,Calls prog 244 #[.int .i64 y,.pointer (some ⟨b,0,none⟩)] W fun r W'=>r= .returned (.bool (f y))∧W'=W)(h:W.ownsRow 0 3 1 v l.length (iE l))(hl:l.length≤1000000000000):
 Calls prog 246 #[v,.func (.func 244) #[] #[.pointer (some ⟨b,0,none⟩)]] W fun r W'=>(∃i:Int,r= .returned (.int .i64 i)∧decide (0≤i)=l.any f)∧W'=W:=by
 obtain⟨p,B,rfl,m,n⟩:=vK h;clear h;obtain⟨N,s⟩:=aLz (l.length);rw[←s]at hl m⊢;have j:=cN s;clear s;have w:=cN hf;clear hf;go_enter func246,ntmps246;go_wp2_with fail;go_loopw [8] (fun i wr=>∃(k:Nat),k≤N∧i= .int .i64 k∧(l.take k).any f=false∧wr=W) (fun i _=>N-(intOf i).toNat)
 case atStart=>exact⟨0,by omega,rfl,by simp,rfl⟩
 case round=>
  obtain⟨k,C,rfl,a,rfl⟩:=hrel;by_cases A:k<N
  ·have c:k<l.length:=by have:=j.out;omega
   obtain⟨g,rfl,D⟩:=n k c;cases hx:f l[k]
   ·have q:Hid (Calls prog 244 #[.int .i64 l[k],.pointer (some ⟨b,0,none⟩)] wr fun r W'=>r= .returned (.bool false)∧W'=wr):=hx▸w.out l[k];have t:=cN hx;have o:=cN a;clear hx n a;go_wp2_with (first|refine q.out.mono ?_;rintro r z ⟨rfl,e⟩;have d:=e.symm;subst d;clear e);go_roundw
    case measure=>simp[intOf];omega
    case rel=>
     refine⟨k+1,by omega,by go_num,?_,by first|rfl|trivial⟩;rw[aEW l k c,o.out,t.out]
     rfl
   ·have q:Hid (Calls prog 244 #[.int .i64 l[k],.pointer (some ⟨b,0,none⟩)] wr fun r W'=>r= .returned (.bool true)∧W'=wr):=hx▸w.out l[k];have t:=cN hx;clear hx n a;go_wp2_with (first|refine q.out.mono ?_;rintro r z ⟨rfl,e⟩;have d:=e.symm;subst d;clear e);go_ret;refine⟨⟨k,rfl,?_⟩,rfl⟩;have:l.any f=true:=by rw[List.any_eq_true];exact⟨l[k],bF c,t.out⟩
    rw[this];simp
  ·have u:k=N:=by omega
   subst u;have o:=cN a;clear a n;go_wp2_with fail;go_ret;refine⟨⟨-1,rfl,?_⟩,rfl⟩;have x:=o.out;rw[aY (by have:=j.out;omega)]at x;rw[x];rfl
theorem zH(b:Nat)(f:Int→Bool)(hf:∀y,Calls prog 244 #[.int .i64 y,.pointer (some ⟨b,0,none⟩)] W fun r W'=>r= .returned (.bool (f y))∧W'=W)(h:W.ownsRow 0 3 1 v l.length (iE l))(hl:l.length≤1000000000000):
 Calls prog 243 #[v,.func (.func 244) #[] #[.pointer (some ⟨b,0,none⟩)]] W fun r W'=>r= .returned (.bool (l.any f))∧W'=W:=by
 have a:Hid (Calls prog 246 #[v,.func (.func 244) #[] #[.pointer (some ⟨b,0,none⟩)]] W fun r W'=>(∃i:Int,r= .returned (.int .i64 i)∧decide (0≤i)=l.any f)∧W'=W):=aBZ W v l b f hf h hl;clear h hf;generalize l.any f=q at a⊢;go_enter func243,ntmps243;go_wp2_with (go_at_call 246;refine a.out.mono ?_;rintro r d ⟨⟨i,rfl,c⟩,rfl⟩);go_ret;exact⟨by rw[←c];rfl,rfl⟩
end
theorem aBt(W:World)(F:Nat→Prop)(ob:Nat)(an mv:Value)(o:On)(x:Int)(h:OnAt W F ob an mv o)(hl:o.mine.length≤1000000000000):
 Calls prog 236 #[.pointer (some ⟨ob,0,none⟩),.int .i64 x] W fun r W'=>r= .returned (.bool (tP o x))∧W'=W:=by
 have a:Hid (Calls prog 242 #[mv,.int .i64 x] W fun r W'=>r= .returned (.bool (tP o x))∧W'=W):=aDx W mv o.mine x h.2.2.2.1 hl;have b:=cO h.1 17 _ rfl;clear h;go_enter func236,ntmps236;go_wp2_with (go_at_call 242;refine a.out.mono ?_;rintro r c ⟨rfl,rfl⟩);go_ret;exact⟨rfl,rfl⟩
theorem aHb(W:World)(b:Nat)(t y:Int)(h:W.cell? ⟨b,0,none⟩=some (.int .i64 t)):
 Calls prog 244 #[.int .i64 y,.pointer (some ⟨b,0,none⟩)] W fun r W'=>r= .returned (.bool (decide (y<t)))∧W'=W:=by
 go_enter func244,ntmps244;go_wp2_with fail;go_ret;exact⟨rfl,rfl⟩
theorem aAu(W:World)(F:Nat→Prop)(ob:Nat)(an mv:Value)(o:On)(x:Int)(h:OnAt W F ob an mv o)(hl:o.mine.length≤1000000000000):
 Calls prog 237 #[.pointer (some ⟨ob,0,none⟩),.int .i64 x] W fun r W'=>r= .returned (.bool (sO o x))∧Chg NoS W W':=by
 have a:=aA W (.cells #[.int .i64 x] 3);have b:Hid (Calls prog 243 #[mv,.func (.func 244) #[] #[.pointer (some ⟨W.heap.size,0,none⟩)]] (W.alloc (.cells #[.int .i64 x] 3)) fun r W'=>r= .returned (.bool (sO o x))∧W'=W.alloc (.cells #[.int .i64 x] 3)):=
  zH _ mv o.mine W.heap.size (fun y=>decide (y<x)) (fun y=>aHb _ _ x y (cO a 0 _ rfl)) (h.2.2.2.1.alloc _) hl
 have c:=cO (dM (.cells #[.int .i64 x] 3) h.1) 17 _ rfl;clear h;go_enter func237,ntmps237;go_wp2_with (go_at_call 243;refine b.out.mono ?_;rintro r d ⟨rfl,rfl⟩);go_ret;exact⟨rfl,(Chg.refl _ _).alloc _⟩
abbrev aCQ(w:Rwt):List Value:=[.bool w.on,.int .i64 w.val.own,.int .i64 w.val.tok,.int .i64 w.val.ttl,.int .i64 w.val.seq,.int .i64 w.at_]
abbrev aLk(w:Rwt):Value:=.agg #[.bool w.on,.int .i64 w.val.own,.int .i64 w.val.tok,.int .i64 w.val.ttl,.int .i64 w.val.seq,.int .i64 w.at_]
abbrev fEv(res own tok:Int):Ev:={zEv with res:=res,own:=own,tok:=tok}
abbrev rcL(c:Rc)(mv hv bv:Value):List Value:=[.int .i64 c.id,.int .i64 c.inc,.bool c.up,.int .i64 c.clock,.int .i64 c.round,
 .int .i64 (c.tok 0),.int .i64 (c.tok 1),.int .i64 (c.tok 2),.int .i64 (c.tok 3),.int .i64 (c.til 0),.int .i64 (c.til 1),.int .i64 (c.til 2),.int .i64 (c.til 3),
 .bool (c.wat 0).on,.int .i64 (c.wat 0).val.own,.int .i64 (c.wat 0).val.tok,.int .i64 (c.wat 0).val.ttl,.int .i64 (c.wat 0).val.seq,.int .i64 (c.wat 0).at_,
 .bool (c.wat 1).on,.int .i64 (c.wat 1).val.own,.int .i64 (c.wat 1).val.tok,.int .i64 (c.wat 1).val.ttl,.int .i64 (c.wat 1).val.seq,.int .i64 (c.wat 1).at_,
 .bool (c.wat 2).on,.int .i64 (c.wat 2).val.own,.int .i64 (c.wat 2).val.tok,.int .i64 (c.wat 2).val.ttl,.int .i64 (c.wat 2).val.seq,.int .i64 (c.wat 2).at_,
 .bool (c.wat 3).on,.int .i64 (c.wat 3).val.own,.int .i64 (c.wat 3).val.tok,.int .i64 (c.wat 3).val.ttl,.int .i64 (c.wat 3).val.seq,.int .i64 (c.wat 3).at_,
 .bool c.busy,.int .i64 c.kind,.int .i64 c.lock,.int .i64 c.ttl,.int .i64 c.began,.int .i64 c.tries,mv,.int .i64 c.bal,.int .i64 c.at_,hv,.bool c.asked,
 .int .i64 c.next.own,.int .i64 c.next.tok,.int .i64 c.next.ttl,.int .i64 c.next.seq,
 .int .i64 0,.int .i64 0,.int .i64 0,.int .i64 0,.int .i64 0,.int .i64 0,.int .i64 0,.int .i64 0,.int .i64 0,.int .i64 0,.int .i64 0,.int .i64 0,.int .i64 0,.int .i64 0,.int .i64 0,.int .i64 c.fres,.int .i64 c.fown,.int .i64 c.ftok,.int .i64 0,bv]
abbrev rmL(f:Cf)(av cv nv tv:Value):List Value:=[.int .i64 f.f,.int .i64 f.clients,.int .i64 f.patience,.int .i64 f.tries,.int .i64 f.drift,.int .i64 f.compact,.int .i64 f.room,av,cv,nv,tv]
abbrev raL(f:Cf)(a:Ra):List Value:=[.int .i64 f.f,.int .i64 f.clients,.int .i64 f.patience,.int .i64 f.tries,.int .i64 f.drift,.int .i64 f.compact,.int .i64 f.room,.string (strOfNums a.log),.bool a.up,.bool a.silent,.int .i64 a.left,.int .i64 a.keep]
abbrev rJ(b:Nat):Value:=.pointer (some ⟨b,0,none⟩)
abbrev nD(f:Nat→Nat)(n:Nat):List Value:=(List.range n).map fun i=>rJ (f i)
structure RcAt(W:World)(b:Nat)(c:Rc)(mv hv bv:Value):Prop where
 blk:W.heap[b]?=some (.cells (rcL c mv hv bv).toArray 182 (0,0))
 mine:W.ownsRow 0 3 1 mv c.mine.length (iE c.mine)
 heard:W.ownsRow 0 66 10 hv c.heard.length (cZ mgL c.heard)
 back:W.ownsRow 0 3 1 bv c.back.length (iE c.back)
structure RmV where
 av:Value
 cv:Value
 nv:Value
 tv:Value
 bA:Nat→Nat
 bC:Nat→Nat
 mv:Nat→Value
 hv:Nat→Value
 bv:Nat→Value
structure RmAt(W:World)(own:Nat→Nat)(y:Nat)(x:Rm)(V:RmV):Prop where
 blk:W.heap[y]?=some (.cells (rmL x.cf V.av V.cv V.nv V.tv).toArray 173 (0,0))
 yo:own y=1
 net:W.ownsRow 0 66 10 V.nv x.net.length (cZ mgL x.net)
 tr:W.ownsRow 0 70 19 V.tv x.tr.length (cZ evL x.tr)
 rav:W.ownsRow 0 174 1 V.av x.acs.length (nD V.bA x.acs.length)
 rcv:W.ownsRow 0 177 1 V.cv x.cls.length (nD V.bC x.cls.length)
 nvo:∀k,V.nv.ownBlock=some k→own k=2
 tvo:∀k,V.tv.ownBlock=some k→own k=3
 avo:∀k,V.av.ownBlock=some k→own k=4
 cvo:∀k,V.cv.ownBlock=some k→own k=5
 acs:∀i (h:i<x.acs.length),W.heap[V.bA i]?=some (.cells (raL x.cf x.acs[i]).toArray 176 (0,0))
 aco:∀i,i<x.acs.length→own (V.bA i)=6+5*i
 cls:∀i (h:i<x.cls.length),RcAt W (V.bC i) x.cls[i] (V.mv i) (V.hv i) (V.bv i)
 clo:∀i,i<x.cls.length→own (V.bC i)=7+5*i
 mo:∀i,i<x.cls.length→∀k,(V.mv i).ownBlock=some k→own k=8+5*i
 ho:∀i,i<x.cls.length→∀k,(V.hv i).ownBlock=some k→own k=9+5*i
 bo:∀i,i<x.cls.length→∀k,(V.bv i).ownBlock=some k→own k=10+5*i
 lt:∀k,own k≠0→k<W.heap.size
def RmTo(W:World)(own:Nat→Nat)(y:Nat)(V:RmV)(x:Rm)(W':World):Prop:=
 ∃own' V',RmAt W' own' y x V'∧V'.bA=V.bA∧V'.bC=V.bC∧Chg (fun k=>own k≠0) W W'∧∀k,own' k≠0→own k≠0∨W.heap.size≤k
def RmGo(W:World)(own:Nat→Nat)(y:Nat)(x:Rm)(W':World):Prop:=
 ∃own' V',RmAt W' own' y x V'∧Chg (fun k=>own k≠0) W W'∧∀k,own' k≠0→own k≠0∨W.heap.size≤k
theorem RcAt.of_heap{W W':World}{b:Nat}{c:Rc}{mv hv bv:Value}(h:RcAt W b c mv hv bv)(hb:W'.heap[b]?=W.heap[b]?)(hm:∀k,mv.ownBlock=some k→W'.heap[k]?=W.heap[k]?)(hh:∀k,hv.ownBlock=some k→W'.heap[k]?=W.heap[k]?)(hk:∀k,bv.ownBlock=some k→W'.heap[k]?=W.heap[k]?):RcAt W' b c mv hv bv:=
 ⟨hb.trans h.blk,dF h.mine hm,dF h.heard hh,dF h.back hk⟩
section
variable {W W':World}{own:Nat→Nat}{y:Nat}{x:Rm}{V:RmV}
theorem RmAt.of_heap(h:RmAt W own y x V)(hs:W.heap.size≤W'.heap.size)(hb:∀k,own k≠0→W'.heap[k]?=W.heap[k]?):RmAt W' own y x V where
 blk:=(hb y (by rw[h.yo];decide)).trans h.blk
 yo:=h.yo
 net:=dF h.net fun k hk=>hb k (by rw[h.nvo k hk];decide)
 tr:=dF h.tr fun k hk=>hb k (by rw[h.tvo k hk];decide)
 rav:=dF h.rav fun k hk=>hb k (by rw[h.avo k hk];decide)
 rcv:=dF h.rcv fun k hk=>hb k (by rw[h.cvo k hk];decide)
 nvo:=h.nvo
 tvo:=h.tvo
 avo:=h.avo
 cvo:=h.cvo
 acs:=fun i hi=>(hb _ (by rw[h.aco i hi];omega)).trans (h.acs i hi)
 aco:=h.aco
 cls:=fun i hi=>(h.cls i hi).of_heap (hb _ (by rw[h.clo i hi];omega)) (fun k hk=>hb k (by rw[h.mo i hi k hk];omega)) (fun k hk=>hb k (by rw[h.ho i hi k hk];omega)) (fun k hk=>hb k (by rw[h.bo i hi k hk];omega))
 clo:=h.clo
 mo:=h.mo
 ho:=h.ho
 bo:=h.bo
 lt:=fun k hk=>aG (h.lt k hk) hs
theorem RmAt.kept{S:Nat→Prop}(h:RmAt W own y x V)(hc:Chg S W W')(hn:∀k,own k≠0→¬S k):RmAt W' own y x V:=
 h.of_heap hc.size fun k hk=>hc.block k (h.lt k hk) (hn k hk)
theorem RmAt.drew(h:RmAt W own y x V):RmAt W.drew own y x V:=h.kept (S:=NoS) (Chg.refl _ _).drew (fun _ _ h=>h)
theorem RmAt.alloc(h:RmAt W own y x V)(o:Obj):RmAt (W.alloc o) own y x V:=h.kept (S:=NoS) ((Chg.refl _ _).alloc _) (fun _ _ h=>h)
theorem RmTo.of(h:RmAt W own y x V):RmTo W own y V x W:=⟨own,V,h,rfl,rfl,Chg.refl _ _,fun _ h=>Or.inl h⟩
theorem RmTo.kept{S:Nat→Prop}(h:RmAt W own y x V)(hc:Chg S W W')(hn:∀k,k<W.heap.size→¬S k):RmTo W own y V x W':=⟨own,V,h.kept hc (fun k hk=>hn k (h.lt k hk)),rfl,rfl,hc.mono (fun k hk hs=>(hn k hk hs).elim),fun _ h=>Or.inl h⟩
theorem RmTo.trans{A B C:World}{own1:Nat→Nat}{V1:RmV}(hA:V1.bA=V.bA)(hC:V1.bC=V.bC)(hc:Chg (fun k=>own k≠0) A B)(hf:∀k,own1 k≠0→own k≠0∨A.heap.size≤k)(h:RmTo B own1 y V1 x C):RmTo A own y V x C:=by
 obtain⟨a,b,e,c,g,d,f⟩:=h;refine⟨a,b,e,c.trans hA,g.trans hC,hc.trans d (fun k hk h'=>?_),fun k hk=>?_⟩
 ·rcases hf k h' with h|h
  ·exact h
  ·omega
 ·rcases f k hk with h|h
  ·exact hf k h
  ·right;have:=hc.size;omega
theorem RmTo.behind{A B C:World}{S:Nat→Prop}(hc:Chg S A B)(hS:∀k,k<A.heap.size→S k→own k≠0)(h:RmTo B own y V x C):RmTo A own y V x C:=
 h.trans rfl rfl (hc.mono hS) (fun _ h=>Or.inl h)
theorem RmTo.drew(h:RmTo W.drew own y V x W'):RmTo W own y V x W':=RmTo.behind (S:=NoS) (Chg.refl _ _).drew (fun _ _ h=>h.elim) h
theorem RmTo.alloc{o:Obj}(h:RmTo (W.alloc o) own y V x W'):RmTo W own y V x W':=RmTo.behind (S:=NoS) ((Chg.refl _ _).alloc _) (fun _ _ h=>h.elim) h
theorem RmTo.after{C:World}{S:Nat→Prop}(h:RmTo W own y V x W')(hc:Chg S W' C)(hS:∀k,k<W'.heap.size→¬S k):RmTo W own y V x C:=by
 obtain⟨a,g,d,b,f,c,e⟩:=h;exact RmTo.trans b f c e (RmTo.kept d hc hS)
theorem RmTo.go(h:RmTo W own y V x W'):RmGo W own y x W':=by
 obtain⟨a,b,d,_,_,c,e⟩:=h;exact⟨a,b,d,c,e⟩
theorem RmGo.of(h:RmAt W own y x V):RmGo W own y x W:=(RmTo.of h).go
theorem RmGo.trans{A B C:World}{own1:Nat→Nat}(hc:Chg (fun k=>own k≠0) A B)(hf:∀k,own1 k≠0→own k≠0∨A.heap.size≤k)(h:RmGo B own1 y x C):RmGo A own y x C:=by
 obtain⟨a,b,d,c,e⟩:=h;refine⟨a,b,d,hc.trans c (fun k hk h'=>?_),fun k hk=>?_⟩
 ·rcases hf k h' with h|h
  ·exact h
  ·omega
 ·rcases e k hk with h|h
  ·exact hf k h
  ·right;have:=hc.size;omega
theorem RmGo.behind{A B C:World}{S:Nat→Prop}(hc:Chg S A B)(hS:∀k,k<A.heap.size→S k→own k≠0)(h:RmGo B own y x C):RmGo A own y x C:=
 RmGo.trans (hc.mono hS) (fun _ h=>Or.inl h) h
def lO(W:World)(own f:Nat→Nat):Nat→Nat:=fun k=>if k<W.heap.size then own k else f k
section
variable {f:Nat→Nat}
theorem oX{k:Nat}(h:k<W.heap.size):lO W own f k=own k:=if_pos h
theorem gK{k:Nat}(h:W.heap.size≤k):lO W own f k=f k:=if_neg (by omega)
theorem uO(hlt:∀k,own k≠0→k<W.heap.size){k p:Nat}(hp:p≠0)(h:own k=p):lO W own f k=p:=by
 rw[oX (hlt k (by omega))];exact h
end
theorem RmAt.client(h:RmAt W own y x V){i:Nat}(hi:i<x.cls.length){c':Rc}{mv' hv' bv':Value}(hc:Chg (fun k=>own k=7+5*i∨own k=8+5*i∨own k=9+5*i∨own k=10+5*i) W W')
 (hr:RcAt W' (V.bC i) c' mv' hv' bv') (hm:∀k,mv'.ownBlock=some k→own k=8+5*i∨W.heap.size≤k) (hh:∀k,hv'.ownBlock=some k→own k=9+5*i∨W.heap.size≤k) (hb:∀k,bv'.ownBlock=some k→own k=10+5*i∨W.heap.size≤k)
 (hd:∀k,mv'.ownBlock=some k→bv'.ownBlock=some k→k<W.heap.size):
 RmTo W own y V {x with cls:=x.cls.set i c'} W':=by
 have hsz:=hc.size;have hml:=fun k hk=>eY hr.mine k hk;have hhl:=fun k hk=>eY hr.heard k hk;have hbl:=fun k hk=>eY hr.back k hk
 let f:Nat→Nat:=fun k=>if mv'.ownBlock=some k then 8+5*i else if hv'.ownBlock=some k then 9+5*i else if bv'.ownBlock=some k then 10+5*i else 0
 have hold:∀{k p:Nat},p≠0→own k=p→lO W own f k=p:=fun hp h'=>uO h.lt hp h';have hblk:∀k,own k≠0→own k≠7+5*i→own k≠8+5*i→own k≠9+5*i→own k≠10+5*i→W'.heap[k]?=W.heap[k]?:=fun k h0 h1 h2 h3 h4=>hc.block k (h.lt k h0) (fun hs=>by omega);have hmh:∀k,mv'.ownBlock=some k→hv'.ownBlock≠some k:=fun k=>nS hr.mine hr.heard (by decide) k;have hbh:∀k,bv'.ownBlock=some k→hv'.ownBlock≠some k:=fun k=>nS hr.back hr.heard (by decide) k;have e1:∀k,mv'.ownBlock=some k→lO W own f k=8+5*i:=fun k hk=>by
  rcases hm k hk with h'|h'
  ·exact hold (by omega) h'
  ·rw[gK h'];simp only[f];rw[if_pos hk]
 have e2:∀k,hv'.ownBlock=some k→lO W own f k=9+5*i:=fun k hk=>by
  rcases hh k hk with h'|h'
  ·exact hold (by omega) h'
  ·rw[gK h'];simp only[f];rw[if_neg (fun e=>hmh k e hk),if_pos hk]
 have e3:∀k,bv'.ownBlock=some k→lO W own f k=10+5*i:=fun k hk=>by
  rcases hb k hk with h'|h'
  ·exact hold (by omega) h'
  ·rw[gK h'];simp only[f];rw[if_neg (fun e=>by have:=hd k e hk;omega),if_neg (hbh k hk),if_pos hk]
 refine⟨lO W own f,{V with mv:=fun j=>if j=i then mv' else V.mv j,hv:=fun j=>if j=i then hv' else V.hv j,bv:=fun j=>if j=i then bv' else V.bv j},?_,rfl,rfl,hc.mono (fun k _ hk=>by omega),fun k hk=>?_⟩
 ·exact{
   blk:=(hblk y (by rw[h.yo];decide) (by rw[h.yo];omega) (by rw[h.yo];omega) (by rw[h.yo];omega) (by rw[h.yo];omega)).trans h.blk
   yo:=hold (by decide) h.yo
   net:=dF h.net fun k hk=>by have:=h.nvo k hk;exact hblk k (by omega) (by omega) (by omega) (by omega) (by omega)
   tr:=dF h.tr fun k hk=>by have:=h.tvo k hk;exact hblk k (by omega) (by omega) (by omega) (by omega) (by omega)
   rav:=dF h.rav fun k hk=>by have:=h.avo k hk;exact hblk k (by omega) (by omega) (by omega) (by omega) (by omega)
   rcv:=by
    have:=dF (w':=W') h.rcv fun k hk=>by have:=h.cvo k hk;exact hblk k (by omega) (by omega) (by omega) (by omega) (by omega)
    simpa using this
   nvo:=fun k hk=>hold (by decide) (h.nvo k hk)
   tvo:=fun k hk=>hold (by decide) (h.tvo k hk)
   avo:=fun k hk=>hold (by decide) (h.avo k hk)
   cvo:=fun k hk=>hold (by decide) (h.cvo k hk)
   acs:=fun j hj=>by have:=h.aco j hj;exact(hblk (V.bA j) (by omega) (by omega) (by omega) (by omega) (by omega)).trans (h.acs j hj)
   aco:=fun j hj=>hold (by omega) (h.aco j hj)
   cls:=fun j hj=>by
    have hj':j<x.cls.length:=by simpa using hj
    by_cases hji:j=i
    ·subst hji;simp only[bZ,if_true];exact hr
    ·simp only[List.getElem_set_ne (Ne.symm hji),if_neg hji];have q1:=h.clo j hj';exact(h.cls j hj').of_heap (hblk (V.bC j) (by omega) (by omega) (by omega) (by omega) (by omega)) (fun k hk=>by have:=h.mo j hj' k hk;exact hblk k (by omega) (by omega) (by omega) (by omega) (by omega)) (fun k hk=>by have:=h.ho j hj' k hk;exact hblk k (by omega) (by omega) (by omega) (by omega) (by omega)) (fun k hk=>by have:=h.bo j hj' k hk;exact hblk k (by omega) (by omega) (by omega) (by omega) (by omega))
   clo:=fun j hj=>hold (by omega) (h.clo j (by simpa using hj))
   mo:=fun j hj k hk=>by
    have hj':j<x.cls.length:=by simpa using hj
    by_cases hji:j=i
    ·subst hji;simp only[if_true]at hk;exact e1 k hk
    ·simp only[if_neg hji]at hk;exact hold (by omega) (h.mo j hj' k hk)
   ho:=fun j hj k hk=>by
    have hj':j<x.cls.length:=by simpa using hj
    by_cases hji:j=i
    ·subst hji;simp only[if_true]at hk;exact e2 k hk
    ·simp only[if_neg hji]at hk;exact hold (by omega) (h.ho j hj' k hk)
   bo:=fun j hj k hk=>by
    have hj':j<x.cls.length:=by simpa using hj
    by_cases hji:j=i
    ·subst hji;simp only[if_true]at hk;exact e3 k hk
    ·simp only[if_neg hji]at hk;exact hold (by omega) (h.bo j hj' k hk)
   lt:=fun k hk=>by
    rcases Nat.lt_or_ge k W.heap.size with h'|h'
    ·omega
    ·rw[gK h']at hk;simp only[f]at hk;split at hk
     ·exact hml k (by assumption)
     ·split at hk
      ·exact hhl k (by assumption)
      ·split at hk
       ·exact hbl k (by assumption)
       ·exact absurd rfl hk}
 ·rcases Nat.lt_or_ge k W.heap.size with h'|h'
  ·rw[oX h']at hk;exact Or.inl hk
  ·exact Or.inr h'
theorem RmAt.cells(h:RmAt W own y x V){i:Nat}(hi:i<x.cls.length)(c':Rc)(hc:Chg (fun k=>k=V.bC i) W W')
 (hb:W'.heap[V.bC i]?=some (.cells (rcL c' (V.mv i) (V.hv i) (V.bv i)).toArray 182 (0,0))) (h1:c'.mine=x.cls[i].mine) (h2:c'.heard=x.cls[i].heard) (h3:c'.back=x.cls[i].back):
 RmAt W' own y {x with cls:=x.cls.set i c'} V:=by
 have q:=h.clo i hi;have hblk:∀k,own k≠0→own k≠7+5*i→W'.heap[k]?=W.heap[k]?:=fun k h0 h1=>hc.block k (h.lt k h0) (fun hs=>by subst hs;omega);have q1:=h.cls i hi;exact{
  blk:=(hblk y (by rw[h.yo];decide) (by rw[h.yo];omega)).trans h.blk
  yo:=h.yo
  net:=dF h.net fun k hk=>by have:=h.nvo k hk;exact hblk k (by omega) (by omega)
  tr:=dF h.tr fun k hk=>by have:=h.tvo k hk;exact hblk k (by omega) (by omega)
  rav:=dF h.rav fun k hk=>by have:=h.avo k hk;exact hblk k (by omega) (by omega)
  rcv:=by
   have:=dF (w':=W') h.rcv fun k hk=>by have:=h.cvo k hk;exact hblk k (by omega) (by omega)
   simpa using this
  nvo:=h.nvo
  tvo:=h.tvo
  avo:=h.avo
  cvo:=h.cvo
  acs:=fun j hj=>by have:=h.aco j hj;exact(hblk (V.bA j) (by omega) (by omega)).trans (h.acs j hj)
  aco:=h.aco
  cls:=fun j hj=>by
   have hj':j<x.cls.length:=by simpa using hj
   by_cases hji:j=i
   ·subst hji;simp only[bZ];exact⟨hb,by rw[h1];exact dF q1.mine (fun k hk=>by have:=h.mo j hj' k hk;exact hblk k (by omega) (by omega)),by rw[h2];exact dF q1.heard (fun k hk=>by have:=h.ho j hj' k hk;exact hblk k (by omega) (by omega)),by rw[h3];exact dF q1.back (fun k hk=>by have:=h.bo j hj' k hk;exact hblk k (by omega) (by omega))⟩
   ·simp only[List.getElem_set_ne (Ne.symm hji)];have q1:=h.clo j hj';exact(h.cls j hj').of_heap (hblk (V.bC j) (by omega) (by omega)) (fun k hk=>by have:=h.mo j hj' k hk;exact hblk k (by omega) (by omega)) (fun k hk=>by have:=h.ho j hj' k hk;exact hblk k (by omega) (by omega)) (fun k hk=>by have:=h.bo j hj' k hk;exact hblk k (by omega) (by omega))
  clo:=fun j hj=>h.clo j (by simpa using hj)
  mo:=fun j hj=>h.mo j (by simpa using hj)
  ho:=fun j hj=>h.ho j (by simpa using hj)
  bo:=fun j hj=>h.bo j (by simpa using hj)
  lt:=fun k hk=>aG (h.lt k hk) hc.size}
theorem RmAt.acceptor(h:RmAt W own y x V){i:Nat}(hi:i<x.acs.length)(a':Ra)(hc:Chg (fun k=>k=V.bA i) W W')
 (hb:W'.heap[V.bA i]?=some (.cells (raL x.cf a').toArray 176 (0,0))):
 RmAt W' own y {x with acs:=x.acs.set i a'} V:=by
 have q:=h.aco i hi;have hblk:∀k,own k≠0→own k≠6+5*i→W'.heap[k]?=W.heap[k]?:=fun k h0 h1=>hc.block k (h.lt k h0) (fun hs=>by subst hs;omega);exact{
  blk:=(hblk y (by rw[h.yo];decide) (by rw[h.yo];omega)).trans h.blk
  yo:=h.yo
  net:=dF h.net fun k hk=>by have:=h.nvo k hk;exact hblk k (by omega) (by omega)
  tr:=dF h.tr fun k hk=>by have:=h.tvo k hk;exact hblk k (by omega) (by omega)
  rav:=by
   have:=dF (w':=W') h.rav fun k hk=>by have:=h.avo k hk;exact hblk k (by omega) (by omega)
   simpa using this
  rcv:=dF h.rcv fun k hk=>by have:=h.cvo k hk;exact hblk k (by omega) (by omega)
  nvo:=h.nvo
  tvo:=h.tvo
  avo:=h.avo
  cvo:=h.cvo
  acs:=fun j hj=>by
   have hj':j<x.acs.length:=by simpa using hj
   by_cases hji:j=i
   ·subst hji;simp only[bZ];exact hb
   ·simp only[List.getElem_set_ne (Ne.symm hji)];have:=h.aco j hj';exact(hblk _ (by omega) (by omega)).trans (h.acs j hj')
  aco:=fun j hj=>h.aco j (by simpa using hj)
  cls:=fun j hj=>by
   have q1:=h.clo j hj;exact(h.cls j hj).of_heap (hblk (V.bC j) (by omega) (by omega)) (fun k hk=>by have:=h.mo j hj k hk;exact hblk k (by omega) (by omega)) (fun k hk=>by have:=h.ho j hj k hk;exact hblk k (by omega) (by omega)) (fun k hk=>by have:=h.bo j hj k hk;exact hblk k (by omega) (by omega))
  clo:=h.clo
  mo:=h.mo
  ho:=h.ho
  bo:=h.bo
  lt:=fun k hk=>aG (h.lt k hk) hc.size}
theorem RmAt.nets(h:RmAt W own y x V){nv' tv':Value}{net':List Mg}{tr':List Ev}(hc:Chg (fun k=>own k=1∨own k=2∨own k=3) W W')
 (hb:W'.heap[y]?=some (.cells (rmL x.cf V.av V.cv nv' tv').toArray 173 (0,0)))
 (hn:W'.ownsRow 0 66 10 nv' net'.length (cZ mgL net')) (ht:W'.ownsRow 0 70 19 tv' tr'.length (cZ evL tr'))
 (hno:∀k,nv'.ownBlock=some k→own k=2∨W.heap.size≤k) (hto:∀k,tv'.ownBlock=some k→own k=3∨W.heap.size≤k):
 RmTo W own y V {x with net:=net',tr:=tr'} W':=by
 have hsz:=hc.size
 let f:Nat→Nat:=fun k=>if nv'.ownBlock=some k then 2 else if tv'.ownBlock=some k then 3 else 0
 have hold:∀{k p:Nat},p≠0→own k=p→lO W own f k=p:=fun hp h'=>uO h.lt hp h';have hblk:∀k,own k≠0→own k≠1→own k≠2→own k≠3→W'.heap[k]?=W.heap[k]?:=fun k h0 h1 h2 h3=>hc.block k (h.lt k h0) (fun hs=>by omega);have hnt:∀k,tv'.ownBlock=some k→nv'.ownBlock≠some k:=fun k=>nS ht hn (by decide) k;refine⟨lO W own f,{V with nv:=nv',tv:=tv'},?_,rfl,rfl,hc.mono (fun k _ hk=>by omega),fun k hk=>?_⟩
 ·exact{
   blk:=hb
   yo:=hold (by decide) h.yo
   net:=hn
   tr:=ht
   rav:=dF h.rav fun k hk=>by have:=h.avo k hk;exact hblk k (by omega) (by omega) (by omega) (by omega)
   rcv:=dF h.rcv fun k hk=>by have:=h.cvo k hk;exact hblk k (by omega) (by omega) (by omega) (by omega)
   nvo:=fun k hk=>by
    rcases hno k hk with h'|h'
    ·exact hold (by decide) h'
    ·rw[gK h'];simp only[f];rw[if_pos hk]
   tvo:=fun k hk=>by
    rcases hto k hk with h'|h'
    ·exact hold (by decide) h'
    ·rw[gK h'];simp only[f];rw[if_neg (hnt k hk),if_pos hk]
   avo:=fun k hk=>hold (by decide) (h.avo k hk)
   cvo:=fun k hk=>hold (by decide) (h.cvo k hk)
   acs:=fun j hj=>by have:=h.aco j hj;exact(hblk (V.bA j) (by omega) (by omega) (by omega) (by omega)).trans (h.acs j hj)
   aco:=fun j hj=>hold (by omega) (h.aco j hj)
   cls:=fun j hj=>by
    have q1:=h.clo j hj;exact(h.cls j hj).of_heap (hblk (V.bC j) (by omega) (by omega) (by omega) (by omega)) (fun k hk=>by have:=h.mo j hj k hk;exact hblk k (by omega) (by omega) (by omega) (by omega)) (fun k hk=>by have:=h.ho j hj k hk;exact hblk k (by omega) (by omega) (by omega) (by omega)) (fun k hk=>by have:=h.bo j hj k hk;exact hblk k (by omega) (by omega) (by omega) (by omega))
   clo:=fun j hj=>hold (by omega) (h.clo j hj)
   mo:=fun j hj k hk=>hold (by omega) (h.mo j hj k hk)
   ho:=fun j hj k hk=>hold (by omega) (h.ho j hj k hk)
   bo:=fun j hj k hk=>hold (by omega) (h.bo j hj k hk)
   lt:=fun k hk=>by
    rcases Nat.lt_or_ge k W.heap.size with h'|h'
    ·omega
    ·rw[gK h']at hk;simp only[f]at hk;split at hk
     ·exact eY hn k (by assumption)
     ·split at hk
      ·exact eY ht k (by assumption)
      ·exact absurd rfl hk}
 ·rcases Nat.lt_or_ge k W.heap.size with h'|h'
  ·rw[oX h']at hk;exact Or.inl hk
  ·exact Or.inr h'
theorem RmAt.cell(h:RmAt W own y x V)(j:Nat)(u:Value)(hj:(rmL x.cf V.av V.cv V.nv V.tv)[j]?=some u):W.cell? ⟨y,j,none⟩=some u:=cO h.blk j u (by simpa using hj)
theorem RcAt.cell{b:Nat}{c:Rc}{mv hv bv:Value}(h:RcAt W b c mv hv bv)(j:Nat)(u:Value)(hj:(rcL c mv hv bv)[j]?=some u):W.cell? ⟨b,j,none⟩=some u:=cO h.blk j u (by simpa using hj)
end
theorem lQ{p q:Prop}(h:p)(k:p→q):q:=k h
theorem bq{a b:Int}{t:Bool}(h:(a==b)=t):(a=b)=(t=true):=by subst h;simp
theorem bn{a b:Int}{t:Bool}(h:(a !=b)=t):(a=b)=(t=false):=by subst h;simp
structure Kt(W:World)(F:Nat→Prop)(b g:Nat)(f:Cf)(c:Ct)(o:On)(ch tk hd wt ob:Nat)(an mv:Value):Prop where
 cl:ClAt W F b g f c ch tk hd wt (.pointer (some ⟨ob,0,none⟩))
 doing:c.doing=some o
 on:OnAt W F ob an mv o
 ne:an≠.map (some tk)∧an≠.map (some hd)∧an≠.map (some wt)
theorem Kt.kept{W W':World}{F:Nat→Prop}{b g:Nat}{f:Cf}{c:Ct}{o:On}{ch tk hd wt ob:Nat}{an mv:Value}(h:Kt W F b g f c o ch tk hd wt ob an mv)(hc:Chg NoS W W'):Kt W' F b g f c o ch tk hd wt ob an mv:=
 ⟨h.cl.kept hc (fun _ _ h=>h),h.doing,h.on.of_heap (fun k hk=>hc.block k (h.cl.lt k hk) (fun h=>h)),h.ne⟩
theorem ClAt.kt{W:World}{F:Nat→Prop}{b g:Nat}{f:Cf}{c:Ct}{ch tk hd wt:Nat}{dv:Value}(h:ClAt W F b g f c ch tk hd wt dv){o:On}(hd':c.doing=some o):∃ob an mv,dv= .pointer (some ⟨ob,0,none⟩)∧Kt W F b g f c o ch tk hd wt ob an mv:=by
 have a:=h.doing;rw[hd']at a;obtain⟨ob,an,mv,rfl,d,e⟩:=a;exact⟨ob,an,mv,rfl,h,hd',d,e⟩
theorem aDV(W:World)(F:Nat→Prop)(b g:Nat)(f:Cf)(c:Ct)(o:On)(ch tk hd wt ob:Nat)(an mv:Value)(v:Vl)(h:Kt W F b g f c o ch tk hd wt ob an mv)(hn1:0≤c.num)(hn2:c.num≤1000):
 Calls prog 239 #[.pointer (some ⟨b,0,none⟩),vlV v] W fun r W'=>r= .returned (.bool (oM c o v))∧Chg NoS W W':=by
 generalize j:W.alloc (.cells #[.int .i64 v.own,.int .i64 v.tok,.int .i64 v.ttl,.int .i64 v.seq] 56)=W0;have l:=cN j;have a:Chg NoS W W0:=by rw[←j];exact(Chg.refl _ _).alloc _
 have k:W0.heap[W.heap.size]?=some (.cells (vlL v).toArray 56 (0,0)):=by rw[←j];exact aA W _
 have d:=h.kept a;have e:=cN a;have p:=d.cl.cell 13 _ rfl;have q:=d.cl.cell 16 _ rfl;have n:=d.cl.cell 7 _ rfl;have u:=cO d.on.1 1 _ rfl;have t:=cO k 0 _ rfl;have s:=cO k 1 _ rfl;have m:=MapI.get (W:=W0.drew) d.cl.maps.toks o.lock;have i:Hid (∀x,x=W0.drew.drew→Calls prog 217 #[.pointer (some ⟨b,0,none⟩)] x fun r W'=>r= .returned (.int .i64 (c.num+1))∧W'=x):=fun x hx=>by
  subst hx;exact qX W0.drew.drew b c.num n hn1 hn2
 clear h d a j k;unfold oM;go_enter func239,ntmps239;go_wp2_with (rw[l.out]);refine eD [0,0,0,1,0,0,0,1,0,0,0,1,1,0] (by kernel_rfl) (fun _ _ _ _=>rfl) ?_;simp only[dC,dB];iterate 14 (apply sB rfl rfl;·(intro x h;(try cases h rfl);go_simp;with_reducible rfl))
 refine cP ?_;try simp only[pA]
 go_wp2_with fail;cases h1:v.own==c.num+1<;>cases h3:v.tok==c.toks o.lock<;>cases h2:c.toks o.lock !=0;all_goals
  refine eD [0,1,0,1,0,0,0,0,0,0,0,1,0,0,0,0] (by kernel_rfl) (fun _ _ _ _=>rfl) ?_;simp only[dC,dB];iterate 3 (apply sB rfl rfl;·(intro x h;(try cases h rfl);go_simp;with_reducible rfl))
  try simp only[pA]
  refine eW (v:=.int .i64 (c.num+1)) (f:=217) (args:=#[.pointer (some ⟨b,0,none⟩)]) rfl (fun x hx=>by subst hx;go_simp;try rfl) (fun x hx=>i.out x hx) ?_;(try simp only[pA]);iterate 12 ((try simp only[pA]);first|(apply sB rfl rfl;·(intro x h;(try cases h rfl);go_simp;with_reducible rfl))|apply dN rfl|apply dL rfl)
  refine cP ?_;try simp only[pA]
  go_wp2_with fail;go_ret;exact⟨by clear l e i;simp_all,e.out.drew.drew⟩
theorem aKW(x:Int)(h:0≤x):x.tdiv 10=x / 10:=Int.tdiv_eq_ediv_of_nonneg h
theorem aAt(W:World)(F:Nat→Prop)(b g:Nat)(f:Cf)(c:Ct)(o:On)(ch tk hd wt ob:Nat)(an mv:Value)(v:Vl)(h:Kt W F b g f c o ch tk hd wt ob an mv)(hd1:0≤f.drift)(hd2:f.drift≤10)(ht1:0≤v.ttl)(ht2:v.ttl≤1000)(hw1:0≤(c.wat o.lock).since)(hw2:(c.wat o.lock).since≤100000000000):
 Calls prog 238 #[.pointer (some ⟨b,0,none⟩),vlV v] W fun r W'=>r= .returned (.bool (aAk f c o v))∧Chg NoS W W':=by
 generalize E:W.alloc (.cells #[.int .i64 v.own,.int .i64 v.tok,.int .i64 v.ttl,.int .i64 v.seq] 56)=W0;have HX:=cN E;have w:Chg NoS W W0:=by rw[←E];exact(Chg.refl _ _).alloc _
 have J:W0.heap.size=W.heap.size+1:=by rw[←E];simp
 have bv:W0.heap[W.heap.size]?=some (.cells (vlL v).toArray 56 (0,0)):=by rw[←E];exact aA W _
 have Y:=h.kept w;have U:=cN w;have D:=cN Y;have BV:=cN bv;have R:=cN J;clear h Y w E bv J;unfold aAk;go_enter func238,ntmps238;go_wp2_with (rw[HX.out]);refine rlx [0,0,0,1,0,0,0,1,0,0,0,1,1,2] (fun x=>x.cell? ⟨b,15,none⟩=some (.map (some wt))∧x.cell? ⟨b,16,none⟩=some (.pointer (some ⟨ob,0,none⟩))∧x.cell? ⟨ob,1,none⟩=some (.int .i64 o.lock)∧(Instr.lookup 147 (.map (some wt)) (iK o.lock) false).run prog x= .ok (wtV (c.wat o.lock)) x) (by kernel_rfl) (fun _ _ _ _=>rfl) ?_ ?_
 ·exact⟨D.out.cl.cell 15 _ rfl,D.out.cl.cell 16 _ rfl,cO D.out.on.1 1 _ rfl,MapW.get (W:=W0.drew) D.out.cl.maps.wat o.lock⟩
 simp only[dC,dB];iterate 13 (apply sB rfl rfl;·(intro x h;(try have h:=h rfl);(try dsimp only at h);go_simp;with_reducible rfl))
 try simp only[pA]
 refine dI rfl (fun C hC=>?_);go_simp;have bT:(W0.alloc (.cells #[.int .i64 0,.int .i64 0,.int .i64 0,.int .i64 0] 292)).drew.heap[W0.heap.size]?=some (.cells #[.int .i64 0,.int .i64 0,.int .i64 0,.int .i64 0] 292 (0,0)):=aA W0 _;have a:Chg NoS W0 (W0.alloc (.cells #[.int .i64 0,.int .i64 0,.int .i64 0,.int .i64 0] 292)).drew:=((Chg.refl _ _).alloc _).drew;have m:=D.out.kept a;refine hC _ _ ⟨m.cl.cell 15 _ rfl,m.cl.cell 16 _ rfl,cO m.on.1 1 _ rfl,MapW.get m.cl.maps.wat o.lock⟩ ?_;clear hC;have H:=a.kept BV.out (fun h=>h);generalize (W0.alloc (.cells #[.int .i64 0,.int .i64 0,.int .i64 0,.int .i64 0] 292)).drew=W1 at*;refine cP ?_;refine cV rfl 292 _ _ rfl W0.heap.size 0 292 _ _ [.int .i64 (c.wat o.lock).own,.int .i64 (c.wat o.lock).tok,.int .i64 (c.wat o.lock).seq,.int .i64 (c.wat o.lock).since] rfl rfl bT (by kernel_rfl) (by simp[Value.oneCell']) (by simp) rfl ?_;intro t d M s;have G:W.heap.size≠W0.heap.size:=by rw[R.out];omega
 have p:=d.kept H G;have n:Chg NoS W0 t:=⟨d.os.trans a.os,d.tape.trans a.tape,d.output.trans a.output,by rw[M];exact a.size,fun k hk _=>(d.block k (aG hk a.size) (fun e=>by omega)).trans (a.block k hk (fun h=>h))⟩;have l:=D.out.kept n;have c4:=l.cl.cell 4 _ rfl;have K:=l.cl.cell 16 _ rfl;have X:=cO l.on.1 6 _ rfl;have v2:=cO p 2 _ rfl;have V:=cO s 3 _ rfl;have S:=cN (U.out.trans n (fun _ _ h=>h));have P:=cN (cR (W:=t.drew.drew) p);have I:=cN (cR (W:=t.drew.drew) s);have B:Hid (Kt t F b g f c o ch tk hd wt ob an mv∧t.heap[W.heap.size]?=some (.cells (vlL v).toArray 56 (0,0))):=⟨l,p⟩;have L:=cN s;have m1:v.ttl*(10+f.drift)≤1000*20:=Int.mul_le_mul ht2 (by omega) (by omega) (by omega);have m2:0≤v.ttl*(10+f.drift):=Int.mul_nonneg ht1 (by omega);have w1:IntKind.i64.wrap (10+f.drift)=10+f.drift:=fV (by omega) (by omega);have w2:IntKind.i64.wrap (v.ttl*(10+f.drift))=v.ttl*(10+f.drift):=fV (by omega) (by omega);clear a m bT H d M s G p n l;go_wp2_with fail;refine eD [0,1,0,0,0,0,1,0,0,0] (by kernel_rfl) (fun _ _ _ _=>rfl) ?_;simp only[dC,dB];iterate 10 (apply sB rfl rfl;·(intro x h;(try cases h rfl);go_simp;with_reducible rfl))
 refine cP ?_;try simp only[pA]
 go_wp2_with fail;generalize hT:v.ttl*(10+f.drift)=T at*;have w3:IntKind.i64.wrap (T+9)=T+9:=fV (by omega) (by omega);have hq:(T+9).tdiv 10=(T+9) / 10:=aKW _ (by omega);have w4:IntKind.i64.wrap ((T+9) / 10)=(T+9) / 10:=fV (by omega) (by omega);have w5:IntKind.i64.wrap ((c.wat o.lock).since+(T+9) / 10)=(c.wat o.lock).since+(T+9) / 10:=fV (by omega) (by omega);have w6:IntKind.i64.wrap ((c.wat o.lock).since+(T+9) / 10+2)=(c.wat o.lock).since+(T+9) / 10+2:=fV (by omega) (by omega);have N:∀q,sZ (c.wat o.lock) v=q→Hid (Calls prog 218 #[wtV (c.wat o.lock),vlV v] t.drew.drew fun r W'=>r= .returned (.bool q)∧Chg NoS t.drew.drew W'):=fun q e=>e▸aI1 t.drew.drew (c.wat o.lock) v;cases hw:sZ (c.wat o.lock) v;all_goals
  have u:=N _ hw;have Z:=cN (aLo hw hT);clear N hw hT hd1 hd2 ht1 ht2 m1 m2 w1 w2;refine rlx [1,1,2,0,0,0,0,1,0,0,0,1,0,1,0,0,0,0,0,0,0,0] (fun x=>x.cell? ⟨b,16,none⟩=some (.pointer (some ⟨ob,0,none⟩))∧x.cell? ⟨ob,6,none⟩=some (.int .i64 o.att.began)∧x.cell? ⟨W0.heap.size,3,none⟩=some (.int .i64 (c.wat o.lock).since)∧(∀j y,(vlL v)[j]?=some y→x.cell? ((⟨W.heap.size,0,none⟩:Addr).add j)=some y)∧(∀j y,([.int .i64 (c.wat o.lock).own,.int .i64 (c.wat o.lock).tok,.int .i64 (c.wat o.lock).seq,.int .i64 (c.wat o.lock).since]:List Value)[j]?=some y→x.cell? ((⟨W0.heap.size,0,none⟩:Addr).add j)=some y)) (by kernel_rfl) (fun _ _ _ _=>rfl) ?_ ?_
  ·exact⟨K,X,V,P.out,I.out⟩
  simp only[dC,dB];refine dA (v:=wtV (c.wat o.lock)) rfl (fun x hx=>cU 292 _ rfl ⟨W0.heap.size,0,none⟩ rfl _ _ hx.2.2.2.2 underlying292 rfl (by kernel_rfl)) ?_;refine dA (v:=vlV v) rfl (fun x hx=>cU 56 _ rfl ⟨W.heap.size,0,none⟩ rfl (vlL v) _ hx.2.2.2.1 underlying56 rfl (by kernel_rfl)) ?_;(try simp only[pA]);refine dI rfl (fun C hC=>?_);go_simp;refine u.out.mono ?_;rintro r W3 ⟨rfl,k3⟩;have i:=k3.of_drew.of_drew;have z:=B.out.1.kept i;have O:=i.kept B.out.2 (fun h=>h);have A:=i.kept L.out (fun h=>h);refine hC _ _ ⟨z.cl.cell 16 _ rfl,cO z.on.1 6 _ rfl,cO A 3 _ rfl,cR O,cR A⟩ ?_;have Q:=cN (S.out.trans i (fun _ _ h=>h));clear hC C u k3 i z O A P I B L c4 K X v2 V;iterate 19 ((try simp only[pA]);first|(apply sB rfl rfl;·(intro x h;(try have h:=h rfl);(try dsimp only at h);go_simp;with_reducible rfl))|apply dN rfl|apply dL rfl)
  refine cP ?_;try simp only[pA]
  go_wp2_with fail;go_ret;exact⟨by rw[Z.out.1,Z.out.2];simp,Q.out⟩
section
open Go.Maps
section
variable (W:World) (F:Nat→Prop) (d:Nat)
theorem nL(k:Dk)(nm km fl:Nat)(fn:Option Nat)(fk:Nat)(fv:Value)(h:DkAt W F d k nm km fl fn fk fv)(hs:fQ k=none):
 Calls prog 185 #[.pointer (some ⟨d,0,none⟩)] W fun e W'=>e= .panicked (rS (iP k))∧W'=W:=by
 have m:=h.cell 3 _ rfl;have a:=h.fail;unfold fQ at hs;cases hk:k.fail with
 |none=>rw[hk]at hs;cases hs
 |some p=>
  obtain⟨n,q⟩:=p;rw[hk]at hs a;have i:n=0:=by
   by_cases f:n=0
   ·exact f
   ·simp[f]at hs
  subst i;obtain⟨b,rfl,g,o⟩:=a;have l:=cO g 0 _ rfl;have j:=cO g 1 _ rfl;have c:iP k=q:=by unfold iP;rw[hk]
  rw[c];clear hs hk c h;go_enter func185,ntmps185;go_wp2;exact⟨rfl,rfl,rfl⟩
theorem nK(k k1:Dk)(nm km fl:Nat)(fn:Option Nat)(fk:Nat)(fv:Value)(h:DkAt W F d k nm km fl fn fk fv)(hok:iC k)(hs:fQ k=some k1):
 Calls prog 185 #[.pointer (some ⟨d,0,none⟩)] W fun e W'=>e= .returned (.tuple #[])∧DkAt W' F d k1 nm km fl fn fk fv∧Chg F W W'∧W'.heap.size=W.heap.size:=by
 have E:=h.cell 3 _ rfl;have i:=h.fail;unfold fQ at hs;cases hk:k.fail with
 |none=>
  rw[hk]at hs i;obtain rfl:k=k1:=aN hs;obtain rfl:fv= .pointer none:=i;have y:=cN h;clear hk hs h hok;go_enter func185,ntmps185;go_wp2
  (first|go_end0|((try simp only[Exit.inBlock,Exit.then]);refine bodyPost_ret (results_none rfl _ _ _) rfl ?_))
  exact⟨by first|rfl|trivial,y.out,Chg.refl _ _,rfl⟩
 |some p=>
  obtain⟨n,q⟩:=p;have f:=hok (n,q) hk;rw[hk]at hs i;dsimp only at f;have m:n≠0:=fun h0=>by simp[h0]at hs
  have o:k1={k with fail:=some (n-1,q)}:=by simpa[m]using hs.symm
  subst o;obtain⟨b,rfl,a,t⟩:=i;have C:=cO a 0 _ rfl;have G:=cX a 0;have B:(n==0)=false:=by simp[m]
  have D:IntKind.i64.wrap (n-1)=n-1:=fV (by have:=f.1;omega) (by have:=f.2;omega);have A:wrap64 (n-1)=n-1:=by unfold wrap64;have:=f.1;have:=f.2;omega
  have c:=cY W b 0 (.int .i64 (n-1));have g:=dD a 0 (.int .i64 (n-1));have r:(W.setCell ⟨b,0,none⟩ (.int .i64 (n-1))).heap.size=W.heap.size:=by simp
  generalize s:W.setCell ⟨b,0,none⟩ (.int .i64 (n-1))=W1 at*;have z:=cN s;have u:DkAt W1 F d {k with fail:=some (n-1,q)} nm km fl fn fk (.pointer (some ⟨b,0,none⟩)):=by
   obtain⟨_,_,l⟩:=eH h.names;obtain⟨_,_,j⟩:=eH h.kept;exact⟨c.kept h.blk (gA h.blk a (by decide)),h.fd,eB h.names (by rw[l];exact c.kept l (fun e=>eX l a (by simp) e)),eB h.kept (by rw[j];exact c.kept j (fun e=>eX j a (by simp) e)),h.fnm,h.fkm,h.nk,c.kept h.log (gA h.log a (by decide)),h.flog,h.new.kept a (by simp) c,h.old.kept a (by simp) c,⟨b,rfl,g,t⟩,fun x hx=>aG (h.lt x hx) c.size⟩
  have v:=cN u;have w:=cN (c.mono (fun x _ e=>e▸t));clear hk hs h hok f m u c g s a;go_enter func185,ntmps185;go_wp2_with (first|rw[z.out])
  (first|go_end0|((try simp only[Exit.inBlock,Exit.then]);refine bodyPost_ret (results_none rfl _ _ _) rfl ?_))
  exact⟨by first|rfl|trivial,v.out,w.out,r⟩
theorem aG1(k:Dk)(n q:Int)(h:Disk W F d k):
 Calls prog 133 #[.pointer (some ⟨d,0,none⟩),.int .i64 n,.int .i64 q] W fun e W'=>e= .returned (.tuple #[])∧DkTo W F d {k with fail:=some (n,q)} W':=by
 obtain⟨nm,km,fl,fn,fk,fv,h⟩:=h;generalize hX:W.alloc (.cells #[.int .i64 n,.int .i64 q] 248)=W1;have HX:=cN hX;have hc1:Chg NoS W W1:=by rw[←hX];exact(Chg.refl _ _).alloc _
 have hb1:W1.heap[W.heap.size]?=some (.cells #[.int .i64 n,.int .i64 q] 248 (0,0)):=by rw[←hX];exact aA W _
 have hs1:W1.heap.size=W.heap.size+1:=by rw[←hX];simp
 have h1:=h.apart hc1 (fun _ _ h=>h);have c3:=h1.cell 3 _ rfl;have z3:=h1.froz 3;have hdl:=h.lt d h.fd;have hc2:=cY W1 d 3 (.pointer (some ⟨W.heap.size,0,none⟩));have hb2:=dD h1.blk 3 (.pointer (some ⟨W.heap.size,0,none⟩));generalize hY:W1.setCell ⟨d,3,none⟩ (.pointer (some ⟨W.heap.size,0,none⟩))=W2 at*;have HY:=cN hY;have hF':∀x,F x→F x∨x=W.heap.size:=fun _ h=>Or.inl h;have hR:DkAt W2 (fun x=>F x∨x=W.heap.size) d {k with fail:=some (n,q)} nm km fl fn fk (.pointer (some ⟨W.heap.size,0,none⟩)):=by
  have b2:=hc2.kept hb1 (by omega);have hR:=h1.grow (F':=fun x=>F x∨x=W.heap.size) hF' (fun x hx=>by rcases hx with hx|hx;exact h1.lt x hx;omega);exact hR.self' (k':={k with fail:=some (n,q)}) hc2 hb2 h1.names h1.kept (Or.inl h1.fnm) (Or.inl h1.fkm) h1.nk rfl rfl rfl hR.old ⟨_,rfl,b2,Or.inr rfl⟩
 have HR:=cN hR;have HC:=cN ((hc1.mono (fun _ _ h=>h.elim)).trans hc2 (fun x hx e=>e▸h.fd));clear hR hc2 hb2 hY h1 hb1 hX hc1 h;go_enter func133,ntmps133;go_wp2_with (first|rw[HX.out]|rw[HY.out])
 (first|go_end0|((try simp only[Exit.inBlock,Exit.then]);refine bodyPost_ret (results_none rfl _ _ _) rfl ?_))
 exact⟨by first|rfl|trivial,_,⟨_,_,_,_,_,_,HR.out⟩,HC.out,fun x hx=>hx.elim Or.inl (fun e=>Or.inr (by omega))⟩
theorem aJy(k:Dk)(h:Disk W F d k):
 Calls prog 96 #[.pointer (some ⟨d,0,none⟩),vL] W fun e W'=>e= .returned (.string (strOfNums k.log))∧W'=W:=by
 obtain⟨g,n,b,a,j,o,h⟩:=h;have p:=h.cell 1 _ rfl;have q:=cO h.log 0 _ rfl;have m:(Instr.lookup 209 (.map (some g)) vL true).run prog W= .ok (.tuple #[rQ b,.bool true]) W:=by
  obtain⟨v,l,c,f⟩:=h.names.look_ok aAA underlying209 (z:=.pointer none) (by kernel_rfl) (zd:=.lit (.int .i64 (-1))) (zp:=[]) rfl (key:=vL) (kl:=.string sL) (by kernel_rfl);have e:(fZ b a).atKey (.string sL) (.lit (.int .i64 (-1)))= .lit (.int .i64 b):=by cases a<;>rfl
  have i:Maps.has (fZ b a) (.string sL)=true:=by cases a<;>rfl
  rw[e]at f;rw[i]at c;rw[pB f]at c;exact c
 clear h;go_enter func96,ntmps96;go_wp2
 (first|go_ret|skip)
 exact⟨rfl,rfl⟩
end
end
theorem Chg.cellN{A B:World}{k j:Nat}{v:Value}(h:Chg NoS A B)(hc:A.cell? ⟨k,j,none⟩=some v):B.cell? ⟨k,j,none⟩=some v:=by
 have b:k<A.heap.size:=by
  rcases Nat.lt_or_ge k A.heap.size with a|a
  ·exact a
  ·have:A.cell? ⟨k,j,none⟩=none:=by unfold World.cell?;rw[Array.getElem?_eq_none a]
   rw[this]at hc;cases hc
 exact(aW (h.block k b (fun h=>h))).trans hc
section
variable {W W1 W2:World}{own:Nat→Nat}{y:Nat}{x:Rm}{V:RmV}
theorem RmAt.trAppend(h:RmAt W own y x V)(h01:Chg NoS W W1)(h12:W1.grownBy W2 V.tv.ownBlock){gt cap:Nat}{e:Ev}
 (hown:W2.ownsRow 0 70 19 (.slice (some ⟨gt,0,none⟩) (x.tr.length+1) cap) (x.tr.length+1) (cZ evL x.tr++evL e)) (hat:V.tv.ownBlock=some gt∨W1.heap.size≤gt):
 RmTo W own y V {x with tr:=x.tr++[e]} (W2.setCell ⟨y,10,none⟩ (.slice (some ⟨gt,0,none⟩) (x.tr.length+1) cap)):=by
 have hs01:=h01.size;have hs12:=h12.size;have hyW:=h.yo;have hc02:=(h01.mono (T:=fun k=>own k=3) (fun _ _ h=>h.elim)).trans ((Chg.of_grown h12).mono (T:=fun k=>own k=3) (fun k _ hk=>h.tvo k hk.symm)) (fun _ _ h=>h);have hb2:=hc02.kept h.blk (by rw[hyW];decide);have hc23:=cY W2 y 10 (.slice (some ⟨gt,0,none⟩) (x.tr.length+1) cap);have hb3:=dD hb2 10 (.slice (some ⟨gt,0,none⟩) (x.tr.length+1) cap);have hc03:=(hc02.mono (T:=fun k=>own k=1∨own k=2∨own k=3) (fun _ _ h=>Or.inr (Or.inr h))).trans hc23 (fun k _ hk=>by subst hk;exact Or.inl hyW);have hng:∀k,V.nv.ownBlock=some k→k≠y:=fun k hk e=>by have:=h.nvo k hk;subst e;omega
 have htg:=fN hown hb2 (by decide) gt rfl;refine h.nets (nv':=V.nv) (tv':=.slice (some ⟨gt,0,none⟩) (x.tr.length+1) cap) hc03 hb3 ?_ ?_ (fun k hk=>Or.inl (h.nvo k hk)) ?_
 ·exact hc23.row (hc02.row h.net (fun k hk e=>by have:=h.nvo k hk;omega)) (fun k hk=>hng k hk)
 ·rw[aD,aK,kO];exact hc23.row hown (fun k hk=>by simp[Value.ownBlock]at hk;omega)
 ·intro k hk;have:gt=k:=by simpa[Value.ownBlock]using hk
  subst this;rcases hat with h'|h'
  ·exact Or.inl (h.tvo _ h')
  ·right;omega
theorem RmAt.netAppend(h:RmAt W own y x V)(h01:Chg NoS W W1)(h12:W1.grownBy W2 V.nv.ownBlock){gt cap:Nat}{m:Mg}
 (hown:W2.ownsRow 0 66 10 (.slice (some ⟨gt,0,none⟩) (x.net.length+1) cap) (x.net.length+1) (cZ mgL x.net++mgL m)) (hat:V.nv.ownBlock=some gt∨W1.heap.size≤gt):
 RmTo W own y V {x with net:=x.net++[m]} (W2.setCell ⟨y,9,none⟩ (.slice (some ⟨gt,0,none⟩) (x.net.length+1) cap)):=by
 have hs01:=h01.size;have hs12:=h12.size;have hyW:=h.yo;have hc02:=(h01.mono (T:=fun k=>own k=2) (fun _ _ h=>h.elim)).trans ((Chg.of_grown h12).mono (T:=fun k=>own k=2) (fun k _ hk=>h.nvo k hk.symm)) (fun _ _ h=>h);have hb2:=hc02.kept h.blk (by rw[hyW];decide);have hc23:=cY W2 y 9 (.slice (some ⟨gt,0,none⟩) (x.net.length+1) cap);have hb3:=dD hb2 9 (.slice (some ⟨gt,0,none⟩) (x.net.length+1) cap);have hc03:=(hc02.mono (T:=fun k=>own k=1∨own k=2∨own k=3) (fun _ _ h=>Or.inr (Or.inl h))).trans hc23 (fun k _ hk=>by subst hk;exact Or.inl hyW);have hng:∀k,V.tv.ownBlock=some k→k≠y:=fun k hk e=>by have:=h.tvo k hk;subst e;omega
 have htg:=fN hown hb2 (by decide) gt rfl;refine h.nets (nv':=.slice (some ⟨gt,0,none⟩) (x.net.length+1) cap) (tv':=V.tv) hc03 hb3 ?_ ?_ ?_ (fun k hk=>Or.inl (h.tvo k hk))
 ·rw[aD,aK,kO];exact hc23.row hown (fun k hk=>by simp[Value.ownBlock]at hk;omega)
 ·exact hc23.row (hc02.row h.tr (fun k hk e=>by have:=h.tvo k hk;omega)) (fun k hk=>hng k hk)
 ·intro k hk;have:gt=k:=by simpa[Value.ownBlock]using hk
  subst this;rcases hat with h'|h'
  ·exact Or.inl (h.nvo _ h')
  ·right;omega
end
section
variable (W:World) (v:Value) (l:List Int) (x:Int)
theorem aAX(h:W.ownsRow 0 3 1 v l.length (iE l))(hl:l.length≤1000000000000):
 Calls prog 182 #[v,.int .i64 x] W fun r W'=>r= .returned (.bool (vN l x))∧W'=W:=by
 obtain⟨p,w,rfl,f,j⟩:=vK h;clear h;unfold vN;obtain⟨N,n⟩:=aLz (l.length);rw[←n]at hl f⊢;have d:=cN n;clear n;go_enter func182,ntmps182;go_wp2_with fail;go_loopw [5] (fun i wr=>∃(k:Nat),k≤N∧i= .int .i64 k∧(l.take k).contains x=false∧wr=W) (fun i _=>N-(intOf i).toNat)
 case atStart=>exact⟨0,by omega,rfl,by simp,rfl⟩
 case round=>
  obtain⟨k,y,rfl,a,rfl⟩:=hrel;by_cases u:k<N
  ·have c:k<l.length:=by have:=d.out;omega
   obtain⟨g,rfl,z⟩:=j k c;by_cases b:l[k]=x
   ·have t:(l[k]==x)=true:=by simp[b]
    have o:=cN b;clear b j;go_wp2_with fail;go_ret;refine⟨?_,rfl⟩;have:l.contains x=true:=by rw[←o.out];simp
    rw[this];rfl
   ·have t:(l[k]==x)=false:=by simp[b]
    have o:Hid (¬l[k]=x):=b;have m:=cN a;clear b j a;go_wp2_with fail;go_roundw
    case measure=>simp[intOf];omega
    case rel=>
     refine⟨k+1,by omega,by go_num,?_,by first|rfl|trivial⟩;rw[aCf l k c,m.out];simpa using fun e=>o.out e.symm
  ·have q:k=N:=by omega
   subst q;have m:=cN a;clear a j;go_wp2_with fail;go_ret;refine⟨?_,rfl⟩;have s:=m.out;rw[aY (by have:=d.out;omega)]at s;rw[s];rfl
theorem aGg(h:W.ownsRow 0 3 1 v l.length (iE l))(hl:l.length≤1000000000000):
 Calls prog 233 #[v,.int .i64 x] W fun r W'=>r= .returned (.bool (wZ l x))∧W'=W:=by
 obtain⟨p,z,rfl,j,n⟩:=vK h;clear h;unfold wZ;obtain⟨N,s⟩:=aLz (l.length);rw[←s]at hl j⊢;have f:=cN s;clear s;go_enter func233,ntmps233;go_wp2_with fail;go_loopw [5] (fun i wr=>∃(k:Nat),k≤N∧i= .int .i64 k∧((l.take k).any fun b=>decide (b<x))=false∧wr=W) (fun i _=>N-(intOf i).toNat)
 case atStart=>exact⟨0,by omega,rfl,by simp,rfl⟩
 case round=>
  obtain⟨k,A,rfl,a,rfl⟩:=hrel;by_cases y:k<N
  ·have d:k<l.length:=by have:=f.out;omega
   obtain⟨g,rfl,B⟩:=n k d;have e:=aEW l k d (fun b=>decide (b<x));have c:=bF d;by_cases m:l[k]<x
   ·have q:decide (l[k]<x)=true:=by simp[m]
    have w:Hid ((l.any fun b=>decide (b<x))=true):=by
     show _=true;rw[List.any_eq_true];exact⟨_,c,q⟩
    clear m n e c;go_wp2_with fail;go_ret;exact⟨by rw[w.out];rfl,rfl⟩
   ·have q:decide (l[k]<x)=false:=by simp[m]
    have o:Hid (((l.take (k+1)).any fun b=>decide (b<x))=false):=by
     show _=false;rw[e,a,q];rfl
    clear m n a e c;go_wp2_with fail;go_roundw
    case measure=>simp[intOf];omega
    case rel=>exact⟨k+1,by omega,by go_num,o.out,by first|rfl|trivial⟩
  ·have t:k=N:=by omega
   subst t;have o:=cN a;clear a n;go_wp2_with fail;go_ret;refine⟨?_,rfl⟩;have u:=o.out;rw[aY (by have:=f.out;omega)]at u;rw[u];rfl
end
def jA(x:Rm)(m:Mg):Rm:={x with net:=x.net++[m],tr:=x.tr++[sentEv m]}
theorem sY(W:World)(own:Nat→Nat)(y:Nat)(x:Rm)(V:RmV)(m:Mg)(h:RmAt W own y x V)(hn:x.net.length≤100000000000)(ht:x.tr.length≤100000000000):
 Calls prog 158 #[.pointer (some ⟨y,0,none⟩),mgV m] W fun r W'=>r= .returned (.tuple #[])∧RmTo W own y V (jA x m) W':=by
 obtain⟨i0,hi,Y,a1,a2⟩:=info_parts nT;obtain⟨i1,ji,a3,a5,Z⟩:=info_parts mJ;have N:=aA W (.cells (mgL m).toArray 66);have I:Chg NoS W (W.alloc (.cells (mgL m).toArray 66)):=(Chg.refl _ _).alloc _;have K:(W.alloc (.cells (mgL m).toArray 66)).heap.size=W.heap.size+1:=by simp
 have U:=h.alloc (.cells (mgL m).toArray 66);generalize H:W.alloc (.cells #[.int .i64 m.kind,.int .i64 m.src,.int .i64 m.dst,.int .i64 m.lock,.int .i64 m.bal,.int .i64 m.base,.int .i64 m.val.own,.int .i64 m.val.tok,.int .i64 m.val.ttl,.int .i64 m.val.seq] 66)=W0 at*;have a0:=cN H;have s:=cN (aLp I K N);have HY:=cN (show own W.heap.size=0 from by
  rcases cC (own W.heap.size)with e|e
  ·exact e
  ·have:=h.lt W.heap.size (by omega);omega)
 have X:=U.cell 9 _ rfl;have D:=cN U;clear H I K N U h;go_enter func158,ntmps158;go_wp2_with (first|rw[a0.out]);refine rlx [0,0,0,0,1,1,2] (fun z=>z.cell? ⟨y,9,none⟩=some V.nv∧∀j u,(mgL m)[j]?=some u→z.cell? ((⟨W.heap.size,0,none⟩:Addr).add j)=some u) (by kernel_rfl) (fun _ _ _ _=>rfl) ?_ ?_
 ·exact⟨X,cR (W:=W0.drew) s.out.2.2⟩
 simp only[dC,dB];iterate 5 (apply sB rfl rfl;·(intro x h;(try have h:=h rfl);(try dsimp only at h);go_simp;with_reducible rfl))
 try simp only[pA]
 refine dA (v:=mgV m) rfl (fun zz hx=>cU 66 _ rfl ⟨W.heap.size,0,none⟩ rfl (mgL m) _ hx.2 underlying66 rfl (by kernel_rfl)) ?_;(try simp only[pA]);refine dI rfl (fun C hC=>?_);go_simp;have c:Chg NoS W0.drew (W0.drew.alloc (.cells (mgL m).toArray 66)):=(Chg.refl _ _).alloc _;have f:=aA W0.drew (.cells (mgL m).toArray 66);refine hC _ _ ⟨c.cellN X,cR (c.kept s.out.2.2 (fun h=>h))⟩ ?_;clear hC C;refine cP ?_;refine wpList_append_lies _ rfl _ _ 88 rfl 0 66 i1 _ 10 80 underlying88 ji a3 a5 Z rfl (by decide) V.nv x.net.length (cZ mgL x.net) rfl (c.row D.out.drew.net (fun _ _ h=>h)) ⟨W0.heap.size,0,none⟩ 1 1 (mgL m) rfl rfl (cR f) (oT m) (by decide) (by unfold maxLen;omega) (by omega) (aI _) (W0.heap.size+1) (by simp) ?_;intro gn B W1 i b A P;have n:=D.out.netAppend (m:=m) (W1:=W0.drew.alloc (.cells (mgL m).toArray 66)) c.of_drew ⟨b.os,b.tape,b.output,b.size,b.block⟩ i (A.imp (fun h=>h) (fun h=>by simp;omega));have d:=(c.of_drew.mono (T:=fun k=>some k=V.nv.ownBlock) (fun _ _ h=>h.elim)).trans (Chg.of_grown ⟨b.os,b.tape,b.output,b.size,b.block⟩) (fun _ _ h=>h);have E:=d.kept D.out.blk (fun e=>by have:=D.out.nvo _ e.symm;have:=D.out.yo;omega);have L:=d.kept s.out.2.2 (fun e=>by have:=D.out.nvo _ e.symm;have:=HY.out;omega);have d9:W1.cell? ⟨y,9,none⟩=some V.nv:=cO E 9 _ rfl;have z9:=cX E 9;have O:=cY W1 y 9 (.slice (some ⟨gn,0,none⟩) (x.net.length+1) B);have M:=O.kept L (fun e=>by have:=D.out.yo;rw[←e]at this;have:=HY.out;omega)
 generalize J:W1.setCell ⟨y,9,none⟩ (.slice (some ⟨gn,0,none⟩) (x.net.length+1) B)=W2 at*;have a6:=cN J;obtain⟨a8,S,R,o,l,p,q⟩:=n;have G:=R.cell 10 _ rfl;have t:=cN (aLs R o l p q M);clear J R o l p q M O L E d i b A P c f X;(try simp only[pA]);go_wp2_with (first|rw[a6.out]);clear d9 z9;refine rlx [0,0,0,0,1,1,0,2] (fun z=>z.cell? ⟨y,10,none⟩=some S.tv∧∀j u,(mgL m)[j]?=some u→z.cell? ((⟨W.heap.size,0,none⟩:Addr).add j)=some u) (by kernel_rfl) (fun _ _ _ _=>rfl) ?_ ?_
 ·exact⟨G,cR (W:=W2.drew) t.out.2.2.2.2.2⟩
 simp only[dC,dB];iterate 5 (apply sB rfl rfl;·(intro x h;(try have h:=h rfl);(try dsimp only at h);go_simp;with_reducible rfl))
 try simp only[pA]
 refine dA (v:=mgV m) rfl (fun zz hx=>cU 66 _ rfl ⟨W.heap.size,0,none⟩ rfl (mgL m) _ hx.2 underlying66 rfl (by kernel_rfl)) ?_;(try simp only[pA]);iterate 1 (apply sB rfl rfl;·(intro x h;(try have h:=h rfl);(try dsimp only at h);go_simp;with_reducible rfl))
 try simp only[pA]
 refine dI rfl (fun C hC=>?_);go_simp;have c:Chg NoS W2.drew (W2.drew.alloc (.cells (evL (sentEv m)).toArray 70)):=(Chg.refl _ _).alloc _;have f:=aA W2.drew (.cells (evL (sentEv m)).toArray 70);refine hC _ _ ⟨c.cellN G,cR (c.kept t.out.2.2.2.2.2 (fun h=>h))⟩ ?_;clear hC C;refine cP ?_;refine wpList_append_lies _ rfl _ _ 43 rfl 0 70 i0 _ 19 152 underlying43 hi Y a1 a2 rfl (by decide) S.tv x.tr.length (cZ evL x.tr) rfl (c.row t.out.1.drew.tr (fun _ _ h=>h)) ⟨W2.heap.size,0,none⟩ 1 1 (evL (sentEv m)) rfl rfl (cR f) (nU _) (by decide) (by unfold maxLen;omega) (by omega) (aI _) (W2.heap.size+1) (by simp) ?_;intro gt a7 W3 g a w Q;have n:=t.out.1.trAppend (e:=sentEv m) (W1:=W2.drew.alloc (.cells (evL (sentEv m)).toArray 70)) c.of_drew ⟨a.os,a.tape,a.output,a.size,a.block⟩ g (w.imp (fun h=>h) (fun h=>by simp;omega));have d:=(c.of_drew.mono (T:=fun k=>some k=S.tv.ownBlock) (fun _ _ h=>h.elim)).trans (Chg.of_grown ⟨a.os,a.tape,a.output,a.size,a.block⟩) (fun _ _ h=>h);have F:=d.kept t.out.1.blk (fun e=>by have:=t.out.1.tvo _ e.symm;have:=t.out.1.yo;omega);have b0:W3.cell? ⟨y,10,none⟩=some S.tv:=cO F 10 _ rfl;have a9:=cX F 10;have a4:=cN n;clear n d F g a w Q c f G;(try simp only[pA]);go_wp2_with fail;go_end0;obtain⟨R,o,l,p,q,_⟩:=t.out;exact⟨rfl,RmTo.behind s.out.1 (fun _ _ h=>h.elim) (RmTo.trans o l p q a4.out)⟩
structure RcA(N:Int)(c:Rc):Prop where
 d0:0≤c.id
 d3:c.id≤3
 i0:0≤c.inc
 i1:c.inc≤63
 k0:0≤c.clock
 k1:c.clock≤N
 r0:0≤c.round
 r1:c.round≤1000
 w:∀l,0≤l→l≤3→0≤(c.wat l).at_∧(c.wat l).at_≤N
structure RcB(f:Cf)(N:Int)(c:Rc):Prop where
 l0:0≤c.lock
 l3:c.lock≤3
 t0:0≤c.ttl
 t1:c.ttl≤1000
 g0:0≤c.began
 g1:c.began≤N
 n0:0≤c.tries
 n8:c.tries≤8
 a0:0≤c.at_
 a1:c.at_≤N
 mine:(c.mine.length:Int)≤N
 heard:c.heard.length≤5
 back:c.back.length≤5
def dP(x:Rm)(i:Nat)(c:Rc)(e:List Ev):Rm:={x with cls:=x.cls.set i c,net:=x.net++dJ e,tr:=x.tr++e}
section
variable (c:Rc) (mv hv bv:Value) (k:Nat)
theorem aCR(hk:k≤3)(t:Int):(rcL c mv hv bv).toArray.setIfInBounds (5+k) (.int .i64 t)=(rcL {c with tok:=upd c.tok k t} mv hv bv).toArray:=by
 rcases k with _|_|_|_|k
 ·simp[upd]
 ·simp[upd]
 ·simp[upd]
 ·simp[upd]
 ·omega
theorem yF(hk:k≤3)(t:Int):(rcL c mv hv bv).toArray.setIfInBounds (9+k) (.int .i64 t)=(rcL {c with til:=upd c.til k t} mv hv bv).toArray:=by
 rcases k with _|_|_|_|k
 ·simp[upd]
 ·simp[upd]
 ·simp[upd]
 ·simp[upd]
 ·omega
theorem vJ(hk:k≤3):(rcL c mv hv bv)[5+k]?=some (.int .i64 (c.tok k)):=by
 rcases k with _|_|_|_|k
 ·rfl
 ·rfl
 ·rfl
 ·rfl
 ·omega
theorem oY(hk:k≤3):(rcL c mv hv bv)[9+k]?=some (.int .i64 (c.til k)):=by
 rcases k with _|_|_|_|k
 ·rfl
 ·rfl
 ·rfl
 ·rfl
 ·omega
theorem aCA(hk:k≤3):∀j u,(aCQ (c.wat k))[j]?=some u→(rcL c mv hv bv).toArray[13+k*6+j]?=some u:=by
 intro j u a;have b:j<6:=(aF.1 a).1;rcases k with _|_|_|_|k
 ·rcases j with _|_|_|_|_|_|j<;>first|exact a|omega
 ·rcases j with _|_|_|_|_|_|j<;>first|exact a|omega
 ·rcases j with _|_|_|_|_|_|j<;>first|exact a|omega
 ·rcases j with _|_|_|_|_|_|j<;>first|exact a|omega
 ·omega
theorem aFa(hk:k≤3)(w:Rwt):(rcL c mv hv bv).take (13+k*6)++aCQ w++(rcL c mv hv bv).drop (13+k*6+6)=rcL {c with wat:=upd c.wat k w} mv hv bv:=by
 rcases k with _|_|_|_|k
 ·simp[upd]
 ·simp[upd]
 ·simp[upd]
 ·simp[upd]
 ·omega
end
end Go.Proofs.YtbbdgokdfhdpiaaGreatDoor
