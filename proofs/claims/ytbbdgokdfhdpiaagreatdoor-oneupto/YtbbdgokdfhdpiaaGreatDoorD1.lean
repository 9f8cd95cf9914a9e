/- A part of the proof: RecMath, Mdl, MdlCl, Mem, Loads, Lex, PNet, PUp, RefLow, LawSame, RefTable. -/
import Derived.Below
import Derived.BigQuiet
import Derived.ChangeMaps5
import Derived.Conc.LoneSelect
import Derived.Deep.AppendLies
import Derived.Deep.Cut
import Derived.Deep.CutRange
import Derived.Deep.DrawnRows
import Derived.Deep.Light
import Derived.Deep.QuietTactic
import Derived.Deep.RegionLaw
import Derived.Deep.RegionWith
import Derived.KernelRfl
import Derived.Laws.BytesArg
import Derived.Laws.Rows
import Derived.Lib.QuietBelow
import Derived.LoopTactic
import Derived.MapKept
import Derived.Maps.AppendAt
import Derived.OrdersHeld
import Derived.RegionTactic
import Derived.StillTail
import Derived.Test.YtbbdgokdfhdpiaaGreatDoorProg
import Derived.WalkKit
import Derived.WalkLawsBesides
import Derived.WalkSpells
namespace Go.Proofs.YtbbdgokdfhdpiaaGreatDoor
set_option linter.all false
set_option maxRecDepth 100000
set_option maxHeartbeats 40000000
open Go.Proofs.Tryz Go.RowKit
theorem aA:∀ (w : World) (o : Obj), (World.heap (World.alloc w o))[Array.size (World.heap w)]? = some o:=@heap_alloc_new
theorem aB:∀ {α : Type} {p : α → Prop} {a : α} {l : List α}, (∀ (x : α), x ∈ a :: l → p x) ↔ p a ∧ ∀ (x : α), x ∈ l → p x:=@List.forall_mem_cons
theorem aC:∀ {α : Type} (ls : List α), ls ++ [] = ls:=@List.append_nil
theorem aD:∀ {α : Type} {ls bs : List α}, List.length (ls ++ bs) = List.length ls + List.length bs:=@List.length_append
theorem aE:∀ (n : Nat), n ≤ n:=@Nat.le_refl
theorem aF:∀ {α : Type} {i : Nat} {a : α} {l : List α}, l[i]? = some a ↔ ∃ (h : i < List.length l), l[i] = a:=@List.getElem?_eq_some_iff
theorem aG:∀ {n m k : Nat}, n < m → m ≤ k → n < k:=@Nat.lt_of_lt_of_le
theorem aH:∀ {p : Prop}, (¬p → False) → p:=@Classical.byContradiction
theorem aI:∀ (n : Nat), 0 ≤ n:=@Nat.zero_le
theorem aJ:∀ (B : Nat) (w : World), Below B w w:=@Below.refl
theorem aK:∀ {α : Type} {a : α}, List.length [a] = 1:=@List.length_singleton
theorem aL:∀ (a : Int), a ≤ a:=@Int.le_refl
theorem aM:∀ {p : Prop} [inst : Decidable p], (decide p = true) = p:=@decide_eq_true_eq
theorem aN:∀ {α : Type} {val val_1 : α}, some val = some val_1 → val = val_1:=@Option.some.inj
theorem aO:∀ {α : Type} {a : α} {s t : List α}, a ∈ s ++ t ↔ a ∈ s ∨ a ∈ t:=@List.mem_append
theorem aP:∀ {α : Type} {l : List α} {i : Nat} (h : i < List.length l), l[i]? = some l[i]:=@List.getElem?_eq_getElem
theorem aQ:∀ {α : Type} {l : List α} {i : Nat} {a : α}, List.getD l i a = Option.getD l[i]? a:=@List.getD_eq_getElem?_getD
theorem aR:∀ (a b : Bool), ((a && b) = true) = (a = true ∧ b = true):=@Bool.and_eq_true
theorem aS:∀ {α : Type} (ls bs cs : List α), ls ++ bs ++ cs = ls ++ (bs ++ cs):=@List.append_assoc
theorem aT:∀ {α β : Type} (P : Program) (w : World) (x : Sem α) (f : α → Sem β), Sem.run P (x >>= f) w = Result.andThen (Sem.run P x w) fun (a : α) (w' : World) => Sem.run P (f a) w':=@Sem.run_bind
theorem aU:(false = true) = False:=@Bool.false_eq_true
theorem aV:∀ {α : Type} {i : Nat} {l : List α}, List.length (List.drop i l) = List.length l - i:=@List.length_drop
theorem aW:∀ {w w' : World} {a : Addr}, (World.heap w')[Addr.block a]? = (World.heap w)[Addr.block a]? → World.cell? w' a = World.cell? w a:=@World.cell?_of_block
theorem aX:∀ {m n : Nat}, Nat.succ m = Nat.succ n → m = n:=@Nat.succ.inj
theorem aY:∀ {α : Type} {i : Nat} {l : List α}, List.length l ≤ i → List.take i l = l:=@List.take_of_length_le
theorem aZ:∀ (n : Nat), Int.toNat ↑n = n:=@Int.toNat_natCast
theorem bD:∀ {α : Type} {i : Nat} {l : List α}, List.length (List.take i l) = min i (List.length l):=@List.length_take
theorem bF:∀ {α : Type} {l : List α} {n : Nat} (h : n < List.length l), l[n] ∈ l:=@List.getElem_mem
theorem bH:∀ {α : Type} {a : α} {ls : List α}, List.length (a :: ls) = List.length ls + 1:=@List.length_cons
theorem bI:∀ (w : World) (o : Obj) (a : Addr), Addr.block a < Array.size (World.heap w) → World.cell? (World.alloc w o) a = World.cell? w a:=@World.cell?_alloc_lt
theorem bJ:∀ {α : Type} {l₁ l₂ : List α} {i : Nat}, i < List.length l₁ → (l₁ ++ l₂)[i]? = l₁[i]?:=@List.getElem?_append_left
theorem bK:∀ {α : Type} {l₁ l₂ : List α} {i : Nat}, List.length l₁ ≤ i → (l₁ ++ l₂)[i]? = l₂[i - List.length l₁]?:=@List.getElem?_append_right
theorem bL:∀ {α : Type} {β : Type} {ls : List α} (f : α → β), List.length (List.map f ls) = List.length ls:=@List.length_map
theorem bN:∀ {α : Type} {β : Type} {b : β} {f : α → β} {l : List α}, b ∈ List.map f l ↔ ∃ (a : α), a ∈ l ∧ f a = b:=@List.mem_map
theorem bO:∀ {α : Type} {β : Type} {f : α → β} {l₁ l₂ : List α}, List.map f (l₁ ++ l₂) = List.map f l₁ ++ List.map f l₂:=@List.map_append
theorem bP:∀ {α : Type} {ls : List α} {i : Nat} {a : α}, List.length (List.set ls i a) = List.length ls:=@List.length_set
theorem bQ:∀ {α : Type} {l : List α} {i : Nat} {a : α} (h : i < List.length (List.set l i a)), (List.set l i a)[i] = a:=@List.getElem_set_self
theorem bR:∀ {n m : Nat}, n < m → n ≤ m:=@Nat.le_of_lt
theorem bU:∀ {n m k : Nat}, n ≤ m → m ≤ k → n ≤ k:=@Nat.le_trans
theorem bV:∀ {α : Type} {p : α → Bool} {ls : List α} {x : α}, x ∈ List.filter p ls ↔ x ∈ ls ∧ p x = true:=@List.mem_filter
theorem bX:∀ {α : Type} (i : Nat) (l : List α), List.take i l ++ List.drop i l = l:=@List.take_append_drop
theorem bY:∀ {α : Type} {xs : Array α} {i : Nat} {d : α}, Array.getD xs i d = Option.getD xs[i]? d:=@Array.getD_eq_getD_getElem?
theorem bZ:∀ {α : Type} {a : α} {i : Nat} {l : List α}, (a :: l)[i + 1]? = l[i]?:=@List.getElem?_cons_succ
theorem cA:∀ {α : Type} {a : α} {l : List α}, (a :: l)[0]? = some a:=@List.getElem?_cons_zero
theorem aJW {p0 p1:Prop} (h0:p0) (h1:p1):p0∧p1:=⟨h0,h1⟩
theorem aJX {p0 p1 p2:Prop} (h0:p0) (h1:p1) (h2:p2):p0∧p1∧p2:=⟨h0,h1,h2⟩
theorem aJY {p0 p1 p2 p3:Prop} (h0:p0) (h1:p1) (h2:p2) (h3:p3):p0∧p1∧p2∧p3:=⟨h0,h1,h2,h3⟩
theorem aJZ {p0 p1 p2 p3 p4:Prop} (h0:p0) (h1:p1) (h2:p2) (h3:p3) (h4:p4):p0∧p1∧p2∧p3∧p4:=⟨h0,h1,h2,h3,h4⟩
theorem aJ0 {p0 p1 p2 p3 p4 p5:Prop} (h0:p0) (h1:p1) (h2:p2) (h3:p3) (h4:p4) (h5:p5):p0∧p1∧p2∧p3∧p4∧p5:=⟨h0,h1,h2,h3,h4,h5⟩
theorem aJ1 {p0 p1 p2 p3 p4 p5 p6:Prop} (h0:p0) (h1:p1) (h2:p2) (h3:p3) (h4:p4) (h5:p5) (h6:p6):p0∧p1∧p2∧p3∧p4∧p5∧p6:=⟨h0,h1,h2,h3,h4,h5,h6⟩
theorem aJ3 {p0 p1 p2 p3 p4 p5 p6 p7 p8:Prop} (h0:p0) (h1:p1) (h2:p2) (h3:p3) (h4:p4) (h5:p5) (h6:p6) (h7:p7) (h8:p8):p0∧p1∧p2∧p3∧p4∧p5∧p6∧p7∧p8:=⟨h0,h1,h2,h3,h4,h5,h6,h7,h8⟩
theorem aJ7 {α:Type} (a:α):∃x,x=a:=⟨_,rfl⟩
theorem aJ8 {α:Type} (a:α):∃x,a=x:=⟨_,rfl⟩
theorem cB {p:Prop} (h:p):Hid p:=h
structure Rw where
 lock:Int
 prom:Int
 acc:Int
 own:Int
 tok:Int
 ttl:Int
 seq:Int
def wrB(n:Int):Bool:=decide (0≤n)&&decide (n≤2147483647)
def okB(r:Rw):Bool:=wrB r.prom&&wrB r.acc&&wrB r.tok&&wrB r.ttl&&wrB r.seq&&decide (0≤r.lock)&&decide (r.lock≤3)&&decide (0≤r.own)&&decide (r.own≤4)
def fK(v:Int):Nat→List Int
 |0=>[]
 |k+1=>v % 256::fK (v / 256) k
theorem gW:∀(k:Nat) (v:Int),(fK v k).length=k
 |0,_=>rfl
 |k+1,v=>by simp[fK,gW k]
theorem wK:∀(k:Nat) (v:Int),∀x ∈ fK v k,0≤x∧x<256
 |0,_=>by simp[fK]
 |k+1,v=>by
  intro x hx;simp only[fK,List.mem_cons]at hx;rcases hx with rfl|hx
  ·omega
  ·exact wK k _ x hx
def kK(r:Rw):List Int:=[82]++fK r.lock 1++fK r.prom 4++fK r.acc 4++fK r.own 1++fK r.tok 4++fK r.ttl 4++fK r.seq 4
theorem vF(r:Rw):(kK r).length=23:=by simp[kK,gW]
theorem yJ(r:Rw):∀x ∈ kK r,0≤x∧x<256:=by
 intro x a;simp only[kK,aO,List.mem_singleton]at a;rcases a with((((((rfl|h)|h)|h)|h)|h)|h)|h
 ·omega
 all_goals exact wK _ _ x h
def mM:List Int→Nat→Int→Int
 |[],_,n=>n
 |b::bs,i,n=>mM bs (i+1) ((n+(i+1)*b) % 65536)
theorem zA:∀(bs:List Int) (i:Nat) (n:Int),0≤n→n<65536→0≤mM bs i n∧mM bs i n<65536
 |[],_,n,h0,h1=>⟨h0,h1⟩
 |b::bs,i,n,_,_=>zA bs (i+1) _ (Int.emod_nonneg _ (by omega)) (Int.emod_lt_of_pos _ (by omega))
theorem aAZ(b:Int):∀(bs:List Int) (i:Nat) (n:Int),mM (bs++[b]) i n=(mM bs i n+((i+bs.length:Nat)+1)*b) % 65536
 |[],i,n=>by simp[mM]
 |x::xs,i,n=>by
  simp only[List.cons_append,mM,aAZ b xs (i+1) _,bH]
  congr 3
  omega
theorem aGc{bs:List Int}{k:Nat}(h:k<bs.length)(i:Nat)(n:Int):mM (bs.take (k+1)) i n=(mM (bs.take k) i n+((i+k:Nat)+1)*bs.getD k 0) % 65536:=by
 rw[List.take_succ_eq_append_getElem h,aAZ,bD,Nat.min_eq_left (bR h)];simp[List.getD,h]
def mV(r:Rw):List Int:=kK r++fK (mM (kK r) 0 0) 2
theorem oK(r:Rw):(mV r).length=25:=by simp[mV,vF,gW]
theorem aFT(r:Rw):∀x ∈ mV r,0≤x∧x<256:=by
 intro x a;simp only[mV,aO]at a;rcases a with h|h
 ·exact yJ r x h
 ·exact wK _ _ x h
def dR(r:Rw):List Int:=if okB r=true then mV r else[]
abbrev rwL(r:Rw):List Value:=[.int .i64 r.lock,.int .i64 r.prom,.int .i64 r.acc,.int .i64 r.own,.int .i64 r.tok,.int .i64 r.ttl,.int .i64 r.seq]
abbrev rwV(r:Rw):Value:=.agg #[.int .i64 r.lock,.int .i64 r.prom,.int .i64 r.acc,.int .i64 r.own,.int .i64 r.tok,.int .i64 r.ttl,.int .i64 r.seq]
theorem fJ(xs:List Int):(strOfNums xs).size=xs.length:=by simp[strOfNums,ByteArray.size]
theorem lY(xs ys:List Int):strOfNums xs++strOfNums ys=strOfNums (xs++ys):=by
 apply ByteArray.ext;simp[strOfNums]
theorem aAC(xs:List Int)(k:Nat)(h:k<xs.length)(hb:∀x ∈ xs,0≤x∧x<256):(((strOfNums xs).data.toList.getD k 0).toNat:Int)=xs.getD k 0:=by
 have a:=hb _ (bF h);have e:((strOfNums xs).data.toList.getD k 0)=UInt8.ofNat (xs[k]).toNat:=by simp[strOfNums,List.getD,h]
 rw[e];simp[List.getD,h];omega
structure Vl where
 own:Int
 tok:Int
 ttl:Int
 seq:Int
structure Mg where
 kind:Int
 src:Int
 dst:Int
 lock:Int
 bal:Int
 base:Int
 val:Vl
structure Ev where
 kind:Int
 node:Int
 msg:Mg
 okind:Int
 olock:Int
 ottl:Int
 res:Int
 own:Int
 tok:Int
 bal:Int
def zVl:Vl:=⟨0,0,0,0⟩
def zMg:Mg:=⟨0,0,0,0,0,0,zVl⟩
def zEv:Ev:=⟨0,0,zMg,0,0,0,0,0,0,0⟩
abbrev vlL(v:Vl):List Value:=[.int .i64 v.own,.int .i64 v.tok,.int .i64 v.ttl,.int .i64 v.seq]
abbrev mgL(m:Mg):List Value:=[.int .i64 m.kind,.int .i64 m.src,.int .i64 m.dst,.int .i64 m.lock,.int .i64 m.bal,.int .i64 m.base,.int .i64 m.val.own,.int .i64 m.val.tok,.int .i64 m.val.ttl,.int .i64 m.val.seq]
abbrev evL(e:Ev):List Value:=[.int .i64 e.kind,.int .i64 e.node,
 .int .i64 e.msg.kind,.int .i64 e.msg.src,.int .i64 e.msg.dst,.int .i64 e.msg.lock,.int .i64 e.msg.bal,.int .i64 e.msg.base,.int .i64 e.msg.val.own,.int .i64 e.msg.val.tok,.int .i64 e.msg.val.ttl,.int .i64 e.msg.val.seq,
 .int .i64 e.okind,.int .i64 e.olock,.int .i64 e.ottl,.int .i64 e.res,.int .i64 e.own,.int .i64 e.tok,.int .i64 e.bal]
abbrev vlV(v:Vl):Value:=.agg #[.int .i64 v.own,.int .i64 v.tok,.int .i64 v.ttl,.int .i64 v.seq]
abbrev mgV(m:Mg):Value:=.agg #[.int .i64 m.kind,.int .i64 m.src,.int .i64 m.dst,.int .i64 m.lock,.int .i64 m.bal,.int .i64 m.base,.int .i64 m.val.own,.int .i64 m.val.tok,.int .i64 m.val.ttl,.int .i64 m.val.seq]
abbrev evV(e:Ev):Value:=.agg #[.int .i64 e.kind,.int .i64 e.node,
 .int .i64 e.msg.kind,.int .i64 e.msg.src,.int .i64 e.msg.dst,.int .i64 e.msg.lock,.int .i64 e.msg.bal,.int .i64 e.msg.base,.int .i64 e.msg.val.own,.int .i64 e.msg.val.tok,.int .i64 e.msg.val.ttl,.int .i64 e.msg.val.seq,
 .int .i64 e.okind,.int .i64 e.olock,.int .i64 e.ottl,.int .i64 e.res,.int .i64 e.own,.int .i64 e.tok,.int .i64 e.bal]
theorem aBg(e:Ev):∀j v,(mgL e.msg)[j]?=some v→(evL e).toArray[2+j]?=some v:=by
 intro j v b;have a:j<10:=(aF.1 b).1;have c:(evL e)[2+j]?=((evL e).drop 2)[j]?:=by rw[List.getElem?_drop]
 have d:(evL e).drop 2=mgL e.msg++[.int .i64 e.okind,.int .i64 e.olock,.int .i64 e.ottl,.int .i64 e.res,.int .i64 e.own,.int .i64 e.tok,.int .i64 e.bal]:=rfl;rw[List.getElem?_toArray,c,d,bJ a,b]
def cQ{α:Type}(f:α→List Value)(l:List α):List Value:=l.flatMap f
theorem jQ{α:Type}(f:α→List Value)(l:List α)(x:α):cQ f (l++[x])=cQ f l++f x:=by simp[cQ]
theorem eL{α:Type}(f:α→List Value){k:Nat}(hk:∀x,(f x).length=k):∀l:List α,(cQ f l).length=l.length*k
 |[]=>by simp[cQ]
 |x::l=>by
  have:=eL f hk l;simp only[cQ,List.flatMap_cons,aD,bH]at*;rw[this,hk];rw[Nat.add_mul];omega
theorem tM{α:Type}(f:α→List Value){k:Nat}(hk:∀x,(f x).length=k):∀(l:List α) (i:Nat) (h:i<l.length) (j:Nat),j<k→(cQ f l)[i*k+j]?=(f l[i])[j]?
 |[],i,h,_,_=>absurd h (by simp)
 |x::l,0,_,j,hj=>by
  simp only[cQ,List.flatMap_cons,Nat.zero_mul,Nat.zero_add,List.getElem_cons_zero];rw[bJ (by rw[hk];exact hj)]
 |x::l,i+1,h,j,hj=>by
  have ih:=tM f hk l i (by simpa using h) j hj;simp only[cQ,List.flatMap_cons,List.getElem_cons_succ]at*;rw[bK (by rw[hk,Nat.add_mul];omega),hk];rw[←ih]
  congr 1
  rw[Nat.add_mul];omega
def qL(e:Ev):Bool:=e.kind==1
def cJ(l:List Ev):List Mg:=(l.filter qL).map (·.msg)
theorem fE:cJ []=[]:=rfl
theorem gI(a b:List Ev):cJ (a++b)=cJ a++cJ b:=by simp[cJ]
theorem mB(l:List Ev):(cJ l).length≤l.length:=by
 simpa[cJ]using List.length_filter_le _ _
structure Cf where
 f:Int
 clients:Int
 patience:Int
 tries:Int
 drift:Int
 compact:Int
 room:Int
structure Wt where
 own:Int
 tok:Int
 seq:Int
 since:Int
structure At where
 bal:Int
 began:Int
 awaited:Int
 ans:List Int
 base:Int
 val:Vl
 eres:Int
 eown:Int
 etok:Int
structure On where
 kind:Int
 lock:Int
 ttl:Int
 began:Int
 tries:Int
 att:At
 mine:List Int
structure Ct where
 num:Int
 inc:Int
 up:Bool
 clock:Int
 round:Int
 toks:Int→Int
 holds:Int→Int
 wat:Int→Wt
 doing:Option On
def zWt:Wt:=⟨0,0,0,0⟩
def zAt:At:=⟨0,0,0,[],0,zVl,0,0,0⟩
def upd{α:Type}(f:Int→α)(k:Int)(v:α):Int→α:=fun x=>if x=k then v else f x
def wC(num:Int):Ct:=⟨num,0,true,0,0,fun _=>0,fun _=>0,fun _=>zWt,none⟩
def fI(m:Mg):Ev:={zEv with kind:=1,msg:=m}
def gJ(n:Int)(o:On):Ev:={zEv with kind:=2,node:=n,okind:=o.kind,olock:=o.lock,ottl:=o.ttl}
def eP(n:Int)(o:On)(res own tok:Int):Ev:={zEv with kind:=3,node:=n,okind:=o.kind,olock:=o.lock,ottl:=o.ttl,res:=res,own:=own,tok:=tok,bal:=o.att.bal}
def gD(n:Int):Ev:={zEv with kind:=4,node:=n}
def pD(n:Int):Ev:={zEv with kind:=5,node:=n}
def aAH(w:Wt)(v:Vl):Bool:=w.own==v.own&&w.tok==v.tok&&w.seq==v.seq
def pY(c:Ct)(l:Int):Ct:={c with toks:=upd c.toks l 0,holds:=upd c.holds l 0}
def lD(c:Ct)(o:On)(tok:Int):Ct:=if o.kind=3 then pY c o.lock else{c with toks:=upd c.toks o.lock tok,holds:=upd c.holds o.lock (o.began+o.ttl)}
def nV(c:Ct)(l:Int)(v:Vl):Ct:=if v.own=0∨v.own=c.num+1∨aAH (c.wat l) v=true then c else{c with wat:=upd c.wat l ⟨v.own,v.tok,v.seq,c.clock⟩}
def gA(c:Ct)(o:On)(res tok:Int)(v:Vl):Ct:=
 let c0:={c with doing:=none}
 if res=1 then lD c0 o tok else if res=3 then pY c0 o.lock else if res=2∨res=4 then nV c0 o.lock v else c0
def lO(c:Ct)(o:On)(res own tok:Int):List Ev:=[eP c.num o res own tok]
def fD(c:Ct)(o:On)(kind base:Int)(v:Vl)(n:Nat):List Ev:=(List.range n).map fun (tq:Nat)=>fI ⟨kind,c.num,(tq:Int),o.lock,o.att.bal,base,v⟩
def gB(g:Cf):Nat:=(2*g.f+1).toNat
def gL(c:Ct):At:={zAt with bal:=(c.round+1)*256+c.inc*4+c.num,began:=c.clock,awaited:=2}
def fB(o:On)(c:Ct):On:={o with tries:=o.tries+1,att:=gL c}
def gY(c:Ct)(o:On):Ct:=if 1000≤c.round then gA c o 6 0 zVl else{c with round:=c.round+1,doing:=some (fB o c)}
def fV(g:Cf)(c:Ct)(o:On):List Ev:=if 1000≤c.round then lO c o 6 0 0 else fD c (fB o c) 1 0 zVl (gB g)
def jY(g:Cf)(c:Ct)(o:On):Ct:=if o.tries<g.tries then gY c o else gA c o 5 0 zVl
def jK(g:Cf)(c:Ct)(o:On):List Ev:=if o.tries<g.tries then fV g c o else lO c o 5 0 0
def dN(c:Ct)(kind lock ttl:Int):Ct:=
 if kind=3 then{c with holds:=upd c.holds lock 0}else if kind=1∨kind=2 then{c with holds:=upd c.holds lock (min (c.holds lock) (c.clock+ttl))}else c
def eH(c:Ct)(kind lock ttl:Int):On:=⟨kind,lock,ttl,c.clock,0,zAt,[]⟩
def kV(c:Ct):Int:=if c.up=false then 2 else if c.doing.isSome then 4 else 0
def iV(c:Ct)(kind lock ttl:Int):Ct:=if kV c≠0 then c else gY (dN {c with doing:=some (eH c kind lock ttl)} kind lock ttl) (eH c kind lock ttl)
def iI(g:Cf)(c:Ct)(kind lock ttl:Int):List Ev:=if kV c≠0 then[]else gJ c.num (eH c kind lock ttl)::fV g (dN {c with doing:=some (eH c kind lock ttl)} kind lock ttl) (eH c kind lock ttl)
def yM(c:Ct):Int:=if c.up=false then 2 else 0
def lF(g:Cf)(c:Ct):Ct:=
 if c.up=false then c else
 let c1:={c with clock:=c.clock+1}
 match c.doing with
 |some o=>if g.patience≤c1.clock-o.att.began then jY g c1 o else c1
 |none=>c1
def lQ(g:Cf)(c:Ct):List Ev:=
 if c.up=false then[]else
 let c1:={c with clock:=c.clock+1}
 match c.doing with
 |some o=>if g.patience≤c1.clock-o.att.began then jK g c1 o else[]
 |none=>[]
structure Fw where
 next:Vl
 res:Int
 own:Int
 tok:Int
def oE(c:Ct)(o:On)(v:Vl):Bool:=v.own==c.num+1&& !(c.toks o.lock==0)&&v.tok==c.toks o.lock
def aCE(g:Cf)(c:Ct)(o:On)(v:Vl):Bool:=aAH (c.wat o.lock) v&&decide ((c.wat o.lock).since+(v.ttl*(10+g.drift)+9) / 10+2≤o.att.began)
def qK(o:On)(b:Int):Bool:=o.mine.contains b
def pT(o:On)(t:Int):Bool:=o.mine.any fun b=>decide (b<t)
def gX(g:Cf)(c:Ct)(o:On)(v:Vl):Fw:=
 if qK o v.tok=true then⟨v,1,c.num+1,v.tok⟩
 else if pT o v.tok=true then⟨zVl,5,0,0⟩
 else if v.own=0∨v.own=c.num+1∨aCE g c o v=true then⟨⟨c.num+1,o.att.bal,o.ttl,1⟩,1,c.num+1,o.att.bal⟩
 else⟨v,2,v.own,v.tok⟩
def lR(c:Ct)(o:On)(v:Vl):Fw:=
 if oE c o v=true then⟨⟨v.own,v.tok,o.ttl,min (v.seq+1) 2147483647⟩,1,c.num+1,v.tok⟩else⟨v,3,0,0⟩
def gR(c:Ct)(o:On)(v:Vl):Fw:=
 if oE c o v=true then⟨⟨0,v.tok,0,o.att.bal⟩,1,c.num+1,v.tok⟩
 else if v.own=0∧qK o v.seq=true then⟨v,1,c.num+1,v.tok⟩
 else if 0<o.mine.length∧v.tok≠c.toks o.lock then⟨zVl,5,0,0⟩
 else⟨v,3,0,0⟩
def dD(g:Cf)(c:Ct)(o:On)(v:Vl):Fw:=
 if o.kind=1 then gX g c o v else if o.kind=2 then lR c o v else if o.kind=3 then gR c o v else⟨v,4,v.own,v.tok⟩
def qD(o:On)(v:Vl):Bool:=if o.kind=1 then v.tok==o.att.bal else if o.kind=3 then v.seq==o.att.bal else false
def eV(o:On)(w:Fw):On:={o with att:={o.att with eres:=w.res,eown:=w.own,etok:=w.tok,awaited:=4,ans:=[]},mine:=if qD o w.next=true then o.mine++[o.att.bal]else o.mine}
def iT(g:Cf)(c:Ct)(o:On):Ct:=
 let w:=dD g c o o.att.val
 if w.res=5 then gA c o w.res w.tok o.att.val else{c with doing:=some (eV o w)}
def iN(g:Cf)(c:Ct)(o:On):List Ev:=
 let w:=dD g c o o.att.val
 if w.res=5 then lO c o w.res w.own w.tok else fD c (eV o w) 3 o.att.base w.next (gB g)
def heardOn(o:On)(m:Mg):On:={o with att:={o.att with ans:=o.att.ans++[m.src],base:=if o.att.base<m.base then m.base else o.att.base,val:=if o.att.base<m.base then m.val else o.att.val}}
def iZ(g:Cf)(c:Ct)(o:On)(m:Mg):Ct:=
 if o.att.ans.contains m.src=true then c else
 let o':=heardOn o m
 if(o'.att.ans.length:Int)≤g.f then{c with doing:=some o'}
 else if m.kind=2 then iT g {c with doing:=some o'} o'
 else gA c o' o'.att.eres o'.att.etok o'.att.val
def jF(g:Cf)(c:Ct)(o:On)(m:Mg):List Ev:=
 if o.att.ans.contains m.src=true then[]else
 let o':=heardOn o m
 if(o'.att.ans.length:Int)≤g.f then[]
 else if m.kind=2 then iN g {c with doing:=some o'} o'
 else lO c o' o'.att.eres o'.att.eown o'.att.etok
def gS(g:Cf)(c:Ct)(m:Mg):Ct:=
 if c.up=false then c else
 match c.doing with
 |none=>c
 |some o=>
  if m.bal≠o.att.bal then c
  else if m.kind=5 then jY g {c with round:=max c.round (m.base / 256)} o
  else if m.kind=o.att.awaited then iZ g c o m
  else c
def gT(g:Cf)(c:Ct)(m:Mg):List Ev:=
 if c.up=false then[]else
 match c.doing with
 |none=>[]
 |some o=>
  if m.bal≠o.att.bal then[]
  else if m.kind=5 then jK g {c with round:=max c.round (m.base / 256)} o
  else if m.kind=o.att.awaited then jF g c o m
  else[]
def aEP(c:Ct):Int:=if c.up=false then 2 else 0
def mX(c:Ct):Ct:=if c.up=false then c else⟨c.num,c.inc,false,0,0,fun _=>0,fun _=>0,fun _=>zWt,none⟩
def jU(c:Ct):List Ev:=if c.up=false then[]else[gD (-1-c.num)]
def dW(c:Ct):Int:=if c.up=true then 3 else if c.inc=63 then 5 else 0
def jC(c:Ct):Ct:=if dW c≠0 then c else{c with inc:=c.inc+1,up:=true}
def fW(c:Ct):List Ev:=if dW c≠0 then[]else[pD (-1-c.num)]
def aEa(c:Ct)(l:Int):Bool:=c.up&&decide (c.clock<c.holds l)
structure Chg(S:Nat→Prop)(W W':World):Prop where
 os:W'.os=W.os
 tape:W'.tape=W.tape
 output:W'.output=W.output
 size:W.heap.size≤W'.heap.size
 block:∀k,k<W.heap.size→¬S k→W'.heap[k]?=W.heap[k]?
theorem Chg.refl(S:Nat→Prop)(W:World):Chg S W W:=⟨rfl,rfl,rfl,aE _,fun _ _ _=>rfl⟩
theorem Chg.mono{S T:Nat→Prop}{W W':World}(h:Chg S W W')(hST:∀k,k<W.heap.size→S k→T k):Chg T W W':=
 ⟨h.os,h.tape,h.output,h.size,fun k hk hn=>h.block k hk (fun hs=>hn (hST k hk hs))⟩
theorem Chg.trans{S T:Nat→Prop}{A B C:World}(h:Chg S A B)(k:Chg T B C)(hT:∀x,x<A.heap.size→T x→S x):Chg S A C:=
 ⟨k.os.trans h.os,k.tape.trans h.tape,k.output.trans h.output,bU h.size k.size,fun x hx hn=>(k.block x (aG hx h.size) (fun ht=>hn (hT x hx ht))).trans (h.block x hx hn)⟩
section
variable {S:Nat→Prop}
theorem Chg.drew{A B:World}(h:Chg S A B):Chg S A B.drew:=⟨h.os,h.tape,h.output,h.size,h.block⟩
theorem Chg.alloc{A B:World}(h:Chg S A B)(o:Obj):Chg S A (B.alloc o):=
 ⟨h.os,h.tape,h.output,by simp;have:=h.size;omega,fun x hx hn=>by rw[Below.heap_alloc _ _ _ (aG hx h.size)];exact h.block x hx hn⟩
theorem Chg.setCell{A B:World}(h:Chg S A B)(p:Addr)(u:Value)(hp:p.block<A.heap.size→S p.block):Chg S A (B.setCell p u):=
 ⟨h.os,h.tape,h.output,by simpa using h.size,fun x hx hn=>by rw[Below.heap_setCell _ _ _ _ (fun e=>by subst e;exact hn (hp hx))];exact h.block x hx hn⟩
theorem Chg.grown{A B C:World}{row:Option Nat}(h:Chg S A B)(hg:B.grownBy C row)(hr:∀k,row=some k→k<A.heap.size→S k):Chg S A C:=
 ⟨hg.os.trans h.os,hg.tape.trans h.tape,hg.output.trans h.output,bU h.size hg.size,fun x hx hn=>by
  rw[hg.block x (aG hx h.size) (fun e=>hn (hr x e.symm hx))];exact h.block x hx hn⟩
theorem Chg.of_below{A B:World}(h:Below A.heap.size A B):Chg S A B:=⟨h.os,h.tape,h.output,h.size,fun k hk _=>h.block k hk⟩
theorem Chg.below{A B:World}{n:Nat}(h:Chg S A B)(hS:∀k,S k→n≤k)(hn:n≤A.heap.size):Below n A B:=
 ⟨h.os,h.tape,h.output,h.size,fun k hk=>h.block k (by omega) (fun hs=>by have:=hS k hs;omega)⟩
end
abbrev NoS:Nat→Prop:=fun _=>False
section
variable {W:World}
theorem cW{b:Nat}{o:Obj}(h:W.heap[b]?=some o):b<W.heap.size:=by
 rcases Nat.lt_or_ge b W.heap.size with a|a
 ·exact a
 ·rw[Array.getElem?_eq_none a]at h;cases h
theorem dT{a b:Nat}{x y:Obj}(h:W.heap[a]?=some x)(k:W.heap[b]?=some y)(hxy:x≠y):a≠b:=fun e=>hxy (by subst e;rw[h]at k;exact aN k)
theorem fM{a b:Nat}{c d:Array Value}{s t:TypeId}{f g:Nat×Nat}(h:W.heap[a]?=some (.cells c s f))(k:W.heap[b]?=some (.cells d t g))(hst:s≠t):a≠b:=
 dT h k (fun e=>hst (by cases e;rfl))
theorem cC{g:Nat}{cur:Array Value}{t:TypeId}{f:Nat×Nat}(h:W.heap[g]?=some (.cells cur t f))(j:Nat)(x:Value)(hj:cur[j]?=some x):W.cell? ⟨g,j,none⟩=some x:=by
 rw[cell_of_row W g j _ _ _ h];exact hj
theorem cV{g:Nat}{cur:Array Value}{t:TypeId}(h:W.heap[g]?=some (.cells cur t (0,0)))(j:Nat):W.frozen? ⟨g,j,none⟩=false:=frozen_of_row W g j _ _ h
end
theorem jW{w:World}{base:Nat}{e:TypeId}{size:Nat}{v:Value}{n:Nat}{xs:List Value}(h:w.ownsRow base e size v n xs):
 (v= .slice none 0 0∧n=0)∨∃g cap cur,v= .slice (some ⟨g,0,none⟩) n cap∧base≤g∧w.heap[g]?=some (.cells cur e (0,0)):=by
 rcases h.2 with h|⟨g,cap,cur,a,c,b,_⟩
 ·exact Or.inl h
 ·exact Or.inr ⟨g,cap,cur,a,c,b⟩
theorem fP{w w':World}{base:Nat}{e:TypeId}{size:Nat}{v:Value}{n:Nat}{xs:List Value}(h:w.ownsRow base e size v n xs)(hb:∀g,v.ownBlock=some g→w'.heap[g]?=w.heap[g]?):w'.ownsRow base e size v n xs:=by
 refine⟨h.1,?_⟩;rcases h.2 with d|⟨g,b,a,c,i,f,r⟩
 ·exact Or.inl d
 ·exact Or.inr ⟨g,b,a,c,i,by rw[hb g (by rw[c];rfl)];exact f,r⟩
theorem sP{w:World}{base:Nat}{e:TypeId}{size:Nat}{v:Value}{n:Nat}{xs:List Value}(h:w.ownsRow base e size v n xs):∀g,v.ownBlock=some g→g<w.heap.size:=fun g hg=>(h.lt g hg).2
theorem fS{W:World}{base:Nat}{e:TypeId}{size:Nat}{v:Value}{n:Nat}{xs:List Value}(h:W.ownsRow base e size v n xs){b:Nat}{c:Array Value}{t:TypeId}{f:Nat×Nat}(hb:W.heap[b]?=some (.cells c t f))(het:e≠t):∀k,v.ownBlock=some k→k≠b:=fun k hk=>by
 rcases jW h with⟨rfl,_⟩|⟨q,cap,cur,rfl,_,hq⟩
 ·cases hk
 ·have:q=k:=by simpa[Value.ownBlock]using hk
  subst this;exact fM hq hb het
theorem pO{W:World}{base base':Nat}{e e':TypeId}{size size':Nat}{v v':Value}{n n':Nat}{xs xs':List Value}(h:W.ownsRow base e size v n xs)(h':W.ownsRow base' e' size' v' n' xs')(het:e≠e'):∀k,v.ownBlock=some k→v'.ownBlock≠some k:=fun k hk hk'=>by
 rcases jW h' with⟨rfl,_⟩|⟨q,cap,cur,rfl,_,hq⟩
 ·cases hk'
 ·have:q=k:=by simpa[Value.ownBlock]using hk'
  subst this;exact fS h hq het _ hk rfl
section
variable {S:Nat→Prop} {W W':World}
theorem Chg.kept(h:Chg S W W'){b:Nat}{o:Obj}(hb:W.heap[b]?=some o)(hn:¬S b):W'.heap[b]?=some o:=(h.block b (cW hb) hn).trans hb
theorem Chg.row(h:Chg S W W'){base:Nat}{e:TypeId}{size:Nat}{v:Value}{n:Nat}{xs:List Value}(hv:W.ownsRow base e size v n xs)(hn:∀g,v.ownBlock=some g→¬S g):W'.ownsRow base e size v n xs:=
 fP hv fun g hg=>h.block g (sP hv g hg) (hn g hg)
end
theorem Chg.of_grown{A B:World}{row:Option Nat}(hg:A.grownBy B row):Chg (fun k=>some k=row) A B:=⟨hg.os,hg.tape,hg.output,hg.size,fun k hk hn=>hg.block k hk hn⟩
section
variable {W:World}
theorem cX{b:Nat}{x:Obj}(o:Obj)(h:W.heap[b]?=some x):(W.alloc o).heap[b]?=some x:=(Below.heap_alloc W o b (cW h)).trans h
theorem cU{b:Nat}{c:Array Value}{t:TypeId}(h:W.heap[b]?=some (.cells c t (0,0)))(i:Nat)(v:Value):(W.setCell ⟨b,i,none⟩ v).heap[b]?=some (.cells (c.setIfInBounds i v) t (0,0)):=heap_setCell_same W b i c t v h
theorem aAc{b:Nat}{x:Obj}(h:W.heap[b]?=some x)(a:Addr)(v:Value)(hn:b≠a.block):(W.setCell a v).heap[b]?=some x:=(Below.heap_setCell W a v b hn).trans h
theorem eW{g:Nat}{cur:Array Value}{t:TypeId}{f:Nat×Nat}(h:W.heap[g]?=some (.cells cur t f))(off:Nat)(cs:List Value)(hc:∀j v,cs[j]?=some v→cur[off+j]?=some v):
 ∀j v,cs[j]?=some v→W.cell? ((⟨g,off,none⟩:Addr).add j)=some v:=by
 intro j v a;have e:(⟨g,off,none⟩:Addr).add j=⟨g,off+j,none⟩:=by unfold Addr.add;split<;>simp_all
 rw[e];exact cC h _ _ (hc j v a)
theorem cF{g:Nat}{cs:List Value}{t:TypeId}{f:Nat×Nat}(h:W.heap[g]?=some (.cells cs.toArray t f)):
 ∀j v,cs[j]?=some v→W.cell? ((⟨g,0,none⟩:Addr).add j)=some v:=eW h 0 cs (fun j v hj=>by simpa using hj)
end
section
variable {P:Program}
theorem eK(w:World)(a:Addr)(ty:TypeId)(cs:List Value)(d:TypeDesc)(hc:∀j v,cs[j]?=some v→w.cell? (a.add j)=some v)
 (hu:P.underlying ty=some d) (hd:(match d with| .struct _| .array _ _=>true|_=>false)=true) (hi:(P.info? ty).map (·.size)=some cs.length):
 (loadVar ty a).run P w= .ok (.agg cs.toArray) w:=by
 have e:=run_loadCells_list (P:=P) w a cs hc;cases hq:P.info? ty with
 |none=>simp[hq]at hi
 |some i=>
  have c:i.size=cs.length:=by simpa[hq]using hi
  have b:(isAgg ty).run P w= .ok true w:=by
   unfold isAgg;rw[aT,run_underlying hu w];cases d<;>simp_all
  simp[loadVar,aT,b,sizeOf,typeInfo,hq,c,e]
theorem aDa{o:Oper}{a:Act}{w:World}{K:Act→World→Prop}{Q:Exit→Act→World→Prop}(ty:TypeId)(x:Operand)(ho:o.op= .load ty x)
 (p:Addr) (hx:a.eval x= .pointer (some p)) (cs:List Value) (d:TypeDesc) (hc:∀j v,cs[j]?=some v→w.cell? (p.add j)=some v)
 (hu:P.underlying ty=some d) (hd:(match d with| .struct _| .array _ _=>true|_=>false)=true) (hi:(P.info? ty).map (·.size)=some cs.length)
 (h:K (a.put o.dst (.agg cs.toArray)) w):o.wp P a w K Q:=by
 unfold Oper.wp execOp;simp only[ho,hx,Instr.loadAt,Instr.sureAddr,aT,Sem.run_pure,Result.andThen_ok,eK w p ty cs d hc hu hd hi];exact h
theorem cI{ops:Array Oper}{rest:List Oper}{o:Oper}{a:Act}{w:World}{Q:Exit→Act→World→Prop}(hgd:o.guard=none)(ty:TypeId)(x:Operand)(ho:o.op= .load ty x)
 (p:Addr) (hx:a.eval x= .pointer (some p)) (cs:List Value) (d:TypeDesc) (hc:∀j v,cs[j]?=some v→w.cell? (p.add j)=some v)
 (hu:P.underlying ty=some d) (hd:(match d with| .struct _| .array _ _=>true|_=>false)=true) (hi:(P.info? ty).map (·.size)=some cs.length)
 (h:wpList P ops Q rest (a.put o.dst (.agg cs.toArray)) w):wpList P ops Q (o::rest) a w:=
 wpList_plain hgd fun _ hK=>aDa ty x ho p hx cs d hc hu hd hi (hK _ _ h)
end
section
variable {P:Program}{ops:Array Oper}{md:Region.Mode}{S:World→Prop}{Q:Exit→Act→World→Prop}{keep:Nat→Bool}
def gZ(P:Program)(md:Region.Mode)(ops:Array Oper)(Q:Exit→Act→World→Prop)(S:World→Prop)(keep:Nat→Bool):Nat→Array Bool→Act→World→Prop
 |0,listed,a,w=>Region.ready md ops listed=[]∧Q .normal a w
 |f+1,listed,a,w=>
  (Region.ready md ops listed=[]→Q .normal a w)∧
  ∀i ∈ Region.ready md ops listed,wpOp P ops Q i (fun a' w'=>(keep i=true→S w→S w')∧gZ P md ops Q S keep f (listed.setIfInBounds i true) a' w') a w
theorem tF:∀(f:Nat) (listed:Array Bool) (a:Act) (w:World),gZ P md ops Q S keep f listed a w→wpAny P md ops Q f listed a w
 |0,_,_,_,h=>h
 |f+1,_,_,_,h=>⟨h.1,fun i hi=>wpOp_mono (fun a' w' h'=>tF f _ a' w' h'.2) (h.2 i hi)⟩
structure Closed(md:Region.Mode)(ops:Array Oper)(listed:Array Bool):Prop where
 size:listed.size=ops.size
 closed:∀j oj,ops[j]?=some oj→listed.getD j false=true→∀e ∈ oj.after,Region.binds md e=true→listed.getD e.on false=true
theorem Closed.set{i:Nat}{listed:Array Bool}(inv:Closed md ops listed)(hi:i ∈ Region.ready md ops listed):Closed md ops (listed.setIfInBounds i true):=by
 obtain⟨_,d,c,b⟩:=mem_ready.1 hi;refine⟨by simp[inv.size],fun j oj hj hl e he hb=>?_⟩;by_cases a:i=j
 ·subst a;have:oj=d:=aN (hj.symm.trans c);subst this;exact getD_set_true (b e he hb)
 ·rw[getD_set_ne false a]at hl;exact getD_set_true (inv.closed j oj hj hl e he hb)
def sO(md:Region.Mode)(ops:Array Oper)(i:Nat):Nat→Nat→Bool
 |0,_=>false
 |f+1,t=>match ops[t]? with
  |some o=>o.after.any fun e=>Region.binds md e&&(e.on==i||sO md ops i f e.on)
  |none=>false
theorem uT{i:Nat}{listed:Array Bool}(inv:Closed md ops listed):∀(f t:Nat),sO md ops i f t=true→(∃o,ops[t]?=some o∧∀e ∈ o.after,Region.binds md e=true→listed.getD e.on false=true)→listed.getD i false=true
 |0,t,h,_=>by simp[sO]at h
 |f+1,t,h,⟨o,ho,hall⟩=>by
  simp only[sO,ho]at h;obtain⟨e,he,hb⟩:=Array.any_eq_true'.1 h;simp only[aR,Bool.or_eq_true,beq_iff_eq]at hb;have hl:=hall e he hb.1;rcases hb.2 with h2|h2
  ·rw[←h2];exact hl
  ·have hlt:e.on<ops.size:=by
    rcases Nat.lt_or_ge e.on listed.size with h'|h'
    ·rw[←inv.size];exact h'
    ·simp[Array.getElem?_eq_none h']at hl
   exact uT inv f e.on h2 ⟨ops[e.on],by simp[hlt],fun e' he' hb'=>inv.closed e.on _ (by simp[hlt]) hl e' he' hb'⟩
def YieldsS(P:Program)(ops:Array Oper)(S:World→Prop)(o:Oper)(v:Value)(a:Act):Prop:=
 (Region.wanted o (yielded ops a.tmps)=true∧∀w,S w→((execOp a.eval o).run P w= .ok (.value v) w∨∃f args,(execOp a.eval o).run P w= .ok (.enter f args) w∧Calls P f args w (fun e w'=>e= .returned v∧w'=w)))∨
 (Region.wanted o (yielded ops a.tmps)=false∧v=undef)
theorem YieldsS.wpOp{i:Nat}{o:Oper}{v:Value}{a:Act}(hi:ops[i]?=some o)(hy:YieldsS P ops S o v a)
 {K:Act→World→Prop} {w:World} (hS:S w) (h:K (a.put o.dst v) w):wpOp P ops Q i K a w:=by
 unfold Go.wpOp;simp only[hi];rcases hy with⟨c,b⟩|⟨c,rfl⟩
 ·rcases b w hS with b|⟨f,d,b,g⟩
  ·simp only[c,if_true,Oper.wp,b,Oper.upon];exact .inl h
  ·simp only[c,if_true,Oper.wp,b,Oper.upon];refine .inl (g.mono fun e w' he=>?_);obtain⟨rfl,rfl⟩:=he;exact h
 ·simp only[c,aU,if_false];exact h
theorem YieldsS.of_same{o:Oper}{v:Value}{a a':Act}(hy:YieldsS P ops S o v a)(he:execOp a'.eval o=execOp a.eval o)
 (hw:Region.wanted o (yielded ops a'.tmps)=Region.wanted o (yielded ops a.tmps)):YieldsS P ops S o v a':=by
 unfold YieldsS at*;rw[he,hw];exact hy
theorem aFt{j:Nat}{oi oj:Oper}{v:Value}(hj:ops[j]?=some oj)(hap:oi.apart ops oj=true)
 (hsi:∀cs b,oi.op≠.select cs b) (hsj:∀cs b,oj.op≠.select cs b)
 (hQ:∀c a w,Q (.panic c) (a.put oi.dst v) w→Q (.panic c) a w) {K:Act→World→Prop} {a:Act} {w:World}
 (hy:YieldsS P ops S oi v a) (h:wpOp P ops Q j K (a.put oi.dst v) w):
 wpOp P ops Q j (fun a' w'=>YieldsS P ops S oi v a'∧K (a'.put oi.dst v) w') a w:=by
 obtain⟨p,m,q⟩:=Oper.apart_spec hap;have g:∀(a:Act),YieldsS P ops S oi v a→∀u,YieldsS P ops S oi v (a.put oj.dst u):=fun a hy u=>
  hy.of_same (execOp_put oi hsi a oj.dst u q) (wanted_put oi a oj.dst u q)
 have k:∀d,YieldsS P ops S oi v {a with defers:=d::a.defers}:=fun d=>hy.of_same rfl rfl;unfold wpOp at*;simp only[hj]at*;rw[wanted_put oj a oi.dst v p]at h;split
 ·rename_i o;simp only[o,if_true]at h;rcases h with h|⟨i,l⟩
  case inr=>exact .inr ⟨by unfold Oper.asks at*;rw[execOp_put oj hsj a oi.dst v p]at i;exact i,l⟩
  refine .inl ?_;unfold Oper.wp at*;rw[execOp_put oj hsj a oi.dst v p]at h;generalize (execOp a.eval oj).run P w=r at*;cases r with
  |ok n w'=>
   cases n<;>simp only[Oper.upon]at h⊢
   case value u=>exact⟨g a hy u,by rw[←Act.put_comm a v u m];exact h⟩
   case skip=>exact⟨g a hy _,by rw[←Act.put_comm a v undef m];exact h⟩
   case defer d=>
    refine⟨g _ (k d) _,?_⟩;rw[←Act.put_comm _ v undef m,←Act.put_defers];exact h
   case enter f args=>
    refine Calls.mono h fun e w'' he=>?_;cases e with
    |returned u=>exact⟨g a hy u,by rw[←Act.put_comm a v u m];exact he⟩
    |panicked c=>exact hQ _ _ _ he
    |outgrown=>exact he
   case row row args=>exact Rows.mono h fun u w'' he=>⟨g a hy u,by rw[←Act.put_comm a v u m];exact he⟩
  |halt x w'=>
   cases x<;>simp only[Oper.upon]at h⊢
   case panic u=>exact hQ _ _ _ h
 ·rename_i o;simp only[o]at h;exact⟨g a hy _,by rw[←Act.put_comm a v undef m];exact h⟩
section
variable {i:Nat} {oi:Oper} {v:Value}
theorem oU(hi:ops[i]?=some oi)(hsel:∀(j:Nat) (o:Oper) cs b,ops[j]?=some o→o.op≠.select cs b)
 (hQ:∀c (a:Act) (i:Nat) (o:Oper) v w,ops[i]?=some o→Q (.panic c) (a.put o.dst v) w→Q (.panic c) a w):
 ∀(f:Nat) (listed:Array Bool) (a:Act) (w:World),
  (∀j oj,ops[j]?=some oj→j≠i→listed.getD j true=false→(∀e ∈ oj.after,Region.binds md e=true→e.on≠i)→oi.apart ops oj=true)→
  i ∈ Region.ready md ops listed→Yields P ops oi v a→
  gZ P md ops Q S keep f (listed.setIfInBounds i true) (a.put oi.dst v) w→gZ P md ops Q S keep (f+1) listed a w:=by
 intro f;induction f with
 |zero=>
  intro listed a w _ p x H;refine⟨fun h=>(by rw[h]at p;cases p),fun j hj=>?_⟩;by_cases d:j=i
  ·subst d;exact x.wpOp hi ⟨fun _ h=>h,H⟩
  ·have:=ready_mono hj d;rw[H.1]at this;cases this
 |succ f ih=>
  intro listed a w g p x H;refine⟨fun h=>(by rw[h]at p;cases p),fun j hj=>?_⟩;by_cases d:j=i
  ·subst d;exact x.wpOp hi ⟨fun _ h=>h,H⟩
  ·have u:=H.2 j (ready_mono hj d);obtain⟨n,oj,q,t⟩:=mem_ready.1 hj;have l:=(mem_ready.1 p).1;have s:∀e ∈ oj.after,Region.binds md e=true→e.on≠i:=fun e he hb heq=>by
    have u:=t e he hb;rw[heq,getD_both l]at u;cases u
   have y:=wpOp_put q (g j oj q d n s) (fun cs b=>hsel i oi cs b hi) (fun cs b=>hsel j oj cs b q) (fun c a w h=>hQ c a i oi _ w hi h) x u;have m:∀k ok,ops[k]?=some ok→k≠i→(listed.setIfInBounds j true).getD k true=false→
    (∀e ∈ ok.after,Region.binds md e=true→e.on≠i)→oi.apart ops ok=true:=fun k ok hk hki l hno=>by
    refine g k ok hk hki ?_ hno;by_cases r:j=k
    ·subst r;exact n
    ·rw[getD_set_ne true r]at l;exact l
   refine wpOp_mono (fun a' w' h3=>⟨h3.2.1,ih (listed.setIfInBounds j true) a' w' m (ready_mono p (Ne.symm d)) h3.1 ?_⟩) y;rw[Array.setIfInBounds_comm _ _ d];exact h3.2.2
theorem sG(hi:ops[i]?=some oi)(hsel:∀(j:Nat) (o:Oper) cs b,ops[j]?=some o→o.op≠.select cs b)
 (hQ:∀c (a:Act) (i:Nat) (o:Oper) v w,ops[i]?=some o→Q (.panic c) (a.put o.dst v) w→Q (.panic c) a w)
 (hkeep:∀t,t<ops.size→keep t=false→sO md ops i ops.size t=true):
 ∀(f:Nat) (listed:Array Bool) (a:Act) (w:World),Closed md ops listed→
  (∀j oj,ops[j]?=some oj→j≠i→listed.getD j true=false→(∀e ∈ oj.after,Region.binds md e=true→e.on≠i)→oi.apart ops oj=true)→
  i ∈ Region.ready md ops listed→YieldsS P ops S oi v a→S w→
  gZ P md ops Q S keep f (listed.setIfInBounds i true) (a.put oi.dst v) w→gZ P md ops Q S keep (f+1) listed a w:=by
 intro f;induction f with
 |zero=>
  intro listed a w _ _ r z A H;refine⟨fun h=>(by rw[h]at r;cases r),fun j hj=>?_⟩;by_cases d:j=i
  ·subst d;exact z.wpOp hi A ⟨fun _ h=>h,H⟩
  ·have:=ready_mono hj d;rw[H.1]at this;cases this
 |succ f ih=>
  intro listed a w s m r z A H;refine⟨fun h=>(by rw[h]at r;cases r),fun j hj=>?_⟩;by_cases d:j=i
  ·subst d;exact z.wpOp hi A ⟨fun _ h=>h,H⟩
  ·have y:=H.2 j (ready_mono hj d);obtain⟨p,oj,g,q⟩:=mem_ready.1 hj;have l:=(mem_ready.1 r).1;have x:∀e ∈ oj.after,Region.binds md e=true→e.on≠i:=fun e he hb heq=>by
    have y:=q e he hb;rw[heq,getD_both l]at y;cases y
   have C:keep j=true:=by
    cases hk:keep j with
    |true=>rfl
    |false=>
     have B:=(Array.getElem?_eq_some_iff.1 g).1;have:=uT s _ j (hkeep j B hk) ⟨oj,g,q⟩;rw[getD_both l]at this;cases this
   have D:=aFt g (m j oj g d p x) (fun cs b=>hsel i oi cs b hi) (fun cs b=>hsel j oj cs b g) (fun c a w h=>hQ c a i oi _ w hi h) z y;have n:∀k ok,ops[k]?=some ok→k≠i→(listed.setIfInBounds j true).getD k true=false→
    (∀e ∈ ok.after,Region.binds md e=true→e.on≠i)→oi.apart ops ok=true:=fun k ok hk hki l hno=>by
    refine m k ok hk hki ?_ hno;by_cases u:j=k
    ·subst u;exact p
    ·rw[getD_set_ne true u]at l;exact l
   refine wpOp_mono (fun a' w' h3=>⟨h3.2.1,ih (listed.setIfInBounds j true) a' w' (s.set hj) n (ready_mono r (Ne.symm d)) h3.1 (h3.2.1 C A) ?_⟩) D;rw[Array.setIfInBounds_comm _ _ d];exact h3.2.2
end
def dP(P:Program)(ops:Array Oper)(Q:Exit→Act→World→Prop)(S:World→Prop)(K:Act→World→Prop):List (Nat×Oper)→Act→World→Prop
 |[],a,w=>K a w
 |(0,o)::rest,a,w=>∃v,Yields P ops o v a∧dP P ops Q S K rest (a.put o.dst v) w
 |(1,o)::rest,a,w=>∃v,YieldsS P ops S o v a∧dP P ops Q S K rest (a.put o.dst v) w
 |(_+2,o)::rest,a,w=>(if Region.wanted o (yielded ops a.tmps)then o.wp P a w (fun a' w'=>S w'∧dP P ops Q S K rest a' w') Q∨(o.asks P a w∧LetsOut Q)else(S w∧dP P ops Q S K rest (a.put o.dst undef) w))
section
variable {K:Act→World→Prop}
theorem cD{a:Act}{w:World}(h:K a w):dP P ops Q S K [] a w:=h
theorem kA{o:Oper}{rest:List (Nat×Oper)}{a:Act}{w:World}{v:Value}(hg:o.guard=none)(hy:∀x,(execOp a.eval o).run P x= .ok (.value v) x)(h:dP P ops Q S K rest (a.put o.dst v) w):dP P ops Q S K ((0,o)::rest) a w:=
 ⟨v,Or.inl ⟨by simp[Region.wanted,hg],hy⟩,h⟩
theorem nD{o:Oper}{rest:List (Nat×Oper)}{a:Act}{w:World}{v:Value}(hg:Region.wanted o (yielded ops a.tmps)=true)(hy:∀x,(execOp a.eval o).run P x= .ok (.value v) x)(h:dP P ops Q S K rest (a.put o.dst v) w):dP P ops Q S K ((0,o)::rest) a w:=
 ⟨v,Or.inl ⟨hg,hy⟩,h⟩
theorem cP{o:Oper}{rest:List (Nat×Oper)}{a:Act}{w:World}(hg:Region.wanted o (yielded ops a.tmps)=false)(h:dP P ops Q S K rest (a.put o.dst undef) w):dP P ops Q S K ((0,o)::rest) a w:=
 ⟨undef,Or.inr ⟨hg,rfl⟩,h⟩
theorem cM{o:Oper}{rest:List (Nat×Oper)}{a:Act}{w:World}{v:Value}(hg:o.guard=none)(hy:∀x,S x→(execOp a.eval o).run P x= .ok (.value v) x)(h:dP P ops Q S K rest (a.put o.dst v) w):dP P ops Q S K ((1,o)::rest) a w:=
 ⟨v,Or.inl ⟨by simp[Region.wanted,hg],fun x hx=>Or.inl (hy x hx)⟩,h⟩
theorem kU{o:Oper}{rest:List (Nat×Oper)}{a:Act}{w:World}{v:Value}(hg:Region.wanted o (yielded ops a.tmps)=true)(hy:∀x,S x→(execOp a.eval o).run P x= .ok (.value v) x)(h:dP P ops Q S K rest (a.put o.dst v) w):dP P ops Q S K ((1,o)::rest) a w:=
 ⟨v,Or.inl ⟨hg,fun x hx=>Or.inl (hy x hx)⟩,h⟩
theorem cN{o:Oper}{rest:List (Nat×Oper)}{a:Act}{w:World}(hg:Region.wanted o (yielded ops a.tmps)=false)(h:dP P ops Q S K rest (a.put o.dst undef) w):dP P ops Q S K ((1,o)::rest) a w:=
 ⟨undef,Or.inr ⟨hg,rfl⟩,h⟩
theorem dB{o:Oper}{rest:List (Nat×Oper)}{a:Act}{w:World}{v:Value}{f:FuncId}{args:Array Value}(hg:Region.wanted o (yielded ops a.tmps)=true)(hy:∀x,S x→(execOp a.eval o).run P x= .ok (.enter f args) x)(hc:∀x,S x→Calls P f args x (fun e w'=>e= .returned v∧w'=x))(h:dP P ops Q S K rest (a.put o.dst v) w):dP P ops Q S K ((1,o)::rest) a w:=
 ⟨v,Or.inl ⟨hg,fun x hx=>Or.inr ⟨f,args,hy x hx,hc x hx⟩⟩,h⟩
theorem dC{o:Oper}{rest:List (Nat×Oper)}{a:Act}{w:World}(hg:Region.wanted o (yielded ops a.tmps)=true)
 (h:∀C:Act→World→Prop,(∀a' w',S w'→dP P ops Q S K rest a' w'→C a' w')→o.wp P a w C Q):dP P ops Q S K ((2,o)::rest) a w:=by
 unfold dP;rw[if_pos hg];exact Or.inl (h _ fun _ _ h1 h2=>⟨h1,h2⟩)
end
def aGU(md:Region.Mode)(ops:Array Oper):List Nat→Array Bool→Bool
 |[],listed=>(Region.ready md ops listed).isEmpty
 |k::l,listed=>decide (Region.ready md ops listed=[k])&&aGU md ops l (listed.setIfInBounds k true)
def wR(md:Region.Mode)(ops:Array Oper)(ts:List Nat):List (Nat×Nat)→Array Bool→Bool
 |[],listed=>aGU md ops ts listed
 |(0,k)::l,listed=>(Region.ready md ops listed).contains k&&Region.free md ops listed k&&wR md ops ts l (listed.setIfInBounds k true)
 |(1,k)::l,listed=>(Region.ready md ops listed).contains k&&Region.free md ops listed k&&wR md ops ts l (listed.setIfInBounds k true)
 |(_+2,k)::l,listed=>decide (Region.ready md ops listed=[k])&&wR md ops ts l (listed.setIfInBounds k true)
def aCI(ts:List Nat)(i:Nat):Bool:= !ts.contains i
def aII(md:Region.Mode)(ops:Array Oper)(hs:List (Nat×Nat))(ts:List Nat):Bool:=
 Region.noSelect ops&&wR md ops ts hs (Array.replicate ops.size false)&&(hs.all fun p=> !(p.1==1)||ts.all fun t=>sO md ops p.2 ops.size t)&&
  ((hs.map (·.2)++ts).all fun i=>decide (i<ops.size))&&decide (hs.length+ts.length=ops.size)
def mQ(l:List Oper):List Nat→List Oper
 |[]=>[]
 |i::is=>match l[i]? with
  |some o=>o::mQ l is
  |none=>mQ l is
def iY(l:List Oper):List (Nat×Nat)→List (Nat×Oper)
 |[]=>[]
 |(b,i)::is=>match l[i]? with
  |some o=>(b,o)::iY l is
  |none=>iY l is
theorem wU:∀(ts:List Nat) (listed:Array Bool) (a:Act) (w:World),(∀t ∈ ts,t<ops.size∧keep t=false)→aGU md ops ts listed=true→
 wpList P ops Q (mQ ops.toList ts) a w→gZ P md ops Q S keep ts.length listed a w
 |[],listed,a,w,_,hB,h=>⟨by simpa[aGU]using hB,h⟩
 |t::ts,listed,a,w,hlt,hB,h=>by
  obtain⟨ht,hk⟩:=hlt t (by simp);have h0:ops[t]?=some ops[t]:=by simp[ht]
  have h0':ops.toList[t]?=some ops[t]:=by simp[ht]
  simp only[aGU,aR,aM]at hB;simp only[mQ,h0']at h;refine⟨fun h1=>(by rw[hB.1]at h1;cases h1),fun i hi=>?_⟩;rw[hB.1]at hi;have hit:i=t:=by simpa using hi
  subst hit;have hw:wpOp P ops Q i (wpList P ops Q (mQ ops.toList ts)) a w:=by unfold wpOp;simp only[h0];exact h
  exact wpOp_mono (fun a' w' h'=>⟨fun hk'=>(by rw[hk]at hk';cases hk'),wU ts _ a' w' (fun t ht=>hlt t (by simp[ht])) hB.2 h'⟩) hw
theorem pR{ts:List Nat}(hsel:Region.noSelect ops=true)(hQ:∀c (a:Act) (i:Nat) (o:Oper) v w,ops[i]?=some o→Q (.panic c) (a.put o.dst v) w→Q (.panic c) a w)
 (hkeep:∀t,t<ops.size→keep t=false→t ∈ ts) (hts:∀t ∈ ts,t<ops.size∧keep t=false):
 ∀(hs:List (Nat×Nat)) (listed:Array Bool) (a:Act) (w:World),S w→(∀p ∈ hs,p.2<ops.size)→(∀p ∈ hs,p.1=1→∀t ∈ ts,sO md ops p.2 ops.size t=true)→Closed md ops listed→
 wR md ops ts hs listed=true→
 dP P ops Q S (fun a'' w''=>wpList P ops Q (mQ ops.toList ts) a'' w'') (iY ops.toList hs) a w→
 gZ P md ops Q S keep (hs.length+ts.length) listed a w
 |[],listed,a,w,_,_,_,_,hB,h=>by
  rw[List.length_nil,Nat.zero_add];exact wU ts listed a w hts hB h
 |(0,k)::hs,listed,a,w,hS,hlt,hwt,inv,hB,h=>by
  have hk:=hlt (0,k) (by simp);have h0:ops[k]?=some ops[k]:=by simp[show k<ops.size from hk]
  have h0':ops.toList[k]?=some ops[k]:=by simp[show k<ops.size from hk]
  simp only[wR,aR]at hB;obtain⟨⟨hr,hf⟩,hB'⟩:=hB;have hr':k ∈ Region.ready md ops listed:=by simpa using hr
  simp only[iY,h0']at h;rw[bH,show hs.length+1+ts.length=(hs.length+ts.length)+1 by omega];obtain⟨v,hy,hK⟩:=h;have ih:=pR hsel hQ hkeep hts hs (listed.setIfInBounds k true) (a.put ops[k].dst v) w hS (fun p hp=>hlt p (by simp[hp])) (fun p hp=>hwt p (by simp[hp])) (inv.set hr') hB' hK;exact oU h0 (Region.noSelect_spec hsel) hQ _ listed a w (Region.free_spec h0 hf) hr' hy ih
 |(1,k)::hs,listed,a,w,hS,hlt,hwt,inv,hB,h=>by
  have hk:=hlt (1,k) (by simp);have h0:ops[k]?=some ops[k]:=by simp[show k<ops.size from hk]
  have h0':ops.toList[k]?=some ops[k]:=by simp[show k<ops.size from hk]
  simp only[wR,aR]at hB;obtain⟨⟨hr,hf⟩,hB'⟩:=hB;have hr':k ∈ Region.ready md ops listed:=by simpa using hr
  simp only[iY,h0']at h;rw[bH,show hs.length+1+ts.length=(hs.length+ts.length)+1 by omega];obtain⟨v,hy,hK⟩:=h;have ih:=pR hsel hQ hkeep hts hs (listed.setIfInBounds k true) (a.put ops[k].dst v) w hS (fun p hp=>hlt p (by simp[hp])) (fun p hp=>hwt p (by simp[hp])) (inv.set hr') hB' hK;exact sG h0 (Region.noSelect_spec hsel) hQ (fun t ht hkt=>hwt (1,k) (by simp) rfl t (hkeep t ht hkt)) _ listed a w inv (Region.free_spec h0 hf) hr' hy hS ih
 |(n+2,k)::hs,listed,a,w,hS,hlt,hwt,inv,hB,h=>by
  have hk:=hlt (n+2,k) (by simp);have h0:ops[k]?=some ops[k]:=by simp[show k<ops.size from hk]
  have h0':ops.toList[k]?=some ops[k]:=by simp[show k<ops.size from hk]
  simp only[wR,aR,aM]at hB;simp only[iY,h0']at h;rw[bH,show hs.length+1+ts.length=(hs.length+ts.length)+1 by omega];refine⟨fun h1=>(by rw[hB.1]at h1;cases h1),fun i hi=>?_⟩;have hi0:=hi;rw[hB.1]at hi;have hit:i=k:=by simpa using hi
  subst hit;have hw:wpOp P ops Q i (fun a' w'=>S w'∧dP P ops Q S (fun a'' w''=>wpList P ops Q (mQ ops.toList ts) a'' w'') (iY ops.toList hs) a' w') a w:=by
   unfold wpOp;simp only[h0];unfold dP at h;split
   ·rename_i hwd;rw[if_pos hwd]at h;exact h
   ·rename_i hwd;rw[if_neg hwd]at h;exact h
  exact wpOp_mono (fun a' w' h'=>⟨fun _ _=>h'.1,pR hsel hQ hkeep hts hs _ a' w' h'.1 (fun p hp=>hlt p (by simp[hp])) (fun p hp=>hwt p (by simp[hp])) (inv.set hi0) hB.2 h'.2⟩) hw
section
variable {id:Nat} {a:Act} {w:World} {l:List Oper} (hs:List (Nat×Nat)) (ts:List Nat) (S:World→Prop)
theorem lH(hm:P.follows .mixedOrders=true)(hB:aII .any l.toArray hs ts=true)
 (hQ:∀c (a:Act) (i:Nat) (o:Oper) v w,l.toArray[i]?=some o→Q (.panic c) (a.put o.dst v) w→Q (.panic c) a w) (hS:S w.drew)
 (h:dP P l.toArray Q S (fun a'' w''=>wpList P l.toArray Q (mQ l ts) a'' w'') (iY l hs) a w.drew):(Code.region id l.toArray true).wp P Q a w:=by
 simp only[aII,aR,aM]at hB;obtain⟨⟨⟨⟨g,b⟩,r⟩,q⟩,e⟩:=hB;have d:=fun i hi=>of_decide_eq_true (List.all_eq_true.1 q i hi);have k:Closed .any l.toArray (Array.replicate l.toArray.size false):=
  ⟨by simp,fun j oj _ hl=>(by rw[getD_replicate_false]at hl;cases hl)⟩
 have f:∀t,t<l.toArray.size→aCI ts t=false→t ∈ ts:=fun t _ h=>by simpa[aCI]using h
 have n:∀t ∈ ts,t<l.toArray.size∧aCI ts t=false:=fun t ht=>⟨d t (by simp[ht]),by simp[aCI,ht]⟩;have H:=pR (md:=.any) (keep:=aCI ts) g hQ f n hs _ a w.drew hS (fun p hp=>d p.2 (by simp only[aO,bN];exact Or.inl ⟨p,hp,rfl⟩))
  (fun p hp hpt t ht=>by
   have m:=List.all_eq_true.1 r p hp;rw[hpt]at m;simp only[BEq.rfl,Bool.not_true,Bool.false_or]at m;exact List.all_eq_true.1 m t ht) k b h
 rw[e]at H;exact wp_region_any hm (tF _ _ _ _ H)
theorem mG(hm:P.follows .mixedOrders=true)(hB:aII .any l.toArray hs ts=true)
 (hQ:∀c a d v w,Q (.panic c) (Act.put a d v) w→Q (.panic c) a w) (hS:S w.drew)
 (h:dP P l.toArray Q S (fun a'' w''=>wpList P l.toArray Q (mQ l ts) a'' w'') (iY l hs) a w.drew):(Code.region id l.toArray true).wp P Q a w:=
 lH hs ts S hm hB (fun c a _ o v w _ h=>hQ c a o.dst v w h) hS h
end
theorem cG{o:Oper}{a:Act}{w:World}(ty:TypeId)(x:Operand)(ho:o.op= .load ty x)(p:Addr)(hx:a.eval x= .pointer (some p))(cs:List Value)(d:TypeDesc)(hc:∀j v,cs[j]?=some v→w.cell? (p.add j)=some v)
 (hu:P.underlying ty=some d) (hd:(match d with| .struct _| .array _ _=>true|_=>false)=true) (hi:(P.info? ty).map (·.size)=some cs.length):
 (execOp a.eval o).run P w= .ok (.value (.agg cs.toArray)) w:=by
 unfold execOp;simp only[ho,hx,Instr.loadAt,Instr.sureAddr,aT,Sem.run_pure,Result.andThen_ok,eK w p ty cs d hc hu hd hi]
theorem pA:(∀(a:Act) (i:Nat) (v:Value),a.put (some i) v={a with tmps:=a.tmps.setIfInBounds i v})∧(∀(a:Act) (v:Value),a.put none v=a)∧
 (∀(l:List Value) (i:Nat) (v:Value),l.toArray.setIfInBounds i v=(l.set i v).toArray)∧(∀(x:Value) (l:List Value) (v:Value),(x::l).set 0 v=v::l)∧
 (∀(x:Value) (l:List Value) (n:Nat) (v:Value),(x::l).set (n+1) v=x::l.set n v):=
 ⟨fun _ _ _=>rfl,fun _ _=>rfl,fun _ _ _=>List.setIfInBounds_toArray ..,fun _ _ _=>rfl,fun _ _ _ _=>rfl⟩
section
variable {K:Act→World→Prop} {o:Oper} {rest:List (Nat×Oper)} {a:Act} {w:World} {v:Value}
theorem sW(hg:Region.wanted o (yielded ops a.tmps)=true)(hy:∀x,(execOp a.eval o).run P x= .ok (.value v) x)(h:dP P ops Q S K rest (a.put o.dst v) w):dP P ops Q S K ((0,o)::rest) a w:=nD hg hy h
theorem sR(hg:Region.wanted o (yielded ops a.tmps)=true)(hy:∀x,S x→(execOp a.eval o).run P x= .ok (.value v) x)(h:dP P ops Q S K rest (a.put o.dst v) w):dP P ops Q S K ((1,o)::rest) a w:=kU hg hy h
end
theorem sB{K:Act→World→Prop}{b:Nat}{o:Oper}{rest:List (Nat×Oper)}{a:Act}{w:World}{v:Value}(hb:Nat.ble b 1=true)(hg:Region.wanted o (yielded ops a.tmps)=true)(hy:∀x,(b=1→S x)→(execOp a.eval o).run P x= .ok (.value v) x)(h:dP P ops Q S K rest (a.put o.dst v) w):dP P ops Q S K ((b,o)::rest) a w:=by
 rcases b with _|_|b
 ·exact sW hg (fun x=>hy x (fun e=>by cases e)) h
 ·exact sR hg (fun x hx=>hy x (fun _=>hx)) h
 ·cases hb
theorem qP(hq:∀c (a:Act) t w,Q (.panic c) {a with tmps:=t} w=Q (.panic c) a w):∀c a d v w,Q (.panic c) (Act.put a d v) w→Q (.panic c) a w:=by
 intro c a d v w h;cases d
 ·exact h
 ·rw[←hq c a _ w];exact h
def cL:List Oper→List Nat→List (Nat×Oper)
 |_,[]=>[]
 |[],_::_=>[]
 |o::l,b::bs=>(b,o)::cL l bs
def cK:List Oper→List Nat→List Oper
 |l,[]=>l
 |[],_::_=>[]
 |_::l,_::bs=>cK l bs
def hsB:List Nat→Nat→List (Nat×Nat)
 |[],_=>[]
 |b::bs,k=>(b,k)::hsB bs (k+1)
theorem aBa:∀(bs:List Nat) (r l:List Oper),bs.length≤l.length→iY (r++l) (hsB bs r.length)=cL l bs
 |[],_,l,_=>by cases l<;>rfl
 |b::bs,r,[],h=>by simp at h
 |b::bs,r,o::l,h=>by
  have h1:(r++o::l)[r.length]?=some o:=by simp
  have a:=aBa bs (r++[o]) l (by simpa using h);simp only[aS,List.singleton_append,aD,aK]at a;simp only[hsB,iY,h1,cL,a]
theorem yL:∀(bs:List Nat) (l:List Oper),cK l bs=l.drop bs.length
 |[],l=>by cases l<;>rfl
 |_::_,[]=>by simp[cK]
 |_::bs,_::l=>by simp[cK,yL bs l]
theorem yK:∀(m:Nat) (r l:List Oper),l.length=m→mQ (r++l) (List.range' r.length m)=l
 |0,r,l,h=>by
  have:l=[]:=List.eq_nil_of_length_eq_zero h;subst this;rfl
 |m+1,r,[],h=>by simp at h
 |m+1,r,o::l,h=>by
  have h1:(r++o::l)[r.length]?=some o:=by simp
  have ih:=yK m (r++[o]) l (by simpa using h);simp only[aS,List.singleton_append,aD,aK]at ih;simp only[List.range'_succ,mQ,h1,ih]
def aI7(P:Program)(l:List Oper)(bs:List Nat):Bool:=P.follows .mixedOrders&&decide (bs.length≤l.length)&&aII .any l.toArray (hsB bs 0) (List.range' bs.length (l.length-bs.length))
theorem rlx{id:Nat}{a:Act}{w:World}{l:List Oper}(bs:List Nat)(S:World→Prop)(hB:aI7 P l bs=true)
 (hQ:∀c (a:Act) t w,Q (.panic c) {a with tmps:=t} w=Q (.panic c) a w) (hS:S w.drew)
 (h:dP P l.toArray Q S (fun a'' w''=>wpList P l.toArray Q (cK l bs) a'' w'') (cL l bs) a w.drew):(Code.region id l.toArray true).wp P Q a w:=by
 simp only[aI7,aR,aM]at hB;obtain⟨⟨hm,hl⟩,hB⟩:=hB;refine mG (hsB bs 0) (List.range' bs.length (l.length-bs.length)) S hm hB (qP hQ) hS ?_;have e1:=aBa bs [] l hl;have e2:=yK (l.length-bs.length) (l.take bs.length) (l.drop bs.length) (by simp);rw[bX,bD,Nat.min_eq_left hl]at e2;simp only[List.nil_append,List.length_nil]at e1;rw[e1,e2,←yL];exact h
theorem dJ{id:Nat}{a:Act}{w:World}{l:List Oper}(bs:List Nat)(hB:aI7 P l bs=true)
 (hQ:∀c (a:Act) t w,Q (.panic c) {a with tmps:=t} w=Q (.panic c) a w)
 (h:dP P l.toArray Q (fun x=>x=w.drew) (fun a'' w''=>wpList P l.toArray Q (cK l bs) a'' w'') (cL l bs) a w.drew):(Code.region id l.toArray true).wp P Q a w:=rlx bs (fun x=>x=w.drew) hB hQ rfl h
end
def NtAt(W:World)(G:Nat→Prop)(g:Nat)(av cv:Value)(net:List Mg)(tr:List Ev):Prop:=
 ∃nv tv,W.heap[g]?=some (.cells #[av,cv,nv,tv] 100 (0,0))∧G g∧
  W.ownsRow 0 66 10 nv net.length (cQ mgL net)∧W.ownsRow 0 70 19 tv tr.length (cQ evL tr)∧
  (∀k,nv.ownBlock=some k→G k)∧(∀k,tv.ownBlock=some k→G k)∧(∀k,G k→k<W.heap.size)
theorem tR:(prog.info? 66).map (fun i=>(i.zero,i.size,i.bytes))=some (some (mgV zMg),10,80):=by kernel_rfl
theorem aEs:(prog.info? 70).map (fun i=>(i.zero,i.size,i.bytes))=some (some (evV zEv),19,152):=by kernel_rfl
theorem aEt(e:Ev):∀u ∈ evL e,u.oneCell'=true:=by simp[evL,Value.oneCell']
theorem vC(m:Mg):∀u ∈ mgL m,u.oneCell'=true:=by simp[mgL,Value.oneCell']
theorem rF(e:Ev)(h:e.kind=1):cJ [e]=[e.msg]:=by simp[cJ,qL,h]
theorem fH(e:Ev)(h:e.kind≠1):cJ [e]=[]:=by simp[cJ,qL,h]
theorem yO(W:World)(G:Nat→Prop)(g:Nat)(av cv:Value)(net:List Mg)(tr:List Ev)(e:Ev)(h:NtAt W G g av cv net tr)(hn:net.length≤100000000000)(ht:tr.length≤100000000000):
 Calls prog 77 #[.pointer (some ⟨g,0,none⟩),evV e] W fun r W'=>r= .returned (.tuple #[])∧
  ∃G',NtAt W' G' g av cv (net++cJ [e]) (tr++[e])∧Chg G W W'∧∀k,G' k→G k∨W.heap.size≤k:=by
 obtain⟨I,R,hg,K,U,a0,Y,b4,e0⟩:=h;obtain⟨i0,hi,e1,f0,e7⟩:=info_parts aEs;obtain⟨i1,ji,e2,f3,d7⟩:=info_parts tR;have f7:=cW hg;have e4:=fS a0 hg (by decide);have a9:=fS U hg (by decide);have c5:=pO U a0 (by decide);have d8:=cB c5;clear c5;obtain⟨k,nd,⟨u,s,w,t,y,b,⟨p,v,n,m⟩⟩,ok,ol,ot,M,ow,tk,bl⟩:=e;generalize hE:(⟨k,nd,⟨u,s,w,t,y,b,⟨p,v,n,m⟩⟩,ok,ol,ot,M,ow,tk,bl⟩:Ev)=E;have HE:=cB hE;have b7:evL E=evL ⟨k,nd,⟨u,s,w,t,y,b,⟨p,v,n,m⟩⟩,ok,ol,ot,M,ow,tk,bl⟩:=by rw[hE]
 have X:=cB b7;have b6:evV E=evV ⟨k,nd,⟨u,s,w,t,y,b,⟨p,v,n,m⟩⟩,ok,ol,ot,M,ow,tk,bl⟩:=by rw[hE]
 rw[b6];clear hE b7 b6;have bW:∀o:Obj,(W.alloc o).heap[g]?=some (.cells #[av,cv,I,R] 100 (0,0)):=fun o=>cX o hg;go_enter func77,ntmps77;go_wp2_with fail;generalize B:W.alloc (.cells #[.int .i64 k,.int .i64 nd,.int .i64 u,.int .i64 s,.int .i64 w,.int .i64 t,.int .i64 y,.int .i64 b,.int .i64 p,.int .i64 v,.int .i64 n,.int .i64 m,.int .i64 ok,.int .i64 ol,.int .i64 ot,.int .i64 M,.int .i64 ow,.int .i64 tk,.int .i64 bl] 70)=W0;have bE:W0.heap[W.heap.size]?=some (.cells (evL E).toArray 70 (0,0)):=by
  rw[←B,aA,X.out]
 have bG:W0.heap[g]?=some (.cells #[av,cv,I,R] 100 (0,0)):=by rw[←B];exact bW _
 have c4:Chg G W W0:=by rw[←B];exact(Chg.refl _ _).alloc _
 have b0:W0.heap.size=W.heap.size+1:=by rw[←B];simp
 have a2:W0.ownsRow 0 66 10 I net.length (cQ mgL net):=by rw[←B];exact U.alloc _
 have a5:W0.ownsRow 0 70 19 R tr.length (cQ evL tr):=by rw[←B];exact a0.alloc _
 have c3:W0.cell? ⟨g,3,none⟩=some R:=cC bG 3 _ rfl;clear B bW;refine rlx [0,0,0,0,1,1,2] (fun w'=>w'.cell? ⟨g,3,none⟩=some R∧∀j x,(evL E)[j]?=some x→w'.cell? ((⟨W.heap.size,0,none⟩:Addr).add j)=some x) (by kernel_rfl) (fun _ _ _ _=>rfl) ?_ ?_
 ·exact⟨c3,cF bE⟩
 simp only[cL,cK];iterate 5 (apply sB rfl rfl;·(intro x h;(try have h:=h rfl);(try dsimp only at h);go_simp;with_reducible rfl))
 try simp only[pA]
 refine cM rfl (fun x hx=>cG 70 _ rfl ⟨W.heap.size,0,none⟩ rfl _ _ hx.2 underlying70 rfl (by kernel_rfl)) ?_;(try simp only[pA]);refine dC rfl (fun C hC=>?_);rw[X.out];go_simp;refine hC _ _ ⟨cC (cX _ bG) 3 _ rfl,cF (cX _ bE)⟩ ?_;clear hC C;refine cD ?_;generalize z:W0.alloc (.cells #[.int .i64 k,.int .i64 nd,.int .i64 u,.int .i64 s,.int .i64 w,.int .i64 t,.int .i64 y,.int .i64 b,.int .i64 p,.int .i64 v,.int .i64 n,.int .i64 m,.int .i64 ok,.int .i64 ol,.int .i64 ot,.int .i64 M,.int .i64 ow,.int .i64 tk,.int .i64 bl] 70)=W1;have bS:W1.heap[W.heap.size+1]?=some (.cells (evL E).toArray 70 (0,0)):=by
  rw[←z,←b0,aA,X.out]
 have b8:W1.heap[W.heap.size]?=some (.cells (evL E).toArray 70 (0,0)):=by rw[←z];exact cX _ bE
 have c7:W1.heap[g]?=some (.cells #[av,cv,I,R] 100 (0,0)):=by rw[←z];exact cX _ bG
 have c8:Chg G W W1:=by rw[←z];exact c4.alloc _
 have e8:W1.heap.size=W.heap.size+2:=by rw[←z];simp[b0]
 have a7:W1.ownsRow 0 66 10 I net.length (cQ mgL net):=by rw[←z];exact a2.alloc _
 have a1:W1.ownsRow 0 70 19 R tr.length (cQ evL tr):=by rw[←z];exact a5.alloc _
 clear z c4 b0 a2 a5 bG bE c3;refine wpList_append_lies _ rfl _ _ 43 rfl 0 70 i0 _ 19 152 underlying43 hi e1 f0 e7 rfl (by decide) R tr.length (cQ evL tr) rfl a1.drew ⟨W.heap.size+1,0,none⟩ 1 1 (evL E) rfl rfl (cF bS) (aEt E) (by decide) (by unfold maxLen;omega) (by omega) (aI _) (W.heap.size+2) e8 ?_;intro J A T c i a4 d6;have d:W1.grownBy T R.ownBlock:=⟨i.os,i.tape,i.output,i.size,i.block⟩;have D:=(Chg.of_grown d).kept c7 (fun e=>e4 g e.symm rfl);have Z:=(Chg.of_grown d).kept b8 (fun e=>by have:=sP a0 _ e.symm;omega);have F:=(Chg.of_grown d).row a7 (fun q a e=>d8.out q a e.symm);have b2:=c8.grown d (fun q a _=>b4 q a);have f6:W.heap.size+2≤T.heap.size:=by have:=d.size;omega
 clear i d c7 b8 c8 a7 a1 bS;simp only[pA];have d3:T.cell? ⟨g,3,none⟩=some R:=cC D 3 _ rfl;have e3:=cV D 3;have d0:T.cell? ⟨W.heap.size,0,none⟩=some (.int .i64 k):=by
  rw[X.out]at Z;exact cC Z 0 _ rfl
 have f2:g≠W.heap.size:=by omega
 by_cases hk:k=1
 ·have d9:(k==1)=true:=by simp[hk]
  have HK:=cB hk;clear hk;go_wp2_with fail;have f5:=fS c D (by decide) J rfl;have c9:=pO F c (by decide);have N:=cU D 3 (.slice (some ⟨J,0,none⟩) (tr.length+1) A);have L:=aAc Z ⟨g,3,none⟩ (.slice (some ⟨J,0,none⟩) (tr.length+1) A) (fun e=>f2 e.symm);have H:Chg (fun q=>q=g) T (T.setCell ⟨g,3,none⟩ (.slice (some ⟨J,0,none⟩) (tr.length+1) A)):=(Chg.refl _ _).setCell _ _ (fun _=>rfl);have P:=H.row F (fun q a=>a9 q a);have O:=H.row c (fun q a=>by simp[Value.ownBlock]at a;omega);have b3:=b2.setCell ⟨g,3,none⟩ (.slice (some ⟨J,0,none⟩) (tr.length+1) A) (fun _=>K);have b5:(T.setCell ⟨g,3,none⟩ (.slice (some ⟨J,0,none⟩) (tr.length+1) A)).heap.size=T.heap.size:=by simp
  generalize T.setCell ⟨g,3,none⟩ (.slice (some ⟨J,0,none⟩) (tr.length+1) A)=W3 at N L P O b3 b5⊢;clear H d3 e3 d0 F b2 c;have c2:W3.cell? ⟨g,2,none⟩=some I:=cC N 2 _ rfl;refine rlx [0,0,0,0,1,0,1,2] (fun w'=>w'.cell? ⟨g,2,none⟩=some I∧∀j x,(mgL E.msg)[j]?=some x→w'.cell? ((⟨W.heap.size,2,none⟩:Addr).add j)=some x) (by kernel_rfl) (fun _ _ _ _=>rfl) ?_ ?_
  ·exact⟨c2,eW L 2 _ (aBg E)⟩
  simp only[cL,cK];iterate 6 (apply sB rfl rfl;·(intro x h;(try have h:=h rfl);(try dsimp only at h);go_simp;with_reducible rfl))
  try simp only[pA]
  refine cM rfl (fun x hx=>cG 66 _ rfl ⟨W.heap.size,2,none⟩ rfl _ _ hx.2 underlying66 rfl (by kernel_rfl)) ?_;(try simp only[pA]);refine dC rfl (fun C hC=>?_);have HM:Hid (E.msg=⟨u,s,w,t,y,b,⟨p,v,n,m⟩⟩):=by
   show E.msg=_;rw[←HE.out]
  rw[HM.out];go_simp;refine hC _ _ ⟨cC (cX _ N) 2 _ rfl,eW (cX _ L) 2 _ (aBg E)⟩ ?_;clear hC C;refine cD ?_;have b1:=aA W3 (.cells #[.int .i64 u,.int .i64 s,.int .i64 w,.int .i64 t,.int .i64 y,.int .i64 b,.int .i64 p,.int .i64 v,.int .i64 n,.int .i64 m] 66);have c6:=cX (.cells #[.int .i64 u,.int .i64 s,.int .i64 w,.int .i64 t,.int .i64 y,.int .i64 b,.int .i64 p,.int .i64 v,.int .i64 n,.int .i64 m] 66) N;have c1:=cX (.cells #[.int .i64 u,.int .i64 s,.int .i64 w,.int .i64 t,.int .i64 y,.int .i64 b,.int .i64 p,.int .i64 v,.int .i64 n,.int .i64 m] 66) L;have a8:=P.alloc (.cells #[.int .i64 u,.int .i64 s,.int .i64 w,.int .i64 t,.int .i64 y,.int .i64 b,.int .i64 p,.int .i64 v,.int .i64 n,.int .i64 m] 66);have a6:=O.alloc (.cells #[.int .i64 u,.int .i64 s,.int .i64 w,.int .i64 t,.int .i64 y,.int .i64 b,.int .i64 p,.int .i64 v,.int .i64 n,.int .i64 m] 66);have b9:=b3.alloc (.cells #[.int .i64 u,.int .i64 s,.int .i64 w,.int .i64 t,.int .i64 y,.int .i64 b,.int .i64 p,.int .i64 v,.int .i64 n,.int .i64 m] 66);have e6:(W3.alloc (.cells #[.int .i64 u,.int .i64 s,.int .i64 w,.int .i64 t,.int .i64 y,.int .i64 b,.int .i64 p,.int .i64 v,.int .i64 n,.int .i64 m] 66)).heap.size=W3.heap.size+1:=by simp
  generalize W3.alloc (.cells #[.int .i64 u,.int .i64 s,.int .i64 w,.int .i64 t,.int .i64 y,.int .i64 b,.int .i64 p,.int .i64 v,.int .i64 n,.int .i64 m] 66)=W4 at*;rw[b5]at b1;have c0:(mgL (⟨u,s,w,t,y,b,⟨p,v,n,m⟩⟩:Mg))=[.int .i64 u,.int .i64 s,.int .i64 w,.int .i64 t,.int .i64 y,.int .i64 b,.int .i64 p,.int .i64 v,.int .i64 n,.int .i64 m]:=rfl;refine wpList_append_lies _ rfl _ _ 88 rfl 0 66 i1 _ 10 80 underlying88 ji e2 f3 d7 rfl (by decide) I net.length (cQ mgL net) (by rfl) a8.drew ⟨T.heap.size,0,none⟩ 1 1 (mgL (⟨u,s,w,t,y,b,⟨p,v,n,m⟩⟩:Mg)) (by rfl) rfl (cF (by rw[c0];exact b1)) (vC _) (by decide) (by unfold maxLen;omega) (by omega) (aI _) (W3.heap.size+1) e6 ?_;intro gn a3 W5 Q l d1 d2;have f:W4.grownBy W5 I.ownBlock:=⟨l.os,l.tape,l.output,l.size,l.block⟩;have V:=(Chg.of_grown f).kept c6 (fun e=>a9 g e.symm rfl);have f1:=(Chg.of_grown f).kept c1 (fun e=>by have:=sP U _ e.symm;omega);have d4:=(Chg.of_grown f).row a6 (fun q a e=>c9 q e.symm a);have e9:=b9.grown f (fun q a _=>Y q a);have f8:=f.size;(try simp only[pA]);have d5:W5.cell? ⟨g,2,none⟩=some I:=cC V 2 _ rfl;have e5:=cV V 2;clear l f c0 b1 c6 c1 a8 a6 b9 N L P O b3 c2 f1 Z D;go_wp2_with fail;go_end0;have H:Chg (fun q=>q=g) W5 (W5.setCell ⟨g,2,none⟩ (.slice (some ⟨gn,0,none⟩) (net.length+1) a3)):=(Chg.refl _ _).setCell _ _ (fun _=>rfl);have f4:=fS Q V (by decide) gn rfl
  refine⟨rfl,fun q=>q=g∨q=gn∨q=J,⟨.slice (some ⟨gn,0,none⟩) (net.length+1) a3,.slice (some ⟨J,0,none⟩) (tr.length+1) A,?_,Or.inl rfl,?_,?_,fun q a=>Or.inr (Or.inl (by simpa[Value.ownBlock]using a.symm)),fun q a=>Or.inr (Or.inr (by simpa[Value.ownBlock]using a.symm)),?_⟩,e9.setCell _ _ (fun _=>K),?_⟩
  ·exact cU V 2 _
  ·rw[rF E (by rw[←HE.out];exact HK.out),aD,aK,jQ,HM.out];exact H.row Q (fun q a=>by simp[Value.ownBlock]at a;omega)
  ·rw[aD,aK,jQ];exact H.row d4 (fun q a=>by simp[Value.ownBlock]at a;omega)
  ·intro q a;simp;rcases a with rfl|rfl|rfl
   ·omega
   ·exact d2
   ·omega
  ·intro q a;rcases a with rfl|rfl|rfl
   ·exact Or.inl K
   ·rcases d1 with h|h
    ·exact Or.inl (Y _ h)
    ·right;omega
   ·rcases a4 with h|h
    ·exact Or.inl (b4 _ h)
    ·right;omega
 ·have d9:(k==1)=false:=by simp[hk]
  have HK:Hid (k≠1):=hk;clear hk;go_wp2_with fail;go_end0;refine⟨rfl,fun q=>q=g∨I.ownBlock=some q∨q=J,⟨I,.slice (some ⟨J,0,none⟩) (tr.length+1) A,?_,Or.inl rfl,?_,?_,fun q a=>Or.inr (Or.inl a),fun q a=>Or.inr (Or.inr (by simpa[Value.ownBlock]using a.symm)),?_⟩,b2.setCell _ _ (fun _=>K),?_⟩
  ·exact cU D 3 _
  ·rw[fH E (by rw[←HE.out];exact HK.out),aC];exact(Chg.setCell (S:=fun q=>q=g) (Chg.refl _ _) ⟨g,3,none⟩ _ (fun _=>rfl)).row F (fun q a=>a9 q a)
  ·rw[aD,aK,jQ];have:=fS c D (by decide) J rfl;exact(Chg.setCell (S:=fun q=>q=g) (Chg.refl _ _) ⟨g,3,none⟩ _ (fun _=>rfl)).row c (fun q a=>by simp[Value.ownBlock]at a;omega)
  ·intro q a;simp;rcases a with rfl|a|rfl
   ·omega
   ·have:=e0 q (Y q a);omega
   ·exact d6
  ·intro q a;rcases a with rfl|a|rfl
   ·exact Or.inl K
   ·exact Or.inl (Y q a)
   ·rcases a4 with h|h
    ·exact Or.inl (b4 _ h)
    ·right;omega
section
open Go.RowKit Go.Conc
theorem vZ(W:World)(b ch:Nat)(u:Bool)(hc:W.cell? ⟨b,9,none⟩=some (.chan (some ch)))(hb:W.heap[ch]?=some (.chan 0 #[] (!u) 0 0 false)):
 Calls prog 90 #[.pointer (some ⟨b,0,none⟩)] W fun e w'=>e= .returned (.bool u)∧w'=W:=by
 refine calls_of_loneTo fun cs=>?_;have e:Frame.enter prog 90 #[.pointer (some ⟨b,0,none⟩)] .normal=(base 90).at ⟨#[.pointer (some ⟨b,0,none⟩),undef,undef,undef,undef,undef,undef,undef,undef,undef],[]⟩ [.code (f90.body.getD .skip)]:=by
  simp[Frame.enter,Frame.at,func90,base,f90];try rfl
 rw[e];refine LoneTo.goes (n:=30) ?_;simp only[f90,Option.getD_some]
 s_c stepG_seq
 s_reg
 s_op
 s_c stepG_region_end
 s_c stepG_seq
 s_reg
 s_op
 s_op
 s_op
 s_op
 s_c stepG_region_end
 s_c stepG_seq
 s_reg
 s_stop
 cases u with
 |false=>
  refine LoneTo.step (step_lone_select_recv_shut (c:=ch) (z:=.agg #[]) (cap:=0) (s:=0) (r:=0) (tm:=false) (stepG_comm (cases:=#[rcase ch (.agg #[])]) (blocking:=false) (shape:=.select) (w':=W) rfl rfl (by decide) (by simp[go_sem,execOp,rcase,Act.eval])) hb) ?_;rw[Frame.finish_at]
  walk_nrm
  refine LoneTo.goes (n:=30) ?_
  s_op
  s_op
  s_c stepG_region_end
  s_c stepG_block
  s_cond true
  s_c stepG_seq
  s_reg
  s_op
  s_c stepG_region_end
  s_c stepG_ret'
  s_stop
  exact LoneTo.done ⟨.returned (.bool false),_,rfl,⟨rfl,rfl⟩,rfl,rfl,rfl,rfl,_,func90,by simp[results,f90,Frame.at]⟩
 |true=>
  refine LoneTo.step (step_lone_select_default (c:=ch) (z:=.agg #[]) (cap:=0) (s:=0) (r:=0) (tm:=false) (stepG_comm (cases:=#[rcase ch (.agg #[])]) (blocking:=false) (shape:=.select) (w':=W) rfl rfl (by decide) (by simp[go_sem,execOp,rcase,Act.eval])) hb) ?_;rw[Frame.finish_at]
  walk_nrm
  refine LoneTo.goes (n:=30) ?_
  s_op
  s_op
  s_c stepG_region_end
  s_c stepG_block
  s_cond false
  s_c stepG_seq
  s_reg
  s_op
  s_c stepG_region_end
  s_c stepG_ret'
  s_stop
  exact LoneTo.done ⟨.returned (.bool true),_,rfl,⟨rfl,rfl⟩,rfl,rfl,rfl,rfl,_,func90,by simp[results,f90,Frame.at]⟩
end
def nS:List Int→Int
 |[]=>0
 |b::bs=>b+256*nS bs
def dF(s:ByteArray):List Int:=s.data.toList.map fun b=>(b.toNat:Int)
theorem gH(s:ByteArray):(dF s).length=s.size:=by unfold dF;rw[bL];rfl
theorem lW(s:ByteArray)(k:Nat)(h:k<s.size):(dF s).getD k 0=(s[k].toNat:Int):=by
 have a:k<s.data.toList.length:=h;rw[dF,aQ,List.getElem?_map,aP a]
 rfl
theorem sX{xs:List Int}(hx:∀x ∈ xs,0≤x∧x<256):dF (strOfNums xs)=xs:=by
 apply List.ext_getElem (by rw[gH,fJ]);intro k b a;have e:=aAC xs k a hx;have c:k<(strOfNums xs).data.toList.length:=by rw[gH]at b;exact b
 rw[aQ,aP c,aQ,aP a]at e;simp only[dF,List.getElem_map];exact e
def cellsOf(rs:List Rw):List Value:=rs.flatMap rwL
theorem aBI(rs:List Rw)(r:Rw):cellsOf (rs++[r])=cellsOf rs++rwL r:=by simp[cellsOf]
theorem wW:∀(rs:List Rw) (i:Nat) (h:i<rs.length) (j:Nat),j<7→(cellsOf rs)[i*7+j]?=(rwL rs[i])[j]?
 |r::rs,0,_,j,hj=>by
  simp only[cellsOf,List.flatMap_cons,Nat.zero_mul,Nat.zero_add];rw[bJ (by simpa using hj)]
  rfl
 |r::rs,i+1,h,j,hj=>by
  have ih:=wW rs i (by simpa using h) j hj;simp only[cellsOf,List.flatMap_cons]at ih⊢;rw[bK (by simp;omega)];have e:(i+1)*7+j-(rwL r).length=i*7+j:=by simp;omega
  rw[e,ih]
  rfl
def dS(rs:List Rw)(k:Nat):Option Rw:=rs.reverse.find? fun r=>decide (r.lock=(k:Int))
def gQ(rs:List Rw)(k:Nat):List Rw:=(List.range k).filterMap (dS rs)
theorem aDV(rs:List Rw)(k:Nat):gQ rs (k+1)=gQ rs k++(dS rs k).toList:=by
 simp only[gQ,List.range_succ,List.filterMap_append,List.filterMap_cons,List.filterMap_nil];cases dS rs k<;>rfl
end Go.Proofs.YtbbdgokdfhdpiaaGreatDoor
