/- A part of the proof: RecMath, Mdl, MdlCl, RefLow, Loads, PrgRec, PrgSum, PrgOf, PrgNum, RefRow, PrgFirst, LawSame, RefRows, RefTable, RefReplay, OpsOpen. -/
import Derived.Below
import Derived.BigQuiet
import Derived.ChangeAlike
import Derived.Deep.Cut
import Derived.Deep.CutRange
import Derived.Deep.Light
import Derived.Deep.QuietTactic
import Derived.Deep.RegionWith
import Derived.Deep.Slices
import Derived.Laws.BytesArg
import Derived.Laws.Rows
import Derived.Lib.EndianBits
import Derived.Lib.QuietBelow
import Derived.LoopTactic
import Derived.Maps.AppendAt
import Derived.ProofKit
import Derived.RegionTactic
import Derived.Test.YtbbdgokdfhdpiaaGreatDoorProg
import Derived.WalkKit
import Derived.WalkLawsBesides
import Derived.WalkSpells
namespace Go.Proofs.YtbbdgokdfhdpiaaGreatDoor
set_option linter.all false
set_option maxRecDepth 100000
set_option maxHeartbeats 40000000
open Go.Proofs.Tryz Go.RowKit
theorem aA:∀ (w : World) (o : Obj), (World.heap (World.alloc w o))[Array.size (World.heap w)]? = some o:=@heap_alloc_new
theorem aB:∀ {α : Type} {p : α → Prop} {a : α} {l : List α}, (∀ (x : α), x ∈ a :: l → p x) ↔ p a ∧ ∀ (x : α), x ∈ l → p x:=@List.forall_mem_cons
theorem aC:∀ {α : Type} (ls : List α), ls ++ [] = ls:=@List.append_nil
theorem aD:∀ {α : Type} {ls bs : List α}, List.length (ls ++ bs) = List.length ls + List.length bs:=@List.length_append
theorem aE:∀ (n : Nat), n ≤ n:=@Nat.le_refl
theorem aF:∀ {α : Type} {i : Nat} {a : α} {l : List α}, l[i]? = some a ↔ ∃ (h : i < List.length l), l[i] = a:=@List.getElem?_eq_some_iff
theorem aG:∀ {n m k : Nat}, n < m → m ≤ k → n < k:=@Nat.lt_of_lt_of_le
theorem aH:∀ {p : Prop}, (¬p → False) → p:=@Classical.byContradiction
theorem aI:∀ (n : Nat), 0 ≤ n:=@Nat.zero_le
theorem aJ:∀ (B : Nat) (w : World), Below B w w:=@Below.refl
theorem aK:∀ {α : Type} {a : α}, List.length [a] = 1:=@List.length_singleton
theorem aL:∀ (a : Int), a ≤ a:=@Int.le_refl
theorem aM:∀ {p : Prop} [inst : Decidable p], (decide p = true) = p:=@decide_eq_true_eq
theorem aN:∀ {α : Type} {val val_1 : α}, some val = some val_1 → val = val_1:=@Option.some.inj
theorem aO:∀ {α : Type} {a : α} {s t : List α}, a ∈ s ++ t ↔ a ∈ s ∨ a ∈ t:=@List.mem_append
theorem aP:∀ {α : Type} {l : List α} {i : Nat} (h : i < List.length l), l[i]? = some l[i]:=@List.getElem?_eq_getElem
theorem aQ:∀ {α : Type} {l : List α} {i : Nat} {a : α}, List.getD l i a = Option.getD l[i]? a:=@List.getD_eq_getElem?_getD
theorem aR:∀ (a b : Bool), ((a && b) = true) = (a = true ∧ b = true):=@Bool.and_eq_true
theorem aS:∀ {α : Type} (ls bs cs : List α), ls ++ bs ++ cs = ls ++ (bs ++ cs):=@List.append_assoc
theorem aT:∀ {α β : Type} (P : Program) (w : World) (x : Sem α) (f : α → Sem β), Sem.run P (x >>= f) w = Result.andThen (Sem.run P x w) fun (a : α) (w' : World) => Sem.run P (f a) w':=@Sem.run_bind
theorem aU:(false = true) = False:=@Bool.false_eq_true
theorem aV:∀ {α : Type} {i : Nat} {l : List α}, List.length (List.drop i l) = List.length l - i:=@List.length_drop
theorem aW:∀ {w w' : World} {a : Addr}, (World.heap w')[Addr.block a]? = (World.heap w)[Addr.block a]? → World.cell? w' a = World.cell? w a:=@World.cell?_of_block
theorem aX:∀ {m n : Nat}, Nat.succ m = Nat.succ n → m = n:=@Nat.succ.inj
theorem aY:∀ {α : Type} {i : Nat} {l : List α}, List.length l ≤ i → List.take i l = l:=@List.take_of_length_le
theorem aZ:∀ {α : Type} {i : Nat} {l : List α}, List.length (List.take i l) = min i (List.length l):=@List.length_take
theorem bD:∀ {α : Type} {l : List α} {n : Nat} (h : n < List.length l), l[n] ∈ l:=@List.getElem_mem
theorem bF:∀ {α : Type} {a : α} {ls : List α}, List.length (a :: ls) = List.length ls + 1:=@List.length_cons
theorem bH:∀ (w : World) (o : Obj) (a : Addr), Addr.block a < Array.size (World.heap w) → World.cell? (World.alloc w o) a = World.cell? w a:=@World.cell?_alloc_lt
theorem bI:∀ {α : Type} {l₁ l₂ : List α} {i : Nat}, i < List.length l₁ → (l₁ ++ l₂)[i]? = l₁[i]?:=@List.getElem?_append_left
theorem bJ:∀ {α : Type} {l₁ l₂ : List α} {i : Nat}, List.length l₁ ≤ i → (l₁ ++ l₂)[i]? = l₂[i - List.length l₁]?:=@List.getElem?_append_right
theorem bK:∀ {α : Type} {β : Type} {ls : List α} (f : α → β), List.length (List.map f ls) = List.length ls:=@List.length_map
theorem bL:∀ {α : Type} {β : Type} {b : β} {f : α → β} {l : List α}, b ∈ List.map f l ↔ ∃ (a : α), a ∈ l ∧ f a = b:=@List.mem_map
theorem bN:∀ {α : Type} {β : Type} {f : α → β} {l₁ l₂ : List α}, List.map f (l₁ ++ l₂) = List.map f l₁ ++ List.map f l₂:=@List.map_append
theorem bO:∀ {α : Type} {l : List α} {i : Nat} {a : α} (h : i < List.length (List.set l i a)), (List.set l i a)[i] = a:=@List.getElem_set_self
theorem bP:∀ {n m k : Nat}, n ≤ m → m ≤ k → n ≤ k:=@Nat.le_trans
theorem bQ:∀ {α : Type} {a : α} {l : List α}, a ∈ a :: l:=@List.mem_cons_self
theorem bR:∀ {α : Type} (y : α) {a : α} {l : List α}, a ∈ l → a ∈ y :: l:=@List.mem_cons_of_mem
theorem bU:∀ {α : Type} {p : α → Bool} {ls : List α} {x : α}, x ∈ List.filter p ls ↔ x ∈ ls ∧ p x = true:=@List.mem_filter
theorem bV:∀ {α : Type} (i : Nat) (l : List α), List.take i l ++ List.drop i l = l:=@List.take_append_drop
theorem bX:∀ {α : Type} {xs : Array α} {i : Nat} {d : α}, Array.getD xs i d = Option.getD xs[i]? d:=@Array.getD_eq_getD_getElem?
theorem bY:∀ {α : Type} {a : α} {i : Nat} {l : List α}, (a :: l)[i + 1]? = l[i]?:=@List.getElem?_cons_succ
theorem bZ:∀ {α : Type} {a : α} {l : List α}, (a :: l)[0]? = some a:=@List.getElem?_cons_zero
theorem aH3 {p0 p1:Prop} (h0:p0) (h1:p1):p0∧p1:=⟨h0,h1⟩
theorem aH4 {p0 p1 p2:Prop} (h0:p0) (h1:p1) (h2:p2):p0∧p1∧p2:=⟨h0,h1,h2⟩
theorem aH5 {p0 p1 p2 p3:Prop} (h0:p0) (h1:p1) (h2:p2) (h3:p3):p0∧p1∧p2∧p3:=⟨h0,h1,h2,h3⟩
theorem aH6 {p0 p1 p2 p3 p4:Prop} (h0:p0) (h1:p1) (h2:p2) (h3:p3) (h4:p4):p0∧p1∧p2∧p3∧p4:=⟨h0,h1,h2,h3,h4⟩
theorem aH7 {p0 p1 p2 p3 p4 p5:Prop} (h0:p0) (h1:p1) (h2:p2) (h3:p3) (h4:p4) (h5:p5):p0∧p1∧p2∧p3∧p4∧p5:=⟨h0,h1,h2,h3,h4,h5⟩
theorem aH8 {p0 p1 p2 p3 p4 p5 p6:Prop} (h0:p0) (h1:p1) (h2:p2) (h3:p3) (h4:p4) (h5:p5) (h6:p6):p0∧p1∧p2∧p3∧p4∧p5∧p6:=⟨h0,h1,h2,h3,h4,h5,h6⟩
theorem aIa {p0 p1 p2 p3 p4 p5 p6 p7 p8:Prop} (h0:p0) (h1:p1) (h2:p2) (h3:p3) (h4:p4) (h5:p5) (h6:p6) (h7:p7) (h8:p8):p0∧p1∧p2∧p3∧p4∧p5∧p6∧p7∧p8:=⟨h0,h1,h2,h3,h4,h5,h6,h7,h8⟩
theorem aIe {α:Type} (a:α):∃x,x=a:=⟨_,rfl⟩
theorem aIf {α:Type} (a:α):∃x,a=x:=⟨_,rfl⟩
theorem cA {p:Prop} (h:p):Hid p:=h
structure Rw where
 lock:Int
 prom:Int
 acc:Int
 own:Int
 tok:Int
 ttl:Int
 seq:Int
def wrB(n:Int):Bool:=decide (0≤n)&&decide (n≤2147483647)
def okB(r:Rw):Bool:=wrB r.prom&&wrB r.acc&&wrB r.tok&&wrB r.ttl&&wrB r.seq&&decide (0≤r.lock)&&decide (r.lock≤3)&&decide (0≤r.own)&&decide (r.own≤4)
def fO(v:Int):Nat→List Int
 |0=>[]
 |k+1=>v % 256::fO (v / 256) k
theorem hL:∀(k:Nat) (v:Int),(fO v k).length=k
 |0,_=>rfl
 |k+1,v=>by simp[fO,hL k]
theorem uU:∀(k:Nat) (v:Int),∀x ∈ fO v k,0≤x∧x<256
 |0,_=>by simp[fO]
 |k+1,v=>by
  intro x hx;simp only[fO,List.mem_cons]at hx;rcases hx with rfl|hx
  ·omega
  ·exact uU k _ x hx
def kF(r:Rw):List Int:=[82]++fO r.lock 1++fO r.prom 4++fO r.acc 4++fO r.own 1++fO r.tok 4++fO r.ttl 4++fO r.seq 4
theorem tR(r:Rw):(kF r).length=23:=by simp[kF,hL]
theorem wP(r:Rw):∀x ∈ kF r,0≤x∧x<256:=by
 intro x a;simp only[kF,aO,List.mem_singleton]at a;rcases a with((((((rfl|h)|h)|h)|h)|h)|h)|h
 ·omega
 all_goals exact uU _ _ x h
def lP:List Int→Nat→Int→Int
 |[],_,n=>n
 |b::bs,i,n=>lP bs (i+1) ((n+(i+1)*b) % 65536)
theorem xG:∀(bs:List Int) (i:Nat) (n:Int),0≤n→n<65536→0≤lP bs i n∧lP bs i n<65536
 |[],_,n,h0,h1=>⟨h0,h1⟩
 |b::bs,i,n,_,_=>xG bs (i+1) _ (Int.emod_nonneg _ (by omega)) (Int.emod_lt_of_pos _ (by omega))
theorem aAi(b:Int):∀(bs:List Int) (i:Nat) (n:Int),lP (bs++[b]) i n=(lP bs i n+((i+bs.length:Nat)+1)*b) % 65536
 |[],i,n=>by simp[lP]
 |x::xs,i,n=>by
  simp only[List.cons_append,lP,aAi b xs (i+1) _,bF]
  congr 3
  omega
theorem aEN{bs:List Int}{k:Nat}(h:k<bs.length)(i:Nat)(n:Int):lP (bs.take (k+1)) i n=(lP (bs.take k) i n+((i+k:Nat)+1)*bs.getD k 0) % 65536:=by
 rw[List.take_succ_eq_append_getElem h,aAi,aZ,Nat.min_eq_left (Nat.le_of_lt h)];simp[List.getD,h]
def lV(r:Rw):List Int:=kF r++fO (lP (kF r) 0 0) 2
theorem nQ(r:Rw):(lV r).length=25:=by simp[lV,tR,hL]
theorem aEu(r:Rw):∀x ∈ lV r,0≤x∧x<256:=by
 intro x a;simp only[lV,aO]at a;rcases a with h|h
 ·exact wP r x h
 ·exact uU _ _ x h
def dM(r:Rw):List Int:=if okB r=true then lV r else[]
abbrev rwL(r:Rw):List Value:=[.int .i64 r.lock,.int .i64 r.prom,.int .i64 r.acc,.int .i64 r.own,.int .i64 r.tok,.int .i64 r.ttl,.int .i64 r.seq]
abbrev rwV(r:Rw):Value:=.agg #[.int .i64 r.lock,.int .i64 r.prom,.int .i64 r.acc,.int .i64 r.own,.int .i64 r.tok,.int .i64 r.ttl,.int .i64 r.seq]
theorem fM(xs:List Int):(strOfNums xs).size=xs.length:=by simp[strOfNums,ByteArray.size]
theorem lG(xs ys:List Int):strOfNums xs++strOfNums ys=strOfNums (xs++ys):=by
 apply ByteArray.ext;simp[strOfNums]
theorem zG(xs:List Int)(k:Nat)(h:k<xs.length)(hb:∀x ∈ xs,0≤x∧x<256):(((strOfNums xs).data.toList.getD k 0).toNat:Int)=xs.getD k 0:=by
 have a:=hb _ (bD h);have e:((strOfNums xs).data.toList.getD k 0)=UInt8.ofNat (xs[k]).toNat:=by simp[strOfNums,List.getD,h]
 rw[e];simp[List.getD,h];omega
structure Vl where
 own:Int
 tok:Int
 ttl:Int
 seq:Int
structure Mg where
 kind:Int
 src:Int
 dst:Int
 lock:Int
 bal:Int
 base:Int
 val:Vl
structure Ev where
 kind:Int
 node:Int
 msg:Mg
 okind:Int
 olock:Int
 ottl:Int
 res:Int
 own:Int
 tok:Int
 bal:Int
def zVl:Vl:=⟨0,0,0,0⟩
def zMg:Mg:=⟨0,0,0,0,0,0,zVl⟩
def zEv:Ev:=⟨0,0,zMg,0,0,0,0,0,0,0⟩
abbrev vlL(v:Vl):List Value:=[.int .i64 v.own,.int .i64 v.tok,.int .i64 v.ttl,.int .i64 v.seq]
abbrev mgL(m:Mg):List Value:=[.int .i64 m.kind,.int .i64 m.src,.int .i64 m.dst,.int .i64 m.lock,.int .i64 m.bal,.int .i64 m.base,.int .i64 m.val.own,.int .i64 m.val.tok,.int .i64 m.val.ttl,.int .i64 m.val.seq]
abbrev evL(e:Ev):List Value:=[.int .i64 e.kind,.int .i64 e.node,
 .int .i64 e.msg.kind,.int .i64 e.msg.src,.int .i64 e.msg.dst,.int .i64 e.msg.lock,.int .i64 e.msg.bal,.int .i64 e.msg.base,.int .i64 e.msg.val.own,.int .i64 e.msg.val.tok,.int .i64 e.msg.val.ttl,.int .i64 e.msg.val.seq,
 .int .i64 e.okind,.int .i64 e.olock,.int .i64 e.ottl,.int .i64 e.res,.int .i64 e.own,.int .i64 e.tok,.int .i64 e.bal]
abbrev vlV(v:Vl):Value:=.agg #[.int .i64 v.own,.int .i64 v.tok,.int .i64 v.ttl,.int .i64 v.seq]
abbrev mgV(m:Mg):Value:=.agg #[.int .i64 m.kind,.int .i64 m.src,.int .i64 m.dst,.int .i64 m.lock,.int .i64 m.bal,.int .i64 m.base,.int .i64 m.val.own,.int .i64 m.val.tok,.int .i64 m.val.ttl,.int .i64 m.val.seq]
abbrev evV(e:Ev):Value:=.agg #[.int .i64 e.kind,.int .i64 e.node,
 .int .i64 e.msg.kind,.int .i64 e.msg.src,.int .i64 e.msg.dst,.int .i64 e.msg.lock,.int .i64 e.msg.bal,.int .i64 e.msg.base,.int .i64 e.msg.val.own,.int .i64 e.msg.val.tok,.int .i64 e.msg.val.ttl,.int .i64 e.msg.val.seq,
 .int .i64 e.okind,.int .i64 e.olock,.int .i64 e.ottl,.int .i64 e.res,.int .i64 e.own,.int .i64 e.tok,.int .i64 e.bal]
theorem aDm(e:Ev):∀j v,(mgL e.msg)[j]?=some v→(evL e).toArray[2+j]?=some v:=by
 intro j v b;have a:j<10:=(aF.1 b).1;have c:(evL e)[2+j]?=((evL e).drop 2)[j]?:=by rw[List.getElem?_drop]
 have d:(evL e).drop 2=mgL e.msg++[.int .i64 e.okind,.int .i64 e.olock,.int .i64 e.ottl,.int .i64 e.res,.int .i64 e.own,.int .i64 e.tok,.int .i64 e.bal]:=rfl;rw[List.getElem?_toArray,c,d,bI a,b]
def cQ{α:Type}(f:α→List Value)(l:List α):List Value:=l.flatMap f
theorem nL{α:Type}(f:α→List Value)(l:List α)(x:α):cQ f (l++[x])=cQ f l++f x:=by simp[cQ]
theorem eO{α:Type}(f:α→List Value){k:Nat}(hk:∀x,(f x).length=k):∀l:List α,(cQ f l).length=l.length*k
 |[]=>by simp[cQ]
 |x::l=>by
  have:=eO f hk l;simp only[cQ,List.flatMap_cons,aD,bF]at*;rw[this,hk];rw[Nat.add_mul];omega
theorem sF{α:Type}(f:α→List Value){k:Nat}(hk:∀x,(f x).length=k):∀(l:List α) (i:Nat) (h:i<l.length) (j:Nat),j<k→(cQ f l)[i*k+j]?=(f l[i])[j]?
 |[],i,h,_,_=>absurd h (by simp)
 |x::l,0,_,j,hj=>by
  simp only[cQ,List.flatMap_cons,Nat.zero_mul,Nat.zero_add,List.getElem_cons_zero];rw[bI (by rw[hk];exact hj)]
 |x::l,i+1,h,j,hj=>by
  have ih:=sF f hk l i (by simpa using h) j hj;simp only[cQ,List.flatMap_cons,List.getElem_cons_succ]at*;rw[bJ (by rw[hk,Nat.add_mul];omega),hk];rw[←ih]
  congr 1
  rw[Nat.add_mul];omega
def pG(e:Ev):Bool:=e.kind==1
def cH(l:List Ev):List Mg:=(l.filter pG).map (·.msg)
theorem eU:cH []=[]:=rfl
theorem gL(a b:List Ev):cH (a++b)=cH a++cH b:=by simp[cH]
theorem lI(l:List Ev):(cH l).length≤l.length:=by
 simpa[cH]using List.length_filter_le _ _
structure Cf where
 f:Int
 clients:Int
 patience:Int
 tries:Int
 drift:Int
 compact:Int
 room:Int
structure Wt where
 own:Int
 tok:Int
 seq:Int
 since:Int
structure At where
 bal:Int
 began:Int
 awaited:Int
 ans:List Int
 base:Int
 val:Vl
 eres:Int
 eown:Int
 etok:Int
structure On where
 kind:Int
 lock:Int
 ttl:Int
 began:Int
 tries:Int
 att:At
 mine:List Int
structure Ct where
 num:Int
 inc:Int
 up:Bool
 clock:Int
 round:Int
 toks:Int→Int
 holds:Int→Int
 wat:Int→Wt
 doing:Option On
def zWt:Wt:=⟨0,0,0,0⟩
def zAt:At:=⟨0,0,0,[],0,zVl,0,0,0⟩
def upd{α:Type}(f:Int→α)(k:Int)(v:α):Int→α:=fun x=>if x=k then v else f x
def uN(num:Int):Ct:=⟨num,0,true,0,0,fun _=>0,fun _=>0,fun _=>zWt,none⟩
def fC(m:Mg):Ev:={zEv with kind:=1,msg:=m}
def gW(n:Int)(o:On):Ev:={zEv with kind:=2,node:=n,okind:=o.kind,olock:=o.lock,ottl:=o.ttl}
def fZ(n:Int)(o:On)(res own tok:Int):Ev:={zEv with kind:=3,node:=n,okind:=o.kind,olock:=o.lock,ottl:=o.ttl,res:=res,own:=own,tok:=tok,bal:=o.att.bal}
def gJ(n:Int):Ev:={zEv with kind:=4,node:=n}
def nX(n:Int):Ev:={zEv with kind:=5,node:=n}
def zK(w:Wt)(v:Vl):Bool:=w.own==v.own&&w.tok==v.tok&&w.seq==v.seq
def nZ(c:Ct)(l:Int):Ct:={c with toks:=upd c.toks l 0,holds:=upd c.holds l 0}
def kD(c:Ct)(o:On)(tok:Int):Ct:=if o.kind=3 then nZ c o.lock else{c with toks:=upd c.toks o.lock tok,holds:=upd c.holds o.lock (o.began+o.ttl)}
def lW(c:Ct)(l:Int)(v:Vl):Ct:=if v.own=0∨v.own=c.num+1∨zK (c.wat l) v=true then c else{c with wat:=upd c.wat l ⟨v.own,v.tok,v.seq,c.clock⟩}
def fT(c:Ct)(o:On)(res tok:Int)(v:Vl):Ct:=
 let c0:={c with doing:=none}
 if res=1 then kD c0 o tok else if res=3 then nZ c0 o.lock else if res=2∨res=4 then lW c0 o.lock v else c0
def kX(c:Ct)(o:On)(res own tok:Int):List Ev:=[fZ c.num o res own tok]
def fA(c:Ct)(o:On)(kind base:Int)(v:Vl)(n:Nat):List Ev:=(List.range n).map fun (tq:Nat)=>fC ⟨kind,c.num,(tq:Int),o.lock,o.att.bal,base,v⟩
def dI(g:Cf):Nat:=(2*g.f+1).toNat
def hO(c:Ct):At:={zAt with bal:=(c.round+1)*256+c.inc*4+c.num,began:=c.clock,awaited:=2}
def eH(o:On)(c:Ct):On:={o with tries:=o.tries+1,att:=hO c}
def gG(c:Ct)(o:On):Ct:=if 1000≤c.round then fT c o 6 0 zVl else{c with round:=c.round+1,doing:=some (eH o c)}
def fH(g:Cf)(c:Ct)(o:On):List Ev:=if 1000≤c.round then kX c o 6 0 0 else fA c (eH o c) 1 0 zVl (dI g)
def jL(g:Cf)(c:Ct)(o:On):Ct:=if o.tries<g.tries then gG c o else fT c o 5 0 zVl
def jF(g:Cf)(c:Ct)(o:On):List Ev:=if o.tries<g.tries then fH g c o else kX c o 5 0 0
def dJ(c:Ct)(kind lock ttl:Int):Ct:=
 if kind=3 then{c with holds:=upd c.holds lock 0}else if kind=1∨kind=2 then{c with holds:=upd c.holds lock (min (c.holds lock) (c.clock+ttl))}else c
def dT(c:Ct)(kind lock ttl:Int):On:=⟨kind,lock,ttl,c.clock,0,zAt,[]⟩
def jX(c:Ct):Int:=if c.up=false then 2 else if c.doing.isSome then 4 else 0
def iN(c:Ct)(kind lock ttl:Int):Ct:=if jX c≠0 then c else gG (dJ {c with doing:=some (dT c kind lock ttl)} kind lock ttl) (dT c kind lock ttl)
def iB(g:Cf)(c:Ct)(kind lock ttl:Int):List Ev:=if jX c≠0 then[]else gW c.num (dT c kind lock ttl)::fH g (dJ {c with doing:=some (dT c kind lock ttl)} kind lock ttl) (dT c kind lock ttl)
def wS(c:Ct):Int:=if c.up=false then 2 else 0
def kT(g:Cf)(c:Ct):Ct:=
 if c.up=false then c else
 let c1:={c with clock:=c.clock+1}
 match c.doing with
 |some o=>if g.patience≤c1.clock-o.att.began then jL g c1 o else c1
 |none=>c1
def lA(g:Cf)(c:Ct):List Ev:=
 if c.up=false then[]else
 let c1:={c with clock:=c.clock+1}
 match c.doing with
 |some o=>if g.patience≤c1.clock-o.att.began then jF g c1 o else[]
 |none=>[]
structure Fw where
 next:Vl
 res:Int
 own:Int
 tok:Int
def lQ(c:Ct)(o:On)(v:Vl):Bool:=v.own==c.num+1&& !(c.toks o.lock==0)&&v.tok==c.toks o.lock
def aBM(g:Cf)(c:Ct)(o:On)(v:Vl):Bool:=zK (c.wat o.lock) v&&decide ((c.wat o.lock).since+(v.ttl*(10+g.drift)+9) / 10+2≤o.att.began)
def oG(o:On)(b:Int):Bool:=o.mine.contains b
def nV(o:On)(t:Int):Bool:=o.mine.any fun b=>decide (b<t)
def gR(g:Cf)(c:Ct)(o:On)(v:Vl):Fw:=
 if oG o v.tok=true then⟨v,1,c.num+1,v.tok⟩
 else if nV o v.tok=true then⟨zVl,5,0,0⟩
 else if v.own=0∨v.own=c.num+1∨aBM g c o v=true then⟨⟨c.num+1,o.att.bal,o.ttl,1⟩,1,c.num+1,o.att.bal⟩
 else⟨v,2,v.own,v.tok⟩
def kQ(c:Ct)(o:On)(v:Vl):Fw:=
 if lQ c o v=true then⟨⟨v.own,v.tok,o.ttl,min (v.seq+1) 2147483647⟩,1,c.num+1,v.tok⟩else⟨v,3,0,0⟩
def gN(c:Ct)(o:On)(v:Vl):Fw:=
 if lQ c o v=true then⟨⟨0,v.tok,0,o.att.bal⟩,1,c.num+1,v.tok⟩
 else if v.own=0∧oG o v.seq=true then⟨v,1,c.num+1,v.tok⟩
 else if 0<o.mine.length∧v.tok≠c.toks o.lock then⟨zVl,5,0,0⟩
 else⟨v,3,0,0⟩
def cU(g:Cf)(c:Ct)(o:On)(v:Vl):Fw:=
 if o.kind=1 then gR g c o v else if o.kind=2 then kQ c o v else if o.kind=3 then gN c o v else⟨v,4,v.own,v.tok⟩
def oC(o:On)(v:Vl):Bool:=if o.kind=1 then v.tok==o.att.bal else if o.kind=3 then v.seq==o.att.bal else false
def eJ(o:On)(w:Fw):On:={o with att:={o.att with eres:=w.res,eown:=w.own,etok:=w.tok,awaited:=4,ans:=[]},mine:=if oC o w.next=true then o.mine++[o.att.bal]else o.mine}
def hP(g:Cf)(c:Ct)(o:On):Ct:=
 let w:=cU g c o o.att.val
 if w.res=5 then fT c o w.res w.tok o.att.val else{c with doing:=some (eJ o w)}
def gT(g:Cf)(c:Ct)(o:On):List Ev:=
 let w:=cU g c o o.att.val
 if w.res=5 then kX c o w.res w.own w.tok else fA c (eJ o w) 3 o.att.base w.next (dI g)
def heardOn(o:On)(m:Mg):On:={o with att:={o.att with ans:=o.att.ans++[m.src],base:=if o.att.base<m.base then m.base else o.att.base,val:=if o.att.base<m.base then m.val else o.att.val}}
def iS(g:Cf)(c:Ct)(o:On)(m:Mg):Ct:=
 if o.att.ans.contains m.src=true then c else
 let o':=heardOn o m
 if(o'.att.ans.length:Int)≤g.f then{c with doing:=some o'}
 else if m.kind=2 then hP g {c with doing:=some o'} o'
 else fT c o' o'.att.eres o'.att.etok o'.att.val
def iW(g:Cf)(c:Ct)(o:On)(m:Mg):List Ev:=
 if o.att.ans.contains m.src=true then[]else
 let o':=heardOn o m
 if(o'.att.ans.length:Int)≤g.f then[]
 else if m.kind=2 then gT g {c with doing:=some o'} o'
 else kX c o' o'.att.eres o'.att.eown o'.att.etok
def fI(g:Cf)(c:Ct)(m:Mg):Ct:=
 if c.up=false then c else
 match c.doing with
 |none=>c
 |some o=>
  if m.bal≠o.att.bal then c
  else if m.kind=5 then jL g {c with round:=max c.round (m.base / 256)} o
  else if m.kind=o.att.awaited then iS g c o m
  else c
def fE(g:Cf)(c:Ct)(m:Mg):List Ev:=
 if c.up=false then[]else
 match c.doing with
 |none=>[]
 |some o=>
  if m.bal≠o.att.bal then[]
  else if m.kind=5 then jF g {c with round:=max c.round (m.base / 256)} o
  else if m.kind=o.att.awaited then iW g c o m
  else[]
def aDE(c:Ct):Int:=if c.up=false then 2 else 0
def lY(c:Ct):Ct:=if c.up=false then c else⟨c.num,c.inc,false,0,0,fun _=>0,fun _=>0,fun _=>zWt,none⟩
def lO(c:Ct):List Ev:=if c.up=false then[]else[gJ (-1-c.num)]
def eK(c:Ct):Int:=if c.up=true then 3 else if c.inc=63 then 5 else 0
def iQ(c:Ct):Ct:=if eK c≠0 then c else{c with inc:=c.inc+1,up:=true}
def iE(c:Ct):List Ev:=if eK c≠0 then[]else[nX (-1-c.num)]
def aC0(c:Ct)(l:Int):Bool:=c.up&&decide (c.clock<c.holds l)
def nA:List Int→Int
 |[]=>0
 |b::bs=>b+256*nA bs
def dG(s:ByteArray):List Int:=s.data.toList.map fun b=>(b.toNat:Int)
theorem gK(s:ByteArray):(dG s).length=s.size:=by unfold dG;rw[bK];rfl
theorem lE(s:ByteArray)(k:Nat)(h:k<s.size):(dG s).getD k 0=(s[k].toNat:Int):=by
 have a:k<s.data.toList.length:=h;rw[dG,aQ,List.getElem?_map,aP a]
 rfl
theorem rQ{xs:List Int}(hx:∀x ∈ xs,0≤x∧x<256):dG (strOfNums xs)=xs:=by
 apply List.ext_getElem (by rw[gK,fM]);intro k b a;have e:=zG xs k a hx;have c:k<(strOfNums xs).data.toList.length:=by rw[gK]at b;exact b
 rw[aQ,aP c,aQ,aP a]at e;simp only[dG,List.getElem_map];exact e
section
variable {P:Program}
theorem fD(w:World)(a:Addr)(ty:TypeId)(cs:List Value)(d:TypeDesc)(hc:∀j v,cs[j]?=some v→w.cell? (a.add j)=some v)
 (hu:P.underlying ty=some d) (hd:(match d with| .struct _| .array _ _=>true|_=>false)=true) (hi:(P.info? ty).map (·.size)=some cs.length):
 (loadVar ty a).run P w= .ok (.agg cs.toArray) w:=by
 have e:=run_loadCells_list (P:=P) w a cs hc;cases hq:P.info? ty with
 |none=>simp[hq]at hi
 |some i=>
  have c:i.size=cs.length:=by simpa[hq]using hi
  have b:(isAgg ty).run P w= .ok true w:=by
   unfold isAgg;rw[aT,run_underlying hu w];cases d<;>simp_all
  simp[loadVar,aT,b,sizeOf,typeInfo,hq,c,e]
theorem aCb{o:Oper}{a:Act}{w:World}{K:Act→World→Prop}{Q:Exit→Act→World→Prop}(ty:TypeId)(x:Operand)(ho:o.op= .load ty x)
 (p:Addr) (hx:a.eval x= .pointer (some p)) (cs:List Value) (d:TypeDesc) (hc:∀j v,cs[j]?=some v→w.cell? (p.add j)=some v)
 (hu:P.underlying ty=some d) (hd:(match d with| .struct _| .array _ _=>true|_=>false)=true) (hi:(P.info? ty).map (·.size)=some cs.length)
 (h:K (a.put o.dst (.agg cs.toArray)) w):o.wp P a w K Q:=by
 unfold Oper.wp execOp;simp only[ho,hx,Instr.loadAt,Instr.sureAddr,aT,Sem.run_pure,Result.andThen_ok,fD w p ty cs d hc hu hd hi];exact h
theorem cJ{ops:Array Oper}{rest:List Oper}{o:Oper}{a:Act}{w:World}{Q:Exit→Act→World→Prop}(hgd:o.guard=none)(ty:TypeId)(x:Operand)(ho:o.op= .load ty x)
 (p:Addr) (hx:a.eval x= .pointer (some p)) (cs:List Value) (d:TypeDesc) (hc:∀j v,cs[j]?=some v→w.cell? (p.add j)=some v)
 (hu:P.underlying ty=some d) (hd:(match d with| .struct _| .array _ _=>true|_=>false)=true) (hi:(P.info? ty).map (·.size)=some cs.length)
 (h:wpList P ops Q rest (a.put o.dst (.agg cs.toArray)) w):wpList P ops Q (o::rest) a w:=
 wpList_plain hgd fun _ hK=>aCb ty x ho p hx cs d hc hu hd hi (hK _ _ h)
end
def mn(x y:Int):Int:=if y<x then y else x
def mx(x y:Int):Int:=if x<y then y else x
def mn5(a b c d e:Int):Int:=mn (mn (mn (mn a b) c) d) e
def mx5(a b c d e:Int):Int:=mx (mx (mx (mx a b) c) d) e
theorem aHY(z x y:Int):z≤mn x y↔z≤x∧z≤y:=by unfold mn;split<;>omega
theorem aHQ(z x y:Int):mx x y≤z↔x≤z∧y≤z:=by unfold mx;split<;>omega
theorem aHx(z a b c d e:Int):z≤mn5 a b c d e↔z≤a∧z≤b∧z≤c∧z≤d∧z≤e:=by simp only[mn5,aHY,and_assoc]
theorem aHs(z a b c d e:Int):mx5 a b c d e≤z↔a≤z∧b≤z∧c≤z∧d≤z∧e≤z:=by simp only[mx5,aHQ,and_assoc]
section
variable {P:Program} (ts:Array TypeId) (t:TypeId) (k:IntKind) (a b c d e:Int) (w:World)
theorem aFV:(Builtin.min_ ts t #[.int k a,.int k b,.int k c,.int k d,.int k e]).run P w= .ok (.int k (mn5 a b c d e)) w:=by
 simp[Builtin.min_,Builtin.min2,mn5,mn]
 rfl
theorem aFW:(Builtin.max_ ts t #[.int k a,.int k b,.int k c,.int k d,.int k e]).run P w= .ok (.int k (mx5 a b c d e)) w:=by
 simp[Builtin.max_,Builtin.max2,mx5,mx]
 rfl
end
theorem aG2(r:Rw):okB r=true↔(0≤r.lock∧r.lock<4)∧(0≤r.own∧r.own≤4)∧0≤mn5 r.prom r.acc r.tok r.ttl r.seq∧mx5 r.prom r.acc r.tok r.ttl r.seq≤2147483647:=by
 rw[aHx,aHs];simp only[okB,wrB,aR,aM];constructor
 ·intro h;omega
 ·intro h;omega
theorem aBc{a b:Bool}(h:a=b):Ending.returned (.bool a)= .returned (.bool b):=by rw[h]
theorem tS(r:Rw)(w:World):
 Calls prog 140 #[rwV r] w fun e w'=>e= .returned (.bool (okB r))∧Below w.heap.size w w':=by
 have j:=aG2 r;obtain⟨l,p,a,o,t,u,q⟩:=r;have f:Hid (okB ⟨l,p,a,o,t,u,q⟩=true↔(0≤l∧l<4)∧(0≤o∧o≤4)∧0≤mn5 p a t u q∧mx5 p a t u q≤2147483647):=j;clear j;have k:=fun (ts:Array TypeId) (ty:TypeId) (W:World)=>aFV (P:=prog) ts ty .i64 p a t u q W;have m:=fun (ts:Array TypeId) (ty:TypeId) (W:World)=>aFW (P:=prog) ts ty .i64 p a t u q W;have B:∀x y,Below w.heap.size w ((w.alloc x).alloc y):=fun x y=>((aJ _ _).alloc (aE _) x).alloc (by simp) y;have b:=f.out.2;have g:¬((0≤l∧l<4)∧(0≤o∧o≤4)∧0≤mn5 p a t u q∧mx5 p a t u q≤2147483647)→okB ⟨l,p,a,o,t,u,q⟩=false:=fun h=>by
  cases hc:okB ⟨l,p,a,o,t,u,q⟩with
  |false=>rfl
  |true=>exact absurd (f.out.1 hc) h
 have c:=cA b;have i:=cA g;clear b g f;go_enter func140,ntmps140;go_wp2;all_goals
  go_ret;refine⟨?_,B _ _⟩;first
   |(rw[c.out (by omega)];try rfl)
   |(rw[i.out (by omega)];try rfl)
   |(by_cases d:mx5 p a t u q≤2147483647
     ·rw[c.out (by omega)];exact aBc (decide_eq_true d)
     ·rw[i.out (by omega)];exact aBc (decide_eq_false d))
theorem aDA:(prog.info? 5).map (fun i=>(i.zero,i.size,i.bytes))=some (some (.int .u8 0),1,1):=by kernel_rfl
theorem aEF(n:Int)(h0:0≤n)(h1:n≤2147483647):fO n 4=[n % 256,n / 256 % 256,n / 65536 % 256,n / 16777216]:=by
 simp only[fO];rw[show n / 256 / 256=n / 65536 by omega,show n / 65536 / 256=n / 16777216 by omega,show n / 16777216 % 256=n / 16777216 by omega]
theorem qG(w:World)(xs:List Value)(t:TypeId):∀j u,xs[j]?=some u→(w.alloc (.cells xs.toArray t)).cell? ((⟨w.heap.size,0,none⟩:Addr).add j)=some u:=by
 intro j u h;have e:(⟨w.heap.size,0,none⟩:Addr).add j=⟨w.heap.size,j,none⟩:=by unfold Addr.add;split<;>simp_all
 rw[e];simpa using h
theorem iU(base:Nat)(v:Value)(k:Nat)(xs:List Value)(n:Int)(w:World)(hown:w.ownsRow base 5 1 v k xs)(hk:k≤1000)(h0:0≤n)(h1:n≤2147483647)(hbase:base≤w.heap.size):
 Calls prog 141 #[v,.int .i64 n] w fun e w'=>∃v',e= .returned v'∧w'.ownsRow base 5 1 v' (k+4) (xs++(fO n 4).map (Value.int .u8))∧Below base w w':=by
 obtain⟨h,l,d,f,c⟩:=info_parts aDA;have i:=cA (aEF n h0 h1);go_enter func141,ntmps141;go_wp2_with (at_builtin;refine wpList_append_own_at _ rfl _ _ 218 rfl base 5 h (.int .u8 0) 1 1 underlying218 l d f c rfl (by decide) _ _ _ rfl (hown.alloc _) ⟨w.heap.size,0,none⟩ 4 4 [.int .u8 (n % 256),.int .u8 (n / 256 % 256),.int .u8 (n / 65536 % 256),.int .u8 (n / 16777216)] rfl rfl ?c1 ?c2 ?c3 ?c4 ?c5 ?_)
 case c1=>exact qG _ _ _
 case c2=>intro x g;simp at g;rcases g with rfl|rfl|rfl|rfl<;>rfl
 case c3=>unfold maxLen;omega
 case c4=>omega
 case c5=>simp;omega
 intro v' m a b _ _;go_wp2;go_ret;exact⟨v',rfl,by rw[i.out];exact a,((aJ _ _).alloc hbase _).grown b (by simp;omega) (fun j hj=>(hown.lt j hj).1)⟩
theorem aGw(g cap:Nat)(L:List Int)(w:World)(hc:∀j,j<L.length→w.cell? ⟨g,j,none⟩=some (.int .u8 (L.getD j 0)))(hb:∀x ∈ L,0≤x∧x<256)(hn:L.length≤1000):
 Calls prog 142 #[.slice (some ⟨g,0,none⟩) L.length cap] w fun e w'=>e= .returned (.int .u16 (lP L 0 0))∧w'=w:=by
 have A:=cA hb;have u:=cA hc;generalize y:L.length=N at hn u⊢;have l:=cA y;clear hb hc y;go_enter func142,ntmps142;go_wp2
 go_loop [3,8] (fun n i=>∃(k:Nat) (m:Int),k≤N∧i= .int .i64 k∧n= .int .u16 m∧m=lP (L.take k) 0 0∧0≤m∧m<65536) (fun _ i=>N-(intOf i).toNat)
 case atStart=>exact⟨0,0,by omega,rfl,rfl,by simp[lP],by omega,by omega⟩
 case round=>
  obtain⟨k,m,D,rfl,rfl,v,B,C⟩:=hrel;have f:=cA v;clear v;by_cases o:k<N
  ·have r:=u.out k o;have a:=aEN (bs:=L) (k:=k) (by rw[l.out];omega) 0 0;have d:0≤L.getD k 0∧L.getD k 0<256:=by
    rw[aQ,aP (by rw[l.out];omega)];exact A.out _ (bD _)
   rw[←f.out]at a;generalize q:L.getD k 0=b at r a d;have s:=cA a;have z:((k:Int)+1)*b≤1000*256:=by
    apply Int.mul_le_mul<;>omega
   have t:0≤((k:Int)+1)*b:=Int.mul_nonneg (by omega) d.1;clear a q;go_wp2
   go_round
   case rel=>
    refine⟨k+1,_,by omega,by go_num,rfl,?_,?_⟩
    ·rw[s.out,IntKind.wrap_u16,IntKind.wrap_u16,Nat.zero_add];omega
    ·rw[IntKind.wrap_u16];omega
   case measure=>simp[intOf];omega
  ·have c:L.take k=L:=aY (by rw[l.out];omega);have p:Hid (m=lP L 0 0):=by
    have h:=f.out;rw[c]at h;exact h
   clear f c;go_wp2;go_ret;exact⟨by rw[←p.out];rfl,rfl⟩
abbrev uG(xs:List Int):List Value:=xs.map (Value.int .u8)
section
variable (r:Rw) (w:World)
theorem aHV(hno:okB r=false):
 Calls prog 100 #[rwV r] w fun e w'=>e= .returned (.string (strOfNums []))∧Below w.heap.size w w':=by
 have c:=fun W=>tS r W;obtain⟨l,p,a,o,t,u,q⟩:=r;go_enter func100,ntmps100;go_wp2_with (go_at_call 140;refine(c _).mono ?_;rintro e d ⟨rfl,b⟩);go_ret;exact⟨rfl,((aJ _ w).alloc (aE _) _).trans (b.mono (by simp))⟩
theorem aHC(hok:okB r=true):
 Calls prog 100 #[rwV r] w fun e w'=>e= .returned (.string (strOfNums (lV r)))∧Below w.heap.size w w':=by
 have hw:=fun W=>tS r W;obtain⟨l,p,a,o,t,u,q⟩:=r;rw[hok]at hw;simp only[okB,aR,aM,wrB]at hok;obtain⟨i0,hi,O,Q,a7⟩:=info_parts aDA;have HW:=cA hw;clear hw;have hl:0≤l∧l<4:=by omega
 have ho:0≤o∧o<5:=by omega
 have hp:0≤p∧p≤2147483647:=by omega
 have ha:0≤a∧a≤2147483647:=by omega
 have ht:0≤t∧t≤2147483647:=by omega
 have hu:0≤u∧u≤2147483647:=by omega
 have hq:0≤q∧q≤2147483647:=by omega
 clear hok;have N:Hid (∀W,Below (w.heap.size+1) (w.alloc (.cells #[.int .i64 l,.int .i64 p,.int .i64 a,.int .i64 o,.int .i64 t,.int .i64 u,.int .i64 q] 58)) W→∀j v,(#[Value.int .i64 l,.int .i64 p,.int .i64 a,.int .i64 o,.int .i64 t,.int .i64 u,.int .i64 q]:Array Value)[j]?=some v→W.cell? ⟨w.heap.size,j,none⟩=some v):=by
  intro W hB j v k;rw[hB.cell (p:=⟨w.heap.size,j,none⟩) (by simp)];simpa using k
 generalize a5:w.alloc (.cells #[.int .i64 l,.int .i64 p,.int .i64 a,.int .i64 o,.int .i64 t,.int .i64 u,.int .i64 q] 58)=W0 at N;have hz:W0.heap.size=w.heap.size+1:=by rw[←a5];simp
 have b0:=cA a5;clear a5;go_enter func100,ntmps100;go_wp2_with (first
  |(go_at_call 140;rw[b0.out];refine(HW.out _).mono ?_;rintro e w1 ⟨rfl,R⟩)
  |(at_make;refine wpList_make_own _ rfl _ _ 218 rfl (w.heap.size+1) 5 i0 (.int .u8 0) 1 underlying218 hi O Q .i64 .i64 25 25 rfl rfl rfl (by omega) (by unfold maxLen;omega) (by have:=R.size;omega) ?_;intro w2 d b2;have c0:w.heap.size+1≤w1.heap.size:=by{have:=R.size;omega};have a2:Below (w.heap.size+1) W0 w2:=(R.mono (by omega)).grown b2 c0 (fun j k=>by cases k);have b5:w.heap.size+1≤w2.heap.size:=by{have:=b2.size;omega};have c2:w2.cell? ⟨w.heap.size,0,none⟩=some (.int .i64 l):=N.out _ a2 0 _ rfl;clear R b2 c0)
  |(at_builtin;refine wpList_append_own_at _ rfl _ _ 218 rfl (w.heap.size+1) 5 i0 (.int .u8 0) 1 1 underlying218 hi O Q a7 rfl (by decide) _ _ _ rfl (d.alloc _) ⟨w2.heap.size,0,none⟩ 2 2 [.int .u8 82,.int .u8 l] rfl rfl ?qa ?qb ?qc ?qd ?qe ?_))
 case qa=>exact qG _ _ _
 case qb=>intro x T;simp at T;rcases T with rfl|rfl<;>rfl
 case qc=>unfold maxLen;omega
 case qd=>omega
 case qe=>simp;omega
 intro v3 w3 H a0 _ _;have Z:=(a2.alloc b5 _).grown a0 (by simp;omega) (fun j k=>(d.lt j k).1);have b3:w.heap.size+1≤w3.heap.size:=by have:=a0.size;simp at this;omega
 clear a0 d a2 b5 c2;have c3:w3.cell? ⟨w.heap.size,1,none⟩=some (.int .i64 p):=N.out _ Z 1 _ rfl;go_wp2_with fail;refine(iU (w.heap.size+1) v3 2 _ p w3 H (by omega) hp.1 hp.2 b3).mono ?_;rintro e w4 ⟨v4,rfl,G,z⟩;have a1:=Z.trans z;have b8:w.heap.size+1≤w4.heap.size:=by have:=z.size;omega
 clear z H Z b3 c3;have c4:w4.cell? ⟨w.heap.size,2,none⟩=some (.int .i64 a):=N.out _ a1 2 _ rfl;go_wp2_with fail;refine(iU (w.heap.size+1) v4 6 _ a w4 G (by omega) ha.1 ha.2 b8).mono ?_;rintro e w5 ⟨v5,rfl,i,E⟩;have a6:=a1.trans E;have b6:w.heap.size+1≤w5.heap.size:=by have:=E.size;omega
 clear E G a1 b8 c4;have c5:w5.cell? ⟨w.heap.size,3,none⟩=some (.int .i64 o):=N.out _ a6 3 _ rfl;go_wp2_with (at_builtin;refine wpList_append_own_at _ rfl _ _ 218 rfl (w.heap.size+1) 5 i0 (.int .u8 0) 1 1 underlying218 hi O Q a7 rfl (by decide) _ _ _ rfl (i.alloc _) ⟨w5.heap.size,0,none⟩ 1 1 [.int .u8 o] rfl rfl ?qa ?qb ?qc ?qd ?qe ?_)
 case qa=>exact qG _ _ _
 case qb=>intro x T;simp at T;subst T;rfl
 case qc=>unfold maxLen;omega
 case qd=>omega
 case qe=>simp;omega
 intro v6 w6 F a8 _ _;have a3:=(a6.alloc b6 _).grown a8 (by simp;omega) (fun j k=>(i.lt j k).1);have b4:w.heap.size+1≤w6.heap.size:=by have:=a8.size;simp at this;omega
 clear a8 i a6 b6 c5;have c6:w6.cell? ⟨w.heap.size,4,none⟩=some (.int .i64 t):=N.out _ a3 4 _ rfl;go_wp2_with fail;refine(iU (w.heap.size+1) v6 11 _ t w6 F (by omega) ht.1 ht.2 b4).mono ?_;rintro e w7 ⟨v7,rfl,K,D⟩;have b1:=a3.trans D;have c9:w.heap.size+1≤w7.heap.size:=by have:=D.size;omega
 clear D F a3 b4 c6;have c7:w7.cell? ⟨w.heap.size,5,none⟩=some (.int .i64 u):=N.out _ b1 5 _ rfl;go_wp2_with fail;refine(iU (w.heap.size+1) v7 15 _ u w7 K (by omega) hu.1 hu.2 c9).mono ?_;rintro e w8 ⟨v8,rfl,M,B⟩;have a9:=b1.trans B;have b7:w.heap.size+1≤w8.heap.size:=by have:=B.size;omega
 clear B K b1 c9 c7;have c8:w8.cell? ⟨w.heap.size,6,none⟩=some (.int .i64 q):=N.out _ a9 6 _ rfl;go_wp2_with fail;refine(iU (w.heap.size+1) v8 19 _ q w8 M (by omega) hq.1 hq.2 b7).mono ?_;rintro e w9 ⟨v9,rfl,I,C⟩;have d2:=a9.trans C;have d0:w.heap.size+1≤w9.heap.size:=by have:=C.size;omega
 clear C M a9 b7 c8;have e1:fO l 1=[l]:=by simp only[fO];rw[show l % 256=l by omega]
 have e2:fO o 1=[o]:=by simp only[fO];rw[show o % 256=o by omega]
 have c:w9.ownsRow (w.heap.size+1) 5 1 v9 23 (uG (kF ⟨l,p,a,o,t,u,q⟩)):=by
  have h:=I;simpa[kF,e1,e2,uG]using h
 clear I e1 e2 N HW hl ho hp ha ht hu hq;have A:=tR ⟨l,p,a,o,t,u,q⟩;have f:=wP ⟨l,p,a,o,t,u,q⟩;have U:lV ⟨l,p,a,o,t,u,q⟩=kF ⟨l,p,a,o,t,u,q⟩++fO (lP (kF ⟨l,p,a,o,t,u,q⟩) 0 0) 2:=rfl;have HR:=cA U;clear U;generalize kF ⟨l,p,a,o,t,u,q⟩=L at c A f HR;have m:=cA A;have d3:=cA f;clear A f;rcases c.2 with⟨_,h0⟩|⟨g,d9,e3,rfl,_⟩
 ·omega
 have J:∀j,j<L.length→w9.cell? ⟨g,j,none⟩=some (.int .u8 (L.getD j 0)):=by
  intro j k;rw[c.cellAt j (by rw[m.out]at k;omega),uG,List.getElem?_map,aP k,aQ,aP k]
  rfl
 have n:=aGw g d9 L w9 J d3.out (by rw[m.out];omega);rw[m.out]at n;have d1:=xG L 0 0 (by omega) (by omega);generalize lP L 0 0=S at n d1 HR;clear J;go_wp2_with fail;refine n.mono ?_;rintro e y ⟨rfl,d4⟩;obtain rfl:w9=y:=d4.symm;clear n;go_wp2_with (at_builtin;refine wpList_append_own_at _ rfl _ _ 218 rfl (w.heap.size+1) 5 i0 (.int .u8 0) 1 1 underlying218 hi O Q a7 rfl (by decide) _ _ _ rfl (c.alloc _) ⟨w9.heap.size,0,none⟩ 2 2 [.int .u8 (S % 256),.int .u8 (S / 256)] rfl rfl ?qa ?qb ?qc ?qd ?qe ?_)
 case qa=>exact qG _ _ _
 case qb=>intro x T;simp at T;rcases T with rfl|rfl<;>rfl
 case qc=>unfold maxLen;omega
 case qd=>omega
 case qe=>simp;omega
 intro d7 y s Y _ _;have V:=(d2.alloc d0 _).grown Y (by simp;omega) (fun j k=>(c.lt j k).1);have a4:=nQ ⟨l,p,a,o,t,u,q⟩;have b9:fO S 2=[S % 256,S / 256]:=by simp only[fO];rw[show S / 256 % 256=S / 256 by omega]
 have b:y.ownsRow (w.heap.size+1) 5 1 d7 25 (uG (lV ⟨l,p,a,o,t,u,q⟩)):=by
  rw[HR.out,b9];have h:=s;simpa[uG]using h
 have d6:Below w.heap.size w y:=by
  have h:=((aJ w.heap.size w).alloc (aE _) (.cells #[.int .i64 l,.int .i64 p,.int .i64 a,.int .i64 o,.int .i64 t,.int .i64 u,.int .i64 q] 58));rw[b0.out]at h;exact h.trans (V.mono (by omega))
 clear s Y d2 d0 c HR b9 d1 m d3 b0 V;generalize c1:lV ⟨l,p,a,o,t,u,q⟩=X at b a4;have d8:=cA c1;clear c1;rcases b.2 with⟨_,h0⟩|⟨g2,d5,e0,rfl,_⟩
 ·omega
 have HX:=cA a4;clear a4;have kc:=run_convert_bytes_arg (P:=prog) y 218 5 underlying218 underlying5 g2 0 25 d5 X HX.out (fun j k=>by
  rw[Nat.zero_add,b.cellAt j (by omega),uG,List.getElem?_map,aP (by rw[HX.out];omega),aQ,aP (by rw[HX.out];omega)]
  rfl) 9 underlying9
 clear b;go_wp2;go_ret;exact⟨by rw[d8.out];rfl,d6⟩
theorem aCj:
 Calls prog 100 #[rwV r] w fun e w'=>e= .returned (.string (strOfNums (dM r)))∧Below w.heap.size w w':=by
 unfold dM;by_cases h:okB r=true
 ·rw[if_pos h];exact aHC r w h
 ·rw[if_neg h];exact aHV r w (by simpa using h)
end
theorem tX(n:Int)(h0:0≤n)(h1:n<2 ^ 40):IntKind.i64.wrap n=n:=by rw[IntKind.wrap_i64];omega
theorem jB(n:Int)(h0:0≤n)(h1:n<2 ^ 40):wrap64 n=n:=by unfold wrap64;omega
theorem or4(a b c d:Int)(ha:0≤a∧a<256)(hb:0≤b∧b<256)(hc:0≤c∧c<256)(hd:0≤d∧d<256):
 bits BinOp.or IntKind.i64 (bits BinOp.or IntKind.i64 (bits BinOp.or IntKind.i64 (wrap64 a) (wrap64 (wrap64 b*256))) (wrap64 (wrap64 c*65536))) (wrap64 (wrap64 d*16777216))=a+256*(b+256*(c+256*(d+256*0))):=by
 rw[jB a (by omega) (by omega),jB b (by omega) (by omega),jB c (by omega) (by omega),jB d (by omega) (by omega),jB (b*256) (by omega) (by omega),jB (c*65536) (by omega) (by omega),jB (d*16777216) (by omega) (by omega)];rw[bits_join_low .i64 40 (by decide) tX 8 a (b*256) (by omega) (by omega) (by omega) (by omega) (by omega) (by omega)];rw[bits_join_low .i64 40 (by decide) tX 16 (a+b*256) (c*65536) (by omega) (by omega) (by omega) (by omega) (by omega) (by omega)];rw[bits_join_low .i64 40 (by decide) tX 24 (a+b*256+c*65536) (d*16777216) (by omega) (by omega) (by omega) (by omega) (by omega) (by omega)];omega
theorem aEL{L:List Int}(h:4≤L.length):L.take 4=[L.getD 0 0,L.getD 1 0,L.getD 2 0,L.getD 3 0]:=by
 match L,h with
 |a::b::c::d::r,_=>rfl
 |[],h=>simp at h
 |[_],h=>simp at h
 |[_,_],h=>simp at h
 |[_,_,_],h=>simp at h
theorem aCJ(s:ByteArray)(w:World)(hs:4≤s.size):
 Calls prog 136 #[.string s] w fun e w'=>e= .returned (.int .i64 (nA ((dG s).take 4)))∧∃m,w'=w.drewN m:=by
 have c:0<s.size:=by omega
 have a:1<s.size:=by omega
 have f:2<s.size:=by omega
 have d:3<s.size:=by omega
 have g:(0:Int)<(s.size:Int):=by omega
 have h:(1:Int)<(s.size:Int):=by omega
 have j:(2:Int)<(s.size:Int):=by omega
 have i:(3:Int)<(s.size:Int):=by omega
 go_enter func136,ntmps136;go_wp2_with fail
 go_quiet (fail)
 go_wp2;go_ret;refine⟨?_,nq,rfl⟩;rw[aEL (by rw[gK];exact hs),lE s 0 c,lE s 1 a,lE s 2 f,lE s 3 d];have b:∀(x:UInt8),(0:Int)≤(x.toNat:Int)∧(x.toNat:Int)<256:=fun x=>⟨by omega,by have:=x.toNat_lt;omega⟩;simp only[nA];rw[←or4 _ _ _ _ (b _) (b _) (b _) (b _)]
 rfl
def mH(L:List Int):Rw:=⟨L.getD 1 0,nA ((L.drop 2).take 4),nA ((L.drop 6).take 4),L.getD 10 0,nA ((L.drop 11).take 4),nA ((L.drop 15).take 4),nA ((L.drop 19).take 4)⟩
theorem pS(s:ByteArray)(a b:Nat):dG (s.extract a b)=((dG s).drop a).take (b-a):=by
 unfold dG;rw[show(s.extract a b).data.toList=(s.data.toList.drop a).take (b-a)from by simp];rw[List.map_take,List.map_drop]
theorem aAm(b:UInt8):IntKind.i64.wrap (b.toNat:Int)=(b.toNat:Int):=by
 have:=b.toNat_lt;rw[IntKind.wrap_i64];omega
theorem uX(s:ByteArray)(a:Nat):dG (s.extract a s.size)=(dG s).drop a:=by
 rw[pS,aY];rw[aV,gK];omega
theorem eG(s:ByteArray)(a:Nat)(w:World)(h:a+4≤s.size):
 Calls prog 136 #[.string (s.extract a s.size)] w fun e w'=>e= .returned (.int .i64 (nA (((dG s).drop a).take 4)))∧∃m,w'=w.drewN m:=by
 rw[←uX s a];exact aCJ _ _ (by rw[ByteArray.size_extract];omega)
abbrev Z7:Obj:=.cells #[.int .i64 0,.int .i64 0,.int .i64 0,.int .i64 0,.int .i64 0,.int .i64 0,.int .i64 0] 58
abbrev zRw:Rw:=⟨0,0,0,0,0,0,0⟩
theorem aEU(W:World)(g m:Nat)(hg:W.heap.size=g)(v0 v1 v2 v3 v4 v5 v6:Value):
 ((((((((W.alloc Z7).drewN m).setCell ⟨g,0,none⟩ v0).setCell ⟨g,1,none⟩ v1).setCell ⟨g,2,none⟩ v2).setCell ⟨g,3,none⟩ v3).setCell ⟨g,4,none⟩ v4).setCell ⟨g,5,none⟩ v5).setCell ⟨g,6,none⟩ v6=(W.alloc (.cells #[v0,v1,v2,v3,v4,v5,v6] 58)).drewN m:=by
 have b:∀(V:World) (a:Addr) (v:Value),(V.drewN m).setCell a v=(V.setCell a v).drewN m:=fun V a v=>by
  unfold World.setCell World.drewN;cases V;simp only
 simp only[b,World.setCell_alloc_at _ _ _ _ _ hg.symm]
 rfl
theorem aHw(W:World)(g:Nat)(h:∀j,j<7→(W.cell? ⟨g,j,none⟩).isSome=true)(v0 v1 v2 v3 v4 v5 v6:Value):
 ∀j u,[v0,v1,v2,v3,v4,v5,v6][j]?=some u→(((((((W.setCell ⟨g,0,none⟩ v0).setCell ⟨g,1,none⟩ v1).setCell ⟨g,2,none⟩ v2).setCell ⟨g,3,none⟩ v3).setCell ⟨g,4,none⟩ v4).setCell ⟨g,5,none⟩ v5).setCell ⟨g,6,none⟩ v6).cell? ((⟨g,0,none⟩:Addr).add j)=some u:=by
 intro j u hj;have e:(⟨g,0,none⟩:Addr).add j=⟨g,j,none⟩:=by unfold Addr.add;split<;>simp_all
 rw[e];have i:=h 0 (by omega);have d:=h 1 (by omega);have b:=h 2 (by omega);have l:=h 3 (by omega);have c:=h 4 (by omega);have f:=h 5 (by omega);have a:=h 6 (by omega)
 match j,hj with
 |0,hj=>simp at hj;subst hj;simp[World.cell?_setCell_other,World.cell?_setCell_same',i]
 |1,hj=>simp at hj;subst hj;simp[World.cell?_setCell_other,World.cell?_setCell_same',d]
 |2,hj=>simp at hj;subst hj;simp[World.cell?_setCell_other,World.cell?_setCell_same',b]
 |3,hj=>simp at hj;subst hj;simp[World.cell?_setCell_other,World.cell?_setCell_same',l]
 |4,hj=>simp at hj;subst hj;simp[World.cell?_setCell_other,World.cell?_setCell_same',c]
 |5,hj=>simp at hj;subst hj;simp[World.cell?_setCell_other,World.cell?_setCell_same',f]
 |6,hj=>simp at hj;subst hj;simp[World.cell?_setCell_other,World.cell?_setCell_same',a]
 |k+7,hj=>simp at hj
theorem aHS(W:World)(g:Nat)(h:∀j,j<7→(W.cell? ⟨g,j,none⟩).isSome=true)(v0 v1 v2 v3 v4 v5 v6:Value):
 (loadVar 58 ⟨g,0,none⟩).run prog (((((((W.setCell ⟨g,0,none⟩ v0).setCell ⟨g,1,none⟩ v1).setCell ⟨g,2,none⟩ v2).setCell ⟨g,3,none⟩ v3).setCell ⟨g,4,none⟩ v4).setCell ⟨g,5,none⟩ v5).setCell ⟨g,6,none⟩ v6)=
  .ok (.agg #[v0,v1,v2,v3,v4,v5,v6]) (((((((W.setCell ⟨g,0,none⟩ v0).setCell ⟨g,1,none⟩ v1).setCell ⟨g,2,none⟩ v2).setCell ⟨g,3,none⟩ v3).setCell ⟨g,4,none⟩ v4).setCell ⟨g,5,none⟩ v5).setCell ⟨g,6,none⟩ v6):=
 fD _ _ 58 [v0,v1,v2,v3,v4,v5,v6] _ (aHw W g h v0 v1 v2 v3 v4 v5 v6) underlying58 rfl (by kernel_rfl)
theorem aBz(s:ByteArray)(w:World)(hs:s.size<25):
 Calls prog 97 #[.string s] w fun e w'=>e= .returned (.tuple #[rwV zRw,.bool false])∧Below w.heap.size w w':=by
 go_enter func97,ntmps97;go_wp2;exact bodyPost_ret (v:=.tuple #[rwV zRw,.bool false]) (by simp[results,results97,go_sem]) rfl ⟨rfl,(aJ _ _).alloc (aE _) _⟩
theorem aCf(s:ByteArray)(w:World)(hs:25≤s.size)(R:Rw)(hR:R=mH (dG s))(q:Bool)(hq:((strOfNums (dM R)).toList==(s.extract 0 25).toList)=q):
 Calls prog 97 #[.string s] w fun e w'=>e= .returned (.tuple #[rwV (if q=true then R else zRw),.bool q])∧Below w.heap.size w w':=by
 have U:1<s.size:=by omega
 have J:10<s.size:=by omega
 have i1:(1:Int)<(s.size:Int):=by omega
 have a3:(10:Int)<(s.size:Int):=by omega
 have b2:(2:Int)≤(s.size:Int):=by omega
 have b6:(6:Int)≤(s.size:Int):=by omega
 have a0:(11:Int)≤(s.size:Int):=by omega
 have a1:(15:Int)≤(s.size:Int):=by omega
 have a4:(19:Int)≤(s.size:Int):=by omega
 have a2:(25:Int)≤(s.size:Int):=by omega
 have T:=cA hR;have V:=cA hq;clear hR hq;go_enter func97,ntmps97;go_wp2_with fail
 go_cut [4]from 5 to 31 (fun s4 wc=>s4= .pointer (some ⟨w.heap.size+1,0,none⟩)∧∃d m,wc=(((w.alloc Z7).drewN d).alloc (.cells #[.int .i64 (IntKind.i64.wrap (s[1].toNat:Int)),.int .i64 (nA (List.take 4 (List.drop 2 (dG s)))),.int .i64 (nA (List.take 4 (List.drop 6 (dG s)))),.int .i64 (IntKind.i64.wrap (s[10].toNat:Int)),.int .i64 (nA (List.take 4 (List.drop 11 (dG s)))),.int .i64 (nA (List.take 4 (List.drop 15 (dG s)))),.int .i64 (nA (List.take 4 (List.drop 19 (dG s))))] 58)).drewN m)
 case first=>
  refine wp_region_any (by kernel_rfl) ?_;change wpAny _ _ _ _ _ _ _ (World.drew _);refine wpAny_take (i:=0) (v:=?v1) rfl (by kernel_rfl) (by kernel_rfl) (by kernel_rfl) (fun _ _ _ h=>h) (Or.inl ⟨by rfl,?y1⟩) ?k1
  case y1=>intro w;go_simp;with_reducible rfl
  refine wpAny_take (i:=1) (v:=?v2) rfl (by kernel_rfl) (by kernel_rfl) (by kernel_rfl) (fun _ _ _ h=>h) (Or.inl ⟨by rfl,?y2⟩) ?k2
  case y2=>intro w;go_simp;with_reducible rfl
  refine wpAny_take (i:=2) (v:=?v3) rfl (by kernel_rfl) (by kernel_rfl) (by kernel_rfl) (fun _ _ _ h=>h) (Or.inl ⟨by rfl,?y3⟩) ?k3
  case y3=>intro w;go_simp;with_reducible rfl
  refine wpAny_take (i:=3) (v:=?v4) rfl (by kernel_rfl) (by kernel_rfl) (by kernel_rfl) (fun _ _ _ h=>h) (Or.inl ⟨by rfl,?y4⟩) ?k4
  case y4=>intro w;go_simp;with_reducible rfl
  refine wpAny_take (i:=4) (v:=?v5) rfl (by kernel_rfl) (by kernel_rfl) (by kernel_rfl) (fun _ _ _ h=>h) (Or.inl ⟨by rfl,?y5⟩) ?k5
  case y5=>intro w;go_simp;with_reducible rfl
  refine wpAny_take (i:=6) (v:=?v6) rfl (by kernel_rfl) (by kernel_rfl) (by kernel_rfl) (fun _ _ _ h=>h) (Or.inl ⟨by rfl,?y6⟩) ?k6
  case y6=>intro w;go_simp;with_reducible rfl
  refine wpAny_take (i:=7) (v:=?v7) rfl (by kernel_rfl) (by kernel_rfl) (by kernel_rfl) (fun _ _ _ h=>h) (Or.inl ⟨by rfl,?y7⟩) ?k7
  case y7=>intro w;go_simp;with_reducible rfl
  refine wpAny_take (i:=9) (v:=?v8) rfl (by kernel_rfl) (by kernel_rfl) (by kernel_rfl) (fun _ _ _ h=>h) (Or.inl ⟨by rfl,?y8⟩) ?k8
  case y8=>intro w;go_simp;with_reducible rfl
  refine wpAny_take (i:=10) (v:=?v9) rfl (by kernel_rfl) (by kernel_rfl) (by kernel_rfl) (fun _ _ _ h=>h) (Or.inl ⟨by rfl,?y9⟩) ?k9
  case y9=>intro w;go_simp;with_reducible rfl
  refine wpAny_take (i:=11) (v:=?v10) rfl (by kernel_rfl) (by kernel_rfl) (by kernel_rfl) (fun _ _ _ h=>h) (Or.inl ⟨by rfl,?y10⟩) ?k10
  case y10=>intro w;go_simp;with_reducible rfl
  refine wpAny_take (i:=12) (v:=?v11) rfl (by kernel_rfl) (by kernel_rfl) (by kernel_rfl) (fun _ _ _ h=>h) (Or.inl ⟨by rfl,?y11⟩) ?k11
  case y11=>intro w;go_simp;with_reducible rfl
  refine wpAny_take (i:=13) (v:=?v12) rfl (by kernel_rfl) (by kernel_rfl) (by kernel_rfl) (fun _ _ _ h=>h) (Or.inl ⟨by rfl,?y12⟩) ?k12
  case y12=>intro w;go_simp;with_reducible rfl
  refine wpAny_take (i:=15) (v:=?v13) rfl (by kernel_rfl) (by kernel_rfl) (by kernel_rfl) (fun _ _ _ h=>h) (Or.inl ⟨by rfl,?y13⟩) ?k13
  case y13=>intro w;go_simp;with_reducible rfl
  refine wpAny_take (i:=16) (v:=?v14) rfl (by kernel_rfl) (by kernel_rfl) (by kernel_rfl) (fun _ _ _ h=>h) (Or.inl ⟨by rfl,?y14⟩) ?k14
  case y14=>intro w;go_simp;with_reducible rfl
  refine wpAny_take (i:=18) (v:=?v15) rfl (by kernel_rfl) (by kernel_rfl) (by kernel_rfl) (fun _ _ _ h=>h) (Or.inl ⟨by rfl,?y15⟩) ?k15
  case y15=>intro w;go_simp;with_reducible rfl
  refine wpAny_take (i:=19) (v:=?v16) rfl (by kernel_rfl) (by kernel_rfl) (by kernel_rfl) (fun _ _ _ h=>h) (Or.inl ⟨by rfl,?y16⟩) ?k16
  case y16=>intro w;go_simp;with_reducible rfl
  refine wpAny_ready (rs:=[5,23]) (by kernel_rfl) (by simp) ?_;refine AllReady.cons rfl (fun K hK=>?_) ?_
  ·go_simp;refine Calls.mono (eG s 2 _ (by omega)) ?_;rintro e w' ⟨rfl,m2,rfl⟩;refine hK _ _ ?_;clear hK K;refine wpAny_ready (rs:=[8,23]) (by kernel_rfl) (by simp) ?_;refine AllReady.cons rfl (fun K hK=>?_) ?_
   ·go_simp;refine Calls.mono (eG s 6 _ (by omega)) ?_;rintro e w' ⟨rfl,O,rfl⟩;refine hK _ _ ?_;clear hK K;refine wpAny_ready (rs:=[14,23]) (by kernel_rfl) (by simp) ?_;refine AllReady.cons rfl (fun K hK=>?_) ?_
    ·go_simp;refine Calls.mono (eG s 11 _ (by omega)) ?_;rintro e w' ⟨rfl,B,rfl⟩;refine hK _ _ ?_;clear hK K;refine wpAny_ready (rs:=[17,23]) (by kernel_rfl) (by simp) ?_;refine AllReady.cons rfl (fun K hK=>?_) ?_
     ·go_simp;refine Calls.mono (eG s 15 _ (by omega)) ?_;rintro e w' ⟨rfl,r,rfl⟩;refine hK _ _ ?_;clear hK K;refine wpAny_ready (rs:=[20,23]) (by kernel_rfl) (by simp) ?_;refine AllReady.cons rfl (fun K hK=>?_) ?_
      ·go_simp;refine Calls.mono (eG s 19 _ (by omega)) ?_;rintro e w' ⟨rfl,k,rfl⟩;refine hK _ _ ?_;clear hK K;refine wpAny_take (i:=21) (v:=?v17) rfl (by kernel_rfl) (by kernel_rfl) (by kernel_rfl) (fun _ _ _ h=>h) (Or.inl ⟨by rfl,?y17⟩) ?k17
       case y17=>intro w;go_simp;with_reducible rfl
       refine wpAny_take (i:=22) (v:=?v18) rfl (by kernel_rfl) (by kernel_rfl) (by kernel_rfl) (fun _ _ _ h=>h) (Or.inl ⟨by rfl,?y18⟩) ?k18
       case y18=>intro w;go_simp;with_reducible rfl
       refine wpAny_ready (rs:=[23]) (by kernel_rfl) (by simp) ?_;refine AllReady.cons rfl (fun K hK=>?_) ?_
       ·go_simp;refine hK _ _ ?_;clear hK K;refine wpAny_ready (rs:=[24]) (by kernel_rfl) (by simp) ?_;refine AllReady.cons rfl (fun K hK=>?_) ?_
        ·go_simp;refine hK _ _ ?_;clear hK K;refine wpAny_done (by kernel_rfl) ?_ _;go_wp2_with fail
         go_meet
         case rel=>exact⟨rfl,_,0,rfl⟩
        exact AllReady.nil
       exact AllReady.nil
      refine AllReady.cons rfl (fun K hK=>?_) ?_
      ·go_simp;refine hK _ _ ?_;clear hK K;refine wpAny_ready (rs:=[20]) (by kernel_rfl) (by simp) ?_;refine AllReady.cons rfl (fun K hK=>?_) ?_
       ·go_simp;refine Calls.mono (eG s 19 _ (by omega)) ?_;rintro e w' ⟨rfl,k,rfl⟩;refine hK _ _ ?_;clear hK K;refine wpAny_take (i:=21) (v:=?v19) rfl (by kernel_rfl) (by kernel_rfl) (by kernel_rfl) (fun _ _ _ h=>h) (Or.inl ⟨by rfl,?y19⟩) ?k19
        case y19=>intro w;go_simp;with_reducible rfl
        refine wpAny_take (i:=22) (v:=?v20) rfl (by kernel_rfl) (by kernel_rfl) (by kernel_rfl) (fun _ _ _ h=>h) (Or.inl ⟨by rfl,?y20⟩) ?k20
        case y20=>intro w;go_simp;with_reducible rfl
        refine wpAny_ready (rs:=[24]) (by kernel_rfl) (by simp) ?_;refine AllReady.cons rfl (fun K hK=>?_) ?_
        ·go_simp;refine hK _ _ ?_;clear hK K;refine wpAny_done (by kernel_rfl) ?_ _;go_wp2_with fail
         go_meet
         case rel=>
          go_light
          refine⟨rfl,?_⟩;rw[aEU _ _ _ (by simp)];exact⟨_,_,rfl⟩
        exact AllReady.nil
       exact AllReady.nil
      exact AllReady.nil
     refine AllReady.cons rfl (fun K hK=>?_) ?_
     ·go_simp;refine hK _ _ ?_;clear hK K;refine wpAny_ready (rs:=[17]) (by kernel_rfl) (by simp) ?_;refine AllReady.cons rfl (fun K hK=>?_) ?_
      ·go_simp;refine Calls.mono (eG s 15 _ (by omega)) ?_;rintro e w' ⟨rfl,r,rfl⟩;refine hK _ _ ?_;clear hK K;refine wpAny_ready (rs:=[20]) (by kernel_rfl) (by simp) ?_;refine AllReady.cons rfl (fun K hK=>?_) ?_
       ·go_simp;refine Calls.mono (eG s 19 _ (by omega)) ?_;rintro e w' ⟨rfl,k,rfl⟩;refine hK _ _ ?_;clear hK K;refine wpAny_take (i:=21) (v:=?v21) rfl (by kernel_rfl) (by kernel_rfl) (by kernel_rfl) (fun _ _ _ h=>h) (Or.inl ⟨by rfl,?y21⟩) ?k21
        case y21=>intro w;go_simp;with_reducible rfl
        refine wpAny_take (i:=22) (v:=?v22) rfl (by kernel_rfl) (by kernel_rfl) (by kernel_rfl) (fun _ _ _ h=>h) (Or.inl ⟨by rfl,?y22⟩) ?k22
        case y22=>intro w;go_simp;with_reducible rfl
        refine wpAny_ready (rs:=[24]) (by kernel_rfl) (by simp) ?_;refine AllReady.cons rfl (fun K hK=>?_) ?_
        ·go_simp;refine hK _ _ ?_;clear hK K;refine wpAny_done (by kernel_rfl) ?_ _;go_wp2_with fail
         go_meet
         case rel=>
          go_light
          refine⟨rfl,?_⟩;rw[aEU _ _ _ (by simp)];exact⟨_,_,rfl⟩
        exact AllReady.nil
       exact AllReady.nil
      exact AllReady.nil
     exact AllReady.nil
    refine AllReady.cons rfl (fun K hK=>?_) ?_
    ·go_simp;refine hK _ _ ?_;clear hK K;refine wpAny_ready (rs:=[14]) (by kernel_rfl) (by simp) ?_;refine AllReady.cons rfl (fun K hK=>?_) ?_
     ·go_simp;refine Calls.mono (eG s 11 _ (by omega)) ?_;rintro e w' ⟨rfl,B,rfl⟩;refine hK _ _ ?_;clear hK K;refine wpAny_ready (rs:=[17]) (by kernel_rfl) (by simp) ?_;refine AllReady.cons rfl (fun K hK=>?_) ?_
      ·go_simp;refine Calls.mono (eG s 15 _ (by omega)) ?_;rintro e w' ⟨rfl,r,rfl⟩;refine hK _ _ ?_;clear hK K;refine wpAny_ready (rs:=[20]) (by kernel_rfl) (by simp) ?_;refine AllReady.cons rfl (fun K hK=>?_) ?_
       ·go_simp;refine Calls.mono (eG s 19 _ (by omega)) ?_;rintro e w' ⟨rfl,k,rfl⟩;refine hK _ _ ?_;clear hK K;refine wpAny_take (i:=21) (v:=?v23) rfl (by kernel_rfl) (by kernel_rfl) (by kernel_rfl) (fun _ _ _ h=>h) (Or.inl ⟨by rfl,?y23⟩) ?k23
        case y23=>intro w;go_simp;with_reducible rfl
        refine wpAny_take (i:=22) (v:=?v24) rfl (by kernel_rfl) (by kernel_rfl) (by kernel_rfl) (fun _ _ _ h=>h) (Or.inl ⟨by rfl,?y24⟩) ?k24
        case y24=>intro w;go_simp;with_reducible rfl
        refine wpAny_ready (rs:=[24]) (by kernel_rfl) (by simp) ?_;refine AllReady.cons rfl (fun K hK=>?_) ?_
        ·go_simp;refine hK _ _ ?_;clear hK K;refine wpAny_done (by kernel_rfl) ?_ _;go_wp2_with fail
         go_meet
         case rel=>
          go_light
          refine⟨rfl,?_⟩;rw[aEU _ _ _ (by simp)];exact⟨_,_,rfl⟩
        exact AllReady.nil
       exact AllReady.nil
      exact AllReady.nil
     exact AllReady.nil
    exact AllReady.nil
   refine AllReady.cons rfl (fun K hK=>?_) ?_
   ·go_simp;refine hK _ _ ?_;clear hK K;refine wpAny_ready (rs:=[8]) (by kernel_rfl) (by simp) ?_;refine AllReady.cons rfl (fun K hK=>?_) ?_
    ·go_simp;refine Calls.mono (eG s 6 _ (by omega)) ?_;rintro e w' ⟨rfl,O,rfl⟩;refine hK _ _ ?_;clear hK K;refine wpAny_ready (rs:=[14]) (by kernel_rfl) (by simp) ?_;refine AllReady.cons rfl (fun K hK=>?_) ?_
     ·go_simp;refine Calls.mono (eG s 11 _ (by omega)) ?_;rintro e w' ⟨rfl,B,rfl⟩;refine hK _ _ ?_;clear hK K;refine wpAny_ready (rs:=[17]) (by kernel_rfl) (by simp) ?_;refine AllReady.cons rfl (fun K hK=>?_) ?_
      ·go_simp;refine Calls.mono (eG s 15 _ (by omega)) ?_;rintro e w' ⟨rfl,r,rfl⟩;refine hK _ _ ?_;clear hK K;refine wpAny_ready (rs:=[20]) (by kernel_rfl) (by simp) ?_;refine AllReady.cons rfl (fun K hK=>?_) ?_
       ·go_simp;refine Calls.mono (eG s 19 _ (by omega)) ?_;rintro e w' ⟨rfl,k,rfl⟩;refine hK _ _ ?_;clear hK K;refine wpAny_take (i:=21) (v:=?v25) rfl (by kernel_rfl) (by kernel_rfl) (by kernel_rfl) (fun _ _ _ h=>h) (Or.inl ⟨by rfl,?y25⟩) ?k25
        case y25=>intro w;go_simp;with_reducible rfl
        refine wpAny_take (i:=22) (v:=?v26) rfl (by kernel_rfl) (by kernel_rfl) (by kernel_rfl) (fun _ _ _ h=>h) (Or.inl ⟨by rfl,?y26⟩) ?k26
        case y26=>intro w;go_simp;with_reducible rfl
        refine wpAny_ready (rs:=[24]) (by kernel_rfl) (by simp) ?_;refine AllReady.cons rfl (fun K hK=>?_) ?_
        ·go_simp;refine hK _ _ ?_;clear hK K;refine wpAny_done (by kernel_rfl) ?_ _;go_wp2_with fail
         go_meet
         case rel=>
          go_light
          refine⟨rfl,?_⟩;rw[aEU _ _ _ (by simp)];exact⟨_,_,rfl⟩
        exact AllReady.nil
       exact AllReady.nil
      exact AllReady.nil
     exact AllReady.nil
    exact AllReady.nil
   exact AllReady.nil
  refine AllReady.cons rfl (fun K hK=>?_) ?_
  ·go_simp;refine hK _ _ ?_;clear hK K;refine wpAny_ready (rs:=[5]) (by kernel_rfl) (by simp) ?_;refine AllReady.cons rfl (fun K hK=>?_) ?_
   ·go_simp;refine Calls.mono (eG s 2 _ (by omega)) ?_;rintro e w' ⟨rfl,m2,rfl⟩;refine hK _ _ ?_;clear hK K;refine wpAny_ready (rs:=[8]) (by kernel_rfl) (by simp) ?_;refine AllReady.cons rfl (fun K hK=>?_) ?_
    ·go_simp;refine Calls.mono (eG s 6 _ (by omega)) ?_;rintro e w' ⟨rfl,O,rfl⟩;refine hK _ _ ?_;clear hK K;refine wpAny_ready (rs:=[14]) (by kernel_rfl) (by simp) ?_;refine AllReady.cons rfl (fun K hK=>?_) ?_
     ·go_simp;refine Calls.mono (eG s 11 _ (by omega)) ?_;rintro e w' ⟨rfl,B,rfl⟩;refine hK _ _ ?_;clear hK K;refine wpAny_ready (rs:=[17]) (by kernel_rfl) (by simp) ?_;refine AllReady.cons rfl (fun K hK=>?_) ?_
      ·go_simp;refine Calls.mono (eG s 15 _ (by omega)) ?_;rintro e w' ⟨rfl,r,rfl⟩;refine hK _ _ ?_;clear hK K;refine wpAny_ready (rs:=[20]) (by kernel_rfl) (by simp) ?_;refine AllReady.cons rfl (fun K hK=>?_) ?_
       ·go_simp;refine Calls.mono (eG s 19 _ (by omega)) ?_;rintro e w' ⟨rfl,k,rfl⟩;refine hK _ _ ?_;clear hK K;refine wpAny_take (i:=21) (v:=?v27) rfl (by kernel_rfl) (by kernel_rfl) (by kernel_rfl) (fun _ _ _ h=>h) (Or.inl ⟨by rfl,?y27⟩) ?k27
        case y27=>intro w;go_simp;with_reducible rfl
        refine wpAny_take (i:=22) (v:=?v28) rfl (by kernel_rfl) (by kernel_rfl) (by kernel_rfl) (fun _ _ _ h=>h) (Or.inl ⟨by rfl,?y28⟩) ?k28
        case y28=>intro w;go_simp;with_reducible rfl
        refine wpAny_ready (rs:=[24]) (by kernel_rfl) (by simp) ?_;refine AllReady.cons rfl (fun K hK=>?_) ?_
        ·go_simp;refine hK _ _ ?_;clear hK K;refine wpAny_done (by kernel_rfl) ?_ _;go_wp2_with fail
         go_meet
         case rel=>
          go_light
          refine⟨rfl,?_⟩;rw[aEU _ _ _ (by simp)];exact⟨0,_,rfl⟩
        exact AllReady.nil
       exact AllReady.nil
      exact AllReady.nil
     exact AllReady.nil
    exact AllReady.nil
   exact AllReady.nil
  exact AllReady.nil
 case rest=>
  obtain⟨rfl,d,m,y⟩:=hcut;have G:Below (w.heap.size+1) (w.alloc Z7) wc:=by
   rw[y];exact below_drewN (Below.alloc (below_drewN (aJ _ _) _) (by simp) _) _
  have E:w.heap.size+1<wc.heap.size:=by rw[y];simp
  have A:wc.heap[w.heap.size+1]?=some (.cells (rwL R).toArray 58 (0,0)):=by
   rw[y,T.out];have h:=aA ((w.alloc Z7).drewN d) (.cells (rwL (mH (dG s))).toArray 58);have e1:IntKind.i64.wrap (s[1].toNat:Int)=(dG s).getD 1 0:=by rw[aAm,lE s 1 U]
   have L:IntKind.i64.wrap (s[10].toNat:Int)=(dG s).getD 10 0:=by rw[aAm,lE s 10 J]
   rw[e1,L];have I:((w.alloc Z7).drewN d).heap.size=w.heap.size+1:=by simp
   rw[I]at h;exact h
  clear y T;obtain⟨l,p,a,o,t,u,v⟩:=R;have N:∀W,Below wc.heap.size wc W→∀j x,([.int .i64 l,.int .i64 p,.int .i64 a,.int .i64 o,.int .i64 t,.int .i64 u,.int .i64 v]:List Value)[j]?=some x→W.cell? ⟨w.heap.size+1,j,none⟩=some x:=by
   intro W H j x D;rw[H.cell (p:=⟨w.heap.size+1,j,none⟩) E,cell_of_row wc _ j _ _ _ A];simpa using D
  have M:∀W,Below wc.heap.size wc W→∀j x,([.int .i64 0,.int .i64 0,.int .i64 0,.int .i64 0,.int .i64 0,.int .i64 0,.int .i64 0]:List Value)[j]?=some x→W.cell? ⟨w.heap.size,j,none⟩=some x∧W.frozen? ⟨w.heap.size,j,none⟩=false:=by
   intro W H j x D;rw[H.cell (p:=⟨w.heap.size,j,none⟩) (by show w.heap.size<_;omega),H.frozen (p:=⟨w.heap.size,j,none⟩) (by show w.heap.size<_;omega),G.cell (p:=⟨w.heap.size,j,none⟩) (Nat.lt_succ_self _),G.frozen (p:=⟨w.heap.size,j,none⟩) (Nat.lt_succ_self _)];exact⟨by simpa using D,by simp⟩
  have C:=((aJ w.heap.size w).alloc (aE _) _).trans (G.mono (by omega));have g:=cA N;have f:=cA M;clear N M G A;have Z:=g.out wc (aJ _ _) 0 _ rfl;have r1:=g.out wc (aJ _ _) 1 _ rfl;have r2:=g.out wc (aJ _ _) 2 _ rfl;have r3:=g.out wc (aJ _ _) 3 _ rfl;have r4:=g.out wc (aJ _ _) 4 _ rfl;have r5:=g.out wc (aJ _ _) 5 _ rfl;have X:=g.out wc (aJ _ _) 6 _ rfl;have hq:=V.out;go_wp2_with fail
  go_region_with (go_at_call 100;refine(aCj ⟨l,p,a,o,t,u,v⟩ _).mono ?_;rintro e c ⟨rfl,F⟩)
  have b:=((aJ wc.heap.size wc).drew).trans F;have c0:=g.out c b 0 _ rfl;have z0:=(f.out c b 0 _ rfl).1;have f0:=(f.out c b 0 _ rfl).2;have c1:=g.out c b 1 _ rfl;have z1:=(f.out c b 1 _ rfl).1;have f1:=(f.out c b 1 _ rfl).2;have c2:=g.out c b 2 _ rfl;have z2:=(f.out c b 2 _ rfl).1;have f2:=(f.out c b 2 _ rfl).2;have c3:=g.out c b 3 _ rfl;have z3:=(f.out c b 3 _ rfl).1;have f3:=(f.out c b 3 _ rfl).2;have c4:=g.out c b 4 _ rfl;have Y:=(f.out c b 4 _ rfl).1;have f4:=(f.out c b 4 _ rfl).2;have c5:=g.out c b 5 _ rfl;have z5:=(f.out c b 5 _ rfl).1;have f5:=(f.out c b 5 _ rfl).2;have c6:=g.out c b 6 _ rfl;have z6:=(f.out c b 6 _ rfl).1;have f6:=(f.out c b 6 _ rfl).2;have z:=C.trans (b.mono C.size);have P:=cA z;clear z C b F Z r1 r2 r3 r4 r5 X E;have n:∀j,j<7→(c.cell? ⟨w.heap.size,j,none⟩).isSome=true:=fun j D=>by
   match j,D with
   |0,_=>rw[z0];rfl
   |1,_=>rw[z1];rfl
   |2,_=>rw[z2];rfl
   |3,_=>rw[z3];rfl
   |4,_=>rw[Y];rfl
   |5,_=>rw[z5];rfl
   |6,_=>rw[z6];rfl
  have Q:=aHS c w.heap.size n;have S:=fun v0 v1 v2 v3 v4 v5 v6=>(show Hid _ from Q v0 v1 v2 v3 v4 v5 v6);clear Q n;cases q
  ·go_wp2;exact bodyPost_ret (v:=.tuple #[rwV zRw,.bool false]) (by simp[results,results97,asAddr,(S _ _ _ _ _ _ _).out]) rfl ⟨rfl,(((((((P.out.setCell (aE _) _).setCell (aE _) _).setCell (aE _) _).setCell (aE _) _).setCell (aE _) _).setCell (aE _) _).setCell (aE _) _)⟩
  ·go_wp2;exact bodyPost_ret (v:=.tuple #[rwV ⟨l,p,a,o,t,u,v⟩,.bool true]) (by simp[results,results97,asAddr,(S _ _ _ _ _ _ _).out]) rfl ⟨rfl,(((((((P.out.setCell (aE _) _).setCell (aE _) _).setCell (aE _) _).setCell (aE _) _).setCell (aE _) _).setCell (aE _) _).setCell (aE _) _)⟩
def cellsOf(rs:List Rw):List Value:=rs.flatMap rwL
theorem aAT(rs:List Rw)(r:Rw):cellsOf (rs++[r])=cellsOf rs++rwL r:=by simp[cellsOf]
theorem vE:∀(rs:List Rw) (i:Nat) (h:i<rs.length) (j:Nat),j<7→(cellsOf rs)[i*7+j]?=(rwL rs[i])[j]?
 |r::rs,0,_,j,hj=>by
  simp only[cellsOf,List.flatMap_cons,Nat.zero_mul,Nat.zero_add];rw[bI (by simpa using hj)]
  rfl
 |r::rs,i+1,h,j,hj=>by
  have ih:=vE rs i (by simpa using h) j hj;simp only[cellsOf,List.flatMap_cons]at ih⊢;rw[bJ (by simp;omega)];have e:(i+1)*7+j-(rwL r).length=i*7+j:=by simp;omega
  rw[e,ih]
  rfl
def sC(M:List Int):Bool:=decide (dM (mH M)=M)
def jA:Nat→List Int→List Rw
 |0,_=>[]
 |f+1,L=>if 25≤L.length∧sC (L.take 25)=true then mH (L.take 25)::jA f (L.drop 25)else[]
def dS(L:List Int):List Rw:=jA L.length L
theorem nG(f:Nat)(L:List Int)(h:¬(25≤L.length∧sC (L.take 25)=true)):jA f L=[]:=by
 cases f with
 |zero=>rfl
 |succ f=>simp only[jA];rw[if_neg h]
theorem nK(f:Nat)(L:List Int)(h:25≤L.length∧sC (L.take 25)=true):jA (f+1) L=mH (L.take 25)::jA f (L.drop 25):=by
 simp only[jA];rw[if_pos h]
theorem qK(r:Rw):∀x ∈ dM r,0≤x∧x<256:=by
 unfold dM;split
 ·exact aEu r
 ·simp
theorem aGW(r:Rw)(s:ByteArray):((strOfNums (dM r)).toList==s.toList)=decide (dM r=dG s):=by
 rw[ByteArray.toList_eq,ByteArray.toList_eq,Bool.eq_iff_iff,beq_iff_eq,aM];constructor
 ·intro h;have e:strOfNums (dM r)=s:=by
   apply ByteArray.ext;exact Array.toList_inj.1 h
  rw[←e,rQ (qK r)]
 ·intro h;rw[h];simp only[strOfNums,dG,List.map_map];have e:((fun n:Int=>UInt8.ofNat n.toNat)∘fun b:UInt8=>(b.toNat:Int))=id:=by
   funext b
   simp
  rw[e,List.map_id]
theorem aFU:(prog.info? 58).map (fun i=>(i.zero,i.size,i.bytes))=some (some (.agg #[.int .i64 0,.int .i64 0,.int .i64 0,.int .i64 0,.int .i64 0,.int .i64 0,.int .i64 0]),7,56):=by kernel_rfl
theorem aBH(r:Rw):∀x ∈ rwL r,x.oneCell'=true:=by
 intro x a;simp only[rwL,List.mem_cons,List.not_mem_nil,or_false]at a;rcases a with rfl|rfl|rfl|rfl|rfl|rfl|rfl<;>rfl
theorem zL(w:World)(xs:List Value)(t:TypeId):∀j u,xs[j]?=some u→(w.alloc (.cells xs.toArray t)).cell? ((⟨w.heap.size,0,none⟩:Addr).add j)=some u:=by
 intro j u h;have e:(⟨w.heap.size,0,none⟩:Addr).add j=⟨w.heap.size,j,none⟩:=by unfold Addr.add;split<;>simp_all
 rw[e];simpa using h
theorem uA{w w':World}{base:Nat}{e:TypeId}{size:Nat}{v:Value}{n:Nat}{xs:List Value}(h:w.ownsRow base e size v n xs)(hb:Below w.heap.size w w'):w'.ownsRow base e size v n xs:=by
 have c:=h.lt;obtain⟨i,f⟩:=h;refine⟨i,?_⟩;rcases f with l|⟨g,d,b,rfl,j,k,a⟩
 ·exact Or.inl l
 ·exact Or.inr ⟨g,d,b,rfl,j,by rw[hb.block g (c g rfl).2];exact k,a⟩
def dQ(rs:List Rw)(k:Nat):Option Rw:=rs.reverse.find? fun r=>decide (r.lock=(k:Int))
def gS(rs:List Rw)(k:Nat):List Rw:=(List.range k).filterMap (dQ rs)
theorem aCO(rs:List Rw)(k:Nat):gS rs (k+1)=gS rs k++(dQ rs k).toList:=by
 simp only[gS,List.range_succ,List.filterMap_append,List.filterMap_cons,List.filterMap_nil];cases dQ rs k<;>rfl
theorem aAG{w:World}{base base':Nat}{e:TypeId}{size:Nat}{v:Value}{n:Nat}{xs:List Value}(h:w.ownsRow base e size v n xs)(hb:base'≤base):w.ownsRow base' e size v n xs:=by
 obtain⟨i,f⟩:=h;refine⟨i,?_⟩;rcases f with k|⟨g,c,b,d,j,a⟩
 ·exact Or.inl k
 ·exact Or.inr ⟨g,c,b,d,bP hb j,a⟩
theorem uL:∀(f:Nat) (L:List Int),25*(jA f L).length≤L.length
 |0,L=>by simp[jA]
 |f+1,L=>by
  simp only[jA];split
  ·rename_i h;have ih:=uL f (L.drop 25);rw[aV]at ih;rw[bF];omega
  ·simp
section
open Go.ChangeShapes Go.WideShapes Go.ChangeAt Go.RowKit Go.Deep
theorem aAq:prog.cellsOf 3=1:=by kernel_rfl
section
variable {H:Type}{enc:TypeId×Value→H}{W:World}{base:Nat}{sp:Nat→Bool}{hd:Bool}
theorem aAx{cs:List Value}{o k j:Nat}{v:Value}(h:((cs.drop o).take k)[j]?=some v)(hj:j<k):cs[o+j]?=some v:=by
 simpa[List.getElem?_take,hj]using h
theorem tG{cs:List Value}{o n:Nat}{y:DataW H×List MemPlace}(h:DataW.trod enc prog W base sp hd n 3 ((cs.drop o).take (prog.cellsOf 3))=some y):
 ∃a,cs[o]?=some (.int .i64 a)∧(Lit.int .i64 a).wf=true:=by
 obtain⟨a,e,_,wf⟩:=DataW.trod_int underlying3 h;rw[aAq]at e;exact⟨a,by simpa using aAx (j:=0) (k:=1) (o:=o) (cs:=cs) (by rw[e];rfl) (by omega),wf⟩
def aHM(cs:List Value)(o:Nat):Prop:=∃a,cs[o]?=some (.int .i64 a)∧(Lit.int .i64 a).wf=true
theorem yM{w:World}{a:Addr}{n:Nat}{cs:List Value}(h:w.cells? base a n=some cs):∀j,j<n→w.cell? (a.add j)=cs[j]?:=by
 unfold World.cells? at h;split at h
 ·intro j b;have:=mapM_some_get h j j (by simp[b]);exact this
 ·cases h
end
end
end Go.Proofs.YtbbdgokdfhdpiaaGreatDoor
