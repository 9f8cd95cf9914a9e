/- A part. -/
import Derived.Below
import Derived.BigQuiet
import Derived.Deep.Cut
import Derived.Deep.CutRange
import Derived.Deep.Light
import Derived.Deep.QuietTactic
import Derived.Deep.RegionWith
import Derived.Laws.BytesArg
import Derived.Laws.Rows
import Derived.Lib.EndianBits
import Derived.Lib.QuietBelow
import Derived.LoopTactic
import Derived.Maps.AppendAt
import Derived.Maps.Own
import Derived.Maps.OwnOps
import Derived.Maps.OwnSet
import Derived.RegionTactic
import Derived.Shelf.SlIterI.Nil
import Derived.Shelf.SortM.Plain
import Derived.Shelf.SortM.SortNone
import Derived.Test.YtbbdgokdfhdpiaaGreatDoorProg
import Derived.WalkKit
import Derived.WalkLawsBesides
import Derived.WalkSpells
namespace Go.Proofs.YtbbdgokdfhdpiaaGreatDoor
set_option linter.all false
set_option maxRecDepth 100000
set_option maxHeartbeats 0
open Go.Proofs.Tryz Go.RowKit
theorem aA:∀ (w : World) (o : Obj), (World.heap (World.alloc w o))[Array.size (World.heap w)]? = some o:=@heap_alloc_new
theorem aB:∀ {α : Type} {p : α → Prop} {a : α} {l : List α}, (∀ (x : α), x ∈ a :: l → p x) ↔ p a ∧ ∀ (x : α), x ∈ l → p x:=@List.forall_mem_cons
theorem aC:∀ {α : Type} (ls : List α), ls ++ [] = ls:=@List.append_nil
theorem aD:∀ {α : Type} {ls bs : List α}, List.length (ls ++ bs) = List.length ls + List.length bs:=@List.length_append
theorem aE:∀ (n : Nat), n ≤ n:=@Nat.le_refl
theorem aF:∀ {α : Type} {i : Nat} {a : α} {l : List α}, l[i]? = some a ↔ ∃ (h : i < List.length l), l[i] = a:=@List.getElem?_eq_some_iff
theorem aG:∀ {n m k : Nat}, n < m → m ≤ k → n < k:=@Nat.lt_of_lt_of_le
theorem aH:∀ {p : Prop}, (¬p → False) → p:=@Classical.byContradiction
theorem aI:∀ (n : Nat), 0 ≤ n:=@Nat.zero_le
theorem aJ:∀ (B : Nat) (w : World), Below B w w:=@Below.refl
theorem aK:∀ {α : Type} {a : α}, List.length [a] = 1:=@List.length_singleton
theorem aL:∀ (a : Int), a ≤ a:=@Int.le_refl
theorem aM:∀ {p : Prop} [inst : Decidable p], (decide p = true) = p:=@decide_eq_true_eq
theorem aN:∀ {α : Type} {val val_1 : α}, some val = some val_1 → val = val_1:=@Option.some.inj
theorem aO:∀ {α : Type} {a : α} {s t : List α}, a ∈ s ++ t ↔ a ∈ s ∨ a ∈ t:=@List.mem_append
theorem aP:∀ {α : Type} {l : List α} {i : Nat} (h : i < List.length l), l[i]? = some l[i]:=@List.getElem?_eq_getElem
theorem aQ:∀ {α : Type} {l : List α} {i : Nat} {a : α}, List.getD l i a = Option.getD l[i]? a:=@List.getD_eq_getElem?_getD
theorem aR:∀ (a b : Bool), ((a && b) = true) = (a = true ∧ b = true):=@Bool.and_eq_true
theorem aS:∀ {α : Type} (ls bs cs : List α), ls ++ bs ++ cs = ls ++ (bs ++ cs):=@List.append_assoc
theorem aT:∀ {α β : Type} (P : Program) (w : World) (x : Sem α) (f : α → Sem β), Sem.run P (x >>= f) w = Result.andThen (Sem.run P x w) fun (a : α) (w' : World) => Sem.run P (f a) w':=@Sem.run_bind
theorem aU:(false = true) = False:=@Bool.false_eq_true
theorem aV:∀ {α : Type} {i : Nat} {l : List α}, List.length (List.drop i l) = List.length l - i:=@List.length_drop
theorem aW:∀ {w w' : World} {a : Addr}, (World.heap w')[Addr.block a]? = (World.heap w)[Addr.block a]? → World.cell? w' a = World.cell? w a:=@World.cell?_of_block
theorem aX:∀ {m n : Nat}, Nat.succ m = Nat.succ n → m = n:=@Nat.succ.inj
theorem aY:∀ {α : Type} {i : Nat} {l : List α}, List.length l ≤ i → List.take i l = l:=@List.take_of_length_le
theorem aZ:∀ (w : World) (base : Nat) (e : TypeId) (size : Nat), World.ownsRow w base e size (Value.slice none 0 0) 0 []:=@World.ownsRow_nil
theorem bB:∀ (n : Nat), Int.toNat ↑n = n:=@Int.toNat_natCast
theorem bD:∀ {α : Type} {i : Nat} {l : List α}, List.length (List.take i l) = min i (List.length l):=@List.length_take
theorem bF:∀ {α : Type} {l : List α} {n : Nat} (h : n < List.length l), l[n] ∈ l:=@List.getElem_mem
theorem bH:∀ {α : Type} {ls : List α} {i : Nat} (h : i < List.length ls), List.set ls i ls[i] = ls:=@List.set_getElem_self
theorem bI:∀ {α : Type} {a : α} {ls : List α}, List.length (a :: ls) = List.length ls + 1:=@List.length_cons
theorem bJ:∀ (w : World) (o : Obj) (a : Addr), Addr.block a < Array.size (World.heap w) → World.cell? (World.alloc w o) a = World.cell? w a:=@World.cell?_alloc_lt
theorem bK:∀ (w : World) (o : Obj), Array.size (World.heap (World.alloc w o)) = Array.size (World.heap w) + 1:=@World.size_alloc
theorem bL:∀ {α : Type} {l₁ l₂ : List α} {i : Nat}, i < List.length l₁ → (l₁ ++ l₂)[i]? = l₁[i]?:=@List.getElem?_append_left
theorem bN:∀ {α : Type} {l₁ l₂ : List α} {i : Nat}, List.length l₁ ≤ i → (l₁ ++ l₂)[i]? = l₂[i - List.length l₁]?:=@List.getElem?_append_right
theorem bO:∀ {α : Type} {β : Type} {ls : List α} (f : α → β), List.length (List.map f ls) = List.length ls:=@List.length_map
theorem bQ:∀ {α : Type} {β : Type} {b : β} {f : α → β} {l : List α}, b ∈ List.map f l ↔ ∃ (a : α), a ∈ l ∧ f a = b:=@List.mem_map
theorem bR:∀ {α : Type} {l : List α}, List.take (List.length l) l = l:=@List.take_length
theorem bU:∀ {α : Type} {β : Type} {f : α → β} {l₁ l₂ : List α}, List.map f (l₁ ++ l₂) = List.map f l₁ ++ List.map f l₂:=@List.map_append
theorem bV:∀ {α : Type} {ls : List α} {i : Nat} {a : α}, List.length (List.set ls i a) = List.length ls:=@List.length_set
theorem bZ:∀ {α : Type} {l : List α} {i : Nat} {a : α} (h : i < List.length (List.set l i a)), (List.set l i a)[i] = a:=@List.getElem_set_self
theorem cA:∀ {n m k : Nat}, n ≤ m → m ≤ k → n ≤ k:=@Nat.le_trans
theorem cB:∀ (n : Nat), ¬n < n:=@Nat.lt_irrefl
theorem cC:∀ (n : Nat), n = 0 ∨ n > 0:=@Nat.eq_zero_or_pos
theorem cD:∀ {α : Type} {i : Nat} {ls bs : List α} (h : i < List.length ls) {h' : i < List.length (ls ++ bs)}, (ls ++ bs)[i] = ls[i]:=@List.getElem_append_left
theorem cE:∀ {α : Type} {a : α} {l : List α}, a ∈ a :: l:=@List.mem_cons_self
theorem cF:∀ {α : Type} (y : α) {a : α} {l : List α}, a ∈ l → a ∈ y :: l:=@List.mem_cons_of_mem
theorem cG:∀ {α : Type} (l : List α) (i : Nat), List.length (List.eraseIdx l i) ≤ List.length l:=@List.length_eraseIdx_le
theorem cH:∀ {α : Type} (i : Nat) (l : List α), List.take i l ++ List.drop i l = l:=@List.take_append_drop
theorem cK:∀ {α : Type} {xs : Array α} {i : Nat} {d : α}, Array.getD xs i d = Option.getD xs[i]? d:=@Array.getD_eq_getD_getElem?
theorem cL:∀ {α : Type} {a : α} {i : Nat} {l : List α}, (a :: l)[i + 1]? = l[i]?:=@List.getElem?_cons_succ
theorem cM:∀ {α : Type} {a : α} {l : List α}, (a :: l)[0]? = some a:=@List.getElem?_cons_zero
theorem aLo {p0 p1:Prop} (h0:p0) (h1:p1):p0∧p1:=⟨h0,h1⟩
theorem aLp {p0 p1 p2:Prop} (h0:p0) (h1:p1) (h2:p2):p0∧p1∧p2:=⟨h0,h1,h2⟩
theorem aLq {p0 p1 p2 p3:Prop} (h0:p0) (h1:p1) (h2:p2) (h3:p3):p0∧p1∧p2∧p3:=⟨h0,h1,h2,h3⟩
theorem aLr {p0 p1 p2 p3 p4:Prop} (h0:p0) (h1:p1) (h2:p2) (h3:p3) (h4:p4):p0∧p1∧p2∧p3∧p4:=⟨h0,h1,h2,h3,h4⟩
theorem aLs {p0 p1 p2 p3 p4 p5:Prop} (h0:p0) (h1:p1) (h2:p2) (h3:p3) (h4:p4) (h5:p5):p0∧p1∧p2∧p3∧p4∧p5:=⟨h0,h1,h2,h3,h4,h5⟩
theorem aLt {p0 p1 p2 p3 p4 p5 p6:Prop} (h0:p0) (h1:p1) (h2:p2) (h3:p3) (h4:p4) (h5:p5) (h6:p6):p0∧p1∧p2∧p3∧p4∧p5∧p6:=⟨h0,h1,h2,h3,h4,h5,h6⟩
theorem aLv {p0 p1 p2 p3 p4 p5 p6 p7 p8:Prop} (h0:p0) (h1:p1) (h2:p2) (h3:p3) (h4:p4) (h5:p5) (h6:p6) (h7:p7) (h8:p8):p0∧p1∧p2∧p3∧p4∧p5∧p6∧p7∧p8:=⟨h0,h1,h2,h3,h4,h5,h6,h7,h8⟩
theorem aLz {α:Type} (a:α):∃x,x=a:=⟨_,rfl⟩
theorem aLA {α:Type} (a:α):∃x,a=x:=⟨_,rfl⟩
theorem cN {p:Prop} (h:p):Hid p:=h
structure Rw where
 lock:Int
 prom:Int
 acc:Int
 own:Int
 tok:Int
 ttl:Int
 seq:Int
def wrB(n:Int):Bool:=decide (0≤n)&&decide (n≤2147483647)
def okB(r:Rw):Bool:=wrB r.prom&&wrB r.acc&&wrB r.tok&&wrB r.ttl&&wrB r.seq&&decide (0≤r.lock)&&decide (r.lock≤3)&&decide (0≤r.own)&&decide (r.own≤4)
def eQ(v:Int):Nat→List Int
 |0=>[]
 |k+1=>v % 256::eQ (v / 256) k
theorem gP:∀(k:Nat) (v:Int),(eQ v k).length=k
 |0,_=>rfl
 |k+1,v=>by simp[eQ,gP k]
theorem zR:∀(k:Nat) (v:Int),∀x ∈ eQ v k,0≤x∧x<256
 |0,_=>by simp[eQ]
 |k+1,v=>by
  intro x hx;simp only[eQ,List.mem_cons]at hx;rcases hx with rfl|hx
  ·omega
  ·exact zR k _ x hx
def iJ(r:Rw):List Int:=[82]++eQ r.lock 1++eQ r.prom 4++eQ r.acc 4++eQ r.own 1++eQ r.tok 4++eQ r.ttl 4++eQ r.seq 4
theorem oU(r:Rw):(iJ r).length=23:=by simp[iJ,gP]
theorem sD(r:Rw):∀x ∈ iJ r,0≤x∧x<256:=by
 intro x a;simp only[iJ,aO,List.mem_singleton]at a;rcases a with((((((rfl|h)|h)|h)|h)|h)|h)|h
 ·omega
 all_goals exact zR _ _ x h
def lL:List Int→Nat→Int→Int
 |[],_,n=>n
 |b::bs,i,n=>lL bs (i+1) ((n+(i+1)*b) % 65536)
theorem aBh:∀(bs:List Int) (i:Nat) (n:Int),0≤n→n<65536→0≤lL bs i n∧lL bs i n<65536
 |[],_,n,h0,h1=>⟨h0,h1⟩
 |b::bs,i,n,_,_=>aBh bs (i+1) _ (Int.emod_nonneg _ (by omega)) (Int.emod_lt_of_pos _ (by omega))
theorem aCu(b:Int):∀(bs:List Int) (i:Nat) (n:Int),lL (bs++[b]) i n=(lL bs i n+((i+bs.length:Nat)+1)*b) % 65536
 |[],i,n=>by simp[lL]
 |x::xs,i,n=>by
  simp only[List.cons_append,lL,aCu b xs (i+1) _,bI]
  congr 3
  omega
theorem aCG{bs:List Int}{k:Nat}(h:k<bs.length)(i:Nat)(n:Int):lL (bs.take (k+1)) i n=(lL (bs.take k) i n+((i+k:Nat)+1)*bs.getD k 0) % 65536:=by
 rw[List.take_succ_eq_append_getElem h,aCu,bD,Nat.min_eq_left (Nat.le_of_lt h)];simp[List.getD,h]
def nF(r:Rw):List Int:=iJ r++eQ (lL (iJ r) 0 0) 2
theorem oC(r:Rw):(nF r).length=25:=by simp[nF,oU,gP]
theorem aHY(r:Rw):∀x ∈ nF r,0≤x∧x<256:=by
 intro x a;simp only[nF,aO]at a;rcases a with h|h
 ·exact sD r x h
 ·exact zR _ _ x h
def dW(r:Rw):List Int:=if okB r=true then nF r else[]
abbrev rwL(r:Rw):List Value:=[.int .i64 r.lock,.int .i64 r.prom,.int .i64 r.acc,.int .i64 r.own,.int .i64 r.tok,.int .i64 r.ttl,.int .i64 r.seq]
abbrev rwV(r:Rw):Value:=.agg #[.int .i64 r.lock,.int .i64 r.prom,.int .i64 r.acc,.int .i64 r.own,.int .i64 r.tok,.int .i64 r.ttl,.int .i64 r.seq]
theorem dU(xs:List Int):(strOfNums xs).size=xs.length:=by simp[strOfNums,ByteArray.size]
theorem fS(xs ys:List Int):strOfNums xs++strOfNums ys=strOfNums (xs++ys):=by
 apply ByteArray.ext;simp[strOfNums]
theorem aB3(xs:List Int)(k:Nat)(h:k<xs.length)(hb:∀x ∈ xs,0≤x∧x<256):(((strOfNums xs).data.toList.getD k 0).toNat:Int)=xs.getD k 0:=by
 have a:=hb _ (bF h);have e:((strOfNums xs).data.toList.getD k 0)=UInt8.ofNat (xs[k]).toNat:=by simp[strOfNums,List.getD,h]
 rw[e];simp[List.getD,h];omega
structure Vl where
 own:Int
 tok:Int
 ttl:Int
 seq:Int
structure Mg where
 kind:Int
 src:Int
 dst:Int
 lock:Int
 bal:Int
 base:Int
 val:Vl
structure Ev where
 kind:Int
 node:Int
 msg:Mg
 okind:Int
 olock:Int
 ottl:Int
 res:Int
 own:Int
 tok:Int
 bal:Int
def zVl:Vl:=⟨0,0,0,0⟩
def zMg:Mg:=⟨0,0,0,0,0,0,zVl⟩
def zEv:Ev:=⟨0,0,zMg,0,0,0,0,0,0,0⟩
abbrev vlL(v:Vl):List Value:=[.int .i64 v.own,.int .i64 v.tok,.int .i64 v.ttl,.int .i64 v.seq]
abbrev mgL(m:Mg):List Value:=[.int .i64 m.kind,.int .i64 m.src,.int .i64 m.dst,.int .i64 m.lock,.int .i64 m.bal,.int .i64 m.base,.int .i64 m.val.own,.int .i64 m.val.tok,.int .i64 m.val.ttl,.int .i64 m.val.seq]
abbrev evL(e:Ev):List Value:=[.int .i64 e.kind,.int .i64 e.node,
 .int .i64 e.msg.kind,.int .i64 e.msg.src,.int .i64 e.msg.dst,.int .i64 e.msg.lock,.int .i64 e.msg.bal,.int .i64 e.msg.base,.int .i64 e.msg.val.own,.int .i64 e.msg.val.tok,.int .i64 e.msg.val.ttl,.int .i64 e.msg.val.seq,
 .int .i64 e.okind,.int .i64 e.olock,.int .i64 e.ottl,.int .i64 e.res,.int .i64 e.own,.int .i64 e.tok,.int .i64 e.bal]
abbrev vlV(v:Vl):Value:=.agg #[.int .i64 v.own,.int .i64 v.tok,.int .i64 v.ttl,.int .i64 v.seq]
abbrev mgV(m:Mg):Value:=.agg #[.int .i64 m.kind,.int .i64 m.src,.int .i64 m.dst,.int .i64 m.lock,.int .i64 m.bal,.int .i64 m.base,.int .i64 m.val.own,.int .i64 m.val.tok,.int .i64 m.val.ttl,.int .i64 m.val.seq]
abbrev evV(e:Ev):Value:=.agg #[.int .i64 e.kind,.int .i64 e.node,
 .int .i64 e.msg.kind,.int .i64 e.msg.src,.int .i64 e.msg.dst,.int .i64 e.msg.lock,.int .i64 e.msg.bal,.int .i64 e.msg.base,.int .i64 e.msg.val.own,.int .i64 e.msg.val.tok,.int .i64 e.msg.val.ttl,.int .i64 e.msg.val.seq,
 .int .i64 e.okind,.int .i64 e.olock,.int .i64 e.ottl,.int .i64 e.res,.int .i64 e.own,.int .i64 e.tok,.int .i64 e.bal]
theorem aGB(e:Ev):∀j v,(mgL e.msg)[j]?=some v→(evL e).toArray[2+j]?=some v:=by
 intro j v b;have a:j<10:=(aF.1 b).1;have c:(evL e)[2+j]?=((evL e).drop 2)[j]?:=by rw[List.getElem?_drop]
 have d:(evL e).drop 2=mgL e.msg++[.int .i64 e.okind,.int .i64 e.olock,.int .i64 e.ottl,.int .i64 e.res,.int .i64 e.own,.int .i64 e.tok,.int .i64 e.bal]:=rfl;rw[List.getElem?_toArray,c,d,bL a,b]
def cZ{α:Type}(f:α→List Value)(l:List α):List Value:=l.flatMap f
theorem kO{α:Type}(f:α→List Value)(l:List α)(x:α):cZ f (l++[x])=cZ f l++f x:=by simp[cZ]
theorem eV{α:Type}(f:α→List Value){k:Nat}(hk:∀x,(f x).length=k):∀l:List α,(cZ f l).length=l.length*k
 |[]=>by simp[cZ]
 |x::l=>by
  have:=eV f hk l;simp only[cZ,List.flatMap_cons,aD,bI]at*;rw[this,hk];rw[Nat.add_mul];omega
theorem lX{α:Type}(f:α→List Value){k:Nat}(hk:∀x,(f x).length=k):∀(l:List α) (i:Nat) (h:i<l.length) (j:Nat),j<k→(cZ f l)[i*k+j]?=(f l[i])[j]?
 |[],i,h,_,_=>absurd h (by simp)
 |x::l,0,_,j,hj=>by
  simp only[cZ,List.flatMap_cons,Nat.zero_mul,Nat.zero_add,List.getElem_cons_zero];rw[bL (by rw[hk];exact hj)]
 |x::l,i+1,h,j,hj=>by
  have ih:=lX f hk l i (by simpa using h) j hj;simp only[cZ,List.flatMap_cons,List.getElem_cons_succ]at*;rw[bN (by rw[hk,Nat.add_mul];omega),hk];rw[←ih]
  congr 1
  rw[Nat.add_mul];omega
def aAm(e:Ev):Bool:=e.kind==1
def dJ(l:List Ev):List Mg:=(l.filter aAm).map (·.msg)
theorem fF:dJ []=[]:=rfl
theorem jB(a b:List Ev):dJ (a++b)=dJ a++dJ b:=by simp[dJ]
theorem lS(l:List Ev):(dJ l).length≤l.length:=by
 simpa[dJ]using List.length_filter_le _ _
structure Cf where
 f:Int
 clients:Int
 patience:Int
 tries:Int
 drift:Int
 compact:Int
 room:Int
structure Wt where
 own:Int
 tok:Int
 seq:Int
 since:Int
structure At where
 bal:Int
 began:Int
 awaited:Int
 ans:List Int
 base:Int
 val:Vl
 eres:Int
 eown:Int
 etok:Int
structure On where
 kind:Int
 lock:Int
 ttl:Int
 began:Int
 tries:Int
 att:At
 mine:List Int
structure Ct where
 num:Int
 inc:Int
 up:Bool
 clock:Int
 round:Int
 toks:Int→Int
 holds:Int→Int
 wat:Int→Wt
 doing:Option On
def zWt:Wt:=⟨0,0,0,0⟩
def zAt:At:=⟨0,0,0,[],0,zVl,0,0,0⟩
def upd{α:Type}(f:Int→α)(k:Int)(v:α):Int→α:=fun x=>if x=k then v else f x
def yC(num:Int):Ct:=⟨num,0,true,0,0,fun _=>0,fun _=>0,fun _=>zWt,none⟩
def sentEv(m:Mg):Ev:={zEv with kind:=1,msg:=m}
def nA(n:Int)(o:On):Ev:={zEv with kind:=2,node:=n,okind:=o.kind,olock:=o.lock,ottl:=o.ttl}
def gE(n:Int)(o:On)(res own tok:Int):Ev:={zEv with kind:=3,node:=n,okind:=o.kind,olock:=o.lock,ottl:=o.ttl,res:=res,own:=own,tok:=tok,bal:=o.att.bal}
def eO(n:Int):Ev:={zEv with kind:=4,node:=n}
def jD(n:Int):Ev:={zEv with kind:=5,node:=n}
def sZ(w:Wt)(v:Vl):Bool:=w.own==v.own&&w.tok==v.tok&&w.seq==v.seq
def oI(c:Ct)(l:Int):Ct:={c with toks:=upd c.toks l 0,holds:=upd c.holds l 0}
def kP(c:Ct)(o:On)(tok:Int):Ct:=if o.kind=3 then oI c o.lock else{c with toks:=upd c.toks o.lock tok,holds:=upd c.holds o.lock (o.began+o.ttl)}
def nM(c:Ct)(l:Int)(v:Vl):Ct:=if v.own=0∨v.own=c.num+1∨sZ (c.wat l) v=true then c else{c with wat:=upd c.wat l ⟨v.own,v.tok,v.seq,c.clock⟩}
def gW(c:Ct)(o:On)(res tok:Int)(v:Vl):Ct:=
 let c0:={c with doing:=none}
 if res=1 then kP c0 o tok else if res=3 then oI c0 o.lock else if res=2∨res=4 then nM c0 o.lock v else c0
def rH(c:Ct)(o:On)(res own tok:Int):List Ev:=[gE c.num o res own tok]
def gX(c:Ct)(o:On)(kind base:Int)(v:Vl)(n:Nat):List Ev:=(List.range n).map fun (tq:Nat)=>sentEv ⟨kind,c.num,(tq:Int),o.lock,o.att.bal,base,v⟩
def gJ(g:Cf):Nat:=(2*g.f+1).toNat
def aIJ(c:Ct):At:={zAt with bal:=(c.round+1)*256+c.inc*4+c.num,began:=c.clock,awaited:=2}
def lK(o:On)(c:Ct):On:={o with tries:=o.tries+1,att:=aIJ c}
def gD(c:Ct)(o:On):Ct:=if 1000≤c.round then gW c o 6 0 zVl else{c with round:=c.round+1,doing:=some (lK o c)}
def fO(g:Cf)(c:Ct)(o:On):List Ev:=if 1000≤c.round then rH c o 6 0 0 else gX c (lK o c) 1 0 zVl (gJ g)
def kX(g:Cf)(c:Ct)(o:On):Ct:=if o.tries<g.tries then gD c o else gW c o 5 0 zVl
def kI(g:Cf)(c:Ct)(o:On):List Ev:=if o.tries<g.tries then fO g c o else rH c o 5 0 0
def eI(c:Ct)(kind lock ttl:Int):Ct:=
 if kind=3 then{c with holds:=upd c.holds lock 0}else if kind=1∨kind=2 then{c with holds:=upd c.holds lock (min (c.holds lock) (c.clock+ttl))}else c
def newOn(c:Ct)(kind lock ttl:Int):On:=⟨kind,lock,ttl,c.clock,0,zAt,[]⟩
def jO(c:Ct):Int:=if c.up=false then 2 else if c.doing.isSome then 4 else 0
def gU(c:Ct)(kind lock ttl:Int):Ct:=if jO c≠0 then c else gD (eI {c with doing:=some (newOn c kind lock ttl)} kind lock ttl) (newOn c kind lock ttl)
def iA(g:Cf)(c:Ct)(kind lock ttl:Int):List Ev:=if jO c≠0 then[]else nA c.num (newOn c kind lock ttl)::fO g (eI {c with doing:=some (newOn c kind lock ttl)} kind lock ttl) (newOn c kind lock ttl)
def xL(c:Ct):Int:=if c.up=false then 2 else 0
def lP(g:Cf)(c:Ct):Ct:=
 if c.up=false then c else
 let c1:={c with clock:=c.clock+1}
 match c.doing with
 |some o=>if g.patience≤c1.clock-o.att.began then kX g c1 o else c1
 |none=>c1
def oE(g:Cf)(c:Ct):List Ev:=
 if c.up=false then[]else
 let c1:={c with clock:=c.clock+1}
 match c.doing with
 |some o=>if g.patience≤c1.clock-o.att.began then kI g c1 o else[]
 |none=>[]
structure Fw where
 next:Vl
 res:Int
 own:Int
 tok:Int
def oM(c:Ct)(o:On)(v:Vl):Bool:=v.own==c.num+1&& !(c.toks o.lock==0)&&v.tok==c.toks o.lock
def aAk(g:Cf)(c:Ct)(o:On)(v:Vl):Bool:=sZ (c.wat o.lock) v&&decide ((c.wat o.lock).since+(v.ttl*(10+g.drift)+9) / 10+2≤o.att.began)
def tP(o:On)(b:Int):Bool:=o.mine.contains b
def sO(o:On)(t:Int):Bool:=o.mine.any fun b=>decide (b<t)
def jH(g:Cf)(c:Ct)(o:On)(v:Vl):Fw:=
 if tP o v.tok=true then⟨v,1,c.num+1,v.tok⟩
 else if sO o v.tok=true then⟨zVl,5,0,0⟩
 else if v.own=0∨v.own=c.num+1∨aAk g c o v=true then⟨⟨c.num+1,o.att.bal,o.ttl,1⟩,1,c.num+1,o.att.bal⟩
 else⟨v,2,v.own,v.tok⟩
def pG(c:Ct)(o:On)(v:Vl):Fw:=
 if oM c o v=true then⟨⟨v.own,v.tok,o.ttl,min (v.seq+1) 2147483647⟩,1,c.num+1,v.tok⟩else⟨v,3,0,0⟩
def jN(c:Ct)(o:On)(v:Vl):Fw:=
 if oM c o v=true then⟨⟨0,v.tok,0,o.att.bal⟩,1,c.num+1,v.tok⟩
 else if v.own=0∧tP o v.seq=true then⟨v,1,c.num+1,v.tok⟩
 else if 0<o.mine.length∧v.tok≠c.toks o.lock then⟨zVl,5,0,0⟩
 else⟨v,3,0,0⟩
def eK(g:Cf)(c:Ct)(o:On)(v:Vl):Fw:=
 if o.kind=1 then jH g c o v else if o.kind=2 then pG c o v else if o.kind=3 then jN c o v else⟨v,4,v.own,v.tok⟩
def zU(o:On)(v:Vl):Bool:=if o.kind=1 then v.tok==o.att.bal else if o.kind=3 then v.seq==o.att.bal else false
def iD(o:On)(w:Fw):On:={o with att:={o.att with eres:=w.res,eown:=w.own,etok:=w.tok,awaited:=4,ans:=[]},mine:=if zU o w.next=true then o.mine++[o.att.bal]else o.mine}
def iG(g:Cf)(c:Ct)(o:On):Ct:=
 let w:=eK g c o o.att.val
 if w.res=5 then gW c o w.res w.tok o.att.val else{c with doing:=some (iD o w)}
def gZ(g:Cf)(c:Ct)(o:On):List Ev:=
 let w:=eK g c o o.att.val
 if w.res=5 then rH c o w.res w.own w.tok else gX c (iD o w) 3 o.att.base w.next (gJ g)
def heardOn(o:On)(m:Mg):On:={o with att:={o.att with ans:=o.att.ans++[m.src],base:=if o.att.base<m.base then m.base else o.att.base,val:=if o.att.base<m.base then m.val else o.att.val}}
def jT(g:Cf)(c:Ct)(o:On)(m:Mg):Ct:=
 if o.att.ans.contains m.src=true then c else
 let o':=heardOn o m
 if(o'.att.ans.length:Int)≤g.f then{c with doing:=some o'}
 else if m.kind=2 then iG g {c with doing:=some o'} o'
 else gW c o' o'.att.eres o'.att.etok o'.att.val
def kB(g:Cf)(c:Ct)(o:On)(m:Mg):List Ev:=
 if o.att.ans.contains m.src=true then[]else
 let o':=heardOn o m
 if(o'.att.ans.length:Int)≤g.f then[]
 else if m.kind=2 then gZ g {c with doing:=some o'} o'
 else rH c o' o'.att.eres o'.att.eown o'.att.etok
def gO(g:Cf)(c:Ct)(m:Mg):Ct:=
 if c.up=false then c else
 match c.doing with
 |none=>c
 |some o=>
  if m.bal≠o.att.bal then c
  else if m.kind=5 then kX g {c with round:=max c.round (m.base / 256)} o
  else if m.kind=o.att.awaited then jT g c o m
  else c
def iB(g:Cf)(c:Ct)(m:Mg):List Ev:=
 if c.up=false then[]else
 match c.doing with
 |none=>[]
 |some o=>
  if m.bal≠o.att.bal then[]
  else if m.kind=5 then kI g {c with round:=max c.round (m.base / 256)} o
  else if m.kind=o.att.awaited then kB g c o m
  else[]
def aEZ(c:Ct):Int:=if c.up=false then 2 else 0
def uD(c:Ct):Ct:=if c.up=false then c else⟨c.num,c.inc,false,0,0,fun _=>0,fun _=>0,fun _=>zWt,none⟩
def uM(c:Ct):List Ev:=if c.up=false then[]else[eO (-1-c.num)]
def gS(c:Ct):Int:=if c.up=true then 3 else if c.inc=63 then 5 else 0
def mT(c:Ct):Ct:=if gS c≠0 then c else{c with inc:=c.inc+1,up:=true}
def nE(c:Ct):List Ev:=if gS c≠0 then[]else[jD (-1-c.num)]
def aDt(c:Ct)(l:Int):Bool:=c.up&&decide (c.clock<c.holds l)
def aGz(c:Ct):Bool:=c.up&&c.doing.isSome
theorem aAp(n:Int)(w:World):
 Calls prog 101 #[.int .i64 n] w fun e w'=>e= .returned (.bool (wrB n))∧w'=w:=by
 by_cases a:0≤n<;>by_cases b:n≤2147483647<;>
 ·go_enter func101,ntmps101;go_wp2;go_ret;exact⟨by simp[wrB,a,b],rfl⟩
theorem aGK(v:Int)(size:Nat)(w:World)(h0:0≤v)(h1:v≤2147483647)(hs:size≤8):
 Calls prog 102 #[.int .i64 v,.int .i64 size] w fun e w'=>e= .returned (.string (strOfNums (eQ v size)))∧Below w.heap.size w w':=by
 go_enter func102,ntmps102;go_wp2;go_loopw [0,5,6] (fun x t i wr=>∃(u:Int) (k:Nat) (a:List Int) (S:ByteArray),0≤u∧u≤2147483647∧k≤size∧x= .int .i64 u∧t= .string S∧S=strOfNums a∧a.length=k∧i= .int .i64 k∧eQ v size=a++eQ u (size-k)∧Below w.heap.size w wr) (fun _ _ i _=>size-(intOf i).toNat)
 case atStart=>exact⟨v,0,[],_,h0,h1,by omega,rfl,rfl,rfl,rfl,rfl,by simp,aJ _ _⟩
 case round=>
  obtain⟨u,k,a,S,o,n,q,rfl,rfl,d,g,rfl,b,f⟩:=hrel;have j:=cN d;have c:∀x,S.size+(strOfNums [x]).size≤9:=fun x=>by rw[d,dU,dU];simp;omega
  clear d;have h:=cN b;clear b;by_cases l:k<size
  ·have p:(convert 218 9 (.slice (some ⟨wr.heap.size,0,none⟩) 1 1)).run prog (wr.alloc (.cells #[.int .u8 (u % 256)] 5))= .ok (.string (strOfNums [u % 256])) (wr.alloc (.cells #[.int .u8 (u % 256)] 5)):=
    run_convert_bytes_arg _ 218 5 underlying218 underlying5 wr.heap.size 0 1 1 [u % 256] rfl (fun i hi=>by
     obtain rfl:i=0:=by omega
     simp) 9 underlying9
   have m:=c (u % 256);clear c;go_wp2;go_roundw
   case rel=>
    refine⟨u / 256,k+1,a++[u % 256],S++strOfNums [u % 256],by omega,by omega,by omega,by go_num,rfl,?_,by simp[g],by go_num,?_,f.alloc f.size _⟩
    ·rw[j.out];exact fS _ _
    ·rw[h.out,show size-k=(size-(k+1))+1 by omega];simp[eQ]
   case measure=>simp[intOf];omega
  ·go_wp2;go_ret;have:size-k=0:=by omega
   have b:=h.out;rw[this]at b;exact⟨by rw[b,j.out];simp[eQ],f⟩
def iX:List Int→Int
 |[]=>0
 |b::bs=>b+256*iX bs
theorem aAj:∀(bs:List Int),(∀x ∈ bs,0≤x∧x<256)→0≤iX bs∧iX bs<256 ^ bs.length
 |[],_=>by simp[iX]
 |b::bs,h=>by
  have h1:=aAj bs (fun x hx=>h x (cF _ hx));have h2:=h b (cE ..);simp only[iX,bI,Int.pow_succ];omega
theorem aFe{bs:List Int}{k:Nat}(h:k<bs.length):iX (bs.drop k)=bs.getD k 0+256*iX (bs.drop (k+1)):=by
 rw[List.drop_eq_getElem_cons h,aQ,aP h]
 rfl
def dH(s:ByteArray):List Int:=s.data.toList.map fun b=>(b.toNat:Int)
section
variable (s:ByteArray)
theorem fH:(dH s).length=s.size:=by unfold dH;rw[bO];rfl
theorem aD2:∀x ∈ dH s,0≤x∧x<256:=by
 intro x a;simp only[dH,bQ]at a;obtain⟨b,_,rfl⟩:=a;have:=b.toNat_lt;omega
theorem jY(k:Nat)(h:k<s.size):(dH s).getD k 0=(s[k].toNat:Int):=by
 have a:k<s.data.toList.length:=h;rw[dH,aQ,List.getElem?_map,aP a]
 rfl
end
theorem nJ{xs:List Int}(hx:∀x ∈ xs,0≤x∧x<256):dH (strOfNums xs)=xs:=by
 apply List.ext_getElem (by rw[fH,dU]);intro k b a;have e:=aB3 xs k a hx;have c:k<(strOfNums xs).data.toList.length:=by rw[fH]at b;exact b
 rw[aQ,aP c,aQ,aP a]at e;simp only[dH,List.getElem_map];exact e
theorem aJh(s:ByteArray)(w:World)(hs:s.size≤4):
 Calls prog 214 #[.string s] w fun e w'=>e= .returned (.int .i64 (iX (dH s)))∧w'=w:=by
 have h:=aD2 s;have o:=fH s;have q:=cN h;have f:=cN o;clear h o;go_enter func214,ntmps214;go_wp2
 go_loop [3,4] (fun v i=>∃(k:Nat) (u:Int),k≤s.size∧i= .int .i64 ((k:Int)-1)∧v= .int .i64 u∧u=iX ((dH s).drop k)) (fun _ i=>(intOf i+1).toNat)
 case atStart=>exact⟨s.size,0,by omega,by go_num,rfl,by rw[List.drop_eq_nil_of_le (by rw[f.out];omega)];rfl⟩
 case round=>
  obtain⟨k,u,C,rfl,rfl,m⟩:=hrel;have g:=cN m;clear m;have d:=aAj ((dH s).drop k) (fun x hx=>q.out x (List.mem_of_mem_drop hx));rw[←g.out]at d;have a:((dH s).drop k).length≤4:=by rw[aV,f.out];omega
  have b:(256:Int) ^ ((dH s).drop k).length≤256 ^ 4:=by
   have:=Nat.pow_le_pow_right (n:=256) (by omega) a
   exact_mod_cast this
  have A:=d.1;have B:u<4294967296:=by omega
  clear d a b;by_cases t:0<k
  ·obtain⟨j,rfl⟩:∃j,k=j+1:=⟨k-1,by omega⟩;have p:j<s.size:=by omega
   have l:=jY s j p;have c:=aFe (bs:=dH s) (k:=j) (by rw[f.out];exact p);have z:(0:Int)≤(s[j].toNat:Int)∧(s[j].toNat:Int)<256:=⟨by omega,by have:=s[j].toNat_lt;omega⟩;rw[l,←g.out]at c;have r:=cN c;clear c l;have y:(s[j].toNat:Int)+256*u<9223372036854775807:=by omega
   go_wp2
   go_round
   case rel=>exact⟨j,_,by omega,rfl,rfl,by rw[r.out];omega⟩
   case measure=>simp[intOf]
  ·obtain rfl:k=0:=by omega
   go_wp2;go_ret;exact⟨by rw[g.out];simp,rfl⟩
section
variable {P:Program}
theorem fC(w:World)(a:Addr)(ty:TypeId)(cs:List Value)(d:TypeDesc)(hc:∀j v,cs[j]?=some v→w.cell? (a.add j)=some v)
 (hu:P.underlying ty=some d) (hd:(match d with| .struct _| .array _ _=>true|_=>false)=true) (hi:(P.info? ty).map (·.size)=some cs.length):
 (loadVar ty a).run P w= .ok (.agg cs.toArray) w:=by
 have e:=run_loadCells_list (P:=P) w a cs hc;cases hq:P.info? ty with
 |none=>simp[hq]at hi
 |some i=>
  have c:i.size=cs.length:=by simpa[hq]using hi
  have b:(isAgg ty).run P w= .ok true w:=by
   unfold isAgg;rw[aT,run_underlying hu w];cases d<;>simp_all
  simp[loadVar,aT,b,sizeOf,typeInfo,hq,c,e]
theorem aE4{o:Oper}{a:Act}{w:World}{K:Act→World→Prop}{Q:Exit→Act→World→Prop}(ty:TypeId)(x:Operand)(ho:o.op= .load ty x)
 (p:Addr) (hx:a.eval x= .pointer (some p)) (cs:List Value) (d:TypeDesc) (hc:∀j v,cs[j]?=some v→w.cell? (p.add j)=some v)
 (hu:P.underlying ty=some d) (hd:(match d with| .struct _| .array _ _=>true|_=>false)=true) (hi:(P.info? ty).map (·.size)=some cs.length)
 (h:K (a.put o.dst (.agg cs.toArray)) w):o.wp P a w K Q:=by
 unfold Oper.wp execOp;simp only[ho,hx,Instr.loadAt,Instr.sureAddr,aT,Sem.run_pure,Result.andThen_ok,fC w p ty cs d hc hu hd hi];exact h
theorem cW{ops:Array Oper}{rest:List Oper}{o:Oper}{a:Act}{w:World}{Q:Exit→Act→World→Prop}(hgd:o.guard=none)(ty:TypeId)(x:Operand)(ho:o.op= .load ty x)
 (p:Addr) (hx:a.eval x= .pointer (some p)) (cs:List Value) (d:TypeDesc) (hc:∀j v,cs[j]?=some v→w.cell? (p.add j)=some v)
 (hu:P.underlying ty=some d) (hd:(match d with| .struct _| .array _ _=>true|_=>false)=true) (hi:(P.info? ty).map (·.size)=some cs.length)
 (h:wpList P ops Q rest (a.put o.dst (.agg cs.toArray)) w):wpList P ops Q (o::rest) a w:=
 wpList_plain hgd fun _ hK=>aE4 ty x ho p hx cs d hc hu hd hi (hK _ _ h)
def ldB(P:Program)(ty:TypeId)(n:Nat):Bool:=(match P.underlying ty with|some (.struct _)=>true|some (.array _ _)=>true|_=>false)&&(match P.info? ty with|some i=>i.size==n|none=>false)
theorem aES{ty:TypeId}{n:Nat}(h:ldB P ty n=true):∃d,P.underlying ty=some d∧(match d with| .struct _| .array _ _=>true|_=>false)=true∧(P.info? ty).map (·.size)=some n:=by
 unfold ldB at h;rw[aR]at h;obtain⟨a,b⟩:=h;cases hi:P.info? ty with
 |none=>rw[hi]at b;cases b
 |some i=>
  rw[hi]at b;have e:i.size=n:=by simpa using b
  cases hd:P.underlying ty with
  |none=>rw[hd]at a;cases a
  |some d=>
   rw[hd]at a;refine⟨d,rfl,?_,by simp[e]⟩;cases d<;>first|rfl|cases a
theorem wl{ops:Array Oper}{rest:List Oper}{o:Oper}{a:Act}{w:World}{Q:Exit→Act→World→Prop}{ty:TypeId}{x:Operand}{p:Addr}{cs:List Value}(hc:∀j v,cs[j]?=some v→w.cell? (p.add j)=some v)(hgd:o.guard=none)(ho:o.op= .load ty x)(hx:a.eval x= .pointer (some p))(hk:ldB P ty cs.length=true)
 (h:wpList P ops Q rest (a.put o.dst (.agg cs.toArray)) w):wpList P ops Q (o::rest) a w:=by
 obtain⟨d,e,b,c⟩:=aES hk;refine cW hgd ty x ho p hx cs d hc e ?_ c h;cases d<;>first|rfl|cases b
end
def mn(x y:Int):Int:=if y<x then y else x
def mx(x y:Int):Int:=if x<y then y else x
def mn5(a b c d e:Int):Int:=mn (mn (mn (mn a b) c) d) e
def mx5(a b c d e:Int):Int:=mx (mx (mx (mx a b) c) d) e
theorem aLe(z x y:Int):z≤mn x y↔z≤x∧z≤y:=by unfold mn;split<;>omega
theorem aK2(z x y:Int):mx x y≤z↔x≤z∧y≤z:=by unfold mx;split<;>omega
theorem aKO(z a b c d e:Int):z≤mn5 a b c d e↔z≤a∧z≤b∧z≤c∧z≤d∧z≤e:=by simp only[mn5,aLe,and_assoc]
theorem aKK(z a b c d e:Int):mx5 a b c d e≤z↔a≤z∧b≤z∧c≤z∧d≤z∧e≤z:=by simp only[mx5,aK2,and_assoc]
section
variable {P:Program} (ts:Array TypeId) (t:TypeId) (k:IntKind) (a b c d e:Int) (w:World)
theorem aJq:(Builtin.min_ ts t #[.int k a,.int k b,.int k c,.int k d,.int k e]).run P w= .ok (.int k (mn5 a b c d e)) w:=by
 simp[Builtin.min_,Builtin.min2,mn5,mn]
 rfl
theorem aJr:(Builtin.max_ ts t #[.int k a,.int k b,.int k c,.int k d,.int k e]).run P w= .ok (.int k (mx5 a b c d e)) w:=by
 simp[Builtin.max_,Builtin.max2,mx5,mx]
 rfl
end
theorem aKi(r:Rw):okB r=true↔(0≤r.lock∧r.lock<4)∧(0≤r.own∧r.own≤4)∧0≤mn5 r.prom r.acc r.tok r.ttl r.seq∧mx5 r.prom r.acc r.tok r.ttl r.seq≤2147483647:=by
 rw[aKO,aKK];simp only[okB,wrB,aR,aM];constructor
 ·intro h;omega
 ·intro h;omega
theorem aDO{a b:Bool}(h:a=b):Ending.returned (.bool a)= .returned (.bool b):=by rw[h]
theorem yL(r:Rw)(w:World):
 Calls prog 140 #[rwV r] w fun e w'=>e= .returned (.bool (okB r))∧Below w.heap.size w w':=by
 have j:=aKi r;obtain⟨l,p,a,o,t,u,q⟩:=r;have f:Hid (okB ⟨l,p,a,o,t,u,q⟩=true↔(0≤l∧l<4)∧(0≤o∧o≤4)∧0≤mn5 p a t u q∧mx5 p a t u q≤2147483647):=j;clear j;have k:=fun (ts:Array TypeId) (ty:TypeId) (W:World)=>aJq (P:=prog) ts ty .i64 p a t u q W;have m:=fun (ts:Array TypeId) (ty:TypeId) (W:World)=>aJr (P:=prog) ts ty .i64 p a t u q W;have B:∀x y,Below w.heap.size w ((w.alloc x).alloc y):=fun x y=>((aJ _ _).alloc (aE _) x).alloc (by simp) y;have b:=f.out.2;have g:¬((0≤l∧l<4)∧(0≤o∧o≤4)∧0≤mn5 p a t u q∧mx5 p a t u q≤2147483647)→okB ⟨l,p,a,o,t,u,q⟩=false:=fun h=>by
  cases hc:okB ⟨l,p,a,o,t,u,q⟩with
  |false=>rfl
  |true=>exact absurd (f.out.1 hc) h
 have c:=cN b;have i:=cN g;clear b g f;go_enter func140,ntmps140;go_wp2;all_goals
  go_ret;refine⟨?_,B _ _⟩;first
   |(rw[c.out (by omega)];try rfl)
   |(rw[i.out (by omega)];try rfl)
   |(by_cases d:mx5 p a t u q≤2147483647
     ·rw[c.out (by omega)];exact aDO (decide_eq_true d)
     ·rw[i.out (by omega)];exact aDO (decide_eq_false d))
theorem aGQ:(prog.info? 5).map (fun i=>(i.zero,i.size,i.bytes))=some (some (.int .u8 0),1,1):=by kernel_rfl
theorem aIb(n:Int)(h0:0≤n)(h1:n≤2147483647):eQ n 4=[n % 256,n / 256 % 256,n / 65536 % 256,n / 16777216]:=by
 simp only[eQ];rw[show n / 256 / 256=n / 65536 by omega,show n / 65536 / 256=n / 16777216 by omega,show n / 16777216 % 256=n / 16777216 by omega]
theorem uX(w:World)(xs:List Value)(t:TypeId):∀j u,xs[j]?=some u→(w.alloc (.cells xs.toArray t)).cell? ((⟨w.heap.size,0,none⟩:Addr).add j)=some u:=by
 intro j u h;have e:(⟨w.heap.size,0,none⟩:Addr).add j=⟨w.heap.size,j,none⟩:=by unfold Addr.add;split<;>simp_all
 rw[e];simpa using h
theorem jL(base:Nat)(v:Value)(k:Nat)(xs:List Value)(n:Int)(w:World)(hown:w.ownsRow base 5 1 v k xs)(hk:k≤1000)(h0:0≤n)(h1:n≤2147483647)(hbase:base≤w.heap.size):
 Calls prog 141 #[v,.int .i64 n] w fun e w'=>∃v',e= .returned v'∧w'.ownsRow base 5 1 v' (k+4) (xs++(eQ n 4).map (Value.int .u8))∧Below base w w':=by
 obtain⟨h,l,d,f,c⟩:=info_parts aGQ;have i:=cN (aIb n h0 h1);go_enter func141,ntmps141;go_wp2_with (at_builtin;refine wpList_append_own_at _ rfl _ _ 218 rfl base 5 h (.int .u8 0) 1 1 underlying218 l d f c rfl (by decide) _ _ _ rfl (hown.alloc _) ⟨w.heap.size,0,none⟩ 4 4 [.int .u8 (n % 256),.int .u8 (n / 256 % 256),.int .u8 (n / 65536 % 256),.int .u8 (n / 16777216)] rfl rfl ?c1 ?c2 ?c3 ?c4 ?c5 ?_)
 case c1=>exact uX _ _ _
 case c2=>intro x g;simp at g;rcases g with rfl|rfl|rfl|rfl<;>rfl
 case c3=>unfold maxLen;omega
 case c4=>omega
 case c5=>simp;omega
 intro v' m a b _ _;go_wp2;go_ret;exact⟨v',rfl,by rw[i.out];exact a,((aJ _ _).alloc hbase _).grown b (by simp;omega) (fun j hj=>(hown.lt j hj).1)⟩
theorem aJP(g cap:Nat)(L:List Int)(w:World)(hc:∀j,j<L.length→w.cell? ⟨g,j,none⟩=some (.int .u8 (L.getD j 0)))(hb:∀x ∈ L,0≤x∧x<256)(hn:L.length≤1000):
 Calls prog 142 #[.slice (some ⟨g,0,none⟩) L.length cap] w fun e w'=>e= .returned (.int .u16 (lL L 0 0))∧w'=w:=by
 have A:=cN hb;have u:=cN hc;generalize y:L.length=N at hn u⊢;have l:=cN y;clear hb hc y;go_enter func142,ntmps142;go_wp2
 go_loop [3,8] (fun n i=>∃(k:Nat) (m:Int),k≤N∧i= .int .i64 k∧n= .int .u16 m∧m=lL (L.take k) 0 0∧0≤m∧m<65536) (fun _ i=>N-(intOf i).toNat)
 case atStart=>exact⟨0,0,by omega,rfl,rfl,by simp[lL],by omega,by omega⟩
 case round=>
  obtain⟨k,m,D,rfl,rfl,v,B,C⟩:=hrel;have f:=cN v;clear v;by_cases o:k<N
  ·have r:=u.out k o;have a:=aCG (bs:=L) (k:=k) (by rw[l.out];omega) 0 0;have d:0≤L.getD k 0∧L.getD k 0<256:=by
    rw[aQ,aP (by rw[l.out];omega)];exact A.out _ (bF _)
   rw[←f.out]at a;generalize q:L.getD k 0=b at r a d;have s:=cN a;have z:((k:Int)+1)*b≤1000*256:=by
    apply Int.mul_le_mul<;>omega
   have t:0≤((k:Int)+1)*b:=Int.mul_nonneg (by omega) d.1;clear a q;go_wp2
   go_round
   case rel=>
    refine⟨k+1,_,by omega,by go_num,rfl,?_,?_⟩
    ·rw[s.out,IntKind.wrap_u16,IntKind.wrap_u16,Nat.zero_add];omega
    ·rw[IntKind.wrap_u16];omega
   case measure=>simp[intOf];omega
  ·have c:L.take k=L:=aY (by rw[l.out];omega);have p:Hid (m=lL L 0 0):=by
    have h:=f.out;rw[c]at h;exact h
   clear f c;go_wp2;go_ret;exact⟨by rw[←p.out];rfl,rfl⟩
abbrev zE(xs:List Int):List Value:=xs.map (Value.int .u8)
section
variable (r:Rw) (w:World)
theorem aLa(hno:okB r=false):
 Calls prog 100 #[rwV r] w fun e w'=>e= .returned (.string (strOfNums []))∧Below w.heap.size w w':=by
 have c:=fun W=>yL r W;obtain⟨l,p,a,o,t,u,q⟩:=r;go_enter func100,ntmps100;go_wp2_with (go_at_call 140;refine(c _).mono ?_;rintro e d ⟨rfl,b⟩);go_ret;exact⟨rfl,((aJ _ w).alloc (aE _) _).trans (b.mono (by simp))⟩
theorem aKS(hok:okB r=true):
 Calls prog 100 #[rwV r] w fun e w'=>e= .returned (.string (strOfNums (nF r)))∧Below w.heap.size w w':=by
 have hw:=fun W=>yL r W;obtain⟨l,p,a,o,t,u,q⟩:=r;rw[hok]at hw;simp only[okB,aR,aM,wrB]at hok;obtain⟨i0,hi,O,Q,a7⟩:=info_parts aGQ;have HW:=cN hw;clear hw;have hl:0≤l∧l<4:=by omega
 have ho:0≤o∧o<5:=by omega
 have hp:0≤p∧p≤2147483647:=by omega
 have ha:0≤a∧a≤2147483647:=by omega
 have ht:0≤t∧t≤2147483647:=by omega
 have hu:0≤u∧u≤2147483647:=by omega
 have hq:0≤q∧q≤2147483647:=by omega
 clear hok;have N:Hid (∀W,Below (w.heap.size+1) (w.alloc (.cells #[.int .i64 l,.int .i64 p,.int .i64 a,.int .i64 o,.int .i64 t,.int .i64 u,.int .i64 q] 58)) W→∀j v,(#[Value.int .i64 l,.int .i64 p,.int .i64 a,.int .i64 o,.int .i64 t,.int .i64 u,.int .i64 q]:Array Value)[j]?=some v→W.cell? ⟨w.heap.size,j,none⟩=some v):=by
  intro W hB j v k;rw[hB.cell (p:=⟨w.heap.size,j,none⟩) (by simp)];simpa using k
 generalize a5:w.alloc (.cells #[.int .i64 l,.int .i64 p,.int .i64 a,.int .i64 o,.int .i64 t,.int .i64 u,.int .i64 q] 58)=W0 at N;have hz:W0.heap.size=w.heap.size+1:=by rw[←a5];simp
 have b0:=cN a5;clear a5;go_enter func100,ntmps100;go_wp2_with (first
  |(go_at_call 140;rw[b0.out];refine(HW.out _).mono ?_;rintro e w1 ⟨rfl,R⟩)
  |(at_make;refine wpList_make_own _ rfl _ _ 218 rfl (w.heap.size+1) 5 i0 (.int .u8 0) 1 underlying218 hi O Q .i64 .i64 25 25 rfl rfl rfl (by omega) (by unfold maxLen;omega) (by have:=R.size;omega) ?_;intro w2 d b2;have c0:w.heap.size+1≤w1.heap.size:=by{have:=R.size;omega};have a2:Below (w.heap.size+1) W0 w2:=(R.mono (by omega)).grown b2 c0 (fun j k=>by cases k);have b5:w.heap.size+1≤w2.heap.size:=by{have:=b2.size;omega};have c2:w2.cell? ⟨w.heap.size,0,none⟩=some (.int .i64 l):=N.out _ a2 0 _ rfl;clear R b2 c0)
  |(at_builtin;refine wpList_append_own_at _ rfl _ _ 218 rfl (w.heap.size+1) 5 i0 (.int .u8 0) 1 1 underlying218 hi O Q a7 rfl (by decide) _ _ _ rfl (d.alloc _) ⟨w2.heap.size,0,none⟩ 2 2 [.int .u8 82,.int .u8 l] rfl rfl ?qa ?qb ?qc ?qd ?qe ?_))
 case qa=>exact uX _ _ _
 case qb=>intro x T;simp at T;rcases T with rfl|rfl<;>rfl
 case qc=>unfold maxLen;omega
 case qd=>omega
 case qe=>simp;omega
 intro v3 w3 H a0 _ _;have Z:=(a2.alloc b5 _).grown a0 (by simp;omega) (fun j k=>(d.lt j k).1);have b3:w.heap.size+1≤w3.heap.size:=by have:=a0.size;simp at this;omega
 clear a0 d a2 b5 c2;have c3:w3.cell? ⟨w.heap.size,1,none⟩=some (.int .i64 p):=N.out _ Z 1 _ rfl;go_wp2_with fail;refine(jL (w.heap.size+1) v3 2 _ p w3 H (by omega) hp.1 hp.2 b3).mono ?_;rintro e w4 ⟨v4,rfl,G,z⟩;have a1:=Z.trans z;have b8:w.heap.size+1≤w4.heap.size:=by have:=z.size;omega
 clear z H Z b3 c3;have c4:w4.cell? ⟨w.heap.size,2,none⟩=some (.int .i64 a):=N.out _ a1 2 _ rfl;go_wp2_with fail;refine(jL (w.heap.size+1) v4 6 _ a w4 G (by omega) ha.1 ha.2 b8).mono ?_;rintro e w5 ⟨v5,rfl,i,E⟩;have a6:=a1.trans E;have b6:w.heap.size+1≤w5.heap.size:=by have:=E.size;omega
 clear E G a1 b8 c4;have c5:w5.cell? ⟨w.heap.size,3,none⟩=some (.int .i64 o):=N.out _ a6 3 _ rfl;go_wp2_with (at_builtin;refine wpList_append_own_at _ rfl _ _ 218 rfl (w.heap.size+1) 5 i0 (.int .u8 0) 1 1 underlying218 hi O Q a7 rfl (by decide) _ _ _ rfl (i.alloc _) ⟨w5.heap.size,0,none⟩ 1 1 [.int .u8 o] rfl rfl ?qa ?qb ?qc ?qd ?qe ?_)
 case qa=>exact uX _ _ _
 case qb=>intro x T;simp at T;subst T;rfl
 case qc=>unfold maxLen;omega
 case qd=>omega
 case qe=>simp;omega
 intro v6 w6 F a8 _ _;have a3:=(a6.alloc b6 _).grown a8 (by simp;omega) (fun j k=>(i.lt j k).1);have b4:w.heap.size+1≤w6.heap.size:=by have:=a8.size;simp at this;omega
 clear a8 i a6 b6 c5;have c6:w6.cell? ⟨w.heap.size,4,none⟩=some (.int .i64 t):=N.out _ a3 4 _ rfl;go_wp2_with fail;refine(jL (w.heap.size+1) v6 11 _ t w6 F (by omega) ht.1 ht.2 b4).mono ?_;rintro e w7 ⟨v7,rfl,K,D⟩;have b1:=a3.trans D;have c9:w.heap.size+1≤w7.heap.size:=by have:=D.size;omega
 clear D F a3 b4 c6;have c7:w7.cell? ⟨w.heap.size,5,none⟩=some (.int .i64 u):=N.out _ b1 5 _ rfl;go_wp2_with fail;refine(jL (w.heap.size+1) v7 15 _ u w7 K (by omega) hu.1 hu.2 c9).mono ?_;rintro e w8 ⟨v8,rfl,M,B⟩;have a9:=b1.trans B;have b7:w.heap.size+1≤w8.heap.size:=by have:=B.size;omega
 clear B K b1 c9 c7;have c8:w8.cell? ⟨w.heap.size,6,none⟩=some (.int .i64 q):=N.out _ a9 6 _ rfl;go_wp2_with fail;refine(jL (w.heap.size+1) v8 19 _ q w8 M (by omega) hq.1 hq.2 b7).mono ?_;rintro e w9 ⟨v9,rfl,I,C⟩;have d2:=a9.trans C;have d0:w.heap.size+1≤w9.heap.size:=by have:=C.size;omega
 clear C M a9 b7 c8;have e1:eQ l 1=[l]:=by simp only[eQ];rw[show l % 256=l by omega]
 have e2:eQ o 1=[o]:=by simp only[eQ];rw[show o % 256=o by omega]
 have c:w9.ownsRow (w.heap.size+1) 5 1 v9 23 (zE (iJ ⟨l,p,a,o,t,u,q⟩)):=by
  have h:=I;simpa[iJ,e1,e2,zE]using h
 clear I e1 e2 N HW hl ho hp ha ht hu hq;have A:=oU ⟨l,p,a,o,t,u,q⟩;have f:=sD ⟨l,p,a,o,t,u,q⟩;have U:nF ⟨l,p,a,o,t,u,q⟩=iJ ⟨l,p,a,o,t,u,q⟩++eQ (lL (iJ ⟨l,p,a,o,t,u,q⟩) 0 0) 2:=rfl;have HR:=cN U;clear U;generalize iJ ⟨l,p,a,o,t,u,q⟩=L at c A f HR;have m:=cN A;have d3:=cN f;clear A f;rcases c.2 with⟨_,h0⟩|⟨g,d9,e3,rfl,_⟩
 ·omega
 have J:∀j,j<L.length→w9.cell? ⟨g,j,none⟩=some (.int .u8 (L.getD j 0)):=by
  intro j k;rw[c.cellAt j (by rw[m.out]at k;omega),zE,List.getElem?_map,aP k,aQ,aP k]
  rfl
 have n:=aJP g d9 L w9 J d3.out (by rw[m.out];omega);rw[m.out]at n;have d1:=aBh L 0 0 (by omega) (by omega);generalize lL L 0 0=S at n d1 HR;clear J;go_wp2_with fail;refine n.mono ?_;rintro e y ⟨rfl,d4⟩;obtain rfl:w9=y:=d4.symm;clear n;go_wp2_with (at_builtin;refine wpList_append_own_at _ rfl _ _ 218 rfl (w.heap.size+1) 5 i0 (.int .u8 0) 1 1 underlying218 hi O Q a7 rfl (by decide) _ _ _ rfl (c.alloc _) ⟨w9.heap.size,0,none⟩ 2 2 [.int .u8 (S % 256),.int .u8 (S / 256)] rfl rfl ?qa ?qb ?qc ?qd ?qe ?_)
 case qa=>exact uX _ _ _
 case qb=>intro x T;simp at T;rcases T with rfl|rfl<;>rfl
 case qc=>unfold maxLen;omega
 case qd=>omega
 case qe=>simp;omega
 intro d7 y s Y _ _;have V:=(d2.alloc d0 _).grown Y (by simp;omega) (fun j k=>(c.lt j k).1);have a4:=oC ⟨l,p,a,o,t,u,q⟩;have b9:eQ S 2=[S % 256,S / 256]:=by simp only[eQ];rw[show S / 256 % 256=S / 256 by omega]
 have b:y.ownsRow (w.heap.size+1) 5 1 d7 25 (zE (nF ⟨l,p,a,o,t,u,q⟩)):=by
  rw[HR.out,b9];have h:=s;simpa[zE]using h
 have d6:Below w.heap.size w y:=by
  have h:=((aJ w.heap.size w).alloc (aE _) (.cells #[.int .i64 l,.int .i64 p,.int .i64 a,.int .i64 o,.int .i64 t,.int .i64 u,.int .i64 q] 58));rw[b0.out]at h;exact h.trans (V.mono (by omega))
 clear s Y d2 d0 c HR b9 d1 m d3 b0 V;generalize c1:nF ⟨l,p,a,o,t,u,q⟩=X at b a4;have d8:=cN c1;clear c1;rcases b.2 with⟨_,h0⟩|⟨g2,d5,e0,rfl,_⟩
 ·omega
 have HX:=cN a4;clear a4;have kc:=run_convert_bytes_arg (P:=prog) y 218 5 underlying218 underlying5 g2 0 25 d5 X HX.out (fun j k=>by
  rw[Nat.zero_add,b.cellAt j (by omega),zE,List.getElem?_map,aP (by rw[HX.out];omega),aQ,aP (by rw[HX.out];omega)]
  rfl) 9 underlying9
 clear b;go_wp2;go_ret;exact⟨by rw[d8.out];rfl,d6⟩
theorem aCN:
 Calls prog 100 #[rwV r] w fun e w'=>e= .returned (.string (strOfNums (dW r)))∧Below w.heap.size w w':=by
 unfold dW;by_cases h:okB r=true
 ·rw[if_pos h];exact aKS r w h
 ·rw[if_neg h];exact aLa r w (by simpa using h)
theorem aFy:
 Calls prog 69 #[rwV r] w fun e w'=>e= .returned (.string (strOfNums (dW r)))∧Below w.heap.size w w':=by
 have c:=fun W=>aCN r W;obtain⟨l,p,a,o,t,u,q⟩:=r;generalize dW ⟨l,p,a,o,t,u,q⟩=X at c⊢;go_enter func69,ntmps69;go_wp2_with (go_at_call 100;refine(c _).mono ?_;rintro e d ⟨rfl,b⟩);go_ret;exact⟨rfl,((aJ _ w).alloc (aE _) _).trans (b.mono (by simp))⟩
end
theorem yV(n:Int)(h0:0≤n)(h1:n<2 ^ 40):IntKind.i64.wrap n=n:=by rw[IntKind.wrap_i64];omega
theorem jU(n:Int)(h0:0≤n)(h1:n<2 ^ 40):wrap64 n=n:=by unfold wrap64;omega
theorem or4(a b c d:Int)(ha:0≤a∧a<256)(hb:0≤b∧b<256)(hc:0≤c∧c<256)(hd:0≤d∧d<256):
 bits BinOp.or IntKind.i64 (bits BinOp.or IntKind.i64 (bits BinOp.or IntKind.i64 (wrap64 a) (wrap64 (wrap64 b*256))) (wrap64 (wrap64 c*65536))) (wrap64 (wrap64 d*16777216))=a+256*(b+256*(c+256*(d+256*0))):=by
 rw[jU a (by omega) (by omega),jU b (by omega) (by omega),jU c (by omega) (by omega),jU d (by omega) (by omega),jU (b*256) (by omega) (by omega),jU (c*65536) (by omega) (by omega),jU (d*16777216) (by omega) (by omega)];rw[bits_join_low .i64 40 (by decide) yV 8 a (b*256) (by omega) (by omega) (by omega) (by omega) (by omega) (by omega)];rw[bits_join_low .i64 40 (by decide) yV 16 (a+b*256) (c*65536) (by omega) (by omega) (by omega) (by omega) (by omega) (by omega)];rw[bits_join_low .i64 40 (by decide) yV 24 (a+b*256+c*65536) (d*16777216) (by omega) (by omega) (by omega) (by omega) (by omega) (by omega)];omega
theorem aIg{L:List Int}(h:4≤L.length):L.take 4=[L.getD 0 0,L.getD 1 0,L.getD 2 0,L.getD 3 0]:=by
 match L,h with
 |a::b::c::d::r,_=>rfl
 |[],h=>simp at h
 |[_],h=>simp at h
 |[_,_],h=>simp at h
 |[_,_,_],h=>simp at h
theorem aFZ(s:ByteArray)(w:World)(hs:4≤s.size):
 Calls prog 136 #[.string s] w fun e w'=>e= .returned (.int .i64 (iX ((dH s).take 4)))∧∃m,w'=w.drewN m:=by
 have c:0<s.size:=by omega
 have a:1<s.size:=by omega
 have f:2<s.size:=by omega
 have d:3<s.size:=by omega
 have g:(0:Int)<(s.size:Int):=by omega
 have h:(1:Int)<(s.size:Int):=by omega
 have j:(2:Int)<(s.size:Int):=by omega
 have i:(3:Int)<(s.size:Int):=by omega
 go_enter func136,ntmps136;go_wp2_with fail
 go_quiet (fail)
 go_wp2;go_ret;refine⟨?_,nq,rfl⟩;rw[aIg (by rw[fH];exact hs),jY s 0 c,jY s 1 a,jY s 2 f,jY s 3 d];have b:∀(x:UInt8),(0:Int)≤(x.toNat:Int)∧(x.toNat:Int)<256:=fun x=>⟨by omega,by have:=x.toNat_lt;omega⟩;simp only[iX];rw[←or4 _ _ _ _ (b _) (b _) (b _) (b _)]
 rfl
def lF(L:List Int):Rw:=⟨L.getD 1 0,iX ((L.drop 2).take 4),iX ((L.drop 6).take 4),L.getD 10 0,iX ((L.drop 11).take 4),iX ((L.drop 15).take 4),iX ((L.drop 19).take 4)⟩
theorem mY(s:ByteArray)(a b:Nat):dH (s.extract a b)=((dH s).drop a).take (b-a):=by
 unfold dH;rw[show(s.extract a b).data.toList=(s.data.toList.drop a).take (b-a)from by simp];rw[List.map_take,List.map_drop]
theorem rR(b:UInt8):IntKind.i64.wrap (b.toNat:Int)=(b.toNat:Int):=by
 have:=b.toNat_lt;rw[IntKind.wrap_i64];omega
section
variable (s:ByteArray)
theorem nH(k:Nat)(h:k<s.size):(dH s)[k]?.getD 0=(s[k].toNat:Int):=by
 rw[←aQ];exact jY s k h
theorem iZ(a b:Nat)(w:World)(hb:b≤s.size)(h4:b≤a+4):
 Calls prog 214 #[.string (s.extract a b)] w fun e w'=>e= .returned (.int .i64 (iX (((dH s).drop a).take (b-a))))∧w'=w:=by
 rw[←mY s a b];exact aJh _ _ (by rw[ByteArray.size_extract];omega)
theorem aGf(w:World)(hs:s.size=25):
 Calls prog 179 #[.string s] w fun e w'=>e= .returned (rwV (lF (dH s)))∧Below w.heap.size w w':=by
 have b:1<s.size:=by omega
 have a:10<s.size:=by omega
 have l:(1:Int)<(s.size:Int):=by omega
 have k:(10:Int)<(s.size:Int):=by omega
 have m:(6:Int)≤(s.size:Int):=by omega
 have j:(10:Int)≤(s.size:Int):=by omega
 have c:(15:Int)≤(s.size:Int):=by omega
 have f:(19:Int)≤(s.size:Int):=by omega
 have g:(23:Int)≤(s.size:Int):=by omega
 have n:=cN hs;have d:25≤s.size:=by omega
 clear hs;go_enter func179,ntmps179;go_wp2_with fail
 go_cut [3]from 4 to 16 (fun s3 wc=>s3= .pointer (some ⟨w.heap.size+1,0,none⟩)∧wc=((w.alloc (.cells #[.int .i64 0,.int .i64 0,.int .i64 0,.int .i64 0,.int .i64 0,.int .i64 0,.int .i64 0] 58)).alloc (.cells #[.int .i64 (IntKind.i64.wrap (s[10].toNat:Int)),.int .i64 (iX (List.take 4 (List.drop 11 (dH s)))),.int .i64 (iX (List.take 4 (List.drop 15 (dH s)))),.int .i64 (iX (List.take 4 (List.drop 19 (dH s))))] 56)).drew)
 case first=>
  refine wp_region_any (by kernel_rfl) ?_;change wpAny _ _ _ _ _ _ _ (World.drew _);refine wpAny_take (i:=0) (v:=?v1) rfl (by kernel_rfl) (by kernel_rfl) (by kernel_rfl) (fun _ _ _ h=>h) (Or.inl ⟨by rfl,?y1⟩) ?k1
  case y1=>intro w;go_simp;with_reducible rfl
  refine wpAny_take (i:=1) (v:=?v2) rfl (by kernel_rfl) (by kernel_rfl) (by kernel_rfl) (fun _ _ _ h=>h) (Or.inl ⟨by rfl,?y2⟩) ?k2
  case y2=>intro w;go_simp;with_reducible rfl
  refine wpAny_take (i:=2) (v:=?v3) rfl (by kernel_rfl) (by kernel_rfl) (by kernel_rfl) (fun _ _ _ h=>h) (Or.inl ⟨by rfl,?y3⟩) ?k3
  case y3=>intro w;go_simp;with_reducible rfl
  refine wpAny_take (i:=3) (v:=?v4) rfl (by kernel_rfl) (by kernel_rfl) (by kernel_rfl) (fun _ _ _ h=>h) (Or.inl ⟨by rfl,?y4⟩) ?k4
  case y4=>intro w;go_simp;with_reducible rfl
  refine wpAny_take (i:=4) (v:=?v5) rfl (by kernel_rfl) (by kernel_rfl) (by kernel_rfl) (fun _ _ _ h=>h) (Or.inl ⟨by rfl,?y5⟩) ?k5
  case y5=>intro w;go_simp;with_reducible rfl
  refine wpAny_take (i:=6) (v:=?v6) rfl (by kernel_rfl) (by kernel_rfl) (by kernel_rfl) (fun _ _ _ h=>h) (Or.inl ⟨by rfl,?y6⟩) ?k6
  case y6=>intro w;go_simp;with_reducible rfl
  refine wpAny_take (i:=7) (v:=?v7) rfl (by kernel_rfl) (by kernel_rfl) (by kernel_rfl) (fun _ _ _ h=>h) (Or.inl ⟨by rfl,?y7⟩) ?k7
  case y7=>intro w;go_simp;with_reducible rfl
  refine wpAny_take (i:=9) (v:=?v8) rfl (by kernel_rfl) (by kernel_rfl) (by kernel_rfl) (fun _ _ _ h=>h) (Or.inl ⟨by rfl,?y8⟩) ?k8
  case y8=>intro w;go_simp;with_reducible rfl
  refine wpAny_take (i:=10) (v:=?v9) rfl (by kernel_rfl) (by kernel_rfl) (by kernel_rfl) (fun _ _ _ h=>h) (Or.inl ⟨by rfl,?y9⟩) ?k9
  case y9=>intro w;go_simp;with_reducible rfl
  refine wpAny_ready (rs:=[5,13]) (by kernel_rfl) (by simp) ?_;refine AllReady.cons rfl (fun K hK=>?_) ?_
  ·go_simp;go_wp2_with (go_at_call 214;refine(iZ s _ _ _ ?_ ?_).mono ?_;omega;omega;rintro e w' ⟨rfl,rfl⟩);refine wpAny_ready (rs:=[8,13]) (by kernel_rfl) (by simp) ?_;refine AllReady.cons rfl (fun K hK=>?_) ?_
   ·go_simp;go_wp2_with (go_at_call 214;refine(iZ s _ _ _ ?_ ?_).mono ?_;omega;omega;rintro e w' ⟨rfl,rfl⟩);refine wpAny_ready (rs:=[11,13]) (by kernel_rfl) (by simp) ?_;refine AllReady.cons rfl (fun K hK=>?_) ?_
    ·go_simp;go_wp2_with (go_at_call 214;refine(iZ s _ _ _ ?_ ?_).mono ?_;omega;omega;rintro e w' ⟨rfl,rfl⟩);refine wpAny_take (i:=12) (v:=?v10) rfl (by kernel_rfl) (by kernel_rfl) (by kernel_rfl) (fun _ _ _ h=>h) (Or.inl ⟨by rfl,?y10⟩) ?k10
     case y10=>intro w;go_simp;with_reducible rfl
     refine wpAny_ready (rs:=[13]) (by kernel_rfl) (by simp) ?_;refine AllReady.cons rfl (fun K hK=>?_) ?_
     ·go_simp;refine hK _ _ ?_;clear hK K;refine wpAny_ready (rs:=[14]) (by kernel_rfl) (by simp) ?_;refine AllReady.cons rfl (fun K hK=>?_) ?_
      ·go_simp;refine hK _ _ ?_;clear hK K;refine wpAny_done (by kernel_rfl) ?_ _;go_wp2_with fail
       go_meet
       case rel=>exact⟨rfl,rfl⟩
      exact AllReady.nil
     exact AllReady.nil
    refine AllReady.cons rfl (fun K hK=>?_) ?_
    ·go_simp;refine hK _ _ ?_;clear hK K;refine wpAny_ready (rs:=[11]) (by kernel_rfl) (by simp) ?_;refine AllReady.cons rfl (fun K hK=>?_) ?_
     ·go_simp;go_wp2_with (go_at_call 214;refine(iZ s _ _ _ ?_ ?_).mono ?_;omega;omega;rintro e w' ⟨rfl,rfl⟩);refine wpAny_take (i:=12) (v:=?v11) rfl (by kernel_rfl) (by kernel_rfl) (by kernel_rfl) (fun _ _ _ h=>h) (Or.inl ⟨by rfl,?y11⟩) ?k11
      case y11=>intro w;go_simp;with_reducible rfl
      refine wpAny_ready (rs:=[14]) (by kernel_rfl) (by simp) ?_;refine AllReady.cons rfl (fun K hK=>?_) ?_
      ·go_simp;refine hK _ _ ?_;clear hK K;refine wpAny_done (by kernel_rfl) ?_ _;go_wp2_with fail
       go_meet
       case rel=>exact⟨rfl,rfl⟩
      exact AllReady.nil
     exact AllReady.nil
    exact AllReady.nil
   refine AllReady.cons rfl (fun K hK=>?_) ?_
   ·go_simp;refine hK _ _ ?_;clear hK K;refine wpAny_ready (rs:=[8]) (by kernel_rfl) (by simp) ?_;refine AllReady.cons rfl (fun K hK=>?_) ?_
    ·go_simp;go_wp2_with (go_at_call 214;refine(iZ s _ _ _ ?_ ?_).mono ?_;omega;omega;rintro e w' ⟨rfl,rfl⟩);refine wpAny_ready (rs:=[11]) (by kernel_rfl) (by simp) ?_;refine AllReady.cons rfl (fun K hK=>?_) ?_
     ·go_simp;go_wp2_with (go_at_call 214;refine(iZ s _ _ _ ?_ ?_).mono ?_;omega;omega;rintro e w' ⟨rfl,rfl⟩);refine wpAny_take (i:=12) (v:=?v12) rfl (by kernel_rfl) (by kernel_rfl) (by kernel_rfl) (fun _ _ _ h=>h) (Or.inl ⟨by rfl,?y12⟩) ?k12
      case y12=>intro w;go_simp;with_reducible rfl
      refine wpAny_ready (rs:=[14]) (by kernel_rfl) (by simp) ?_;refine AllReady.cons rfl (fun K hK=>?_) ?_
      ·go_simp;refine hK _ _ ?_;clear hK K;refine wpAny_done (by kernel_rfl) ?_ _;go_wp2_with fail
       go_meet
       case rel=>exact⟨rfl,rfl⟩
      exact AllReady.nil
     exact AllReady.nil
    exact AllReady.nil
   exact AllReady.nil
  refine AllReady.cons rfl (fun K hK=>?_) ?_
  ·go_simp;refine hK _ _ ?_;clear hK K;refine wpAny_ready (rs:=[5]) (by kernel_rfl) (by simp) ?_;refine AllReady.cons rfl (fun K hK=>?_) ?_
   ·go_simp;go_wp2_with (go_at_call 214;refine(iZ s _ _ _ ?_ ?_).mono ?_;omega;omega;rintro e w' ⟨rfl,rfl⟩);refine wpAny_ready (rs:=[8]) (by kernel_rfl) (by simp) ?_;refine AllReady.cons rfl (fun K hK=>?_) ?_
    ·go_simp;go_wp2_with (go_at_call 214;refine(iZ s _ _ _ ?_ ?_).mono ?_;omega;omega;rintro e w' ⟨rfl,rfl⟩);refine wpAny_ready (rs:=[11]) (by kernel_rfl) (by simp) ?_;refine AllReady.cons rfl (fun K hK=>?_) ?_
     ·go_simp;go_wp2_with (go_at_call 214;refine(iZ s _ _ _ ?_ ?_).mono ?_;omega;omega;rintro e w' ⟨rfl,rfl⟩);refine wpAny_take (i:=12) (v:=?v13) rfl (by kernel_rfl) (by kernel_rfl) (by kernel_rfl) (fun _ _ _ h=>h) (Or.inl ⟨by rfl,?y13⟩) ?k13
      case y13=>intro w;go_simp;with_reducible rfl
      refine wpAny_ready (rs:=[14]) (by kernel_rfl) (by simp) ?_;refine AllReady.cons rfl (fun K hK=>?_) ?_
      ·go_simp;refine hK _ _ ?_;clear hK K;refine wpAny_done (by kernel_rfl) ?_ _;go_wp2_with fail
       go_meet
       case rel=>exact⟨rfl,rfl⟩
      exact AllReady.nil
     exact AllReady.nil
    exact AllReady.nil
   exact AllReady.nil
  exact AllReady.nil
 case rest=>
  obtain⟨rfl,rfl⟩:=hcut;go_wp2_with fail;refine wp_region_any (by kernel_rfl) ?_;change wpAny _ _ _ _ _ _ _ (World.drew _);refine wpAny_take (i:=0) (v:=?vb1) rfl (by kernel_rfl) (by kernel_rfl) (by kernel_rfl) (fun _ _ _ h=>h) (Or.inl ⟨by rfl,?yb1⟩) ?kb1
  case yb1=>intro w;go_simp;with_reducible rfl
  refine wpAny_take (i:=1) (v:=?vb2) rfl (by kernel_rfl) (by kernel_rfl) (by kernel_rfl) (fun _ _ _ h=>h) (Or.inl ⟨by rfl,?yb2⟩) ?kb2
  case yb2=>intro w;go_simp;with_reducible rfl
  refine wpAny_take (i:=2) (v:=?vb3) rfl (by kernel_rfl) (by kernel_rfl) (by kernel_rfl) (fun _ _ _ h=>h) (Or.inl ⟨by rfl,?yb3⟩) ?kb3
  case yb3=>intro w;go_simp;with_reducible rfl
  refine wpAny_take (i:=3) (v:=?vb4) rfl (by kernel_rfl) (by kernel_rfl) (by kernel_rfl) (fun _ _ _ h=>h) (Or.inl ⟨by rfl,?yb4⟩) ?kb4
  case yb4=>intro w;go_simp;with_reducible rfl
  refine wpAny_take (i:=4) (v:=?vb5) rfl (by kernel_rfl) (by kernel_rfl) (by kernel_rfl) (fun _ _ _ h=>h) (Or.inl ⟨by rfl,?yb5⟩) ?kb5
  case yb5=>intro w;go_simp;with_reducible rfl
  refine wpAny_take (i:=6) (v:=?vb6) rfl (by kernel_rfl) (by kernel_rfl) (by kernel_rfl) (fun _ _ _ h=>h) (Or.inl ⟨by rfl,?yb6⟩) ?kb6
  case yb6=>intro w;go_simp;with_reducible rfl
  refine wpAny_take (i:=7) (v:=?vb7) rfl (by kernel_rfl) (by kernel_rfl) (by kernel_rfl) (fun _ _ _ h=>h) (Or.inl ⟨by rfl,?yb7⟩) ?kb7
  case yb7=>intro w;go_simp;with_reducible rfl
  refine wpAny_ready (rs:=[5,9]) (by kernel_rfl) (by simp) ?_;refine AllReady.cons rfl (fun K hK=>?_) ?_
  ·go_simp;go_wp2_with (go_at_call 214;refine(iZ s _ _ _ ?_ ?_).mono ?_;omega;omega;rintro e w' ⟨rfl,rfl⟩);refine wpAny_ready (rs:=[8,9]) (by kernel_rfl) (by simp) ?_;refine AllReady.cons rfl (fun K hK=>?_) ?_
   ·go_simp;go_wp2_with (go_at_call 214;refine(iZ s _ _ _ ?_ ?_).mono ?_;omega;omega;rintro e w' ⟨rfl,rfl⟩);refine wpAny_ready (rs:=[9]) (by kernel_rfl) (by simp) ?_;refine AllReady.cons rfl (fun K hK=>?_) ?_
    ·go_simp;refine hK _ _ ?_;clear hK K;refine wpAny_take (i:=10) (v:=?vb8) rfl (by kernel_rfl) (by kernel_rfl) (by kernel_rfl) (fun _ _ _ h=>h) (Or.inl ⟨by rfl,?yb8⟩) ?kb8
     case yb8=>intro w;go_simp;with_reducible rfl
     refine wpAny_ready (rs:=[11]) (by kernel_rfl) (by simp) ?_;refine AllReady.cons rfl (fun K hK=>?_) ?_
     ·go_simp;refine hK _ _ ?_;clear hK K;refine wpAny_done (by kernel_rfl) ?_ _;go_wp2;exact bodyPost_ret (v:=rwV (lF (dH s))) (by simp[results,results179,go_sem,lF,rR];exact⟨(nH s 1 b).symm,(nH s 10 a).symm⟩) rfl ⟨rfl,(((aJ _ _).alloc (aE _) _).alloc (by simp) _).drew.drew⟩
     exact AllReady.nil
    exact AllReady.nil
   refine AllReady.cons rfl (fun K hK=>?_) ?_
   ·go_simp;refine hK _ _ ?_;clear hK K;refine wpAny_ready (rs:=[8]) (by kernel_rfl) (by simp) ?_;refine AllReady.cons rfl (fun K hK=>?_) ?_
    ·go_simp;go_wp2_with (go_at_call 214;refine(iZ s _ _ _ ?_ ?_).mono ?_;omega;omega;rintro e w' ⟨rfl,rfl⟩);refine wpAny_take (i:=10) (v:=?vb9) rfl (by kernel_rfl) (by kernel_rfl) (by kernel_rfl) (fun _ _ _ h=>h) (Or.inl ⟨by rfl,?yb9⟩) ?kb9
     case yb9=>intro w;go_simp;with_reducible rfl
     refine wpAny_ready (rs:=[11]) (by kernel_rfl) (by simp) ?_;refine AllReady.cons rfl (fun K hK=>?_) ?_
     ·go_simp;refine hK _ _ ?_;clear hK K;refine wpAny_done (by kernel_rfl) ?_ _;go_wp2;exact bodyPost_ret (v:=rwV (lF (dH s))) (by simp[results,results179,go_sem,lF,rR];exact⟨(nH s 1 b).symm,(nH s 10 a).symm⟩) rfl ⟨rfl,(((aJ _ _).alloc (aE _) _).alloc (by simp) _).drew.drew⟩
     exact AllReady.nil
    exact AllReady.nil
   exact AllReady.nil
  refine AllReady.cons rfl (fun K hK=>?_) ?_
  ·go_simp;refine hK _ _ ?_;clear hK K;refine wpAny_ready (rs:=[5]) (by kernel_rfl) (by simp) ?_;refine AllReady.cons rfl (fun K hK=>?_) ?_
   ·go_simp;go_wp2_with (go_at_call 214;refine(iZ s _ _ _ ?_ ?_).mono ?_;omega;omega;rintro e w' ⟨rfl,rfl⟩);refine wpAny_ready (rs:=[8]) (by kernel_rfl) (by simp) ?_;refine AllReady.cons rfl (fun K hK=>?_) ?_
    ·go_simp;go_wp2_with (go_at_call 214;refine(iZ s _ _ _ ?_ ?_).mono ?_;omega;omega;rintro e w' ⟨rfl,rfl⟩);refine wpAny_take (i:=10) (v:=?vb10) rfl (by kernel_rfl) (by kernel_rfl) (by kernel_rfl) (fun _ _ _ h=>h) (Or.inl ⟨by rfl,?yb10⟩) ?kb10
     case yb10=>intro w;go_simp;with_reducible rfl
     refine wpAny_ready (rs:=[11]) (by kernel_rfl) (by simp) ?_;refine AllReady.cons rfl (fun K hK=>?_) ?_
     ·go_simp;refine hK _ _ ?_;clear hK K;refine wpAny_done (by kernel_rfl) ?_ _;go_wp2;exact bodyPost_ret (v:=rwV (lF (dH s))) (by simp[results,results179,go_sem,lF,rR];exact⟨(nH s 1 b).symm,(nH s 10 a).symm⟩) rfl ⟨rfl,(((aJ _ _).alloc (aE _) _).alloc (by simp) _).drew.drew⟩
     exact AllReady.nil
    exact AllReady.nil
   exact AllReady.nil
  exact AllReady.nil
end
def cellsOf(rs:List Rw):List Value:=rs.flatMap rwL
theorem tG(rs:List Rw)(r:Rw):cellsOf (rs++[r])=cellsOf rs++rwL r:=by simp[cellsOf]
theorem uH:∀(rs:List Rw) (i:Nat) (h:i<rs.length) (j:Nat),j<7→(cellsOf rs)[i*7+j]?=(rwL rs[i])[j]?
 |r::rs,0,_,j,hj=>by
  simp only[cellsOf,List.flatMap_cons,Nat.zero_mul,Nat.zero_add];rw[bL (by simpa using hj)]
  rfl
 |r::rs,i+1,h,j,hj=>by
  have ih:=uH rs i (by simpa using h) j hj;simp only[cellsOf,List.flatMap_cons]at ih⊢;rw[bN (by simp;omega)];have e:(i+1)*7+j-(rwL r).length=i*7+j:=by simp;omega
  rw[e,ih]
  rfl
def sP(w:World)(g:Nat)(rs:List Rw):Prop:=∀i (h:i<rs.length),∀j v,(rwL rs[i])[j]?=some v→w.cell? ⟨g,i*7+j,none⟩=some v
def vA(w:World)(v:Value)(rs:List Rw):Prop:=(v= .slice none 0 0∧rs=[])∨∃g cap,v= .slice (some ⟨g,0,none⟩) rs.length cap∧rs.length≤cap∧cap≤maxLen∧sP w g rs
theorem aAr(g1 c1 g2 c2:Nat)(rs:List Rw)(w:World)(hm:rs.length≤maxLen)(h1:sP w g1 rs)(h2:sP w g2 rs):
 Calls prog 104 #[.slice (some ⟨g1,0,none⟩) rs.length c1,.slice (some ⟨g2,0,none⟩) rs.length c2] w fun e w'=>e= .returned (.bool true)∧Below w.heap.size w w':=by
 unfold maxLen at hm;have h:Hid (sP w g1 rs):=h1;have m:Hid (sP w g2 rs):=h2;clear h1 h2;generalize g:rs.length=N at hm⊢;have j:=cN g;clear g;go_enter func104,ntmps104;go_wp2;go_loopw [5] (fun i wr=>∃(k n:Nat),k≤N∧i= .int .i64 k∧wr=w.drewN n) (fun i _=>N-(intOf i).toNat)
 case atStart=>exact⟨0,0,by omega,rfl,rfl⟩
 case round=>
  obtain⟨k,n,y,rfl,rfl⟩:=hrel;by_cases f:k<N
  ·have d:k<rs.length:=by rw[j.out];exact f
   have b:=h.out k d;have c:=m.out k d;generalize rs[k]=R at b c;obtain⟨l,p,a,o,t,u,q⟩:=R;have r:w.cell? ⟨g1,k*7,none⟩=some (.int .i64 l):=b 0 _ rfl;have G:w.cell? ⟨g2,k*7,none⟩=some (.int .i64 l):=c 0 _ rfl;have I:w.cell? ⟨g1,k*7+1,none⟩=some (.int .i64 p):=b 1 _ rfl;have x:w.cell? ⟨g2,k*7+1,none⟩=some (.int .i64 p):=c 1 _ rfl;have D:w.cell? ⟨g1,k*7+2,none⟩=some (.int .i64 a):=b 2 _ rfl;have J:w.cell? ⟨g2,k*7+2,none⟩=some (.int .i64 a):=c 2 _ rfl;have v:w.cell? ⟨g1,k*7+3,none⟩=some (.int .i64 o):=b 3 _ rfl;have z:w.cell? ⟨g2,k*7+3,none⟩=some (.int .i64 o):=c 3 _ rfl;have s:w.cell? ⟨g1,k*7+4,none⟩=some (.int .i64 t):=b 4 _ rfl;have E:w.cell? ⟨g2,k*7+4,none⟩=some (.int .i64 t):=c 4 _ rfl;have F:w.cell? ⟨g1,k*7+5,none⟩=some (.int .i64 u):=b 5 _ rfl;have B:w.cell? ⟨g2,k*7+5,none⟩=some (.int .i64 u):=c 5 _ rfl;have H:w.cell? ⟨g1,k*7+6,none⟩=some (.int .i64 q):=b 6 _ rfl;have C:w.cell? ⟨g2,k*7+6,none⟩=some (.int .i64 q):=c 6 _ rfl;have A:(k:Int)<(N:Int):=by omega
   clear b c d;go_wp2_with fail
   go_quiet (fail)
   go_wp2;go_roundw
   case rel=>exact⟨k+1,n+nq,by omega,by go_num,rfl⟩
   case measure=>simp[intOf];omega
  ·go_wp2;go_ret;exact⟨rfl,below_drewN (aJ _ _) n⟩
theorem aB4(p1 p2:Option Addr)(c1 c2:Nat)(w:World):
 Calls prog 104 #[.slice p1 0 c1,.slice p2 0 c2] w fun e w'=>e= .returned (.bool true)∧Below w.heap.size w w':=by
 go_enter func104,ntmps104;go_wp2
 go_loop [5] (fun i=>i= .int .i64 0) (fun _=>0)
 case atStart=>rfl
 case round=>
  obtain rfl:=hrel;go_wp2;go_ret;exact⟨rfl,aJ _ _⟩
theorem xO(v1 v2:Value)(rs:List Rw)(w:World)(h1:vA w v1 rs∨(rs=[]∧∃p c,v1= .slice p 0 c))(h2:vA w v2 rs∨(rs=[]∧∃p c,v2= .slice p 0 c)):
 Calls prog 104 #[v1,v2] w fun e w'=>e= .returned (.bool true)∧Below w.heap.size w w':=by
 by_cases a:rs=[]
 ·subst a;have z:∀v,(vA w v []∨(([]:List Rw)=[]∧∃p c,v= .slice p 0 c))→∃p c,v= .slice p 0 c:=by
   rintro v ((⟨rfl,_⟩|⟨g,j,rfl,_⟩)|⟨_,h⟩)
   ·exact⟨_,_,rfl⟩
   ·exact⟨_,_,rfl⟩
   ·exact h
  obtain⟨f,d,rfl⟩:=z _ h1;obtain⟨i,b,rfl⟩:=z _ h2;exact aB4 f i d b w
 ·rcases h1 with(⟨_,h⟩|⟨g1,d,rfl,hc1,hm1,r1⟩)|⟨h,_⟩
  ·exact absurd h a
  ·rcases h2 with(⟨_,h⟩|⟨g2,b,rfl,hc2,hm2,r2⟩)|⟨h,_⟩
   ·exact absurd h a
   ·exact aAr g1 d g2 b rs w (cA hc1 hm1) r1 r2
   ·exact absurd h a
  ·exact absurd h a
def keysA_ren:Go.Shelf.Ren:=⟨fun|7=>99|10=>139|n=>n,fun|23=>118|26=>3|3=>58|28=>168|0=>0|27=>167|33=>95|4=>4|n=>n,fun|n=>n⟩
theorem keysA:Go.Proofs.SlLaysZI.n7 prog keysA_ren:={
 mixed:=by kernel_rfl
 f7:=⟨f99.name,by decide,func99.trans (congrArg some (by kernel_rfl))⟩
 f10:=⟨f139.name,by decide,func139.trans (congrArg some (by kernel_rfl))⟩
 t0:=underlying0
 a0:=isAgg0
 z0:=sizeOf0
 v0:=zeroValue0
 t4:=underlying4
 a4:=isAgg4
 z4:=sizeOf4
 v4:=zeroValue4
 t23:=underlying118
 a23:=isAgg118
 z23:=sizeOf118
 v23:=zeroValue118
 t26:=underlying3
 a26:=isAgg3
 z26:=sizeOf3
 v26:=zeroValue3
 t27:=underlying167
 a27:=isAgg167
 z27:=sizeOf167
 v27:=zeroValue167
 t28:=underlying168
 a28:=isAgg168
 z28:=sizeOf168
 v28:=zeroValue168
 t33:=underlying95
 a33:=isAgg95
 z33:=sizeOf95
 v33:=zeroValue95}
def sortedA_ren:Go.Shelf.Ren:=⟨fun|6=>98|8=>137|9=>138|11=>176|13=>178|12=>177|23=>212|24=>213|14=>203|15=>204|16=>205|17=>206|18=>207|19=>208|20=>209|21=>210|22=>211|25=>227|26=>228|27=>229|28=>230|29=>231|30=>232|31=>240|n=>n,fun|26=>3|28=>168|24=>25|0=>0|3=>3|37=>222|48=>284|50=>286|4=>4|40=>278|39=>277|45=>107|5=>5|9=>9|51=>315|55=>319|57=>323|58=>59|33=>95|n=>n,fun|n=>n⟩
theorem sortedA:Go.Proofs.SlLaysZI.n6 prog sortedA_ren:={
 mixed:=by kernel_rfl
 f6:=⟨f98.name,by decide,func98.trans (congrArg some (by kernel_rfl))⟩
 f8:=⟨f137.name,by decide,func137.trans (congrArg some (by kernel_rfl))⟩
 f11:=⟨f176.name,by decide,func176.trans (congrArg some (by kernel_rfl))⟩
 t0:=underlying0
 a0:=isAgg0
 z0:=sizeOf0
 v0:=zeroValue0
 t24:=underlying25
 a24:=isAgg25
 z24:=sizeOf25
 v24:=zeroValue25
 t26:=underlying3
 a26:=isAgg3
 z26:=sizeOf3
 v26:=zeroValue3
 t28:=underlying168
 a28:=isAgg168
 z28:=sizeOf168
 v28:=zeroValue168
 i26:=by kernel_rfl}
def sortA_ren:Go.Shelf.Ren:=⟨fun|5=>138|8=>178|7=>177|19=>212|20=>213|10=>203|11=>204|12=>205|13=>206|14=>207|15=>208|16=>209|17=>210|18=>211|30=>227|31=>228|32=>229|33=>230|34=>231|35=>232|40=>240|n=>n,fun|23=>25|25=>3|3=>3|32=>222|22=>25|0=>0|44=>284|46=>286|4=>4|36=>278|35=>277|41=>107|5=>5|9=>9|53=>315|57=>319|63=>323|64=>59|n=>n,fun|n=>n⟩
theorem sortA:Go.Proofs.SlLaysM.n5 prog sortA_ren:={
 mixed:=by kernel_rfl
 f5:=⟨f138.name,by decide,func138.trans (congrArg some (by kernel_rfl))⟩
 f7:=⟨f177.name,by decide,func177.trans (congrArg some (by kernel_rfl))⟩
 f8:=func178.trans (congrArg some (by kernel_rfl))
 f10:=⟨f203.name,by decide,func203.trans (congrArg some (by kernel_rfl))⟩
 f11:=⟨f204.name,by decide,func204.trans (congrArg some (by kernel_rfl))⟩
 f12:=⟨f205.name,by decide,func205.trans (congrArg some (by kernel_rfl))⟩
 f13:=⟨f206.name,by decide,func206.trans (congrArg some (by kernel_rfl))⟩
 f14:=⟨f207.name,by decide,func207.trans (congrArg some (by kernel_rfl))⟩
 f15:=⟨f208.name,by decide,func208.trans (congrArg some (by kernel_rfl))⟩
 f16:=⟨f209.name,by decide,func209.trans (congrArg some (by kernel_rfl))⟩
 f17:=⟨f210.name,by decide,func210.trans (congrArg some (by kernel_rfl))⟩
 f18:=⟨f211.name,by decide,func211.trans (congrArg some (by kernel_rfl))⟩
 f19:=func212.trans (congrArg some (by kernel_rfl))
 f20:=func213.trans (congrArg some (by kernel_rfl))
 f30:=⟨f227.name,by decide,func227.trans (congrArg some (by kernel_rfl))⟩
 f31:=func228.trans (congrArg some (by kernel_rfl))
 f32:=func229.trans (congrArg some (by kernel_rfl))
 f33:=⟨f230.name,by decide,func230.trans (congrArg some (by kernel_rfl))⟩
 f34:=⟨f231.name,by decide,func231.trans (congrArg some (by kernel_rfl))⟩
 f35:=⟨f232.name,by decide,func232.trans (congrArg some (by kernel_rfl))⟩
 f40:=⟨f240.name,by decide,func240.trans (congrArg some (by kernel_rfl))⟩
 t0:=underlying0
 a0:=isAgg0
 z0:=sizeOf0
 v0:=zeroValue0
 t3:=underlying3
 a3:=isAgg3
 z3:=sizeOf3
 v3:=zeroValue3
 t4:=underlying4
 a4:=isAgg4
 z4:=sizeOf4
 v4:=zeroValue4
 t5:=underlying5
 a5:=isAgg5
 z5:=sizeOf5
 v5:=zeroValue5
 t9:=underlying9
 a9:=isAgg9
 z9:=sizeOf9
 v9:=zeroValue9
 t22:=underlying25
 a22:=isAgg25
 z22:=sizeOf25
 v22:=zeroValue25
 t23:=underlying25
 a23:=isAgg25
 z23:=sizeOf25
 v23:=zeroValue25
 t25:=underlying3
 a25:=isAgg3
 z25:=sizeOf3
 v25:=zeroValue3
 t32:=underlying222
 a32:=isAgg222
 z32:=sizeOf222
 v32:=zeroValue222
 t35:=underlying277
 a35:=isAgg277
 z35:=sizeOf277
 v35:=zeroValue277
 t36:=underlying278
 a36:=isAgg278
 z36:=sizeOf278
 v36:=zeroValue278
 t41:=underlying107
 a41:=isAgg107
 z41:=sizeOf107
 v41:=zeroValue107
 t44:=underlying284
 a44:=isAgg284
 z44:=sizeOf284
 v44:=zeroValue284
 t46:=underlying286
 a46:=isAgg286
 z46:=sizeOf286
 v46:=zeroValue286
 t53:=underlying315
 a53:=isAgg315
 z53:=sizeOf315
 v53:=zeroValue315
 t57:=underlying319
 a57:=isAgg319
 z57:=sizeOf319
 v57:=zeroValue319
 t63:=underlying323
 a63:=isAgg323
 z63:=sizeOf323
 v63:=zeroValue323
 t64:=underlying59
 a64:=isAgg59
 z64:=sizeOf59
 v64:=zeroValue59}
def wQ(c:Ct):Prop:=c.up=false→c.clock=0∧c.round=0∧c.toks=(fun _=>0)∧c.holds=(fun _=>0)∧c.wat=(fun _=>zWt)∧c.doing=none
end Go.Proofs.YtbbdgokdfhdpiaaGreatDoor
