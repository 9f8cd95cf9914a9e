/- A part of the proof: PDk2, PDk3, PDk4, PDk5, PDk6, PDk7, MemAc2, PAc1. -/
import Derived.Test.YtbbdgokdfhdpiaaGreatDoorE12
import Derived.Test.YtbbdgokdfhdpiaaGreatDoorE14
namespace Go.Proofs.YtbbdgokdfhdpiaaGreatDoor
set_option linter.all false
set_option maxRecDepth 100000
set_option maxHeartbeats 40000000
open Go.Proofs.Tryz Go.RowKit
section
open Go.RowKit Go.Maps
def kH(W:World)(b:Nat)(ev:Value):Prop:=∃nm,W.heap[b]?=some (.cells #[.string ⟨#[97,112,112,101,110,100]⟩,.string nm,ev] 239 (0,0))
abbrev kI(b:Nat):Value:=.iface 234 (oL b)
def EndsK(v:Value)(ev:Value)(W:World)(F:Nat→Prop)(d:Nat)(p:Dk×How)(e:Ending)(W':World):Prop:=DkTo W F d p.1 W'∧match p.2 with
 |.none=>e= .returned v
 |(.some (.some q))=>e= .panicked (oM q)
 |(.some .none)=>∃b,e= .returned (kI b)∧kH W' b ev∧W.heap.size≤b
theorem EndsK.dies{v ev:Value}{W:World}{F:Nat→Prop}{d:Nat}{k:Dk}(h:Disk W F d k):EndsK v ev W F d (k,(.some (.some (jY k)))) (.panicked (oM (jY k))) W:=⟨.of h,rfl⟩
theorem aB9:keyOf prog 9 qY=some (.string oV):=by kernel_rfl
theorem aC2:keyOf prog 9 tV=some (.string tL):=by kernel_rfl
theorem aBV(w:World):(zeroValue 207).run prog w= .ok (.pointer none) w:=by kernel_rfl
theorem Chg.nos{S:Nat→Prop}{A B:World}(h:Chg NoS A B):Chg S A B:=h.mono (fun _ _ h=>h.elim)
theorem Chg.nos'{S:Nat→Prop}{A B C:World}(h:Chg S A B)(k:Chg NoS B C):Chg S A C:=h.trans k (fun _ _ h=>h.elim)
section
variable (fl:Nat) (fn:Option Nat)
theorem aDH:(fP fl fn).atKey (.string oV) (.lit (.int .i64 (-1)))= .lit (.int .i64 fl):=by cases fn<;>rfl
theorem aD5:Maps.has (fP fl fn) (.string oV)=true:=by cases fn<;>rfl
theorem xN:Maps.size (fP fl fn)≤2:=by cases fn<;>simp[fP,Maps.size]
end
section
variable {W W':World}{F S:Nat→Prop}{d:Nat}{k:Dk}{nm km fl fk:Nat}{fn:Option Nat}{fv:Value}
theorem yO(h:lT W nm fl fn):(Instr.lookup 209 (.map (some nm)) qY true).run prog W= .ok (.tuple #[oL fl,.bool true]) W:=by
 obtain⟨v,c,a,b⟩:=h.look_ok vR underlying209 (aBV W) (zd:=.lit (.int .i64 (-1))) (zp:=[]) rfl aB9;rw[aDH]at b;rw[aD5]at a;rw[mN b]at a;exact a
theorem sM{b:Nat}(h:lT W nm fl (some b)):(Instr.lookup 209 (.map (some nm)) tV true).run prog W= .ok (.tuple #[oL b,.bool true]) W:=by
 obtain⟨v,f,a,c⟩:=h.look_ok vR underlying209 (aBV W) (zd:=.lit (.int .i64 (-1))) (zp:=[]) rfl aC2;have e:(fP fl (some b)).atKey (.string tL) (.lit (.int .i64 (-1)))= .lit (.int .i64 b):=rfl;have d:Maps.has (fP fl (some b)) (.string tL)=true:=rfl;rw[e]at c;rw[d]at a;rw[mN c]at a;exact a
theorem aHb(h:lT W nm fl none)(b:Nat):∃W',(Instr.mapUpdate 209 (.map (some nm)) tV (oL b)).run prog W= .ok () W'∧lT W' nm fl (some b)∧Chg (fun x=>x=nm) W W'∧W'.heap.size=W.heap.size:=by
 obtain⟨W',d,a,c⟩:=h.store vR underlying209 (by decide) aC2 (yX b);refine⟨W',d,?_,mX c,lR c⟩;have e:(fP fl none).put (.string tL) (.lit (.int .i64 b))=fP fl (some b):=rfl;rw[e]at a;exact lJ a (xN _ _)
theorem aGh{b:Nat}(h:lT W nm fl (some b))(ty:TypeId):∃W',(Builtin.delete_ #[209,9] ty #[.map (some nm),tV]).run prog W= .ok (.tuple #[]) W'∧lT W' nm fl none∧Chg (fun x=>x=nm) W W'∧W'.heap.size=W.heap.size:=by
 obtain⟨W',c,d,a⟩:=h.drop vR underlying209 aC2 ty;exact⟨W',c,d,mX a,lR a⟩
theorem aGC(h:lT W nm fl none)(b:Nat):∃W',(Instr.mapUpdate 209 (.map (some nm)) qY (oL b)).run prog W= .ok () W'∧lT W' nm b none∧Chg (fun x=>x=nm) W W'∧W'.heap.size=W.heap.size:=by
 obtain⟨W',d,a,c⟩:=h.store vR underlying209 (by decide) aB9 (yX b);refine⟨W',d,?_,mX c,lR c⟩;have e:(fP fl none).put (.string oV) (.lit (.int .i64 b))=fP b none:=rfl;rw[e]at a;exact lJ a (xN _ _)
theorem DkAt.names'{fl':Nat}{fn':Option Nat}{k':Dk}(h:DkAt W F d k nm km fl fn fk fv)(hc:Chg (fun x=>x=nm) W W')(hn:lT W' nm fl' fn')(h0:k'.room=k.room)
 (h1:FileAt W' fl' k'.log k'.lsyn) (h2:F fl') (h3:NewAt W' F fl' fn' k'.new) (h4:OldAt W' F fl' fn' fk k'.old) (h5:k'.fail=k.fail):DkAt W' F d k' nm km fl' fn' fk fv:=by
 obtain⟨_,_,b⟩:=dK h.names;obtain⟨_,_,a⟩:=dK h.kept;refine⟨?_,h.fd,hn,dF h.kept (by rw[a];exact hc.kept a (fun e=>h.nk e.symm)),h.fnm,h.fkm,h.nk,h1,h2,h3,h4,?_,fun x hx=>aG (h.lt x hx) hc.size⟩
 ·show W'.heap[d]?=some (.cells (dkL k' nm km fv).toArray _ _);have e:dkL k' nm km fv=dkL k nm km fv:=by simp[dkL,h0]
  rw[e];exact hc.kept h.blk (fun e=>dR h.blk b (by simp) e)
 ·rw[h5];exact h.fail.kept b (by simp) hc
theorem FileAt.kept{b c:Nat}{t:List Int}{y:Int}{o:Obj}(h:FileAt W b t y)(hx:W.heap[c]?=some o)(ho:∀cs fr,o≠.cells cs 214 fr)(hc:Chg (fun k=>k=c) W W'):FileAt W' b t y:=hc.kept h (fun e=>dR h hx (fun e=>ho _ _ e.symm) e)
theorem DkAt.file{c:Nat}{k':Dk}{t:List Int}{y:Int}(h:DkAt W F d k nm km fl fn fk fv)(hx:FileAt W c t y)(hc:Chg (fun x=>x=c) W W')(h0:k'.room=k.room)
 (h1:FileAt W' fl k'.log k'.lsyn) (h3:NewAt W' F fl fn k'.new) (h4:OldAt W' F fl fn fk k'.old) (h5:k'.fail=k.fail):DkAt W' F d k' nm km fl fn fk fv:=by
 obtain⟨_,_,b⟩:=dK h.names;obtain⟨_,_,a⟩:=dK h.kept;refine⟨?_,h.fd,dF h.names (by rw[b];exact hc.kept b (fun e=>dR b hx (by simp) e)),dF h.kept (by rw[a];exact hc.kept a (fun e=>dR a hx (by simp) e)),h.fnm,h.fkm,h.nk,h1,h.flog,h3,h4,?_,fun x hx=>aG (h.lt x hx) hc.size⟩
 ·show W'.heap[d]?=some (.cells (dkL k' nm km fv).toArray _ _);have e:dkL k' nm km fv=dkL k nm km fv:=by simp[dkL,h0]
  rw[e];exact hc.kept h.blk (fQ h.blk hx (by decide))
 ·rw[h5];exact h.fail.kept hx (by simp) hc
theorem gO{k k1:Dk}(h:fS k=some k1):k1.room=k.room∧k1.log=k.log∧k1.lsyn=k.lsyn∧k1.new=k.new∧k1.old=k.old:=by
 unfold fS at h;split at h
 ·obtain rfl:=aN h;exact⟨rfl,rfl,rfl,rfl,rfl⟩
 ·split at h
  ·cases h
  ·obtain rfl:=aN h;exact⟨rfl,rfl,rfl,rfl,rfl⟩
theorem jR{k k1:Dk}(h:fS k=some k1)(hf:gZ k):gZ k1:=by
 unfold fS at h;split at h
 ·obtain rfl:=aN h;exact hf
 ·rename_i n q b;split at h
  ·cases h
  ·obtain rfl:=aN h;intro p a;have:=hf _ b;simp at a;subst a;dsimp only at*;omega
end
theorem aCD(W:World)(F:Nat→Prop)(d:Nat)(k:Dk)(ev:Value)(h:Disk W F d k)(hok:gZ k)(hnew:k.new=none)(hold:k.old=none):
 Calls prog 198 #[.pointer (some ⟨d,0,none⟩),tV] W fun e W'=>EndsK (.tuple #[]) ev W F d (dD k jN) e W':=by
 obtain⟨i,o,j,y,m,p,h⟩:=h;cases hs:fS k with
 |none=>
  have A:dD k jN=(k,(.some (.some (jY k)))):=by unfold dD;rw[hs]
  rw[A];have Q:=cA h;have z:Hid (Calls prog 185 #[.pointer (some ⟨d,0,none⟩)] W fun e W'=>e= .panicked (oM (jY k))∧W'=W):=lF W F d k i o j y m p h hs;clear h hs;go_enter func198,ntmps198;go_wp2_with (go_at_call 185;refine z.out.mono ?_;rintro r a ⟨rfl,rfl⟩);exact⟨rfl,EndsK.dies ⟨_,_,_,_,_,_,Q.out⟩⟩
 |some k1=>
  have A:dD k jN=(jN k1,.none):=by unfold dD;rw[hs]
  rw[A];have O:=gO hs;have z:Hid (Calls prog 185 #[.pointer (some ⟨d,0,none⟩)] W fun e W'=>e= .returned (.tuple #[])∧DkAt W' F d k1 i o j y m p∧Chg F W W'∧W'.heap.size=W.heap.size):=lD W F d k k1 i o j y m p h hok hs;obtain rfl:y=none:=by have:=h.new;rw[hnew]at this;exact this
  clear h hs;go_enter func198,ntmps198;go_wp2_with (go_at_call 185;refine z.out.mono ?_;rintro r a ⟨rfl,v,I,L⟩;refine cD ?_);have g:Chg NoS a (a.alloc (.cells #[.string ⟨#[]⟩,.int .i64 0] 214)):=(Chg.refl _ _).alloc _;have t:FileAt (a.alloc (.cells #[.string ⟨#[]⟩,.int .i64 0] 214)) a.heap.size [] 0:=aA a _;have S:(a.alloc (.cells #[.string ⟨#[]⟩,.int .i64 0] 214)).heap.size=a.heap.size+1:=by simp
  have f:=v.apart g (fun _ _ h=>h);have D:=v.lt;generalize G:a.alloc (.cells #[.string ⟨#[]⟩,.int .i64 0] 214)=W2 at*;have P:=cA G;have T:=v.cell 1 _ rfl;obtain⟨C,c,s,b,q⟩:=aHb f.names a.heap.size;obtain⟨_,_,B⟩:=dK f.names;have n:DkAt W2 (fun x=>F x∨x=a.heap.size) d k1 i o j none m p:=f.grow (fun _ h=>Or.inl h) (fun x l=>by rcases l with l|l;exact f.lt x l;omega);have K:=O.2.2.2.2.trans hold;have H:DkAt C (fun x=>F x∨x=a.heap.size) d (jN k1) i o j (some a.heap.size) m p:=
   n.names' b s rfl (n.log.kept B (by simp) b) n.flog ⟨_,rfl,t.kept B (by simp) b,Or.inr rfl,fun e=>by have:=D j f.flog;omega⟩ (by
    have J:=n.old;rw[K]at J;show OldAt _ _ _ _ _ k1.old;rw[K];exact J) rfl
  have M:=cA H;have N:=cA ((I.nos' g).trans b (fun x _ e=>e▸f.fnm));have u:=cA c;clear G g t f v s b n H I B c z;have E:=cA L;have R:=cA q;clear L q;refine cA ?_;go_wp2_with (first|rw[P.out]|(at_mapUpdate;refine jS rfl 209 _ _ _ rfl (.map (some i)) tV (oL a.heap.size) rfl rfl rfl (fun w=>w=C) ⟨C,u.out,rfl⟩ ?_;rintro _ rfl))
  (first|go_end0|((try simp only[Exit.inBlock,Exit.then]);refine bodyPost_ret (results_none rfl _ _ _) rfl ?_))
  exact⟨⟨_,⟨_,_,_,_,_,_,M.out⟩,N.out,fun x l=>l.elim Or.inl (fun e=>Or.inr (by have:=E.out;omega))⟩,rfl⟩
end
section
open Go.RowKit Go.Maps
theorem mZ(t:List Int):((strOfNums t).size:Int)=(t.length:Int):=by rw[fM]
section
variable (W:World) (F:Nat→Prop) (d:Nat) (k:Dk) (ev:Value)
theorem aBU(h:Disk W F d k)(hok:gZ k)(hold:k.old=none):
 Calls prog 197 #[.pointer (some ⟨d,0,none⟩),qY] W fun e W'=>EndsK (.tuple #[]) ev W F d (dD k kR) e W':=by
 obtain⟨m,s,c,g,i,t,h⟩:=h;cases hs:fS k with
 |none=>
  have u:dD k kR=(k,(.some (.some (jY k)))):=by unfold dD;rw[hs]
  rw[u];have K:=cA h;have o:Hid (Calls prog 185 #[.pointer (some ⟨d,0,none⟩)] W fun e W'=>e= .panicked (oM (jY k))∧W'=W):=lF W F d k m s c g i t h hs;clear h hs;go_enter func197,ntmps197;go_wp2_with (go_at_call 185;refine o.out.mono ?_;rintro r n ⟨rfl,rfl⟩);exact⟨rfl,EndsK.dies ⟨_,_,_,_,_,_,K.out⟩⟩
 |some k1=>
  have u:dD k kR=(kR k1,.none):=by unfold dD;rw[hs]
  rw[u];have C:=gO hs;have o:Hid (Calls prog 185 #[.pointer (some ⟨d,0,none⟩)] W fun e W'=>e= .returned (.tuple #[])∧DkAt W' F d k1 m s c g i t∧Chg F W W'∧W'.heap.size=W.heap.size):=lD W F d k k1 m s c g i t h hok hs;clear h hs;go_enter func197,ntmps197;go_wp2_with (go_at_call 185;refine o.out.mono ?_;rintro r n ⟨rfl,a,A,_⟩;refine cD ?_);have I:=C.2.2.2.2.trans hold;have v:=yO a.names;have P:=a.cell 1 _ rfl;have M:=cB a.log 0 _ rfl;have O:=cY a.log 1;have N:=cB a.log 1 _ rfl;have j:=mZ k1.log;have f:=dA n c 1 (.int .i64 ((strOfNums k1.log).size:Int));have l:FileAt (n.setCell ⟨c,1,none⟩ (.int .i64 ((strOfNums k1.log).size:Int))) c k1.log k1.log.length:=by
   have:=cO a.log 1 (.int .i64 ((strOfNums k1.log).size:Int));rw[j]at this⊢;exact this
  generalize y:n.setCell ⟨c,1,none⟩ (.int .i64 ((strOfNums k1.log).size:Int))=W2 at*;have L:=cA y;have w:DkAt W2 F d (kR k1) m s c g i t:=a.file a.log f rfl l (by
   show NewAt W2 F c g k1.new;have q:=a.new;cases hk:k1.new with
   |none=>rw[hk]at q;exact q
   |some p=>rw[hk]at q;obtain⟨b,J,E,D,z⟩:=q;exact⟨b,J,f.kept E z,D,z⟩) (by
   show OldAt W2 F c g i k1.old;have B:=a.old;rw[I]at B⊢;exact B) rfl
  have G:=cA w;have H:=cA (A.trans f (fun x _ e=>e▸a.flog));clear y f l a w A o C j;refine cA ?_;go_wp2_with (first|rw[L.out])
  (first|go_end0|((try simp only[Exit.inBlock,Exit.then]);refine bodyPost_ret (results_none rfl _ _ _) rfl ?_))
  exact⟨⟨_,⟨_,_,_,_,_,_,G.out⟩,H.out,fun x hx=>Or.inl hx⟩,rfl⟩
theorem aA2(t:List Int)(y:Int)(h:Disk W F d k)(hok:gZ k)(hnew:k.new=some (t,y))(hold:k.old=none):
 Calls prog 197 #[.pointer (some ⟨d,0,none⟩),tV] W fun e W'=>EndsK (.tuple #[]) ev W F d (dD k gV) e W':=by
 obtain⟨n,q,g,v,i,s,h⟩:=h;cases hs:fS k with
 |none=>
  have u:dD k gV=(k,(.some (.some (jY k)))):=by unfold dD;rw[hs]
  rw[u];have L:=cA h;have p:Hid (Calls prog 185 #[.pointer (some ⟨d,0,none⟩)] W fun e W'=>e= .panicked (oM (jY k))∧W'=W):=lF W F d k n q g v i s h hs;clear h hs;go_enter func197,ntmps197;go_wp2_with (go_at_call 185;refine p.out.mono ?_;rintro r o ⟨rfl,rfl⟩);exact⟨rfl,EndsK.dies ⟨_,_,_,_,_,_,L.out⟩⟩
 |some k1=>
  have u:dD k gV=(gV k1,.none):=by unfold dD;rw[hs]
  rw[u];have w:=gO hs;have p:Hid (Calls prog 185 #[.pointer (some ⟨d,0,none⟩)] W fun e W'=>e= .returned (.tuple #[])∧DkAt W' F d k1 n q g v i s∧Chg F W W'∧W'.heap.size=W.heap.size):=lD W F d k k1 n q g v i s h hok hs;clear h hs;go_enter func197,ntmps197;go_wp2_with (go_at_call 185;refine p.out.mono ?_;rintro r o ⟨rfl,c,C,_⟩;refine cD ?_);have K:=w.2.2.2.2.trans hold;have H:=w.2.2.2.1.trans hnew;have G:=c.new;rw[H]at G;obtain⟨b,rfl,f,D,j⟩:=G;have z:=sM c.names;have Q:=c.cell 1 _ rfl;have N:=cB f 0 _ rfl;have P:=cY f 1;have O:=cB f 1 _ rfl;have l:=mZ t;have a:=dA o b 1 (.int .i64 ((strOfNums t).size:Int));have m:FileAt (o.setCell ⟨b,1,none⟩ (.int .i64 ((strOfNums t).size:Int))) b t t.length:=by
   have:=cO f 1 (.int .i64 ((strOfNums t).size:Int));rw[l]at this⊢;exact this
  generalize B:o.setCell ⟨b,1,none⟩ (.int .i64 ((strOfNums t).size:Int))=W2 at*;have M:=cA B;have A:DkAt W2 F d (gV k1) n q g (some b) i s:=c.file f a rfl (a.kept c.log (Ne.symm j)) (by
   show NewAt W2 F g (some b) (gV k1).new;unfold gV;rw[H];exact⟨b,rfl,m,D,j⟩) (by
   show OldAt W2 F g (some b) i k1.old;have E:=c.old;rw[K]at E⊢;exact E) rfl
  have I:=cA A;have J:=cA (C.trans a (fun x _ e=>e▸D));clear B a m c A C p w l f;refine cA ?_;go_wp2_with (first|rw[M.out])
  (first|go_end0|((try simp only[Exit.inBlock,Exit.then]);refine bodyPost_ret (results_none rfl _ _ _) rfl ?_))
  exact⟨⟨_,⟨_,_,_,_,_,_,I.out⟩,J.out,fun x hx=>Or.inl hx⟩,rfl⟩
theorem aCI(t:List Int)(y:Int)(h:Disk W F d k)(hok:gZ k)(hnew:k.new=some (t,y))(hold:k.old=none):
 Calls prog 200 #[.pointer (some ⟨d,0,none⟩),tV,qY] W fun e W'=>EndsK (.tuple #[]) ev W F d (dD k gD) e W':=by
 obtain⟨a,v,s,G,g,z,h⟩:=h;cases hs:fS k with
 |none=>
  have A:dD k gD=(k,(.some (.some (jY k)))):=by unfold dD;rw[hs]
  rw[A];have I:=cA h;have u:Hid (Calls prog 185 #[.pointer (some ⟨d,0,none⟩)] W fun e W'=>e= .panicked (oM (jY k))∧W'=W):=lF W F d k a v s G g z h hs;clear h hs;go_enter func200,ntmps200;go_wp2_with (go_at_call 185;refine u.out.mono ?_;rintro r C ⟨rfl,rfl⟩);exact⟨rfl,EndsK.dies ⟨_,_,_,_,_,_,I.out⟩⟩
 |some k1=>
  have A:dD k gD=(gD k1,.none):=by unfold dD;rw[hs]
  rw[A];have H:=gO hs;have u:Hid (Calls prog 185 #[.pointer (some ⟨d,0,none⟩)] W fun e W'=>e= .returned (.tuple #[])∧DkAt W' F d k1 a v s G g z∧Chg F W W'∧W'.heap.size=W.heap.size):=lD W F d k k1 a v s G g z h hok hs;clear h hs;go_enter func200,ntmps200;go_wp2_with (go_at_call 185;refine u.out.mono ?_;rintro r C ⟨rfl,c,Q,_⟩;refine cD ?_);have e3:=H.2.2.2.2.trans hold;have l:=H.2.2.2.1.trans hnew;have S:=c.new;rw[l]at S;obtain⟨b,rfl,P,U,K⟩:=S;have R:=c.old;rw[e3]at R;obtain rfl:g=s:=R;have N:=sM c.names;have c1:=c.cell 1 _ rfl;obtain⟨_,_,D⟩:=dK c.names;have I:=cA (fun ty=>aGh c.names ty);have o:=cA c;have Y:Hid (∀j i,lT j a g none→Chg (fun x=>x=a) C j→lT i a b none→Chg (fun x=>x=a) j i→DkAt i F d (gD k1) a v b none g z∧Chg F W i):=fun j i m n p q=>by
   obtain⟨_,_,o2⟩:=dK m;have f:=n.trans q (fun _ _ h=>h);refine⟨c.names' f p ?_ ?_ U ?_ ?_ ?_,Q.trans f (fun x _ e=>e▸c.fnm)⟩
   ·unfold gD;rw[l]
   ·unfold gD;rw[l];exact P.kept D (by simp) f
   ·unfold gD;rw[l];rfl
   ·unfold gD;rw[l];exact⟨c.log.kept D (by simp) f,c.flog,Ne.symm K,by simp⟩
   ·unfold gD;rw[l]
  clear c Q u P H;refine cA ?_;go_wp2_with (first|(at_delete;refine oQ rfl 209 9 _ _ rfl (.map (some a)) tV rfl rfl (fun w=>lT w a g none∧Chg (fun x=>x=a) C w) (by obtain⟨w,E,B,J,_⟩:=I.out _;exact⟨w,E,B,J⟩) ?_;rintro j ⟨m,n⟩;refine cD ?_));have d1:=cB (n.kept o.out.blk (fun e=>dR o.out.blk D (by simp) e)) 1 _ rfl;have Z:=cA (aGC m b);have L:=cA m;have M:=cA n;clear m n;refine cA ?_;go_wp2_with (first|(at_mapUpdate;refine jS rfl 209 _ _ _ rfl (.map (some a)) qY (oL b) rfl rfl rfl (fun w=>lT w a b none∧Chg (fun x=>x=a) j w) (by obtain⟨w,E,B,J,_⟩:=Z.out;exact⟨w,E,B,J⟩) ?_;rintro i ⟨p,q⟩;refine cD ?_));obtain⟨T,O⟩:=Y.out j i L.out M.out p q;have V:=cA T;have X:=cA O;clear T O p q;refine cA ?_;go_wp2_with fail
  (first|go_end0|((try simp only[Exit.inBlock,Exit.then]);refine bodyPost_ret (results_none rfl _ _ _) rfl ?_))
  exact⟨⟨_,⟨_,_,_,_,_,_,V.out⟩,X.out,fun x hx=>Or.inl hx⟩,rfl⟩
end
end
section
open Go.RowKit Go.Maps
theorem uB(W:World)(m:Nat)(es:Array MapEntry)(clk:Nat)(h:W.heap[m]?=some (.map es clk)):
 Calls prog 186 #[.map (some m)] W fun e W'=>e= .returned (.map (some W.heap.size))∧W'=W.alloc (.map es clk):=by
 have b:= @run_callFunc_extern prog 216 _ Extern.MapsClone.clone func216 (by kernel_rfl) (by kernel_rfl) (by kernel_rfl) (by kernel_rfl);have a:=run_maps_clone_sl (P:=prog) W 209 h;have d:=fun w=>run_eql_map_nil_sl (P:=prog) w 209 _ _ (some m) underlying209;have c:=fun w v=>run_typeAssert_map_sl (P:=prog) w 209 20 _ _ v underlying209;go_enter func186,ntmps186;go_wp2;go_ret;exact⟨rfl,rfl⟩
theorem zF(W:World)(F:Nat→Prop)(d:Nat)(k:Dk)(ev:Value)(h:Disk W F d k)(hok:gZ k)(hnew:k.new=none):
 Calls prog 163 #[.pointer (some ⟨d,0,none⟩)] W fun e W'=>EndsK (.tuple #[]) ev W F d (dD k nH) e W':=by
 obtain⟨g,w,i,u,s,o,h⟩:=h;cases hs:fS k with
 |none=>
  have y:dD k nH=(k,(.some (.some (jY k)))):=by unfold dD;rw[hs]
  rw[y];have P:=cA h;have v:Hid (Calls prog 185 #[.pointer (some ⟨d,0,none⟩)] W fun e W'=>e= .panicked (oM (jY k))∧W'=W):=lF W F d k g w i u s o h hs;clear h hs;go_enter func163,ntmps163;go_wp2_with (go_at_call 185;refine v.out.mono ?_;rintro r a ⟨rfl,rfl⟩);exact⟨rfl,EndsK.dies ⟨_,_,_,_,_,_,P.out⟩⟩
 |some k1=>
  have y:dD k nH=(nH k1,.none):=by unfold dD;rw[hs]
  rw[y];have H:=gO hs;have v:Hid (Calls prog 185 #[.pointer (some ⟨d,0,none⟩)] W fun e W'=>e= .returned (.tuple #[])∧DkAt W' F d k1 g w i u s o∧Chg F W W'∧W'.heap.size=W.heap.size):=lD W F d k k1 g w i u s o h hok hs;clear h hs;go_enter func163,ntmps163;go_wp2_with (go_at_call 185;refine v.out.mono ?_;rintro r a ⟨rfl,c,E,J⟩;refine cD ?_);have O:=H.2.2.2.1.trans hnew;obtain rfl:u=none:=by have:=c.new;rw[O]at this;exact this
  obtain⟨m,b,z⟩:=dK c.names;have C:=cA (uB a g m b z);have T:=c.cell 1 _ rfl;have l:Chg NoS a (a.alloc (.map m b)):=(Chg.refl _ _).alloc _;have p:(a.alloc (.map m b)).heap[a.heap.size]?=some (.map m b):=aA a _;have R:(a.alloc (.map m b)).heap.size=a.heap.size+1:=by simp
  have t:=c.apart l (fun _ _ h=>h);generalize K:a.alloc (.map m b)=W2 at*;have I:lT W2 a.heap.size i none:=oR c.names (p.trans z.symm);have A:=c.lt;have f:DkAt W2 (fun x=>F x∨x=a.heap.size) d k1 g w i none s o:=t.grow (fun _ h=>Or.inl h) (fun x n=>by rcases n with n|n;exact t.lt x n;omega);have S:=f.froz 2;have U:=f.cell 2 _ rfl;have j:=dA W2 d 2 (.map (some a.heap.size));have q:=cO f.blk 2 (.map (some a.heap.size));generalize G:W2.setCell ⟨d,2,none⟩ (.map (some a.heap.size))=W3 at*;have N:=cA G;have D:DkAt W3 (fun x=>F x∨x=a.heap.size) d (nH k1) g a.heap.size i none i o:=
   f.self j q f.names I f.fnm (Or.inr rfl) (fun e=>by have:=A g c.fnm;omega) rfl rfl rfl rfl f.fail
  have L:=cA D;have M:=cA ((E.nos' l).trans j (fun x _ e=>e▸t.fd));have B:=cA J;clear G j q f D t p l I E J c v H K z;refine cA ?_;go_wp2_with (first|rw[N.out]|(go_at_call 186;refine C.out.mono ?_;rintro r Q ⟨rfl,rfl⟩))
  (first|go_end0|((try simp only[Exit.inBlock,Exit.then]);refine bodyPost_ret (results_none rfl _ _ _) rfl ?_))
  exact⟨⟨_,⟨_,_,_,_,_,_,L.out⟩,M.out,fun x n=>n.elim Or.inl (fun e=>Or.inr (by have:=B.out;omega))⟩,rfl⟩
theorem wI(t:List Int)(n:Nat):(strOfNums t).extract 0 n=strOfNums (t.take n):=by
 apply ByteArray.ext;simp[strOfNums,List.map_take]
end
section
open Go.RowKit Go.Maps
theorem zE(W:World)(d nm:Nat)(room:Int)(es:Array MapEntry)(clk:Nat)(h:W.heap[d]?=some (.cells #[.int .i64 room,.map (some nm),.map none,.pointer none] 212 (0,0)))(o1:W.heap[nm]?=some (.map es clk)):
 Calls prog 163 #[.pointer (some ⟨d,0,none⟩)] W fun e W'=>e= .returned (.tuple #[])∧W'.heap[d]?=some (.cells #[.int .i64 room,.map (some nm),.map (some W.heap.size),.pointer none] 212 (0,0))∧W'.heap[W.heap.size]?=some (.map es clk)∧Chg (fun x=>x=d) W W'∧W'.heap.size=W.heap.size+1:=by
 have l:Hid (Calls prog 185 #[.pointer (some ⟨d,0,none⟩)] W fun e W'=>e= .returned (.tuple #[])∧W'=W):=by
  have z:=cB h 3 _ rfl;clear h;show Calls _ _ _ _ _;go_enter func185,ntmps185;go_wp2
  (first|go_end0|((try simp only[Exit.inBlock,Exit.then]);refine bodyPost_ret (results_none rfl _ _ _) rfl ?_))
  exact⟨rfl,rfl⟩
 have k:=cA (uB W nm es clk o1);have v:=cB h 1 _ rfl;have t:=cX h;have b:Chg NoS W (W.alloc (.map es clk)):=(Chg.refl _ _).alloc _;have i:(W.alloc (.map es clk)).heap[W.heap.size]?=some (.map es clk):=aA W _;have g:(W.alloc (.map es clk)).heap.size=W.heap.size+1:=by simp
 have a:=b.kept h (fun h=>h);generalize o:W.alloc (.map es clk)=W2 at*;have u:=cY a 2;have y:=cB a 2 _ rfl;have c:=dA W2 d 2 (.map (some W.heap.size));have j:=cO a 2 (.map (some W.heap.size));have f:(W2.setCell ⟨d,2,none⟩ (.map (some W.heap.size))).heap.size=W.heap.size+1:=by simpa using g
 generalize n:W2.setCell ⟨d,2,none⟩ (.map (some W.heap.size))=W3 at*;have q:=cA n;have m:=c.kept i (by omega);have p:=cA (aH5 j m ((b.mono (fun _ _ h=>h.elim):Chg (fun x=>x=d) W W2).trans c (fun x _ e=>e)) f);clear n c j i b o o1 m f g a h;go_enter func163,ntmps163;go_wp2_with (first|rw[q.out]|(go_at_call 185;refine l.out.mono ?_;rintro r w ⟨rfl,rfl⟩)|(go_at_call 186;refine k.out.mono ?_;rintro r s ⟨rfl,rfl⟩))
 (first|go_end0|((try simp only[Exit.inBlock,Exit.then]);refine bodyPost_ret (results_none rfl _ _ _) rfl ?_))
 exact⟨rfl,p.out⟩
theorem aCm{P:Program}{ops:Array Oper}{rest:List Oper}{o:Oper}{a:Act}{W:World}{Q:Exit→Act→World→Prop}(hg:o.guard=none)(t:TypeId)(m x y:Operand)(hop:o.op= .insert t m x y)(mv kv vv:Value)(hm:a.eval m=mv)(hx:a.eval x=kv)(hy:a.eval y=vv)(R:World→Prop)
 (hr:∃W',(Instr.mapUpdate t mv kv vv).run P W= .ok () W'∧R W') (h:∀W',R W'→wpList P ops Q rest (a.put o.dst undef) W'):wpList P ops Q (o::rest) a W:=by
 obtain⟨W',b,c⟩:=hr;refine sG hg W' ?_ (h W' c);simp[execOp,hop,hm,hx,hy,b,Result.andThen]
theorem aBP(W:World)(room:Int):
 Calls prog 122 #[.int .i64 room,qY] W fun e W'=>∃d F',e= .returned (.pointer (some ⟨d,0,none⟩))∧Disk W' F' d (aFA room)∧Chg NoS W W'∧∀x,F' x→W.heap.size≤x:=by
 have a0:= @aAo prog;have R:(W.alloc (.map #[] 0)).ownsMap (H:=Unit) prog 9 oE W.heap.size 0 (.map []):=World.ownsMap_made _ _ _ _;have B:Chg NoS W (W.alloc (.map #[] 0)):=(Chg.refl _ _).alloc _;have c:(W.alloc (.map #[] 0)).heap.size=W.heap.size+1:=by simp
 generalize l:W.alloc (.map #[] 0)=W1 at*;have K:=cA l;have u:Chg NoS W1 (W1.alloc (.cells #[.string ⟨#[]⟩,.int .i64 0] 214)):=(Chg.refl _ _).alloc _;have y:FileAt (W1.alloc (.cells #[.string ⟨#[]⟩,.int .i64 0] 214)) (W.heap.size+1) [] 0:=by rw[←c];exact aA W1 _
 have v:(W1.alloc (.cells #[.string ⟨#[]⟩,.int .i64 0] 214)).heap.size=W.heap.size+2:=by simp[c]
 have L:=R.alloc (.cells #[.string ⟨#[]⟩,.int .i64 0] 214);generalize m:W1.alloc (.cells #[.string ⟨#[]⟩,.int .i64 0] 214)=W2 at*;have n:=cA m;obtain⟨a,g,M,D⟩:=L.store vR underlying209 (by decide) aB9 (yX (W.heap.size+1));have E:lT a W.heap.size (W.heap.size+1) none:=M.mono (by decide);have i:=mX D;have k:=(lR D).trans v;have A:FileAt a (W.heap.size+1) [] 0:=i.kept y (by omega);have f:Chg NoS a (a.alloc (.cells #[.int .i64 room,.map (some W.heap.size),.map none,.pointer none] 212)):=(Chg.refl _ _).alloc _;have z:(a.alloc (.cells #[.int .i64 room,.map (some W.heap.size),.map none,.pointer none] 212)).heap[W.heap.size+2]?=some (.cells #[.int .i64 room,.map (some W.heap.size),.map none,.pointer none] 212 (0,0)):=by rw[←k];exact aA a _
 have p:(a.alloc (.cells #[.int .i64 room,.map (some W.heap.size),.map none,.pointer none] 212)).heap.size=W.heap.size+3:=by simp[k]
 generalize s:a.alloc (.cells #[.int .i64 room,.map (some W.heap.size),.map none,.pointer none] 212)=W4 at*;have J:=cA s;have j:lT W4 W.heap.size (W.heap.size+1) none:=dF E (f.block _ E.lt (fun h=>h));have t:FileAt W4 (W.heap.size+1) [] 0:=f.kept A (fun h=>h);obtain⟨Q,o,F⟩:=dK j;have I:=cA (zE W4 (W.heap.size+2) W.heap.size room Q o z F);have S:Hid (Chg (fun x=>x=W.heap.size) W W4):=by
  have V:Chg (fun x=>x=W.heap.size) W W2:=(B.nos.nos' u);exact(V.trans i (fun _ _ h=>h)).nos' f
 have Y:Hid (∀b,b.heap[W.heap.size+2]?=some (.cells #[.int .i64 room,.map (some W.heap.size),.map (some W4.heap.size),.pointer none] 212 (0,0))→b.heap[W4.heap.size]?=some (.map Q o)→Chg (fun x=>x=W.heap.size+2) W4 b→b.heap.size=W4.heap.size+1→
  Disk b (fun x=>W.heap.size≤x∧x<W.heap.size+4) (W.heap.size+2) (aFA room)∧Chg NoS W b):=fun b h1 h2 h3 h4=>by
  refine⟨⟨W.heap.size,W4.heap.size,W.heap.size+1,none,W.heap.size+1,.pointer none,⟨h1,by omega,dF j (h3.block _ j.lt (by omega)),oR j (h2.trans F.symm),by omega,by omega,by omega,h3.kept t (by omega),by omega,rfl,rfl,rfl,fun x hx=>by omega⟩⟩,?_⟩;have q:=(S.out.mono (fun _ _ h=>Or.inl h):Chg (fun x=>x=W.heap.size∨x=W.heap.size+2) W W4).trans h3 (fun x _ h=>Or.inr h);exact q.mono (fun x hx h=>by omega)
 have C:=cA g;have Z:=cA p;have G:=cA c;clear l m s g R L M D E j B u i f y A z c v p t F S;go_enter func122,ntmps122;go_wp2_with (first|rw[K.out]|(rw[G.out,n.out])|rw[n.out]|rw[J.out]|(refine aCm rfl 209 _ _ _ rfl (.map (some W.heap.size)) qY (oL (W.heap.size+1)) rfl rfl rfl (fun w=>w=a) ⟨a,C.out,rfl⟩ ?_;rintro _ rfl)|(go_at_call 163;refine I.out.mono ?_;rintro r b ⟨rfl,P,N,T,O⟩;refine cD ?_));obtain⟨U,X⟩:=Y.out b P N T O;clear P N T O;refine cA ?_;go_wp2_with fail;go_ret;exact⟨_,_,rfl,U,X,fun x hx=>hx.1⟩
end
section
open Go.RowKit Go.Maps
theorem aBn{fl:Nat}{fn:Option Nat}{kl:Lit}{y:DataW Unit}(h:∀zd,(fP fl fn).atKey kl zd=y):(kl= .string oV∧y= .lit (.int .i64 fl))∨∃b,fn=some b∧kl= .string tL∧y= .lit (.int .i64 b):=by
 have a:=h (.lit (.int .i64 0));have c:=h (.lit (.int .i64 1));cases fn with
 |none=>
  simp only[fP,DataW.atKey,List.find?_cons,List.find?_nil]at a c;cases hk:(Lit.string oV).sameKey kl with
  |true=>rw[hk]at a;exact Or.inl ⟨(WideAt.sameKey_eq hk).symm,a.symm⟩
  |false=>rw[hk]at a c;dsimp only at a c;rw[←c]at a;cases a
 |some b=>
  simp only[fP,DataW.atKey,List.find?_cons,List.find?_nil]at a c;cases hk:(Lit.string oV).sameKey kl with
  |true=>rw[hk]at a;exact Or.inl ⟨(WideAt.sameKey_eq hk).symm,a.symm⟩
  |false=>
   cases hk':(Lit.string tL).sameKey kl with
   |true=>rw[hk,hk']at a;exact Or.inr ⟨b,rfl,(WideAt.sameKey_eq hk').symm,a.symm⟩
   |false=>rw[hk,hk']at a c;dsimp only at a c;rw[←c]at a;cases a
theorem aCP(W:World)(F:Nat→Prop)(d:Nat)(k:Dk)(q:Int)(h:Disk W F d k)(hy0:0≤(eP k).2)(hy1:(eP k).2≤((eP k).1.length:Int))(hl:((eP k).1.length:Int)≤1000000000000)(hq:0≤q):
 Calls prog 166 #[.pointer (some ⟨d,0,none⟩),.int .i64 q] W fun e W'=>e= .returned (.tuple #[])∧DkTo W F d (gI k q) W':=by
 obtain⟨nm,km,fl,fn,a,fv,h⟩:=h;have f:FileAt W a (eP k).1 (eP k).2∧F a:=by
  have ho:=h.old;unfold eP;cases hk:k.old with
  |none=>rw[hk]at ho;obtain rfl:a=fl:=ho;exact⟨h.log,h.flog⟩
  |some p=>rw[hk]at ho;exact⟨ho.1,ho.2.1⟩
 have eC:gI k q=⟨k.room,tU (eP k).1 (eP k).2 q,(tU (eP k).1 (eP k).2 q).length,none,none,none⟩:=rfl;rw[eC];clear eC;generalize hp:eP k=p at*;obtain⟨t,y⟩:=p;dsimp only at f hy0 hy1 hl⊢;obtain⟨J,hJ⟩:=aIe (y+min q ((t.length:Int)-y));have eC:tU t y q=t.take J.toNat:=by unfold tU;rw[hJ]
 rw[eC];have g4:0≤J:=by omega
 have f9:J≤(t.length:Int):=by omega
 have e7:=mZ t;have g5:J≤((strOfNums t).size:Int):=by rw[e7];exact f9
 have z3:=h.froz 3;have c3:=h.cell 3 _ rfl;have N:=dA W d 3 (.pointer none);have c8:=cO h.blk 3 (.pointer none);have K:(W.setCell ⟨d,3,none⟩ (.pointer none)).heap.size=W.heap.size:=by simp
 generalize a4:W.setCell ⟨d,3,none⟩ (.pointer none)=W1 at*;have b3:=cA a4;have h1:DkAt W1 F d {k with fail:=none} nm km fl fn a (.pointer none):=h.self' N c8 h.names h.kept h.fnm h.fkm h.nk rfl rfl rfl h.old rfl;have f1:FileAt W1 a t y:=N.kept f.1 (fun e=>fQ f.1 h.blk (by decide) e);have d2:=h1.cell 2 _ rfl;obtain⟨O,l,o1⟩:=dK h1.kept;have c5:=cA (uB W1 km O l o1);have I:Chg NoS W1 (W1.alloc (.map O l)):=(Chg.refl _ _).alloc _;have Z:(W1.alloc (.map O l)).heap[W1.heap.size]?=some (.map O l):=aA W1 _;have a6:(W1.alloc (.map O l)).heap.size=W.heap.size+1:=by simp[K]
 have E:=h1.apart I (fun _ _ h=>h);have f2:FileAt (W1.alloc (.map O l)) a t y:=I.kept f1 (fun h=>h);have n2:lT (W1.alloc (.map O l)) W1.heap.size a none:=oR h1.kept (Z.trans o1.symm);generalize e6:W1.alloc (.map O l)=W2 at*;rw[K]at n2 Z;have z1:=E.froz 1;have d1:=E.cell 1 _ rfl;have u:=dA W2 d 1 (.map (some W.heap.size));have a1:=cO E.blk 1 (.map (some W.heap.size));have a3:(W2.setCell ⟨d,1,none⟩ (.map (some W.heap.size))).heap.size=W.heap.size+1:=by simpa using a6
 generalize c7:W2.setCell ⟨d,1,none⟩ (.map (some W.heap.size))=W3 at*;have b4:=cA c7;have f3:FileAt W3 a t y:=u.kept f2 (fun e=>fQ f2 E.blk (by decide) e);have n3:lT W3 W.heap.size a none:=dF n2 (u.block _ (by omega) (fun e=>by have:=h.lt d h.fd;omega));have k3:lT W3 km a none:=dF E.kept (u.block _ E.kept.lt (fun e=>by obtain⟨_,_,o⟩:=dK E.kept;exact dR o E.blk (by simp) e));have e8:=cA (((N.mono (fun x _ e=>e▸h.fd):Chg F W W1).nos' I).trans u (fun x _ e=>e▸h.fd));have b5:Hid (W3.heap[d]?=some (.cells (dkL ⟨k.room,t.take J.toNat,(t.take J.toNat).length,none,none,none⟩ W.heap.size km (.pointer none)).toArray 212 (0,0))):=a1;have C:=cA f3;have H:=cA n3;have L:=cA k3;have m:=cA (aH5 h.fd h.fkm f.2 h.lt);have e4:=cA (h.lt _ h.fkm);have e0:=cA K;have e9:=cA a3;have e1:=cB a1 1 _ rfl;clear a4 e6 c7 N I u c8 Z a1 h1 E f1 f2 f3 n2 n3 k3 h f a6 a3 K o1 hp eC;go_enter func166,ntmps166;go_wp2_with (first|rw[b3.out]|rw[b4.out]|(go_at_call 186;refine c5.out.mono ?_;rintro r g3 ⟨rfl,rfl⟩;try rw[e0.out])|(at_range;refine wpList_range_own _ rfl _ 209 rfl 9 207 vR underlying209 oE W.heap.size 2 (fP a none) rfl H.out ?_;intro W4 U a7 b0;refine cD ?_));have B:=cA a7;have d8:=cA U;have c9:=cA b0;clear a7 U b0 b3 b4 c5 z1 d1 d2 z3 c3 e1;refine cA ?_;go_wp2_with fail;refine wp_loop_rounds 2 ?_;rw[rounds_succ]
 go_wp2_with (at_next;refine wpList_next_ranges _ rfl _ rfl 9 vR oE (fun v:Value=>v) (fun v:Value=>v) (fun key kl h=>⟨key,rfl⟩) (fun v y h=>⟨v,rfl⟩) W.heap.size W3.heap.size 2 (fP a none) _ _ rfl d8.out ?_ ?_)
 ·intro a2;exact absurd (show(1:Nat)=0 from a2) (by decide)
 ·intro x c kl y1 y2 W5 d9 d5 e3 hR c4 T d7 s a9 g0;have a2:d9=0:=by have e:Maps.size (fP a none)=1:=rfl;omega
  subst a2;have f0:c=oL a:=by
   rcases aBn c4 with⟨_,e⟩|⟨b,e,_⟩
   ·subst e;exact mN hR
   ·cases e
  subst f0;have Q:=cA T;have D:Chg NoS W3 W5:=by
   have q4:Chg NoS W3 W4:=⟨B.out.os,B.out.tape,B.out.output,B.out.size,fun x n _=>B.out.block x n (by simp)⟩;have q5:Chg (fun x=>x=W3.heap.size) W4 W5:=⟨s.os,s.tape,s.output,s.size,fun x n hn=>s.block x n (fun e=>hn (aN e))⟩;exact(q4.mono (fun _ _ h=>h.elim):Chg NoS W3 W4).trans (S:=NoS) q5 (fun x n e=>by omega)
  have R:W5.heap.size=W3.heap.size+1:=by rw[a9,c9.out]
  have G:FileAt W5 a t y:=D.kept C.out (fun h=>h);have c0:=cB G 0 _ rfl;have c1:=cB G 1 _ rfl;have b9:=cA G;have b8:=cA D;have b1:=cA R;clear d5 e3 hR c4 T d7 s a9 G D R;have w1:IntKind.i64.wrap ((t.length:Int)-y)=(t.length:Int)-y:=eI (by omega) (by omega);have e5:wrap64 ((t.length:Int)-y)=(t.length:Int)-y:=by unfold wrap64;omega
  go_wp2_with fail;refine rlx [0,0,0,0,1,0,0,0,1,0,0,0,0,1,1,0,0,0,1,0,0,0,0,0,0] (fun x=>x.cell? ⟨a,0,none⟩=some (.string (strOfNums t))∧x.cell? ⟨a,1,none⟩=some (.int .i64 y)) (by kernel_rfl) (fun _ _ _ _=>rfl) ?_ ?_
  ·exact⟨c0,c1⟩
  have w2:IntKind.i64.wrap (y+min q ((t.length:Int)-y))=J:=by rw[←hJ];exact eI (by omega) (by omega)
  have f6:wrap64 (y+min q ((t.length:Int)-y))=J:=by rw[←hJ];unfold wrap64;omega
  clear hJ;simp only[cM,cL];iterate 25 (apply sB rfl rfl;·(intro x h;(try have h:=h rfl);(try dsimp only at h);go_simp;with_reducible rfl))
  refine cC ?_;try simp only[pA]
  rw[wI];obtain⟨j,V⟩:=aIe (t.take J.toNat);rw[←V];have HT:=cA V;clear V w1 e5 w2 f6 c0 c1 g0;generalize A:W5.drew=Wd;have M:FileAt Wd a t y:=by rw[←A];exact b9.out
  have b2:Chg NoS W3 Wd:=by rw[←A];exact b8.out.drew
  have c2:Wd.ranges prog 9 oE W.heap.size W3.heap.size 2 (fP a none) (fun z=>has (fP a none) z&& !z.sameKey kl) 0:=by rw[←A];exact Q.out
  have g1:Wd.heap.size=W3.heap.size+1:=by rw[←A];exact b1.out
  clear A b9 b8 Q b1;have c0:=cB M 0 _ rfl;have z0:=cY M 0;have a0:=dA Wd a 0 (.string (strOfNums j));have b6:=cO M 0 (.string (strOfNums j));have e2:(Wd.setCell ⟨a,0,none⟩ (.string (strOfNums j))).heap.size=Wd.heap.size:=by simp
  generalize a8:Wd.setCell ⟨a,0,none⟩ (.string (strOfNums j))=W6 at*;have f4:=cA a8;have w:FileAt W6 a j y:=b6;have d0:=cB w 0 _ rfl;have d1:=cB w 1 _ rfl;have z1:=cY w 1;have g2:=mZ j;have X:=dA W6 a 1 (.int .i64 (j.length:Int));have c6:=cO w 1 (.int .i64 (j.length:Int));have f8:(W6.setCell ⟨a,1,none⟩ (.int .i64 (j.length:Int))).heap.size=W6.heap.size:=by simp
  generalize b7:W6.setCell ⟨a,1,none⟩ (.int .i64 (j.length:Int))=W7 at*;have f5:=cA b7;have a5:FileAt W7 a j j.length:=c6;have i:=((b2.nos:Chg (fun x=>x=a) W3 Wd).trans a0 (fun _ _ h=>h)).trans X (fun _ _ h=>h);have g:=a0.trans X (fun _ _ h=>h);have d4:=cX C.out;have f7:=m.out.2.2.2 a m.out.2.2.1;have P:=c2.kept (row:=some a) ⟨g.os,g.tape,g.output,g.size,fun x n hn=>g.block x n (fun e=>hn (by rw[e]))⟩ (by simp;omega) (by simp;omega);have d3:=cA P;have d6:Hid (DkTo W F d ⟨k.room,j,j.length,none,none,none⟩ W7):=by
   have h7:DkAt W7 (fun x=>F x∨x=W.heap.size) d ⟨k.room,j,j.length,none,none,none⟩ W.heap.size km a none a (.pointer none):=by
    have Y:=b5.out;rw[←HT.out]at Y;exact⟨i.kept Y (fun e=>fQ Y C.out (by decide) e),Or.inl m.out.1,dF H.out (i.block _ H.out.lt (by omega)),dF L.out (i.block _ L.out.lt (fun e=>by obtain⟨_,_,o⟩:=dK L.out;exact dR o C.out (by simp) e)),Or.inr rfl,Or.inl m.out.2.1,(by have:=e4.out;omega),a5,Or.inl m.out.2.2.1,rfl,rfl,rfl,fun x n=>by
     have:=i.size;have:=e9.out;rcases n with n|n
     ·have:=m.out.2.2.2 x n;omega
     ·omega⟩
   exact⟨_,⟨_,_,_,_,_,_,h7⟩,e8.out.trans i (fun x _ e=>e▸m.out.2.2.1),fun x n=>n.elim Or.inl (fun e=>Or.inr (by omega))⟩
  clear a8 b7 a0 X b6 c6 w a5 i g P c2 b2 g1 e2 f8 M C b5 H L d4 f7;go_wp2_with (first|rw[f4.out]|rw[f5.out]);rw[rounds_succ];go_wp2_with (at_next;refine wpList_next_ranges _ rfl _ rfl 9 vR oE (fun v:Value=>v) (fun v:Value=>v) (fun key kl h=>⟨key,rfl⟩) (fun v y h=>⟨v,rfl⟩) W.heap.size W3.heap.size 2 (fP a none) _ _ rfl d3.out ?_ ?_);try intros
  go_wp2_with fail
  (first|go_end0|((try simp only[Exit.inBlock,Exit.then]);refine bodyPost_ret (results_none rfl _ _ _) rfl ?_))
  rw[←HT.out];exact⟨rfl,d6.out⟩
end
section
open Go.RowKit Go.Maps
def zH(k:Dk)(left:Lit→Bool):Int:=(if left (.string oV)=true then(k.log.length:Int)else 0)+(if left (.string tL)=true then gU k else 0)
section
variable (W:World) (F:Nat→Prop) (d:Nat) (k:Dk)
theorem tM(ev:Value)(n:Int)(h:Disk W F d k)(hev:W.cell? ⟨0,0,none⟩=some ev)(hn0:0≤n)(hn1:n≤1000000000000)(hl:(k.log.length:Int)≤1000000000000)(hl2:gU k≤1000000000000):
 Calls prog 221 #[.pointer (some ⟨d,0,none⟩),.int .i64 n] W fun e W'=>e= .returned (if k.room<iF k+n then ev else .nilIface)∧Chg NoS W W':=by
 obtain⟨nm,km,r,M,fk,fv,h⟩:=h;have c1:=h.cell 1 _ rfl;have HD:=cA h;have b1:=cA hev;have P:=Nat.lt_of_le_of_lt (aI d) (h.lt d h.fd);clear h hev;have a6:=cA P;clear P;have c2:0≤gU k:=by unfold gU;split<;>omega
 obtain⟨R,L,K⟩:∃R,(k.room<iF k+n→R=ev)∧(¬k.room<iF k+n→R= .nilIface):=⟨if k.room<iF k+n then ev else .nilIface,fun h=>if_pos h,fun h=>if_neg h⟩;have a0:=cA (aH3 L K);have eR:(if k.room<iF k+n then ev else .nilIface)=R:=by
  by_cases hq:k.room<iF k+n
  ·rw[if_pos hq,L hq]
  ·rw[if_neg hq,K hq]
 rw[eR];clear eR L K;go_enter func221,ntmps221;go_wp2_with (at_range;refine wpList_range_own _ rfl _ 209 rfl 9 207 vR underlying209 oE nm 2 (fP r M) rfl HD.out.names ?_;intro W4 E O Q;refine cD ?_);have m:=cA O;have a5:=cA E;have b2:=cA Q;have A:zH k (has (fP r M))=iF k:=by
  have j:=HD.out.new;unfold zH iF gU;cases hk:k.new with
  |none=>
   rw[hk]at j;obtain rfl:M=none:=j;have H:has (fP r none) (.string oV)=true:=rfl;have I:has (fP r none) (.string tL)=false:=rfl;rw[H,I];simp
  |some p=>
   rw[hk]at j;obtain⟨b,rfl,_⟩:=j;have H:has (fP r (some b)) (.string oV)=true:=rfl;have I:has (fP r (some b)) (.string tL)=true:=rfl;rw[H,I];simp
 have a2:=cA A;clear O E Q c1 A;refine cA ?_;go_wp2_with fail;go_loopw [1] (fun i wr=>∃(a:Lit→Bool) (T:Nat) (x:Int),i= .int .i64 x∧wr.ranges prog 9 oE nm W.heap.size 2 (fP r M) a T∧x+zH k a=iF k+n∧0≤x∧Chg NoS W wr) (fun _ wr=>wr.rangeLeft nm W.heap.size)
 case atStart=>
  exact⟨_,_,n,rfl,a5.out,by rw[a2.out];omega,hn0,⟨m.out.os,m.out.tape,m.out.output,m.out.size,fun x G _=>m.out.block x G (by simp)⟩⟩
 case round=>
  obtain⟨a,T,x,rfl,Z,G,hx0,U⟩:=hrel;have V:=cA Z;have l:=cA U;have HX:=cA G;clear Z U G;go_wp2_with (at_next;refine wpList_next_ranges _ rfl _ rfl 9 vR oE (fun v:Value=>v) (fun v:Value=>v) (fun key kl h=>⟨key,rfl⟩) (fun v y h=>⟨v,rfl⟩) nm W.heap.size 2 (fP r M) _ _ rfl V.out ?_ ?_)
  ·intro b8 N;have S:x=iF k+n:=by
    have:=HX.out;unfold zH at this;rw[N,N]at this;simpa using this
   have f:=HD.out.apart l.out (fun _ _ h=>h);have d0:=f.cell 0 _ rfl;have b3:=(aW (l.out.block 0 a6.out (fun h=>h))).trans b1.out;have Y:=cA S;clear f S;by_cases s:k.room<x
   ·have hb:decide (k.room<x)=true:=by simpa using s
    have HE:=cA (a0.out.1 (by have:=Y.out;omega));clear s;go_wp2_with fail;go_ret;exact⟨by rw[HE.out];rfl,l.out⟩
   ·have hb:decide (k.room<x)=false:=by simpa using s
    have HE:=cA (a0.out.2 (by have:=Y.out;omega));clear s;go_wp2_with fail;go_ret;exact⟨by rw[HE.out];rfl,l.out⟩
  ·intro xk c kl y1 y2 W5 b4 a4 J hR X C B g a7 c0;have o:Chg NoS W W5:=by
    have q5:Chg (fun x=>x=W.heap.size) _ W5:=⟨g.os,g.tape,g.output,g.size,fun x G j=>g.block x G (fun e=>j (aN e))⟩;exact l.out.trans q5 (fun x G e=>by omega)
   have f:=HD.out.apart o (fun _ _ h=>h);obtain⟨b,t,y,hc,q,w,b6⟩:∃b t y,c=oL b∧FileAt W5 b t y∧zH k a=(t.length:Int)+zH k (fun z=>a z&& !z.sameKey kl)∧(t.length:Int)≤1000000000000:=by
    rcases aBn X with⟨rfl,e⟩|⟨b,hb,rfl,e⟩
    ·subst e;refine⟨r,k.log,k.lsyn,mN hR,f.log,?_,hl⟩;have H:(Lit.string oV).sameKey (.string oV)=true:=rfl;have I:(Lit.string tL).sameKey (.string oV)=false:=rfl;simp[zH,J,H,I]
    ·subst e;subst hb;have j:=f.new;cases hk:k.new with
     |none=>rw[hk]at j;cases j
     |some p=>
      rw[hk]at j;obtain⟨b',a8,hf,_⟩:=j;obtain rfl:=aN a8;have D:gU k=p.1.length:=by unfold gU;rw[hk]
      refine⟨b,p.1,p.2,mN hR,hf,?_,by rw[←D];exact hl2⟩;have H:(Lit.string tL).sameKey (.string tL)=true:=rfl;have I:(Lit.string oV).sameKey (.string tL)=false:=rfl;simp[zH,J,H,I,D];try omega
   subst hc;have f0:=cB q 0 _ rfl;have b7:=mZ t;have b0:0≤zH k (fun z=>a z&& !z.sameKey kl):=by
    unfold zH;split<;>split<;>omega
   have b9:iF k≤2000000000000:=by unfold iF;omega
   have w1:IntKind.i64.wrap (x+(t.length:Int))=x+(t.length:Int):=eI (by omega) (by have:=HX.out;omega);have b5:wrap64 (x+(t.length:Int))=x+(t.length:Int):=by have:=HX.out;unfold wrap64;omega
   have u:=cA C;have a9:=cA o;have a1:=cA w;have a3:=cA B;have hx1:0≤x+(t.length:Int):=by omega
   clear a4 J hR X C B g a7 f q w o b0;go_wp2_with fail;go_roundw
   case rel=>exact⟨_,_,_,rfl,u.out,by have:=HX.out;have:=a1.out;omega,hx1,a9.out⟩
   case measure=>rw[u.out.left_eq,V.out.left_eq];exact a3.out
theorem zB(te:TypeId)(ve:Value)(s:List Int)(h:Disk W F d k)(hok:gZ k)(hev:W.cell? ⟨0,0,none⟩=some (.iface te ve))(h0F:¬F 0)(hold:k.old=none)(hs1:(s.length:Int)≤1000000000000)(hl:(k.log.length:Int)≤1000000000000)(hl2:gU k≤1000000000000):
 Calls prog 196 #[.pointer (some ⟨d,0,none⟩),qY,.string (strOfNums s)] W fun e W'=>EndsK .nilIface (.iface te ve) W F d (dL k s jJ) e W':=by
 obtain⟨V,Z,j,v,H,fv,h⟩:=h;cases hs:fS k with
 |none=>
  have X:dL k s jJ=(k,(.some (.some (jY k)))):=by unfold dL;rw[hs]
  rw[X];have HD:=cA h;have G:Hid (Calls prog 185 #[.pointer (some ⟨d,0,none⟩)] W fun e W'=>e= .panicked (oM (jY k))∧W'=W):=lF W F d k V Z j v H fv h hs;clear h hs;go_enter func196,ntmps196;go_wp2_with (go_at_call 185;refine G.out.mono ?_;rintro r n ⟨rfl,rfl⟩);exact⟨rfl,EndsK.dies ⟨_,_,_,_,_,_,HD.out⟩⟩
 |some k1=>
  have K:=gO hs;have R:=cA (Nat.lt_of_le_of_lt (aI d) (h.lt d h.fd));have G:Hid (Calls prog 185 #[.pointer (some ⟨d,0,none⟩)] W fun e W'=>e= .returned (.tuple #[])∧DkAt W' F d k1 V Z j v H fv∧Chg F W W'∧W'.heap.size=W.heap.size):=lD W F d k k1 V Z j v H fv h hok hs;have S:(k1.log.length:Int)≤1000000000000:=by rw[K.2.1];exact hl
  have t:gU k1≤1000000000000:=by unfold gU at hl2⊢;rw[K.2.2.2.1];exact hl2
  have l:=K.2.2.2.2.trans hold;have T:=cA hev;have E:=cA (aH5 S t l K);have eF:∀q:Prop,[Decidable q]→(if q then(Value.iface te ve)else .nilIface)=if q then(Value.iface te ve)else .nilIface:=fun _ _=>rfl
  have X:dL k s jJ=if k1.room<iF k1+s.length then(k1,(.some .none))else(jJ k1 s,.none):=by unfold dL;rw[hs]
  rw[X];clear h hs hev hl hl2 hold S t l K eF X;by_cases g:k1.room<iF k1+s.length
  ·rw[if_pos g];have z:=cA g;clear g;go_enter func196,ntmps196;go_wp2_with (go_at_call 185;refine G.out.mono ?_;rintro r n ⟨rfl,i,u,L⟩;refine cD ?_);have Q:=cA L;have A:=cA u;have a:=(aW (u.block 0 R.out h0F)).trans T.out;have a0:=mZ s;have c:=tM n F d k1 (.iface te ve) s.length ⟨_,_,_,_,_,_,i⟩ a (by omega) hs1 E.out.1 E.out.2.1;have f:=yO i.names;have c1:=i.cell 1 _ rfl;have C:=cA i;clear u L a G i;rw[if_pos z.out]at c;have B:Hid (Calls prog 221 #[.pointer (some ⟨d,0,none⟩),.int .i64 s.length] n fun e W'=>e= .returned (.iface te ve)∧Chg NoS n W'):=c;clear c;refine cA ?_;go_wp2_with (first|(go_at_call 221;refine B.out.mono ?_;rintro r m ⟨rfl,y⟩;refine cD ?_));have M:Chg NoS n (m.alloc (.cells #[.string ⟨#[97,112,112,101,110,100]⟩,qY,.iface te ve] 239)):=y.alloc _;have O:(m.alloc (.cells #[.string ⟨#[97,112,112,101,110,100]⟩,qY,.iface te ve] 239)).heap[m.heap.size]?=some (.cells #[.string ⟨#[97,112,112,101,110,100]⟩,qY,.iface te ve] 239 (0,0)):=aA m _;generalize J:m.alloc (.cells #[.string ⟨#[97,112,112,101,110,100]⟩,qY,.iface te ve] 239)=W3 at*;have HX:=cA J;have N:=cA M;have a1:=cA O;have a2:=cA y.size;clear J M O y f c1;refine cA ?_;go_wp2_with (first|rw[HX.out]);go_ret;exact⟨⟨F,⟨_,_,_,_,_,_,C.out.apart N.out (fun _ _ h=>h)⟩,A.out.nos' N.out,fun x hx=>Or.inl hx⟩,m.heap.size,rfl,⟨_,a1.out⟩,by have:=a2.out;have:=Q.out;omega⟩
  ·rw[if_neg g];have z:=cA g;clear g;go_enter func196,ntmps196;go_wp2_with (go_at_call 185;refine G.out.mono ?_;rintro r n ⟨rfl,i,u,L⟩;refine cD ?_);have Q:=cA L;have A:=cA u;have a:=(aW (u.block 0 R.out h0F)).trans T.out;have a0:=mZ s;have c:=tM n F d k1 (.iface te ve) s.length ⟨_,_,_,_,_,_,i⟩ a (by omega) hs1 E.out.1 E.out.2.1;have f:=yO i.names;have c1:=i.cell 1 _ rfl;have C:=cA i;clear u L a G i;rw[if_neg (by have:=z.out;omega)]at c;have B:Hid (Calls prog 221 #[.pointer (some ⟨d,0,none⟩),.int .i64 s.length] n fun e W'=>e= .returned .nilIface∧Chg NoS n W'):=c;clear c;refine cA ?_;go_wp2_with (first|(go_at_call 221;refine B.out.mono ?_;rintro r m ⟨rfl,y⟩;refine cD ?_));have D:=C.out.apart y (fun _ _ h=>h);have I:=D.log;have f0:=cB I 0 _ rfl;have z0:=cY I 0;have o:=dA m j 0 (.string (strOfNums k1.log++strOfNums s));have U:FileAt (m.setCell ⟨j,0,none⟩ (.string (strOfNums k1.log++strOfNums s))) j (k1.log++s) k1.lsyn:=by
    have:=cO I 0 (.string (strOfNums k1.log++strOfNums s));rw[lG]at this⊢;exact this
   generalize J:m.setCell ⟨j,0,none⟩ (.string (strOfNums k1.log++strOfNums s))=W3 at*;have HX:=cA J;have h3:DkAt W3 F d (jJ k1 s) V Z j v H fv:=D.file I o rfl U (by
    show NewAt W3 F j v (jJ k1 s).new;show NewAt W3 F j v k1.new;have Y:=D.new;cases hk:k1.new with
    |none=>rw[hk]at Y;exact Y
    |some p=>rw[hk]at Y;obtain⟨b,n1,n2,n3,n4⟩:=Y;exact⟨b,n1,o.kept n2 n4,n3,n4⟩) (by
    show OldAt W3 F j v H k1.old;have ho:=D.old;rw[E.out.2.2.1]at ho⊢;exact ho) rfl
   have HR:=cA h3;have HC:=cA ((A.out.nos' y).trans o (fun x _ e=>e▸D.flog));have a3:=fun w=>run_string_add_sum (P:=prog) w (strOfNums k1.log) (strOfNums s) (by rw[fM,fM];have:=E.out.1;omega);clear J o U h3 D y I f c1;refine cA ?_;go_wp2_with (first|rw[HX.out]);go_ret;exact⟨⟨_,⟨_,_,_,_,_,_,HR.out⟩,HC.out,fun x hx=>Or.inl hx⟩,rfl⟩
theorem zQ(te:TypeId)(ve:Value)(s:List Int)(t:List Int)(y:Int)(h:Disk W F d k)(hok:gZ k)(hev:W.cell? ⟨0,0,none⟩=some (.iface te ve))(h0F:¬F 0)(hnew:k.new=some (t,y))(hold:k.old=none)(hs1:(s.length:Int)≤1000000000000)(hl:(k.log.length:Int)≤1000000000000)(hl2:gU k≤1000000000000):
 Calls prog 196 #[.pointer (some ⟨d,0,none⟩),tV,.string (strOfNums s)] W fun e W'=>EndsK .nilIface (.iface te ve) W F d (dL k s hZ) e W':=by
 obtain⟨nm,km,v,fn,K,fv,h⟩:=h;cases hs:fS k with
 |none=>
  have eS:dL k s hZ=(k,(.some (.some (jY k)))):=by unfold dL;rw[hs]
  rw[eS];have HD:=cA h;have J:Hid (Calls prog 185 #[.pointer (some ⟨d,0,none⟩)] W fun e W'=>e= .panicked (oM (jY k))∧W'=W):=lF W F d k nm km v fn K fv h hs;clear h hs;go_enter func196,ntmps196;go_wp2_with (go_at_call 185;refine J.out.mono ?_;rintro r n ⟨rfl,rfl⟩);exact⟨rfl,EndsK.dies ⟨_,_,_,_,_,_,HD.out⟩⟩
 |some k1=>
  have H:=gO hs;have U:=cA (Nat.lt_of_le_of_lt (aI d) (h.lt d h.fd));have J:Hid (Calls prog 185 #[.pointer (some ⟨d,0,none⟩)] W fun e W'=>e= .returned (.tuple #[])∧DkAt W' F d k1 nm km v fn K fv∧Chg F W W'∧W'.heap.size=W.heap.size):=lD W F d k k1 nm km v fn K fv h hok hs;have V:(k1.log.length:Int)≤1000000000000:=by rw[H.2.1];exact hl
  have u:gU k1≤1000000000000:=by unfold gU at hl2⊢;rw[H.2.2.2.1];exact hl2
  have m:=H.2.2.2.2.trans hold;have e4:=H.2.2.2.1.trans hnew;have C:=cA e4;obtain⟨b,rfl,p⟩:∃b,fn=some b∧b≠v:=by
   have O:=h.new;rw[hnew]at O;obtain⟨b,i,_,_,q4⟩:=O;exact⟨b,i,q4⟩
  clear e4;have X:=cA hev;have I:=cA (aH5 V u m H);have eF:∀q:Prop,[Decidable q]→(if q then(Value.iface te ve)else .nilIface)=if q then(Value.iface te ve)else .nilIface:=fun _ _=>rfl
  have eS:dL k s hZ=if k1.room<iF k1+s.length then(k1,(.some .none))else(hZ k1 s,.none):=by unfold dL;rw[hs]
  rw[eS];clear h hs hev hl hl2 hold V u m H eF eS;by_cases g:k1.room<iF k1+s.length
  ·rw[if_pos g];have B:=cA g;clear g;go_enter func196,ntmps196;go_wp2_with (go_at_call 185;refine J.out.mono ?_;rintro r n ⟨rfl,j,i,A⟩;refine cD ?_);have T:=cA A;have D:=cA i;have a:=(aW (i.block 0 U.out h0F)).trans X.out;have a0:=mZ s;have c:=tM n F d k1 (.iface te ve) s.length ⟨_,_,_,_,_,_,j⟩ a (by omega) hs1 I.out.1 I.out.2.1;have f:=sM j.names;have c1:=j.cell 1 _ rfl;have G:=cA j;clear i A a J j;rw[if_pos B.out]at c;have E:Hid (Calls prog 221 #[.pointer (some ⟨d,0,none⟩),.int .i64 s.length] n fun e W'=>e= .returned (.iface te ve)∧Chg NoS n W'):=c;clear c;refine cA ?_;go_wp2_with (first|(go_at_call 221;refine E.out.mono ?_;rintro r l ⟨rfl,z⟩;refine cD ?_));have Q:Chg NoS n (l.alloc (.cells #[.string ⟨#[97,112,112,101,110,100]⟩,tV,.iface te ve] 239)):=z.alloc _;have S:(l.alloc (.cells #[.string ⟨#[97,112,112,101,110,100]⟩,tV,.iface te ve] 239)).heap[l.heap.size]?=some (.cells #[.string ⟨#[97,112,112,101,110,100]⟩,tV,.iface te ve] 239 (0,0)):=aA l _;generalize N:l.alloc (.cells #[.string ⟨#[97,112,112,101,110,100]⟩,tV,.iface te ve] 239)=W3 at*;have HX:=cA N;have R:=cA Q;have a1:=cA S;have a2:=cA z.size;clear N Q S z f c1;refine cA ?_;go_wp2_with (first|rw[HX.out]);go_ret;exact⟨⟨F,⟨_,_,_,_,_,_,G.out.apart R.out (fun _ _ h=>h)⟩,D.out.nos' R.out,fun x hx=>Or.inl hx⟩,l.heap.size,rfl,⟨_,a1.out⟩,by have:=a2.out;have:=T.out;omega⟩
  ·rw[if_neg g];have B:=cA g;clear g;go_enter func196,ntmps196;go_wp2_with (go_at_call 185;refine J.out.mono ?_;rintro r n ⟨rfl,j,i,A⟩;refine cD ?_);have T:=cA A;have D:=cA i;have a:=(aW (i.block 0 U.out h0F)).trans X.out;have a0:=mZ s;have c:=tM n F d k1 (.iface te ve) s.length ⟨_,_,_,_,_,_,j⟩ a (by omega) hs1 I.out.1 I.out.2.1;have f:=sM j.names;have c1:=j.cell 1 _ rfl;have G:=cA j;clear i A a J j;rw[if_neg (by have:=B.out;omega)]at c;have E:Hid (Calls prog 221 #[.pointer (some ⟨d,0,none⟩),.int .i64 s.length] n fun e W'=>e= .returned .nilIface∧Chg NoS n W'):=c;clear c;refine cA ?_;go_wp2_with (first|(go_at_call 221;refine E.out.mono ?_;rintro r l ⟨rfl,z⟩;refine cD ?_));have L:=G.out.apart z (fun _ _ h=>h);obtain⟨M,Z⟩:FileAt l b t y∧F b:=by
    have O:=L.new;rw[C.out]at O;obtain⟨b',i,A,q3,q4⟩:=O;obtain rfl:=aN i;exact⟨A,q3⟩
   have f0:=cB M 0 _ rfl;have z0:=cY M 0;have o:=dA l b 0 (.string (strOfNums t++strOfNums s));have Y:FileAt (l.setCell ⟨b,0,none⟩ (.string (strOfNums t++strOfNums s))) b (t++s) y:=by
    have:=cO M 0 (.string (strOfNums t++strOfNums s));rw[lG]at this⊢;exact this
   generalize N:l.setCell ⟨b,0,none⟩ (.string (strOfNums t++strOfNums s))=W3 at*;have HX:=cA N;have h3:DkAt W3 F d (hZ k1 s) nm km v (some b) K fv:=L.file M o rfl (o.kept L.log (Ne.symm p)) (by
    show NewAt W3 F v (some b) (hZ k1 s).new;unfold hZ;rw[C.out];exact⟨b,rfl,Y,Z,p⟩) (by
    show OldAt W3 F v (some b) K k1.old;have ho:=L.old;rw[I.out.2.2.1]at ho⊢;exact ho) rfl
   have HR:=cA h3;have HC:=cA ((D.out.nos' z).trans o (fun x _ e=>e▸Z));have a3:=fun w=>run_string_add_sum (P:=prog) w (strOfNums t) (strOfNums s) (by rw[fM,fM];have:=I.out.2.1;have e:gU k1=t.length:=(by unfold gU;rw[C.out]);omega);clear N o Y h3 L z M f c1;refine cA ?_;go_wp2_with (first|rw[HX.out]);go_ret;exact⟨⟨_,⟨_,_,_,_,_,_,HR.out⟩,HC.out,fun x hx=>Or.inl hx⟩,rfl⟩
end
end
section
open Go.RowKit Go.Maps
abbrev mF(eb:Addr):Value:=.iface 328 (.pointer (some eb))
abbrev aFh:Value:=.iface 295 (.agg #[.pointer (some ⟨2,202,none⟩)])
structure GlAt(W:World)(B:Nat)(eb:Addr):Prop where
 b0:0<B
 b1:1<B
 hB:B≤W.heap.size
 err:W.cell? ⟨0,0,none⟩=some (mF eb)
 typ:W.cell? ⟨1,0,none⟩=some aFh
theorem GlAt.of_heap{W W':World}{B:Nat}{eb:Addr}(h:GlAt W B eb)(hs:W.heap.size≤W'.heap.size)(hb:∀k,k<B→W'.heap[k]?=W.heap[k]?):GlAt W' B eb:=
 ⟨h.b0,h.b1,bP h.hB hs,(aW (hb 0 h.b0)).trans h.err,(aW (hb 1 h.b1)).trans h.typ⟩
theorem GlAt.kept{W W':World}{S:Nat→Prop}{B:Nat}{eb:Addr}(h:GlAt W B eb)(hc:Chg S W W')(hn:∀k,S k→B≤k):GlAt W' B eb:=
 h.of_heap hc.size fun k hk=>hc.block k (aG hk h.hB) (fun hs=>by have:=hn k hs;omega)
abbrev acL(a:Ac)(d tb g:Nat):List Value:=[.int .i64 a.num,.int .i64 a.compact,.pointer (some ⟨d,0,none⟩),.map (some tb),.int .i64 a.st,tY g]
abbrev xV(W:World)(b:Nat)(rs:List Rw):Prop:=W.ownsMap prog 3 qU b 4 (lU rs)
structure AcAt(W:World)(FD:Nat→Prop)(b g d tb:Nat)(a:Ac):Prop where
 blk:W.heap[b]?=some (.cells (acL a d tb g).toArray 162 (0,0))
 disk:Disk W FD d a.dk
 table:xV W tb a.rows
 nb:¬FD b
 ntb:¬FD tb
def InF(FD:Nat→Prop)(b tb:Nat):Nat→Prop:=fun x=>FD x∨x=b∨x=tb
def Acc(W:World)(F:Nat→Prop)(b g:Nat)(a:Ac):Prop:=∃FD d tb,AcAt W FD b g d tb a∧(∀x,InF FD b tb x→F x)∧∀x,F x→x<W.heap.size
theorem Disk.of_heap{W W':World}{F:Nat→Prop}{d:Nat}{k:Dk}(h:Disk W F d k)(hs:W.heap.size≤W'.heap.size)(hb:∀k,F k→W'.heap[k]?=W.heap[k]?):Disk W' F d k:=by
 obtain⟨b,e,f,c,a,g,h⟩:=h;exact⟨b,e,f,c,a,g,h.of_heap hs hb⟩
section
variable {W:World} {F:Nat→Prop} {d:Nat} {k:Dk}
theorem Disk.lt(h:Disk W F d k):∀x,F x→x<W.heap.size:=by
 obtain⟨b,e,f,c,a,g,h⟩:=h;exact h.lt
theorem Disk.fd(h:Disk W F d k):F d:=by
 obtain⟨b,e,f,c,a,g,h⟩:=h;exact h.fd
end
section
variable {W W':World}{FD F S:Nat→Prop}{b g d tb:Nat}{a:Ac}
theorem AcAt.of_heap(h:AcAt W FD b g d tb a)(hs:W.heap.size≤W'.heap.size)(hb:∀x,InF FD b tb x→W'.heap[x]?=W.heap[x]?):AcAt W' FD b g d tb a:=
 ⟨(hb b (Or.inr (Or.inl rfl))).trans h.blk,h.disk.of_heap hs (fun x hx=>hb x (Or.inl hx)),dF h.table (hb tb (Or.inr (Or.inr rfl))),h.nb,h.ntb⟩
theorem AcAt.inlt(h:AcAt W FD b g d tb a):∀x,InF FD b tb x→x<W.heap.size:=fun x hx=>by
 rcases hx with hx|hx|hx
 ·exact h.disk.lt x hx
 ·subst hx;exact cX h.blk
 ·subst hx;exact h.table.lt
theorem AcAt.kept(h:AcAt W FD b g d tb a)(hc:Chg S W W')(hn:∀x,InF FD b tb x→¬S x):AcAt W' FD b g d tb a:=
 h.of_heap hc.size fun x hx=>hc.block x (h.inlt x hx) (hn x hx)
theorem AcAt.cell(h:AcAt W FD b g d tb a)(j:Nat)(x:Value)(hj:(acL a d tb g)[j]?=some x):W.cell? ⟨b,j,none⟩=some x:=cB h.blk j x (by simpa using hj)
theorem AcAt.froz(h:AcAt W FD b g d tb a)(j:Nat):W.frozen? ⟨b,j,none⟩=false:=cY h.blk j
theorem AcAt.bt(h:AcAt W FD b g d tb a):b≠tb:=fun e=>by
 obtain⟨_,_,o⟩:=dK h.table;exact dR h.blk o (by simp) e
theorem Acc.kept(h:Acc W F b g a)(hc:Chg S W W')(hn:∀x,F x→¬S x):Acc W' F b g a:=by
 obtain⟨j,d,e,f,c,i⟩:=h;exact⟨j,d,e,f.kept hc (fun x hx=>hn x (c x hx)),c,fun x hx=>aG (i x hx) hc.size⟩
theorem Acc.lt(h:Acc W F b g a):∀x,F x→x<W.heap.size:=by
 obtain⟨j,d,e,i,f,c⟩:=h;exact c
theorem AcAt.disk'{FD':Nat→Prop}{k:Dk}(h:AcAt W FD b g d tb a)(hd:Disk W' FD' d k)(hc:Chg FD W W')(hf:∀x,FD' x→FD x∨W.heap.size≤x):AcAt W' FD' b g d tb {a with dk:=k}:=by
 refine⟨hc.kept h.blk h.nb,hd,dF h.table (hc.block _ h.table.lt h.ntb),fun hx=>?_,fun hx=>?_⟩
 ·rcases hf b hx with h'|h'
  ·exact h.nb h'
  ·have:=cX h.blk;omega
 ·rcases hf tb hx with h'|h'
  ·exact h.ntb h'
  ·have:=h.table.lt;omega
end
def AcTo(W:World)(F:Nat→Prop)(b g:Nat)(a:Ac)(W':World):Prop:=∃F',Acc W' F' b g a∧Chg F W W'∧∀x,F' x→F x∨W.heap.size≤x
theorem AcTo.of{W:World}{F:Nat→Prop}{b g:Nat}{a:Ac}(h:Acc W F b g a):AcTo W F b g a W:=⟨F,h,Chg.refl _ _,fun _ h=>Or.inl h⟩
theorem AcTo.trans{A B C:World}{F F1:Nat→Prop}{b g:Nat}{a:Ac}(hc:Chg F A B)(hf:∀x,F1 x→F x∨A.heap.size≤x)(h:AcTo B F1 b g a C):AcTo A F b g a C:=by
 obtain⟨c,e,d,f⟩:=h;refine⟨c,e,hc.trans d (fun x hx h'=>?_),fun x hx=>?_⟩
 ·rcases hf x h' with h|h
  ·exact h
  ·omega
 ·rcases f x hx with h|h
  ·exact hf x h
  ·right;have:=hc.size;omega
theorem AcAt.to{W W':World}{FD F:Nat→Prop}{b g d tb:Nat}{a:Ac}{k:Dk}(h:AcAt W FD b g d tb a)(hF:∀x,InF FD b tb x→F x)(hlt:∀x,F x→x<W.heap.size)(hd:DkTo W FD d k W'):∃FD':Nat→Prop,∃F':Nat→Prop,AcAt W' FD' b g d tb {a with dk:=k}∧(∀x,InF FD' b tb x→F' x)∧(∀x,F' x→x<W'.heap.size)∧Chg F W W'∧(∀x,F x→F' x)∧∀x,F' x→F x∨W.heap.size≤x:=by
 obtain⟨FD',h1,h2,h3⟩:=hd;refine⟨FD',fun x=>F x∨FD' x,h.disk' h1 h2 h3,fun x hx=>?_,fun x hx=>?_,h2.mono (fun x _ hx=>hF x (Or.inl hx)),fun x hx=>Or.inl hx,fun x hx=>?_⟩
 ·rcases hx with hx|hx|hx
  ·exact Or.inr hx
  ·exact Or.inl (hF x (Or.inr (Or.inl hx)))
  ·exact Or.inl (hF x (Or.inr (Or.inr hx)))
 ·rcases hx with hx|hx
  ·exact aG (hlt x hx) h2.size
  ·exact h1.lt x hx
 ·rcases hx with hx|hx
  ·exact Or.inl hx
  ·rcases h3 x hx with h'|h'
   ·exact Or.inl (hF x (Or.inl h'))
   ·exact Or.inr h'
def pF(v ev:Value)(W:World)(F:Nat→Prop)(b g:Nat)(p:Ac×How)(e:Ending)(W':World):Prop:=AcTo W F b g p.1 W'∧match p.2 with
 |.none=>e= .returned v
 |(.some (.some q))=>e= .panicked (oM q)
 |(.some .none)=>∃fb,e= .returned (kI fb)∧kH W' fb ev∧W.heap.size≤fb
structure uM(a:Ac):Prop where
 n0:0≤a.num
 n1:a.num≤100
 c0:0≤a.compact
 c1:a.compact≤1000
 lk:∀r ∈ a.rows,0≤r.lock∧r.lock≤3
 fo:gZ a.dk
 l1:(a.dk.log.length:Int)≤100000000000
end
section
open Go.RowKit Go.Maps
section
variable (W:World) (F:Nat→Prop) (b g:Nat) (a:Ac)
theorem aBO(h:Acc W F b g a):
 Calls prog 60 #[.pointer (some ⟨b,0,none⟩)] W fun e W'=>e= .returned (.string (strOfNums a.dk.log))∧W'=W:=by
 obtain⟨c,d,j,h,_,_⟩:=h;have i:=h.cell 2 _ rfl;have f:=cA (aGb W c d a.dk h.disk);clear h;go_enter func60,ntmps60;go_wp2_with (go_at_call 96;refine f.out.mono ?_;rintro e k ⟨rfl,rfl⟩);go_ret;exact⟨rfl,rfl⟩
theorem xW(h:Acc W F b g a)(hl:(a.dk.log.length:Int)≤1000000000000):
 Calls prog 173 #[.pointer (some ⟨b,0,none⟩)] W fun e W'=>e= .returned (.bool (kZ a))∧W'=W.drew:=by
 have c:Hid (∀x,x=W.drew→Calls prog 60 #[.pointer (some ⟨b,0,none⟩)] x fun e w'=>e= .returned (.string (strOfNums a.dk.log))∧w'=x):=fun x hx=>by
  subst hx;exact aBO W.drew F b g a (h.kept (Chg.refl NoS W).drew (fun _ _ h=>h))
 obtain⟨m,d,l,h,_,_⟩:=h;have n:=h.cell 1 _ rfl;have i:=mZ a.dk.log;have j:((a.dk.log.length:Int)).tdiv 25=(a.dk.log.length:Int) / 25:=Int.tdiv_eq_ediv_of_nonneg (by omega);have k:IntKind.i64.wrap ((a.dk.log.length:Int) / 25)=(a.dk.log.length:Int) / 25:=eI (by omega) (by omega);clear h;unfold kZ;go_enter func173,ntmps173;go_wp2_with fail;refine dZ [0,1,1,0,0,0,0,1,0,0] (by kernel_rfl) (fun _ _ _ _=>rfl) ?_;simp only[cM,cL];iterate 1 (apply sB rfl rfl;·(intro x h;(try cases h rfl);go_simp;with_reducible rfl))
 try simp only[pA]
 refine dB (v:=.string (strOfNums a.dk.log)) (f:=60) (args:=#[.pointer (some ⟨b,0,none⟩)]) rfl (fun x hx=>by subst hx;go_simp;try rfl) (fun x hx=>c.out x hx) ?_;(try simp only[pA]);iterate 8 (apply sB rfl rfl;·(intro x h;(try cases h rfl);go_simp;with_reducible rfl))
 refine cC ?_;try simp only[pA]
 go_wp2_with fail;go_ret;exact⟨by first|rfl|simp,rfl⟩
end
end
end Go.Proofs.YtbbdgokdfhdpiaaGreatDoor
