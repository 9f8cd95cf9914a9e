/- A part of the proof: PDk1, PDk2, PDk3, PDk4, PDk5, PDk6, PDk7, MdlMo. -/
import Derived.Test.YtbbdgokdfhdpiaaGreatDoorD9
namespace Go.Proofs.YtbbdgokdfhdpiaaGreatDoor
set_option linter.all false
set_option maxRecDepth 100000
set_option maxHeartbeats 40000000
open Go.Proofs.Tryz Go.RowKit
section
open Go.RowKit Go.Maps
section
variable (W:World) (F:Nat→Prop) (d:Nat)
theorem lX(k:Dk)(nm km fl:Nat)(fn:Option Nat)(fk:Nat)(fv:Value)(h:DkAt W F d k nm km fl fn fk fv)(hs:fR k=none):
 Calls prog 185 #[.pointer (some ⟨d,0,none⟩)] W fun e W'=>e= .panicked (pI (jZ k))∧W'=W:=by
 have m:=h.cell 3 _ rfl;have a:=h.fail;unfold fR at hs;cases hk:k.fail with
 |none=>rw[hk]at hs;cases hs
 |some p=>
  obtain⟨n,q⟩:=p;rw[hk]at hs a;have i:n=0:=by
   by_cases f:n=0
   ·exact f
   ·simp[f]at hs
  subst i;obtain⟨b,rfl,g,o⟩:=a;have l:=cC g 0 _ rfl;have j:=cC g 1 _ rfl;have c:jZ k=q:=by unfold jZ;rw[hk]
  rw[c];clear hs hk c h;go_enter func185,ntmps185;go_wp2;exact⟨rfl,rfl,rfl⟩
theorem lV(k k1:Dk)(nm km fl:Nat)(fn:Option Nat)(fk:Nat)(fv:Value)(h:DkAt W F d k nm km fl fn fk fv)(hok:gV k)(hs:fR k=some k1):
 Calls prog 185 #[.pointer (some ⟨d,0,none⟩)] W fun e W'=>e= .returned (.tuple #[])∧DkAt W' F d k1 nm km fl fn fk fv∧Chg F W W'∧W'.heap.size=W.heap.size:=by
 have E:=h.cell 3 _ rfl;have i:=h.fail;unfold fR at hs;cases hk:k.fail with
 |none=>
  rw[hk]at hs i;obtain rfl:k=k1:=aN hs;obtain rfl:fv= .pointer none:=i;have y:=cB h;clear hk hs h hok;go_enter func185,ntmps185;go_wp2
  (first|go_end0|((try simp only[Exit.inBlock,Exit.then]);refine bodyPost_ret (results_none rfl _ _ _) rfl ?_))
  exact⟨by first|rfl|trivial,y.out,Chg.refl _ _,rfl⟩
 |some p=>
  obtain⟨n,q⟩:=p;have f:=hok (n,q) hk;rw[hk]at hs i;dsimp only at f;have m:n≠0:=fun h0=>by simp[h0]at hs
  have o:k1={k with fail:=some (n-1,q)}:=by simpa[m]using hs.symm
  subst o;obtain⟨b,rfl,a,t⟩:=i;have C:=cC a 0 _ rfl;have G:=cV a 0;have B:(n==0)=false:=by simp[m]
  have D:IntKind.i64.wrap (n-1)=n-1:=dZ (by have:=f.1;omega) (by have:=f.2;omega);have A:wrap64 (n-1)=n-1:=by unfold wrap64;have:=f.1;have:=f.2;omega
  have c:=cZ W b 0 (.int .i64 (n-1));have g:=cU a 0 (.int .i64 (n-1));have r:(W.setCell ⟨b,0,none⟩ (.int .i64 (n-1))).heap.size=W.heap.size:=by simp
  generalize s:W.setCell ⟨b,0,none⟩ (.int .i64 (n-1))=W1 at*;have z:=cB s;have u:DkAt W1 F d {k with fail:=some (n-1,q)} nm km fl fn fk (.pointer (some ⟨b,0,none⟩)):=by
   obtain⟨_,_,l⟩:=dM h.names;obtain⟨_,_,j⟩:=dM h.kept;exact⟨c.kept h.blk (fM h.blk a (by decide)),h.fd,dE h.names (by rw[l];exact c.kept l (fun e=>dT l a (by simp) e)),dE h.kept (by rw[j];exact c.kept j (fun e=>dT j a (by simp) e)),h.fnm,h.fkm,h.nk,c.kept h.log (fM h.log a (by decide)),h.flog,h.new.kept a (by simp) c,h.old.kept a (by simp) c,⟨b,rfl,g,t⟩,fun x hx=>aG (h.lt x hx) c.size⟩
  have v:=cB u;have w:=cB (c.mono (fun x _ e=>e▸t));clear hk hs h hok f m u c g s a;go_enter func185,ntmps185;go_wp2_with (first|rw[z.out])
  (first|go_end0|((try simp only[Exit.inBlock,Exit.then]);refine bodyPost_ret (results_none rfl _ _ _) rfl ?_))
  exact⟨by first|rfl|trivial,v.out,w.out,r⟩
theorem aEZ(k:Dk)(n q:Int)(h:Disk W F d k):
 Calls prog 133 #[.pointer (some ⟨d,0,none⟩),.int .i64 n,.int .i64 q] W fun e W'=>e= .returned (.tuple #[])∧DkTo W F d {k with fail:=some (n,q)} W':=by
 obtain⟨nm,km,fl,fn,fk,fv,h⟩:=h;generalize hX:W.alloc (.cells #[.int .i64 n,.int .i64 q] 248)=W1;have HX:=cB hX;have hc1:Chg NoS W W1:=by rw[←hX];exact(Chg.refl _ _).alloc _
 have hb1:W1.heap[W.heap.size]?=some (.cells #[.int .i64 n,.int .i64 q] 248 (0,0)):=by rw[←hX];exact aA W _
 have hs1:W1.heap.size=W.heap.size+1:=by rw[←hX];simp
 have h1:=h.apart hc1 (fun _ _ h=>h);have c3:=h1.cell 3 _ rfl;have z3:=h1.froz 3;have hdl:=h.lt d h.fd;have hc2:=cZ W1 d 3 (.pointer (some ⟨W.heap.size,0,none⟩));have hb2:=cU h1.blk 3 (.pointer (some ⟨W.heap.size,0,none⟩));generalize hY:W1.setCell ⟨d,3,none⟩ (.pointer (some ⟨W.heap.size,0,none⟩))=W2 at*;have HY:=cB hY;have hF':∀x,F x→F x∨x=W.heap.size:=fun _ h=>Or.inl h;have hR:DkAt W2 (fun x=>F x∨x=W.heap.size) d {k with fail:=some (n,q)} nm km fl fn fk (.pointer (some ⟨W.heap.size,0,none⟩)):=by
  have b2:=hc2.kept hb1 (by omega);have hR:=h1.grow (F':=fun x=>F x∨x=W.heap.size) hF' (fun x hx=>by rcases hx with hx|hx;exact h1.lt x hx;omega);exact hR.self' (k':={k with fail:=some (n,q)}) hc2 hb2 h1.names h1.kept (Or.inl h1.fnm) (Or.inl h1.fkm) h1.nk rfl rfl rfl hR.old ⟨_,rfl,b2,Or.inr rfl⟩
 have HR:=cB hR;have HC:=cB ((hc1.mono (fun _ _ h=>h.elim)).trans hc2 (fun x hx e=>e▸h.fd));clear hR hc2 hb2 hY h1 hb1 hX hc1 h;go_enter func133,ntmps133;go_wp2_with (first|rw[HX.out]|rw[HY.out])
 (first|go_end0|((try simp only[Exit.inBlock,Exit.then]);refine bodyPost_ret (results_none rfl _ _ _) rfl ?_))
 exact⟨by first|rfl|trivial,_,⟨_,_,_,_,_,_,HR.out⟩,HC.out,fun x hx=>hx.elim Or.inl (fun e=>Or.inr (by omega))⟩
theorem aHV(k:Dk)(h:Disk W F d k):
 Calls prog 96 #[.pointer (some ⟨d,0,none⟩),rZ] W fun e W'=>e= .returned (.string (strOfNums k.log))∧W'=W:=by
 obtain⟨g,n,b,a,j,o,h⟩:=h;have p:=h.cell 1 _ rfl;have q:=cC h.log 0 _ rfl;have m:(Instr.lookup 209 (.map (some g)) rZ true).run prog W= .ok (.tuple #[pH b,.bool true]) W:=by
  obtain⟨v,l,c,f⟩:=h.names.look_ok xM underlying209 (z:=.pointer none) (by kernel_rfl) (zd:=.lit (.int .i64 (-1))) (zp:=[]) rfl (key:=rZ) (kl:=.string pS) (by kernel_rfl);have e:(fL b a).atKey (.string pS) (.lit (.int .i64 (-1)))= .lit (.int .i64 b):=by cases a<;>rfl
  have i:Maps.has (fL b a) (.string pS)=true:=by cases a<;>rfl
  rw[e]at f;rw[i]at c;rw[nC f]at c;exact c
 clear h;go_enter func96,ntmps96;go_wp2
 (first|go_ret|skip)
 exact⟨rfl,rfl⟩
end
end
section
open Go.RowKit Go.Maps
def kO(W:World)(b:Nat)(ev:Value):Prop:=∃nm,W.heap[b]?=some (.cells #[.string ⟨#[97,112,112,101,110,100]⟩,.string nm,ev] 239 (0,0))
abbrev kQ(b:Nat):Value:=.iface 234 (pH b)
def EndsK(v:Value)(ev:Value)(W:World)(F:Nat→Prop)(d:Nat)(p:Dk×How)(e:Ending)(W':World):Prop:=DkTo W F d p.1 W'∧match p.2 with
 |.none=>e= .returned v
 |(.some (.some q))=>e= .panicked (pI q)
 |(.some .none)=>∃b,e= .returned (kQ b)∧kO W' b ev∧W.heap.size≤b
theorem EndsK.dies{v ev:Value}{W:World}{F:Nat→Prop}{d:Nat}{k:Dk}(h:Disk W F d k):EndsK v ev W F d (k,(.some (.some (jZ k)))) (.panicked (pI (jZ k))) W:=⟨.of h,rfl⟩
theorem aC9:keyOf prog 9 rZ=some (.string pS):=by kernel_rfl
theorem aEc:keyOf prog 9 vJ=some (.string uZ):=by kernel_rfl
theorem aCP(w:World):(zeroValue 207).run prog w= .ok (.pointer none) w:=by kernel_rfl
theorem Chg.nos{S:Nat→Prop}{A B:World}(h:Chg NoS A B):Chg S A B:=h.mono (fun _ _ h=>h.elim)
theorem Chg.nos'{S:Nat→Prop}{A B C:World}(h:Chg S A B)(k:Chg NoS B C):Chg S A C:=h.trans k (fun _ _ h=>h.elim)
section
variable (fl:Nat) (fn:Option Nat)
theorem aET:(fL fl fn).atKey (.string pS) (.lit (.int .i64 (-1)))= .lit (.int .i64 fl):=by cases fn<;>rfl
theorem aFl:Maps.has (fL fl fn) (.string pS)=true:=by cases fn<;>rfl
theorem zH:Maps.size (fL fl fn)≤2:=by cases fn<;>simp[fL,Maps.size]
end
section
variable {W W':World}{F S:Nat→Prop}{d:Nat}{k:Dk}{nm km fl fk:Nat}{fn:Option Nat}{fv:Value}
theorem aAi(h:mS W nm fl fn):(Instr.lookup 209 (.map (some nm)) rZ true).run prog W= .ok (.tuple #[pH fl,.bool true]) W:=by
 obtain⟨v,c,a,b⟩:=h.look_ok xM underlying209 (aCP W) (zd:=.lit (.int .i64 (-1))) (zp:=[]) rfl aC9;rw[aET]at b;rw[aFl]at a;rw[nC b]at a;exact a
theorem tX{b:Nat}(h:mS W nm fl (some b)):(Instr.lookup 209 (.map (some nm)) vJ true).run prog W= .ok (.tuple #[pH b,.bool true]) W:=by
 obtain⟨v,f,a,c⟩:=h.look_ok xM underlying209 (aCP W) (zd:=.lit (.int .i64 (-1))) (zp:=[]) rfl aEc;have e:(fL fl (some b)).atKey (.string uZ) (.lit (.int .i64 (-1)))= .lit (.int .i64 b):=rfl;have d:Maps.has (fL fl (some b)) (.string uZ)=true:=rfl;rw[e]at c;rw[d]at a;rw[nC c]at a;exact a
theorem aIW(h:mS W nm fl none)(b:Nat):∃W',(Instr.mapUpdate 209 (.map (some nm)) vJ (pH b)).run prog W= .ok () W'∧mS W' nm fl (some b)∧Chg (fun x=>x=nm) W W'∧W'.heap.size=W.heap.size:=by
 obtain⟨W',d,a,c⟩:=h.store xM underlying209 (by decide) aEc (aAt b);refine⟨W',d,?_,nP c,mO c⟩;have e:(fL fl none).put (.string uZ) (.lit (.int .i64 b))=fL fl (some b):=rfl;rw[e]at a;exact mC a (zH _ _)
theorem aH3{b:Nat}(h:mS W nm fl (some b))(ty:TypeId):∃W',(Builtin.delete_ #[209,9] ty #[.map (some nm),vJ]).run prog W= .ok (.tuple #[]) W'∧mS W' nm fl none∧Chg (fun x=>x=nm) W W'∧W'.heap.size=W.heap.size:=by
 obtain⟨W',c,d,a⟩:=h.drop xM underlying209 aEc ty;exact⟨W',c,d,nP a,mO a⟩
theorem aIn(h:mS W nm fl none)(b:Nat):∃W',(Instr.mapUpdate 209 (.map (some nm)) rZ (pH b)).run prog W= .ok () W'∧mS W' nm b none∧Chg (fun x=>x=nm) W W'∧W'.heap.size=W.heap.size:=by
 obtain⟨W',d,a,c⟩:=h.store xM underlying209 (by decide) aC9 (aAt b);refine⟨W',d,?_,nP c,mO c⟩;have e:(fL fl none).put (.string pS) (.lit (.int .i64 b))=fL b none:=rfl;rw[e]at a;exact mC a (zH _ _)
theorem DkAt.names'{fl':Nat}{fn':Option Nat}{k':Dk}(h:DkAt W F d k nm km fl fn fk fv)(hc:Chg (fun x=>x=nm) W W')(hn:mS W' nm fl' fn')(h0:k'.room=k.room)
 (h1:FileAt W' fl' k'.log k'.lsyn) (h2:F fl') (h3:NewAt W' F fl' fn' k'.new) (h4:OldAt W' F fl' fn' fk k'.old) (h5:k'.fail=k.fail):DkAt W' F d k' nm km fl' fn' fk fv:=by
 obtain⟨_,_,b⟩:=dM h.names;obtain⟨_,_,a⟩:=dM h.kept;refine⟨?_,h.fd,hn,dE h.kept (by rw[a];exact hc.kept a (fun e=>h.nk e.symm)),h.fnm,h.fkm,h.nk,h1,h2,h3,h4,?_,fun x hx=>aG (h.lt x hx) hc.size⟩
 ·show W'.heap[d]?=some (.cells (dkL k' nm km fv).toArray _ _);have e:dkL k' nm km fv=dkL k nm km fv:=by simp[dkL,h0]
  rw[e];exact hc.kept h.blk (fun e=>dT h.blk b (by simp) e)
 ·rw[h5];exact h.fail.kept b (by simp) hc
theorem FileAt.kept{b c:Nat}{t:List Int}{y:Int}{o:Obj}(h:FileAt W b t y)(hx:W.heap[c]?=some o)(ho:∀cs fr,o≠.cells cs 214 fr)(hc:Chg (fun k=>k=c) W W'):FileAt W' b t y:=hc.kept h (fun e=>dT h hx (fun e=>ho _ _ e.symm) e)
theorem DkAt.file{c:Nat}{k':Dk}{t:List Int}{y:Int}(h:DkAt W F d k nm km fl fn fk fv)(hx:FileAt W c t y)(hc:Chg (fun x=>x=c) W W')(h0:k'.room=k.room)
 (h1:FileAt W' fl k'.log k'.lsyn) (h3:NewAt W' F fl fn k'.new) (h4:OldAt W' F fl fn fk k'.old) (h5:k'.fail=k.fail):DkAt W' F d k' nm km fl fn fk fv:=by
 obtain⟨_,_,b⟩:=dM h.names;obtain⟨_,_,a⟩:=dM h.kept;refine⟨?_,h.fd,dE h.names (by rw[b];exact hc.kept b (fun e=>dT b hx (by simp) e)),dE h.kept (by rw[a];exact hc.kept a (fun e=>dT a hx (by simp) e)),h.fnm,h.fkm,h.nk,h1,h.flog,h3,h4,?_,fun x hx=>aG (h.lt x hx) hc.size⟩
 ·show W'.heap[d]?=some (.cells (dkL k' nm km fv).toArray _ _);have e:dkL k' nm km fv=dkL k nm km fv:=by simp[dkL,h0]
  rw[e];exact hc.kept h.blk (fM h.blk hx (by decide))
 ·rw[h5];exact h.fail.kept hx (by simp) hc
theorem gM{k k1:Dk}(h:fR k=some k1):k1.room=k.room∧k1.log=k.log∧k1.lsyn=k.lsyn∧k1.new=k.new∧k1.old=k.old:=by
 unfold fR at h;split at h
 ·obtain rfl:=aN h;exact⟨rfl,rfl,rfl,rfl,rfl⟩
 ·split at h
  ·cases h
  ·obtain rfl:=aN h;exact⟨rfl,rfl,rfl,rfl,rfl⟩
theorem jS{k k1:Dk}(h:fR k=some k1)(hf:gV k):gV k1:=by
 unfold fR at h;split at h
 ·obtain rfl:=aN h;exact hf
 ·rename_i n q b;split at h
  ·cases h
  ·obtain rfl:=aN h;intro p a;have:=hf _ b;simp at a;subst a;dsimp only at*;omega
end
theorem aDJ(W:World)(F:Nat→Prop)(d:Nat)(k:Dk)(ev:Value)(h:Disk W F d k)(hok:gV k)(hnew:k.new=none)(hold:k.old=none):
 Calls prog 198 #[.pointer (some ⟨d,0,none⟩),vJ] W fun e W'=>EndsK (.tuple #[]) ev W F d (dH k kM) e W':=by
 obtain⟨i,o,j,y,m,p,h⟩:=h;cases hs:fR k with
 |none=>
  have A:dH k kM=(k,(.some (.some (jZ k)))):=by unfold dH;rw[hs]
  rw[A];have Q:=cB h;have z:Hid (Calls prog 185 #[.pointer (some ⟨d,0,none⟩)] W fun e W'=>e= .panicked (pI (jZ k))∧W'=W):=lX W F d k i o j y m p h hs;clear h hs;go_enter func198,ntmps198;go_wp2_with (go_at_call 185;refine z.out.mono ?_;rintro r a ⟨rfl,rfl⟩);exact⟨rfl,EndsK.dies ⟨_,_,_,_,_,_,Q.out⟩⟩
 |some k1=>
  have A:dH k kM=(kM k1,.none):=by unfold dH;rw[hs]
  rw[A];have O:=gM hs;have z:Hid (Calls prog 185 #[.pointer (some ⟨d,0,none⟩)] W fun e W'=>e= .returned (.tuple #[])∧DkAt W' F d k1 i o j y m p∧Chg F W W'∧W'.heap.size=W.heap.size):=lV W F d k k1 i o j y m p h hok hs;obtain rfl:y=none:=by have:=h.new;rw[hnew]at this;exact this
  clear h hs;go_enter func198,ntmps198;go_wp2_with (go_at_call 185;refine z.out.mono ?_;rintro r a ⟨rfl,v,I,L⟩;refine cE ?_);have g:Chg NoS a (a.alloc (.cells #[.string ⟨#[]⟩,.int .i64 0] 214)):=(Chg.refl _ _).alloc _;have t:FileAt (a.alloc (.cells #[.string ⟨#[]⟩,.int .i64 0] 214)) a.heap.size [] 0:=aA a _;have S:(a.alloc (.cells #[.string ⟨#[]⟩,.int .i64 0] 214)).heap.size=a.heap.size+1:=by simp
  have f:=v.apart g (fun _ _ h=>h);have D:=v.lt;generalize G:a.alloc (.cells #[.string ⟨#[]⟩,.int .i64 0] 214)=W2 at*;have P:=cB G;have T:=v.cell 1 _ rfl;obtain⟨C,c,s,b,q⟩:=aIW f.names a.heap.size;obtain⟨_,_,B⟩:=dM f.names;have n:DkAt W2 (fun x=>F x∨x=a.heap.size) d k1 i o j none m p:=f.grow (fun _ h=>Or.inl h) (fun x l=>by rcases l with l|l;exact f.lt x l;omega);have K:=O.2.2.2.2.trans hold;have H:DkAt C (fun x=>F x∨x=a.heap.size) d (kM k1) i o j (some a.heap.size) m p:=
   n.names' b s rfl (n.log.kept B (by simp) b) n.flog ⟨_,rfl,t.kept B (by simp) b,Or.inr rfl,fun e=>by have:=D j f.flog;omega⟩ (by
    have J:=n.old;rw[K]at J;show OldAt _ _ _ _ _ k1.old;rw[K];exact J) rfl
  have M:=cB H;have N:=cB ((I.nos' g).trans b (fun x _ e=>e▸f.fnm));have u:=cB c;clear G g t f v s b n H I B c z;have E:=cB L;have R:=cB q;clear L q;refine cB ?_;go_wp2_with (first|rw[P.out]|(at_mapUpdate;refine jT rfl 209 _ _ _ rfl (.map (some i)) vJ (pH a.heap.size) rfl rfl rfl (fun w=>w=C) ⟨C,u.out,rfl⟩ ?_;rintro _ rfl))
  (first|go_end0|((try simp only[Exit.inBlock,Exit.then]);refine bodyPost_ret (results_none rfl _ _ _) rfl ?_))
  exact⟨⟨_,⟨_,_,_,_,_,_,M.out⟩,N.out,fun x l=>l.elim Or.inl (fun e=>Or.inr (by have:=E.out;omega))⟩,rfl⟩
end
section
open Go.RowKit Go.Maps
theorem nR(t:List Int):((strOfNums t).size:Int)=(t.length:Int):=by rw[fJ]
section
variable (W:World) (F:Nat→Prop) (d:Nat) (k:Dk) (ev:Value)
theorem aCN(h:Disk W F d k)(hok:gV k)(hold:k.old=none):
 Calls prog 197 #[.pointer (some ⟨d,0,none⟩),rZ] W fun e W'=>EndsK (.tuple #[]) ev W F d (dH k lC) e W':=by
 obtain⟨m,s,c,g,i,t,h⟩:=h;cases hs:fR k with
 |none=>
  have u:dH k lC=(k,(.some (.some (jZ k)))):=by unfold dH;rw[hs]
  rw[u];have K:=cB h;have o:Hid (Calls prog 185 #[.pointer (some ⟨d,0,none⟩)] W fun e W'=>e= .panicked (pI (jZ k))∧W'=W):=lX W F d k m s c g i t h hs;clear h hs;go_enter func197,ntmps197;go_wp2_with (go_at_call 185;refine o.out.mono ?_;rintro r n ⟨rfl,rfl⟩);exact⟨rfl,EndsK.dies ⟨_,_,_,_,_,_,K.out⟩⟩
 |some k1=>
  have u:dH k lC=(lC k1,.none):=by unfold dH;rw[hs]
  rw[u];have C:=gM hs;have o:Hid (Calls prog 185 #[.pointer (some ⟨d,0,none⟩)] W fun e W'=>e= .returned (.tuple #[])∧DkAt W' F d k1 m s c g i t∧Chg F W W'∧W'.heap.size=W.heap.size):=lV W F d k k1 m s c g i t h hok hs;clear h hs;go_enter func197,ntmps197;go_wp2_with (go_at_call 185;refine o.out.mono ?_;rintro r n ⟨rfl,a,A,_⟩;refine cE ?_);have I:=C.2.2.2.2.trans hold;have v:=aAi a.names;have P:=a.cell 1 _ rfl;have M:=cC a.log 0 _ rfl;have O:=cV a.log 1;have N:=cC a.log 1 _ rfl;have j:=nR k1.log;have f:=cZ n c 1 (.int .i64 ((strOfNums k1.log).size:Int));have l:FileAt (n.setCell ⟨c,1,none⟩ (.int .i64 ((strOfNums k1.log).size:Int))) c k1.log k1.log.length:=by
   have:=cU a.log 1 (.int .i64 ((strOfNums k1.log).size:Int));rw[j]at this⊢;exact this
  generalize y:n.setCell ⟨c,1,none⟩ (.int .i64 ((strOfNums k1.log).size:Int))=W2 at*;have L:=cB y;have w:DkAt W2 F d (lC k1) m s c g i t:=a.file a.log f rfl l (by
   show NewAt W2 F c g k1.new;have q:=a.new;cases hk:k1.new with
   |none=>rw[hk]at q;exact q
   |some p=>rw[hk]at q;obtain⟨b,J,E,D,z⟩:=q;exact⟨b,J,f.kept E z,D,z⟩) (by
   show OldAt W2 F c g i k1.old;have B:=a.old;rw[I]at B⊢;exact B) rfl
  have G:=cB w;have H:=cB (A.trans f (fun x _ e=>e▸a.flog));clear y f l a w A o C j;refine cB ?_;go_wp2_with (first|rw[L.out])
  (first|go_end0|((try simp only[Exit.inBlock,Exit.then]);refine bodyPost_ret (results_none rfl _ _ _) rfl ?_))
  exact⟨⟨_,⟨_,_,_,_,_,_,G.out⟩,H.out,fun x hx=>Or.inl hx⟩,rfl⟩
theorem aBU(t:List Int)(y:Int)(h:Disk W F d k)(hok:gV k)(hnew:k.new=some (t,y))(hold:k.old=none):
 Calls prog 197 #[.pointer (some ⟨d,0,none⟩),vJ] W fun e W'=>EndsK (.tuple #[]) ev W F d (dH k iD) e W':=by
 obtain⟨n,q,g,v,i,s,h⟩:=h;cases hs:fR k with
 |none=>
  have u:dH k iD=(k,(.some (.some (jZ k)))):=by unfold dH;rw[hs]
  rw[u];have L:=cB h;have p:Hid (Calls prog 185 #[.pointer (some ⟨d,0,none⟩)] W fun e W'=>e= .panicked (pI (jZ k))∧W'=W):=lX W F d k n q g v i s h hs;clear h hs;go_enter func197,ntmps197;go_wp2_with (go_at_call 185;refine p.out.mono ?_;rintro r o ⟨rfl,rfl⟩);exact⟨rfl,EndsK.dies ⟨_,_,_,_,_,_,L.out⟩⟩
 |some k1=>
  have u:dH k iD=(iD k1,.none):=by unfold dH;rw[hs]
  rw[u];have w:=gM hs;have p:Hid (Calls prog 185 #[.pointer (some ⟨d,0,none⟩)] W fun e W'=>e= .returned (.tuple #[])∧DkAt W' F d k1 n q g v i s∧Chg F W W'∧W'.heap.size=W.heap.size):=lV W F d k k1 n q g v i s h hok hs;clear h hs;go_enter func197,ntmps197;go_wp2_with (go_at_call 185;refine p.out.mono ?_;rintro r o ⟨rfl,c,C,_⟩;refine cE ?_);have K:=w.2.2.2.2.trans hold;have H:=w.2.2.2.1.trans hnew;have G:=c.new;rw[H]at G;obtain⟨b,rfl,f,D,j⟩:=G;have z:=tX c.names;have Q:=c.cell 1 _ rfl;have N:=cC f 0 _ rfl;have P:=cV f 1;have O:=cC f 1 _ rfl;have l:=nR t;have a:=cZ o b 1 (.int .i64 ((strOfNums t).size:Int));have m:FileAt (o.setCell ⟨b,1,none⟩ (.int .i64 ((strOfNums t).size:Int))) b t t.length:=by
   have:=cU f 1 (.int .i64 ((strOfNums t).size:Int));rw[l]at this⊢;exact this
  generalize B:o.setCell ⟨b,1,none⟩ (.int .i64 ((strOfNums t).size:Int))=W2 at*;have M:=cB B;have A:DkAt W2 F d (iD k1) n q g (some b) i s:=c.file f a rfl (a.kept c.log (Ne.symm j)) (by
   show NewAt W2 F g (some b) (iD k1).new;unfold iD;rw[H];exact⟨b,rfl,m,D,j⟩) (by
   show OldAt W2 F g (some b) i k1.old;have E:=c.old;rw[K]at E⊢;exact E) rfl
  have I:=cB A;have J:=cB (C.trans a (fun x _ e=>e▸D));clear B a m c A C p w l f;refine cB ?_;go_wp2_with (first|rw[M.out])
  (first|go_end0|((try simp only[Exit.inBlock,Exit.then]);refine bodyPost_ret (results_none rfl _ _ _) rfl ?_))
  exact⟨⟨_,⟨_,_,_,_,_,_,I.out⟩,J.out,fun x hx=>Or.inl hx⟩,rfl⟩
theorem aDN(t:List Int)(y:Int)(h:Disk W F d k)(hok:gV k)(hnew:k.new=some (t,y))(hold:k.old=none):
 Calls prog 200 #[.pointer (some ⟨d,0,none⟩),vJ,rZ] W fun e W'=>EndsK (.tuple #[]) ev W F d (dH k gG) e W':=by
 obtain⟨a,v,s,G,g,z,h⟩:=h;cases hs:fR k with
 |none=>
  have A:dH k gG=(k,(.some (.some (jZ k)))):=by unfold dH;rw[hs]
  rw[A];have I:=cB h;have u:Hid (Calls prog 185 #[.pointer (some ⟨d,0,none⟩)] W fun e W'=>e= .panicked (pI (jZ k))∧W'=W):=lX W F d k a v s G g z h hs;clear h hs;go_enter func200,ntmps200;go_wp2_with (go_at_call 185;refine u.out.mono ?_;rintro r C ⟨rfl,rfl⟩);exact⟨rfl,EndsK.dies ⟨_,_,_,_,_,_,I.out⟩⟩
 |some k1=>
  have A:dH k gG=(gG k1,.none):=by unfold dH;rw[hs]
  rw[A];have H:=gM hs;have u:Hid (Calls prog 185 #[.pointer (some ⟨d,0,none⟩)] W fun e W'=>e= .returned (.tuple #[])∧DkAt W' F d k1 a v s G g z∧Chg F W W'∧W'.heap.size=W.heap.size):=lV W F d k k1 a v s G g z h hok hs;clear h hs;go_enter func200,ntmps200;go_wp2_with (go_at_call 185;refine u.out.mono ?_;rintro r C ⟨rfl,c,Q,_⟩;refine cE ?_);have e3:=H.2.2.2.2.trans hold;have l:=H.2.2.2.1.trans hnew;have S:=c.new;rw[l]at S;obtain⟨b,rfl,P,U,K⟩:=S;have R:=c.old;rw[e3]at R;obtain rfl:g=s:=R;have N:=tX c.names;have c1:=c.cell 1 _ rfl;obtain⟨_,_,D⟩:=dM c.names;have I:=cB (fun ty=>aH3 c.names ty);have o:=cB c;have Y:Hid (∀j i,mS j a g none→Chg (fun x=>x=a) C j→mS i a b none→Chg (fun x=>x=a) j i→DkAt i F d (gG k1) a v b none g z∧Chg F W i):=fun j i m n p q=>by
   obtain⟨_,_,o2⟩:=dM m;have f:=n.trans q (fun _ _ h=>h);refine⟨c.names' f p ?_ ?_ U ?_ ?_ ?_,Q.trans f (fun x _ e=>e▸c.fnm)⟩
   ·unfold gG;rw[l]
   ·unfold gG;rw[l];exact P.kept D (by simp) f
   ·unfold gG;rw[l];rfl
   ·unfold gG;rw[l];exact⟨c.log.kept D (by simp) f,c.flog,Ne.symm K,by simp⟩
   ·unfold gG;rw[l]
  clear c Q u P H;refine cB ?_;go_wp2_with (first|(at_delete;refine pM rfl 209 9 _ _ rfl (.map (some a)) vJ rfl rfl (fun w=>mS w a g none∧Chg (fun x=>x=a) C w) (by obtain⟨w,E,B,J,_⟩:=I.out _;exact⟨w,E,B,J⟩) ?_;rintro j ⟨m,n⟩;refine cE ?_));have d1:=cC (n.kept o.out.blk (fun e=>dT o.out.blk D (by simp) e)) 1 _ rfl;have Z:=cB (aIn m b);have L:=cB m;have M:=cB n;clear m n;refine cB ?_;go_wp2_with (first|(at_mapUpdate;refine jT rfl 209 _ _ _ rfl (.map (some a)) rZ (pH b) rfl rfl rfl (fun w=>mS w a b none∧Chg (fun x=>x=a) j w) (by obtain⟨w,E,B,J,_⟩:=Z.out;exact⟨w,E,B,J⟩) ?_;rintro i ⟨p,q⟩;refine cE ?_));obtain⟨T,O⟩:=Y.out j i L.out M.out p q;have V:=cB T;have X:=cB O;clear T O p q;refine cB ?_;go_wp2_with fail
  (first|go_end0|((try simp only[Exit.inBlock,Exit.then]);refine bodyPost_ret (results_none rfl _ _ _) rfl ?_))
  exact⟨⟨_,⟨_,_,_,_,_,_,V.out⟩,X.out,fun x hx=>Or.inl hx⟩,rfl⟩
end
end
section
open Go.RowKit Go.Maps
theorem vO(W:World)(m:Nat)(es:Array MapEntry)(clk:Nat)(h:W.heap[m]?=some (.map es clk)):
 Calls prog 186 #[.map (some m)] W fun e W'=>e= .returned (.map (some W.heap.size))∧W'=W.alloc (.map es clk):=by
 have b:= @run_callFunc_extern prog 216 _ Extern.MapsClone.clone func216 (by kernel_rfl) (by kernel_rfl) (by kernel_rfl) (by kernel_rfl);have a:=run_maps_clone_sl (P:=prog) W 209 h;have d:=fun w=>run_eql_map_nil_sl (P:=prog) w 209 _ _ (some m) underlying209;have c:=fun w v=>run_typeAssert_map_sl (P:=prog) w 209 20 _ _ v underlying209;go_enter func186,ntmps186;go_wp2;go_ret;exact⟨rfl,rfl⟩
theorem aAB(W:World)(F:Nat→Prop)(d:Nat)(k:Dk)(ev:Value)(h:Disk W F d k)(hok:gV k)(hnew:k.new=none):
 Calls prog 163 #[.pointer (some ⟨d,0,none⟩)] W fun e W'=>EndsK (.tuple #[]) ev W F d (dH k oD) e W':=by
 obtain⟨g,w,i,u,s,o,h⟩:=h;cases hs:fR k with
 |none=>
  have y:dH k oD=(k,(.some (.some (jZ k)))):=by unfold dH;rw[hs]
  rw[y];have P:=cB h;have v:Hid (Calls prog 185 #[.pointer (some ⟨d,0,none⟩)] W fun e W'=>e= .panicked (pI (jZ k))∧W'=W):=lX W F d k g w i u s o h hs;clear h hs;go_enter func163,ntmps163;go_wp2_with (go_at_call 185;refine v.out.mono ?_;rintro r a ⟨rfl,rfl⟩);exact⟨rfl,EndsK.dies ⟨_,_,_,_,_,_,P.out⟩⟩
 |some k1=>
  have y:dH k oD=(oD k1,.none):=by unfold dH;rw[hs]
  rw[y];have H:=gM hs;have v:Hid (Calls prog 185 #[.pointer (some ⟨d,0,none⟩)] W fun e W'=>e= .returned (.tuple #[])∧DkAt W' F d k1 g w i u s o∧Chg F W W'∧W'.heap.size=W.heap.size):=lV W F d k k1 g w i u s o h hok hs;clear h hs;go_enter func163,ntmps163;go_wp2_with (go_at_call 185;refine v.out.mono ?_;rintro r a ⟨rfl,c,E,J⟩;refine cE ?_);have O:=H.2.2.2.1.trans hnew;obtain rfl:u=none:=by have:=c.new;rw[O]at this;exact this
  obtain⟨m,b,z⟩:=dM c.names;have C:=cB (vO a g m b z);have T:=c.cell 1 _ rfl;have l:Chg NoS a (a.alloc (.map m b)):=(Chg.refl _ _).alloc _;have p:(a.alloc (.map m b)).heap[a.heap.size]?=some (.map m b):=aA a _;have R:(a.alloc (.map m b)).heap.size=a.heap.size+1:=by simp
  have t:=c.apart l (fun _ _ h=>h);generalize K:a.alloc (.map m b)=W2 at*;have I:mS W2 a.heap.size i none:=pN c.names (p.trans z.symm);have A:=c.lt;have f:DkAt W2 (fun x=>F x∨x=a.heap.size) d k1 g w i none s o:=t.grow (fun _ h=>Or.inl h) (fun x n=>by rcases n with n|n;exact t.lt x n;omega);have S:=f.froz 2;have U:=f.cell 2 _ rfl;have j:=cZ W2 d 2 (.map (some a.heap.size));have q:=cU f.blk 2 (.map (some a.heap.size));generalize G:W2.setCell ⟨d,2,none⟩ (.map (some a.heap.size))=W3 at*;have N:=cB G;have D:DkAt W3 (fun x=>F x∨x=a.heap.size) d (oD k1) g a.heap.size i none i o:=
   f.self j q f.names I f.fnm (Or.inr rfl) (fun e=>by have:=A g c.fnm;omega) rfl rfl rfl rfl f.fail
  have L:=cB D;have M:=cB ((E.nos' l).trans j (fun x _ e=>e▸t.fd));have B:=cB J;clear G j q f D t p l I E J c v H K z;refine cB ?_;go_wp2_with (first|rw[N.out]|(go_at_call 186;refine C.out.mono ?_;rintro r Q ⟨rfl,rfl⟩))
  (first|go_end0|((try simp only[Exit.inBlock,Exit.then]);refine bodyPost_ret (results_none rfl _ _ _) rfl ?_))
  exact⟨⟨_,⟨_,_,_,_,_,_,L.out⟩,M.out,fun x n=>n.elim Or.inl (fun e=>Or.inr (by have:=B.out;omega))⟩,rfl⟩
theorem yB(t:List Int)(n:Nat):(strOfNums t).extract 0 n=strOfNums (t.take n):=by
 apply ByteArray.ext;simp[strOfNums,List.map_take]
end
section
open Go.RowKit Go.Maps
theorem aAA(W:World)(d nm:Nat)(room:Int)(es:Array MapEntry)(clk:Nat)(h:W.heap[d]?=some (.cells #[.int .i64 room,.map (some nm),.map none,.pointer none] 212 (0,0)))(o1:W.heap[nm]?=some (.map es clk)):
 Calls prog 163 #[.pointer (some ⟨d,0,none⟩)] W fun e W'=>e= .returned (.tuple #[])∧W'.heap[d]?=some (.cells #[.int .i64 room,.map (some nm),.map (some W.heap.size),.pointer none] 212 (0,0))∧W'.heap[W.heap.size]?=some (.map es clk)∧Chg (fun x=>x=d) W W'∧W'.heap.size=W.heap.size+1:=by
 have l:Hid (Calls prog 185 #[.pointer (some ⟨d,0,none⟩)] W fun e W'=>e= .returned (.tuple #[])∧W'=W):=by
  have z:=cC h 3 _ rfl;clear h;show Calls _ _ _ _ _;go_enter func185,ntmps185;go_wp2
  (first|go_end0|((try simp only[Exit.inBlock,Exit.then]);refine bodyPost_ret (results_none rfl _ _ _) rfl ?_))
  exact⟨rfl,rfl⟩
 have k:=cB (vO W nm es clk o1);have v:=cC h 1 _ rfl;have t:=cW h;have b:Chg NoS W (W.alloc (.map es clk)):=(Chg.refl _ _).alloc _;have i:(W.alloc (.map es clk)).heap[W.heap.size]?=some (.map es clk):=aA W _;have g:(W.alloc (.map es clk)).heap.size=W.heap.size+1:=by simp
 have a:=b.kept h (fun h=>h);generalize o:W.alloc (.map es clk)=W2 at*;have u:=cV a 2;have y:=cC a 2 _ rfl;have c:=cZ W2 d 2 (.map (some W.heap.size));have j:=cU a 2 (.map (some W.heap.size));have f:(W2.setCell ⟨d,2,none⟩ (.map (some W.heap.size))).heap.size=W.heap.size+1:=by simpa using g
 generalize n:W2.setCell ⟨d,2,none⟩ (.map (some W.heap.size))=W3 at*;have q:=cB n;have m:=c.kept i (by omega);have p:=cB (aJY j m ((b.mono (fun _ _ h=>h.elim):Chg (fun x=>x=d) W W2).trans c (fun x _ e=>e)) f);clear n c j i b o o1 m f g a h;go_enter func163,ntmps163;go_wp2_with (first|rw[q.out]|(go_at_call 185;refine l.out.mono ?_;rintro r w ⟨rfl,rfl⟩)|(go_at_call 186;refine k.out.mono ?_;rintro r s ⟨rfl,rfl⟩))
 (first|go_end0|((try simp only[Exit.inBlock,Exit.then]);refine bodyPost_ret (results_none rfl _ _ _) rfl ?_))
 exact⟨rfl,p.out⟩
theorem aDq{P:Program}{ops:Array Oper}{rest:List Oper}{o:Oper}{a:Act}{W:World}{Q:Exit→Act→World→Prop}(hg:o.guard=none)(t:TypeId)(m x y:Operand)(hop:o.op= .insert t m x y)(mv kv vv:Value)(hm:a.eval m=mv)(hx:a.eval x=kv)(hy:a.eval y=vv)(R:World→Prop)
 (hr:∃W',(Instr.mapUpdate t mv kv vv).run P W= .ok () W'∧R W') (h:∀W',R W'→wpList P ops Q rest (a.put o.dst undef) W'):wpList P ops Q (o::rest) a W:=by
 obtain⟨W',b,c⟩:=hr;refine tN hg W' ?_ (h W' c);simp[execOp,hop,hm,hx,hy,b,Result.andThen]
theorem aCH(W:World)(room:Int):
 Calls prog 122 #[.int .i64 room,rZ] W fun e W'=>∃d F',e= .returned (.pointer (some ⟨d,0,none⟩))∧Disk W' F' d (aHc room)∧Chg NoS W W'∧∀x,F' x→W.heap.size≤x:=by
 have a0:= @aA8 prog;have R:(W.alloc (.map #[] 0)).ownsMap (H:=Unit) prog 9 oX W.heap.size 0 (.map []):=World.ownsMap_made _ _ _ _;have B:Chg NoS W (W.alloc (.map #[] 0)):=(Chg.refl _ _).alloc _;have c:(W.alloc (.map #[] 0)).heap.size=W.heap.size+1:=by simp
 generalize l:W.alloc (.map #[] 0)=W1 at*;have K:=cB l;have u:Chg NoS W1 (W1.alloc (.cells #[.string ⟨#[]⟩,.int .i64 0] 214)):=(Chg.refl _ _).alloc _;have y:FileAt (W1.alloc (.cells #[.string ⟨#[]⟩,.int .i64 0] 214)) (W.heap.size+1) [] 0:=by rw[←c];exact aA W1 _
 have v:(W1.alloc (.cells #[.string ⟨#[]⟩,.int .i64 0] 214)).heap.size=W.heap.size+2:=by simp[c]
 have L:=R.alloc (.cells #[.string ⟨#[]⟩,.int .i64 0] 214);generalize m:W1.alloc (.cells #[.string ⟨#[]⟩,.int .i64 0] 214)=W2 at*;have n:=cB m;obtain⟨a,g,M,D⟩:=L.store xM underlying209 (by decide) aC9 (aAt (W.heap.size+1));have E:mS a W.heap.size (W.heap.size+1) none:=M.mono (by decide);have i:=nP D;have k:=(mO D).trans v;have A:FileAt a (W.heap.size+1) [] 0:=i.kept y (by omega);have f:Chg NoS a (a.alloc (.cells #[.int .i64 room,.map (some W.heap.size),.map none,.pointer none] 212)):=(Chg.refl _ _).alloc _;have z:(a.alloc (.cells #[.int .i64 room,.map (some W.heap.size),.map none,.pointer none] 212)).heap[W.heap.size+2]?=some (.cells #[.int .i64 room,.map (some W.heap.size),.map none,.pointer none] 212 (0,0)):=by rw[←k];exact aA a _
 have p:(a.alloc (.cells #[.int .i64 room,.map (some W.heap.size),.map none,.pointer none] 212)).heap.size=W.heap.size+3:=by simp[k]
 generalize s:a.alloc (.cells #[.int .i64 room,.map (some W.heap.size),.map none,.pointer none] 212)=W4 at*;have J:=cB s;have j:mS W4 W.heap.size (W.heap.size+1) none:=dE E (f.block _ E.lt (fun h=>h));have t:FileAt W4 (W.heap.size+1) [] 0:=f.kept A (fun h=>h);obtain⟨Q,o,F⟩:=dM j;have I:=cB (aAA W4 (W.heap.size+2) W.heap.size room Q o z F);have S:Hid (Chg (fun x=>x=W.heap.size) W W4):=by
  have V:Chg (fun x=>x=W.heap.size) W W2:=(B.nos.nos' u);exact(V.trans i (fun _ _ h=>h)).nos' f
 have Y:Hid (∀b,b.heap[W.heap.size+2]?=some (.cells #[.int .i64 room,.map (some W.heap.size),.map (some W4.heap.size),.pointer none] 212 (0,0))→b.heap[W4.heap.size]?=some (.map Q o)→Chg (fun x=>x=W.heap.size+2) W4 b→b.heap.size=W4.heap.size+1→
  Disk b (fun x=>W.heap.size≤x∧x<W.heap.size+4) (W.heap.size+2) (aHc room)∧Chg NoS W b):=fun b h1 h2 h3 h4=>by
  refine⟨⟨W.heap.size,W4.heap.size,W.heap.size+1,none,W.heap.size+1,.pointer none,⟨h1,by omega,dE j (h3.block _ j.lt (by omega)),pN j (h2.trans F.symm),by omega,by omega,by omega,h3.kept t (by omega),by omega,rfl,rfl,rfl,fun x hx=>by omega⟩⟩,?_⟩;have q:=(S.out.mono (fun _ _ h=>Or.inl h):Chg (fun x=>x=W.heap.size∨x=W.heap.size+2) W W4).trans h3 (fun x _ h=>Or.inr h);exact q.mono (fun x hx h=>by omega)
 have C:=cB g;have Z:=cB p;have G:=cB c;clear l m s g R L M D E j B u i f y A z c v p t F S;go_enter func122,ntmps122;go_wp2_with (first|rw[K.out]|(rw[G.out,n.out])|rw[n.out]|rw[J.out]|(refine aDq rfl 209 _ _ _ rfl (.map (some W.heap.size)) rZ (pH (W.heap.size+1)) rfl rfl rfl (fun w=>w=a) ⟨a,C.out,rfl⟩ ?_;rintro _ rfl)|(go_at_call 163;refine I.out.mono ?_;rintro r b ⟨rfl,P,N,T,O⟩;refine cE ?_));obtain⟨U,X⟩:=Y.out b P N T O;clear P N T O;refine cB ?_;go_wp2_with fail;go_ret;exact⟨_,_,rfl,U,X,fun x hx=>hx.1⟩
end
section
open Go.RowKit Go.Maps
theorem aCb{fl:Nat}{fn:Option Nat}{kl:Lit}{y:DataW Unit}(h:∀zd,(fL fl fn).atKey kl zd=y):(kl= .string pS∧y= .lit (.int .i64 fl))∨∃b,fn=some b∧kl= .string uZ∧y= .lit (.int .i64 b):=by
 have a:=h (.lit (.int .i64 0));have c:=h (.lit (.int .i64 1));cases fn with
 |none=>
  simp only[fL,DataW.atKey,List.find?_cons,List.find?_nil]at a c;cases hk:(Lit.string pS).sameKey kl with
  |true=>rw[hk]at a;exact Or.inl ⟨(WideAt.sameKey_eq hk).symm,a.symm⟩
  |false=>rw[hk]at a c;dsimp only at a c;rw[←c]at a;cases a
 |some b=>
  simp only[fL,DataW.atKey,List.find?_cons,List.find?_nil]at a c;cases hk:(Lit.string pS).sameKey kl with
  |true=>rw[hk]at a;exact Or.inl ⟨(WideAt.sameKey_eq hk).symm,a.symm⟩
  |false=>
   cases hk':(Lit.string uZ).sameKey kl with
   |true=>rw[hk,hk']at a;exact Or.inr ⟨b,rfl,(WideAt.sameKey_eq hk').symm,a.symm⟩
   |false=>rw[hk,hk']at a c;dsimp only at a c;rw[←c]at a;cases a
theorem aDW(W:World)(F:Nat→Prop)(d:Nat)(k:Dk)(q:Int)(h:Disk W F d k)(hy0:0≤(eM k).2)(hy1:(eM k).2≤((eM k).1.length:Int))(hl:((eM k).1.length:Int)≤1000000000000)(hq:0≤q):
 Calls prog 166 #[.pointer (some ⟨d,0,none⟩),.int .i64 q] W fun e W'=>e= .returned (.tuple #[])∧DkTo W F d (gC k q) W':=by
 obtain⟨nm,km,fl,fn,a,fv,h⟩:=h;have f:FileAt W a (eM k).1 (eM k).2∧F a:=by
  have ho:=h.old;unfold eM;cases hk:k.old with
  |none=>rw[hk]at ho;obtain rfl:a=fl:=ho;exact⟨h.log,h.flog⟩
  |some p=>rw[hk]at ho;exact⟨ho.1,ho.2.1⟩
 have eC:gC k q=⟨k.room,vH (eM k).1 (eM k).2 q,(vH (eM k).1 (eM k).2 q).length,none,none,none⟩:=rfl;rw[eC];clear eC;generalize hp:eM k=p at*;obtain⟨t,y⟩:=p;dsimp only at f hy0 hy1 hl⊢;obtain⟨J,hJ⟩:=aJ7 (y+min q ((t.length:Int)-y));have eC:vH t y q=t.take J.toNat:=by unfold vH;rw[hJ]
 rw[eC];have g4:0≤J:=by omega
 have f9:J≤(t.length:Int):=by omega
 have e7:=nR t;have g5:J≤((strOfNums t).size:Int):=by rw[e7];exact f9
 have z3:=h.froz 3;have c3:=h.cell 3 _ rfl;have N:=cZ W d 3 (.pointer none);have c8:=cU h.blk 3 (.pointer none);have K:(W.setCell ⟨d,3,none⟩ (.pointer none)).heap.size=W.heap.size:=by simp
 generalize a4:W.setCell ⟨d,3,none⟩ (.pointer none)=W1 at*;have b3:=cB a4;have h1:DkAt W1 F d {k with fail:=none} nm km fl fn a (.pointer none):=h.self' N c8 h.names h.kept h.fnm h.fkm h.nk rfl rfl rfl h.old rfl;have f1:FileAt W1 a t y:=N.kept f.1 (fun e=>fM f.1 h.blk (by decide) e);have d2:=h1.cell 2 _ rfl;obtain⟨O,l,o1⟩:=dM h1.kept;have c5:=cB (vO W1 km O l o1);have I:Chg NoS W1 (W1.alloc (.map O l)):=(Chg.refl _ _).alloc _;have Z:(W1.alloc (.map O l)).heap[W1.heap.size]?=some (.map O l):=aA W1 _;have a6:(W1.alloc (.map O l)).heap.size=W.heap.size+1:=by simp[K]
 have E:=h1.apart I (fun _ _ h=>h);have f2:FileAt (W1.alloc (.map O l)) a t y:=I.kept f1 (fun h=>h);have n2:mS (W1.alloc (.map O l)) W1.heap.size a none:=pN h1.kept (Z.trans o1.symm);generalize e6:W1.alloc (.map O l)=W2 at*;rw[K]at n2 Z;have z1:=E.froz 1;have d1:=E.cell 1 _ rfl;have u:=cZ W2 d 1 (.map (some W.heap.size));have a1:=cU E.blk 1 (.map (some W.heap.size));have a3:(W2.setCell ⟨d,1,none⟩ (.map (some W.heap.size))).heap.size=W.heap.size+1:=by simpa using a6
 generalize c7:W2.setCell ⟨d,1,none⟩ (.map (some W.heap.size))=W3 at*;have b4:=cB c7;have f3:FileAt W3 a t y:=u.kept f2 (fun e=>fM f2 E.blk (by decide) e);have n3:mS W3 W.heap.size a none:=dE n2 (u.block _ (by omega) (fun e=>by have:=h.lt d h.fd;omega));have k3:mS W3 km a none:=dE E.kept (u.block _ E.kept.lt (fun e=>by obtain⟨_,_,o⟩:=dM E.kept;exact dT o E.blk (by simp) e));have e8:=cB (((N.mono (fun x _ e=>e▸h.fd):Chg F W W1).nos' I).trans u (fun x _ e=>e▸h.fd));have b5:Hid (W3.heap[d]?=some (.cells (dkL ⟨k.room,t.take J.toNat,(t.take J.toNat).length,none,none,none⟩ W.heap.size km (.pointer none)).toArray 212 (0,0))):=a1;have C:=cB f3;have H:=cB n3;have L:=cB k3;have m:=cB (aJY h.fd h.fkm f.2 h.lt);have e4:=cB (h.lt _ h.fkm);have e0:=cB K;have e9:=cB a3;have e1:=cC a1 1 _ rfl;clear a4 e6 c7 N I u c8 Z a1 h1 E f1 f2 f3 n2 n3 k3 h f a6 a3 K o1 hp eC;go_enter func166,ntmps166;go_wp2_with (first|rw[b3.out]|rw[b4.out]|(go_at_call 186;refine c5.out.mono ?_;rintro r g3 ⟨rfl,rfl⟩;try rw[e0.out])|(at_range;refine wpList_range_own _ rfl _ 209 rfl 9 207 xM underlying209 oX W.heap.size 2 (fL a none) rfl H.out ?_;intro W4 U a7 b0;refine cE ?_));have B:=cB a7;have d8:=cB U;have c9:=cB b0;clear a7 U b0 b3 b4 c5 z1 d1 d2 z3 c3 e1;refine cB ?_;go_wp2_with fail;refine wp_loop_rounds 2 ?_;rw[rounds_succ]
 go_wp2_with (at_next;refine wpList_next_ranges _ rfl _ rfl 9 xM oX (fun v:Value=>v) (fun v:Value=>v) (fun key kl h=>⟨key,rfl⟩) (fun v y h=>⟨v,rfl⟩) W.heap.size W3.heap.size 2 (fL a none) _ _ rfl d8.out ?_ ?_)
 ·intro a2;exact absurd (show(1:Nat)=0 from a2) (by decide)
 ·intro x c kl y1 y2 W5 d9 d5 e3 hR c4 T d7 s a9 g0;have a2:d9=0:=by have e:Maps.size (fL a none)=1:=rfl;omega
  subst a2;have f0:c=pH a:=by
   rcases aCb c4 with⟨_,e⟩|⟨b,e,_⟩
   ·subst e;exact nC hR
   ·cases e
  subst f0;have Q:=cB T;have D:Chg NoS W3 W5:=by
   have q4:Chg NoS W3 W4:=⟨B.out.os,B.out.tape,B.out.output,B.out.size,fun x n _=>B.out.block x n (by simp)⟩;have q5:Chg (fun x=>x=W3.heap.size) W4 W5:=⟨s.os,s.tape,s.output,s.size,fun x n hn=>s.block x n (fun e=>hn (aN e))⟩;exact(q4.mono (fun _ _ h=>h.elim):Chg NoS W3 W4).trans (S:=NoS) q5 (fun x n e=>by omega)
  have R:W5.heap.size=W3.heap.size+1:=by rw[a9,c9.out]
  have G:FileAt W5 a t y:=D.kept C.out (fun h=>h);have c0:=cC G 0 _ rfl;have c1:=cC G 1 _ rfl;have b9:=cB G;have b8:=cB D;have b1:=cB R;clear d5 e3 hR c4 T d7 s a9 G D R;have w1:IntKind.i64.wrap ((t.length:Int)-y)=(t.length:Int)-y:=dZ (by omega) (by omega);have e5:wrap64 ((t.length:Int)-y)=(t.length:Int)-y:=by unfold wrap64;omega
  go_wp2_with fail;refine rlx [0,0,0,0,1,0,0,0,1,0,0,0,0,1,1,0,0,0,1,0,0,0,0,0,0] (fun x=>x.cell? ⟨a,0,none⟩=some (.string (strOfNums t))∧x.cell? ⟨a,1,none⟩=some (.int .i64 y)) (by kernel_rfl) (fun _ _ _ _=>rfl) ?_ ?_
  ·exact⟨c0,c1⟩
  have w2:IntKind.i64.wrap (y+min q ((t.length:Int)-y))=J:=by rw[←hJ];exact dZ (by omega) (by omega)
  have f6:wrap64 (y+min q ((t.length:Int)-y))=J:=by rw[←hJ];unfold wrap64;omega
  clear hJ;simp only[cL,cK];iterate 25 (apply sB rfl rfl;·(intro x h;(try have h:=h rfl);(try dsimp only at h);go_simp;with_reducible rfl))
  refine cD ?_;try simp only[pA]
  rw[yB];obtain⟨j,V⟩:=aJ7 (t.take J.toNat);rw[←V];have HT:=cB V;clear V w1 e5 w2 f6 c0 c1 g0;generalize A:W5.drew=Wd;have M:FileAt Wd a t y:=by rw[←A];exact b9.out
  have b2:Chg NoS W3 Wd:=by rw[←A];exact b8.out.drew
  have c2:Wd.ranges prog 9 oX W.heap.size W3.heap.size 2 (fL a none) (fun z=>has (fL a none) z&& !z.sameKey kl) 0:=by rw[←A];exact Q.out
  have g1:Wd.heap.size=W3.heap.size+1:=by rw[←A];exact b1.out
  clear A b9 b8 Q b1;have c0:=cC M 0 _ rfl;have z0:=cV M 0;have a0:=cZ Wd a 0 (.string (strOfNums j));have b6:=cU M 0 (.string (strOfNums j));have e2:(Wd.setCell ⟨a,0,none⟩ (.string (strOfNums j))).heap.size=Wd.heap.size:=by simp
  generalize a8:Wd.setCell ⟨a,0,none⟩ (.string (strOfNums j))=W6 at*;have f4:=cB a8;have w:FileAt W6 a j y:=b6;have d0:=cC w 0 _ rfl;have d1:=cC w 1 _ rfl;have z1:=cV w 1;have g2:=nR j;have X:=cZ W6 a 1 (.int .i64 (j.length:Int));have c6:=cU w 1 (.int .i64 (j.length:Int));have f8:(W6.setCell ⟨a,1,none⟩ (.int .i64 (j.length:Int))).heap.size=W6.heap.size:=by simp
  generalize b7:W6.setCell ⟨a,1,none⟩ (.int .i64 (j.length:Int))=W7 at*;have f5:=cB b7;have a5:FileAt W7 a j j.length:=c6;have i:=((b2.nos:Chg (fun x=>x=a) W3 Wd).trans a0 (fun _ _ h=>h)).trans X (fun _ _ h=>h);have g:=a0.trans X (fun _ _ h=>h);have d4:=cW C.out;have f7:=m.out.2.2.2 a m.out.2.2.1;have P:=c2.kept (row:=some a) ⟨g.os,g.tape,g.output,g.size,fun x n hn=>g.block x n (fun e=>hn (by rw[e]))⟩ (by simp;omega) (by simp;omega);have d3:=cB P;have d6:Hid (DkTo W F d ⟨k.room,j,j.length,none,none,none⟩ W7):=by
   have h7:DkAt W7 (fun x=>F x∨x=W.heap.size) d ⟨k.room,j,j.length,none,none,none⟩ W.heap.size km a none a (.pointer none):=by
    have Y:=b5.out;rw[←HT.out]at Y;exact⟨i.kept Y (fun e=>fM Y C.out (by decide) e),Or.inl m.out.1,dE H.out (i.block _ H.out.lt (by omega)),dE L.out (i.block _ L.out.lt (fun e=>by obtain⟨_,_,o⟩:=dM L.out;exact dT o C.out (by simp) e)),Or.inr rfl,Or.inl m.out.2.1,(by have:=e4.out;omega),a5,Or.inl m.out.2.2.1,rfl,rfl,rfl,fun x n=>by
     have:=i.size;have:=e9.out;rcases n with n|n
     ·have:=m.out.2.2.2 x n;omega
     ·omega⟩
   exact⟨_,⟨_,_,_,_,_,_,h7⟩,e8.out.trans i (fun x _ e=>e▸m.out.2.2.1),fun x n=>n.elim Or.inl (fun e=>Or.inr (by omega))⟩
  clear a8 b7 a0 X b6 c6 w a5 i g P c2 b2 g1 e2 f8 M C b5 H L d4 f7;go_wp2_with (first|rw[f4.out]|rw[f5.out]);rw[rounds_succ];go_wp2_with (at_next;refine wpList_next_ranges _ rfl _ rfl 9 xM oX (fun v:Value=>v) (fun v:Value=>v) (fun key kl h=>⟨key,rfl⟩) (fun v y h=>⟨v,rfl⟩) W.heap.size W3.heap.size 2 (fL a none) _ _ rfl d3.out ?_ ?_);try intros
  go_wp2_with fail
  (first|go_end0|((try simp only[Exit.inBlock,Exit.then]);refine bodyPost_ret (results_none rfl _ _ _) rfl ?_))
  rw[←HT.out];exact⟨rfl,d6.out⟩
end
section
open Go.RowKit Go.Maps
def aAE(k:Dk)(left:Lit→Bool):Int:=(if left (.string pS)=true then(k.log.length:Int)else 0)+(if left (.string uZ)=true then hP k else 0)
section
variable (W:World) (F:Nat→Prop) (d:Nat) (k:Dk)
theorem vA(ev:Value)(n:Int)(h:Disk W F d k)(hev:W.cell? ⟨0,0,none⟩=some ev)(hn0:0≤n)(hn1:n≤1000000000000)(hl:(k.log.length:Int)≤1000000000000)(hl2:hP k≤1000000000000):
 Calls prog 221 #[.pointer (some ⟨d,0,none⟩),.int .i64 n] W fun e W'=>e= .returned (if k.room<jO k+n then ev else .nilIface)∧Chg NoS W W':=by
 obtain⟨nm,km,r,M,fk,fv,h⟩:=h;have c1:=h.cell 1 _ rfl;have HD:=cB h;have b1:=cB hev;have P:=Nat.lt_of_le_of_lt (aI d) (h.lt d h.fd);clear h hev;have a6:=cB P;clear P;have c2:0≤hP k:=by unfold hP;split<;>omega
 obtain⟨R,L,K⟩:∃R,(k.room<jO k+n→R=ev)∧(¬k.room<jO k+n→R= .nilIface):=⟨if k.room<jO k+n then ev else .nilIface,fun h=>if_pos h,fun h=>if_neg h⟩;have a0:=cB (aJW L K);have eR:(if k.room<jO k+n then ev else .nilIface)=R:=by
  by_cases hq:k.room<jO k+n
  ·rw[if_pos hq,L hq]
  ·rw[if_neg hq,K hq]
 rw[eR];clear eR L K;go_enter func221,ntmps221;go_wp2_with (at_range;refine wpList_range_own _ rfl _ 209 rfl 9 207 xM underlying209 oX nm 2 (fL r M) rfl HD.out.names ?_;intro W4 E O Q;refine cE ?_);have m:=cB O;have a5:=cB E;have b2:=cB Q;have A:aAE k (has (fL r M))=jO k:=by
  have j:=HD.out.new;unfold aAE jO hP;cases hk:k.new with
  |none=>
   rw[hk]at j;obtain rfl:M=none:=j;have H:has (fL r none) (.string pS)=true:=rfl;have I:has (fL r none) (.string uZ)=false:=rfl;rw[H,I];simp
  |some p=>
   rw[hk]at j;obtain⟨b,rfl,_⟩:=j;have H:has (fL r (some b)) (.string pS)=true:=rfl;have I:has (fL r (some b)) (.string uZ)=true:=rfl;rw[H,I];simp
 have a2:=cB A;clear O E Q c1 A;refine cB ?_;go_wp2_with fail;go_loopw [1] (fun i wr=>∃(a:Lit→Bool) (T:Nat) (x:Int),i= .int .i64 x∧wr.ranges prog 9 oX nm W.heap.size 2 (fL r M) a T∧x+aAE k a=jO k+n∧0≤x∧Chg NoS W wr) (fun _ wr=>wr.rangeLeft nm W.heap.size)
 case atStart=>
  exact⟨_,_,n,rfl,a5.out,by rw[a2.out];omega,hn0,⟨m.out.os,m.out.tape,m.out.output,m.out.size,fun x G _=>m.out.block x G (by simp)⟩⟩
 case round=>
  obtain⟨a,T,x,rfl,Z,G,hx0,U⟩:=hrel;have V:=cB Z;have l:=cB U;have HX:=cB G;clear Z U G;go_wp2_with (at_next;refine wpList_next_ranges _ rfl _ rfl 9 xM oX (fun v:Value=>v) (fun v:Value=>v) (fun key kl h=>⟨key,rfl⟩) (fun v y h=>⟨v,rfl⟩) nm W.heap.size 2 (fL r M) _ _ rfl V.out ?_ ?_)
  ·intro b8 N;have S:x=jO k+n:=by
    have:=HX.out;unfold aAE at this;rw[N,N]at this;simpa using this
   have f:=HD.out.apart l.out (fun _ _ h=>h);have d0:=f.cell 0 _ rfl;have b3:=(aW (l.out.block 0 a6.out (fun h=>h))).trans b1.out;have Y:=cB S;clear f S;by_cases s:k.room<x
   ·have hb:decide (k.room<x)=true:=by simpa using s
    have HE:=cB (a0.out.1 (by have:=Y.out;omega));clear s;go_wp2_with fail;go_ret;exact⟨by rw[HE.out];rfl,l.out⟩
   ·have hb:decide (k.room<x)=false:=by simpa using s
    have HE:=cB (a0.out.2 (by have:=Y.out;omega));clear s;go_wp2_with fail;go_ret;exact⟨by rw[HE.out];rfl,l.out⟩
  ·intro xk c kl y1 y2 W5 b4 a4 J hR X C B g a7 c0;have o:Chg NoS W W5:=by
    have q5:Chg (fun x=>x=W.heap.size) _ W5:=⟨g.os,g.tape,g.output,g.size,fun x G j=>g.block x G (fun e=>j (aN e))⟩;exact l.out.trans q5 (fun x G e=>by omega)
   have f:=HD.out.apart o (fun _ _ h=>h);obtain⟨b,t,y,hc,q,w,b6⟩:∃b t y,c=pH b∧FileAt W5 b t y∧aAE k a=(t.length:Int)+aAE k (fun z=>a z&& !z.sameKey kl)∧(t.length:Int)≤1000000000000:=by
    rcases aCb X with⟨rfl,e⟩|⟨b,hb,rfl,e⟩
    ·subst e;refine⟨r,k.log,k.lsyn,nC hR,f.log,?_,hl⟩;have H:(Lit.string pS).sameKey (.string pS)=true:=rfl;have I:(Lit.string uZ).sameKey (.string pS)=false:=rfl;simp[aAE,J,H,I]
    ·subst e;subst hb;have j:=f.new;cases hk:k.new with
     |none=>rw[hk]at j;cases j
     |some p=>
      rw[hk]at j;obtain⟨b',a8,hf,_⟩:=j;obtain rfl:=aN a8;have D:hP k=p.1.length:=by unfold hP;rw[hk]
      refine⟨b,p.1,p.2,nC hR,hf,?_,by rw[←D];exact hl2⟩;have H:(Lit.string uZ).sameKey (.string uZ)=true:=rfl;have I:(Lit.string pS).sameKey (.string uZ)=false:=rfl;simp[aAE,J,H,I,D];try omega
   subst hc;have f0:=cC q 0 _ rfl;have b7:=nR t;have b0:0≤aAE k (fun z=>a z&& !z.sameKey kl):=by
    unfold aAE;split<;>split<;>omega
   have b9:jO k≤2000000000000:=by unfold jO;omega
   have w1:IntKind.i64.wrap (x+(t.length:Int))=x+(t.length:Int):=dZ (by omega) (by have:=HX.out;omega);have b5:wrap64 (x+(t.length:Int))=x+(t.length:Int):=by have:=HX.out;unfold wrap64;omega
   have u:=cB C;have a9:=cB o;have a1:=cB w;have a3:=cB B;have hx1:0≤x+(t.length:Int):=by omega
   clear a4 J hR X C B g a7 f q w o b0;go_wp2_with fail;go_roundw
   case rel=>exact⟨_,_,_,rfl,u.out,by have:=HX.out;have:=a1.out;omega,hx1,a9.out⟩
   case measure=>rw[u.out.left_eq,V.out.left_eq];exact a3.out
theorem aAx(te:TypeId)(ve:Value)(s:List Int)(h:Disk W F d k)(hok:gV k)(hev:W.cell? ⟨0,0,none⟩=some (.iface te ve))(h0F:¬F 0)(hold:k.old=none)(hs1:(s.length:Int)≤1000000000000)(hl:(k.log.length:Int)≤1000000000000)(hl2:hP k≤1000000000000):
 Calls prog 196 #[.pointer (some ⟨d,0,none⟩),rZ,.string (strOfNums s)] W fun e W'=>EndsK .nilIface (.iface te ve) W F d (dQ k s kD) e W':=by
 obtain⟨V,Z,j,v,H,fv,h⟩:=h;cases hs:fR k with
 |none=>
  have X:dQ k s kD=(k,(.some (.some (jZ k)))):=by unfold dQ;rw[hs]
  rw[X];have HD:=cB h;have G:Hid (Calls prog 185 #[.pointer (some ⟨d,0,none⟩)] W fun e W'=>e= .panicked (pI (jZ k))∧W'=W):=lX W F d k V Z j v H fv h hs;clear h hs;go_enter func196,ntmps196;go_wp2_with (go_at_call 185;refine G.out.mono ?_;rintro r n ⟨rfl,rfl⟩);exact⟨rfl,EndsK.dies ⟨_,_,_,_,_,_,HD.out⟩⟩
 |some k1=>
  have K:=gM hs;have R:=cB (Nat.lt_of_le_of_lt (aI d) (h.lt d h.fd));have G:Hid (Calls prog 185 #[.pointer (some ⟨d,0,none⟩)] W fun e W'=>e= .returned (.tuple #[])∧DkAt W' F d k1 V Z j v H fv∧Chg F W W'∧W'.heap.size=W.heap.size):=lV W F d k k1 V Z j v H fv h hok hs;have S:(k1.log.length:Int)≤1000000000000:=by rw[K.2.1];exact hl
  have t:hP k1≤1000000000000:=by unfold hP at hl2⊢;rw[K.2.2.2.1];exact hl2
  have l:=K.2.2.2.2.trans hold;have T:=cB hev;have E:=cB (aJY S t l K);have eF:∀q:Prop,[Decidable q]→(if q then(Value.iface te ve)else .nilIface)=if q then(Value.iface te ve)else .nilIface:=fun _ _=>rfl
  have X:dQ k s kD=if k1.room<jO k1+s.length then(k1,(.some .none))else(kD k1 s,.none):=by unfold dQ;rw[hs]
  rw[X];clear h hs hev hl hl2 hold S t l K eF X;by_cases g:k1.room<jO k1+s.length
  ·rw[if_pos g];have z:=cB g;clear g;go_enter func196,ntmps196;go_wp2_with (go_at_call 185;refine G.out.mono ?_;rintro r n ⟨rfl,i,u,L⟩;refine cE ?_);have Q:=cB L;have A:=cB u;have a:=(aW (u.block 0 R.out h0F)).trans T.out;have a0:=nR s;have c:=vA n F d k1 (.iface te ve) s.length ⟨_,_,_,_,_,_,i⟩ a (by omega) hs1 E.out.1 E.out.2.1;have f:=aAi i.names;have c1:=i.cell 1 _ rfl;have C:=cB i;clear u L a G i;rw[if_pos z.out]at c;have B:Hid (Calls prog 221 #[.pointer (some ⟨d,0,none⟩),.int .i64 s.length] n fun e W'=>e= .returned (.iface te ve)∧Chg NoS n W'):=c;clear c;refine cB ?_;go_wp2_with (first|(go_at_call 221;refine B.out.mono ?_;rintro r m ⟨rfl,y⟩;refine cE ?_));have M:Chg NoS n (m.alloc (.cells #[.string ⟨#[97,112,112,101,110,100]⟩,rZ,.iface te ve] 239)):=y.alloc _;have O:(m.alloc (.cells #[.string ⟨#[97,112,112,101,110,100]⟩,rZ,.iface te ve] 239)).heap[m.heap.size]?=some (.cells #[.string ⟨#[97,112,112,101,110,100]⟩,rZ,.iface te ve] 239 (0,0)):=aA m _;generalize J:m.alloc (.cells #[.string ⟨#[97,112,112,101,110,100]⟩,rZ,.iface te ve] 239)=W3 at*;have HX:=cB J;have N:=cB M;have a1:=cB O;have a2:=cB y.size;clear J M O y f c1;refine cB ?_;go_wp2_with (first|rw[HX.out]);go_ret;exact⟨⟨F,⟨_,_,_,_,_,_,C.out.apart N.out (fun _ _ h=>h)⟩,A.out.nos' N.out,fun x hx=>Or.inl hx⟩,m.heap.size,rfl,⟨_,a1.out⟩,by have:=a2.out;have:=Q.out;omega⟩
  ·rw[if_neg g];have z:=cB g;clear g;go_enter func196,ntmps196;go_wp2_with (go_at_call 185;refine G.out.mono ?_;rintro r n ⟨rfl,i,u,L⟩;refine cE ?_);have Q:=cB L;have A:=cB u;have a:=(aW (u.block 0 R.out h0F)).trans T.out;have a0:=nR s;have c:=vA n F d k1 (.iface te ve) s.length ⟨_,_,_,_,_,_,i⟩ a (by omega) hs1 E.out.1 E.out.2.1;have f:=aAi i.names;have c1:=i.cell 1 _ rfl;have C:=cB i;clear u L a G i;rw[if_neg (by have:=z.out;omega)]at c;have B:Hid (Calls prog 221 #[.pointer (some ⟨d,0,none⟩),.int .i64 s.length] n fun e W'=>e= .returned .nilIface∧Chg NoS n W'):=c;clear c;refine cB ?_;go_wp2_with (first|(go_at_call 221;refine B.out.mono ?_;rintro r m ⟨rfl,y⟩;refine cE ?_));have D:=C.out.apart y (fun _ _ h=>h);have I:=D.log;have f0:=cC I 0 _ rfl;have z0:=cV I 0;have o:=cZ m j 0 (.string (strOfNums k1.log++strOfNums s));have U:FileAt (m.setCell ⟨j,0,none⟩ (.string (strOfNums k1.log++strOfNums s))) j (k1.log++s) k1.lsyn:=by
    have:=cU I 0 (.string (strOfNums k1.log++strOfNums s));rw[lY]at this⊢;exact this
   generalize J:m.setCell ⟨j,0,none⟩ (.string (strOfNums k1.log++strOfNums s))=W3 at*;have HX:=cB J;have h3:DkAt W3 F d (kD k1 s) V Z j v H fv:=D.file I o rfl U (by
    show NewAt W3 F j v (kD k1 s).new;show NewAt W3 F j v k1.new;have Y:=D.new;cases hk:k1.new with
    |none=>rw[hk]at Y;exact Y
    |some p=>rw[hk]at Y;obtain⟨b,n1,n2,n3,n4⟩:=Y;exact⟨b,n1,o.kept n2 n4,n3,n4⟩) (by
    show OldAt W3 F j v H k1.old;have ho:=D.old;rw[E.out.2.2.1]at ho⊢;exact ho) rfl
   have HR:=cB h3;have HC:=cB ((A.out.nos' y).trans o (fun x _ e=>e▸D.flog));have a3:=fun w=>run_string_add_sum (P:=prog) w (strOfNums k1.log) (strOfNums s) (by rw[fJ,fJ];have:=E.out.1;omega);clear J o U h3 D y I f c1;refine cB ?_;go_wp2_with (first|rw[HX.out]);go_ret;exact⟨⟨_,⟨_,_,_,_,_,_,HR.out⟩,HC.out,fun x hx=>Or.inl hx⟩,rfl⟩
theorem aAM(te:TypeId)(ve:Value)(s:List Int)(t:List Int)(y:Int)(h:Disk W F d k)(hok:gV k)(hev:W.cell? ⟨0,0,none⟩=some (.iface te ve))(h0F:¬F 0)(hnew:k.new=some (t,y))(hold:k.old=none)(hs1:(s.length:Int)≤1000000000000)(hl:(k.log.length:Int)≤1000000000000)(hl2:hP k≤1000000000000):
 Calls prog 196 #[.pointer (some ⟨d,0,none⟩),vJ,.string (strOfNums s)] W fun e W'=>EndsK .nilIface (.iface te ve) W F d (dQ k s iQ) e W':=by
 obtain⟨nm,km,v,fn,K,fv,h⟩:=h;cases hs:fR k with
 |none=>
  have eS:dQ k s iQ=(k,(.some (.some (jZ k)))):=by unfold dQ;rw[hs]
  rw[eS];have HD:=cB h;have J:Hid (Calls prog 185 #[.pointer (some ⟨d,0,none⟩)] W fun e W'=>e= .panicked (pI (jZ k))∧W'=W):=lX W F d k nm km v fn K fv h hs;clear h hs;go_enter func196,ntmps196;go_wp2_with (go_at_call 185;refine J.out.mono ?_;rintro r n ⟨rfl,rfl⟩);exact⟨rfl,EndsK.dies ⟨_,_,_,_,_,_,HD.out⟩⟩
 |some k1=>
  have H:=gM hs;have U:=cB (Nat.lt_of_le_of_lt (aI d) (h.lt d h.fd));have J:Hid (Calls prog 185 #[.pointer (some ⟨d,0,none⟩)] W fun e W'=>e= .returned (.tuple #[])∧DkAt W' F d k1 nm km v fn K fv∧Chg F W W'∧W'.heap.size=W.heap.size):=lV W F d k k1 nm km v fn K fv h hok hs;have V:(k1.log.length:Int)≤1000000000000:=by rw[H.2.1];exact hl
  have u:hP k1≤1000000000000:=by unfold hP at hl2⊢;rw[H.2.2.2.1];exact hl2
  have m:=H.2.2.2.2.trans hold;have e4:=H.2.2.2.1.trans hnew;have C:=cB e4;obtain⟨b,rfl,p⟩:∃b,fn=some b∧b≠v:=by
   have O:=h.new;rw[hnew]at O;obtain⟨b,i,_,_,q4⟩:=O;exact⟨b,i,q4⟩
  clear e4;have X:=cB hev;have I:=cB (aJY V u m H);have eF:∀q:Prop,[Decidable q]→(if q then(Value.iface te ve)else .nilIface)=if q then(Value.iface te ve)else .nilIface:=fun _ _=>rfl
  have eS:dQ k s iQ=if k1.room<jO k1+s.length then(k1,(.some .none))else(iQ k1 s,.none):=by unfold dQ;rw[hs]
  rw[eS];clear h hs hev hl hl2 hold V u m H eF eS;by_cases g:k1.room<jO k1+s.length
  ·rw[if_pos g];have B:=cB g;clear g;go_enter func196,ntmps196;go_wp2_with (go_at_call 185;refine J.out.mono ?_;rintro r n ⟨rfl,j,i,A⟩;refine cE ?_);have T:=cB A;have D:=cB i;have a:=(aW (i.block 0 U.out h0F)).trans X.out;have a0:=nR s;have c:=vA n F d k1 (.iface te ve) s.length ⟨_,_,_,_,_,_,j⟩ a (by omega) hs1 I.out.1 I.out.2.1;have f:=tX j.names;have c1:=j.cell 1 _ rfl;have G:=cB j;clear i A a J j;rw[if_pos B.out]at c;have E:Hid (Calls prog 221 #[.pointer (some ⟨d,0,none⟩),.int .i64 s.length] n fun e W'=>e= .returned (.iface te ve)∧Chg NoS n W'):=c;clear c;refine cB ?_;go_wp2_with (first|(go_at_call 221;refine E.out.mono ?_;rintro r l ⟨rfl,z⟩;refine cE ?_));have Q:Chg NoS n (l.alloc (.cells #[.string ⟨#[97,112,112,101,110,100]⟩,vJ,.iface te ve] 239)):=z.alloc _;have S:(l.alloc (.cells #[.string ⟨#[97,112,112,101,110,100]⟩,vJ,.iface te ve] 239)).heap[l.heap.size]?=some (.cells #[.string ⟨#[97,112,112,101,110,100]⟩,vJ,.iface te ve] 239 (0,0)):=aA l _;generalize N:l.alloc (.cells #[.string ⟨#[97,112,112,101,110,100]⟩,vJ,.iface te ve] 239)=W3 at*;have HX:=cB N;have R:=cB Q;have a1:=cB S;have a2:=cB z.size;clear N Q S z f c1;refine cB ?_;go_wp2_with (first|rw[HX.out]);go_ret;exact⟨⟨F,⟨_,_,_,_,_,_,G.out.apart R.out (fun _ _ h=>h)⟩,D.out.nos' R.out,fun x hx=>Or.inl hx⟩,l.heap.size,rfl,⟨_,a1.out⟩,by have:=a2.out;have:=T.out;omega⟩
  ·rw[if_neg g];have B:=cB g;clear g;go_enter func196,ntmps196;go_wp2_with (go_at_call 185;refine J.out.mono ?_;rintro r n ⟨rfl,j,i,A⟩;refine cE ?_);have T:=cB A;have D:=cB i;have a:=(aW (i.block 0 U.out h0F)).trans X.out;have a0:=nR s;have c:=vA n F d k1 (.iface te ve) s.length ⟨_,_,_,_,_,_,j⟩ a (by omega) hs1 I.out.1 I.out.2.1;have f:=tX j.names;have c1:=j.cell 1 _ rfl;have G:=cB j;clear i A a J j;rw[if_neg (by have:=B.out;omega)]at c;have E:Hid (Calls prog 221 #[.pointer (some ⟨d,0,none⟩),.int .i64 s.length] n fun e W'=>e= .returned .nilIface∧Chg NoS n W'):=c;clear c;refine cB ?_;go_wp2_with (first|(go_at_call 221;refine E.out.mono ?_;rintro r l ⟨rfl,z⟩;refine cE ?_));have L:=G.out.apart z (fun _ _ h=>h);obtain⟨M,Z⟩:FileAt l b t y∧F b:=by
    have O:=L.new;rw[C.out]at O;obtain⟨b',i,A,q3,q4⟩:=O;obtain rfl:=aN i;exact⟨A,q3⟩
   have f0:=cC M 0 _ rfl;have z0:=cV M 0;have o:=cZ l b 0 (.string (strOfNums t++strOfNums s));have Y:FileAt (l.setCell ⟨b,0,none⟩ (.string (strOfNums t++strOfNums s))) b (t++s) y:=by
    have:=cU M 0 (.string (strOfNums t++strOfNums s));rw[lY]at this⊢;exact this
   generalize N:l.setCell ⟨b,0,none⟩ (.string (strOfNums t++strOfNums s))=W3 at*;have HX:=cB N;have h3:DkAt W3 F d (iQ k1 s) nm km v (some b) K fv:=L.file M o rfl (o.kept L.log (Ne.symm p)) (by
    show NewAt W3 F v (some b) (iQ k1 s).new;unfold iQ;rw[C.out];exact⟨b,rfl,Y,Z,p⟩) (by
    show OldAt W3 F v (some b) K k1.old;have ho:=L.old;rw[I.out.2.2.1]at ho⊢;exact ho) rfl
   have HR:=cB h3;have HC:=cB ((D.out.nos' z).trans o (fun x _ e=>e▸Z));have a3:=fun w=>run_string_add_sum (P:=prog) w (strOfNums t) (strOfNums s) (by rw[fJ,fJ];have:=I.out.2.1;have e:hP k1=t.length:=(by unfold hP;rw[C.out]);omega);clear N o Y h3 L z M f c1;refine cB ?_;go_wp2_with (first|rw[HX.out]);go_ret;exact⟨⟨_,⟨_,_,_,_,_,_,HR.out⟩,HC.out,fun x hx=>Or.inl hx⟩,rfl⟩
end
end
structure Mo where
 cf:Cf
 acs:List Ac
 cls:List Ct
 net:List Mg
 tr:List Ev
def dL(i:Int)(n:Nat):Bool:=decide (0≤i)&&decide (i<(n:Int))
theorem dK(i:Int)(n:Nat):dL i n=true↔0≤i∧i<(n:Int):=by simp[dL]
def iL(c:Cf):Bool:=decide (1≤c.f)&&decide (c.f≤2)&&decide (1≤c.clients)&&decide (c.clients≤4)&&decide (1≤c.patience)&&decide (c.patience≤20)&&decide (1≤c.tries)&&decide (c.tries≤8)&&decide (0≤c.drift)&&decide (c.drift≤10)&&decide (2≤c.compact)&&decide (c.compact≤16)&&decide (100≤c.room)&&decide (c.room≤2000)
def lI(f:Cf):Mo:=⟨f,(List.range (gB f)).map (fun (i:Nat)=>rX f i),(List.range f.clients.toNat).map (fun (i:Nat)=>wC i),[],[]⟩
def clM(x:Mo)(i:Int):Ct:=x.cls.getD i.toNat (wC 0)
def acM(x:Mo)(i:Int):Ac:=x.acs.getD i.toNat (rX x.cf 0)
def iG(x:Mo)(i:Int)(c:Ct)(e:List Ev):Mo:={x with cls:=x.cls.set i.toNat c,net:=x.net++cJ e,tr:=x.tr++e}
def kB(x:Mo)(i:Int)(a:Ac)(e:List Ev):Mo:={x with acs:=x.acs.set i.toNat a,net:=x.net++cJ e,tr:=x.tr++e}
def lL(x:Mo)(i k l t:Int):Bool:= !(dL i x.cls.length)|| !(decide (1≤k∧k≤4))|| !(decide (0≤l∧l≤3))||(decide (k≤2)&& !(decide (1≤t∧t≤1000)))
def uP(k t:Int):Int:=if k≤2 then t else 0
def qB(x:Mo)(i k l t:Int):Int:=if lL x i k l t=true then 1 else kV (clM x i)
def fO(x:Mo)(i k l t:Int):Mo:=if lL x i k l t=true then x else iG x i (iV (clM x i) k l (uP k t)) (iI x.cf (clM x i) k l (uP k t))
def nY(x:Mo)(i:Int):Int:=if dL i x.cls.length=true then yM (clM x i)else 1
def kG(x:Mo)(i:Int):Mo:=if dL i x.cls.length=true then iG x i (lF x.cf (clM x i)) (lQ x.cf (clM x i))else x
def kE(x:Mo)(i:Int):Int:=if dL i x.cls.length=true then aEP (clM x i)else 1
def kP(x:Mo)(i:Int):Mo:=if dL i x.cls.length=true then iG x i (mX (clM x i)) (jU (clM x i))else x
def gO(x:Mo)(i:Int):Int:=if dL i x.cls.length=true then dW (clM x i)else 1
def iB(x:Mo)(i:Int):Mo:=if dL i x.cls.length=true then iG x i (jC (clM x i)) (fW (clM x i))else x
def kC(x:Mo)(i:Int):Mg:=x.net.getD i.toNat zMg
def aBH(x:Mo)(i:Int):Int:=if dL i x.net.length=true then 0 else 1
def eN(x:Mo)(i:Int):Mo:=if dL i x.net.length=true then{x with net:=x.net.eraseIdx i.toNat}else x
def lE(x:Mo)(i:Int):Mo:=if dL i x.net.length=true then{x with net:=x.net++[kC x i]}else x
def jD(m:Mg):Bool:=m.kind==1||m.kind==3
def kX(x:Mo)(i:Int):Int:=if dL i x.net.length=true then(if jD (kC x i)=true then tB (acM x (kC x i).dst) (kC x i)else 0)else 1
def fG(x:Mo)(i:Int):Mo:=if dL i x.net.length=true then
 (if jD (kC x i)=true then kB (eN x i) (kC x i).dst (jJ (acM x (kC x i).dst) (kC x i)) (lG (acM x (kC x i).dst) (kC x i))
  else iG (eN x i) (kC x i).dst (gS x.cf (clM x (kC x i).dst) (kC x i)) (gT x.cf (clM x (kC x i).dst) (kC x i)))else x
def oN(x:Mo)(i n q:Int):Bool:= !(dL i x.acs.length)||decide (n<0)||decide (q<0)
def aHq(x:Mo)(i n q:Int):Int:=if oN x i n q=true then 1 else aCt (acM x i)
def lM(x:Mo)(i n q:Int):Mo:=if oN x i n q=true then x else kB x i (qM (acM x i) n q) (qH (acM x i) n)
def aEE(x:Mo)(i:Int):Int:=if dL i x.acs.length=true then aAk (acM x i)else 1
def jM(x:Mo)(i:Int):Mo:=if dL i x.acs.length=true then kB x i (gE (acM x i)) (oT (acM x i))else x
def vQ(x:Mo)(i l:Int):Bool:=dL i x.cls.length&&aEa (clM x i) l
def vR(x:Mo)(n:Int):List Ev:=x.tr.drop (min (max n 0) x.tr.length).toNat
theorem aG1(x:Mo)(i:Int)(c:Ct)(e:List Ev):(iG x i c e).cf=x.cf:=rfl
theorem aGX(x:Mo)(i:Int)(a:Ac)(e:List Ev):(kB x i a e).cf=x.cf:=rfl
section
variable {x:Mo} {i:Int}
theorem oI(h:dL i x.cls.length=true):∃h':i.toNat<x.cls.length,clM x i=x.cls[i.toNat]:=by
 obtain⟨b,a⟩:=(dK _ _).1 h;have h':i.toNat<x.cls.length:=by omega
 exact⟨h',by unfold clM;simp[aQ,h']⟩
theorem pV(h:dL i x.acs.length=true):∃h':i.toNat<x.acs.length,acM x i=x.acs[i.toNat]:=by
 obtain⟨b,a⟩:=(dK _ _).1 h;have h':i.toNat<x.acs.length:=by omega
 exact⟨h',by unfold acM;simp[aQ,h']⟩
theorem qZ(h:dL i x.net.length=true):∃h':i.toNat<x.net.length,kC x i=x.net[i.toNat]:=by
 obtain⟨b,a⟩:=(dK _ _).1 h;have h':i.toNat<x.net.length:=by omega
 exact⟨h',by unfold kC;simp[aQ,h']⟩
end
end Go.Proofs.YtbbdgokdfhdpiaaGreatDoor
