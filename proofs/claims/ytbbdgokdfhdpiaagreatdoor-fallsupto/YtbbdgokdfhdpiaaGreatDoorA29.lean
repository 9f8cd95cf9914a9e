/- A part. -/
import Derived.Test.YtbbdgokdfhdpiaaGreatDoorA25
import Derived.Test.YtbbdgokdfhdpiaaGreatDoorA27
namespace Go.Proofs.YtbbdgokdfhdpiaaGreatDoor
set_option linter.all false
set_option maxRecDepth 100000
set_option maxHeartbeats 0
open Go.Proofs.Tryz Go.RowKit
section
open Go.Maps
theorem qA{k:Dk}(h:k.fail=none):fQ k=some k:=by unfold fQ;rw[h]
theorem aB9(k:Dk)(s:List Int)(h:k.fail=none)(q:Int):(fU k s).2≠(.some (.some q)):=by
 have d:(lH k).fail=none:=h;have b:(iQ (lH k) s).fail=none:=h;have e:(hU (iQ (lH k) s)).fail=none:=h;have c:(gI (hU (iQ (lH k) s))).fail=none:=h;unfold fU dZ eP iF;rw[qA h];dsimp only;rw[qA d];dsimp only;split
 ·rename_i a;split at a
  ·cases a
  ·obtain⟨rfl,_⟩:=Prod.mk.inj a;rw[qA b];dsimp only;rw[qA e];dsimp only;rw[qA c];simp
 ·rename_i a;split at a
  ·obtain⟨_,rfl⟩:=Prod.mk.inj a;simp
  ·obtain⟨_,rfl⟩:=Prod.mk.inj a;simp
theorem xI(a:Ac)(h:a.dk.fail=none)(q:Int):(fR a).2≠(.some (.some q)):=by
 unfold fR;dsimp only;split
 ·exact aB9 _ _ h q
 ·simp
structure aK0(a:Ac):Prop where
 ok:yA a
 by_:∀x ∈ a.dk.log,0≤x∧x<256
 cr:aH8 a.dk
 down:a.st=2→a.dk.fail=none∧a.dk.new=none∧a.dk.old=none
 up:a.st=1→a.dk.old=none
theorem aJ3{t:List Int}{y q x:Int}(h:x ∈ wY t y q):x ∈ t:=List.mem_of_mem_take h
theorem aHz(W:World)(F G:Nat→Prop)(B:Nat)(eb:Addr)(b g:Nat)(av cv:Value)(a:Ac)(net:List Mg)(tr:List Ev)(h:ASys W F G b g av cv a net tr)(hgl:GlAt W B eb)(hFB:∀x,F x→B≤x)(hGB:∀x,G x→B≤x)(hok:aK0 a)(hst:a.st=0∨a.st=1∨a.st=2)(hn:net.length≤100000000000)(ht:tr.length≤99999999990):
 Calls prog 88 #[.pointer (some ⟨b,0,none⟩)] W fun r W'=>r= .returned (.int .i64 (uT a))∧AfterA W F G b g av cv (iL a) net (tr++nP a) W':=by
 have HS:=cN h;obtain⟨b8,d0,b9,b2,_,_⟩:=h.acc;have q4:=b2.cell 4 _ rfl;clear b2;rcases hst with h0|h1|h2
 ·have e1:uT a=3:=if_pos h0;have e2:iL a=a:=if_pos h0;have e3:nP a=[]:=if_pos h0;rw[e1,e2,e3,aC];have hb:(a.st==0)=true:=by simp[h0]
  clear e1 e2 e3 h0 h hok;go_enter func88,ntmps88;go_wp2_with fail;go_ret;exact⟨rfl,F,G,HS.out,Went.refl _ _ _⟩
 ·have e1:uT a=0:=if_neg (by omega);have e3:nP a=[eO a.num,jD a.num]:=(if_neg (by omega)).trans (if_pos h1);have eS:iL a=uP (fR {crashA a 0 with st:=0}).1 (fR {crashA a 0 with st:=0}).2:=by
   unfold iL;rw[if_neg (by omega)];dsimp only;rw[if_pos h1]
  rw[e1,e3];have hb:(a.st==0)=false:=by simp[h1]
  have b5:(a.st==1)=true:=by simp[h1]
  have b7:=cN (wI W F G b g av cv a net tr 0 h hok.cr (by omega) hn (by omega));have a6:=cN eS;have a5:fB a.dk=(a.dk.log,a.dk.lsyn):=by unfold fB;rw[hok.up h1]
  have a3:∀x ∈ (fM a.dk 0).log,x ∈ a.dk.log:=fun x c=>by
   have:x ∈ wY (fB a.dk).1 (fB a.dk).2 0:=c;rw[a5]at this;exact aJ3 this
  have b6:(fM a.dk 0).log.length≤a.dk.log.length:=by
   show(wY (fB a.dk).1 (fB a.dk).2 0).length≤_;rw[a5];unfold wY;rw[bD];exact Nat.min_le_right _ _
  have C:Hid (yA {crashA a 0 with st:=0}∧∀x ∈ (fM a.dk 0).log,0≤x∧x<256):=⟨⟨hok.ok.n0,hok.ok.n1,hok.ok.c0,hok.ok.c1,(fun r hr=>by cases hr),(fun p hp=>by cases hp),by have:=hok.ok.l1;show(((fM a.dk 0).log.length:Nat):Int)≤_;omega⟩,fun x c=>hok.by_ x (a3 x c)⟩;have E:=cN (aLp hgl hFB hGB);clear e1 e3 eS h1 h hok a5 a3 b6 hgl hFB hGB;go_enter func88,ntmps88;go_wp2_with (go_at_call 128;refine b7.out.mono ?_;rintro e W1 ⟨rfl,F1,G1,b0,Q⟩;refine cQ ?_);have a9:=cN b0;have b1:=cN Q;have t:Hid (GlAt W1 B eb∧(∀x,F1 x→B≤x)∧∀x,G1 x→B≤x):=by
   refine⟨E.out.1.kept Q.chg (fun x c=>by rcases c with c|c;exact E.out.2.1 x c;exact E.out.2.2 x c),fun x c=>?_,fun x c=>?_⟩
   ·rcases Q.f x c with h|h
    ·exact E.out.2.1 x h
    ·have:=E.out.1.hB;omega
   ·rcases Q.g x c with h|h
    ·exact E.out.2.2 x h
    ·have:=E.out.1.hB;omega
  clear b0 Q q4;obtain⟨FD,d,tb,n,H,S⟩:=a9.out.acc;have c4:=n.cell 4 _ rfl;have z4:=n.froz 4;have m:=cY W1 b 4 (.int .i64 0);have z:=dD n.blk 4 (.int .i64 0);generalize T:W1.setCell ⟨b,4,none⟩ (.int .i64 0)=W2 at*;have a7:=cN T;have w:Acc W2 F1 b g {crashA a 0 with st:=0}:=⟨FD,d,tb,⟨z,n.disk.of_heap m.size (fun x c=>m.block x (n.disk.lt x c) (fun e=>n.nb (e▸c))),eB n.table (m.block _ n.table.lt (fun e=>n.bt e.symm)),n.nb,n.ntb⟩,H,fun x c=>aG (S x c) m.size⟩;obtain⟨M,R,O⟩:=a9.out.went (a':={crashA a 0 with st:=0}) ⟨F1,w,m.mono (fun x _ e=>e▸H b (Or.inr (Or.inl rfl))),fun _ h=>Or.inl h⟩;have a0:=cN (qH W2.drew M G1 b g av cv {crashA a 0 with st:=0} net (tr++[eO a.num]) (jD a.num) R.drew hn (by rw[aD];simp;omega));have e5:W2.cell? ⟨b,5,none⟩=some (yW g):=cO z 5 _ rfl;have e0:W2.cell? ⟨b,0,none⟩=some (.int .i64 a.num):=cO z 0 _ rfl;have P:=cN O;clear R O T m z w n H S;refine cN ?_;go_wp2_with (first|rw[a7.out]);clear c4 z4;refine eD [0,0,0,1,0,0,0,1,0] (by kernel_rfl) (fun _ _ _ _=>rfl) ?_;simp only[dC,dB];iterate 9 (apply sB rfl rfl;·(intro x h;(try cases h rfl);go_simp;with_reducible rfl))
  refine cP ?_;try simp only[pA]
  go_wp2_with fail;refine a0.out.mono ?_;rintro r L ⟨rfl,G4,A,U,Y⟩;rw[fE _ (show(5:Int)≠1 by decide),aC]at A;have y:=P.out.trans ⟨U.of_drew.mono (fun _ _ h=>Or.inr h),fun _ h=>Or.inl h,Y⟩;have v:=t.out.1.kept y.chg (fun x c=>by rcases c with c|c;exact t.out.2.1 x c;exact t.out.2.2 x c);have u:∀x,M x→B≤x:=fun x c=>by
   rcases y.f x c with h|h
   ·exact t.out.2.1 x h
   ·have:=t.out.1.hB;omega
  have V:=cN (aBE L M B eb b g {crashA a 0 with st:=0} A.acc v u C.out.1 C.out.2 rfl rfl);have i:=cN (aLq A y v u);clear U Y A y v u a0 P;obtain⟨p,hp⟩:=aLz (fR {crashA a 0 with st:=0});have HP:=cN hp;have s:=V.out;rw[←hp]at s;clear hp V;obtain⟨a',hw⟩:=p;have Z:Hid (iL a=uP a' hw):=by show _=_;rw[a6.out,←HP.out]
  cases hw using mM with
  |dies q=>exact absurd (congrArg Prod.snd HP.out).symm (xI {crashA a 0 with st:=0} rfl q)
  |fine=>
   have HC:Hid (Calls prog 134 #[.pointer (some ⟨b,0,none⟩)] L fun e W'=>e= .returned .nilIface∧AcTo L M b g a' W'):=s.mono fun e W' hE=>⟨hE.2,hE.1⟩;clear s;go_wp2_with (first|(go_at_call 134;refine HC.out.mono ?_;rintro e W5 ⟨rfl,k⟩;refine cQ ?_));obtain⟨N,l,o⟩:=i.out.1.went k;have j:=i.out.2.2.1.kept k.choose_spec.2.1 i.out.2.2.2;have D:=cN (aBS W5 B eb b j);have I:=cN (aLo l o);clear k l o j;refine cN ?_;go_wp2_with (first|(go_at_call 129;refine D.out.mono ?_;rintro e W6 ⟨rfl,K⟩;refine cQ ?_));have H6:Hid (AfterA W F G b g av cv (iL a) net (tr++[eO a.num,jD a.num]) W6):=by
    have e:iL a=a':=Z.out;rw[e];refine⟨N,G4,?_,b1.out.trans (i.out.2.1.trans (I.out.2.trans ⟨K.mono (fun _ _ h=>h.elim),fun _ h=>Or.inl h,fun _ h=>Or.inl h⟩))⟩;have:=I.out.1.kept K (fun _ _ h=>h) (fun _ _ h=>h);rw[aS]at this;exact this
   clear K;refine cN ?_;go_wp2_with fail;go_ret;exact⟨rfl,H6.out⟩
  |full=>
   have HC:Hid (Calls prog 134 #[.pointer (some ⟨b,0,none⟩)] L fun e W'=>∃J,e= .returned (lV J)∧lU W' J (oO eb)∧AcTo L M b g a' W'):=s.mono fun e W' hE=>by
    obtain⟨J,g1,g2,_⟩:=hE.2;exact⟨J,g1,g2,hE.1⟩
   clear s;go_wp2_with (first|(go_at_call 134;refine HC.out.mono ?_;rintro e W5 ⟨J,rfl,X,k⟩;refine cQ ?_));have j:=i.out.2.2.1.kept k.choose_spec.2.1 i.out.2.2.2;obtain⟨N,l,o⟩:=i.out.1.went k;have D:=cN (zI W5 N B eb b g J a' l.acc j X);have I:=cN (aLo l o);clear k l o j X;refine cN ?_;go_wp2_with (first|(go_at_call 129;refine D.out.mono ?_;rintro e W6 ⟨rfl,h6,K⟩;refine cQ ?_));have H6:Hid (AfterA W F G b g av cv (iL a) net (tr++[eO a.num,jD a.num]) W6):=by
    have e:iL a={a' with st:=1}:=Z.out;rw[e];have a8:N b:=by
     obtain⟨b4,d',b3,_,a1,_⟩:=I.out.1.acc;exact a1 b (Or.inr (Or.inl rfl))
    obtain⟨F6,a2,a4⟩:=I.out.1.went (a':={a' with st:=1}) ⟨N,h6,K.mono (fun x _ e=>e▸a8),fun _ h=>Or.inl h⟩;rw[aS]at a2;exact⟨F6,G4,a2,b1.out.trans (i.out.2.1.trans (I.out.2.trans a4))⟩
   clear K h6;refine cN ?_;go_wp2_with fail;go_ret;exact⟨rfl,H6.out⟩
 ·have e1:uT a=0:=if_neg (by omega);have e3:nP a=[jD a.num]:=(if_neg (by omega)).trans (if_neg (by omega));have eS:iL a=uP (fR {a with st:=0}).1 (fR {a with st:=0}).2:=by
   unfold iL;rw[if_neg (by omega)];dsimp only;rw[if_neg (by omega)]
  rw[e1,e3];have hb:(a.st==0)=false:=by simp[h2]
  have b5:(a.st==1)=false:=by simp[h2]
  have a6:=cN eS;have C:Hid (yA {a with st:=0}∧(∀x ∈ a.dk.log,0≤x∧x<256)∧a.dk.fail=none∧a.dk.new=none∧a.dk.old=none):=⟨⟨hok.ok.n0,hok.ok.n1,hok.ok.c0,hok.ok.c1,hok.ok.lk,hok.ok.fo,hok.ok.l1⟩,hok.by_,hok.down h2⟩;have t:Hid (GlAt W B eb∧(∀x,F x→B≤x)∧∀x,G x→B≤x):=⟨hgl,hFB,hGB⟩;clear e1 e3 eS h2 h hok hgl hFB hGB q4;obtain⟨FD,d,tb,n,H,S⟩:=HS.out.acc;have c4:=n.cell 4 _ rfl;have z4:=n.froz 4;have m:=cY W b 4 (.int .i64 0);have z:=dD n.blk 4 (.int .i64 0);generalize T:W.setCell ⟨b,4,none⟩ (.int .i64 0)=W2 at*;have a7:=cN T;have w:Acc W2 F b g {a with st:=0}:=⟨FD,d,tb,⟨z,n.disk.of_heap m.size (fun x c=>m.block x (n.disk.lt x c) (fun e=>n.nb (e▸c))),eB n.table (m.block _ n.table.lt (fun e=>n.bt e.symm)),n.nb,n.ntb⟩,H,fun x c=>aG (S x c) m.size⟩;obtain⟨M,R,O⟩:=HS.out.went (a':={a with st:=0}) ⟨F,w,m.mono (fun x _ e=>e▸H b (Or.inr (Or.inl rfl))),fun _ h=>Or.inl h⟩;have a0:=cN (qH W2.drew M G b g av cv {a with st:=0} net tr (jD a.num) R.drew hn (by omega));have e5:W2.cell? ⟨b,5,none⟩=some (yW g):=cO z 5 _ rfl;have e0:W2.cell? ⟨b,0,none⟩=some (.int .i64 a.num):=cO z 0 _ rfl;have P:=cN O;clear R O T m z w n H S;go_enter func88,ntmps88;go_wp2_with (first|rw[a7.out]);clear c4 z4;refine eD [0,0,0,1,0,0,0,1,0] (by kernel_rfl) (fun _ _ _ _=>rfl) ?_;simp only[dC,dB];iterate 9 (apply sB rfl rfl;·(intro x h;(try cases h rfl);go_simp;with_reducible rfl))
  refine cP ?_;try simp only[pA]
  go_wp2_with fail;refine a0.out.mono ?_;rintro r L ⟨rfl,G4,A,U,Y⟩;rw[fE _ (show(5:Int)≠1 by decide),aC]at A;have y:=P.out.trans ⟨U.of_drew.mono (fun _ _ h=>Or.inr h),fun _ h=>Or.inl h,Y⟩;have v:=t.out.1.kept y.chg (fun x c=>by rcases c with c|c;exact t.out.2.1 x c;exact t.out.2.2 x c);have u:∀x,M x→B≤x:=fun x c=>by
   rcases y.f x c with h|h
   ·exact t.out.2.1 x h
   ·have:=t.out.1.hB;omega
  have V:=cN (aBE L M B eb b g {a with st:=0} A.acc v u C.out.1 C.out.2.1 C.out.2.2.2.1 C.out.2.2.2.2);have i:=cN (aLq A y v u);clear U Y A y v u a0 P;obtain⟨p,hp⟩:=aLz (fR {a with st:=0});have HP:=cN hp;have s:=V.out;rw[←hp]at s;clear hp V;obtain⟨a',hw⟩:=p;have Z:Hid (iL a=uP a' hw):=by show _=_;rw[a6.out,←HP.out]
  cases hw using mM with
  |dies q=>exact absurd (congrArg Prod.snd HP.out).symm (xI {a with st:=0} C.out.2.2.1 q)
  |fine=>
   have HC:Hid (Calls prog 134 #[.pointer (some ⟨b,0,none⟩)] L fun e W'=>e= .returned .nilIface∧AcTo L M b g a' W'):=s.mono fun e W' hE=>⟨hE.2,hE.1⟩;clear s;go_wp2_with (first|(go_at_call 134;refine HC.out.mono ?_;rintro e W5 ⟨rfl,k⟩;refine cQ ?_));obtain⟨N,l,o⟩:=i.out.1.went k;have j:=i.out.2.2.1.kept k.choose_spec.2.1 i.out.2.2.2;have D:=cN (aBS W5 B eb b j);have I:=cN (aLo l o);clear k l o j;refine cN ?_;go_wp2_with (first|(go_at_call 129;refine D.out.mono ?_;rintro e W6 ⟨rfl,K⟩;refine cQ ?_));have H6:Hid (AfterA W F G b g av cv (iL a) net (tr++[jD a.num]) W6):=by
    have e:iL a=a':=Z.out;rw[e];exact⟨N,G4,I.out.1.kept K (fun _ _ h=>h) (fun _ _ h=>h),(i.out.2.1.trans (I.out.2.trans ⟨K.mono (fun _ _ h=>h.elim),fun _ h=>Or.inl h,fun _ h=>Or.inl h⟩))⟩
   clear K;refine cN ?_;go_wp2_with fail;go_ret;exact⟨rfl,H6.out⟩
  |full=>
   have HC:Hid (Calls prog 134 #[.pointer (some ⟨b,0,none⟩)] L fun e W'=>∃J,e= .returned (lV J)∧lU W' J (oO eb)∧AcTo L M b g a' W'):=s.mono fun e W' hE=>by
    obtain⟨J,g1,g2,_⟩:=hE.2;exact⟨J,g1,g2,hE.1⟩
   clear s;go_wp2_with (first|(go_at_call 134;refine HC.out.mono ?_;rintro e W5 ⟨J,rfl,X,k⟩;refine cQ ?_));have j:=i.out.2.2.1.kept k.choose_spec.2.1 i.out.2.2.2;obtain⟨N,l,o⟩:=i.out.1.went k;have D:=cN (zI W5 N B eb b g J a' l.acc j X);have I:=cN (aLo l o);clear k l o j X;refine cN ?_;go_wp2_with (first|(go_at_call 129;refine D.out.mono ?_;rintro e W6 ⟨rfl,h6,K⟩;refine cQ ?_));have H6:Hid (AfterA W F G b g av cv (iL a) net (tr++[jD a.num]) W6):=by
    have e:iL a={a' with st:=1}:=Z.out;rw[e];have a8:N b:=by
     obtain⟨b4,d',b3,_,a1,_⟩:=I.out.1.acc;exact a1 b (Or.inr (Or.inl rfl))
    obtain⟨F6,a2,a4⟩:=I.out.1.went (a':={a' with st:=1}) ⟨N,h6,K.mono (fun x _ e=>e▸a8),fun _ h=>Or.inl h⟩;exact⟨F6,G4,a2,(i.out.2.1.trans (I.out.2.trans a4))⟩
   clear K h6;refine cN ?_;go_wp2_with fail;go_ret;exact⟨rfl,H6.out⟩
end
section
open Go.Maps
structure Two(W A:World)(p q:Bool)(x5 x6:Nat):Prop where
 chg:Chg NoS W A
 o5:p=true→A.heap[x5]?=some (.cells (rwL zRw).toArray 58 (0,0))∧W.heap.size≤x5
 o6:q=true→A.heap[x6]?=some (.cells (mgL zMg).toArray 66 (0,0))∧W.heap.size≤x6
theorem Two.begin(W:World):Two W W.drew false false 0 0:=⟨(Chg.refl _ W).drew,by simp,by simp⟩
section
variable {W A A':World}{p q:Bool}{x5 x6:Nat}
theorem Two.add5(h:Two W A false q x5 x6):Two W (A.alloc (.cells (rwL zRw).toArray 58)) true q A.heap.size x6:=⟨h.chg.alloc _,fun _=>⟨aA A _,h.chg.size⟩,fun e=>⟨dM _ (h.o6 e).1,(h.o6 e).2⟩⟩
theorem Two.add6(h:Two W A p false x5 x6):Two W (A.alloc (.cells (mgL zMg).toArray 66)) p true x5 A.heap.size:=⟨h.chg.alloc _,fun e=>⟨dM _ (h.o5 e).1,(h.o5 e).2⟩,fun _=>⟨aA A _,h.chg.size⟩⟩
theorem Two.on(h:Two W A p q x5 x6)(k:Chg NoS A A'):Two W A' p q x5 x6:=⟨h.chg.trans (S:=NoS) k (fun _ _ h=>h),fun e=>⟨k.kept (h.o5 e).1 (fun h=>h),(h.o5 e).2⟩,fun e=>⟨k.kept (h.o6 e).1 (fun h=>h),(h.o6 e).2⟩⟩
end
theorem aCx{k k':Dk}(h:k'.fail=k.fail)(hf:iC k):iC k':=fun p hp=>hf p (h▸hp)
theorem aFi{a a1:Ac}{r:Rw}(h:gN a r=(a1,.none))(hf:iC a.dk):iC a1.dk∧a1.dk.new=a.dk.new∧a1.dk.old=a.dk.old∧a1.dk.log=a.dk.log++dW r∧a1.rows=a.rows++[r]∧a1.num=a.num∧a1.compact=a.compact∧a1.st=a.st:=by
 unfold gN at h;cases hs:lY a.dk (dW r)with
 |mk k hw=>
  rw[hs]at h;cases hw using mM with
  |full=>cases h
  |dies q=>cases h
  |fine=>
   obtain rfl:=(Prod.mk.inj h).1;unfold lY at hs;cases ha:eP a.dk (dW r) lI with
   |mk k1 h1=>
    rw[ha]at hs;cases h1 using mM with
    |full=>unfold iF at hs;cases hs
    |dies q=>unfold iF at hs;cases hs
    |fine=>
     obtain⟨g,e,f⟩:=vT ha;have d:dZ k1 mN=(k,.none):=hs;obtain⟨l,i,m⟩:=qM d;have c:=gR e;have b:=gR i;have n:=kS e hf;have j:=kS i (by rw[f];exact aCx (k:=g) rfl n);subst m;subst f;exact⟨aCx rfl j,b.2.2.2.1.trans c.2.2.2.1,b.2.2.2.2.trans c.2.2.2.2,by show l.log=_;rw[b.2.1];show g.log++_=_;rw[c.2.1],rfl,rfl,rfl,rfl⟩
theorem aI3{f:FuncId}{args:Array Value}{v ev:Value}{W:World}{F:Nat→Prop}{b g:Nat}{p:Ac×How}(h:Calls prog f args W fun e W'=>tM v ev W F b g p e W'):match p.2 with
 |.none=>Calls prog f args W fun e W'=>e= .returned v∧AcTo W F b g p.1 W'
 |(.some (.some q))=>Calls prog f args W fun e W'=>e= .panicked (rS q)∧AcTo W F b g p.1 W'
 |(.some .none)=>Calls prog f args W fun e W'=>∃fb,e= .returned (lV fb)∧lU W' fb ev∧W.heap.size≤fb∧AcTo W F b g p.1 W':=by
 obtain⟨k,a⟩:=p;cases a using mM with
 |fine=>exact h.mono fun e W' ⟨a,h2⟩=>⟨h2,a⟩
 |dies q=>exact h.mono fun e W' ⟨a,h2⟩=>⟨h2,a⟩
 |full=>exact h.mono fun e W' ⟨a,b,h2,h3,h4⟩=>⟨b,h2,h3,h4,a⟩
def aKs(ev:Value)(W:World)(F G:Nat→Prop)(b g:Nat)(av cv:Value)(net:List Mg)(tr:List Ev)(p:Ac×List Ev×How)(e:Ending)(W':World):Prop:=AfterA W F G b g av cv p.1 (net++dJ p.2.1) (tr++p.2.1) W'∧match p.2.2 with
 |.none=>e= .returned .nilIface
 |(.some (.some q))=>e= .panicked (rS q)
 |(.some .none)=>∃fb,e= .returned (lV fb)∧lU W' fb ev
theorem aJQ(W:World)(F G:Nat→Prop)(B:Nat)(eb:Addr)(b g:Nat)(av cv:Value)(a:Ac)(net:List Mg)(tr:List Ev)(m:Mg)(h:ASys W F G b g av cv a net tr)(hgl:GlAt W B eb)(hFB:∀x,F x→B≤x)(hGB:∀x,G x→B≤x)(hok:yA a)(hll:(a.dk.log.length:Int)≤99999999000)(hnew:a.dk.new=none)(hold:a.dk.old=none)
 (hm0:0≤m.lock) (hm3:m.lock≤3) (hn:net.length≤99999999990) (ht:tr.length≤99999999990):
 Calls prog 130 #[.pointer (some ⟨b,0,none⟩),mgV m] W fun e W'=>aKs (oO eb) W F G b g av cv net tr (jE a m) e W':=by
 have e3:=aA W (.cells #[.int .i64 m.kind,.int .i64 m.src,.int .i64 m.dst,.int .i64 m.lock,.int .i64 m.bal,.int .i64 m.base,.int .i64 m.val.own,.int .i64 m.val.tok,.int .i64 m.val.ttl,.int .i64 m.val.seq] 66);have d8:Chg NoS W (W.alloc (.cells #[.int .i64 m.kind,.int .i64 m.src,.int .i64 m.dst,.int .i64 m.lock,.int .i64 m.bal,.int .i64 m.base,.int .i64 m.val.own,.int .i64 m.val.tok,.int .i64 m.val.ttl,.int .i64 m.val.seq] 66)):=(Chg.refl _ _).alloc _;have e9:(W.alloc (.cells #[.int .i64 m.kind,.int .i64 m.src,.int .i64 m.dst,.int .i64 m.lock,.int .i64 m.bal,.int .i64 m.base,.int .i64 m.val.own,.int .i64 m.val.tok,.int .i64 m.val.ttl,.int .i64 m.val.seq] 66)).heap.size=W.heap.size+1:=by simp
 generalize f0:W.alloc (.cells #[.int .i64 m.kind,.int .i64 m.src,.int .i64 m.dst,.int .i64 m.lock,.int .i64 m.bal,.int .i64 m.base,.int .i64 m.val.own,.int .i64 m.val.tok,.int .i64 m.val.ttl,.int .i64 m.val.seq] 66)=W0 at*;have g7:=cN f0;obtain⟨r,hr⟩:=aLz (qD a m.lock);obtain⟨U,c4⟩:=aLz (iR m r);obtain⟨N,e0⟩:=aLz (kA m r);obtain⟨ds,d9⟩:=aLz (mV m r);have e7:U.lock=m.lock:=by
  rw[c4];have:r.lock=m.lock:=by rw[hr];rfl
  unfold iR;split
  ·exact this
  ·split
   ·exact this
   ·exact this
 have c6:(ds=false→jE a m=(a,[sentEv (mH a N m)],.none))∧(ds=true→∀z q,gN a U=(z,(.some (.some q)))→jE a m=(z,[],(.some (.some q))))∧(ds=true→∀z,gN a U=(z,(.some .none))→jE a m=(z,[],(.some .none)))∧
  (ds=true→∀z,gN a U=(z,.none)→mB z=false→jE a m=(z,[sentEv (mH a N m)],.none))∧(ds=true→∀z,gN a U=(z,.none)→mB z=true→jE a m=((eJ z).1,[sentEv (mH a N m)],(eJ z).2)):=by
  refine⟨fun e=>?_,fun e z q h1=>?_,fun e z h1=>?_,fun e z h1 h2=>?_,fun e z h1 h2=>?_⟩;all_goals
   unfold jE;dsimp only;rw[←hr,←d9,←e0,e]
  ·exact if_neg (by simp)
  all_goals
   rw[if_pos rfl,←c4,h1]
  all_goals dsimp only
  ·rw[if_neg (by rw[h2];simp)]
  ·rw[if_pos h2]
 have a5:Hid (∀x,Chg NoS W0 x→Calls prog 170 #[.pointer (some ⟨b,0,none⟩),.int .i64 m.lock] x fun e W'=>e= .returned (rwV r)∧Chg NoS x W'):=fun x u=>by
  rw[hr];exact aJ1 x F b g a m.lock (h.acc.kept (d8.trans (S:=NoS) u (fun _ _ h=>h)) (fun _ _ h=>h)) hm0 hm3
 have a6:Hid (∀x,Calls prog 169 #[mgV m,rwV r] x fun e W'=>e= .returned (.tuple #[rwV U,mgV N,.bool ds])∧Chg NoS x W'):=fun x=>by
  rw[c4,e0,d9];exact aFr x m r
 obtain⟨rV,e5⟩:∃v,v=rwV r:=⟨_,rfl⟩;obtain⟨dV,e8⟩:∃v,v=Value.tuple #[rwV U,mgV N,.bool ds]:=⟨_,rfl⟩;have Z:=cN (aLo e5 e8);have b0:=cN c6;have O:=cN (aLv h hgl hFB hGB hok hnew hold e7 d8);have a9:Hid (∀x,Chg NoS W0 x→x.heap[W.heap.size]?=some (.cells (mgL m).toArray 66 (0,0))):=fun x u=>u.kept e3 (fun h=>h);have g2:=cN e9;have m3:=cO e3 3 _ rfl;clear e5 e8 c6 h hgl hFB hGB hok hnew hold e7 d8 f0 e3 hr c4 e0 d9 e9;go_enter func130,ntmps130;go_wp2_with (first|rw[g7.out]);refine pW [(1,0),(0,1),(0,2),(1,3)] 11 (fun x=>x.cell? ⟨W.heap.size,3,none⟩=some (.int .i64 m.lock)∧∀j y,(mgL m)[j]?=some y→x.cell? ((⟨W.heap.size,0,none⟩:Addr).add j)=some y) (by kernel_rfl) (by kernel_rfl) (fun _ _ d _ _ h=>by cases d<;>exact h) ?_ ?_
 ·exact⟨m3,cR (W:=W0.drew) (a9.out W0 (Chg.refl _ _))⟩
 have l:Hid (∀x,Chg NoS W0 x→x.cell? ⟨W.heap.size,3,none⟩=some (.int .i64 m.lock)∧∀j y,(mgL m)[j]?=some y→x.cell? ((⟨W.heap.size,0,none⟩:Addr).add j)=some y):=fun x u=>⟨cO (a9.out x u) 3 _ rfl,cR (a9.out x u)⟩;clear m3;simp only[kC,cM,cL];refine dA (v:=mgV m) rfl (fun x u=>cU 66 _ rfl ⟨W.heap.size,0,none⟩ rfl (mgL m) _ u.2 underlying66 rfl (by kernel_rfl)) ?_;iterate 2 (refine oZ (v:=?_) rfl ?_ ?_;rotate_left 1;(·(intro x;go_simp;with_reducible rfl)))
 refine dA (v:=.int .i64 m.lock) rfl (fun x u=>by obtain⟨h3,_⟩:=u;go_simp;try rfl) ?_;refine cP ?_;(try simp only[pA]);obtain⟨I,M⟩:∃I:Nat→Array Bool→Act→World→Prop,Hid (∀n T a w,I n T a w↔∃(l4 l5 a7 a8:Bool) (E H:Nat),n=(!l4).toNat+5*(!l5).toNat+(!a7).toNat+(!a8).toNat∧(l5=true→l4=true)∧T=#[true,true,true,true,l4,l5,l5,l5,l5,l5,a7,a8,false,false,false]∧
  a={tmps:=#[.pointer (some ⟨b,0,none⟩),mgV m,undef,.pointer (some ⟨W.heap.size,0,none⟩),.nilIface,cond a7 (.pointer (some ⟨E,0,none⟩)) undef,cond a8 (.pointer (some ⟨H,0,none⟩)) undef,undef,undef,cond l5 dV undef,mgV m,.pointer (some ⟨b,0,none⟩),.pointer (some ⟨W.heap.size,3,none⟩),.int .i64 m.lock,cond l4 rV undef,cond l5 dV undef,cond l5 (rwV U) undef,cond l5 (mgV N) undef,cond l5 (.bool ds) undef,undef,undef,undef,undef,undef,undef,undef,undef,undef,undef,undef,undef,undef,undef,undef,undef,undef,undef],defers:=[]}∧Two W0 w a7 a8 E H):=⟨_,fun _ _ _ _=>Iff.rfl⟩
 refine aF8 3 I ?_ 8 _ _ _ ?_
 ·intro n T a' w hI IH;have o:=cN IH;clear IH;obtain⟨l4,l5,a7,a8,E,H,t,Y,rfl,rfl,q⟩:=(M.out _ _ _ _).1 hI;have Q:=cN q;clear q hI;cases l4<;>cases l5<;>cases a7<;>cases a8
  ·obtain rfl:n=8:=t;clear Y;simp only[cond_true,cond_false];refine dQ (f:=10) [4,10,11] (by kernel_rfl) (by simp) ?_;refine aB.2 ⟨?_,aB.2 ⟨?_,aB.2 ⟨?_,by simp⟩⟩⟩
   ·intro C c;refine dK rfl rfl ?_;go_simp;refine(a5.out w Q.out.chg).mono ?_;rintro e w2 ⟨rfl,D⟩;have k:=cN (Q.out.on D);clear D;refine c _ _ (l.out _ k.out.chg) ?_;clear c C;(try simp only[pA]);rw[←Z.out.1];exact o.out 7 (by decide) _ _ _ ((M.out _ _ _ _).2 ⟨true,false,false,false,E,H,rfl,fun h=>(by first|rfl|cases h),rfl,rfl,k.out⟩)
   ·intro C c;refine dK rfl rfl ?_;go_simp;have k:=cN Q.out.add5;refine c _ _ (l.out _ k.out.chg) ?_;clear c C;(try simp only[pA]);exact o.out 7 (by decide) _ _ _ ((M.out _ _ _ _).2 ⟨false,false,true,false,w.heap.size,H,rfl,fun h=>(by first|rfl|cases h),rfl,rfl,k.out⟩)
   ·intro C c;refine dK rfl rfl ?_;go_simp;have k:=cN Q.out.add6;refine c _ _ (l.out _ k.out.chg) ?_;clear c C;(try simp only[pA]);exact o.out 7 (by decide) _ _ _ ((M.out _ _ _ _).2 ⟨false,false,false,true,E,w.heap.size,rfl,fun h=>(by first|rfl|cases h),rfl,rfl,k.out⟩)
  ·obtain rfl:n=7:=t;clear Y;simp only[cond_true,cond_false];refine dQ (f:=9) [4,10] (by kernel_rfl) (by simp) ?_;refine aB.2 ⟨?_,aB.2 ⟨?_,by simp⟩⟩
   ·intro C c;refine dK rfl rfl ?_;go_simp;refine(a5.out w Q.out.chg).mono ?_;rintro e w2 ⟨rfl,D⟩;have k:=cN (Q.out.on D);clear D;refine c _ _ (l.out _ k.out.chg) ?_;clear c C;(try simp only[pA]);rw[←Z.out.1];exact o.out 6 (by decide) _ _ _ ((M.out _ _ _ _).2 ⟨true,false,false,true,E,H,rfl,fun h=>(by first|rfl|cases h),rfl,rfl,k.out⟩)
   ·intro C c;refine dK rfl rfl ?_;go_simp;have k:=cN Q.out.add5;refine c _ _ (l.out _ k.out.chg) ?_;clear c C;(try simp only[pA]);exact o.out 6 (by decide) _ _ _ ((M.out _ _ _ _).2 ⟨false,false,true,true,w.heap.size,H,rfl,fun h=>(by first|rfl|cases h),rfl,rfl,k.out⟩)
  ·obtain rfl:n=7:=t;clear Y;simp only[cond_true,cond_false];refine dQ (f:=9) [4,11] (by kernel_rfl) (by simp) ?_;refine aB.2 ⟨?_,aB.2 ⟨?_,by simp⟩⟩
   ·intro C c;refine dK rfl rfl ?_;go_simp;refine(a5.out w Q.out.chg).mono ?_;rintro e w2 ⟨rfl,D⟩;have k:=cN (Q.out.on D);clear D;refine c _ _ (l.out _ k.out.chg) ?_;clear c C;(try simp only[pA]);rw[←Z.out.1];exact o.out 6 (by decide) _ _ _ ((M.out _ _ _ _).2 ⟨true,false,true,false,E,H,rfl,fun h=>(by first|rfl|cases h),rfl,rfl,k.out⟩)
   ·intro C c;refine dK rfl rfl ?_;go_simp;have k:=cN Q.out.add6;refine c _ _ (l.out _ k.out.chg) ?_;clear c C;(try simp only[pA]);exact o.out 6 (by decide) _ _ _ ((M.out _ _ _ _).2 ⟨false,false,true,true,E,w.heap.size,rfl,fun h=>(by first|rfl|cases h),rfl,rfl,k.out⟩)
  ·obtain rfl:n=6:=t;clear Y;simp only[cond_true,cond_false];refine dQ (f:=8) [4] (by kernel_rfl) (by simp) ?_;refine aB.2 ⟨?_,by simp⟩
   ·intro C c;refine dK rfl rfl ?_;go_simp;refine(a5.out w Q.out.chg).mono ?_;rintro e w2 ⟨rfl,D⟩;have k:=cN (Q.out.on D);clear D;refine c _ _ (l.out _ k.out.chg) ?_;clear c C;(try simp only[pA]);rw[←Z.out.1];exact o.out 5 (by decide) _ _ _ ((M.out _ _ _ _).2 ⟨true,false,true,true,E,H,rfl,fun h=>(by first|rfl|cases h),rfl,rfl,k.out⟩)
  ·exact absurd (Y rfl) (by decide)
  ·exact absurd (Y rfl) (by decide)
  ·exact absurd (Y rfl) (by decide)
  ·exact absurd (Y rfl) (by decide)
  ·obtain rfl:n=7:=t;clear Y;simp only[cond_true,cond_false];refine dQ (f:=9) [5,10,11] (by kernel_rfl) (by simp) ?_;refine aB.2 ⟨?_,aB.2 ⟨?_,aB.2 ⟨?_,by simp⟩⟩⟩
   ·intro C c;refine dK rfl rfl ?_;go_simp;rw[Z.out.1];refine(a6.out w).mono ?_;rintro e w2 ⟨rfl,D⟩;have k:=cN (Q.out.on D);clear D;refine c _ _ (l.out _ k.out.chg) ?_;clear c C;(try simp only[pA]);refine eZ (i:=6) (v:=?_) rfl (by kernel_rfl) (fun _ _ d _ _ h=>by cases d<;>exact h) (by kernel_rfl) (by kernel_rfl) rfl ?_ ?_;rotate_left 1;(·(intro x;go_simp;with_reducible rfl));(try simp only[pA]);refine eZ (i:=7) (v:=?_) rfl (by kernel_rfl) (fun _ _ d _ _ h=>by cases d<;>exact h) (by kernel_rfl) (by kernel_rfl) rfl ?_ ?_;rotate_left 1;(·(intro x;go_simp;with_reducible rfl));(try simp only[pA]);refine eZ (i:=8) (v:=?_) rfl (by kernel_rfl) (fun _ _ d _ _ h=>by cases d<;>exact h) (by kernel_rfl) (by kernel_rfl) rfl ?_ ?_;rotate_left 1;(·(intro x;go_simp;with_reducible rfl));(try simp only[pA]);refine eZ (i:=9) (v:=?_) rfl (by kernel_rfl) (fun _ _ d _ _ h=>by cases d<;>exact h) (by kernel_rfl) (by kernel_rfl) rfl ?_ ?_;rotate_left 1;(·(intro x;go_simp;with_reducible rfl));(try simp only[pA]);rw[←Z.out.1,←Z.out.2];exact o.out 2 (by decide) _ _ _ ((M.out _ _ _ _).2 ⟨true,true,false,false,E,H,rfl,fun h=>(by first|rfl|cases h),rfl,rfl,k.out⟩)
   ·intro C c;refine dK rfl rfl ?_;go_simp;have k:=cN Q.out.add5;refine c _ _ (l.out _ k.out.chg) ?_;clear c C;(try simp only[pA]);exact o.out 6 (by decide) _ _ _ ((M.out _ _ _ _).2 ⟨true,false,true,false,w.heap.size,H,rfl,fun h=>(by first|rfl|cases h),rfl,rfl,k.out⟩)
   ·intro C c;refine dK rfl rfl ?_;go_simp;have k:=cN Q.out.add6;refine c _ _ (l.out _ k.out.chg) ?_;clear c C;(try simp only[pA]);exact o.out 6 (by decide) _ _ _ ((M.out _ _ _ _).2 ⟨true,false,false,true,E,w.heap.size,rfl,fun h=>(by first|rfl|cases h),rfl,rfl,k.out⟩)
  ·obtain rfl:n=6:=t;clear Y;simp only[cond_true,cond_false];refine dQ (f:=8) [5,10] (by kernel_rfl) (by simp) ?_;refine aB.2 ⟨?_,aB.2 ⟨?_,by simp⟩⟩
   ·intro C c;refine dK rfl rfl ?_;go_simp;rw[Z.out.1];refine(a6.out w).mono ?_;rintro e w2 ⟨rfl,D⟩;have k:=cN (Q.out.on D);clear D;refine c _ _ (l.out _ k.out.chg) ?_;clear c C;(try simp only[pA]);refine eZ (i:=6) (v:=?_) rfl (by kernel_rfl) (fun _ _ d _ _ h=>by cases d<;>exact h) (by kernel_rfl) (by kernel_rfl) rfl ?_ ?_;rotate_left 1;(·(intro x;go_simp;with_reducible rfl));(try simp only[pA]);refine eZ (i:=7) (v:=?_) rfl (by kernel_rfl) (fun _ _ d _ _ h=>by cases d<;>exact h) (by kernel_rfl) (by kernel_rfl) rfl ?_ ?_;rotate_left 1;(·(intro x;go_simp;with_reducible rfl));(try simp only[pA]);refine eZ (i:=8) (v:=?_) rfl (by kernel_rfl) (fun _ _ d _ _ h=>by cases d<;>exact h) (by kernel_rfl) (by kernel_rfl) rfl ?_ ?_;rotate_left 1;(·(intro x;go_simp;with_reducible rfl));(try simp only[pA]);refine eZ (i:=9) (v:=?_) rfl (by kernel_rfl) (fun _ _ d _ _ h=>by cases d<;>exact h) (by kernel_rfl) (by kernel_rfl) rfl ?_ ?_;rotate_left 1;(·(intro x;go_simp;with_reducible rfl));(try simp only[pA]);rw[←Z.out.1,←Z.out.2];exact o.out 1 (by decide) _ _ _ ((M.out _ _ _ _).2 ⟨true,true,false,true,E,H,rfl,fun h=>(by first|rfl|cases h),rfl,rfl,k.out⟩)
   ·intro C c;refine dK rfl rfl ?_;go_simp;have k:=cN Q.out.add5;refine c _ _ (l.out _ k.out.chg) ?_;clear c C;(try simp only[pA]);exact o.out 5 (by decide) _ _ _ ((M.out _ _ _ _).2 ⟨true,false,true,true,w.heap.size,H,rfl,fun h=>(by first|rfl|cases h),rfl,rfl,k.out⟩)
  ·obtain rfl:n=6:=t;clear Y;simp only[cond_true,cond_false];refine dQ (f:=8) [5,11] (by kernel_rfl) (by simp) ?_;refine aB.2 ⟨?_,aB.2 ⟨?_,by simp⟩⟩
   ·intro C c;refine dK rfl rfl ?_;go_simp;rw[Z.out.1];refine(a6.out w).mono ?_;rintro e w2 ⟨rfl,D⟩;have k:=cN (Q.out.on D);clear D;refine c _ _ (l.out _ k.out.chg) ?_;clear c C;(try simp only[pA]);refine eZ (i:=6) (v:=?_) rfl (by kernel_rfl) (fun _ _ d _ _ h=>by cases d<;>exact h) (by kernel_rfl) (by kernel_rfl) rfl ?_ ?_;rotate_left 1;(·(intro x;go_simp;with_reducible rfl));(try simp only[pA]);refine eZ (i:=7) (v:=?_) rfl (by kernel_rfl) (fun _ _ d _ _ h=>by cases d<;>exact h) (by kernel_rfl) (by kernel_rfl) rfl ?_ ?_;rotate_left 1;(·(intro x;go_simp;with_reducible rfl));(try simp only[pA]);refine eZ (i:=8) (v:=?_) rfl (by kernel_rfl) (fun _ _ d _ _ h=>by cases d<;>exact h) (by kernel_rfl) (by kernel_rfl) rfl ?_ ?_;rotate_left 1;(·(intro x;go_simp;with_reducible rfl));(try simp only[pA]);refine eZ (i:=9) (v:=?_) rfl (by kernel_rfl) (fun _ _ d _ _ h=>by cases d<;>exact h) (by kernel_rfl) (by kernel_rfl) rfl ?_ ?_;rotate_left 1;(·(intro x;go_simp;with_reducible rfl));(try simp only[pA]);rw[←Z.out.1,←Z.out.2];exact o.out 1 (by decide) _ _ _ ((M.out _ _ _ _).2 ⟨true,true,true,false,E,H,rfl,fun h=>(by first|rfl|cases h),rfl,rfl,k.out⟩)
   ·intro C c;refine dK rfl rfl ?_;go_simp;have k:=cN Q.out.add6;refine c _ _ (l.out _ k.out.chg) ?_;clear c C;(try simp only[pA]);exact o.out 5 (by decide) _ _ _ ((M.out _ _ _ _).2 ⟨true,false,true,true,E,w.heap.size,rfl,fun h=>(by first|rfl|cases h),rfl,rfl,k.out⟩)
  ·obtain rfl:n=5:=t;clear Y;simp only[cond_true,cond_false];refine dQ (f:=7) [5] (by kernel_rfl) (by simp) ?_;refine aB.2 ⟨?_,by simp⟩
   ·intro C c;refine dK rfl rfl ?_;go_simp;rw[Z.out.1];refine(a6.out w).mono ?_;rintro e w2 ⟨rfl,D⟩;have k:=cN (Q.out.on D);clear D;refine c _ _ (l.out _ k.out.chg) ?_;clear c C;(try simp only[pA]);refine eZ (i:=6) (v:=?_) rfl (by kernel_rfl) (fun _ _ d _ _ h=>by cases d<;>exact h) (by kernel_rfl) (by kernel_rfl) rfl ?_ ?_;rotate_left 1;(·(intro x;go_simp;with_reducible rfl));(try simp only[pA]);refine eZ (i:=7) (v:=?_) rfl (by kernel_rfl) (fun _ _ d _ _ h=>by cases d<;>exact h) (by kernel_rfl) (by kernel_rfl) rfl ?_ ?_;rotate_left 1;(·(intro x;go_simp;with_reducible rfl));(try simp only[pA]);refine eZ (i:=8) (v:=?_) rfl (by kernel_rfl) (fun _ _ d _ _ h=>by cases d<;>exact h) (by kernel_rfl) (by kernel_rfl) rfl ?_ ?_;rotate_left 1;(·(intro x;go_simp;with_reducible rfl));(try simp only[pA]);refine eZ (i:=9) (v:=?_) rfl (by kernel_rfl) (fun _ _ d _ _ h=>by cases d<;>exact h) (by kernel_rfl) (by kernel_rfl) rfl ?_ ?_;rotate_left 1;(·(intro x;go_simp;with_reducible rfl));(try simp only[pA]);rw[←Z.out.1,←Z.out.2];exact o.out 0 (by decide) _ _ _ ((M.out _ _ _ _).2 ⟨true,true,true,true,E,H,rfl,fun h=>(by first|rfl|cases h),rfl,rfl,k.out⟩)
  ·obtain rfl:n=2:=t;clear Y;simp only[cond_true,cond_false];refine dQ (f:=4) [10,11] (by kernel_rfl) (by simp) ?_;refine aB.2 ⟨?_,aB.2 ⟨?_,by simp⟩⟩
   ·intro C c;refine dK rfl rfl ?_;go_simp;have k:=cN Q.out.add5;refine c _ _ (l.out _ k.out.chg) ?_;clear c C;(try simp only[pA]);exact o.out 1 (by decide) _ _ _ ((M.out _ _ _ _).2 ⟨true,true,true,false,w.heap.size,H,rfl,fun h=>(by first|rfl|cases h),rfl,rfl,k.out⟩)
   ·intro C c;refine dK rfl rfl ?_;go_simp;have k:=cN Q.out.add6;refine c _ _ (l.out _ k.out.chg) ?_;clear c C;(try simp only[pA]);exact o.out 1 (by decide) _ _ _ ((M.out _ _ _ _).2 ⟨true,true,false,true,E,w.heap.size,rfl,fun h=>(by first|rfl|cases h),rfl,rfl,k.out⟩)
  ·obtain rfl:n=1:=t;clear Y;simp only[cond_true,cond_false];refine dQ (f:=3) [10] (by kernel_rfl) (by simp) ?_;refine aB.2 ⟨?_,by simp⟩
   ·intro C c;refine dK rfl rfl ?_;go_simp;have k:=cN Q.out.add5;refine c _ _ (l.out _ k.out.chg) ?_;clear c C;(try simp only[pA]);exact o.out 0 (by decide) _ _ _ ((M.out _ _ _ _).2 ⟨true,true,true,true,w.heap.size,H,rfl,fun h=>(by first|rfl|cases h),rfl,rfl,k.out⟩)
  ·obtain rfl:n=1:=t;clear Y;simp only[cond_true,cond_false];refine dQ (f:=3) [11] (by kernel_rfl) (by simp) ?_;refine aB.2 ⟨?_,by simp⟩
   ·intro C c;refine dK rfl rfl ?_;go_simp;have k:=cN Q.out.add6;refine c _ _ (l.out _ k.out.chg) ?_;clear c C;(try simp only[pA]);exact o.out 0 (by decide) _ _ _ ((M.out _ _ _ _).2 ⟨true,true,true,true,E,w.heap.size,rfl,fun h=>(by first|rfl|cases h),rfl,rfl,k.out⟩)
  ·obtain rfl:n=0:=t;simp only[cond_true];clear Y o;refine dQ [12] (by kernel_rfl) (by simp) (aB.2 ⟨?_,by simp⟩);intro C c;refine dK rfl rfl ?_;refine eM 58 _ _ rfl E 0 58 _ _ (rwL U) rfl rfl (Q.out.o5 rfl).1 (by kernel_rfl) (by simp[Value.oneCell']) (by simp) rfl ?_;intro W2 d5 g3 e6;have b7:=Q.out.chg.trans (S:=NoS) d5 (fun x u e=>by have:=(Q.out.o5 rfl).2;omega);refine c _ _ (l.out _ b7) ?_;clear c C;(try simp only[pA]);have f2:=d5.kept (Q.out.o6 rfl).1 (gA (Q.out.o6 rfl).1 (Q.out.o5 rfl).1 (by decide));have b2:=cN (aLp e6 f2 b7);clear d5 g3 e6 b7 f2;refine dQ [13] (by kernel_rfl) (by simp) (aB.2 ⟨?_,by simp⟩);intro C c;refine dK rfl rfl ?_;refine eM 66 _ _ rfl H 0 66 _ _ (mgL N) rfl rfl b2.out.2.1 (by kernel_rfl) (by simp[Value.oneCell']) (by simp) rfl ?_;intro W3 d7 g0 f1;have L:=b2.out.2.2.trans (S:=NoS) d7 (fun x u e=>by have:=(Q.out.o6 rfl).2;omega);refine c _ _ (l.out _ L) ?_;clear c C;(try simp only[pA]);have f5:=d7.kept b2.out.1 (gA b2.out.1 b2.out.2.1 (by decide));have R:=cN (aLp f5 f1 L);clear d7 g0 f1 L f5;refine dQ [14] (by kernel_rfl) (by simp) (aB.2 ⟨?_,by simp⟩);intro C c;refine dK rfl rfl ?_;go_simp;refine c _ _ (l.out _ R.out.2.2) ?_;clear c C;(try simp only[pA]);refine qQ (by kernel_rfl) ?_;have b9:=(O.out.1.kept O.out.2.2.2.2.2.2.2.2 (fun _ _ h=>h) (fun _ _ h=>h)).kept R.out.2.2 (fun _ _ h=>h) (fun _ _ h=>h);have L:=O.out.2.2.2.2.2.2.2.2.trans (S:=NoS) R.out.2.2 (fun _ _ h=>h);have c5:=O.out.2.1.kept L (fun _ h=>h.elim);have e1:=cN (cR R.out.1)
   have H3:=cN (aLp b9 L c5);clear b9 L c5;have g8:Hid (E<W3.heap.size∧H<W3.heap.size∧W.heap.size<W3.heap.size∧W.heap.size≤E∧W.heap.size≤H):=by
    have q1:=dG R.out.1;have q2:=dG R.out.2.1;have q3:=dG (a9.out _ R.out.2.2);have q4:=(Q.out.o5 rfl).2;have q5:=(Q.out.o6 rfl).2;have q6:=g2.out;exact⟨q1,q2,q3,by omega,by omega⟩
   have f8:Hid (∀F',(∀x,F' x→F x)→∀A,Chg F' W3 A→A.heap[H]?=some (.cells (mgL N).toArray 66 (0,0))∧A.heap[W.heap.size]?=some (.cells (mgL m).toArray 66 (0,0))):=fun F' hF A hA=>by
    have q:=g8.out;refine⟨hA.kept R.out.2.1 (fun u=>?_),hA.kept (a9.out _ R.out.2.2) (fun u=>?_)⟩
    ·have:=O.out.1.acc.lt _ (hF _ u);omega
    ·have:=O.out.1.acc.lt _ (hF _ u);omega
   cases ds with
   |false=>
    have P:=cN (b0.out.1 rfl);have e4:=cN (aEi W3 F G b g av cv a net tr N m H3.out.1 (by omega) (by omega));obtain⟨b6,bm⟩:=f8.out F (fun _ h=>h) W3 (Chg.refl _ _);have d4:=cN (cR b6);have e2:=cN (cR bm);clear b6 bm;go_wp2_with (first|(refine cW rfl 66 _ rfl ⟨H,0,none⟩ rfl (mgL N) _ d4.out underlying66 rfl (by kernel_rfl) ?_)|(refine cW rfl 66 _ rfl ⟨W.heap.size,0,none⟩ rfl (mgL m) _ e2.out underlying66 rfl (by kernel_rfl) ?_)|(go_at_call 172;refine e4.out.mono ?_;rintro e W4 ⟨rfl,G4,J,b1,f3⟩;refine cQ ?_));have H4:Hid (AfterA W F G b g av cv a (net++dJ [sentEv (mH a N m)]) (tr++[sentEv (mH a N m)]) W4):=⟨F,G4,by rw[rM _ rfl];exact J,⟨(H3.out.2.1.nos:Chg (fun x=>F x∨G x) W W3).trans b1 (fun _ _ h=>Or.inr h),fun _ h=>Or.inl h,fun x u=>by
     rcases f3 x u with h|h
     ·exact Or.inl h
     ·exact Or.inr (cA H3.out.2.1.size h)⟩⟩
    clear J b1 f3;refine cN ?_;go_wp2_with fail;go_ret;rw[P.out];exact⟨H4.out,rfl⟩
   |true=>
    have a3:=aI3 (aHw W3 F B eb b g a U H3.out.1.acc H3.out.2.2 O.out.2.2.1 O.out.2.2.2.2.1 (by rw[O.out.2.2.2.2.2.2.2.1];exact⟨hm0,hm3⟩) O.out.2.2.2.2.2.1 O.out.2.2.2.2.2.2.1);obtain⟨p,hp⟩:=aLz (gN a U);rw[←hp]at a3;have HP:=cN hp.symm;clear hp;obtain⟨z,hw⟩:=p;cases hw using mM with
    |dies q=>
     have P:=cN (b0.out.2.1 rfl _ _ HP.out);have X:=cN a3;clear a3;go_wp2_with (first|(refine cW rfl 58 _ rfl ⟨E,0,none⟩ rfl (rwL U) _ e1.out underlying58 rfl (by kernel_rfl) ?_)|(go_at_call 171;refine X.out.mono ?_;rintro e W4 ⟨rfl,s⟩;refine cQ ?_));obtain⟨F4,J,V⟩:=H3.out.1.went s;have H4:Hid (AfterA W F G b g av cv z (net++dJ []) (tr++[]) W4):=⟨F4,G,by rw[fF,aC,aC];exact J,(⟨H3.out.2.1.nos,fun _ h=>Or.inl h,fun _ h=>Or.inl h⟩:Went W W3 F F G G).trans V⟩;clear s J V;refine cN ?_;go_wp2_with fail;refine⟨rfl,?_⟩;rw[P.out];exact⟨H4.out,rfl⟩
    |full=>
     have P:=cN (b0.out.2.2.1 rfl _ HP.out);have X:=cN a3;clear a3;go_wp2_with (first|(refine cW rfl 58 _ rfl ⟨E,0,none⟩ rfl (rwL U) _ e1.out underlying58 rfl (by kernel_rfl) ?_)|(go_at_call 171;refine X.out.mono ?_;rintro e W4 ⟨fb,rfl,b4,d6,s⟩;refine cQ ?_));obtain⟨F4,J,V⟩:=H3.out.1.went s;have H4:Hid (AfterA W F G b g av cv z (net++dJ []) (tr++[]) W4∧lU W4 fb (oO eb)):=⟨⟨F4,G,by rw[fF,aC,aC];exact J,(⟨H3.out.2.1.nos,fun _ h=>Or.inl h,fun _ h=>Or.inl h⟩:Went W W3 F F G G).trans V⟩,b4⟩;clear s J V b4 d6;refine cN ?_;go_wp2_with fail;go_ret;rw[P.out];exact⟨H4.out.1,fb,rfl,H4.out.2⟩
    |fine=>
     have K:=aFi HP.out O.out.2.2.2.2.1.fo;have X:=cN a3;clear a3;go_wp2_with (first|(refine cW rfl 58 _ rfl ⟨E,0,none⟩ rfl (rwL U) _ e1.out underlying58 rfl (by kernel_rfl) ?_)|(go_at_call 171;refine X.out.mono ?_;rintro e W4 ⟨rfl,s⟩;refine cQ ?_));have f9:=s;obtain⟨F4,J,V⟩:=H3.out.1.went s;obtain⟨g9,_,b1,_⟩:=f9;obtain⟨b6,bm⟩:=f8.out F (fun _ h=>h) W4 b1;have d4:=cN (cR b6);have e2:=cN (cR bm);have e4:=cN (aEi W4 F4 G b g av cv z net tr N m J (by omega) (by omega));have c7:=(⟨H3.out.2.1.nos,fun _ h=>Or.inl h,fun _ h=>Or.inl h⟩:Went W W3 F F G G).trans V;have g4:=cN c7;have g6:(dW U).length≤25:=zD U;have d0:yA z:=by
      have ok:=O.out.2.2.2.2.1;refine⟨by rw[K.2.2.2.2.2.1];exact ok.n0,by rw[K.2.2.2.2.2.1];exact ok.n1,by rw[K.2.2.2.2.2.2.1];exact ok.c0,by rw[K.2.2.2.2.2.2.1];exact ok.c1,?_,K.1,?_⟩
      ·rw[K.2.2.2.2.1];intro x u;rcases aO.1 u with h|h
       ·exact ok.lk x h
       ·rw[List.mem_singleton]at h;subst h;rw[O.out.2.2.2.2.2.2.2.1];exact⟨hm0,hm3⟩
      ·rw[K.2.2.2.1,aD];omega
     have c2:=cN (aLp d0 (K.2.1.trans O.out.2.2.2.2.2.1) (K.2.2.1.trans O.out.2.2.2.2.2.2.1));have d1:mH z N m=mH a N m:=by unfold mH;rw[K.2.2.2.2.2.1]
     have g5:=cN d1;clear s J V b1 b6 bm c7 g6 d0 K d1;refine cN ?_;go_wp2_with (first|(refine cW rfl 66 _ rfl ⟨H,0,none⟩ rfl (mgL N) _ d4.out underlying66 rfl (by kernel_rfl) ?_)|(refine cW rfl 66 _ rfl ⟨W.heap.size,0,none⟩ rfl (mgL m) _ e2.out underlying66 rfl (by kernel_rfl) ?_)|(go_at_call 172;refine e4.out.mono ?_;rintro e W5 ⟨rfl,G5,c3,f4,f7⟩;refine cQ ?_));rw[g5.out]at c3;have a4:=g4.out.trans ⟨f4.mono (fun _ _ h=>Or.inr h),fun _ h=>Or.inl h,f7⟩;have c9:=O.out.2.1.kept a4.chg (fun x u=>by rcases u with u|u;exact O.out.2.2.1 x u;exact O.out.2.2.2.1 x u);have c8:∀x,F4 x→B≤x:=fun x u=>by
      rcases a4.f x u with h|h
      ·exact O.out.2.2.1 x h
      ·have:=O.out.2.1.hB;omega
     have f6:=cN (aBx W5 F4 b g z c3.acc (by have:=c2.out.1.l1;omega));have H5:=cN (aLq c3 a4 c9 c8);clear c3 f4 f7 a4 c9 c8;refine cN ?_;cases hlg:mB z with
     |false=>
      have P:=cN (b0.out.2.2.2.1 (by first|rfl|trivial) _ HP.out hlg);have b5:Hid (Calls prog 173 #[.pointer (some ⟨b,0,none⟩)] W5 fun e W'=>e= .returned (.bool false)∧W'=W5.drew):=hlg▸f6.out;clear hlg;go_wp2_with (first|(go_at_call 173;refine b5.out.mono ?_;rintro e W6 ⟨rfl,hW⟩;subst hW));go_ret;rw[P.out];refine⟨⟨F4,G5,?_,⟨H5.out.2.1.chg.drew,H5.out.2.1.f,H5.out.2.1.g⟩⟩,rfl⟩;rw[rM _ rfl];exact H5.out.1.drew
     |true=>
      have P:=cN (b0.out.2.2.2.2 (by first|rfl|trivial) _ HP.out hlg);have b5:Hid (Calls prog 173 #[.pointer (some ⟨b,0,none⟩)] W5 fun e W'=>e= .returned (.bool true)∧W'=W5.drew):=hlg▸f6.out;clear hlg;have a0:=aI3 (pK W5.drew F4 B eb b g z H5.out.1.drew.acc (H5.out.2.2.1.kept (Chg.refl NoS W5).drew (fun _ h=>h.elim)) H5.out.2.2.2 c2.out.1 c2.out.2.1 c2.out.2.2);obtain⟨p,hp⟩:=aLz (eJ z);rw[←hp]at a0;have d3:Hid (jE a m=(p.1,[sentEv (mH a N m)],p.2)):=by rw[hp];exact P.out
      clear hp;obtain⟨a2,hw⟩:=p;have b8:Hid (∀W6,AcTo W5.drew F4 b g a2 W6→AfterA W F G b g av cv a2 (net++dJ [sentEv (mH a N m)]) (tr++[sentEv (mH a N m)]) W6):=fun W6 s=>by
       obtain⟨F6,g1,d2⟩:=H5.out.1.drew.went s;refine⟨F6,G5,by rw[rM _ rfl];exact g1,H5.out.2.1.trans ⟨d2.chg.of_drew,d2.f,d2.g⟩⟩
      cases hw using mM with
      |fine=>
       have b3:=cN a0;clear a0;go_wp2_with (first|(go_at_call 173;refine b5.out.mono ?_;rintro e W6 ⟨rfl,hW⟩;subst hW)|(go_at_call 174;refine b3.out.mono ?_;rintro e W6 ⟨rfl,s⟩;refine cQ ?_));have H6:=cN (b8.out _ s);clear s;refine cN ?_;go_wp2_with fail;go_ret;rw[d3.out];exact⟨H6.out,rfl⟩
      |dies q=>
       have b3:=cN a0;clear a0;go_wp2_with (first|(go_at_call 173;refine b5.out.mono ?_;rintro e W6 ⟨rfl,hW⟩;subst hW)|(go_at_call 174;refine b3.out.mono ?_;rintro e W6 ⟨rfl,s⟩;refine cQ ?_));have H6:=cN (b8.out _ s);clear s;refine cN ?_;go_wp2_with fail;refine⟨rfl,?_⟩;rw[d3.out];exact⟨H6.out,rfl⟩
      |full=>
       have b3:=cN a0;clear a0;go_wp2_with (first|(go_at_call 173;refine b5.out.mono ?_;rintro e W6 ⟨rfl,hW⟩;subst hW)|(go_at_call 174;refine b3.out.mono ?_;rintro e W6 ⟨fb,rfl,b4,d6,s⟩;refine cQ ?_));have H6:=cN (aLo (b8.out _ s) b4);clear s b4 d6;refine cN ?_;go_wp2_with fail;go_ret;rw[d3.out];exact⟨H6.out.1,fb,rfl,H6.out.2⟩
 ·exact(M.out _ _ _ _).2 ⟨false,false,false,false,0,0,rfl,(fun h=>by cases h),rfl,rfl,Two.begin W0⟩
end
section
open Go.Maps
theorem aGr(R:Ending→World→Prop)(c:List PanicEntry)(a:Act)(d:Option Nat)(v:Value)(w:World)(hd:∀k,d=some k→k≠4)(h:bodyPostD prog f85 R (.panic c) (a.put d v) w):bodyPostD prog f85 R (.panic c) a w:=by
 cases d with
 |none=>exact h
 |some k=>
  have b:=hd k rfl;refine uU (t':=(a.put (some k) v).tmps) (fun w=>?_) _ _ _ h;simp[results,results85,Act.put,cK,Array.getElem?_setIfInBounds,b]
theorem aJM{f:FuncId}{args:Array Value}{ev:Value}{W:World}{F G:Nat→Prop}{b g:Nat}{av cv:Value}{net:List Mg}{tr:List Ev}{p:Ac×List Ev×How}(h:Calls prog f args W fun e W'=>aKs ev W F G b g av cv net tr p e W'):match p.2.2 with
 |.none=>Calls prog f args W fun e W'=>e= .returned .nilIface∧AfterA W F G b g av cv p.1 (net++dJ p.2.1) (tr++p.2.1) W'
 |(.some (.some q))=>Calls prog f args W fun e W'=>e= .panicked (rS q)∧AfterA W F G b g av cv p.1 (net++dJ p.2.1) (tr++p.2.1) W'
 |(.some .none)=>Calls prog f args W fun e W'=>∃fb,e= .returned (lV fb)∧lU W' fb ev∧AfterA W F G b g av cv p.1 (net++dJ p.2.1) (tr++p.2.1) W':=by
 obtain⟨c,d,a⟩:=p;cases a using mM with
 |fine=>exact h.mono fun e W' ⟨h1,h2⟩=>⟨h2,h1⟩
 |dies q=>exact h.mono fun e W' ⟨h1,h2⟩=>⟨h2,h1⟩
 |full=>exact h.mono fun e W' ⟨h1,fb,h2,h3⟩=>⟨fb,h2,h3,h1⟩
theorem aDy{a:Ac}(m:Mg)(h:¬a.st=0):sU a m=a∧mZ a m=[]∧wK a m=0:=by
 refine⟨if_pos h,if_pos h,if_pos h⟩
theorem aH1(W:World)(F G:Nat→Prop)(B:Nat)(eb:Addr)(b g:Nat)(av cv:Value)(a:Ac)(net:List Mg)(tr:List Ev)(m:Mg)(h:ASys W F G b g av cv a net tr)(hgl:GlAt W B eb)(hFB:∀x,F x→B≤x)(hGB:∀x,G x→B≤x)(hok:yA a)(hll:(a.dk.log.length:Int)≤99999999000)(hnew':a.st=0→a.dk.new=none)(hold:a.dk.old=none)
 (hcr':a.st=0→∀q,(jE a m).2.2=(.some (.some q))→aH8 (jE a m).1.dk∧0≤q) (hnum:(jE a m).1.num=a.num) (hsz':a.st=0→(jE a m).2.1.length≤5)
 (hm0:0≤m.lock) (hm3:m.lock≤3) (hn:net.length≤99999999990) (ht:tr.length≤99999999990):
 Calls prog 85 #[.pointer (some ⟨b,0,none⟩),mgV m] W fun e W'=>e= .returned (.int .i64 (wK a m))∧AfterA W F G b g av cv (sU a m) (net++dJ (mZ a m)) (tr++mZ a m) W':=by
 have f3:∀(fn:Fn) (first cap:Array Value) (w:World),(Instr.makeFunc fn first cap).run prog w= .ok (.func fn first cap) w:=fun _ _ _ _=>rfl;have Q:Chg NoS W (((W.alloc (.cells #[.pointer (some ⟨b,0,none⟩)] 114)).alloc (.cells #[.int .i64 m.kind,.int .i64 m.src,.int .i64 m.dst,.int .i64 m.lock,.int .i64 m.bal,.int .i64 m.base,.int .i64 m.val.own,.int .i64 m.val.tok,.int .i64 m.val.ttl,.int .i64 m.val.seq] 66)).alloc (.cells #[.int .i64 0] 48)):=(((Chg.refl _ _).alloc _).alloc _).alloc _;have b0:=dM (.cells #[.int .i64 0] 48) (dM (.cells #[.int .i64 m.kind,.int .i64 m.src,.int .i64 m.dst,.int .i64 m.lock,.int .i64 m.bal,.int .i64 m.base,.int .i64 m.val.own,.int .i64 m.val.tok,.int .i64 m.val.ttl,.int .i64 m.val.seq] 66) (aA W (.cells #[.pointer (some ⟨b,0,none⟩)] 114)));have b1:=dM (.cells #[.int .i64 0] 48) (aA (W.alloc (.cells #[.pointer (some ⟨b,0,none⟩)] 114)) (.cells #[.int .i64 m.kind,.int .i64 m.src,.int .i64 m.dst,.int .i64 m.lock,.int .i64 m.bal,.int .i64 m.base,.int .i64 m.val.own,.int .i64 m.val.tok,.int .i64 m.val.ttl,.int .i64 m.val.seq] 66));have b2:=aA ((W.alloc (.cells #[.pointer (some ⟨b,0,none⟩)] 114)).alloc (.cells #[.int .i64 m.kind,.int .i64 m.src,.int .i64 m.dst,.int .i64 m.lock,.int .i64 m.bal,.int .i64 m.base,.int .i64 m.val.own,.int .i64 m.val.tok,.int .i64 m.val.ttl,.int .i64 m.val.seq] 66)) (.cells #[.int .i64 0] 48)
 have b4:(((W.alloc (.cells #[.pointer (some ⟨b,0,none⟩)] 114)).alloc (.cells #[.int .i64 m.kind,.int .i64 m.src,.int .i64 m.dst,.int .i64 m.lock,.int .i64 m.bal,.int .i64 m.base,.int .i64 m.val.own,.int .i64 m.val.tok,.int .i64 m.val.ttl,.int .i64 m.val.seq] 66)).alloc (.cells #[.int .i64 0] 48)).heap.size=W.heap.size+3:=by simp
 simp only[bK]at b1 b2;have L:∃p,((W.alloc (.cells #[.pointer (some ⟨b,0,none⟩)] 114)).alloc (.cells #[.int .i64 m.kind,.int .i64 m.src,.int .i64 m.dst,.int .i64 m.lock,.int .i64 m.bal,.int .i64 m.base,.int .i64 m.val.own,.int .i64 m.val.tok,.int .i64 m.val.ttl,.int .i64 m.val.seq] 66)).alloc (.cells #[.int .i64 0] 48)=p:=⟨_,rfl⟩;obtain⟨p,L⟩:=L;rw[L]at Q b0 b1 b2 b4;have a0:=cN L;have Y:=h.kept Q (fun _ _ h=>h) (fun _ _ h=>h);have c3:=hgl.kept Q (fun _ h=>h.elim);obtain⟨FD,d,tb,ha,e6,e1⟩:=Y.acc;have c4:=ha.cell 4 _ rfl;have k0:p.cell? ⟨W.heap.size,0,none⟩=some (.pointer (some ⟨b,0,none⟩)):=cO b0 0 _ rfl;have k2:p.cell? ⟨W.heap.size+1+1,0,none⟩=some (.int .i64 0):=cO b2 0 _ rfl;have z2:=cX b2 0;have c7:=cN Y;have b8:=cN c3;have c2:=cN Q;have c0:=cN b4;have e3:=cN b0;have c8:=cN b1;have c6:=cN b2;have b6:=cN (aLo h.acc.lt h.nt.lt);clear L Q b0 b1 b2 b4 Y c3 ha e6 e1 h hgl;by_cases n:a.st=0
 ·have d7:=hnew' n;have d2:=hcr' n;have c1:=hsz' n;clear hnew' hcr' hsz';have hb:(a.st==0)=true:=by simp[n]
  have e2:(a.st !=0)=false:=by simp[n]
  have l:=cN (aJM (aJQ p.drew F G B eb b g av cv a net tr m c7.out.drew (b8.out.kept (S:=NoS) (Chg.refl _ _).drew (fun _ h=>h.elim)) hFB hGB hok hll d7 hold hm0 hm3 hn ht));have b7:=cN (cR (cs:=mgL m) c8.out);have eS:sU a m=(match jE a m with|(a1,_,(.some (.some q)))=>crashA a1 q|(a1,_,h)=>uP a1 h):=if_neg (by omega);have eE:mZ a m=(match jE a m with|(_,e,(.some (.some _)))=>e++[eO a.num]|(_,e,_)=>e):=if_neg (by omega);have eR:wK a m=(match jE a m with|(_,_,(.some (.some q)))=>6|_=>0):=if_neg (by omega);have c5:∀s,AfterA p.drew F G b g av cv (jE a m).1 (net++dJ (jE a m).2.1) (tr++(jE a m).2.1) s→∃u I,ASys s u I b g av cv (jE a m).1 (net++dJ (jE a m).2.1) (tr++(jE a m).2.1)∧Went W s F u G I∧GlAt s B eb∧s.heap[W.heap.size]?=some (.cells #[.pointer (some ⟨b,0,none⟩)] 114 (0,0))∧s.heap[W.heap.size+1]?=some (.cells (mgL m).toArray 66 (0,0))∧s.heap[W.heap.size+1+1]?=some (.cells #[.int .i64 0] 48 (0,0))∧(∀k,u k→B≤k)∧(∀k,I k→B≤k)∧¬u (W.heap.size+1+1)∧¬I (W.heap.size+1+1):=by
   rintro s ⟨u,I,hs,X⟩;have a2:=c0.out;have hsz':p.drew.heap.size=W.heap.size+3:=a2;have hF:=b6.out.1;have hG:=b6.out.2;have M:∀k,W.heap.size≤k→¬(F k∨G k):=fun k hk h=>by rcases h with h|h<;>first|(have:=hF k h;omega)|(have:=hG k h;omega)
   have hB:=b8.out.hB;have e0:=(⟨c2.out.drew.mono (fun _ _ h=>h.elim),fun _ h=>Or.inl h,fun _ h=>Or.inl h⟩:Went W p.drew F F G G).trans X;refine⟨u,I,hs,e0,(b8.out.kept (S:=NoS) (Chg.refl _ _).drew (fun _ h=>h.elim)).kept X.chg (fun k h=>h.elim (hFB k) (hGB k)),X.chg.kept (show p.drew.heap[W.heap.size]?=_ from e3.out) (M _ (by omega)),X.chg.kept (show p.drew.heap[W.heap.size+1]?=_ from c8.out) (M _ (by omega)),X.chg.kept (show p.drew.heap[W.heap.size+1+1]?=_ from c6.out) (M _ (by omega)),fun k hk=>?_,fun k hk=>?_,fun h=>?_,fun h=>?_⟩
   ·rcases X.f k hk with h|h
    ·exact hFB k h
    ·omega
   ·rcases X.g k hk with h|h
    ·exact hGB k h
    ·omega
   ·rcases X.f _ h with h|h
    ·exact M _ (by omega) (Or.inl h)
    ·omega
   ·rcases X.g _ h with h|h
    ·exact M _ (by omega) (Or.inr h)
    ·omega
  have H:=cN c5;clear n c5;cases hact:jE a m with
  |mk a1 pe=>
   obtain⟨V,e8⟩:=pe;rw[hact]at l H d2 hnum c1 eS eE eR;cases e8 using mM with
   |fine=>
    have O:Hid (Calls prog 130 #[.pointer (some ⟨b,0,none⟩),mgV m] p.drew fun e W'=>e= .returned .nilIface∧AfterA p.drew F G b g av cv a1 (net++dJ V) (tr++V) W'):=l.out;rw[eS,eE,eR];clear eS eE eR l hact
    go_enter_defers func85,ntmps85
    go_wp2_with (rw[a0.out]);refine nB [(1,0),(1,1),(1,2),(2,3)] [4] (fun x=>x.cell? ⟨W.heap.size,0,none⟩=some (.pointer (some ⟨b,0,none⟩))∧∀j y,(mgL m)[j]?=some y→x.cell? ((⟨W.heap.size+1,0,none⟩:Addr).add j)=some y) (by kernel_rfl) (by kernel_rfl) ?_ ?_ ?_
    ·intro c a1 i o v w1 ho Y;refine aGr _ c a1 o.dst v w1 (fun k hk=>?_) Y;have hm:=List.mem_of_getElem? (by simpa using ho);simp only[List.mem_cons,List.not_mem_nil,or_false]at hm;rcases hm with rfl|rfl|rfl|rfl|rfl<;>(cases hk;decide)
    ·exact⟨k0,b7.out⟩
    simp only[kC,oN,cM,cL];iterate 2 (apply sB rfl rfl;·(intro x h;(try have h:=h rfl);(try dsimp only at h);go_simp;with_reducible rfl))
    try simp only[pA]
    refine dA rfl (fun x hx=>cU 66 _ rfl ⟨W.heap.size+1,0,none⟩ rfl _ _ hx.2 underlying66 rfl (by kernel_rfl)) ?_;(try simp only[pA]);refine dI rfl (fun C hC=>?_);go_simp;refine O.out.mono ?_;rintro e s ⟨rfl,A⟩;obtain⟨u,I,r,z,J,p0,p1,U,Z,E,n1,n2⟩:=H.out s A;refine hC _ _ ⟨cO p0 0 _ rfl,cR p1⟩ ?_;clear hC C;refine cP ?_;have a4:=cN (aBS s B eb b J);have N:=cN r;have t:=cN z;have a6:=cN U;have HN:=cN (aLo n1 n2);clear r z J p0 p1 U Z E n1 n2 A k2 z2;go_wp2_with (go_at_call 129;refine a4.out.mono ?_;rintro e w3 ⟨rfl,P⟩;have D:=cN P;clear P;refine cQ ?_);refine cN ?_;have K:=D.out.kept a6.out (fun h=>h);have k3:=cO K 0 _ rfl;have z3:=cX K 0;have q4:=dD K 0 (.int .i64 0);have b5:=cN (cO q4 0 (.int .i64 0) (by simp));have a8:=cN ((N.out.kept D.out (fun _ _ h=>h) (fun _ _ h=>h)).kept (cY w3 (W.heap.size+1+1) 0 (.int .i64 0)) (fun k hk e=>HN.out.1 (e▸hk)) (fun k hk e=>HN.out.2 (e▸hk)));have a7:=cN ((D.out.mono (T:=fun k=>k=W.heap.size+1+1) (fun _ _ h=>h.elim)).trans (cY w3 (W.heap.size+1+1) 0 (.int .i64 0)) (fun x _ h=>h));clear K q4;go_wp2_with fail;refine leaves_cons (f:=127) (args:=#[.pointer (some ⟨W.heap.size,0,none⟩),.pointer (some ⟨W.heap.size+1+1,0,none⟩)]) (by simp) (by simp[go_sem]) ?_;refine(aBV _ _ _).mono ?_;rintro e u' c9 ⟨rfl,rfl,rfl⟩;refine⟨.int .i64 0,by simp[results,results85,go_sem,b5.out],rfl,u,I,a8.out,t.out.chg.trans a7.out (fun x hx h=>by omega),t.out.f,t.out.g⟩
   |dies q=>
    have O:Hid (Calls prog 130 #[.pointer (some ⟨b,0,none⟩),mgV m] p.drew fun e W'=>e= .panicked (rS q)∧AfterA p.drew F G b g av cv a1 (net++dJ V) (tr++V) W'):=l.out;rw[eS,eE,eR];clear eS eE eR l hact
    go_enter_defers func85,ntmps85
    go_wp2_with (rw[a0.out]);refine nB [(1,0),(1,1),(1,2),(2,3)] [4] (fun x=>x.cell? ⟨W.heap.size,0,none⟩=some (.pointer (some ⟨b,0,none⟩))∧∀j y,(mgL m)[j]?=some y→x.cell? ((⟨W.heap.size+1,0,none⟩:Addr).add j)=some y) (by kernel_rfl) (by kernel_rfl) ?_ ?_ ?_
    ·intro c a1 i o v w1 ho Y;refine aGr _ c a1 o.dst v w1 (fun k hk=>?_) Y;have hm:=List.mem_of_getElem? (by simpa using ho);simp only[List.mem_cons,List.not_mem_nil,or_false]at hm;rcases hm with rfl|rfl|rfl|rfl|rfl<;>(cases hk;decide)
    ·exact⟨k0,b7.out⟩
    simp only[kC,oN,cM,cL];iterate 2 (apply sB rfl rfl;·(intro x h;(try have h:=h rfl);(try dsimp only at h);go_simp;with_reducible rfl))
    try simp only[pA]
    refine dA rfl (fun x hx=>cU 66 _ rfl ⟨W.heap.size+1,0,none⟩ rfl _ _ hx.2 underlying66 rfl (by kernel_rfl)) ?_;(try simp only[pA]);refine dI rfl (fun C hC=>?_);go_simp;refine O.out.mono ?_;rintro e s ⟨rfl,A⟩;obtain⟨u,I,r,z,J,p0,p1,U,Z,E,n1,n2⟩:=H.out s A;clear k2 z2;obtain⟨d5,d4⟩:=d2 q rfl;have f2:=lS V;have hsz':=c1;refine leaves_cons (f:=127) (args:=#[.pointer (some ⟨W.heap.size,0,none⟩),.pointer (some ⟨W.heap.size+1+1,0,none⟩)]) (by simp) (by simp[go_sem]) ?_;refine(aHc s u I b g av cv a1 _ _ q _ _ r d5 d4 (by rw[aD];omega) (by rw[aD];omega) p0 U n1 n2).mono ?_;rintro e u' c9 ⟨rfl,rfl,W3,d8,d6,rfl⟩;have K:=d6.trans U;have q4:=dD K 0 (.int .i64 6);have k4:=cO q4 0 (.int .i64 6) (by simp);obtain⟨F3,G3,d9,a9⟩:=d8;have f1:=dG U;have m1:¬F3 (W.heap.size+1+1):=fun h=>(a9.f _ h).elim n1 (fun h=>by omega);have m2:¬G3 (W.heap.size+1+1):=fun h=>(a9.g _ h).elim n2 (fun h=>by omega);have e4:=d9.kept (cY W3 (W.heap.size+1+1) 0 (.int .i64 6)) (fun k hk e=>m1 (e▸hk)) (fun k hk e=>m2 (e▸hk));have a5:=z.trans a9;have e7:=hnum;refine⟨.int .i64 6,by simp[results,results85,go_sem,k4],rfl,F3,G3,?_,a5.chg.trans (cY W3 (W.heap.size+1+1) 0 (.int .i64 6)) (fun x hx h=>by omega),a5.f,a5.g⟩;rw[jB,show dJ [eO a.num]=[]from fE _ (show(4:Int)≠1 by decide),aC,←aS,←e7];exact e4
   |full=>
    have O:Hid (Calls prog 130 #[.pointer (some ⟨b,0,none⟩),mgV m] p.drew fun e W'=>∃fb,e= .returned (lV fb)∧lU W' fb (oO eb)∧AfterA p.drew F G b g av cv a1 (net++dJ V) (tr++V) W'):=l.out;rw[eS,eE,eR];clear eS eE eR l hact
    go_enter_defers func85,ntmps85
    go_wp2_with (rw[a0.out]);refine nB [(1,0),(1,1),(1,2),(2,3)] [4] (fun x=>x.cell? ⟨W.heap.size,0,none⟩=some (.pointer (some ⟨b,0,none⟩))∧∀j y,(mgL m)[j]?=some y→x.cell? ((⟨W.heap.size+1,0,none⟩:Addr).add j)=some y) (by kernel_rfl) (by kernel_rfl) ?_ ?_ ?_
    ·intro c a1 i o v w1 ho Y;refine aGr _ c a1 o.dst v w1 (fun k hk=>?_) Y;have hm:=List.mem_of_getElem? (by simpa using ho);simp only[List.mem_cons,List.not_mem_nil,or_false]at hm;rcases hm with rfl|rfl|rfl|rfl|rfl<;>(cases hk;decide)
    ·exact⟨k0,b7.out⟩
    simp only[kC,oN,cM,cL];iterate 2 (apply sB rfl rfl;·(intro x h;(try have h:=h rfl);(try dsimp only at h);go_simp;with_reducible rfl))
    try simp only[pA]
    refine dA rfl (fun x hx=>cU 66 _ rfl ⟨W.heap.size+1,0,none⟩ rfl _ _ hx.2 underlying66 rfl (by kernel_rfl)) ?_;(try simp only[pA]);refine dI rfl (fun C hC=>?_);go_simp;refine O.out.mono ?_;rintro e s ⟨fb,rfl,b9,A⟩;obtain⟨u,I,r,z,J,p0,p1,U,Z,E,n1,n2⟩:=H.out s A;refine hC _ _ ⟨cO p0 0 _ rfl,cR p1⟩ ?_;clear hC C;refine cP ?_;have a4:=cN (zI s u B eb b g fb a1 r.acc J b9);have d1:u b:=by
     obtain⟨f0,d',e9,f4,e5,_⟩:=r.acc;exact e5 b (Or.inr (Or.inl rfl))
    have b3:=cN d1;have N:=cN r;have t:=cN z;have a6:=cN U;have HN:=cN (aLo n1 n2);clear d1 b9 r z J p0 p1 U Z E n1 n2 A k2 z2;go_wp2_with (go_at_call 129;refine a4.out.mono ?_;rintro e w3 ⟨rfl,a3,P⟩;have D:=cN P;have d3:=cN a3;clear P a3;refine cQ ?_);refine cN ?_;have K:=D.out.kept a6.out (fun h=>HN.out.1 (by rw[h];exact b3.out));have R:ASys w3 u I b g av cv {a1 with st:=1} (net++dJ V) (tr++V):=⟨d3.out,N.out.nt.kept D.out (fun k hk e=>N.out.apart k (by rw[show k=b from e];exact b3.out) hk),N.out.apart⟩;have k3:=cO K 0 _ rfl;have z3:=cX K 0;have q4:=dD K 0 (.int .i64 0);have b5:=cN (cO q4 0 (.int .i64 0) (by simp));have a8:=cN (R.kept (cY w3 (W.heap.size+1+1) 0 (.int .i64 0)) (fun k hk e=>HN.out.1 (e▸hk)) (fun k hk e=>HN.out.2 (e▸hk)));have a7:=cN ((D.out.mono (T:=fun k=>k=b∨k=W.heap.size+1+1) (fun _ _ h=>Or.inl h)).trans (cY w3 (W.heap.size+1+1) 0 (.int .i64 0)) (fun x _ h=>Or.inr h));clear K q4 R;go_wp2_with fail;refine leaves_cons (f:=127) (args:=#[.pointer (some ⟨W.heap.size,0,none⟩),.pointer (some ⟨W.heap.size+1+1,0,none⟩)]) (by simp) (by simp[go_sem]) ?_;refine(aBV _ _ _).mono ?_;rintro e u' c9 ⟨rfl,rfl,rfl⟩;refine⟨.int .i64 0,by simp[results,results85,go_sem,b5.out],rfl,u,I,a8.out,t.out.chg.trans a7.out (fun x hx h=>by
     rcases h with h|h
     ·rcases t.out.f x (by rw[h];exact b3.out)with h'|h'
      ·exact Or.inl h'
      ·omega
     ·omega),t.out.f,t.out.g⟩
 ·obtain⟨t1,t2,t3⟩:=aDy m n;rw[t1,t2,t3];have hb:(a.st==0)=false:=by simp[n]
  have e2:(a.st !=0)=true:=by simp[n]
  clear t1 t2 t3 n
  go_enter_defers func85,ntmps85
  go_wp2_with (rw[a0.out]);refine⟨.int .i64 0,by simp[results,results85,go_sem,cO (dD c6.out 0 (.int .i64 0)) 0 (.int .i64 0) (by simp)],rfl,?_⟩;rw[fF,aC,aC];have a2:=c0.out;have d0:=b6.out;exact⟨F,G,c7.out.kept (cY p (W.heap.size+1+1) 0 (.int .i64 0)) (fun k hk e=>by have:=d0.1 k hk;omega) (fun k hk e=>by have:=d0.2 k hk;omega),(c2.out.mono (fun _ _ h=>h.elim)).trans (cY p (W.heap.size+1+1) 0 (.int .i64 0)) (fun x hx h=>by omega),fun _ h=>Or.inl h,fun _ h=>Or.inl h⟩
end
end Go.Proofs.YtbbdgokdfhdpiaaGreatDoor
