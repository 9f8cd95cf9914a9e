/- A part of the proof: PAc10, PAct, PTk2, RfTop7. -/
import Derived.Test.YtbbdgokdfhdpiaaGreatDoorA24
import Derived.Test.YtbbdgokdfhdpiaaGreatDoorA29
namespace Go.Proofs.YtbbdgokdfhdpiaaGreatDoor
set_option linter.all false
set_option maxRecDepth 100000
set_option maxHeartbeats 40000000
open Go.Proofs.Tryz Go.RowKit
section
open Go.RowKit Go.Maps
theorem pS{k:Dk}(h:k.fail=none):fQ k=some k:=by unfold fQ;rw[h]
theorem aB3(k:Dk)(s:List Int)(h:k.fail=none)(q:Int):(fU k s).2≠(.some (.some q)):=by
 have e:(lJ k).fail=none:=h;have b:(iQ (lJ k) s).fail=none:=h;have d:(iC (iQ (lJ k) s)).fail=none:=h;have c:(gI (iC (iQ (lJ k) s))).fail=none:=h;unfold fU dZ eP iG;rw[pS h];dsimp only;rw[pS e];dsimp only;split
 ·rename_i a;split at a
  ·cases a
  ·obtain⟨rfl,_⟩:=Prod.mk.inj a;rw[pS b];dsimp only;rw[pS d];dsimp only;rw[pS c];simp
 ·rename_i a;split at a
  ·obtain⟨_,rfl⟩:=Prod.mk.inj a;simp
  ·obtain⟨_,rfl⟩:=Prod.mk.inj a;simp
theorem xL(a:Ac)(h:a.dk.fail=none)(q:Int):(fS a).2≠(.some (.some q)):=by
 unfold fS;dsimp only;split
 ·exact aB3 _ _ h q
 ·simp
structure aK6(a:Ac):Prop where
 ok:xN a
 by_:∀x ∈ a.dk.log,0≤x∧x<256
 cr:aHP a.dk
 down:a.st=2→a.dk.fail=none∧a.dk.new=none∧a.dk.old=none
 up:a.st=1→a.dk.old=none
theorem aKo{t:List Int}{y q x:Int}(h:x ∈ wI t y q):x ∈ t:=List.mem_of_mem_take h
theorem aHN(W:World)(F G:Nat→Prop)(B:Nat)(eb:Addr)(b g:Nat)(av cv:Value)(a:Ac)(net:List Mg)(tr:List Ev)(h:ASys W F G b g av cv a net tr)(hgl:GlAt W B eb)(hFB:∀x,F x→B≤x)(hGB:∀x,G x→B≤x)(hok:aK6 a)(hst:a.st=0∨a.st=1∨a.st=2)(hn:net.length≤100000000000)(ht:tr.length≤99999999990):
 Calls prog 88 #[.pointer (some ⟨b,0,none⟩)] W fun r W'=>r= .returned (.int .i64 (uA a))∧AfterA W F G b g av cv (iL a) net (tr++nM a) W':=by
 have HS:=cN h;obtain⟨b8,d0,b9,a9,_,_⟩:=h.acc;have q4:=a9.cell 4 _ rfl;clear a9;rcases hst with h0|h1|h2
 ·have e1:uA a=3:=if_pos h0;have e2:iL a=a:=if_pos h0;have e3:nM a=[]:=if_pos h0;rw[e1,e2,e3,aC];have hb:(a.st==0)=true:=by simp[h0]
  clear e1 e2 e3 h0 h hok;go_enter func88,ntmps88;go_wp2_with fail;go_ret;exact⟨rfl,F,G,HS.out,Went.refl _ _ _⟩
 ·have e1:uA a=0:=if_neg (by omega);have e3:nM a=[eO a.num,jE a.num]:=(if_neg (by omega)).trans (if_pos h1);have eS:iL a=uU (fS {crashA a 0 with st:=0}).1 (fS {crashA a 0 with st:=0}).2:=by
   unfold iL;rw[if_neg (by omega)];dsimp only;rw[if_pos h1]
  rw[e1,e3];have hb:(a.st==0)=false:=by simp[h1]
  have b6:(a.st==1)=true:=by simp[h1]
  have b4:=cN (wP W F G b g av cv a net tr 0 h hok.cr (by omega) hn (by omega));have a5:=cN eS;have a4:fC a.dk=(a.dk.log,a.dk.lsyn):=by unfold fC;rw[hok.up h1]
  have a3:∀x ∈ (fM a.dk 0).log,x ∈ a.dk.log:=fun x c=>by
   have:x ∈ wI (fC a.dk).1 (fC a.dk).2 0:=c;rw[a4]at this;exact aKo this
  have b3:(fM a.dk 0).log.length≤a.dk.log.length:=by
   show(wI (fC a.dk).1 (fC a.dk).2 0).length≤_;rw[a4];unfold wI;rw[bD];exact Nat.min_le_right _ _
  have C:Hid (xN {crashA a 0 with st:=0}∧∀x ∈ (fM a.dk 0).log,0≤x∧x<256):=⟨⟨hok.ok.n0,hok.ok.n1,hok.ok.c0,hok.ok.c1,(fun r hr=>by cases hr),(fun p hp=>by cases hp),by have:=hok.ok.l1;show(((fM a.dk 0).log.length:Nat):Int)≤_;omega⟩,fun x c=>hok.by_ x (a3 x c)⟩;have D:=cN (aLm hgl hFB hGB);clear e1 e3 eS h1 h hok a4 a3 b3 hgl hFB hGB;go_enter func88,ntmps88;go_wp2_with (go_at_call 128;refine b4.out.mono ?_;rintro e W1 ⟨rfl,F1,G1,b0,T⟩;refine cQ ?_);have b2:=cN b0;have b1:=cN T;have t:Hid (GlAt W1 B eb∧(∀x,F1 x→B≤x)∧∀x,G1 x→B≤x):=by
   refine⟨D.out.1.kept T.chg (fun x c=>by rcases c with c|c;exact D.out.2.1 x c;exact D.out.2.2 x c),fun x c=>?_,fun x c=>?_⟩
   ·rcases T.f x c with h|h
    ·exact D.out.2.1 x h
    ·have:=D.out.1.hB;omega
   ·rcases T.g x c with h|h
    ·exact D.out.2.2 x h
    ·have:=D.out.1.hB;omega
  clear b0 T q4;obtain⟨FD,d,tb,n,H,a0⟩:=b2.out.acc;have c4:=n.cell 4 _ rfl;have z4:=n.froz 4;have m:=cY W1 b 4 (.int .i64 0);have A:=dD n.blk 4 (.int .i64 0);generalize X:W1.setCell ⟨b,4,none⟩ (.int .i64 0)=W2 at*;have a7:=cN X;have w:Acc W2 F1 b g {crashA a 0 with st:=0}:=⟨FD,d,tb,⟨A,n.disk.of_heap m.size (fun x c=>m.block x (n.disk.lt x c) (fun e=>n.nb (e▸c))),eB n.table (m.block _ n.table.lt (fun e=>n.bt e.symm)),n.nb,n.ntb⟩,H,fun x c=>aG (a0 x c) m.size⟩;obtain⟨L,Z,V⟩:=b2.out.went (a':={crashA a 0 with st:=0}) ⟨F1,w,m.mono (fun x _ e=>e▸H b (Or.inr (Or.inl rfl))),fun _ h=>Or.inl h⟩;have P:=cN (qL W2.drew L G1 b g av cv {crashA a 0 with st:=0} net (tr++[eO a.num]) (jE a.num) Z.drew hn (by rw[aD];simp;omega));have e5:W2.cell? ⟨b,5,none⟩=some (yT g):=cO A 5 _ rfl;have e0:W2.cell? ⟨b,0,none⟩=some (.int .i64 a.num):=cO A 0 _ rfl;have U:=cN V;clear Z V X m A w n H a0;refine cN ?_;go_wp2_with (first|rw[a7.out]);clear c4 z4;refine eD [0,0,0,1,0,0,0,1,0] (by kernel_rfl) (fun _ _ _ _=>rfl) ?_;simp only[dC,dB];iterate 9 (apply sB rfl rfl;·(intro x h;(try cases h rfl);go_simp;with_reducible rfl))
  refine cP ?_;try simp only[pA]
  go_wp2_with fail;refine P.out.mono ?_;rintro r M ⟨rfl,G4,y,R,Y⟩;rw[fE _ (show(5:Int)≠1 by decide),aC]at y;have z:=U.out.trans ⟨R.of_drew.mono (fun _ _ h=>Or.inr h),fun _ h=>Or.inl h,Y⟩;have v:=t.out.1.kept z.chg (fun x c=>by rcases c with c|c;exact t.out.2.1 x c;exact t.out.2.2 x c);have u:∀x,L x→B≤x:=fun x c=>by
   rcases z.f x c with h|h
   ·exact t.out.2.1 x h
   ·have:=t.out.1.hB;omega
  have O:=cN (aAW M L B eb b g {crashA a 0 with st:=0} y.acc v u C.out.1 C.out.2 rfl rfl);have i:=cN (aLn y z v u);clear R Y y z v u P U;obtain⟨p,hp⟩:=aLw (fS {crashA a 0 with st:=0});have HP:=cN hp;have s:=O.out;rw[←hp]at s;clear hp O;obtain⟨a',hw⟩:=p;have S:Hid (iL a=uU a' hw):=by show _=_;rw[a5.out,←HP.out]
  cases hw using nB with
  |dies q=>exact absurd (congrArg Prod.snd HP.out).symm (xL {crashA a 0 with st:=0} rfl q)
  |fine=>
   have HC:Hid (Calls prog 134 #[.pointer (some ⟨b,0,none⟩)] M fun e W'=>e= .returned .nilIface∧AcTo M L b g a' W'):=s.mono fun e W' hE=>⟨hE.2,hE.1⟩;clear s;go_wp2_with (first|(go_at_call 134;refine HC.out.mono ?_;rintro e W5 ⟨rfl,k⟩;refine cQ ?_));obtain⟨N,l,o⟩:=i.out.1.went k;have j:=i.out.2.2.1.kept k.choose_spec.2.1 i.out.2.2.2;have E:=cN (aBv W5 B eb b j);have J:=cN (aLl l o);clear k l o j;refine cN ?_;go_wp2_with (first|(go_at_call 129;refine E.out.mono ?_;rintro e W6 ⟨rfl,K⟩;refine cQ ?_));have H6:Hid (AfterA W F G b g av cv (iL a) net (tr++[eO a.num,jE a.num]) W6):=by
    have e:iL a=a':=S.out;rw[e];refine⟨N,G4,?_,b1.out.trans (i.out.2.1.trans (J.out.2.trans ⟨K.mono (fun _ _ h=>h.elim),fun _ h=>Or.inl h,fun _ h=>Or.inl h⟩))⟩;have:=J.out.1.kept K (fun _ _ h=>h) (fun _ _ h=>h);rw[aS]at this;exact this
   clear K;refine cN ?_;go_wp2_with fail;go_ret;exact⟨rfl,H6.out⟩
  |full=>
   have HC:Hid (Calls prog 134 #[.pointer (some ⟨b,0,none⟩)] M fun e W'=>∃I,e= .returned (lX I)∧lW W' I (oQ eb)∧AcTo M L b g a' W'):=s.mono fun e W' hE=>by
    obtain⟨I,g1,g2,_⟩:=hE.2;exact⟨I,g1,g2,hE.1⟩
   clear s;go_wp2_with (first|(go_at_call 134;refine HC.out.mono ?_;rintro e W5 ⟨I,rfl,Q,k⟩;refine cQ ?_));have j:=i.out.2.2.1.kept k.choose_spec.2.1 i.out.2.2.2;obtain⟨N,l,o⟩:=i.out.1.went k;have E:=cN (zJ W5 N B eb b g I a' l.acc j Q);have J:=cN (aLl l o);clear k l o j Q;refine cN ?_;go_wp2_with (first|(go_at_call 129;refine E.out.mono ?_;rintro e W6 ⟨rfl,h6,K⟩;refine cQ ?_));have H6:Hid (AfterA W F G b g av cv (iL a) net (tr++[eO a.num,jE a.num]) W6):=by
    have e:iL a={a' with st:=1}:=S.out;rw[e];have a8:N b:=by
     obtain⟨b7,d',b5,_,a1,_⟩:=J.out.1.acc;exact a1 b (Or.inr (Or.inl rfl))
    obtain⟨F6,a2,a6⟩:=J.out.1.went (a':={a' with st:=1}) ⟨N,h6,K.mono (fun x _ e=>e▸a8),fun _ h=>Or.inl h⟩;rw[aS]at a2;exact⟨F6,G4,a2,b1.out.trans (i.out.2.1.trans (J.out.2.trans a6))⟩
   clear K h6;refine cN ?_;go_wp2_with fail;go_ret;exact⟨rfl,H6.out⟩
 ·have e1:uA a=0:=if_neg (by omega);have e3:nM a=[jE a.num]:=(if_neg (by omega)).trans (if_neg (by omega));have eS:iL a=uU (fS {a with st:=0}).1 (fS {a with st:=0}).2:=by
   unfold iL;rw[if_neg (by omega)];dsimp only;rw[if_neg (by omega)]
  rw[e1,e3];have hb:(a.st==0)=false:=by simp[h2]
  have b6:(a.st==1)=false:=by simp[h2]
  have a5:=cN eS;have C:Hid (xN {a with st:=0}∧(∀x ∈ a.dk.log,0≤x∧x<256)∧a.dk.fail=none∧a.dk.new=none∧a.dk.old=none):=⟨⟨hok.ok.n0,hok.ok.n1,hok.ok.c0,hok.ok.c1,hok.ok.lk,hok.ok.fo,hok.ok.l1⟩,hok.by_,hok.down h2⟩;have t:Hid (GlAt W B eb∧(∀x,F x→B≤x)∧∀x,G x→B≤x):=⟨hgl,hFB,hGB⟩;clear e1 e3 eS h2 h hok hgl hFB hGB q4;obtain⟨FD,d,tb,n,H,a0⟩:=HS.out.acc;have c4:=n.cell 4 _ rfl;have z4:=n.froz 4;have m:=cY W b 4 (.int .i64 0);have A:=dD n.blk 4 (.int .i64 0);generalize X:W.setCell ⟨b,4,none⟩ (.int .i64 0)=W2 at*;have a7:=cN X;have w:Acc W2 F b g {a with st:=0}:=⟨FD,d,tb,⟨A,n.disk.of_heap m.size (fun x c=>m.block x (n.disk.lt x c) (fun e=>n.nb (e▸c))),eB n.table (m.block _ n.table.lt (fun e=>n.bt e.symm)),n.nb,n.ntb⟩,H,fun x c=>aG (a0 x c) m.size⟩;obtain⟨L,Z,V⟩:=HS.out.went (a':={a with st:=0}) ⟨F,w,m.mono (fun x _ e=>e▸H b (Or.inr (Or.inl rfl))),fun _ h=>Or.inl h⟩;have P:=cN (qL W2.drew L G b g av cv {a with st:=0} net tr (jE a.num) Z.drew hn (by omega));have e5:W2.cell? ⟨b,5,none⟩=some (yT g):=cO A 5 _ rfl;have e0:W2.cell? ⟨b,0,none⟩=some (.int .i64 a.num):=cO A 0 _ rfl;have U:=cN V;clear Z V X m A w n H a0;go_enter func88,ntmps88;go_wp2_with (first|rw[a7.out]);clear c4 z4;refine eD [0,0,0,1,0,0,0,1,0] (by kernel_rfl) (fun _ _ _ _=>rfl) ?_;simp only[dC,dB];iterate 9 (apply sB rfl rfl;·(intro x h;(try cases h rfl);go_simp;with_reducible rfl))
  refine cP ?_;try simp only[pA]
  go_wp2_with fail;refine P.out.mono ?_;rintro r M ⟨rfl,G4,y,R,Y⟩;rw[fE _ (show(5:Int)≠1 by decide),aC]at y;have z:=U.out.trans ⟨R.of_drew.mono (fun _ _ h=>Or.inr h),fun _ h=>Or.inl h,Y⟩;have v:=t.out.1.kept z.chg (fun x c=>by rcases c with c|c;exact t.out.2.1 x c;exact t.out.2.2 x c);have u:∀x,L x→B≤x:=fun x c=>by
   rcases z.f x c with h|h
   ·exact t.out.2.1 x h
   ·have:=t.out.1.hB;omega
  have O:=cN (aAW M L B eb b g {a with st:=0} y.acc v u C.out.1 C.out.2.1 C.out.2.2.2.1 C.out.2.2.2.2);have i:=cN (aLn y z v u);clear R Y y z v u P U;obtain⟨p,hp⟩:=aLw (fS {a with st:=0});have HP:=cN hp;have s:=O.out;rw[←hp]at s;clear hp O;obtain⟨a',hw⟩:=p;have S:Hid (iL a=uU a' hw):=by show _=_;rw[a5.out,←HP.out]
  cases hw using nB with
  |dies q=>exact absurd (congrArg Prod.snd HP.out).symm (xL {a with st:=0} C.out.2.2.1 q)
  |fine=>
   have HC:Hid (Calls prog 134 #[.pointer (some ⟨b,0,none⟩)] M fun e W'=>e= .returned .nilIface∧AcTo M L b g a' W'):=s.mono fun e W' hE=>⟨hE.2,hE.1⟩;clear s;go_wp2_with (first|(go_at_call 134;refine HC.out.mono ?_;rintro e W5 ⟨rfl,k⟩;refine cQ ?_));obtain⟨N,l,o⟩:=i.out.1.went k;have j:=i.out.2.2.1.kept k.choose_spec.2.1 i.out.2.2.2;have E:=cN (aBv W5 B eb b j);have J:=cN (aLl l o);clear k l o j;refine cN ?_;go_wp2_with (first|(go_at_call 129;refine E.out.mono ?_;rintro e W6 ⟨rfl,K⟩;refine cQ ?_));have H6:Hid (AfterA W F G b g av cv (iL a) net (tr++[jE a.num]) W6):=by
    have e:iL a=a':=S.out;rw[e];exact⟨N,G4,J.out.1.kept K (fun _ _ h=>h) (fun _ _ h=>h),(i.out.2.1.trans (J.out.2.trans ⟨K.mono (fun _ _ h=>h.elim),fun _ h=>Or.inl h,fun _ h=>Or.inl h⟩))⟩
   clear K;refine cN ?_;go_wp2_with fail;go_ret;exact⟨rfl,H6.out⟩
  |full=>
   have HC:Hid (Calls prog 134 #[.pointer (some ⟨b,0,none⟩)] M fun e W'=>∃I,e= .returned (lX I)∧lW W' I (oQ eb)∧AcTo M L b g a' W'):=s.mono fun e W' hE=>by
    obtain⟨I,g1,g2,_⟩:=hE.2;exact⟨I,g1,g2,hE.1⟩
   clear s;go_wp2_with (first|(go_at_call 134;refine HC.out.mono ?_;rintro e W5 ⟨I,rfl,Q,k⟩;refine cQ ?_));have j:=i.out.2.2.1.kept k.choose_spec.2.1 i.out.2.2.2;obtain⟨N,l,o⟩:=i.out.1.went k;have E:=cN (zJ W5 N B eb b g I a' l.acc j Q);have J:=cN (aLl l o);clear k l o j Q;refine cN ?_;go_wp2_with (first|(go_at_call 129;refine E.out.mono ?_;rintro e W6 ⟨rfl,h6,K⟩;refine cQ ?_));have H6:Hid (AfterA W F G b g av cv (iL a) net (tr++[jE a.num]) W6):=by
    have e:iL a={a' with st:=1}:=S.out;rw[e];have a8:N b:=by
     obtain⟨b7,d',b5,_,a1,_⟩:=J.out.1.acc;exact a1 b (Or.inr (Or.inl rfl))
    obtain⟨F6,a2,a6⟩:=J.out.1.went (a':={a' with st:=1}) ⟨N,h6,K.mono (fun x _ e=>e▸a8),fun _ h=>Or.inl h⟩;exact⟨F6,G4,a2,(i.out.2.1.trans (J.out.2.trans a6))⟩
   clear K h6;refine cN ?_;go_wp2_with fail;go_ret;exact⟨rfl,H6.out⟩
end
section
open Go.RowKit Go.Maps
structure Two(W A:World)(p q:Bool)(x5 x6:Nat):Prop where
 chg:Chg NoS W A
 o5:p=true→A.heap[x5]?=some (.cells (rwL zRw).toArray 58 (0,0))∧W.heap.size≤x5
 o6:q=true→A.heap[x6]?=some (.cells (mgL zMg).toArray 66 (0,0))∧W.heap.size≤x6
theorem Two.begin(W:World):Two W W.drew false false 0 0:=⟨(Chg.refl _ W).drew,by simp,by simp⟩
section
variable {W A A':World}{p q:Bool}{x5 x6:Nat}
theorem Two.add5(h:Two W A false q x5 x6):Two W (A.alloc (.cells (rwL zRw).toArray 58)) true q A.heap.size x6:=⟨h.chg.alloc _,fun _=>⟨aA A _,h.chg.size⟩,fun e=>⟨dM _ (h.o6 e).1,(h.o6 e).2⟩⟩
theorem Two.add6(h:Two W A p false x5 x6):Two W (A.alloc (.cells (mgL zMg).toArray 66)) p true x5 A.heap.size:=⟨h.chg.alloc _,fun e=>⟨dM _ (h.o5 e).1,(h.o5 e).2⟩,fun _=>⟨aA A _,h.chg.size⟩⟩
theorem Two.on(h:Two W A p q x5 x6)(k:Chg NoS A A'):Two W A' p q x5 x6:=⟨h.chg.trans (S:=NoS) k (fun _ _ h=>h),fun e=>⟨k.kept (h.o5 e).1 (fun h=>h),(h.o5 e).2⟩,fun e=>⟨k.kept (h.o6 e).1 (fun h=>h),(h.o6 e).2⟩⟩
end
theorem aCj{k k':Dk}(h:k'.fail=k.fail)(hf:hP k):hP k':=fun p hp=>hf p (h▸hp)
theorem aFQ{a a1:Ac}{r:Rw}(h:gN a r=(a1,.none))(hf:hP a.dk):hP a1.dk∧a1.dk.new=a.dk.new∧a1.dk.old=a.dk.old∧a1.dk.log=a.dk.log++dW r∧a1.rows=a.rows++[r]∧a1.num=a.num∧a1.compact=a.compact∧a1.st=a.st:=by
 unfold gN at h;cases hs:lZ a.dk (dW r)with
 |mk k hw=>
  rw[hs]at h;cases hw using nB with
  |full=>cases h
  |dies q=>cases h
  |fine=>
   obtain rfl:=(Prod.mk.inj h).1;unfold lZ at hs;cases ha:eP a.dk (dW r) lL with
   |mk k1 h1=>
    rw[ha]at hs;cases h1 using nB with
    |full=>unfold iG at hs;cases hs
    |dies q=>unfold iG at hs;cases hs
    |fine=>
     obtain⟨f,i,e⟩:=vQ ha;have d:dZ k1 mY=(k,.none):=hs;obtain⟨l,g,n⟩:=qF d;have c:=gR i;have b:=gR g;have m:=kQ i hf;have j:=kQ g (by rw[e];exact aCj (k:=f) rfl m);subst n;subst e;exact⟨aCj rfl j,b.2.2.2.1.trans c.2.2.2.1,b.2.2.2.2.trans c.2.2.2.2,by show l.log=_;rw[b.2.1];show f.log++_=_;rw[c.2.1],rfl,rfl,rfl,rfl⟩
theorem aJd{f:FuncId}{args:Array Value}{v ev:Value}{W:World}{F:Nat→Prop}{b g:Nat}{p:Ac×How}(h:Calls prog f args W fun e W'=>tN v ev W F b g p e W'):match p.2 with
 |.none=>Calls prog f args W fun e W'=>e= .returned v∧AcTo W F b g p.1 W'
 |(.some (.some q))=>Calls prog f args W fun e W'=>e= .panicked (rT q)∧AcTo W F b g p.1 W'
 |(.some .none)=>Calls prog f args W fun e W'=>∃fb,e= .returned (lX fb)∧lW W' fb ev∧W.heap.size≤fb∧AcTo W F b g p.1 W':=by
 obtain⟨k,a⟩:=p;cases a using nB with
 |fine=>exact h.mono fun e W' ⟨a,h2⟩=>⟨h2,a⟩
 |dies q=>exact h.mono fun e W' ⟨a,h2⟩=>⟨h2,a⟩
 |full=>exact h.mono fun e W' ⟨a,b,h2,h3,h4⟩=>⟨b,h2,h3,h4,a⟩
def aKs(ev:Value)(W:World)(F G:Nat→Prop)(b g:Nat)(av cv:Value)(net:List Mg)(tr:List Ev)(p:Ac×List Ev×How)(e:Ending)(W':World):Prop:=AfterA W F G b g av cv p.1 (net++dJ p.2.1) (tr++p.2.1) W'∧match p.2.2 with
 |.none=>e= .returned .nilIface
 |(.some (.some q))=>e= .panicked (rT q)
 |(.some .none)=>∃fb,e= .returned (lX fb)∧lW W' fb ev
theorem aJO(W:World)(F G:Nat→Prop)(B:Nat)(eb:Addr)(b g:Nat)(av cv:Value)(a:Ac)(net:List Mg)(tr:List Ev)(m:Mg)(h:ASys W F G b g av cv a net tr)(hgl:GlAt W B eb)(hFB:∀x,F x→B≤x)(hGB:∀x,G x→B≤x)(hok:xN a)(hll:(a.dk.log.length:Int)≤99999999000)(hnew:a.dk.new=none)(hold:a.dk.old=none)
 (hm0:0≤m.lock) (hm3:m.lock≤3) (hn:net.length≤99999999990) (ht:tr.length≤99999999990):
 Calls prog 130 #[.pointer (some ⟨b,0,none⟩),mgV m] W fun e W'=>aKs (oQ eb) W F G b g av cv net tr (jD a m) e W':=by
 have e0:=aA W (.cells #[.int .i64 m.kind,.int .i64 m.src,.int .i64 m.dst,.int .i64 m.lock,.int .i64 m.bal,.int .i64 m.base,.int .i64 m.val.own,.int .i64 m.val.tok,.int .i64 m.val.ttl,.int .i64 m.val.seq] 66);have d4:Chg NoS W (W.alloc (.cells #[.int .i64 m.kind,.int .i64 m.src,.int .i64 m.dst,.int .i64 m.lock,.int .i64 m.bal,.int .i64 m.base,.int .i64 m.val.own,.int .i64 m.val.tok,.int .i64 m.val.ttl,.int .i64 m.val.seq] 66)):=(Chg.refl _ _).alloc _;have f4:(W.alloc (.cells #[.int .i64 m.kind,.int .i64 m.src,.int .i64 m.dst,.int .i64 m.lock,.int .i64 m.bal,.int .i64 m.base,.int .i64 m.val.own,.int .i64 m.val.tok,.int .i64 m.val.ttl,.int .i64 m.val.seq] 66)).heap.size=W.heap.size+1:=by simp
 generalize f0:W.alloc (.cells #[.int .i64 m.kind,.int .i64 m.src,.int .i64 m.dst,.int .i64 m.lock,.int .i64 m.bal,.int .i64 m.base,.int .i64 m.val.own,.int .i64 m.val.tok,.int .i64 m.val.ttl,.int .i64 m.val.seq] 66)=W0 at*;have g5:=cN f0;obtain⟨r,hr⟩:=aLw (qE a m.lock);obtain⟨U,c3⟩:=aLw (iT m r);obtain⟨O,e1⟩:=aLw (jX m r);obtain⟨ds,e3⟩:=aLw (mN m r);have f1:U.lock=m.lock:=by
  rw[c3];have:r.lock=m.lock:=by rw[hr];rfl
  unfold iT;split
  ·exact this
  ·split
   ·exact this
   ·exact this
 have c9:(ds=false→jD a m=(a,[sentEv (mJ a O m)],.none))∧(ds=true→∀z q,gN a U=(z,(.some (.some q)))→jD a m=(z,[],(.some (.some q))))∧(ds=true→∀z,gN a U=(z,(.some .none))→jD a m=(z,[],(.some .none)))∧
  (ds=true→∀z,gN a U=(z,.none)→mD z=false→jD a m=(z,[sentEv (mJ a O m)],.none))∧(ds=true→∀z,gN a U=(z,.none)→mD z=true→jD a m=((eK z).1,[sentEv (mJ a O m)],(eK z).2)):=by
  refine⟨fun e=>?_,fun e z q h1=>?_,fun e z h1=>?_,fun e z h1 h2=>?_,fun e z h1 h2=>?_⟩;all_goals
   unfold jD;dsimp only;rw[←hr,←e3,←e1,e]
  ·exact if_neg (by simp)
  all_goals
   rw[if_pos rfl,←c3,h1]
  all_goals dsimp only
  ·rw[if_neg (by rw[h2];simp)]
  ·rw[if_pos h2]
 have a5:Hid (∀x,Chg NoS W0 x→Calls prog 170 #[.pointer (some ⟨b,0,none⟩),.int .i64 m.lock] x fun e W'=>e= .returned (rwV r)∧Chg NoS x W'):=fun x u=>by
  rw[hr];exact aJG x F b g a m.lock (h.acc.kept (d4.trans (S:=NoS) u (fun _ _ h=>h)) (fun _ _ h=>h)) hm0 hm3
 have a4:Hid (∀x,Calls prog 169 #[mgV m,rwV r] x fun e W'=>e= .returned (.tuple #[rwV U,mgV O,.bool ds])∧Chg NoS x W'):=fun x=>by
  rw[c3,e1,e3];exact aFC x m r
 obtain⟨rV,e8⟩:∃v,v=rwV r:=⟨_,rfl⟩;obtain⟨dV,e6⟩:∃v,v=Value.tuple #[rwV U,mgV O,.bool ds]:=⟨_,rfl⟩;have Y:=cN (aLl e8 e6);have a9:=cN c9;have N:=cN (aLs h hgl hFB hGB hok hnew hold f1 d4);have b3:Hid (∀x,Chg NoS W0 x→x.heap[W.heap.size]?=some (.cells (mgL m).toArray 66 (0,0))):=fun x u=>u.kept e0 (fun h=>h);have g0:=cN f4;have m3:=cO e0 3 _ rfl;clear e8 e6 c9 h hgl hFB hGB hok hnew hold f1 d4 f0 e0 hr c3 e1 e3 f4;go_enter func130,ntmps130;go_wp2_with (first|rw[g5.out]);refine pK [(1,0),(0,1),(0,2),(1,3)] 11 (fun x=>x.cell? ⟨W.heap.size,3,none⟩=some (.int .i64 m.lock)∧∀j y,(mgL m)[j]?=some y→x.cell? ((⟨W.heap.size,0,none⟩:Addr).add j)=some y) (by kernel_rfl) (by kernel_rfl) (fun _ _ d _ _ h=>by cases d<;>exact h) ?_ ?_
 ·exact⟨m3,cR (W:=W0.drew) (b3.out W0 (Chg.refl _ _))⟩
 have l:Hid (∀x,Chg NoS W0 x→x.cell? ⟨W.heap.size,3,none⟩=some (.int .i64 m.lock)∧∀j y,(mgL m)[j]?=some y→x.cell? ((⟨W.heap.size,0,none⟩:Addr).add j)=some y):=fun x u=>⟨cO (b3.out x u) 3 _ rfl,cR (b3.out x u)⟩;clear m3;simp only[kD,cM,cL];refine dA (v:=mgV m) rfl (fun x u=>cU 66 _ rfl ⟨W.heap.size,0,none⟩ rfl (mgL m) _ u.2 underlying66 rfl (by kernel_rfl)) ?_;iterate 2 (refine pF (v:=?_) rfl ?_ ?_;rotate_left 1;(·(intro x;go_simp;with_reducible rfl)))
 refine dA (v:=.int .i64 m.lock) rfl (fun x u=>by obtain⟨h3,_⟩:=u;go_simp;try rfl) ?_;refine cP ?_;(try simp only[pA]);obtain⟨I,M⟩:∃I:Nat→Array Bool→Act→World→Prop,Hid (∀n T a w,I n T a w↔∃(l4 l5 a7 a8:Bool) (H E:Nat),n=(!l4).toNat+5*(!l5).toNat+(!a7).toNat+(!a8).toNat∧(l5=true→l4=true)∧T=#[true,true,true,true,l4,l5,l5,l5,l5,l5,a7,a8,false,false,false]∧
  a={tmps:=#[.pointer (some ⟨b,0,none⟩),mgV m,undef,.pointer (some ⟨W.heap.size,0,none⟩),.nilIface,cond a7 (.pointer (some ⟨H,0,none⟩)) undef,cond a8 (.pointer (some ⟨E,0,none⟩)) undef,undef,undef,cond l5 dV undef,mgV m,.pointer (some ⟨b,0,none⟩),.pointer (some ⟨W.heap.size,3,none⟩),.int .i64 m.lock,cond l4 rV undef,cond l5 dV undef,cond l5 (rwV U) undef,cond l5 (mgV O) undef,cond l5 (.bool ds) undef,undef,undef,undef,undef,undef,undef,undef,undef,undef,undef,undef,undef,undef,undef,undef,undef,undef,undef],defers:=[]}∧Two W0 w a7 a8 H E):=⟨_,fun _ _ _ _=>Iff.rfl⟩
 refine aFK 3 I ?_ 8 _ _ _ ?_
 ·intro n T a' w hI IH;have o:=cN IH;clear IH;obtain⟨l4,l5,a7,a8,H,E,t,Z,rfl,rfl,q⟩:=(M.out _ _ _ _).1 hI;have Q:=cN q;clear q hI;cases l4<;>cases l5<;>cases a7<;>cases a8
  ·obtain rfl:n=8:=t;clear Z;simp only[cond_true,cond_false];refine dQ (f:=10) [4,10,11] (by kernel_rfl) (by simp) ?_;refine aB.2 ⟨?_,aB.2 ⟨?_,aB.2 ⟨?_,by simp⟩⟩⟩
   ·intro C c;refine dK rfl rfl ?_;go_simp;refine(a5.out w Q.out.chg).mono ?_;rintro e w2 ⟨rfl,D⟩;have k:=cN (Q.out.on D);clear D;refine c _ _ (l.out _ k.out.chg) ?_;clear c C;(try simp only[pA]);rw[←Y.out.1];exact o.out 7 (by decide) _ _ _ ((M.out _ _ _ _).2 ⟨true,false,false,false,H,E,rfl,fun h=>(by first|rfl|cases h),rfl,rfl,k.out⟩)
   ·intro C c;refine dK rfl rfl ?_;go_simp;have k:=cN Q.out.add5;refine c _ _ (l.out _ k.out.chg) ?_;clear c C;(try simp only[pA]);exact o.out 7 (by decide) _ _ _ ((M.out _ _ _ _).2 ⟨false,false,true,false,w.heap.size,E,rfl,fun h=>(by first|rfl|cases h),rfl,rfl,k.out⟩)
   ·intro C c;refine dK rfl rfl ?_;go_simp;have k:=cN Q.out.add6;refine c _ _ (l.out _ k.out.chg) ?_;clear c C;(try simp only[pA]);exact o.out 7 (by decide) _ _ _ ((M.out _ _ _ _).2 ⟨false,false,false,true,H,w.heap.size,rfl,fun h=>(by first|rfl|cases h),rfl,rfl,k.out⟩)
  ·obtain rfl:n=7:=t;clear Z;simp only[cond_true,cond_false];refine dQ (f:=9) [4,10] (by kernel_rfl) (by simp) ?_;refine aB.2 ⟨?_,aB.2 ⟨?_,by simp⟩⟩
   ·intro C c;refine dK rfl rfl ?_;go_simp;refine(a5.out w Q.out.chg).mono ?_;rintro e w2 ⟨rfl,D⟩;have k:=cN (Q.out.on D);clear D;refine c _ _ (l.out _ k.out.chg) ?_;clear c C;(try simp only[pA]);rw[←Y.out.1];exact o.out 6 (by decide) _ _ _ ((M.out _ _ _ _).2 ⟨true,false,false,true,H,E,rfl,fun h=>(by first|rfl|cases h),rfl,rfl,k.out⟩)
   ·intro C c;refine dK rfl rfl ?_;go_simp;have k:=cN Q.out.add5;refine c _ _ (l.out _ k.out.chg) ?_;clear c C;(try simp only[pA]);exact o.out 6 (by decide) _ _ _ ((M.out _ _ _ _).2 ⟨false,false,true,true,w.heap.size,E,rfl,fun h=>(by first|rfl|cases h),rfl,rfl,k.out⟩)
  ·obtain rfl:n=7:=t;clear Z;simp only[cond_true,cond_false];refine dQ (f:=9) [4,11] (by kernel_rfl) (by simp) ?_;refine aB.2 ⟨?_,aB.2 ⟨?_,by simp⟩⟩
   ·intro C c;refine dK rfl rfl ?_;go_simp;refine(a5.out w Q.out.chg).mono ?_;rintro e w2 ⟨rfl,D⟩;have k:=cN (Q.out.on D);clear D;refine c _ _ (l.out _ k.out.chg) ?_;clear c C;(try simp only[pA]);rw[←Y.out.1];exact o.out 6 (by decide) _ _ _ ((M.out _ _ _ _).2 ⟨true,false,true,false,H,E,rfl,fun h=>(by first|rfl|cases h),rfl,rfl,k.out⟩)
   ·intro C c;refine dK rfl rfl ?_;go_simp;have k:=cN Q.out.add6;refine c _ _ (l.out _ k.out.chg) ?_;clear c C;(try simp only[pA]);exact o.out 6 (by decide) _ _ _ ((M.out _ _ _ _).2 ⟨false,false,true,true,H,w.heap.size,rfl,fun h=>(by first|rfl|cases h),rfl,rfl,k.out⟩)
  ·obtain rfl:n=6:=t;clear Z;simp only[cond_true,cond_false];refine dQ (f:=8) [4] (by kernel_rfl) (by simp) ?_;refine aB.2 ⟨?_,by simp⟩
   ·intro C c;refine dK rfl rfl ?_;go_simp;refine(a5.out w Q.out.chg).mono ?_;rintro e w2 ⟨rfl,D⟩;have k:=cN (Q.out.on D);clear D;refine c _ _ (l.out _ k.out.chg) ?_;clear c C;(try simp only[pA]);rw[←Y.out.1];exact o.out 5 (by decide) _ _ _ ((M.out _ _ _ _).2 ⟨true,false,true,true,H,E,rfl,fun h=>(by first|rfl|cases h),rfl,rfl,k.out⟩)
  ·exact absurd (Z rfl) (by decide)
  ·exact absurd (Z rfl) (by decide)
  ·exact absurd (Z rfl) (by decide)
  ·exact absurd (Z rfl) (by decide)
  ·obtain rfl:n=7:=t;clear Z;simp only[cond_true,cond_false];refine dQ (f:=9) [5,10,11] (by kernel_rfl) (by simp) ?_;refine aB.2 ⟨?_,aB.2 ⟨?_,aB.2 ⟨?_,by simp⟩⟩⟩
   ·intro C c;refine dK rfl rfl ?_;go_simp;rw[Y.out.1];refine(a4.out w).mono ?_;rintro e w2 ⟨rfl,D⟩;have k:=cN (Q.out.on D);clear D;refine c _ _ (l.out _ k.out.chg) ?_;clear c C;(try simp only[pA]);refine fA (i:=6) (v:=?_) rfl (by kernel_rfl) (fun _ _ d _ _ h=>by cases d<;>exact h) (by kernel_rfl) (by kernel_rfl) rfl ?_ ?_;rotate_left 1;(·(intro x;go_simp;with_reducible rfl));(try simp only[pA]);refine fA (i:=7) (v:=?_) rfl (by kernel_rfl) (fun _ _ d _ _ h=>by cases d<;>exact h) (by kernel_rfl) (by kernel_rfl) rfl ?_ ?_;rotate_left 1;(·(intro x;go_simp;with_reducible rfl));(try simp only[pA]);refine fA (i:=8) (v:=?_) rfl (by kernel_rfl) (fun _ _ d _ _ h=>by cases d<;>exact h) (by kernel_rfl) (by kernel_rfl) rfl ?_ ?_;rotate_left 1;(·(intro x;go_simp;with_reducible rfl));(try simp only[pA]);refine fA (i:=9) (v:=?_) rfl (by kernel_rfl) (fun _ _ d _ _ h=>by cases d<;>exact h) (by kernel_rfl) (by kernel_rfl) rfl ?_ ?_;rotate_left 1;(·(intro x;go_simp;with_reducible rfl));(try simp only[pA]);rw[←Y.out.1,←Y.out.2];exact o.out 2 (by decide) _ _ _ ((M.out _ _ _ _).2 ⟨true,true,false,false,H,E,rfl,fun h=>(by first|rfl|cases h),rfl,rfl,k.out⟩)
   ·intro C c;refine dK rfl rfl ?_;go_simp;have k:=cN Q.out.add5;refine c _ _ (l.out _ k.out.chg) ?_;clear c C;(try simp only[pA]);exact o.out 6 (by decide) _ _ _ ((M.out _ _ _ _).2 ⟨true,false,true,false,w.heap.size,E,rfl,fun h=>(by first|rfl|cases h),rfl,rfl,k.out⟩)
   ·intro C c;refine dK rfl rfl ?_;go_simp;have k:=cN Q.out.add6;refine c _ _ (l.out _ k.out.chg) ?_;clear c C;(try simp only[pA]);exact o.out 6 (by decide) _ _ _ ((M.out _ _ _ _).2 ⟨true,false,false,true,H,w.heap.size,rfl,fun h=>(by first|rfl|cases h),rfl,rfl,k.out⟩)
  ·obtain rfl:n=6:=t;clear Z;simp only[cond_true,cond_false];refine dQ (f:=8) [5,10] (by kernel_rfl) (by simp) ?_;refine aB.2 ⟨?_,aB.2 ⟨?_,by simp⟩⟩
   ·intro C c;refine dK rfl rfl ?_;go_simp;rw[Y.out.1];refine(a4.out w).mono ?_;rintro e w2 ⟨rfl,D⟩;have k:=cN (Q.out.on D);clear D;refine c _ _ (l.out _ k.out.chg) ?_;clear c C;(try simp only[pA]);refine fA (i:=6) (v:=?_) rfl (by kernel_rfl) (fun _ _ d _ _ h=>by cases d<;>exact h) (by kernel_rfl) (by kernel_rfl) rfl ?_ ?_;rotate_left 1;(·(intro x;go_simp;with_reducible rfl));(try simp only[pA]);refine fA (i:=7) (v:=?_) rfl (by kernel_rfl) (fun _ _ d _ _ h=>by cases d<;>exact h) (by kernel_rfl) (by kernel_rfl) rfl ?_ ?_;rotate_left 1;(·(intro x;go_simp;with_reducible rfl));(try simp only[pA]);refine fA (i:=8) (v:=?_) rfl (by kernel_rfl) (fun _ _ d _ _ h=>by cases d<;>exact h) (by kernel_rfl) (by kernel_rfl) rfl ?_ ?_;rotate_left 1;(·(intro x;go_simp;with_reducible rfl));(try simp only[pA]);refine fA (i:=9) (v:=?_) rfl (by kernel_rfl) (fun _ _ d _ _ h=>by cases d<;>exact h) (by kernel_rfl) (by kernel_rfl) rfl ?_ ?_;rotate_left 1;(·(intro x;go_simp;with_reducible rfl));(try simp only[pA]);rw[←Y.out.1,←Y.out.2];exact o.out 1 (by decide) _ _ _ ((M.out _ _ _ _).2 ⟨true,true,false,true,H,E,rfl,fun h=>(by first|rfl|cases h),rfl,rfl,k.out⟩)
   ·intro C c;refine dK rfl rfl ?_;go_simp;have k:=cN Q.out.add5;refine c _ _ (l.out _ k.out.chg) ?_;clear c C;(try simp only[pA]);exact o.out 5 (by decide) _ _ _ ((M.out _ _ _ _).2 ⟨true,false,true,true,w.heap.size,E,rfl,fun h=>(by first|rfl|cases h),rfl,rfl,k.out⟩)
  ·obtain rfl:n=6:=t;clear Z;simp only[cond_true,cond_false];refine dQ (f:=8) [5,11] (by kernel_rfl) (by simp) ?_;refine aB.2 ⟨?_,aB.2 ⟨?_,by simp⟩⟩
   ·intro C c;refine dK rfl rfl ?_;go_simp;rw[Y.out.1];refine(a4.out w).mono ?_;rintro e w2 ⟨rfl,D⟩;have k:=cN (Q.out.on D);clear D;refine c _ _ (l.out _ k.out.chg) ?_;clear c C;(try simp only[pA]);refine fA (i:=6) (v:=?_) rfl (by kernel_rfl) (fun _ _ d _ _ h=>by cases d<;>exact h) (by kernel_rfl) (by kernel_rfl) rfl ?_ ?_;rotate_left 1;(·(intro x;go_simp;with_reducible rfl));(try simp only[pA]);refine fA (i:=7) (v:=?_) rfl (by kernel_rfl) (fun _ _ d _ _ h=>by cases d<;>exact h) (by kernel_rfl) (by kernel_rfl) rfl ?_ ?_;rotate_left 1;(·(intro x;go_simp;with_reducible rfl));(try simp only[pA]);refine fA (i:=8) (v:=?_) rfl (by kernel_rfl) (fun _ _ d _ _ h=>by cases d<;>exact h) (by kernel_rfl) (by kernel_rfl) rfl ?_ ?_;rotate_left 1;(·(intro x;go_simp;with_reducible rfl));(try simp only[pA]);refine fA (i:=9) (v:=?_) rfl (by kernel_rfl) (fun _ _ d _ _ h=>by cases d<;>exact h) (by kernel_rfl) (by kernel_rfl) rfl ?_ ?_;rotate_left 1;(·(intro x;go_simp;with_reducible rfl));(try simp only[pA]);rw[←Y.out.1,←Y.out.2];exact o.out 1 (by decide) _ _ _ ((M.out _ _ _ _).2 ⟨true,true,true,false,H,E,rfl,fun h=>(by first|rfl|cases h),rfl,rfl,k.out⟩)
   ·intro C c;refine dK rfl rfl ?_;go_simp;have k:=cN Q.out.add6;refine c _ _ (l.out _ k.out.chg) ?_;clear c C;(try simp only[pA]);exact o.out 5 (by decide) _ _ _ ((M.out _ _ _ _).2 ⟨true,false,true,true,H,w.heap.size,rfl,fun h=>(by first|rfl|cases h),rfl,rfl,k.out⟩)
  ·obtain rfl:n=5:=t;clear Z;simp only[cond_true,cond_false];refine dQ (f:=7) [5] (by kernel_rfl) (by simp) ?_;refine aB.2 ⟨?_,by simp⟩
   ·intro C c;refine dK rfl rfl ?_;go_simp;rw[Y.out.1];refine(a4.out w).mono ?_;rintro e w2 ⟨rfl,D⟩;have k:=cN (Q.out.on D);clear D;refine c _ _ (l.out _ k.out.chg) ?_;clear c C;(try simp only[pA]);refine fA (i:=6) (v:=?_) rfl (by kernel_rfl) (fun _ _ d _ _ h=>by cases d<;>exact h) (by kernel_rfl) (by kernel_rfl) rfl ?_ ?_;rotate_left 1;(·(intro x;go_simp;with_reducible rfl));(try simp only[pA]);refine fA (i:=7) (v:=?_) rfl (by kernel_rfl) (fun _ _ d _ _ h=>by cases d<;>exact h) (by kernel_rfl) (by kernel_rfl) rfl ?_ ?_;rotate_left 1;(·(intro x;go_simp;with_reducible rfl));(try simp only[pA]);refine fA (i:=8) (v:=?_) rfl (by kernel_rfl) (fun _ _ d _ _ h=>by cases d<;>exact h) (by kernel_rfl) (by kernel_rfl) rfl ?_ ?_;rotate_left 1;(·(intro x;go_simp;with_reducible rfl));(try simp only[pA]);refine fA (i:=9) (v:=?_) rfl (by kernel_rfl) (fun _ _ d _ _ h=>by cases d<;>exact h) (by kernel_rfl) (by kernel_rfl) rfl ?_ ?_;rotate_left 1;(·(intro x;go_simp;with_reducible rfl));(try simp only[pA]);rw[←Y.out.1,←Y.out.2];exact o.out 0 (by decide) _ _ _ ((M.out _ _ _ _).2 ⟨true,true,true,true,H,E,rfl,fun h=>(by first|rfl|cases h),rfl,rfl,k.out⟩)
  ·obtain rfl:n=2:=t;clear Z;simp only[cond_true,cond_false];refine dQ (f:=4) [10,11] (by kernel_rfl) (by simp) ?_;refine aB.2 ⟨?_,aB.2 ⟨?_,by simp⟩⟩
   ·intro C c;refine dK rfl rfl ?_;go_simp;have k:=cN Q.out.add5;refine c _ _ (l.out _ k.out.chg) ?_;clear c C;(try simp only[pA]);exact o.out 1 (by decide) _ _ _ ((M.out _ _ _ _).2 ⟨true,true,true,false,w.heap.size,E,rfl,fun h=>(by first|rfl|cases h),rfl,rfl,k.out⟩)
   ·intro C c;refine dK rfl rfl ?_;go_simp;have k:=cN Q.out.add6;refine c _ _ (l.out _ k.out.chg) ?_;clear c C;(try simp only[pA]);exact o.out 1 (by decide) _ _ _ ((M.out _ _ _ _).2 ⟨true,true,false,true,H,w.heap.size,rfl,fun h=>(by first|rfl|cases h),rfl,rfl,k.out⟩)
  ·obtain rfl:n=1:=t;clear Z;simp only[cond_true,cond_false];refine dQ (f:=3) [10] (by kernel_rfl) (by simp) ?_;refine aB.2 ⟨?_,by simp⟩
   ·intro C c;refine dK rfl rfl ?_;go_simp;have k:=cN Q.out.add5;refine c _ _ (l.out _ k.out.chg) ?_;clear c C;(try simp only[pA]);exact o.out 0 (by decide) _ _ _ ((M.out _ _ _ _).2 ⟨true,true,true,true,w.heap.size,E,rfl,fun h=>(by first|rfl|cases h),rfl,rfl,k.out⟩)
  ·obtain rfl:n=1:=t;clear Z;simp only[cond_true,cond_false];refine dQ (f:=3) [11] (by kernel_rfl) (by simp) ?_;refine aB.2 ⟨?_,by simp⟩
   ·intro C c;refine dK rfl rfl ?_;go_simp;have k:=cN Q.out.add6;refine c _ _ (l.out _ k.out.chg) ?_;clear c C;(try simp only[pA]);exact o.out 0 (by decide) _ _ _ ((M.out _ _ _ _).2 ⟨true,true,true,true,H,w.heap.size,rfl,fun h=>(by first|rfl|cases h),rfl,rfl,k.out⟩)
  ·obtain rfl:n=0:=t;simp only[cond_true];clear Z o;refine dQ [12] (by kernel_rfl) (by simp) (aB.2 ⟨?_,by simp⟩);intro C c;refine dK rfl rfl ?_;refine eM 58 _ _ rfl H 0 58 _ _ (rwL U) rfl rfl (Q.out.o5 rfl).1 (by kernel_rfl) (by simp[Value.oneCell']) (by simp) rfl ?_;intro W2 d2 g7 f5;have b8:=Q.out.chg.trans (S:=NoS) d2 (fun x u e=>by have:=(Q.out.o5 rfl).2;omega);refine c _ _ (l.out _ b8) ?_;clear c C;(try simp only[pA]);have e9:=d2.kept (Q.out.o6 rfl).1 (gA (Q.out.o6 rfl).1 (Q.out.o5 rfl).1 (by decide));have b5:=cN (aLm f5 e9 b8);clear d2 g7 f5 b8 e9;refine dQ [13] (by kernel_rfl) (by simp) (aB.2 ⟨?_,by simp⟩);intro C c;refine dK rfl rfl ?_;refine eM 66 _ _ rfl E 0 66 _ _ (mgL O) rfl rfl b5.out.2.1 (by kernel_rfl) (by simp[Value.oneCell']) (by simp) rfl ?_;intro W3 e4 g3 e7;have L:=b5.out.2.2.trans (S:=NoS) e4 (fun x u e=>by have:=(Q.out.o6 rfl).2;omega);refine c _ _ (l.out _ L) ?_;clear c C;(try simp only[pA]);have f7:=e4.kept b5.out.1 (gA b5.out.1 b5.out.2.1 (by decide));have R:=cN (aLm f7 e7 L);clear e4 g3 e7 L f7;refine dQ [14] (by kernel_rfl) (by simp) (aB.2 ⟨?_,by simp⟩);intro C c;refine dK rfl rfl ?_;go_simp;refine c _ _ (l.out _ R.out.2.2) ?_;clear c C;(try simp only[pA]);refine qI (by kernel_rfl) ?_;have b9:=(N.out.1.kept N.out.2.2.2.2.2.2.2.2 (fun _ _ h=>h) (fun _ _ h=>h)).kept R.out.2.2 (fun _ _ h=>h) (fun _ _ h=>h);have L:=N.out.2.2.2.2.2.2.2.2.trans (S:=NoS) R.out.2.2 (fun _ _ h=>h);have c8:=N.out.2.1.kept L (fun _ h=>h.elim);have d5:=cN (cR R.out.1)
   have H3:=cN (aLm b9 L c8);clear b9 L c8;have g8:Hid (H<W3.heap.size∧E<W3.heap.size∧W.heap.size<W3.heap.size∧W.heap.size≤H∧W.heap.size≤E):=by
    have q1:=dG R.out.1;have q2:=dG R.out.2.1;have q3:=dG (b3.out _ R.out.2.2);have q4:=(Q.out.o5 rfl).2;have q5:=(Q.out.o6 rfl).2;have q6:=g0.out;exact⟨q1,q2,q3,by omega,by omega⟩
   have f3:Hid (∀F',(∀x,F' x→F x)→∀A,Chg F' W3 A→A.heap[E]?=some (.cells (mgL O).toArray 66 (0,0))∧A.heap[W.heap.size]?=some (.cells (mgL m).toArray 66 (0,0))):=fun F' hF A hA=>by
    have q:=g8.out;refine⟨hA.kept R.out.2.1 (fun u=>?_),hA.kept (b3.out _ R.out.2.2) (fun u=>?_)⟩
    ·have:=N.out.1.acc.lt _ (hF _ u);omega
    ·have:=N.out.1.acc.lt _ (hF _ u);omega
   cases ds with
   |false=>
    have P:=cN (a9.out.1 rfl);have d9:=cN (aEQ W3 F G b g av cv a net tr O m H3.out.1 (by omega) (by omega));obtain⟨b6,bm⟩:=f3.out F (fun _ h=>h) W3 (Chg.refl _ _);have d3:=cN (cR b6);have e2:=cN (cR bm);clear b6 bm;go_wp2_with (first|(refine cW rfl 66 _ rfl ⟨E,0,none⟩ rfl (mgL O) _ d3.out underlying66 rfl (by kernel_rfl) ?_)|(refine cW rfl 66 _ rfl ⟨W.heap.size,0,none⟩ rfl (mgL m) _ e2.out underlying66 rfl (by kernel_rfl) ?_)|(go_at_call 172;refine d9.out.mono ?_;rintro e W4 ⟨rfl,G4,J,b2,f6⟩;refine cQ ?_));have H4:Hid (AfterA W F G b g av cv a (net++dJ [sentEv (mJ a O m)]) (tr++[sentEv (mJ a O m)]) W4):=⟨F,G4,by rw[rU _ rfl];exact J,⟨(H3.out.2.1.nos:Chg (fun x=>F x∨G x) W W3).trans b2 (fun _ _ h=>Or.inr h),fun _ h=>Or.inl h,fun x u=>by
     rcases f6 x u with h|h
     ·exact Or.inl h
     ·exact Or.inr (cA H3.out.2.1.size h)⟩⟩
    clear J b2 f6;refine cN ?_;go_wp2_with fail;go_ret;rw[P.out];exact⟨H4.out,rfl⟩
   |true=>
    have a3:=aJd (aIg W3 F B eb b g a U H3.out.1.acc H3.out.2.2 N.out.2.2.1 N.out.2.2.2.2.1 (by rw[N.out.2.2.2.2.2.2.2.1];exact⟨hm0,hm3⟩) N.out.2.2.2.2.2.1 N.out.2.2.2.2.2.2.1);obtain⟨p,hp⟩:=aLw (gN a U);rw[←hp]at a3;have HP:=cN hp.symm;clear hp;obtain⟨z,hw⟩:=p;cases hw using nB with
    |dies q=>
     have P:=cN (a9.out.2.1 rfl _ _ HP.out);have X:=cN a3;clear a3;go_wp2_with (first|(refine cW rfl 58 _ rfl ⟨H,0,none⟩ rfl (rwL U) _ d5.out underlying58 rfl (by kernel_rfl) ?_)|(go_at_call 171;refine X.out.mono ?_;rintro e W4 ⟨rfl,s⟩;refine cQ ?_));obtain⟨F4,J,V⟩:=H3.out.1.went s;have H4:Hid (AfterA W F G b g av cv z (net++dJ []) (tr++[]) W4):=⟨F4,G,by rw[fF,aC,aC];exact J,(⟨H3.out.2.1.nos,fun _ h=>Or.inl h,fun _ h=>Or.inl h⟩:Went W W3 F F G G).trans V⟩;clear s J V;refine cN ?_;go_wp2_with fail;refine⟨rfl,?_⟩;rw[P.out];exact⟨H4.out,rfl⟩
    |full=>
     have P:=cN (a9.out.2.2.1 rfl _ HP.out);have X:=cN a3;clear a3;go_wp2_with (first|(refine cW rfl 58 _ rfl ⟨H,0,none⟩ rfl (rwL U) _ d5.out underlying58 rfl (by kernel_rfl) ?_)|(go_at_call 171;refine X.out.mono ?_;rintro e W4 ⟨fb,rfl,b1,d7,s⟩;refine cQ ?_));obtain⟨F4,J,V⟩:=H3.out.1.went s;have H4:Hid (AfterA W F G b g av cv z (net++dJ []) (tr++[]) W4∧lW W4 fb (oQ eb)):=⟨⟨F4,G,by rw[fF,aC,aC];exact J,(⟨H3.out.2.1.nos,fun _ h=>Or.inl h,fun _ h=>Or.inl h⟩:Went W W3 F F G G).trans V⟩,b1⟩;clear s J V b1 d7;refine cN ?_;go_wp2_with fail;go_ret;rw[P.out];exact⟨H4.out.1,fb,rfl,H4.out.2⟩
    |fine=>
     have K:=aFQ HP.out N.out.2.2.2.2.1.fo;have X:=cN a3;clear a3;go_wp2_with (first|(refine cW rfl 58 _ rfl ⟨H,0,none⟩ rfl (rwL U) _ d5.out underlying58 rfl (by kernel_rfl) ?_)|(go_at_call 171;refine X.out.mono ?_;rintro e W4 ⟨rfl,s⟩;refine cQ ?_));have f9:=s;obtain⟨F4,J,V⟩:=H3.out.1.went s;obtain⟨g9,_,b2,_⟩:=f9;obtain⟨b6,bm⟩:=f3.out F (fun _ h=>h) W4 b2;have d3:=cN (cR b6);have e2:=cN (cR bm);have d9:=cN (aEQ W4 F4 G b g av cv z net tr O m J (by omega) (by omega));have c7:=(⟨H3.out.2.1.nos,fun _ h=>Or.inl h,fun _ h=>Or.inl h⟩:Went W W3 F F G G).trans V;have g4:=cN c7;have g2:=oE U;have d1:xN z:=by
      have ok:=N.out.2.2.2.2.1;refine⟨by rw[K.2.2.2.2.2.1];exact ok.n0,by rw[K.2.2.2.2.2.1];exact ok.n1,by rw[K.2.2.2.2.2.2.1];exact ok.c0,by rw[K.2.2.2.2.2.2.1];exact ok.c1,?_,K.1,?_⟩
      ·rw[K.2.2.2.2.1];intro x u;rcases aO.1 u with h|h
       ·exact ok.lk x h
       ·rw[List.mem_singleton]at h;subst h;rw[N.out.2.2.2.2.2.2.2.1];exact⟨hm0,hm3⟩
      ·rw[K.2.2.2.1,aD];omega
     have c4:=cN (aLm d1 (K.2.1.trans N.out.2.2.2.2.2.1) (K.2.2.1.trans N.out.2.2.2.2.2.2.1));have d0:mJ z O m=mJ a O m:=by unfold mJ;rw[K.2.2.2.2.2.1]
     have g1:=cN d0;clear s J V b2 b6 bm c7 g2 d1 K d0;refine cN ?_;go_wp2_with (first|(refine cW rfl 66 _ rfl ⟨E,0,none⟩ rfl (mgL O) _ d3.out underlying66 rfl (by kernel_rfl) ?_)|(refine cW rfl 66 _ rfl ⟨W.heap.size,0,none⟩ rfl (mgL m) _ e2.out underlying66 rfl (by kernel_rfl) ?_)|(go_at_call 172;refine d9.out.mono ?_;rintro e W5 ⟨rfl,G5,c2,e5,f2⟩;refine cQ ?_));rw[g1.out]at c2;have a6:=g4.out.trans ⟨e5.mono (fun _ _ h=>Or.inr h),fun _ h=>Or.inl h,f2⟩;have c5:=N.out.2.1.kept a6.chg (fun x u=>by rcases u with u|u;exact N.out.2.2.1 x u;exact N.out.2.2.2.1 x u);have c6:∀x,F4 x→B≤x:=fun x u=>by
      rcases a6.f x u with h|h
      ·exact N.out.2.2.1 x h
      ·have:=N.out.2.1.hB;omega
     have f8:=cN (aA2 W5 F4 b g z c2.acc (by have:=c4.out.1.l1;omega));have H5:=cN (aLn c2 a6 c5 c6);clear c2 e5 f2 a6 c5 c6;refine cN ?_;cases hlg:mD z with
     |false=>
      have P:=cN (a9.out.2.2.2.1 (by first|rfl|trivial) _ HP.out hlg);have b4:Hid (Calls prog 173 #[.pointer (some ⟨b,0,none⟩)] W5 fun e W'=>e= .returned (.bool false)∧W'=W5.drew):=hlg▸f8.out;clear hlg;go_wp2_with (first|(go_at_call 173;refine b4.out.mono ?_;rintro e W6 ⟨rfl,hW⟩;subst hW));go_ret;rw[P.out];refine⟨⟨F4,G5,?_,⟨H5.out.2.1.chg.drew,H5.out.2.1.f,H5.out.2.1.g⟩⟩,rfl⟩;rw[rU _ rfl];exact H5.out.1.drew
     |true=>
      have P:=cN (a9.out.2.2.2.2 (by first|rfl|trivial) _ HP.out hlg);have b4:Hid (Calls prog 173 #[.pointer (some ⟨b,0,none⟩)] W5 fun e W'=>e= .returned (.bool true)∧W'=W5.drew):=hlg▸f8.out;clear hlg;have a0:=aJd (pW W5.drew F4 B eb b g z H5.out.1.drew.acc (H5.out.2.2.1.kept (Chg.refl NoS W5).drew (fun _ h=>h.elim)) H5.out.2.2.2 c4.out.1 c4.out.2.1 c4.out.2.2);obtain⟨p,hp⟩:=aLw (eK z);rw[←hp]at a0;have d8:Hid (jD a m=(p.1,[sentEv (mJ a O m)],p.2)):=by rw[hp];exact P.out
      clear hp;obtain⟨a2,hw⟩:=p;have b7:Hid (∀W6,AcTo W5.drew F4 b g a2 W6→AfterA W F G b g av cv a2 (net++dJ [sentEv (mJ a O m)]) (tr++[sentEv (mJ a O m)]) W6):=fun W6 s=>by
       obtain⟨F6,g6,d6⟩:=H5.out.1.drew.went s;refine⟨F6,G5,by rw[rU _ rfl];exact g6,H5.out.2.1.trans ⟨d6.chg.of_drew,d6.f,d6.g⟩⟩
      cases hw using nB with
      |fine=>
       have b0:=cN a0;clear a0;go_wp2_with (first|(go_at_call 173;refine b4.out.mono ?_;rintro e W6 ⟨rfl,hW⟩;subst hW)|(go_at_call 174;refine b0.out.mono ?_;rintro e W6 ⟨rfl,s⟩;refine cQ ?_));have H6:=cN (b7.out _ s);clear s;refine cN ?_;go_wp2_with fail;go_ret;rw[d8.out];exact⟨H6.out,rfl⟩
      |dies q=>
       have b0:=cN a0;clear a0;go_wp2_with (first|(go_at_call 173;refine b4.out.mono ?_;rintro e W6 ⟨rfl,hW⟩;subst hW)|(go_at_call 174;refine b0.out.mono ?_;rintro e W6 ⟨rfl,s⟩;refine cQ ?_));have H6:=cN (b7.out _ s);clear s;refine cN ?_;go_wp2_with fail;refine⟨rfl,?_⟩;rw[d8.out];exact⟨H6.out,rfl⟩
      |full=>
       have b0:=cN a0;clear a0;go_wp2_with (first|(go_at_call 173;refine b4.out.mono ?_;rintro e W6 ⟨rfl,hW⟩;subst hW)|(go_at_call 174;refine b0.out.mono ?_;rintro e W6 ⟨fb,rfl,b1,d7,s⟩;refine cQ ?_));have H6:=cN (aLl (b7.out _ s) b1);clear s b1 d7;refine cN ?_;go_wp2_with fail;go_ret;rw[d8.out];exact⟨H6.out.1,fb,rfl,H6.out.2⟩
 ·exact(M.out _ _ _ _).2 ⟨false,false,false,false,0,0,rfl,(fun h=>by cases h),rfl,rfl,Two.begin W0⟩
end
section
open Go.RowKit Go.Maps
theorem aGr(R:Ending→World→Prop)(c:List PanicEntry)(a:Act)(d:Option Nat)(v:Value)(w:World)(hd:∀k,d=some k→k≠4)(h:bodyPostD prog f85 R (.panic c) (a.put d v) w):bodyPostD prog f85 R (.panic c) a w:=by
 cases d with
 |none=>exact h
 |some k=>
  have b:=hd k rfl;refine uM (t':=(a.put (some k) v).tmps) (fun w=>?_) _ _ _ h;simp[results,results85,Act.put,cK,Array.getElem?_setIfInBounds,b]
theorem aJ5{f:FuncId}{args:Array Value}{ev:Value}{W:World}{F G:Nat→Prop}{b g:Nat}{av cv:Value}{net:List Mg}{tr:List Ev}{p:Ac×List Ev×How}(h:Calls prog f args W fun e W'=>aKs ev W F G b g av cv net tr p e W'):match p.2.2 with
 |.none=>Calls prog f args W fun e W'=>e= .returned .nilIface∧AfterA W F G b g av cv p.1 (net++dJ p.2.1) (tr++p.2.1) W'
 |(.some (.some q))=>Calls prog f args W fun e W'=>e= .panicked (rT q)∧AfterA W F G b g av cv p.1 (net++dJ p.2.1) (tr++p.2.1) W'
 |(.some .none)=>Calls prog f args W fun e W'=>∃fb,e= .returned (lX fb)∧lW W' fb ev∧AfterA W F G b g av cv p.1 (net++dJ p.2.1) (tr++p.2.1) W':=by
 obtain⟨c,d,a⟩:=p;cases a using nB with
 |fine=>exact h.mono fun e W' ⟨h1,h2⟩=>⟨h2,h1⟩
 |dies q=>exact h.mono fun e W' ⟨h1,h2⟩=>⟨h2,h1⟩
 |full=>exact h.mono fun e W' ⟨h1,fb,h2,h3⟩=>⟨fb,h2,h3,h1⟩
theorem aDf{a:Ac}(m:Mg)(h:¬a.st=0):sD a m=a∧mV a m=[]∧wA a m=0:=by
 refine⟨if_pos h,if_pos h,if_pos h⟩
theorem aG9(W:World)(F G:Nat→Prop)(B:Nat)(eb:Addr)(b g:Nat)(av cv:Value)(a:Ac)(net:List Mg)(tr:List Ev)(m:Mg)(h:ASys W F G b g av cv a net tr)(hgl:GlAt W B eb)(hFB:∀x,F x→B≤x)(hGB:∀x,G x→B≤x)(hok:xN a)(hll:(a.dk.log.length:Int)≤99999999000)(hnew':a.st=0→a.dk.new=none)(hold:a.dk.old=none)
 (hcr':a.st=0→∀q,(jD a m).2.2=(.some (.some q))→aHP (jD a m).1.dk∧0≤q) (hnum:(jD a m).1.num=a.num) (hsz':a.st=0→(jD a m).2.1.length≤5)
 (hm0:0≤m.lock) (hm3:m.lock≤3) (hn:net.length≤99999999990) (ht:tr.length≤99999999990):
 Calls prog 85 #[.pointer (some ⟨b,0,none⟩),mgV m] W fun e W'=>e= .returned (.int .i64 (wA a m))∧AfterA W F G b g av cv (sD a m) (net++dJ (mV a m)) (tr++mV a m) W':=by
 have f1:∀(fn:Fn) (first cap:Array Value) (w:World),(Instr.makeFunc fn first cap).run prog w= .ok (.func fn first cap) w:=fun _ _ _ _=>rfl;have O:Chg NoS W (((W.alloc (.cells #[.pointer (some ⟨b,0,none⟩)] 114)).alloc (.cells #[.int .i64 m.kind,.int .i64 m.src,.int .i64 m.dst,.int .i64 m.lock,.int .i64 m.bal,.int .i64 m.base,.int .i64 m.val.own,.int .i64 m.val.tok,.int .i64 m.val.ttl,.int .i64 m.val.seq] 66)).alloc (.cells #[.int .i64 0] 48)):=(((Chg.refl _ _).alloc _).alloc _).alloc _;have b0:=dM (.cells #[.int .i64 0] 48) (dM (.cells #[.int .i64 m.kind,.int .i64 m.src,.int .i64 m.dst,.int .i64 m.lock,.int .i64 m.bal,.int .i64 m.base,.int .i64 m.val.own,.int .i64 m.val.tok,.int .i64 m.val.ttl,.int .i64 m.val.seq] 66) (aA W (.cells #[.pointer (some ⟨b,0,none⟩)] 114)));have b1:=dM (.cells #[.int .i64 0] 48) (aA (W.alloc (.cells #[.pointer (some ⟨b,0,none⟩)] 114)) (.cells #[.int .i64 m.kind,.int .i64 m.src,.int .i64 m.dst,.int .i64 m.lock,.int .i64 m.bal,.int .i64 m.base,.int .i64 m.val.own,.int .i64 m.val.tok,.int .i64 m.val.ttl,.int .i64 m.val.seq] 66));have b2:=aA ((W.alloc (.cells #[.pointer (some ⟨b,0,none⟩)] 114)).alloc (.cells #[.int .i64 m.kind,.int .i64 m.src,.int .i64 m.dst,.int .i64 m.lock,.int .i64 m.bal,.int .i64 m.base,.int .i64 m.val.own,.int .i64 m.val.tok,.int .i64 m.val.ttl,.int .i64 m.val.seq] 66)) (.cells #[.int .i64 0] 48)
 have a9:(((W.alloc (.cells #[.pointer (some ⟨b,0,none⟩)] 114)).alloc (.cells #[.int .i64 m.kind,.int .i64 m.src,.int .i64 m.dst,.int .i64 m.lock,.int .i64 m.bal,.int .i64 m.base,.int .i64 m.val.own,.int .i64 m.val.tok,.int .i64 m.val.ttl,.int .i64 m.val.seq] 66)).alloc (.cells #[.int .i64 0] 48)).heap.size=W.heap.size+3:=by simp
 simp only[bK]at b1 b2;have M:∃p,((W.alloc (.cells #[.pointer (some ⟨b,0,none⟩)] 114)).alloc (.cells #[.int .i64 m.kind,.int .i64 m.src,.int .i64 m.dst,.int .i64 m.lock,.int .i64 m.bal,.int .i64 m.base,.int .i64 m.val.own,.int .i64 m.val.tok,.int .i64 m.val.ttl,.int .i64 m.val.seq] 66)).alloc (.cells #[.int .i64 0] 48)=p:=⟨_,rfl⟩;obtain⟨p,M⟩:=M;rw[M]at O b0 b1 b2 a9;have Z:=cN M;have Y:=h.kept O (fun _ _ h=>h) (fun _ _ h=>h);have c2:=hgl.kept O (fun _ h=>h.elim);obtain⟨FD,d,tb,ha,e4,e8⟩:=Y.acc;have c4:=ha.cell 4 _ rfl;have k0:p.cell? ⟨W.heap.size,0,none⟩=some (.pointer (some ⟨b,0,none⟩)):=cO b0 0 _ rfl;have k2:p.cell? ⟨W.heap.size+1+1,0,none⟩=some (.int .i64 0):=cO b2 0 _ rfl;have z2:=cX b2 0;have c0:=cN Y;have b6:=cN c2;have c8:=cN O;have c9:=cN a9;have e2:=cN b0;have d2:=cN b1;have d1:=cN b2;have b3:=cN (aLl h.acc.lt h.nt.lt);clear M O b0 b1 b2 a9 Y c2 ha e4 e8 h hgl;by_cases n:a.st=0
 ·have d3:=hnew' n;have b9:=hcr' n;have c3:=hsz' n;clear hnew' hcr' hsz';have hb:(a.st==0)=true:=by simp[n]
  have d9:(a.st !=0)=false:=by simp[n]
  have l:=cN (aJ5 (aJO p.drew F G B eb b g av cv a net tr m c0.out.drew (b6.out.kept (S:=NoS) (Chg.refl _ _).drew (fun _ h=>h.elim)) hFB hGB hok hll d3 hold hm0 hm3 hn ht));have a5:=cN (cR (cs:=mgL m) d2.out);have eS:sD a m=(match jD a m with|(a1,_,(.some (.some q)))=>crashA a1 q|(a1,_,h)=>uU a1 h):=if_neg (by omega);have eE:mV a m=(match jD a m with|(_,e,(.some (.some _)))=>e++[eO a.num]|(_,e,_)=>e):=if_neg (by omega);have eR:wA a m=(match jD a m with|(_,_,(.some (.some q)))=>6|_=>0):=if_neg (by omega);have c1:∀s,AfterA p.drew F G b g av cv (jD a m).1 (net++dJ (jD a m).2.1) (tr++(jD a m).2.1) s→∃u I,ASys s u I b g av cv (jD a m).1 (net++dJ (jD a m).2.1) (tr++(jD a m).2.1)∧Went W s F u G I∧GlAt s B eb∧s.heap[W.heap.size]?=some (.cells #[.pointer (some ⟨b,0,none⟩)] 114 (0,0))∧s.heap[W.heap.size+1]?=some (.cells (mgL m).toArray 66 (0,0))∧s.heap[W.heap.size+1+1]?=some (.cells #[.int .i64 0] 48 (0,0))∧(∀k,u k→B≤k)∧(∀k,I k→B≤k)∧¬u (W.heap.size+1+1)∧¬I (W.heap.size+1+1):=by
   rintro s ⟨u,I,hs,U⟩;have a3:=c9.out;have hsz':p.drew.heap.size=W.heap.size+3:=a3;have hF:=b3.out.1;have hG:=b3.out.2;have Q:∀k,W.heap.size≤k→¬(F k∨G k):=fun k hk h=>by rcases h with h|h<;>first|(have:=hF k h;omega)|(have:=hG k h;omega)
   have hB:=b6.out.hB;have e5:=(⟨c8.out.drew.mono (fun _ _ h=>h.elim),fun _ h=>Or.inl h,fun _ h=>Or.inl h⟩:Went W p.drew F F G G).trans U;refine⟨u,I,hs,e5,(b6.out.kept (S:=NoS) (Chg.refl _ _).drew (fun _ h=>h.elim)).kept U.chg (fun k h=>h.elim (hFB k) (hGB k)),U.chg.kept (show p.drew.heap[W.heap.size]?=_ from e2.out) (Q _ (by omega)),U.chg.kept (show p.drew.heap[W.heap.size+1]?=_ from d2.out) (Q _ (by omega)),U.chg.kept (show p.drew.heap[W.heap.size+1+1]?=_ from d1.out) (Q _ (by omega)),fun k hk=>?_,fun k hk=>?_,fun h=>?_,fun h=>?_⟩
   ·rcases U.f k hk with h|h
    ·exact hFB k h
    ·omega
   ·rcases U.g k hk with h|h
    ·exact hGB k h
    ·omega
   ·rcases U.f _ h with h|h
    ·exact Q _ (by omega) (Or.inl h)
    ·omega
   ·rcases U.g _ h with h|h
    ·exact Q _ (by omega) (Or.inr h)
    ·omega
  have H:=cN c1;clear n c1;cases hact:jD a m with
  |mk a1 pe=>
   obtain⟨V,e0⟩:=pe;rw[hact]at l H b9 hnum c3 eS eE eR;cases e0 using nB with
   |fine=>
    have P:Hid (Calls prog 130 #[.pointer (some ⟨b,0,none⟩),mgV m] p.drew fun e W'=>e= .returned .nilIface∧AfterA p.drew F G b g av cv a1 (net++dJ V) (tr++V) W'):=l.out;rw[eS,eE,eR];clear eS eE eR l hact
    go_enter_defers func85,ntmps85
    go_wp2_with (rw[Z.out]);refine mX [(1,0),(1,1),(1,2),(2,3)] [4] (fun x=>x.cell? ⟨W.heap.size,0,none⟩=some (.pointer (some ⟨b,0,none⟩))∧∀j y,(mgL m)[j]?=some y→x.cell? ((⟨W.heap.size+1,0,none⟩:Addr).add j)=some y) (by kernel_rfl) (by kernel_rfl) ?_ ?_ ?_
    ·intro c a1 i o v w1 ho Y;refine aGr _ c a1 o.dst v w1 (fun k hk=>?_) Y;have hm:=List.mem_of_getElem? (by simpa using ho);simp only[List.mem_cons,List.not_mem_nil,or_false]at hm;rcases hm with rfl|rfl|rfl|rfl|rfl<;>(cases hk;decide)
    ·exact⟨k0,a5.out⟩
    simp only[kD,oO,cM,cL];iterate 2 (apply sB rfl rfl;·(intro x h;(try have h:=h rfl);(try dsimp only at h);go_simp;with_reducible rfl))
    try simp only[pA]
    refine dA rfl (fun x hx=>cU 66 _ rfl ⟨W.heap.size+1,0,none⟩ rfl _ _ hx.2 underlying66 rfl (by kernel_rfl)) ?_;(try simp only[pA]);refine dI rfl (fun C hC=>?_);go_simp;refine P.out.mono ?_;rintro e s ⟨rfl,D⟩;obtain⟨u,I,r,A,J,p0,p1,X,a0,E,n1,n2⟩:=H.out s D;refine hC _ _ ⟨cO p0 0 _ rfl,cR p1⟩ ?_;clear hC C;refine cP ?_;have a4:=cN (aBv s B eb b J);have L:=cN r;have t:=cN A;have b4:=cN X;have HN:=cN (aLl n1 n2);clear r A J p0 p1 X a0 E n1 n2 D k2 z2;go_wp2_with (go_at_call 129;refine a4.out.mono ?_;rintro e w3 ⟨rfl,N⟩;have z:=cN N;clear N;refine cQ ?_);refine cN ?_;have K:=z.out.kept b4.out (fun h=>h);have k3:=cO K 0 _ rfl;have z3:=cX K 0;have q4:=dD K 0 (.int .i64 0);have b7:=cN (cO q4 0 (.int .i64 0) (by simp));have a8:=cN ((L.out.kept z.out (fun _ _ h=>h) (fun _ _ h=>h)).kept (cY w3 (W.heap.size+1+1) 0 (.int .i64 0)) (fun k hk e=>HN.out.1 (e▸hk)) (fun k hk e=>HN.out.2 (e▸hk)));have a7:=cN ((z.out.mono (T:=fun k=>k=W.heap.size+1+1) (fun _ _ h=>h.elim)).trans (cY w3 (W.heap.size+1+1) 0 (.int .i64 0)) (fun x _ h=>h));clear K q4;go_wp2_with fail;refine leaves_cons (f:=127) (args:=#[.pointer (some ⟨W.heap.size,0,none⟩),.pointer (some ⟨W.heap.size+1+1,0,none⟩)]) (by simp) (by simp[go_sem]) ?_;refine(aAR _ _ _).mono ?_;rintro e u' d0 ⟨rfl,rfl,rfl⟩;refine⟨.int .i64 0,by simp[results,results85,go_sem,b7.out],rfl,u,I,a8.out,t.out.chg.trans a7.out (fun x hx h=>by omega),t.out.f,t.out.g⟩
   |dies q=>
    have P:Hid (Calls prog 130 #[.pointer (some ⟨b,0,none⟩),mgV m] p.drew fun e W'=>e= .panicked (rT q)∧AfterA p.drew F G b g av cv a1 (net++dJ V) (tr++V) W'):=l.out;rw[eS,eE,eR];clear eS eE eR l hact
    go_enter_defers func85,ntmps85
    go_wp2_with (rw[Z.out]);refine mX [(1,0),(1,1),(1,2),(2,3)] [4] (fun x=>x.cell? ⟨W.heap.size,0,none⟩=some (.pointer (some ⟨b,0,none⟩))∧∀j y,(mgL m)[j]?=some y→x.cell? ((⟨W.heap.size+1,0,none⟩:Addr).add j)=some y) (by kernel_rfl) (by kernel_rfl) ?_ ?_ ?_
    ·intro c a1 i o v w1 ho Y;refine aGr _ c a1 o.dst v w1 (fun k hk=>?_) Y;have hm:=List.mem_of_getElem? (by simpa using ho);simp only[List.mem_cons,List.not_mem_nil,or_false]at hm;rcases hm with rfl|rfl|rfl|rfl|rfl<;>(cases hk;decide)
    ·exact⟨k0,a5.out⟩
    simp only[kD,oO,cM,cL];iterate 2 (apply sB rfl rfl;·(intro x h;(try have h:=h rfl);(try dsimp only at h);go_simp;with_reducible rfl))
    try simp only[pA]
    refine dA rfl (fun x hx=>cU 66 _ rfl ⟨W.heap.size+1,0,none⟩ rfl _ _ hx.2 underlying66 rfl (by kernel_rfl)) ?_;(try simp only[pA]);refine dI rfl (fun C hC=>?_);go_simp;refine P.out.mono ?_;rintro e s ⟨rfl,D⟩;obtain⟨u,I,r,A,J,p0,p1,X,a0,E,n1,n2⟩:=H.out s D;clear k2 z2;obtain⟨d4,d6⟩:=b9 q rfl;have f3:=lQ V;have hsz':=c3;refine leaves_cons (f:=127) (args:=#[.pointer (some ⟨W.heap.size,0,none⟩),.pointer (some ⟨W.heap.size+1+1,0,none⟩)]) (by simp) (by simp[go_sem]) ?_;refine(aHK s u I b g av cv a1 _ _ q _ _ r d4 d6 (by rw[aD];omega) (by rw[aD];omega) p0 X n1 n2).mono ?_;rintro e u' d0 ⟨rfl,rfl,W3,d7,d5,rfl⟩;have K:=d5.trans X;have q4:=dD K 0 (.int .i64 6);have k4:=cO q4 0 (.int .i64 6) (by simp);obtain⟨F3,G3,e3,b8⟩:=d7;have e9:=dG X;have m1:¬F3 (W.heap.size+1+1):=fun h=>(b8.f _ h).elim n1 (fun h=>by omega);have m2:¬G3 (W.heap.size+1+1):=fun h=>(b8.g _ h).elim n2 (fun h=>by omega);have e1:=e3.kept (cY W3 (W.heap.size+1+1) 0 (.int .i64 6)) (fun k hk e=>m1 (e▸hk)) (fun k hk e=>m2 (e▸hk));have b5:=A.trans b8;have e7:=hnum;refine⟨.int .i64 6,by simp[results,results85,go_sem,k4],rfl,F3,G3,?_,b5.chg.trans (cY W3 (W.heap.size+1+1) 0 (.int .i64 6)) (fun x hx h=>by omega),b5.f,b5.g⟩;rw[jC,show dJ [eO a.num]=[]from fE _ (show(4:Int)≠1 by decide),aC,←aS,←e7];exact e1
   |full=>
    have P:Hid (Calls prog 130 #[.pointer (some ⟨b,0,none⟩),mgV m] p.drew fun e W'=>∃fb,e= .returned (lX fb)∧lW W' fb (oQ eb)∧AfterA p.drew F G b g av cv a1 (net++dJ V) (tr++V) W'):=l.out;rw[eS,eE,eR];clear eS eE eR l hact
    go_enter_defers func85,ntmps85
    go_wp2_with (rw[Z.out]);refine mX [(1,0),(1,1),(1,2),(2,3)] [4] (fun x=>x.cell? ⟨W.heap.size,0,none⟩=some (.pointer (some ⟨b,0,none⟩))∧∀j y,(mgL m)[j]?=some y→x.cell? ((⟨W.heap.size+1,0,none⟩:Addr).add j)=some y) (by kernel_rfl) (by kernel_rfl) ?_ ?_ ?_
    ·intro c a1 i o v w1 ho Y;refine aGr _ c a1 o.dst v w1 (fun k hk=>?_) Y;have hm:=List.mem_of_getElem? (by simpa using ho);simp only[List.mem_cons,List.not_mem_nil,or_false]at hm;rcases hm with rfl|rfl|rfl|rfl|rfl<;>(cases hk;decide)
    ·exact⟨k0,a5.out⟩
    simp only[kD,oO,cM,cL];iterate 2 (apply sB rfl rfl;·(intro x h;(try have h:=h rfl);(try dsimp only at h);go_simp;with_reducible rfl))
    try simp only[pA]
    refine dA rfl (fun x hx=>cU 66 _ rfl ⟨W.heap.size+1,0,none⟩ rfl _ _ hx.2 underlying66 rfl (by kernel_rfl)) ?_;(try simp only[pA]);refine dI rfl (fun C hC=>?_);go_simp;refine P.out.mono ?_;rintro e s ⟨fb,rfl,c7,D⟩;obtain⟨u,I,r,A,J,p0,p1,X,a0,E,n1,n2⟩:=H.out s D;refine hC _ _ ⟨cO p0 0 _ rfl,cR p1⟩ ?_;clear hC C;refine cP ?_;have a4:=cN (zJ s u B eb b g fb a1 r.acc J c7);have c5:u b:=by
     obtain⟨f4,d',f2,f0,e6,_⟩:=r.acc;exact e6 b (Or.inr (Or.inl rfl))
    have a6:=cN c5;have L:=cN r;have t:=cN A;have b4:=cN X;have HN:=cN (aLl n1 n2);clear c5 c7 r A J p0 p1 X a0 E n1 n2 D k2 z2;go_wp2_with (go_at_call 129;refine a4.out.mono ?_;rintro e w3 ⟨rfl,a2,N⟩;have z:=cN N;have d8:=cN a2;clear N a2;refine cQ ?_);refine cN ?_;have K:=z.out.kept b4.out (fun h=>HN.out.1 (by rw[h];exact a6.out));have R:ASys w3 u I b g av cv {a1 with st:=1} (net++dJ V) (tr++V):=⟨d8.out,L.out.nt.kept z.out (fun k hk e=>L.out.apart k (by rw[show k=b from e];exact a6.out) hk),L.out.apart⟩;have k3:=cO K 0 _ rfl;have z3:=cX K 0;have q4:=dD K 0 (.int .i64 0);have b7:=cN (cO q4 0 (.int .i64 0) (by simp));have a8:=cN (R.kept (cY w3 (W.heap.size+1+1) 0 (.int .i64 0)) (fun k hk e=>HN.out.1 (e▸hk)) (fun k hk e=>HN.out.2 (e▸hk)));have a7:=cN ((z.out.mono (T:=fun k=>k=b∨k=W.heap.size+1+1) (fun _ _ h=>Or.inl h)).trans (cY w3 (W.heap.size+1+1) 0 (.int .i64 0)) (fun x _ h=>Or.inr h));clear K q4 R;go_wp2_with fail;refine leaves_cons (f:=127) (args:=#[.pointer (some ⟨W.heap.size,0,none⟩),.pointer (some ⟨W.heap.size+1+1,0,none⟩)]) (by simp) (by simp[go_sem]) ?_;refine(aAR _ _ _).mono ?_;rintro e u' d0 ⟨rfl,rfl,rfl⟩;refine⟨.int .i64 0,by simp[results,results85,go_sem,b7.out],rfl,u,I,a8.out,t.out.chg.trans a7.out (fun x hx h=>by
     rcases h with h|h
     ·rcases t.out.f x (by rw[h];exact a6.out)with h'|h'
      ·exact Or.inl h'
      ·omega
     ·omega),t.out.f,t.out.g⟩
 ·obtain⟨t1,t2,t3⟩:=aDf m n;rw[t1,t2,t3];have hb:(a.st==0)=false:=by simp[n]
  have d9:(a.st !=0)=true:=by simp[n]
  clear t1 t2 t3 n
  go_enter_defers func85,ntmps85
  go_wp2_with (rw[Z.out]);refine⟨.int .i64 0,by simp[results,results85,go_sem,cO (dD d1.out 0 (.int .i64 0)) 0 (.int .i64 0) (by simp)],rfl,?_⟩;rw[fF,aC,aC];have a3:=c9.out;have c6:=b3.out;exact⟨F,G,c0.out.kept (cY p (W.heap.size+1+1) 0 (.int .i64 0)) (fun k hk e=>by have:=c6.1 k hk;omega) (fun k hk e=>by have:=c6.2 k hk;omega),(c8.out.mono (fun _ _ h=>h.elim)).trans (cY p (W.heap.size+1+1) 0 (.int .i64 0)) (fun x hx h=>by omega),fun _ h=>Or.inl h,fun _ h=>Or.inl h⟩
end
def gF(x:Rm)(i:Nat)(a:Ra)(e:List Ev):Rm:={x with acs:=x.acs.set i a,net:=x.net++dJ e,tr:=x.tr++e}
theorem mG(W:World)(own:Nat→Nat)(y:Nat)(x:Rm)(V:RmV)(k:Nat)(a:Ra)(h:RmAt W own y x V)(hk:k<x.acs.length)(ha:x.acs[k]=a)(hn:x.acs.length≤5)(ht:x.tr.length≤100000000000):
 Calls prog 157 #[.pointer (some ⟨y,0,none⟩),.int .i64 k] W fun r W'=>r= .returned (.int .i64 (pM a))∧RmTo W own y V {x with tr:=x.tr++jS a k} W':=by
 obtain⟨ie,jie,je0,je1,je2⟩:=info_parts nS;obtain⟨pc,capc,hcv,hcr⟩:=fK h.rav;have y7:W.cell? ⟨y,7,none⟩=some (.slice pc x.acs.length capc):=by rw[←hcv];exact h.cell 7 _ rfl
 obtain⟨g,rfl,hg⟩:=hcr k hk;obtain⟨B,hB⟩:=aLw (V.bA k);have hg':W.cell? ⟨g,k,none⟩=some (.pointer (some ⟨B,0,none⟩)):=by rw[hB];exact hg
 have hra:RaAt W B x.cf a:=by have:=h.acs k hk;rw[ha]at this;rw[hB];exact this
 have b8:W.cell? ⟨B,8,none⟩=some (.bool a.up):=cO hra 8 _ rfl;have hkl:(k:Int)<(x.acs.length:Int):=by omega
 unfold pM jS;cases hu:a.up with
 |true=>
  rw[hu]at b8;simp only[if_true];rw[aC];have HT:=cN (RmTo.of h);clear h hcv hcr hg hB hra hu;go_enter func157,ntmps157;go_wp2_with fail;go_ret;exact⟨rfl,HT.out⟩
 |false=>
  rw[hu]at b8;simp only[aU,if_false];have y10:W.cell? ⟨y,10,none⟩=some V.tv:=h.cell 10 _ rfl;have hrowt:=h.tr;have hbox:=aA W (.cells (evL (eO k)).toArray 70);have H:=cN h;clear h hcv hcr hg hB hra hu;go_enter func157,ntmps157;go_wp2_with (at_builtin;refine wpList_append_lies _ rfl _ _ 43 rfl 0 70 ie _ 19 152 underlying43 jie je0 je1 je2 rfl (by decide) V.tv x.tr.length (cZ evL x.tr) rfl (hrowt.alloc _) ⟨W.heap.size,0,none⟩ 1 1 (evL (eO k)) rfl rfl (cR hbox) (nY _) (by decide) (by unfold maxLen;omega) (by omega) (aI _) (W.heap.size+1) (by simp) ?_;intro gt cap2 W3 hown3 hgr3 hat3 hlt3;refine cQ ?_);have hto:=H.out.trAppend (e:=eO k) (W1:=W.alloc (.cells (evL (eO k)).toArray 70)) ((Chg.refl _ _).alloc _) ⟨hgr3.os,hgr3.tape,hgr3.output,hgr3.size,hgr3.block⟩ hown3 (hat3.imp (fun h=>h) (fun h=>by simp;omega));have hn01:Chg (fun q=>some q=V.tv.ownBlock) W W3:=(((Chg.refl NoS W).alloc _).mono (T:=fun q=>some q=V.tv.ownBlock) (fun _ _ h=>h.elim)).trans (Chg.of_grown ⟨hgr3.os,hgr3.tape,hgr3.output,hgr3.size,hgr3.block⟩) (fun _ _ h=>h);have hy3:=hn01.kept H.out.blk (fun e=>by have:=H.out.tvo _ e.symm;have:=H.out.yo;omega);have d10:W3.cell? ⟨y,10,none⟩=some V.tv:=cO hy3 10 _ rfl;have z10:=cX hy3 10;have HTO:=cN hto;clear hto hn01 hy3 hown3 hgr3 hat3 hlt3 hbox y10 hrowt;refine cN ?_;go_wp2_with fail;go_ret;exact⟨rfl,HTO.out⟩
end Go.Proofs.YtbbdgokdfhdpiaaGreatDoor
