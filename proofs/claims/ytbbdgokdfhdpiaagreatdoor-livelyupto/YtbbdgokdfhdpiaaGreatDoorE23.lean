/- A part of the proof: PAc8, PAc9. -/
import Derived.Test.YtbbdgokdfhdpiaaGreatDoorE3
import Derived.Test.YtbbdgokdfhdpiaaGreatDoorE19
namespace Go.Proofs.YtbbdgokdfhdpiaaGreatDoor
set_option linter.all false
set_option maxRecDepth 100000
set_option maxHeartbeats 40000000
open Go.Proofs.Tryz Go.RowKit
section
open Go.RowKit Go.Maps
theorem yU(W:World)(B:Nat)(eb:Addr)(b:Nat)(hgl:GlAt W B eb):
 Calls prog 129 #[.pointer (some ⟨b,0,none⟩),.nilIface] W fun e W'=>e= .returned (.tuple #[])∧Chg NoS W W':=by
 have a:Chg NoS W (W.alloc (.cells #[.pointer none] 234)):=(Chg.refl _ _).alloc _;generalize c:W.alloc (.cells #[.pointer none] 234)=W1 at*;have g:=cA c;have i:=(hgl.kept a (fun _ h=>h.elim)).err;have d:=cA (aHq eb W1);have f:=cA a;clear c a hgl;go_enter func129,ntmps129;go_wp2_with (first|rw[g.out]|(go_at_call 167;refine d.out.mono ?_;rintro e j ⟨rfl,rfl⟩))
 (first|go_end0|((try simp only[Exit.inBlock,Exit.then]);refine bodyPost_ret (results_none rfl _ _ _) rfl ?_))
 exact⟨rfl,f.out⟩
theorem uJ(W:World)(F:Nat→Prop)(B:Nat)(eb:Addr)(b g fb:Nat)(a:Ac)(h:Acc W F b g a)(hgl:GlAt W B eb)(hf:kH W fb (mF eb)):
 Calls prog 129 #[.pointer (some ⟨b,0,none⟩),kI fb] W fun e W'=>e= .returned (.tuple #[])∧Acc W' F b g {a with st:=1}∧Chg (fun x=>x=b) W W':=by
 obtain⟨nm,hf⟩:=hf;obtain⟨FD,d,tb,ha,hin,hlt⟩:=h;have hc1:Chg NoS W (W.alloc (.cells #[.pointer none] 234)):=(Chg.refl _ _).alloc _;have hb1:=aA W (.cells #[.pointer none] 234);generalize hX1:W.alloc (.cells #[.pointer none] 234)=W1 at*;have HX1:=cA hX1;have hg1:=hgl.kept hc1 (fun _ h=>h.elim);have hev:=hg1.err;have hf1:=hc1.kept hf (fun h=>h);have HIS:=cA (aFM fb eb W1 (cB hf1 2 _ rfl));have HAS:=cA (aFn fb W.heap.size W1 hg1.typ (aG hg1.b1 hg1.hB) hb1);have HH:=cA (aH7 ha hin hlt hc1 hf1 (cX hf));clear hX1 hc1 hgl hg1 hf1 hf hb1 ha hin hlt;go_enter func129,ntmps129;go_wp2_with (first|rw[HX1.out]|(go_at_call 167;refine HIS.out.mono ?_;rintro e w' ⟨rfl,rfl⟩)|(go_at_call 168;refine HAS.out.mono ?_;rintro e W2 ⟨rfl,k2,b2⟩;refine cD ?_));have t0:=cB b2 0 _ rfl;have hf2:=k2.kept HH.out.2.2.2.2.1 (by have:=HH.out.2.2.2.2.2;omega);have f0:=cB hf2 0 _ rfl;have hc2:=HH.out.2.2.2.1.trans (S:=NoS) k2 (fun x hx e=>by omega);have ha2:=HH.out.1.kept hc2 (fun _ _ h=>h);have c4:=ha2.cell 4 _ rfl;have z4:=ha2.froz 4;have hc3:=dA W2 b 4 (.int .i64 1);have hb3:=cO ha2.blk 4 (.int .i64 1);generalize hX3:W2.setCell ⟨b,4,none⟩ (.int .i64 1)=W3 at*;have HX3:=cA hX3;have HR:Hid (Acc W3 F b g {a with st:=1}∧Chg (fun x=>x=b) W W3):=by
  refine⟨⟨FD,d,tb,⟨hb3,ha2.disk.of_heap hc3.size (fun x hx=>hc3.block x (ha2.disk.lt x hx) (fun e=>ha2.nb (e▸hx))),dF ha2.table (hc3.block _ ha2.table.lt (fun e=>ha2.bt e.symm)),ha2.nb,ha2.ntb⟩,HH.out.2.1,fun x hx=>aG (HH.out.2.2.1 x hx) (bP hc2.size hc3.size)⟩,(hc2.nos:Chg (fun x=>x=b) W W2).trans hc3 (fun _ _ h=>h)⟩
 clear hX3 hc3 hb3 ha2 hc2 hf2 b2 k2;refine cA ?_;go_wp2_with (first|rw[HX3.out])
 (first|go_end0|((try simp only[Exit.inBlock,Exit.then]);refine bodyPost_ret (results_none rfl _ _ _) rfl ?_))
 exact⟨rfl,HR.out⟩
end
section
open Go.RowKit Go.Maps
theorem yD(W:World)(F:Nat→Prop)(B:Nat)(eb:Addr)(b g:Nat)(a:Ac)(h:Acc W F b g a)(hgl:GlAt W B eb)(hFB:∀x,F x→B≤x)(hok:uM a)(hby:∀x ∈ a.dk.log,0≤x∧x<256)(hnew:a.dk.new=none)(hold:a.dk.old=none):
 Calls prog 134 #[.pointer (some ⟨b,0,none⟩)] W fun e W'=>pF .nilIface (mF eb) W F b g (fK a) e W':=by
 have b2:=cA (aBO W F b g a h);have a1:(strOfNums a.dk.log).size≤1000000000000:=by rw[fM];have:=hok.l1;omega
 have M:=zN (strOfNums a.dk.log) W a1;rw[rQ hby]at M;obtain⟨l,H⟩:=aIe (dS a.dk.log);rw[←H]at M;have a2:∀r ∈ l,0≤r.lock∧r.lock≤3:=by rw[H];exact vI _ _
 have b4:25*(l.length:Int)≤a.dk.log.length:=by
  have:=aEh (strOfNums a.dk.log);rw[rQ hby,←H,fM]at this;omega
 have a4:fK a=if 25*(l.length:Int)<a.dk.log.length∨kZ a=true then cP {a with rows:=l}else({a with rows:=l},.none):=by unfold fK;rw[←H]
 have b0:=cA M;have X:=cA a4;have a8:=cA a2;have E:=cA (aH7 h hgl hFB hok hnew hold);have b8:=mZ a.dk.log;clear M a4 a2 H hby a1 h hgl hFB hok hnew hold;go_enter func134,ntmps134;go_wp2_with (first|(go_at_call 60;refine b2.out.mono ?_;rintro e w' ⟨rfl,L⟩;have b1:=L.symm;subst b1;clear L)|(go_at_call 61;refine b0.out.mono ?_;rintro e W1 ⟨m,n,rfl,K,hn,b6,R⟩;refine cD ?_));have Y:=Chg.below' R;have G:xV W1 m l:=lJ K (by rw[rH a8.out K];exact mG _);obtain⟨FD,d,tb,ha,N,a3⟩:=E.out.1;have s:=ha.kept Y (fun _ _ h=>h);have c3:=s.cell 3 _ rfl;have z3:=s.froz 3;have A:=dA W1 b 3 (.map (some m));have a7:=cO s.blk 3 (.map (some m));generalize a5:W1.setCell ⟨b,3,none⟩ (.map (some m))=W2 at*;have v:=cA a5;obtain⟨_,_,o⟩:=dK G;have b9:=cX ha.blk;have b5:=G.lt;have a9:AcAt W2 FD b g d m {a with rows:=l}:=⟨a7,s.disk.of_heap A.size (fun x i=>A.block x (s.disk.lt x i) (fun e=>s.nb (e▸i))),dF G (A.block _ G.lt (by omega)),s.nb,fun i=>by have:=ha.disk.lt m i;omega⟩;have w:=(Y.nos:Chg F W W1).trans A (fun x _ e=>e▸N b (Or.inr (Or.inl rfl)));have b7:=A.size;have J:Acc W2 (fun x=>F x∨x=m) b g {a with rows:=l}:=⟨FD,d,m,a9,fun x i=>by
  rcases i with i|i|i
  ·exact Or.inl (N x (Or.inl i))
  ·exact Or.inl (N x (Or.inr (Or.inl i)))
  ·exact Or.inr i,fun x i=>by
  rcases i with i|i
  ·have:=a3 x i;have:=w.size;omega
  ·omega⟩
 have a6:∀x,(F x∨x=m)→F x∨W.heap.size≤x:=fun x i=>i.elim Or.inl (fun e=>Or.inr (by omega));have S:uM {a with rows:=l}:={E.out.2.2.2.1 with lk:=a8.out};have T:=E.out.2.1.kept w E.out.2.2.1;have U:∀x,(F x∨x=m)→B≤x:=fun x i=>by
  rcases i with i|i
  ·exact E.out.2.2.1 x i
  ·have:=E.out.2.1.hB;omega
 have O:=cA (xW W2 _ b g _ J (by have:=E.out.2.2.2.1.l1;show(a.dk.log.length:Int)≤_;omega));have j:=cA (aH7 J w a6 S T U);clear J w a6 S T U a9 s ha a7 A a5 Y G K R N a3 o;have u:Hid (∀(x:World) p e W',Chg NoS W2 x→pF .nilIface (mF eb) x (fun y=>F y∨y=m) b g p e W'→pF .nilIface (mF eb) W F b g p e W'):=fun x p e W' i c=>by
  obtain⟨Q,h2⟩:=c;have a0:=j.out.2.1.nos' i;refine⟨AcTo.trans a0 (fun y hy=>j.out.2.2.1 y hy) Q,?_⟩;obtain⟨P,hw⟩:=p;cases hw using lB with
  |fine=>exact h2
  |dies q=>exact h2
  |full=>obtain⟨z,g1,g2,g3⟩:=h2;exact⟨z,g1,g2,bP a0.size g3⟩
 refine cA ?_;by_cases Q:25*(l.length:Int)<a.dk.log.length
 ·have b3:decide (25*(l.length:Int)<a.dk.log.length)=true:=by simpa using Q
  have t:=cA (X.out.trans (if_pos (Or.inl Q)));have Z:=cA (mS W2 _ B eb b g {a with rows:=l} j.out.1 j.out.2.2.2.2.1 j.out.2.2.2.2.2 j.out.2.2.2.1 E.out.2.2.2.2.1 E.out.2.2.2.2.2);clear Q;obtain⟨p,V⟩:=aIe (cP {a with rows:=l});have HP:=cA V;have f:=Z.out;rw[←V]at f;clear V;obtain⟨P,hw⟩:=p;have k:=cA (t.out.trans HP.out.symm);cases hw using lB with
  |fine=>
   have D:Hid (Calls prog 174 #[.pointer (some ⟨b,0,none⟩)] W2 fun e W'=>e= .returned .nilIface∧pF .nilIface (mF eb) W2 (fun y=>F y∨y=m) b g (P,.none) e W'):=f.mono fun e W' c=>⟨c.2,c⟩;clear f;go_wp2_with (first|rw[v.out]|(go_at_call 174;refine D.out.mono ?_;rintro e W3 ⟨rfl,c⟩;refine cD ?_));have C:=cA (u.out _ _ _ _ (Chg.refl _ _) c);clear c;refine cA ?_;go_wp2_with fail;go_ret;rw[k.out];exact C.out
  |dies q=>
   have D:Hid (Calls prog 174 #[.pointer (some ⟨b,0,none⟩)] W2 fun e W'=>e= .panicked (oM q)∧pF .nilIface (mF eb) W2 (fun y=>F y∨y=m) b g (P,(.some (.some q))) e W'):=f.mono fun e W' c=>⟨c.2,c⟩;clear f;go_wp2_with (first|rw[v.out]|(go_at_call 174;refine D.out.mono ?_;rintro e W3 ⟨rfl,c⟩;refine cD ?_));have C:=cA (u.out _ _ _ _ (Chg.refl _ _) c);clear c;refine cA ?_;go_wp2_with fail;refine⟨rfl,?_⟩;rw[k.out];exact C.out
  |full=>
   have D:Hid (Calls prog 174 #[.pointer (some ⟨b,0,none⟩)] W2 fun e W'=>∃z,e= .returned (kI z)∧pF .nilIface (mF eb) W2 (fun y=>F y∨y=m) b g (P,(.some .none)) (.returned (kI z)) W'):=f.mono fun e W' c=>by
    obtain⟨z,g1,g2⟩:=c.2;subst g1;exact⟨z,rfl,c⟩
   clear f;go_wp2_with (first|rw[v.out]|(go_at_call 174;refine D.out.mono ?_;rintro e W3 ⟨z,rfl,c⟩;refine cD ?_));have C:=cA (u.out _ _ _ _ (Chg.refl _ _) c);clear c;refine cA ?_;go_wp2_with fail;go_ret;rw[k.out];exact C.out
 ·have b3:decide (25*(l.length:Int)<a.dk.log.length)=false:=by simpa using Q
  cases hq:kZ a with
  |true=>
   have t:=cA (X.out.trans (if_pos (Or.inr hq)));have I:Hid (Calls prog 173 #[.pointer (some ⟨b,0,none⟩)] W2 fun e W'=>e= .returned (.bool true)∧W'=W2.drew):=by
    have h:=O.out;have e:kZ {a with rows:=l}=true:=hq;rw[e]at h;exact h
   have Z:=cA (mS W2.drew _ B eb b g {a with rows:=l} (j.out.1.kept (Chg.refl NoS W2).drew (fun _ _ h=>h)) (j.out.2.2.2.2.1.kept (Chg.refl NoS W2).drew (fun _ h=>h.elim)) j.out.2.2.2.2.2 j.out.2.2.2.1 E.out.2.2.2.2.1 E.out.2.2.2.2.2);clear Q hq O;obtain⟨p,V⟩:=aIe (cP {a with rows:=l});have HP:=cA V;have f:=Z.out;rw[←V]at f;clear V;obtain⟨P,hw⟩:=p;have k:=cA (t.out.trans HP.out.symm);cases hw using lB with
   |fine=>
    have D:Hid (Calls prog 174 #[.pointer (some ⟨b,0,none⟩)] W2.drew fun e W'=>e= .returned .nilIface∧pF .nilIface (mF eb) W2.drew (fun y=>F y∨y=m) b g (P,.none) e W'):=f.mono fun e W' c=>⟨c.2,c⟩;clear f;go_wp2_with (first|rw[v.out]|(go_at_call 173;refine I.out.mono ?_;rintro e w' ⟨rfl,L⟩;subst L)|(go_at_call 174;refine D.out.mono ?_;rintro e W3 ⟨rfl,c⟩;refine cD ?_));have C:=cA (u.out _ _ _ _ (Chg.refl NoS W2).drew c);clear c;refine cA ?_;go_wp2_with fail;go_ret;rw[k.out];exact C.out
   |dies q=>
    have D:Hid (Calls prog 174 #[.pointer (some ⟨b,0,none⟩)] W2.drew fun e W'=>e= .panicked (oM q)∧pF .nilIface (mF eb) W2.drew (fun y=>F y∨y=m) b g (P,(.some (.some q))) e W'):=f.mono fun e W' c=>⟨c.2,c⟩;clear f;go_wp2_with (first|rw[v.out]|(go_at_call 173;refine I.out.mono ?_;rintro e w' ⟨rfl,L⟩;subst L)|(go_at_call 174;refine D.out.mono ?_;rintro e W3 ⟨rfl,c⟩;refine cD ?_));have C:=cA (u.out _ _ _ _ (Chg.refl NoS W2).drew c);clear c;refine cA ?_;go_wp2_with fail;refine⟨rfl,?_⟩;rw[k.out];exact C.out
   |full=>
    have D:Hid (Calls prog 174 #[.pointer (some ⟨b,0,none⟩)] W2.drew fun e W'=>∃z,e= .returned (kI z)∧pF .nilIface (mF eb) W2.drew (fun y=>F y∨y=m) b g (P,(.some .none)) (.returned (kI z)) W'):=f.mono fun e W' c=>by
     obtain⟨z,g1,g2⟩:=c.2;subst g1;exact⟨z,rfl,c⟩
    clear f;go_wp2_with (first|rw[v.out]|(go_at_call 173;refine I.out.mono ?_;rintro e w' ⟨rfl,L⟩;subst L)|(go_at_call 174;refine D.out.mono ?_;rintro e W3 ⟨z,rfl,c⟩;refine cD ?_));have C:=cA (u.out _ _ _ _ (Chg.refl NoS W2).drew c);clear c;refine cA ?_;go_wp2_with fail;go_ret;rw[k.out];exact C.out
  |false=>
   have t:=cA (X.out.trans (if_neg (by rw[hq];simp;omega)));have I:Hid (Calls prog 173 #[.pointer (some ⟨b,0,none⟩)] W2 fun e W'=>e= .returned (.bool false)∧W'=W2.drew):=by
    have h:=O.out;have e:kZ {a with rows:=l}=false:=hq;rw[e]at h;exact h
   clear Q hq O;go_wp2_with (first|rw[v.out]|(go_at_call 173;refine I.out.mono ?_;rintro e w' ⟨rfl,L⟩;subst L));go_ret;rw[t.out];exact u.out _ _ _ _ (Chg.refl NoS W2).drew ⟨.of (j.out.1.kept (Chg.refl NoS W2).drew (fun _ _ h=>h)),rfl⟩
end
end Go.Proofs.YtbbdgokdfhdpiaaGreatDoor
