/- A part. -/
import Derived.Test.YtbbdgokdfhdpiaaGreatDoorA23
namespace Go.Proofs.YtbbdgokdfhdpiaaGreatDoor
set_option linter.all false
set_option maxRecDepth 100000
set_option maxHeartbeats 0
open Go.Proofs.Tryz Go.RowKit
def Own(f:Int→List Value)(sz bt a i j T S SS fn:Nat):Prop:=
 (f=kRw∧sz=7∧bt=56∧a=3∧i=1∧j=2∧T=58∧S=47∧SS=76∧fn=105)∨
 (f=kMg∧sz=10∧bt=80∧a=5∧i=3∧j=4∧T=66∧S=88∧SS=77∧fn=145)∨
 (f=kEv∧sz=19∧bt=152∧a=7∧i=5∧j=6∧T=70∧S=43∧SS=78∧fn=147)
theorem Own.infos{f:Int→List Value}{sz bt a i j T S SS fn:Nat}(h:Own f sz bt a i j T S SS fn):(∃z,(∃i,prog.info? T=some i∧i.zero=some z∧i.size=sz∧i.bytes=bt)∧z.cells.size=sz)∧(∃z,(∃i,prog.info? S=some i∧i.zero=some z∧i.size=1∧i.bytes=24)∧z.cells.size=1)∧
 prog.underlying S=some (.slice T)∧prog.underlying SS=some (.slice S)∧(∀y,(f y).length=sz)∧(∀y,∀u ∈ f y,u.oneCell'=true)∧(a=3∨a=5∨a=7)∧(∀y,(f y)[0]?=some (.int .i64 y))∧ldB prog T sz=true∧0<sz∧sz≤19∧bt≤152:=by
 rcases h with⟨rfl,rfl,rfl,rfl,rfl,rfl,rfl,rfl,rfl,rfl⟩|⟨rfl,rfl,rfl,rfl,rfl,rfl,rfl,rfl,rfl,rfl⟩|⟨rfl,rfl,rfl,rfl,rfl,rfl,rfl,rfl,rfl,rfl⟩
 ·refine⟨⟨_,info_parts yJ,rfl⟩,⟨_,info_parts aFj,rfl⟩,underlying47,underlying76,fun _=>rfl,fun y u hu=>?_,by decide,fun _=>rfl,by kernel_rfl,by decide,by decide,by decide⟩;simp[kRw,rwL,aKd]at hu;rcases hu with rfl|rfl<;>rfl
 ·refine⟨⟨_,info_parts mJ,rfl⟩,⟨_,info_parts aHl,rfl⟩,underlying88,underlying77,fun _=>rfl,fun y u hu=>?_,by decide,fun _=>rfl,by kernel_rfl,by decide,by decide,by decide⟩;simp[kMg,mgL,aKX,zMg,zVl]at hu;rcases hu with rfl|rfl<;>rfl
 ·refine⟨⟨_,info_parts nT,rfl⟩,⟨_,info_parts aI9,rfl⟩,underlying43,underlying78,fun _=>rfl,fun y u hu=>?_,by decide,fun _=>rfl,by kernel_rfl,by decide,by decide,by decide⟩;simp[kEv,evL,aKH,zEv,zMg,zVl]at hu;rcases hu with rfl|rfl<;>rfl
theorem aH6{α:Type}{F:α→List Value}{mk:Int→α}{f:Int→List Value}(hF:∀y,F (mk y)=f y)(y:Int)(k:Nat):cZ F (List.replicate k (mk y))=cZ f (List.replicate k y):=by
 induction k with
 |zero=>rfl
 |succ k ih=>rw[List.replicate_succ,List.replicate_succ];simp only[cZ,List.flatMap_cons]at ih⊢;rw[ih,hF]
theorem aJ7{w:World}{T sz g n k cap:Nat}{xs:List Value}(h:w.ownsRow 0 T sz (.slice (some ⟨g,0,none⟩) n cap) n xs)(hk:k<n):∃cur:Array Value,w.heap[g]?=some (.cells cur T (0,0))∧k*sz+sz≤cur.size:=by
 rcases h.2 with⟨e,f⟩|⟨i,c,cur,e,_,a,d,_,b,_⟩
 ·cases e
 ·cases e;refine⟨cur,a,?_⟩;rw[b,←Nat.succ_mul];exact Nat.mul_le_mul_right _ (by omega)
theorem aKA{W:World}{g i:Nat}{cs cs':Array Value}{x:Value}{t:TypeId}(e:cs.setIfInBounds i x=cs')(hg:W.heap[g]?=some (.cells cs t (0,0))):∃w,W.setCell ⟨g,i,none⟩ x=w∧w.heap[g]?=some (.cells cs' t (0,0))∧Chg (fun k=>k=g) W w:=
 ⟨_,rfl,e▸dD hg i x,cY W g i x⟩
theorem aGD{W:World}{g i:Nat}{cs:Array Value}{x:Value}{t:TypeId}(e:cs[i]?=some x)(hg:W.heap[g]?=some (.cells cs t (0,0))):W.frozen? ⟨g,i,none⟩=false:=cX hg i
theorem aJc{W:World}{g:Nat}{X Y:List Value}{t:TypeId}{p:Nat×Nat}(e:Y=X)(h:W.heap[g]?=some (.cells X.toArray t p)):W.heap[g]?=some (.cells Y.toArray t p):=e▸h
theorem aIp{w:World}{T sz n b m:Nat}{v:Value}{xs:List Value}(h:w.ownsRow b T sz v n xs)(hm:0<m)(hn:n=b+m∨m≤n):∃g c,v= .slice (some ⟨g,0,none⟩) n c:=by
 rcases h.2 with⟨_,e⟩|⟨g,a,d,rfl,_⟩
 ·omega
 ·exact⟨g,a,rfl⟩
theorem aBg{f:Int→List Value}{sz T base q0 n0 k m:Nat}(hf:∀y,(f y).length=sz){W0 W W':World}{v v':Value}{x:Int}{L:List Value}{o ob:Obj}(hL:L=f x)
 (hown:W'.ownsRow base T sz v' (k+m) (cZ f (List.replicate k x)++gH m L)) (hs:aEP (W.alloc o) W' v v') (hb:W.heap[q0]?=some ob) (hq:∀g,v.ownBlock=some g→g<q0) (hc:Chg (fun q=>some q=v.ownBlock) W0 W) (hn:n0≤W.heap.size):
 W'.heap[q0]?=some ob∧(v'.ownBlock=v.ownBlock∨∃q,v'.ownBlock=some q∧n0≤q)∧Chg (fun q=>some q=v.ownBlock) W0 W'∧n0≤W'.heap.size∧MkL f sz W' v' (k+m) x∧∀u j,j≤k+m→MkL f sz W u j x→MkL f sz W' u j x:=by
 obtain⟨l,i⟩:=aHn hs;have b:=(((Chg.refl NoS W).alloc _).nos).trans (Chg.of_grown i) (fun _ _ h=>h);have c:W'.ownsRow base T sz v' (k+m) (cZ f (List.replicate (k+m) x)):=by
  rw[←List.replicate_append_replicate,sH,show cZ f (List.replicate m x)=gH m L by rw[hL,aBk]];exact hown
 refine⟨b.kept hb (fun e=>cB _ (hq _ e.symm)),l.imp id (fun h=>⟨_,h,by simp;omega⟩),hc.trans b (fun _ _ h=>h),cA hn b.size,aAl hf c,fun u j hj hu=>(hu.of_heap (by simp) (fun g hg=>?_)).appended (m:=m) hf hj c hs⟩;obtain⟨p,d,n,a,_⟩:=hu;exact heap_alloc_old _ _ (a g hg)
theorem aAG{α:Type}{F:α→List Value}{mk:Int→α}{f:Int→List Value}{sz bt a i j T S SS fn:Nat}(ho:Own f sz bt a i j T S SS fn)(hF:∀y,F (mk y)=f y)(hFl:∀y,(F y).length=sz){wd:Value→Value→Int→Array Value}
 (hw:∀r m n,(wd r m n)[7]?=some (.int .i64 n)∧(wd r m n)[i]?=some r∧(wd r m n)[j]?=some m∧(∀n',(wd r m n).setIfInBounds 7 (.int .i64 n')=wd r m n')∧(∀x,(wd r m n).setIfInBounds i x=wd x m n)∧∀x,(wd r m n).setIfInBounds j x=wd r x n)
 (W:World) (lab:Nat→Nat) (g0:Nat) (cr cm:Value) (next:Nat) (ls:List (Value×Nat×Int)) (hg:W.heap[g0]?=some (.cells (wd cr cm (next:Int)) 80 (0,0))) (hl0:lab g0=1) (hlt:∀k,lab k≠0→k<W.heap.size)
 (hS:StK S f sz a W lab cr cm ls) (hnx:next≤1000000000000) (hls:ls.length≤1000000000000)
 (v:Value) (n:Nat) (R:List α) (hn:n≤100000000000) (hR:R.length=n) (hv:W.ownsRow 0 T sz v n (cZ F R)) (hvl:∀k,v.ownBlock=some k→lab k=0):
 Calls prog fn #[.pointer (some ⟨g0,0,none⟩),v] W fun e W'=>e= .returned (.tuple #[])∧∃lab' rv' mv' ls',ls'.length=ls.length+4∧(∀q ∈ ls',q ∈ ls∨q.2.1≤n+3)∧W'.heap[g0]?=some (.cells (wd rv' mv' ((next:Int)+1)) 80 (0,0))∧
  StK S f sz a W' lab' rv' mv' ls'∧(∀k,lab k≠0→lab' k=lab k)∧(∀k,lab' k≠0→k<W'.heap.size)∧(∀k,lab' k≠0→lab k≠0∨lab' k=a∨lab' k=a+1∨lab' k=9)∧Chg (fun k=>k=g0∨lab k=a∨lab k=a+1∨lab k=0) W W':=by
 obtain⟨⟨z0,⟨i0,hi,f9,b5,g7⟩,c6⟩,⟨z1,⟨i1,ji,g6,h5,e8⟩,b9⟩,g9,e9,d7,g2,ha,h3,f7,f2,c0,f0⟩:=ho.infos;have l4:=dG hg;have k3:=cO hg 7 _ (hw _ _ _).1;have i8:=cX hg 7;obtain⟨X,d3,d6,h8⟩:=aKA ((hw _ _ _).2.2.2.1 ((next:Int)+1)) hg;have e3:X.heap.size=W.heap.size:=by rw[←d3];simp
 have k4:=cO d6 7 _ (hw _ _ _).1;have j5:=cN d3;have c5:∀k,v.ownBlock=some k→k<X.heap.size:=fun k hk=>e3▸eY hv k hk;have h7:∀k,v.ownBlock=some k→k≠g0:=fun k hk e=>by have:=hvl k hk;rw[e,hl0]at this;omega
 obtain⟨x,hx⟩:∃x:Int,x=(-((next:Int)+1)):=⟨_,rfl⟩;obtain⟨L,Q⟩:=aLz (f x);obtain⟨p,d,rfl⟩:∃p d,v= .slice p n d:=by
  rcases hv.2 with⟨rfl,rfl⟩|⟨g,d,f3,rfl,_⟩
  ·exact⟨none,0,rfl⟩
  ·exact⟨some ⟨g,0,none⟩,d,rfl⟩
 have P:L.length=sz:=by rw[Q];exact d7 x
 have HK:=cN (aLq ha d7 hF hFl);have l6:=cN (aLp f2 c0 f0);have i9:=cN (show L[0]?=some (.int .i64 x)from by rw[Q];exact h3 x);have b2:=cN (show∀u ∈ L,u.oneCell'=true from by rw[Q];exact g2 x);have j6:=cN (show L=f (-((next:Int)+1))from by rw[Q,hx]);have HI:=cN (show ldB prog T L.length=true from by rw[P];exact f7);have j7:=cN (show(prog.info? T).map (·.size)=some L.length from by rw[hi,P,Option.map_some,b5]);have e2:=cN (show i0.size=L.length from by rw[P];exact b5);have k0:=cN (show L.toArray.all (·.oneCell')=true from by rw[List.all_toArray];exact List.all_eq_true.2 b2.out);have d8:=fun j=>cN (show(gH j L).length=j*sz from by rw[sA,P]);have s:=cN P;have b4:=cN Q;obtain⟨I,hI⟩:∃I:World→List Value→Prop,∀w l,I w l↔w.ownsRow 0 T sz (.slice p n d) n l:=⟨_,fun _ _=>Iff.rfl⟩;have U:=cN hS;have K:=cN (aLr hl0 hlt hvl c5 h7);have M:=cN (aLq h8 d6 ((hI _ _).2 hv) e3);have b1:=cN hI;have HW:=cN hw;have o:=cN (aLt hi f9 b5 g7 c6 g9 e9);have HJ:=cN (aLr ji g6 h5 e8 b9);clear hg hl0 hlt hS hv hvl h8 d3 c5 h7 d6 e3 hx Q P hI hw d7 g2 ha h3 f7 f2 c0 f0 hF hFl hi f9 b5 g7 c6 g9 e9 ji g6 h5 e8 b9;rcases ho with⟨rfl,rfl,rfl,rfl,rfl,rfl,rfl,rfl,rfl,rfl⟩|⟨rfl,rfl,rfl,rfl,rfl,rfl,rfl,rfl,rfl,rfl⟩|⟨rfl,rfl,rfl,rfl,rfl,rfl,rfl,rfl,rfl,rfl⟩;all_goals
  first|go_enter func105,ntmps105|go_enter func145,ntmps145|go_enter func147,ntmps147
  go_wp2_with (first|rw[j5.out]|(refine ws (aA X _) _ rfl rfl rfl rfl (by kernel_rfl) rfl ?_;intro W2 g5 c8 b0;refine cQ ?_));clear k3 i8 k4;have e5:=((Chg.refl NoS X).alloc _).fresh g5 (aE _);have f5:X.heap.size+1≤W2.heap.size:=by rw[c8];simp
  have a0:=M.out.1.trans e5 (fun _ _ h=>h.elim);have b0:=aJc j6.out b0;have H2:=cN (aLq a0 (e5.kept M.out.2.1 (fun h=>h)) b0 f5);have j9:=cN ((b1.out _ _).2 (a0.row ((b1.out _ _).1 M.out.2.2.1) (fun q hq e=>K.out.2.2.2.2 q hq e)));clear g5 c8 b0 e5 f5 a0;refine cN ?_;go_wp2_with fail;go_loopw [5] (fun i wr=>∃(k:Nat),k≤n∧i= .int .i64 k∧I wr (cZ F (List.replicate k (mk x)++R.drop k))∧Chg (fun q=>some q=(Value.slice p n d).ownBlock) W2 wr) (fun i _=>n-(intOf i).toNat)
  case atStart=>exact⟨0,by omega,rfl,by simpa using j9.out,Chg.refl _ _⟩
  case round=>
   obtain⟨k,hk,rfl,c,b7⟩:=hrel;have c:=(b1.out _ _).1 c;have HB:=cN (b7.kept H2.out.2.2.1 (fun e=>cB _ (K.out.2.2.2.1 _ e.symm)));have g1:=cN b7;have j1:X.heap.size+1≤wr.heap.size:=by have:=b7.size;have:=H2.out.2.2.2;omega
   clear b7;by_cases i7:k<n
   ·rw[List.drop_eq_getElem_cons (by omega)]at c;generalize R[k]'(by omega)=r at c;obtain⟨g,rfl⟩:∃g,p=some ⟨g,0,none⟩:=by
     rcases c.2 with⟨e,h0⟩|⟨g,l1,f3,e,_⟩
     ·omega
     ·cases e;exact⟨g,rfl⟩
    obtain⟨f3,h6,l2⟩:=aJ7 c i7;have k6:(k:Int)<(n:Int):=by omega
    have HO:=cN c;have f6:=cN h6;clear c h6;go_wp2_with (first|(refine wl (cR (cs:=L) HB.out) rfl rfl rfl HI.out ?_)|(refine cV rfl _ _ _ rfl _ _ _ _ L.toArray _ rfl rfl f6.out j7.out k0.out (by have:=s.out;simp;omega) rfl ?_;intro W9 g4 k5 f1;refine cQ ?_));have a3:=aJD (k:=k) HK.out.2.2.2 (A:=List.replicate k (mk x)) (y:=mk x) (by simp) HO.out f6.out (by rw[HK.out.2.2.1,←b4.out];simpa[s.out]using f1);have H9:=cN (aLo ((b1.out _ _).2 a3) (g1.out.trans g4 (fun q _ e=>by subst e;rfl)));clear g4 k5 f1 a3;refine cN ?_;go_wp2_with fail;go_roundw
    case rel=>
     refine⟨k+1,by omega,by go_num,?_,H9.out.2⟩;rw[List.replicate_succ',aS];exact H9.out.1
    case measure=>simp[intOf];omega
   ·have h9:k=n:=by omega
    subst h9;rw[List.drop_of_length_le (by omega),aC,aH6 HK.out.2.2.1]at c;have k6:¬(k:Int)<(k:Int):=by omega
    have k1:=cN c;clear c;go_wp2_with (first|(refine wl (cR (cs:=L) HB.out) rfl rfl rfl HI.out ?_)|(refine qT rfl _ 1 _ rfl _ i0 _ L o.out.2.2.2.2.2.1 o.out.1 o.out.2.1 e2.out (by have:=s.out;omega) (by decide) (by have:=s.out;omega) rfl ?_)|(at_builtin;refine lN _ rfl _ _ _ rfl 0 _ i0 _ _ _ o.out.2.2.2.2.2.1 o.out.1 o.out.2.1 o.out.2.2.1 o.out.2.2.2.1 o.out.2.2.2.2.1 (by decide) (.slice p k d) k _ rfl (k1.out.alloc _) ⟨wr.heap.size,0,none⟩ 1 1 (gH 1 L) rfl (d8 1).out (cR (cs:=gH 1 L) (aA _ _)) (wP b2.out 1) (by decide) (by unfold maxLen;omega) (by omega) (aI _) ?_;intro va wa a6 G c4;refine cQ ?_));have Ma:=cN (aBg HK.out.2.1 b4.out a6 c4 HB.out K.out.2.2.2.1 g1.out j1);have i3:=Ma.out.2.2.2.1;have i5:=cN G;clear a6 G c4;refine cN ?_;go_wp2_with (first|(refine wl (cR (cs:=L) Ma.out.1) rfl rfl rfl HI.out ?_)|(refine qT rfl _ 2 _ rfl _ i0 _ L o.out.2.2.2.2.2.1 o.out.1 o.out.2.1 e2.out (by have:=s.out;omega) (by decide) (by have:=s.out;omega) rfl ?_)|(at_builtin;refine lN _ rfl _ _ _ rfl 0 _ i0 _ _ _ o.out.2.2.2.2.2.1 o.out.1 o.out.2.1 o.out.2.2.1 o.out.2.2.2.1 o.out.2.2.2.2.1 (by decide) (.slice p k d) k _ rfl (i5.out.alloc _) ⟨wa.heap.size,0,none⟩ 2 2 (gH 2 L) rfl (d8 2).out (cR (cs:=gH 2 L) (aA _ _)) (wP b2.out 2) (by decide) (by unfold maxLen;omega) (by omega) (aI _) ?_;intro vb wb a4 J c7;refine cQ ?_));have Mb:=cN (aBg HK.out.2.1 b4.out a4 c7 Ma.out.1 K.out.2.2.2.1 Ma.out.2.2.1 i3);have i6:=Mb.out.2.2.2.1;have i4:=cN J;clear a4 J c7;refine cN ?_
    go_wp2_with (first|(refine wl (cR (cs:=L) Mb.out.1) rfl rfl rfl HI.out ?_)|(refine qT rfl _ 3 _ rfl _ i0 _ L o.out.2.2.2.2.2.1 o.out.1 o.out.2.1 e2.out (by have:=s.out;omega) (by decide) (by have:=s.out;omega) rfl ?_)|(at_builtin;refine lN _ rfl _ _ _ rfl 0 _ i0 _ _ _ o.out.2.2.2.2.2.1 o.out.1 o.out.2.1 o.out.2.2.1 o.out.2.2.2.1 o.out.2.2.2.2.1 (by decide) (.slice p k d) k _ rfl (i4.out.alloc _) ⟨wb.heap.size,0,none⟩ 3 3 (gH 3 L) rfl (d8 3).out (cR (cs:=gH 3 L) (aA _ _)) (wP b2.out 3) (by decide) (by unfold maxLen;omega) (by omega) (aI _) ?_;intro vc wc a8 H c2;refine cQ ?_));have V:=cN (aBg HK.out.2.1 b4.out a8 c2 Mb.out.1 K.out.2.2.2.1 Mb.out.2.2.1 i6);have l3:=V.out.2.2.2.1;have b6:=V.out.2.2.2.2.2 vb _ (by omega) Mb.out.2.2.2.2.1;have b3:=V.out.2.2.2.2.2 va _ (by omega) (Mb.out.2.2.2.2.2 va _ (by omega) Ma.out.2.2.2.2.1);have h2:=aAl HK.out.2.1 H;obtain⟨pc,cc,rfl,_,_⟩:=V.out.2.2.2.2.1;obtain⟨pb,cb,rfl,_,_⟩:=b6;obtain⟨pa,ca,rfl,_,_⟩:=b3;have b6:=V.out.2.2.2.2.2 _ _ (by omega) Mb.out.2.2.2.2.1;have b3:=V.out.2.2.2.2.2 _ _ (by omega) (Mb.out.2.2.2.2.2 _ _ (by omega) Ma.out.2.2.2.2.1);have hB:∀{u:Option Nat},(u=(Value.slice p k d).ownBlock∨∃q,u=some q∧X.heap.size+1≤q)→(u=(Value.slice p k d).ownBlock∨∃q,u=some q∧W.heap.size≤q):=fun h=>h.imp id fun ⟨q,a,b⟩=>⟨q,a,by have:=M.out.2.2.2;omega⟩;have d4:=cN (aLp (hB Ma.out.2.1) (hB Mb.out.2.1) (hB V.out.2.1));have HM:=cN (aLp h2 b3 b6);have d5:=V.out.2.2.1.kept H2.out.2.1 (fun e=>K.out.2.2.2.2 _ e.symm rfl)
    have D:=(H2.out.1.mono (T:=fun q=>q=g0∨some q=(Value.slice p k d).ownBlock) (fun _ _ h=>Or.inl h)).trans V.out.2.2.1 (fun _ _ h=>Or.inr h);have d2:∀q,lab q≠0→lab q≠1→¬(q=g0∨some q=(Value.slice p k d).ownBlock):=fun q h0 h1 e=>e.elim (fun e=>h1 (e▸K.out.1)) (fun e=>h0 (K.out.2.2.1 q e.symm));have a5:=D.row U.out.rows (fun q hq e=>d2 q (by have:=U.out.rl q hq;omega) (by have:=U.out.rl q hq;omega) e);have a7:=D.row U.out.marks (fun q hq e=>d2 q (by have:=U.out.ml q hq;omega) (by have:=U.out.ml q hq;omega) e);have cI:=cO d5 _ _ (HW.out _ _ _).2.1;have j4:=cN d5;have k9:=cN D;have j3:=cN a5;have k7:=cN a7;clear h2 b3 b6 d5 D a5 a7 d2 a8 H c2;refine cN ?_;go_wp2_with (at_builtin;refine wpList_append_own_at _ rfl _ _ _ rfl 0 _ i1 _ 1 24 o.out.2.2.2.2.2.2 HJ.out.1 HJ.out.2.1 HJ.out.2.2.1 HJ.out.2.2.2.1 HJ.out.2.2.2.2 (by decide) cr ls.length _ rfl (j3.out.alloc _) ⟨wc.heap.size,0,none⟩ 4 4 [.slice p k d,.slice pa (k+1) ca,.slice pb (k+2) cb,.slice pc (k+3) cc] rfl rfl (cR (cs:=[.slice p k d,.slice pa (k+1) ca,.slice pb (k+2) cb,.slice pc (k+3) cc]) (aA _ _)) (by intro u hu;simp at hu;rcases hu with rfl|rfl|rfl|rfl<;>rfl) (by unfold maxLen;omega) (by omega) (aI _) ?_;intro vr l5 t e7 _ d0;refine cQ ?_);obtain⟨gr,a9,rfl⟩:=aIp (m:=1) t (by decide) (by omega);have N:=(((Chg.refl NoS wc).alloc _).nos).trans (Chg.of_grown e7) (fun _ _ h=>h);have h4:∀q,cr.ownBlock=some q→q≠g0:=fun q hq e=>by have:=U.out.rl q hq;rw[e,K.out.1]at this;omega
    have d9:∀q,cm.ownBlock=some q→q≠g0:=fun q hq e=>by have:=U.out.ml q hq;rw[e,K.out.1]at this;omega
    have E:=N.kept j4.out (fun e=>h4 _ e.symm rfl);have b8:=N.kept V.out.1 (fun e=>by have:=eY U.out.rows _ e.symm;have:=M.out.2.2.2;omega);have a1:=N.row k7.out (fun q hq e=>by have:=U.out.rl q e.symm;have:=U.out.ml q hq;omega);have d1:=cO E _ _ (HW.out _ _ _).2.1;have e1:=aGD (HW.out cr cm ((next:Int)+1)).2.1 E;obtain⟨we,g3,e4,Z⟩:=aKA ((HW.out _ _ _).2.2.2.2.1 (.slice (some ⟨gr,0,none⟩) (ls.length+4) a9)) E;have c9:=Z.kept b8 (by have:=M.out.2.2.2;omega);have a2:=Z.row a1 (fun q hq e=>d9 q hq e);have l0:=cN g3;have cJ:=cO e4 _ _ (HW.out _ _ _).2.2.1;have Y:=cO c9 0 (.int .i64 x) (by simpa using i9.out);obtain⟨i2,ki,k2,j2,k8⟩:=info_parts aHD;have e6:=cN a2;have HE:=cN (aLs N t (d0.imp id (fun h=>⟨_,h,by simp⟩):(Value.slice (some ⟨gr,0,none⟩) (ls.length+4) a9).ownBlock=cr.ownBlock∨∃q,(Value.slice (some ⟨gr,0,none⟩) (ls.length+4) a9).ownBlock=some q∧wc.heap.size≤q) Z e4 d9);have l7:X.heap.size+1≤we.heap.size:=by have:=N.size;have:=Z.size;omega
    clear N t d0 h4 d9 E b8 a1 Z e4 c9 a2 g3 e7 cI;refine cN ?_;go_wp2_with (first|rw[l0.out]);clear d1 e1;first|(refine rlx [0,0,0,0,1,0,1,0,1,0,1,0,1,2] (fun y=>y.cell? ⟨g0,2,none⟩=some cm∧y.cell? ⟨X.heap.size,0,none⟩=some (.int .i64 x)) (by kernel_rfl) (fun _ _ _ _=>rfl) ⟨cJ,Y⟩ ?_)|(refine rlx [0,0,0,0,1,0,1,0,1,0,1,0,1,2] (fun y=>y.cell? ⟨g0,4,none⟩=some cm∧y.cell? ⟨X.heap.size,0,none⟩=some (.int .i64 x)) (by kernel_rfl) (fun _ _ _ _=>rfl) ⟨cJ,Y⟩ ?_)|(refine rlx [0,0,0,0,1,0,1,0,1,0,1,0,1,2] (fun y=>y.cell? ⟨g0,6,none⟩=some cm∧y.cell? ⟨X.heap.size,0,none⟩=some (.int .i64 x)) (by kernel_rfl) (fun _ _ _ _=>rfl) ⟨cJ,Y⟩ ?_)
    simp only[dC,dB];iterate 13 (apply sB rfl rfl;·(intro x h;(try have h:=h rfl);(try dsimp only at h);go_simp;with_reducible rfl))
    try simp only[pA]
    refine dI rfl (fun C hC=>?_);go_simp;refine hC _ _ ⟨(bJ _ _ _ (by have:=HE.out.2.2.2.2.1;have:=dG this;simp;omega)).trans cJ,(bJ _ _ _ (by simp;omega)).trans Y⟩ ?_;clear hC C;refine cP ?_;refine wpList_append_own_at _ rfl _ _ 25 rfl 0 3 i2 _ 1 8 underlying25 ki k2 j2 k8 rfl (by decide) cm ls.length _ rfl (e6.out.alloc _).drew ⟨we.heap.size,0,none⟩ 4 4 [.int .i64 x,.int .i64 x,.int .i64 x,.int .i64 x] rfl rfl (cR (cs:=[.int .i64 x,.int .i64 x,.int .i64 x,.int .i64 x]) (show((we.alloc (.cells #[.int .i64 x,.int .i64 x,.int .i64 x,.int .i64 x] 3)).drew).heap[we.heap.size]?=_ from aA we _)) (by intro u hu;simp at hu;rw[hu];rfl) (by unfold maxLen;omega) (by omega) (aI _) ?_;intro vm wf z O _ c3;obtain⟨gm,j0,rfl⟩:=aIp (m:=1) z (by decide) (by omega);have e0:=(((Chg.refl NoS we).alloc (.cells #[.int .i64 x,.int .i64 x,.int .i64 x,.int .i64 x] 3)).nos).trans (Chg.of_grown ⟨O.os,O.tape,O.output,O.size,O.block⟩) (fun _ _ h=>h);have B:=e0.kept HE.out.2.2.2.2.1 (fun e=>HE.out.2.2.2.2.2 _ e.symm rfl);have q2:=cO B _ _ (HW.out _ _ _).2.2.1;have r2:=aGD (HW.out (.slice (some ⟨gr,0,none⟩) (ls.length+4) a9) cm ((next:Int)+1)).2.2.1 B;obtain⟨wg,f8,g8,f4⟩:=aKA ((HW.out _ _ _).2.2.2.2.2 (.slice (some ⟨gm,0,none⟩) (ls.length+4) j0)) B;have j8:=cN f8
    have c1:=aIY (by omega) U.out K.out.1 K.out.2.1 K.out.2.2.1 k9.out HM.out.1 HM.out.2.1 HM.out.2.2 V.out.2.2.2.2.1 d4.out.1 d4.out.2.1 d4.out.2.2 HE.out.1 (by simpa using HE.out.2.1) HE.out.2.2.1 HE.out.2.2.2.1 e0 (by simpa using z) (c3.imp id (fun h=>⟨_,h,by simp⟩)) f4;have HF:=cN (aLo c1 g8);clear c1 g8 e0 c3 O B z f4 f8 cJ Y;simp only[pA];go_wp2_with (first|rw[j8.out]);go_end0;exact⟨rfl,_,_,_,_,by simp,fun q hq=>(aO.1 hq).imp id (fun h=>by
     simp only[List.mem_cons,List.not_mem_nil,or_false]at h;rcases h with rfl|rfl|rfl|rfl<;>simp only<;>omega),HF.out.2,HF.out.1.1,HF.out.1.2.1,HF.out.1.2.2.1,HF.out.1.2.2.2.1,HF.out.1.2.2.2.2⟩
theorem jR{w:World}{base:Nat}{e:TypeId}{size:Nat}{v:Value}{n:Nat}{xs:List Value}(h:w.ownsRow base e size v n xs):∃p cap,v= .slice p n cap∧(0<n→∃g,p=some ⟨g,0,none⟩):=by
 rcases h.2 with⟨rfl,rfl⟩|⟨g,cap,a,rfl,_⟩
 ·exact⟨none,0,rfl,fun h=>absurd h (by omega)⟩
 ·exact⟨some ⟨g,0,none⟩,cap,rfl,fun _=>⟨g,rfl⟩⟩
theorem aGc(W:World)(lab:Nat→Nat)(g0:Nat)(c0 c1 c2 c3 c4 c5 c6:Value)(next:Int)(lsR lsM lsE:List (Value×Nat×Int))(hg:W.heap[g0]?=some (.cells (wdL c0 c1 c2 c3 c4 c5 c6 next).toArray 80 (0,0)))
 (hR:StK 47 kRw 7 3 W lab c1 c2 lsR) (hM:StK 88 kMg 10 5 W lab c3 c4 lsM) (hE:StK 43 kEv 19 7 W lab c5 c6 lsE)
 (hlR:lsR.length≤1000000000000) (hlM:lsM.length≤1000000000000) (hlE:lsE.length≤1000000000000) (hkR:∀q ∈ lsR,q.2.1≤1000000000000) (hkM:∀q ∈ lsM,q.2.1≤1000000000000) (hkE:∀q ∈ lsE,q.2.1≤1000000000000):
 Calls prog 32 #[.pointer (some ⟨g0,0,none⟩)] W fun e w'=>e= .returned (.bool true)∧Below W.heap.size W w':=by
 have x1:W.cell? ⟨g0,1,none⟩=some c1:=cO hg 1 _ rfl;have x2:W.cell? ⟨g0,2,none⟩=some c2:=cO hg 2 _ rfl;obtain⟨b0,a1,rfl,C⟩:=jR hR.rows;obtain⟨a7,a3,rfl,A⟩:=jR hR.marks;have L:=cN hR.rows;have D:=cN hR.marks;have V:=cN hR.each;have O:=cN hkR;clear hR hkR;generalize J:lsR.length=NR at L D hlR C A x1 x2⊢;have S:=cN J;clear J;have x3:W.cell? ⟨g0,3,none⟩=some c3:=cO hg 3 _ rfl;have x4:W.cell? ⟨g0,4,none⟩=some c4:=cO hg 4 _ rfl;obtain⟨a8,a9,rfl,z⟩:=jR hM.rows;obtain⟨a4,a6,rfl,y⟩:=jR hM.marks;have H:=cN hM.rows;have I:=cN hM.marks;have T:=cN hM.each;have U:=cN hkM;clear hM hkM;generalize M:lsM.length=NM at H I hlM z y x3 x4⊢;have P:=cN M;clear M;have x5:W.cell? ⟨g0,5,none⟩=some c5:=cO hg 5 _ rfl;have x6:W.cell? ⟨g0,6,none⟩=some c6:=cO hg 6 _ rfl;obtain⟨a5,a2,rfl,B⟩:=jR hE.rows;obtain⟨a0,b1,rfl,w⟩:=jR hE.marks;have K:=cN hE.rows;have E:=cN hE.marks;have N:=cN hE.each;have R:=cN hkE;clear hE hkE;generalize F:lsE.length=NE at K E hlE B w x5 x6⊢;have Q:=cN F;clear F;clear hg;go_enter func32,ntmps32;go_wp2_with fail;go_loopw [3] (fun i wr=>∃(k n:Nat),k≤NR∧i= .int .i64 k∧wr=W.drewN n) (fun i _=>NR-(intOf i).toNat)
 case atStart=>exact⟨0,0,by omega,rfl,rfl⟩
 case round=>
  obtain⟨k,n,Y,rfl,rfl⟩:=hrel;by_cases f:k<NR
  ·obtain⟨gr,rfl⟩:=C (by omega);obtain⟨X,rfl⟩:=A (by omega);have r:k<lsR.length:=by rw[S.out];exact f
   have er:=L.out.cellAt k (by omega);have c:=D.out.cellAt k (by omega);have t:=V.out lsR[k] (bF _);have o:=O.out lsR[k] (bF _);rw[List.getElem?_map,aP r]at er c;simp only[Option.map_some]at er c;generalize lsR[k]=q at er c t o;obtain⟨u,b,x⟩:=q;obtain⟨p,G,s,_,a⟩:=t;simp only at er c o a s;subst s;have Z:(k:Int)<(NR:Int):=by omega
   clear r;go_wp2_with fail;go_loopw [4] (fun j wr=>∃(m n:Nat),m≤b∧j= .int .i64 m∧wr=W.drewN n) (fun j _=>b-(intOf j).toNat)
   case atStart=>exact⟨0,n,by omega,rfl,rfl⟩
   case round=>
    obtain⟨m,n,hm,rfl,rfl⟩:=hrel;by_cases l:m<b
    ·obtain⟨g,rfl,hg⟩:=a (by omega);have d:=cN (show∀j u,(kRw x)[j]?=some u→(W.drewN n).drew.cell? ((⟨g,m*7,none⟩:Addr).add j)=some u from fun j u hj=>by
      have e:(⟨g,m*7,none⟩:Addr).add j=⟨g,m*7+j,none⟩:=by unfold Addr.add;split<;>simp_all
      rw[e];exact hg m l j u hj)
     have im:(m:Int)<(b:Int):=by omega
     clear hg a;go_wp2_with fail;refine eD [0,0,0,1,0,0,1,0,0,1,0,0,0,1,0,0,1,0,0] (by kernel_rfl) (fun _ _ _ _=>rfl) ?_;simp only[dC,dB];iterate 9 (apply sB rfl rfl;·(intro x h;(try cases h rfl);go_simp;with_reducible rfl))
     try simp only[pA]
     refine dA (v:=.agg #[.int .i64 x,.int .i64 0,.int .i64 0,.int .i64 0,.int .i64 0,.int .i64 0,.int .i64 0]) rfl (fun zz hx=>cU 58 _ rfl ⟨g,m*7,none⟩ rfl ([.int .i64 x,.int .i64 0,.int .i64 0,.int .i64 0,.int .i64 0,.int .i64 0,.int .i64 0]) _ (by subst hx;exact d.out) underlying58 rfl (by kernel_rfl)) ?_;(try simp only[pA]);iterate 9 (apply sB rfl rfl;·(intro x h;(try cases h rfl);go_simp;with_reducible rfl))
     refine cP ?_;try simp only[pA]
     go_wp2_with fail;go_roundw
     case rel=>exact⟨m+1,n+1,by omega,by go_num,rfl⟩
     case measure=>simp[intOf];omega
    ·go_wp2_with fail;go_roundw
     case rel=>exact⟨k+1,n,by omega,by go_num,rfl⟩
     case measure=>simp[intOf];omega
  ·go_wp2_with fail;go_loopw [5] (fun i wr=>∃(k n:Nat),k≤NM∧i= .int .i64 k∧wr=W.drewN n) (fun i _=>NM-(intOf i).toNat)
   case atStart=>exact⟨0,n,by omega,rfl,rfl⟩
   case round=>
    obtain⟨k,n,Y,rfl,rfl⟩:=hrel;by_cases f:k<NM
    ·obtain⟨gr,rfl⟩:=z (by omega);obtain⟨X,rfl⟩:=y (by omega);have r:k<lsM.length:=by rw[P.out];exact f
     have er:=H.out.cellAt k (by omega);have c:=I.out.cellAt k (by omega);have t:=T.out lsM[k] (bF _);have o:=U.out lsM[k] (bF _);rw[List.getElem?_map,aP r]at er c;simp only[Option.map_some]at er c;generalize lsM[k]=q at er c t o;obtain⟨u,b,x⟩:=q;obtain⟨p,G,s,_,a⟩:=t;simp only at er c o a s;subst s;have Z:(k:Int)<(NM:Int):=by omega
     clear r;go_wp2_with fail;go_loopw [6] (fun j wr=>∃(m n:Nat),m≤b∧j= .int .i64 m∧wr=W.drewN n) (fun j _=>b-(intOf j).toNat)
     case atStart=>exact⟨0,n,by omega,rfl,rfl⟩
     case round=>
      obtain⟨m,n,hm,rfl,rfl⟩:=hrel;by_cases l:m<b
      ·obtain⟨g,rfl,hg⟩:=a (by omega);have d:=cN (show∀j u,(kMg x)[j]?=some u→(W.drewN n).drew.cell? ((⟨g,m*10,none⟩:Addr).add j)=some u from fun j u hj=>by
        have e:(⟨g,m*10,none⟩:Addr).add j=⟨g,m*10+j,none⟩:=by unfold Addr.add;split<;>simp_all
        rw[e];exact hg m l j u hj)
       have im:(m:Int)<(b:Int):=by omega
       clear hg a;go_wp2_with fail;refine eD [0,0,0,1,0,0,1,0,0,1,0,0,0,1,0,0,1,0,0] (by kernel_rfl) (fun _ _ _ _=>rfl) ?_;simp only[dC,dB];iterate 9 (apply sB rfl rfl;·(intro x h;(try cases h rfl);go_simp;with_reducible rfl))
       try simp only[pA]
       refine dA (v:=.agg #[.int .i64 x,.int .i64 0,.int .i64 0,.int .i64 0,.int .i64 0,.int .i64 0,.int .i64 0,.int .i64 0,.int .i64 0,.int .i64 0]) rfl (fun zz hx=>cU 66 _ rfl ⟨g,m*10,none⟩ rfl ([.int .i64 x,.int .i64 0,.int .i64 0,.int .i64 0,.int .i64 0,.int .i64 0,.int .i64 0,.int .i64 0,.int .i64 0,.int .i64 0]) _ (by subst hx;exact d.out) underlying66 rfl (by kernel_rfl)) ?_;(try simp only[pA]);iterate 9 (apply sB rfl rfl;·(intro x h;(try cases h rfl);go_simp;with_reducible rfl))
       refine cP ?_;try simp only[pA]
       go_wp2_with fail;go_roundw
       case rel=>exact⟨m+1,n+1,by omega,by go_num,rfl⟩
       case measure=>simp[intOf];omega
      ·go_wp2_with fail;go_roundw
       case rel=>exact⟨k+1,n,by omega,by go_num,rfl⟩
       case measure=>simp[intOf];omega
    ·go_wp2_with fail;go_loopw [7] (fun i wr=>∃(k n:Nat),k≤NE∧i= .int .i64 k∧wr=W.drewN n) (fun i _=>NE-(intOf i).toNat)
     case atStart=>exact⟨0,n,by omega,rfl,rfl⟩
     case round=>
      obtain⟨k,n,Y,rfl,rfl⟩:=hrel;by_cases f:k<NE
      ·obtain⟨gr,rfl⟩:=B (by omega);obtain⟨X,rfl⟩:=w (by omega);have r:k<lsE.length:=by rw[Q.out];exact f
       have er:=K.out.cellAt k (by omega);have c:=E.out.cellAt k (by omega);have t:=N.out lsE[k] (bF _);have o:=R.out lsE[k] (bF _);rw[List.getElem?_map,aP r]at er c;simp only[Option.map_some]at er c;generalize lsE[k]=q at er c t o;obtain⟨u,b,x⟩:=q;obtain⟨p,G,s,_,a⟩:=t;simp only at er c o a s;subst s;have Z:(k:Int)<(NE:Int):=by omega
       clear r;go_wp2_with fail;go_loopw [8] (fun j wr=>∃(m n:Nat),m≤b∧j= .int .i64 m∧wr=W.drewN n) (fun j _=>b-(intOf j).toNat)
       case atStart=>exact⟨0,n,by omega,rfl,rfl⟩
       case round=>
        obtain⟨m,n,hm,rfl,rfl⟩:=hrel;by_cases l:m<b
        ·obtain⟨g,rfl,hg⟩:=a (by omega);have d:=cN (show∀j u,(kEv x)[j]?=some u→(W.drewN n).drew.cell? ((⟨g,m*19,none⟩:Addr).add j)=some u from fun j u hj=>by
          have e:(⟨g,m*19,none⟩:Addr).add j=⟨g,m*19+j,none⟩:=by unfold Addr.add;split<;>simp_all
          rw[e];exact hg m l j u hj)
         have im:(m:Int)<(b:Int):=by omega
         clear hg a;go_wp2_with fail;refine eD [0,0,0,1,0,0,1,0,0,1,0,0,0,1,0,0,1,0,0] (by kernel_rfl) (fun _ _ _ _=>rfl) ?_;simp only[dC,dB];iterate 9 (apply sB rfl rfl;·(intro x h;(try cases h rfl);go_simp;with_reducible rfl))
         try simp only[pA]
         refine dA (v:=.agg #[.int .i64 x,.int .i64 0,.int .i64 0,.int .i64 0,.int .i64 0,.int .i64 0,.int .i64 0,.int .i64 0,.int .i64 0,.int .i64 0,.int .i64 0,.int .i64 0,.int .i64 0,.int .i64 0,.int .i64 0,.int .i64 0,.int .i64 0,.int .i64 0,.int .i64 0]) rfl (fun zz hx=>cU 70 _ rfl ⟨g,m*19,none⟩ rfl ([.int .i64 x,.int .i64 0,.int .i64 0,.int .i64 0,.int .i64 0,.int .i64 0,.int .i64 0,.int .i64 0,.int .i64 0,.int .i64 0,.int .i64 0,.int .i64 0,.int .i64 0,.int .i64 0,.int .i64 0,.int .i64 0,.int .i64 0,.int .i64 0,.int .i64 0]) _ (by subst hx;exact d.out) underlying70 rfl (by kernel_rfl)) ?_;(try simp only[pA]);iterate 9 (apply sB rfl rfl;·(intro x h;(try cases h rfl);go_simp;with_reducible rfl))
         refine cP ?_;try simp only[pA]
         go_wp2_with fail;go_roundw
         case rel=>exact⟨m+1,n+1,by omega,by go_num,rfl⟩
         case measure=>simp[intOf];omega
        ·go_wp2_with fail;go_roundw
         case rel=>exact⟨k+1,n,by omega,by go_num,rfl⟩
         case measure=>simp[intOf];omega
      ·go_wp2_with fail;go_ret;exact⟨rfl,below_drewN (aJ _ _) n⟩
end Go.Proofs.YtbbdgokdfhdpiaaGreatDoor
