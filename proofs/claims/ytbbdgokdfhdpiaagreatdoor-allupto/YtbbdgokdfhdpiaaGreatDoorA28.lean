/- A part of the proof: LwOwn, LwLooks. -/
import Derived.Test.YtbbdgokdfhdpiaaGreatDoorA25
namespace Go.Proofs.YtbbdgokdfhdpiaaGreatDoor
set_option linter.all false
set_option maxRecDepth 100000
set_option maxHeartbeats 40000000
open Go.Proofs.Tryz Go.RowKit
def Own(f:Int→List Value)(sz bt a i j T S SS fn:Nat):Prop:=
 (f=kRw∧sz=7∧bt=56∧a=3∧i=1∧j=2∧T=58∧S=47∧SS=76∧fn=105)∨
 (f=kMg∧sz=10∧bt=80∧a=5∧i=3∧j=4∧T=66∧S=88∧SS=77∧fn=145)∨
 (f=kEv∧sz=19∧bt=152∧a=7∧i=5∧j=6∧T=70∧S=43∧SS=78∧fn=147)
theorem Own.infos{f:Int→List Value}{sz bt a i j T S SS fn:Nat}(h:Own f sz bt a i j T S SS fn):(∃z,(∃i,prog.info? T=some i∧i.zero=some z∧i.size=sz∧i.bytes=bt)∧z.cells.size=sz)∧(∃z,(∃i,prog.info? S=some i∧i.zero=some z∧i.size=1∧i.bytes=24)∧z.cells.size=1)∧
 prog.underlying S=some (.slice T)∧prog.underlying SS=some (.slice S)∧(∀y,(f y).length=sz)∧(∀y,∀u ∈ f y,u.oneCell'=true)∧(a=3∨a=5∨a=7)∧(∀y,(f y)[0]?=some (.int .i64 y))∧ldB prog T sz=true∧0<sz∧sz≤19∧bt≤152:=by
 rcases h with⟨rfl,rfl,rfl,rfl,rfl,rfl,rfl,rfl,rfl,rfl⟩|⟨rfl,rfl,rfl,rfl,rfl,rfl,rfl,rfl,rfl,rfl⟩|⟨rfl,rfl,rfl,rfl,rfl,rfl,rfl,rfl,rfl,rfl⟩
 ·refine⟨⟨_,info_parts yN,rfl⟩,⟨_,info_parts aFR,rfl⟩,underlying47,underlying76,fun _=>rfl,fun y u hu=>?_,by decide,fun _=>rfl,by kernel_rfl,by decide,by decide,by decide⟩;simp[kRw,rwL,aKm]at hu;rcases hu with rfl|rfl<;>rfl
 ·refine⟨⟨_,info_parts nA,rfl⟩,⟨_,info_parts aHS,rfl⟩,underlying88,underlying77,fun _=>rfl,fun y u hu=>?_,by decide,fun _=>rfl,by kernel_rfl,by decide,by decide,by decide⟩;simp[kMg,mgL,aKG,zMg,zVl]at hu;rcases hu with rfl|rfl<;>rfl
 ·refine⟨⟨_,info_parts nS,rfl⟩,⟨_,info_parts aI9,rfl⟩,underlying43,underlying78,fun _=>rfl,fun y u hu=>?_,by decide,fun _=>rfl,by kernel_rfl,by decide,by decide,by decide⟩;simp[kEv,evL,aKC,zEv,zMg,zVl]at hu;rcases hu with rfl|rfl<;>rfl
theorem aG3{α:Type}{F:α→List Value}{mk:Int→α}{f:Int→List Value}(hF:∀y,F (mk y)=f y)(y:Int)(k:Nat):cZ F (List.replicate k (mk y))=cZ f (List.replicate k y):=by
 induction k with
 |zero=>rfl
 |succ k ih=>rw[List.replicate_succ,List.replicate_succ];simp only[cZ,List.flatMap_cons]at ih⊢;rw[ih,hF]
theorem aJJ{w:World}{T sz g n k cap:Nat}{xs:List Value}(h:w.ownsRow 0 T sz (.slice (some ⟨g,0,none⟩) n cap) n xs)(hk:k<n):∃cur:Array Value,w.heap[g]?=some (.cells cur T (0,0))∧k*sz+sz≤cur.size:=by
 rcases h.2 with⟨e,i⟩|⟨f,c,cur,e,_,b,d,_,a,_⟩
 ·cases e
 ·cases e;refine⟨cur,b,?_⟩;rw[a,←Nat.succ_mul];exact Nat.mul_le_mul_right _ (by omega)
theorem aKx{W:World}{g i:Nat}{cs cs':Array Value}{x:Value}{t:TypeId}(e:cs.setIfInBounds i x=cs')(hg:W.heap[g]?=some (.cells cs t (0,0))):∃w,W.setCell ⟨g,i,none⟩ x=w∧w.heap[g]?=some (.cells cs' t (0,0))∧Chg (fun k=>k=g) W w:=
 ⟨_,rfl,e▸dD hg i x,cY W g i x⟩
theorem aGP{W:World}{g i:Nat}{cs:Array Value}{x:Value}{t:TypeId}(e:cs[i]?=some x)(hg:W.heap[g]?=some (.cells cs t (0,0))):W.frozen? ⟨g,i,none⟩=false:=cX hg i
theorem aIL{W:World}{g:Nat}{X Y:List Value}{t:TypeId}{p:Nat×Nat}(e:Y=X)(h:W.heap[g]?=some (.cells X.toArray t p)):W.heap[g]?=some (.cells Y.toArray t p):=e▸h
theorem aIv{w:World}{T sz n b m:Nat}{v:Value}{xs:List Value}(h:w.ownsRow b T sz v n xs)(hm:0<m)(hn:n=b+m∨m≤n):∃g c,v= .slice (some ⟨g,0,none⟩) n c:=by
 rcases h.2 with⟨_,e⟩|⟨g,a,d,rfl,_⟩
 ·omega
 ·exact⟨g,a,rfl⟩
theorem aBn{f:Int→List Value}{sz T base q0 n0 k m:Nat}(hf:∀y,(f y).length=sz){W0 W W':World}{v v':Value}{x:Int}{L:List Value}{o ob:Obj}(hL:L=f x)
 (hown:W'.ownsRow base T sz v' (k+m) (cZ f (List.replicate k x)++gH m L)) (hs:aEX (W.alloc o) W' v v') (hb:W.heap[q0]?=some ob) (hq:∀g,v.ownBlock=some g→g<q0) (hc:Chg (fun q=>some q=v.ownBlock) W0 W) (hn:n0≤W.heap.size):
 W'.heap[q0]?=some ob∧(v'.ownBlock=v.ownBlock∨∃q,v'.ownBlock=some q∧n0≤q)∧Chg (fun q=>some q=v.ownBlock) W0 W'∧n0≤W'.heap.size∧MkL f sz W' v' (k+m) x∧∀u j,j≤k+m→MkL f sz W u j x→MkL f sz W' u j x:=by
 obtain⟨l,i⟩:=aH3 hs;have b:=(((Chg.refl NoS W).alloc _).nos).trans (Chg.of_grown i) (fun _ _ h=>h);have c:W'.ownsRow base T sz v' (k+m) (cZ f (List.replicate (k+m) x)):=by
  rw[←List.replicate_append_replicate,sY,show cZ f (List.replicate m x)=gH m L by rw[hL,aBN]];exact hown
 refine⟨b.kept hb (fun e=>cB _ (hq _ e.symm)),l.imp id (fun h=>⟨_,h,by simp;omega⟩),hc.trans b (fun _ _ h=>h),cA hn b.size,aAb hf c,fun u j hj hu=>(hu.of_heap (by simp) (fun g hg=>?_)).appended (m:=m) hf hj c hs⟩;obtain⟨p,d,n,a,_⟩:=hu;exact heap_alloc_old _ _ (a g hg)
theorem aAI{α:Type}{F:α→List Value}{mk:Int→α}{f:Int→List Value}{sz bt a i j T S SS fn:Nat}(ho:Own f sz bt a i j T S SS fn)(hF:∀y,F (mk y)=f y)(hFl:∀y,(F y).length=sz){wd:Value→Value→Int→Array Value}
 (hw:∀r m n,(wd r m n)[7]?=some (.int .i64 n)∧(wd r m n)[i]?=some r∧(wd r m n)[j]?=some m∧(∀n',(wd r m n).setIfInBounds 7 (.int .i64 n')=wd r m n')∧(∀x,(wd r m n).setIfInBounds i x=wd x m n)∧∀x,(wd r m n).setIfInBounds j x=wd r x n)
 (W:World) (lab:Nat→Nat) (g0:Nat) (cr cm:Value) (next:Nat) (ls:List (Value×Nat×Int)) (hg:W.heap[g0]?=some (.cells (wd cr cm (next:Int)) 80 (0,0))) (hl0:lab g0=1) (hlt:∀k,lab k≠0→k<W.heap.size)
 (hS:StK S f sz a W lab cr cm ls) (hnx:next≤1000000000000) (hls:ls.length≤1000000000000)
 (v:Value) (n:Nat) (R:List α) (hn:n≤100000000000) (hR:R.length=n) (hv:W.ownsRow 0 T sz v n (cZ F R)) (hvl:∀k,v.ownBlock=some k→lab k=0):
 Calls prog fn #[.pointer (some ⟨g0,0,none⟩),v] W fun e W'=>e= .returned (.tuple #[])∧∃lab' rv' mv' ls',ls'.length=ls.length+4∧(∀q ∈ ls',q ∈ ls∨q.2.1≤n+3)∧W'.heap[g0]?=some (.cells (wd rv' mv' ((next:Int)+1)) 80 (0,0))∧
  StK S f sz a W' lab' rv' mv' ls'∧(∀k,lab k≠0→lab' k=lab k)∧(∀k,lab' k≠0→k<W'.heap.size)∧(∀k,lab' k≠0→lab k≠0∨lab' k=a∨lab' k=a+1∨lab' k=9)∧Chg (fun k=>k=g0∨lab k=a∨lab k=a+1∨lab k=0) W W':=by
 obtain⟨⟨z0,⟨i0,hi,e8,b3,h6⟩,c7⟩,⟨z1,⟨i1,ji,f5,h3,g1⟩,c8⟩,g7,g2,e4,f8,ha,f4,g8,f1,c9,g5⟩:=ho.infos;have l6:=dG hg;have j1:=cO hg 7 _ (hw _ _ _).1;have i8:=cX hg 7;obtain⟨X,e2,d5,g9⟩:=aKx ((hw _ _ _).2.2.2.1 ((next:Int)+1)) hg;have d8:X.heap.size=W.heap.size:=by rw[←e2];simp
 have k3:=cO d5 7 _ (hw _ _ _).1;have j0:=cN e2;have b9:∀k,v.ownBlock=some k→k<X.heap.size:=fun k hk=>d8▸eY hv k hk;have h7:∀k,v.ownBlock=some k→k≠g0:=fun k hk e=>by have:=hvl k hk;rw[e,hl0]at this;omega
 obtain⟨x,hx⟩:∃x:Int,x=(-((next:Int)+1)):=⟨_,rfl⟩;obtain⟨L,N⟩:=aLw (f x);obtain⟨p,d,rfl⟩:∃p d,v= .slice p n d:=by
  rcases hv.2 with⟨rfl,rfl⟩|⟨g,d,f3,rfl,_⟩
  ·exact⟨none,0,rfl⟩
  ·exact⟨some ⟨g,0,none⟩,d,rfl⟩
 have P:L.length=sz:=by rw[N];exact e4 x
 have HK:=cN (aLn ha e4 hF hFl);have l7:=cN (aLm f1 c9 g5);have j4:=cN (show L[0]?=some (.int .i64 x)from by rw[N];exact f4 x);have b7:=cN (show∀u ∈ L,u.oneCell'=true from by rw[N];exact f8 x);have k0:=cN (show L=f (-((next:Int)+1))from by rw[N,hx]);have HI:=cN (show ldB prog T L.length=true from by rw[P];exact g8);have j9:=cN (show(prog.info? T).map (·.size)=some L.length from by rw[hi,P,Option.map_some,b3]);have e5:=cN (show i0.size=L.length from by rw[P];exact b3);have k2:=cN (show L.toArray.all (·.oneCell')=true from by rw[List.all_toArray];exact List.all_eq_true.2 b7.out);have d6:=fun j=>cN (show(gH j L).length=j*sz from by rw[sQ,P]);have s:=cN P;have b2:=cN N;obtain⟨I,hI⟩:∃I:World→List Value→Prop,∀w l,I w l↔w.ownsRow 0 T sz (.slice p n d) n l:=⟨_,fun _ _=>Iff.rfl⟩;have U:=cN hS;have K:=cN (aLo hl0 hlt hvl b9 h7);have O:=cN (aLn g9 d5 ((hI _ _).2 hv) d8);have b0:=cN hI;have HW:=cN hw;have o:=cN (aLq hi e8 b3 h6 c7 g7 g2);have HJ:=cN (aLo ji f5 h3 g1 c8);clear hg hl0 hlt hS hv hvl g9 e2 b9 h7 d5 d8 hx N P hI hw e4 f8 ha f4 g8 f1 c9 g5 hF hFl hi e8 b3 h6 c7 g7 g2 ji f5 h3 g1 c8;rcases ho with⟨rfl,rfl,rfl,rfl,rfl,rfl,rfl,rfl,rfl,rfl⟩|⟨rfl,rfl,rfl,rfl,rfl,rfl,rfl,rfl,rfl,rfl⟩|⟨rfl,rfl,rfl,rfl,rfl,rfl,rfl,rfl,rfl,rfl⟩;all_goals
  first|go_enter func105,ntmps105|go_enter func145,ntmps145|go_enter func147,ntmps147
  go_wp2_with (first|rw[j0.out]|(refine ws (aA X _) _ rfl rfl rfl rfl (by kernel_rfl) rfl ?_;intro W2 f2 c6 b5;refine cQ ?_));clear j1 i8 k3;have d4:=((Chg.refl NoS X).alloc _).fresh f2 (aE _);have h4:X.heap.size+1≤W2.heap.size:=by rw[c6];simp
  have a0:=O.out.1.trans d4 (fun _ _ h=>h.elim);have b5:=aIL k0.out b5;have H2:=cN (aLn a0 (d4.kept O.out.2.1 (fun h=>h)) b5 h4);have j2:=cN ((b0.out _ _).2 (a0.row ((b0.out _ _).1 O.out.2.2.1) (fun q hq e=>K.out.2.2.2.2 q hq e)));clear f2 c6 b5 d4 h4 a0;refine cN ?_;go_wp2_with fail;go_loopw [5] (fun i wr=>∃(k:Nat),k≤n∧i= .int .i64 k∧I wr (cZ F (List.replicate k (mk x)++R.drop k))∧Chg (fun q=>some q=(Value.slice p n d).ownBlock) W2 wr) (fun i _=>n-(intOf i).toNat)
  case atStart=>exact⟨0,by omega,rfl,by simpa using j2.out,Chg.refl _ _⟩
  case round=>
   obtain⟨k,hk,rfl,c,b4⟩:=hrel;have c:=(b0.out _ _).1 c;have HB:=cN (b4.kept H2.out.2.2.1 (fun e=>cB _ (K.out.2.2.2.1 _ e.symm)));have e7:=cN b4;have k8:X.heap.size+1≤wr.heap.size:=by have:=b4.size;have:=H2.out.2.2.2;omega
   clear b4;by_cases j8:k<n
   ·rw[List.drop_eq_getElem_cons (by omega)]at c;generalize R[k]'(by omega)=r at c;obtain⟨g,rfl⟩:∃g,p=some ⟨g,0,none⟩:=by
     rcases c.2 with⟨e,h0⟩|⟨g,l3,f3,e,_⟩
     ·omega
     ·cases e;exact⟨g,rfl⟩
    obtain⟨f3,h8,l1⟩:=aJJ c j8;have k7:(k:Int)<(n:Int):=by omega
    have HO:=cN c;have h5:=cN h8;clear c h8;go_wp2_with (first|(refine wl (cR (cs:=L) HB.out) rfl rfl rfl HI.out ?_)|(refine cV rfl _ _ _ rfl _ _ _ _ L.toArray _ rfl rfl h5.out j9.out k2.out (by have:=s.out;simp;omega) rfl ?_;intro W9 h2 i9 f7;refine cQ ?_));have a3:=aJi (k:=k) HK.out.2.2.2 (A:=List.replicate k (mk x)) (y:=mk x) (by simp) HO.out h5.out (by rw[HK.out.2.2.1,←b2.out];simpa[s.out]using f7);have H9:=cN (aLl ((b0.out _ _).2 a3) (e7.out.trans h2 (fun q _ e=>by subst e;rfl)));clear h2 i9 f7 a3;refine cN ?_;go_wp2_with fail;go_roundw
    case rel=>
     refine⟨k+1,by omega,by go_num,?_,H9.out.2⟩;rw[List.replicate_succ',aS];exact H9.out.1
    case measure=>simp[intOf];omega
   ·have i4:k=n:=by omega
    subst i4;rw[List.drop_of_length_le (by omega),aC,aG3 HK.out.2.2.1]at c;have k7:¬(k:Int)<(k:Int):=by omega
    have j5:=cN c;clear c;go_wp2_with (first|(refine wl (cR (cs:=L) HB.out) rfl rfl rfl HI.out ?_)|(refine qS rfl _ 1 _ rfl _ i0 _ L o.out.2.2.2.2.2.1 o.out.1 o.out.2.1 e5.out (by have:=s.out;omega) (by decide) (by have:=s.out;omega) rfl ?_)|(at_builtin;refine lN _ rfl _ _ _ rfl 0 _ i0 _ _ _ o.out.2.2.2.2.2.1 o.out.1 o.out.2.1 o.out.2.2.1 o.out.2.2.2.1 o.out.2.2.2.2.1 (by decide) (.slice p k d) k _ rfl (j5.out.alloc _) ⟨wr.heap.size,0,none⟩ 1 1 (gH 1 L) rfl (d6 1).out (cR (cs:=gH 1 L) (aA _ _)) (wZ b7.out 1) (by decide) (by unfold maxLen;omega) (by omega) (aI _) ?_;intro va wa a4 G c2;refine cQ ?_));have Ma:=cN (aBn HK.out.2.1 b2.out a4 c2 HB.out K.out.2.2.2.1 e7.out k8);have i3:=Ma.out.2.2.2.1;have i5:=cN G;clear a4 G c2;refine cN ?_;go_wp2_with (first|(refine wl (cR (cs:=L) Ma.out.1) rfl rfl rfl HI.out ?_)|(refine qS rfl _ 2 _ rfl _ i0 _ L o.out.2.2.2.2.2.1 o.out.1 o.out.2.1 e5.out (by have:=s.out;omega) (by decide) (by have:=s.out;omega) rfl ?_)|(at_builtin;refine lN _ rfl _ _ _ rfl 0 _ i0 _ _ _ o.out.2.2.2.2.2.1 o.out.1 o.out.2.1 o.out.2.2.1 o.out.2.2.2.1 o.out.2.2.2.2.1 (by decide) (.slice p k d) k _ rfl (i5.out.alloc _) ⟨wa.heap.size,0,none⟩ 2 2 (gH 2 L) rfl (d6 2).out (cR (cs:=gH 2 L) (aA _ _)) (wZ b7.out 2) (by decide) (by unfold maxLen;omega) (by omega) (aI _) ?_;intro vb wb a7 H d0;refine cQ ?_));have Mb:=cN (aBn HK.out.2.1 b2.out a7 d0 Ma.out.1 K.out.2.2.2.1 Ma.out.2.2.1 i3);have h9:=Mb.out.2.2.2.1;have i6:=cN H;clear a7 H d0;refine cN ?_
    go_wp2_with (first|(refine wl (cR (cs:=L) Mb.out.1) rfl rfl rfl HI.out ?_)|(refine qS rfl _ 3 _ rfl _ i0 _ L o.out.2.2.2.2.2.1 o.out.1 o.out.2.1 e5.out (by have:=s.out;omega) (by decide) (by have:=s.out;omega) rfl ?_)|(at_builtin;refine lN _ rfl _ _ _ rfl 0 _ i0 _ _ _ o.out.2.2.2.2.2.1 o.out.1 o.out.2.1 o.out.2.2.1 o.out.2.2.2.1 o.out.2.2.2.2.1 (by decide) (.slice p k d) k _ rfl (i6.out.alloc _) ⟨wb.heap.size,0,none⟩ 3 3 (gH 3 L) rfl (d6 3).out (cR (cs:=gH 3 L) (aA _ _)) (wZ b7.out 3) (by decide) (by unfold maxLen;omega) (by omega) (aI _) ?_;intro vc wc a8 J b8;refine cQ ?_));have V:=cN (aBn HK.out.2.1 b2.out a8 b8 Mb.out.1 K.out.2.2.2.1 Mb.out.2.2.1 h9);have l2:=V.out.2.2.2.1;have b1:=V.out.2.2.2.2.2 vb _ (by omega) Mb.out.2.2.2.2.1;have a9:=V.out.2.2.2.2.2 va _ (by omega) (Mb.out.2.2.2.2.2 va _ (by omega) Ma.out.2.2.2.2.1);have g4:=aAb HK.out.2.1 J;obtain⟨pc,cc,rfl,_,_⟩:=V.out.2.2.2.2.1;obtain⟨pb,cb,rfl,_,_⟩:=b1;obtain⟨pa,ca,rfl,_,_⟩:=a9;have b1:=V.out.2.2.2.2.2 _ _ (by omega) Mb.out.2.2.2.2.1;have a9:=V.out.2.2.2.2.2 _ _ (by omega) (Mb.out.2.2.2.2.2 _ _ (by omega) Ma.out.2.2.2.2.1);have hB:∀{u:Option Nat},(u=(Value.slice p k d).ownBlock∨∃q,u=some q∧X.heap.size+1≤q)→(u=(Value.slice p k d).ownBlock∨∃q,u=some q∧W.heap.size≤q):=fun h=>h.imp id fun ⟨q,a,b⟩=>⟨q,a,by have:=O.out.2.2.2;omega⟩;have d7:=cN (aLm (hB Ma.out.2.1) (hB Mb.out.2.1) (hB V.out.2.1));have HM:=cN (aLm g4 a9 b1);have e3:=V.out.2.2.1.kept H2.out.2.1 (fun e=>K.out.2.2.2.2 _ e.symm rfl)
    have B:=(H2.out.1.mono (T:=fun q=>q=g0∨some q=(Value.slice p k d).ownBlock) (fun _ _ h=>Or.inl h)).trans V.out.2.2.1 (fun _ _ h=>Or.inr h);have d2:∀q,lab q≠0→lab q≠1→¬(q=g0∨some q=(Value.slice p k d).ownBlock):=fun q h0 h1 e=>e.elim (fun e=>h1 (e▸K.out.1)) (fun e=>h0 (K.out.2.2.1 q e.symm));have a2:=B.row U.out.rows (fun q hq e=>d2 q (by have:=U.out.rl q hq;omega) (by have:=U.out.rl q hq;omega) e);have a1:=B.row U.out.marks (fun q hq e=>d2 q (by have:=U.out.ml q hq;omega) (by have:=U.out.ml q hq;omega) e);have cI:=cO e3 _ _ (HW.out _ _ _).2.1;have k6:=cN e3;have j7:=cN B;have k9:=cN a2;have l0:=cN a1;clear g4 a9 b1 e3 B a2 a1 d2 a8 J b8;refine cN ?_;go_wp2_with (at_builtin;refine wpList_append_own_at _ rfl _ _ _ rfl 0 _ i1 _ 1 24 o.out.2.2.2.2.2.2 HJ.out.1 HJ.out.2.1 HJ.out.2.2.1 HJ.out.2.2.2.1 HJ.out.2.2.2.2 (by decide) cr ls.length _ rfl (k9.out.alloc _) ⟨wc.heap.size,0,none⟩ 4 4 [.slice p k d,.slice pa (k+1) ca,.slice pb (k+2) cb,.slice pc (k+3) cc] rfl rfl (cR (cs:=[.slice p k d,.slice pa (k+1) ca,.slice pb (k+2) cb,.slice pc (k+3) cc]) (aA _ _)) (by intro u hu;simp at hu;rcases hu with rfl|rfl|rfl|rfl<;>rfl) (by unfold maxLen;omega) (by omega) (aI _) ?_;intro vr l5 z f6 _ c3;refine cQ ?_);obtain⟨gr,b6,rfl⟩:=aIv (m:=1) z (by decide) (by omega);have M:=(((Chg.refl NoS wc).alloc _).nos).trans (Chg.of_grown f6) (fun _ _ h=>h);have g3:∀q,cr.ownBlock=some q→q≠g0:=fun q hq e=>by have:=U.out.rl q hq;rw[e,K.out.1]at this;omega
    have d9:∀q,cm.ownBlock=some q→q≠g0:=fun q hq e=>by have:=U.out.ml q hq;rw[e,K.out.1]at this;omega
    have D:=M.kept k6.out (fun e=>g3 _ e.symm rfl);have c5:=M.kept V.out.1 (fun e=>by have:=eY U.out.rows _ e.symm;have:=O.out.2.2.2;omega);have a5:=M.row l0.out (fun q hq e=>by have:=U.out.rl q e.symm;have:=U.out.ml q hq;omega);have d1:=cO D _ _ (HW.out _ _ _).2.1;have e1:=aGP (HW.out cr cm ((next:Int)+1)).2.1 D;obtain⟨we,e9,d3,Z⟩:=aKx ((HW.out _ _ _).2.2.2.2.1 (.slice (some ⟨gr,0,none⟩) (ls.length+4) b6)) D;have c4:=Z.kept c5 (by have:=O.out.2.2.2;omega);have a6:=Z.row a5 (fun q hq e=>d9 q hq e);have i7:=cN e9;have cJ:=cO d3 _ _ (HW.out _ _ _).2.2.1;have Y:=cO c4 0 (.int .i64 x) (by simpa using j4.out);obtain⟨i2,ki,k5,k1,k4⟩:=info_parts aHi;have e6:=cN a6;have HE:=cN (aLp M z (c3.imp id (fun h=>⟨_,h,by simp⟩):(Value.slice (some ⟨gr,0,none⟩) (ls.length+4) b6).ownBlock=cr.ownBlock∨∃q,(Value.slice (some ⟨gr,0,none⟩) (ls.length+4) b6).ownBlock=some q∧wc.heap.size≤q) Z d3 d9);have l4:X.heap.size+1≤we.heap.size:=by have:=M.size;have:=Z.size;omega
    clear M z c3 g3 d9 D c5 a5 Z d3 c4 a6 e9 f6 cI;refine cN ?_;go_wp2_with (first|rw[i7.out]);clear d1 e1;first|(refine rlx [0,0,0,0,1,0,1,0,1,0,1,0,1,2] (fun y=>y.cell? ⟨g0,2,none⟩=some cm∧y.cell? ⟨X.heap.size,0,none⟩=some (.int .i64 x)) (by kernel_rfl) (fun _ _ _ _=>rfl) ⟨cJ,Y⟩ ?_)|(refine rlx [0,0,0,0,1,0,1,0,1,0,1,0,1,2] (fun y=>y.cell? ⟨g0,4,none⟩=some cm∧y.cell? ⟨X.heap.size,0,none⟩=some (.int .i64 x)) (by kernel_rfl) (fun _ _ _ _=>rfl) ⟨cJ,Y⟩ ?_)|(refine rlx [0,0,0,0,1,0,1,0,1,0,1,0,1,2] (fun y=>y.cell? ⟨g0,6,none⟩=some cm∧y.cell? ⟨X.heap.size,0,none⟩=some (.int .i64 x)) (by kernel_rfl) (fun _ _ _ _=>rfl) ⟨cJ,Y⟩ ?_)
    simp only[dC,dB];iterate 13 (apply sB rfl rfl;·(intro x h;(try have h:=h rfl);(try dsimp only at h);go_simp;with_reducible rfl))
    try simp only[pA]
    refine dI rfl (fun C hC=>?_);go_simp;refine hC _ _ ⟨(bJ _ _ _ (by have:=HE.out.2.2.2.2.1;have:=dG this;simp;omega)).trans cJ,(bJ _ _ _ (by simp;omega)).trans Y⟩ ?_;clear hC C;refine cP ?_;refine wpList_append_own_at _ rfl _ _ 25 rfl 0 3 i2 _ 1 8 underlying25 ki k5 k1 k4 rfl (by decide) cm ls.length _ rfl (e6.out.alloc _).drew ⟨we.heap.size,0,none⟩ 4 4 [.int .i64 x,.int .i64 x,.int .i64 x,.int .i64 x] rfl rfl (cR (cs:=[.int .i64 x,.int .i64 x,.int .i64 x,.int .i64 x]) (show((we.alloc (.cells #[.int .i64 x,.int .i64 x,.int .i64 x,.int .i64 x] 3)).drew).heap[we.heap.size]?=_ from aA we _)) (by intro u hu;simp at hu;rw[hu];rfl) (by unfold maxLen;omega) (by omega) (aI _) ?_;intro vm wf t Q _ c0;obtain⟨gm,j6,rfl⟩:=aIv (m:=1) t (by decide) (by omega);have e0:=(((Chg.refl NoS we).alloc (.cells #[.int .i64 x,.int .i64 x,.int .i64 x,.int .i64 x] 3)).nos).trans (Chg.of_grown ⟨Q.os,Q.tape,Q.output,Q.size,Q.block⟩) (fun _ _ h=>h);have E:=e0.kept HE.out.2.2.2.2.1 (fun e=>HE.out.2.2.2.2.2 _ e.symm rfl);have q2:=cO E _ _ (HW.out _ _ _).2.2.1;have r2:=aGP (HW.out (.slice (some ⟨gr,0,none⟩) (ls.length+4) b6) cm ((next:Int)+1)).2.2.1 E;obtain⟨wg,f0,g6,f9⟩:=aKx ((HW.out _ _ _).2.2.2.2.2 (.slice (some ⟨gm,0,none⟩) (ls.length+4) j6)) E;have j3:=cN f0
    have c1:=aJt (by omega) U.out K.out.1 K.out.2.1 K.out.2.2.1 j7.out HM.out.1 HM.out.2.1 HM.out.2.2 V.out.2.2.2.2.1 d7.out.1 d7.out.2.1 d7.out.2.2 HE.out.1 (by simpa using HE.out.2.1) HE.out.2.2.1 HE.out.2.2.2.1 e0 (by simpa using t) (c0.imp id (fun h=>⟨_,h,by simp⟩)) f9;have HF:=cN (aLl c1 g6);clear c1 g6 e0 c0 Q E t f9 f0 cJ Y;simp only[pA];go_wp2_with (first|rw[j3.out]);go_end0;exact⟨rfl,_,_,_,_,by simp,fun q hq=>(aO.1 hq).imp id (fun h=>by
     simp only[List.mem_cons,List.not_mem_nil,or_false]at h;rcases h with rfl|rfl|rfl|rfl<;>simp only<;>omega),HF.out.2,HF.out.1.1,HF.out.1.2.1,HF.out.1.2.2.1,HF.out.1.2.2.2.1,HF.out.1.2.2.2.2⟩
theorem jP{w:World}{base:Nat}{e:TypeId}{size:Nat}{v:Value}{n:Nat}{xs:List Value}(h:w.ownsRow base e size v n xs):∃p cap,v= .slice p n cap∧(0<n→∃g,p=some ⟨g,0,none⟩):=by
 rcases h.2 with⟨rfl,rfl⟩|⟨g,cap,a,rfl,_⟩
 ·exact⟨none,0,rfl,fun h=>absurd h (by omega)⟩
 ·exact⟨some ⟨g,0,none⟩,cap,rfl,fun _=>⟨g,rfl⟩⟩
theorem aFi(W:World)(lab:Nat→Nat)(g0:Nat)(c0 c1 c2 c3 c4 c5 c6:Value)(next:Int)(lsR lsM lsE:List (Value×Nat×Int))(hg:W.heap[g0]?=some (.cells (wdL c0 c1 c2 c3 c4 c5 c6 next).toArray 80 (0,0)))
 (hR:StK 47 kRw 7 3 W lab c1 c2 lsR) (hM:StK 88 kMg 10 5 W lab c3 c4 lsM) (hE:StK 43 kEv 19 7 W lab c5 c6 lsE)
 (hlR:lsR.length≤1000000000000) (hlM:lsM.length≤1000000000000) (hlE:lsE.length≤1000000000000) (hkR:∀q ∈ lsR,q.2.1≤1000000000000) (hkM:∀q ∈ lsM,q.2.1≤1000000000000) (hkE:∀q ∈ lsE,q.2.1≤1000000000000):
 Calls prog 32 #[.pointer (some ⟨g0,0,none⟩)] W fun e w'=>e= .returned (.bool true)∧Below W.heap.size W w':=by
 have x1:W.cell? ⟨g0,1,none⟩=some c1:=cO hg 1 _ rfl;have x2:W.cell? ⟨g0,2,none⟩=some c2:=cO hg 2 _ rfl;obtain⟨a3,a7,rfl,A⟩:=jP hR.rows;obtain⟨a4,a0,rfl,w⟩:=jP hR.marks;have K:=cN hR.rows;have H:=cN hR.marks;have Q:=cN hR.each;have N:=cN hkR;clear hR hkR;generalize E:lsR.length=NR at K H hlR A w x1 x2⊢;have O:=cN E;clear E;have x3:W.cell? ⟨g0,3,none⟩=some c3:=cO hg 3 _ rfl;have x4:W.cell? ⟨g0,4,none⟩=some c4:=cO hg 4 _ rfl;obtain⟨a1,b1,rfl,B⟩:=jP hM.rows;obtain⟨a8,b0,rfl,C⟩:=jP hM.marks;have I:=cN hM.rows;have G:=cN hM.marks;have S:=cN hM.each;have V:=cN hkM;clear hM hkM;generalize F:lsM.length=NM at I G hlM B C x3 x4⊢;have R:=cN F;clear F;have x5:W.cell? ⟨g0,5,none⟩=some c5:=cO hg 5 _ rfl;have x6:W.cell? ⟨g0,6,none⟩=some c6:=cO hg 6 _ rfl;obtain⟨a2,a6,rfl,z⟩:=jP hE.rows;obtain⟨a5,a9,rfl,y⟩:=jP hE.marks;have D:=cN hE.rows;have M:=cN hE.marks;have P:=cN hE.each;have T:=cN hkE;clear hE hkE;generalize J:lsE.length=NE at D M hlE z y x5 x6⊢;have U:=cN J;clear J;clear hg;go_enter func32,ntmps32;go_wp2_with fail;go_loopw [3] (fun i wr=>∃(k n:Nat),k≤NR∧i= .int .i64 k∧wr=W.drewN n) (fun i _=>NR-(intOf i).toNat)
 case atStart=>exact⟨0,0,by omega,rfl,rfl⟩
 case round=>
  obtain⟨k,n,Y,rfl,rfl⟩:=hrel;by_cases d:k<NR
  ·obtain⟨gr,rfl⟩:=A (by omega);obtain⟨gm,rfl⟩:=w (by omega);have o:k<lsR.length:=by rw[O.out];exact d
   have er:=K.out.cellAt k (by omega);have b:=H.out.cellAt k (by omega);have r:=Q.out lsR[k] (bF _);have s:=N.out lsR[k] (bF _);rw[List.getElem?_map,aP o]at er b;simp only[Option.map_some]at er b;generalize lsR[k]=q at er b r s;obtain⟨u,c,x⟩:=q;obtain⟨p,L,t,_,a⟩:=r;simp only at er b s a t;subst t;have X:(k:Int)<(NR:Int):=by omega
   clear o;go_wp2_with fail;go_loopw [4] (fun j wr=>∃(m n:Nat),m≤c∧j= .int .i64 m∧wr=W.drewN n) (fun j _=>c-(intOf j).toNat)
   case atStart=>exact⟨0,n,by omega,rfl,rfl⟩
   case round=>
    obtain⟨m,n,hm,rfl,rfl⟩:=hrel;by_cases f:m<c
    ·obtain⟨g,rfl,hg⟩:=a (by omega);have l:=cN (show∀j u,(kRw x)[j]?=some u→(W.drewN n).drew.cell? ((⟨g,m*7,none⟩:Addr).add j)=some u from fun j u hj=>by
      have e:(⟨g,m*7,none⟩:Addr).add j=⟨g,m*7+j,none⟩:=by unfold Addr.add;split<;>simp_all
      rw[e];exact hg m f j u hj)
     have Z:(m:Int)<(c:Int):=by omega
     clear hg a;go_wp2_with fail;refine eD [0,0,0,1,0,0,1,0,0,1,0,0,0,1,0,0,1,0,0] (by kernel_rfl) (fun _ _ _ _=>rfl) ?_;simp only[dC,dB];iterate 9 (apply sB rfl rfl;·(intro x h;(try cases h rfl);go_simp;with_reducible rfl))
     try simp only[pA]
     refine dA (v:=.agg #[.int .i64 x,.int .i64 0,.int .i64 0,.int .i64 0,.int .i64 0,.int .i64 0,.int .i64 0]) rfl (fun zz hx=>cU 58 _ rfl ⟨g,m*7,none⟩ rfl ([.int .i64 x,.int .i64 0,.int .i64 0,.int .i64 0,.int .i64 0,.int .i64 0,.int .i64 0]) _ (by subst hx;exact l.out) underlying58 rfl (by kernel_rfl)) ?_;(try simp only[pA]);iterate 9 (apply sB rfl rfl;·(intro x h;(try cases h rfl);go_simp;with_reducible rfl))
     refine cP ?_;try simp only[pA]
     go_wp2_with fail;go_roundw
     case rel=>exact⟨m+1,n+1,by omega,by go_num,rfl⟩
     case measure=>simp[intOf];omega
    ·go_wp2_with fail;go_roundw
     case rel=>exact⟨k+1,n,by omega,by go_num,rfl⟩
     case measure=>simp[intOf];omega
  ·go_wp2_with fail;go_loopw [5] (fun i wr=>∃(k n:Nat),k≤NM∧i= .int .i64 k∧wr=W.drewN n) (fun i _=>NM-(intOf i).toNat)
   case atStart=>exact⟨0,n,by omega,rfl,rfl⟩
   case round=>
    obtain⟨k,n,Y,rfl,rfl⟩:=hrel;by_cases d:k<NM
    ·obtain⟨gr,rfl⟩:=B (by omega);obtain⟨gm,rfl⟩:=C (by omega);have o:k<lsM.length:=by rw[R.out];exact d
     have er:=I.out.cellAt k (by omega);have b:=G.out.cellAt k (by omega);have r:=S.out lsM[k] (bF _);have s:=V.out lsM[k] (bF _);rw[List.getElem?_map,aP o]at er b;simp only[Option.map_some]at er b;generalize lsM[k]=q at er b r s;obtain⟨u,c,x⟩:=q;obtain⟨p,L,t,_,a⟩:=r;simp only at er b s a t;subst t;have X:(k:Int)<(NM:Int):=by omega
     clear o;go_wp2_with fail;go_loopw [6] (fun j wr=>∃(m n:Nat),m≤c∧j= .int .i64 m∧wr=W.drewN n) (fun j _=>c-(intOf j).toNat)
     case atStart=>exact⟨0,n,by omega,rfl,rfl⟩
     case round=>
      obtain⟨m,n,hm,rfl,rfl⟩:=hrel;by_cases f:m<c
      ·obtain⟨g,rfl,hg⟩:=a (by omega);have l:=cN (show∀j u,(kMg x)[j]?=some u→(W.drewN n).drew.cell? ((⟨g,m*10,none⟩:Addr).add j)=some u from fun j u hj=>by
        have e:(⟨g,m*10,none⟩:Addr).add j=⟨g,m*10+j,none⟩:=by unfold Addr.add;split<;>simp_all
        rw[e];exact hg m f j u hj)
       have Z:(m:Int)<(c:Int):=by omega
       clear hg a;go_wp2_with fail;refine eD [0,0,0,1,0,0,1,0,0,1,0,0,0,1,0,0,1,0,0] (by kernel_rfl) (fun _ _ _ _=>rfl) ?_;simp only[dC,dB];iterate 9 (apply sB rfl rfl;·(intro x h;(try cases h rfl);go_simp;with_reducible rfl))
       try simp only[pA]
       refine dA (v:=.agg #[.int .i64 x,.int .i64 0,.int .i64 0,.int .i64 0,.int .i64 0,.int .i64 0,.int .i64 0,.int .i64 0,.int .i64 0,.int .i64 0]) rfl (fun zz hx=>cU 66 _ rfl ⟨g,m*10,none⟩ rfl ([.int .i64 x,.int .i64 0,.int .i64 0,.int .i64 0,.int .i64 0,.int .i64 0,.int .i64 0,.int .i64 0,.int .i64 0,.int .i64 0]) _ (by subst hx;exact l.out) underlying66 rfl (by kernel_rfl)) ?_;(try simp only[pA]);iterate 9 (apply sB rfl rfl;·(intro x h;(try cases h rfl);go_simp;with_reducible rfl))
       refine cP ?_;try simp only[pA]
       go_wp2_with fail;go_roundw
       case rel=>exact⟨m+1,n+1,by omega,by go_num,rfl⟩
       case measure=>simp[intOf];omega
      ·go_wp2_with fail;go_roundw
       case rel=>exact⟨k+1,n,by omega,by go_num,rfl⟩
       case measure=>simp[intOf];omega
    ·go_wp2_with fail;go_loopw [7] (fun i wr=>∃(k n:Nat),k≤NE∧i= .int .i64 k∧wr=W.drewN n) (fun i _=>NE-(intOf i).toNat)
     case atStart=>exact⟨0,n,by omega,rfl,rfl⟩
     case round=>
      obtain⟨k,n,Y,rfl,rfl⟩:=hrel;by_cases d:k<NE
      ·obtain⟨gr,rfl⟩:=z (by omega);obtain⟨gm,rfl⟩:=y (by omega);have o:k<lsE.length:=by rw[U.out];exact d
       have er:=D.out.cellAt k (by omega);have b:=M.out.cellAt k (by omega);have r:=P.out lsE[k] (bF _);have s:=T.out lsE[k] (bF _);rw[List.getElem?_map,aP o]at er b;simp only[Option.map_some]at er b;generalize lsE[k]=q at er b r s;obtain⟨u,c,x⟩:=q;obtain⟨p,L,t,_,a⟩:=r;simp only at er b s a t;subst t;have X:(k:Int)<(NE:Int):=by omega
       clear o;go_wp2_with fail;go_loopw [8] (fun j wr=>∃(m n:Nat),m≤c∧j= .int .i64 m∧wr=W.drewN n) (fun j _=>c-(intOf j).toNat)
       case atStart=>exact⟨0,n,by omega,rfl,rfl⟩
       case round=>
        obtain⟨m,n,hm,rfl,rfl⟩:=hrel;by_cases f:m<c
        ·obtain⟨g,rfl,hg⟩:=a (by omega);have l:=cN (show∀j u,(kEv x)[j]?=some u→(W.drewN n).drew.cell? ((⟨g,m*19,none⟩:Addr).add j)=some u from fun j u hj=>by
          have e:(⟨g,m*19,none⟩:Addr).add j=⟨g,m*19+j,none⟩:=by unfold Addr.add;split<;>simp_all
          rw[e];exact hg m f j u hj)
         have Z:(m:Int)<(c:Int):=by omega
         clear hg a;go_wp2_with fail;refine eD [0,0,0,1,0,0,1,0,0,1,0,0,0,1,0,0,1,0,0] (by kernel_rfl) (fun _ _ _ _=>rfl) ?_;simp only[dC,dB];iterate 9 (apply sB rfl rfl;·(intro x h;(try cases h rfl);go_simp;with_reducible rfl))
         try simp only[pA]
         refine dA (v:=.agg #[.int .i64 x,.int .i64 0,.int .i64 0,.int .i64 0,.int .i64 0,.int .i64 0,.int .i64 0,.int .i64 0,.int .i64 0,.int .i64 0,.int .i64 0,.int .i64 0,.int .i64 0,.int .i64 0,.int .i64 0,.int .i64 0,.int .i64 0,.int .i64 0,.int .i64 0]) rfl (fun zz hx=>cU 70 _ rfl ⟨g,m*19,none⟩ rfl ([.int .i64 x,.int .i64 0,.int .i64 0,.int .i64 0,.int .i64 0,.int .i64 0,.int .i64 0,.int .i64 0,.int .i64 0,.int .i64 0,.int .i64 0,.int .i64 0,.int .i64 0,.int .i64 0,.int .i64 0,.int .i64 0,.int .i64 0,.int .i64 0,.int .i64 0]) _ (by subst hx;exact l.out) underlying70 rfl (by kernel_rfl)) ?_;(try simp only[pA]);iterate 9 (apply sB rfl rfl;·(intro x h;(try cases h rfl);go_simp;with_reducible rfl))
         refine cP ?_;try simp only[pA]
         go_wp2_with fail;go_roundw
         case rel=>exact⟨m+1,n+1,by omega,by go_num,rfl⟩
         case measure=>simp[intOf];omega
        ·go_wp2_with fail;go_roundw
         case rel=>exact⟨k+1,n,by omega,by go_num,rfl⟩
         case measure=>simp[intOf];omega
      ·go_wp2_with fail;go_ret;exact⟨rfl,below_drewN (aJ _ _) n⟩
end Go.Proofs.YtbbdgokdfhdpiaaGreatDoor
