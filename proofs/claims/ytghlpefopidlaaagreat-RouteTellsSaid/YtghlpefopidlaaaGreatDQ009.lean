/-
  slices.BinarySearchF. Conditions as told.
-/
import Derived.Test.YtghlpefopidlaaaGreatDQ005
import Derived.Deep.LoopGhost
set_option maxRecDepth 100000
set_option maxHeartbeats 64000000
open _root_.Bool renaming false->aU,true->aW,eq_iff_iff->bD
open _root_.Go renaming cell_regrown->aA,World->aB,Value->aH,below_regrown->aJ,redrawn->aL,bodyPost_ret->bf,Calls->bK,Act->bN
open Go.Ending renaming returned->aT
open Go.IntKind renaming i64->O
open Go.Obj renaming cells->aO
open Go.Operand renaming tmp->aN
open Go.Proofs.Tryz renaming prog->aP,results116->bF
open Go.Proofs.YtghlpefopidlaaaGreat.Rg renaming get_put->ay,done->aV,dI->aX,size_put->aZ,dU->bG,gQ->bL,dW->bQ,dY->bS
open Go.Region renaming binds->aR
open Go.RowKit.Below renaming refl->aI,heap_setCell->bH
open Go.Value renaming int->J,slice->U,pointer->aj,bool->aS,agg->bR
open _root_.List renaming getElem?_eq_getElem->Z,getElem?_eq_some_iff->ak,getElem?_toArray->aC,getElem?_cons_zero->aD,getElem?_cons_succ->aF,getElem?_eq_none->aY
open _root_.Nat renaming le_refl->aG,lt_or_ge->aQ,zero_le->bg
open _root_.Option renaming some->ah,none->au
open Option.some renaming inj->aM
open _root_.Or renaming inr->aK,inl->bJ
open Go.Proofs.YtghlpefopidlaaaGreat renaming hq->f
namespace Go.Proofs.YtghlpefopidlaaaGreat
namespace Av
open Go.RowKit Go.Sort Rw YtghlpefopidlaaaGreat.Nm Pr Bk
abbrev uQ (x:fB):fB:=x
theorem Zi {W j:aB} {v:aH} {l:List fB} {q:OA} {n c k:Nat} {x:fB} (h:yL W v l) (I:v=U q n c) (H:l.length=n) (G:l[k]?=ah x) (F:Below W.heap.size W j) :
  ∃ p:Addr,(∀ w,(Instr.indexAt 26 (U q n c) (J O k)).run aP w=.ok (aj (ah p)) w) /\
   (∀ d os,(grow (aL j d) os).cell? p=ah (J O x.1))/\(∀ d os,(grow (aL j d) os).cell? ⟨p.block,p.off+1,au⟩=ah (J O x.2)):=by
 obtain⟨p,r,u⟩:=elJ h I H G;obtain⟨c0,c1⟩:=u _ F;exact⟨p,r,aA c0,aA c1⟩
theorem Tj {W:aB} {b:Nat} {c:fB} (h:dN W b #[J O c.1,J O c.2] 23):(∀ d os,(grow (aL W d) os).cell? ⟨b,0,au⟩=ah (J O c.1))/\(∀ d os,(grow (aL W d) os).cell? ⟨b,1,au⟩=ah (J O c.2)) :=
 ⟨aA (h.cell 0),aA (h.cell 1)⟩
theorem Tk (c d:fB) (j:Int) (q:gU c d=j) (w:aB) (k:Nat) (os:Array Obj) :
  bK aP 38 #[nP c,nP d] (grow (aL w k) os) fun e r=>e=aT (J O j)/\∃ p:Regrown,r=grow (aL w p.d) p.os:=by
 subst q;exact Calls.regrown_of (rA c d _)
theorem Tm (v:aH) (l:List fB) (c:fB) (w:aB) (b6:yL w v l) (F:kL uQ l) (cG:l.length<=900) :
  bK aP 105 #[v,nP c,.func (.func 38) #[] #[]] w fun e w'=>e=aT (.tuple #[J O (fG uQ l c),aS (gZ uQ l c)])/\Below w.heap.size w w':=by
 have aE:=f b6;have bE:=f F;have bB:=f (dR w #[J O c.1,J O c.2] 23);have bA:=f ((aI w.heap.size w).alloc (aG _) (aO #[J O c.1,J O c.2] 23));obtain⟨cM,cL,rfl⟩:=b6.len;obtain⟨n,a6⟩:∃ n,n=l.length:=⟨_,rfl⟩;rw [<- a6] at aE cG ⊢;have G:=f a6;obtain⟨bT,b4⟩:∃ k,k=fG uQ l c:=⟨_,rfl⟩;obtain⟨cC,b5⟩:∃ k,k=gZ uQ l c:=⟨_,rfl⟩;rw [<- b4,<- b5];have bC:=f b4;have bI:=f b5;clear b6 F a6 b4 b5;obtain⟨c1,c2⟩:=c;go_enter Tryz.func105,Tryz.ntmps105;go_wp2;generalize w.alloc (aO #[J O c1,J O c2] 23)=w1 at *
 go_loopg [9,10] n (fun cH cJ cI wr=>∃ lo j:Nat,cJ=J O lo/\cI=J O j/\lo<=j/\j<=n/\j-lo<=cH/\Below w.heap.size w wr/\dN wr w.heap.size #[J O c1,J O c2] 23 /\
  (∀ (t:Nat) (y:fB),t<lo->l[t]?=ah y->eT y (c1,c2)=aW)/\(∀ (t:Nat) (y:fB),j<=t->l[t]?=ah y->eT y (c1,c2)=aU))
 case atStart=>exact⟨0,n,rfl,rfl,bg _,aG _,by omega,bA.o,bB.o,fun t y h=>by omega,fun t y bW H=>by have:=(ak.1 H).1; have:=G.o; omega⟩
 case round =>
  clear bA bB;obtain⟨lo,j,rfl,rfl,cQ,cF,cP,c6,c9,bX,cA⟩:=hrel;have B:=f c6;have X:=f c9;have b9:=f bX;have bP:=f cA;clear c6 c9 bX cA;by_cases c7:lo<j
  ·obtain⟨y,I⟩:∃ y,l[(lo+j) / 2]?=ah y:=⟨_,Z (by have:=G.o; omega)⟩;obtain⟨p,a7,S,T⟩:=Zi aE.o rfl G.o.symm I B.o;obtain⟨b0,N⟩:=Tj (c:=(c1,c2)) X.o;obtain⟨q,F⟩:∃ q,gU y (c1,c2)=q:=⟨_,rfl⟩;have C:=Tk y (c1,c2) q F wr;have bM:=f (show decide (q<0)=eT y (c1,c2) by rw [<- F]; exact Jr _ _);have Y:=f I;clear I F;have cN:((lo:Int)+(j:Int)) / 2=(((lo+j) / 2:Nat):Int):=by omega
   generalize cR:(lo+j) / 2=m at *;have M:=f (fun r u=>B.o.trans ((aJ wr r u).mono B.o.size));have bO:=f (fun r u=>X.o.on (aJ wr r u));obtain⟨b7,b8⟩:=y;simp only at S T b0 N C;by_cases c8:q<0
   ·have b2:decide (q<0)=aW:=by simpa using c8
    have a1:=f (show eT (b7,b8) (c1,c2)=aW by rw [<- bM.o]; exact b2);go_wp2;refine ko ?_
    repeat (go_big_quiet_step (first | (with_reducible exact C _ _) | exact Jt _ _))
    refine kr fun r u=>?_;clear a7 S T b0 N C;go_wp2
    go_roundg (j-(m+1))
    case measure=>omega
    case rel=>exact⟨m+1,j,by go_num,rfl,by omega,cF,aG _,M.o _ _,bO.o _ _,fun t z bW H=>by
     rcases aQ t m with a2|a2
     ·exact ji (kM bE.o (by omega) H Y.o) a1.o
     ·obtain rfl:t=m:=by omega
      rw [Y.o] at H;rw [<- aM H];exact a1.o,bP.o⟩
   ·have b2:decide (q<0)=aU:=by simpa using c8
    have a1:=f (show eT (b7,b8) (c1,c2)=aU by rw [<- bM.o]; exact b2);go_wp2;refine ko ?_
    repeat (go_big_quiet_step (first | (with_reducible exact C _ _) | exact Jt _ _))
    refine kr fun r u=>?_;clear a7 S T b0 N C;go_wp2
    go_roundg (m-lo)
    case measure=>omega
    case rel=>exact⟨lo,m,rfl,rfl,by omega,by omega,aG _,M.o _ _,bO.o _ _,b9.o,fun t z bW H=>by
     cases h:eT z (c1,c2)
     ·rfl
     ·rcases aQ m t with a2|a2
      ·have:=ji (kM bE.o a2 Y.o H) h;rw [a1.o] at this;cases this
      ·obtain rfl:t=m:=by omega
       rw [Y.o] at H;rw [<- aM H,a1.o] at h;cases h⟩
  ·obtain rfl:j=lo:=by omega
   have E:=f (Jq uQ l (c1,c2) j b9.o (by
    rcases aQ j n with h|h
    ·exact aK ⟨_,Z (by have:=G.o; omega),bP.o j _ (aG _) (Z (by have:=G.o; omega))⟩
    ·exact bJ (by have:=G.o; omega)))
   by_cases a6:j<n
   ·obtain⟨y,I⟩:∃ y,l[j]?=ah y:=⟨_,Z (by have:=G.o; omega)⟩;obtain⟨p,a7,S,T⟩:=Zi aE.o rfl G.o.symm I B.o;obtain⟨b0,N⟩:=Tj (c:=(c1,c2)) X.o;obtain⟨q,F⟩:∃ q,gU y (c1,c2)=q:=⟨_,rfl⟩;have C:=Tk y (c1,c2) q F wr;have b1:=f (show cC=(q == 0) by
     rw [bI.o,gZ,E.o,I,bD,beq_iff_eq,<- F,wY,decide_eq_true_eq])
    have M:=f (fun r u=>B.o.trans ((aJ wr r u).mono B.o.size));have a8:=f (show bT=j by rw [bC.o,E.o]);clear I F c7;have cD:decide ((j:Int)<(n:Int))=aW:=by simp; omega
    obtain⟨b7,b8⟩:=y;simp only at S T b0 N C;go_wp2;refine ko ?_
    repeat (go_big_quiet_step (first | (with_reducible exact C _ _) | exact Jt _ _))
    refine kr fun r u=>?_;clear a7 S T b0 N C;go_wp2
    go_ret2
    exact⟨by rw [b1.o,a8.o]; rfl,M.o _ _⟩
   ·have b1:=f (show cC=aU by
     rw [bI.o,gZ,E.o,aY (by have:=G.o; omega)])
    have a8:=f (show bT=j by rw [bC.o,E.o]);have M:=f (fun r u=>B.o.trans ((aJ wr r u).mono B.o.size));have cD:decide ((j:Int)<(n:Int))=aU:=by simp; omega
    clear c7;go_wp2;refine ko ?_
    repeat (go_big_quiet_step (fail))
    refine kr fun r u=>?_;go_wp2
    go_ret2
    exact⟨by rw [b1.o,a8.o]; rfl,M.o _ _⟩
abbrev mR (x:ku):fB:=(x.1,x.2.1)
theorem Zj {W j:aB} {v:aH} {l:List ku} {q:OA} {n c k:Nat} {x:ku} (h:zx W v l) (I:v=U q n c) (H:l.length=n) (G:l[k]?=ah x) (F:Below W.heap.size W j) :
  ∃ p:Addr,(∀ w,(Instr.indexAt 25 (U q n c) (J O k)).run aP w=.ok (aj (ah p)) w) /\
   (∀ d os,(grow (aL j d) os).cell? p=ah (J O x.1))/\(∀ d os,(grow (aL j d) os).cell? ⟨p.block,p.off+1,au⟩=ah (J O x.2.1))/\(∀ d os,(grow (aL j d) os).cell? ⟨p.block,p.off+2,au⟩=ah (eu x.2.2.1))/\(∀ d os,(grow (aL j d) os).cell? ⟨p.block,p.off+3,au⟩=ah (J O x.2.2.2)):=by
 obtain⟨p,r,u⟩:=Mv h I H G;obtain⟨c0,c1,c2,c3⟩:=u _ F;exact⟨p,r,aA c0,aA c1,aA c2,aA c3⟩
theorem Tn {W:aB} {b:Nat} {c:ku} (h:dN W b #[J O c.1,J O c.2.1,eu c.2.2.1,J O c.2.2.2] 36):(∀ d os,(grow (aL W d) os).cell? ⟨b,0,au⟩=ah (J O c.1))/\(∀ d os,(grow (aL W d) os).cell? ⟨b,1,au⟩=ah (J O c.2.1))/\(∀ d os,(grow (aL W d) os).cell? ⟨b,2,au⟩=ah (eu c.2.2.1))/\(∀ d os,(grow (aL W d) os).cell? ⟨b,3,au⟩=ah (J O c.2.2.2)) :=
 ⟨aA (h.cell 0),aA (h.cell 1),aA (h.cell 2),aA (h.cell 3)⟩
theorem Tp (c d:ku) (j:Int) (q:gU (c.1,c.2.1) (d.1,d.2.1)=j) (w:aB) (k:Nat) (os:Array Obj) :
  bK aP 36 #[nC c,nC d] (grow (aL w k) os) fun e r=>e=aT (J O j)/\∃ p:Regrown,r=grow (aL w p.d) p.os:=by
 subst q;exact Calls.regrown_of (I9 c d _)
theorem Tq (v:aH) (l:List ku) (c:ku) (w:aB) (bA:zx w v l) (F:kL mR l) (cL:l.length<=900) :
  bK aP 103 #[v,nC c,.func (.func 36) #[] #[]] w fun e w'=>e=aT (.tuple #[J O (fG mR l (c.1,c.2.1)),aS (gZ mR l (c.1,c.2.1))])/\Below w.heap.size w w':=by
 have b5:=f bA;have bP:=f F;have bM:=f (dR w #[J O c.1,J O c.2.1,eu c.2.2.1,J O c.2.2.2] 36);have bI:=f ((aI w.heap.size w).alloc (aG _) (aO #[J O c.1,J O c.2.1,eu c.2.2.1,J O c.2.2.2] 36));obtain⟨cV,cU,rfl⟩:=bA.len;obtain⟨n,b1⟩:∃ n,n=l.length:=⟨_,rfl⟩;rw [<- b1] at b5 cL ⊢;have G:=f b1;obtain⟨c7,b8⟩:∃ k,k=fG mR l (c.1,c.2.1):=⟨_,rfl⟩;obtain⟨cH,b9⟩:∃ k,k=gZ mR l (c.1,c.2.1):=⟨_,rfl⟩;rw [<- b8,<- b9];have bO:=f b8;have bT:=f b9;clear bA F b1 b8 b9;obtain⟨c1,c2,⟨c3,c4,c5⟩,T⟩:=c;go_enter Tryz.func103,Tryz.ntmps103;go_wp2;generalize w.alloc (aO #[J O c1,J O c2,U c3 c4 c5,J O T] 36)=w1 at *
 go_loopg [9,10] n (fun cM cP cN wr=>∃ lo j:Nat,cP=J O lo/\cN=J O j/\lo<=j/\j<=n/\j-lo<=cM/\Below w.heap.size w wr/\dN wr w.heap.size #[J O c1,J O c2,U c3 c4 c5,J O T] 36 /\
  (∀ (t:Nat) (y:ku),t<lo->l[t]?=ah y->eT (y.1,y.2.1) (c1,c2)=aW)/\(∀ (t:Nat) (y:ku),j<=t->l[t]?=ah y->eT (y.1,y.2.1) (c1,c2)=aU))
 case atStart=>exact⟨0,n,rfl,rfl,bg _,aG _,by omega,bI.o,bM.o,fun t y h=>by omega,fun t y c8 H=>by have:=(ak.1 H).1; have:=G.o; omega⟩
 case round =>
  clear bI bM;obtain⟨lo,j,rfl,rfl,cY,cJ,cX,cA,cF,c9,cG⟩:=hrel;have B:=f cA;have X:=f cF;have bE:=f c9;have c6:=f cG;clear cA cF c9 cG;by_cases cC:lo<j
  ·obtain⟨y,I⟩:∃ y,l[(lo+j) / 2]?=ah y:=⟨_,Z (by have:=G.o; omega)⟩;obtain⟨p,b2,a1,a2,a6,a7⟩:=Zj b5.o rfl G.o.symm I B.o;obtain⟨b0,N,S,b3⟩:=Tn (c:=(c1,c2,(c3,c4,c5),T)) X.o;obtain⟨q,F⟩:∃ q,gU (y.1,y.2.1) (c1,c2)=q:=⟨_,rfl⟩;have C:=Tp y (c1,c2,(c3,c4,c5),T) q F wr;have bW:=f (show decide (q<0)=eT (y.1,y.2.1) (c1,c2) by rw [<- F]; exact Jr _ _);have Y:=f I;clear I F;have cW:((lo:Int)+(j:Int)) / 2=(((lo+j) / 2:Nat):Int):=by omega
   generalize d0:(lo+j) / 2=m at *;have M:=f (fun r u=>B.o.trans ((aJ wr r u).mono B.o.size));have bX:=f (fun r u=>X.o.on (aJ wr r u));obtain⟨bB,bC,⟨cT,cS,cR⟩,cQ⟩:=y;simp only at a1 a2 a6 a7 b0 N S b3 C;by_cases cD:q<0
   ·have b7:decide (q<0)=aW:=by simpa using cD
    have a8:=f (show eT (bB,bC) (c1,c2)=aW by rw [<- bW.o]; exact b7);go_wp2;refine ko ?_
    repeat (go_big_quiet_step (first | (with_reducible exact C _ _) | exact Ju _ _))
    refine kr fun r u=>?_;clear b2 a1 a2 a6 a7 b0 N S b3 C;go_wp2
    go_roundg (j-(m+1))
    case measure=>omega
    case rel=>exact⟨m+1,j,by go_num,rfl,by omega,cJ,aG _,M.o _ _,bX.o _ _,fun t z c8 H=>by
     rcases aQ t m with aE|aE
     ·exact ji (kM bP.o (by omega) H Y.o) a8.o
     ·obtain rfl:t=m:=by omega
      rw [Y.o] at H;rw [<- aM H];exact a8.o,c6.o⟩
   ·have b7:decide (q<0)=aU:=by simpa using cD
    have a8:=f (show eT (bB,bC) (c1,c2)=aU by rw [<- bW.o]; exact b7);go_wp2;refine ko ?_
    repeat (go_big_quiet_step (first | (with_reducible exact C _ _) | exact Ju _ _))
    refine kr fun r u=>?_;clear b2 a1 a2 a6 a7 b0 N S b3 C;go_wp2
    go_roundg (m-lo)
    case measure=>omega
    case rel=>exact⟨lo,m,rfl,rfl,by omega,by omega,aG _,M.o _ _,bX.o _ _,bE.o,fun t z c8 H=>by
     cases h:eT (z.1,z.2.1) (c1,c2)
     ·rfl
     ·rcases aQ m t with aE|aE
      ·have:=ji (kM bP.o aE Y.o H) h;rw [a8.o] at this;cases this
      ·obtain rfl:t=m:=by omega
       rw [Y.o] at H;rw [<- aM H,a8.o] at h;cases h⟩
  ·obtain rfl:j=lo:=by omega
   have E:=f (Jq mR l (c1,c2) j bE.o (by
    rcases aQ j n with h|h
    ·exact aK ⟨_,Z (by have:=G.o; omega),c6.o j _ (aG _) (Z (by have:=G.o; omega))⟩
    ·exact bJ (by have:=G.o; omega)))
   by_cases b1:j<n
   ·obtain⟨y,I⟩:∃ y,l[j]?=ah y:=⟨_,Z (by have:=G.o; omega)⟩;obtain⟨p,b2,a1,a2,a6,a7⟩:=Zj b5.o rfl G.o.symm I B.o;obtain⟨b0,N,S,b3⟩:=Tn (c:=(c1,c2,(c3,c4,c5),T)) X.o;obtain⟨q,F⟩:∃ q,gU (y.1,y.2.1) (c1,c2)=q:=⟨_,rfl⟩;have C:=Tp y (c1,c2,(c3,c4,c5),T) q F wr;have b6:=f (show cH=(q == 0) by
     rw [bT.o,gZ,E.o,I,bD,beq_iff_eq,<- F,wY,decide_eq_true_eq])
    have M:=f (fun r u=>B.o.trans ((aJ wr r u).mono B.o.size));have b4:=f (show c7=j by rw [bO.o,E.o]);clear I F cC;have cI:decide ((j:Int)<(n:Int))=aW:=by simp; omega
    obtain⟨bB,bC,⟨cT,cS,cR⟩,cQ⟩:=y;simp only at a1 a2 a6 a7 b0 N S b3 C;go_wp2;refine ko ?_
    repeat (go_big_quiet_step (first | (with_reducible exact C _ _) | exact Ju _ _))
    refine kr fun r u=>?_;clear b2 a1 a2 a6 a7 b0 N S b3 C;go_wp2
    go_ret2
    exact⟨by rw [b6.o,b4.o]; rfl,M.o _ _⟩
   ·have b6:=f (show cH=aU by
     rw [bT.o,gZ,E.o,aY (by have:=G.o; omega)])
    have b4:=f (show c7=j by rw [bO.o,E.o]);have M:=f (fun r u=>B.o.trans ((aJ wr r u).mono B.o.size));have cI:decide ((j:Int)<(n:Int))=aU:=by simp; omega
    clear cC;go_wp2;refine ko ?_
    repeat (go_big_quiet_step (fail))
    refine kr fun r u=>?_;go_wp2
    go_ret2
    exact⟨by rw [b6.o,b4.o]; rfl,M.o _ _⟩
def adI (B:Nat) (j:Nat) (_:Int) (_ _ _ _:aH) (g n cap k:Nat) (q r:Int) (H:OA) (G F:Nat) (u:Int) (p:List C5) (i:Nat) (v:aH) (x:aB):Prop :=
 match i with
 | 0=>v=aj (ah ⟨j,2,au⟩)
 | 1=>v=U (ah ⟨g,0,au⟩) n cap
 | 2=>v=J O (k:Int)
 | 3=>v=aj (ah ⟨j,2,au⟩)
 | 4=>v=U (ah ⟨g,0,au⟩) n cap
 | 5=>v=J O (k:Int)
 | 6=>v=aj (ah ⟨g,k * 4,au⟩)
 | 7=>v=nC (q,r,(H,G,F),u)
 | 8=>∃ s:Sl,v=nC (q,r,s,u)/\iH x B (eu s) p
 | 9=>v=aj (ah ⟨g,k * 4,au⟩)
 | _=>True
noncomputable def akE:Code:=((Tryz.f33.body.bind (eX 6)).getD .skip)
theorem adJ (B:Nat) (j:Nat) (me:Int) (M z3 z4 z5:aH) (g n cap k:Nat) (r u:Int) (I:OA) (H G:Nat) (F:Int) (p:List C5) (i:Nat) (v:aH) (x q:aB) (h:adI B j me M z3 z4 z5 g n cap k r u I H G F p i v x) (T:Below x.heap.size x q):adI B j me M z3 z4 z5 g n cap k r u I H G F p i v q:=by
 by_cases a1:i<10
 ·rcases (by omega:i=0\/i=1\/i=2\/i=3\/i=4\/i=5\/i=6\/i=7\/i=8\/i=9) with rfl|rfl|rfl|rfl|rfl|rfl|rfl|rfl|rfl|rfl
  ·exact h
  ·exact h
  ·exact h
  ·exact h
  ·exact h
  ·exact h
  ·exact h
  ·exact h
  ·obtain⟨s,N,S⟩:=h; exact⟨s,N,Bk.dK S T⟩
  ·exact h
 ·unfold adI
  split <;> first | omega | trivial
theorem cp6 (Q:Exit->bN->aB->Prop) (W:aB) (e5:Nat) (l:List ku) (G:Nat) (me:Int) (e4 z3 z4 z5:aH) (g n cap k:Nat) (I r:Int) (T:OA) (S N:Nat) (M:Int) (p:List C5) {b1 u2 c8 cJ u6 u7 e1 u9 b2 u11 b4 u13 b5 b6 b7 b8 b9 bA bB bC bE bI bM bO bP bT bW bX c6 c7 eM eN eQ eR eS eV eW f0 f1 f2 c9 cA cC cD cF cG cH cI cL cM cN cP cQ cR cS cT cU cV cW cX cY d0 d1 d2 d3 d4 d5 d6 d7 d8 d9 dA dC dE dS dT dZ e0 e2 e3:aH}
  (a6:dN W G #[J O me,e4,U (ah ⟨g,0,au⟩) n cap,z3,z4,z5] 30) (q:nD W e5 (U (ah ⟨g,0,au⟩) n cap) l) (a7:l[k]?=ah (I,r,(T,S,N),M)) (eJ:fO W (U T S N) p) (eK:p.length<=900)
  (eB:∀ (x:aB) {f3 f4 f5 f6 f7 f8 f9 fL v40 fN:aH} (s1:OA) (s2 s3:Nat),iH x W.heap.size (U s1 s2 s3) p->nD x e5 (U (ah ⟨g,0,au⟩) n cap) (l.set k (I,r,(s1,s2,s3),M))->But g W x->(∀ a2,a2<=g->a2<=W.heap.size->Below a2 W x)->Q .normal ⟨(b1::aj (ah ⟨G,0,au⟩)::u2::J O (k:Int)::c8::cJ::u6::u7::e1::u9::b2::u11::b4::u13::b5::b6::b7::b8::b9::bA::bB::bC::bE::bI::bM::bO::bP::bT::bW::bX::c6::c7::f3::f4::f5::f6::f7::f8::f9::fL::v40::fN::c9::cA::cC::cD::cF::cG::cH::cI::cL::cM::cN::cP::cQ::cR::cS::cT::cU::cV::cW::cX::cY::d0::d1::d2::d3::d4::d5::d6::d7::d8::d9::dA::dC::dE::dS::dT::dZ::e0::e2::e3::[]).toArray,[]⟩ x) :
  Code.wp aP akE Q ⟨(b1::aj (ah ⟨G,0,au⟩)::u2::J O (k:Int)::c8::cJ::u6::u7::e1::u9::b2::u11::b4::u13::b5::b6::b7::b8::b9::bA::bB::bC::bE::bI::bM::bO::bP::bT::bW::bX::c6::c7::eM::eN::eQ::eR::eS::eV::eW::f0::f1::f2::c9::cA::cC::cD::cF::cG::cH::cI::cL::cM::cN::cP::cQ::cR::cS::cT::cU::cV::cW::cX::cY::d0::d1::d2::d3::d4::d5::d6::d7::d8::d9::dA::dC::dE::dS::dT::dZ::e0::e2::e3::[]).toArray,[]⟩ W:=by
 have e8:=f eB;have e6:=f a6;have e7:=f q;have fV:=f a7;have fS:=f eJ;have fW:=f eK;have e9:=f (oI okD g k n cap (by obtain⟨_,_,a1⟩:=(Row.dL q).len; have h:=(ak.1 a7).1; simp at a1; omega));have fR:=f (kR okD q a7);clear eB a6 q a7 eJ eK;have gR:=adJ W.heap.size G me e4 z3 z4 z5 g n cap k I r T S N M p;unfold akE
 conv=>arg 2; whnf
 have nd:∀ j,(j<32\/42<=j)->∀ i,i<10->(fun i=>32+i) i≠j:=by
  intro j eI i eE h;simp only at h;omega
 refine Rg.gN 11 10 (fun i=>32+i) (fun _=>10) (adI W.heap.size G me e4 z3 z4 z5 g n cap k I r T S N M p) (by kernel_rfl) (by kernel_rfl) rfl (by decide) (fun i j _ _ h=>by have g8:32+i=32+j:=h; omega) (fun i eE=>by show 32+i<82; omega) ?_ (fun _=>Rg.kJ 14 (by kernel_rfl)) ?_ ?_
 ·intro i o eE q a x D h7 eC h6 F seen K H;clear e8;rcases (by omega:i=0\/i=1\/i=2\/i=3\/i=4\/i=5\/i=6\/i=7\/i=8\/i=9) with rfl|rfl|rfl|rfl|rfl|rfl|rfl|rfl|rfl|rfl
  ·cases q;have a8:a.eval (aN 1)=aj (ah ⟨G,0,au⟩):=seen.kp 1 _ (nd 1 (by omega)) rfl;exact aX rfl rfl (bS a.eval _ 30 (aN 1) 2 rfl (by rw [a8]; simp [go_sem])) (H _ _ rfl (aI _ _) fun _ _ _ _ _ _ _ h=>h)
  ·cases q;have fX:a.eval (aN 32)=aj (ah ⟨G,2,au⟩):=seen.at_ ⟨0,.data⟩ (by simp) rfl (aK (by decide));have r:=(e6.o.on F).cell 2;simp only [aC,aD,aF] at r;exact aX rfl rfl (bQ a.eval _ 25 (aN 32) rfl (by rw [fX]; simp [go_sem,r])) (H _ _ rfl (aI _ _) fun _ _ _ _ _ _ _ h=>h)
  ·cases q;have aE:a.eval (aN 3)=J O (k:Int):=seen.kp 3 _ (nd 3 (by omega)) rfl;exact aX rfl rfl (Rg.gF a.eval _ (aN 3) rfl x) (H _ _ aE (aI _ _) fun _ _ _ _ _ _ _ h=>h)
  ·cases q;have a8:a.eval (aN 1)=aj (ah ⟨G,0,au⟩):=seen.kp 1 _ (nd 1 (by omega)) rfl;exact aX rfl rfl (bS a.eval _ 30 (aN 1) 2 rfl (by rw [a8]; simp [go_sem])) (H _ _ rfl (aI _ _) fun _ _ _ _ _ _ _ h=>h)
  ·cases q;have g1:a.eval (aN 35)=aj (ah ⟨G,2,au⟩):=seen.at_ ⟨3,.data⟩ (by simp) rfl (aK (by decide));have r:=(e6.o.on F).cell 2;simp only [aC,aD,aF] at r;exact aX rfl rfl (bQ a.eval _ 25 (aN 35) rfl (by rw [g1]; simp [go_sem,r])) (H _ _ rfl (aI _ _) fun _ _ _ _ _ _ _ h=>h)
  ·cases q;have aE:a.eval (aN 3)=J O (k:Int):=seen.kp 3 _ (nd 3 (by omega)) rfl;exact aX rfl rfl (Rg.gF a.eval _ (aN 3) rfl x) (H _ _ aE (aI _ _) fun _ _ _ _ _ _ _ h=>h)
  ·cases q;have g2:a.eval (aN 36)=U (ah ⟨g,0,au⟩) n cap:=seen.at_ ⟨4,.data⟩ (by simp) rfl (aK (by decide));have g3:a.eval (aN 37)=J O (k:Int):=seen.at_ ⟨5,.data⟩ (by simp) rfl (aK (by decide));exact aX rfl rfl (Rg.qY a.eval _ 25 (aN 36) (aN 37) rfl (by rw [g2,g3]; exact e9.o x)) (H _ _ rfl (aI _ _) fun _ _ _ _ _ _ _ h=>h)
  ·cases q;have g4:a.eval (aN 38)=aj (ah ⟨g,k * 4,au⟩):=seen.at_ ⟨6,.data⟩ (by simp) rfl (aK (by decide));exact aX rfl rfl (bQ a.eval _ 36 (aN 38) rfl (by rw [g4]; exact X9 x _ (I,r,(T,S,N),M) (fR.o x F))) (H _ _ rfl (aI _ _) fun _ _ _ _ _ _ _ h=>h)
  ·cases q;have g5:a.eval (aN 39)=nC (I,r,(T,S,N),M):=seen.at_ ⟨7,.data⟩ (by simp) rfl (aK (by decide));exact Rg.gK rfl rfl (Rw.jq a.eval _ (aN 39) 36 35 rfl g5 rfl _ (gB Tryz.func35 rfl rfl _ _)) (Fa (I,r,(T,S,N),M) p x (fS.o.on F) fW.o) fun e w1 h=>by
    obtain⟨⟨s,rfl,a6⟩,eA⟩:=h;exact⟨_,rfl,H _ _ ⟨s,rfl,dO a6 F.size⟩ (eA.mono F.size) fun j u eI _ _ _ h8 h=>gR j u _ _ h eA⟩
  ·cases q;have fY:a.eval (aN 33)=U (ah ⟨g,0,au⟩) n cap:=seen.at_ ⟨1,.data⟩ (by simp) rfl (aK (by decide));have g0:a.eval (aN 34)=J O (k:Int):=seen.at_ ⟨2,.data⟩ (by simp) rfl (aK (by decide));exact aX rfl rfl (Rg.qY a.eval _ 25 (aN 33) (aN 34) rfl (by rw [fY,g0]; exact e9.o x)) (H _ _ rfl (aI _ _) fun _ _ _ _ _ _ _ h=>h)
 ·intro h9 o a6 g8 q;omega
 ·intro a w' df sz kp ⟨h4,a1⟩ F;have h3:a.tmps.size=82:=sz;have g7:a.tmps[41]?=ah (aj (ah ⟨g,k * 4,au⟩)):=by
   have h:h4 9=aj (ah ⟨g,k * 4,au⟩):=(a1 9 (by omega)).2 (by decide);rw [<- h];exact (a1 9 (by omega)).1
  obtain⟨⟨s1,s2,s3⟩,gO,eC⟩:=(a1 8 (by omega)).2 (by decide);have g6:a.tmps[40]?=ah (nC (I,r,(s1,s2,s3),M)):=((a1 8 (by omega)).1).trans (congrArg ah gO);obtain⟨h5,gI,h1,eL,h2⟩:=aiD (k:=k) (I,r,(s1,s2,s3),M) (Bk.dK e7.o F) (ak.1 fV.o).1;obtain⟨cur,gA⟩:=jX (Bk.dK e7.o F);show Rg.fU _ _ _ 1 10 a w';simp only [Rg.fU];refine Rg.gq 36 (aN 41) (aN 40) rfl rfl rfl rfl (bG g7) (bG g6) (w':=h5) gI ?_;have h0:∀ j,(j<32\/42<=j)->(a).tmps[j]?=(b1::aj (ah ⟨G,0,au⟩)::u2::J O (k:Int)::c8::cJ::u6::u7::e1::u9::b2::u11::b4::u13::b5::b6::b7::b8::b9::bA::bB::bC::bE::bI::bM::bO::bP::bT::bW::bX::c6::c7::eM::eN::eQ::eR::eS::eV::eW::f0::f1::f2::c9::cA::cC::cD::cF::cG::cH::cI::cL::cM::cN::cP::cQ::cR::cS::cT::cU::cV::cW::cX::cY::d0::d1::d2::d3::d4::d5::d6::d7::d8::d9::dA::dC::dE::dS::dT::dZ::e0::e2::e3::[])[j]?:=fun j eI=>(kp j (nd j (by omega))).trans aC;obtain⟨gS,gE,g9⟩:=Rg.gG (a:=a) 32 10 df (by simp [h3]) (by simp) h0;show Q .normal (a) _;rw [g9]
  match gS,gE with
  | [f3,f4,f5,f6,f7,f8,f9,fL,v40,fN],_ =>
   exact e8.o _ s1 s2 s3 (eL.own eC gA (by decide)) h1 ((But.of_below F).trans eL) fun a2 hB gC=>h2 a2 W hB (F.mono gC)
def gY (l:List Ad) (x:fB):Option Ad:=l.find? fun a=>decide (a.id=x)
theorem uR {l:List Ad} {x:fB} (h:∀ (j:Nat) (a:Ad),l[j]?=ah a->a.id≠x):gY l x=au:=by
 unfold gY;rw [List.find?_eq_none];intro a q;obtain⟨j,r⟩:=List.mem_iff_getElem?.1 q;simpa using h j a r
theorem tN:∀ {l:List Ad} {x:fB} {k:Nat} {a:Ad},l[k]?=ah a->a.id=x->(∀ (j:Nat) (z:Ad),j<k->l[j]?=ah z->z.id≠x)->gY l x=ah a
 | [],_,_,_,h,_,_=>by simp at h
 | b::l,x,0,a,h,q,_=>by
  obtain rfl:b=a:=by simpa using h
  simp [gY,q]
 | b::l,x,k+1,a,h,q,r=>by
  have u:=r 0 b (by omega) rfl;have G:=tN (l:=l) (x:=x) (k:=k) (a:=a) (by simpa using h) q fun j z H F=>r (j+1) z (by omega) (by simpa using F);unfold gY at *;rw [List.find?_cons_of_neg (by simpa using u)];exact G
def akF (W:aB) (o:Option Ad) (w:aB) (e:Ending) (w':aB):Prop:=(match o with
 | none=>e=aT (.tuple #[nC (0,0,(au,0,0),0),aS aU])
 | some a=>∃ j:ku,e=aT (.tuple #[nC j,aS aW])/\rP w' j a)/\Below W.heap.size w w'
theorem NK (me:Int) (T a2 S a1:aH) (av:Sl) (l:List ku) (al:List Ad) (x:fB) (w:aB) (b4:zx w (eu av) l) (cW:eY (rP w) l al) (d0:∀ a∈al,a.p.length<=900) :
  bK aP 116 #[bR #[J O me,T,eu av,a2,S,a1],nP x] w (akF w (gY al x) w):=by
 obtain⟨c,d⟩:=x;obtain⟨N,d9,sc⟩:=av;obtain⟨cR,cQ,b6⟩:=b4.len;have b6:U N d9 sc=U cR l.length cQ:=b6;obtain⟨rfl,rfl,rfl⟩:N=cR/\d9=l.length/\sc=cQ:=by simpa using b6
 obtain⟨bM,a7,cU⟩:=gX w #[J O me,T,U N l.length sc,a2,S,a1] #[J O c,J O d] 30 23;have M:=fP ((w.alloc (aO #[J O me,T,U N l.length sc,a2,S,a1] 30)).alloc (aO #[J O c,J O d] 23)) (aO #[J O 0,J O 0,U au 0 0,J O 0] 36);have bO:=dR ((w.alloc (aO #[J O me,T,U N l.length sc,a2,S,a1] 30)).alloc (aO #[J O c,J O d] 23)) #[J O 0,J O 0,U au 0 0,J O 0] 36;have d5:((w.alloc (aO #[J O me,T,U N l.length sc,a2,S,a1] 30)).alloc (aO #[J O c,J O d] 23)).heap.size=w.heap.size+1+1:=by simp
 rw [d5] at bO;have B:=f (bM.trans (M.mono bM.size));have cJ:=f (b4.on B.o);have a6:=f (cW.mono fun _ _ h=>h.on B.o);have cN:=f (a7.on M);have cP:=f (cU.on M);have bI:=f bO;have dE:=f d0;have d6:=b4.most;unfold maxLen at d6;obtain⟨n,bW⟩:∃ n,n=l.length:=⟨_,rfl⟩;have d8:=cN.o.cell 2;simp only [aC,aD,aF] at d8;rw [<- bW] at cJ cN cP bI a6 d6 d8 B ⊢;have aE:=f bW.symm;obtain⟨cT,bT⟩:∃ o,o=gY al (c,d):=⟨_,rfl⟩;rw [<- bT];have cH:=f bT;clear bM a7 cU M bO b4 b6 bW cW d0 d5 bT;go_enter Tryz.func116,Tryz.ntmps116;go_upto_region 1 with fail;generalize ((w.alloc (aO #[J O me,T,U N n sc,a2,S,a1] 30)).alloc (aO #[J O c,J O d] 23)).alloc (aO #[J O 0,J O 0,U au 0 0,J O 0] 36)=W at *;go_wp2
 go_loopw [11] (fun i wr=>∃ k:Nat,k<=n/\i=J O k/\Below W.heap.size W wr/\∀ (j:Nat) (y:ku),j<k->l[j]?=ah y->(y.1,y.2.1)≠(c,d)) (fun i _=>n-(intOf i).toNat)
 case atStart=>exact⟨0,bg _,rfl,aI _ _,fun j y h=>by omega⟩
 case round =>
  obtain⟨k,e8,rfl,cY,cX⟩:=hrel;have H:=f cY;have b8:=f cX;clear cY cX;by_cases d2:k<n
  ·obtain⟨y,c7⟩:∃ y,l[k]?=ah y:=⟨_,Z (by rw [aE.o]; exact d2)⟩;obtain⟨p,eA,d7⟩:=Mv cJ.o rfl aE.o c7;obtain⟨dS,dT,dZ,e0⟩:=d7 wr H.o;obtain⟨q,F,⟨cG,cF,cD⟩,I⟩:=y;simp only at dS dT dZ e0;have b1:=f (fP wr (aO #[J O q,J O F,U cG cF cD,J O I] 36));obtain⟨eB,eC⟩:=((cP.o.on H.o).on b1.o).cs2;have e9:IntKind.i64.wrap ((k:Int)+1)=(k:Int)+1:=IntWalk.i64_in _ (by omega);obtain⟨r,bX⟩:∃ r,(q == c && F == d)=r:=⟨_,rfl⟩;have e7:=uL q F c d r bX;have cL:=f c7;have cI:=f bX;clear d7 c7 bX;cases r
   ·go_wp2
    go_roundw
    case rel=>exact⟨k+1,by omega,by go_num,H.o.trans (b1.o.mono H.o.size),fun j e5 d1 a7=>by
     rcases aQ j k with M|M
     ·exact b8.o j e5 M a7
     ·obtain rfl:j=k:=by omega
      have cS:=cL.o;rw [a7] at cS;rw [aM cS];intro e;obtain⟨rfl,rfl⟩:q=c/\F=d:=by simpa using e
      have:=cI.o;simp at this⟩
    case measure=>simp [intOf]; omega
   ·obtain⟨a,b2⟩:∃ a,al[k]?=ah a:=⟨_,Z (by rw [<- a6.o.len,aE.o]; exact d2)⟩;obtain⟨z,c8,b7⟩:=a6.o.at k a b2;rw [cL.o] at c8;obtain rfl:=aM c8;have b9:=f (H.o.trans (b1.o.mono H.o.size));have C:=f (Fa (q,F,(cG,cF,cD),I) a.p _ (b7.2.2.on b9.o) (dE.o a (List.mem_of_getElem? b2)));have cM:=f b7;have cV:=cI.o;obtain⟨rfl,rfl⟩:q=c/\F=d:=by simpa using cV
    have bB:=f (show cT=ah a by
     rw [cH.o];refine tN b2 b7.1.symm fun j z d1 c9=>?_;obtain⟨u,b5,c6⟩:=a6.o.at j z c9;rw [<- c6.1];exact b8.o j u d1 b5)
    have bE:=(bI.o.on H.o).on b1.o;clear c8 b7 b2 cV;go_wp2_with fail;refine C.o.mono ?_;rintro e w1 ⟨⟨⟨a8,u2,u3⟩,rfl,d3⟩,bP⟩;have G:=bE.on bP;have dA:=f (b9.o.trans (bP.mono b9.o.size));obtain⟨e1,e2,e3,e4⟩:=G.Ib;obtain⟨t0,t1,t2,t3⟩:=G.fs4;have e6:=G.lt;have d4:w.heap.size+1+1<(wr.alloc (aO #[J O q,J O F,U cG cF cD,J O I] 36)).heap.size:=bE.lt;have bC:=f (E8 G (J O q) (J O F) (U a8 u2 u3) (J O I));have bA:=f (yO (b:=w.heap.size+1+1) (B.o.trans (dA.o.mono B.o.size)) (by omega) (J O q) (J O F) (U a8 u2 u3) (J O I));have dC:=f (Nn d3 (w.heap.size+1+1) d4 (J O q) (J O F) (U a8 u2 u3) (J O I));clear G d3 bP d4 bE;go_wp2_with fail;obtain⟨v0,cA,cC,v3⟩:=bC.o.Ib;refine bf (v:=.tuple #[bR #[J O q,J O F,U a8 u2 u3,J O I],aS aW]) (by simp [results,bF,go_sem,v0,cA,cC,v3]) rfl ?_;rw [bB.o];exact⟨⟨(q,F,(a8,u2,u3),I),rfl,cM.o.1,cM.o.2.1,Row.dL dC.o⟩,bA.o⟩
  ·obtain rfl:k=n:=by omega
   have bB:=f (show cT=au by
    rw [cH.o];refine uR fun j z c9=>?_;obtain⟨u,b5,c6⟩:=a6.o.at j z c9;rw [<- c6.1];exact b8.o j u (by rw [<- aE.o]; exact (ak.1 b5).1) b5)
   have G:=bI.o.on H.o;obtain⟨e1,e2,e3,e4⟩:=G.Ib;obtain⟨t0,t1,t2,t3⟩:=G.fs4;have e6:=G.lt;have bC:=f (E8 G (J O 0) (J O 0) (U au 0 0) (J O 0));have bA:=f (yO (b:=w.heap.size+1+1) (B.o.trans (H.o.mono B.o.size)) (by omega) (J O 0) (J O 0) (U au 0 0) (J O 0));clear G;go_wp2_with fail;obtain⟨v0,cA,cC,v3⟩:=bC.o.Ib;refine bf (v:=.tuple #[bR #[J O 0,J O 0,U au 0 0,J O 0],aS aU]) (by simp [results,bF,go_sem,v0,cA,cC,v3]) rfl ?_;rw [bB.o];exact⟨rfl,bA.o⟩
end Av
namespace Bk
open Go.RowKit Rw YtghlpefopidlaaaGreat.Nm Pr
noncomputable def aeW:Code:=((Tryz.f57.body.bind (eX 9)).getD .skip)
structure P9 (base:bN) (v0 v2:aH) (p:aH) (W W':aB) (L:Array Bool) (a:bN) (x:aB):Prop where
 df:a.defers=base.defers
 sz:a.tmps.size=base.tmps.size
 kp:∀ j,j≠112->j≠113->j≠114->j≠5->a.tmps[j]?=base.tmps[j]?
 t0:aV L 0->a.tmps[112]?=ah v0
 t1:aV L 1->a.tmps[113]?=ah p
 t2:aV L 2->a.tmps[114]?=ah v2
 t4:aV L 4->a.tmps[5]?=ah v2
 w0:¬ aV L 3->x=W.drew
 w1:aV L 3->x=W'
 c3:aV L 3->aV L 0
theorem AX (Q:Exit->bN->aB->Prop) (W:aB) (b5 b3 F:Nat) (me:Int) (a8 aE b1 b2 b4:OA) (T c1 a1 c2 a2 c3 a6 c4 a7 c5:Nat) (bC bE bI bM bO bP z0 hR hS z3 z4 z5:aH) (up:Bool) {c8 c9 eK u6 u7 g4 u9 cA u11 cU u13 cV cW cX cY d0 d1 d2 d3 d4 d5 d6 d7 d8 d9 dA dC dE dS dT dZ e0 e1 e2 e3 e4 e5 e6 e7 e8 e9 eA eB eC eE eI eJ eL eM eN eQ eR eS eV eW f0 f1 f2 f3 f4 f5 f6 f7 f8 f9 fL fN fR fS fV fW fX fY g0 g1 g2 g3 g5 g6 g7 g8 g9 gA gC gE gI gO gR gS h0 h1 h2 h3 h4 h5 h6 h7 cC cD cF cG cH cI cJ cL cM cN cP cQ cR cS cT:aH}
  (bT:dN W b5 #[J O me,U a8 T c1,U aE a1 c2,U b1 a2 c3,U b2 a6 c4,U b4 a7 c5] 30) (r:dN W b3 #[bC,bE,bI,bM,bO,bP,aS up] 67) (bW:dN W F #[z0,hR,hS,z3,z4,z5] 30) (c7:b3≠F)
  (bX:∀ (a:bN) (x:aB),a.defers=[]->a.tmps[4]?=ah (aj (ah ⟨F,0,au⟩))->a.tmps[5]?=ah (aS up)->x=gH W.drew F (J O me) (U a8 T c1) (U aE a1 c2) (U b1 a2 c3) (U b2 a6 c4) (U b4 a7 c5)->Q .normal a x) :
  Code.wp aP aeW Q ⟨(c8::c9::aj (ah ⟨b5,0,au⟩)::aj (ah ⟨b3,0,au⟩)::aj (ah ⟨F,0,au⟩)::eK::u6::u7::g4::u9::cA::u11::cU::u13::cV::cW::cX::cY::d0::d1::d2::d3::d4::d5::d6::d7::d8::d9::dA::dC::dE::dS::dT::dZ::e0::e1::e2::e3::e4::e5::e6::e7::e8::e9::eA::eB::eC::eE::eI::eJ::eL::eM::eN::eQ::eR::eS::eV::eW::f0::f1::f2::f3::f4::f5::f6::f7::f8::f9::fL::fN::fR::fS::fV::fW::fX::fY::g0::g1::g2::g3::g5::g6::g7::g8::g9::gA::gC::gE::gI::gO::gR::gS::h0::h1::h2::h3::h4::h5::h6::h7::cC::cD::cF::cG::cH::cI::cJ::cL::cM::cN::cP::cQ::cR::cS::cT::[]).toArray,[]⟩ W:=by
 have hD:=f bX;have h9:=f bT.drew;have hA:=f r.drew;have hC:=f bW.drew;have hE:=f (show dN (gH W.drew F (J O me) (U a8 T c1) (U aE a1 c2) (U b1 a2 c3) (U b2 a6 c4) (U b4 a7 c5)) b3 #[bC,bE,bI,bM,bO,bP,aS up] 67 from (dP W.drew F (J O me) (U a8 T c1) (U aE a1 c2) (U b1 a2 c3) (U b2 a6 c4) (U b4 a7 c5) b3 c7).trans r.drew);clear bX bT r bW c7;unfold aeW
 conv=>arg 2; whnf
 obtain⟨base,G⟩:∃ b:bN,b=⟨(c8::c9::aj (ah ⟨b5,0,au⟩)::aj (ah ⟨b3,0,au⟩)::aj (ah ⟨F,0,au⟩)::eK::u6::u7::g4::u9::cA::u11::cU::u13::cV::cW::cX::cY::d0::d1::d2::d3::d4::d5::d6::d7::d8::d9::dA::dC::dE::dS::dT::dZ::e0::e1::e2::e3::e4::e5::e6::e7::e8::e9::eA::eB::eC::eE::eI::eJ::eL::eM::eN::eQ::eR::eS::eV::eW::f0::f1::f2::f3::f4::f5::f6::f7::f8::f9::fL::fN::fR::fS::fV::fW::fX::fY::g0::g1::g2::g3::g5::g6::g7::g8::g9::gA::gC::gE::gI::gO::gR::gS::h0::h1::h2::h3::h4::h5::h6::h7::cC::cD::cF::cG::cH::cI::cJ::cL::cM::cN::cP::cQ::cR::cS::cT::[]).toArray,[]⟩:=⟨_,rfl⟩;have hF:base.tmps[2]?=ah (aj (ah ⟨b5,0,au⟩)):=by rw [G]; rfl
 have hG:base.tmps[3]?=ah (aj (ah ⟨b3,0,au⟩)):=by rw [G]; rfl
 have bB:base.tmps[4]?=ah (aj (ah ⟨F,0,au⟩)):=by rw [G]; rfl
 have hI:base.tmps.size=115:=by rw [G]; rfl
 have hH:base.defers=[]:=by rw [G]
 rw [<- G];clear G;generalize hJ:gH W.drew F (J O me) (U a8 T c1) (U aE a1 c2) (U b1 a2 c3) (U b2 a6 c4) (U b4 a7 c5)=bA at *;refine Rg.qX (fun L a x=>P9 base (bR #[J O me,U a8 T c1,U aE a1 c2,U b1 a2 c3,U b2 a6 c4,U b4 a7 c5]) (aS up) (aj (ah ⟨b3,6,au⟩)) W bA L a x) (by kernel_rfl) (by kernel_rfl) ?_ ?_ ?_
 ·exact⟨rfl,rfl,fun _ _ _ _ _=>rfl,fun h=>absurd h (bL _ _),fun h=>absurd h (bL _ _),fun h=>absurd h (bL _ _),fun h=>absurd h (bL _ _),fun _=>rfl,fun h=>absurd h (bL _ _),fun h=>absurd h (bL _ _)⟩
 ·intro L a x i o hL j S c6 b6;have hV:i<5:=(ak.1 S).1;have hU:L.size=5:=hL;have h8:i<L.size:=by omega
  have hO:a.eval (aN 2)=aj (ah ⟨b5,0,au⟩):=bG ((j.kp 2 (by decide) (by decide) (by decide) (by decide)).trans hF);have hP:a.eval (aN 3)=aj (ah ⟨b3,0,au⟩):=bG ((j.kp 3 (by decide) (by decide) (by decide) (by decide)).trans hG);have hQ:a.eval (aN 4)=aj (ah ⟨F,0,au⟩):=bG ((j.kp 4 (by decide) (by decide) (by decide) (by decide)).trans bB);have hT:a.tmps.size=115:=j.sz.trans hI;have b7:∀ (d:Nat) (v:aH),d<115->(a.put (ah d) v).tmps[d]?=ah v:=fun d v b8=>by
   have:d<a.tmps.size:=by omega
   simp [Act.put,this]
  have q:=fun u=>Rg.iJ h8 u;rcases (by omega:i=0\/i=1\/i=2\/i=3\/i=4) with rfl|rfl|rfl|rfl|rfl
  ·cases S;have b9:x=W.drew:=j.w0 fun h=>c6 (j.c3 h);exact aX rfl rfl (bQ a.eval _ 30 (aN 2) rfl (by rw [hO,b9]; exact sN h9.o)) ⟨j.df,(aZ a _ _).trans j.sz,fun u H I M N=>(ay _ _ _ u (by omega)).trans (j.kp u H I M N),fun _=>b7 112 _ (by decide),fun h=>(ay _ _ _ 113 (by decide)).trans (j.t1 (((q 1).1 h).resolve_left (by decide))),fun h=>(ay _ _ _ 114 (by decide)).trans (j.t2 (((q 2).1 h).resolve_left (by decide))),fun h=>(ay _ _ _ 5 (by decide)).trans (j.t4 (((q 4).1 h).resolve_left (by decide))),fun h=>j.w0 fun r=>h ((q 3).2 (aK r)),fun h=>j.w1 (((q 3).1 h).resolve_left (by decide)),fun h=>(q 0).2 (bJ rfl)⟩
  ·cases S;exact aX rfl rfl (bS a.eval _ 67 (aN 3) 4 rfl (by rw [hP]; simp [go_sem])) ⟨j.df,(aZ a _ _).trans j.sz,fun u H I M N=>(ay _ _ _ u (by omega)).trans (j.kp u H I M N),fun h=>(ay _ _ _ 112 (by decide)).trans (j.t0 (((q 0).1 h).resolve_left (by decide))),fun _=>b7 113 _ (by decide),fun h=>(ay _ _ _ 114 (by decide)).trans (j.t2 (((q 2).1 h).resolve_left (by decide))),fun h=>(ay _ _ _ 5 (by decide)).trans (j.t4 (((q 4).1 h).resolve_left (by decide))),fun h=>j.w0 fun r=>h ((q 3).2 (aK r)),fun h=>j.w1 (((q 3).1 h).resolve_left (by decide)),fun h=>(q 0).2 (aK (j.c3 (((q 3).1 h).resolve_left (by decide))))⟩
  ·cases S;have hM:a.eval (aN 113)=aj (ah ⟨b3,6,au⟩):=bG (j.t1 (b6 ⟨1,.data⟩ (by simp) rfl));have hK:x.cell? ⟨b3,6,au⟩=ah (aS up):=by
    by_cases r:aV L 3
    ·rw [j.w1 r]; exact hE.o.cell 6
    ·rw [j.w0 r]; exact hA.o.cell 6
   exact aX rfl rfl (bQ a.eval _ 4 (aN 113) rfl (by rw [hM]; simp [go_sem,hK])) ⟨j.df,(aZ a _ _).trans j.sz,fun u H I M N=>(ay _ _ _ u (by omega)).trans (j.kp u H I M N),fun h=>(ay _ _ _ 112 (by decide)).trans (j.t0 (((q 0).1 h).resolve_left (by decide))),fun h=>(ay _ _ _ 113 (by decide)).trans (j.t1 (((q 1).1 h).resolve_left (by decide))),fun _=>b7 114 _ (by decide),fun h=>(ay _ _ _ 5 (by decide)).trans (j.t4 (((q 4).1 h).resolve_left (by decide))),fun h=>j.w0 fun r=>h ((q 3).2 (aK r)),fun h=>j.w1 (((q 3).1 h).resolve_left (by decide)),fun h=>(q 0).2 (aK (j.c3 (((q 3).1 h).resolve_left (by decide))))⟩
  ·cases S;have b9:x=W.drew:=j.w0 c6;refine Rg.gq 30 (aN 4) (aN 112) rfl rfl rfl rfl hQ (bG (j.t0 (b6 ⟨0,.data⟩ (by simp) rfl))) (w':=bA) (by rw [b9,<- hJ]; exact o7 hC.o me _ _ _ _ _ _ _ _ _ _ _ _ _ _ _) ?_;exact⟨j.df,j.sz,j.kp,fun h=>j.t0 (((q 0).1 h).resolve_left (by decide)),fun h=>j.t1 (((q 1).1 h).resolve_left (by decide)),fun h=>j.t2 (((q 2).1 h).resolve_left (by decide)),fun h=>j.t4 (((q 4).1 h).resolve_left (by decide)),fun h=>absurd ((q 3).2 (bJ rfl)) h,fun _=>rfl,fun _=>(q 0).2 (aK (b6 ⟨0,.data⟩ (by simp) rfl))⟩
  ·cases S;have hN:a.eval (aN 114)=aS up:=bG (j.t2 (b6 ⟨2,.data⟩ (by simp) rfl));exact aX rfl rfl (Rg.kG a.eval _ (aN 114) rfl x) (by rw [hN]; exact⟨j.df,(aZ a _ _).trans j.sz,fun u H I M N=>(ay _ _ _ u (by omega)).trans (j.kp u H I M N),fun h=>(ay _ _ _ 112 (by decide)).trans (j.t0 (((q 0).1 h).resolve_left (by decide))),fun h=>(ay _ _ _ 113 (by decide)).trans (j.t1 (((q 1).1 h).resolve_left (by decide))),fun h=>(ay _ _ _ 114 (by decide)).trans (j.t2 (((q 2).1 h).resolve_left (by decide))),fun _=>b7 5 _ (by decide),fun h=>j.w0 fun r=>h ((q 3).2 (aK r)),fun h=>j.w1 (((q 3).1 h).resolve_left (by decide)),fun h=>(q 0).2 (aK (j.c3 (((q 3).1 h).resolve_left (by decide))))⟩)
 ·intro L a x j b8;exact hD.o a x (j.df.trans hH) ((j.kp 4 (by decide) (by decide) (by decide) (by decide)).trans bB) (j.t4 (b8 4 (by decide))) ((j.w1 (b8 3 (by decide))))
end Bk
namespace Sb
open Go.RowKit Go.Sort Rw YtghlpefopidlaaaGreat.Nm Pr Bk Av
abbrev NP (W:aB) (b:Nat) (a0 a1 a2 a3 a4 a5 a6:aH):aB:=((((((W.setCell ⟨b,0,au⟩ a0).setCell ⟨b,1,au⟩ a1).setCell ⟨b,2,au⟩ a2).setCell ⟨b,3,au⟩ a3).setCell ⟨b,4,au⟩ a4).setCell ⟨b,5,au⟩ a5).setCell ⟨b,6,au⟩ a6
theorem Fq {W:aB} {b:Nat} {t:TypeId} {z0 F G z3 z4 z5 H:aH} (h:dN W b #[z0,F,G,z3,z4,z5,H] t) (a0 j q a3 a4 a5 r:aH):dN (NP W b a0 j q a3 a4 a5 r) b #[a0,j,q,a3,a4,a5,r] t:=by
 have u:=eD (k:=6) (eD (k:=5) (eD (k:=4) (eD (k:=3) (eD (k:=2) (eD (k:=1) (eD (k:=0) h a0) j) q) a3) a4) a5) r;simpa using u
theorem yQ {B:Nat} {q W:aB} {b:Nat} (h:Below B q W) (j:B<=b) (a0 r u a3 a4 a5 F:aH):Below B q (NP W b a0 r u a3 a4 a5 F):=(((((((h).setCell (p:=⟨b,0,au⟩) j a0).setCell (p:=⟨b,1,au⟩) j r).setCell (p:=⟨b,2,au⟩) j u).setCell (p:=⟨b,3,au⟩) j a3).setCell (p:=⟨b,4,au⟩) j a4).setCell (p:=⟨b,5,au⟩) j a5).setCell (p:=⟨b,6,au⟩) j F
theorem Zk {α:Type} {E:Ek α} {W:aB} {B:Nat} {v:aH} {l:List α} (h:Own E W B v l) (b:Nat) (j:b<B) (a0 q r a3 a4 a5 u:aH):Own E (NP W b a0 q r a3 a4 a5 u) B v l :=
 eF (eF (eF (eF (eF (eF (eF (h) b 0 a0 j) b 1 q j) b 2 r j) b 3 a3 j) b 4 a4 j) b 5 a5 j) b 6 u j
theorem NS (w:aB) (b:Nat) (a0 j q a3 a4 a5 r:aH):But b w (NP w b a0 j q a3 a4 a5 r) :=
 ((((((eH _ b _ _).trans (eH _ b _ _)).trans (eH _ b _ _)).trans (eH _ b _ _)).trans (eH _ b _ _)).trans (eH _ b _ _)).trans (eH _ b _ _)
theorem Lg (x:iY) (p:List C5) (w:aB) (a8:fO w (eu x.2.2.2.2.1) p) (a6:p.length<=900) :
  bK aP 85 #[qd x] w fun e w'=>(∃ b1:Sl,e=aT (qd (x.1,x.2.1,x.2.2.1,x.2.2.2.1,b1,x.2.2.2.2.2.1,x.2.2.2.2.2.2))/\iH w' w.heap.size (eu b1) p)/\Below w.heap.size w w':=by
 obtain⟨q,r,u,F,⟨s1,s2,s3⟩,G,H⟩:=x;obtain⟨S,X,Y⟩:=gX w #[J O q,J O r,J O u,J O F,U s1 s2 s3,J O G,aS H] #[J O 0,J O 0,J O 0,J O 0,U au 0 0,J O 0,aS aU] 67 67;have C:=f (oJ (s1,s2,s3) p _ (a8.on S) a6);have B:=f S;have a1:=X.cell 4;simp only [aC,aD,aF] at a1;have X:=f X;have Y:=f Y;clear S a8 a6;go_enter Tryz.func85,Tryz.ntmps85;go_wp2_with fail;generalize (w.alloc (aO #[J O q,J O r,J O u,J O F,U s1 s2 s3,J O G,aS H] 67)).alloc (aO #[J O 0,J O 0,J O 0,J O 0,U au 0 0,J O 0,aS aU] 67)=W at *;refine C.o.mono ?_;rintro e w1 ⟨⟨⟨j,u2,u3⟩,rfl,a7⟩,N⟩;have I:=X.o.on N;have a2:=Y.o.on N;have T:w.heap.size<W.heap.size:=X.o.lt;have b9:=f (eF a7 w.heap.size 4 (U j u2 u3) T);have bA:=f (show dN _ _ #[J O q,J O r,J O u,J O F,U j u2 u3,J O G,aS H] _ from by simpa using eD (k:=4) I (U j u2 u3));have M:=f (show dN _ _ _ _ from (bH w1 ⟨w.heap.size,4,au⟩ (U j u2 u3) _ (show w.heap.size+1≠w.heap.size by omega)).trans a2);have b4:=f ((B.o.trans (N.mono B.o.size)).setCell (p:=⟨w.heap.size,4,au⟩) (aG _) (U j u2 u3));have b2:=I.cell 4;have bB:=I.fr 4;have z4:=I.lt;simp only [aC,aD,aF] at b2;clear I a2 a7 N a1 C;go_upto_region 2 with fail;clear b2 bB z4;generalize w1.setCell ⟨w.heap.size,4,au⟩ (U j u2 u3)=c7 at *;obtain⟨c8,c9,cA,cC,a1,cD,cF⟩:=bA.o.oz;obtain⟨bM,bO,bP,bT,bW,r5,bX⟩:=M.o.oz;obtain⟨t0,t1,t2,t3,t4,t5,c6⟩:=M.o.fs7;have cG:=M.o.lt;have aE:w.heap.size+1<W.heap.size:=Y.o.lt;have b6:=f (Fq M.o (J O q) (J O r) (J O u) (J O F) (U j u2 u3) (J O G) (aS H));have b5:=f (yQ (b:=w.heap.size+1) b4.o (by omega) (J O q) (J O r) (J O u) (J O F) (U j u2 u3) (J O G) (aS H));have b7:=f (Zk b9.o (w.heap.size+1) aE (J O q) (J O r) (J O u) (J O F) (U j u2 u3) (J O G) (aS H));have b8:=f T;clear T aE;go_wp2_with fail;obtain⟨v0,bC,bE,v3,v4,v5,bI⟩:=b6.o.oz;refine bf (v:=bR #[J O q,J O r,J O u,J O F,U j u2 u3,J O G,aS H]) (by simp [results,Tryz.results85,go_sem,v0,bC,bE,v3,v4,v5,bI]) rfl ?_;exact⟨⟨(j,u2,u3),rfl,dO b7.o (Nat.le_of_lt b8.o)⟩,b5.o⟩
end Sb
namespace Rg
open Go.RowKit
structure aeX (i N:Nat) (dst:Nat->Option Nat) (last:Nat->Nat) (V:Nat->aH->aB->Prop) (base:bN) (o:Oper) (a:bN) (w:aB):Prop where
 kp:∀ j u,(∀ k,k<N->dst k≠ah j)->base.tmps[j]?=ah u->a.eval (aN j)=u
 at_:∀ e∈o.after,aR .any e=aW->(last e.on=i\/N<=last e.on)->∀ d,dst e.on=ah d->V e.on (a.eval (aN d)) w
 st:∀ e∈o.after,aR .any e=aW->(last e.on=i\/N<=last e.on)->∃ v,V e.on v w
theorem Jv (a:bN) (d:Option Nat) (v:aH) (j:Nat) (q:d≠ah j):(a.put d v).tmps[j]?=a.tmps[j]?:=by
 cases d with
 | none=>rfl
 | some d=>exact get_put _ _ _ _ (fun e=>q (by rw [e]))
theorem Zl (a:bN) (d:Option Nat) (v:aH):(a.put d v).tmps.size=a.tmps.size:=by
 cases d with
 | none=>rfl
 | some d=>exact size_put _ _ _
theorem put_defers (a:bN) (d:Option Nat) (v:aH):(a.put d v).defers=a.defers:=by
 cases d <;> rfl
structure PhD (l:List Oper) (N:Nat) (dst:Nat->Option Nat) (last:Nat->Nat) (V:Nat->aH->aB->Prop) (F:(Nat->Prop)->aB->Prop) (base:bN) (L:Array Bool) (a:bN) (x:aB):Prop where
 cl:∀ i o,done L i->l[i]?=ah o->∀ e∈o.after,aR .any e=aW->done L e.on
 df:a.defers=base.defers
 sz:a.tmps.size=base.tmps.size
 kp:∀ j,(∀ i,i<N->dst i≠ah j)->a.tmps[j]?=base.tmps[j]?
 fr:F (done L) x
 no:∀ i,N<=i->¬ done L i
 val:∃ vs:Nat->aH,∀ i,i<N->done L i->(∀ d,dst i=ah d->a.tmps[d]?=ah (vs i))/\(¬ done L (last i)->V i (vs i) x)
theorem pO {P:Program} {Q:Exit->bN->aB->Prop} {id:Nat} {base:bN} {w:aB} {l:List Oper} (N:Nat) (T:Nat->Option Nat) (S:Nat->Nat) (V:Nat->aH->aB->Prop) (F:(Nat->Prop)->aB->Prop)
  (c9:P.follows .mixedOrders=aW) (bB:Qq l.toArray=aW) (cL:l.length=N) (c8:∀ i j d,i<N->j<N->T i=ah d->T j=ah d->i=j) (cF:∀ i d,i<N->T i=ah d->d<base.tmps.size) (bX:F (fun _=>False) w.drew)
  (cC:∀ i o,i<N->l[i]?=ah o->∀ a w' (D:Nat->Prop),¬ D i->(∀ j bW,D j->l[j]?=ah bW->∀ e∈bW.after,aR .any e=aW->D e.on)->(∀ e∈o.after,aR .any e=aW->D e.on)->F D w'->aeX i N T S V base o a w'->∀ K:bN->aB->Prop,(∀ v b1,V i v b1->F (fun j=>j=i\/D j) b1->(∀ j u,j<N->D j->¬ D (S j)->S j≠i->j≠i->V j u w'->V j u b1)->K (a.put (T i) v) b1)->wpOp P l.toArray Q i K a w')
  (c6:∀ a w',a.defers=base.defers->a.tmps.size=base.tmps.size->(∀ j,(∀ i,i<N->T i≠ah j)->a.tmps[j]?=base.tmps[j]?)->(∃ a6:Nat->aH,∀ i,i<N->(∀ d,T i=ah d->a.tmps[d]?=ah (a6 i))/\(N<=S i->V i (a6 i) w'))->(∃ D:Nat->Prop,(∀ i,i<N->D i)/\F D w')->Q .normal a w'):(Code.region id l.toArray aW).wp P Q base w:=by
 refine qX (fun L a x=>PhD l N T S V F base L a x) c9 bB ?_ ?_ ?_
 ·exact⟨fun i o h=>absurd h (gQ _ _),rfl,rfl,fun _ _=>rfl,by rw [show done (Array.replicate l.length aU)=fun _=>False from funext fun i=>propext ⟨fun h=>gQ _ _ h,False.elim⟩]; exact bX,fun i _=>gQ _ _,fun _=>.bool aW,fun i _ h=>absurd h (gQ _ _)⟩
 ·intro L a x i o cM I aE bI b6;have bC:i<l.length:=(ak.1 aE).1;have a7:i<L.size:=by omega
  have b8:i<N:=by omega
  obtain⟨a6,a8⟩:=I.val;have bM:∀ e∈o.after,aR .any e=aW->e.on<N:=fun e G b2=>by
   have b9:=List.all_eq_true.1 bB i (List.mem_range.2 (by simpa using bC));have cA:(l.toArray)[i]?=ah o:=by simpa using aE
   rw [cA] at b9;have bA:=Array.all_eq_true'.1 b9 e G;rw [b2] at bA;have:e.on<i:=by simpa using bA
   omega
  have bP:∀ e∈o.after,aR .any e=aW->(S e.on=i\/N<=S e.on)->V e.on (a6 e.on) x:=fun e G a2 M=>by
   refine (a8 e.on (bM e G a2) (b6 e G a2)).2 ?_;rcases M with M|M
   ·rw [M]; exact bI
   ·exact I.no _ M
  have seen:aeX i N T S V base o a x:=⟨fun j u b4 hu=>dU (by rw [I.kp j b4]; exact hu),fun e G a2 M d r=>by
   rw [dU ((a8 e.on (bM e G a2) (b6 e G a2)).1 d r)];exact bP e G a2 M,fun e G a2 M=>⟨_,bP e G a2 M⟩⟩
  refine cC i o b8 aE a x (done L) bI I.cl b6 I.fr seen _ fun v b1 cG c7 cD=>?_;refine⟨fun k q H bO e G b2=>?_,by rw [put_defers]; exact I.df,by rw [Zl]; exact I.sz,fun j b4=>?_,by rw [show done (L.setIfInBounds i aW)=fun j=>j=i\/done L j from funext fun j=>propext (iJ a7 j)]; exact c7,fun k H r=>?_,fun k=>if k=i then v else a6 k,fun k b5 H=>?_⟩
  ·rw [iJ a7] at H ⊢;rcases H with rfl|H
   ·rw [bO] at aE;cases aE;exact aK (b6 e G b2)
   ·exact aK (I.cl k q H bO e G b2)
  ·rw [Jv _ _ _ _ (b4 i b8)];exact I.kp j b4
  ·rcases (iJ a7 k).1 r with a1|a1
   ·omega
   ·exact I.no k H a1
  ·by_cases e:k=i
   ·subst e;simp only [if_true];refine⟨fun d r=>?_,fun _=>cG⟩;have a1:d<a.tmps.size:=by rw [I.sz]; exact cF k d b5 r
    rw [r];simp [Act.put,a1]
   ·simp only [if_neg e];rcases (iJ a7 k).1 H with a1|a1
    ·exact absurd a1 e
    ·obtain⟨cI,cJ⟩:=a8 k b5 a1;refine⟨fun d r=>?_,fun bE=>?_⟩
     ·rw [Jv _ _ _ _ (fun h=>e (c8 k i d b5 b8 r h))];exact cI d r
     ·have cH:S k≠i:=fun b7=>bE ((iJ a7 _).2 (bJ b7));have bT:¬ done L (S k):=fun b7=>bE ((iJ a7 _).2 (aK b7));exact cD k _ b5 a1 bT cH e (cJ bT)
 ·intro L a x I r;obtain⟨a6,a8⟩:=I.val;exact c6 a x I.df I.sz I.kp ⟨a6,fun k H=>⟨(a8 k H (r k (by omega))).1,fun M=>(a8 k H (r k (by omega))).2 (I.no _ M)⟩⟩ ⟨done L,fun i bC=>r i (by omega),I.fr⟩
end Rg
namespace Rl
open Go.RowKit Pu Rw Pr Va
end Rl
end Go.Proofs.YtghlpefopidlaaaGreat
