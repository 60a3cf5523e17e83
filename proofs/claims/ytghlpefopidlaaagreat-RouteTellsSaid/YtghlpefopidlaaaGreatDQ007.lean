/-
  slices.BinarySearch . Conditions as told.
-/
import Derived.Test.YtghlpefopidlaaaGreatDQ005
import Derived.Test.YtghlpefopidlaaaGreatDQ006
import Derived.Maps.OwnSet
import Derived.DeepKeys4
import Derived.KernelRfl
set_option maxRecDepth 100000
set_option maxHeartbeats 64000000
open _root_.Bool renaming false->aC,true->aV
open _root_.Go renaming World->aF,Calls->aI,Value->aJ,bodyPost_ret->aW,cell_regrown->aY,maxLen->bf
open Go.Builtin renaming copy_->aG,append_->aT
open Go.Ending renaming returned->ay
open Go.Instr renaming sliceAt->ak
open Go.IntKind renaming i64->U,wrap_i64->aR
open Go.Obj renaming cells->aj
open Go.Proofs.Tryz renaming prog->D,ntmps43->aQ,func43->aS,results86->aU,ntmps61->aX,func61->aZ
open Go.RowKit.Below renaming refl->aA
open Go.Value renaming slice->J,string->K,int->O,bool->aN
open _root_.List renaming getElem?_eq_getElem->L,getElem?_eq_some_iff->au,take_of_length_le->aB,length_map->aD,mem_iff_getElem->aL,mem_of_getElem?->aM,getElem?_map->aO,take_add_one->aP
open _root_.Nat renaming le_refl->ah,lt_or_ge->aH,zero_le->aK
open _root_.Option renaming some->V,none->Z
open Go.Proofs.YtghlpefopidlaaaGreat renaming hq->o
namespace Go.Proofs.YtghlpefopidlaaaGreat
namespace Av
open Go.RowKit Go.Sort Rw YtghlpefopidlaaaGreat.Nm Pr Bk
theorem Fj (a:Int) (w:aF):aI D 186 #[O U a] w fun e w'=>e=ay (aN aC)/\w'=w:=by
 go_enter Tryz.func186,Tryz.ntmps186;go_wp2;go_ret;exact⟨by simp,rfl⟩
theorem Jo (a b:Int) (j:Bool) (q:decide (a<b)=j) (w:aF):aI D 150 #[O U a,O U b] w fun e w'=>e=ay (aN j)/\w'=w:=by
 go_enter Tryz.func150,Tryz.ntmps150;go_wp2_with (go_at_call 128; refine (wX _ _).mono ?_; rintro e w' ⟨rfl,rfl⟩);go_ret;exact⟨by first | rfl | (subst q; rfl),rfl⟩
theorem adA (v:aJ) (l:List Int) (t:Int) (w:aF) (b2:sW w v l) (bI:l.Pairwise (·<=·)) (bX:l.length<=900) :
  aI D 165 #[v,O U t] w fun e w'=>(∃ k:Nat,e=ay (.tuple #[O U k,aN (decide (t∈l))]))/\w'=w:=by
 have a6:=o b2;have bA:=o (List.pairwise_iff_getElem.1 bI);obtain⟨cD,cC,rfl⟩:=b2.len;obtain⟨n,a1⟩:∃ n,n=l.length:=⟨_,rfl⟩;rw [<- a1] at a6 bX ⊢;have F:=o a1;obtain⟨b8,b1⟩:∃ k,k=decide (t∈l):=⟨_,rfl⟩;rw [<- b1];have a7:=o b1;clear b2 bI a1 b1;go_enter Tryz.func165,Tryz.ntmps165;go_wp2
 go_loopg [7,8] n (fun c7 c9 cA wr=>∃ lo j:Nat,c9=O U lo/\cA=O U j/\lo<=j/\j<=n/\j-lo<=c7/\Hq (wr=w) /\
  (∀ (q:Nat) (y:Int),q<lo->l[q]?=V y->y<t)/\(∀ (q:Nat) (y:Int),j<=q->l[q]?=V y->t<=y))
 case atStart=>exact⟨0,n,rfl,rfl,aK _,ah _,by omega,by first | exact o rfl | exact o trivial,fun q y h=>by omega,fun q y G u=>by have:=(au.1 u).1; have:=F.o; omega⟩
 case round =>
  obtain⟨lo,j,rfl,rfl,cJ,bW,cG,bM,bC,bO⟩:=hrel;obtain rfl:=bM.o;clear bM;have a2:=o bC;have bB:=o bO;clear bC bO;by_cases aE:lo<j
  ·obtain⟨y,b4⟩:∃ y,l[(lo+j) / 2]?=V y:=⟨_,L (by have:=F.o; omega)⟩;obtain⟨p,b5,_,M⟩:=elI a6.o rfl F.o.symm b4;have b6:=M wr (aA _ _);have Y:=o b4;have cF:((lo:Int)+(j:Int)) / 2=(((lo+j) / 2:Nat):Int):=by omega
   generalize T:(lo+j) / 2=m at *;have bE:∀ (i q:Nat) (a b:Int),i<=q->l[i]?=V a->l[q]?=V b->a<=b:=by
    intro i q a b cH G u;obtain⟨b7,rfl⟩:=au.1 G;obtain⟨c8,rfl⟩:=au.1 u;rcases aH i q with h|h
    ·exact bA.o i q b7 c8 h
    ·obtain rfl:i=q:=by omega
     exact Int.le_refl _
   have b9:=o bE;clear M b4 bE;by_cases c6:y<t
   ·have C:=Jo y t aV (by simpa using c6);go_wp2_with fail;refine (C _).mono ?_;rintro e w' ⟨rfl,rfl⟩;clear C b5 b6;go_wp2
    go_roundg (j-(m+1))
    case measure=>omega
    case rel=>exact⟨m+1,j,by go_num,rfl,by omega,bW,ah _,by first | exact o rfl | exact o trivial,fun q z G u=>by
     have:=b9.o q m z y (by omega) u Y.o;omega,bB.o⟩
   ·have C:=Jo y t aC (by simp; omega);go_wp2_with fail;refine (C _).mono ?_;rintro e w' ⟨rfl,rfl⟩;clear C b5 b6;go_wp2
    go_roundg (m-lo)
    case measure=>omega
    case rel=>exact⟨lo,m,rfl,rfl,by omega,by omega,ah _,by first | exact o rfl | exact o trivial,a2.o,fun q z G u=>by
     have:=b9.o m q y z G Y.o u;omega⟩
  ·obtain rfl:j=lo:=by omega
   have a8:∀ x,l[j]?=V x->(t∈l↔x=t):=by
    intro x r;constructor
    ·intro T;obtain⟨q,S,rfl⟩:=aL.1 T;have G:=bB.o j x (ah _) r;obtain⟨b7,rfl⟩:=au.1 r;rcases Nat.lt_trichotomy q j with h|h|h
     ·have:=a2.o q _ h (L S); omega
     ·subst h; rfl
     ·have:=bA.o j q b7 S h; omega
    ·rintro rfl;exact aM r
   by_cases a1:j<n
   ·obtain⟨x,r⟩:∃ x,l[j]?=V x:=⟨_,L (by have:=F.o; omega)⟩;obtain⟨p,b5,_,M⟩:=elI a6.o rfl F.o.symm r;have b6:=M wr (aA _ _);have bP:decide ((j:Int)<(n:Int))=aV:=by simp; omega
    have N:=a8 x r;clear a8 M;by_cases H:x=t
    ·have I:=o (show b8=aV by rw [a7.o,decide_eq_true (N.2 H)]);have bT:(x == t)=aV:=by simp [H]
     clear r N H aE;go_wp2_with (go_at_call 186; refine (Fj _ _).mono ?_; rintro e w' ⟨rfl,rfl⟩)
     go_ret2
     exact⟨⟨j,by rw [I.o]; rfl⟩,rfl⟩
    ·have I:=o (show b8=aC by rw [a7.o,decide_eq_false (fun h=>H (N.1 h))]);have bT:(x == t)=aC:=by simp [H]
     clear r N H aE;go_wp2_with (go_at_call 186; refine (Fj _ _).mono ?_; rintro e w' ⟨rfl,rfl⟩)
     go_ret2
     exact⟨⟨j,by rw [I.o]; rfl⟩,rfl⟩
   ·have I:=o (show b8=aC by
     rw [a7.o];refine decide_eq_false fun T=>?_;obtain⟨q,S,cI⟩:=aL.1 T;have:=a2.o q _ (by have:=F.o; omega) (L S);omega)
    have bP:decide ((j:Int)<(n:Int))=aC:=by simp; omega
    clear aE a8;go_wp2_with fail
    go_ret2
    exact⟨⟨j,by rw [I.o]; rfl⟩,rfl⟩
def jm (near:List Int) (f:Int):Bool:=decide (f∈near) || f == -1
theorem Jp (me:Int) (r:Sl) (F z3 z4 z5:aJ) (l:List Int) (f:Int) (w:aF) (I:sW w (eu r) l) (M:l.Pairwise (·<=·)) (H:l.length<=900) :
  aI D 129 #[.agg #[O U me,eu r,F,z3,z4,z5],O U f] w fun e w'=>e=ay (aN (jm l f))/\Below w.heap.size w w':=by
 obtain⟨u,q,c1⟩:=r;have j:=fP w (aj #[O U me,J u q c1,F,z3,z4,z5] 30);have X:=dR w #[O U me,J u q c1,F,z3,z4,z5] 30;have C:=o (adA (J u q c1) l f _ (I.on j) M H);have a1:=X.cell 1;simp only [List.getElem?_toArray,List.getElem?_cons_zero,List.getElem?_cons_succ] at a1;have R:=o (show jm l f=(decide (f∈l) || f == -1) from rfl);generalize jm l f=a2 at *;generalize decide (f∈l)=T at *;have G:=o j;obtain⟨N,S⟩:∃ N,(f == -1)=N:=⟨_,rfl⟩;rw [S] at R;clear j X I M H;go_enter Tryz.func129,Tryz.ntmps129;go_wp2_with fail;refine C.o.mono ?_;rintro e w1 ⟨⟨k,rfl⟩,rfl⟩;cases T
 ·go_wp2_with fail;go_ret;exact⟨by rw [R.o]; rfl,G.o⟩
 ·go_wp2_with fail;go_ret;exact⟨by rw [R.o]; rfl,G.o⟩
end Av
namespace Rl
open Go.RowKit Go.Sort Pu Rw Pr Va
abbrev z5:C5:=(⟨#[]⟩,0,0,0,⟨#[]⟩)
def ofV:Option Cn->aJ
 | some y=>.tuple #[cv (r5 y),aN aV]
 | none=>.tuple #[cv z5,aN aC]
theorem aiK (bE:aJ) (p:List Cn) (n:ByteArray) (w:aF) (aE:fO w bE (p.map r5)) (_:p.length<=100) :
  aI D 86 #[bE,K n] w fun e w'=>e=ay (ofV (ofC p n))/\Below w.heap.size w w':=by
 have b4:=o aE;obtain⟨cL,cJ,rfl⟩:=aE.len;rw [aD] at b4 ⊢;generalize bB:p.length=m at *;have a8:=o bB;clear aE bB;have b2:=o (show Below w.heap.size w (w.alloc (aj #[K ⟨#[]⟩,O U 0,O U 0,O U 0,K ⟨#[]⟩] 91)) from (aA _ _).alloc (ah _) _);have b6:=o (show dN (w.alloc (aj #[K ⟨#[]⟩,O U 0,O U 0,O U 0,K ⟨#[]⟩] 91)) w.heap.size (cells5 z5).toArray 91 from dR w _ _);go_enter Tryz.func86,Tryz.ntmps86;go_wp2;generalize w.alloc (aj #[K ⟨#[]⟩,O U 0,O U 0,O U 0,K ⟨#[]⟩] 91)=w1 at b2 b6 ⊢
 go_loopw [10] (fun i wr=>∃ k:Nat,k<=m/\i=O U k/\Below w.heap.size w wr/\dN wr w.heap.size (cells5 z5).toArray 91/\∀ (j:Nat) (y:Cn),j<k->p[j]?=V y->y.1≠n) (fun i _=>m-(intOf i).toNat)
 case atStart=>exact⟨0,aK _,rfl,b2.o,b6.o,fun j y h=>by omega⟩
 case round =>
  obtain⟨k,cM,rfl,b9,bC,b8⟩:=hrel;have G:=o b9;have u:=o bC;have a7:=o b8;clear b9 b8 bC;by_cases c9:k<m
  ·obtain⟨⟨F,r⟩,b1⟩:∃ x,p[k]?=V x:=⟨_,L (by rw [a8.o]; exact c9)⟩;obtain⟨q,cN,bI⟩:=XG (x:=r5 (F,r)) b4.o rfl (by rw [aD]; exact a8.o) (by rw [aO,b1]; rfl);obtain⟨cC,cD,cF,cG,cH⟩:=bI _ G.o;have b5:=o b1;have bM:=o (G.o.alloc G.o.size (aj #[K F,O U (kN r),O U (kS r),O U (kU r),K (kT r)] 91));have bP:=o (u.o.more (aj #[K F,O U (kN r),O U (kS r),O U (kU r),K (kT r)] 91));clear b1 bI;simp only [r5] at cC cD cF cG cH;by_cases I:F=n
   ·have cA:(F.toList == n.toList)=aV:=by rw [I]; exact beq_self_eq_true _
    have R:=o (akw b5.o I a7.o);clear I;obtain⟨c0,c1,c2,c3,c4⟩:=fF u.o;have bW:=u.o.fr 0;have bX:=u.o.fr 1;have c6:=u.o.fr 2;have c7:=u.o.fr 3;have c8:=u.o.fr 4;have bT:=u.o.lt;simp only at c0 c1 c2 c3 c4;go_wp2;have H:=(xA u.o (F,kN r,kS r,kU r,kT r)).more (aj #[K F,O U (kN r),O U (kS r),O U (kU r),K (kT r)] 91);have M:=(jc G.o w.heap.size (ah _) (K F) (O U (kN r)) (O U (kS r)) (O U (kU r)) (K (kT r))).alloc (jc G.o w.heap.size (ah _) (K F) (O U (kN r)) (O U (kS r)) (O U (kU r)) (K (kT r))).size (aj #[K F,O U (kN r),O U (kS r),O U (kU r),K (kT r)] 91);generalize World.alloc _ (aj #[K F,O U (kN r),O U (kS r),O U (kU r),K (kT r)] 91)=cI at H M ⊢;obtain⟨N,S,T,a1,a2⟩:=fF H;simp only at N S T a1 a2;refine aW (v:=ofV (V (F,r))) (by simp [results,aU,go_sem,N,S,T,a1,a2,ofV,r5]) rfl ⟨by rw [R.o],M⟩
   ·have cA:(F.toList == n.toList)=aC:=by rw [beq_eq_false_iff_ne]; exact fun h=>I (vJ h)
    have bO:=o I;clear I;go_wp2
    go_roundw
    case rel=>exact⟨k+1,by omega,by go_num,bM.o,bP.o,fun j y bA a6=>by
     rcases aH j k with b7|b7
     ·exact a7.o j y b7 a6
     ·obtain rfl:j=k:=by omega
      have e:=b5.o;rw [a6] at e;rw [Option.some.inj e];exact bO.o⟩
    case measure=>simp [intOf]; omega
  ·obtain rfl:k=m:=by omega
   have R:=o (adu (p:=p) (n:=n) (fun j y bA a6=>a7.o j y (by rw [<- a8.o]; exact bA) a6));obtain⟨c0,c1,c2,c3,c4⟩:=fF u.o;have bW:=u.o.fr 0;have bX:=u.o.fr 1;have c6:=u.o.fr 2;have c7:=u.o.fr 3;have c8:=u.o.fr 4;have bT:=u.o.lt;simp only at c0 c1 c2 c3 c4;go_wp2;have H:=xA u.o z5;have M:=jc G.o w.heap.size (ah _) (K ⟨#[]⟩) (O U 0) (O U 0) (O U 0) (K ⟨#[]⟩);simp only at H;generalize World.setCell _ _ (K ⟨#[]⟩)=cI at H M ⊢;obtain⟨N,S,T,a1,a2⟩:=fF H;simp only at N S T a1 a2;refine aW (v:=ofV Z) (by simp [results,aU,go_sem,N,S,T,a1,a2,ofV]) rfl ⟨by rw [R.o],M⟩
theorem VB (n:ByteArray) (c d:Kd) (w:aF) (a1:jM c=aV) (H:jM d=aV) :
  aI D 87 #[cv (r5 (n,c)),cv (r5 (n,d))] w fun e w'=>e=ay (aN (fD d c))/\Below w.heap.size w w':=by
 obtain⟨aE,S,T⟩:=YD w (r5 (n,c)) (r5 (n,d));have M:=o S;have B:=o T;have q:=o (Nz (n,c) (n,d) ((w.alloc (aj (cells5 (r5 (n,c))).toArray 91)).alloc (aj (cells5 (r5 (n,d))).toArray 91)) rfl);have G:=o (fun k (h:fI c d=V k)=>QI (n:=n) a1 H h);have F:=o (fun (h:fI c d=Z)=>QJ H h);simp only at q;generalize fI c d=r at *;generalize fD d c=i at *;clear aE S T a1 H;simp only [r5] at q ⊢;go_enter Tryz.func87,Tryz.ntmps87;go_wp2_with fail;refine q.o.mono ?_;rintro e b1 ⟨⟨y,rfl,a2⟩,u⟩;have j:=o (B.o.trans (u.mono B.o.size));obtain⟨b0,a6,a7,b3,a8⟩:=fF (M.o.on u);simp only [r5] at b0 a6 a7 b3 a8;have I:=o (j.o.alloc j.o.size (aj #[K y.1,O U y.2.1,O U y.2.2.1,O U y.2.2.2.1,K y.2.2.2.2] 91));have N:=o a2;have b2:w.heap.size+1<b1.heap.size:=by have:=u.size; simp at this; omega
 clear u q M B a2;rcases r with _|k
 ·have E:=o (F.o rfl);clear F G;go_wp2;go_ret;exact⟨eG E.o.symm,I.o⟩
 ·have E:=o (show DN y (r5 (n,d))=i by rw [N.o k rfl]; exact G.o k rfl);obtain⟨b4,b5,b6,b7,b8⟩:=y;clear F G N I;go_wp2
  all_goals go_ret
  all_goals exact⟨eG (by rw [<- E.o]; simp [DN,r5, *]),j.o.alloc j.o.size _⟩
end Rl
namespace At
open Go.RowKit Go.Sort Va In
end At
namespace Rl
open Go.RowKit Pu Rw Pr
end Rl
namespace Rl
open Go.RowKit Go.Sort Pu Rw Pr Va
theorem adB {α:Type} (f:α->Bool) (l:List α) (m:Nat) (h:l.length=m):(l.take m).all f=l.all f:=by rw [<- h,List.take_length]
theorem QT (cA bC:aJ) (p b:List Cn) (w:aF) (b5:fO w cA (p.map r5)) (c6:fO w bC (b.map r5)) (b6:NF p) (a6:NF b) :
  aI D 27 #[cA,bC] w fun e w'=>e=ay (aN (rW p b))/\Below w.heap.size w w':=by
 have aE:=o (Vy (a:=p) a6.rise);have bM:=o b5;have cN:=o c6;have cQ:b.length<=100:=by have:=a6.five; omega
 have cL:=o b6.jM;have cJ:=o a6.jM;have d1:p.length<=5:=b6.five;obtain⟨cW,cV,rfl⟩:=b5.len;rw [aD] at bM ⊢;generalize c7:p.length=m at *;have b1:=o c7;generalize rW p b=r at *;clear b5 c6 c7 b6 a6;go_enter Tryz.func27,Tryz.ntmps27;go_wp2
 go_loopw [11] (fun i wr=>∃ k:Nat,k<=m/\i=O U k/\Below w.heap.size w wr/\(p.take k).all (QH b)=aV) (fun i _=>m-(intOf i).toNat)
 case atStart=>exact⟨0,aK _,rfl,aA _ _,rfl⟩
 case round =>
  obtain⟨k,d0,rfl,bT,bP⟩:=hrel;have a1:=o bT;have bE:=o bP;clear bT bP;by_cases cR:k<m
  ·obtain⟨⟨u,j⟩,T⟩:∃ x,p[k]?=V x:=⟨_,L (by rw [b1.o]; exact cR)⟩;obtain⟨q,c9,cC⟩:=XG (x:=r5 (u,j)) bM.o rfl (by rw [aD]; exact b1.o) (by rw [aO,T]; rfl);obtain⟨b7,b8,b9,bA,bB⟩:=cC _ a1.o;have bO:=o (Nq (QH b) p k (u,j) T);have b2:=o (fun h=>Ta (QH b) p k (u,j) T h);have cM:=o (cL.o _ (aM T));have a8:=o (show dN (wr.alloc (aj #[K u,O U (kN j),O U (kS j),O U (kU j),K (kT j)] 91)) wr.heap.size (cells5 (u,kN j,kS j,kU j,kT j)).toArray 91 from dR wr _ _);have I:=o (a1.o.alloc a1.o.size (aj #[K u,O U (kN j),O U (kS j),O U (kU j),K (kT j)] 91));have G:=o (aiK bC b u (wr.alloc (aj #[K u,O U (kN j),O U (kS j),O U (kU j),K (kT j)] 91)) (cN.o.on I.o) cQ);have M:=o (show QH b (u,j)=match ofC b u with
    | some y=>fD y.2 j
    | none=>aC from rfl)
   obtain⟨cP,bX⟩:∃ g,QH b (u,j)=g:=⟨_,rfl⟩;rw [bX] at M bO b2;simp only [r5] at b7 b8 b9 bA bB;clear T cC bX;go_wp2_with fail;refine G.o.mono ?_;rintro cX cU ⟨a2,N⟩;have H:=o (I.o.trans (N.mono I.o.size));obtain⟨cD,cF,cG,cH,cI⟩:=fF (a8.o.on N);simp only at cD cF cG cH cI;have cT:wr.heap.size<cU.heap.size:=by have:=N.size; simp at this; omega
   rcases S:ofC b u with _|⟨a7,F⟩
   ·rw [S] at a2 M;subst a2;have R:=o (show r=aC by rw [aE.o]; exact b2.o M.o);clear N G I a8 c9 b7 b8 b9 bA bB S;unfold ofV;go_wp2;go_ret;exact⟨eG R.o.symm,H.o.alloc H.o.size _⟩
   ·obtain⟨c8,cS⟩:=YX S;obtain rfl:a7=u:=cS;rw [S] at a2 M;subst a2;have b4:=o (fun W=>VB a7 j F W cM.o (cJ.o _ c8));simp only [r5] at b4;clear N G I a8 c9 b7 b8 b9 bA bB S c8;unfold ofV;simp only [r5];go_wp2_with fail;refine (b4.o _).mono ?_;rintro cY d2 ⟨rfl,bW⟩;have bI:=o ((H.o.alloc H.o.size (aj #[K a7,O U (kN F),O U (kS F),O U (kU F),K (kT F)] 91)).trans (bW.mono (H.o.alloc H.o.size (aj #[K a7,O U (kN F),O U (kS F),O U (kU F),K (kT F)] 91)).size));rw [<- M.o];clear bW H cD cF cG cH cI cT b4;cases cP
    ·have R:=o (show r=aC by rw [aE.o]; exact b2.o rfl);go_wp2;go_ret;exact⟨eG R.o.symm,bI.o⟩
    ·go_wp2
     go_roundw
     case rel=>exact⟨k+1,by omega,by go_num,bI.o,by rw [bO.o,bE.o]; rfl⟩
     case measure=>simp [intOf]; omega
  ·obtain rfl:k=m:=by omega
   have R:=o (show r=aV by rw [aE.o,<- adB _ p _ b1.o]; exact bE.o);go_wp2;go_ret;exact⟨eG R.o.symm,a1.o⟩
end Rl
namespace Av
open Go.RowKit Rw Bk Go.Maps Go.ChangeMaps
noncomputable def kl (l:fB):Lit:=(keyOf D 23 (nP l)).getD (Lit.bool aC)
end Av
namespace Bk
open Go.RowKit Go.Sort Rw YtghlpefopidlaaaGreat.Nm
theorem adC {α:Type} {a b:List α} {k:Nat} {x y:α} (h:a.take k=b.take k) (j:a[k]?=V x) (q:b[k]?=V y) (e:x=y):a.take (k+1)=b.take (k+1):=by
 rw [aP,aP,j,q,h,e]
theorem akz (av b2:aJ) (a b:List Int) (w:aF) (G:sW w av a) (H:sW w b2 b) :
  aI D 61 #[av,b2] w fun e w'=>e=ay (aN (decide (a=b)))/\Below w.heap.size w w':=by
 have a2:=o G;have a6:=o H;have b8:=G.most;have b9:=H.most;unfold bf at b8 b9;obtain⟨cA,c9,rfl⟩:=G.len;obtain⟨cD,cC,rfl⟩:=H.len;clear G H;by_cases j:a.length=b.length
 ·obtain⟨n,u⟩:∃ n,n=a.length:=⟨_,rfl⟩;have I:=o u.symm;have M:=o (j.symm.trans u.symm);rw [<- j,<- u] at a6;rw [<- u] at a2 b8;rw [<- j,<- u];clear j u b9;go_enter aZ,aX;go_wp2
  go_loopw [5] (fun i wr=>∃ k:Nat,k<=n/\i=O U k/\a.take k=b.take k/\Below w.heap.size w wr) (fun i _=>n-(intOf i).toNat)
  case atStart=>exact⟨0,aK _,rfl,rfl,aA _ _⟩
  case round =>
   obtain⟨k,cH,rfl,b7,b5⟩:=hrel;have b1:=o b7;have F:=o b5;clear b5 b7;by_cases b6:k<n
   ·obtain⟨x,S⟩:∃ x,a[k]?=V x:=⟨_,L (by rw [I.o]; exact b6)⟩;obtain⟨y,T⟩:∃ y,b[k]?=V y:=⟨_,L (by rw [M.o]; exact b6)⟩;obtain⟨p,bT,_,bA⟩:=elI a2.o rfl I.o S;obtain⟨q,bW,_,bB⟩:=elI a6.o rfl M.o T;have c6:=aY (bA _ F.o);have c7:=aY (bB _ F.o);obtain⟨r,N⟩:∃ r,((x:Int) == (y:Int))=r:=⟨_,rfl⟩;have a8:=o S;have aE:=o T;have a7:=o N;clear bA bB S T;go_wp2;have bP:((x:Int) != (y:Int))=!r:=by unfold bne; rw [N]
    cases r
    all_goals
     simp only [Bool.not_true,Bool.not_false] at bP;refine ko ?_
     repeat (go_big_quiet_step (fail))
     refine kr fun bI bX=>?_;have a1:=o (F.o.trans ((below_regrown wr bI bX).mono F.o.size));clear c6 c7 bT bW N
    ·go_wp2;go_ret;refine⟨?_,a1.o⟩;have bO:a≠b:=fun e=>by
      have b4:=a8.o;rw [e,aE.o] at b4;cases b4;have bM:=a7.o;simp at bM
     rw [decide_eq_false bO]
     rfl
    ·have bE:=o (adC b1.o a8.o aE.o (by have h:=a7.o; rw [beq_iff_eq] at h; exact h));go_wp2
     go_roundw
     case rel=>exact⟨k+1,by omega,by go_num,bE.o,a1.o⟩
     case measure=>simp [intOf]; omega
   ·obtain rfl:k=n:=by omega
    have bC:=o (show a=b by have h:=b1.o; rwa [aB (by rw [I.o]; exact ah _),aB (by rw [M.o]; exact ah _)] at h);go_wp2;go_ret;exact⟨by rw [decide_eq_true bC.o]; rfl,F.o⟩
 ·have cF:((a.length:Int) == (b.length:Int))=aC:=by simp; omega
  have cG:(a.length == b.length)=aC:=by simp; exact j
  have E:=o (decide_eq_false (show ¬ a=b from fun e=>j (by rw [e])));have c8:=o j;clear j;go_enter aZ,aX;go_wp2;go_ret;exact⟨by rw [E.o]; rfl,aA _ _⟩
end Bk
namespace Rt
open Go.RowKit Rw YtghlpefopidlaaaGreat.Nm Pr Bk
theorem Zc {W:aF} {b:Nat} {c:mP} (h:dN W b (lN c).toArray 88):Ij W (J (V ⟨b,0,Z⟩) 1 1) [c] :=
 Or.inr ⟨⟨b,0,Z⟩,1,rfl,by simp,by decide,uK h (by simp [EW])⟩
def Fp (B:Nat) (l:List mP) (k:Nat) (c:mP) (r:aJ) (W:aF) (e:Ending) (w':aF):Prop:=∃ q,e=ay q/\nO w' B q (l.take k++c::l.drop k)/\Below B W w'/\(∀ j,j<W.heap.size->V j≠r.ownBlock->w'.heap[j]?=W.heap[j]?)
theorem NG (B:Nat) (v:aJ) (l:List mP) (c:mP) (b:Nat) (W:aF) (j:nO W B v l) (S:dN W b (lN c).toArray 88) (a6:l.length<=900) (hB:B<=W.heap.size) :
  aI D 43 #[v,O U (l.length:Nat),J (V ⟨b,0,Z⟩) 1 1] W (Fp B l l.length c v W):=by
 obtain⟨G,w',u,H,q⟩:=iC okW B j (Zc S) (by omega) (by simp) hB 28;have u:(aT #[28,28] 28 #[v,J (V ⟨b,0,Z⟩) 1 1]).run D W=.ok G w':=u;have Q:=o (show Fp B l l.length c v W (ay G) w' from ⟨G,rfl,by rw [aB (ah _),List.drop_of_length_le (ah _)]; exact H,(aA B W).grown q hB (fun F r=>(j.lt F r).1),fun F r N=>q.block F r N⟩);obtain⟨T,I,_⟩:=qU okW (Row.dL j) l.length (ah _);have I:∀ w,(ak 28 v (V (O U l.length)) Z Z).run D w=.ok T w:=I;obtain⟨a2,a1,rfl⟩:=(Row.dL j).len;clear j H q;generalize M:l.length=n at *;clear M;go_enter aS,aQ;go_wp2_with (first | (at_builtin; refine wpList_append_run rfl _ _ 28 rfl rfl rfl u ?_) | fail);go_ret;exact Q.o
theorem Zd (w:aF) (g b k la q cb:Nat) (cur cs:Array aJ) (j:dN w b cs 88) (r:dN w g cur 88) (u:b≠g) (F:0<cur.size):(callFunc 112 #[J (V ⟨b,0,Z⟩) la 1,J (V ⟨g,k,Z⟩) q cb]).run D w=.ok (.value (aN aC)) w:=by
 rw [run_callFunc_extern Tryz.func112 (by kernel_rfl) (by kernel_rfl) (by kernel_rfl) (e:=Extern.SlicesOverlaps.overlaps #[28,28] #[4]) (by kernel_rfl),
  Lib.run_overlaps_apart w 28 4 88 Tryz.underlying28 3 Tryz.sizeOf88 ⟨b,0,Z⟩ ⟨g,k,Z⟩ la 1 q cb u 88 88 cs.size cur.size j.shape r.shape (by omega) (j.fr 0) (j.fr _)]
 rfl
theorem Ir (B g n cap:Nat) (cur:Array aJ) (l:List mP) (k:Nat) (c:mP) (b:Nat) (W:aF) (I:n=l.length) (F:B<=g) (u:dN W g cur 88) (S:cap<=bf) (a1:cur.size=cap * 3) (a2:cur.toList.take (n * 3)=flat EW l) (M:dN W b (lN c).toArray 88) (r:b≠g) (bE:k<n) (bM:n+1<=cap) (bI:n<=900) :
  aI D 43 #[J (V ⟨g,0,Z⟩) n cap,O U k,J (V ⟨b,0,Z⟩) 1 1] W (Fp B l k c (J (V ⟨g,0,Z⟩) n cap) W):=by
 obtain⟨q,H,a8,aE,a6⟩:=sZ (E:=EW) (l:=l) (k:=k) (cap:=cap) (cur:=cur) (cs:=(lN c).toArray) (c:=c) okW (by omega) (by omega) a1 (by rw [<- I]; exact a2) g b r;have T:=fun b9 cb=>Zd W g b ((k+1) * 3) 1 b9 cb cur (lN c).toArray M u r (by omega);have s0:=iw (E:=EW) okW g k n cap (by omega) (by omega);have s1:=kI (E:=EW) okW ⟨g,0,Z⟩ (n+1) n cap (by omega);have s2:=iw (E:=EW) okW g (k+1) (n+1) cap (by omega) (by omega);have s3:=iw (E:=EW) okW g k (n+1) cap (by omega) (by omega);have G:=a8 W.drew 3 (n+1-(k+1)) (cap-(k+1)) (n+1-k) (cap-k) u (by omega);have a7:=aE (W.drew.setRow g q) 3 (n+1-k) (cap-k) (dN.set (show dN W.drew g cur 88 from u) q) (dN.other (show dN W.drew b _ 88 from M) r q) rfl (by omega);have Q:=o (show Fp B l k c (J (V ⟨g,0,Z⟩) n cap) W (ay (J (V ⟨g,0,Z⟩) (n+1) cap)) ((W.drew.setRow g q).setRow g H) from ⟨_,rfl,by rw [I]; exact a6 _ B F S (dN.set (dN.set (show dN W.drew g cur 88 from u) q) H),below_setRow (below_setRow (aA B W).drew F _) F _,fun j bC r=>(setRow_other _ g j _ (fun e=>r (by rw [e]; rfl))).trans (setRow_other _ g j _ (fun e=>r (by rw [e]; rfl)))⟩);clear a8 aE a6 u a2 M a1 F S;change ∀ w,(ak 28 (J (V ⟨g,0,Z⟩) n cap) (V (O U k)) Z Z).run D w=.ok (J (V ⟨g,k * 3,Z⟩) (n-k) (cap-k)) w at s0;change ∀ w,(ak 28 (J (V ⟨g,0,Z⟩) n cap) Z (V (O U ((n:Int)+1))) Z).run D w=.ok (J (V ⟨g,0,Z⟩) (n+1) cap) w at s1;change ∀ w,(ak 28 (J (V ⟨g,0,Z⟩) (n+1) cap) (V (O U ((k:Int)+1))) Z Z).run D w=.ok (J (V ⟨g,(k+1) * 3,Z⟩) (n+1-(k+1)) (cap-(k+1))) w at s2;change ∀ w,(ak 28 (J (V ⟨g,0,Z⟩) (n+1) cap) (V (O U k)) Z Z).run D w=.ok (J (V ⟨g,k * 3,Z⟩) (n+1-k) (cap-k)) w at s3;have bA:((k:Int) == (n:Int))=aC:=by rw [beq_eq_false_iff_ne]; omega
 have bB:decide ((cap:Int)<(n:Int)+1)=aC:=by simp; omega
 change (aG #[28,28] 3 #[J (V ⟨g,(k+1) * 3,Z⟩) (n+1-(k+1)) (cap-(k+1)),J (V ⟨g,k * 3,Z⟩) (n+1-k) (cap-k)]).run D W.drew=.ok (O U ((l.length-k:Nat):Int)) (W.drew.setRow g q) at G;change (aG #[28,28] 3 #[J (V ⟨g,k * 3,Z⟩) (n+1-k) (cap-k),J (V ⟨b,0,Z⟩) 1 1]).run D (W.drew.setRow g q)=.ok (O U 1) ((W.drew.setRow g q).setRow g H) at a7;clear I;go_enter aS,aQ;go_wp2_with (first | (simp only [T]) | fail);clear T s0 s1 s2 s3;have b8:IntKind.i64.wrap ((k:Int)+1)=(k:Int)+1:=by rw [aR]; omega
 have b2:(0:Int)<=(k:Int)+1:=by omega
 have b1:(k:Int)+1<=(n:Int)+1:=by omega
 have b7:((k:Int)+1).toNat=k+1:=by omega
 have b4:¬ (cap=k+1):=by omega
 have b5:(k:Int)<=(n:Int)+1:=by omega
 have b6:¬ (cap=k):=by omega
 have N:n+1-(k+1)=n-k:=by omega
 rw [N] at G;clear N
 go_region_law (refine iW rfl (.tmp 73) (.tmp 76) 28 rfl (v:=J (V ⟨g,(k+1) * 3,Z⟩) (n-k) (cap-(k+1))) (xv:=J (V ⟨g,k * 3,Z⟩) (n+1-k) (cap-k)) (by simp [Act.eval,Act.put]) (by simp [Act.eval,Act.put]) G ?_)
 all_goals simp only [Exit.then]
 all_goals apply_assumption
 clear G b8 b2 b1 b7 b4 b5 b6;have s3:=iw (E:=EW) okW g k (n+1) cap (by omega) (by omega);change ∀ w,(ak 28 (J (V ⟨g,0,Z⟩) (n+1) cap) (V (O U k)) Z Z).run D w=.ok (J (V ⟨g,k * 3,Z⟩) (n+1-k) (cap-k)) w at s3;go_wp2_with (first | (at_builtin; refine wpList_copy_run rfl _ _ 28 rfl rfl rfl a7 ?_) | fail);go_ret;exact Q.o
theorem Le (B g n cap:Nat) (cur:Array aJ) (l:List mP) (k:Nat) (c:mP) (b:Nat) (W:aF) (u:n=l.length) (I:dN W g cur 88) (bB:cap<=bf) (cA:n<=cap) (aE:cur.toList.take (n * 3)=flat EW l) (S:dN W b (lN c).toArray 88) (c8:k<n) (cC:cap<n+1) (c9:n<=900) (hB:B<=W.heap.size) :
  aI D 43 #[J (V ⟨g,0,Z⟩) n cap,O U k,J (V ⟨b,0,Z⟩) 1 1] W (Fp B l k c (J (V ⟨g,0,Z⟩) n cap) W):=by
 have c7:=I.lt;have bA:=S.lt;obtain⟨G,q,r,M,bM,b9,b4,b5,b6,b2⟩:=vL (E:=EW) (l:=l) (k:=k) (cap:=cap) (cur:=cur) (cs:=(lN c).toArray) (c:=c) okW 3 Tryz.underlying3 (by omega) (by omega) (by omega) (by omega) (by rw [<- u]; exact aE) W g b I bA;unfold bf at bB b9;have s0:=iw (E:=EW) okW g k n cap (by omega) (by omega);have s1:=kI (E:=EW) okW ⟨g,0,Z⟩ k n cap (by omega);have s2:=iw (E:=EW) okW W.heap.size k (n+1) G (by omega) (by omega);have s3:=iw (E:=EW) okW W.heap.size (k+1) (n+1) G (by omega) (by omega);have H:=b4 28;have F:=dR W.drew q 88;have a2:W.drew.heap.size=W.heap.size:=rfl;rw [a2] at F;have a6:dN (W.drew.alloc (aj q 88)) g cur 88:=dN.more (show dN W.drew g cur 88 from I) _;have b7:dN (W.drew.alloc (aj q 88)) b (lN c).toArray 88:=dN.more (show dN W.drew b _ 88 from S) _;have T:=b5 (W.drew.alloc (aj q 88)) 3 (n+1-k) (G-k) F b7 rfl (by omega);have a1:=b6 ((W.drew.alloc (aj q 88)).setRow W.heap.size r).drew 3 (n+1-(k+1)) (G-(k+1)) (n-k) (cap-k) (dN.set F r) (dN.other a6 (by omega) r) (by omega);have Q:=o (show Fp B l k c (J (V ⟨g,0,Z⟩) n cap) W (ay (J (V ⟨W.heap.size,0,Z⟩) (n+1) G)) (((W.drew.alloc (aj q 88)).setRow W.heap.size r).drew.setRow W.heap.size M) from ⟨_,rfl,by rw [u]; exact b2 _ B hB (dN.set (dN.set F r) M),below_setRow (below_setRow ((aA B W).drew.alloc hB _) hB _).drew hB _,fun j a8 _=>(setRow_other _ W.heap.size j _ (by omega)).trans ((setRow_other _ W.heap.size j _ (by omega)).trans (Array.getElem?_push_lt a8 |>.trans (Array.getElem?_eq_getElem a8).symm))⟩);have b1:l.length+1=n+1:=by rw [u]
 rw [b1,<- u] at H;clear b4 b5 b6 b2 I aE S a6 b7 F a2 b1;change ∀ w,(ak 28 (J (V ⟨g,0,Z⟩) n cap) (V (O U k)) Z Z).run D w=.ok (J (V ⟨g,k * 3,Z⟩) (n-k) (cap-k)) w at s0;change ∀ w,(ak 28 (J (V ⟨g,0,Z⟩) n cap) Z (V (O U k)) Z).run D w=.ok (J (V ⟨g,0,Z⟩) k cap) w at s1;change ∀ w,(ak 28 (J (V ⟨W.heap.size,0,Z⟩) (n+1) G) (V (O U k)) Z Z).run D w=.ok (J (V ⟨W.heap.size,k * 3,Z⟩) (n+1-k) (G-k)) w at s2;change ∀ w,(ak 28 (J (V ⟨W.heap.size,0,Z⟩) (n+1) G) (V (O U ((k:Int)+1))) Z Z).run D w=.ok (J (V ⟨W.heap.size,(k+1) * 3,Z⟩) (n+1-(k+1)) (G-(k+1))) w at s3;change (aT #[28,3] 28 #[J (V ⟨g,0,Z⟩) k cap,O U ((n:Int)+1-k)]).run D W=.ok (J (V ⟨W.heap.size,0,Z⟩) (n+1) G) (W.drew.alloc (aj q 88)) at H;change (aG #[28,28] 3 #[J (V ⟨W.heap.size,k * 3,Z⟩) (n+1-k) (G-k),J (V ⟨b,0,Z⟩) 1 1]).run D (W.drew.alloc (aj q 88))=.ok (O U 1) ((W.drew.alloc (aj q 88)).setRow W.heap.size r) at T;change (aG #[28,28] 3 #[J (V ⟨W.heap.size,(k+1) * 3,Z⟩) (n+1-(k+1)) (G-(k+1)),J (V ⟨g,k * 3,Z⟩) (n-k) (cap-k)]).run D ((W.drew.alloc (aj q 88)).setRow W.heap.size r).drew=.ok (O U ((l.length-k:Nat):Int)) (((W.drew.alloc (aj q 88)).setRow W.heap.size r).drew.setRow W.heap.size M) at a1;have bE:((k:Int) == (n:Int))=aC:=by rw [beq_eq_false_iff_ne]; omega
 have bI:decide ((cap:Int)<(n:Int)+1)=aV:=by simp; omega
 have bO:n+1<=G:=by omega
 clear u;generalize W.heap.size=N at *;generalize W.drew.alloc (aj q 88)=b8 at *;generalize b8.setRow N r=bC at *;go_enter aS,aQ;go_wp2_with (first | (at_builtin; refine jA rfl _ _ 28 3 rfl rfl rfl H ?_) | (at_builtin; refine wpList_copy_run rfl _ _ 28 rfl rfl rfl T ?_) | fail);clear H T s0 s1 s2 s3;have cF:IntKind.i64.wrap ((k:Int)+1)=(k:Int)+1:=by rw [aR]; omega
 have bT:(0:Int)<=(k:Int)+1:=by omega
 have bP:(k:Int)+1<=(n:Int)+1:=by omega
 have cD:((k:Int)+1).toNat=k+1:=by omega
 have bW:¬ (G=k+1):=by omega
 have bX:(k:Int)<=(n:Int):=by omega
 have c6:¬ (cap=k):=by omega
 have a7:n+1-(k+1)=n-k:=by omega
 rw [a7] at a1;clear a7
 go_region_law (refine iW rfl (.tmp 50) (.tmp 53) 28 rfl (v:=J (V ⟨N,(k+1) * 3,Z⟩) (n-k) (G-(k+1))) (xv:=J (V ⟨g,k * 3,Z⟩) (n-k) (cap-k)) (by simp [Act.eval,Act.put]) (by simp [Act.eval,Act.put]) a1 ?_)
 all_goals simp only [Exit.then]
 all_goals apply_assumption
 go_wp2;go_ret;exact Q.o
theorem NH (B:Nat) (v:aJ) (l:List mP) (k:Nat) (c:mP) (b:Nat) (W:aF) (H:nO W B v l) (u:dN W b (lN c).toArray 88) (S:v.ownBlock≠V b) (T:k<=l.length) (r:l.length<=900) (hB:B<=W.heap.size) :
  aI D 43 #[v,O U k,J (V ⟨b,0,Z⟩) 1 1] W (Fp B l k c v W):=by
 rcases aH k l.length with h|h
 ·rcases gD H with⟨_,j⟩|⟨g,cap,cur,rfl,I,j,M,F,N,G⟩
  ·rw [j] at h; simp at h
  ·rcases aH cap (l.length+1) with q|q
   ·exact Le B g _ cap cur l k c b W rfl j F M G u h q r hB
   ·exact Ir B g _ cap cur l k c b W rfl I j F N G u (fun e=>S (by simp [Value.ownBlock,e])) h q r
 ·obtain rfl:k=l.length:=by omega
  exact NG B v l c b W H u r hB
end Rt
end Go.Proofs.YtghlpefopidlaaaGreat
