/-
  slices.BinarySearchF. Conditions as told.
-/
import Derived.Test.YtghlpefopidlaaaGreatDQ003
import Derived.Deep.LoopGhost
set_option maxRecDepth 100000
set_option maxHeartbeats 64000000
open _root_.Bool renaming false->aO,true->bD
open _root_.Go renaming cell_regrown->au,World->aA,redrawn->aF,Calls->aI,below_regrown->aL,Value->aN,bodyPost_ret->aY
open Go.Builtin renaming copy_->aM
open Go.Ending renaming returned->aj
open Go.Instr renaming sliceAt->ay,indexAt->bF
open Go.IntKind renaming i64->Z,wrap_i64->aZ
open Go.Obj renaming cells->aD
open Go.Op renaming bytesLess->aG
open Go.Proofs.Tryz renaming prog->D,results163->aP,ntmps191->aR,ntmps170->aS,ntmps163->aT,func191->aV,func170->aW,func163->aX
open Go.RowKit.Below renaming refl->aC
open Go.Value renaming slice->L,int->V,string->ah,bool->aQ,pointer->bg
open Go.World.ownsRow renaming stored->aB,cellAt->bG
open _root_.List renaming length_map->ak,getElem?_eq_some_iff->aH,getElem?_map->aJ,getElem?_eq_getElem->aK,length_set->bf
open _root_.Nat renaming le_refl->U,lt_or_ge->aU
open _root_.Option renaming none->J,some->O
open Go.Proofs.YtghlpefopidlaaaGreat renaming hq->f
namespace Go.Proofs.YtghlpefopidlaaaGreat
namespace Pr
open Go.RowKit Go.Sort Pu Rw Va
theorem QK (a b:ByteArray) (w:aA):aI D 202 #[ah a,ah b] w fun e w'=>e=aj (V Z (KG a b))/\w'=w:=by
 go_enter Tryz.func202,Tryz.ntmps202;go_wp2_with fail;rw [run_callFunc_extern Tryz.func204 (by kernel_rfl) (by kernel_rfl) (by kernel_rfl) (e:=Extern.BytealgCompare.compare) (by kernel_rfl),Lib.run_compareString];simp only [Result.andThen];rw [Oper.upon_value];go_wp2;go_ret;exact⟨rfl,rfl⟩
theorem pG (a b:ByteArray) (w:aA):aI D 197 #[ah a,ah b] w fun e w'=>e=aj (V Z (KG a b))/\w'=w:=by
 go_enter Tryz.func197,Tryz.ntmps197;go_wp2_with fail;refine (QK a b w).mono ?_;rintro e w' ⟨rfl,rfl⟩;go_wp2;go_ret;exact⟨rfl,rfl⟩
theorem QL (c d:C5) (w:aA):aI D 190 #[cv c,cv d] w fun e w'=>e=aj (V Z (KG c.1 d.1))/\Below w.heap.size w w':=by
 go_enter Tryz.func190,Tryz.ntmps190;go_wp2_with fail;refine (pG c.1 d.1 _).mono ?_;rintro e w' ⟨rfl,rfl⟩;go_wp2;go_ret;exact⟨rfl,((aC w.heap.size w).alloc (U _) _).alloc (by simp) _⟩
theorem Jk (c d:C5) (j:Int) (q:KG c.1 d.1=j) (w:aA) (k:Nat) (os:Array Obj) :
  aI D 190 #[cv c,cv d] (grow (aF w k) os) fun e r=>e=aj (V Z j)/\∃ p:Regrown,r=grow (aF w p.d) p.os:=by
 subst q;exact Calls.regrown_of (QL c d _)
theorem oM {W j:aA} {v:aN} {l:List C5} {q:OA} {n c k:Nat} {x:C5} (h:fO W v l) (I:v=L q n c) (H:l.length=n) (G:l[k]?=O x) (F:Below W.heap.size W j) :
  ∃ p:Addr,(∀ w,(bF 34 (L q n c) (V Z k)).run D w=.ok (bg (O p)) w) /\
   (∀ d os,(grow (aF j d) os).cell? p=O (ah x.1))/\(∀ d os,(grow (aF j d) os).cell? ⟨p.block,p.off+1,J⟩=O (V Z x.2.1))/\(∀ d os,(grow (aF j d) os).cell? ⟨p.block,p.off+2,J⟩=O (V Z x.2.2.1))/\(∀ d os,(grow (aF j d) os).cell? ⟨p.block,p.off+3,J⟩=O (V Z x.2.2.2.1))/\(∀ d os,(grow (aF j d) os).cell? ⟨p.block,p.off+4,J⟩=O (ah x.2.2.2.2)):=by
 obtain⟨p,r,u⟩:=XG h I H G;obtain⟨c0,c1,c2,c3,c4⟩:=u _ F;exact⟨p,r,au c0,au c1,au c2,au c3,au c4⟩
theorem pJ {W:aA} {b:Nat} {c:C5} (h:dN W b (cells5 c).toArray 91):(∀ d os,(grow (aF W d) os).cell? ⟨b,0,J⟩=O (ah c.1))/\(∀ d os,(grow (aF W d) os).cell? ⟨b,1,J⟩=O (V Z c.2.1))/\(∀ d os,(grow (aF W d) os).cell? ⟨b,2,J⟩=O (V Z c.2.2.1))/\(∀ d os,(grow (aF W d) os).cell? ⟨b,3,J⟩=O (V Z c.2.2.2.1))/\(∀ d os,(grow (aF W d) os).cell? ⟨b,4,J⟩=O (ah c.2.2.2.2)) :=
 ⟨au (h.cell 0),au (h.cell 1),au (h.cell 2),au (h.cell 3),au (h.cell 4)⟩
theorem YZ (v:aN) (l:List Cn) (c:Cn) (w:aA) (bC:fO w v (l.map r5)) (F:kX l) (cL:l.length<=100) :
  aI D 189 #[v,cv (r5 c),.func (.func 190) #[] #[]] w fun e w'=>e=aj (.tuple #[V Z (lF l c.1),aQ (lM l c.1)])/\Below w.heap.size w w':=by
 have aE:=f bC;have bP:=f F;have bX:=f (show (l.map r5).length=l.length from ak ..);have bM:=f (dR w (cells5 (r5 c)).toArray 91);have bI:=f ((aC w.heap.size w).alloc (U _) (aD (cells5 (r5 c)).toArray 91));obtain⟨cR,cQ,rfl⟩:=bC.len;rw [ak] at aE ⊢;obtain⟨n,b2⟩:∃ n,n=l.length:=⟨_,rfl⟩;rw [<- b2] at aE cL ⊢;have G:=f b2;obtain⟨c8,bA⟩:∃ k,k=lF l c.1:=⟨_,rfl⟩;obtain⟨cG,bB⟩:∃ k,k=lM l c.1:=⟨_,rfl⟩;rw [<- bA,<- bB];have bO:=f bA;have bT:=f bB;clear bC F b2 bA bB;go_enter Tryz.func189,Tryz.ntmps189;go_wp2;change Code.wp _ _ _ _ (w.alloc (aD (cells5 (r5 c)).toArray 91));generalize w.alloc (aD (cells5 (r5 c)).toArray 91)=w1 at *
 go_loopg [9,10] n (fun cM cP cN wr=>∃ lo j:Nat,cP=V Z lo/\cN=V Z j/\lo<=j/\j<=n/\j-lo<=cM/\Below w.heap.size w wr/\dN wr w.heap.size (cells5 (r5 c)).toArray 91 /\
  (∀ (t:Nat) (y:Cn),t<lo->l[t]?=O y->aG y.1.toList c.1.toList=bD)/\(∀ (t:Nat) (y:Cn),j<=t->l[t]?=O y->aG y.1.toList c.1.toList=aO))
 case atStart=>exact⟨0,n,rfl,rfl,Nat.zero_le _,U _,by omega,bI.o,bM.o,fun t y h=>by omega,fun t y b9 H=>by have:=(aH.1 H).1; have:=G.o; omega⟩
 case round =>
  clear bI bM;obtain⟨lo,j,rfl,rfl,cU,cJ,cT,cA,cF,c9,b4⟩:=hrel;have B:=f cA;have X:=f cF;have bE:=f c9;have c7:=f b4;clear cA cF c9 b4;by_cases cC:lo<j
  ·obtain⟨y,I⟩:∃ y,l[(lo+j) / 2]?=O y:=⟨_,aK (by have:=G.o; omega)⟩;obtain⟨p,b5,a1,a2,a6,a7,a8⟩:=oM (x:=r5 y) aE.o rfl (bX.o.trans G.o.symm) (by rw [aJ,I]; rfl) B.o;obtain⟨b0,N,S,b3,T⟩:=pJ X.o;obtain⟨q,F⟩:∃ q,KG y.1 c.1=q:=⟨_,rfl⟩;have C:=Jk (r5 y) (r5 c) q F wr;have bW:=f (show decide (q<0)=aG y.1.toList c.1.toList by rw [<- F]; exact U6 _ _);have Y:=f I;simp only [r5] at a1 a2 a6 a7 a8 b0 N S b3 T C ⊢;clear I F;have cS:((lo:Int)+(j:Int)) / 2=(((lo+j) / 2:Nat):Int):=by omega
   generalize cV:(lo+j) / 2=m at *;have M:=f (fun r u=>B.o.trans ((aL wr r u).mono B.o.size));have c6:=f (fun r u=>X.o.on (aL wr r u));by_cases cD:q<0
   ·have b8:decide (q<0)=bD:=by simpa using cD
    have b1:=f (show aG y.1.toList c.1.toList=bD by rw [<- bW.o]; exact b8);go_wp2;refine ko ?_
    repeat (go_big_quiet_step (first | (with_reducible exact C _ _) | exact vR _ _))
    refine kr fun r u=>?_;clear b5 a1 a2 a6 a7 a8 b0 N S b3 T C;go_wp2
    go_roundg (j-(m+1))
    case measure=>omega
    case rel=>exact⟨m+1,j,by go_num,rfl,by omega,cJ,U _,M.o _ _,c6.o _ _,fun t z b9 H=>by
     rcases aU t m with cI|cI
     ·exact IW bP.o (by omega) H Y.o b1.o
     ·obtain rfl:t=m:=by omega
      rw [Y.o] at H;rw [<- Option.some.inj H];exact b1.o,c7.o⟩
   ·have b8:decide (q<0)=aO:=by simpa using cD
    have b1:=f (show aG y.1.toList c.1.toList=aO by rw [<- bW.o]; exact b8);go_wp2;refine ko ?_
    repeat (go_big_quiet_step (first | (with_reducible exact C _ _) | exact vR _ _))
    refine kr fun r u=>?_;clear b5 a1 a2 a6 a7 a8 b0 N S b3 T C;go_wp2
    go_roundg (m-lo)
    case measure=>omega
    case rel=>exact⟨lo,m,rfl,rfl,by omega,by omega,U _,M.o _ _,c6.o _ _,bE.o,fun t z b9 H=>by
     cases h:aG z.1.toList c.1.toList
     ·rfl
     ·have:=IW bP.o b9 Y.o H h;rw [b1.o] at this;cases this⟩
  ·obtain rfl:j=lo:=by omega
   have E:=f (Sw l c.1 j (by have:=G.o; omega) bE.o (fun z b4=>c7.o j z (U _) b4));by_cases b2:j<n
   ·obtain⟨y,I⟩:∃ y,l[j]?=O y:=⟨_,aK (by have:=G.o; omega)⟩;obtain⟨p,b5,a1,a2,a6,a7,a8⟩:=oM (x:=r5 y) aE.o rfl (bX.o.trans G.o.symm) (by rw [aJ,I]; rfl) B.o;obtain⟨b0,N,S,b3,T⟩:=pJ X.o;obtain⟨q,F⟩:∃ q,KG y.1 c.1=q:=⟨_,rfl⟩;have C:=Jk (r5 y) (r5 c) q F wr;have b7:=f (show cG=(q == 0) by
     rw [bT.o,lM,E.o,I,Bool.eq_iff_iff,beq_iff_eq,<- F,U7,decide_eq_true_eq])
    simp only [r5] at a1 a2 a6 a7 a8 b0 N S b3 T C ⊢;have M:=f (fun r u=>B.o.trans ((aL wr r u).mono B.o.size));have b6:=f (show c8=j by rw [bO.o,E.o]);clear I F cC;have cH:decide ((j:Int)<(n:Int))=bD:=by simp; omega
    go_wp2;refine ko ?_
    repeat (go_big_quiet_step (first | (with_reducible exact C _ _) | exact vR _ _))
    refine kr fun r u=>?_;clear b5 a1 a2 a6 a7 a8 b0 N S b3 T C;go_wp2
    go_ret2
    exact⟨by rw [b7.o,b6.o]; rfl,M.o _ _⟩
   ·have b7:=f (show cG=aO by
     rw [bT.o,lM,E.o,List.getElem?_eq_none (by have:=G.o; omega)])
    have b6:=f (show c8=j by rw [bO.o,E.o]);have M:=f (fun r u=>B.o.trans ((aL wr r u).mono B.o.size));have cH:decide ((j:Int)<(n:Int))=aO:=by simp; omega
    clear cC;go_wp2;refine ko ?_
    repeat (go_big_quiet_step (first | (with_reducible exact C _ _) | exact vR _ _))
    refine kr fun r u=>?_;go_wp2
    go_ret2
    exact⟨by rw [b7.o,b6.o]; rfl,M.o _ _⟩
theorem adx {W:aA} {b:Nat} {c:C5} (h:dN W b (cells5 c).toArray 91):fO W (L (O ⟨b,0,J⟩) 1 1) [c] :=
 Or.inr ⟨⟨b,0,J⟩,1,rfl,by simp,by decide,uK h (by simp [EC])⟩
def QM (B:Nat) (l:List C5) (k:Nat) (c:C5) (W:aA) (e:Ending) (w':aA):Prop:=∃ j,e=aj j/\iH w' B j (l.take k++c::l.drop k)/\Below B W w'
theorem QN (B:Nat) (v:aN) (l:List C5) (c:C5) (b:Nat) (W:aA) (j:iH W B v l) (I:dN W b (cells5 c).toArray 91) (T:l.length<=100) (hB:B<=W.heap.size) :
  aI D 191 #[v,V Z (l.length:Nat),L (O ⟨b,0,J⟩) 1 1] W (QM B l l.length c W):=by
 obtain⟨u,w',H,r,q⟩:=Ii B j (adx I) (by omega) (by simp) hB;have Q:=f (show QM B l l.length c W (aj u) w' from ⟨u,rfl,by rw [List.take_of_length_le (U _),List.drop_of_length_le (U _)]; exact r,(aC B W).grown q hB (fun M F=>(j.lt M F).1)⟩);obtain⟨a2,a1,_⟩:=hiC (Row.dL j) l.length (U _);obtain⟨S,N,rfl⟩:=(Row.dL j).len;clear j r q;generalize G:l.length=n at *;clear G;go_enter aV,aR;go_wp2_with (first | (at_builtin; refine wpList_append_run rfl _ _ 34 rfl rfl rfl H ?_) | fail);go_ret;exact Q.o
theorem ady (w:aA) (g b k la q cb:Nat) (cur cs:Array aN) (j:dN w b cs 91) (r:dN w g cur 91) (u:b≠g) (F:0<cur.size):(callFunc 198 #[L (O ⟨b,0,J⟩) la 1,L (O ⟨g,k,J⟩) q cb]).run D w=.ok (.value (aQ aO)) w:=by
 rw [run_callFunc_extern Tryz.func198 (by kernel_rfl) (by kernel_rfl) (by kernel_rfl) (e:=Extern.SlicesOverlaps.overlaps #[34,34] #[4]) (by kernel_rfl),
  Lib.run_overlaps_apart w 34 4 91 Tryz.underlying34 5 Tryz.sizeOf91 ⟨b,0,J⟩ ⟨g,k,J⟩ la 1 q cb u 91 91 cs.size cur.size j.shape r.shape (by omega) (j.fr 0) (j.fr _)]
 rfl
theorem Ld (B g n cap:Nat) (cur:Array aN) (l:List C5) (k:Nat) (c:C5) (b:Nat) (W:aA) (G:n=l.length) (r:B<=g) (q:dN W g cur 91) (N:cap<=maxLen) (T:cur.size=cap * 5) (a1:cur.toList.take (n * 5)=flat EC l) (I:dN W b (cells5 c).toArray 91) (H:b≠g) (bB:k<n) (bE:n+1<=cap) (bC:n<=100) :
  aI D 191 #[L (O ⟨g,0,J⟩) n cap,V Z k,L (O ⟨b,0,J⟩) 1 1] W (QM B l k c W):=by
 obtain⟨j,F,a7,a8,a2⟩:=sZ (E:=EC) (l:=l) (k:=k) (cap:=cap) (cur:=cur) (cs:=(cells5 c).toArray) (c:=c) wV (by omega) (by omega) T (by rw [<- G]; exact a1) g b H;have S:=fun b8 cb=>ady W g b ((k+1) * 5) 1 b8 cb cur (cells5 c).toArray I q H (by omega);have s0:=iw (E:=EC) wV g k n cap (by omega) (by omega);have s1:=kI (E:=EC) wV ⟨g,0,J⟩ (n+1) n cap (by omega);have s2:=iw (E:=EC) wV g (k+1) (n+1) cap (by omega) (by omega);have s3:=iw (E:=EC) wV g k (n+1) cap (by omega) (by omega);have u:=a7 W.drew 3 (n+1-(k+1)) (cap-(k+1)) (n+1-k) (cap-k) q (by omega);have a6:=a8 (W.drew.setRow g j) 3 (n+1-k) (cap-k) (dN.set (show dN W.drew g cur 91 from q) j) (dN.other (show dN W.drew b _ 91 from I) H j) rfl (by omega);have Q:=f (show QM B l k c W (aj (L (O ⟨g,0,J⟩) (n+1) cap)) ((W.drew.setRow g j).setRow g F) from ⟨_,rfl,by rw [G]; exact a2 _ B r N (dN.set (dN.set (show dN W.drew g cur 91 from q) j) F),below_setRow (below_setRow (aC B W).drew r _) r _⟩);clear a7 a8 a2 q a1 I T r N;change ∀ w,(ay 34 (L (O ⟨g,0,J⟩) n cap) (O (V Z k)) J J).run D w=.ok (L (O ⟨g,k * 5,J⟩) (n-k) (cap-k)) w at s0;change ∀ w,(ay 34 (L (O ⟨g,0,J⟩) n cap) J (O (V Z ((n:Int)+1))) J).run D w=.ok (L (O ⟨g,0,J⟩) (n+1) cap) w at s1;change ∀ w,(ay 34 (L (O ⟨g,0,J⟩) (n+1) cap) (O (V Z ((k:Int)+1))) J J).run D w=.ok (L (O ⟨g,(k+1) * 5,J⟩) (n+1-(k+1)) (cap-(k+1))) w at s2;change ∀ w,(ay 34 (L (O ⟨g,0,J⟩) (n+1) cap) (O (V Z k)) J J).run D w=.ok (L (O ⟨g,k * 5,J⟩) (n+1-k) (cap-k)) w at s3;have b9:((k:Int) == (n:Int))=aO:=by rw [beq_eq_false_iff_ne]; omega
 have bA:decide ((cap:Int)<(n:Int)+1)=aO:=by simp; omega
 change (aM #[34,34] 3 #[L (O ⟨g,(k+1) * 5,J⟩) (n+1-(k+1)) (cap-(k+1)),L (O ⟨g,k * 5,J⟩) (n+1-k) (cap-k)]).run D W.drew=.ok (V Z ((l.length-k:Nat):Int)) (W.drew.setRow g j) at u;change (aM #[34,34] 3 #[L (O ⟨g,k * 5,J⟩) (n+1-k) (cap-k),L (O ⟨b,0,J⟩) 1 1]).run D (W.drew.setRow g j)=.ok (V Z 1) ((W.drew.setRow g j).setRow g F) at a6;clear G;go_enter aV,aR;go_wp2_with (first | (simp only [S]) | fail);clear S s0 s1 s2 s3;have b7:IntKind.i64.wrap ((k:Int)+1)=(k:Int)+1:=by rw [aZ]; omega
 have b1:(0:Int)<=(k:Int)+1:=by omega
 have aE:(k:Int)+1<=(n:Int)+1:=by omega
 have b6:((k:Int)+1).toNat=k+1:=by omega
 have b2:¬ (cap=k+1):=by omega
 have b4:(k:Int)<=(n:Int)+1:=by omega
 have b5:¬ (cap=k):=by omega
 have M:n+1-(k+1)=n-k:=by omega
 rw [M] at u;clear M
 go_region_law (refine iW rfl (.tmp 73) (.tmp 76) 34 rfl (v:=L (O ⟨g,(k+1) * 5,J⟩) (n-k) (cap-(k+1))) (xv:=L (O ⟨g,k * 5,J⟩) (n+1-k) (cap-k)) (by simp [Act.eval,Act.put]) (by simp [Act.eval,Act.put]) u ?_)
 all_goals simp only [Exit.then]
 all_goals apply_assumption
 clear u b7 b1 aE b6 b2 b4 b5;have s3:=iw (E:=EC) wV g k (n+1) cap (by omega) (by omega);change ∀ w,(ay 34 (L (O ⟨g,0,J⟩) (n+1) cap) (O (V Z k)) J J).run D w=.ok (L (O ⟨g,k * 5,J⟩) (n+1-k) (cap-k)) w at s3;go_wp2_with (first | (at_builtin; refine wpList_copy_run rfl _ _ 34 rfl rfl rfl a6 ?_) | fail);go_ret;exact Q.o
theorem ND (B g n cap:Nat) (cur:Array aN) (l:List C5) (k:Nat) (c:C5) (b:Nat) (W:aA) (u:n=l.length) (H:dN W g cur 91) (b9:cap<=maxLen) (c8:n<=cap) (a7:cur.toList.take (n * 5)=flat EC l) (M:dN W b (cells5 c).toArray 91) (c6:k<n) (c9:cap<n+1) (c7:n<=100) (hB:B<=W.heap.size) :
  aI D 191 #[L (O ⟨g,0,J⟩) n cap,V Z k,L (O ⟨b,0,J⟩) 1 1] W (QM B l k c W):=by
 have bX:=H.lt;have b8:=M.lt;obtain⟨j,q,r,I,bE,b7,b1,b2,b4,aE⟩:=vL (E:=EC) (l:=l) (k:=k) (cap:=cap) (cur:=cur) (cs:=(cells5 c).toArray) (c:=c) wV 3 Tryz.underlying3 (by omega) (by omega) (by omega) (by omega) (by rw [<- u]; exact a7) W g b H b8;unfold maxLen at b9 b7;have s0:=iw (E:=EC) wV g k n cap (by omega) (by omega);have s1:=kI (E:=EC) wV ⟨g,0,J⟩ k n cap (by omega);have s2:=iw (E:=EC) wV W.heap.size k (n+1) j (by omega) (by omega);have s3:=iw (E:=EC) wV W.heap.size (k+1) (n+1) j (by omega) (by omega);have G:=b1 34;have F:=dR W.drew q 91;have a1:W.drew.heap.size=W.heap.size:=rfl;rw [a1] at F;have a2:dN (W.drew.alloc (aD q 91)) g cur 91:=dN.more (show dN W.drew g cur 91 from H) _;have b5:dN (W.drew.alloc (aD q 91)) b (cells5 c).toArray 91:=dN.more (show dN W.drew b _ 91 from M) _;have N:=b2 (W.drew.alloc (aD q 91)) 3 (n+1-k) (j-k) F b5 rfl (by omega);have S:=b4 ((W.drew.alloc (aD q 91)).setRow W.heap.size r).drew 3 (n+1-(k+1)) (j-(k+1)) (n-k) (cap-k) (dN.set F r) (dN.other a2 (by omega) r) (by omega);have Q:=f (show QM B l k c W (aj (L (O ⟨W.heap.size,0,J⟩) (n+1) j)) (((W.drew.alloc (aD q 91)).setRow W.heap.size r).drew.setRow W.heap.size I) from ⟨_,rfl,by rw [u]; exact aE _ B hB (dN.set (dN.set F r) I),below_setRow (below_setRow ((aC B W).drew.alloc hB _) hB _).drew hB _⟩);have a8:l.length+1=n+1:=by rw [u]
 rw [a8,<- u] at G;clear b1 b2 b4 aE H a7 M a2 b5 F a1 a8;change ∀ w,(ay 34 (L (O ⟨g,0,J⟩) n cap) (O (V Z k)) J J).run D w=.ok (L (O ⟨g,k * 5,J⟩) (n-k) (cap-k)) w at s0;change ∀ w,(ay 34 (L (O ⟨g,0,J⟩) n cap) J (O (V Z k)) J).run D w=.ok (L (O ⟨g,0,J⟩) k cap) w at s1;change ∀ w,(ay 34 (L (O ⟨W.heap.size,0,J⟩) (n+1) j) (O (V Z k)) J J).run D w=.ok (L (O ⟨W.heap.size,k * 5,J⟩) (n+1-k) (j-k)) w at s2;change ∀ w,(ay 34 (L (O ⟨W.heap.size,0,J⟩) (n+1) j) (O (V Z ((k:Int)+1))) J J).run D w=.ok (L (O ⟨W.heap.size,(k+1) * 5,J⟩) (n+1-(k+1)) (j-(k+1))) w at s3;change (Builtin.append_ #[34,3] 34 #[L (O ⟨g,0,J⟩) k cap,V Z ((n:Int)+1-k)]).run D W=.ok (L (O ⟨W.heap.size,0,J⟩) (n+1) j) (W.drew.alloc (aD q 91)) at G;change (aM #[34,34] 3 #[L (O ⟨W.heap.size,k * 5,J⟩) (n+1-k) (j-k),L (O ⟨b,0,J⟩) 1 1]).run D (W.drew.alloc (aD q 91))=.ok (V Z 1) ((W.drew.alloc (aD q 91)).setRow W.heap.size r) at N;change (aM #[34,34] 3 #[L (O ⟨W.heap.size,(k+1) * 5,J⟩) (n+1-(k+1)) (j-(k+1)),L (O ⟨g,k * 5,J⟩) (n-k) (cap-k)]).run D ((W.drew.alloc (aD q 91)).setRow W.heap.size r).drew=.ok (V Z ((l.length-k:Nat):Int)) (((W.drew.alloc (aD q 91)).setRow W.heap.size r).drew.setRow W.heap.size I) at S;have bB:((k:Int) == (n:Int))=aO:=by rw [beq_eq_false_iff_ne]; omega
 have bC:decide ((cap:Int)<(n:Int)+1)=bD:=by simp; omega
 have bI:n+1<=j:=by omega
 clear u;generalize W.heap.size=T at *;generalize W.drew.alloc (aD q 91)=b6 at *;generalize b6.setRow T r=bA at *;go_enter aV,aR;go_wp2_with (first | (at_builtin; refine jA rfl _ _ 34 3 rfl rfl rfl G ?_) | (at_builtin; refine wpList_copy_run rfl _ _ 34 rfl rfl rfl N ?_) | fail);clear G N s0 s1 s2 s3;have cC:IntKind.i64.wrap ((k:Int)+1)=(k:Int)+1:=by rw [aZ]; omega
 have bO:(0:Int)<=(k:Int)+1:=by omega
 have bM:(k:Int)+1<=(n:Int)+1:=by omega
 have cA:((k:Int)+1).toNat=k+1:=by omega
 have bP:¬ (j=k+1):=by omega
 have bT:(k:Int)<=(n:Int):=by omega
 have bW:¬ (cap=k):=by omega
 have a6:n+1-(k+1)=n-k:=by omega
 rw [a6] at S;clear a6
 go_region_law (refine iW rfl (.tmp 50) (.tmp 53) 34 rfl (v:=L (O ⟨T,(k+1) * 5,J⟩) (n-k) (j-(k+1))) (xv:=L (O ⟨g,k * 5,J⟩) (n-k) (cap-k)) (by simp [Act.eval,Act.put]) (by simp [Act.eval,Act.put]) S ?_)
 all_goals simp only [Exit.then]
 all_goals apply_assumption
 go_wp2;go_ret;exact Q.o
theorem QO (B:Nat) (v:aN) (l:List C5) (k:Nat) (c:C5) (b:Nat) (W:aA) (H:iH W B v l) (u:dN W b (cells5 c).toArray 91) (S:v.ownBlock≠O b) (T:k<=l.length) (r:l.length<=100) (hB:B<=W.heap.size) :
  aI D 191 #[v,V Z k,L (O ⟨b,0,J⟩) 1 1] W (QM B l k c W):=by
 rcases aU k l.length with h|h
 ·rcases gD H with⟨_,j⟩|⟨g,cap,cur,rfl,I,j,M,F,N,G⟩
  ·rw [j] at h; simp at h
  ·rcases aU cap (l.length+1) with q|q
   ·exact ND B g _ cap cur l k c b W rfl j F M G u h q r hB
   ·exact Ld B g _ cap cur l k c b W rfl I j F N G u (fun e=>S (by simp [Value.ownBlock,e])) h q r
 ·obtain rfl:k=l.length:=by omega
  exact QN B v l c b W H u r hB
def pK (m:List Cn) (c:Cn):Except Int (List Cn):=match qW m c with
 | none=>.error 5
 | some m'=>if 5<m'.length then .error 7 else .ok m'
def Y7 (B:Nat) (q:Except Int (List Cn)) (W:aA) (e:Ending) (w':aA):Prop:=Below B W w'/\(match q with
 | .ok m'=>∃ j,e=aj (.tuple #[j,.nilIface])/\iH w' B j (m'.map r5)
 | .error k=>e=aj (.tuple #[L J 0 0,.iface 211 (V Z k)]))
theorem Vz {m:List Cn} {c:Cn} (h:lM m c.1=aO) (j:m.length=5):pK m c=.error 7:=by
 unfold pK;rw [D9 h];have:=zw m c.1;simp only;rw [if_pos (by simp; omega)]
theorem VA {m:List Cn} {c:Cn} (h:lM m c.1=aO) (j:m.length<5):pK m c=.ok (m.take (lF m c.1)++c::m.drop (lF m c.1)):=by
 unfold pK;rw [D9 h];have:=zw m c.1;simp only;rw [if_neg (by simp; omega)]
theorem Jl:∀ (l:List C5) (k:Nat) (x:C5),k<l.length->flat EC (l.set k x)=((((( flat EC l).set (k * 5) (ah x.1)).set (k * 5+1) (V Z x.2.1)).set (k * 5+2) (V Z x.2.2.1)).set (k * 5+3) (V Z x.2.2.2.1)).set (k * 5+4) (ah x.2.2.2.2)
 | [],k,x,h=>by simp at h
 | y::q,0,x,_=>by simp [flat,EC,cells5]
 | y::q,k+1,x,h=>by
  have u:=Jl q k x (by simpa using h);have e:∀ j r (zs:List aN),(cells5 y++zs).set (5+j) r=cells5 y++zs.set j r:=fun j r zs=>by simp [cells5,Nat.add_comm 5 j]
  simp only [List.set_cons_succ,flat,u];show cells5 y++_=_;rw [show (k+1) * 5=5+k * 5 by omega,show 5+k * 5+1=5+(k * 5+1) by omega,show 5+k * 5+2=5+(k * 5+2) by omega,show 5+k * 5+3=5+(k * 5+3) by omega,show 5+k * 5+4=5+(k * 5+4) by omega];show _=((((( cells5 y++flat EC q).set _ _).set _ _).set _ _).set _ _).set _ _;rw [e,e,e,e,e]
theorem Jm {W:aA} {B g n cap k:Nat} {l:List C5} {x:C5} (h:iH W B (L (O ⟨g,0,J⟩) n cap) l) (r:n=l.length) (q:k<n) :
  iH (((((W.setCell ⟨g,k * 5,J⟩ (ah x.1)).setCell ⟨g,k * 5+1,J⟩ (V Z x.2.1)).setCell ⟨g,k * 5+2,J⟩ (V Z x.2.2.1)).setCell ⟨g,k * 5+3,J⟩ (V Z x.2.2.2.1)).setCell ⟨g,k * 5+4,J⟩ (ah x.2.2.2.2)) B (L (O ⟨g,0,J⟩) n cap) (l.set k x):=by
 subst r;have u:=(aB h (k * 5) (ah x.1)).1;have F:=(aB u (k * 5+1) (V Z x.2.1)).1;have G:=(aB F (k * 5+2) (V Z x.2.2.1)).1;have H:=(aB G (k * 5+3) (V Z x.2.2.2.1)).1;have j:=(aB H (k * 5+4) (ah x.2.2.2.2)).1;rw [<- Jl l k x q] at j;show World.ownsRow _ _ _ _ _ (l.set k x).length _;rw [bf];exact j
theorem zF {B:Nat} {W w:aA} (h:Below B W w) (g:Nat) (hB:B<=g) (o:Nat) {v0 j q v3 v4:aN}:Below B W (((((w.setCell ⟨g,o,J⟩ v0).setCell ⟨g,o+1,J⟩ j).setCell ⟨g,o+2,J⟩ q).setCell ⟨g,o+3,J⟩ v3).setCell ⟨g,o+4,J⟩ v4) :=
 ((((h.setCell hB _).setCell hB _).setCell hB _).setCell hB _).setCell hB _
theorem xA {W:aA} {b:Nat} {z:C5} (h:dN W b (cells5 z).toArray 91) (x:C5):dN (((((W.setCell ⟨b,0,J⟩ (ah x.1)).setCell ⟨b,1,J⟩ (V Z x.2.1)).setCell ⟨b,2,J⟩ (V Z x.2.2.1)).setCell ⟨b,3,J⟩ (V Z x.2.2.2.1)).setCell ⟨b,4,J⟩ (ah x.2.2.2.2)) b (cells5 x).toArray 91:=by
 have j:=heap_setCell_same W b 0 _ 91 (ah x.1) h;have q:=heap_setCell_same _ b 1 _ 91 (V Z x.2.1) j;have r:=heap_setCell_same _ b 2 _ 91 (V Z x.2.2.1) q;have u:=heap_setCell_same _ b 3 _ 91 (V Z x.2.2.2.1) r;have F:=heap_setCell_same _ b 4 _ 91 (ah x.2.2.2.2) u;unfold dN;rw [F];simp [cells5]
theorem adz {W:aA} {B:Nat} {v:aN} {l:List C5} (h:iH W B v l) {b:Nat} (j:W.heap.size<=b):v.ownBlock≠O b:=by
 intro e;have:=(h.lt b e).2;omega
theorem Y9 (B:Nat) (v:aN) (m:List Cn) (c:Cn) (W:aA) (H:iH W B v (m.map r5)) (bE:kX m) (bO:m.length<=5) (hB:B<=W.heap.size) (N:lM m c.1=aO) :
  aI D 170 #[v,cv (r5 c)] W (Y7 B (pK m c) W):=by
 have I:=f (dR W (cells5 (r5 c)).toArray 91);have r:=f ((aC W.heap.size W).alloc (U _) (aD (cells5 (r5 c)).toArray 91));have u:=f (YZ v m c (W.alloc (aD (cells5 (r5 c)).toArray 91)) ((Row.dL H).on r.o) bE (by omega));have bA:=f H;have b8:=f (show (m.map r5).length=m.length from ak ..);have b7:=f (zw m c.1);obtain⟨a2,a1,rfl⟩:=(Row.dL H).len;rw [b8.o] at *;rw [N] at u;have bT:W.heap.size<(W.alloc (aD (cells5 (r5 c)).toArray 91)).heap.size:=by simp
 by_cases M:m.length=5
 ·have Q:=f (Vz N M);generalize pK m c=q at *;have bC:((m.length:Int) == (5:Int))=bD:=by simp; omega
  clear H M;simp only [r5] at u ⊢;go_enter aW,aS;go_wp2_with fail;refine u.o.mono ?_;rintro bB j ⟨rfl,G⟩;have F:=f (r.o.trans (G.mono r.o.size));clear G u r I;go_wp2
  go_ret2
  exact⟨F.o.mono hB,by rw [Q.o]; rfl⟩
 ·have Q:=f (VA N (show m.length<5 by omega));have S:=f (fun (j:aA) (a6:iH j B (L a2 m.length a1) (m.map r5)) (bP:B<=j.heap.size)=>QO B (L a2 m.length a1) (m.map r5) (lF m c.1) (r5 c) j.heap.size (j.alloc (aD (cells5 (r5 c)).toArray 91)) (dK a6 ((aC _ _).alloc (U _) _)) (dR j _ _) (adz a6 (U _)) (by rw [ak]; exact b7.o) (by rw [ak]; omega) (by simp; omega));generalize pK m c=q at *;have bC:((m.length:Int) == (5:Int))=aO:=by rw [beq_eq_false_iff_ne]; omega
  clear H M;simp only [r5] at u ⊢;go_enter aW,aS;go_wp2_with fail;refine u.o.mono ?_;rintro bB j ⟨rfl,G⟩;have F:=f (r.o.trans (G.mono r.o.size));have T:=f (dK bA.o F.o);obtain⟨aE,b1,b2,b4,b5⟩:=fF (I.o.on G);simp only [r5] at aE b1 b2 b4 b5;clear G u r I;go_wp2_with fail;have C:=S.o j T.o (by have:=F.o.size; omega);refine C.mono ?_;rintro bM bW ⟨bI,rfl,a8,a7⟩;have b6:=f (((F.o.mono hB).alloc (by have:=F.o.size; omega) (aD (cells5 (r5 c)).toArray 91)).trans a7);have b9:=f a8;clear a8 a7 C S T aE b1 b2 b4 b5;go_wp2
  go_ret2
  exact⟨b6.o,by rw [Q.o]; exact⟨bI,rfl,by rw [List.map_append,List.map_cons,List.map_take,List.map_drop]; exact b9.o⟩⟩
theorem Za (B:Nat) (v:aN) (m:List Cn) (c:Cn) (W:aA) (T:iH W B v (m.map r5)) (c6:kX m) (f0:m.length<=5) (hB:B<=W.heap.size) (b5:lM m c.1=bD) :
  aI D 170 #[v,cv (r5 c)] W (Y7 B (pK m c) W):=by
 obtain⟨x,b6,bX,bT⟩:=IU b5;have b9:=f (dR W (cells5 (r5 c)).toArray 91);have a6:=f ((aC W.heap.size W).alloc (U _) (aD (cells5 (r5 c)).toArray 91));have I:=f (YZ v m c (W.alloc (aD (cells5 (r5 c)).toArray 91)) ((Row.dL T).on a6.o) c6 (by omega));rw [b5] at I;have a8:=f (fun w=>Nz x c w bX);have Q:=f (show pK m c=match fI x.2 c.2 with
  | some k=>.ok (m.set (lF m c.1) (x.1,k))
  | none=>.error 5 by
   unfold pK;rw [bT];cases fI x.2 c.2 with
   | none=>rfl
   | some k=>simp only [Option.map_some]; rw [if_neg (by rw [bf]; omega)])
 generalize pK m c=q at *;generalize fI x.2 c.2=r at *;have bW:lF m c.1<m.length:=(aH.1 b6).1;generalize eK:lF m c.1=k at *;have e8:=f bW;have eB:=f (show (m.map r5).length=m.length from ak ..);rcases gD T with⟨_,eE⟩|⟨g,cap,cur,rfl,bO,H,eL,eI,eM,eN⟩
 ·have:=List.map_eq_nil_iff.1 eE;subst this;simp at bW
 ·have bI:=D7 wV (m.map r5) k (r5 x) (by rw [aJ,b6]; rfl);have cl:∀ j u,j<5->(cells5 (r5 x))[j]?=O u->W.cell? ⟨g,k * 5+j,J⟩=O u:=fun j u eJ hu=>(bG T (k * 5+j) (by rw [ak]; show _<m.length * 5; omega)).trans ((bI j eJ).trans hu);have aE:=f (fun (F:aA) (M:Below W.heap.size W F)=>show F.cell? ⟨g,k * 5,J⟩=O (ah x.1)/\F.cell? ⟨g,k * 5+1,J⟩=O (V Z (kN x.2))/\F.cell? ⟨g,k * 5+2,J⟩=O (V Z (kS x.2))/\F.cell? ⟨g,k * 5+3,J⟩=O (V Z (kU x.2))/\F.cell? ⟨g,k * 5+4,J⟩=O (ah (kT x.2)) from
   ⟨(M.cell (show g<W.heap.size from H.lt)).trans (cl 0 _ (by decide) rfl),(M.cell (show g<W.heap.size from H.lt)).trans (cl 1 _ (by decide) rfl),(M.cell (show g<W.heap.size from H.lt)).trans (cl 2 _ (by decide) rfl),(M.cell (show g<W.heap.size from H.lt)).trans (cl 3 _ (by decide) rfl),(M.cell (show g<W.heap.size from H.lt)).trans (cl 4 _ (by decide) rfl)⟩)
  have b1:=f T;have e7:=f H.lt;have e5:=f bO;have e6:=f (show dN W g cur 91 from H);rw [ak] at b1 I ⊢;generalize m.length=n at *;have eR:=oI wV g k n cap (by omega);change ∀ w,(bF 34 (L (O ⟨g,0,J⟩) n cap) (V Z k)).run D w=.ok (bg (O ⟨g,k * 5,J⟩)) w at eR;clear T c6 b5 b6 bT eK H eL eI eM eN bI cl bO bX;simp only [r5] at I a8 ⊢;go_enter aW,aS;go_wp2_with fail;refine I.o.mono ?_;rintro eW F ⟨rfl,a7⟩;have G:=f (a6.o.trans (a7.mono a6.o.size));obtain⟨e0,e1,e2,e3,e4⟩:=fF (b9.o.on a7);obtain⟨b7,cA,cC,cD,cF⟩:=aE.o F G.o;have eQ:W.heap.size<F.heap.size:=by have:=a7.size; simp at this; omega
  have bP:g<F.heap.size:=by have:=e7.o; omega
  have eC:∀ o,(F.drew.alloc o).cell? ⟨g,k * 5,J⟩=O (ah x.1):=fun o=>((aC F.heap.size F.drew).alloc (U _) o).cell bP |>.trans b7;simp only [r5] at e0 e1 e2 e3 e4;clear a7 I a6 b9 eC;go_wp2_with fail
  rename_i K b4
  have bC:∀ (b8:Nat) (a2:aA) (y:C5) (cG u11 cH u13 cI cJ cL cM cN cP cQ cR cS cT cU cV cW cX cY d0 d1 d2 d3 d4 d5 d6 d7 d8 d9 dA dC dE dS dT:aN),dN a2 b8 (cells5 y).toArray 91->Below W.heap.size W a2->(∀ a1,r=O a1->y=r5 (x.1,a1))->K ⟨#[L (O ⟨g,0,J⟩) n cap,cv (c.1,kN c.2,kS c.2,kU c.2,kT c.2),undef,bg (O ⟨W.heap.size,0,J⟩),L J 0 0,.nilIface,V Z k,aQ bD,bg (O ⟨b8,0,J⟩),aQ r.isSome,cG,u11,cH,u13,cI,cJ,cL,cM,cN,cP,cQ,cR,cS,cT,cU,cV,cW,cX,cY,d0,d1,d2,d3,d4,d5,d6,d7,d8,d9,dA,dC,dE,dS,dT],[]⟩ a2:=by
   clear e0 e1 e2 e3 e4 b7 cA cC cD cF a8 G eQ bP;intro b8 a2 y cG u11 cH u13 cI cJ cL cM cN cP cQ cR cS cT cU cV cW cX cY d0 d1 d2 d3 d4 d5 d6 d7 d8 d9 dA dC dE dS dT c8 S c9;obtain⟨f1,f2,f3,f4,f5⟩:=fF c8;have bB:=dK b1.o S;have bM:=fun j=>(e6.o.on S).fr j;obtain⟨b7,cA,cC,cD,cF⟩:=aE.o a2 S;have bA:=f S;have e9:=f bB;have eA:=f c9;clear c8 S bB aE b1 c9;apply b4;clear b4;rcases r with _|a1
   ·have b2:=f (show q=.error 5 from Q.o);clear Q;go_wp2
    go_ret2
    exact⟨bA.o.mono hB,by rw [b2.o]; rfl⟩
   ·have b2:=f (show q=.ok (m.set k (x.1,a1)) from Q.o);clear Q;go_wp2
    go_ret2
    refine⟨zF (bA.o.mono hB) g e5.o _ ,?_⟩;rw [b2.o];refine⟨L (O ⟨g,0,J⟩) n cap,rfl,?_⟩;rw [List.map_set,<- eA.o a1 rfl];exact Jm e9.o eB.o.symm e8.o
  clear b4
  go_region_with (go_at_call 133; refine (a8.o _).mono ?_; rintro e dZ ⟨⟨y,rfl,c7⟩,N⟩; (try (have bE:=f ((dR F.drew (cells5 (⟨#[]⟩,0,0,0,⟨#[]⟩)).toArray 91).on N); obtain⟨z0,eS,eV,z3,z4⟩:=fF bE.o; have bM:=fun k=>bE.o.fr k; simp only [World.size_drew] at z0 eS eV z3 z4 bM)))
  all_goals simp only [Exit.then]
  all_goals first
   | exact bC dZ.heap.size _ y _ _ _ _ _ _ _ _ _ _ _ _ _ _ _ _ _ _ _ _ _ _ _ _ _ _ _ _ _ _ _ _ _ _ (dR dZ _ _) (((G.o.drew).trans (N.mono (by have:=G.o.size; simp; omega))).alloc (by have:=N.size; have:=G.o.size; simp at *; omega) _) c7
   | exact bC F.heap.size _ y _ _ _ _ _ _ _ _ _ _ _ _ _ _ _ _ _ _ _ _ _ _ _ _ _ _ _ _ _ _ _ _ _ _ (xA ((dR F.drew (cells5 (⟨#[]⟩,0,0,0,⟨#[]⟩)).toArray 91).on N) y) (jc (((G.o.drew).alloc (by have:=G.o.size; simp; omega) _).trans (N.mono (by have:=G.o.size; simp; omega))) F.heap.size (by have:=G.o.size; omega) _ _ _ _ _) c7
theorem Zb (B:Nat) (v:aN) (m:List Cn) (c:Cn) (W:aA) (q:iH W B v (m.map r5)) (r:kX m) (j:m.length<=5) (hB:B<=W.heap.size) :
  aI D 170 #[v,cv (r5 c)] W (Y7 B (pK m c) W):=by
 cases h:lM m c.1
 ·exact Y9 B v m c W q r j hB h
 ·exact Za B v m c W q r j hB h
end Pr
namespace Rl
open Go.RowKit Go.Sort Pu Rw Pr Va
theorem aaM (n:ByteArray) (s t:ByteArray) (w:aA) (h:t.size<=s.size):aI D 163 #[cv (r5 (n,(.pr s))),cv (r5 (n,(.pr t)))] w (S9 n (fI (.pr s) (.pr t)) w):=by
 obtain⟨H,I,bz,M⟩:=Ny w (r5 (n,(.pr s))) (r5 (n,(.pr t))) (⟨#[]⟩,0,0,0,⟨#[]⟩);have B:=f M;have a1:=f H;have a2:=f I;have a6:=f bz;obtain⟨q,u⟩:∃ q,pfx t s=q:=⟨_,rfl⟩;have a8:=f (show fI (.pr s) (.pr t)=if q=bD then O (.pr s) else J by rw [<- u]; exact akx h);have F:=f (fun W=>(rE s t W).mono (fun e w' (h:e=aj (aQ (pfx t s))/\w'=W)=>(show e=aj (aQ (pfx t s))/\Below W.heap.size W w' from ⟨h.1,h.2 ▸ aC _ _⟩)));simp only [u] at F;have b8:decide ((t.size:Int)<=(s.size:Int))=bD:=by simp; omega
 have b9:(t.size:Int)<=(s.size:Int):=by omega
 generalize fI (.pr s) (.pr t)=r at *;clear H I bz M u;simp only [r5,kN,kS,kU,kT] at *;go_enter aX,aT;go_wp2_with fail
 go_region_with (go_at_call 184; refine (F.o _).mono ?_; rintro e bB ⟨rfl,j⟩; have G:=f (a6.o.drew.on j); have T:=f (a1.o.drew.on j); have a7:=f (a2.o.drew.on j); obtain⟨z0,N,S,z3,z4⟩:=fF G.o; obtain⟨a0,aE,b1,a3,a4⟩:=fF T.o; obtain⟨b2,b4,b5,b6,b7⟩:=fF a7.o; have bA:=fun k=>G.o.fr k; simp only at z0 N S z3 z4 a0 aE b1 a3 a4 b2 b4 b5 b6 b7)
 all_goals try simp only [Exit.then]
 all_goals try apply_assumption
 all_goals try go_wp2
 all_goals refine aY (v:=.tuple #[cv (r5 (n,(.pr s))),aQ q]) (by simp [results,aP,go_sem,z0,N,S,z3,z4,r5,kN,kS,kU,kT]) rfl ?_
 all_goals exact tK a8.o rfl (jc (B.o.drew.trans (j.mono B.o.drew.size)) (w.heap.size+1+1) (by omega) _ _ _ _ _)
theorem aaN (n:ByteArray) (s t:ByteArray) (w:aA) (h:¬ t.size<=s.size):aI D 163 #[cv (r5 (n,(.pr s))),cv (r5 (n,(.pr t)))] w (S9 n (fI (.pr s) (.pr t)) w):=by
 obtain⟨H,I,bz,M⟩:=Ny w (r5 (n,(.pr s))) (r5 (n,(.pr t))) (⟨#[]⟩,0,0,0,⟨#[]⟩);have B:=f M;have a1:=f H;have a2:=f I;have a6:=f bz;obtain⟨q,u⟩:∃ q,pfx s t=q:=⟨_,rfl⟩;have a8:=f (show fI (.pr s) (.pr t)=if q=bD then O (.pr t) else J by rw [<- u]; exact aky h);have F:=f (fun W=>(rE t s W).mono (fun e w' (h:e=aj (aQ (pfx s t))/\w'=W)=>(show e=aj (aQ (pfx s t))/\Below W.heap.size W w' from ⟨h.1,h.2 ▸ aC _ _⟩)));simp only [u] at F;have b8:decide ((t.size:Int)<=(s.size:Int))=aO:=by simp; omega
 have b9:¬ ((t.size:Int)<=(s.size:Int)):=by omega
 generalize fI (.pr s) (.pr t)=r at *;clear H I bz M u;simp only [r5,kN,kS,kU,kT] at *;go_enter aX,aT;go_wp2_with fail
 go_region_with (go_at_call 184; refine (F.o _).mono ?_; rintro e bB ⟨rfl,j⟩; have G:=f (a6.o.drew.on j); have T:=f (a1.o.drew.on j); have a7:=f (a2.o.drew.on j); obtain⟨z0,N,S,z3,z4⟩:=fF G.o; obtain⟨a0,aE,b1,a3,a4⟩:=fF T.o; obtain⟨b2,b4,b5,b6,b7⟩:=fF a7.o; have bA:=fun k=>G.o.fr k; simp only at z0 N S z3 z4 a0 aE b1 a3 a4 b2 b4 b5 b6 b7)
 all_goals try simp only [Exit.then]
 all_goals try apply_assumption
 all_goals try go_wp2
 all_goals refine aY (v:=.tuple #[cv (r5 (n,(.pr t))),aQ q]) (by simp [results,aP,go_sem,z0,N,S,z3,z4,r5,kN,kS,kU,kT]) rfl ?_
 all_goals exact tK a8.o rfl (jc (B.o.drew.trans (j.mono B.o.drew.size)) (w.heap.size+1+1) (by omega) _ _ _ _ _)
theorem aaO (n:ByteArray) (a b c d:Int) (w:aA):aI D 163 #[cv (r5 (n,(.rg a b))),cv (r5 (n,(.rg c d)))] w (S9 n (fI (.rg a b) (.rg c d)) w):=by
 have R:=f (show fI (.rg a b) (.rg c d)=if max a c<=min b d then O (.rg (max a c) (min b d)) else J from rfl);have B:=f (Ny w (r5 (n,(.rg a b))) (r5 (n,(.rg c d))) (⟨#[]⟩,0,0,0,⟨#[]⟩)).2.2.2;generalize fI (.rg a b) (.rg c d)=G at *;simp only [r5,kN,kS,kU,kT] at *;go_enter aX,aT;go_wp2_with fail
 go_region
 all_goals simp only [Exit.then]
 all_goals apply_assumption
 have r:(if a<c then c else a)=max a c:=by split <;> omega
 have u:(if d<b then d else b)=min b d:=by split <;> omega
 try rw [r]
 try rw [u]
 clear r u;generalize max a c=j at R ⊢;generalize min b d=q at R ⊢;have F:=f (show G=if decide (j<=q)=bD then O (.rg j q) else J by rw [R.o]; simp);clear R;go_wp2_with fail
 go_region
 all_goals try simp only [Exit.then]
 all_goals try apply_assumption
 all_goals try go_wp2
 all_goals refine aY (v:=.tuple #[cv (r5 (n,(.rg j q))),aQ (decide (j<=q))]) (by simp [results,aP,go_sem,r5,kN,kS,kU,kT]) rfl ?_
 all_goals refine tK F.o rfl ?_
 all_goals first
  | exact (b3 w _ _ _).drew.drew
  | exact (b3 w _ _ _).drew
  | exact (b3 w _ _ _)
end Rl
end Go.Proofs.YtghlpefopidlaaaGreat
