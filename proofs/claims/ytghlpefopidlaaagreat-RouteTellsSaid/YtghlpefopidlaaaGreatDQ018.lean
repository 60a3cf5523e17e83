/-
  An entry copied and . Conditions as told.
-/
import Derived.Test.YtghlpefopidlaaaGreatDQ014
import Derived.Test.YtghlpefopidlaaaGreatDQ016
import Derived.Test.YtghlpefopidlaaaGreatDQ017
set_option maxRecDepth 100000
set_option maxHeartbeats 64000000
open _root_.Bool renaming false->Z,true->aQ,and_eq_true->bg
open _root_.Go renaming World->X,Value->aC,Calls->aZ,bodyPost_ret->bf
open Go.Builtin renaming append_->aD
open Go.Ending renaming returned->ah
open Go.IntKind renaming i64->L
open Go.Obj renaming cells->au
open Go.Operand renaming tmp->aP
open Go.Proofs.Tryz renaming prog->V,results19->bK,ntmps171->bN,func171->bR
open Go.RowKit.Below renaming refl->ak
open Go.Value renaming slice->J,int->O,pointer->aj,bool->aR,agg->bJ
open _root_.Int renaming toNat_natCast->aL
open _root_.List renaming length_map->aB,length_append->aF,getElem?_toArray->aH,mem_of_getElem?->aI,mem_append->aK,getElem?_map->aM,getElem?_cons_zero->aN,getElem?_cons_succ->aO,singleton_append->aS,mem_cons_of_mem->aT,takeWhile_cons->aU,map_cons->aV,mem_cons->aW,pairwise_cons->aY,length_cons->bD,length_take->bF,length_drop->bG,map_append->bH
open _root_.Nat renaming le_succ->ay,le_trans->aA,le_refl->aJ,mul_le_mul->bL,zero_add->bQ,zero_le->bS
open _root_.Option renaming none->U,some->Y
open _root_.Or renaming inr->aG,inl->aX
open Go.Proofs.YtghlpefopidlaaaGreat renaming hq->A
namespace Go.Proofs.YtghlpefopidlaaaGreat
namespace Sb
open Go.RowKit Go.Sort Rw YtghlpefopidlaaaGreat.Nm Pr Bk Av Rl
theorem JO {w w':X} {row:Option Nat} (h:w.grownBy w' row):Off row w w':=⟨h.block,h.size⟩
theorem ai8 {wr w0:X} {B:Nat} {v:aC} {r:List iY} {S:List En} (x:iY) (e:En) (o:jJ wr B v r) (T:eY (uN w0 B wr) r S) (aE:uN w0 B wr x e) (a8:r.length<=1000) (hB:B<=wr.heap.size) :
  ∃ F w',(aD #[27,27] 27 #[v,J (Y ⟨wr.heap.size,0,U⟩) 1 1]).run V (wr.alloc (au (jE x).toArray 67))=.ok F w'/\jJ w' B F (r++[x])/\eY (uN w0 B w') (r++[x]) (S++[e]) /\
   (∀ B' W,B'<=B->Below B' W wr->Below B' W w')/\Off v.ownBlock (wr.alloc (au (jE x).toArray 67)) w':=by
 have u:=fP wr (au (jE x).toArray 67);have a7:=jL nE wr [x] 1 rfl (by simp) (jE x).toArray rfl;have H:jJ _ B v r:=Bk.dK o u;have M:B<=(wr.alloc (au (jE x).toArray 67)).heap.size:=aA hB u.size;obtain⟨F,w',b2,b1,G⟩:=iC nE B H (Row.dL a7) a8 (by simp) M 27;refine⟨F,w',by simpa [EN] using b2,b1,?_,fun B' W I N=>?_,JO G⟩
 ·have a1:=JO G;have a2:=jQ H;have g:∀ y z,uN w0 B wr y z->uN w0 B w' y z:=fun y z q=>(q.grow u).off a1 a2 (by decide);exact (T.mono g).append (.cons (g _ _ aE) .nil)
 ·exact (N.trans (u.mono (by have:=N.size; omega))).grown G (aA I M) fun j a6=>aA I (H.lt j a6).1
theorem Gc {w0 wr:X} {B:Nat} {x:iY} {e:En} (h:uN w0 B wr x e) (j:Below w0.heap.size w0 wr):jF wr x e:=⟨h.1,h.2.1,h.2.2.1,h.2.2.2.1,h.2.2.2.2.row j⟩
end Sb
namespace Av
open Go.RowKit Go.Sort Rw YtghlpefopidlaaaGreat.Nm Pr Bk
end Av
namespace Av
open Go.RowKit Go.Sort Rw YtghlpefopidlaaaGreat.Nm Pr Bk
theorem xM (x y:En):kP (fE x) (fE y)=aQ↔zN x y<0:=by
 rw [xJ];unfold kP fE;simp only [Bool.or_eq_true,bg,rZ]
theorem Wz (x y:En) (h:fE x≠fE y):zN x y<0\/zN y x<0:=by
 rw [xJ,xJ];rcases rX x.tree y.tree with j|j|j
 ·exact aX (aX j)
 ·rcases rX x.sub y.sub with q|q|q
  ·exact aX (aG ⟨j,q⟩)
  ·exact absurd (Prod.ext j q) h
  ·exact aG (aG ⟨j.symm,q⟩)
 ·exact aG (aX j)
theorem JQ:∀ (l:List En) (x:En),∀ y∈l.take (eU (l.map fE) (fE x)),zN y x<0
 | [],_,y,h=>by simp at h
 | a::l,x,y,h=>by
  unfold eU at h;by_cases j:kP (fE a) (fE x)=aQ
  ·simp only [aV,aU,j,if_true,bD,List.take_succ_cons,aW] at h;rcases h with rfl|h
   ·exact (xM _ _).1 j
   ·exact JQ l x y h
  ·simp [j] at h
theorem JR:∀ {l:List En} (_:l.Pairwise fun x y=>zN x y<0) (x:En) (_:∀ y∈l,fE y≠fE x),∀ y∈l.drop (eU (l.map fE) (fE x)),zN x y<0
 | [],_,_,_,y,h=>by simp at h
 | a::l,G,x,u,y,h=>by
  unfold eU at h;have F:=aY.1 G;by_cases j:kP (fE a) (fE x)=aQ
  ·simp only [aV,aU,j,if_true,bD,List.drop_succ_cons] at h;exact JR F.2 x (fun y H=>u y (aT _ H)) y h
  ·simp [j] at h;have r:zN x a<0:=by
    rcases Wz a x (u a (by simp)) with q|q
    ·exact absurd ((xM _ _).2 q) j
    ·exact q
   rcases h with rfl|h
   ·exact r
   ·exact Lm _ _ _ r (F.1 y h)
theorem WA {l:List En} (q:l.Pairwise fun x y=>zN x y<0) (x:En) (H:∀ y∈l,fE y≠fE x):(gL l (eU (l.map fE) (fE x)) x).Pairwise fun x y=>zN x y<0:=by
 unfold gL;have F:=q.sublist (List.take_sublist (eU (l.map fE) (fE x)) l);have G:=q.sublist (List.drop_sublist (eU (l.map fE) (fE x)) l);have lo:=JQ l x;have u:=JR q x H;rw [List.append_assoc,List.pairwise_append];refine⟨F,?_,fun a r b j=>?_⟩
 ·rw [aS,aY];exact⟨fun b j=>u b j,G⟩
 ·rw [aS,aW] at j;rcases j with rfl|j
  ·exact lo a r
  ·exact Lm _ _ _ (lo a r) (u b j)
theorem JU:∀ (l:List fB) (x:fB),x ∉ l->fQ l x=-1
 | [],_,_=>rfl
 | a::l,x,h=>by
  rw [fQ,if_neg fun e=>h (by rw [e]; simp),JU l x fun j=>h (aT _ j),if_pos rfl]
theorem aaC {q:Type} [DecidableEq q] {l:List q} {x:q} (h:jT l x=-1):x ∉ l:=by
 rcases pI l x with _|⟨k,H,_⟩
 ·intro r
  induction l with
  | nil=>simp at r
  | cons a l G =>
   rw [jT] at h
   split at h
   ·cases h
   ·rename_i F
    split at h
    ·rename_i j
     rcases aW.1 r with e|e
     ·exact F e.symm
     ·exact G j j e
    ·rename_i j
     have:=pI l x;rcases this with u|⟨k,u,_⟩
     ·exact j u
     ·omega
 ·omega
theorem Ro {b:Br} (h:iU b) {l:List En} (r:l.Pairwise fun x y=>zN x y<0) (q:∀ e∈l,qC b e=aQ):iU { b with ent:=l } :=
 ⟨h.near,h.seen,h.dQ,r,h.own,h.oks,fun e j=>uS (b:=b) rfl rfl (q e j),h.oko⟩
theorem Rp {b:Br} (h:iU b) (e:En) (a2:jm b.near e.from_=aQ) (b1:Wr.fT e.p=aQ):iU (iL b e).1:=by
 unfold iL
 split
 ·exact h
 ·rename_i a u
  split
  ·exact h
  ·rename_i I
   split
   ·exact h
   ·rename_i M
    split
    ·exact h
    ·rename_i N
     have a7:a.id=e.tree:=by
      have F:e.tree∈b.dQ.map Ad.id:=Decidable.byContradiction fun j=>I (JU _ _ j);obtain⟨b4,T,H⟩:=JD _ _ F;rw [T,aL] at u;rw [aM,u] at H;exact Option.some.inj H
     have a6:gY b.dQ e.tree=Y a:=by
      rw [<- a7];exact oP h.dQ (aI u)
     have a8:=WA h.ent { e with up:=decide (a.par≠-1) && !fH b.ent e.tree e.p } fun y b2 aE=>by
      have F:fE e∈b.ent.map fE:=List.mem_map.2 ⟨y,b2,aE⟩;have a1:jT (b.ent.map fE) (fE e)=-1:=Decidable.not_not.1 M;exact aaC a1 F
     refine Ro h a8 fun j G=>?_;rcases (jZ _ _ _ _).1 G with rfl|G
     ·unfold qC;simp only [a6];have S:¬ (e.from_≠-1/\e.from_=a.par):=N;rw [a2,b1];by_cases q:e.from_=a.par
      ·have r:a.par=-1:=by
        rw [<- q];exact Decidable.byContradiction fun j=>S ⟨j,q⟩
       simp [q,r]
      ·by_cases r:a.par=-1 <;> simp [q,r]
     ·exact h.Q6 j G
theorem Iy (t:fB) (s:List En×List En) (k:Nat):(iQ t s k).1.map fE=s.1.map fE:=by
 unfold iQ
 split
 ·rfl
 ·rename_i e j
  split
  ·rw [List.map_set];refine List.ext_getElem? fun u=>?_;rw [List.getElem?_set]
   split
   ·rename_i q
    subst q
    split
    ·rw [aM,j]
     rfl
    ·rename_i r
     rw [List.getElem?_eq_none (by simpa using r)]
   ·rfl
  ·rfl
theorem za (t:fB) (m:List En):∀ k,(jk t m k).1.map fE=m.map fE
 | 0=>rfl
 | k+1=>by rw [lS,Iy,za t m k]
theorem WE {l m:List En} (h:l.map fE=m.map fE) (u:m.Pairwise fun x y=>zN x y<0):l.Pairwise fun x y=>zN x y<0:=by
 have r:∀ l:List En,(l.Pairwise fun x y=>zN x y<0)↔(l.map fE).Pairwise fun x y=>kP x y=aQ:=fun l=>by
  rw [List.pairwise_map];exact⟨fun j=>j.imp fun {a b} q=>(xM a b).2 q,fun j=>j.imp fun {a b} q=>(xM a b).1 q⟩
 rw [r,h,<- r];exact u
theorem uT {α:Type} (l:List α) (k:Nat):(cutAt l k).Sublist l:=by
 unfold cutAt
 conv=>rhs; rw [<- List.take_append_drop k l]
 exact (List.Sublist.refl _).append (List.drop_sublist_drop_left l (ay k))
theorem ad9 {b:Br} (h:iU b) (t x:fB) (f:Int):iU (takeB b t x f).1:=by
 unfold takeB
 split
 ·exact h
 ·rename_i u F
  split
  ·exact h
  ·rename_i S
   split
   ·exact h
   ·split
    ·exact Ro h (h.ent.sublist (uT _ _)) fun q G=>h.Q6 q (qE G)
    ·rename_i a2
     have N:u.up=aQ:=by simpa using a2
     have a1:u.tree=t:=by
      rcases pI (b.ent.map fE) (t,x) with q|⟨k,q,M⟩
      ·exact absurd q S
      ·rw [q,aL] at F;rw [aM,F] at M;exact congrArg Prod.fst (Option.some.inj M)
     have r:=h.Q6 u (aI F);refine Ro h (WE (za _ _ _) (h.ent.sublist (uT _ _))) ?_;refine (Bh (fun e=>qC b e=aQ) (fun e T j=>?_) (fun q G=>h.Q6 q (qE G)) _).1;unfold qC at j r ⊢;rw [a1] at r;show (match gY b.dQ e.tree with | none=>Z | some a=>_)=aQ;rw [T] at j ⊢;cases I:gY b.dQ t with
     | none=>rw [I] at j; cases j
     | some a =>
      rw [I] at j r;simp only [bg] at j r ⊢;refine⟨j.1,j.2.1,?_,j.2.2.2⟩;have H:=r.2.2.1;rw [N] at H;exact H
end Av
namespace Rl
open Go.RowKit Go.Sort Pu Rw Pr Va
theorem WU {W:X} {M H:aC} {a b:List Cn} (a1:fO W M (a.map r5)) (a2:fO W H (b.map r5)) (la:a.length<=5) (aE:b.length<=5) :
  ∃ r w1 u j,(aD #[34,34] 34 #[J (Y ⟨W.heap.size,0,U⟩) 0 0,M]).run V (W.alloc (au #[] 91))=.ok r w1 /\
   (aD #[34,34] 34 #[r,H]).run V w1=.ok u j/\fO j u ((a++b).map r5)/\Below W.heap.size W j:=by
 have b0:=(ak W.heap.size W).alloc (aJ _) (au #[] 91);obtain⟨r,w1,a7,I,S⟩:=Ii W.heap.size (qZ W) (a1.on b0) (by simp) (by rw [aB]; omega) (by simp);have q:=b0.grown S b0.size (fun G F=>((qZ W).lt G F).1);obtain⟨u,j,a8,a6,T⟩:=Ii W.heap.size I (a2.on q) (by simp; omega) (by rw [aB]; omega) q.size;have N:=q.grown T q.size (fun G F=>(I.lt G F).1);exact⟨r,w1,u,j,a7,a8,by rw [bH]; exact Row.dL (by simpa using a6),N⟩
theorem OZ (aE T:aC) (a b:List Cn) (w:X) (a2:fO w aE (a.map r5)) (a6:fO w T (b.map r5)) (j:NF a) (I:NF b):aZ V 56 #[aE,T] w fun e w'=>e=ah (aR (vK a b))/\Below w.heap.size w w':=by
 obtain⟨bB,w1,b7,b8,b1,b2,b4,S⟩:=WU a2 a6 j.five I.five;have M:=A S;have G:=A (WT b7 (a++b) b8 b4 (by have:=j.five; have:=I.five; simp; omega));have N:=A (YH (b:=b) j.rise);have q:=A (YI (b:=b) j.rise j.five);rw [N.o] at G;generalize kV a b=b6 at *;generalize vK a b=u at *;clear a2 a6 j I b4 S N;go_enter Tryz.func56,Tryz.ntmps56;go_wp2_with (first | (at_builtin; refine wpList_append_run rfl _ _ 34 rfl rfl rfl b1 ?_) | (at_builtin; refine wpList_append_run rfl _ _ 34 rfl rfl rfl b2 ?_) | fail);refine G.o.mono ?_;rintro b9 bC ⟨a7,a1⟩;have F:=A (M.o.trans (a7.mono M.o.size));clear a7 G b1 b2;rcases b6 with _|p
 ·have R:=A (show u=Z from q.o);obtain rfl:=a1;clear q;go_wp2;go_ret;exact⟨eG R.o.symm,F.o⟩
 ·obtain⟨v,rfl,a8⟩:=a1;obtain⟨po,bA,rfl⟩:=a8.len;have R:=A (show u=decide (p.length<=5) from q.o);rw [aB];clear q a8;by_cases r:p.length<=5
  ·have b5:decide ((p.length:Int)<=5)=aQ:=by simp; omega
   have H:=A (show u=aQ by rw [R.o]; simpa using r);clear R r;go_wp2;go_ret;exact⟨eG H.o.symm,F.o⟩
  ·have b5:decide ((p.length:Int)<=5)=Z:=by simp; omega
   have H:=A (show u=Z by rw [R.o]; simpa using r);clear R r;go_wp2;go_ret;exact⟨eG H.o.symm,F.o⟩
end Rl
namespace Bk
open Go.RowKit Go.Sort Rw YtghlpefopidlaaaGreat.Nm Pr Rl
def jG (p j:List C5):Bool:=vK (p.map unR) (j.map unR)
theorem Mg (q j:aC) (p r:List C5) (w:X) (u:fO w q p) (F:fO w j r) (G:dX p) (H:dX r) :
  aZ V 56 #[q,j] w fun e w'=>e=ah (aR (jG p r))/\Below w.heap.size w w':=by
 obtain⟨a,I,rfl⟩:=G;obtain⟨b,M,rfl⟩:=H;unfold jG;rw [r9,r9];exact OZ q j a b w u F I M
abbrev mgv (k:Int) (t x:Id) (pv qv:Sl):aC:=bJ #[O L k,O L t.1,O L t.2,O L x.1,O L x.2,eu pv,eu qv]
theorem zX (b:Br) (a8 av b1 b9 aE:Sl) (f mk:Int) (t x:Id) (cH cI:Sl) (w:X) (h:iT w b a8 av b1 b9 aE) (cD:b.dQ.length<=900) (cT:b.ent.length<=900) (cC:∀ e∈b.ent,dX e.p) (c9:∀ e∈b.ent,e.tree∈b.dQ.map Ad.id) :
  aZ V 21 #[mg b.me a8 av b1 b9 aE,O L f,mgv mk t x cH cI] w fun e w'=>(∃ ev' lo:Sl,e=ah (.tuple #[mg b.me a8 av b1 ev' aE,eu lo])/\iT w' (jv b t x f).1 a8 av b1 ev' aE/\lZ w' lo (jv b t x f).2)/\Below w.heap.size w w':=by
 obtain⟨no,H,G⟩:=a8;obtain⟨u,r,q⟩:=av;obtain⟨S,N,sc⟩:=b1;obtain⟨b5,b4,b2⟩:=b9;obtain⟨M,F,I⟩:=aE;obtain⟨po,bO,bM⟩:=cH;obtain⟨bX,bW,bT⟩:=cI;obtain⟨c,d⟩:=t;obtain⟨c2,a1⟩:=x;have b8:=A (fun W cP=>JN b (no,H,G) (u,r,q) (S,N,sc) (b5,b4,b2) (M,F,I) (c,d) (c2,a1) f W (h.on (show Below w.heap.size w W from cP)) cD cT cC c9);have cJ:=A h.near;obtain⟨bA,bB,bC,bE⟩:=gT w #[O L b.me,J no H G,J u r q,J S N sc,J b5 b4 b2,J M F I] #[O L mk,O L c,O L d,O L c2,O L a1,J po bO bM,J bX bW bT] #[O L 0,J U 0 0,J U 0 0,J U 0 0,J U 0 0,J U 0 0] 30 43 30;obtain⟨me,cA⟩:∃ me,me=b.me:=⟨_,rfl⟩;simp only [<- cA] at bA bB bC bE b8 ⊢;have b6:=A (bA);have bP:=A (bB);have bI:=A (bC);have cG:=A (bE);clear bA bB bC bE h cD cA cC c9;show aZ V 21 #[bJ #[O L me,J no H G,J u r q,J S N sc,J b5 b4 b2,J M F I],O L f,bJ #[O L mk,O L c,O L d,O L c2,O L a1,J po bO bM,J bX bW bT]] w _;go_enter Tryz.func21,Tryz.ntmps21;go_upto_region 1 with fail;generalize (((w.alloc (au #[O L me,J no H G,J u r q,J S N sc,J b5 b4 b2,J M F I] 30)).alloc (au #[O L mk,O L c,O L d,O L c2,O L a1,J po bO bM,J bX bW bT] 43)).alloc (au #[O L 0,J U 0 0,J U 0 0,J U 0 0,J U 0 0,J U 0 0] 30))=W at *;have c8:=A (b8.o W b6.o);clear b8;obtain⟨cX,cY,d0,d1,d2,d3⟩:=bP.o.fA;obtain⟨d4,d5,d6,d7,d8,d9,dA⟩:=bI.o.oz;go_wp2_with fail;refine c8.o.mono ?_;rintro e2 w1 ⟨⟨⟨a2,a6,a7⟩,⟨la,ln,cF⟩,rfl,cQ,cS⟩,b7⟩;clear c8;clear cX cY d0 d1 d2 d3 d4 d5 d6 d7 d8 d9 dA;have cU:=A (b6.o.trans (b7.mono b6.o.size));have e3:=A (bP.o.on b7);have e1:=A (bI.o.on b7);have T:=A (cG.o.on b7);clear b6 bP bI cG;obtain⟨e4,e5,e6,e7,e8,r5⟩:=T.o.fA;obtain⟨dC,dE,dS,dT,dZ,e0⟩:=T.o.kg;have e9:=T.o.lt;have cL:=A (dM T.o (O L me) (J no H G) (J u r q) (J S N sc) (J a2 a6 a7) (J M F I));have c6:=A (dJ (b:=w.heap.size+1+1) cU.o (by omega) (O L me) (J no H G) (J u r q) (J S N sc) (J a2 a6 a7) (J M F I));have c7:=A (fun j (_:j<w1.heap.size) (cR:j≠w.heap.size+1+1)=>dP w1 (w.heap.size+1+1) (O L me) (J no H G) (J u r q) (J S N sc) (J a2 a6 a7) (J M F I) j cR);have cM:=A (fK (s1:=(U,0,0)) (s2:=(U,0,0)) (s3:=(U,0,0)) (s4:=(U,0,0)) (s5:=(U,0,0)) cQ T.o c7.o (by rw [iA,(jf b (c,d) (c2,a1) f).2.1]; exact cJ.o.on c6.o));have cN:=A (gy (s1:=(U,0,0)) (s2:=(U,0,0)) (s3:=(U,0,0)) (s4:=(U,0,0)) (s5:=(U,0,0)) cS T.o c7.o);go_wp2_with fail;obtain⟨v0,cV,cW,v3,v4,v5⟩:=cL.o.fA;refine bf (v:=.tuple #[bJ #[O L me,J no H G,J u r q,J S N sc,J a2 a6 a7,J M F I],J la ln cF]) (by simp [results,Tryz.results21,go_sem,v0,cV,cW,v3,v4,v5]) rfl ?_;exact⟨⟨(a2,a6,a7),(la,ln,cF),rfl,cM.o,cN.o⟩,c6.o⟩
def jS (b:Br) (f:Int) (t x:Id) (p:List C5):Br×List Ou:=if (iL b ⟨t,x,p,f,Z⟩).2=Z then ((iL b ⟨t,x,p,f,Z⟩).1,[]) else
 match b.dQ[(fQ (b.dQ.map Ad.id) t).toNat]? with
 | none=>((iL b ⟨t,x,p,f,Z⟩).1,[])
 | some a=>((iL b ⟨t,x,p,f,Z⟩).1,[rF a.par ⟨t,x,p,f,Z⟩])
theorem kH (b:Br) (f:Int) (t x:Id) (p:List C5):(jS b f t x p).1=(iL b ⟨t,x,p,f,Z⟩).1:=by
 unfold jS
 split
 ·rfl
 ·split <;> rfl
theorem WV {b:Br} {e:En} (h:(iL b e).2=aQ):∃ (k:Nat) (a:Ad),fQ (b.dQ.map Ad.id) e.tree=k/\b.dQ[k]?=Y a:=by
 unfold iL at h
 split at h
 ·cases h
 ·rename_i a j
  split at h
  ·cases h
  ·rename_i q
   have r:=tC (b.dQ.map Ad.id) e.tree;exact⟨(fQ (b.dQ.map Ad.id) e.tree).toNat,a,by omega,j⟩
theorem Gd (b:Br) (bM av bP cN bO:Sl) (f mk:Int) (t x:Id) (d3 eR:Sl) (p:List C5) (w:X) (h:iT w b bM av bP cN bO) (cV:fO w (eu d3) p) (eE:b.dQ.length<=900) (g3:b.ent.length<=900) (e8:∀ e∈b.ent,dX e.p) (fV:dX p) :
  aZ V 19 #[mg b.me bM av bP cN bO,O L f,mgv mk t x d3 eR] w fun e w'=>(∃ ev' lo:Sl,e=ah (.tuple #[mg b.me bM av bP ev' bO,eu lo])/\iT w' (jS b f t x p).1 bM av bP ev' bO/\lZ w' lo (jS b f t x p).2)/\Below w.heap.size w w':=by
 obtain⟨no,M,I⟩:=bM;obtain⟨F,u,q⟩:=av;obtain⟨a1,T,sc⟩:=bP;obtain⟨bC,bB,bA⟩:=cN;obtain⟨S,H,N⟩:=bO;obtain⟨po,b1,aE⟩:=d3;obtain⟨c8,c7,c6⟩:=eR;obtain⟨c,d⟩:=t;obtain⟨c2,G⟩:=x;have cA:=A (fun W e2=>Zy b (no,M,I) (F,u,q) (a1,T,sc) (bC,bB,bA) (S,H,N) (c,d,c2,G,(po,b1,aE),f,Z) ⟨(c,d),(c2,G),p,f,Z⟩ W (h.on (show Below w.heap.size w W from e2)) ⟨rfl,rfl,rfl,rfl,cV.on e2⟩ eE g3 e8 fV);have cC:=A h.near;have f3:=A cV;obtain⟨cQ,bE,cR,cS⟩:=gT w #[O L b.me,J no M I,J F u q,J a1 T sc,J bC bB bA,J S H N] #[O L mk,O L c,O L d,O L c2,O L G,J po b1 aE,J c8 c7 c6] #[O L 0,J U 0 0,J U 0 0,J U 0 0,J U 0 0,J U 0 0] 30 43 30;obtain⟨me,e6⟩:∃ me,me=b.me:=⟨_,rfl⟩;simp only [<- e6] at cQ bE cR cS cA ⊢;have cP:=A (cQ);have eN:=A (bE);have cY:=A (cR);have d0:=A (cS);clear cQ bE cR cS h eE e6 e8 cV;show aZ V 19 #[bJ #[O L me,J no M I,J F u q,J a1 T sc,J bC bB bA,J S H N],O L f,bJ #[O L mk,O L c,O L d,O L c2,O L G,J po b1 aE,J c8 c7 c6]] w _;go_enter Tryz.func19,Tryz.ntmps19;go_upto_region 1 with fail;generalize (((w.alloc (au #[O L me,J no M I,J F u q,J a1 T sc,J bC bB bA,J S H N] 30)).alloc (au #[O L mk,O L c,O L d,O L c2,O L G,J po b1 aE,J c8 c7 c6] 43)).alloc (au #[O L 0,J U 0 0,J U 0 0,J U 0 0,J U 0 0,J U 0 0] 30))=W at *;obtain⟨gO,gR,gS,h0,h1,h2,h3⟩:=cY.o.oz;go_upto_region 2 with fail;clear gO gR gS h0 h1 h2 h3;have f7:=A (show w.heap.size+3<=W.heap.size from by have:=d0.o.lt; omega);have b9:=fP W (au #[O L c,O L d,O L c2,O L G,J po b1 aE,O L f,aR Z] 67);have bX:=A (cP.o.trans (b9.mono cP.o.size));have cX:=A (eN.o.on b9);have dT:=A (cY.o.on b9);have eQ:=A (d0.o.on b9);clear cP eN cY d0;clear b9;have cL:=A (dR W #[O L c,O L d,O L c2,O L G,J po b1 aE,O L f,aR Z] 67);generalize W.alloc (au #[O L c,O L d,O L c2,O L G,J po b1 aE,O L f,aR Z] 67)=f8 at *;have e0:=A (cA.o f8 bX.o);clear cA;obtain⟨d6,d7,d8,d9,dA,dC⟩:=cX.o.fA;obtain⟨z0,h4,h5,z3,z4,z5,h6⟩:=cL.o.oz;go_wp2_with fail;refine e0.o.mono ?_;rintro hE w1 ⟨⟨⟨a2,a6,a7⟩,rfl,fR⟩,bI⟩;clear e0;clear d6 d7 d8 d9 dA dC z0 h4 h5 z3 z4 z5 h6;have eI:=A (bX.o.trans (bI.mono bX.o.size));have b6:=A (cX.o.on bI);have dZ:=A (dT.o.on bI);have eS:=A (eQ.o.on bI);have eV:=A (cL.o.on bI);clear bX cX dT eQ cL;obtain⟨f9,cM⟩:∃ r,(iL b ⟨(c,d),(c2,G),p,f,Z⟩).2=r:=⟨_,rfl⟩;have cJ:=A cM;rw [cM];have hK:=f7.o;obtain⟨fW,fX,fY,g0,g1,g2⟩:=b6.o.fA;obtain⟨g4,g5,g6,g7,g8,g9⟩:=b6.o.kg;have eW:=b6.o.lt;have cD:=A (dM b6.o (O L me) (J no M I) (J F u q) (J a1 T sc) (J a2 a6 a7) (J S H N));have bT:=A (dJ (b:=w.heap.size) eI.o (aJ _) (O L me) (J no M I) (J F u q) (J a1 T sc) (J a2 a6 a7) (J S H N));have dS:=A (fun j (_:j<w1.heap.size) (cU:j≠w.heap.size)=>dP w1 (w.heap.size) (O L me) (J no M I) (J F u q) (J a1 T sc) (J a2 a6 a7) (J S H N) j cU);have cF:=A (show dN _ _ _ _ from (dP w1 (w.heap.size) (O L me) (J no M I) (J F u q) (J a1 T sc) (J a2 a6 a7) (J S H N) (w.heap.size+1) (by omega)).trans dZ.o);have cH:=A (show dN _ _ _ _ from (dP w1 (w.heap.size) (O L me) (J no M I) (J F u q) (J a1 T sc) (J a2 a6 a7) (J S H N) (w.heap.size+1+1) (by omega)).trans eS.o);have cG:=A (show dN _ _ _ _ from (dP w1 (w.heap.size) (O L me) (J no M I) (J F u q) (J a1 T sc) (J a2 a6 a7) (J S H N) (W.heap.size) (by omega)).trans eV.o);have b8:=A (fK (s1:=(no,M,I)) (s2:=(F,u,q)) (s3:=(a1,T,sc)) (s4:=(bC,bB,bA)) (s5:=(S,H,N)) fR b6.o dS.o (by rw [(je b ⟨(c,d),(c2,G),p,f,Z⟩).2.1]; exact cC.o.on bT.o));clear cM eI b6 dZ eS eV;go_upto_region 3 with fail;clear eW dS fW fX fY g0 g1 g2 g4 g5 g6 g7 g8 g9;unfold gH at cD bT b8 cF cH cG;generalize ((((((w1.setCell ⟨w.heap.size,0,U⟩ (O L me)).setCell ⟨w.heap.size,1,U⟩ (J no M I)).setCell ⟨w.heap.size,2,U⟩ (J F u q)).setCell ⟨w.heap.size,3,U⟩ (J a1 T sc)).setCell ⟨w.heap.size,4,U⟩ (J a2 a6 a7)).setCell ⟨w.heap.size,5,U⟩ (J S H N))=b7 at *;have eJ:=A (bT.o);have b2:=A (cD.o);have f6:=A (cF.o);have a8:=A (cH.o);have gE:=A (cG.o);clear bT cD cF cH cG;cases f9
 ·have d6:=b2.o.cell 0;have d7:=b2.o.cell 1;have d8:=b2.o.cell 2;have d9:=b2.o.cell 3;have dA:=b2.o.cell 4;have dC:=b2.o.cell 5;simp only [aH,aN,aO] at d6 d7 d8 d9 dA dC;obtain⟨hF,hG,hH,hI,hJ,r5⟩:=a8.o.fA;obtain⟨h7,h8,h9,hA,hC,hD⟩:=a8.o.kg;have eW:=a8.o.lt;have f1:=A (dM a8.o (O L me) (J no M I) (J F u q) (J a1 T sc) (J a2 a6 a7) (J S H N));have b4:=A (dJ (b:=w.heap.size+1+1) eJ.o (by omega) (O L me) (J no M I) (J F u q) (J a1 T sc) (J a2 a6 a7) (J S H N));have f2:=A (fun j (_:j<b7.heap.size) (cU:j≠w.heap.size+1+1)=>dP b7 (w.heap.size+1+1) (O L me) (J no M I) (J F u q) (J a1 T sc) (J a2 a6 a7) (J S H N) j cU);have cI:=A (fK (s1:=(U,0,0)) (s2:=(U,0,0)) (s3:=(U,0,0)) (s4:=(U,0,0)) (s5:=(U,0,0)) b8.o a8.o f2.o (by rw [(je b ⟨(c,d),(c2,G),p,f,Z⟩).2.1]; exact cC.o.on b4.o));go_wp2_with fail;obtain⟨v0,d4,d5,v3,v4,v5⟩:=f1.o.fA;refine bf (v:=.tuple #[bJ #[O L me,J no M I,J F u q,J a1 T sc,J a2 a6 a7,J S H N],J U 0 0]) (by simp [results,bK,go_sem,v0,d4,d5,v3,v4,v5]) rfl ?_;have fS:jS b f (c,d) (c2,G) p=((iL b ⟨(c,d),(c2,G),p,f,Z⟩).1,[]):=by unfold jS; rw [if_pos cJ.o]
  rw [fS];exact⟨⟨(a2,a6,a7),(U,0,0),rfl,cI.o,uf _⟩,b4.o⟩
 ·obtain⟨k,a,b5,cT⟩:=WV cJ.o;have b5:fQ (b.dQ.map Ad.id) (c,d)=k:=b5;have f0:=A (show jS b f (c,d) (c2,G) p=((iL b ⟨(c,d),(c2,G),p,f,Z⟩).1,[rF a.par ⟨(c,d),(c2,G),p,f,Z⟩]) from by
   unfold jS;rw [if_neg (by rw [cJ.o]; simp),b5,aL,cT])
  obtain⟨e1,bW,c9⟩:=b8.o.dQ;rw [(je b ⟨(c,d),(c2,G),p,f,Z⟩).2.2.1] at c9;obtain⟨z,e9,eA⟩:=c9.at k a cT;have dE:=Ez c9;rw [<- dE] at b5;obtain⟨gA,gC,cW⟩:=bW.len;obtain⟨pa,eB,eK,eM⟩:=qR okD bW cW rfl e9;have eC:∀ w,(Instr.indexAt 25 (J F u q) (O L (k:Int))).run V w=.ok (aj (Y pa)) w:=fun w=>by have bE:(J F u q)=J gA e1.length gC:=cW; rw [bE]; exact eB w
  have d2:=eM b7 (ak _ _);have d1:b7.cell? ⟨pa.block,pa.off+3,U⟩=Y (O L z.2.2.2):=by simpa [Addr.add] using d2 3 _ rfl
  rw [eA.2.1] at d1;have eL:pa.block≠w.heap.size+1+1:=mG (E:=ED) (show dN b7 (w.heap.size+1+1) (jU 0 (U,0,0) (U,0,0) (U,0,0) (U,0,0) (U,0,0)) 30 from a8.o) (fun c=>⟨_,_,rfl,rfl⟩) (nT 0 (U,0,0) (U,0,0) (U,0,0) (U,0,0) (U,0,0)) pa z d2;clear cW eB d2 eM e9 eA cT dE c9;go_upto_region 5 with fail;refine ai1 _ b7 w.heap.size (w.heap.size+1) (w.heap.size+1+1) W.heap.size me mk c d c2 G f a.par Z no F a1 a2 S M I u q T sc a6 a7 H N po c8 b1 aE c7 c6 e1 k pa _ _ _ _ _ _ b2.o f6.o a8.o gE.o (by omega) (by omega) (by omega) bW b5 eC d1 eK eL ?_;intro a9 gI sl f5 fL fN e5 e7 e4 e3;have b4:=A (show Below w.heap.size w gI from eJ.o.trans (e3 w.heap.size (by omega)));have cI:=A (fK (s1:=(U,0,0)) (s2:=(U,0,0)) (s3:=(U,0,0)) (s4:=(U,0,0)) (s5:=(U,0,0)) b8.o a8.o e4 (by rw [(je b ⟨(c,d),(c2,G),p,f,Z⟩).2.1]; exact cC.o.on b4.o));have f4:=A (Row.dL e7);obtain⟨v0,d4,d5,v3,v4,v5⟩:=e5.fA;clear e5 e7 e4 e3 b8 bW eC d1 eK eL b5;simp only [Exit.then]
  apply_assumption
  go_wp2_with fail;refine bf (v:=.tuple #[bJ #[O L me,J no M I,J F u q,J a1 T sc,J a2 a6 a7,J S H N],eu sl]) (by simp [results,bK,go_sem,fL,fN,v0,d4,d5,v3,v4,v5]) f5 ?_;rw [f0.o];exact⟨⟨a2,a6,a7,sl.1,sl.2.1,sl.2.2,rfl,cI.o,_,f4.o,.cons ⟨rfl,rfl,rfl,rfl,f3.o.on b4.o,rfl⟩ .nil⟩,b4.o⟩
def iq (s:Br×List Ou) (j:Bool) (e:En) (jw:Int):Br×List Ou:=if j=Z then s else ((iL s.1 e).1,if (iL s.1 e).2=aQ then s.2++[rF jw e] else s.2)
theorem Gg {b:Br} {e:En} (R:En->Prop) (h:∀ j∈b.ent,R j) (u:∀ G,R { e with up:=G }):∀ j∈(iL b e).1.ent,R j:=by
 unfold iL
 split
 ·exact h
 ·split
  ·exact h
  ·split
   ·exact h
   ·split
    ·exact h
    ·intro j F;rcases aK.1 F with q|q
     ·rcases aK.1 q with r|r
      ·exact h j (List.mem_of_mem_take r)
      ·rw [List.mem_singleton.1 r];exact u _
     ·exact h j (List.mem_of_mem_drop q)
theorem Gh (b:Br) (e:En):(iL b e).1.ent.length<=b.ent.length+1:=by
 unfold iL
 split
 ·exact ay _
 ·split
  ·exact ay _
  ·split
   ·exact ay _
   ·split
    ·exact ay _
    ·show (gL _ _ _).length<=_;unfold gL;rw [aF,aF,bF,bG];simp;omega
structure Rx (b0 b:Br) (k:Nat):Prop where
 me:b.me=b0.me
 near:b.near=b0.near
 dQ:b.dQ=b0.dQ
 seen:b.seen=b0.seen
 own:b.own=b0.own
 len:b.ent.length<=b0.ent.length+k
theorem Rx.add {b0 b:Br} {k:Nat} (h:Rx b0 b k) (e:En):Rx b0 (iL b e).1 (k+1):=by
 obtain⟨j,q,r,u,F⟩:=je b e;exact⟨j.trans h.me,q.trans h.near,r.trans h.dQ,u.trans h.seen,F.trans h.own,by have:=Gh b e; have:=h.len; omega⟩
theorem Rx.succ {b0 b:Br} {k:Nat} (h:Rx b0 b k):Rx b0 b (k+1):=⟨h.me,h.near,h.dQ,h.seen,h.own,by have:=h.len; omega⟩
theorem Rx.step {b0:Br} {s:Br×List Ou} {k:Nat} (h:Rx b0 s.1 k) (j:Bool) (e:En) (t:Int):Rx b0 (iq s j e t).1 (k+1):=by
 unfold iq
 split
 ·exact h.succ
 ·exact h.add e
theorem aaT {s:Br×List Ou} (r:Bool) (e:En) (t:Int) (R:En->Prop) (h:∀ j∈s.1.ent,R j) (q:∀ u,R { e with up:=u }):∀ j∈(iq s r e t).1.ent,R j:=by
 unfold iq
 split
 ·exact h
 ·exact Gg R h q
theorem aaU {s:Br×List Ou} (j:Bool) (e:En) (t:Int):(iq s j e t).2.length<=s.2.length+1:=by
 unfold iq
 split
 ·exact ay _
 ·show (if _ then _ else _:List Ou).length<=_
  split
  ·simp
  ·exact ay _
def fu {α:Type} (l:List α) (f:Br×List Ou->α->Br×List Ou) (s0:Br×List Ou) (k:Nat):Br×List Ou:=(l.take k).foldl f s0
theorem nM {α:Type} {l:List α} {k:Nat} {a:α} (f:Br×List Ou->α->Br×List Ou) (s0:Br×List Ou) (h:l[k]?=Y a):fu l f s0 (k+1)=f (fu l f s0 k) a:=by
 unfold fu;rw [List.take_add_one,h,List.foldl_append]
 rfl
theorem lg {α:Type} {l:List α} {b0:Br} {o0:List Ou} (j:α->Bool) (e:α->En) (t:α->Int) (R:En->Prop) (r:∀ q∈b0.ent,R q) (u:∀ a∈l,∀ M,R { e a with up:=M }):∀ k,k<=l.length->Rx b0 (fu l (fun s a=>iq s (j a) (e a) (t a)) (b0,o0) k).1 k/\(∀ q∈(fu l (fun s a=>iq s (j a) (e a) (t a)) (b0,o0) k).1.ent,R q)/\(fu l (fun s a=>iq s (j a) (e a) (t a)) (b0,o0) k).2.length<=o0.length+k
 | 0,_=>⟨⟨rfl,rfl,rfl,rfl,rfl,aJ _⟩,r,aJ _⟩
 | k+1,I=>by
  obtain⟨a,F⟩:∃ a,l[k]?=Y a:=⟨_,List.getElem?_eq_getElem I⟩;obtain⟨G,H,N⟩:=lg j e t R r u k (by omega) (o0:=o0);rw [nM _ _ F];exact⟨G.step _ _ _,aaT _ _ _ R H (u a (aI F)),aA (aaU _ _ _) (by omega)⟩
def iE (near:List Int) (but kind:Int) (t x:Id) (p:List C5):List Ou:=(near.filter fun n=>n != but).map fun n=>⟨n,kind,t,x,p⟩
abbrev Gi (x:Id) (o:Ow):En:=⟨x,o.id,o.p,-1,Z⟩
abbrev pV (f:Int) (x:Id) (p:List C5) (s:Br×List Ou) (o:Ow):Br×List Ou:=iq s (jG o.p p) (Gi x o) f
def nG (b:Br) (f:Int) (x:Id) (p:List C5):Br×List Ou:=if (fZ b ⟨x,p,f⟩).2=Z then ((fZ b ⟨x,p,f⟩).1,[]) else
 fu (fZ b ⟨x,p,f⟩).1.own (pV f x p) ((fZ b ⟨x,p,f⟩).1,iE b.near f 1 x (0,0) p) (fZ b ⟨x,p,f⟩).1.own.length
abbrev lC (x:Id) (p:List C5) (a:Ad):En:=⟨a.id,x,p,-1,Z⟩
abbrev iK (x:Id) (p:List C5) (s:Br×List Ou) (a:Ad):Br×List Ou:=iq s (jG p a.p) (lC x p a) a.par
def ownIn (b:Br) (x:Id) (p:List C5):Br:={ b with own:=gL b.own (gu (b.own.map Ow.id) x) ⟨x,p⟩ }
def iV (b:Br) (x:Id) (p:List C5):Br×List Ou:=if (b.own[gu (b.own.map Ow.id) x]?).map Ow.id=Y x then (b,[]) else
 fu b.dQ (iK x p) (ownIn b x p,[]) b.dQ.length
theorem lU (b:Br) (a:Ad):(fZ b a).1.me=b.me/\(fZ b a).1.near=b.near/\(fZ b a).1.ent=b.ent/\(fZ b a).1.own=b.own:=by
 unfold fZ
 split <;> exact⟨rfl,rfl,rfl,rfl⟩
theorem JW (b:Br) (a:Ad):(fZ b a).1.dQ.length<=b.dQ.length+1/\(fZ b a).1.seen.length<=b.seen.length+1:=by
 unfold fZ
 split
 ·exact⟨ay _,ay _⟩
 ·constructor <;> (show (gL _ _ _).length<=_; unfold gL; rw [aF,aF,bF,bG]; simp; omega)
theorem JX {W:X} {near:List Int} {f k:Int} {t x:Id} {j:Sl} {p:List C5} (q:fO W (eu j) p):eY (tZ W) (nU near f fun n=>(n,k,t.1,t.2,x.1,x.2,j,(U,0,0))) (iE near f k t x p):=by
 unfold nU iE
 induction near.filter (fun n=>n != f) with
 | nil=>exact .nil
 | cons a l r=>exact .cons ⟨rfl,rfl,rfl,rfl,q,rfl⟩ r
end Bk
namespace Bk
open Go.RowKit Go.Sort Rw YtghlpefopidlaaaGreat.Nm Pr
open Av
def vV (F W:X) (u j:Sl) (r q:List iY):Prop:=(j=u/\q=r)\/jJ W F.heap.size (eu j) q
theorem vW {j W:X} {k:Nat} {me:Int} {s1 s2 s3 s4 s5:Sl} {v:aC} {p:List C5} (q:dN j k (jU me s1 s2 s3 s4 s5) 30) (r:But k j W) (h:fO j v p):fO W v p:=jr wV h r.1 (rY q (uM me s1 s2 s3 s4 s5))
theorem zY {q W:X} {k:Nat} {me:Int} {s1 s2 s3 s4 s5:Sl} {l:List iY} {m:List En} (r:dN q k (jU me s1 s2 s3 s4 s5) 30) (u:But k q W) (h:eY (jF q) l m):eY (jF W) l m:=h.mono fun _ _ j=>⟨j.1,j.2.1,j.2.2.1,j.2.2.2.1,vW r u j.2.2.2.2⟩
theorem Gj {j W:X} {k:Nat} {me:Int} {s1 s2 s3 s4 s5:Sl} {l:List nu} {m:List Ou} (q:dN j k (jU me s1 s2 s3 s4 s5) 30) (r:But k j W) (h:eY (tZ j) l m):eY (tZ W) l m:=F9 h q r.1
theorem vV.row {j W:X} {k:Nat} {me:Int} {s1 s2 s3 s4 s5:Sl} {r u:Sl} {q F:List iY} (H:dN j k (jU me s1 s2 s3 s4 s5) 30) (I:But k j W) (G:mF j (eu r) q) (h:vV j W r u q F):mF W (eu u) F:=by
 rcases h with⟨rfl,rfl⟩|h
 ·exact jr nE G I.1 (mG H (fun c=>⟨_,_,rfl,rfl⟩) (nT me s1 s2 s3 s4 s5))
 ·exact Row.dL h
theorem uj {j W:X} {k:Nat} {me:Int} {s1 s2 s3 s4 s5:Sl} {G b:Br} {q:Nat} {N av a2 F a1 T:Sl} {S M:List iY} (H:dN j k (jU me s1 s2 s3 s4 s5) 30) (I:But k j W) (a7:iT j G N av a2 F a1) (aE:sW W (eu N) G.near) (a6:mF j (eu F) S) (h:vV j W F T S M) (a8:eY (jF j) M b.ent) (u:Rx G b q):iT W b N av a2 T a1:=by
 have r:=fK a7 H I.1 aE;exact⟨by rw [u.near]; exact r.near,by rw [u.dQ]; exact r.dQ,by rw [u.seen]; exact r.seen,⟨M,h.row H I a6,zY H I a8⟩,by rw [u.own]; exact r.own⟩
theorem But.below {k:Nat} {a b c:X} (h:But k a b) (j:Below b.heap.size b c):But k a c:=h.trans (But.of_below j)
theorem vV.on {u W r:X} {q F:Sl} {j G:List iY} (h:vV u W q F j G) (H:Below W.heap.size W r):vV u r q F j G:=h.imp id fun h=>Bk.dK h H
theorem aad (w:X) (b:Nat) (a0 j q a3 a4 a5:aC):But b w (gH w b a0 j q a3 a4 a5):=⟨fun u _ r=>dP w b a0 j q a3 a4 a5 u r,by simp [gH]⟩
theorem Mh {q W u:X} {k B:Nat} {M N:Sl} {I a2:List iY} {v:aC} {lo:List nu} (a6:B=q.heap.size) (a1:kF W B v lo) (F:W.grownBy u v.ownBlock) (H:But k q W) (h:vV q W M N I a2):But k q u/\vV q u M N I a2/\(∀ r cs t,r<B->dN W r cs t->dN u r cs t):=by
 subst a6;have T:∀ j,j<q.heap.size->Y j≠v.ownBlock:=fun j G e=>by have:=(a1.lt j e.symm).1; omega
 refine⟨⟨fun j G a8=>(F.block j (Nat.lt_of_lt_of_le G H.2) (T j G)).trans (H.1 j G a8),aA H.2 F.size⟩,h.imp id fun h=>LJ a1 F h (by decide),fun r cs t a7 S=>(F.block r S.lt (T r a7)).trans S⟩
def Ei (B:Nat) (u _ _:Nat) (_ _ jw c d c2 j fr:Int) (up:Bool) (_ po:OA) (_ _ r q:Nat) (F:aC) (_:List nu) (i:Nat) (v:aC) (x:X):Prop :=
 match i with
 | 0=>v=F
 | 1=>v=aj (Y ⟨u,3,U⟩)
 | 2=>v=O L jw
 | 3=>v=bJ #[O L c,O L d,O L c2,O L j,J po r q,O L fr,aR up]
 | 4=>v=bJ #[O L 3,O L c,O L d,O L c2,O L j,J po r q,J U 0 0]
 | 5=>v=vP (jw,3,c,d,c2,j,(po,r,q),(U,0,0))
 | 6=>kF x B v [(jw,3,c,d,c2,j,(po,r,q),(U,0,0))]
 | _=>True
noncomputable def Ua:Code:=((Tryz.f17.body.bind (eX 16)).getD .skip)
theorem Rq (B:Nat) (q r j:Nat) (M N jw c d c2 u fr:Int) (up:Bool) (z3 po:OA) (z4 z5 G F:Nat) (H:aC) (lo:List nu) (i:Nat) (v:aC) (x I:X) (h:Ei B q r j M N jw c d c2 u fr up z3 po z4 z5 G F H lo i v x) (S:Below x.heap.size x I):Ei B q r j M N jw c d c2 u fr up z3 po z4 z5 G F H lo i v I:=by
 by_cases T:i<7
 ·rcases (by omega:i=0\/i=1\/i=2\/i=3\/i=4\/i=5\/i=6) with rfl|rfl|rfl|rfl|rfl|rfl|rfl
  ·exact h
  ·exact h
  ·exact h
  ·exact h
  ·exact h
  ·exact h
  ·exact dK h S
 ·unfold Ei
  split <;> first | omega | trivial
theorem aaD (Q:Exit->Act->X->Prop) (W:X) (M N a2:Nat) (fL fN jw c d c2 F fr:Int) (up:Bool) (z3 po:OA) (z4 z5 H G:Nat) (T:aC) (lo:List nu) {a7 a8 u2 u3 cF cS u6 u7 e8 aE u13 b1 b2 b4 b5 b6 b7 b8 b9 bA bB bC bE bI bM bO bP bT bW bX c6 c7 c8 c9 cA cC cD cG cH cI cJ cL cM cN cP cQ cR cT cU cV cW cX cY d0 d1 d2 d3 d4 d5 d6 d7 d8 d9 dA dC dE dS dT dZ e0 e1 e2 e3 e4 e5 e6 e7 e9 eA eB eC eE eI eJ eK eS eV eW f0 f1 f2 f3 f4 eL eM eN:aC}
  (fV:dN W M #[O L fL,O L fN,J z3 z4 z5,O L jw] 36) (fW:dN W N #[O L c,O L d,O L c2,O L F,J po H G,O L fr,aR up] 67) (fS:a2<=W.heap.size) (I:kF W a2 T lo) (eQ:lo.length<=1000000)
  (fY:∀ (gE x:X) (gC:aC) {g3 g4 g5 g6 g7 g8 g9 gA:aC},Below W.heap.size W gE->gE.grownBy x T.ownBlock->kF x a2 gC (lo++[(jw,3,c,d,c2,F,(po,H,G),(U,0,0))])->Q .normal ⟨(a7::a8::u2::u3::cF::cS::u6::u7::e8::gC::aE::aj (Y ⟨M,0,U⟩)::aj (Y ⟨N,0,U⟩)::u13::b1::b2::b4::b5::b6::b7::b8::b9::bA::bB::bC::bE::bI::bM::bO::bP::bT::bW::bX::c6::c7::c8::c9::cA::cC::cD::cG::cH::cI::cJ::cL::cM::cN::cP::cQ::cR::cT::cU::cV::cW::cX::cY::d0::d1::d2::d3::d4::d5::d6::d7::d8::d9::dA::dC::dE::dS::dT::dZ::e0::e1::e2::e3::e4::e5::e6::e7::e9::eA::eB::eC::eE::eI::eJ::eK::g3::g4::g5::g6::g7::g8::g9::gA::eL::eM::eN::[]).toArray,[]⟩ x) :
  Code.wp V Ua Q ⟨(a7::a8::u2::u3::cF::cS::u6::u7::e8::T::aE::aj (Y ⟨M,0,U⟩)::aj (Y ⟨N,0,U⟩)::u13::b1::b2::b4::b5::b6::b7::b8::b9::bA::bB::bC::bE::bI::bM::bO::bP::bT::bW::bX::c6::c7::c8::c9::cA::cC::cD::cG::cH::cI::cJ::cL::cM::cN::cP::cQ::cR::cT::cU::cV::cW::cX::cY::d0::d1::d2::d3::d4::d5::d6::d7::d8::d9::dA::dC::dE::dS::dT::dZ::e0::e1::e2::e3::e4::e5::e6::e7::e9::eA::eB::eC::eE::eI::eJ::eK::eS::eV::eW::f0::f1::f2::f3::f4::eL::eM::eN::[]).toArray,[]⟩ W:=by
 have fR:=A fY;have gR:=A fV;have gS:=A fW;have gI:=A fS;have h1:=A I;have h0:=A eQ;clear fY fV fW fS I eQ;have g1:=Rq W.heap.size M N a2 fL fN jw c d c2 F fr up z3 po z4 z5 H G T lo;unfold Ua
 conv=>arg 2; whnf
 have nd:∀ j,(∀ i,i<7->[88,89,90,91,92,93,94].getD i 0≠j)->∀ i,i<7->(fun i=>[88,89,90,91,92,93,94].getD i 0) i≠j:=fun j h=>h;refine Rg.gN 9 7 (fun i=>[88,89,90,91,92,93,94].getD i 0) (fun _=>7) (Ei W.heap.size M N a2 fL fN jw c d c2 F fr up z3 po z4 z5 H G T lo) (by kernel_rfl) (by kernel_rfl) rfl (by decide) (fun i j a6 g0 h=>(by decide:∀ i,i<7->∀ j,j<7->[88,89,90,91,92,93,94].getD i 0=[88,89,90,91,92,93,94].getD j 0->i=j) i a6 j g0 h) (fun i a6=>(by decide:∀ i,i<7->[88,89,90,91,92,93,94].getD i 0<99) i a6) ?_ (fun _=>Rg.kJ 14 (by kernel_rfl)) ?_ ?_
 ·intro i o a6 I a x D hZ hY hX S seen K a1;clear fR;rcases (by omega:i=0\/i=1\/i=2\/i=3\/i=4\/i=5\/i=6) with rfl|rfl|rfl|rfl|rfl|rfl|rfl
  ·cases I;have h5:a.eval (aP 9)=T:=seen.kp 9 _ (nd 9 (by decide)) rfl;exact Rg.dI rfl rfl (Rg.gF a.eval _ (aP 9) rfl x) (a1 _ _ h5 (ak _ _) fun _ _ _ _ _ _ _ h=>h)
  ·cases I;have h2:a.eval (aP 11)=aj (Y ⟨M,0,U⟩):=seen.kp 11 _ (nd 11 (by decide)) rfl;exact Rg.dI rfl rfl (Rg.dY a.eval _ 36 (aP 11) 2 rfl (by rw [h2]; simp [go_sem])) (a1 _ _ rfl (ak _ _) fun _ _ _ _ _ _ _ h=>h)
  ·cases I;have h4:a.eval (aP 89)=aj (Y ⟨M,3,U⟩):=seen.at_ ⟨1,.data⟩ (by simp) rfl (aG (by decide));have f7:=(gR.o.on S).cell 3;simp only [aH,aN,aO] at f7;exact Rg.dI rfl rfl (Rg.dW a.eval _ 3 (aP 89) rfl (by rw [h4]; simp [go_sem,f7])) (a1 _ _ rfl (ak _ _) fun _ _ _ _ _ _ _ h=>h)
  ·cases I;have h3:a.eval (aP 12)=aj (Y ⟨N,0,U⟩):=seen.kp 12 _ (nd 12 (by decide)) rfl;obtain⟨hR,hS,hT,f7,hU,hV,hW⟩:=(gS.o.on S).oz;exact Rg.dI rfl rfl (Rg.dW a.eval _ 67 (aP 12) rfl (by rw [h3]; simp [go_sem,hR,hS,hT,f7,hU,hV,hW])) (a1 _ _ rfl (ak _ _) fun _ _ _ _ _ _ _ h=>h)
  ·cases I;have h7:a.eval (aP 91)=bJ #[O L c,O L d,O L c2,O L F,J po H G,O L fr,aR up]:=seen.at_ ⟨3,.data⟩ (by simp) rfl (aG (by decide));exact Rg.gK rfl rfl (jq a.eval _ (aP 91) 67 58 rfl h7 rfl _ (gB Tryz.func58 rfl rfl _ _)) (Ec (c,d,c2,F,(po,H,G),fr,up) x) fun e w1 h=>by
    obtain⟨rfl,fX⟩:=h;exact⟨_,rfl,a1 _ _ rfl (fX.mono S.size) fun j u _ _ _ _ _ h=>g1 j u _ _ h fX⟩
  ·cases I;have h6:a.eval (aP 90)=O L jw:=seen.at_ ⟨2,.data⟩ (by simp) rfl (aG (by decide));have h8:a.eval (aP 92)=bJ #[O L 3,O L c,O L d,O L c2,O L F,J po H G,J U 0 0]:=seen.at_ ⟨4,.data⟩ (by simp) rfl (aG (by decide));exact Rg.dI rfl rfl (Rg.jd a.eval _ 46 #[(0,aP 90),(1,aP 92)] rfl (ps:=#[(0,O L jw),(1,bJ #[O L 3,O L c,O L d,O L c2,O L F,J po H G,J U 0 0])]) (by simp only [List.map_toArray,aV,List.map_nil,h6,h8]) (by simp [go_sem])) (a1 _ _ rfl (ak _ _) fun _ _ _ _ _ _ _ h=>h)
  ·cases I;have h9:a.eval (aP 93)=vP (jw,3,c,d,c2,F,(po,H,G),(U,0,0)):=seen.at_ ⟨5,.data⟩ (by simp) rfl (aG (by decide));have eQ:=jL Ic x [((jw,3,c,d,c2,F,(po,H,G),(U,0,0)):nu)] 1 rfl (by simp) (jW (jw,3,c,d,c2,F,(po,H,G),(U,0,0))).toArray (by simp [flat,EU]);have g2:=fP x (au (jW (jw,3,c,d,c2,F,(po,H,G),(U,0,0))).toArray 46);exact Rg.dI rfl rfl (Rg.iX a.eval _ 37 1 #[(0,aP 93)] rfl (ps:=#[(0,vP (jw,3,c,d,c2,F,(po,H,G),(U,0,0)))]) (by simp [h9]) (by simp [go_sem])) (a1 (J (Y ⟨x.heap.size,0,U⟩) 1 1) (x.alloc (au (jW (jw,3,c,d,c2,F,(po,H,G),(U,0,0))).toArray 46)) (dO eQ S.size) (g2.mono S.size) fun j u _ _ _ _ _ h=>g1 j u _ _ h g2)
 ·intro hL o hF hG I;rcases (by omega:hL=8) with rfl
  ·cases I;exact⟨⟨7,.data⟩,by simp,rfl,rfl⟩
 ·intro a w' df sz kp ⟨f5,eR⟩ S;have f9:a.tmps.size=99:=sz;have hC:a.tmps[88]?=Y (T):=by
   have h:f5 0=T:=(eR 0 (by omega)).2 (by decide);rw [<- h];exact (eR 0 (by omega)).1
  have hD:a.tmps[94]?=Y (f5 6):=(eR 6 (by omega)).1;have gO:=(eR 6 (by omega)).2 (by decide);have hP:kF w' W.heap.size (f5 6) [(jw,3,c,d,c2,F,(po,H,G),(U,0,0))]:=gO;generalize f5 6=i0 at *;obtain⟨q,f6,r,hO,hE⟩:=uh Ic a2 (dK h1.o S) (Row.dL hP) h0.o (by simp) (aA gI.o S.size) 37;show Rg.fU _ _ _ 2 7 a w';simp only [Rg.fU];refine Rg.dI rfl rfl (Rg.gV a.eval _ (aP 88) (aP 94) 37 rfl (Rg.dU hC) (Rg.dU hD) r) ?_;have hA:(a.put (Y 95) q).eval (aP 95)=q:=Rg.dU (by simp [Act.put,f9]);refine Rg.dI rfl rfl (Rg.kG _ _ (aP 95) rfl f6) ?_;show Q .normal ((a.put (Y 95) q).put (Y 9) ((a.put (Y 95) q).eval (aP 95))) f6;rw [hA];show Q .normal ((a.put (Y 95) q).put (Y 9) q) f6;have hK:∀ j,j≠95->j≠9->((a.put (Y 95) q).put (Y 9) q).tmps[j]?=a.tmps[j]?:=fun j hF hG=>by rw [Rg.get_put _ _ _ _ (by omega),Rg.get_put _ _ _ _ (by omega)]
  have hM:((a.put (Y 95) q).put (Y 9) q).tmps[9]?=Y (q):=by simp [Act.put,f9]
  have hQ:∀ j,(j<88\/96<=j)->((a.put (Y 95) q).put (Y 9) q).tmps[j]?=(a7::a8::u2::u3::cF::cS::u6::u7::e8::q::aE::aj (Y ⟨M,0,U⟩)::aj (Y ⟨N,0,U⟩)::u13::b1::b2::b4::b5::b6::b7::b8::b9::bA::bB::bC::bE::bI::bM::bO::bP::bT::bW::bX::c6::c7::c8::c9::cA::cC::cD::cG::cH::cI::cJ::cL::cM::cN::cP::cQ::cR::cT::cU::cV::cW::cX::cY::d0::d1::d2::d3::d4::d5::d6::d7::d8::d9::dA::dC::dE::dS::dT::dZ::e0::e1::e2::e3::e4::e5::e6::e7::e9::eA::eB::eC::eE::eI::eJ::eK::eS::eV::eW::f0::f1::f2::f3::f4::eL::eM::eN::[])[j]?:=fun j g0=>by
   by_cases f8:j=9
   ·subst f8;exact hM
   ·have hJ:(a7::a8::u2::u3::cF::cS::u6::u7::e8::q::aE::aj (Y ⟨M,0,U⟩)::aj (Y ⟨N,0,U⟩)::u13::b1::b2::b4::b5::b6::b7::b8::b9::bA::bB::bC::bE::bI::bM::bO::bP::bT::bW::bX::c6::c7::c8::c9::cA::cC::cD::cG::cH::cI::cJ::cL::cM::cN::cP::cQ::cR::cT::cU::cV::cW::cX::cY::d0::d1::d2::d3::d4::d5::d6::d7::d8::d9::dA::dC::dE::dS::dT::dZ::e0::e1::e2::e3::e4::e5::e6::e7::e9::eA::eB::eC::eE::eI::eJ::eK::eS::eV::eW::f0::f1::f2::f3::f4::eL::eM::eN::[]:List aC)=(a7::a8::u2::u3::cF::cS::u6::u7::e8::T::aE::aj (Y ⟨M,0,U⟩)::aj (Y ⟨N,0,U⟩)::u13::b1::b2::b4::b5::b6::b7::b8::b9::bA::bB::bC::bE::bI::bM::bO::bP::bT::bW::bX::c6::c7::c8::c9::cA::cC::cD::cG::cH::cI::cJ::cL::cM::cN::cP::cQ::cR::cT::cU::cV::cW::cX::cY::d0::d1::d2::d3::d4::d5::d6::d7::d8::d9::dA::dC::dE::dS::dT::dZ::e0::e1::e2::e3::e4::e5::e6::e7::e9::eA::eB::eC::eE::eI::eJ::eK::eS::eV::eW::f0::f1::f2::f3::f4::eL::eM::eN::[]).set 9 (q):=rfl;rw [hJ,List.getElem?_set_ne (Ne.symm f8)];exact (hK j (by omega) f8).trans ((kp j (nd j fun i a6 h=>by have:=(by decide:∀ i,i<7->88<=[88,89,90,91,92,93,94].getD i 0/\[88,89,90,91,92,93,94].getD i 0<96) i a6; omega)).trans aH)
  obtain⟨hN,hI,hH⟩:=Rg.gG (a:=(a.put (Y 95) q).put (Y 9) q) 88 8 (by simp [Act.put,df]) (by simp [Act.put,f9]) (by simp) hQ;rw [hH]
  match hN,hI with
  | [g3,g4,g5,g6,g7,g8,g9,gA],_ =>
   exact fR.o w' f6 _ S hE hO
end Bk
namespace Pr
open Go.RowKit Pu Rw
theorem aaE {α:Type} {E:Ek α} (K:E.Ok) (r:TypeId) (T:Tryz.prog.underlying r=Y (.int .i64)) (n:Nat) (M:0<n) (N:n<=1000) (W:X) :
  ∃ (j:Nat) (R:Array aC),n<=j/\j<=maxLen/\R.size=j * E.n /\
   ∀ u,(aD #[E.ts,r] u #[J U 0 0,O L n]).run V W=.ok (J (Y ⟨W.heap.size,0,U⟩) n j) (W.drew.alloc (au R E.t)):=by
 obtain⟨i,a1,a2,i3,I⟩:=K.info;have H:=K.few;have S:=K.pos;have q:=fun u=>Lib.run_append_grow_zeros (P:=V) W E.ts r u E.t i _ L L K.hu T a1 a2 U 0 0 [] (run_firstCells_none _ _ _ _ _) n M (by rw [i3]; exact S) (by omega) (by omega)
  (by rw [I]; exact aA (bL N H) (by decide))
  (growslice_fits (by omega) (by rw [I]; exact aA (bL (show 0+n<=2000 by omega) H) (by decide)))
 rw [bQ] at q;have F:=grownCap_ge W n 0 E.t;have G:=grownCap_le_maxLen W n 0 E.t (by unfold maxLen; omega);generalize grownCap W n 0 E.t=j at q F G;refine⟨j,_,F,G,?_,q⟩;simp only [Array.size_append,List.size_toArray,List.length_nil,size_zeroCells,K.zs,bQ,<- Nat.add_mul];rw [show n+(j-n)=j by omega]
def aaF (l:List C5) (w:X) (e:Ending) (w':X):Prop:=∃ v,e=ah v/\iH w' w.heap.size v l/\Below w.heap.size w w'
theorem aaG (n:Nat) (w:X) (N:n<=200) :
  aZ V 171 #[J U 0 0,O L n] w (aaF [] w):=by
 rcases Nat.eq_zero_or_pos n with rfl|G
 ·have Q:=A (show aaF [] w (ah (J U 0 0)) w from ⟨_,rfl,iR _ _,ak _ _⟩);go_enter bR,bN;go_wp2;go_ret;exact Q.o
 ·obtain⟨j,R,M,q,r,u⟩:=aaE (E:=EC) wV 3 Tryz.underlying3 n G (by omega) w;have F:=u 34;have s1:=kI (E:=EC) wV ⟨w.heap.size,0,U⟩ 0 n j (bS _);have Q:=A (show aaF [] w (ah (J (Y ⟨w.heap.size,0,U⟩) 0 j)) (w.drew.alloc (au R 91)) from
   ⟨_,rfl,pF wV (l:=[]) rfl (aJ _) (dR w.drew R 91) (bS _) q r (by simp [flat]),(ak _ _).drew.alloc (by simp) _⟩)
  change (aD #[34,3] 34 #[J U 0 0,O L (n:Int)]).run V w=.ok (J (Y ⟨w.heap.size,0,U⟩) n j) (w.drew.alloc (au R 91)) at F;change ∀ W,(Instr.sliceAt 34 (J (Y ⟨w.heap.size,0,U⟩) n j) U (Y (O L 0)) U).run V W=.ok (J (Y ⟨w.heap.size,0,U⟩) 0 j) W at s1;have H:decide ((n:Int)<0)=Z:=by simp
  have I:decide ((0:Int)<(n:Int))=aQ:=by simp; omega
  unfold maxLen at q;clear u r;go_enter bR,bN;go_wp2_with (first | (at_builtin; refine jA rfl _ _ 34 3 rfl rfl rfl F ?_) | fail);go_ret;exact Q.o
def aoS (n m:Nat) (s i:aC):Prop:=(i=O L 0/\s=O L 0)\/(i=O L 1/\s=O L (n:Int))\/(i=O L 2/\s=O L ((n+m:Nat):Int))
def aoT (w:X) (a b:List C5) (v i:aC) (wr:X):Prop:=((i=O L 0/\iH wr w.heap.size v [])\/(i=O L 1/\iH wr w.heap.size v a)\/(i=O L 2/\iH wr w.heap.size v (a++b)))/\Below w.heap.size w wr
theorem Rs (g:Nat) (aE a2:aC) (a b:List C5) (w:X) (c0:w.cell? ⟨g,0,U⟩=Y aE) (c1:w.cell? ⟨g,1,U⟩=Y a2) (G:fO w aE a) (H:fO w a2 b) (la:a.length<=100) (bE:b.length<=100) :
  aZ V 135 #[J (Y ⟨g,0,U⟩) 2 2] w (aaF (a++b) w):=by
 have b2:=A G;have b4:=A H;have S:=A c0;have T:=A c1;have a8:g<w.heap.size:=World.block_lt_of_cell? w _ c0;obtain⟨b9,b8,rfl⟩:=G.len;obtain⟨bB,bA,rfl⟩:=H.len;clear G H c0 c1;go_enter Tryz.func135,Tryz.ntmps135;go_wp2
 go_loop [3,11] (fun s i=>aoS a.length b.length s i) (fun _ i=>(2-intOf i).toNat)
 case atStart=>exact aX ⟨rfl,rfl⟩
 case round =>
  rcases hrel with⟨rfl,rfl⟩|⟨rfl,rfl⟩|⟨rfl,rfl⟩
  ·have c0:=S.o;go_wp2
   go_round
   case rel=>exact aG (aX ⟨rfl,rfl⟩)
   case measure=>simp [intOf]
  ·have c1:=T.o;go_wp2
   go_round
   case rel=>exact aG (aG ⟨rfl,by go_num⟩)
   case measure=>simp [intOf]
  ·have a1:=A (aaG (a.length+b.length) w (by omega));go_wp2_with fail;refine a1.o.mono ?_;rintro bC w1 ⟨bI,rfl,j,a6⟩;have b5:=A j;have b1:=A a6;clear j a6 a1;go_wp2
   go_loopw [6,27] (fun v i wr=>aoT w a b v i wr) (fun _ i _=>(2-intOf i).toNat)
   case atStart=>exact⟨aX ⟨rfl,b5.o⟩,b1.o⟩
   case round =>
    obtain⟨b6,a7⟩:=hrel;have q:=A a7;clear a7;rcases b6 with⟨rfl,j⟩|⟨rfl,j⟩|⟨rfl,j⟩
    ·have c0:=(q.o.cell (p:=⟨g,0,U⟩) a8).trans S.o;obtain⟨b7,w',N,u,r⟩:=Ii w.heap.size j (b2.o.on q.o) (by simp) (by omega) q.o.size;have B':=A (q.o.grown r q.o.size (fun M I=>(j.lt M I).1));have F:=A u;clear j u r;go_wp2_with (first | (at_builtin; refine wpList_append_run rfl _ _ 34 rfl rfl rfl N ?_) | fail)
     go_roundw
     case rel=>exact⟨aG (aX ⟨rfl,F.o⟩),B'.o⟩
     case measure=>simp [intOf]
    ·have c1:=(q.o.cell (p:=⟨g,1,U⟩) a8).trans T.o;obtain⟨b7,w',N,u,r⟩:=Ii w.heap.size j (b4.o.on q.o) (by omega) (by omega) q.o.size;have B':=A (q.o.grown r q.o.size (fun M I=>(j.lt M I).1));have F:=A u;clear j u r;go_wp2_with (first | (at_builtin; refine wpList_append_run rfl _ _ 34 rfl rfl rfl N ?_) | fail)
     go_roundw
     case rel=>exact⟨aG (aG ⟨rfl,F.o⟩),B'.o⟩
     case measure=>simp [intOf]
    ·have Q:=A (show aaF (a++b) w (ah _) _ from ⟨_,rfl,j,q.o⟩);clear j;go_wp2;go_ret;exact Q.o
end Pr
namespace Rl
open Go.RowKit Go.Sort Pu Rw Pr Va
def aaH (a b:List Cn) (w:X) (e:Ending) (w':X):Prop:=Below w.heap.size w w'/\(match lG a.length a b with
 | .ok p=>∃ j,e=ah (.tuple #[j,aR aQ])/\fO w' j (p.map r5)
 | .error _=>∃ j,e=ah (.tuple #[j,aR Z]))
theorem OQ {a b:List Cn} (j:NF a) (q:NF b):YT (a++b):=⟨by have:=j.five; have:=q.five; simp; omega,fun c r=>by
 rcases aK.1 r with h|h
 ·exact j.small c h
 ·exact q.small c h⟩
theorem aea (G F:aC) (a b:List Cn) (w:X) (a1:fO w G (a.map r5)) (a2:fO w F (b.map r5)) (u:NF a) (I:NF b):aZ V 88 #[G,F] w (aaH a b w):=by
 have j:=A (show Below w.heap.size w (w.alloc (au #[G,F] 34)) from (ak _ _).alloc (aJ _) _);have N:=A (Rs w.heap.size G F (a.map r5) (b.map r5) (w.alloc (au #[G,F] 34)) (by simp [go_sem]) (by simp [go_sem]) (a1.on j.o) (a2.on j.o) (by rw [aB]; have:=u.five; omega) (by rw [aB]; have:=I.five; omega));have b2:=A (OQ u I);have a8:=A (show ∀ c∈a++b,xV c=aQ from fun c bA=>by
  rcases aK.1 bA with h|h
  ·exact u.good c h
  ·exact I.good c h)
 have S:=A (Vr (b:=b) u.rise u.five);obtain⟨bI,bE,rfl⟩:=a1.len;obtain⟨bP,bO,rfl⟩:=a2.len;clear a1 a2 u I;simp only [aB] at N j ⊢;obtain⟨b8,a6⟩:∃ r,r=lG a.length a b:=⟨_,rfl⟩;have b1:=A (show ∀ e w',(Below w.heap.size w w'/\(match b8 with
  | .ok p=>∃ H,e=ah (.tuple #[H,aR aQ])/\fO w' H (p.map r5)
  | .error _=>∃ H,e=ah (.tuple #[H,aR Z])))->aaH a b w e w' from fun e w' h=>by unfold aaH; rw [<- a6]; exact h)
 rw [<- a6] at S;generalize bB:aaH a b w=q at *;clear bB a6;go_enter Tryz.func88,Tryz.ntmps88;go_wp2_with fail;refine N.o.mono ?_;rintro bT w1 ⟨bC,rfl,b6,b4⟩;have M:=A (j.o.trans (b4.mono j.o.size));have aE:=A (aar bC (a++b) w1 (by rw [bH]; exact Row.dL b6) b2.o a8.o);clear b6 b4 N b2 a8 j;go_wp2_with fail;refine aE.o.mono ?_;rintro bW bX ⟨b5,T⟩;have a7:=A (M.o.trans (b5.mono M.o.size));rw [S.o] at T;clear b5 aE M S;rcases b8 with _|p
 ·obtain⟨bM,rfl⟩:=T;go_wp2
  go_region
  all_goals simp only [Exit.then]
  all_goals apply_assumption
  all_goals go_wp2
  all_goals exact b1.o _ _ ⟨a7.o.drew,_,rfl⟩
 ·obtain⟨H,rfl,b7⟩:=T;have b9:=A b7;clear b7;go_wp2
  go_region
  all_goals simp only [Exit.then]
  all_goals apply_assumption
  all_goals go_wp2
  all_goals exact b1.o _ _ ⟨a7.o.drew,_,rfl,b9.o.on (ak _ _).drew⟩
theorem Ru (u q:aC) (a b:List Cn) (w:X) (H:fO w u (a.map r5)) (I:fO w q (b.map r5)) (S:NF a) (a1:NF b):aZ V 28 #[u,q] w fun e w'=>e=ah (aR (vK a b))/\Below w.heap.size w w':=by
 have T:=A (aea u q a b w H I S a1);have j:=A (show vK a b=match lG a.length a b with
  | .ok _=>aQ
  | .error _=>Z from rfl)
 unfold aaH at T;generalize vK a b=r at *;generalize lG a.length a b=a7 at *;clear H I S a1;go_enter Tryz.func28,Tryz.ntmps28;go_wp2_with fail;refine T.o.mono ?_;rintro a8 w1 ⟨N,G⟩;have F:=A N;clear N T;rcases a7 with _|p
 ·obtain⟨a6,rfl⟩:=G;have M:=A (show r=Z from j.o);clear j;go_wp2;go_ret;exact⟨eG M.o.symm,F.o⟩
 ·obtain⟨a6,rfl,a2⟩:=G;have M:=A (show r=aQ from j.o);clear j a2;go_wp2;go_ret;exact⟨eG M.o.symm,F.o⟩
end Rl
end Go.Proofs.YtghlpefopidlaaaGreat
