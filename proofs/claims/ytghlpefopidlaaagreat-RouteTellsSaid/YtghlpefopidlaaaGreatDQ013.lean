/-
  Right's closures, an. Conditions as told.
-/
import Derived.Test.YtghlpefopidlaaaGreatDQ010
import Derived.Test.YtghlpefopidlaaaGreatDQ012
import Derived.Shelf.Abstract
set_option maxRecDepth 100000
set_option maxHeartbeats 64000000
open _root_.Bool renaming true->aI,and_eq_true->bH,false->bL,true_and->dw
open _root_.Go renaming cell_regrown->aB,World->aT,redrawn->bK,Calls->bQ,Value->bS
open Go.Ending renaming returned->ay
open Go.IntKind renaming i64->ah
open Go.Obj renaming cells->cu
open Go.Operand renaming tmp->aD
open Go.Proofs.Tryz renaming prog->au
open Go.Proofs.YtghlpefopidlaaaGreat.Rg renaming dI->aZ
open Go.RowKit.Below renaming refl->O,heap_setCell->bY
open Go.Value renaming slice->J,pointer->U,int->V,bool->aX
open _root_.List renaming getElem?_eq_some_iff->L,getElem?_eq_getElem->aA,mem_of_getElem?->aC,mem_iff_getElem?->aG,pairwise_cons->aJ,mem_filter->aK,takeWhile_cons->aL,all_eq_true->aM,getElem?_toArray->aN,mem_append->aO,append_assoc->aP,getElem?_cons_zero->aR,getElem?_cons_succ->aS,length_append->aV,mem_cons->aW,getElem?_map->aY,dropWhile_cons->bf,takeWhile_append_dropWhile->bF,take_append_drop->bG,length_cons->bJ,mem_cons_of_mem->bN,getElem?_append_right->bR,getElem?_append_left->bU,mem_or_eq_of_mem_set->bV,all_eq_false->bZ,getElem_mem->cB,singleton_append->cK,mem_of_mem_take->cZ,mem_of_mem_drop->dh,filter_sublist->dn,mem_singleton->dx,all_takeWhile->dB,filter_append->dD,getElem?_set->dH
open _root_.Nat renaming le_refl->aQ,add_sub_cancel_left->bg,lt_or_ge->bD,zero_le->cO,lt_of_le_of_lt->dG
open _root_.Option renaming some->ak,none->aF
open Option.some renaming inj->aj
open _root_.Or renaming inr->aH,inl->aU
open Go.Proofs.YtghlpefopidlaaaGreat renaming hq->A
namespace Go.Proofs.YtghlpefopidlaaaGreat
namespace Av
open Go.RowKit Go.Sort Rw YtghlpefopidlaaaGreat.Nm Pr Bk
theorem Zz (b:Br) (a:Ad) (u av G j F:Sl) (x:ku) (a2:Nat) (w:aT) (a7:dN w a2 (jU b.me u av G j F) 30) (h:iT w b u av G j F) (b4:rP w x a) (a8:Am b) (aE:b.near.Pairwise (·<=·)) (b1:Fv b.seen) (b2:Li a.p) :
  bQ au 75 #[nC x,U (ak ⟨a2,0,aF⟩)] w fun e w'=>e=ay (aX (DV b a))/\Below w.heap.size w w':=by
 obtain⟨no,bI,bE⟩:=u;obtain⟨b8,b7,b6⟩:=av;obtain⟨bT,bP,sc⟩:=G;obtain⟨bC,bB,bA⟩:=j;obtain⟨bO,b9,bM⟩:=F;obtain⟨H,I,⟨T,S,N⟩,M⟩:=x;have q:=fP w (cu #[V ah H,V ah I,J T S N,V ah M] 36);have Y:=dR w #[V ah H,V ah I,J T S N,V ah M] 36;have X:=a7.on q;have C:=A (adM b a (no,bI,bE) (b8,b7,b6) (bT,bP,sc) (bC,bB,bA) (bO,b9,bM) (H,I,(T,S,N),M) _ (h.on q) (b4.on q) a8 aE b1 b2);generalize DV b a=r at *;have a1:=A q;obtain⟨bW,bX,c6,c7,c8,c9⟩:=X.fA;obtain⟨cD,cA,cC,cF⟩:=Y.Ib;clear q X Y h b4 a8 aE b1 b2 a7;go_enter Tryz.func75,Tryz.ntmps75;go_wp2_with fail;refine C.o.mono ?_;rintro e w1 ⟨rfl,a6⟩;have b5:=A (a1.o.trans (a6.mono a1.o.size));clear a6;go_wp2;go_ret;exact⟨rfl,b5.o⟩
theorem ZA (b:Br) (a:En) (u av G j F:Sl) (x:iY) (a8:Nat) (w:aT) (b1:dN w a8 (jU b.me u av G j F) 30) (h:iT w b u av G j F) (b7:jF w x a) (b2:Am b) (b4:b.near.Pairwise (·<=·)) (b5:tO b.dQ) (b6:Li a.p) :
  bQ au 78 #[qd x,U (ak ⟨a8,0,aF⟩)] w fun e w'=>e=ay (aX (qC b a))/\Below w.heap.size w w':=by
 obtain⟨no,bP,bO⟩:=u;obtain⟨bB,bA,b9⟩:=av;obtain⟨c6,bX,sc⟩:=G;obtain⟨bM,bI,bE⟩:=j;obtain⟨bW,bC,bT⟩:=F;obtain⟨H,I,M,N,⟨a6,a2,a1⟩,S,T⟩:=x;have q:=fP w (cu #[V ah H,V ah I,V ah M,V ah N,J a6 a2 a1,V ah S,aX T] 67);have Y:=dR w #[V ah H,V ah I,V ah M,V ah N,J a6 a2 a1,V ah S,aX T] 67;have X:=b1.on q;have C:=A (adN b a (no,bP,bO) (bB,bA,b9) (c6,bX,sc) (bM,bI,bE) (bW,bC,bT) (H,I,M,N,(a6,a2,a1),S,T) _ (h.on q) (b7.on q) b2 b4 b5 b6);generalize qC b a=r at *;have a7:=A q;obtain⟨c7,c8,c9,cA,cC,cD⟩:=X.fA;obtain⟨cH,cF,cG,cI,cJ,cL,cM⟩:=Y.oz;clear q X Y h b7 b2 b4 b5 b6 b1;go_enter Tryz.func78,Tryz.ntmps78;go_wp2_with fail;refine C.o.mono ?_;rintro e w1 ⟨rfl,aE⟩;have b8:=A (a7.o.trans (aE.mono a7.o.size));clear aE;go_wp2;go_ret;exact⟨rfl,b8.o⟩
theorem ZC (a:Ow) (x:mP) (w:aT) (M:xQ w x a) (I:Li a.p) :
  bQ au 81 #[zy x] w fun e w'=>e=ay (aX (Wr.fT a.p))/\Below w.heap.size w w':=by
 obtain⟨N,S,⟨F,u,j⟩⟩:=x;have q:=fP w (cu #[V ah N,V ah S,J F u j] 88);have Y:=dR w #[V ah N,V ah S,J F u j] 88;have C:=A (Avp.yP (J F u j) a.p _ (M.2.on q) I);generalize Wr.fT a.p=r at *;have G:=A q;obtain⟨a6,a1,a2⟩:=Y.cs3;clear q Y M I;go_enter Tryz.func81,Tryz.ntmps81;go_wp2_with fail;refine C.o.mono ?_;rintro e w1 ⟨rfl,H⟩;have T:=A (G.o.trans (H.mono G.o.size));clear H;go_wp2;go_ret;exact⟨rfl,T.o⟩
theorem ZE (b9:Nat) (v:Sl) (l:List ku) (al:List Ad) (ok:Ad->Bool) (w:aT) (I:Row ED w (eu v) l) (bE:eY (rP w) l al)
  (bI:∀ (x:ku) (a:Ad) (u:aT),a∈al->Below w.heap.size w u->rP u x a->bQ au 75 #[nC x,U (ak ⟨b9,0,aF⟩)] u fun e w'=>e=ay (aX (ok a))/\Below u.heap.size u w') :
  bQ au 74 #[eu v,.func (.func 75) #[] #[U (ak ⟨b9,0,aF⟩)]] w fun e w'=>e=ay (aX (al.all ok))/\Below w.heap.size w w':=by
 obtain⟨cF,cD,sc⟩:=v;obtain⟨b8,b7,H⟩:=I.len;have H:J cF cD sc=J b8 l.length b7:=H;obtain⟨rfl,rfl,rfl⟩:cF=b8/\cD=l.length/\sc=b7:=by simpa using H
 have b4:=A I;have N:=A bE;have cG:=A bI;have bX:=I.most;unfold maxLen at bX;obtain⟨n,a2⟩:∃ n,n=l.length:=⟨_,rfl⟩;rw [<- a2] at b4 bX ⊢;have S:=A a2.symm;obtain⟨cC,a7⟩:∃ r,al.all ok=r:=⟨_,rfl⟩;rw [a7];have b6:=A a7;clear I bE bI H a2 a7;go_enter Tryz.func74,Tryz.ntmps74;go_wp2
 go_loopw [9] (fun i wr=>∃ k:Nat,k<=n/\i=V ah k/\Below w.heap.size w wr/\∀ (j:Nat) (a:Ad),j<k->al[j]?=ak a->ok a=aI) (fun i _=>n-(intOf i).toNat)
 case atStart=>exact⟨0,cO _,rfl,O _ _,fun j y h=>by omega⟩
 case round =>
  obtain⟨k,cS,rfl,bP,bM⟩:=hrel;have F:=A bP;have a8:=A bM;clear bP bM;by_cases cH:k<n
  ·obtain⟨a,G⟩:∃ a,al[k]?=ak a:=⟨_,aA (by rw [<- N.o.len,S.o]; exact cH)⟩;obtain⟨x,bT,bW⟩:=N.o.at k a G;obtain⟨p,cJ,cA⟩:=Mv b4.o rfl S.o bT;obtain⟨c6,c7,c8,c9⟩:=cA wr F.o;have M:=fun u (q:Below w.heap.size w u)=>cG.o x a u (aC G) q (bW.on q);have b2:=A G;obtain⟨r,a6⟩:∃ r,ok a=r:=⟨_,rfl⟩;rw [a6] at M;have b5:=A a6;clear bT G bW cA a6;obtain⟨cL,cM,⟨cR,cQ,cP⟩,cN⟩:=x;simp only at c6 c7 c8 c9;have T:=fP wr (cu #[V ah cL,V ah cM,J cR cQ cP,V ah cN] 36);have C:=A (M _ (F.o.trans (T.mono F.o.size)));have b1:=A (F.o.trans (T.mono F.o.size));have cT:IntKind.i64.wrap ((k:Int)+1)=(k:Int)+1:=IntWalk.i64_in _ (by omega);clear M T;go_wp2_with fail;refine C.o.mono ?_;rintro e w1 ⟨rfl,bO⟩;have aE:=A (b1.o.trans (bO.mono b1.o.size));clear bO C cJ c6 c7 c8 c9;cases r
   ·have R:=A (show cC=bL by
     rw [<- b6.o];exact bZ.2 ⟨a,aC b2.o,by rw [b5.o]; simp⟩)
    go_wp2;go_ret;exact⟨by rw [R.o]; rfl,aE.o⟩
   ·go_wp2
    go_roundw
    case rel=>exact⟨k+1,by omega,by go_num,aE.o,fun j y a1 bB=>by
     rcases bD j k with bC|bC
     ·exact a8.o j y bC bB
     ·obtain rfl:j=k:=by omega
      have bA:=b2.o;rw [bB] at bA;rw [aj bA];exact b5.o⟩
    case measure=>simp [intOf]; omega
  ·obtain rfl:k=n:=by omega
   have R:=A (show cC=aI by
    rw [<- b6.o];refine aM.2 fun y cI=>?_;obtain⟨j,a1⟩:=aG.1 cI;exact a8.o j y (by have:=(L.1 a1).1; have:=N.o.len; have:=S.o; omega) a1)
   go_wp2;go_ret;exact⟨by rw [R.o]; rfl,F.o⟩
theorem ZF (b9:Nat) (v:Sl) (l:List iY) (al:List En) (ok:En->Bool) (w:aT) (I:Row EN w (eu v) l) (bE:eY (jF w) l al)
  (bI:∀ (x:iY) (a:En) (u:aT),a∈al->Below w.heap.size w u->jF u x a->bQ au 78 #[qd x,U (ak ⟨b9,0,aF⟩)] u fun e w'=>e=ay (aX (ok a))/\Below u.heap.size u w') :
  bQ au 77 #[eu v,.func (.func 78) #[] #[U (ak ⟨b9,0,aF⟩)]] w fun e w'=>e=ay (aX (al.all ok))/\Below w.heap.size w w':=by
 obtain⟨cI,cH,sc⟩:=v;obtain⟨b8,b7,H⟩:=I.len;have H:J cI cH sc=J b8 l.length b7:=H;obtain⟨rfl,rfl,rfl⟩:cI=b8/\cH=l.length/\sc=b7:=by simpa using H
 have b4:=A I;have N:=A bE;have cJ:=A bI;have bX:=I.most;unfold maxLen at bX;obtain⟨n,a2⟩:∃ n,n=l.length:=⟨_,rfl⟩;rw [<- a2] at b4 bX ⊢;have S:=A a2.symm;obtain⟨cG,a7⟩:∃ r,al.all ok=r:=⟨_,rfl⟩;rw [a7];have b6:=A a7;clear I bE bI H a2 a7;go_enter Tryz.func77,Tryz.ntmps77;go_wp2
 go_loopw [9] (fun i wr=>∃ k:Nat,k<=n/\i=V ah k/\Below w.heap.size w wr/\∀ (j:Nat) (a:En),j<k->al[j]?=ak a->ok a=aI) (fun i _=>n-(intOf i).toNat)
 case atStart=>exact⟨0,cO _,rfl,O _ _,fun j y h=>by omega⟩
 case round =>
  obtain⟨k,cY,rfl,bP,bM⟩:=hrel;have F:=A bP;have a8:=A bM;clear bP bM;by_cases cL:k<n
  ·obtain⟨a,G⟩:∃ a,al[k]?=ak a:=⟨_,aA (by rw [<- N.o.len,S.o]; exact cL)⟩;obtain⟨x,bT,bW⟩:=N.o.at k a G;obtain⟨p,cN,cF⟩:=Qj b4.o rfl S.o bT;obtain⟨c6,c7,c8,c9,cA,cC,cD⟩:=cF wr F.o;have M:=fun u (q:Below w.heap.size w u)=>cJ.o x a u (aC G) q (bW.on q);have b2:=A G;obtain⟨r,a6⟩:∃ r,ok a=r:=⟨_,rfl⟩;rw [a6] at M;have b5:=A a6;clear bT G bW cF a6;obtain⟨cP,cQ,cR,cS,⟨cX,cW,cV⟩,cT,cU⟩:=x;simp only at c6 c7 c8 c9 cA cC cD;have T:=fP wr (cu #[V ah cP,V ah cQ,V ah cR,V ah cS,J cX cW cV,V ah cT,aX cU] 67);have C:=A (M _ (F.o.trans (T.mono F.o.size)));have b1:=A (F.o.trans (T.mono F.o.size));have d0:IntKind.i64.wrap ((k:Int)+1)=(k:Int)+1:=IntWalk.i64_in _ (by omega);clear M T;go_wp2_with fail;refine C.o.mono ?_;rintro e w1 ⟨rfl,bO⟩;have aE:=A (b1.o.trans (bO.mono b1.o.size));clear bO C cN c6 c7 c8 c9 cA cC cD;cases r
   ·have R:=A (show cG=bL by
     rw [<- b6.o];exact bZ.2 ⟨a,aC b2.o,by rw [b5.o]; simp⟩)
    go_wp2;go_ret;exact⟨by rw [R.o]; rfl,aE.o⟩
   ·go_wp2
    go_roundw
    case rel=>exact⟨k+1,by omega,by go_num,aE.o,fun j y a1 bB=>by
     rcases bD j k with bC|bC
     ·exact a8.o j y bC bB
     ·obtain rfl:j=k:=by omega
      have bA:=b2.o;rw [bB] at bA;rw [aj bA];exact b5.o⟩
    case measure=>simp [intOf]; omega
  ·obtain rfl:k=n:=by omega
   have R:=A (show cG=aI by
    rw [<- b6.o];refine aM.2 fun y cM=>?_;obtain⟨j,a1⟩:=aG.1 cM;exact a8.o j y (by have:=(L.1 a1).1; have:=N.o.len; have:=S.o; omega) a1)
   go_wp2;go_ret;exact⟨by rw [R.o]; rfl,F.o⟩
theorem ZG (v:Sl) (l:List mP) (al:List Ow) (ok:Ow->Bool) (w:aT) (I:Row EW w (eu v) l) (bC:eY (xQ w) l al)
  (bE:∀ (x:mP) (a:Ow) (u:aT),a∈al->Below w.heap.size w u->xQ u x a->bQ au 81 #[zy x] u fun e w'=>e=ay (aX (ok a))/\Below u.heap.size u w') :
  bQ au 80 #[eu v,.func (.func 81) #[] #[]] w fun e w'=>e=ay (aX (al.all ok))/\Below w.heap.size w w':=by
 obtain⟨cC,cA,sc⟩:=v;obtain⟨b8,b7,H⟩:=I.len;have H:J cC cA sc=J b8 l.length b7:=H;obtain⟨rfl,rfl,rfl⟩:cC=b8/\cA=l.length/\sc=b7:=by simpa using H
 have b4:=A I;have N:=A bC;have cD:=A bE;have bW:=I.most;unfold maxLen at bW;obtain⟨n,a2⟩:∃ n,n=l.length:=⟨_,rfl⟩;rw [<- a2] at b4 bW ⊢;have S:=A a2.symm;obtain⟨c9,a7⟩:∃ r,al.all ok=r:=⟨_,rfl⟩;rw [a7];have b6:=A a7;clear I bC bE H a2 a7;go_enter Tryz.func80,Tryz.ntmps80;go_wp2
 go_loopw [9] (fun i wr=>∃ k:Nat,k<=n/\i=V ah k/\Below w.heap.size w wr/\∀ (j:Nat) (a:Ow),j<k->al[j]?=ak a->ok a=aI) (fun i _=>n-(intOf i).toNat)
 case atStart=>exact⟨0,cO _,rfl,O _ _,fun j y h=>by omega⟩
 case round =>
  obtain⟨k,cP,rfl,bO,bI⟩:=hrel;have F:=A bO;have a8:=A bI;clear bO bI;by_cases cF:k<n
  ·obtain⟨a,G⟩:∃ a,al[k]?=ak a:=⟨_,aA (by rw [<- N.o.len,S.o]; exact cF)⟩;obtain⟨x,bP,bT⟩:=N.o.at k a G;obtain⟨p,cH,c8⟩:=elW b4.o rfl S.o bP;obtain⟨bX,c6,c7⟩:=c8 wr F.o;have M:=fun u (q:Below w.heap.size w u)=>cD.o x a u (aC G) q (bT.on q);have b2:=A G;obtain⟨r,a6⟩:∃ r,ok a=r:=⟨_,rfl⟩;rw [a6] at M;have b5:=A a6;clear bP G bT c8 a6;obtain⟨cI,cJ,⟨cN,cM,cL⟩⟩:=x;simp only at bX c6 c7;have T:=fP wr (cu #[V ah cI,V ah cJ,J cN cM cL] 88);have C:=A (M _ (F.o.trans (T.mono F.o.size)));have b1:=A (F.o.trans (T.mono F.o.size));have cQ:IntKind.i64.wrap ((k:Int)+1)=(k:Int)+1:=IntWalk.i64_in _ (by omega);clear M T;go_wp2_with fail;refine C.o.mono ?_;rintro e w1 ⟨rfl,bM⟩;have aE:=A (b1.o.trans (bM.mono b1.o.size));clear bM C cH bX c6 c7;cases r
   ·have R:=A (show c9=bL by
     rw [<- b6.o];exact bZ.2 ⟨a,aC b2.o,by rw [b5.o]; simp⟩)
    go_wp2;go_ret;exact⟨by rw [R.o]; rfl,aE.o⟩
   ·go_wp2
    go_roundw
    case rel=>exact⟨k+1,by omega,by go_num,aE.o,fun j y a1 bA=>by
     rcases bD j k with bB|bB
     ·exact a8.o j y bB bA
     ·obtain rfl:j=k:=by omega
      have b9:=b2.o;rw [bA] at b9;rw [aj b9];exact b5.o⟩
    case measure=>simp [intOf]; omega
  ·obtain rfl:k=n:=by omega
   have R:=A (show c9=aI by
    rw [<- b6.o];refine aM.2 fun y cG=>?_;obtain⟨j,a1⟩:=aG.1 cG;exact a8.o j y (by have:=(L.1 a1).1; have:=N.o.len; have:=S.o; omega) a1)
   go_wp2;go_ret;exact⟨by rw [R.o]; rfl,F.o⟩
abbrev cAd (a b:Ad):Int:=gU a.id b.id
abbrev zN (a b:En):Int:=Ea (gU a.tree b.tree) (gU a.sub b.sub)
abbrev cOw (a b:Ow):Int:=gU a.id b.id
def VY (b:Br):Bool:=gW mQ b.near && (gW gU b.seen && (gW cAd b.dQ && (gW zN b.ent && (gW cOw b.own && (b.dQ.all (DV b) && (b.ent.all (qC b) && b.own.all (fun o=>Wr.fT o.p)))))))
structure ae4 (b:Br):Prop where
 dQ:∀ a∈b.dQ,Li a.p
 ent:∀ a∈b.ent,Li a.p
 own:∀ a∈b.own,Li a.p
theorem xI {α j:Type} {R:α->j->Prop} {c:α->α->Int} {d:j->j->Int} (h:∀ x a y b,R x a->R y b->c x y=d a b):∀ {l:List α} {m:List j},eY R l m->gW c l=gW d m
 | _,_,.nil=>rfl
 | _,_,.cons _ .nil=>rfl
 | _,_,.cons x (.cons y t)=>by
  have q:=xI h (.cons y t);unfold gW;rw [h _ _ _ _ x y,q]
theorem nJ {α:Type} {c:α->α->Int} (q:∀ x y z,c x y<0->c y z<0->c x z<0):∀ {l:List α},gW c l=aI->l.Pairwise fun x y=>c x y<0
 | [],_=>List.Pairwise.nil
 | [x],_=>List.pairwise_singleton _ _
 | x::y::l,h=>by
  unfold gW at h;rw [bH] at h;have u:=nJ q h.2;have r:c x y<0:=of_decide_eq_true h.1;refine aJ.2 ⟨fun z j=>?_,u⟩;rcases aW.1 j with rfl|j
  ·exact r
  ·exact q x y z r ((aJ.1 u).1 z j)
theorem qD {x y:fB}:gU x y<0↔eT x y=aI:=vO x y
theorem Ll (x y z:fB) (j:gU x y<0) (q:gU y z<0):gU x z<0:=qD.2 (ji (qD.1 j) (qD.1 q))
theorem Tx {l:List Int} (h:gW mQ l=aI):l.Pairwise (·<=·):=by
 have:=nJ (c:=mQ) (fun x y z q r=>by rw [rz] at *; omega) h;exact this.imp fun {a b} j=>by have:=(rz a b).1 j; omega
theorem Jz {l:List fB} (h:gW gU l=aI):Fv l:=(nJ Ll h).imp fun {_ _} j=>qD.1 j
theorem Ob {l:List Ad} (h:gW cAd l=aI):tO l:=(nJ (fun x y z=>Ll x.id y.id z.id) h).imp fun {_ _} j=>qD.1 j
theorem Q0 (b:Br) (cU av cW cI cV:Sl) (w:aT) (h:iT w b cU av cW cI cV) (cQ:Am b) (c7:ae4 b) :
  bQ au 24 #[mg b.me cU av cW cI cV] w fun e w'=>e=ay (aX (VY b))/\Below w.heap.size w w':=by
 obtain⟨no,b4,b2⟩:=cU;obtain⟨T,S,N⟩:=av;obtain⟨b6,b5,sc⟩:=cW;obtain⟨a7,a6,a2⟩:=cI;obtain⟨aE,a1,a8⟩:=cV;obtain⟨la,cL,cM⟩:=h.dQ;obtain⟨le,cN,cP⟩:=h.ent;obtain⟨lo,cR,cS⟩:=h.own;have d2:=fP w (cu #[V ah b.me,J no b4 b2,J T S N,J b6 b5 sc,J a7 a6 a2,J aE a1 a8] 30);have X:=dR w #[V ah b.me,J no b4 b2,J T S N,J b6 b5 sc,J a7 a6 a2,J aE a1 a8] 30;have c9:=fun q (r:Below w.heap.size w q)=>VQ (J no b4 b2) b.near q (h.near.on r);have cA:=fun q (r:Below w.heap.size w q)=>VT (J b6 b5 sc) b.seen q (h.seen.on r);have bX:=fun q (r:Below w.heap.size w q)=>VU (J T S N) la q (cL.on r);have c6:=fun q (r:Below w.heap.size w q)=>VW (J a7 a6 a2) le q (cN.on r);have C5:=fun q (r:Below w.heap.size w q)=>VX (J aE a1 a8) lo q (cR.on r);rw [xI (R:=rP w) (d:=cAd) (fun x a y b b8 b9=>by rw [cAd,<- b8.1,<- b9.1]) cM] at bX;rw [xI (R:=jF w) (d:=zN) (fun x a y b b8 b9=>by rw [zN,<- b8.1,<- b9.1,<- b8.2.1,<- b9.2.1]; rfl) cP] at c6;rw [xI (R:=xQ w) (d:=cOw) (fun x a y b b8 b9=>by rw [cOw,<- b8.1,<- b9.1]) cS] at C5;have cC:=fun (cJ:gW mQ b.near=aI) (d6:gW gU b.seen=aI) q (r:Below w.heap.size w q) (cT:dN q w.heap.size #[V ah b.me,J no b4 b2,J T S N,J b6 b5 sc,J a7 a6 a2,J aE a1 a8] 30)=>ZE w.heap.size (T,S,N) la b.dQ (DV b) q (cL.on r) (cM.mono fun _ _ z=>z.on r) (fun x a b7 bB bA bC=>Zz b a (no,b4,b2) (T,S,N) (b6,b5,sc) (a7,a6,a2) (aE,a1,a8) x w.heap.size b7 (cT.on bA) ((h.on r).on bA) bC cQ (Tx cJ) (Jz d6) (c7.dQ a bB));have cD:=fun (cJ:gW mQ b.near=aI) (d7:gW cAd b.dQ=aI) q (r:Below w.heap.size w q) (cT:dN q w.heap.size #[V ah b.me,J no b4 b2,J T S N,J b6 b5 sc,J a7 a6 a2,J aE a1 a8] 30)=>ZF w.heap.size (a7,a6,a2) le b.ent (qC b) q (cN.on r) (cP.mono fun _ _ z=>z.on r) (fun x a b7 bB bA bC=>ZA b a (no,b4,b2) (T,S,N) (b6,b5,sc) (a7,a6,a2) (aE,a1,a8) x w.heap.size b7 (cT.on bA) ((h.on r).on bA) bC cQ (Tx cJ) (Ob d7) (c7.ent a bB));have cF:=fun q (r:Below w.heap.size w q)=>ZG (aE,a1,a8) lo b.own (fun o=>Wr.fT o.p) q (cR.on r) (cS.mono fun _ _ z=>z.on r) (fun x a b7 bB bA bC=>ZC a x b7 bC (c7.own a bB));have b1:=A (show VY b=(gW mQ b.near && (gW gU b.seen && (gW cAd b.dQ && (gW zN b.ent && (gW cOw b.own && (b.dQ.all (DV b) && (b.ent.all (qC b) && b.own.all (fun o=>Wr.fT o.p)))))))) from rfl);generalize VY b=eJ at *;generalize gW mQ b.near=d8 at *;generalize gW gU b.seen=d9 at *;generalize gW cAd b.dQ=dA at *;generalize gW zN b.ent=dC at *;generalize gW cOw b.own=r5 at *;generalize b.dQ.all (DV b)=dE at *;generalize b.ent.all (qC b)=dS at *;generalize b.own.all (fun o=>Wr.fT o.p)=eI at *;have c9:=A c9;have cA:=A cA;have bX:=A bX;have c6:=A c6;have C5:=A C5;have cC:=A cC;have cD:=A cD;have cF:=A cF;have c8:=A d2;have d4:=A X;obtain⟨u,F,G,H,I,M⟩:=X.fA;clear d2 X h cQ c7 cL cM cN cP cR cS;go_enter Tryz.func24,Tryz.ntmps24;go_wp2_with fail;generalize w.alloc (cu #[V ah b.me,J no b4 b2,J T S N,J b6 b5 sc,J a7 a6 a2,J aE a1 a8] 30)=dT at *;refine (c9.o _ c8.o).mono ?_;rintro e6 dZ ⟨rfl,j⟩;have bE:=A (c8.o.trans (j.mono c8.o.size));have cX:=A (d4.o.on j);clear j u F G H I M;obtain⟨u,F,G,H,I,M⟩:=cX.o.fA;cases d8
 ·go_wp2_with fail;go_ret;exact⟨by rw [b1.o]; rfl,bE.o⟩
 ·go_wp2_with fail;refine (cA.o _ bE.o).mono ?_;rintro e7 b7 ⟨rfl,j⟩;have bI:=A (bE.o.trans (j.mono bE.o.size));have cY:=A (cX.o.on j);clear j u F G H I M;obtain⟨u,F,G,H,I,M⟩:=cY.o.fA;cases d9
  ·go_wp2_with fail;go_ret;exact⟨by rw [b1.o]; rfl,bI.o⟩
  ·go_wp2_with fail;refine (bX.o _ bI.o).mono ?_;rintro e8 e0 ⟨rfl,j⟩;have bM:=A (bI.o.trans (j.mono bI.o.size));have d0:=A (cY.o.on j);clear j u F G H I M;obtain⟨u,F,G,H,I,M⟩:=d0.o.fA;cases dA
   ·go_wp2_with fail;go_ret;exact⟨by rw [b1.o]; rfl,bM.o⟩
   ·go_wp2_with fail;refine (c6.o _ bM.o).mono ?_;rintro e9 e1 ⟨rfl,j⟩;have bO:=A (bM.o.trans (j.mono bM.o.size));have d1:=A (d0.o.on j);clear j u F G H I M;obtain⟨u,F,G,H,I,M⟩:=d1.o.fA;cases dC
    ·go_wp2_with fail;go_ret;exact⟨by rw [b1.o]; rfl,bO.o⟩
    ·go_wp2_with fail;refine (C5.o _ bO.o).mono ?_;rintro eA e2 ⟨rfl,j⟩;have bP:=A (bO.o.trans (j.mono bO.o.size));have cG:=A (d1.o.on j);clear j u F G H I M;obtain⟨u,F,G,H,I,M⟩:=cG.o.fA;cases r5
     ·go_wp2_with fail;go_ret;exact⟨by rw [b1.o]; rfl,bP.o⟩
     ·go_wp2_with fail;refine (cC.o (by trivial) (by trivial) _ bP.o cG.o).mono ?_;rintro eB e3 ⟨rfl,j⟩;have bT:=A (bP.o.trans (j.mono bP.o.size));have cH:=A (cG.o.on j);clear j u F G H I M;obtain⟨u,F,G,H,I,M⟩:=cH.o.fA;cases dE
      ·go_wp2_with fail;go_ret;exact⟨by rw [b1.o]; rfl,bT.o⟩
      ·go_wp2_with fail;refine (cD.o (by trivial) (by trivial) _ bT.o cH.o).mono ?_;rintro eC e4 ⟨rfl,j⟩;have bW:=A (bT.o.trans (j.mono bT.o.size));have d5:=A (cH.o.on j);clear j u F G H I M;obtain⟨u,F,G,H,I,M⟩:=d5.o.fA;cases dS
       ·go_wp2_with fail;go_ret;exact⟨by rw [b1.o]; rfl,bW.o⟩
       ·go_wp2_with fail;refine (cF.o _ bW.o).mono ?_;rintro eE e5 ⟨rfl,j⟩;have d3:=A (bW.o.trans (j.mono bW.o.size));clear j u F G H I M;go_wp2_with fail;go_ret;exact⟨by rw [b1.o]; rfl,d3.o⟩
theorem tQ {α:Type} {c:α->α->Int}:∀ {l:List α},(l.Pairwise fun x y=>c x y<0)->gW c l=aI
 | [],_=>rfl
 | [_],_=>rfl
 | x::y::l,h=>by
  have j:=aJ.1 h;unfold gW;rw [decide_eq_true (j.1 y (by simp)),dw];exact tQ j.2
theorem adO (x y z:Int) (j:mQ x y<0) (q:mQ y z<0):mQ x z<0:=by rw [rz] at *; omega
theorem xJ (a b:En):zN a b<0↔(eT a.tree b.tree=aI\/(a.tree=b.tree/\eT a.sub b.sub=aI)):=by
 unfold zN Ea;by_cases h:gU a.tree b.tree=0
 ·rw [if_pos h,vO];have e:=(wY _ _).1 h;constructor
  ·exact fun j=>aH ⟨e,j⟩
  ·rintro (j|⟨_,j⟩)
   ·rw [e,jN] at j; cases j
   ·exact j
 ·rw [if_neg h,vO];constructor
  ·exact aU
  ·rintro (j|⟨j,_⟩)
   ·exact j
   ·exact absurd ((wY _ _).2 j) h
theorem Lm (x y z:En) (j:zN x y<0) (q:zN y z<0):zN x z<0:=by
 rw [xJ] at *;rcases j with j|⟨r,j⟩ <;> rcases q with q|⟨u,q⟩
 ·exact aU (ji j q)
 ·exact aU (by rw [<- u]; exact j)
 ·exact aU (by rw [r]; exact q)
 ·exact aH ⟨r.trans u,ji j q⟩
structure iU (b:Br):Prop where
 near:b.near.Pairwise (·<·)
 seen:Fv b.seen
 dQ:tO b.dQ
 ent:b.ent.Pairwise fun x y=>zN x y<0
 own:kL Ow.id b.own
 oks:∀ a∈b.dQ,a.id∈b.seen/\jm b.near a.par=aI/\Wr.fT a.p=aI
 Q6:∀ e∈b.ent,qC b e=aI
 oko:∀ o∈b.own,Wr.fT o.p=aI
theorem zO (b:Br):VY b=aI↔iU b:=by
 unfold VY;simp only [bH,aM];constructor
 ·rintro⟨q,r,u,F,G,H,I,M⟩;refine⟨(nJ adO q).imp fun {a b} j=>(rz a b).1 j,Jz r,Ob u,nJ Lm F,(nJ (fun x y z=>Ll x.id y.id z.id) G).imp fun {a b} j=>qD.1 j,fun a N=>?_,I,M⟩;have:=H a N;unfold DV at this;simp only [bH,decide_eq_true_eq] at this;exact this
 ·rintro⟨q,r,u,F,G,H,I,M⟩;refine⟨tQ (q.imp fun {a b} j=>(rz a b).2 j),tQ (r.imp fun {a b} j=>qD.2 j),tQ (u.imp fun {a b} j=>qD.2 j),tQ F,tQ (G.imp fun {a b} j=>qD.2 j),fun a N=>?_,I,M⟩;unfold DV;simp only [bH,decide_eq_true_eq];exact H a N
theorem jZ {α:Type} (l:List α) (k:Nat) (x y:α):y∈gL l k x↔y=x\/y∈l:=by
 unfold gL;rw [aO,aO,dx]
 conv=>rhs; rw [<- bG k l,aO]
 constructor
 ·rintro ((h|h)|h)
  ·exact aH (aU h)
  ·exact aU h
  ·exact aH (aH h)
 ·rintro (h|h|h)
  ·exact aU (aH h)
  ·exact aU (aU h)
  ·exact aH h
theorem Oc {α:Type} (key:α->fB):∀ (l:List α) (x:fB),∀ y∈l.take (fG key l x),eT (key y) x=aI
 | [],_,y,h=>by simp at h
 | a::l,x,y,h=>by
  unfold fG at h;by_cases j:eT (key a) x=aI
  ·simp only [aL,j,if_true,bJ,List.take_succ_cons,aW] at h;rcases h with rfl|h
   ·exact j
   ·exact Oc key l x y h
  ·simp [j] at h
theorem zP {α:Type} {key:α->fB}:∀ {l:List α} (_:kL key l) (x:fB) (_:∀ y∈l,key y≠x),∀ y∈l.drop (fG key l x),eT x (key y)=aI
 | [],_,_,_,y,h=>by simp at h
 | a::l,G,x,u,y,h=>by
  unfold fG at h;have F:=aJ.1 G;by_cases q:eT (key a) x=aI
  ·simp only [aL,q,if_true,bJ,List.drop_succ_cons] at h;exact zP F.2 x (fun y H=>u y (bN _ H)) y h
  ·simp [q] at h;have r:eT x (key a)=aI:=by
    rcases rX (key a) x with j|j|j
    ·exact absurd j q
    ·exact absurd j (u a (by simp))
    ·exact j
   rcases h with rfl|h
   ·exact r
   ·exact ji r (F.1 y h)
theorem kY {α:Type} {key:α->fB} {l:List α} (q:kL key l) (x:α) (H:∀ y∈l,key y≠key x):kL key (gL l (fG key l (key x)) x):=by
 unfold gL;have F:kL key (l.take (fG key l (key x))):=q.sublist (List.take_sublist _ _);have G:kL key (l.drop (fG key l (key x))):=q.sublist (List.drop_sublist _ _);have lo:=Oc key l (key x);have u:=zP q (key x) H;unfold kL at *;rw [aP,List.pairwise_append];refine⟨F,?_,fun a r b j=>?_⟩
 ·rw [cK,aJ];exact⟨fun b j=>u b j,G⟩
 ·rw [cK,aW] at j;rcases j with rfl|j
  ·exact lo a r
  ·exact ji (lo a r) (u b j)
theorem oO {l:List Ad} {x:fB} {a:Ad} (h:gY l x=ak a):a∈l/\a.id=x:=by
 unfold gY at h;exact⟨List.mem_of_find?_eq_some h,by simpa using List.find?_some h⟩
theorem oP {l:List Ad} (u:tO l) {a:Ad} (q:a∈l):gY l a.id=ak a:=by
 obtain⟨k,j⟩:=aG.1 q;refine tN j rfl fun G z r F e=>?_;have:=kM u r F j;rw [e,jN] at this;cases this
theorem Od {l m:List Ad} (F:tO l) (G:tO m) {x:fB} (h:∀ a,a.id=x->(a∈l↔a∈m)):gY l x=gY m x:=by
 cases r:gY l x with
 | none =>
  cases u:gY m x with
  | none=>rfl
  | some a =>
   obtain⟨q,j⟩:=oO u;have:=oP F ((h a j).2 q);rw [j,r] at this;cases this
 | some a =>
  obtain⟨q,j⟩:=oO r;have:=oP G ((h a j).1 q);rw [j] at this;exact this.symm
theorem uS {b c:Br} {e:En} (q:c.near=b.near) (j:gY c.dQ e.tree=gY b.dQ e.tree) (h:qC b e=aI):qC c e=aI:=by
 unfold qC at *;rw [j,q];exact h
theorem Oe {b:Br} (h:iU b) (a:Ad) (N:jm b.near a.par=aI) (S:Wr.fT a.p=aI):iU (fZ b a).1:=by
 by_cases q:a.id∈b.seen
 ·rw [AZ q]; exact h
 ·rw [yR q];have G:∀ y∈b.dQ,y.id≠a.id:=fun y j e=>q (by rw [<- e]; exact (h.oks y j).1);have M:∀ y∈b.seen,y≠a.id:=fun y j e=>q (by rw [<- e]; exact j);have H:tO (gL b.dQ (gu (b.dQ.map Ad.id) a.id) a):=by
   rw [<- iN];exact kY h.dQ a G
  have a1:Fv (gL b.seen (gu b.seen a.id) a.id):=by
   have:=kY (key:=fun x:fB=>x) h.seen a.id M;rw [iN,List.map_id'] at this;exact this
  refine⟨h.near,a1,H,h.ent,h.own,fun y j=>?_,fun e u=>?_,h.oko⟩
  ·rcases (jZ _ _ _ _).1 j with rfl|j
   ·exact⟨(jZ _ _ _ _).2 (aU rfl),N,S⟩
   ·exact⟨(jZ _ _ _ _).2 (aH (h.oks y j).1),(h.oks y j).2⟩
  ·refine uS (b:=b) rfl (Od H h.dQ fun y j=>?_) (h.Q6 e u);rw [jZ];refine⟨fun T=>T.resolve_left fun I=>?_,aH⟩;have r:=h.Q6 e u;unfold qC at r;cases F:gY b.dQ e.tree with
   | none=>rw [F] at r; cases r
   | some z =>
    obtain⟨a2,a6⟩:=oO F;exact G z a2 (by rw [a6,<- j,I])
theorem VZ {b:Br} (h:iU b) (x:fB) (f:Int):iU (xG b x f).1:=by
 unfold xG;cases gY b.dQ x with
 | none=>exact h
 | some a =>
  simp only
  split
  ·have u:tO (b.dQ.filter fun e=>decide (e.id≠x)):=h.dQ.sublist dn;refine⟨h.near,h.seen,u,h.ent.sublist dn,h.own,fun y j=>h.oks y ((aK.1 j).1),fun e r=>?_,h.oko⟩;have F:e.tree≠x:=of_decide_eq_true (aK.1 r).2;refine uS (b:=b) rfl (Od u h.dQ fun y j=>?_) (h.Q6 e (aK.1 r).1);rw [aK];exact⟨fun q=>q.1,fun q=>⟨q,decide_eq_true (by rw [j]; exact F)⟩⟩
  ·exact h
end Av
namespace Sb
open Go.RowKit Go.Sort Rw YtghlpefopidlaaaGreat.Nm Pr Bk Av
abbrev kD (m:List En):Prop:=m.Pairwise fun x y=>zN x y<0
def jC (m:List En) (t:fB):Nat:=(m.takeWhile fun e=>eT e.tree t).length
def qb (m:List En) (t:fB):List En:=(m.drop (jC m t)).takeWhile fun e=>decide (e.tree=t)
def Bc (j:List En) (p:List C5):Bool:=j.any fun e=>e.up && o9 e.p p
def yS (j:List En):Bool:=j.all fun e=>e.up || Bc j e.p
def Lp (b:Br):Bool:=b.dQ.all fun a=>a.par == -1 || yS (qb b.ent a.id)
def nN (s:List En×List En) (k:Nat):List En×List En:=match s.1[k]? with
 | none=>s
 | some e=>if e.up=aI\/Bc s.1 e.p=aI then s else (s.1.set k (Ig e),s.2++[Ig e])
def iO (j:List En) (k:Nat):List En×List En:=(List.range k).foldl nN (j,[])
theorem pQ (j:List En) (k:Nat):iO j (k+1)=nN (iO j k) k:=by
 simp [iO,List.range_succ]
theorem zQ:∀ (l:List fB) (x:fB),fQ l x=jT l x
 | [],_=>rfl
 | a::l,x=>by rw [fQ,jT,zQ l x]
theorem tT (x y:En):kP (fE x) (fE y)=aI↔zN x y<0:=by
 rw [xJ];unfold kP;simp [rZ]
theorem Bd (x:fB×fB):kP x x=bL:=by simp [kP,jN]
def nK (m:List En) (t s:fB):Bool:=match m[eU (m.map fE) (t,s)]? with
 | none=>bL
 | some e=>decide (fE e=(t,s))
theorem tV:∀ (l:List (fB×fB)) (x:fB×fB) (j:Nat) (y:fB×fB),j<eU l x->l[j]?=ak y->kP y x=aI
 | [],_,_,_,_,h=>by simp at h
 | a::l,x,j,y,q,h=>by
  unfold eU at q;by_cases r:kP a x=aI
  ·rw [aL,if_pos r,bJ] at q;cases j with
   | zero=>rw [<- aj (show ak a=ak y from h)]; exact r
   | succ j=>exact tV l x j y (by unfold eU; omega) (by simpa using h)
  ·rw [aL,if_neg r] at q;simp at q
theorem Bf:∀ (l:List (fB×fB)) (x y:fB×fB),l[eU l x]?=ak y->kP y x=bL
 | [],_,_,h=>by simp [eU] at h
 | a::l,x,y,h=>by
  unfold eU at h;by_cases j:kP a x=aI
  ·rw [aL,if_pos j,bJ] at h;exact Bf l x y (by unfold eU; simpa using h)
  ·rw [aL,if_neg j] at h;rw [<- aj (show ak a=ak y from h)];simpa using j
theorem Fx {m:List En} (S:kD m) (t s:fB):jT (m.map fE) (t,s)=if nK m t s=aI then (eU (m.map fE) (t,s):Int) else -1:=by
 unfold nK;cases G:m[eU (m.map fE) (t,s)]? with
 | none =>
  rw [if_neg (by simp)];refine yM _ _ fun q y j e=>?_;have T:m.length<=eU (m.map fE) (t,s):=List.getElem?_eq_none_iff.1 G;have N:=(L.1 j).1;rw [List.length_map] at N;have h:=tV _ (t,s) q y (by omega) j;rw [e,Bd] at h;cases h
 | some e =>
  have H:(m.map fE)[eU (m.map fE) (t,s)]?=ak (fE e):=by rw [aY,G]; rfl
  by_cases F:fE e=(t,s)
  ·simp only [F,decide_true,if_true];rw [F] at H;refine ER _ _ _ H fun q z j r u=>?_;have h:=tV _ (t,s) q z j r;rw [u,Bd] at h;cases h
  ·rw [if_neg (by simpa using F)];refine yM _ _ fun q y j u=>?_;rcases Nat.lt_trichotomy q (eU (m.map fE) (t,s)) with h|h|h
   ·have h:=tV _ (t,s) q y h j;rw [u,Bd] at h;cases h
   ·subst h;rw [H] at j;exact F ((aj j).trans u)
   ·rw [aY] at j;cases r:m[q]? with
    | none=>rw [r] at j; cases j
    | some z =>
     rw [r] at j;have I:=List.pairwise_iff_getElem.1 S _ _ (L.1 G).1 (L.1 r).1 h;rw [(L.1 G).2,(L.1 r).2,<- tT] at I;have M:=Bf _ _ _ H;rw [show fE z=(t,s) from (aj j).trans u] at I;rw [I] at M;cases M
theorem Tz {x y:En} (h:zN x y<0):eT x.tree y.tree=aI\/x.tree=y.tree:=by
 rcases (xJ x y).1 h with j|j
 ·exact aU j
 ·exact aH j.1
theorem Fy {α:Type} (p:α->Bool):∀ l:List α,l.drop (l.takeWhile p).length=l.dropWhile p
 | []=>rfl
 | a::l=>by
  by_cases h:p a=aI
  ·simp [h,Fy p l]
  ·simp [h]
theorem Q7:∀ {m:List En} (t:fB) (_:kD m),∀ e∈m.dropWhile (fun e=>eT e.tree t),eT e.tree t=bL
 | [],_,_,e,h=>by simp at h
 | a::m,t,F,e,h=>by
  have u:=aJ.1 F;by_cases j:eT a.tree t=aI
  ·rw [bf,if_pos j] at h;exact Q7 t u.2 e h
  ·rw [bf,if_neg j] at h;rcases aW.1 h with rfl|h
   ·simpa using j
   ·cases r:eT e.tree t with
    | false=>rfl
    | true =>
     exfalso;rcases Tz (u.1 e h) with q|q
     ·exact j (ji q r)
     ·exact j (by rw [q]; exact r)
theorem ZH:∀ {m:List En} (t:fB) (_:kD m) (_:∀ e∈m,eT e.tree t=bL),∀ e∈m.dropWhile (fun e=>decide (e.tree=t)),eT t e.tree=aI
 | [],_,_,_,e,h=>by simp at h
 | a::m,t,H,u,e,h=>by
  have F:=aJ.1 H;by_cases q:a.tree=t
  ·rw [bf,if_pos (by simpa using q)] at h;exact ZH t F.2 (fun e G=>u e (bN _ G)) e h
  ·rw [bf,if_neg (by simpa using q)] at h;have r:eT t a.tree=aI:=by
    rcases rX a.tree t with j|j|j
    ·rw [u a (by simp)] at j; cases j
    ·exact absurd j q
    ·exact j
   rcases aW.1 h with rfl|h
   ·exact r
   ·rcases Tz (F.1 e h) with j|j
    ·exact ji r j
    ·rw [<- j]; exact r
theorem TD {x t:fB} (h:eT x t=aI):x≠t:=by rintro rfl; rw [jN] at h; cases h
theorem Og {m:List En} (r:kD m) (t:fB):∃ c,m=m.take (jC m t)++qb m t++c/\(m.take (jC m t)).length=jC m t/\(∀ e∈m.take (jC m t),e.tree≠t)/\(∀ e∈qb m t,e.tree=t)/\(∀ e∈c,e.tree≠t):=by
 have q:m.take (jC m t)=m.takeWhile fun e=>eT e.tree t:=by
  unfold jC
  conv=>lhs; arg 2; rw [<- bF (p:=fun e:En=>eT e.tree t) (l:=m)]
  rw [List.take_left]
 have u:m.drop (jC m t)=m.dropWhile fun e=>eT e.tree t:=Fy _ _;refine⟨(m.drop (jC m t)).dropWhile fun e=>decide (e.tree=t),?_,?_,?_,?_,?_⟩
 ·unfold qb;rw [aP,bF,bG]
 ·rw [q]; rfl
 ·rw [q];intro e j;exact TD (aM.1 dB e j)
 ·intro e j;unfold qb at j;exact of_decide_eq_true (aM.1 (dB (p:=fun e:En=>decide (e.tree=t))) e j)
 ·rw [u];intro e j;have F:kD (m.dropWhile fun e=>eT e.tree t):=r.sublist (List.dropWhile_sublist _);exact (TD (ZH t F (Q7 t r) e j)).symm
theorem Oh {α:Type} {p:α->Bool} {l:List α} (h:∀ e∈l,p e=bL):l.filter p=[]:=by
 rw [List.filter_eq_nil_iff];intro e j;rw [h e j];simp
theorem JA {m:List En} (G:kD m) (t:fB):qb m t=m.filter fun e=>decide (e.tree=t):=by
 obtain⟨c,q,_,r,u,F⟩:=Og G t;generalize qb m t=H at *;generalize m.take (jC m t)=a at *;subst q;rw [dD,dD,Oh (l:=a) fun e j=>by simpa using r e j,Oh (l:=c) fun e j=>by simpa using F e j,List.nil_append,List.append_nil];exact (List.filter_eq_self.2 fun e j=>by simpa using u e j).symm
theorem Q8 {m:List En} (j:kD m) (t:fB) (p:List C5):Bc (qb m t) p=fH m t p:=by
 rw [JA j,Bc,List.any_filter]
 rfl
theorem ZJ {m:List En} (j:kD m) (t:fB) (e:En):e∈qb m t↔e∈m/\e.tree=t:=by
 rw [JA j,aK,decide_eq_true_eq]
theorem adP {a j c:List En} {t:fB} (u:∀ e∈a,e.tree≠t) (r:∀ e∈j,e.tree=t) (F:∀ e∈c,e.tree≠t) (p:List C5):fH (a++j++c) t p=Bc j p:=by
 have none_:∀ l:List En,(∀ e∈l,e.tree≠t)->l.any (NW t p)=bL:=fun l G=>by
  rw [List.any_eq_false];intro e q;unfold NW;rw [decide_eq_false (G e q)];simp
 unfold fH Bc;rw [List.any_append,List.any_append,none_ a u,none_ c F,Bool.false_or,Bool.or_false]
 induction j with
 | nil=>rfl
 | cons x j H =>
  rw [List.any_cons,List.any_cons,H fun e q=>r e (bN _ q)]
  congr 1
  unfold NW;rw [decide_eq_true (r x (by simp)),dw]
theorem Fz (s:List En×List En) (k:Nat):(nN s k).1.map fE=s.1.map fE:=by
 unfold nN
 split
 ·rfl
 ·rename_i e j
  split
  ·rfl
  ·rw [List.map_set];refine List.ext_getElem? fun u=>?_;rw [dH]
   split
   ·rename_i q
    subst q
    split
    ·rw [aY,j]
     rfl
    ·rename_i r
     rw [List.getElem?_eq_none (by simpa using r)]
   ·rfl
theorem vT (j:List En):∀ k,(iO j k).1.map fE=j.map fE
 | 0=>rfl
 | k+1=>by rw [pQ,Fz,vT j k]
theorem yT (j:List En) (k:Nat):(iO j k).1.length=j.length:=by
 have h:=congrArg List.length (vT j k);simpa using h
theorem JB (j:List En):∀ k,(iO j k).2.length<=k
 | 0=>aQ _
 | k+1=>by
  have q:=JB j k;rw [pQ];unfold nN
  split
  ·omega
  ·split
   ·omega
   ·simp; omega
theorem V7 {j q:List En} {t:fB} (h:q.map fE=j.map fE) (G:∀ e∈j,e.tree=t):∀ e∈q,e.tree=t:=by
 intro e u;have r:fE e∈j.map fE:=by rw [<- h]; exact List.mem_map.2 ⟨e,u,rfl⟩
 obtain⟨z,H,F⟩:=List.mem_map.1 r;rw [<- show z.tree=e.tree from congrArg Prod.fst F];exact G z H
theorem Q9 {a r c:List En} {t:fB} (a1:∀ e∈a,e.tree≠t) (a8:∀ e∈r,e.tree=t) (a2:∀ e∈c,e.tree≠t):jk t (a++r++c) (a++r++c).length=(a++(iO r r.length).1++c,(iO r r.length).2):=by
 have s1:∀ k,k<=a.length->jk t (a++r++c) k=(a++r++c,[]):=by
  intro k
  induction k with
  | zero=>intro _; rfl
  | succ k I =>
   intro M;rw [lS,I (by omega)];unfold iQ;have H:(a++r++c)[k]?=ak a[k]:=by rw [aP,bU (by omega),aA (by omega)]
   rw [H];simp only;rw [if_neg fun h=>a1 _ (cB _) h.1]
 have s2:∀ j,j<=r.length->jk t (a++r++c) (a.length+j)=(a++(iO r j).1++c,(iO r j).2):=by
  intro j
  induction j with
  | zero=>intro _; rw [Nat.add_zero,s1 _ (aQ _)]; rfl
  | succ j I =>
   intro a7;have N:=yT r j;have M:=V7 (vT r j) a8;rw [<- Nat.add_assoc,lS,I (by omega),pQ];generalize iO r j=s at *;obtain⟨F,u⟩:=s;simp only at N M ⊢;unfold iQ nN;have H:(a++F++c)[a.length+j]?=F[j]?:=by rw [aP,bR (by omega),bg,bU (by omega)]
   simp only [H];rw [aA (show j<F.length by omega)];simp only;have aE:=M _ (cB (show j<F.length by omega));rw [adP a1 M a2];by_cases G:(F[j]'(by omega)).up=aI\/Bc F (F[j]'(by omega)).p=aI
   ·rw [if_pos G,if_neg];rintro⟨_,S,T⟩;rcases G with G|G
    ·rw [G] at S; cases S
    ·rw [G] at T; cases T
   ·rw [if_neg G,if_pos ⟨aE,by simpa using fun q=>G (aU q),by simpa using fun q=>G (aH q)⟩];have a6:(a++F++c).set (a.length+j) (Ig (F[j]'(by omega)))=a++F.set j (Ig (F[j]'(by omega)))++c:=by
     rw [aP,List.set_append_right _ _ (by omega),bg,List.set_append_left _ _ (by omega),aP]
    rw [a6]
 have s3:∀ j,j<=c.length->jk t (a++r++c) (a.length+r.length+j)=(a++(iO r r.length).1++c,(iO r r.length).2):=by
  intro j
  induction j with
  | zero=>intro _; rw [Nat.add_zero,s2 _ (aQ _)]
  | succ j I =>
   intro a7;have N:=yT r r.length;rw [<- Nat.add_assoc,lS,I (by omega)];unfold iQ;have H:(a++(iO r r.length).1++c)[a.length+r.length+j]?=ak (c[j]'(by omega)):=by
    rw [bR (by rw [aV,N]; omega),aV,N,bg,aA (by omega)]
   rw [H];simp only;rw [if_neg fun h=>a2 _ (cB _) h.1]
 have h:=s3 c.length (aQ _);rw [aV,aV];exact h
def iD (b:Br):Prop:=∀ a∈b.dQ,a.par≠-1->∀ e∈b.ent,e.tree=a.id->e.up=bL->fH b.ent a.id e.p=aI
theorem Wd {b:Br} (r:kD b.ent):Lp b=aI↔iD b:=by
 unfold Lp iD yS;simp only [aM,Bool.or_eq_true,beq_iff_eq];constructor
 ·intro h a u q e F H hu;have j:=(h a u).resolve_left q e ((ZJ r _ _).2 ⟨F,H⟩);rw [Q8 r] at j;exact j.resolve_left (by rw [hu]; simp)
 ·intro h a u;by_cases q:a.par=-1
  ·exact aU q
  ·refine aH fun e F=>?_;obtain⟨j,G⟩:=(ZJ r _ _).1 F;rw [Q8 r];cases hu:e.up with
   | true=>exact aU rfl
   | false=>exact aH (h a u q e j G hu)
theorem pE (m:List En) (t:fB) (p:List C5):fH m t p=aI↔∃ e∈m,e.tree=t/\e.up=aI/\o9 e.p p=aI:=by
 unfold fH;rw [List.any_eq_true];simp [NW]
theorem Oi {b:Br} (h:iU b) (a:Ad) (G:iD b):iD (fZ b a).1:=by
 by_cases j:a.id∈b.seen
 ·rw [AZ j]; exact G
 ·rw [yR j];intro y r I e u H hu;rcases (jZ _ _ _ _).1 r with rfl|r
  ·exfalso;have q:=h.Q6 e u;unfold qC at q;cases F:gY b.dQ e.tree with
   | none=>rw [F] at q; cases q
   | some z =>
    obtain⟨M,N⟩:=oO F;exact j (by rw [<- H,<- N]; exact (h.oks z M).1)
  ·exact G y r I e u H hu
theorem Lr {b:Br} (x:fB) (f:Int) (j:iD b):iD (xG b x f).1:=by
 unfold xG;cases gY b.dQ x with
 | none=>exact j
 | some a =>
  simp only
  split
  ·intro y S M e H N hu;have r:=aK.1 S;have I:=aK.1 H;obtain⟨z,u,q,F,G⟩:=(pE _ _ _).1 (j y r.1 M e I.1 N hu);refine (pE _ _ _).2 ⟨z,aK.2 ⟨u,?_⟩,q,F,G⟩;rw [q];exact r.2
  ·exact j
theorem Bg {b:Br} (h:iU b) (e:En) (j:iD b):iD (iL b e).1:=by
 unfold iL
 split
 ·exact j
 ·rename_i a u
  split
  ·exact j
  ·rename_i T
   split
   ·exact j
   ·split
    ·exact j
    ·have a2:a.id=e.tree:=by
      rcases pI (b.dQ.map Ad.id) e.tree with q|⟨k,q,N⟩
      ·exact absurd (zQ _ _ ▸ q) T
      ·rw [zQ,q,Int.toNat_natCast] at u;rw [aY,u] at N;exact aj N
     have a1:a∈b.dQ:=aC u;intro y M r z G F hu;have more:∀ p,fH b.ent y.id p=aI->fH (gL b.ent (eU (b.ent.map fE) (fE e)) { e with up:=decide (a.par≠-1) && !fH b.ent e.tree e.p }) y.id p=aI:=fun p r=>by
      obtain⟨q,a7,a8⟩:=(pE _ _ _).1 r;exact (pE _ _ _).2 ⟨q,(jZ _ _ _ _).2 (aH a7),a8⟩
     rcases (jZ _ _ _ _).1 G with rfl|G
     ·have a6:y=a:=by
       have S:=oP h.dQ a1;have H:=oP h.dQ M;rw [show y.id=a.id from F.symm.trans a2.symm,S] at H;exact (aj H).symm
      have I:(decide (a.par≠-1) && !fH b.ent e.tree e.p)=bL:=hu;rw [<- a6,decide_eq_true r,dw] at I;refine more _ ?_;rw [<- show e.tree=y.id from F];simpa using I
     ·exact more _ (j y M r z G F hu)
theorem FJ {α:Type} {l:List α} {k:Nat} {x y:α} (j:l[k]?=ak x) (q:y∈l):y=x\/y∈cutAt l k:=by
 have r:=(L.1 j).1;have e:l=l.take k++x::l.drop (k+1):=by
  conv=>lhs; rw [<- bG k l]
  rw [List.drop_eq_getElem_cons r,(L.1 j).2]
 rw [e] at q;unfold cutAt;rcases aO.1 q with h|h
 ·exact aH (List.mem_append_left _ h)
 ·rcases aW.1 h with h|h
  ·exact aU h
  ·exact aH (List.mem_append_right _ h)
theorem TF {α:Type} {l:List α} {k:Nat} {y:α} (h:y∈cutAt l k):y∈l:=by
 unfold cutAt at h;rcases aO.1 h with h|h
 ·exact cZ h
 ·exact dh h
theorem adQ {α:Type} {l:List α} {k:Nat} {x y z:α} (u:l[k]?=ak x) (F:z∈l):z=x\/z∈l.set k y:=by
 obtain⟨r,j⟩:=aG.1 F;by_cases q:k=r
 ·subst q;rw [u] at j;exact aU (aj j).symm
 ·right;refine aG.2 ⟨r,?_⟩;rw [List.getElem?_set_ne q];exact j
theorem Oj {t:fB} {s:List En×List En} {k:Nat} (q:fB) (p:List C5) (h:fH s.1 q p=aI):fH (iQ t s k).1 q p=aI:=by
 unfold iQ
 split
 ·exact h
 ·rename_i e H
  split
  ·obtain⟨z,r,u,j,F⟩:=(pE _ _ _).1 h;rcases adQ (y:=Ig e) H r with rfl|G
   ·rename_i I
    rw [I.2.1] at j;cases j
   ·exact (pE _ _ _).2 ⟨z,G,u,j,F⟩
  ·exact h
theorem JC (t:fB) (m:List En):∀ k,k<=m.length->(∀ q,q<k->∀ e,(jk t m k).1[q]?=ak e->e.tree=t->e.up=bL->fH (jk t m k).1 t e.p=aI)/\(∀ u p,fH m u p=aI->fH (jk t m k).1 u p=aI)/\(∀ e,e∈(jk t m k).1->e.tree≠t->e∈m)
 | 0,_=>⟨fun q a1=>absurd a1 (Nat.not_lt_zero _),fun _ _ h=>h,fun _ h _=>h⟩
 | k+1,a8=>by
  obtain⟨T,a2,H⟩:=JC t m k (by omega);rw [lS];refine⟨fun q a1 e j N hu=>?_,fun u p h=>Oj u p (a2 u p h),fun e j r=>?_⟩
  ·have aE:=(qP t m k).1;generalize jk t m k=s at *;obtain⟨z,F⟩:∃ z,s.1[k]?=ak z:=⟨_,aA (by omega)⟩;by_cases M:z.tree=t/\z.up=bL/\fH s.1 t z.p=bL
   ·have G:iQ t s k=(s.1.set k (Ig z),s.2++[Ig z]):=by unfold iQ; rw [F]; simp only; rw [if_pos M]
    have mono:=Oj (t:=t) (s:=s) (k:=k) t;rw [G] at j mono ⊢;rw [dH] at j
    split at j
    ·split at j
     ·rw [<- aj j] at hu;cases hu
     ·cases j
    ·exact mono _ (T q (by omega) e j N hu)
   ·have G:iQ t s k=s:=by unfold iQ; rw [F]; simp only; rw [if_neg M]
    rw [G] at j ⊢;rcases bD q k with S|S
    ·exact T q S e j N hu
    ·obtain rfl:q=k:=by omega
     rw [F] at j;obtain rfl:=aj j;cases a7:fH s.1 t z.p with
     | true=>rfl
     | false=>exact absurd ⟨N,hu,a7⟩ M
  ·unfold iQ at j
   split at j
   ·exact H e j r
   ·rename_i z F
    split at j
    ·rename_i a6
     rcases bV j with I|I
     ·exact H e I r
     ·rw [I] at r;exact absurd a6.1 r
    ·exact H e j r
theorem yU {b:Br} (t x:fB) (f:Int) (F:iD b):iD (takeB b t x f).1:=by
 unfold takeB
 split
 ·exact F
 ·rename_i a8 H
  split
  ·exact F
  ·rename_i b4
   split
   ·exact F
   ·have b5:a8.tree=t:=by
     rcases pI (b.ent.map fE) (t,x) with q|⟨k,q,r⟩
     ·exact absurd q b4
     ·rw [q,Int.toNat_natCast] at H;rw [aY,H] at r;exact congrArg Prod.fst (aj r)
    generalize (jT (b.ent.map fE) (t,x)).toNat=k at *
    split
    ·rename_i b6
     intro y S N z I u hu;obtain⟨q,a1,M,G,a2⟩:=(pE _ _ _).1 (F y S N z (TF I) u hu);refine (pE _ _ _).2 ⟨q,(FJ H a1).resolve_left ?_,M,G,a2⟩;rintro rfl;rw [b6] at G;cases G
    ·intro y S N z I u hu;obtain⟨aE,b1,b2⟩:=JC t (cutAt b.ent k) (cutAt b.ent k).length (aQ _);by_cases T:y.id=t
     ·obtain⟨j,a6⟩:=aG.1 I;have a7:=(L.1 a6).1;rw [(qP t (cutAt b.ent k) _).1] at a7;rw [T] at u ⊢;exact aE j a7 z a6 u hu
     ·have b7:z.tree≠t:=by rw [u]; exact T
      obtain⟨q,a1,M,G,a2⟩:=(pE _ _ _).1 (F y S N z (TF (b2 z I b7)) u hu);refine b1 _ _ ((pE _ _ _).2 ⟨q,(FJ H a1).resolve_left ?_,M,G,a2⟩);rintro rfl;exact T (M.symm.trans b5)
theorem Wh (x:iY) (t s:fB) (I:Bool) (H:kP (jR x) (t,s)=I) (w:aT):bQ au 137 #[qd x,nP t,nP s] w fun e w'=>e=ay (aX I)/\Below w.heap.size w w':=by
 obtain⟨j,q,u,F,⟨b7,b6,b5⟩,b2,b4⟩:=x;obtain⟨c,d⟩:=t;obtain⟨g,h⟩:=s;obtain⟨S,X,Y,Z⟩:=gT w #[V ah j,V ah q,V ah u,V ah F,J b7 b6 b5,V ah b2,aX b4] #[V ah c,V ah d] #[V ah g,V ah h] 67 23 23;have a8:=X.cell 1;have a7:=X.cell 0;have aE:=X.cell 2;have b1:=X.cell 3;obtain⟨c0,c1⟩:=Y.cs2;obtain⟨b8,b9⟩:=Z.cs2;simp only [aN,aR,aS] at a7 a8 aE b1;have T:=wZ (j,q) (c,d);have a1:=wZ (u,F) (g,h);have B:=A S;have G:kP ((j,q),(u,F)) ((c,d),(g,h))=if ((j,q):fB)=(c,d) then eT (u,F) (g,h) else eT (j,q) (c,d):=by
  unfold kP;by_cases r:((j,q):fB)=(c,d)
  ·rw [if_pos r,r,jN,(rZ _ _).2 rfl]; rfl
  ·rw [if_neg r,Bool.eq_false_iff.2 fun a6=>r ((rZ _ _).1 a6)]; simp
 clear S X Y Z;by_cases r:((j,q):fB)=(c,d)
 ·have N:=A (show eT (u,F) (g,h)=I by rw [<- H]; show _=kP ((j,q),(u,F)) ((c,d),(g,h)); rw [G,if_pos r]);obtain⟨rfl,rfl⟩:j=c/\q=d:=by simpa using r
  have a2:=KU j q j q bL (by simp);clear G H r;go_enter Tryz.func137,Tryz.ntmps137;go_wp2_with fail;refine (a1 _).mono ?_;rintro e w1 ⟨rfl,M⟩;go_wp2;go_ret;exact⟨congrArg (fun b=>ay (aX b)) N.o,B.o.trans (M.mono B.o.size)⟩
 ·have N:=A (show eT (j,q) (c,d)=I by rw [<- H]; show _=kP ((j,q),(u,F)) ((c,d),(g,h)); rw [G,if_neg r]);have a2:=KU j q c d aI (by rw [show (j == c && q == d)=bL from Bool.eq_false_iff.2 fun h=>r (by simp at h; rw [h.1,h.2])]; rfl);clear G H r;go_enter Tryz.func137,Tryz.ntmps137;go_wp2_with fail;refine (T _).mono ?_;rintro e w1 ⟨rfl,M⟩;go_wp2;go_ret;exact⟨congrArg (fun b=>ay (aX b)) N.o,B.o.trans (M.mono B.o.size)⟩
theorem yV (g:Nat) (cb:Array bS) (b2:∀ args w,(callFunc g args).run au w=.ok (.enter g args) w) (n k:Nat) (p:Nat->Bool) (w:aT) (b6:n<=1000000)
  (H:∀ i,i<n->∀ W,Below w.heap.size w W->bQ au g (#[V ah i]++cb) W fun e w'=>e=ay (aX (p i))/\Below W.heap.size W w')
  (a6:k<=n) (M:∀ i,i<k->p i=bL) (I:∀ i,k<=i->i<n->p i=aI) :
  bQ au 110 #[V ah n,.func (.func g) #[] cb] w fun e w'=>e=ay (V ah k)/\Below w.heap.size w w':=by
 have N:=A H;have a1:=A M;have S:=A I;clear H M I;go_enter Tryz.func110,Tryz.ntmps110;go_wp2
 go_loopg [5,6] n (fun aE s5 b1 wr=>∃ lo j:Nat,s5=V ah lo/\b1=V ah j/\lo<=k/\k<=j/\j<=n/\j-lo<=aE/\Below w.heap.size w wr)
 case atStart=>exact⟨0,n,rfl,rfl,cO _,a6,aQ _,by omega,O _ _⟩
 case round =>
  obtain⟨lo,j,rfl,rfl,a8,a7,a2,b4,G⟩:=hrel;have B:=A G;clear G;by_cases b5:lo<j
  ·have r:=N.o ((lo+j) / 2) (by omega) wr B.o;rw [show (((lo+j) / 2:Nat):Int)=((lo:Int)+(j:Int)) / 2 by omega] at r;cases q:p ((lo+j) / 2) <;> rw [q] at r
   ·have T:=A q;have u:=A (show (lo+j) / 2+1<=k from by
     rcases bD ((lo+j) / 2) k with h|h
     ·exact h
     ·have:=S.o _ h (by omega); rw [q] at this; cases this)
    clear q;go_wp2_with (go_at_fn g; refine r.mono ?_; rintro e w' ⟨rfl,F⟩)
    go_roundg (j-((lo+j) / 2+1))
    case measure=>omega
    case rel=>exact⟨(lo+j) / 2+1,j,by rw [show ((lo:Int)+(j:Int)) / 2+1=(((lo+j) / 2+1:Nat):Int) by omega],rfl,u.o,a7,a2,aQ _,B.o.trans (F.mono B.o.size)⟩
   ·have T:=A q;have u:=A (show k<=(lo+j) / 2 from by
     rcases bD ((lo+j) / 2) k with h|h
     ·have:=a1.o _ h; rw [q] at this; cases this
     ·exact h)
    clear q;go_wp2_with (go_at_fn g; refine r.mono ?_; rintro e w' ⟨rfl,F⟩)
    go_roundg ((lo+j) / 2-lo)
    case measure=>omega
    case rel=>exact⟨lo,(lo+j) / 2,rfl,by rw [show ((lo:Int)+(j:Int)) / 2=(((lo+j) / 2:Nat):Int) by omega],a8,u.o,by omega,aQ _,B.o.trans (F.mono B.o.size)⟩
  ·obtain rfl:j=lo:=by omega
   obtain rfl:j=k:=by omega
   go_wp2;go_ret;exact⟨rfl,B.o⟩
theorem FN {W j:aT} {v:bS} {l:List iY} {q:OA} {n c k:Nat} {x:iY} (h:mF W v l) (M:v=J q n c) (I:l.length=n) (H:l[k]?=ak x) (G:Below W.heap.size W j) :
  ∃ p:Addr,(∀ w,(Instr.indexAt 27 (J q n c) (V ah k)).run au w=.ok (U (ak p)) w) /\
   (∀ d os,(grow (bK j d) os).cell? p=ak (V ah x.1))/\(∀ d os,(grow (bK j d) os).cell? ⟨p.block,p.off+1,aF⟩=ak (V ah x.2.1)) /\
   (∀ d os,(grow (bK j d) os).cell? ⟨p.block,p.off+2,aF⟩=ak (V ah x.2.2.1))/\(∀ d os,(grow (bK j d) os).cell? ⟨p.block,p.off+3,aF⟩=ak (V ah x.2.2.2.1)) /\
   (∀ d os,(grow (bK j d) os).cell? ⟨p.block,p.off+4,aF⟩=ak (eu x.2.2.2.2.1))/\(∀ d os,(grow (bK j d) os).cell? ⟨p.block,p.off+5,aF⟩=ak (V ah x.2.2.2.2.2.1)) /\
   (∀ d os,(grow (bK j d) os).cell? ⟨p.block,p.off+6,aF⟩=ak (aX x.2.2.2.2.2.2)):=by
 obtain⟨p,u,F⟩:=Qj h M I H;obtain⟨c0,c1,c2,c3,c4,c5,r⟩:=F _ G;exact⟨p,u,aB c0,aB c1,aB c2,aB c3,aB c4,aB c5,aB r⟩
theorem adR (args:Array bS) (w:aT):(callFunc 136 args).run au w=.ok (.enter 136 args) w:=gB Tryz.func136 rfl rfl args w
theorem adS (args:Array bS) (w:aT):(callFunc 132 args).run au w=.ok (.enter 132 args) w:=gB Tryz.func132 rfl rfl args w
theorem adT (i:Nat) (M N b3:Nat) (I:OA) (n H:Nat) (l:List iY) (t s:fB) (y:iY) (r:Bool) (w:aT) (a2:mF w (J I n H) l) (a1:l.length=n) (a6:l[i]?=ak y) (G:(!kP (jR y) (t,s))=r)
  (T:dN w M #[J I n H] 27) (j:dN w N #[V ah t.1,V ah t.2] 23) (u:dN w b3 #[V ah s.1,V ah s.2] 23) :
  bQ au 136 #[V ah i,U (ak ⟨M,0,aF⟩),U (ak ⟨N,0,aF⟩),U (ak ⟨b3,0,aF⟩)] w fun e w'=>e=ay (aX r)/\Below w.heap.size w w':=by
 obtain⟨p,bA,b1,b2,b4,b5,b6,b7,b8⟩:=FN a2 rfl a1 a6 (O _ _);have a0:=aB (T.cell 0);have b0:=aB (j.cell 0);have aE:=aB (j.cell 1);have c0:=aB (u.cell 0);have c1:=aB (u.cell 1);obtain⟨q,F⟩:∃ q,kP (jR y) (t,s)=q:=⟨_,rfl⟩;have C:∀ k os,bQ au 137 #[qd y,nP t,nP s] (grow (bK w k) os) fun e b9=>e=ay (aX q)/\∃ p:Regrown,b9=grow (bK w p.d) p.os:=fun k os=>Calls.regrown_of (Wh y t s q F _);rw [F] at G;have R:=A G;have a8:=A (fun S a7=>below_regrown w S a7);obtain⟨bB,bC,bE,bI,⟨bW,bT,bP⟩,bM,bO⟩:=y;obtain⟨c,d⟩:=t;obtain⟨g,h⟩:=s;simp only at b1 b2 b4 b5 b6 b7 b8 b0 aE c0 c1 C;clear a2 a1 a6 G F T j u;go_enter Tryz.func136,Tryz.ntmps136;go_wp2;refine ko ?_
 repeat (go_big_quiet_step (first | (with_reducible exact C _ _) | exact aiR _ _))
 refine kr fun S a7=>?_;go_wp2;go_ret;exact⟨congrArg (fun b=>ay (aX b)) R.o,a8.o _ _⟩
theorem adU (i:Nat) (G H:Nat) (F:OA) (n u:Nat) (l:List iY) (t:fB) (y:iY) (r:Bool) (w:aT) (T:mF w (J F n u) l) (N:l.length=n) (a1:l[i]?=ak y) (S:(!eT (y.1,y.2.1) t)=r)
  (M:dN w G #[J F n u] 27) (j:dN w H #[V ah t.1,V ah t.2] 23) :
  bQ au 132 #[V ah i,U (ak ⟨G,0,aF⟩),U (ak ⟨H,0,aF⟩)] w fun e w'=>e=ay (aX r)/\Below w.heap.size w w':=by
 obtain⟨p,b8,b5,b6,a6,a7,a8,aE,b1⟩:=FN T rfl N a1 (O _ _);have a0:=aB (M.cell 0);have b0:=aB (j.cell 0);have b4:=aB (j.cell 1);have C:∀ k os,bQ au 31 #[nP (y.1,y.2.1),nP t] (grow (bK w k) os) fun e b7=>e=ay (aX (eT (y.1,y.2.1) t))/\∃ p:Regrown,b7=grow (bK w p.d) p.os:=fun k os=>Calls.regrown_of (wZ (y.1,y.2.1) t _);generalize eT (y.1,y.2.1) t=q at *;have R:=A S;have b2:=A (fun I a2=>below_regrown w I a2);obtain⟨b9,bA,bB,bC,⟨bP,bO,bM⟩,bE,bI⟩:=y;obtain⟨c,d⟩:=t;simp only at b5 b6 a6 a7 a8 aE b1 b0 b4 C;clear T N a1 S M j a6 a7 a8 aE b1;go_enter Tryz.func132,Tryz.ntmps132;go_wp2;refine ko ?_
 repeat (go_big_quiet_step (first | (with_reducible exact C _ _) | exact Wj _ _))
 refine kr fun I a2=>?_;go_wp2;go_ret;exact⟨congrArg (fun b=>ay (aX b)) R.o,b2.o _ _⟩
end Sb
namespace Bk
open Go.RowKit Go.Sort Rw YtghlpefopidlaaaGreat.Nm Pr
theorem JD (l:List Id) (x:Id) (h:x∈l):∃ k:Nat,fQ l x=k/\l[k]?=ak x:=by
 induction l with
 | nil=>simp at h
 | cons a F u =>
  by_cases e:a=x
  ·subst e;exact⟨0,by simp [fQ],rfl⟩
  ·have r:x∈F:=by
    rcases aW.1 h with j|j
    ·exact absurd j.symm e
    ·exact j
   obtain⟨k,j,q⟩:=u r;refine⟨k+1,?_,by simpa using q⟩;rw [fQ,if_neg e,j,if_neg (by omega)];omega
theorem Bh {t:Id} {m:List En} (R:En->Prop) (F:∀ e,e.tree=t->R e->R (Ig e)) (h:∀ e∈m,R e):∀ k,(∀ e∈(jk t m k).1,R e)/\∀ e∈(jk t m k).2,R e
 | 0=>⟨h,fun e r=>by simp [jk] at r⟩
 | k+1=>by
  have q:=Bh (t:=t) R F h k;rw [lS];unfold iQ
  split
  ·exact q
  ·rename_i e r
   split
   ·rename_i G
    have hu:=F e G.1 (q.1 e (aC r));refine⟨fun x u=>?_,fun x u=>?_⟩
    ·rcases bV u with j|j
     ·exact q.1 x j
     ·rw [j];exact hu
    ·rcases aO.1 u with j|j
     ·exact q.2 x j
     ·rw [dx.1 j];exact hu
   ·exact q
theorem qE {α:Type} {l:List α} {k:Nat} {x:α} (h:x∈cutAt l k):x∈l:=by
 rcases aO.1 h with h|h
 ·exact cZ h
 ·exact dh h
def uV (B:Nat) (j:bS) (f c d:Int) (l:List Int) (i:Nat) (v:bS) (x:aT):Prop :=
 match i with
 | 0=>v=j
 | 1=>v=j
 | 2=>v=V ah f
 | 3=>v=nP (c,d)
 | 4=>v=.agg #[V ah 2,V ah c,V ah d,V ah 0,V ah 0,J aF 0 0,J aF 0 0]
 | 5=>∃ sl:Sl,v=eu sl/\kF x B v (nU l f fun n=>(n,2,c,d,0,0,(aF,0,0),(aF,0,0)))
 | _=>True
noncomputable def TJ:Code:=((Tryz.f120.body.bind (eX 4)).getD .skip)
theorem ZK (Q:Exit->Act->aT->Prop) (W:aT) (b3 b2 H:Nat) (me f c d:Int) (F T a1 a2 a6:OA) (r c1 I c2 M c3 N c4 S c5:Nat) (l:List Int) (z0 d7 d8 z3 z4 z5:bS) {cP u2 d4 u7 d5 u9 cQ u11 cR u13 cS cT cU cV cW cX cY d0 d1 d2 d3:bS}
  (a8:dN W b3 #[V ah me,J F r c1,J T I c2,J a1 M c3,J a2 N c4,J a6 S c5] 30) (bE:dN W b2 #[V ah c,V ah d] 23) (bI:dN W H #[z0,d7,d8,z3,z4,z5] 30) (bO:sW W (J F r c1) l) (bP:l.length<=900)
  (bM:∀ (a:Act) (x:aT) (sl:Sl),a.defers=[]->a.tmps[6]?=ak (U (ak ⟨H,0,aF⟩))->a.tmps[7]?=ak (eu sl)->dN x H #[V ah me,J F r c1,J T I c2,J a1 M c3,J a2 N c4,J a6 S c5] 30->kF x W.heap.size (eu sl) (nU l f fun n=>(n,2,c,d,0,0,(aF,0,0),(aF,0,0)))->(∀ k,k<W.heap.size->k≠H->x.heap[k]?=W.heap[k]?)->(∀ B,B<=H->Below B W x)->Q .normal a x) :
  Code.wp au TJ Q ⟨(cP::V ah f::u2::U (ak ⟨b3,0,aF⟩)::d4::U (ak ⟨b2,0,aF⟩)::U (ak ⟨H,0,aF⟩)::u7::d5::u9::cQ::u11::cR::u13::cS::cT::cU::cV::cW::cX::cY::d0::d1::d2::d3::[]).toArray,[]⟩ W:=by
 have bB:=A bM;have b8:=A a8;have c6:=A bE;have b9:=A bI;have c7:=A bO;have c8:=A bP;clear bM a8 bE bI bO bP;have cM:∀ (j:Nat) (u:bS) (x b7:aT),j<6->uV W.heap.size (.agg #[V ah me,J F r c1,J T I c2,J a1 M c3,J a2 N c4,J a6 S c5]) f c d l j u x->Below x.heap.size x b7->uV W.heap.size (.agg #[V ah me,J F r c1,J T I c2,J a1 M c3,J a2 N c4,J a6 S c5]) f c d l j u b7:=by
  intro i u x b7 b6 h q;rcases (by omega:i=0\/i=1\/i=2\/i=3\/i=4\/i=5) with rfl|rfl|rfl|rfl|rfl|rfl
  ·exact h
  ·exact h
  ·exact h
  ·exact h
  ·exact h
  ·obtain⟨sl,aE,b5⟩:=h;exact⟨sl,aE,dK b5 q⟩
 unfold TJ
 conv=>arg 2; whnf
 have nd:∀ j,(j<19\/25<=j)->∀ i,i<6->(fun i=>19+i) i≠j:=by
  intro j cJ i b6 h;simp only at h;omega
 refine Rg.gN 8 6 (fun i=>19+i) (fun _=>6) (uV W.heap.size (.agg #[V ah me,J F r c1,J T I c2,J a1 M c3,J a2 N c4,J a6 S c5]) f c d l) (by kernel_rfl) (by kernel_rfl) rfl (by decide) (fun i j _ _ h=>by have b5:19+i=19+j:=h; omega) (fun i b6=>by show 19+i<25; omega) ?_ (fun _=>Rg.kJ 3 (by kernel_rfl)) ?_ ?_
 ·intro i o b6 G a x D dC dA d9 q seen K a7;clear bB;rcases (by omega:i=0\/i=1\/i=2\/i=3\/i=4\/i=5) with rfl|rfl|rfl|rfl|rfl|rfl
  ·cases G;have b4:a.eval (aD 3)=U (ak ⟨b3,0,aF⟩):=seen.kp 3 _ (nd 3 (by omega)) rfl;exact aZ rfl rfl (Rg.dW a.eval _ 30 (aD 3) rfl (by rw [b4]; exact sN (b8.o.on q))) (a7 _ _ rfl (O _ _) fun _ _ _ _ _ _ _ h=>h)
  ·cases G;have b4:a.eval (aD 3)=U (ak ⟨b3,0,aF⟩):=seen.kp 3 _ (nd 3 (by omega)) rfl;exact aZ rfl rfl (Rg.dW a.eval _ 30 (aD 3) rfl (by rw [b4]; exact sN (b8.o.on q))) (a7 _ _ rfl (O _ _) fun _ _ _ _ _ _ _ h=>h)
  ·cases G;have c9:a.eval (aD 1)=V ah f:=seen.kp 1 _ (nd 1 (by omega)) rfl;exact aZ rfl rfl (Rg.gF a.eval _ (aD 1) rfl x) (a7 _ _ c9 (O _ _) fun _ _ _ _ _ _ _ h=>h)
  ·cases G;have cG:a.eval (aD 5)=U (ak ⟨b2,0,aF⟩):=seen.kp 5 _ (nd 5 (by omega)) rfl;exact aZ rfl rfl (Rg.dW a.eval _ 23 (aD 5) rfl (by rw [cG]; exact IY x _ (c,d) (Te (c6.o.on q)))) (a7 _ _ rfl (O _ _) fun _ _ _ _ _ _ _ h=>h)
  ·cases G;have cD:a.eval (aD 22)=nP (c,d):=seen.at_ ⟨3,.data⟩ (by simp) rfl (aH (by decide));exact aZ rfl rfl (Rg.jd a.eval _ 43 #[(0,.const (V ah 2)),(1,aD 22)] rfl (ps:=#[(0,V ah 2),(1,nP (c,d))]) (by simp only [List.map_toArray,List.map_cons,List.map_nil,cD]; rfl) (by simp [go_sem])) (a7 _ _ rfl (O _ _) fun _ _ _ _ _ _ _ h=>h)
  ·cases G;have cA:a.eval (aD 20)=.agg #[V ah me,J F r c1,J T I c2,J a1 M c3,J a2 N c4,J a6 S c5]:=seen.at_ ⟨1,.data⟩ (by simp) rfl (aH (by decide));have cC:a.eval (aD 21)=V ah f:=seen.at_ ⟨2,.data⟩ (by simp) rfl (aH (by decide));have cF:a.eval (aD 23)=.agg #[V ah 2,V ah c,V ah d,V ah 0,V ah 0,J aF 0 0,J aF 0 0]:=seen.at_ ⟨4,.data⟩ (by simp) rfl (aH (by decide));exact Rg.gK rfl rfl (xB a.eval _ (aD 20) (aD 21) (aD 23) 30 3 43 119 rfl cA cC cF rfl _ (gB Tryz.func119 rfl rfl _ _)) (EM me f 2 c d 0 0 (F,r,c1) _ _ _ _ (aF,0,0) (aF,0,0) l x (c7.o.on q) c8.o) fun e w1 h=>by
    obtain⟨⟨v,rfl,aE⟩,a8⟩:=h;exact⟨_,rfl,a7 _ _ ⟨v,rfl,dO aE q.size⟩ (a8.mono q.size) fun j u cJ _ _ _ bT h=>cM j u _ _ (by omega) h a8⟩
 ·intro cN o aE b5 G;obtain rfl:cN=7:=by omega
  cases G;exact⟨⟨6,.chain⟩,by simp,rfl,rfl⟩
 ·intro a w' df sz kp ⟨d6,b1⟩ q;have cH:a.tmps[19]?=ak (.agg #[V ah me,J F r c1,J T I c2,J a1 M c3,J a2 N c4,J a6 S c5]):=by
   have h:d6 0=.agg #[V ah me,J F r c1,J T I c2,J a1 M c3,J a2 N c4,J a6 S c5]:=(b1 0 (by omega)).2 (by decide);rw [<- h];exact (b1 0 (by omega)).1
  obtain⟨sl,bW,G⟩:=(b1 5 (by omega)).2 (by decide);have cI:a.tmps[24]?=ak (eu sl):=by
   rw [<- bW];exact (b1 5 (by omega)).1
  rw [bW] at G;have bC:a.tmps[6]?=ak (U (ak ⟨H,0,aF⟩)):=(kp 6 (nd 6 (by omega))).trans rfl;have dE:a.tmps.size=25:=sz;have bA:=b9.o.on q;have bX:=b9.o.lt;show Rg.fU _ _ _ 2 6 a w';simp only [Rg.fU];refine Rg.gq 30 (aD 6) (aD 19) rfl rfl rfl rfl (Rg.dU bC) (Rg.dU cH) (w':=gH w' H (V ah me) (J F r c1) (J T I c2) (J a1 M c3) (J a2 N c4) (J a6 S c5)) (o7 bA me _ _ _ _ _ _ _ _ _ _ _ _ _ _ _) ?_;refine aZ rfl rfl (Rg.kG a.eval _ (aD 24) rfl _) ?_;rw [Rg.dU cI];refine bB.o _ _ sl df ((Rg.get_put a 7 (eu sl) 6 (by decide)).trans bC) ?_ (dM bA _ _ _ _ _ _) (fJ G H bX _ _ _ _ _ _) ?_ ?_
  ·have:7<a.tmps.size:=by omega
   show (a.put (ak 7) (eu sl)).tmps[7]?=_;simp [Act.put,this]
  ·intro k cL bT;exact (dP w' H (V ah me) (J F r c1) (J T I c2) (J a1 M c3) (J a2 N c4) (J a6 S c5) k bT).trans (q.block k cL)
  ·exact fun B hB=>dJ (q.mono (Nat.le_of_lt (dG hB bX))) hB _ _ _ _ _ _
def Ls (B j _:Nat) (r:OA) (q sc at_:Nat) (lo u:bS) (z:mP) (lt F:List mP) (i:Nat) (v:bS) (x:aT):Prop :=
 match i with
 | 0=>∃ g,v=J (ak ⟨g,0,aF⟩) 0 0/\B<=g/\dN x g #[] 88
 | 1=>v=U (ak ⟨j,5,aF⟩)
 | 2=>v=J r q sc
 | 3=>v=V ah (at_:Int)
 | 4=>v=lo
 | 5=>nO x B v lt
 | 6=>v=nP (z.1,z.2.1)
 | 7=>v=eu z.2.2
 | 8=>v=zy z
 | 9=>nO x B v [z]
 | 10=>nO x B v (lt++[z])
 | 11=>v=U (ak ⟨j,5,aF⟩)
 | 12=>v=J r q sc
 | 13=>v=V ah (at_:Int)
 | 14=>v=u
 | 15=>nO x B v (lt++[z]++F)
 | 16=>v=U (ak ⟨j,5,aF⟩)
 | _=>True
noncomputable def ZM:Code:=((Tryz.f17.body.bind (eX 6)).getD .skip)
theorem Wm (B q b3:Nat) (G:OA) (F sc at_:Nat) (lo r:bS) (z:mP) (lt u:List mP) (i:Nat) (v:bS) (x H:aT) (h:Ls B q b3 G F sc at_ lo r z lt u i v x) (j:Below x.heap.size x H):Ls B q b3 G F sc at_ lo r z lt u i v H:=by
 by_cases S:i<17
 ·rcases (by omega:i=0\/i=1\/i=2\/i=3\/i=4\/i=5\/i=6\/i=7\/i=8\/i=9\/i=10\/i=11\/i=12\/i=13\/i=14\/i=15\/i=16) with rfl|rfl|rfl|rfl|rfl|rfl|rfl|rfl|rfl|rfl|rfl|rfl|rfl|rfl|rfl|rfl|rfl
  ·obtain⟨g,I,M,N⟩:=h;exact⟨g,I,M,N.on j⟩
  ·exact h
  ·exact h
  ·exact h
  ·exact h
  ·exact dK h j
  ·exact h
  ·exact h
  ·exact h
  ·exact dK h j
  ·exact dK h j
  ·exact h
  ·exact h
  ·exact h
  ·exact h
  ·exact dK h j
  ·exact h
 ·unfold Ls
  split <;> first | omega | trivial
theorem ae5 (Q:Exit->Act->aT->Prop) (W:aT) (q b3:Nat) (me:Int) (hG hH hI hJ:bS) (S:OA) (N sc at_:Nat) (l:List mP) (z:mP) {bT bW d9 u6 u7 u9 bX u11 c6 u13 c7 c8 c9 cA cC cD cF cG cH cI cJ cL cM cN cP cQ cR cS cT cU cV cW cX cY d0 d1 d2 d3 d4 d5 d6 d7 d8 gR gS h0 h1 h2 h3 h4 h5 h6 h7 h8 h9 hA hC hD hE hF dA dC dE dS dT dZ e0 e1 e2 e3 e4 e5 e6 e7 e8 e9 eA eB eC eE eI eJ eK eL eM eN eQ eR eS eV eW f0 f1 f2 f3:bS}
  (b5:dN W q #[V ah me,hG,hH,hI,hJ,J S N sc] 30) (gC:∀ x,Below W.heap.size W x->∀ j u,(kZ (z.1,z.2.1))[j]?=ak u->x.cell? ((⟨b3,0,aF⟩:Addr).add j)=ak u) (bE:Ij W (J S N sc) l) (g8:at_<=l.length) (j2:l.length<=900)
  (g7:∀ (x:aT) (f4 f5 f6 f7 v51 f8 v53 f9 fL fN fR fS fV fW fX T fY:bS),dN x q #[V ah me,hG,hH,hI,hJ,T] 30->nO x W.heap.size T (l.take at_++[z]++l.drop at_)->(∀ B,B<=q->Below B W x)->(∀ c cs t,c≠q->dN W c cs t->dN x c cs t)->(∀ k,k<W.heap.size->k≠q->x.heap[k]?=W.heap[k]?)->Q .normal ⟨(bT::bW::eu z.2.2::U (ak ⟨q,0,aF⟩)::U (ak ⟨b3,0,aF⟩)::d9::u6::u7::V ah (at_:Int)::u9::bX::u11::c6::u13::c7::c8::c9::cA::cC::cD::cF::cG::cH::cI::cJ::cL::cM::cN::cP::cQ::cR::cS::cT::cU::cV::cW::cX::cY::d0::d1::d2::d3::d4::d5::d6::d7::d8::f4::f5::f6::f7::v51::f8::v53::f9::fL::fN::fR::fS::fV::fW::fX::T::fY::dA::dC::dE::dS::dT::dZ::e0::e1::e2::e3::e4::e5::e6::e7::e8::e9::eA::eB::eC::eE::eI::eJ::eK::eL::eM::eN::eQ::eR::eS::eV::eW::f0::f1::f2::f3::[]).toArray,[]⟩ x) :
  Code.wp au ZM Q ⟨(bT::bW::eu z.2.2::U (ak ⟨q,0,aF⟩)::U (ak ⟨b3,0,aF⟩)::d9::u6::u7::V ah (at_:Int)::u9::bX::u11::c6::u13::c7::c8::c9::cA::cC::cD::cF::cG::cH::cI::cJ::cL::cM::cN::cP::cQ::cR::cS::cT::cU::cV::cW::cX::cY::d0::d1::d2::d3::d4::d5::d6::d7::d8::gR::gS::h0::h1::h2::h3::h4::h5::h6::h7::h8::h9::hA::hC::hD::hE::hF::dA::dC::dE::dS::dT::dZ::e0::e1::e2::e3::e4::e5::e6::e7::e8::e9::eA::eB::eC::eE::eI::eJ::eK::eL::eM::eN::eQ::eR::eS::eV::eW::f0::f1::f2::f3::[]).toArray,[]⟩ W:=by
 have g2:=A g7;have b4:=A b5;have hM:=A gC;obtain⟨lo,g3,hK⟩:=yK okW bE at_ (by omega);obtain⟨b6,g4,g1⟩:=qU okW bE (at_) g8;have g5:=A (show (l.take at_).length<=1000 by rw [List.length_take]; omega);have hR:=A (show (l.take at_).length<=900 by rw [List.length_take]; omega);have hL:=A (show (l.drop (at_)).length<=1000 by rw [List.length_drop]; omega);generalize l.take at_=lt at *;generalize l.drop (at_)=b8 at *;have hQ:=A g3;have hP:=A g4;have hO:=A hK;have hN:=A g1;clear g7 b5 gC bE g3 g4 hK g1 g8 j2;have bI:=Wm W.heap.size q b3 S N sc at_ lo b6 z lt b8;unfold ZM
 conv=>arg 2; whnf
 have nd:∀ j,(j<47\/64<=j)->∀ i,i<17->(fun i=>47+i) i≠j:=by
  intro j M i gA h;simp only at h;omega
 refine Rg.gN 18 17 (fun i=>47+i) (fun i=>if i=0 then 5 else if i=5 then 10 else if i=9 then 10 else if i=10 then 15 else 17) (Ls W.heap.size q b3 S N sc at_ lo b6 z lt b8) (by kernel_rfl) (by kernel_rfl) rfl (by decide) (fun i j _ _ h=>by have b5:47+i=47+j:=h; omega) (fun i gA=>by show 47+i<99; omega) ?_ (fun _=>Rg.kJ 1 (by kernel_rfl)) (fun jI o jD b5=>by omega) ?_
 ·intro i o gA H a x D j4 a7 a2 F seen K G;clear g2;rcases (by omega:i=0\/i=1\/i=2\/i=3\/i=4\/i=5\/i=6\/i=7\/i=8\/i=9\/i=10\/i=11\/i=12\/i=13\/i=14\/i=15\/i=16) with rfl|rfl|rfl|rfl|rfl|rfl|rfl|rfl|rfl|rfl|rfl|rfl|rfl|rfl|rfl|rfl|rfl
  ·cases H;exact aZ rfl rfl (Rg.iX a.eval _ 28 0 #[] rfl rfl (by simp [go_sem])) (G (J (ak ⟨x.heap.size,0,aF⟩) 0 0) (x.alloc (cu #[] 88)) ⟨x.heap.size,rfl,F.size,dR x #[] 88⟩ ((O _ _).alloc F.size _) fun j u _ _ _ _ _ h=>bI j u _ _ h ((O _ _).alloc (aQ _) _))
  ·cases H;have a1:a.eval (aD 3)=U (ak ⟨q,0,aF⟩):=seen.kp 3 _ (nd 3 (by omega)) rfl;exact aZ rfl rfl (Rg.dY a.eval _ 30 (aD 3) 5 rfl (by rw [a1]; simp [go_sem])) (G _ _ rfl (O _ _) fun _ _ _ _ _ _ _ h=>h)
  ·cases H;have hV:a.eval (aD 48)=U (ak ⟨q,5,aF⟩):=seen.at_ ⟨1,.data⟩ (by simp) rfl (aH (by decide));have y:=(b4.o.on F).cell 5;simp only [aN,aR,aS] at y;exact aZ rfl rfl (Rg.dW a.eval _ 28 (aD 48) rfl (by rw [hV]; simp [go_sem,y])) (G _ _ rfl (O _ _) fun _ _ _ _ _ _ _ h=>h)
  ·cases H;have bB:a.eval (aD 8)=V ah (at_:Int):=seen.kp 8 _ (nd 8 (by omega)) rfl;exact aZ rfl rfl (Rg.gF a.eval _ (aD 8) rfl x) (G _ _ bB (O _ _) fun _ _ _ _ _ _ _ h=>h)
  ·cases H;have hW:a.eval (aD 49)=J S N sc:=seen.at_ ⟨2,.data⟩ (by simp) rfl (aH (by decide));have hX:a.eval (aD 50)=V ah (at_:Int):=seen.at_ ⟨3,.data⟩ (by simp) rfl (aH (by decide));exact aZ rfl rfl (Rg.lW a.eval _ 28 (aD 49) aF (ak (aD 50)) aF rfl (by show (Instr.sliceAt 28 (a.eval (aD 49)) aF (ak (a.eval (aD 50))) aF).run au x=.ok lo x; rw [hW,hX]; exact hQ.o x)) (G _ _ rfl (O _ _) fun _ _ _ _ _ _ _ h=>h)
  ·cases H;obtain⟨g,bP,iG,a6⟩:=seen.at_ ⟨0,.data⟩ (by simp) rfl (aU rfl);have bP:a.eval (aD 47)=J (ak ⟨g,0,aF⟩) 0 0:=bP;have hY:a.eval (aD 51)=lo:=seen.at_ ⟨4,.data⟩ (by simp) rfl (aH (by decide));obtain⟨b1,b2,r,aE,I⟩:=iI okW W.heap.size a6 iG (hO.o.on F) g5.o 28;exact aZ rfl rfl (Rg.gV a.eval _ (aD 47) (aD 51) 28 rfl bP hY r) (G b1 b2 aE (I.mono F.size) fun j u _ _ _ _ _ h=>bI j u _ _ h I)
  ·cases H;have hU:a.eval (aD 4)=U (ak ⟨b3,0,aF⟩):=seen.kp 4 _ (nd 4 (by omega)) rfl;exact aZ rfl rfl (Rg.dW a.eval _ 23 (aD 4) rfl (by rw [hU]; exact IY x _ (z.1,z.2.1) (hM.o x F))) (G _ _ rfl (O _ _) fun _ _ _ _ _ _ _ h=>h)
  ·cases H;have hT:a.eval (aD 2)=eu z.2.2:=seen.kp 2 _ (nd 2 (by omega)) rfl;exact aZ rfl rfl (Rg.gF a.eval _ (aD 2) rfl x) (G _ _ hT (O _ _) fun _ _ _ _ _ _ _ h=>h)
  ·cases H;have hZ:a.eval (aD 53)=nP (z.1,z.2.1):=seen.at_ ⟨6,.data⟩ (by simp) rfl (aH (by decide));have i0:a.eval (aD 54)=eu z.2.2:=seen.at_ ⟨7,.data⟩ (by simp) rfl (aH (by decide));exact aZ rfl rfl (Rg.jd a.eval _ 88 #[(0,aD 53),(1,aD 54)] rfl (ps:=#[(0,nP (z.1,z.2.1)),(1,eu z.2.2)]) (by simp only [List.map_toArray,List.map_cons,List.map_nil,hZ,i0]) (by simp [go_sem])) (G _ _ rfl (O _ _) fun _ _ _ _ _ _ _ h=>h)
  ·cases H;have i1:a.eval (aD 55)=zy z:=seen.at_ ⟨8,.data⟩ (by simp) rfl (aH (by decide));have bC:=jL okW x [z] 1 rfl (by simp) (lN z).toArray (by simp [flat,EW]);have bC:nO (x.alloc (cu (lN z).toArray 88)) x.heap.size (J (ak ⟨x.heap.size,0,aF⟩) 1 1) [z]:=bC;exact aZ rfl rfl (Rg.iX a.eval _ 28 1 #[(0,aD 55)] rfl (ps:=#[(0,zy z)]) (by simp [i1]) (by simp [go_sem])) (G (J (ak ⟨x.heap.size,0,aF⟩) 1 1) (x.alloc (cu (lN z).toArray 88)) (dO bC F.size) ((O _ _).alloc F.size _) fun j u _ _ _ _ _ h=>bI j u _ _ h ((O _ _).alloc (aQ _) _))
  ·cases H;have gE:nO x W.heap.size (a.eval (aD 52)) (lt):=seen.at_ ⟨5,.data⟩ (by simp) rfl (aU rfl);have j7:nO x W.heap.size (a.eval (aD 56)) ([z]):=seen.at_ ⟨9,.data⟩ (by simp) rfl (aU rfl);have bO:=Row.dL j7;obtain⟨b1,b2,r,aE,I⟩:=iC okW W.heap.size gE bO (by have:=g5.o; omega) (by simp) F.size 28;exact aZ rfl rfl (Rg.gV a.eval _ (aD 52) (aD 56) 28 rfl rfl rfl r) (G b1 b2 aE ((O _ x).grown I F.size fun j M=>(gE.lt j M).1) fun j u M g6 a8 b9 bM h=>by
    rcases (by omega:j=0\/j=1\/j=2\/j=3\/j=4\/j=5\/j=6\/j=7\/j=8\/j=9\/j=10\/j=11\/j=12\/j=13\/j=14\/j=15\/j=16) with rfl|rfl|rfl|rfl|rfl|rfl|rfl|rfl|rfl|rfl|rfl|rfl|rfl|rfl|rfl|rfl|rfl
    ·exact absurd rfl (fun _:(0:Nat)=0=>a8 (a7 5 _ (a2 ⟨5,.data⟩ (by simp) rfl) rfl ⟨0,.data⟩ (by simp) rfl |> fun _=>a2 ⟨5,.data⟩ (by simp) rfl))
    ·exact h
    ·exact h
    ·exact h
    ·exact h
    ·exact absurd rfl (fun _:(0:Nat)=0=>b9 rfl)
    ·exact h
    ·exact h
    ·exact h
    ·exact absurd rfl (fun _:(0:Nat)=0=>b9 rfl)
    ·exact absurd rfl (fun _:(0:Nat)=0=>bM rfl)
    ·exact h
    ·exact h
    ·exact h
    ·exact h
    ·exact absurd rfl (fun _:(0:Nat)=0=>j4 (a7 15 _ g6 rfl ⟨10,.data⟩ (by simp) rfl))
    ·exact h)
  ·cases H;have a1:a.eval (aD 3)=U (ak ⟨q,0,aF⟩):=seen.kp 3 _ (nd 3 (by omega)) rfl;exact aZ rfl rfl (Rg.dY a.eval _ 30 (aD 3) 5 rfl (by rw [a1]; simp [go_sem])) (G _ _ rfl (O _ _) fun _ _ _ _ _ _ _ h=>h)
  ·cases H;have i2:a.eval (aD 58)=U (ak ⟨q,5,aF⟩):=seen.at_ ⟨11,.data⟩ (by simp) rfl (aH (by decide));have y:=(b4.o.on F).cell 5;simp only [aN,aR,aS] at y;exact aZ rfl rfl (Rg.dW a.eval _ 28 (aD 58) rfl (by rw [i2]; simp [go_sem,y])) (G _ _ rfl (O _ _) fun _ _ _ _ _ _ _ h=>h)
  ·cases H;have bB:a.eval (aD 8)=V ah (at_:Int):=seen.kp 8 _ (nd 8 (by omega)) rfl;exact aZ rfl rfl (Rg.gF a.eval _ (aD 8) rfl x) (G _ _ bB (O _ _) fun _ _ _ _ _ _ _ h=>h)
  ·cases H;have i4:a.eval (aD 59)=J S N sc:=seen.at_ ⟨12,.data⟩ (by simp) rfl (aH (by decide));have i5:a.eval (aD 60)=V ah (at_:Int):=seen.at_ ⟨13,.data⟩ (by simp) rfl (aH (by decide));exact aZ rfl rfl (Rg.lW a.eval _ 28 (aD 59) (ak (aD 60)) aF aF rfl (by show (Instr.sliceAt 28 (a.eval (aD 59)) (ak (a.eval (aD 60))) aF aF).run au x=.ok b6 x; rw [i4,i5]; exact hP.o x)) (G _ _ rfl (O _ _) fun _ _ _ _ _ _ _ h=>h)
  ·cases H;have gI:nO x W.heap.size (a.eval (aD 57)) ((lt++[z])):=seen.at_ ⟨10,.data⟩ (by simp) rfl (aU rfl);have i6:a.eval (aD 61)=b6:=seen.at_ ⟨14,.data⟩ (by simp) rfl (aH (by decide));have bO:Ij x (a.eval (aD 61)) b8:=by rw [i6]; exact hN.o.on F
   obtain⟨b1,b2,r,aE,I⟩:=iC okW W.heap.size gI bO (by have:=hR.o; rw [aV,List.length_singleton]; omega) hL.o F.size 28;exact aZ rfl rfl (Rg.gV a.eval _ (aD 57) (aD 61) 28 rfl rfl rfl r) (G b1 b2 aE ((O _ x).grown I F.size fun j M=>(gI.lt j M).1) fun j u M g6 a8 b9 bM h=>by
    rcases (by omega:j=0\/j=1\/j=2\/j=3\/j=4\/j=5\/j=6\/j=7\/j=8\/j=9\/j=10\/j=11\/j=12\/j=13\/j=14\/j=15\/j=16) with rfl|rfl|rfl|rfl|rfl|rfl|rfl|rfl|rfl|rfl|rfl|rfl|rfl|rfl|rfl|rfl|rfl
    ·exact absurd rfl (fun _:(0:Nat)=0=>a8 (a7 10 _ (a2 ⟨10,.data⟩ (by simp) rfl) rfl ⟨5,.data⟩ (by simp) rfl))
    ·exact h
    ·exact h
    ·exact h
    ·exact h
    ·exact absurd rfl (fun _:(0:Nat)=0=>a8 (a2 ⟨10,.data⟩ (by simp) rfl))
    ·exact h
    ·exact h
    ·exact h
    ·exact absurd rfl (fun _:(0:Nat)=0=>a8 (a2 ⟨10,.data⟩ (by simp) rfl))
    ·exact absurd rfl (fun _:(0:Nat)=0=>b9 rfl)
    ·exact h
    ·exact h
    ·exact h
    ·exact h
    ·exact absurd rfl (fun _:(0:Nat)=0=>bM rfl)
    ·exact h)
  ·cases H;have a1:a.eval (aD 3)=U (ak ⟨q,0,aF⟩):=seen.kp 3 _ (nd 3 (by omega)) rfl;exact aZ rfl rfl (Rg.dY a.eval _ 30 (aD 3) 5 rfl (by rw [a1]; simp [go_sem])) (G _ _ rfl (O _ _) fun _ _ _ _ _ _ _ h=>h)
 ·intro a w' df sz kp ⟨bA,b7⟩ F;have I:a.tmps[62]?=ak (bA 15):=(b7 15 (by omega)).1;have i9:a.tmps[63]?=ak (U (ak ⟨q,5,aF⟩)):=by
   have h:bA 16=U (ak ⟨q,5,aF⟩):=(b7 16 (by omega)).2 (by decide);rw [<- h];exact (b7 16 (by omega)).1
  have gO:nO w' W.heap.size (bA 15) (lt++[z]++b8):=(b7 15 (by omega)).2 (by decide);generalize bA 15=g0 at *;obtain⟨j9,jB,i7⟩:=(Row.dL gO).len;have a6:=b4.o.on F;have g9:=b4.o.lt;have c5:=a6.cell 5;have i8:=a6.fr 5;simp only [aN,aR,aS] at c5;have iS:=eD (k:=5) a6 g0;show Rg.fU _ _ _ 1 17 a w';simp only [Rg.fU];refine Rg.gq 28 (aD 63) (aD 62) rfl rfl rfl rfl (Rg.dU i9) (Rg.dU I) (w':=w'.setCell ⟨q,5,aF⟩ g0) (by rw [i7]; simp [go_sem,c5,i8]) ?_;have j8:∀ j,(j<47\/64<=j)->a.tmps[j]?=(bT::bW::eu z.2.2::U (ak ⟨q,0,aF⟩)::U (ak ⟨b3,0,aF⟩)::d9::u6::u7::V ah (at_:Int)::u9::bX::u11::c6::u13::c7::c8::c9::cA::cC::cD::cF::cG::cH::cI::cJ::cL::cM::cN::cP::cQ::cR::cS::cT::cU::cV::cW::cX::cY::d0::d1::d2::d3::d4::d5::d6::d7::d8::gR::gS::h0::h1::h2::h3::h4::h5::h6::h7::h8::h9::hA::hC::hD::hE::hF::dA::dC::dE::dS::dT::dZ::e0::e1::e2::e3::e4::e5::e6::e7::e8::e9::eA::eB::eC::eE::eI::eJ::eK::eL::eM::eN::eQ::eR::eS::eV::eW::f0::f1::f2::f3::[])[j]?:=fun j M=>(kp j (nd j M)).trans aN;obtain⟨j6,j3,rfl⟩:=Rg.gG 47 17 df sz (by simp) j8
  match j6,j3 with
  | [f4,f5,f6,f7,v51,f8,v53,f9,fL,fN,fR,fS,fV,fW,fX,T,fY],_ =>
   have hS:ak T=ak g0:=I;obtain rfl:=aj hS;refine g2.o _ f4 f5 f6 f7 v51 f8 v53 f9 fL fN fR fS fV fW fX T fY ?_ ?_ ?_ ?_ ?_
   ·simpa using iS
   ·exact eF gO q 5 _ g9
   ·exact fun B hB=>(F.mono (Nat.le_of_lt (dG hB g9))).setCell hB _
   ·intro c cs t a7 j0;exact (bY _ _ _ _ a7).trans (j0.on F)
   ·intro k j1 j5;exact (bY _ _ _ _ j5).trans (F.block k j1)
end Bk
end Go.Proofs.YtghlpefopidlaaaGreat
