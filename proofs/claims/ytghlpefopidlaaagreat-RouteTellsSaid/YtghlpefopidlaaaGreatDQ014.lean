/-
  place and branch of . Conditions as told.
-/
import Derived.Test.YtghlpefopidlaaaGreatDQ013
set_option maxRecDepth 100000
set_option maxHeartbeats 64000000
open _root_.Bool renaming false->aF,true->aM
open _root_.Go renaming cell_regrown->aB,World->aO,Calls->aT,below_regrown->aX,Addr->aY,Value->aZ
open Go.Ending renaming returned->aG
open Go.Instr renaming sliceAt->aK
open Go.IntKind renaming i64->Q
open Go.Obj renaming cells->aC
open Go.Proofs.Tryz renaming prog->U
open Go.Value renaming slice->K,int->O,pointer->aI,bool->aU
open _root_.List renaming getElem?_eq_getElem->D,getElem?_eq_some_iff->L,length_take->ah,length_drop->aj,length_append->au,mem_of_getElem?->ay,takeWhile_sublist->aA,takeWhile_cons->aD,getElem?_cons_zero->aH,getElem?_toArray->aJ,getElem?_drop->aN,take_append_drop->aP,getElem_of_mem->aQ,getElem?_map->aR,length_cons->aS,take_left->aW
open _root_.Nat renaming lt_or_ge->aL,zero_le->aV
open _root_.Option renaming some->J,none->V
open Option.some renaming inj->ak
open Go.Proofs.YtghlpefopidlaaaGreat renaming hq->o
namespace Go.Proofs.YtghlpefopidlaaaGreat
namespace Sb
open Go.RowKit Go.Sort Rw YtghlpefopidlaaaGreat.Nm Pr Bk Av
theorem lT {α:Type} {E:Ek α} {W:aO} {r:OA} {q sc:Nat} {l:List α} (h:Row E W (K r q sc) l):l.length=q:=by
 obtain⟨F,u,j⟩:=h.len;simp at j;exact j.2.1.symm
theorem nV {W:aO} {l:List iY} {m:List En} (h:eY (jF W) l m) {i:Nat} {y:iY} (r:l[i]?=J y):∃ e,m[i]?=J e/\jR y=fE e/\jF W y e:=by
 have F:=(L.1 r).1;obtain⟨e,q⟩:∃ e,m[i]?=J e:=⟨_,D (by rw [<- h.len]; exact F)⟩;obtain⟨G,u,j⟩:=h.at i e q;rw [r] at u;obtain rfl:=ak u;exact⟨e,q,Prod.ext j.1 j.2.1,j⟩
theorem Wn {m:List En} (F:kD m) {i j:Nat} {x y:En} (u:i<j) (G:m[i]?=J x) (H:m[j]?=J y):zN x y<0:=by
 obtain⟨q,rfl⟩:=L.1 G;obtain⟨r,rfl⟩:=L.1 H;exact List.pairwise_iff_getElem.1 F i j q r u
theorem nR (l:List (fB×fB)) (x:fB×fB):eU l x<=l.length:=(aA _).length_le
theorem zP {m:List En} (I:kD m) (x:fB×fB) {i:Nat} {e:En} (M:eU (m.map fE) x<=i) (j:m[i]?=J e):kP (fE e) x=aF:=by
 have N:=(L.1 j).1;obtain⟨z,r⟩:∃ z,m[eU (m.map fE) x]?=J z:=⟨_,D (by omega)⟩;have q:=Bf (m.map fE) x (fE z) (by rw [aR,r]; rfl);rcases aL (eU (m.map fE) x) i with h|h
 ·have u:=Wn I h r j;cases H:kP (fE e) x with
  | false=>rfl
  | true =>
   rw [<- tT] at u;have F:zN z ⟨x.1,x.2,[],0,aF⟩<0:=Lm z e ⟨x.1,x.2,[],0,aF⟩ ((tT z e).1 u) ((tT e ⟨x.1,x.2,[],0,aF⟩).1 H);rw [<- tT] at F;rw [show kP (fE z) x=aM from F] at q;cases q
 ·have G:i=eU (m.map fE) x:=by omega
  rw [G,r] at j;rw [<- ak j];exact q
theorem JE (v:Sl) (l:List iY) (m:List En) (t s:fB) (w:aO) (b8:mF w (eu v) l) (b4:eY (jF w) l m) (bX:kD m) (cH:l.length<=1000) :
  aT U 89 #[eu v,nP t,nP s] w fun e w'=>e=aG (.tuple #[O Q (eU (m.map fE) (t,s)),aU (nK m t s)])/\Below w.heap.size w w':=by
 obtain⟨G,n,sc⟩:=v;have a6:l.length=n:=lT b8;obtain⟨c,d⟩:=t;obtain⟨g,h⟩:=s;obtain⟨k,F⟩:∃ k,eU (m.map fE) ((c,d),(g,h))=k:=⟨_,rfl⟩;obtain⟨bC,b7⟩:∃ k,nK m (c,d) (g,h)=k:=⟨_,rfl⟩;have cG:k<=n:=by rw [<- F,<- a6,b4.len]; simpa using nR (m.map fE) ((c,d),(g,h))
 rw [F,b7];obtain⟨a1,X,Y,Z⟩:=gT w #[K G n sc] #[O Q c,O Q d] #[O Q g,O Q h] 27 23 23;have M:=o a1;have bT:=o (b8.on a1);have N:=o (b4.mono fun _ _ q=>q.on a1);have bW:=o X;have a8:=o Y;have aE:=o Z;have c6:=X.cell 0;simp only [aJ,aH] at c6;have bI:=o (show ∀ i,i<n->∀ W,Below (((w.alloc (aC #[K G n sc] 27)).alloc (aC #[O Q c,O Q d] 23)).alloc (aC #[O Q g,O Q h] 23)).heap.size (((w.alloc (aC #[K G n sc] 27)).alloc (aC #[O Q c,O Q d] 23)).alloc (aC #[O Q g,O Q h] 23)) W ->
   aT U 136 (#[O Q i]++#[aI (J ⟨w.heap.size,0,V⟩),aI (J ⟨w.heap.size+1,0,V⟩),aI (J ⟨w.heap.size+1+1,0,V⟩)]) W fun e w'=>e=aG (aU ((fun i=>match l[i]? with | some y=>!kP (jR y) ((c,d),(g,h)) | none=>aM) i))/\Below W.heap.size W w' from fun i a2 W j=>by
  obtain⟨y,u⟩:∃ y,l[i]?=J y:=⟨_,D (by omega)⟩;refine adT i _ _ _ G n sc l (c,d) (g,h) y _ W (bT.o.on j) a6 u ?_ (bW.o.on j) (a8.o.on j) (aE.o.on j);simp only [u])
 have bP:=o (show ∀ i,i<k->(fun i=>match l[i]? with | some y=>!kP (jR y) ((c,d),(g,h)) | none=>aM) i=aF from fun i a2=>by
  obtain⟨y,u⟩:∃ y,l[i]?=J y:=⟨_,D (by omega)⟩;obtain⟨e,H,I,_⟩:=nV N.o u;have b2:=tV (m.map fE) ((c,d),(g,h)) i (fE e) (by rw [F]; exact a2) (by rw [aR,H]; rfl);simp only [u,I,b2]
  rfl)
 have bM:=o (show ∀ i,k<=i->i<n->(fun i=>match l[i]? with | some y=>!kP (jR y) ((c,d),(g,h)) | none=>aM) i=aM from fun i a2 cT=>by
  obtain⟨y,u⟩:∃ y,l[i]?=J y:=⟨_,D (by omega)⟩;obtain⟨e,H,I,_⟩:=nV N.o u;have b2:=Sb.zP bX ((c,d),(g,h)) (by rw [F]; exact a2) H;simp only [u,I,b2]
  rfl)
 have bO:=o F;have S:=o b7;have a7:=o a6;have ln:n<=1000:=by omega
 clear b8 b4 a1 X Y Z F b7 cH a6 bX;go_enter Tryz.func89,Tryz.ntmps89;go_wp2_with fail;generalize ((w.alloc (aC #[K G n sc] 27)).alloc (aC #[O Q c,O Q d] 23)).alloc (aC #[O Q g,O Q h] 23)=W at *;refine (yV 136 #[aI (J ⟨w.heap.size,0,V⟩),aI (J ⟨w.heap.size+1,0,V⟩),aI (J ⟨w.heap.size+1+1,0,V⟩)] adR n k _ W (by omega) bI.o cG bP.o bM.o).mono ?_;rintro cC w1 ⟨rfl,j⟩;have bE:=o (fun b1 b9=>(M.o.trans (j.mono M.o.size)).trans ((aX w1 b1 b9).mono (M.o.trans (j.mono M.o.size)).size));have a0:=aB (show w1.cell? ⟨w.heap.size,0,V⟩=J (K G n sc) from (bW.o.on j).cell 0);have b0:=aB (show w1.cell? ⟨w.heap.size+1,0,V⟩=J (O Q c) from (a8.o.on j).cell 0);have cR:=aB (show w1.cell? ⟨w.heap.size+1,1,V⟩=J (O Q d) from (a8.o.on j).cell 1);have c0:=aB (show w1.cell? ⟨w.heap.size+1+1,0,V⟩=J (O Q g) from (aE.o.on j).cell 0);have c1:=aB (show w1.cell? ⟨w.heap.size+1+1,1,V⟩=J (O Q h) from (aE.o.on j).cell 1);clear c6 bI bP bM;by_cases cF:k<n
 ·obtain⟨y,u⟩:∃ y,l[k]?=J y:=⟨_,D (by rw [a7.o]; exact cF)⟩;obtain⟨p,cU,cI,cJ,cL,cM,cN,cP,cQ⟩:=FN bT.o rfl a7.o u j;have T:=o (show bC=decide (jR y=((c,d),(g,h))) from by
   obtain⟨e,H,I,_⟩:=nV N.o u;rw [<- S.o,nK,bO.o,H,I])
  have cD:decide ((k:Int)<(n:Int))=aM:=by simp; omega
  obtain⟨c7,c8,c9,cA,⟨d0,cY,cX⟩,cV,cW⟩:=y;simp only at cI cJ cL cM;clear cN cP cQ j u;obtain⟨bA,b5⟩:∃ r,(c7 == c && c8 == d)=r:=⟨_,rfl⟩;obtain⟨bB,b6⟩:∃ r,(c9 == g && cA == h)=r:=⟨_,rfl⟩;have cC:=uL c7 c8 c d bA b5;have cS:=uL c9 cA g h bB b6;have R:=o (show bC=(bA && bB) from by
   rw [T.o,<- b5,<- b6,Bool.eq_iff_iff];simp only [decide_eq_true_eq,Bool.and_eq_true,beq_iff_eq,Prod.mk.injEq])
  clear b5 b6 T S;cases bA <;> cases bB
  all_goals
   go_wp2;refine ko ?_
   repeat (go_big_quiet_step (fail))
   refine kr fun b1 b9=>?_;go_wp2
   go_ret2
   exact⟨by rw [R.o]; rfl,bE.o _ _⟩
 ·have T:=o (show bC=aF from by
   rw [<- S.o,nK,bO.o,List.getElem?_eq_none (by rw [<- N.o.len,a7.o]; omega)])
  have cD:decide ((k:Int)<(n:Int))=aF:=by simp; omega
  clear j S;go_wp2;refine ko ?_
  repeat (go_big_quiet_step (fail))
  refine kr fun b1 b9=>?_;go_wp2
  go_ret2
  exact⟨by rw [T.o]; rfl,bE.o _ _⟩
def cutV (v:Sl) (f k:Nat):Sl:=match v with
 | (J a,_,c)=>(J (if c=f then a else a.add (f * 7)),k,c-f)
 | (V,_,_)=>(V,0,0)
theorem ZN {α:Type} (p:α->Bool):∀ (l:List α) (j:Nat) (y:α),j<(l.takeWhile p).length->l[j]?=J y->p y=aM
 | [],_,_,_,h=>by simp at h
 | a::l,j,y,r,h=>by
  by_cases q:p a=aM
  ·rw [aD,if_pos q,aS] at r;cases j with
   | zero=>rw [<- ak (show J a=J y from h)]; exact q
   | succ j=>exact ZN p l j y (by omega) (by simpa using h)
  ·rw [aD,if_neg q] at r;simp at r
theorem ZO {α:Type} (p:α->Bool):∀ (l:List α) (y:α),l[(l.takeWhile p).length]?=J y->p y=aF
 | [],_,h=>by simp at h
 | a::l,y,h=>by
  by_cases j:p a=aM
  ·rw [aD,if_pos j,aS] at h;exact ZO p l y (by simpa using h)
  ·rw [aD,if_neg j] at h;rw [<- ak (show J a=J y from h)];simpa using j
theorem Wo (a:aY) (f e len cap:Nat) (h:f<=e) (F:e<=cap) (w:aO):(aK 27 (K (J a) len cap) (J (O Q f)) (J (O Q e)) V).run U w=.ok (eu (cutV (J a,len,cap) f (e-f))) w:=by
 have H:(f:Int)<=(e:Int):=by omega
 have I:(e:Int)<=cap:=by omega
 obtain⟨i,G,M,i3,N⟩:=nE.info;have u:Tryz.prog.info? 67=J i:=G;have r:Tryz.prog.underlying 27=J (.slice 67):=nE.hu;have j:i.size=7:=i3;by_cases q:cap=f
 ·subst q;obtain rfl:e=cap:=by omega
  simp [go_sem,r,sizeOf,typeInfo,u,j,cutV]
 ·simp [go_sem,r,sizeOf,typeInfo,u,j,cutV,q,h,F]
theorem Lu {W:aO} {v:Sl} {l:List iY} (h:mF W (eu v) l) (f k:Nat) (G:f+k<=l.length) :
  (∀ w,(aK 27 (eu v) (J (O Q f)) (J (O Q ((f+k:Nat):Int))) V).run U w=.ok (eu (cutV v f k)) w)/\mF W (eu (cutV v f k)) ((l.drop f).take k):=by
 obtain⟨N,M,sc⟩:=v;rcases h with⟨rfl,q⟩|⟨a,cap,q,T,a8,a1⟩
 ·obtain⟨rfl,rfl,rfl⟩:N=V/\M=0/\sc=0:=by simpa using q
  obtain⟨rfl,rfl⟩:f=0/\k=0:=by simp at G; omega
  refine⟨fun w=>?_,Or.inl ⟨rfl,rfl⟩⟩;obtain⟨i,a6,aE,i3,b1⟩:=nE.info;have a7:Tryz.prog.info? 67=J i:=a6;have a2:Tryz.prog.underlying 27=J (.slice 67):=nE.hu;simp [go_sem,a2,sizeOf,typeInfo,a7,cutV]
 ·obtain⟨rfl,rfl,rfl⟩:N=J a/\M=l.length/\sc=cap:=by simpa using q
  refine⟨fun w=>by have h:=Wo a f (f+k) l.length sc (Nat.le_add_right _ _) (Nat.le_trans G T) w; rwa [Nat.add_sub_cancel_left] at h,?_⟩;refine Or.inr ⟨(if sc=f then a else a.add (f * 7)),sc-f,?_,?_,by omega,fun j u F=>?_⟩
  ·have e:((l.drop f).take k).length=k:=by rw [ah,aj]; omega
   rw [e]
   rfl
  ·rw [ah,aj]; omega
  ·have I:=(L.1 F).1;have H:(flat EN ((l.drop f).take k)).length=k * 7:=by
    rw [eO nE,ah,aj];show _ * 7=_;rw [show min k (l.length-f)=k by omega]
   rw [H] at I;rw [if_neg (by omega),add_add];refine a1 _ u ?_;have S:flat EN l=flat EN (l.take f)++(flat EN ((l.drop f).take k)++flat EN ((l.drop f).drop k)):=by
    rw [<- gM,aP,<- gM,aP]
   have r:(flat EN (l.take f)).length=f * 7:=by
    rw [eO nE,ah];show _ * 7=_;rw [show min f l.length=f by omega]
   rw [S,List.getElem?_append_right (by rw [r]; omega),r,show f * 7+j-f * 7=j by omega,List.getElem?_append_left (by rw [H]; exact I)];exact F
theorem Bj (m:List En) (t:fB):jC m t+(qb m t).length<=m.length:=by
 have j:(qb m t).length<=(m.drop (jC m t)).length:=(aA _).length_le;have q:jC m t<=m.length:=(aA _).length_le;rw [aj] at j;omega
theorem yX (v:Sl) (l:List iY) (m:List En) (t:fB) (w:aO) (b6:mF w (eu v) l) (bA:eY (jF w) l m) (cH:kD m) (cT:l.length<=1000) :
  aT U 84 #[eu v,nP t] w fun e w'=>e=aG (eu (cutV v (jC m t) (qb m t).length))/\Below w.heap.size w w':=by
 have cG:=Bj m t;have cP:l.length=m.length:=bA.len;obtain⟨f,F⟩:∃ f,jC m t=f:=⟨_,rfl⟩;obtain⟨k,H⟩:∃ k,(qb m t).length=k:=⟨_,rfl⟩;rw [F,H] at cG ⊢;have cA:=o ((Lu b6 f k (by omega)).1);obtain⟨I,n,sc⟩:=v;generalize cutV (I,n,sc) f k=z at cA ⊢;obtain⟨d9,dA,z3⟩:=z;have bB:l.length=n:=lT b6;obtain⟨c,d⟩:=t;obtain⟨b5,X,Y⟩:=gX w #[K I n sc] #[O Q c,O Q d] 27 23;have aE:=o b5;have b8:=o (b6.on b5);have b2:=o (bA.mono fun _ _ T=>T.on b5);have cC:=o X;have b9:=o Y;have cI:=X.cell 0;simp only [aJ,aH] at cI;have c6:∀ (i:Nat) (e:En),i<f->m[i]?=J e->eT e.tree (c,d)=aM:=fun i e G q=>ZN (fun e:En=>eT e.tree (c,d)) m i e (by unfold jC at F; omega) q;have bX:∀ (i:Nat) (e:En),f<=i->m[i]?=J e->eT e.tree (c,d)=aF:=fun i e G q=>by
  refine Q7 (c,d) cH e ?_;rw [<- Fy];unfold jC at F;rw [F];exact ay (show (m.drop f)[i-f]?=J e by rw [aN,show f+(i-f)=i by omega]; exact q)
 have cM:=o (show ∀ (i:Nat) (e:En),i<k->m[f+i]?=J e->e.tree=(c,d) from fun i e G q=>by
  have:=ZN (fun e:En=>decide (e.tree=(c,d))) (m.drop f) i e (by unfold qb at H; rw [F] at H; omega) (by rw [aN]; exact q);exact of_decide_eq_true this)
 have cL:=o (show ∀ (e:En),m[f+k]?=J e->e.tree≠(c,d) from fun e q=>by
  have:=ZO (fun e:En=>decide (e.tree=(c,d))) (m.drop f) e (by unfold qb at H; rw [F] at H; rw [H,aN]; exact q);exact of_decide_eq_false this)
 have c7:=o (show ∀ i,i<n->∀ W,Below ((w.alloc (aC #[K I n sc] 27)).alloc (aC #[O Q c,O Q d] 23)).heap.size ((w.alloc (aC #[K I n sc] 27)).alloc (aC #[O Q c,O Q d] 23)) W ->
   aT U 132 (#[O Q i]++#[aI (J ⟨w.heap.size,0,V⟩),aI (J ⟨w.heap.size+1,0,V⟩)]) W fun e w'=>e=aG (aU ((fun i=>match l[i]? with | some y=>!eT (y.1,y.2.1) (c,d) | none=>aM) i))/\Below W.heap.size W w' from fun i G W N=>by
  obtain⟨y,r⟩:∃ y,l[i]?=J y:=⟨_,D (by omega)⟩;refine adU i _ _ I n sc l (c,d) y _ W (b8.o.on N) bB r ?_ (cC.o.on N) (b9.o.on N);simp only [r])
 have c9:=o (show ∀ i,i<f->(fun i=>match l[i]? with | some y=>!eT (y.1,y.2.1) (c,d) | none=>aM) i=aF from fun i G=>by
  obtain⟨y,r⟩:∃ y,l[i]?=J y:=⟨_,D (by omega)⟩;obtain⟨e,q,cS,u⟩:=nV b2.o r;have a1:=c6 i e G q;rw [<- u.1] at a1;simp only [r,a1]
  rfl)
 have c8:=o (show ∀ i,f<=i->i<n->(fun i=>match l[i]? with | some y=>!eT (y.1,y.2.1) (c,d) | none=>aM) i=aM from fun i G d6=>by
  obtain⟨y,r⟩:∃ y,l[i]?=J y:=⟨_,D (by omega)⟩;obtain⟨e,q,cS,u⟩:=nV b2.o r;have a1:=bX i e G q;rw [<- u.1] at a1;simp only [r,a1]
  rfl)
 have b4:=o bB;have ln:n<=1000:=by omega
 have d4:f+k<=n:=by omega
 clear b6 bA b5 X Y H F cT bB cH cG cP c6 bX;go_enter Tryz.func84,Tryz.ntmps84;go_wp2_with fail;generalize (w.alloc (aC #[K I n sc] 27)).alloc (aC #[O Q c,O Q d] 23)=W at *;refine (yV 132 #[aI (J ⟨w.heap.size,0,V⟩),aI (J ⟨w.heap.size+1,0,V⟩)] adS n f _ W (by omega) c7.o (by omega) c9.o c8.o).mono ?_;rintro cD w1 ⟨rfl,N⟩;have cJ:=o N;clear cI c7 c9 c8 N;go_wp2
 go_loopw [6] (fun i wr=>∃ j:Nat,j<=k/\i=O Q ((f+j:Nat):Int)/\Below W.heap.size W wr) (fun i _=>f+k-(intOf i).toNat)
 case atStart=>exact⟨0,aV _,by simp,cJ.o⟩
 case round =>
  obtain⟨j,d7,rfl,a2⟩:=hrel;have b1:=o a2;have a0:=aB (show wr.cell? ⟨w.heap.size,0,V⟩=J (K I n sc) from (cC.o.on a2).cell 0);have b0:=aB (show wr.cell? ⟨w.heap.size+1,0,V⟩=J (O Q c) from (b9.o.on a2).cell 0);have d5:=aB (show wr.cell? ⟨w.heap.size+1,1,V⟩=J (O Q d) from (b9.o.on a2).cell 1);have b7:=o (fun M S=>b1.o.trans ((aX wr M S).mono b1.o.size));clear a2;by_cases cQ:j<k
  ·obtain⟨y,r⟩:∃ y,l[f+j]?=J y:=⟨_,D (by rw [b4.o]; omega)⟩;obtain⟨p,cU,bE,bI,bM,bO,bP,bT,bW⟩:=FN b8.o rfl b4.o r b1.o;obtain⟨e,q,_,u⟩:=nV b2.o r;have a6:(y.1,y.2.1)=(c,d):=u.1.trans (cM.o j e cQ q);have cR:f+j<n:=by omega
   have cF:decide (((f+j:Nat):Int)<(n:Int))=aM:=by simp; omega
   have d8:IntKind.i64.wrap (((f+j:Nat):Int)+1)=((f+(j+1):Nat):Int):=by rw [IntWalk.i64_in _ (by omega)]; omega
   obtain⟨a7,a8,cV,cW,⟨d2,d1,d0⟩,cX,cY⟩:=y;obtain⟨rfl,rfl⟩:a7=c/\a8=d:=by simpa using a6
   simp only at bE bI;have cD:=uL a7 a8 a7 a8 aM (by simp);clear bM bO bP bT bW r q u a6;generalize bC:f+j=T at *;have cN:=o bC;clear bC;go_wp2;refine ko ?_
   repeat (go_big_quiet_step (fail))
   refine kr fun M S=>?_;go_wp2
   go_roundw
   case rel=>exact⟨j+1,by omega,by rfl,b7.o _ _⟩
   case measure =>
    have bC:=cN.o;simp [intOf];omega
  ·obtain rfl:j=k:=by omega
   have d3:=cA.o;by_cases cR:f+j<n
   ·obtain⟨y,r⟩:∃ y,l[f+j]?=J y:=⟨_,D (by rw [b4.o]; omega)⟩;obtain⟨p,cU,bE,bI,bM,bO,bP,bT,bW⟩:=FN b8.o rfl b4.o r b1.o;obtain⟨e,q,_,u⟩:=nV b2.o r;have a6:(y.1,y.2.1)≠(c,d):=fun T=>cL.o e q (u.1.symm.trans T);have cF:decide (((f+j:Nat):Int)<(n:Int))=aM:=by simp; omega
    obtain⟨a7,a8,cV,cW,⟨d2,d1,d0⟩,cX,cY⟩:=y;simp only at bE bI;have cD:=uL a7 a8 c d aF (Bool.eq_false_iff.2 fun h=>a6 (by simp at h; rw [h.1,h.2]));clear bM bO bP bT bW r q u a6;generalize f+j=T at *;go_wp2;refine ko ?_
    repeat (go_big_quiet_step (fail))
    refine kr fun M S=>?_;have a0:=a0 M S;go_wp2;go_ret;exact⟨rfl,aE.o.trans ((b7.o _ _).mono aE.o.size)⟩
   ·have cF:decide (((f+j:Nat):Int)<(n:Int))=aF:=by simp; omega
    generalize f+j=T at *;go_wp2;refine ko ?_
    repeat (go_big_quiet_step (fail))
    refine kr fun M S=>?_;have a0:=a0 M S;go_wp2;go_ret;exact⟨rfl,aE.o.trans ((b7.o _ _).mono aE.o.size)⟩
end Sb
namespace Sb
open Go.RowKit Go.Sort Rw YtghlpefopidlaaaGreat.Nm Pr Bk Av Rl
theorem ZR (q j:aZ) (p r:List C5) (w:aO) (u:fO w q p) (F:fO w j r) (G:dX p) (H:dX r) :
  aT U 27 #[q,j] w fun e w'=>e=aG (aU (o9 p r))/\Below w.heap.size w w':=by
 obtain⟨a,I,rfl⟩:=G;obtain⟨b,M,rfl⟩:=H;unfold o9;rw [r9,r9];exact QT q j a b w u F I M
theorem aiT {α:Type} (f:α->Bool) {l:List α} (h:∀ (j:Nat) (y:α),j<l.length->l[j]?=J y->f y=aF):l.any f=aF:=by
 rw [List.any_eq_false];intro e r;obtain⟨j,q,u⟩:=aQ r;simpa using h j e q (by rw [D q,u])
theorem aiU {α:Type} (f:α->Bool) {l:List α} {k:Nat} {y:α} (h:l[k]?=J y) (j:f y=aM):l.any f=aM:=by
 rw [List.any_eq_true];exact⟨y,ay h,j⟩
abbrev cE (p:List C5) (e:En):Bool:=e.up && o9 e.p p
theorem vU (v:Sl) (c9:aZ) (l:List iY) (m:List En) (u:List C5) (w:aO) (S:mF w (eu v) l) (hu:eY (jF w) l m) (b4:fO w c9 u) (bI:∀ e∈m,dX e.p) (bM:dX u) :
  aT U 131 #[eu v,c9] w fun e w'=>e=aG (aU (Bc m u))/\Below w.heap.size w w':=by
 have bA:=o hu;have cG:=o b4;have cJ:=o bI;have cL:=o bM;obtain⟨pa,cP,rfl⟩:=b4.len;generalize u.length=cQ at *;obtain⟨d0,n,sc⟩:=v;have b2:=lT S;have cH:=o S;have bO:=S.most;unfold maxLen at bO;rw [b2] at bO;have a2:=o b2;clear hu b4 bI bM S b2;go_enter Tryz.func131,Tryz.ntmps131;go_wp2
 go_loopw [9] (fun i wr=>∃ k:Nat,k<=n/\i=O Q k/\Below w.heap.size w wr/\∀ (j:Nat) (y:En),j<k->m[j]?=J y->cE u y=aF) (fun i _=>n-(intOf i).toNat)
 case atStart=>exact⟨0,aV _,rfl,Below.refl _ _,fun j y h=>by omega⟩
 case round =>
  obtain⟨k,cX,rfl,bE,bB⟩:=hrel;have M:=o bE;have T:=o bB;clear bE bB;by_cases cM:k<n
  ·obtain⟨y,b6⟩:∃ y,l[k]?=J y:=⟨_,D (by rw [a2.o]; exact cM)⟩;obtain⟨q,cN,cA⟩:=Qj cH.o rfl a2.o b6;obtain⟨bP,bT,bW,bX,c6,c7,c8⟩:=cA wr M.o;obtain⟨e,a8,_,aE⟩:=nV bA.o b6;obtain⟨cR,cS,cT,cU,⟨cF,cD,cC⟩,cV,b8⟩:=y;simp only at bP bT bW bX c6 c7 c8;have cI:=o (fP wr (aC #[O Q cR,O Q cS,O Q cT,O Q cU,K cF cD cC,O Q cV,aU b8] 67));have cY:IntKind.i64.wrap ((k:Int)+1)=(k:Int)+1:=IntWalk.i64_in _ (by omega);obtain⟨t,b5⟩:∃ r,o9 e.p u=r:=⟨_,rfl⟩;have a6:=o (show cE u e=(b8 && t) by unfold cE; rw [<- aE.2.2.2.1,b5]);have a1:=o a8;have F:=o (M.o.trans (cI.o.mono M.o.size));have N:=o (ZR (K cF cD cC) (K pa cQ cP) e.p u _ (aE.2.2.2.2.on F.o) (cG.o.on F.o) (cJ.o _ (ay a8)) cL.o);rw [b5] at N;clear cA b6 b5 a8 aE;cases b8
   ·clear N;go_wp2
    go_roundw
    case rel=>exact⟨k+1,by omega,by go_num,F.o,fun j b7 b1 H=>by
     rcases aL j k with I|I
     ·exact T.o j b7 I H
     ·obtain rfl:j=k:=by omega
      have G:=a1.o;rw [H] at G;rw [ak G];exact a6.o.trans (by simp)⟩
    case measure=>simp [intOf]; omega
   ·go_wp2_with fail;refine N.o.mono ?_;rintro cW d1 ⟨rfl,bC⟩;have b9:=o (F.o.trans (bC.mono F.o.size));clear N bC bP bT bW bX c6 c7 c8 cN;cases t
    ·go_wp2
     go_roundw
     case rel=>exact⟨k+1,by omega,by go_num,b9.o,fun j b7 b1 H=>by
      rcases aL j k with I|I
      ·exact T.o j b7 I H
      ·obtain rfl:j=k:=by omega
       have G:=a1.o;rw [H] at G;rw [ak G];exact a6.o.trans (by simp)⟩
     case measure=>simp [intOf]; omega
    ·have a7:Bc m u=aM:=aiU (cE u) a1.o (a6.o.trans (by simp));go_wp2;go_ret;exact⟨by rw [a7]; rfl,b9.o⟩
  ·obtain rfl:k=n:=by omega
   have a7:Bc m u=aF:=aiT (cE u) fun j y b1 h=>T.o j y (by rw [<- a2.o,bA.o.len]; exact b1) h;go_wp2;go_ret;exact⟨by rw [a7]; rfl,M.o⟩
theorem ZU {α:Type} (f:α->Bool) {l:List α} (h:∀ (j:Nat) (y:α),j<l.length->l[j]?=J y->f y=aM):l.all f=aM:=by
 rw [List.all_eq_true];intro e r;obtain⟨j,q,u⟩:=aQ r;exact h j e q (by rw [D q,u])
theorem ZV {α:Type} (f:α->Bool) {l:List α} {k:Nat} {y:α} (h:l[k]?=J y) (j:f y=aF):l.all f=aF:=by
 rw [List.all_eq_false];exact⟨y,ay h,by rw [j]; simp⟩
abbrev tE (r:List En) (e:En):Bool:=e.up || Bc r e.p
theorem Wp (v:Sl) (l:List iY) (m:List En) (w:aO) (N:mF w (eu v) l) (hu:eY (jF w) l m) (bI:∀ e∈m,dX e.p) :
  aT U 83 #[eu v] w fun e w'=>e=aG (aU (yS m))/\Below w.heap.size w w':=by
 have a2:=o hu;have bA:=o bI;have b9:=o N;obtain⟨cH,n,sc⟩:=v;have b2:=lT N;have bM:=N.most;unfold maxLen at bM;rw [b2] at bM;have a1:=o b2;clear hu bI N b2;go_enter Tryz.func83,Tryz.ntmps83;go_wp2
 go_loopw [7] (fun i wr=>∃ k:Nat,k<=n/\i=O Q k/\Below w.heap.size w wr/\∀ (j:Nat) (y:En),j<k->m[j]?=J y->tE m y=aM) (fun i _=>n-(intOf i).toNat)
 case atStart=>exact⟨0,aV _,rfl,Below.refl _ _,fun j y h=>by omega⟩
 case round =>
  obtain⟨k,cQ,rfl,bE,bB⟩:=hrel;have I:=o bE;have S:=o bB;clear bE bB;by_cases cF:k<n
  ·obtain⟨y,b5⟩:∃ y,l[k]?=J y:=⟨_,D (by rw [a1.o]; exact cF)⟩;obtain⟨q,cG,c8⟩:=Qj b9.o rfl a1.o b5;obtain⟨bO,bP,bT,bW,bX,c6,c7⟩:=c8 wr I.o;obtain⟨e,a8,_,aE⟩:=nV a2.o b5;obtain⟨cI,cJ,cL,cM,⟨cC,cA,c9⟩,cN,b7⟩:=y;simp only at bO bP bT bW bX c6 c7;have cD:=o (fP wr (aC #[O Q cI,O Q cJ,O Q cL,O Q cM,K cC cA c9,O Q cN,aU b7] 67));have cR:IntKind.i64.wrap ((k:Int)+1)=(k:Int)+1:=IntWalk.i64_in _ (by omega);obtain⟨t,b4⟩:∃ r,Bc m e.p=r:=⟨_,rfl⟩;have a6:=o (show tE m e=(b7 || t) by unfold tE; rw [<- aE.2.2.2.1,b4]);have T:=o a8;have u:=o (I.o.trans (cD.o.mono I.o.size));have M:=o (vU (cH,n,sc) (K cC cA c9) l m e.p _ (b9.o.on u.o) (a2.o.mono fun _ _ q=>q.on u.o) (aE.2.2.2.2.on u.o) bA.o (bA.o _ (ay a8)));rw [b4] at M;clear c8 b5 b4 a8 aE;cases b7
   ·go_wp2_with fail;refine M.o.mono ?_;rintro cP cS ⟨rfl,bC⟩;have b8:=o (u.o.trans (bC.mono u.o.size));clear M bC bO bP bT bW bX c6 c7 cG;cases t
    ·have a7:yS m=aF:=ZV (tE m) T.o (a6.o.trans (by simp));go_wp2;go_ret;exact⟨by rw [a7]; rfl,b8.o⟩
    ·go_wp2
     go_roundw
     case rel=>exact⟨k+1,by omega,by go_num,b8.o,fun j b6 b1 G=>by
      rcases aL j k with H|H
      ·exact S.o j b6 H G
      ·obtain rfl:j=k:=by omega
       have F:=T.o;rw [G] at F;rw [ak F];exact a6.o.trans (by simp)⟩
     case measure=>simp [intOf]; omega
   ·clear M;go_wp2
    go_roundw
    case rel=>exact⟨k+1,by omega,by go_num,u.o,fun j b6 b1 G=>by
     rcases aL j k with H|H
     ·exact S.o j b6 H G
     ·obtain rfl:j=k:=by omega
      have F:=T.o;rw [G] at F;rw [ak F];exact a6.o.trans (by simp)⟩
    case measure=>simp [intOf]; omega
  ·obtain rfl:k=n:=by omega
   have a7:yS m=aM:=ZU (tE m) fun j y b1 h=>S.o j y (by rw [<- a1.o,a2.o.len]; exact b1) h;go_wp2;go_ret;exact⟨by rw [a7]; rfl,I.o⟩
theorem ZW {W:aO} {v:Sl} {l:List iY} {m:List En} (q:mF W (eu v) l) (j:eY (jF W) l m) (t:fB):mF W (eu (cutV v (jC m t) (qb m t).length)) ((l.drop (jC m t)).take (qb m t).length)/\eY (jF W) ((l.drop (jC m t)).take (qb m t).length) (qb m t):=by
 refine⟨(Lu q _ _ (by rw [j.len]; exact Bj m t)).2,?_⟩;have h:=(j.drop (jC m t)).take (qb m t).length;have e:(m.drop (jC m t)).take (qb m t).length=qb m t:=by
  unfold qb
  conv=>lhs; arg 2; rw [<- List.takeWhile_append_dropWhile (p:=fun e:En=>decide (e.tree=t)) (l:=m.drop (jC m t))]
  rw [aW]
 rw [e] at h;exact h
theorem ZY (m:List En) (t:fB):∀ e∈qb m t,e∈m:=fun _ j=>List.mem_of_mem_drop ((aA _).subset j)
theorem Z7 (me:Int) (S av a1 T:aZ) (H:Sl) (l:List iY) (m:List En) (t:fB) (aE:aZ) (u:List C5) (w:aO) (N:mF w (eu H) l) (hu:eY (jF w) l m) (M:kD m) (a7:l.length<=1000) (I:fO w aE u) (a8:∀ e∈m,dX e.p) (bE:dX u) :
  aT U 156 #[.agg #[O Q me,S,av,a1,eu H,T],nP t,aE] w fun e w'=>e=aG (aU (fH m t u))/\Below w.heap.size w w':=by
 obtain⟨pa,bI,rfl⟩:=I.len;obtain⟨G,n,sc⟩:=H;obtain⟨c,d⟩:=t;obtain⟨j,X,Y⟩:=gX w #[O Q me,S,av,a1,K G n sc,T] #[O Q c,O Q d] 30 23;have B:=o j;have b4:=X.cell 4;obtain⟨bO,bP⟩:=Y.cs2;simp only [aJ,aH,List.getElem?_cons_succ] at b4;have a2:=o (yX (G,n,sc) l m (c,d) _ (N.on j) (hu.mono fun _ _ q=>q.on j) M a7);obtain⟨b1,b2⟩:=ZW (N.on j) (hu.mono fun _ _ q=>q.on j) (c,d);have b9:=o b1;have bA:=o b2;have b7:=o (I.on j);have b8:=o (fun e bC=>a8 e (ZY m (c,d) e bC));have b5:=o (Q8 M (c,d) u);generalize u.length=bM at *;generalize fH m (c,d) u=r at *;generalize cutV (G,n,sc) (jC m (c,d)) (qb m (c,d)).length=z at *;obtain⟨bT,bW,z3⟩:=z;clear j X Y N hu M a7 I a8 b1 b2;go_enter Tryz.func156,Tryz.ntmps156;go_wp2_with fail;generalize (w.alloc (aC #[O Q me,S,av,a1,K G n sc,T] 30)).alloc (aC #[O Q c,O Q d] 23)=W at *;refine a2.o.mono ?_;rintro bX w1 ⟨rfl,F⟩;have a6:=o F;have b6:=o (vU (bT,bW,z3) (K pa bM bI) _ (qb m (c,d)) u w1 (b9.o.on F) (bA.o.mono fun _ _ q=>q.on F) (b7.o.on F) b8.o bE);clear b4 bO bP F a2;go_wp2_with fail;refine b6.o.mono ?_;rintro c6 c7 ⟨rfl,bB⟩;go_wp2;go_ret;exact⟨by rw [<- b5.o]; rfl,B.o.trans ((a6.o.trans (bB.mono a6.o.size)).mono B.o.size)⟩
def Ol (m:List En) (t s:fB):Option En:=match m[eU (m.map fE) (t,s)]? with
 | none=>V
 | some e=>if fE e=(t,s) then J e else V
theorem JF {m:List En} {t s:fB} (h:nK m t s=aM):∃ e,m[eU (m.map fE) (t,s)]?=J e/\fE e=(t,s)/\Ol m t s=J e:=by
 unfold nK at h;cases j:m[eU (m.map fE) (t,s)]? with
 | none=>rw [j] at h; cases h
 | some e =>
  rw [j] at h;have q:=of_decide_eq_true h;exact⟨e,rfl,q,by unfold Ol; rw [j]; simp only; rw [if_pos q]⟩
theorem Om {m:List En} {t s:fB} (h:nK m t s=aF):Ol m t s=V:=by
 unfold nK at h;unfold Ol;cases j:m[eU (m.map fE) (t,s)]? with
 | none=>rfl
 | some e =>
  rw [j] at h;simp only;rw [if_neg (of_decide_eq_false h)]
theorem Wq {w:aO} {B g n cap k:Nat} {l:List iY} (a6:jJ w B (K (J ⟨g,0,V⟩) n cap) l) (bB:k<n) (a8:TypeId) :
  ∃ w',(Builtin.append_ #[27,27] a8 #[K (J ⟨g,0,V⟩) k cap,K (J (if cap=k+1 then ⟨g,0,V⟩ else ⟨g,(k+1) * 7,V⟩)) (n-(k+1)) (cap-(k+1))]).run U w=.ok (K (J ⟨g,0,V⟩) (n-1) cap) w' /\
   jJ w' B (K (J ⟨g,0,V⟩) n cap) (cutAt l k++l.drop (n-1))/\But g w w'/\(∀ B' W,B'<=g->Below B' W w->Below B' W w'):=by
 have F:l.length=n:=gP a6;rcases gD a6 with⟨I,_⟩|⟨b1,aE,cur,I,b2,M,T,b4,N,u⟩
 ·cases I
 ·obtain⟨rfl,_,rfl⟩:g=b1/\n=l.length/\cap=aE:=by simpa using I
  obtain⟨i,bA,bC,i3,bE⟩:=nE.info;have j:EN.n=7:=rfl;have G:i.size=7:=i3;rw [F] at T u;rw [j] at N u;have a1:(l.drop (k+1)).length=n-(k+1):=by rw [aj,F]
  have q:(flat EN (l.drop (k+1))).length=(n-(k+1)) * 7:=by rw [eO nE,a1,j]
  have b9:cur.toList.length=cap * 7:=by rw [Array.length_toList]; exact N
  have b6:∀ r H,(flat EN (l.drop (k+1)))[r]?=J H->w.cell? ((if cap=k+1 then (⟨g,0,V⟩:aY) else ⟨g,(k+1) * 7,V⟩).add r)=J H:=fun r H a2=>by
   have b7:=(L.1 a2).1;rw [q] at b7;rw [if_neg (by omega)];exact zm nE M (by rw [F,j]; exact u) (k+1) r H a2
  have a7:=run_append_room (P:=U) w 27 a8 67 i nE.hu bA g k cap cur M _ (n-(k+1)) (cap-(k+1)) (flat EN (l.drop (k+1))) (by rw [q,G]) b6 (oH nE _) (by omega) (by rw [q,G,N]; omega);rw [show k+(n-(k+1))=n-1 by omega] at a7;refine⟨_,a7,pF nE ?_ b2 (dN.set M _) T b4 ?_ ?_,⟨fun r _ b8=>setRow_other w g r _ b8,by simp⟩,fun B' W hB b5=>Rw.below_setRow b5 hB _⟩
  ·rw [au,aj];unfold cutAt;rw [au,ah,a1,F];omega
  ·rw [List.size_toArray,au,au,ah,aj,q,b9,G,j];omega
  ·have t1:cur.toList.take (k * 7)=flat EN (l.take k):=by
    rw [<- qK nE,<- u,List.take_take,j,Nat.min_eq_left (by omega)]
   have t2:(cur.toList.drop ((n-1) * 7)).take 7=flat EN (l.drop (n-1)):=by
    rw [<- Au nE,<- u,j,List.drop_take,show n * 7-(n-1) * 7=7 by omega]
   rw [G,j,q,show k * 7+(n-(k+1)) * 7=(n-1) * 7 by omega,t1];have S:(flat EN (l.take k)++flat EN (l.drop (k+1))).length=(n-1) * 7:=by
    rw [au,q,eO nE,ah,j,F];omega
   rw [List.take_append,S,List.take_of_length_le (by rw [S]; omega),show n * 7-(n-1) * 7=7 by omega,t2];unfold cutAt;rw [gM,gM]
theorem Z9 {l:List iY} {n k:Nat} (j:l.length=n) (q:k<n):(cutAt l k++l.drop (n-1)).take (n-1)=cutAt l k:=by
 have h:(cutAt l k).length=n-1:=by
  unfold cutAt;rw [au,ah,aj,j];omega
 rw [<- h,aW]
theorem slice3 (a:aY) (f e len cap:Nat) (h:f<=e) (G:e<=len) (q:len<=cap) (w:aO):(aK 27 (K (J a) len cap) (J (O Q f)) (J (O Q e)) (J (O Q len))).run U w=.ok (K (J (if len=f then a else a.add (f * 7))) (e-f) (len-f)) w:=by
 obtain⟨i,H,I,i3,M⟩:=nE.info;have F:Tryz.prog.info? 67=J i:=H;have u:Tryz.prog.underlying 27=J (.slice 67):=nE.hu;have j:i.size=7:=i3;by_cases r:len=f
 ·subst r;obtain rfl:e=len:=by omega
  simp [go_sem,u,sizeOf,typeInfo,F,j,q]
 ·simp [go_sem,u,sizeOf,typeInfo,F,j,r,h,G,q]
theorem adV (B g n cap k:Nat) (l:List iY) (w:aO) (j:jJ w B (K (J ⟨g,0,V⟩) n cap) l) (S:k<n) (bC:n<=1000) :
  aT U 158 #[K (J ⟨g,0,V⟩) n cap,O Q k,O Q ((k:Int)+1)] w fun e w'=>e=aG (K (J ⟨g,0,V⟩) (n-1) cap) /\
   jJ w' B (K (J ⟨g,0,V⟩) (n-1) cap) (cutAt l k)/\But g w w'/\(∀ B' W,B'<=g->Below B' W w->Below B' W w'):=by
 have F:l.length=n:=gP j;have b9:n<=cap:=by
  rcases gD j with⟨u,_⟩|⟨b6,b5,cur,u,_,_,N,_⟩
  ·cases u
  ·obtain⟨_,_,rfl⟩:g=b6/\n=l.length/\cap=b5:=by simpa using u
   rw [F] at N;exact N
 have s3:=fun w=>slice3 ⟨g,0,V⟩ k (k+1) n cap (by omega) (by omega) b9 w;rw [show (((k+1:Nat):Int))=(k:Int)+1 by omega] at s3;have s1:∀ w,(aK 27 (K (J ⟨g,0,V⟩) n cap) V (J (O Q k)) V).run U w=.ok (K (J ⟨g,0,V⟩) k cap) w:=fun w=>kI nE ⟨g,0,V⟩ k n cap (by omega) w;have s2:∀ w,(aK 27 (K (J ⟨g,0,V⟩) n cap) (J (O Q ((k:Int)+1))) V V).run U w=.ok (K (J (if cap=k+1 then ⟨g,0,V⟩ else ⟨g,(k+1) * 7,V⟩)) (n-(k+1)) (cap-(k+1))) w:=fun w=>by
  have h:=zi nE ⟨g,0,V⟩ (k+1) n cap (by omega) w;rw [show (((k+1:Nat):Int))=(k:Int)+1 by omega,mO] at h;exact h
 have bE:((k:Int) == (k:Int)+1)=aF:=by simp; omega
 obtain⟨w1,r,a7,I,a2⟩:=Wq (Bk.dK j (Below.refl _ _).drew) S 27;obtain⟨p,T⟩:∃ p:aY,(if cap=k+1 then (⟨g,0,V⟩:aY) else ⟨g,(k+1) * 7,V⟩)=p:=⟨_,rfl⟩;obtain⟨q,a1⟩:∃ p:aY,(if n=k then (⟨g,0,V⟩:aY) else (⟨g,0,V⟩:aY).add (k * 7))=p:=⟨_,rfl⟩;rw [T] at s2 r;rw [a1] at s3;obtain⟨m,b8⟩:∃ m,n=m+1:=⟨n-1,by omega⟩;obtain⟨H,aE,G,M,a6⟩:=Jw nE (by decide) a7 (show n-1<n by omega) 0;rw [Z9 F S] at G;have b4:=o G;have b1:=o (show But g w H from ((But.of_below (Below.refl w.heap.size w).drew).trans I).trans M);have b2:=o (show ∀ B' W,B'<=g->Below B' W w->Below B' W H from fun B' W hB b7=>a6 B' W hB (a2 B' W hB b7.drew));have a8:(Builtin.clear_ #[27] 0 #[K (J ⟨g,(n-1) * 7,V⟩) (n-(n-1)) (cap-(n-1))]).run U w1=.ok (.tuple #[]) H:=aE;clear T a1 a7 I a2 G M a6 j F;generalize n-(k+1)=bA at s2 r;generalize cap-(k+1)=bB at s2 r;generalize k+1-k=bI at s3;generalize n-k=bM at s3;rw [show n-(n-1)=1 by omega] at a8;clear aE;subst b8;rw [Nat.add_sub_cancel] at *;go_enter Tryz.func158,Tryz.ntmps158;go_wp2
 go_region_law (refine fC rfl (.tmp 22) (.tmp 25) 27 rfl (v:=K (J ⟨g,0,V⟩) k cap) (xv:=K (J p) bA bB) rfl rfl r ?_)
 all_goals simp only [Exit.then]
 all_goals apply_assumption
 all_goals
  go_wp2_with (first | (at_builtin; refine Bl rfl _ _ rfl rfl a8 ?_) | fail);go_ret;exact⟨rfl,b4.o,b1.o,b2.o⟩
end Sb
end Go.Proofs.YtghlpefopidlaaaGreat
