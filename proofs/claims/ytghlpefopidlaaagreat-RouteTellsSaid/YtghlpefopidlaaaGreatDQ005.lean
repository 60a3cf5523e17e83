/-
  The order of IDs: Le. Conditions as told.
-/
import Derived.Test.YtghlpefopidlaaaGreatDQ002
import Derived.Test.YtghlpefopidlaaaGreatDQ004
import Derived.Test.YtghlpefopidlaaaGreatDQ003
set_option maxRecDepth 100000
set_option maxHeartbeats 64000000
open _root_.Bool renaming false->aO,and_eq_true->aU,true->bF
open _root_.Go renaming World->aA,Value->aC,TypeId->bG,cell_regrown->bH,Calls->bJ,below_regrown->dw
open Go.Act renaming put->bR,eval->dn
open Go.Builtin renaming copy_->bf,append_->cO
open Go.Ending renaming returned->aI
open Go.Instr renaming sliceAt->aJ,storeAt->aZ
open Go.IntKind renaming i64->ak,wrap_i64->cu
open Go.Obj renaming cells->aH
open Go.Operand renaming tmp->aD
open Go.Proofs.Tryz renaming prog->ay,ntmps104->bS,func104->bZ,ntmps62->dD
open Go.Proofs.YtghlpefopidlaaaGreat.Rg renaming dI->aQ,get_put->aR,dU->aW,dY->bg,dW->dh,gK->dG,fU->dH
open Go.RowKit.Below renaming refl->au,heap_setCell->aG
open Go.Value renaming slice->J,pointer->U,int->aj,string->aN,bool->cZ
open _root_.List renaming getElem?_toArray->V,getElem?_cons_zero->Z,getElem?_cons_succ->ah,getElem?_eq_getElem->aB,getElem?_eq_some_iff->aF,getElem?_map->aK,length_map->aP,set_cons_succ->aS,mem_of_getElem?->aV,take_add_one->aY,cons_append->bD,nil_append->bK,length_set->bL,mem_iff_getElem?->bN,mem_map->bV,take_length->cB
open _root_.Nat renaming lt_or_ge->aT,zero_le->aX,le_refl->bQ,lt_of_le_of_lt->bU,le_of_lt->bY,not_lt_zero->cK,le_trans->dB
open _root_.Option renaming none->L,some->O
open Option.some renaming inj->aL
open _root_.Or renaming inr->aM,inl->dx
open Go.Proofs.YtghlpefopidlaaaGreat renaming hq->A
namespace Go.Proofs.YtghlpefopidlaaaGreat
namespace Av
open Go.RowKit Go.Sort Rw YtghlpefopidlaaaGreat.Nm Pr Bk
theorem wZ (x y:fB) (w:aA):bJ ay 31 #[nP x,nP y] w fun e w'=>e=aI (cZ (eT x y))/\Below w.heap.size w w':=by
 have C:=rA x y;have R:=A (show decide (gU x y<0)=eT x y from by
  have h:=vO x y;cases q:eT x y
  ·rw [q] at h; simp at h; simpa using h
  ·rw [q] at h; simp at h; simpa using h)
 obtain⟨a,b⟩:=x;obtain⟨c,d⟩:=y;obtain⟨j,X,Y⟩:=gX w #[aj ak a,aj ak b] #[aj ak c,aj ak d] 23 23;obtain⟨F,G⟩:=X.cs2;obtain⟨H,I⟩:=Y.cs2;have B:=A j;generalize gU (a,b) (c,d)=u at *;generalize eT (a,b) (c,d)=s at *;clear X Y j;go_enter Tryz.func31,Tryz.ntmps31;go_wp2_with fail;have C:=C ((w.alloc (aH #[aj ak a,aj ak b] 23)).alloc (aH #[aj ak c,aj ak d] 23));refine C.mono ?_;rintro e w1 ⟨rfl,r⟩;go_wp2;go_ret;exact⟨by have h:=R.o; subst h; rfl,B.o.trans (r.mono B.o.size)⟩
theorem I9 (x y:ku) (w:aA):bJ ay 36 #[nC x,nC y] w fun e w'=>e=aI (aj ak (gU (x.1,x.2.1) (y.1,y.2.1)))/\Below w.heap.size w w':=by
 obtain⟨a,b,⟨s1,s2,s3⟩,p⟩:=x;obtain⟨c,d,⟨t1,t2,t3⟩,q⟩:=y;have C:=rA (a,b) (c,d);obtain⟨j,X,Y⟩:=gX w #[aj ak a,aj ak b,J s1 s2 s3,aj ak p] #[aj ak c,aj ak d,J t1 t2 t3,aj ak q] 36 36;have F:=X.cell 1;have u:=X.cell 0;have H:=Y.cell 1;have G:=Y.cell 0;simp only [V,Z,ah] at u F G H;have B:=A j;generalize gU (a,b) (c,d)=I at *;clear X Y j;go_enter Tryz.func36,Tryz.ntmps36;go_wp2_with fail;have C:=C ((w.alloc (aH #[aj ak a,aj ak b,J s1 s2 s3,aj ak p] 36)).alloc (aH #[aj ak c,aj ak d,J t1 t2 t3,aj ak q] 36));refine C.mono ?_;rintro e w1 ⟨rfl,r⟩;go_wp2;go_ret;exact⟨rfl,B.o.trans (r.mono B.o.size)⟩
theorem Vk (x y:mP) (w:aA):bJ ay 73 #[zy x,zy y] w fun e w'=>e=aI (aj ak (gU (x.1,x.2.1) (y.1,y.2.1)))/\Below w.heap.size w w':=by
 obtain⟨a,b,⟨s1,s2,s3⟩⟩:=x;obtain⟨c,d,⟨t1,t2,t3⟩⟩:=y;have C:=rA (a,b) (c,d);obtain⟨j,X,Y⟩:=gX w #[aj ak a,aj ak b,J s1 s2 s3] #[aj ak c,aj ak d,J t1 t2 t3] 88 88;have u:=X.cell 1;have r:=X.cell 0;have G:=Y.cell 1;have F:=Y.cell 0;simp only [V,Z,ah] at r u F G;have B:=A j;generalize gU (a,b) (c,d)=H at *;clear X Y j;go_enter Tryz.func73,Tryz.ntmps73;go_wp2_with fail;have C:=C ((w.alloc (aH #[aj ak a,aj ak b,J s1 s2 s3] 88)).alloc (aH #[aj ak c,aj ak d,J t1 t2 t3] 88));refine C.mono ?_;rintro e w1 ⟨rfl,q⟩;go_wp2;go_ret;exact⟨rfl,B.o.trans (q.mono B.o.size)⟩
def kL {α:Type} (key:α->fB) (l:List α):Prop:=l.Pairwise fun a b=>eT (key a) (key b)=bF
def fG {α:Type} (key:α->fB) (l:List α) (x:fB):Nat:=(l.takeWhile fun a=>eT (key a) x).length
def gZ {α:Type} (key:α->fB) (l:List α) (x:fB):Bool:=match l[fG key l x]? with
 | some y=>decide (key y=x)
 | none=>aO
theorem iN {α:Type} (key:α->fB) (l:List α) (x:fB):fG key l x=gu (l.map key) x:=by
 unfold fG gu;rw [List.takeWhile_map,aP]
 rfl
theorem Jq {α:Type} (key:α->fB) (l:List α) (x:fB) (k:Nat) (F:∀ (j:Nat) (y:α),j<k->l[j]?=O y->eT (key y) x=bF) (G:k=l.length\/∃ y,l[k]?=O y/\eT (key y) x=aO):fG key l x=k:=by
 rw [iN];refine rD _ _ k (fun j y H h=>?_) ?_
 ·rw [aK] at h;cases q:l[j]? with
  | none=>rw [q] at h; cases h
  | some z=>rw [q] at h; rw [<- aL h]; exact F j z H q
 ·rcases G with h|⟨y,r,u⟩
  ·exact dx (by rw [aP]; exact h)
  ·exact aM ⟨key y,by rw [aK,r]; rfl,u⟩
theorem kM {α:Type} {key:α->fB} {l:List α} (h:kL key l) {i j:Nat} {x y:α} (u:i<j) (F:l[i]?=O x) (G:l[j]?=O y):eT (key x) (key y)=bF:=by
 obtain⟨q,rfl⟩:=aF.1 F;obtain⟨r,rfl⟩:=aF.1 G;exact List.pairwise_iff_getElem.1 h i j q r u
theorem Jr (x y:fB):decide (gU x y<0)=eT x y:=by
 have h:=vO x y;cases j:eT x y
 ·rw [j] at h; simp at h; simpa using h
 ·rw [j] at h; simp at h; simpa using h
theorem tL {α:Type} {key:α->fB} {l:List α} (h:kL key l) (x:fB):gZ key l x=decide (x∈l.map key):=by
 unfold gZ;have b1:fG key l x<=l.length:=by rw [iN]; exact dB (nR _ _) (by simp)
 have a2:∀ (r:Nat) (y:α),r<fG key l x->l[r]?=O y->eT (key y) x=bF:=by
  intro r y q j;have N:(l.takeWhile fun a=>eT (key a) x)[r]?=O y:=by
   have:=List.takeWhile_prefix (fun a=>eT (key a) x) (l:=l);obtain⟨t,N⟩:=this;rw [<- N,List.getElem?_append_left q] at j;exact j
  exact List.all_eq_true.1 List.all_takeWhile y (aV N)
 have a6:∀ (y:α),l[fG key l x]?=O y->eT (key y) x=aO:=by
  intro y j;unfold fG at j;cases a7:eT (key y) x with
  | false=>rfl
  | true =>
   exfalso;have:∀ (m:List α),m[(m.takeWhile fun a=>eT (key a) x).length]?=O y->False:=by
    intro m
    induction m with
    | nil=>intro h; simp at h
    | cons a m a8 =>
     intro h;by_cases I:eT (key a) x=bF
     ·exact a8 (by simpa [List.takeWhile_cons,I] using h)
     ·simp [I] at h;subst h;exact I a7
   exact this l j
 cases j:l[fG key l x]? with
 | none =>
  symm
  rw [decide_eq_false_iff_not];intro M;obtain⟨z,S,G⟩:=bV.1 M;obtain⟨r,q⟩:=bN.1 S;have aE:=(aF.1 q).1;have b2:l.length<=fG key l x:=by
   rcases aT (fG key l x) l.length with H|H
   ·rw [aB H] at j; cases j
   ·exact H
  have:=a2 r z (by omega) q;rw [G,jN] at this;cases this
 | some y =>
  simp only;by_cases F:key y=x
  ·rw [decide_eq_true F]
   symm
   rw [decide_eq_true_eq];exact bV.2 ⟨y,aV j,F⟩
  ·rw [decide_eq_false F]
   symm
   rw [decide_eq_false_iff_not];intro M;obtain⟨z,S,G⟩:=bV.1 M;obtain⟨r,q⟩:=bN.1 S;rcases Nat.lt_trichotomy r (fG key l x) with u|u|u
   ·have:=a2 r z u q;rw [G,jN] at this;cases this
   ·subst u;rw [j] at q;rw [aL q] at F;exact F G
   ·have T:=kM h u j q;have a1:=a6 y j;rw [G] at T;rw [T] at a1;cases a1
end Av
namespace Bk
open Go.RowKit Go.Sort Rw YtghlpefopidlaaaGreat.Nm Pr
structure Am (b:Br):Prop where
 near:b.near.length<=900
 dQ:b.dQ.length<=900
 seen:b.seen.length<=900
 ent:b.ent.length<=900
 own:b.own.length<=900
end Bk
namespace Av
open Go.RowKit Go.Sort Rw YtghlpefopidlaaaGreat.Nm Pr Bk
abbrev YO (W:aA) (b:Nat) (a0 a1 a2 a3:aC):aA:=(((W.setCell ⟨b,0,L⟩ a0).setCell ⟨b,1,L⟩ a1).setCell ⟨b,2,L⟩ a2).setCell ⟨b,3,L⟩ a3
theorem E8 {W:aA} {b:Nat} {t:bG} {z0 u F z3:aC} (h:dN W b #[z0,u,F,z3] t) (a0 j q a3:aC):dN (YO W b a0 j q a3) b #[a0,j,q,a3] t:=by
 have r:=eD (k:=3) (eD (k:=2) (eD (k:=1) (eD (k:=0) h a0) j) q) a3;simpa using r
theorem yO {B:Nat} {q W:aA} {b:Nat} (h:Below B q W) (j:B<=b) (a0 r u a3:aC):Below B q (YO W b a0 r u a3) :=
 (((h.setCell (p:=⟨b,0,L⟩) j a0).setCell (p:=⟨b,1,L⟩) j r).setCell (p:=⟨b,2,L⟩) j u).setCell (p:=⟨b,3,L⟩) j a3
theorem Nn {α:Type} {E:Ek α} {W:aA} {B:Nat} {v:aC} {l:List α} (h:Own E W B v l) (b:Nat) (j:b<B) (a0 q r a3:aC):Own E (YO W b a0 q r a3) B v l :=
 eF (eF (eF (eF h b 0 a0 j) b 1 q j) b 2 r j) b 3 a3 j
theorem Fa (x:ku) (p:List C5) (w:aA) (T:fO w (eu x.2.2.1) p) (N:p.length<=900) :
  bJ ay 35 #[nC x] w fun e w'=>(∃ a2:Sl,e=aI (nC (x.1,x.2.1,a2,x.2.2.2))/\iH w' w.heap.size (eu a2) p)/\Below w.heap.size w w':=by
 obtain⟨a,b,⟨s1,s2,s3⟩,q⟩:=x;obtain⟨G,X,Y⟩:=gX w #[aj ak a,aj ak b,J s1 s2 s3,aj ak q] #[aj ak 0,aj ak 0,J L 0 0,aj ak 0] 36 36;have C:=A (oJ (s1,s2,s3) p _ (T.on G) N);have B:=A G;have I:=X.cell 2;simp only [V,Z,ah] at I;have X:=A X;have Y:=A Y;clear G T N;go_enter Tryz.func35,Tryz.ntmps35;go_wp2_with fail;generalize (w.alloc (aH #[aj ak a,aj ak b,J s1 s2 s3,aj ak q] 36)).alloc (aH #[aj ak 0,aj ak 0,J L 0 0,aj ak 0] 36)=W at *;refine C.o.mono ?_;rintro e w1 ⟨⟨⟨j,u2,u3⟩,rfl,S⟩,F⟩;have r:=X.o.on F;have M:=Y.o.on F;have H:w.heap.size<W.heap.size:=X.o.lt;have b4:=A (eF S w.heap.size 2 (J j u2 u3) H);have b5:=A (show dN _ _ #[aj ak a,aj ak b,J j u2 u3,aj ak q] _ from by simpa using eD (k:=2) r (J j u2 u3));have u:=A (show dN _ _ _ _ from (aG w1 ⟨w.heap.size,2,L⟩ (J j u2 u3) _ (show w.heap.size+1≠w.heap.size by omega)).trans M);have a7:=A ((B.o.trans (F.mono B.o.size)).setCell (p:=⟨w.heap.size,2,L⟩) (bQ _) (J j u2 u3));have a6:=r.cell 2;have b6:=r.fr 2;have b9:=r.lt;simp only [V,Z,ah] at a6;clear r M S F I C;go_upto_region 2 with fail;clear a6 b6 b9;generalize w1.setCell ⟨w.heap.size,2,L⟩ (J j u2 u3)=bI at *;obtain⟨bM,bO,I,bP⟩:=b5.o.Ib;obtain⟨bA,bB,bC,bE⟩:=u.o.Ib;obtain⟨t0,t1,t2,t3⟩:=u.o.fs4;have bT:=u.o.lt;have a1:w.heap.size+1<W.heap.size:=Y.o.lt;have aE:=A (E8 u.o (aj ak a) (aj ak b) (J j u2 u3) (aj ak q));have a8:=A (yO (b:=w.heap.size+1) a7.o (by omega) (aj ak a) (aj ak b) (J j u2 u3) (aj ak q));have b1:=A (Nn b4.o (w.heap.size+1) a1 (aj ak a) (aj ak b) (J j u2 u3) (aj ak q));have b2:=A H;clear H a1;go_wp2_with fail;obtain⟨v0,b7,b8,v3⟩:=aE.o.Ib;refine bodyPost_ret (v:=.agg #[aj ak a,aj ak b,J j u2 u3,aj ak q]) (by simp [results,Tryz.results35,go_sem,v0,b7,b8,v3]) rfl ?_;exact⟨⟨(j,u2,u3),rfl,dO b1.o (bY b2.o)⟩,a8.o⟩
end Av
namespace Bk
open Go.RowKit Go.Sort Rw YtghlpefopidlaaaGreat.Nm Pr
theorem o7 {W:aA} {b:Nat} {z0 b6 b7 z3 z4 z5:aC} (h:dN W b #[z0,b6,b7,z3,z4,z5] 30) (me:Int) (G H I M N:OA) (j c1 q c2 r c3 u c4 F c5:Nat) :
  (aZ 30 (U (O ⟨b,0,L⟩)) (.agg #[aj ak me,J G j c1,J H q c2,J I r c3,J M u c4,J N F c5])).run ay W=.ok () (gH W b (aj ak me) (J G j c1) (J H q c2) (J I r c3) (J M u c4) (J N F c5)):=by
 obtain⟨a8,aE,b1,b2,b4,b5⟩:=h.fA;obtain⟨S,T,a1,a2,a6,a7⟩:=h.kg;simp [go_sem,a8,aE,b1,b2,b4,b5,S,T,a1,a2,a6,a7]
theorem sN {W:aA} {b:Nat} {z0 j q z3 z4 z5:aC} (h:dN W b #[z0,j,q,z3,z4,z5] 30):(Instr.loadAt 30 (U (O ⟨b,0,L⟩))).run ay W=.ok (.agg #[z0,j,q,z3,z4,z5]) W:=by
 obtain⟨r,u,F,G,H,I⟩:=h.fA;simp [go_sem,r,u,F,G,H,I]
theorem xB {P:Program} (j:Operand->aC) (o:Oper) (x y z:Operand) (t s N:bG) (f:FuncId) (G:o.op=.call { callee:=.value (.func f),args:=#[x,y,z],argTypes:=#[t,s,N] }) {v r q:aC} (H:j x=v) (I:j y=r) (M:j z=q) (F:j (.func f)=.func (.func f) #[] #[]) (w:aA)
  (u:(callFunc f #[v,r,q]).run P w=.ok (.enter f #[v,r,q]) w):(execOp j o).run P w=.ok (.enter f #[v,r,q]) w:=by
 simp [execOp,G,resolve,invoke,H,I,M,F,Deferred.ofValue,u]
theorem Te {W:aA} {b:Nat} {c d:Int} (h:dN W b #[aj ak c,aj ak d] 23):∀ j r,(kZ (c,d))[j]?=O r->W.cell? ((⟨b,0,L⟩:Addr).add j)=O r:=by
 intro j r q;rw [mO,h.cell]
 match j with
 | 0=>exact q
 | 1=>exact q
 | j+2=>simp at q
end Bk
namespace Av
open Go.RowKit Go.Sort Rw YtghlpefopidlaaaGreat.Nm Pr Bk
def adD (B:Nat) (j:Nat) (_:Int) (_ _ _:aC) (F:OA) (q c1:Nat) (u:List Int) (G:OA) (r c3:Nat) (sl:List fB) (i:Nat) (v:aC) (x:aA):Prop :=
 match i with
 | 0=>v=U (O ⟨j,1,L⟩)
 | 1=>v=J F q c1
 | 2=>∃ s:Sl,v=eu s/\zk x B v u
 | 3=>v=U (O ⟨j,3,L⟩)
 | 4=>v=J G r c3
 | 5=>∃ s:Sl,v=eu s/\tq x B v sl
 | 6=>v=U (O ⟨j,1,L⟩)
 | _=>True
noncomputable def akA:Code:=((Tryz.f33.body.bind (eX 1)).getD .skip)
theorem adE (B:Nat) (r:Nat) (me:Int) (S z4 z5:aC) (I:OA) (F c1:Nat) (H:List Int) (M:OA) (G c3:Nat) (sl:List fB) (i:Nat) (v:aC) (x N:aA) (h:adD B r me S z4 z5 I F c1 H M G c3 sl i v x) (u:Below x.heap.size x N):adD B r me S z4 z5 I F c1 H M G c3 sl i v N:=by
 by_cases T:i<7
 ·rcases (by omega:i=0\/i=1\/i=2\/i=3\/i=4\/i=5\/i=6) with rfl|rfl|rfl|rfl|rfl|rfl|rfl
  ·exact h
  ·exact h
  ·obtain⟨s,j,q⟩:=h; exact⟨s,j,Bk.dK q u⟩
  ·exact h
  ·exact h
  ·obtain⟨s,j,q⟩:=h; exact⟨s,j,Bk.dK q u⟩
  ·exact h
 ·unfold adD
  split <;> first | omega | trivial
theorem cp1 (Q:Exit->Act->aA->Prop) (W:aA) (q:Nat) (me:Int) (aE z4 z5:aC) (a8:OA) (a6 c1:Nat) (a7:List Int) (a1:OA) (T c3:Nat) (sl:List fB) {bA u2 u3 cQ d2 u6 u7 fR u9 fL u11 fN u13 bB bC bE bI bM bO bP bT bW bX c6 c7 c8 c9 cA cC cD cF cG cH cI cJ cL cM cN cP cR cS cT cU cV cW cX cY d0 d1 d3 d4 d5 d6 d7 d8 d9 dA dC dE dS dT dZ e0 e1 e2 e3 e4 e5 e6 e7 e8 e9 eA eB eC eE eI eJ eK eL eM:aC}
  (N:dN W q #[aj ak me,J a8 a6 c1,aE,J a1 T c3,z4,z5] 30) (f7:sW W (J a8 a6 c1) a7) (f8:yL W (J a1 T c3) sl) (f5:a7.length<=900) (f6:sl.length<=900)
  (eS:∀ (x:aA) {fY g0 g1 v9 fS fV fW fX:aC} (r:OA) (F s1:Nat) (G:OA) (H s3:Nat),dN x q #[aj ak me,J r F s1,aE,J G H s3,z4,z5] 30->zk x W.heap.size (J r F s1) a7->tq x W.heap.size (J G H s3) sl->(∀ B,B<=q->Below B W x)->(∀ k,k<W.heap.size->k≠q->x.heap[k]?=W.heap[k]?)->Q .normal ⟨(bA::U (O ⟨q,0,L⟩)::u2::u3::cQ::d2::fY::g0::g1::v9::fS::fV::fW::fX::bB::bC::bE::bI::bM::bO::bP::bT::bW::bX::c6::c7::c8::c9::cA::cC::cD::cF::cG::cH::cI::cJ::cL::cM::cN::cP::cR::cS::cT::cU::cV::cW::cX::cY::d0::d1::d3::d4::d5::d6::d7::d8::d9::dA::dC::dE::dS::dT::dZ::e0::e1::e2::e3::e4::e5::e6::e7::e8::e9::eA::eB::eC::eE::eI::eJ::eK::eL::eM::[]).toArray,[]⟩ x) :
  Code.wp ay akA Q ⟨(bA::U (O ⟨q,0,L⟩)::u2::u3::cQ::d2::u6::u7::fR::u9::fL::u11::fN::u13::bB::bC::bE::bI::bM::bO::bP::bT::bW::bX::c6::c7::c8::c9::cA::cC::cD::cF::cG::cH::cI::cJ::cL::cM::cN::cP::cR::cS::cT::cU::cV::cW::cX::cY::d0::d1::d3::d4::d5::d6::d7::d8::d9::dA::dC::dE::dS::dT::dZ::e0::e1::e2::e3::e4::e5::e6::e7::e8::e9::eA::eB::eC::eE::eI::eJ::eK::eL::eM::[]).toArray,[]⟩ W:=by
 have eN:=A eS;have b5:=A N;have g6:=A f7;have g7:=A f8;have g4:=A f5;have g5:=A f6;clear eS N f7 f8 f5 f6;have f3:=adE W.heap.size q me aE z4 z5 a8 a6 c1 a7 a1 T c3 sl;unfold akA
 conv=>arg 2; whnf
 have nd:∀ j,(j<6\/13<=j)->∀ i,i<7->(fun i=>6+i) i≠j:=by
  intro j b9 i eV h;simp only at h;omega
 refine Rg.gN 10 7 (fun i=>6+i) (fun _=>7) (adD W.heap.size q me aE z4 z5 a8 a6 c1 a7 a1 T c3 sl) (by kernel_rfl) (by kernel_rfl) rfl (by decide) (fun i j _ _ h=>by have h2:6+i=6+j:=h; omega) (fun i eV=>by show 6+i<82; omega) ?_ (fun _=>Rg.kJ 14 (by kernel_rfl)) ?_ ?_
 ·intro i o eV M a x D hD hC hA I seen K S;clear eN;rcases (by omega:i=0\/i=1\/i=2\/i=3\/i=4\/i=5\/i=6) with rfl|rfl|rfl|rfl|rfl|rfl|rfl
  ·cases M;have b1:a.eval (aD 1)=U (O ⟨q,0,L⟩):=seen.kp 1 _ (nd 1 (by omega)) rfl;exact aQ rfl rfl (bg a.eval _ 30 (aD 1) 1 rfl (by rw [b1]; simp [go_sem])) (S _ _ rfl (au _ _) fun _ _ _ _ _ _ _ h=>h)
  ·cases M;have gA:a.eval (aD 6)=U (O ⟨q,1,L⟩):=seen.at_ ⟨0,.data⟩ (by simp) rfl (aM (by decide));have g2:=(b5.o.on I).cell 1;simp only [V,Z,ah] at g2;exact aQ rfl rfl (dh a.eval _ 24 (aD 6) rfl (by rw [gA]; simp [go_sem,g2])) (S _ _ rfl (au _ _) fun _ _ _ _ _ _ _ h=>h)
  ·cases M;have gC:a.eval (aD 7)=J a8 a6 c1:=seen.at_ ⟨1,.data⟩ (by simp) rfl (aM (by decide));exact dG rfl rfl (Rw.jq a.eval _ (aD 7) 24 39 rfl gC rfl _ (gB Tryz.func39 rfl rfl _ _)) (Ev (a8,a6,c1) a7 x (g6.o.on I) g4.o) fun e w1 h=>by
    obtain⟨⟨s,rfl,N⟩,b2⟩:=h;exact⟨_,rfl,S _ _ ⟨s,rfl,dO N I.size⟩ (b2.mono I.size) fun j u b9 _ _ _ b6 h=>f3 j u _ _ h b2⟩
  ·cases M;have b1:a.eval (aD 1)=U (O ⟨q,0,L⟩):=seen.kp 1 _ (nd 1 (by omega)) rfl;exact aQ rfl rfl (bg a.eval _ 30 (aD 1) 3 rfl (by rw [b1]; simp [go_sem])) (S _ _ rfl (au _ _) fun _ _ _ _ _ _ _ h=>h)
  ·cases M;have gE:a.eval (aD 9)=U (O ⟨q,3,L⟩):=seen.at_ ⟨3,.data⟩ (by simp) rfl (aM (by decide));have g3:=(b5.o.on I).cell 3;simp only [V,Z,ah] at g3;exact aQ rfl rfl (dh a.eval _ 26 (aD 9) rfl (by rw [gE]; simp [go_sem,g3])) (S _ _ rfl (au _ _) fun _ _ _ _ _ _ _ h=>h)
  ·cases M;have g9:a.eval (aD 10)=J a1 T c3:=seen.at_ ⟨4,.data⟩ (by simp) rfl (aM (by decide));exact dG rfl rfl (Rw.jq a.eval _ (aD 10) 26 99 rfl g9 rfl _ (gB Tryz.func99 rfl rfl _ _)) (Qx (a1,T,c3) sl x (g7.o.on I) g5.o) fun e w1 h=>by
    obtain⟨⟨s,rfl,N⟩,b2⟩:=h;exact⟨_,rfl,S _ _ ⟨s,rfl,dO N I.size⟩ (b2.mono I.size) fun j u b9 _ _ _ b6 h=>f3 j u _ _ h b2⟩
  ·cases M;have b1:a.eval (aD 1)=U (O ⟨q,0,L⟩):=seen.kp 1 _ (nd 1 (by omega)) rfl;exact aQ rfl rfl (bg a.eval _ 30 (aD 1) 1 rfl (by rw [b1]; simp [go_sem])) (S _ _ rfl (au _ _) fun _ _ _ _ _ _ _ h=>h)
 ·intro f4 o N h2 M;rcases (by omega:f4=8\/f4=9) with rfl|rfl
  ·cases M;exact⟨⟨7,.phase⟩,by simp,rfl,rfl⟩
  ·cases M;exact⟨⟨8,.data⟩,by simp,rfl,rfl⟩
 ·intro a w' df sz kp ⟨h9,a2⟩ I;have f9:a.tmps.size=82:=sz;have gR:a.tmps[1]?=O (U (O ⟨q,0,L⟩)):=(kp 1 (nd 1 (by omega))).trans rfl;have h0:a.tmps[12]?=O (U (O ⟨q,1,L⟩)):=by
   have h:h9 6=U (O ⟨q,1,L⟩):=(a2 6 (by omega)).2 (by decide);rw [<- h];exact (a2 6 (by omega)).1
  obtain⟨⟨r,F,s1⟩,f1,eW⟩:=(a2 2 (by omega)).2 (by decide);have h1:a.tmps[8]?=O (J r F s1):=((a2 2 (by omega)).1).trans (congrArg O f1);rw [f1] at eW;obtain⟨⟨G,H,s3⟩,f2,f0⟩:=(a2 5 (by omega)).2 (by decide);have gS:a.tmps[11]?=O (J G H s3):=((a2 5 (by omega)).1).trans (congrArg O f2);rw [f2] at f0;have hB:=b5.o.on I;have b4:=b5.o.lt;show dH _ _ _ 3 7 a w';simp only [dH];have eQ:=hB.cell 1;have gI:=hB.fr 1;simp only [V,Z,ah] at eQ;refine Rg.gq 24 (aD 12) (aD 8) rfl rfl rfl rfl (aW h0) (aW h1) (w':=(w').setCell ⟨q,1,L⟩ (J r F s1)) (by simp [go_sem,eQ,gI]) ?_;have b7:dN ((w').setCell ⟨q,1,L⟩ (J r F s1)) q #[aj ak me,J r F s1,aE,J a1 T c3,z4,z5] 30:=by simpa using eD (k:=1) hB (J r F s1)
  refine aQ rfl rfl (bg _ _ 30 (aD 1) 3 rfl (v:=U (O ⟨q,3,L⟩)) (by rw [aW gR]; simp [go_sem])) ?_;have g8:((a).put (O 13) (U (O ⟨q,3,L⟩))).tmps[13]?=O (U (O ⟨q,3,L⟩)):=by simp [bR,f9]
  show Go.wpOp _ _ _ 9 _ ((a).put (O 13) (U (O ⟨q,3,L⟩))) _;have eR:=b7.cell 3;have gO:=b7.fr 3;simp only [V,Z,ah] at eR;refine Rg.gq 26 (aD 13) (aD 11) rfl rfl rfl rfl (aW g8) (aW ((aR _ 13 _ 11 (by decide)).trans gS)) (w':=((w').setCell ⟨q,1,L⟩ (J r F s1)).setCell ⟨q,3,L⟩ (J G H s3)) (by simp [go_sem,eR,gO]) ?_;have h3:dN (((w').setCell ⟨q,1,L⟩ (J r F s1)).setCell ⟨q,3,L⟩ (J G H s3)) q #[aj ak me,J r F s1,aE,J G H s3,z4,z5] 30:=by simpa using eD (k:=3) b7 (J G H s3)
  have h8:∀ j,(j<6\/14<=j)->((a).put (O 13) (U (O ⟨q,3,L⟩))).tmps[j]?=(bA::U (O ⟨q,0,L⟩)::u2::u3::cQ::d2::u6::u7::fR::u9::fL::u11::fN::u13::bB::bC::bE::bI::bM::bO::bP::bT::bW::bX::c6::c7::c8::c9::cA::cC::cD::cF::cG::cH::cI::cJ::cL::cM::cN::cP::cR::cS::cT::cU::cV::cW::cX::cY::d0::d1::d3::d4::d5::d6::d7::d8::d9::dA::dC::dE::dS::dT::dZ::e0::e1::e2::e3::e4::e5::e6::e7::e8::e9::eA::eB::eC::eE::eI::eJ::eK::eL::eM::[])[j]?:=fun j b9=>(aR _ 13 _ j (by omega)).trans ((kp j (nd j (by omega))).trans V);obtain⟨h7,h6,h4⟩:=Rg.gG (a:=(a).put (O 13) (U (O ⟨q,3,L⟩))) 6 8 df (by simp [Rg.size_put,f9]) (by simp) h8;show Q .normal ((a).put (O 13) (U (O ⟨q,3,L⟩))) _;rw [h4]
  match h7,h6 with
  | [fY,g0,g1,v9,fS,fV,fW,fX],_ =>
   exact eN.o _ r F s1 G H s3 h3 (eF (eF eW q 1 (J r F s1) b4) q 3 (J G H s3) b4) (eF (eF f0 q 1 (J r F s1) b4) q 3 (J G H s3) b4) (fun B b8=>(((I.mono (bY (bU b8 b4))).setCell (p:=⟨q,1,L⟩) b8 (J r F s1)).setCell (p:=⟨q,3,L⟩) b8 (J G H s3))) (fun k h5 b6=>((aG ((w').setCell ⟨q,1,L⟩ (J r F s1)) ⟨q,3,L⟩ (J G H s3) k b6).trans ((aG (w') ⟨q,1,L⟩ (J r F s1) k b6).trans (I.block k h5))))
def adF (B:Nat) (j:Nat) (_:Int) (_ _:aC) (F:OA) (q c2:Nat) (al:List ku) (G:OA) (r c4:Nat) (el:List iY) (H:OA) (u c5:Nat) (ol:List mP) (i:Nat) (v:aC) (x:aA):Prop :=
 match i with
 | 0=>v=U (O ⟨j,2,L⟩)
 | 1=>v=J F q c2
 | 2=>∃ s:Sl,v=eu s/\nD x B v al
 | 3=>v=U (O ⟨j,4,L⟩)
 | 4=>v=J G r c4
 | 5=>∃ s:Sl,v=eu s/\jJ x B v el
 | 6=>v=U (O ⟨j,5,L⟩)
 | 7=>v=J H u c5
 | 8=>∃ s:Sl,v=eu s/\nO x B v ol
 | 9=>v=U (O ⟨j,2,L⟩)
 | _=>True
noncomputable def akB:Code:=((Tryz.f33.body.bind (eX 2)).getD .skip)
theorem adG (B:Nat) (u:Nat) (me:Int) (T z3:aC) (I:OA) (F c2:Nat) (al:List ku) (M:OA) (G c4:Nat) (el:List iY) (N:OA) (H c5:Nat) (ol:List mP) (i:Nat) (v:aC) (x S:aA) (h:adF B u me T z3 I F c2 al M G c4 el N H c5 ol i v x) (r:Below x.heap.size x S):adF B u me T z3 I F c2 al M G c4 el N H c5 ol i v S:=by
 by_cases a1:i<10
 ·rcases (by omega:i=0\/i=1\/i=2\/i=3\/i=4\/i=5\/i=6\/i=7\/i=8\/i=9) with rfl|rfl|rfl|rfl|rfl|rfl|rfl|rfl|rfl|rfl
  ·exact h
  ·exact h
  ·obtain⟨s,j,q⟩:=h; exact⟨s,j,Bk.dK q r⟩
  ·exact h
  ·exact h
  ·obtain⟨s,j,q⟩:=h; exact⟨s,j,Bk.dK q r⟩
  ·exact h
  ·exact h
  ·obtain⟨s,j,q⟩:=h; exact⟨s,j,Bk.dK q r⟩
  ·exact h
 ·unfold adF
  split <;> first | omega | trivial
theorem cp2 (Q:Exit->Act->aA->Prop) (W:aA) (q:Nat) (me:Int) (b5 z3:aC) (b8:OA) (b7 c2:Nat) (al:List ku) (b4:OA) (b2 c4:Nat) (el:List iY) (aE:OA) (a8 c5:Nat) (ol:List mP) {bP u2 u3 cM cY u6 u7 eI u9 bT u11 bW u13 fL fN fR fS fV fW fX fY g0 g1 g2 g3 bX c6 c7 c8 c9 cA cC cD cF cG cH cI cJ cL cN cP cQ cR cS cT cU cV cW cX d0 d1 d2 d3 d4 d5 d6 d7 d8 d9 dA dC dE dS dT dZ e0 e1 e2 e3 e4 e5 e6 e7 e8 e9 eA eB eC eE eJ eK:aC}
  (a2:dN W q #[aj ak me,b5,J b8 b7 c2,z3,J b4 b2 c4,J aE a8 c5] 30) (f8:zx W (J b8 b7 c2) al) (f9:mF W (J b4 b2 c4) el) (r5:Ij W (J aE a8 c5) ol) (f5:al.length<=900) (f6:el.length<=900) (f7:ol.length<=900)
  (eS:∀ (x:aA) {g4 g5 g6 g7 g8 g9 gA gC v22 gE gI gO:aC} (r:OA) (F s2:Nat) (G:OA) (H s4:Nat) (N:OA) (S s5:Nat),dN x q #[aj ak me,b5,J r F s2,z3,J G H s4,J N S s5] 30->nD x W.heap.size (J r F s2) al->jJ x W.heap.size (J G H s4) el->nO x W.heap.size (J N S s5) ol->(∀ B,B<=q->Below B W x)->(∀ k,k<W.heap.size->k≠q->x.heap[k]?=W.heap[k]?)->Q .normal ⟨(bP::U (O ⟨q,0,L⟩)::u2::u3::cM::cY::u6::u7::eI::u9::bT::u11::bW::u13::g4::g5::g6::g7::g8::g9::gA::gC::v22::gE::gI::gO::bX::c6::c7::c8::c9::cA::cC::cD::cF::cG::cH::cI::cJ::cL::cN::cP::cQ::cR::cS::cT::cU::cV::cW::cX::d0::d1::d2::d3::d4::d5::d6::d7::d8::d9::dA::dC::dE::dS::dT::dZ::e0::e1::e2::e3::e4::e5::e6::e7::e8::e9::eA::eB::eC::eE::eJ::eK::[]).toArray,[]⟩ x) :
  Code.wp ay akB Q ⟨(bP::U (O ⟨q,0,L⟩)::u2::u3::cM::cY::u6::u7::eI::u9::bT::u11::bW::u13::fL::fN::fR::fS::fV::fW::fX::fY::g0::g1::g2::g3::bX::c6::c7::c8::c9::cA::cC::cD::cF::cG::cH::cI::cJ::cL::cN::cP::cQ::cR::cS::cT::cU::cV::cW::cX::d0::d1::d2::d3::d4::d5::d6::d7::d8::d9::dA::dC::dE::dS::dT::dZ::e0::e1::e2::e3::e4::e5::e6::e7::e8::e9::eA::eB::eC::eE::eJ::eK::[]).toArray,[]⟩ W:=by
 have eL:=A eS;have b9:=A a2;have h4:=A f8;have h5:=A f9;have h6:=A r5;have h1:=A f5;have h2:=A f6;have h3:=A f7;clear eS a2 f8 f9 r5 f5 f6 f7;have bM:=adG W.heap.size q me b5 z3 b8 b7 c2 al b4 b2 c4 el aE a8 c5 ol;unfold akB
 conv=>arg 2; whnf
 have nd:∀ j,(j<14\/24<=j)->∀ i,i<10->(fun i=>14+i) i≠j:=by
  intro j bB i eV h;simp only at h;omega
 refine Rg.gN 15 10 (fun i=>14+i) (fun _=>10) (adF W.heap.size q me b5 z3 b8 b7 c2 al b4 b2 c4 el aE a8 c5 ol) (by kernel_rfl) (by kernel_rfl) rfl (by decide) (fun i j _ _ h=>by have hN:14+i=14+j:=h; omega) (fun i eV=>by show 14+i<82; omega) ?_ (fun _=>Rg.kJ 14 (by kernel_rfl)) ?_ ?_
 ·intro i o eV M a x D hX hW hV I seen K T;clear eL;rcases (by omega:i=0\/i=1\/i=2\/i=3\/i=4\/i=5\/i=6\/i=7\/i=8\/i=9) with rfl|rfl|rfl|rfl|rfl|rfl|rfl|rfl|rfl|rfl
  ·cases M;have b1:a.eval (aD 1)=U (O ⟨q,0,L⟩):=seen.kp 1 _ (nd 1 (by omega)) rfl;exact aQ rfl rfl (bg a.eval _ 30 (aD 1) 2 rfl (by rw [b1]; simp [go_sem])) (T _ _ rfl (au _ _) fun _ _ _ _ _ _ _ h=>h)
  ·cases M;have h9:a.eval (aD 14)=U (O ⟨q,2,L⟩):=seen.at_ ⟨0,.data⟩ (by simp) rfl (aM (by decide));have gR:=(b9.o.on I).cell 2;simp only [V,Z,ah] at gR;exact aQ rfl rfl (dh a.eval _ 25 (aD 14) rfl (by rw [h9]; simp [go_sem,gR])) (T _ _ rfl (au _ _) fun _ _ _ _ _ _ _ h=>h)
  ·cases M;have hA:a.eval (aD 15)=J b8 b7 c2:=seen.at_ ⟨1,.data⟩ (by simp) rfl (aM (by decide));exact dG rfl rfl (Rw.jq a.eval _ (aD 15) 25 100 rfl hA rfl _ (gB Tryz.func100 rfl rfl _ _)) (Qy (b8,b7,c2) al x (h4.o.on I) h1.o) fun e w1 h=>by
    obtain⟨⟨s,rfl,a2⟩,a6⟩:=h;exact⟨_,rfl,T _ _ ⟨s,rfl,dO a2 I.size⟩ (a6.mono I.size) fun j u bB _ _ _ b6 h=>bM j u _ _ h a6⟩
  ·cases M;have b1:a.eval (aD 1)=U (O ⟨q,0,L⟩):=seen.kp 1 _ (nd 1 (by omega)) rfl;exact aQ rfl rfl (bg a.eval _ 30 (aD 1) 4 rfl (by rw [b1]; simp [go_sem])) (T _ _ rfl (au _ _) fun _ _ _ _ _ _ _ h=>h)
  ·cases M;have hC:a.eval (aD 17)=U (O ⟨q,4,L⟩):=seen.at_ ⟨3,.data⟩ (by simp) rfl (aM (by decide));have gS:=(b9.o.on I).cell 4;simp only [V,Z,ah] at gS;exact aQ rfl rfl (dh a.eval _ 27 (aD 17) rfl (by rw [hC]; simp [go_sem,gS])) (T _ _ rfl (au _ _) fun _ _ _ _ _ _ _ h=>h)
  ·cases M;have hD:a.eval (aD 18)=J b4 b2 c4:=seen.at_ ⟨4,.data⟩ (by simp) rfl (aM (by decide));exact dG rfl rfl (Rw.jq a.eval _ (aD 18) 27 101 rfl hD rfl _ (gB Tryz.func101 rfl rfl _ _)) (Qz (b4,b2,c4) el x (h5.o.on I) h2.o) fun e w1 h=>by
    obtain⟨⟨s,rfl,a2⟩,a6⟩:=h;exact⟨_,rfl,T _ _ ⟨s,rfl,dO a2 I.size⟩ (a6.mono I.size) fun j u bB _ _ _ b6 h=>bM j u _ _ h a6⟩
  ·cases M;have b1:a.eval (aD 1)=U (O ⟨q,0,L⟩):=seen.kp 1 _ (nd 1 (by omega)) rfl;exact aQ rfl rfl (bg a.eval _ 30 (aD 1) 5 rfl (by rw [b1]; simp [go_sem])) (T _ _ rfl (au _ _) fun _ _ _ _ _ _ _ h=>h)
  ·cases M;have hE:a.eval (aD 20)=U (O ⟨q,5,L⟩):=seen.at_ ⟨6,.data⟩ (by simp) rfl (aM (by decide));have h0:=(b9.o.on I).cell 5;simp only [V,Z,ah] at h0;exact aQ rfl rfl (dh a.eval _ 28 (aD 20) rfl (by rw [hE]; simp [go_sem,h0])) (T _ _ rfl (au _ _) fun _ _ _ _ _ _ _ h=>h)
  ·cases M;have hF:a.eval (aD 21)=J aE a8 c5:=seen.at_ ⟨7,.data⟩ (by simp) rfl (aM (by decide));exact dG rfl rfl (Rw.jq a.eval _ (aD 21) 28 102 rfl hF rfl _ (gB Tryz.func102 rfl rfl _ _)) (QA (aE,a8,c5) ol x (h6.o.on I) h3.o) fun e w1 h=>by
    obtain⟨⟨s,rfl,a2⟩,a6⟩:=h;exact⟨_,rfl,T _ _ ⟨s,rfl,dO a2 I.size⟩ (a6.mono I.size) fun j u bB _ _ _ b6 h=>bM j u _ _ h a6⟩
  ·cases M;have b1:a.eval (aD 1)=U (O ⟨q,0,L⟩):=seen.kp 1 _ (nd 1 (by omega)) rfl;exact aQ rfl rfl (bg a.eval _ 30 (aD 1) 2 rfl (by rw [b1]; simp [go_sem])) (T _ _ rfl (au _ _) fun _ _ _ _ _ _ _ h=>h)
 ·intro bC o a2 hN M;rcases (by omega:bC=11\/bC=12\/bC=13\/bC=14) with rfl|rfl|rfl|rfl
  ·cases M;exact⟨⟨10,.phase⟩,by simp,rfl,rfl⟩
  ·cases M;exact⟨⟨11,.data⟩,by simp,rfl,rfl⟩
  ·cases M;exact⟨⟨12,.phase⟩,by simp,rfl,rfl⟩
  ·cases M;exact⟨⟨13,.data⟩,by simp,rfl,rfl⟩
 ·intro a w' df sz kp ⟨hU,a7⟩ I;have bO:a.tmps.size=82:=sz;have eR:a.tmps[1]?=O (U (O ⟨q,0,L⟩)):=(kp 1 (nd 1 (by omega))).trans rfl;have hM:a.tmps[23]?=O (U (O ⟨q,2,L⟩)):=by
   have h:hU 9=U (O ⟨q,2,L⟩):=(a7 9 (by omega)).2 (by decide);rw [<- h];exact (a7 9 (by omega)).1
  obtain⟨⟨r,F,s2⟩,f2,eW⟩:=(a7 2 (by omega)).2 (by decide);have hJ:a.tmps[16]?=O (J r F s2):=((a7 2 (by omega)).1).trans (congrArg O f2);rw [f2] at eW;obtain⟨⟨G,H,s4⟩,f3,f0⟩:=(a7 5 (by omega)).2 (by decide);have hK:a.tmps[19]?=O (J G H s4):=((a7 5 (by omega)).1).trans (congrArg O f3);rw [f3] at f0;obtain⟨⟨N,S,s5⟩,f4,f1⟩:=(a7 8 (by omega)).2 (by decide);have hL:a.tmps[22]?=O (J N S s5):=((a7 8 (by omega)).1).trans (congrArg O f4);rw [f4] at f1;have hB:=b9.o.on I;have a1:=b9.o.lt;show dH _ _ _ 5 10 a w';simp only [dH];have eM:=hB.cell 2;have hG:=hB.fr 2;simp only [V,Z,ah] at eM;refine Rg.gq 25 (aD 23) (aD 16) rfl rfl rfl rfl (aW hM) (aW hJ) (w':=(w').setCell ⟨q,2,L⟩ (J r F s2)) (by simp [go_sem,eM,hG]) ?_;have bE:dN ((w').setCell ⟨q,2,L⟩ (J r F s2)) q #[aj ak me,b5,J r F s2,z3,J b4 b2 c4,J aE a8 c5] 30:=by simpa using eD (k:=2) hB (J r F s2)
  refine aQ rfl rfl (bg _ _ 30 (aD 1) 4 rfl (v:=U (O ⟨q,4,L⟩)) (by rw [aW eR]; simp [go_sem])) ?_;have h7:((a).put (O 24) (U (O ⟨q,4,L⟩))).tmps[24]?=O (U (O ⟨q,4,L⟩)):=by simp [bR,bO]
  show Go.wpOp _ _ _ 12 _ ((a).put (O 24) (U (O ⟨q,4,L⟩))) _;have eN:=bE.cell 4;have hH:=bE.fr 4;simp only [V,Z,ah] at eN;refine Rg.gq 27 (aD 24) (aD 19) rfl rfl rfl rfl (aW h7) (aW ((aR _ 24 _ 19 (by decide)).trans hK)) (w':=((w').setCell ⟨q,2,L⟩ (J r F s2)).setCell ⟨q,4,L⟩ (J G H s4)) (by simp [go_sem,eN,hH]) ?_;have bI:dN (((w').setCell ⟨q,2,L⟩ (J r F s2)).setCell ⟨q,4,L⟩ (J G H s4)) q #[aj ak me,b5,J r F s2,z3,J G H s4,J aE a8 c5] 30:=by simpa using eD (k:=4) bE (J G H s4)
  refine aQ rfl rfl (bg _ _ 30 (aD 1) 5 rfl (v:=U (O ⟨q,5,L⟩)) (by rw [aW ((aR _ 24 _ 1 (by decide)).trans eR)]; simp [go_sem])) ?_;have h8:(((a).put (O 24) (U (O ⟨q,4,L⟩))).put (O 25) (U (O ⟨q,5,L⟩))).tmps[25]?=O (U (O ⟨q,5,L⟩)):=by simp [bR,bO]
  show Go.wpOp _ _ _ 14 _ (((a).put (O 24) (U (O ⟨q,4,L⟩))).put (O 25) (U (O ⟨q,5,L⟩))) _;have eQ:=bI.cell 5;have hI:=bI.fr 5;simp only [V,Z,ah] at eQ;refine Rg.gq 28 (aD 25) (aD 22) rfl rfl rfl rfl (aW h8) (aW ((aR _ 25 _ 22 (by decide)).trans ((aR _ 24 _ 22 (by decide)).trans hL))) (w':=(((w').setCell ⟨q,2,L⟩ (J r F s2)).setCell ⟨q,4,L⟩ (J G H s4)).setCell ⟨q,5,L⟩ (J N S s5)) (by simp [go_sem,eQ,hI]) ?_;have hO:dN ((((w').setCell ⟨q,2,L⟩ (J r F s2)).setCell ⟨q,4,L⟩ (J G H s4)).setCell ⟨q,5,L⟩ (J N S s5)) q #[aj ak me,b5,J r F s2,z3,J G H s4,J N S s5] 30:=by simpa using eD (k:=5) bI (J N S s5)
  have hT:∀ j,(j<14\/26<=j)->(((a).put (O 24) (U (O ⟨q,4,L⟩))).put (O 25) (U (O ⟨q,5,L⟩))).tmps[j]?=(bP::U (O ⟨q,0,L⟩)::u2::u3::cM::cY::u6::u7::eI::u9::bT::u11::bW::u13::fL::fN::fR::fS::fV::fW::fX::fY::g0::g1::g2::g3::bX::c6::c7::c8::c9::cA::cC::cD::cF::cG::cH::cI::cJ::cL::cN::cP::cQ::cR::cS::cT::cU::cV::cW::cX::d0::d1::d2::d3::d4::d5::d6::d7::d8::d9::dA::dC::dE::dS::dT::dZ::e0::e1::e2::e3::e4::e5::e6::e7::e8::e9::eA::eB::eC::eE::eJ::eK::[])[j]?:=fun j bB=>(aR _ 25 _ j (by omega)).trans ((aR _ 24 _ j (by omega)).trans ((kp j (nd j (by omega))).trans V));obtain⟨hS,hR,hP⟩:=Rg.gG (a:=((a).put (O 24) (U (O ⟨q,4,L⟩))).put (O 25) (U (O ⟨q,5,L⟩))) 14 12 df (by simp [Rg.size_put,bO]) (by simp) hT;show Q .normal (((a).put (O 24) (U (O ⟨q,4,L⟩))).put (O 25) (U (O ⟨q,5,L⟩))) _;rw [hP]
  match hS,hR with
  | [g4,g5,g6,g7,g8,g9,gA,gC,v22,gE,gI,gO],_ =>
   exact eL.o _ r F s2 G H s4 N S s5 hO (eF (eF (eF eW q 2 (J r F s2) a1) q 4 (J G H s4) a1) q 5 (J N S s5) a1) (eF (eF (eF f0 q 2 (J r F s2) a1) q 4 (J G H s4) a1) q 5 (J N S s5) a1) (eF (eF (eF f1 q 2 (J r F s2) a1) q 4 (J G H s4) a1) q 5 (J N S s5) a1) (fun B bA=>((((I.mono (bY (bU bA a1))).setCell (p:=⟨q,2,L⟩) bA (J r F s2)).setCell (p:=⟨q,4,L⟩) bA (J G H s4)).setCell (p:=⟨q,5,L⟩) bA (J N S s5))) (fun k hQ b6=>((aG (((w').setCell ⟨q,2,L⟩ (J r F s2)).setCell ⟨q,4,L⟩ (J G H s4)) ⟨q,5,L⟩ (J N S s5) k b6).trans ((aG ((w').setCell ⟨q,2,L⟩ (J r F s2)) ⟨q,4,L⟩ (J G H s4) k b6).trans ((aG (w') ⟨q,2,L⟩ (J r F s2) k b6).trans (I.block k hQ)))))
theorem kR {α:Type} {E:Ek α} (K:E.Ok) {W:aA} {B g n cap k:Nat} {l:List α} {x:α} (h:Own E W B (J (O ⟨g,0,L⟩) n cap) l) (q:l[k]?=O x):∀ w,Below W.heap.size W w->∀ r u,(E.cells x)[r]?=O u->w.cell? ((⟨g,k * E.n,L⟩:Addr).add r)=O u:=by
 obtain⟨F,c,S⟩:=(Row.dL h).len;obtain⟨rfl,rfl,rfl⟩:O ⟨g,0,L⟩=F/\n=l.length/\cap=c:=by simpa using S
 obtain⟨p,G,_,H⟩:=qR K (Row.dL h) rfl rfl q;have j:=oI K g k l.length cap (aF.1 q).1 W;rw [G] at j;injection j with I _
 injection I with M
 injection M with N
 subst N;exact H
theorem jX {α:Type} {E:Ek α} {W:aA} {B g n cap:Nat} {l:List α} (h:Own E W B (J (O ⟨g,0,L⟩) n cap) l):∃ cur,dN W g cur E.t:=by
 rcases gD h with⟨j,_⟩|⟨q,u,cur,j,_,r,_⟩
 ·cases j
 ·obtain⟨rfl,_⟩:g=q/\True:=by simp at j; exact⟨j.1,trivial⟩
  exact⟨cur,r⟩
theorem lQ {W:aA} {b g:Nat} {c d:Array aC} {s t:bG} (q:dN W b c s) (j:dN W g d t) (r:(s == t)=aO):b≠g:=by
 rintro rfl;unfold dN at q j;rw [q] at j;injection j with h
 injection h with _ u
 rw [u] at r;simp at r
def But (g:Nat) (W x:aA):Prop:=(∀ k,k<W.heap.size->k≠g->x.heap[k]?=W.heap[k]?)/\W.heap.size<=x.heap.size
theorem But.box {g b:Nat} {W x:aA} {cs:Array aC} {t:bG} (h:But g W x) (j:dN W b cs t) (q:b≠g):dN x b cs t:=(h.1 b j.lt q).trans j
theorem But.own {α:Type} {E:Ek α} {g:Nat} {W x:aA} {B:Nat} {v:aC} {l:List α} {d:Array aC} {t:bG} (h:But g W x) (u:Own E W B v l) (H:dN W g d t) (I:(E.t == t)=aO):Own E x B v l:=by
 refine⟨u.1,?_⟩;rcases u.2 with q|⟨j,cap,cur,F,q,r,G⟩
 ·exact dx q
 ·exact aM ⟨j,cap,cur,F,q,by rw [h.1 j (lt_of_heap r) (lQ (show dN W j cur E.t from r) H I)]; exact r,G⟩
theorem Jh:∀ (l:List ku) (k:Nat) (x:ku),k<l.length->flat ED (l.set k x)=((((flat ED l).set (k * 4) (aj ak x.1)).set (k * 4+1) (aj ak x.2.1)).set (k * 4+2) (eu x.2.2.1)).set (k * 4+3) (aj ak x.2.2.2)
 | [],k,x,h=>by simp at h
 | y::q,0,x,_=>rfl
 | y::q,k+1,x,h=>by
  have j:=Jh q k x (by simpa using h);rw [show (k+1) * 4+3=(k * 4+3)+1+1+1+1 by omega,show (k+1) * 4+2=(k * 4+2)+1+1+1+1 by omega,show (k+1) * 4+1=(k * 4+1)+1+1+1+1 by omega,show (k+1) * 4=(k * 4)+1+1+1+1 by omega];simp only [aS,flat,ED,cellsD,bD,bK] at j ⊢;rw [j]
theorem Ji:∀ (l:List iY) (k:Nat) (x:iY) (s:Sl),l[k]?=O x->flat EN (l.set k (x.1,x.2.1,x.2.2.1,x.2.2.2.1,s,x.2.2.2.2.2.1,x.2.2.2.2.2.2))=(flat EN l).set (k * 7+4) (eu s)
 | [],k,x,s,h=>by simp at h
 | y::q,0,x,s,h=>by
  obtain rfl:y=x:=by simpa using h
  rfl
 | y::q,k+1,x,s,h=>by
  have j:=Ji q k x s (by simpa using h);rw [show (k+1) * 7+4=(k * 7+4)+1+1+1+1+1+1+1 by omega];simp only [aS,flat,EN,jE,bD,bK] at j ⊢;rw [j]
theorem Jj:∀ (l:List mP) (k:Nat) (x:mP) (s:Sl),l[k]?=O x->flat EW (l.set k (x.1,x.2.1,s))=(flat EW l).set (k * 3+2) (eu s)
 | [],k,x,s,h=>by simp at h
 | y::q,0,x,s,h=>by
  obtain rfl:y=x:=by simpa using h
  rfl
 | y::q,k+1,x,s,h=>by
  have j:=Jj q k x s (by simpa using h);rw [show (k+1) * 3+2=(k * 3+2)+1+1+1 by omega];simp only [aS,flat,EW,lN,bD,bK] at j ⊢;rw [j]
def aiC {α:Type} (E:Ek α) (B g:Nat) (v:aC) (l:List α) (w w':aA):Prop:=Own E w' B v l/\But g w w'/\(∀ B' W,B'<=g->Below B' W w->Below B' W w')
theorem eH (w:aA) (g j:Nat) (q:aC):But g w (w.setCell ⟨g,j,L⟩ q):=⟨fun k _ r=>aG w ⟨g,j,L⟩ q k r,by simp⟩
theorem But.trans {g:Nat} {a b c:aA} (j:But g a b) (q:But g b c):But g a c:=⟨fun k r u=>(q.1 k (Nat.lt_of_lt_of_le r j.2) u).trans (j.1 k r u),dB j.2 q.2⟩
theorem But.of_below {g:Nat} {a b:aA} (h:Below a.heap.size a b):But g a b:=⟨fun k j _=>h.block k j,h.size⟩
theorem aiD {w:aA} {B g n cap k:Nat} {l:List ku} (x:ku) (h:nD w B (J (O ⟨g,0,L⟩) n cap) l) (q:k<l.length) :
  ∃ w',(aZ 36 (U (O ⟨g,k * 4,L⟩)) (nC x)).run ay w=.ok () w'/\aiC ED B g (J (O ⟨g,0,L⟩) n cap) (l.set k x) w w':=by
 obtain⟨y,G⟩:∃ y,l[k]?=O y:=⟨_,aB q⟩;have c:=kR okD h G w (au _ _);have c0:=c 0 _ rfl;have c1:=c 1 _ rfl;have c2:=c 2 _ rfl;have c3:=c 3 _ rfl;simp [Addr.add,ED] at c0 c1 c2 c3;obtain⟨cur,j⟩:=jX h;have f:=fun H=>j.fr H;obtain⟨r,u,F⟩:=(Row.dL h).len;obtain⟨_,rfl,_⟩:O ⟨g,0,L⟩=r/\n=l.length/\cap=u:=by simpa using F
 have h:w.ownsRow B 36 4 (J (O ⟨g,0,L⟩) l.length cap) l.length (flat ED l):=h;have s1:=(h.stored (k * 4) (aj ak x.1)).1;have s2:=(s1.stored (k * 4+1) (aj ak x.2.1)).1;have s3:=(s2.stored (k * 4+2) (eu x.2.2.1)).1;have s4:=(s3.stored (k * 4+3) (aj ak x.2.2.2)).1;refine⟨(((w.setCell ⟨g,k * 4,L⟩ (aj ak x.1)).setCell ⟨g,k * 4+1,L⟩ (aj ak x.2.1)).setCell ⟨g,k * 4+2,L⟩ (eu x.2.2.1)).setCell ⟨g,k * 4+3,L⟩ (aj ak x.2.2.2),?_,?_,((eH _ g _ _).trans (eH _ g _ _)).trans ((eH _ g _ _).trans (eH _ g _ _)),fun B' W hB j=>(((j.setCell (p:=⟨g,_,L⟩) hB _).setCell (p:=⟨g,_,L⟩) hB _).setCell (p:=⟨g,_,L⟩) hB _).setCell (p:=⟨g,_,L⟩) hB _⟩
 ·simp [go_sem,c0,c1,c2,c3,f]
 ·have e:=Jh l k x q;show World.ownsRow _ B 36 4 _ (l.set k x).length (flat ED (l.set k x));rw [e,bL];exact s4
theorem aiE {w:aA} {B g n cap k:Nat} {l:List iY} {x:iY} (s1:OA) (s2 s3:Nat) (h:jJ w B (J (O ⟨g,0,L⟩) n cap) l) (q:l[k]?=O x) :
  ∃ w',(aZ 34 (U (O ⟨g,k * 7+4,L⟩)) (J s1 s2 s3)).run ay w=.ok () w'/\aiC EN B g (J (O ⟨g,0,L⟩) n cap) (l.set k (x.1,x.2.1,x.2.2.1,x.2.2.2.1,(s1,s2,s3),x.2.2.2.2.2.1,x.2.2.2.2.2.2)) w w':=by
 have c:=kR nE h q w (au _ _);have c4:=c 4 _ rfl;simp [Addr.add,EN] at c4;obtain⟨cur,j⟩:=jX h;have f:=j.fr (k * 7+4);obtain⟨r,u,F⟩:=(Row.dL h).len;obtain⟨_,rfl,_⟩:O ⟨g,0,L⟩=r/\n=l.length/\cap=u:=by simpa using F
 have h:w.ownsRow B 67 7 (J (O ⟨g,0,L⟩) l.length cap) l.length (flat EN l):=h;have t1:=(h.stored (k * 7+4) (J s1 s2 s3)).1;refine⟨w.setCell ⟨g,k * 7+4,L⟩ (J s1 s2 s3),by simp [go_sem,c4,f],?_,eH _ g _ _,fun B' W hB j=>j.setCell (p:=⟨g,_,L⟩) hB _⟩;have e:=Ji l k x (s1,s2,s3) q;show World.ownsRow _ B 67 7 _ (List.length _) (flat EN _);rw [e,bL];exact t1
theorem aiF {w:aA} {B g n cap k:Nat} {l:List mP} {x:mP} (s1:OA) (s2 s3:Nat) (h:nO w B (J (O ⟨g,0,L⟩) n cap) l) (q:l[k]?=O x) :
  ∃ w',(aZ 34 (U (O ⟨g,k * 3+2,L⟩)) (J s1 s2 s3)).run ay w=.ok () w'/\aiC EW B g (J (O ⟨g,0,L⟩) n cap) (l.set k (x.1,x.2.1,(s1,s2,s3))) w w':=by
 have c:=kR okW h q w (au _ _);have c2:=c 2 _ rfl;simp [Addr.add,EW] at c2;obtain⟨cur,j⟩:=jX h;have f:=j.fr (k * 3+2);obtain⟨r,u,F⟩:=(Row.dL h).len;obtain⟨_,rfl,_⟩:O ⟨g,0,L⟩=r/\n=l.length/\cap=u:=by simpa using F
 have h:w.ownsRow B 88 3 (J (O ⟨g,0,L⟩) l.length cap) l.length (flat EW l):=h;have t1:=(h.stored (k * 3+2) (J s1 s2 s3)).1;refine⟨w.setCell ⟨g,k * 3+2,L⟩ (J s1 s2 s3),by simp [go_sem,c2,f],?_,eH _ g _ _,fun B' W hB j=>j.setCell (p:=⟨g,_,L⟩) hB _⟩;have e:=Jj l k x (s1,s2,s3) q;show World.ownsRow _ B 88 3 _ (List.length _) (flat EW _);rw [e,bL];exact t1
theorem eY.set {α q:Type} {R:α->q->Prop}:∀ {l:List α} {m:List q} (k:Nat) (a:α) (b:q),eY R l m->m[k]?=O b->R a b->eY R (l.set k a) m
 | _,_,_,_,_,.nil,h,_=>by simp at h
 | _,_,0,a,b,.cons x t,h,j=>by
  simp at h;subst h;exact .cons j t
 | _,_,k+1,a,b,.cons x t,h,j=>.cons x (eY.set k a b t (by simpa using h) j)
def PM (w0:aA) (B:Nat) (wr:aA) (v:aC) (p:List C5):Prop:=fO w0 v p\/iH wr B v p
def Qk (w0:aA) (B:Nat) (wr:aA) (x:ku) (a:Ad):Prop:=(x.1,x.2.1)=a.id/\x.2.2.2=a.par/\PM w0 B wr (eu x.2.2.1) a.p
def uN (w0:aA) (B:Nat) (wr:aA) (x:iY) (a:En):Prop:=(x.1,x.2.1)=a.tree/\(x.2.2.1,x.2.2.2.1)=a.sub/\x.2.2.2.2.2.1=a.from_/\x.2.2.2.2.2.2=a.up/\PM w0 B wr (eu x.2.2.2.2.1) a.p
def QF (w0:aA) (B:Nat) (wr:aA) (x:mP) (a:Ow):Prop:=(x.1,x.2.1)=a.id/\PM w0 B wr (eu x.2.2) a.p
theorem PM.grow {w0 wr x:aA} {B:Nat} {v:aC} {p:List C5} (h:PM w0 B wr v p) (j:Below wr.heap.size wr x):PM w0 B x v p:=h.imp id fun h=>Bk.dK h j
theorem PM.but {w0 wr x:aA} {B:Nat} {v:aC} {p:List C5} {g:Nat} {d:Array aC} {t:bG} (h:PM w0 B wr v p) (j:But g wr x) (q:dN wr g d t) (r:(91 == t)=aO):PM w0 B x v p:=h.imp id fun h=>j.own h q r
theorem PM.row {w0 wr:aA} {B:Nat} {v:aC} {p:List C5} (h:PM w0 B wr v p) (j:Below w0.heap.size w0 wr):fO wr v p:=h.elim (fun h=>h.on j) Row.dL
theorem Qk.grow {w0 wr x:aA} {B:Nat} {y:ku} {a:Ad} (h:Qk w0 B wr y a) (j:Below wr.heap.size wr x):Qk w0 B x y a:=⟨h.1,h.2.1,h.2.2.grow j⟩
theorem uN.grow {w0 wr x:aA} {B:Nat} {y:iY} {a:En} (h:uN w0 B wr y a) (j:Below wr.heap.size wr x):uN w0 B x y a:=⟨h.1,h.2.1,h.2.2.1,h.2.2.2.1,h.2.2.2.2.grow j⟩
theorem QF.grow {w0 wr x:aA} {B:Nat} {y:mP} {a:Ow} (h:QF w0 B wr y a) (j:Below wr.heap.size wr x):QF w0 B x y a:=⟨h.1,h.2.grow j⟩
theorem Qk.but {w0 wr x:aA} {B:Nat} {y:ku} {a:Ad} {g:Nat} {d:Array aC} {t:bG} (h:Qk w0 B wr y a) (j:But g wr x) (q:dN wr g d t) (r:(91 == t)=aO):Qk w0 B x y a:=⟨h.1,h.2.1,h.2.2.but j q r⟩
theorem uN.but {w0 wr x:aA} {B:Nat} {y:iY} {a:En} {g:Nat} {d:Array aC} {t:bG} (h:uN w0 B wr y a) (j:But g wr x) (q:dN wr g d t) (r:(91 == t)=aO):uN w0 B x y a:=⟨h.1,h.2.1,h.2.2.1,h.2.2.2.1,h.2.2.2.2.but j q r⟩
theorem QF.but {w0 wr x:aA} {B:Nat} {y:mP} {a:Ow} {g:Nat} {d:Array aC} {t:bG} (h:QF w0 B wr y a) (j:But g wr x) (q:dN wr g d t) (r:(91 == t)=aO):QF w0 B x y a:=⟨h.1,h.2.but j q r⟩
def vw (w:aA):aA:={ w with heap:=#[] }
theorem Fb {w x:aA} {B:Nat} (h:Below B w x):Below (vw w).heap.size (vw w) x:=⟨h.os,h.tape,h.output,aX _,fun k j=>absurd j (cK k)⟩
theorem adp (w:aA) (a:Addr):(vw w).cell? a=L:=by
 unfold World.cell? vw;simp
theorem Lb {α:Type} {E:Ek α} {w x:aA} {v:aC} {l:List α} (h:Row E (vw w) v l):Row E x v l:=by
 rcases h with h|⟨a,cap,q,r,u,F⟩
 ·exact dx h
 ·refine aM ⟨a,cap,q,r,u,fun H I G=>?_⟩;have j:=F H I G;rw [adp] at j;cases j
theorem yg {α:Type}:∀ (l:List α) (k:Nat) (x:α),k<l.length->(l.set k x).take (k+1)=l.take k++[x]
 | [],k,x,h=>absurd h (cK k)
 | _::_,0,_,_=>rfl
 | a::l,k+1,x,h=>by
  rw [aS,List.take_succ_cons,yg l k x (by simpa using h)]
  rfl
theorem AJ {α j:Type} {R:α->j->Prop} {l:List α} {m:List j} {k:Nat} {x:α} {y:j} (h:eY R (l.take k) (m.take k)) (q:k<l.length) (u:m[k]?=O y) (r:R x y):eY R ((l.set k x).take (k+1)) (m.take (k+1)):=by
 rw [yg l k x q,aY,u];exact h.append (.cons r .nil)
structure Cp (w0:aA) (B:Nat) (wr:aA) (b:Br) (nv av sv ev ov:Sl):Prop where
 near:zk wr B (eu nv) b.near
 seen:tq wr B (eu sv) b.seen
 dQ:∃ l,nD wr B (eu av) l/\eY (Qk w0 B wr) l b.dQ
 ent:∃ l,jJ wr B (eu ev) l/\eY (uN w0 B wr) l b.ent
 own:∃ l,nO wr B (eu ov) l/\eY (QF w0 B wr) l b.own
theorem Cp.grow {w0 wr x:aA} {B:Nat} {b:Br} {F av H u G:Sl} (h:Cp w0 B wr b F av H u G) (j:Below wr.heap.size wr x):Cp w0 B x b F av H u G where
 near:=Bk.dK h.near j
 seen:=Bk.dK h.seen j
 dQ:=by obtain⟨l,q,r⟩:=h.dQ; exact⟨l,Bk.dK q j,r.mono fun _ _ h=>h.grow j⟩
 ent:=by obtain⟨l,q,r⟩:=h.ent; exact⟨l,Bk.dK q j,r.mono fun _ _ h=>h.grow j⟩
 own:=by obtain⟨l,q,r⟩:=h.own; exact⟨l,Bk.dK q j,r.mono fun _ _ h=>h.grow j⟩
theorem Cp.uO {w0 wr x:aA} {B:Nat} {b:Br} {H av M G I:Sl} (h:Cp w0 B wr b H av M G I) {g:Nat} {d:Array aC} {t:bG} (j:But g wr x) (q:dN wr g d t) (N:(3 == t)=aO) (S:(23 == t)=aO) (T:(36 == t)=aO) (a1:(67 == t)=aO) (a2:(88 == t)=aO) (F:(91 == t)=aO):Cp w0 B x b H av M G I where
 near:=j.own h.near q N
 seen:=j.own h.seen q S
 dQ:=by obtain⟨l,r,u⟩:=h.dQ; exact⟨l,j.own r q T,u.mono fun _ _ h=>h.but j q F⟩
 ent:=by obtain⟨l,r,u⟩:=h.ent; exact⟨l,j.own r q a1,u.mono fun _ _ h=>h.but j q F⟩
 own:=by obtain⟨l,r,u⟩:=h.own; exact⟨l,j.own r q a2,u.mono fun _ _ h=>h.but j q F⟩
theorem Cp.but {w0 wr x:aA} {B:Nat} {b:Br} {G av I F H:Sl} (h:Cp w0 B wr b G av I F H) {g:Nat} {d:Array aC} (j:But g wr x) (q:dN wr g d 30):Cp w0 B x b G av I F H where
 near:=j.own h.near q (by decide)
 seen:=j.own h.seen q (by decide)
 dQ:=by obtain⟨l,r,u⟩:=h.dQ; exact⟨l,j.own r q (by decide),u.mono fun _ _ h=>h.but j q (by decide)⟩
 ent:=by obtain⟨l,r,u⟩:=h.ent; exact⟨l,j.own r q (by decide),u.mono fun _ _ h=>h.but j q (by decide)⟩
 own:=by obtain⟨l,r,u⟩:=h.own; exact⟨l,j.own r q (by decide),u.mono fun _ _ h=>h.but j q (by decide)⟩
structure Cs (w0 w wr:aA) (b:Br) (kd kn kw:Nat) (nv av sv ev ov:Sl):Prop where
 xY:Below w.heap.size w wr
 bx:dN wr w.heap.size #[aj ak b.me,eu nv,eu av,eu sv,eu ev,eu ov] 30
 bz:dN wr (w.heap.size+1) #[aj ak 0,J L 0 0,J L 0 0,J L 0 0,J L 0 0,J L 0 0] 30
 near:zk wr w.heap.size (eu nv) b.near
 seen:tq wr w.heap.size (eu sv) b.seen
 dQ:∃ l,nD wr w.heap.size (eu av) l/\eY (Qk w0 w.heap.size wr) l b.dQ/\eY (Qk (vw w0) w.heap.size wr) (l.take kd) (b.dQ.take kd)
 ent:∃ l,jJ wr w.heap.size (eu ev) l/\eY (uN w0 w.heap.size wr) l b.ent/\eY (uN (vw w0) w.heap.size wr) (l.take kn) (b.ent.take kn)
 own:∃ l,nO wr w.heap.size (eu ov) l/\eY (QF w0 w.heap.size wr) l b.own/\eY (QF (vw w0) w.heap.size wr) (l.take kw) (b.own.take kw)
theorem Cs.YO {w0 w wr x:aA} {b:Br} {a8 kn I G:Nat} {M S H N:Sl} {g n cap:Nat} {l l':List ku} (h:Cs w0 w wr b a8 kn I M (O ⟨g,0,L⟩,n,cap) S H N) (a2:nD wr w.heap.size (J (O ⟨g,0,L⟩) n cap) l) (a7:nD x w.heap.size (J (O ⟨g,0,L⟩) n cap) l') (j:But g wr x) (a6:Below w.heap.size w x) (T:eY (Qk w0 w.heap.size x) l' b.dQ) (a1:eY (Qk (vw w0) w.heap.size x) (l'.take G) (b.dQ.take G)):Cs w0 w x b G kn I M (O ⟨g,0,L⟩,n,cap) S H N:=by
 obtain⟨cur,q⟩:=jX a2;exact {
  xY:=a6
  bx:=j.box h.bx (lQ h.bx q (by decide))
  bz:=j.box h.bz (lQ h.bz q (by decide))
  near:=j.own h.near q (by decide)
  seen:=j.own h.seen q (by decide)
  dQ:=⟨l',a7,T,a1⟩
  ent:=by obtain⟨l,r,u,F⟩:=h.ent; exact⟨l,j.own r q (by decide),u.mono fun _ _ h=>h.but j q (by decide),F.mono fun _ _ h=>h.but j q (by decide)⟩
  own:=by obtain⟨l,r,u,F⟩:=h.own; exact⟨l,j.own r q (by decide),u.mono fun _ _ h=>h.but j q (by decide),F.mono fun _ _ h=>h.but j q (by decide)⟩ }
theorem Cs.anZ {w0 w wr x:aA} {b:Br} {H kn I G:Nat} {M av S N:Sl} {g n cap:Nat} {l l':List iY} (h:Cs w0 w wr b H kn I M av S (O ⟨g,0,L⟩,n,cap) N) (a2:jJ wr w.heap.size (J (O ⟨g,0,L⟩) n cap) l) (a7:jJ x w.heap.size (J (O ⟨g,0,L⟩) n cap) l') (j:But g wr x) (a6:Below w.heap.size w x) (T:eY (uN w0 w.heap.size x) l' b.ent) (a1:eY (uN (vw w0) w.heap.size x) (l'.take G) (b.ent.take G)):Cs w0 w x b H G I M av S (O ⟨g,0,L⟩,n,cap) N:=by
 obtain⟨cur,q⟩:=jX a2;exact {
  xY:=a6
  bx:=j.box h.bx (lQ h.bx q (by decide))
  bz:=j.box h.bz (lQ h.bz q (by decide))
  near:=j.own h.near q (by decide)
  seen:=j.own h.seen q (by decide)
  dQ:=by obtain⟨l,r,u,F⟩:=h.dQ; exact⟨l,j.own r q (by decide),u.mono fun _ _ h=>h.but j q (by decide),F.mono fun _ _ h=>h.but j q (by decide)⟩
  ent:=⟨l',a7,T,a1⟩
  own:=by obtain⟨l,r,u,F⟩:=h.own; exact⟨l,j.own r q (by decide),u.mono fun _ _ h=>h.but j q (by decide),F.mono fun _ _ h=>h.but j q (by decide)⟩ }
theorem Cs.setW {w0 w wr x:aA} {b:Br} {I kn a7 G:Nat} {M av N H:Sl} {g n cap:Nat} {l l':List mP} (h:Cs w0 w wr b I kn a7 M av N H (O ⟨g,0,L⟩,n,cap)) (a1:nO wr w.heap.size (J (O ⟨g,0,L⟩) n cap) l) (a6:nO x w.heap.size (J (O ⟨g,0,L⟩) n cap) l') (j:But g wr x) (a2:Below w.heap.size w x) (S:eY (QF w0 w.heap.size x) l' b.own) (T:eY (QF (vw w0) w.heap.size x) (l'.take G) (b.own.take G)):Cs w0 w x b I kn G M av N H (O ⟨g,0,L⟩,n,cap):=by
 obtain⟨cur,q⟩:=jX a1;exact {
  xY:=a2
  bx:=j.box h.bx (lQ h.bx q (by decide))
  bz:=j.box h.bz (lQ h.bz q (by decide))
  near:=j.own h.near q (by decide)
  seen:=j.own h.seen q (by decide)
  dQ:=by obtain⟨l,r,u,F⟩:=h.dQ; exact⟨l,j.own r q (by decide),u.mono fun _ _ h=>h.but j q (by decide),F.mono fun _ _ h=>h.but j q (by decide)⟩
  ent:=by obtain⟨l,r,u,F⟩:=h.ent; exact⟨l,j.own r q (by decide),u.mono fun _ _ h=>h.but j q (by decide),F.mono fun _ _ h=>h.but j q (by decide)⟩
  own:=⟨l',a6,S,T⟩ }
def Tf (B:Nat) (j:Nat) (_:Int) (_ _ _ _:aC) (g n cap k:Nat) (_ _ _ _:Int) (u:OA) (r q:Nat) (_:Int) (_:Bool) (p:List C5) (i:Nat) (v:aC) (x:aA):Prop :=
 match i with
 | 0=>v=U (O ⟨j,4,L⟩)
 | 1=>v=J (O ⟨g,0,L⟩) n cap
 | 2=>v=aj ak (k:Int)
 | 3=>v=U (O ⟨j,4,L⟩)
 | 4=>v=J (O ⟨g,0,L⟩) n cap
 | 5=>v=aj ak (k:Int)
 | 6=>v=U (O ⟨g,k * 7,L⟩)
 | 7=>v=U (O ⟨g,k * 7+4,L⟩)
 | 8=>v=J u r q
 | 9=>∃ s:Sl,v=eu s/\iH x B v p
 | 10=>v=U (O ⟨g,k * 7,L⟩)
 | 11=>v=U (O ⟨g,k * 7+4,L⟩)
 | _=>True
noncomputable def aeT:Code:=((Tryz.f33.body.bind (eX 11)).getD .skip)
theorem Ze (B:Nat) (j:Nat) (me:Int) (T a1 z3 z5:aC) (g n cap k:Nat) (r u F G:Int) (S:OA) (N M:Nat) (H:Int) (I:Bool) (p:List C5) (i:Nat) (v:aC) (x q:aA) (h:Tf B j me T a1 z3 z5 g n cap k r u F G S N M H I p i v x) (a7:Below x.heap.size x q):Tf B j me T a1 z3 z5 g n cap k r u F G S N M H I p i v q:=by
 by_cases a8:i<12
 ·rcases (by omega:i=0\/i=1\/i=2\/i=3\/i=4\/i=5\/i=6\/i=7\/i=8\/i=9\/i=10\/i=11) with rfl|rfl|rfl|rfl|rfl|rfl|rfl|rfl|rfl|rfl|rfl|rfl
  ·exact h
  ·exact h
  ·exact h
  ·exact h
  ·exact h
  ·exact h
  ·exact h
  ·exact h
  ·exact h
  ·obtain⟨s,a2,a6⟩:=h; exact⟨s,a2,Bk.dK a6 a7⟩
  ·exact h
  ·exact h
 ·unfold Tf
  split <;> first | omega | trivial
theorem an7 (Q:Exit->Act->aA->Prop) (W:aA) (e7:Nat) (l:List iY) (G:Nat) (me:Int) (e5 e6 z3 z5:aC) (g n cap k:Nat) (a6 a7 a8 H:Int) (S:OA) (N M:Nat) (aE:Int) (b1:Bool) (p:List C5) {b6 u2 u3 cX u6 u7 e2 u9 b7 u11 b8 u13 b9 bA bB bC bE bI bM bO bP bT bW bX c6 c7 c8 c9 cA cC cD cF cG cH cI cJ cL cM cN cP cQ cR cS cT cU cV cW eQ eR eS eV eW f0 f1 f2 f3 f4 f5 f6 cY d0 d1 d2 d3 d4 d5 d6 d7 d8 d9 dA dC dE dS dT dZ e0 e1 e3 e4:aC}
  (a1:dN W G #[aj ak me,e5,e6,z3,J (O ⟨g,0,L⟩) n cap,z5] 30) (q:jJ W e7 (J (O ⟨g,0,L⟩) n cap) l) (a2:l[k]?=O (a6,a7,a8,H,(S,N,M),aE,b1)) (eK:fO W (J S N M) p) (eM:p.length<=900)
  (eE:∀ (x:aA) {f7 f8 v51 f9 v53 fL fN fR fS fV fW fX:aC} (s1:OA) (s2 s3:Nat),iH x W.heap.size (J s1 s2 s3) p->jJ x e7 (J (O ⟨g,0,L⟩) n cap) (l.set k (a6,a7,a8,H,(s1,s2,s3),aE,b1))->But g W x->(∀ T,T<=g->T<=W.heap.size->Below T W x)->Q .normal ⟨(b6::U (O ⟨G,0,L⟩)::u2::u3::aj ak (k:Int)::cX::u6::u7::e2::u9::b7::u11::b8::u13::b9::bA::bB::bC::bE::bI::bM::bO::bP::bT::bW::bX::c6::c7::c8::c9::cA::cC::cD::cF::cG::cH::cI::cJ::cL::cM::cN::cP::cQ::cR::cS::cT::cU::cV::cW::f7::f8::v51::f9::v53::fL::fN::fR::fS::fV::fW::fX::cY::d0::d1::d2::d3::d4::d5::d6::d7::d8::d9::dA::dC::dE::dS::dT::dZ::e0::e1::e3::e4::[]).toArray,[]⟩ x) :
  Code.wp ay aeT Q ⟨(b6::U (O ⟨G,0,L⟩)::u2::u3::aj ak (k:Int)::cX::u6::u7::e2::u9::b7::u11::b8::u13::b9::bA::bB::bC::bE::bI::bM::bO::bP::bT::bW::bX::c6::c7::c8::c9::cA::cC::cD::cF::cG::cH::cI::cJ::cL::cM::cN::cP::cQ::cR::cS::cT::cU::cV::cW::eQ::eR::eS::eV::eW::f0::f1::f2::f3::f4::f5::f6::cY::d0::d1::d2::d3::d4::d5::d6::d7::d8::d9::dA::dC::dE::dS::dT::dZ::e0::e1::e3::e4::[]).toArray,[]⟩ W:=by
 have eA:=A eE;have e8:=A a1;have e9:=A q;have g1:=A a2;have g0:=A eK;have g2:=A eM;have eB:=A (oI nE g k n cap (by obtain⟨_,_,I⟩:=(Row.dL q).len; have h:=(aF.1 a2).1; simp at I; omega));have fY:=A (kR nE q a2);clear eE a1 q a2 eK eM;have h4:=Ze W.heap.size G me e5 e6 z3 z5 g n cap k a6 a7 a8 H S N M aE b1 p;unfold aeT
 conv=>arg 2; whnf
 have nd:∀ j,(j<49\/61<=j)->∀ i,i<12->(fun i=>49+i) i≠j:=by
  intro j eJ i eI h;simp only at h;omega
 refine Rg.gN 13 12 (fun i=>49+i) (fun _=>12) (Tf W.heap.size G me e5 e6 z3 z5 g n cap k a6 a7 a8 H S N M aE b1 p) (by kernel_rfl) (by kernel_rfl) rfl (by decide) (fun i j _ _ h=>by have gR:49+i=49+j:=h; omega) (fun i eI=>by show 49+i<82; omega) ?_ (fun _=>Rg.kJ 14 (by kernel_rfl)) ?_ ?_
 ·intro i o eI q a x D hE b5 hD F seen K r;clear eA;rcases (by omega:i=0\/i=1\/i=2\/i=3\/i=4\/i=5\/i=6\/i=7\/i=8\/i=9\/i=10\/i=11) with rfl|rfl|rfl|rfl|rfl|rfl|rfl|rfl|rfl|rfl|rfl|rfl
  ·cases q;have b2:a.eval (aD 1)=U (O ⟨G,0,L⟩):=seen.kp 1 _ (nd 1 (by omega)) rfl;exact aQ rfl rfl (bg a.eval _ 30 (aD 1) 4 rfl (by rw [b2]; simp [go_sem])) (r _ _ rfl (au _ _) fun _ _ _ _ _ _ _ h=>h)
  ·cases q;have g3:a.eval (aD 49)=U (O ⟨G,4,L⟩):=seen.at_ ⟨0,.data⟩ (by simp) rfl (aM (by decide));have H:=(e8.o.on F).cell 4;simp only [V,Z,ah] at H;exact aQ rfl rfl (dh a.eval _ 27 (aD 49) rfl (by rw [g3]; simp [go_sem,H])) (r _ _ rfl (au _ _) fun _ _ _ _ _ _ _ h=>h)
  ·cases q;have b4:a.eval (aD 4)=aj ak (k:Int):=seen.kp 4 _ (nd 4 (by omega)) rfl;exact aQ rfl rfl (Rg.gF a.eval _ (aD 4) rfl x) (r _ _ b4 (au _ _) fun _ _ _ _ _ _ _ h=>h)
  ·cases q;have b2:a.eval (aD 1)=U (O ⟨G,0,L⟩):=seen.kp 1 _ (nd 1 (by omega)) rfl;exact aQ rfl rfl (bg a.eval _ 30 (aD 1) 4 rfl (by rw [b2]; simp [go_sem])) (r _ _ rfl (au _ _) fun _ _ _ _ _ _ _ h=>h)
  ·cases q;have g6:a.eval (aD 52)=U (O ⟨G,4,L⟩):=seen.at_ ⟨3,.data⟩ (by simp) rfl (aM (by decide));have H:=(e8.o.on F).cell 4;simp only [V,Z,ah] at H;exact aQ rfl rfl (dh a.eval _ 27 (aD 52) rfl (by rw [g6]; simp [go_sem,H])) (r _ _ rfl (au _ _) fun _ _ _ _ _ _ _ h=>h)
  ·cases q;have b4:a.eval (aD 4)=aj ak (k:Int):=seen.kp 4 _ (nd 4 (by omega)) rfl;exact aQ rfl rfl (Rg.gF a.eval _ (aD 4) rfl x) (r _ _ b4 (au _ _) fun _ _ _ _ _ _ _ h=>h)
  ·cases q;have g7:a.eval (aD 53)=J (O ⟨g,0,L⟩) n cap:=seen.at_ ⟨4,.data⟩ (by simp) rfl (aM (by decide));have g8:a.eval (aD 54)=aj ak (k:Int):=seen.at_ ⟨5,.data⟩ (by simp) rfl (aM (by decide));exact aQ rfl rfl (Rg.qY a.eval _ 27 (aD 53) (aD 54) rfl (by rw [g7,g8]; exact eB.o x)) (r _ _ rfl (au _ _) fun _ _ _ _ _ _ _ h=>h)
  ·cases q;have g9:a.eval (aD 55)=U (O ⟨g,k * 7,L⟩):=seen.at_ ⟨6,.data⟩ (by simp) rfl (aM (by decide));exact aQ rfl rfl (bg a.eval _ 67 (aD 55) 2 rfl (by rw [g9]; simp [go_sem])) (r _ _ rfl (au _ _) fun _ _ _ _ _ _ _ h=>h)
  ·cases q;have gA:a.eval (aD 56)=U (O ⟨g,k * 7+4,L⟩):=seen.at_ ⟨7,.data⟩ (by simp) rfl (aM (by decide));have y:=fY.o x F 4 _ rfl;simp [Addr.add,EN] at y;exact aQ rfl rfl (dh a.eval _ 34 (aD 56) rfl (by rw [gA]; simp [go_sem,y])) (r _ _ rfl (au _ _) fun _ _ _ _ _ _ _ h=>h)
  ·cases q;have gC:a.eval (aD 57)=J S N M:=seen.at_ ⟨8,.data⟩ (by simp) rfl (aM (by decide));exact dG rfl rfl (Rw.jq a.eval _ (aD 57) 34 44 rfl gC rfl _ (gB Tryz.func44 rfl rfl _ _)) (oJ (S,N,M) p x (g0.o.on F) g2.o) fun e w1 h=>by
    obtain⟨⟨s,rfl,a1⟩,eC⟩:=h;exact⟨_,rfl,r _ _ ⟨s,rfl,dO a1 F.size⟩ (eC.mono F.size) fun j u eJ _ _ _ hF h=>h4 j u _ _ h eC⟩
  ·cases q;have g4:a.eval (aD 50)=J (O ⟨g,0,L⟩) n cap:=seen.at_ ⟨1,.data⟩ (by simp) rfl (aM (by decide));have g5:a.eval (aD 51)=aj ak (k:Int):=seen.at_ ⟨2,.data⟩ (by simp) rfl (aM (by decide));exact aQ rfl rfl (Rg.qY a.eval _ 27 (aD 50) (aD 51) rfl (by rw [g4,g5]; exact eB.o x)) (r _ _ rfl (au _ _) fun _ _ _ _ _ _ _ h=>h)
  ·cases q;have gE:a.eval (aD 59)=U (O ⟨g,k * 7,L⟩):=seen.at_ ⟨10,.data⟩ (by simp) rfl (aM (by decide));exact aQ rfl rfl (bg a.eval _ 67 (aD 59) 2 rfl (by rw [gE]; simp [go_sem])) (r _ _ rfl (au _ _) fun _ _ _ _ _ _ _ h=>h)
 ·intro hG o a1 gR q;omega
 ·intro a w' df sz kp ⟨hA,I⟩ F;have h9:a.tmps.size=82:=sz;have gO:a.tmps[60]?=O (U (O ⟨g,k * 7+4,L⟩)):=by
   have h:hA 11=U (O ⟨g,k * 7+4,L⟩):=(I 11 (by omega)).2 (by decide);rw [<- h];exact (I 11 (by omega)).1
  obtain⟨⟨s1,s2,s3⟩,eL,b5⟩:=(I 9 (by omega)).2 (by decide);have gI:a.tmps[58]?=O (J s1 s2 s3):=((I 9 (by omega)).1).trans (congrArg O eL);rw [eL] at b5;obtain⟨hC,h3,h7,eN,h8⟩:=aiE (k:=k) s1 s2 s3 (Bk.dK e9.o F) g1.o;obtain⟨cur,h0⟩:=jX (Bk.dK e9.o F);show dH _ _ _ 1 12 a w';simp only [dH];refine Rg.gq 34 (aD 60) (aD 58) rfl rfl rfl rfl (aW gO) (aW gI) (w':=hC) h3 ?_;have h6:∀ j,(j<49\/61<=j)->(a).tmps[j]?=(b6::U (O ⟨G,0,L⟩)::u2::u3::aj ak (k:Int)::cX::u6::u7::e2::u9::b7::u11::b8::u13::b9::bA::bB::bC::bE::bI::bM::bO::bP::bT::bW::bX::c6::c7::c8::c9::cA::cC::cD::cF::cG::cH::cI::cJ::cL::cM::cN::cP::cQ::cR::cS::cT::cU::cV::cW::eQ::eR::eS::eV::eW::f0::f1::f2::f3::f4::f5::f6::cY::d0::d1::d2::d3::d4::d5::d6::d7::d8::d9::dA::dC::dE::dS::dT::dZ::e0::e1::e3::e4::[])[j]?:=fun j eJ=>(kp j (nd j (by omega))).trans V;obtain⟨h5,h2,gS⟩:=Rg.gG (a:=a) 49 12 df (by simp [h9]) (by simp) h6;show Q .normal (a) _;rw [gS]
  match h5,h2 with
  | [f7,f8,v51,f9,v53,fL,fN,fR,fS,fV,fW,fX],_ =>
   exact eA.o _ s1 s2 s3 (eN.own b5 h0 (by decide)) h7 ((But.of_below F).trans eN) fun T hB h1=>h8 T W hB (F.mono h1)
theorem Yv {W:aA} {b:Nat} {c:ku} (h:dN W b (cellsD c).toArray 36):zx W (J (O ⟨b,0,L⟩) 1 1) [c] :=
 aM ⟨⟨b,0,L⟩,1,rfl,by simp,by decide,uK h (by simp [ED])⟩
def EP (B:Nat) (l:List ku) (k:Nat) (c:ku) (r:aC) (W:aA) (e:Ending) (w':aA):Prop:=∃ q,e=aI q/\nD w' B q (l.take k++c::l.drop k)/\Below B W w'/\(∀ j,j<W.heap.size->O j≠r.ownBlock->w'.heap[j]?=W.heap[j]?)
theorem Ng (B:Nat) (v:aC) (l:List ku) (c:ku) (b:Nat) (W:aA) (j:nD W B v l) (S:dN W b (cellsD c).toArray 36) (a6:l.length<=900) (hB:B<=W.heap.size) :
  bJ ay 104 #[v,aj ak (l.length:Nat),J (O ⟨b,0,L⟩) 1 1] W (EP B l l.length c v W):=by
 obtain⟨G,w',u,H,q⟩:=iC okD B j (Yv S) (by omega) (by simp) hB 25;have u:(cO #[25,25] 25 #[v,J (O ⟨b,0,L⟩) 1 1]).run ay W=.ok G w':=u;have Q:=A (show EP B l l.length c v W (aI G) w' from ⟨G,rfl,by rw [List.take_of_length_le (bQ _),List.drop_of_length_le (bQ _)]; exact H,(au B W).grown q hB (fun F r=>(j.lt F r).1),fun F r N=>q.block F r N⟩);obtain⟨T,I,_⟩:=qU okD (Row.dL j) l.length (bQ _);have I:∀ w,(aJ 25 v (O (aj ak l.length)) L L).run ay w=.ok T w:=I;obtain⟨a2,a1,rfl⟩:=(Row.dL j).len;clear j H q;generalize M:l.length=n at *;clear M;go_enter bZ,bS;go_wp2_with (first | (at_builtin; refine wpList_append_run rfl _ _ 25 rfl rfl rfl u ?_) | fail);go_ret;exact Q.o
theorem Yw (w:aA) (g b k la q cb:Nat) (cur cs:Array aC) (j:dN w b cs 36) (r:dN w g cur 36) (u:b≠g) (F:0<cur.size):(callFunc 140 #[J (O ⟨b,0,L⟩) la 1,J (O ⟨g,k,L⟩) q cb]).run ay w=.ok (.value (cZ aO)) w:=by
 rw [run_callFunc_extern Tryz.func140 (by kernel_rfl) (by kernel_rfl) (by kernel_rfl) (e:=Extern.SlicesOverlaps.overlaps #[25,25] #[4]) (by kernel_rfl),
  Lib.run_overlaps_apart w 25 4 36 Tryz.underlying25 4 Tryz.sizeOf36 ⟨b,0,L⟩ ⟨g,k,L⟩ la 1 q cb u 36 36 cs.size cur.size j.shape r.shape (by omega) (j.fr 0) (j.fr _)]
 rfl
theorem Io (B g n cap:Nat) (cur:Array aC) (l:List ku) (k:Nat) (c:ku) (b:Nat) (W:aA) (I:n=l.length) (F:B<=g) (u:dN W g cur 36) (S:cap<=maxLen) (a1:cur.size=cap * 4) (a2:cur.toList.take (n * 4)=flat ED l) (M:dN W b (cellsD c).toArray 36) (r:b≠g) (bE:k<n) (bM:n+1<=cap) (bI:n<=900) :
  bJ ay 104 #[J (O ⟨g,0,L⟩) n cap,aj ak k,J (O ⟨b,0,L⟩) 1 1] W (EP B l k c (J (O ⟨g,0,L⟩) n cap) W):=by
 obtain⟨q,H,a8,aE,a6⟩:=sZ (E:=ED) (l:=l) (k:=k) (cap:=cap) (cur:=cur) (cs:=(cellsD c).toArray) (c:=c) okD (by omega) (by omega) a1 (by rw [<- I]; exact a2) g b r;have T:=fun b9 cb=>Yw W g b ((k+1) * 4) 1 b9 cb cur (cellsD c).toArray M u r (by omega);have s0:=iw (E:=ED) okD g k n cap (by omega) (by omega);have s1:=kI (E:=ED) okD ⟨g,0,L⟩ (n+1) n cap (by omega);have s2:=iw (E:=ED) okD g (k+1) (n+1) cap (by omega) (by omega);have s3:=iw (E:=ED) okD g k (n+1) cap (by omega) (by omega);have G:=a8 W.drew 3 (n+1-(k+1)) (cap-(k+1)) (n+1-k) (cap-k) u (by omega);have a7:=aE (W.drew.setRow g q) 3 (n+1-k) (cap-k) (dN.set (show dN W.drew g cur 36 from u) q) (dN.other (show dN W.drew b _ 36 from M) r q) rfl (by omega);have Q:=A (show EP B l k c (J (O ⟨g,0,L⟩) n cap) W (aI (J (O ⟨g,0,L⟩) (n+1) cap)) ((W.drew.setRow g q).setRow g H) from ⟨_,rfl,by rw [I]; exact a6 _ B F S (dN.set (dN.set (show dN W.drew g cur 36 from u) q) H),below_setRow (below_setRow (au B W).drew F _) F _,fun j bC r=>(setRow_other _ g j _ (fun e=>r (by rw [e]; rfl))).trans (setRow_other _ g j _ (fun e=>r (by rw [e]; rfl)))⟩);clear a8 aE a6 u a2 M a1 F S;change ∀ w,(aJ 25 (J (O ⟨g,0,L⟩) n cap) (O (aj ak k)) L L).run ay w=.ok (J (O ⟨g,k * 4,L⟩) (n-k) (cap-k)) w at s0;change ∀ w,(aJ 25 (J (O ⟨g,0,L⟩) n cap) L (O (aj ak ((n:Int)+1))) L).run ay w=.ok (J (O ⟨g,0,L⟩) (n+1) cap) w at s1;change ∀ w,(aJ 25 (J (O ⟨g,0,L⟩) (n+1) cap) (O (aj ak ((k:Int)+1))) L L).run ay w=.ok (J (O ⟨g,(k+1) * 4,L⟩) (n+1-(k+1)) (cap-(k+1))) w at s2;change ∀ w,(aJ 25 (J (O ⟨g,0,L⟩) (n+1) cap) (O (aj ak k)) L L).run ay w=.ok (J (O ⟨g,k * 4,L⟩) (n+1-k) (cap-k)) w at s3;have bA:((k:Int) == (n:Int))=aO:=by rw [beq_eq_false_iff_ne]; omega
 have bB:decide ((cap:Int)<(n:Int)+1)=aO:=by simp; omega
 change (bf #[25,25] 3 #[J (O ⟨g,(k+1) * 4,L⟩) (n+1-(k+1)) (cap-(k+1)),J (O ⟨g,k * 4,L⟩) (n+1-k) (cap-k)]).run ay W.drew=.ok (aj ak ((l.length-k:Nat):Int)) (W.drew.setRow g q) at G;change (bf #[25,25] 3 #[J (O ⟨g,k * 4,L⟩) (n+1-k) (cap-k),J (O ⟨b,0,L⟩) 1 1]).run ay (W.drew.setRow g q)=.ok (aj ak 1) ((W.drew.setRow g q).setRow g H) at a7;clear I;go_enter bZ,bS;go_wp2_with (first | (simp only [T]) | fail);clear T s0 s1 s2 s3;have b8:IntKind.i64.wrap ((k:Int)+1)=(k:Int)+1:=by rw [cu]; omega
 have b2:(0:Int)<=(k:Int)+1:=by omega
 have b1:(k:Int)+1<=(n:Int)+1:=by omega
 have b7:((k:Int)+1).toNat=k+1:=by omega
 have b4:¬ (cap=k+1):=by omega
 have b5:(k:Int)<=(n:Int)+1:=by omega
 have b6:¬ (cap=k):=by omega
 have N:n+1-(k+1)=n-k:=by omega
 rw [N] at G;clear N
 go_region_law (refine iW rfl (aD 73) (aD 76) 25 rfl (v:=J (O ⟨g,(k+1) * 4,L⟩) (n-k) (cap-(k+1))) (xv:=J (O ⟨g,k * 4,L⟩) (n+1-k) (cap-k)) (by simp [dn,bR]) (by simp [dn,bR]) G ?_)
 all_goals simp only [Exit.then]
 all_goals apply_assumption
 clear G b8 b2 b1 b7 b4 b5 b6;have s3:=iw (E:=ED) okD g k (n+1) cap (by omega) (by omega);change ∀ w,(aJ 25 (J (O ⟨g,0,L⟩) (n+1) cap) (O (aj ak k)) L L).run ay w=.ok (J (O ⟨g,k * 4,L⟩) (n+1-k) (cap-k)) w at s3;go_wp2_with (first | (at_builtin; refine wpList_copy_run rfl _ _ 25 rfl rfl rfl a7 ?_) | fail);go_ret;exact Q.o
theorem K9 (B g n cap:Nat) (cur:Array aC) (l:List ku) (k:Nat) (c:ku) (b:Nat) (W:aA) (u:n=l.length) (I:dN W g cur 36) (bB:cap<=maxLen) (cA:n<=cap) (aE:cur.toList.take (n * 4)=flat ED l) (S:dN W b (cellsD c).toArray 36) (c8:k<n) (cC:cap<n+1) (c9:n<=900) (hB:B<=W.heap.size) :
  bJ ay 104 #[J (O ⟨g,0,L⟩) n cap,aj ak k,J (O ⟨b,0,L⟩) 1 1] W (EP B l k c (J (O ⟨g,0,L⟩) n cap) W):=by
 have c7:=I.lt;have bA:=S.lt;obtain⟨G,q,r,M,bM,b9,b4,b5,b6,b2⟩:=vL (E:=ED) (l:=l) (k:=k) (cap:=cap) (cur:=cur) (cs:=(cellsD c).toArray) (c:=c) okD 3 Tryz.underlying3 (by omega) (by omega) (by omega) (by omega) (by rw [<- u]; exact aE) W g b I bA;unfold maxLen at bB b9;have s0:=iw (E:=ED) okD g k n cap (by omega) (by omega);have s1:=kI (E:=ED) okD ⟨g,0,L⟩ k n cap (by omega);have s2:=iw (E:=ED) okD W.heap.size k (n+1) G (by omega) (by omega);have s3:=iw (E:=ED) okD W.heap.size (k+1) (n+1) G (by omega) (by omega);have H:=b4 25;have F:=dR W.drew q 36;have a2:W.drew.heap.size=W.heap.size:=rfl;rw [a2] at F;have a6:dN (W.drew.alloc (aH q 36)) g cur 36:=dN.more (show dN W.drew g cur 36 from I) _;have b7:dN (W.drew.alloc (aH q 36)) b (cellsD c).toArray 36:=dN.more (show dN W.drew b _ 36 from S) _;have T:=b5 (W.drew.alloc (aH q 36)) 3 (n+1-k) (G-k) F b7 rfl (by omega);have a1:=b6 ((W.drew.alloc (aH q 36)).setRow W.heap.size r).drew 3 (n+1-(k+1)) (G-(k+1)) (n-k) (cap-k) (dN.set F r) (dN.other a6 (by omega) r) (by omega);have Q:=A (show EP B l k c (J (O ⟨g,0,L⟩) n cap) W (aI (J (O ⟨W.heap.size,0,L⟩) (n+1) G)) (((W.drew.alloc (aH q 36)).setRow W.heap.size r).drew.setRow W.heap.size M) from ⟨_,rfl,by rw [u]; exact b2 _ B hB (dN.set (dN.set F r) M),below_setRow (below_setRow ((au B W).drew.alloc hB _) hB _).drew hB _,fun j a8 _=>(setRow_other _ W.heap.size j _ (by omega)).trans ((setRow_other _ W.heap.size j _ (by omega)).trans (Array.getElem?_push_lt a8 |>.trans (Array.getElem?_eq_getElem a8).symm))⟩);have b1:l.length+1=n+1:=by rw [u]
 rw [b1,<- u] at H;clear b4 b5 b6 b2 I aE S a6 b7 F a2 b1;change ∀ w,(aJ 25 (J (O ⟨g,0,L⟩) n cap) (O (aj ak k)) L L).run ay w=.ok (J (O ⟨g,k * 4,L⟩) (n-k) (cap-k)) w at s0;change ∀ w,(aJ 25 (J (O ⟨g,0,L⟩) n cap) L (O (aj ak k)) L).run ay w=.ok (J (O ⟨g,0,L⟩) k cap) w at s1;change ∀ w,(aJ 25 (J (O ⟨W.heap.size,0,L⟩) (n+1) G) (O (aj ak k)) L L).run ay w=.ok (J (O ⟨W.heap.size,k * 4,L⟩) (n+1-k) (G-k)) w at s2;change ∀ w,(aJ 25 (J (O ⟨W.heap.size,0,L⟩) (n+1) G) (O (aj ak ((k:Int)+1))) L L).run ay w=.ok (J (O ⟨W.heap.size,(k+1) * 4,L⟩) (n+1-(k+1)) (G-(k+1))) w at s3;change (cO #[25,3] 25 #[J (O ⟨g,0,L⟩) k cap,aj ak ((n:Int)+1-k)]).run ay W=.ok (J (O ⟨W.heap.size,0,L⟩) (n+1) G) (W.drew.alloc (aH q 36)) at H;change (bf #[25,25] 3 #[J (O ⟨W.heap.size,k * 4,L⟩) (n+1-k) (G-k),J (O ⟨b,0,L⟩) 1 1]).run ay (W.drew.alloc (aH q 36))=.ok (aj ak 1) ((W.drew.alloc (aH q 36)).setRow W.heap.size r) at T;change (bf #[25,25] 3 #[J (O ⟨W.heap.size,(k+1) * 4,L⟩) (n+1-(k+1)) (G-(k+1)),J (O ⟨g,k * 4,L⟩) (n-k) (cap-k)]).run ay ((W.drew.alloc (aH q 36)).setRow W.heap.size r).drew=.ok (aj ak ((l.length-k:Nat):Int)) (((W.drew.alloc (aH q 36)).setRow W.heap.size r).drew.setRow W.heap.size M) at a1;have bE:((k:Int) == (n:Int))=aO:=by rw [beq_eq_false_iff_ne]; omega
 have bI:decide ((cap:Int)<(n:Int)+1)=bF:=by simp; omega
 have bO:n+1<=G:=by omega
 clear u;generalize W.heap.size=N at *;generalize W.drew.alloc (aH q 36)=b8 at *;generalize b8.setRow N r=bC at *;go_enter bZ,bS;go_wp2_with (first | (at_builtin; refine jA rfl _ _ 25 3 rfl rfl rfl H ?_) | (at_builtin; refine wpList_copy_run rfl _ _ 25 rfl rfl rfl T ?_) | fail);clear H T s0 s1 s2 s3;have cF:IntKind.i64.wrap ((k:Int)+1)=(k:Int)+1:=by rw [cu]; omega
 have bT:(0:Int)<=(k:Int)+1:=by omega
 have bP:(k:Int)+1<=(n:Int)+1:=by omega
 have cD:((k:Int)+1).toNat=k+1:=by omega
 have bW:¬ (G=k+1):=by omega
 have bX:(k:Int)<=(n:Int):=by omega
 have c6:¬ (cap=k):=by omega
 have a7:n+1-(k+1)=n-k:=by omega
 rw [a7] at a1;clear a7
 go_region_law (refine iW rfl (aD 50) (aD 53) 25 rfl (v:=J (O ⟨N,(k+1) * 4,L⟩) (n-k) (G-(k+1))) (xv:=J (O ⟨g,k * 4,L⟩) (n-k) (cap-k)) (by simp [dn,bR]) (by simp [dn,bR]) a1 ?_)
 all_goals simp only [Exit.then]
 all_goals apply_assumption
 go_wp2;go_ret;exact Q.o
theorem Nh (B:Nat) (v:aC) (l:List ku) (k:Nat) (c:ku) (b:Nat) (W:aA) (H:nD W B v l) (u:dN W b (cellsD c).toArray 36) (S:v.ownBlock≠O b) (T:k<=l.length) (r:l.length<=900) (hB:B<=W.heap.size) :
  bJ ay 104 #[v,aj ak k,J (O ⟨b,0,L⟩) 1 1] W (EP B l k c v W):=by
 rcases aT k l.length with h|h
 ·rcases gD H with⟨_,j⟩|⟨g,cap,cur,rfl,I,j,M,F,N,G⟩
  ·rw [j] at h; simp at h
  ·rcases aT cap (l.length+1) with q|q
   ·exact K9 B g _ cap cur l k c b W rfl j F M G u h q r hB
   ·exact Io B g _ cap cur l k c b W rfl I j F N G u (fun e=>S (by simp [Value.ownBlock,e])) h q r
 ·obtain rfl:k=l.length:=by omega
  exact Ng B v l c b W H u r hB
end Av
namespace Bk
open Go.RowKit Go.Sort Rw YtghlpefopidlaaaGreat.Nm Pr
def iB {α:Type} (j:α->α->Bool):List α->List α->Bool
 | [],[]=>bF
 | x::l,y::m=>j x y && iB j l m
 | _,_=>aO
theorem AO {α:Type} {j:α->α->Bool}:∀ l m,iB j l m=bF->l.length=m.length
 | [],[],_=>rfl
 | x::l,y::m,h=>by
  simp only [iB,aU] at h;simp [AO l m h.2]
 | [],y::m,h=>by simp [iB] at h
 | x::l,[],h=>by simp [iB] at h
theorem tH {α:Type} {q:α->α->Bool}:∀ l m,l.length=m.length->(∀ (k:Nat) (x y:α),l[k]?=O x->m[k]?=O y->q x y=bF)->iB q l m=bF
 | [],[],_,_=>rfl
 | x::l,y::m,j,h=>by
  simp only [iB,aU];exact⟨h 0 x y rfl rfl,tH l m (by simpa using j) (fun k a b r u=>h (k+1) a b (by simpa using r) (by simpa using u))⟩
 | [],y::m,j,_=>by simp at j
 | x::l,[],j,_=>by simp at j
theorem jP {α:Type} {u:α->α->Bool}:∀ (l m:List α) (k:Nat) (x y:α),l[k]?=O x->m[k]?=O y->u x y=aO->iB u l m=aO
 | [],_,k,x,y,h,_,_=>by simp at h
 | _::_,[],k,x,y,_,h,_=>by simp at h
 | a::l,b::m,0,x,y,j,q,r=>by
  simp at j q;subst j q;simp [iB,r]
 | a::l,b::m,k+1,x,y,j,q,r=>by
  simp only [iB,jP l m k x y (by simpa using j) (by simpa using q) r,Bool.and_false]
theorem tJ {α:Type} {j:α->α->Bool} (q:∀ x y,j x y=bF↔x=y):∀ l m:List α,iB j l m=bF↔l=m
 | [],[]=>by simp [iB]
 | x::l,y::m=>by
  simp only [iB,aU,q,tJ q l m,List.cons.injEq]
 | [],y::m=>by simp [iB]
 | x::l,[]=>by simp [iB]
def Ef (x y:Id):Bool:=x.1 == y.1 && x.2 == y.2
theorem rZ (x y:Id):Ef x y=bF↔x=y:=by
 obtain⟨a,b⟩:=x;obtain⟨c,d⟩:=y;simp [Ef]
def Np (x y:En):Bool:=Ef x.tree y.tree && (Ef x.sub y.sub && (x.from_ == y.from_ && (x.up == y.up && kC x.p y.p)))
theorem adq (x y:En):Np x y=bF↔x=y:=by
 obtain⟨a,b,c,d,e⟩:=x;obtain⟨G,H,I,M,N⟩:=y;simp only [Np,aU,rZ,tF,beq_iff_eq,En.mk.injEq];constructor
 ·rintro⟨j,q,r,u,F⟩;exact⟨j,q,F,r,u⟩
 ·rintro⟨j,q,r,u,F⟩;exact⟨j,q,u,F,r⟩
theorem mh {a b:Bool} (h:a=b):aI (cZ a)=aI (cZ b):=by rw [h]
theorem Vw (bP b9:aC) (l m:List Id) (w:aA) (a1:yL w bP l) (a2:yL w b9 m) (bT:l.length<=1000000) :
  bJ ay 62 #[bP,b9] w fun e w'=>e=aI (cZ (iB Ef l m))/\Below w.heap.size w w':=by
 have b5:=A a1;have N:=A a2;obtain⟨cF,cD,rfl⟩:=a1.len;obtain⟨cH,cG,rfl⟩:=a2.len;clear a1 a2;by_cases I:l.length=m.length
 ·have S:=A I;rw [<- I] at N ⊢;obtain⟨n,M⟩:∃ n,n=l.length:=⟨_,rfl⟩;simp only [<- M] at b5 N ⊢;have G:=A M.symm;rw [<- M] at bT;clear I M;go_enter Tryz.func62,dD;go_wp2
  go_loopw [5] (fun i wr=>∃ k:Nat,k<=n/\i=aj ak k/\Below w.heap.size w wr/\∀ (j:Nat) (x y:Id),j<k->l[j]?=O x->m[j]?=O y->Ef x y=bF) (fun i _=>n-(intOf i).toNat)
  case atStart=>exact⟨0,aX _,rfl,au _ _,fun j x y h=>by omega⟩
  case round =>
   obtain⟨k,cJ,rfl,bI,bE⟩:=hrel;have u:=A bI;have b4:=A bE;clear bI bE;by_cases bM:k<n
   ·obtain⟨x,a7⟩:∃ x,l[k]?=O x:=⟨_,aB (by rw [G.o]; exact bM)⟩;obtain⟨y,a8⟩:∃ y,m[k]?=O y:=⟨_,aB (by rw [<- S.o,G.o]; exact bM)⟩;obtain⟨p,bW,b1⟩:=elJ b5.o rfl G.o a7;obtain⟨q,bX,b2⟩:=elJ N.o rfl (S.o.symm.trans G.o) a8;obtain⟨a,b⟩:=x;obtain⟨c,d⟩:=y;have c6:=bH (b1 _ u.o).1;have c7:=bH (b1 _ u.o).2;have c8:=bH (b2 _ u.o).1;have c9:=bH (b2 _ u.o).2;obtain⟨r,a6⟩:∃ r,Ef (a,b) (c,d)=r:=⟨_,rfl⟩;have bO:=KU a b c d (!r) (by rw [<- a6]; rfl);have b7:=A a7;have b8:=A a8;have b6:=A a6;clear b1 b2 a7 a8 a6;cases r
    ·have R:=A (show iB Ef l m=aO from jP l m k _ _ b7.o b8.o b6.o);go_wp2;refine ko ?_
     repeat (go_big_quiet_step (fail))
     refine kr fun T aE=>?_;go_wp2;go_ret;exact⟨mh R.o.symm,u.o.trans ((dw wr T aE).mono u.o.size)⟩
    ·go_wp2;refine ko ?_
     repeat (go_big_quiet_step (fail))
     refine kr fun T aE=>?_;clear bW bX c6 c7 c8 c9 bO;go_wp2
     go_roundw
     case rel=>exact⟨k+1,by omega,by go_num,u.o.trans ((dw wr T aE).mono u.o.size),fun j cA cC cI H F=>by
      rcases aT j k with bC|bC
      ·exact b4.o j cA cC bC H F
      ·obtain rfl:j=k:=by omega
       have bA:=b7.o;have bB:=b8.o;rw [H] at bA;rw [F] at bB;rw [aL bA,aL bB];exact b6.o⟩
     case measure=>simp [intOf]; omega
   ·obtain rfl:k=n:=by omega
    have R:=A (show iB Ef l m=bF from tH l m (S.o) (fun j a b H F=>b4.o j a b (by have:=(aF.1 H).1; have:=G.o; omega) H F));go_wp2;go_ret;exact⟨mh R.o.symm,u.o⟩
 ·have R:=A (show iB Ef l m=aO by
   cases h:iB Ef l m
   ·rfl
   ·have F:=AO _ _ h;exact absurd (F) I)
  have bO:(((l.length:Nat):Int) != ((m.length:Nat):Int))=bF:=by simp; omega
  have cL:(((l.length:Nat):Int) == ((m.length:Nat):Int))=aO:=by simp; omega
  clear I;go_enter Tryz.func62,dD;go_wp2;go_ret;exact⟨mh R.o.symm,au _ _⟩
end Bk
namespace Rl
open Go.RowKit Pu Rw Pr Va
def AP (x y:Cn):Bool:=decide (y.1=x.1) && fD y.2 x.2
theorem YP {α:Type} (f:α->Bool) (l:List α) (k:Nat) (y:α) (h:l[k]?=O y):(l.take (k+1)).any f=((l.take k).any f || f y):=by
 rw [aY,h,List.any_append];simp
theorem Nq {α:Type} (f:α->Bool) (l:List α) (k:Nat) (y:α) (h:l[k]?=O y):(l.take (k+1)).all f=((l.take k).all f && f y):=by
 rw [aY,h,List.all_append];simp
theorem Ta {α:Type} (f:α->Bool) (l:List α) (k:Nat) (y:α) (h:l[k]?=O y) (j:f y=aO):l.all f=aO:=by
 rw [List.all_eq_false];exact⟨y,aV h,by simp [j]⟩
theorem str_eq (a b:ByteArray) (h:a=b):(a.toList == b.toList)=bF:=by simp [h]
theorem aiG (a b:ByteArray) (h:¬ a=b):(a.toList == b.toList)=aO:=by
 rw [beq_eq_false_iff_ne];intro e;rw [Lib.toList_data,Lib.toList_data] at e;exact h (sV e)
theorem Nr (c8 bC:aC) (a b:List Cn) (w:aA) (a7:fO w c8 (a.map r5)) (a8:fO w bC (b.map r5)) (d8:a.length<=100) (d9:b.length<=100) :
  bJ ay 164 #[c8,bC] w fun e w'=>e=aI (cZ (rW a b))/\Below w.heap.size w w':=by
 have b8:=A a7;have b9:=A a8;have b7:=A (show rW a b=a.all fun x=>b.any (AP x) from rfl);obtain⟨cX,cW,rfl⟩:=a7.len;obtain⟨d0,cY,rfl⟩:=a8.len;clear a7 a8;rw [aP] at b8 b9 ⊢;rw [aP];generalize rW a b=r at *;generalize c7:a.length=n at *;generalize c6:b.length=m at *;have a6:=A c7;have a2:=A c6;clear c7 c6;go_enter Tryz.func164,Tryz.ntmps164;go_wp2
 go_loopw [12] (fun i wr=>∃ k:Nat,k<=n/\i=aj ak k/\Below w.heap.size w wr/\(a.take k).all (fun x=>b.any (AP x))=bF) (fun i _=>n-(intOf i).toNat)
 case atStart=>exact⟨0,aX _,rfl,au _ _,rfl⟩
 case round =>
  obtain⟨k,d7,rfl,bW,bT⟩:=hrel;have G:=A bW;have b4:=A bT;clear bW bT;by_cases cN:k<n
  ·obtain⟨x,b1⟩:∃ x,a[k]?=O x:=⟨_,aB (by rw [a6.o]; exact cN)⟩;obtain⟨p,cP,I⟩:=XG b8.o rfl (by rw [aP]; exact a6.o) (show (a.map r5)[k]?=O (r5 x) by rw [aK,b1]; rfl);have cQ:=(I _ G.o).1;have cR:=(I _ G.o).2.1;have cS:=(I _ G.o).2.2.1;have cT:=(I _ G.o).2.2.2.1;have cU:=(I _ G.o).2.2.2.2;have bA:=A b1;have b5:=A (G.o.alloc G.o.size (aH #[aN (r5 x).1,aj ak (r5 x).2.1,aj ak (r5 x).2.2.1,aj ak (r5 x).2.2.2.1,aN (r5 x).2.2.2.2] 91));have S:=A (show wr.heap.size<(wr.alloc (aH #[aN (r5 x).1,aj ak (r5 x).2.1,aj ak (r5 x).2.2.1,aj ak (r5 x).2.2.2.1,aN (r5 x).2.2.2.2] 91)).heap.size by simp);have bE:(wr.alloc (aH #[aN (r5 x).1,aj ak (r5 x).2.1,aj ak (r5 x).2.2.1,aj ak (r5 x).2.2.2.1,aN (r5 x).2.2.2.2] 91)).cell? ⟨wr.heap.size,0,L⟩=O (aN (r5 x).1):=by simp [go_sem]
   have bI:(wr.alloc (aH #[aN (r5 x).1,aj ak (r5 x).2.1,aj ak (r5 x).2.2.1,aj ak (r5 x).2.2.2.1,aN (r5 x).2.2.2.2] 91)).cell? ⟨wr.heap.size,1,L⟩=O (aj ak (r5 x).2.1):=by simp [go_sem]
   have bM:(wr.alloc (aH #[aN (r5 x).1,aj ak (r5 x).2.1,aj ak (r5 x).2.2.1,aj ak (r5 x).2.2.2.1,aN (r5 x).2.2.2.2] 91)).cell? ⟨wr.heap.size,2,L⟩=O (aj ak (r5 x).2.2.1):=by simp [go_sem]
   have bO:(wr.alloc (aH #[aN (r5 x).1,aj ak (r5 x).2.1,aj ak (r5 x).2.2.1,aj ak (r5 x).2.2.2.1,aN (r5 x).2.2.2.2] 91)).cell? ⟨wr.heap.size,3,L⟩=O (aj ak (r5 x).2.2.2.1):=by simp [go_sem]
   have bP:(wr.alloc (aH #[aN (r5 x).1,aj ak (r5 x).2.1,aj ak (r5 x).2.2.1,aj ak (r5 x).2.2.2.1,aN (r5 x).2.2.2.2] 91)).cell? ⟨wr.heap.size,4,L⟩=O (aN (r5 x).2.2.2.2):=by simp [go_sem]
   clear I b1;go_wp2;generalize wr.alloc (aH #[aN (r5 x).1,aj ak (r5 x).2.1,aj ak (r5 x).2.2.1,aj ak (r5 x).2.2.2.1,aN (r5 x).2.2.2.2] 91)=bB at *;generalize wr.heap.size=bx at *;have cC:=A bE;have cD:=A bI;have cF:=A bM;have cG:=A bO;have cH:=A bP;clear bE bI bM bO bP cP cQ cR cS cT cU
   go_loopw [7,18] (fun v i cV=>∃ j:Nat,j<=m/\i=aj ak j/\v=cZ ((b.take j).any (AP x))/\Below bB.heap.size bB cV) (fun _ i _=>m-(intOf i).toNat)
   case atStart=>exact⟨0,aX _,rfl,rfl,au _ _⟩
   case round =>
    obtain⟨j,d6,rfl,rfl,aE⟩:=hrel;have b6:=A aE;have H:=A (b5.o.trans (aE.mono b5.o.size));clear aE;by_cases cM:j<m
    ·obtain⟨y,b2⟩:∃ y,b[j]?=O y:=⟨_,aB (by rw [a2.o]; exact cM)⟩;obtain⟨q,dA,M⟩:=XG b9.o rfl (by rw [aP]; exact a2.o) (show (b.map r5)[j]?=O (r5 y) by rw [aK,b2]; rfl);have dC:=(M _ H.o).1;have dE:=(M _ H.o).2.1;have dS:=(M _ H.o).2.2.1;have dT:=(M _ H.o).2.2.2.1;have dZ:=(M _ H.o).2.2.2.2;have N:=A (YP (AP x) b j y b2);have u:=A (b6.o.alloc b6.o.size (aH #[aN (r5 y).1,aj ak (r5 y).2.1,aj ak (r5 y).2.2.1,aj ak (r5 y).2.2.2.1,aN (r5 y).2.2.2.2] 91));have d1:=(u.o.cell (p:=⟨bx,0,L⟩) S.o).trans cC.o;have d2:=(u.o.cell (p:=⟨bx,1,L⟩) S.o).trans cD.o;have d3:=(u.o.cell (p:=⟨bx,2,L⟩) S.o).trans cF.o;have d4:=(u.o.cell (p:=⟨bx,3,L⟩) S.o).trans cG.o;have d5:=(u.o.cell (p:=⟨bx,4,L⟩) S.o).trans cH.o;clear M b2;cases F:(b.take j).any (AP x)
     ·rw [F] at N;clear F;by_cases T:y.1=x.1
      ·have cL:=str_eq (r5 y).1 (r5 x).1 T;have a1:=A (show AP x y=fD y.2 x.2 by simp [AP,T]);go_wp2_with fail;refine (Nl y x _).mono ?_;rintro e e0 ⟨rfl,bX⟩;have cA:=A (u.o.trans (bX.mono u.o.size));clear bX;go_wp2
       go_roundw
       case rel=>exact⟨j+1,by omega,by go_num,by rw [N.o,a1.o]; rfl,cA.o⟩
       case measure=>simp [intOf]; omega
      ·have cL:=aiG (r5 y).1 (r5 x).1 T;have a1:=A (show AP x y=aO by simp [AP,T]);go_wp2
       go_roundw
       case rel=>exact⟨j+1,by omega,by go_num,by rw [N.o,a1.o]; rfl,u.o⟩
       case measure=>simp [intOf]; omega
     ·rw [F] at N;clear F;go_wp2
      go_roundw
      case rel=>exact⟨j+1,by omega,by go_num,by rw [N.o]; rfl,u.o⟩
      case measure=>simp [intOf]; omega
    ·obtain rfl:j=m:=by omega
     have cJ:=A (show (b.take j).any (AP x)=b.any (AP x) by rw [<- a2.o,cB]);have c9:=A (Nq (fun x=>b.any (AP x)) a k x bA.o);rw [cJ.o];cases F:b.any (AP x)
     ·have R:=A (show r=aO from b7.o.trans (Ta _ a k x bA.o F));clear F;go_wp2;go_ret;exact⟨eG R.o.symm,H.o⟩
     ·have cI:=A F;clear F;go_wp2
      go_roundw
      case rel=>exact⟨k+1,by omega,by go_num,H.o,by rw [c9.o,b4.o,cI.o]; rfl⟩
      case measure=>simp [intOf]; omega
  ·obtain rfl:k=n:=by omega
   have R:=A (show r=bF by rw [b7.o,<- b4.o,<- a6.o,cB]);go_wp2;go_ret;exact⟨eG R.o.symm,G.o⟩
end Rl
namespace Bk
open Go.RowKit Rw YtghlpefopidlaaaGreat.Nm Pr
def jT {j:Type} [DecidableEq j]:List j->j->Int
 | [],_=>-1
 | a::l,x=>if a=x then 0 else if jT l x=-1 then -1 else jT l x+1
theorem yM {j:Type} [DecidableEq j] (l:List j) (x:j) (h:∀ (q:Nat) (y:j),l[q]?=O y->y≠x):jT l x=-1:=by
 induction l with
 | nil=>rfl
 | cons a l u=>rw [jT,if_neg (h 0 a rfl),u fun q y r=>h (q+1) y (by simpa using r),if_pos rfl]
theorem ER {q:Type} [DecidableEq q] (l:List q) (k:Nat) (x:q) (h:l[k]?=O x) (r:∀ (j:Nat) (z:q),j<k->l[j]?=O z->z≠x):jT l x=k:=by
 induction l generalizing k with
 | nil=>simp at h
 | cons a l G =>
  cases k with
  | zero =>
   obtain rfl:a=x:=by simpa using h
   rw [jT,if_pos rfl]
   rfl
  | succ k =>
   have u:=G k (by simpa using h) fun j z H F=>r (j+1) z (by omega) (by simpa using F);rw [jT,if_neg (r 0 a (by omega) rfl),u,if_neg (by omega)];omega
theorem pI {q:Type} [DecidableEq q] (l:List q) (x:q):jT l x=-1\/∃ k:Nat,jT l x=k/\l[k]?=O x:=by
 induction l with
 | nil=>exact dx rfl
 | cons a l u =>
  rw [jT];by_cases h:a=x
  ·rw [if_pos h];exact aM ⟨0,rfl,by rw [h]; rfl⟩
  ·rw [if_neg h];rcases u with j|⟨k,j,r⟩
   ·rw [if_pos j];exact dx rfl
   ·rw [if_neg (by omega),j];exact aM ⟨k+1,by omega,by simpa using r⟩
abbrev jR (e:iY):Id×Id:=((e.1,e.2.1),(e.2.2.1,e.2.2.2.1))
theorem EZ (me:Int) (bB av bE bC:aC) (b4:Sl) (l:List iY) (x z:Id) (w:aA) (a7:mF w (eu b4) l) :
  bJ ay 124 #[.agg #[aj ak me,bB,av,bE,eu b4,bC],nP x,nP z] w fun e w'=>e=aI (aj ak (jT (l.map jR) (x,z)))/\Below w.heap.size w w':=by
 obtain⟨c,d⟩:=x;obtain⟨g,h⟩:=z;obtain⟨aE,cF,sc⟩:=b4;obtain⟨c6,bX,a8⟩:=a7.len;have a8:J aE cF sc=J c6 l.length bX:=a8;obtain⟨rfl,rfl,rfl⟩:aE=c6/\cF=l.length/\sc=bX:=by simpa using a8
 obtain⟨b5,G,c7,H⟩:=gT w #[aj ak me,bB,av,bE,J aE l.length sc,bC] #[aj ak c,aj ak d] #[aj ak g,aj ak h] 30 23 23;have B:=A b5;have bO:=A (a7.on b5);have cG:=A G;have bT:=A c7;have bW:=A H;have cA:=a7.most;unfold maxLen at cA;obtain⟨n,b7⟩:∃ n,n=l.length:=⟨_,rfl⟩;have cD:=G.cell 4;simp only [V,Z,ah] at cD;rw [<- b7] at bO cG cA cD B bT bW ⊢;have b1:=A b7.symm;clear b5 G c7 H a7 a8 b7;go_enter Tryz.func124,Tryz.ntmps124;go_upto_region 1 with fail;generalize ((w.alloc (aH #[aj ak me,bB,av,bE,J aE n sc,bC] 30)).alloc (aH #[aj ak c,aj ak d] 23)).alloc (aH #[aj ak g,aj ak h] 23)=W at *;go_wp2
 go_loopw [12] (fun i wr=>∃ k:Nat,k<=n/\i=aj ak k/\Below W.heap.size W wr/\∀ (j:Nat) (y:iY),j<k->l[j]?=O y->jR y≠((c,d),(g,h))) (fun i _=>n-(intOf i).toNat)
 case atStart=>exact⟨0,aX _,rfl,au _ _,fun j y h=>by omega⟩
 case round =>
  obtain⟨k,d2,rfl,c9,c8⟩:=hrel;have F:=A c9;have a6:=A c8;clear c9 c8;by_cases cL:k<n
  ·obtain⟨y,bA⟩:∃ y,l[k]?=O y:=⟨_,aB (by rw [b1.o]; exact cL)⟩;obtain⟨p,d4,cC⟩:=Qj bO.o rfl b1.o bA;obtain⟨cM,cN,cP,cQ,cR,cS,cT⟩:=cC wr F.o;obtain⟨M,N,S,T,⟨cY,cX,cW⟩,cU,cV⟩:=y;simp only at cM cN cP cQ cR cS cT;have a1:=A (fP wr (aH #[aj ak M,aj ak N,aj ak S,aj ak T,J cY cX cW,aj ak cU,cZ cV] 67));obtain⟨d5,d6⟩:=((bT.o.on F.o).on a1.o).cs2;obtain⟨z0,d7⟩:=((bW.o.on F.o).on a1.o).cs2;have d3:IntKind.i64.wrap ((k:Int)+1)=(k:Int)+1:=IntWalk.i64_in _ (by omega);obtain⟨r,b8⟩:∃ r,(M == c && N == d)=r:=⟨_,rfl⟩;obtain⟨t,b9⟩:∃ r,(S == g && T == h)=r:=⟨_,rfl⟩;have d0:=uL M N c d r b8;have d1:=uL S T g h t b9;have b2:=A bA;have bM:=A b8;have bP:=A b9;clear cC bA b8 b9;cases r
   ·go_wp2
    go_roundw
    case rel=>exact⟨k+1,by omega,by go_num,F.o.trans (a1.o.mono F.o.size),fun j bI b6 G=>by
     rcases aT j k with H|H
     ·exact a6.o j bI H G
     ·obtain rfl:j=k:=by omega
      have a2:=b2.o;rw [G] at a2;rw [aL a2];intro e;obtain⟨⟨rfl,rfl⟩,_⟩:(M=c/\N=d)/\(S=g/\T=h):=by simpa [jR] using e
      have:=bM.o;simp at this⟩
    case measure=>simp [intOf]; omega
   ·cases t
    ·go_wp2
     go_roundw
     case rel=>exact⟨k+1,by omega,by go_num,F.o.trans (a1.o.mono F.o.size),fun j bI b6 G=>by
      rcases aT j k with H|H
      ·exact a6.o j bI H G
      ·obtain rfl:j=k:=by omega
       have a2:=b2.o;rw [G] at a2;rw [aL a2];intro e;obtain⟨_,rfl,rfl⟩:(M=c/\N=d)/\(S=g/\T=h):=by simpa [jR] using e
       have:=bP.o;simp at this⟩
     case measure=>simp [intOf]; omega
    ·go_wp2;go_ret;have cH:=bM.o;have cI:=bP.o;obtain⟨rfl,rfl⟩:M=c/\N=d:=by simpa using cH
     obtain⟨rfl,rfl⟩:S=g/\T=h:=by simpa using cI
     exact⟨by rw [ER (l.map jR) k ((M,N),(S,T)) (by rw [aK,b2.o]; rfl) (fun j z b6 u=>by
      rw [aK] at u;cases I:l[j]? with
      | none=>rw [I] at u; cases u
      | some q =>
       rw [I] at u;have u:jR q=z:=aL u;rw [<- u];exact a6.o j q b6 I)]; rfl,B.o.trans ((F.o.trans (a1.o.mono F.o.size)).mono B.o.size)⟩
  ·obtain rfl:k=n:=by omega
   go_wp2;go_ret;have cJ:jT (l.map jR) ((c,d),(g,h))=-1:=yM _ _ fun j z u=>by
    rw [aK] at u;cases I:l[j]? with
    | none=>rw [I] at u; cases u
    | some q =>
     rw [I] at u;have u:jR q=z:=aL u;rw [<- u];exact a6.o j q (by rw [<- b1.o]; exact (aF.1 I).1) I
   exact⟨by rw [cJ]; rfl,B.o.trans (F.o.mono B.o.size)⟩
end Bk
namespace Bk
open Go.RowKit Go.Sort Rw YtghlpefopidlaaaGreat.Nm Pr
def Ja (near:List Int) (n:Int):Int:=(near[(Wi.within n 0 near.length).toNat]?).getD (-1)
theorem Yx (me n:Int) (T:Sl) (av G u F:aC) (l:List Int) (w:aA) (I:sW w (eu T) l) (b6:l.length<=900) (b4:-9223372036854775808<=n) (b5:n<=9223372036854775807) :
  bJ ay 49 #[.agg #[aj ak me,eu T,av,G,u,F],aj ak n] w fun e w'=>e=aI (aj ak (Ja l n))/\Below w.heap.size w w':=by
 obtain⟨no,j,q⟩:=T;obtain⟨a8,aE,a6⟩:=I.len;obtain⟨rfl,rfl,rfl⟩:no=a8/\j=l.length/\q=aE:=by
  have:J no j q=J a8 l.length aE:=a6;simpa using this
 obtain⟨j,N⟩:∃ n,n=l.length:=⟨_,rfl⟩;simp only [<- N] at I ⊢;have M:=fP w (aH #[aj ak me,J no j q,av,G,u,F] 30);have a1:=A M;have b2:=A (dR w #[aj ak me,J no j q,av,G,u,F] 30);have b1:=A (I.on M);have H:=A N;have bE:j<=900:=by omega
 clear M I a6 N b6;show bJ ay 49 #[.agg #[aj ak me,J no j q,av,G,u,F],aj ak n] w _;go_enter Tryz.func49,Tryz.ntmps49;go_upto_region 1 with fail;generalize w.alloc (aH #[aj ak me,J no j q,av,G,u,F] 30)=W at *;have b9:=b2.o.cell 1;simp only [V,Z,ah] at b9;have a2:=Wi.iM n 0 (j:Int) W (by omega) (by decide) (by omega) b4 b5;have bA:=Wi.jy n 0 (j:Int) (by omega);have r:=A (show Ja l n=(l[(Wi.within n 0 (j:Int)).toNat]?).getD (-1) from by unfold Ja; rw [H.o]);generalize Wi.within n 0 (j:Int)=y at *;obtain⟨m,rfl⟩:∃ m:Nat,y=m:=⟨y.toNat,by omega⟩;rw [Int.toNat_natCast] at r;go_wp2_with fail;refine a2.mono ?_;rintro bB bM ⟨rfl,rfl⟩;clear a2;by_cases b7:m<j
 ·have b8:(m:Int)<(j:Int):=by omega
  obtain⟨z,S⟩:∃ z,l[m]?=O z:=⟨_,aB (by rw [<- H.o]; exact b7)⟩;obtain⟨p,bC,a7⟩:=elI b1.o rfl H.o.symm S;have bI:=a7.2 W (au _ _);rw [S] at r;clear a7 S;go_wp2_with fail;go_ret;exact⟨by rw [r.o]; rfl,a1.o⟩
 ·have b8:¬ ((m:Int)<(j:Int)):=by omega
  rw [List.getElem?_eq_none (by have:=H.o; omega)] at r;go_wp2_with fail;go_ret;exact⟨by rw [r.o]; rfl,a1.o⟩
end Bk
end Go.Proofs.YtghlpefopidlaaaGreat
