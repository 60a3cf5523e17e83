/-
  The order of IDs: cm. Conditions as told.
-/
import Derived.Test.YtghlpefopidlaaaGreatDQ001
import Derived.Laws.Cover3
set_option maxRecDepth 100000
set_option maxHeartbeats 64000000
open _root_.Bool renaming false->aS,true->aZ,and_eq_true->bN,or_eq_true->bZ
open _root_.Go renaming World->aD,Value->aG,cell_regrown->aJ,below_regrown->aR,bodyPost_ret->bD,Calls->bF,redrawn->bL,TypeId->dG,Addr->dH
open Go.Addr renaming add->bf
open Go.Builtin renaming append_->aQ
open Go.Calls renaming regrown_of->bQ
open Go.Ending renaming returned->aC
open Go.Instr renaming sliceAt->aT
open Go.IntKind renaming i64->O
open Go.IntWalk renaming i64_in->aW
open Go.Obj renaming cells->aA
open Go.Operand renaming tmp->aB
open Go.Proofs.Tryz renaming prog->U,results161->cu,results118->dx
open Go.Proofs.YtghlpefopidlaaaGreat.Rg renaming dI->aM,dY->dw
open Go.Proofs.YtghlpefopidlaaaGreat.Rw renaming wpList_append_run->aN
open Go.Proofs.YtghlpefopidlaaaGreat.Rw.Row renaming dL->aU
open Go.RowKit renaming Below->bg
open Go.RowKit.Below renaming refl->Z,heap_setCell->aF
open Go.Value renaming slice->J,int->L,pointer->aj,bool->aL,agg->cZ
open _root_.List renaming getElem?_toArray->ak,getElem?_cons_zero->au,getElem?_cons_succ->ay,getElem?_eq_getElem->aI,length_take->aO,setIfInBounds_toArray->aX,getElem?_eq_some_iff->aY,set_cons_zero->bJ,set_cons_succ->bK,length_drop->bR,filter_cons_of_neg->bS,filter_cons_of_pos->bU,take_of_length_le->bY,length_filter_le->cB,takeWhile_cons->cK,map_cons->cO,getElem?_map->dh,length_map->dB,mem_range->dD
open _root_.Nat renaming le_refl->aK,zero_le->bG,lt_of_le_of_lt->bH,lt_or_ge->bV,le_of_lt->dn
open _root_.Option renaming none->V,some->ah
open Option.some renaming inj->aP
open _root_.Or renaming inr->aH,inl->aV
open Go.Proofs.YtghlpefopidlaaaGreat renaming hq->A
namespace Go.Proofs.YtghlpefopidlaaaGreat
namespace Av
open Go.RowKit Go.Sort Rw YtghlpefopidlaaaGreat.Nm Pr Bk
def mQ (a b:Int):Int:=if a<b then -1 else if b<a then 1 else 0
def Ea (a b:Int):Int:=if a=0 then b else a
theorem wX (a:Int) (w:aD):bF U 128 #[L O a] w fun e w'=>e=aC (aL aS)/\w'=w:=by
 go_enter Tryz.func128,Tryz.ntmps128;go_wp2;go_ret;exact⟨by simp,rfl⟩
theorem pG (a b:Int) (w:aD):bF U 67 #[L O a,L O b] w fun e w'=>e=aC (L O (mQ a b))/\w'=w:=by
 have q:=A (show a<b->mQ a b=-1 from fun h=>by unfold mQ; rw [if_pos h]);have r:=A (show ¬ a<b->b<a->mQ a b=1 from fun h j=>by unfold mQ; rw [if_neg h,if_pos j]);have u:=A (show ¬ a<b->¬ b<a->mQ a b=0 from fun h j=>by unfold mQ; rw [if_neg h,if_neg j]);generalize mQ a b=G at *;go_enter Tryz.func67,Tryz.ntmps67;by_cases F:a<b
 ·have E:=q.o F;clear q r u;subst E;go_wp2_with (go_at_call 128; refine (wX _ _).mono ?_; rintro e w' ⟨rfl,rfl⟩);go_ret;exact⟨rfl,rfl⟩
 ·by_cases j:b<a
  ·have E:=r.o F j;clear q r u;subst E;go_wp2_with (go_at_call 128; refine (wX _ _).mono ?_; rintro e w' ⟨rfl,rfl⟩);go_ret;exact⟨rfl,rfl⟩
  ·have E:=u.o F j;clear q r u;subst E;go_wp2_with (go_at_call 128; refine (wX _ _).mono ?_; rintro e w' ⟨rfl,rfl⟩);go_ret;exact⟨rfl,rfl⟩
theorem Yc (g:Nat) (cap:Nat) (a b:Int) (w:aD) (a1:w.cell? ⟨g,0,V⟩=ah (L O a)) (a2:w.cell? ⟨g,1,V⟩=ah (L O b)):bF U 107 #[J (ah ⟨g,0,V⟩) 2 cap] w fun e w'=>e=aC (L O (Ea a b))/\w'=w:=by
 have F:=A (show a≠0->Ea a b=a from fun h=>by unfold Ea; rw [if_neg h]);have u:=A (show a=0->Ea a b=b from fun h=>by unfold Ea; rw [if_pos h]);generalize Ea a b=r at *;go_enter Tryz.func107,Tryz.ntmps107;go_wp2
 go_loopw [8] (fun i wr=>∃ k:Nat,k<=2/\i=L O k/\Hq (wr=w)/\(0<k->a=0)/\(1<k->b=0)) (fun i _=>2-(intOf i).toNat)
 case atStart=>exact⟨0,by omega,rfl,by first | exact A rfl | exact A trivial,fun h=>by omega,fun h=>by omega⟩
 case round =>
  obtain⟨k,a8,rfl,N,G,H⟩:=hrel;obtain rfl:=N.o;clear N;by_cases aE:k<2
  ·obtain⟨x,b1,S,T⟩:∃ x:Int,wr.cell? ⟨g,k,V⟩=ah (L O x)/\(k=0->x=a)/\(k=1->x=b):=by
    by_cases h:k=0
    ·exact⟨a,by rw [h]; exact a1,fun _=>rfl,fun a6=>by omega⟩
    ·obtain rfl:k=1:=by omega
     exact⟨b,a2,fun a6=>by omega,fun _=>rfl⟩
   have q:=A (And.intro S T);have M:=A G;have a7:=A H;clear G H S T a1 a2;by_cases j:x=0
   ·have c0:((x:Int) != 0)=aS:=by simp [j]
    have I:=A j;clear j F u;go_wp2
    go_roundw
    case rel=>exact⟨k+1,by omega,by go_num,by first | exact A rfl | exact A trivial,fun _=>by
     by_cases h:k=0
     ·rw [<- q.o.1 h]; exact I.o
     ·exact M.o (by omega),fun h=>by
     rw [<- q.o.2 (by omega)]; exact I.o⟩
    case measure=>simp [intOf]; omega
   ·have c0:((x:Int) != 0)=aZ:=by simp [j]
    have E:=A (show r=x by
     by_cases h:k=0
     ·rw [F.o (by rw [<- q.o.1 h]; exact j)]; exact (q.o.1 h).symm
     ·rw [u.o (M.o (by omega))]; exact (q.o.2 (by omega)).symm)
    clear j F u;go_wp2;go_ret;exact⟨by have h:=E.o; subst h; rfl,rfl⟩
  ·have E:=A ((u.o (G (by omega))).trans (H (by omega)));obtain rfl:k=2:=by omega
   clear F u G H;go_wp2;go_ret;exact⟨by have h:=E.o; subst h; rfl,rfl⟩
def gU (x y:fB):Int:=Ea (mQ x.1 y.1) (mQ x.2 y.2)
theorem Ay (a b:Int):mQ a b=0↔a=b:=by unfold mQ; split <;> (try split) <;> omega
theorem rz (a b:Int):mQ a b<0↔a<b:=by unfold mQ; split <;> (try split) <;> omega
theorem wY (x y:fB):gU x y=0↔x=y:=by
 obtain⟨a,b⟩:=x;obtain⟨c,d⟩:=y;have j:=Ay a c;have q:=Ay b d;unfold gU Ea;simp only [Prod.mk.injEq]
 split <;> rename_i h
 ·rw [q]; exact⟨fun e=>⟨j.1 h,e⟩,fun e=>e.2⟩
 ·exact⟨fun e=>absurd e h,fun e=>absurd (j.2 e.1) h⟩
theorem vO (x y:fB):gU x y<0↔eT x y=aZ:=by
 obtain⟨a,b⟩:=x;obtain⟨c,d⟩:=y;have q:=Ay a c;have r:=rz b d;have u:=rz a c;unfold gU Ea eT;simp only [bZ,bN,decide_eq_true_eq,beq_iff_eq]
 split <;> rename_i h
 ·have:=q.1 h;subst this;rw [r];constructor
  ·intro h; exact aH ⟨rfl,h⟩
  ·rintro (h|⟨_,h⟩)
   ·omega
   ·exact h
 ·rw [u];constructor
  ·intro h; exact aV h
  ·rintro (j|⟨j,_⟩)
   ·exact j
   ·exact absurd (q.2 j) h
theorem jN (x:fB):eT x x=aS:=by simp [eT]
theorem ji {x y z:fB} (j:eT x y=aZ) (q:eT y z=aZ):eT x z=aZ:=by
 simp only [eT,bZ,bN,decide_eq_true_eq,beq_iff_eq] at *;omega
theorem rX (x y:fB):eT x y=aZ\/x=y\/eT y x=aZ:=by
 obtain⟨a,b⟩:=x;obtain⟨c,d⟩:=y;simp only [eT,bZ,bN,decide_eq_true_eq,beq_iff_eq,Prod.mk.injEq];omega
theorem Na (args:Array aG) (w:aD):(callFunc 67 args).run U w=.ok (.enter 67 args) w:=gB Tryz.func67 rfl rfl args w
theorem SF (args:Array aG) (w:aD):(callFunc 107 args).run U w=.ok (.enter 107 args) w:=gB Tryz.func107 rfl rfl args w
theorem I7 (args:Array aG) (w:aD):(callFunc 38 args).run U w=.ok (.enter 38 args) w:=gB Tryz.func38 rfl rfl args w
theorem rA (x y:fB) (w:aD):bF U 38 #[nP x,nP y] w fun e w'=>e=aC (L O (gU x y))/\Below w.heap.size w w':=by
 obtain⟨a,b⟩:=x;obtain⟨c,d⟩:=y;obtain⟨q,X,Y⟩:=gX w #[L O a,L O b] #[L O c,L O d] 23 23;obtain⟨S,T⟩:=(X.on (Z _ _).drew).cs2;obtain⟨a1,a2⟩:=(Y.on (Z _ _).drew).cs2;have G:=A (fun w'=>pG a c w');have H:=A (fun w'=>pG b d w');have r:=A (fun (w':aD) (j v:Int)=>(⟨(dR w' #[L O j,L O v] 3).cell 0,(dR w' #[L O j,L O v] 3).cell 1⟩:(w'.alloc (aA #[L O j,L O v] 3)).cell? ⟨w'.heap.size,0,V⟩=ah (L O j)/\(w'.alloc (aA #[L O j,L O v] 3)).cell? ⟨w'.heap.size,1,V⟩=ah (L O v)));have I:=A (fun cs:Array aG=>show Below w.heap.size w (((w.alloc (aA #[L O a,L O b] 23)).alloc (aA #[L O c,L O d] 23)).drew.alloc (aA cs 3)) from q.drew.alloc q.size _);have M:=A (show gU (a,b) (c,d)=Ea (mQ a c) (mQ b d) from rfl);generalize gU (a,b) (c,d)=N at *;generalize mQ a c=j at *;generalize mQ b d=v at *;clear X Y q;go_enter Tryz.func38,Tryz.ntmps38;go_wp2_with fail;generalize (w.alloc (aA #[L O a,L O b] 23)).alloc (aA #[L O c,L O d] 23)=W at *
 go_region_law (first
  | (refine sK rfl (nQ _ _ (aB 6) (aB 8) 3 3 67 rfl rfl rfl rfl _ (Na _ _)) (G.o _) ?_; rintro u F ⟨rfl,rfl⟩; refine⟨_,rfl,?_⟩)
  | (refine sK rfl (nQ _ _ (aB 11) (aB 13) 3 3 67 rfl rfl rfl rfl _ (Na _ _)) (H.o _) ?_; rintro u F ⟨rfl,rfl⟩; refine⟨_,rfl,?_⟩)
  | (refine sK rfl (jq _ _ (aB 15) 24 107 rfl rfl rfl _ (SF _ _)) (Yc _ _ j v _ (r.o _ j v).1 (r.o _ j v).2) ?_; rintro u F ⟨rfl,rfl⟩; refine⟨_,rfl,?_⟩))
 all_goals simp only [Exit.then]
 all_goals apply_assumption
 all_goals
  go_wp2;go_ret;exact⟨by have h:=M.o; subst h; rfl,I.o _⟩
end Av
namespace Wr
open YtghlpefopidlaaaGreat.Nm At Pr
def qB (c:C5):Bool:=lV c.1 && (if c.2.1=1 then decide (c.2.2.2.2.size=0) && decide (c.2.2.1<=c.2.2.2.1) else if c.2.1=2 then decide (c.2.2.1=0) && (decide (c.2.2.2.1=0) && decide (c.2.2.2.2.size<=12)) else if c.2.1=3 then decide (c.2.2.1=0) && (decide (c.2.2.2.1=0) && decide (c.2.2.2.2.size<=11)) else aS)
def Yp (p x:C5):Bool:=Op.bytesLess p.1.toList x.1.toList
def uY (l:List C5) (k:Nat):Bool:=match l[k]? with
 | some x=>qB x && (k == 0 || (match l[k-1]? with
  | some p=>Yp p x
  | none=>aZ))
 | none=>aZ
def fT (l:List C5):Bool:=(List.range l.length).all (uY l) && decide (l.length<=5)
theorem Ew (l:List C5) (k:Nat) (h:k<l.length) (j:uY l k=aS):fT l=aS:=by
 unfold fT;rw [Bool.and_eq_false_iff];refine aV (List.all_eq_false.2 ⟨k,dD.2 h,by rw [j]; simp⟩)
theorem Ey (l:List C5) (h:∀ j,j<l.length->uY l j=aZ):fT l=decide (l.length<=5):=by
 unfold fT;rw [List.all_eq_true.2 fun j q=>h j (dD.1 q),Bool.true_and]
end Wr
namespace Bk
open Go.RowKit Go.Sort Rw YtghlpefopidlaaaGreat.Nm Pr
theorem rD (l:List Id) (x:Id) (k:Nat) (u:∀ (j:Nat) (y:Id),j<k->l[j]?=ah y->eT y x=aZ) (r:k=l.length\/∃ y,l[k]?=ah y/\eT y x=aS):gu l x=k:=by
 unfold gu
 induction l generalizing k with
 | nil =>
  rcases r with h|⟨y,h,_⟩
  ·rw [h]; rfl
  ·simp at h
 | cons a l H =>
  cases k with
  | zero =>
   rcases r with h|⟨y,h,q⟩
   ·simp at h
   ·obtain rfl:a=y:=by simpa using h
    rw [cK,q]
    rfl
  | succ k =>
   have F:=u 0 a (by omega) rfl;rw [cK,F];simp only [if_true,List.length_cons];rw [H k (fun j y I G=>u (j+1) y (by omega) (by simpa using G)) (by
    rcases r with h|⟨y,h,q⟩
    ·exact aV (by simpa using h)
    ·exact aH ⟨y,by simpa using h,q⟩)]
noncomputable def adi:Code:=((Tryz.f118.body.bind (kW 0)).getD .skip)
theorem Yd (Q:Exit->Act->aD->Prop) (W:aD) (bI b3:Nat) (me c d:Int) (b7 b8 gE gI fN fR:aG) (c7:OA) (n sc:Nat) (l:List fB) {cT cU d8 e3 u7 f8 u9 cV u11 fS u13 fV fW fX fY g0 g1 g2 g3 g4 g5 g6 g7 g8 g9 gA cW cX cY d0 d1 d2 d3 d4 d5 d6 d7 d9 dA dC dE dS dT dZ e0 e1 e2 e4 e5 e6 e7 e8 e9 eA eB eC eE eI eJ eK eL eM eN eQ eR eS eV eW f0 f1 f2 f3 f4 f5 f6 f7:aG}
  (cG:dN W bI #[L O me,b7,b8,J c7 n sc,gE,gI] 30) (I:dN W b3 #[L O c,L O d,fN,fR] 36) (cN:yL W (J c7 n sc) l) (cM:n=l.length) (gS:n<=1000000)
  (cH:∀ (wr:aD) (M N S T a1 a2 a6 a7 a8 aE v22 b1 b2 b4 b5 b6 v28:aG),Below W.heap.size W wr->Q .normal ⟨(cT::cU::aj (ah ⟨bI,0,V⟩)::aj (ah ⟨b3,0,V⟩)::d8::e3::L O (gu l (c,d):Nat)::u7::f8::u9::cV::u11::M::N::S::T::a1::a2::a6::a7::a8::aE::v22::b1::b2::b4::b5::b6::v28::cW::cX::cY::d0::d1::d2::d3::d4::d5::d6::d7::d9::dA::dC::dE::dS::dT::dZ::e0::e1::e2::e4::e5::e6::e7::e8::e9::eA::eB::eC::eE::eI::eJ::eK::eL::eM::eN::eQ::eR::eS::eV::eW::f0::f1::f2::f3::f4::f5::f6::f7::[]).toArray,[]⟩ wr) :
  Code.wp U adi Q ⟨(cT::cU::aj (ah ⟨bI,0,V⟩)::aj (ah ⟨b3,0,V⟩)::d8::e3::L O 0::u7::f8::u9::cV::u11::fS::u13::fV::fW::fX::fY::g0::g1::g2::g3::g4::g5::g6::g7::g8::g9::gA::cW::cX::cY::d0::d1::d2::d3::d4::d5::d6::d7::d9::dA::dC::dE::dS::dT::dZ::e0::e1::e2::e4::e5::e6::e7::e8::e9::eA::eB::eC::eE::eI::eJ::eK::eL::eM::eN::eQ::eR::eS::eV::eW::f0::f1::f2::f3::f4::f5::f6::f7::[]).toArray,[]⟩ W:=by
 have bB:=A cH;have f9:=A cG;have c8:=A I;have fL:=A cN;have bO:=A cM;clear cH cG I cN cM
 conv=>arg 2; whnf
 go_wp2
 go_loopw [6] (fun i wr=>∃ k:Nat,k<=n/\i=L O k/\Below W.heap.size W wr/\∀ (j:Nat) (y:Id),j<k->l[j]?=ah y->eT y (c,d)=aZ) (fun i _=>n-(intOf i).toNat)
 case atStart=>exact⟨0,bG _,rfl,Z _ _,fun j y h=>by omega⟩
 case round =>
  obtain⟨k,gR,rfl,cJ,cI⟩:=hrel;have q:=A cJ;have bM:=A cI;clear cJ cI;have bW:=aJ (show wr.cell? ⟨bI,3,V⟩=ah (J c7 n sc) from (f9.o.on q.o).cell 3);have bX:=aJ (show wr.cell? ⟨b3,0,V⟩=ah (L O c) from (c8.o.on q.o).cell 0);have c6:=aJ (show wr.cell? ⟨b3,1,V⟩=ah (L O d) from (c8.o.on q.o).cell 1);have h0:IntKind.i64.wrap ((k:Int)+1)=(k:Int)+1:=aW _ (by omega);by_cases cL:k<n
  ·obtain⟨y,bT⟩:∃ y,l[k]?=ah y:=⟨_,aI (by rw [<- bO.o]; exact cL)⟩;obtain⟨p,cP,cS⟩:=elJ fL.o rfl bO.o.symm bT;have bA:=cS wr q.o;obtain⟨b7,b8⟩:=y;simp only at bA;have cQ:=aJ bA.1;have cR:=aJ bA.2;have b9:decide ((k:Int)<(n:Int))=aZ:=decide_eq_true (by omega);have bC:decide (k<n)=aZ:=decide_eq_true cL;obtain⟨r,bP⟩:∃ r,eT (b7,b8) (c,d)=r:=⟨_,rfl⟩;have bE:=A (fun cC os=>bQ (d:=cC) (os:=os) ((vN (b7,b8) (c,d) (grow (bL wr cC) os)).mono fun _ _ h=>⟨by rw [h.1,bP],h.2⟩));have cA:=A (show l[k]?=ah (b7,b8) by exact bT);have c9:=A bP;clear cS bA bT bP;cases r
   ·go_wp2_with fail;refine ko ?_
    repeat (go_big_quiet_step (first | (with_reducible exact bE.o _ _)))
    refine kr fun u F=>?_;have H:=aR wr u F;have G:=A (fun M N S T a1 a2 a6 a7 a8 aE v22 b1 b2 b4 b5 b6 v28=>bB.o (grow (bL wr u) F) M N S T a1 a2 a6 a7 a8 aE v22 b1 b2 b4 b5 b6 v28 (q.o.trans (H.mono q.o.size)));rw [rD l (c,d) k bM.o (aH ⟨_,cA.o,c9.o⟩)] at G;clear cP bB bW bX c6 bE b9 bC cQ cR;go_wp2;exact G.o _ _ _ _ _ _ _ _ _ _ _ _ _ _ _ _ _
   ·go_wp2_with fail;refine ko ?_
    repeat (go_big_quiet_step (first | (with_reducible exact bE.o _ _)))
    refine kr fun u F=>?_;have H:=A (aR wr u F);clear cP bW bX c6 bE b9 bC cQ cR;go_wp2
    go_roundw
    case rel=>exact⟨k+1,by omega,by go_num,q.o.trans (H.o.mono q.o.size),fun j gC gO cF=>by
     rcases bV j k with I|I
     ·exact bM.o j gC I cF
     ·obtain rfl:j=k:=by omega
      have cD:=cA.o;rw [cF] at cD;rw [aP cD];exact c9.o⟩
    case measure=>simp [intOf]; omega
  ·obtain rfl:k=n:=by omega
   have b9:decide ((k:Int)<(k:Int))=aS:=by simp
   have bC:decide (k<k)=aS:=by simp
   go_wp2_with fail;refine ko ?_
   repeat (go_big_quiet_step (fail))
   refine kr fun u F=>?_;have H:=aR wr u F;have G:=A (fun M N S T a1 a2 a6 a7 a8 aE v22 b1 b2 b4 b5 b6 v28=>bB.o (grow (bL wr u) F) M N S T a1 a2 a6 a7 a8 aE v22 b1 b2 b4 b5 b6 v28 (q.o.trans (H.mono q.o.size)));rw [rD l (c,d) k bM.o (aV (by simpa using bO.o))] at G;clear bB bW bX c6 b9 bC;go_wp2;exact G.o _ _ _ _ _ _ _ _ _ _ _ _ _ _ _ _ _
noncomputable def adj:Code:=((Tryz.f118.body.bind (kW 2)).getD .skip)
theorem Ye (Q:Exit->Act->aD->Prop) (W:aD) (bE b3:Nat) (me c d:Int) (b7 gI f7 gO fL fN:aG) (c6:OA) (n sc:Nat) (l:List ku) {cT cU e8 eI u7 f6 u9 cV u11 cW u13 cX cY d0 d1 d2 d3 d4 d5 d6 d7 d8 d9 dA dC dE dS dT dZ e0 e1 e2 e3 e4 e5 e6 e7 e9 eA eB eC eE fR fS fV fW fX fY g0 g1 g2 g3 g4 g5 g6 g7 g8 g9 gA gC eJ eK eL eM eN eQ eR eS eV eW f0 f1 f2 f3 f4 f5:aG}
  (cG:dN W bE #[L O me,b7,J c6 n sc,gI,f7,gO] 30) (I:dN W b3 #[L O c,L O d,fL,fN] 36) (cN:zx W (J c6 n sc) l) (cM:n=l.length) (h0:n<=1000000)
  (cH:∀ (wr:aD) (M v46 N S T a1 v51 a2 v53 a6 a7 a8 aE b1 b2 b4 b5 b6:aG),Below W.heap.size W wr->Q .normal ⟨(cT::cU::aj (ah ⟨bE,0,V⟩)::aj (ah ⟨b3,0,V⟩)::e8::eI::L O (gu (l.map fun y=>(y.1,y.2.1)) (c,d):Nat)::u7::f6::u9::cV::u11::cW::u13::cX::cY::d0::d1::d2::d3::d4::d5::d6::d7::d8::d9::dA::dC::dE::dS::dT::dZ::e0::e1::e2::e3::e4::e5::e6::e7::e9::eA::eB::eC::eE::M::v46::N::S::T::a1::v51::a2::v53::a6::a7::a8::aE::b1::b2::b4::b5::b6::eJ::eK::eL::eM::eN::eQ::eR::eS::eV::eW::f0::f1::f2::f3::f4::f5::[]).toArray,[]⟩ wr) :
  Code.wp U adj Q ⟨(cT::cU::aj (ah ⟨bE,0,V⟩)::aj (ah ⟨b3,0,V⟩)::e8::eI::L O 0::u7::f6::u9::cV::u11::cW::u13::cX::cY::d0::d1::d2::d3::d4::d5::d6::d7::d8::d9::dA::dC::dE::dS::dT::dZ::e0::e1::e2::e3::e4::e5::e6::e7::e9::eA::eB::eC::eE::fR::fS::fV::fW::fX::fY::g0::g1::g2::g3::g4::g5::g6::g7::g8::g9::gA::gC::eJ::eK::eL::eM::eN::eQ::eR::eS::eV::eW::f0::f1::f2::f3::f4::f5::[]).toArray,[]⟩ W:=by
 have bA:=A cH;have f8:=A cG;have c8:=A I;have f9:=A cN;have bM:=A cM;clear cH cG I cN cM
 conv=>arg 2; whnf
 go_wp2
 go_loopw [6] (fun i wr=>∃ k:Nat,k<=n/\i=L O k/\Below W.heap.size W wr/\∀ (j:Nat) (y:Id),j<k->(l.map fun y=>(y.1,y.2.1))[j]?=ah y->eT y (c,d)=aZ) (fun i _=>n-(intOf i).toNat)
 case atStart=>exact⟨0,bG _,rfl,Z _ _,fun j y h=>by omega⟩
 case round =>
  obtain⟨k,gS,rfl,cJ,cI⟩:=hrel;have q:=A cJ;have bI:=A cI;clear cJ cI;have bT:=aJ (show wr.cell? ⟨bE,2,V⟩=ah (J c6 n sc) from (f8.o.on q.o).cell 2);have bW:=aJ (show wr.cell? ⟨b3,0,V⟩=ah (L O c) from (c8.o.on q.o).cell 0);have bX:=aJ (show wr.cell? ⟨b3,1,V⟩=ah (L O d) from (c8.o.on q.o).cell 1);have h1:IntKind.i64.wrap ((k:Int)+1)=(k:Int)+1:=aW _ (by omega);by_cases cL:k<n
  ·obtain⟨y,bP⟩:∃ y,l[k]?=ah y:=⟨_,aI (by rw [<- bM.o]; exact cL)⟩;obtain⟨p,cP,cS⟩:=Mv f9.o rfl bM.o.symm bP;have b9:=cS wr q.o;obtain⟨b7,c7,⟨h4,h3,h2⟩,f7⟩:=y;simp only at b9;have cQ:=aJ b9.1;have cR:=aJ b9.2.1;have b8:decide ((k:Int)<(n:Int))=aZ:=decide_eq_true (by omega);have bB:decide (k<n)=aZ:=decide_eq_true cL;obtain⟨r,bO⟩:∃ r,eT (b7,c7) (c,d)=r:=⟨_,rfl⟩;have bC:=A (fun cC os=>bQ (d:=cC) (os:=os) ((vN (b7,c7) (c,d) (grow (bL wr cC) os)).mono fun _ _ h=>⟨by rw [h.1,bO],h.2⟩));have cA:=A (show (l.map fun y=>(y.1,y.2.1))[k]?=ah (b7,c7) by rw [dh,bP]; rfl);have c9:=A bO;clear cS b9 bP bO;cases r
   ·go_wp2_with fail;refine ko ?_
    repeat (go_big_quiet_step (first | (with_reducible exact bC.o _ _)))
    refine kr fun u F=>?_;have H:=aR wr u F;have G:=A (fun M v46 N S T a1 v51 a2 v53 a6 a7 a8 aE b1 b2 b4 b5 b6=>bA.o (grow (bL wr u) F) M v46 N S T a1 v51 a2 v53 a6 a7 a8 aE b1 b2 b4 b5 b6 (q.o.trans (H.mono q.o.size)));rw [rD (l.map fun y=>(y.1,y.2.1)) (c,d) k bI.o (aH ⟨_,cA.o,c9.o⟩)] at G;clear cP bA bT bW bX bC b8 bB cQ cR;go_wp2;exact G.o _ _ _ _ _ _ _ _ _ _ _ _ _ _ _ _ _ _
   ·go_wp2_with fail;refine ko ?_
    repeat (go_big_quiet_step (first | (with_reducible exact bC.o _ _)))
    refine kr fun u F=>?_;have H:=A (aR wr u F);clear cP bT bW bX bC b8 bB cQ cR;go_wp2
    go_roundw
    case rel=>exact⟨k+1,by omega,by go_num,q.o.trans (H.o.mono q.o.size),fun j gE gR cF=>by
     rcases bV j k with I|I
     ·exact bI.o j gE I cF
     ·obtain rfl:j=k:=by omega
      have cD:=cA.o;rw [cF] at cD;rw [aP cD];exact c9.o⟩
    case measure=>simp [intOf]; omega
  ·obtain rfl:k=n:=by omega
   have b8:decide ((k:Int)<(k:Int))=aS:=by simp
   have bB:decide (k<k)=aS:=by simp
   go_wp2_with fail;refine ko ?_
   repeat (go_big_quiet_step (fail))
   refine kr fun u F=>?_;have H:=aR wr u F;have G:=A (fun M v46 N S T a1 v51 a2 v53 a6 a7 a8 aE b1 b2 b4 b5 b6=>bA.o (grow (bL wr u) F) M v46 N S T a1 v51 a2 v53 a6 a7 a8 aE b1 b2 b4 b5 b6 (q.o.trans (H.mono q.o.size)));rw [rD (l.map fun y=>(y.1,y.2.1)) (c,d) k bI.o (aV (by simpa using bM.o))] at G;clear bA bT bW bX b8 bB;go_wp2;exact G.o _ _ _ _ _ _ _ _ _ _ _ _ _ _ _ _ _ _
def KR (B j _:Nat) (r:OA) (q sc at_:Nat) (lo u:aG) (z:ku) (lt F:List ku) (i:Nat) (v:aG) (x:aD):Prop :=
 match i with
 | 0=>∃ g,v=J (ah ⟨g,0,V⟩) 0 0/\B<=g/\dN x g #[] 36
 | 1=>v=aj (ah ⟨j,2,V⟩)
 | 2=>v=J r q sc
 | 3=>v=L O (at_:Int)
 | 4=>v=lo
 | 5=>nD x B v lt
 | 6=>v=nC z
 | 7=>nD x B v [z]
 | 8=>nD x B v (lt++[z])
 | 9=>v=aj (ah ⟨j,2,V⟩)
 | 10=>v=J r q sc
 | 11=>v=L O (at_:Int)
 | 12=>v=u
 | 13=>nD x B v (lt++[z]++F)
 | 14=>v=aj (ah ⟨j,2,V⟩)
 | _=>True
noncomputable def Yh:Code:=((Tryz.f118.body.bind (eX 10)).getD .skip)
theorem Ve (B q b3:Nat) (G:OA) (F sc at_:Nat) (lo r:aG) (z:ku) (lt u:List ku) (i:Nat) (v:aG) (x H:aD) (h:KR B q b3 G F sc at_ lo r z lt u i v x) (j:Below x.heap.size x H):KR B q b3 G F sc at_ lo r z lt u i v H:=by
 by_cases S:i<15
 ·rcases (by omega:i=0\/i=1\/i=2\/i=3\/i=4\/i=5\/i=6\/i=7\/i=8\/i=9\/i=10\/i=11\/i=12\/i=13\/i=14) with rfl|rfl|rfl|rfl|rfl|rfl|rfl|rfl|rfl|rfl|rfl|rfl|rfl|rfl|rfl
  ·obtain⟨g,I,M,N⟩:=h;exact⟨g,I,M,N.on j⟩
  ·exact h
  ·exact h
  ·exact h
  ·exact h
  ·exact dK h j
  ·exact h
  ·exact dK h j
  ·exact dK h j
  ·exact h
  ·exact h
  ·exact h
  ·exact h
  ·exact dK h j
  ·exact h
 ·unfold KR
  split <;> first | omega | trivial
theorem akp (Q:Exit->Act->aD->Prop) (W:aD) (q b3:Nat) (me:Int) (gO gR gS h0:aG) (S:OA) (N sc at_:Nat) (l:List ku) (z:ku) {bT bW d2 dS u7 eC u9 bX u11 c6 u13 c7 c8 c9 cA cC cD cF cG cH cI cJ cL cM cN cP cQ cR cS cT cU cV cW cX cY d0 d1 d3 d4 d5 d6 d7 d8 d9 dA dC dE dT dZ e0 e1 e2 e3 e4 e5 e6 e7 e8 e9 eA fY g0 g1 g2 g3 g4 g5 g6 g7 g8 g9 gA gC gE gI eB:aG}
  (b5:dN W q #[L O me,gO,J S N sc,gR,gS,h0] 30) (fS:∀ x,Below W.heap.size W x->∀ j u,(cellsD z)[j]?=ah u->x.cell? ((⟨b3,0,V⟩:dH).add j)=ah u) (bE:zx W (J S N sc) l) (fL:at_<=l.length) (hS:l.length<=900)
  (f9:∀ (x:aD) (eE eI eJ eK eL eM eN eQ eR eS eV eW f0 T f1:aG),dN x q #[L O me,gO,T,gR,gS,h0] 30->nD x W.heap.size T (l.take at_++[z]++l.drop at_)->(∀ B,B<=q->Below B W x)->(∀ c cs t,c≠q->dN W c cs t->dN x c cs t)->(∀ k,k<W.heap.size->k≠q->x.heap[k]?=W.heap[k]?)->Q .normal ⟨(bT::bW::aj (ah ⟨q,0,V⟩)::aj (ah ⟨b3,0,V⟩)::d2::dS::L O (at_:Int)::u7::eC::u9::bX::u11::c6::u13::c7::c8::c9::cA::cC::cD::cF::cG::cH::cI::cJ::cL::cM::cN::cP::cQ::cR::cS::cT::cU::cV::cW::cX::cY::d0::d1::d3::d4::d5::d6::d7::d8::d9::dA::dC::dE::dT::dZ::e0::e1::e2::e3::e4::e5::e6::e7::e8::e9::eA::eE::eI::eJ::eK::eL::eM::eN::eQ::eR::eS::eV::eW::f0::T::f1::eB::[]).toArray,[]⟩ x) :
  Code.wp U Yh Q ⟨(bT::bW::aj (ah ⟨q,0,V⟩)::aj (ah ⟨b3,0,V⟩)::d2::dS::L O (at_:Int)::u7::eC::u9::bX::u11::c6::u13::c7::c8::c9::cA::cC::cD::cF::cG::cH::cI::cJ::cL::cM::cN::cP::cQ::cR::cS::cT::cU::cV::cW::cX::cY::d0::d1::d3::d4::d5::d6::d7::d8::d9::dA::dC::dE::dT::dZ::e0::e1::e2::e3::e4::e5::e6::e7::e8::e9::eA::fY::g0::g1::g2::g3::g4::g5::g6::g7::g8::g9::gA::gC::gE::gI::eB::[]).toArray,[]⟩ W:=by
 have f4:=A f9;have b4:=A b5;have h3:=A fS;obtain⟨lo,f5,h1⟩:=yK okD bE at_ (by omega);obtain⟨b6,f6,f3⟩:=qU okD bE (at_) fL;have f7:=A (show (l.take at_).length<=1000 by rw [aO]; omega);have h8:=A (show (l.take at_).length<=900 by rw [aO]; omega);have h2:=A (show (l.drop (at_)).length<=1000 by rw [bR]; omega);generalize l.take at_=lt at *;generalize l.drop (at_)=b8 at *;have h7:=A f5;have h6:=A f6;have h5:=A h1;have h4:=A f3;clear f9 b5 fS bE f5 f6 h1 f3 fL hS;have bI:=Ve W.heap.size q b3 S N sc at_ lo b6 z lt b8;unfold Yh
 conv=>arg 2; whnf
 have nd:∀ j,(j<63\/78<=j)->∀ i,i<15->(fun i=>63+i) i≠j:=by
  intro j M i fR h;simp only at h;omega
 refine Rg.gN 16 15 (fun i=>63+i) (fun i=>if i=0 then 5 else if i=5 then 8 else if i=7 then 8 else if i=8 then 13 else 15) (KR W.heap.size q b3 S N sc at_ lo b6 z lt b8) (by kernel_rfl) (by kernel_rfl) rfl (by decide) (fun i j _ _ h=>by have b5:63+i=63+j:=h; omega) (fun i fR=>by show 63+i<79; omega) ?_ (fun _=>Rg.kJ 1 (by kernel_rfl)) (fun i2 o i1 b5=>by omega) ?_
 ·intro i o fR H a x D hU a7 a2 F seen K G;clear f4;rcases (by omega:i=0\/i=1\/i=2\/i=3\/i=4\/i=5\/i=6\/i=7\/i=8\/i=9\/i=10\/i=11\/i=12\/i=13\/i=14) with rfl|rfl|rfl|rfl|rfl|rfl|rfl|rfl|rfl|rfl|rfl|rfl|rfl|rfl|rfl
  ·cases H;exact aM rfl rfl (Rg.iX a.eval _ 25 0 #[] rfl rfl (by simp [go_sem])) (G (J (ah ⟨x.heap.size,0,V⟩) 0 0) (x.alloc (aA #[] 36)) ⟨x.heap.size,rfl,F.size,dR x #[] 36⟩ ((Z _ _).alloc F.size _) fun j u _ _ _ _ _ h=>bI j u _ _ h ((Z _ _).alloc (aK _) _))
  ·cases H;have a1:a.eval (aB 2)=aj (ah ⟨q,0,V⟩):=seen.kp 2 _ (nd 2 (by omega)) rfl;exact aM rfl rfl (dw a.eval _ 30 (aB 2) 2 rfl (by rw [a1]; simp [go_sem])) (G _ _ rfl (Z _ _) fun _ _ _ _ _ _ _ h=>h)
  ·cases H;have hC:a.eval (aB 64)=aj (ah ⟨q,2,V⟩):=seen.at_ ⟨1,.data⟩ (by simp) rfl (aH (by decide));have y:=(b4.o.on F).cell 2;simp only [ak,au,ay] at y;exact aM rfl rfl (Rg.dW a.eval _ 25 (aB 64) rfl (by rw [hC]; simp [go_sem,y])) (G _ _ rfl (Z _ _) fun _ _ _ _ _ _ _ h=>h)
  ·cases H;have bB:a.eval (aB 6)=L O (at_:Int):=seen.kp 6 _ (nd 6 (by omega)) rfl;exact aM rfl rfl (Rg.gF a.eval _ (aB 6) rfl x) (G _ _ bB (Z _ _) fun _ _ _ _ _ _ _ h=>h)
  ·cases H;have hD:a.eval (aB 65)=J S N sc:=seen.at_ ⟨2,.data⟩ (by simp) rfl (aH (by decide));have hE:a.eval (aB 66)=L O (at_:Int):=seen.at_ ⟨3,.data⟩ (by simp) rfl (aH (by decide));exact aM rfl rfl (Rg.lW a.eval _ 25 (aB 65) V (ah (aB 66)) V rfl (by show (aT 25 (a.eval (aB 65)) V (ah (a.eval (aB 66))) V).run U x=.ok lo x; rw [hD,hE]; exact h7.o x)) (G _ _ rfl (Z _ _) fun _ _ _ _ _ _ _ h=>h)
  ·cases H;obtain⟨g,bP,hO,a6⟩:=seen.at_ ⟨0,.data⟩ (by simp) rfl (aV rfl);have bP:a.eval (aB 63)=J (ah ⟨g,0,V⟩) 0 0:=bP;have hF:a.eval (aB 67)=lo:=seen.at_ ⟨4,.data⟩ (by simp) rfl (aH (by decide));obtain⟨b1,b2,r,aE,I⟩:=iI okD W.heap.size a6 hO (h5.o.on F) f7.o 25;exact aM rfl rfl (Rg.gV a.eval _ (aB 63) (aB 67) 25 rfl bP hF r) (G b1 b2 aE (I.mono F.size) fun j u _ _ _ _ _ h=>bI j u _ _ h I)
  ·cases H;have hA:a.eval (aB 3)=aj (ah ⟨b3,0,V⟩):=seen.kp 3 _ (nd 3 (by omega)) rfl;exact aM rfl rfl (Rg.dW a.eval _ 36 (aB 3) rfl (by rw [hA]; exact X9 x _ z (h3.o x F))) (G _ _ rfl (Z _ _) fun _ _ _ _ _ _ _ h=>h)
  ·cases H;have hG:a.eval (aB 69)=nC z:=seen.at_ ⟨6,.data⟩ (by simp) rfl (aH (by decide));have bC:=jL okD x [z] 1 rfl (by simp) (cellsD z).toArray (by simp [flat,ED]);have bC:nD (x.alloc (aA (cellsD z).toArray 36)) x.heap.size (J (ah ⟨x.heap.size,0,V⟩) 1 1) [z]:=bC;exact aM rfl rfl (Rg.iX a.eval _ 25 1 #[(0,aB 69)] rfl (ps:=#[(0,nC z)]) (by simp [hG]) (by simp [go_sem])) (G (J (ah ⟨x.heap.size,0,V⟩) 1 1) (x.alloc (aA (cellsD z).toArray 36)) (dO bC F.size) ((Z _ _).alloc F.size _) fun j u _ _ _ _ _ h=>bI j u _ _ h ((Z _ _).alloc (aK _) _))
  ·cases H;have fV:nD x W.heap.size (a.eval (aB 68)) (lt):=seen.at_ ⟨5,.data⟩ (by simp) rfl (aV rfl);have hX:nD x W.heap.size (a.eval (aB 70)) ([z]):=seen.at_ ⟨7,.data⟩ (by simp) rfl (aV rfl);have bO:=aU hX;obtain⟨b1,b2,r,aE,I⟩:=iC okD W.heap.size fV bO (by have:=f7.o; omega) (by simp) F.size 25;exact aM rfl rfl (Rg.gV a.eval _ (aB 68) (aB 70) 25 rfl rfl rfl r) (G b1 b2 aE ((Z _ x).grown I F.size fun j M=>(fV.lt j M).1) fun j u M f8 a8 b9 bM h=>by
    rcases (by omega:j=0\/j=1\/j=2\/j=3\/j=4\/j=5\/j=6\/j=7\/j=8\/j=9\/j=10\/j=11\/j=12\/j=13\/j=14) with rfl|rfl|rfl|rfl|rfl|rfl|rfl|rfl|rfl|rfl|rfl|rfl|rfl|rfl|rfl
    ·exact absurd rfl (fun _:(0:Nat)=0=>a8 (a7 5 _ (a2 ⟨5,.data⟩ (by simp) rfl) rfl ⟨0,.data⟩ (by simp) rfl |> fun _=>a2 ⟨5,.data⟩ (by simp) rfl))
    ·exact h
    ·exact h
    ·exact h
    ·exact h
    ·exact absurd rfl (fun _:(0:Nat)=0=>b9 rfl)
    ·exact h
    ·exact absurd rfl (fun _:(0:Nat)=0=>b9 rfl)
    ·exact absurd rfl (fun _:(0:Nat)=0=>bM rfl)
    ·exact h
    ·exact h
    ·exact h
    ·exact h
    ·exact absurd rfl (fun _:(0:Nat)=0=>hU (a7 13 _ f8 rfl ⟨8,.data⟩ (by simp) rfl))
    ·exact h)
  ·cases H;have a1:a.eval (aB 2)=aj (ah ⟨q,0,V⟩):=seen.kp 2 _ (nd 2 (by omega)) rfl;exact aM rfl rfl (dw a.eval _ 30 (aB 2) 2 rfl (by rw [a1]; simp [go_sem])) (G _ _ rfl (Z _ _) fun _ _ _ _ _ _ _ h=>h)
  ·cases H;have hH:a.eval (aB 72)=aj (ah ⟨q,2,V⟩):=seen.at_ ⟨9,.data⟩ (by simp) rfl (aH (by decide));have y:=(b4.o.on F).cell 2;simp only [ak,au,ay] at y;exact aM rfl rfl (Rg.dW a.eval _ 25 (aB 72) rfl (by rw [hH]; simp [go_sem,y])) (G _ _ rfl (Z _ _) fun _ _ _ _ _ _ _ h=>h)
  ·cases H;have bB:a.eval (aB 6)=L O (at_:Int):=seen.kp 6 _ (nd 6 (by omega)) rfl;exact aM rfl rfl (Rg.gF a.eval _ (aB 6) rfl x) (G _ _ bB (Z _ _) fun _ _ _ _ _ _ _ h=>h)
  ·cases H;have hI:a.eval (aB 73)=J S N sc:=seen.at_ ⟨10,.data⟩ (by simp) rfl (aH (by decide));have hJ:a.eval (aB 74)=L O (at_:Int):=seen.at_ ⟨11,.data⟩ (by simp) rfl (aH (by decide));exact aM rfl rfl (Rg.lW a.eval _ 25 (aB 73) (ah (aB 74)) V V rfl (by show (aT 25 (a.eval (aB 73)) (ah (a.eval (aB 74))) V V).run U x=.ok b6 x; rw [hI,hJ]; exact h6.o x)) (G _ _ rfl (Z _ _) fun _ _ _ _ _ _ _ h=>h)
  ·cases H;have fW:nD x W.heap.size (a.eval (aB 71)) ((lt++[z])):=seen.at_ ⟨8,.data⟩ (by simp) rfl (aV rfl);have hK:a.eval (aB 75)=b6:=seen.at_ ⟨12,.data⟩ (by simp) rfl (aH (by decide));have bO:zx x (a.eval (aB 75)) b8:=by rw [hK]; exact h4.o.on F
   obtain⟨b1,b2,r,aE,I⟩:=iC okD W.heap.size fW bO (by have:=h8.o; rw [List.length_append,List.length_singleton]; omega) h2.o F.size 25;exact aM rfl rfl (Rg.gV a.eval _ (aB 71) (aB 75) 25 rfl rfl rfl r) (G b1 b2 aE ((Z _ x).grown I F.size fun j M=>(fW.lt j M).1) fun j u M f8 a8 b9 bM h=>by
    rcases (by omega:j=0\/j=1\/j=2\/j=3\/j=4\/j=5\/j=6\/j=7\/j=8\/j=9\/j=10\/j=11\/j=12\/j=13\/j=14) with rfl|rfl|rfl|rfl|rfl|rfl|rfl|rfl|rfl|rfl|rfl|rfl|rfl|rfl|rfl
    ·exact absurd rfl (fun _:(0:Nat)=0=>a8 (a7 8 _ (a2 ⟨8,.data⟩ (by simp) rfl) rfl ⟨5,.data⟩ (by simp) rfl))
    ·exact h
    ·exact h
    ·exact h
    ·exact h
    ·exact absurd rfl (fun _:(0:Nat)=0=>a8 (a2 ⟨8,.data⟩ (by simp) rfl))
    ·exact h
    ·exact absurd rfl (fun _:(0:Nat)=0=>a8 (a2 ⟨8,.data⟩ (by simp) rfl))
    ·exact absurd rfl (fun _:(0:Nat)=0=>b9 rfl)
    ·exact h
    ·exact h
    ·exact h
    ·exact h
    ·exact absurd rfl (fun _:(0:Nat)=0=>bM rfl)
    ·exact h)
  ·cases H;have a1:a.eval (aB 2)=aj (ah ⟨q,0,V⟩):=seen.kp 2 _ (nd 2 (by omega)) rfl;exact aM rfl rfl (dw a.eval _ 30 (aB 2) 2 rfl (by rw [a1]; simp [go_sem])) (G _ _ rfl (Z _ _) fun _ _ _ _ _ _ _ h=>h)
 ·intro a w' df sz kp ⟨bA,b7⟩ F;have I:a.tmps[76]?=ah (bA 13):=(b7 13 (by omega)).1;have hN:a.tmps[77]?=ah (aj (ah ⟨q,2,V⟩)):=by
   have h:bA 14=aj (ah ⟨q,2,V⟩):=(b7 14 (by omega)).2 (by decide);rw [<- h];exact (b7 14 (by omega)).1
  have fX:nD w' W.heap.size (bA 13) (lt++[z]++b8):=(b7 13 (by omega)).2 (by decide);generalize bA 13=f2 at *;obtain⟨hZ,i0,hL⟩:=(aU fX).len;have a6:=b4.o.on F;have fN:=b4.o.lt;have c5:=a6.cell 2;have hM:=a6.fr 2;simp only [ak,au,ay] at c5;have hP:=eD (k:=2) a6 f2;show Rg.fU _ _ _ 1 15 a w';simp only [Rg.fU];refine Rg.gq 25 (aB 77) (aB 76) rfl rfl rfl rfl (Rg.dU hN) (Rg.dU I) (w':=w'.setCell ⟨q,2,V⟩ f2) (by rw [hL]; simp [go_sem,c5,hM]) ?_;have hY:∀ j,(j<63\/78<=j)->a.tmps[j]?=(bT::bW::aj (ah ⟨q,0,V⟩)::aj (ah ⟨b3,0,V⟩)::d2::dS::L O (at_:Int)::u7::eC::u9::bX::u11::c6::u13::c7::c8::c9::cA::cC::cD::cF::cG::cH::cI::cJ::cL::cM::cN::cP::cQ::cR::cS::cT::cU::cV::cW::cX::cY::d0::d1::d3::d4::d5::d6::d7::d8::d9::dA::dC::dE::dT::dZ::e0::e1::e2::e3::e4::e5::e6::e7::e8::e9::eA::fY::g0::g1::g2::g3::g4::g5::g6::g7::g8::g9::gA::gC::gE::gI::eB::[])[j]?:=fun j M=>(kp j (nd j M)).trans ak;obtain⟨hW,hT,rfl⟩:=Rg.gG 63 15 df sz (by simp) hY
  match hW,hT with
  | [eE,eI,eJ,eK,eL,eM,eN,eQ,eR,eS,eV,eW,f0,T,f1],_ =>
   have h9:ah T=ah f2:=I;obtain rfl:=aP h9;refine f4.o _ eE eI eJ eK eL eM eN eQ eR eS eV eW f0 T f1 ?_ ?_ ?_ ?_ ?_
   ·simpa using hP
   ·exact eF fX q 2 _ fN
   ·exact fun B hB=>(F.mono (dn (bH hB fN))).setCell hB _
   ·intro c cs t a7 hQ;exact (aF _ _ _ _ a7).trans (hQ.on F)
   ·intro k hR hV;exact (aF _ _ _ _ hV).trans (F.block k hR)
def gL {α:Type} (l:List α) (k:Nat) (x:α):List α:=l.take k++[x]++l.drop k
def fZ (b:Br) (a:Ad):Br×Bool:=if a.id∈b.seen then (b,aS) else ({ b with seen:=gL b.seen (gu b.seen a.id) a.id,dQ:=gL b.dQ (gu (b.dQ.map Ad.id) a.id) a },aZ)
abbrev gH (W:aD) (b:Nat) (a0 a1 a2 a3 a4 a5:aG):aD:=(((((W.setCell ⟨b,0,V⟩ a0).setCell ⟨b,1,V⟩ a1).setCell ⟨b,2,V⟩ a2).setCell ⟨b,3,V⟩ a3).setCell ⟨b,4,V⟩ a4).setCell ⟨b,5,V⟩ a5
theorem dM {W:aD} {b:Nat} {t:dG} {z0 u F z3 z4 z5:aG} (h:dN W b #[z0,u,F,z3,z4,z5] t) (a0 j q a3 a4 a5:aG):dN (gH W b a0 j q a3 a4 a5) b #[a0,j,q,a3,a4,a5] t:=by
 have r:=eD (k:=5) (eD (k:=4) (eD (k:=3) (eD (k:=2) (eD (k:=1) (eD (k:=0) h a0) j) q) a3) a4) a5;simp only [aX,bJ,bK] at r;exact r
theorem dJ {w W:aD} {B b:Nat} (h:Below B w W) (j:B<=b) (a0 q r a3 a4 a5:aG):Below B w (gH W b a0 q r a3 a4 a5) :=
 (((((h.setCell j _).setCell j _).setCell j _).setCell j _).setCell j _).setCell j _
theorem dP (W:aD) (b:Nat) (a0 q r a3 a4 a5:aG) (j:Nat) (u:j≠b):(gH W b a0 q r a3 a4 a5).heap[j]?=W.heap[j]?:=by
 have h:∀ (W:aD) (k:Nat) (x:aG),(W.setCell ⟨b,k,V⟩ x).heap[j]?=W.heap[j]?:=fun W k x=>aF W _ x _ u;unfold gH;rw [h,h,h,h,h,h]
theorem fJ {α:Type} {E:Ek α} {W:aD} {B:Nat} {v:aG} {l:List α} (h:Own E W B v l) (b:Nat) (j:b<B) (a0 q r a3 a4 a5:aG):Own E (gH W b a0 q r a3 a4 a5) B v l :=
 eF (eF (eF (eF (eF (eF h b 0 a0 j) b 1 q j) b 2 r j) b 3 a3 j) b 4 a4 j) b 5 a5 j
theorem gT (w:aD) (c d e:Array aG) (j s t:dG):Below w.heap.size w (((w.alloc (aA c j)).alloc (aA d s)).alloc (aA e t))/\dN (((w.alloc (aA c j)).alloc (aA d s)).alloc (aA e t)) w.heap.size c j/\dN (((w.alloc (aA c j)).alloc (aA d s)).alloc (aA e t)) (w.heap.size+1) d s/\dN (((w.alloc (aA c j)).alloc (aA d s)).alloc (aA e t)) (w.heap.size+1+1) e t:=by
 refine⟨(((Z _ _).alloc (aK _) _).alloc (by simp) _).alloc (by simp; omega) _,((dR w c j).more _).more _,?_,?_⟩
 ·have h:=(dR (w.alloc (aA c j)) d s).more (aA e t);simpa using h
 ·have h:=dR ((w.alloc (aA c j)).alloc (aA d s)) e t;simpa using h
theorem Yq {W:aD} {b:Nat} {c d:Int} {p F:aG} (h:dN W b #[L O c,L O d,p,F] 36):∀ x,Below W.heap.size W x->∀ j r,(kZ (c,d))[j]?=ah r->x.cell? ((⟨b,0,V⟩:dH).add j)=ah r:=by
 intro x u j r q;rw [mO,(h.on u).cell]
 match j with
 | 0=>exact q
 | 1=>exact q
 | j+2=>simp at q
theorem Vh {W:aD} {b:Nat} {c d u:Int} {p:Sl} (h:dN W b #[L O c,L O d,eu p,L O u] 36):∀ x,Below W.heap.size W x->∀ j r,(cellsD (c,d,p,u))[j]?=ah r->x.cell? ((⟨b,0,V⟩:dH).add j)=ah r:=by
 intro x F j r q;rw [mO,(h.on F).cell]
 match j with
 | 0=>exact q
 | 1=>exact q
 | 2=>exact q
 | 3=>exact q
 | j+4=>simp at q
theorem Ez {W:aD} {l:List ku} {m:List Ad} (h:eY (rP W) l m):(l.map fun y=>(y.1,y.2.1))=m.map Ad.id:=by
 induction h with
 | nil=>rfl
 | cons x t j=>rw [cO,cO,j,x.1]
theorem nR (l:List Id) (x:Id):gu l x<=l.length:=by
 unfold gu;exact (List.takeWhile_sublist _).length_le
theorem Yt {α:Type} {E:Ek α} {W:aD} {B:Nat} {v:aG} {l:List α} {b:Nat} (h:Own E W B v l) (r:b<B):v.ownBlock=V\/v.ownBlock≠ah b:=by
 cases j:v.ownBlock with
 | none=>exact aV rfl
 | some q =>
  refine aH fun e=>?_;injection e with e
  have:=(h.lt q j).1;omega
theorem QD (b:Br) (c7 av e3 bW c8:Sl) (z:ku) (a:Ad) (w:aD) (h:iT w b c7 av e3 bW c8) (e2:rP w z a) (f1:b.seen.length<=900) (f2:b.dQ.length<=900) :
  bF U 118 #[mg b.me c7 av e3 bW c8,nC z] w fun e w'=>(∃ Eb Mw:Sl,e=aC (.tuple #[mg b.me c7 Eb Mw bW c8,aL (fZ b a).2])/\iT w' (fZ b a).1 c7 Eb Mw bW c8)/\Below w.heap.size w w':=by
 obtain⟨no,N,M⟩:=c7;obtain⟨u,eR,r⟩:=av;obtain⟨a1,f3,sc⟩:=e3;obtain⟨I,H,G⟩:=bW;obtain⟨T,F,S⟩:=c8;obtain⟨c,d,⟨po,cA,c9⟩,par⟩:=z;obtain⟨q,e1,cP⟩:=h.dQ;have fV:=A e2;have fW:=A (Ez cP);have eM:=A (show q.length<=900 by rw [cP.len]; exact f2);have cN:=h.seen;have fS:=A cP;obtain⟨cC,cD,cM⟩:=cN.len;obtain⟨rfl,rfl,rfl⟩:a1=cC/\f3=b.seen.length/\sc=cD:=by
  have:J a1 f3 sc=J cC b.seen.length cD:=cM;simpa using this
 obtain⟨cC,cD,cM⟩:=e1.len;obtain⟨rfl,rfl,rfl⟩:u=cC/\eR=q.length/\r=cD:=by
  have:J u eR r=J cC q.length cD:=cM;simpa using this
 have cI:=U9 b.me (J no N M) (J u q.length r) (J I H G) (J T F S) (a1,b.seen.length,sc) b.seen (c,d);have d2:=A h;obtain⟨dA,dC,dE,dS⟩:=gT w #[L O b.me,J no N M,J u q.length r,J a1 b.seen.length sc,J I H G,J T F S] #[L O c,L O d,J po cA c9,L O par] #[L O 0,J V 0 0,J V 0 0,J V 0 0,J V 0 0,J V 0 0] 30 36 30;obtain⟨a7,dZ⟩:∃ n,n=b.seen.length:=⟨_,rfl⟩;obtain⟨a8,e0⟩:∃ n,n=q.length:=⟨_,rfl⟩;have b2:=e1;simp only [<- dZ,<- e0] at dA dC dE dS cN b2 d2 cI ⊢;have aE:=A dA;have b5:=A dC;have bP:=A dE;have bT:=A dS;have cH:=A cN;have b2:=A b2;have eI:=A dZ;have eJ:=A e0;have eE:=A f1;have cF:=A e2.1;have cL:∃ me,me=b.me:=⟨_,rfl⟩;obtain⟨me,cL⟩:=cL;simp only [<- cL] at b5 aE bP bT cI ⊢;clear dA dC dE dS cN e1 cP h e2 cM dZ e0 f1 f2 cL;go_enter Tryz.func118,Tryz.ntmps118;go_upto_region 1 with fail;generalize (((w.alloc (aA #[L O me,J no N M,J u a8 r,J a1 a7 sc,J I H G,J T F S] 30)).alloc (aA #[L O c,L O d,J po cA c9,L O par] 36)).alloc (aA #[L O 0,J V 0 0,J V 0 0,J V 0 0,J V 0 0,J V 0 0] 30))=W at *;have b4:=A (cI W (cH.o.on aE.o));clear cI;obtain⟨cQ,cR,cS,cT,cU,cV⟩:=b5.o.fA;obtain⟨f6,f7,f8,f9⟩:=bP.o.Ib;cases b8:decide ((c,d)∈b.seen) with
 | true =>
  have d3:=A (show fZ b a=(b,aS) from if_pos (by rw [<- cF.o]; exact of_decide_eq_true b8));rw [b8] at b4;clear b8;go_wp2_with fail;refine b4.o.mono ?_;rintro fX w1 ⟨rfl,j⟩;have b1:=A (aE.o.trans (j.mono aE.o.size));have f5:=b5.o.on j;have bO:=bT.o.on j;clear b4 cQ cR cS cT cU cV f6 f7 f8 f9;obtain⟨cQ,cR,cS,cT,cU,cV⟩:=f5.fA;obtain⟨g1,g2,g3,g4,g5,r5⟩:=bO.fA;obtain⟨t0,t1,t2,t3,t4,t5⟩:=bO.kg;have g8:=bO.lt;have d1:=A (dM bO (L O me) (J no N M) (J u a8 r) (J a1 a7 sc) (J I H G) (J T F S));have a2:=A (dJ (b:=w.heap.size+1+1) b1.o (by omega) (L O me) (J no N M) (J u a8 r) (J a1 a7 sc) (J I H G) (J T F S));clear j b5 bP bT f5 bO cH b2;go_wp2_with fail;obtain⟨v0,e4,e5,v3,v4,v5⟩:=d1.o.fA;refine bD (v:=.tuple #[cZ #[L O me,J no N M,J u a8 r,J a1 a7 sc,J I H G,J T F S],aL aS]) (by simp [results,dx,go_sem,v0,e4,e5,v3,v4,v5]) rfl ?_;rw [d3.o];exact⟨⟨(u,a8,r),(a1,a7,sc),rfl,d2.o.on a2.o⟩,a2.o⟩
 | false =>
  have d3:=A (show fZ b a=({ b with seen:=gL b.seen (gu b.seen a.id) a.id,dQ:=gL b.dQ (gu (b.dQ.map Ad.id) a.id) a },aZ) from if_neg (by rw [<- cF.o]; exact of_decide_eq_false b8));rw [b8] at b4;clear b8;go_wp2_with fail;refine b4.o.mono ?_;rintro fX w1 ⟨rfl,j⟩;have b1:=A (aE.o.trans (j.mono aE.o.size));have d6:=A (b5.o.on j);have d7:=A (bP.o.on j);have eN:=A (bT.o.on j);have d5:=A (cH.o.on b1.o);clear b4 j b5 bP bT cH cQ cR cS cT cU cV f6 f7 f8 f9
  go_upto_block 0 with (fail)
  refine Yd _ w1 w.heap.size (w.heap.size+1) me c d _ _ _ _ _ _ a1 a7 sc b.seen d6.o d7.o d5.o eI.o (by have:=eE.o; have:=eI.o; omega) ?_;intro wr g9 gA gC gE gI gO gR gS h0 h1 v22 h2 h3 h4 h5 h6 v28 j;have e6:=A (b1.o.trans (j.mono b1.o.size));have eQ:=A (d6.o.on j);have d8:=A (d7.o.on j);have d9:=A (eN.o.on j);have eL:=A (d5.o.on j);clear j b1 d6 d7 eN d5;go_upto_region 6 with fail;refine anS _ wr w.heap.size (w.heap.size+1) me _ _ _ _ a1 a7 sc (gu b.seen (c,d)) b.seen (c,d) eQ.o (Yq d8.o) eL.o (nR _ _) eE.o ?_;intro g6 h7 h8 h9 hA hC hD hE hF hG hH hI v40 hJ hK hL hM c6 a6 bX b7 cJ;obtain⟨bB,bC,eW⟩:=(aU a6).len;obtain⟨sl,eV⟩:∃ n,n=(b.seen.take (gu b.seen (c,d))++[(c,d)]++b.seen.drop (gu b.seen (c,d))).length:=⟨_,rfl⟩;rw [<- eV] at eW;subst eW;have cG:=A (e6.o.trans (bX _ (aK _)));have cW:=A c6;have cX:=A (b7 _ _ _ (by omega) d8.o);have A4:=A (b7 _ _ _ (by omega) d9.o);have bM:=A (dO a6 (show w.heap.size+3<=wr.heap.size by have:=d9.o.lt; omega));have d0:=A (b2.o.on cG.o);clear c6 a6 bX b7 cJ eV e6 eQ d8 d9 eL b2
  go_upto_block 2 with (fail)
  refine Ye _ g6 w.heap.size (w.heap.size+1) me c d _ _ _ _ _ _ u a8 r q cW.o cX.o d0.o eJ.o (by have:=eM.o; have:=eJ.o; omega) ?_;intro f4 hN v46 hO hP hQ hR v51 hS v53 hT hU hV hW hX hY hZ i0 i1 j;have e7:=A (cG.o.trans (j.mono cG.o.size));have e8:=A (cW.o.on j);have e9:=A (cX.o.on j);have cY:=A (A4.o.on j);have d4:=A (dK bM.o j);have eA:=A (d0.o.on j);clear j cG cW cX A4 bM d0;go_upto_region 10 with fail;refine akp _ f4 w.heap.size (w.heap.size+1) me _ _ _ _ u a8 r (gu (q.map fun y=>(y.1,y.2.1)) (c,d)) q (c,d,(po,cA,c9),par) e8.o (Vh (p:=(po,cA,c9)) e9.o) eA.o (by have:=nR (q.map fun y=>(y.1,y.2.1)) (c,d); rw [dB] at this; exact this) eM.o ?_;intro g7 i2 i4 i5 i6 i7 i8 i9 iG iS j0 j1 j2 j3 j4 j5 c6 a6 bX b7 cJ;obtain⟨b9,bA,eC⟩:=(aU a6).len;obtain⟨bE,f0⟩:∃ n,n=(q.take (gu (q.map fun y=>(y.1,y.2.1)) (c,d))++[(c,d,(po,cA,c9),par)]++q.drop (gu (q.map fun y=>(y.1,y.2.1)) (c,d))).length:=⟨_,rfl⟩;rw [<- f0] at eC;subst eC;have b6:=bX _ (aK w.heap.size);have fL:=A (e7.o.trans b6);have eB:=c6;have bI:=b7 _ _ _ (by omega) cY.o;have eK:=A (dO a6 (show w.heap.size+3<=f4.heap.size by have:=cY.o.lt; omega));have bM:=A (d4.o.kept (w':=g7) (row:=ah w.heap.size) ⟨b6.os,b6.tape,b6.output,b6.size,fun k fY g0=>cJ k fY (fun e=>g0 (by rw [e]))⟩ (Yt d4.o (by omega)));clear a6 bX b7 cJ f0 b6 c6 e7 e8 e9 cY d4 eA;obtain⟨cQ,cR,cS,cT,cU,cV⟩:=eB.fA;obtain⟨g1,g2,g3,g4,g5,r5⟩:=bI.fA;obtain⟨t0,t1,t2,t3,t4,t5⟩:=bI.kg;have g8:=bI.lt;have d1:=A (dM bI (L O me) (J no N M) (J b9 bE bA) (J bB sl bC) (J I H G) (J T F S));have a2:=A (dJ (b:=w.heap.size+1+1) fL.o (by omega) (L O me) (J no N M) (J b9 bE bA) (J bB sl bC) (J I H G) (J T F S));have fN:=A (fJ eK.o (w.heap.size+1+1) (by omega) (L O me) (J no N M) (J b9 bE bA) (J bB sl bC) (J I H G) (J T F S));have fR:=A (fJ bM.o (w.heap.size+1+1) (by omega) (L O me) (J no N M) (J b9 bE bA) (J bB sl bC) (J I H G) (J T F S));clear eK bM eB bI;go_wp2_with fail;obtain⟨v0,e4,e5,v3,v4,v5⟩:=d1.o.fA;refine bD (v:=.tuple #[cZ #[L O me,J no N M,J b9 bE bA,J bB sl bC,J I H G,J T F S],aL aZ]) (by simp [results,dx,go_sem,v0,e4,e5,v3,v4,v5]) rfl ?_;rw [d3.o];refine⟨⟨(b9,bE,bA),(bB,sl,bC),rfl,?_⟩,a2.o⟩;have dT:=d2.o.on a2.o;refine⟨dT.near,⟨_,aU fN.o,?_⟩,?_,dT.ent,dT.own⟩
  ·have eS:=fS.o.mono fun _ _ h=>h.on a2.o;rw [<- cF.o,<- fW.o];exact ((eS.take _).append (.cons (fV.o.on a2.o) .nil)).append (eS.drop _)
  ·rw [<- cF.o];exact aU fR.o
end Bk
namespace Av
open Go.RowKit Rw YtghlpefopidlaaaGreat.Nm Pr Bk Rg
theorem Yi (a:OA) (n c:Nat) (w:aD):(binOp .eql 24 (J a n c) (J V 0 0)).run U w=.ok (aL a.isNone) w:=by
 simp [go_sem,binOp,run_equal_slice_nil (P:=U) w 24 3 a n c Tryz.underlying24]
theorem Ev (v:Sl) (l:List Int) (w:aD) (j:Row EI w (eu v) l) (T:l.length<=900) :
  bF U 39 #[eu v] w fun e w'=>(∃ u:Sl,e=aC (eu u)/\Own EI w' w.heap.size (eu u) l)/\bg w.heap.size w w':=by
 obtain⟨a8,a7,r⟩:=v;rcases j with⟨rfl,j⟩|⟨a,cap,j,M,N,S⟩
 ·obtain⟨rfl,rfl,rfl⟩:a8=V/\a7=0/\r=0:=by simpa using j
  clear j T;have q:∀ w',(binOp .eql 24 (J V 0 0) (J V 0 0)).run U w'=.ok (aL aZ) w':=fun w'=>Yi V 0 0 w';go_enter Tryz.func39,Tryz.ntmps39;go_wp2;go_ret;exact⟨⟨(V,0,0),rfl,iR _ _⟩,Z _ _⟩
 ·obtain⟨rfl,rfl,rfl⟩:a8=ah a/\a7=l.length/\r=cap:=by simpa using j
  have a2:Row EI w (J (ah a) l.length r) l:=aH ⟨a,r,rfl,M,N,S⟩;have F:=fP w (aA #[] 3);obtain⟨a6,w0,G,o0,I⟩:=iI Nm.UY w.heap.size (dR w #[] 3) (aK _) (a2.on F) (by omega) 24;obtain⟨aE,v3,H⟩:=(aU o0).len;obtain⟨n,a1⟩:∃ n,n=l.length:=⟨_,rfl⟩;have Q:=A (show (∃ u:Sl,aC a6=aC (eu u)/\Own EI w0 w.heap.size (eu u) l)/\bg w.heap.size w w0 from ⟨⟨(aE,l.length,v3),by rw [H],by subst H; exact o0⟩,F.trans (I.mono F.size)⟩);rw [<- a1] at G ⊢;clear j M N S a2 o0 I F H a1 T;have q:∀ w',(binOp .eql 24 (J (ah a) n r) (J V 0 0)).run U w'=.ok (aL aS) w':=fun w'=>Yi (ah a) n r w';have G:(aQ #[24,24] 24 #[J (ah ⟨w.heap.size,0,V⟩) 0 0,J (ah a) n r]).run U (w.alloc (aA #[] 3))=.ok a6 w0:=G;go_enter Tryz.func39,Tryz.ntmps39;go_wp2_with (first | (at_builtin; refine aN rfl _ _ 24 rfl rfl rfl G ?_) | fail);go_ret;exact Q.o
theorem Yj (a:OA) (n c:Nat) (w:aD):(binOp .eql 26 (J a n c) (J V 0 0)).run U w=.ok (aL a.isNone) w:=by
 simp [go_sem,binOp,run_equal_slice_nil (P:=U) w 26 23 a n c Tryz.underlying26]
theorem Qx (v:Sl) (l:List fB) (w:aD) (j:Row EJ w (eu v) l) (T:l.length<=900) :
  bF U 99 #[eu v] w fun e w'=>(∃ u:Sl,e=aC (eu u)/\Own EJ w' w.heap.size (eu u) l)/\bg w.heap.size w w':=by
 obtain⟨a8,a7,r⟩:=v;rcases j with⟨rfl,j⟩|⟨a,cap,j,M,N,S⟩
 ·obtain⟨rfl,rfl,rfl⟩:a8=V/\a7=0/\r=0:=by simpa using j
  clear j T;have q:∀ w',(binOp .eql 26 (J V 0 0) (J V 0 0)).run U w'=.ok (aL aZ) w':=fun w'=>Yj V 0 0 w';go_enter Tryz.func99,Tryz.ntmps99;go_wp2;go_ret;exact⟨⟨(V,0,0),rfl,iR _ _⟩,Z _ _⟩
 ·obtain⟨rfl,rfl,rfl⟩:a8=ah a/\a7=l.length/\r=cap:=by simpa using j
  have a2:Row EJ w (J (ah a) l.length r) l:=aH ⟨a,r,rfl,M,N,S⟩;have F:=fP w (aA #[] 23);obtain⟨a6,w0,G,o0,I⟩:=iI Eu w.heap.size (dR w #[] 23) (aK _) (a2.on F) (by omega) 26;obtain⟨aE,v3,H⟩:=(aU o0).len;obtain⟨n,a1⟩:∃ n,n=l.length:=⟨_,rfl⟩;have Q:=A (show (∃ u:Sl,aC a6=aC (eu u)/\Own EJ w0 w.heap.size (eu u) l)/\bg w.heap.size w w0 from ⟨⟨(aE,l.length,v3),by rw [H],by subst H; exact o0⟩,F.trans (I.mono F.size)⟩);rw [<- a1] at G ⊢;clear j M N S a2 o0 I F H a1 T;have q:∀ w',(binOp .eql 26 (J (ah a) n r) (J V 0 0)).run U w'=.ok (aL aS) w':=fun w'=>Yj (ah a) n r w';have G:(aQ #[26,26] 26 #[J (ah ⟨w.heap.size,0,V⟩) 0 0,J (ah a) n r]).run U (w.alloc (aA #[] 23))=.ok a6 w0:=G;go_enter Tryz.func99,Tryz.ntmps99;go_wp2_with (first | (at_builtin; refine aN rfl _ _ 26 rfl rfl rfl G ?_) | fail);go_ret;exact Q.o
theorem Yk (a:OA) (n c:Nat) (w:aD):(binOp .eql 25 (J a n c) (J V 0 0)).run U w=.ok (aL a.isNone) w:=by
 simp [go_sem,binOp,run_equal_slice_nil (P:=U) w 25 36 a n c Tryz.underlying25]
theorem Qy (v:Sl) (l:List ku) (w:aD) (j:Row ED w (eu v) l) (T:l.length<=900) :
  bF U 100 #[eu v] w fun e w'=>(∃ u:Sl,e=aC (eu u)/\Own ED w' w.heap.size (eu u) l)/\bg w.heap.size w w':=by
 obtain⟨a8,a7,r⟩:=v;rcases j with⟨rfl,j⟩|⟨a,cap,j,M,N,S⟩
 ·obtain⟨rfl,rfl,rfl⟩:a8=V/\a7=0/\r=0:=by simpa using j
  clear j T;have q:∀ w',(binOp .eql 25 (J V 0 0) (J V 0 0)).run U w'=.ok (aL aZ) w':=fun w'=>Yk V 0 0 w';go_enter Tryz.func100,Tryz.ntmps100;go_wp2;go_ret;exact⟨⟨(V,0,0),rfl,iR _ _⟩,Z _ _⟩
 ·obtain⟨rfl,rfl,rfl⟩:a8=ah a/\a7=l.length/\r=cap:=by simpa using j
  have a2:Row ED w (J (ah a) l.length r) l:=aH ⟨a,r,rfl,M,N,S⟩;have F:=fP w (aA #[] 36);obtain⟨a6,w0,G,o0,I⟩:=iI okD w.heap.size (dR w #[] 36) (aK _) (a2.on F) (by omega) 25;obtain⟨aE,v3,H⟩:=(aU o0).len;obtain⟨n,a1⟩:∃ n,n=l.length:=⟨_,rfl⟩;have Q:=A (show (∃ u:Sl,aC a6=aC (eu u)/\Own ED w0 w.heap.size (eu u) l)/\bg w.heap.size w w0 from ⟨⟨(aE,l.length,v3),by rw [H],by subst H; exact o0⟩,F.trans (I.mono F.size)⟩);rw [<- a1] at G ⊢;clear j M N S a2 o0 I F H a1 T;have q:∀ w',(binOp .eql 25 (J (ah a) n r) (J V 0 0)).run U w'=.ok (aL aS) w':=fun w'=>Yk (ah a) n r w';have G:(aQ #[25,25] 25 #[J (ah ⟨w.heap.size,0,V⟩) 0 0,J (ah a) n r]).run U (w.alloc (aA #[] 36))=.ok a6 w0:=G;go_enter Tryz.func100,Tryz.ntmps100;go_wp2_with (first | (at_builtin; refine aN rfl _ _ 25 rfl rfl rfl G ?_) | fail);go_ret;exact Q.o
theorem Yl (a:OA) (n c:Nat) (w:aD):(binOp .eql 27 (J a n c) (J V 0 0)).run U w=.ok (aL a.isNone) w:=by
 simp [go_sem,binOp,run_equal_slice_nil (P:=U) w 27 67 a n c Tryz.underlying27]
theorem Qz (v:Sl) (l:List iY) (w:aD) (j:Row EN w (eu v) l) (T:l.length<=900) :
  bF U 101 #[eu v] w fun e w'=>(∃ u:Sl,e=aC (eu u)/\Own EN w' w.heap.size (eu u) l)/\bg w.heap.size w w':=by
 obtain⟨a8,a7,r⟩:=v;rcases j with⟨rfl,j⟩|⟨a,cap,j,M,N,S⟩
 ·obtain⟨rfl,rfl,rfl⟩:a8=V/\a7=0/\r=0:=by simpa using j
  clear j T;have q:∀ w',(binOp .eql 27 (J V 0 0) (J V 0 0)).run U w'=.ok (aL aZ) w':=fun w'=>Yl V 0 0 w';go_enter Tryz.func101,Tryz.ntmps101;go_wp2;go_ret;exact⟨⟨(V,0,0),rfl,iR _ _⟩,Z _ _⟩
 ·obtain⟨rfl,rfl,rfl⟩:a8=ah a/\a7=l.length/\r=cap:=by simpa using j
  have a2:Row EN w (J (ah a) l.length r) l:=aH ⟨a,r,rfl,M,N,S⟩;have F:=fP w (aA #[] 67);obtain⟨a6,w0,G,o0,I⟩:=iI nE w.heap.size (dR w #[] 67) (aK _) (a2.on F) (by omega) 27;obtain⟨aE,v3,H⟩:=(aU o0).len;obtain⟨n,a1⟩:∃ n,n=l.length:=⟨_,rfl⟩;have Q:=A (show (∃ u:Sl,aC a6=aC (eu u)/\Own EN w0 w.heap.size (eu u) l)/\bg w.heap.size w w0 from ⟨⟨(aE,l.length,v3),by rw [H],by subst H; exact o0⟩,F.trans (I.mono F.size)⟩);rw [<- a1] at G ⊢;clear j M N S a2 o0 I F H a1 T;have q:∀ w',(binOp .eql 27 (J (ah a) n r) (J V 0 0)).run U w'=.ok (aL aS) w':=fun w'=>Yl (ah a) n r w';have G:(aQ #[27,27] 27 #[J (ah ⟨w.heap.size,0,V⟩) 0 0,J (ah a) n r]).run U (w.alloc (aA #[] 67))=.ok a6 w0:=G;go_enter Tryz.func101,Tryz.ntmps101;go_wp2_with (first | (at_builtin; refine aN rfl _ _ 27 rfl rfl rfl G ?_) | fail);go_ret;exact Q.o
theorem Ym (a:OA) (n c:Nat) (w:aD):(binOp .eql 28 (J a n c) (J V 0 0)).run U w=.ok (aL a.isNone) w:=by
 simp [go_sem,binOp,run_equal_slice_nil (P:=U) w 28 88 a n c Tryz.underlying28]
theorem QA (v:Sl) (l:List mP) (w:aD) (j:Row EW w (eu v) l) (T:l.length<=900) :
  bF U 102 #[eu v] w fun e w'=>(∃ u:Sl,e=aC (eu u)/\Own EW w' w.heap.size (eu u) l)/\bg w.heap.size w w':=by
 obtain⟨a8,a7,r⟩:=v;rcases j with⟨rfl,j⟩|⟨a,cap,j,M,N,S⟩
 ·obtain⟨rfl,rfl,rfl⟩:a8=V/\a7=0/\r=0:=by simpa using j
  clear j T;have q:∀ w',(binOp .eql 28 (J V 0 0) (J V 0 0)).run U w'=.ok (aL aZ) w':=fun w'=>Ym V 0 0 w';go_enter Tryz.func102,Tryz.ntmps102;go_wp2;go_ret;exact⟨⟨(V,0,0),rfl,iR _ _⟩,Z _ _⟩
 ·obtain⟨rfl,rfl,rfl⟩:a8=ah a/\a7=l.length/\r=cap:=by simpa using j
  have a2:Row EW w (J (ah a) l.length r) l:=aH ⟨a,r,rfl,M,N,S⟩;have F:=fP w (aA #[] 88);obtain⟨a6,w0,G,o0,I⟩:=iI okW w.heap.size (dR w #[] 88) (aK _) (a2.on F) (by omega) 28;obtain⟨aE,v3,H⟩:=(aU o0).len;obtain⟨n,a1⟩:∃ n,n=l.length:=⟨_,rfl⟩;have Q:=A (show (∃ u:Sl,aC a6=aC (eu u)/\Own EW w0 w.heap.size (eu u) l)/\bg w.heap.size w w0 from ⟨⟨(aE,l.length,v3),by rw [H],by subst H; exact o0⟩,F.trans (I.mono F.size)⟩);rw [<- a1] at G ⊢;clear j M N S a2 o0 I F H a1 T;have q:∀ w',(binOp .eql 28 (J (ah a) n r) (J V 0 0)).run U w'=.ok (aL aS) w':=fun w'=>Ym (ah a) n r w';have G:(aQ #[28,28] 28 #[J (ah ⟨w.heap.size,0,V⟩) 0 0,J (ah a) n r]).run U (w.alloc (aA #[] 88))=.ok a6 w0:=G;go_enter Tryz.func102,Tryz.ntmps102;go_wp2_with (first | (at_builtin; refine aN rfl _ _ 28 rfl rfl rfl G ?_) | fail);go_ret;exact Q.o
theorem Yn (a:OA) (n c:Nat) (w:aD):(binOp .eql 34 (J a n c) (J V 0 0)).run U w=.ok (aL a.isNone) w:=by
 simp [go_sem,binOp,run_equal_slice_nil (P:=U) w 34 91 a n c Tryz.underlying34]
theorem oJ (v:Sl) (l:List C5) (w:aD) (j:Row EC w (eu v) l) (T:l.length<=900) :
  bF U 44 #[eu v] w fun e w'=>(∃ u:Sl,e=aC (eu u)/\Own EC w' w.heap.size (eu u) l)/\bg w.heap.size w w':=by
 obtain⟨a8,a7,r⟩:=v;rcases j with⟨rfl,j⟩|⟨a,cap,j,M,N,S⟩
 ·obtain⟨rfl,rfl,rfl⟩:a8=V/\a7=0/\r=0:=by simpa using j
  clear j T;have q:∀ w',(binOp .eql 34 (J V 0 0) (J V 0 0)).run U w'=.ok (aL aZ) w':=fun w'=>Yn V 0 0 w';go_enter Tryz.func44,Tryz.ntmps44;go_wp2;go_ret;exact⟨⟨(V,0,0),rfl,iR _ _⟩,Z _ _⟩
 ·obtain⟨rfl,rfl,rfl⟩:a8=ah a/\a7=l.length/\r=cap:=by simpa using j
  have a2:Row EC w (J (ah a) l.length r) l:=aH ⟨a,r,rfl,M,N,S⟩;have F:=fP w (aA #[] 91);obtain⟨a6,w0,G,o0,I⟩:=iI wV w.heap.size (dR w #[] 91) (aK _) (a2.on F) (by omega) 34;obtain⟨aE,v3,H⟩:=(aU o0).len;obtain⟨n,a1⟩:∃ n,n=l.length:=⟨_,rfl⟩;have Q:=A (show (∃ u:Sl,aC a6=aC (eu u)/\Own EC w0 w.heap.size (eu u) l)/\bg w.heap.size w w0 from ⟨⟨(aE,l.length,v3),by rw [H],by subst H; exact o0⟩,F.trans (I.mono F.size)⟩);rw [<- a1] at G ⊢;clear j M N S a2 o0 I F H a1 T;have q:∀ w',(binOp .eql 34 (J (ah a) n r) (J V 0 0)).run U w'=.ok (aL aS) w':=fun w'=>Yn (ah a) n r w';have G:(aQ #[34,34] 34 #[J (ah ⟨w.heap.size,0,V⟩) 0 0,J (ah a) n r]).run U (w.alloc (aA #[] 91))=.ok a6 w0:=G;go_enter Tryz.func44,Tryz.ntmps44;go_wp2_with (first | (at_builtin; refine aN rfl _ _ 34 rfl rfl rfl G ?_) | fail);go_ret;exact Q.o
end Av
namespace Bk
open Go.RowKit Rw YtghlpefopidlaaaGreat.Nm Pr
def SG (B j _:Nat) (r:OA) (q sc at_:Nat) (lo u:aG) (lt F:List ku) (i:Nat) (v:aG) (x:aD):Prop :=
 match i with
 | 0=>∃ g,v=J (ah ⟨g,0,V⟩) 0 0/\B<=g/\dN x g #[] 36
 | 1=>v=aj (ah ⟨j,2,V⟩)
 | 2=>v=J r q sc
 | 3=>v=L O (at_:Int)
 | 4=>v=lo
 | 5=>nD x B v lt
 | 6=>v=aj (ah ⟨j,2,V⟩)
 | 7=>v=J r q sc
 | 8=>v=L O (at_:Int)
 | 9=>v=L O ((at_:Int)+1)
 | 10=>v=u
 | 11=>nD x B v (lt++F)
 | 12=>v=aj (ah ⟨j,2,V⟩)
 | _=>True
noncomputable def aeO:Code:=((Tryz.f161.body.bind (eX 4)).getD .skip)
theorem Yf (B q b3:Nat) (G:OA) (F sc at_:Nat) (lo r:aG) (lt u:List ku) (i:Nat) (v:aG) (x H:aD) (h:SG B q b3 G F sc at_ lo r lt u i v x) (j:bg x.heap.size x H):SG B q b3 G F sc at_ lo r lt u i v H:=by
 by_cases S:i<13
 ·rcases (by omega:i=0\/i=1\/i=2\/i=3\/i=4\/i=5\/i=6\/i=7\/i=8\/i=9\/i=10\/i=11\/i=12) with rfl|rfl|rfl|rfl|rfl|rfl|rfl|rfl|rfl|rfl|rfl|rfl|rfl
  ·obtain⟨g,I,M,N⟩:=h;exact⟨g,I,M,N.on j⟩
  ·exact h
  ·exact h
  ·exact h
  ·exact h
  ·exact dK h j
  ·exact h
  ·exact h
  ·exact h
  ·exact h
  ·exact h
  ·exact dK h j
  ·exact h
 ·unfold SG
  split <;> first | omega | trivial
theorem anT (Q:Exit->Act->aD->Prop) (W:aD) (q b3:Nat) (me:Int) (eS eV eW f0:aG) (N:OA) (M sc at_:Nat) (l:List ku) {b8 b9 u2 cN u6 u7 u9 bA u11 bB u13 bC bE bI bM bO bP bT bW bX c6 c7 c8 c9 cA e9 eA eB eC eE eI eJ eK eL eM eN eQ eR cC cD cF cG cH cI cJ cL cM cP cQ cR cS cT cU cV cW cX cY:aG}
  (a8:dN W q #[L O me,eS,J N M sc,eV,eW,f0] 30) (b5:zx W (J N M sc) l) (e2:at_+1<=l.length) (gA:l.length<=900)
  (e1:∀ (x:aD) (v28 d1 d2 d3 d4 d5 d6 d7 d8 d9 dA S v40:aG),dN x q #[L O me,eS,S,eV,eW,f0] 30->nD x W.heap.size S (l.take at_++l.drop (at_+1))->(∀ B,B<=q->bg B W x)->(∀ c cs t,c≠q->dN W c cs t->dN x c cs t)->(∀ k,k<W.heap.size->k≠q->x.heap[k]?=W.heap[k]?)->Q .normal ⟨(b8::b9::u2::aj (ah ⟨q,0,V⟩)::aj (ah ⟨b3,0,V⟩)::cN::u6::u7::L O (at_:Int)::u9::bA::u11::bB::u13::bC::bE::bI::bM::bO::bP::bT::bW::bX::c6::c7::c8::c9::cA::v28::d1::d2::d3::d4::d5::d6::d7::d8::d9::dA::S::v40::cC::cD::cF::cG::cH::cI::cJ::cL::cM::cP::cQ::cR::cS::cT::cU::cV::cW::cX::cY::[]).toArray,[]⟩ x) :
  Code.wp U aeO Q ⟨(b8::b9::u2::aj (ah ⟨q,0,V⟩)::aj (ah ⟨b3,0,V⟩)::cN::u6::u7::L O (at_:Int)::u9::bA::u11::bB::u13::bC::bE::bI::bM::bO::bP::bT::bW::bX::c6::c7::c8::c9::cA::e9::eA::eB::eC::eE::eI::eJ::eK::eL::eM::eN::eQ::eR::cC::cD::cF::cG::cH::cI::cJ::cL::cM::cP::cQ::cR::cS::cT::cU::cV::cW::cX::cY::[]).toArray,[]⟩ W:=by
 have dT:=A e1;have a7:=A a8;have f2:=A (show at_<=900 by omega);obtain⟨lo,dZ,f1⟩:=yK okD b5 at_ (by omega);obtain⟨a2,e0,dS⟩:=qU okD b5 (at_+1) e2;have f4:=A (show (l.take at_).length<=1000 by rw [aO]; omega);have f9:=A (show (l.take at_).length<=900 by rw [aO]; omega);have f3:=A (show (l.drop (at_+1)).length<=1000 by rw [bR]; omega);generalize l.take at_=lt at *;generalize l.drop (at_+1)=b1 at *;have f8:=A dZ;have f7:=A (show ∀ w,(aT 25 (J N M sc) (ah (L O ((at_:Int)+1))) V V).run U w=.ok a2 w from e0);have f6:=A f1;have f5:=A dS;clear e1 a8 b5 dZ e0 f1 dS e2 gA;have e6:=Yf W.heap.size q b3 N M sc at_ lo a2 lt b1;unfold aeO
 conv=>arg 2; whnf
 have nd:∀ j,(j<28\/41<=j)->∀ i,i<13->(fun i=>28+i) i≠j:=by
  intro j a6 i e5 h;simp only at h;omega
 refine Rg.gN 14 13 (fun i=>28+i) (fun i=>if i=0 then 5 else if i=5 then 11 else 13) (SG W.heap.size q b3 N M sc at_ lo a2 lt b1) (by kernel_rfl) (by kernel_rfl) rfl (by decide) (fun i j _ _ h=>by have a8:28+i=28+j:=h; omega) (fun i e5=>by show 28+i<60; omega) ?_ (fun _=>Rg.kJ 1 (by kernel_rfl)) (fun h7 o h5 a8=>by omega) ?_
 ·intro i o e5 H a x D h6 e4 g6 F seen K G;clear dT;rcases (by omega:i=0\/i=1\/i=2\/i=3\/i=4\/i=5\/i=6\/i=7\/i=8\/i=9\/i=10\/i=11\/i=12) with rfl|rfl|rfl|rfl|rfl|rfl|rfl|rfl|rfl|rfl|rfl|rfl|rfl
  ·cases H;exact aM rfl rfl (Rg.iX a.eval _ 25 0 #[] rfl rfl (by simp [go_sem])) (G (J (ah ⟨x.heap.size,0,V⟩) 0 0) (x.alloc (aA #[] 36)) ⟨x.heap.size,rfl,F.size,dR x #[] 36⟩ ((Z _ _).alloc F.size _) fun j u _ _ _ _ _ h=>e6 j u _ _ h ((Z _ _).alloc (aK _) _))
  ·cases H;have T:a.eval (aB 3)=aj (ah ⟨q,0,V⟩):=seen.kp 3 _ (nd 3 (by omega)) rfl;exact aM rfl rfl (dw a.eval _ 30 (aB 3) 2 rfl (by rw [T]; simp [go_sem])) (G _ _ rfl (Z _ _) fun _ _ _ _ _ _ _ h=>h)
  ·cases H;have fN:a.eval (aB 29)=aj (ah ⟨q,2,V⟩):=seen.at_ ⟨1,.data⟩ (by simp) rfl (aH (by decide));have y:=(a7.o.on F).cell 2;simp only [ak,au,ay] at y;exact aM rfl rfl (Rg.dW a.eval _ 25 (aB 29) rfl (by rw [fN]; simp [go_sem,y])) (G _ _ rfl (Z _ _) fun _ _ _ _ _ _ _ h=>h)
  ·cases H;have b4:a.eval (aB 8)=L O (at_:Int):=seen.kp 8 _ (nd 8 (by omega)) rfl;exact aM rfl rfl (Rg.gF a.eval _ (aB 8) rfl x) (G _ _ b4 (Z _ _) fun _ _ _ _ _ _ _ h=>h)
  ·cases H;have fR:a.eval (aB 30)=J N M sc:=seen.at_ ⟨2,.data⟩ (by simp) rfl (aH (by decide));have fS:a.eval (aB 31)=L O (at_:Int):=seen.at_ ⟨3,.data⟩ (by simp) rfl (aH (by decide));exact aM rfl rfl (Rg.lW a.eval _ 25 (aB 30) V (ah (aB 31)) V rfl (by show (aT 25 (a.eval (aB 30)) V (ah (a.eval (aB 31))) V).run U x=.ok lo x; rw [fR,fS]; exact f8.o x)) (G _ _ rfl (Z _ _) fun _ _ _ _ _ _ _ h=>h)
  ·cases H;obtain⟨g,b7,g5,a1⟩:=seen.at_ ⟨0,.data⟩ (by simp) rfl (aV rfl);have b7:a.eval (aB 28)=J (ah ⟨g,0,V⟩) 0 0:=b7;have fV:a.eval (aB 32)=lo:=seen.at_ ⟨4,.data⟩ (by simp) rfl (aH (by decide));obtain⟨d0,dC,r,b6,I⟩:=iI okD W.heap.size a1 g5 (f6.o.on F) f4.o 25;exact aM rfl rfl (Rg.gV a.eval _ (aB 28) (aB 32) 25 rfl b7 fV r) (G d0 dC b6 (I.mono F.size) fun j u _ _ _ _ _ h=>e6 j u _ _ h I)
  ·cases H;have T:a.eval (aB 3)=aj (ah ⟨q,0,V⟩):=seen.kp 3 _ (nd 3 (by omega)) rfl;exact aM rfl rfl (dw a.eval _ 30 (aB 3) 2 rfl (by rw [T]; simp [go_sem])) (G _ _ rfl (Z _ _) fun _ _ _ _ _ _ _ h=>h)
  ·cases H;have fW:a.eval (aB 34)=aj (ah ⟨q,2,V⟩):=seen.at_ ⟨6,.data⟩ (by simp) rfl (aH (by decide));have y:=(a7.o.on F).cell 2;simp only [ak,au,ay] at y;exact aM rfl rfl (Rg.dW a.eval _ 25 (aB 34) rfl (by rw [fW]; simp [go_sem,y])) (G _ _ rfl (Z _ _) fun _ _ _ _ _ _ _ h=>h)
  ·cases H;have b4:a.eval (aB 8)=L O (at_:Int):=seen.kp 8 _ (nd 8 (by omega)) rfl;exact aM rfl rfl (Rg.gF a.eval _ (aB 8) rfl x) (G _ _ b4 (Z _ _) fun _ _ _ _ _ _ _ h=>h)
  ·cases H;have fY:a.eval (aB 36)=L O (at_:Int):=seen.at_ ⟨8,.data⟩ (by simp) rfl (aH (by decide));exact aM rfl rfl (Rg.XT a.eval _ .add 3 (aB 36) (.const (L O 1)) 3 rfl (by rw [fY]; exact add_one _ _ _ _ at_ f2.o)) (G _ _ rfl (Z _ _) fun _ _ _ _ _ _ _ h=>h)
  ·cases H;have fX:a.eval (aB 35)=J N M sc:=seen.at_ ⟨7,.data⟩ (by simp) rfl (aH (by decide));have g0:a.eval (aB 37)=L O ((at_:Int)+1):=seen.at_ ⟨9,.data⟩ (by simp) rfl (aH (by decide));exact aM rfl rfl (Rg.lW a.eval _ 25 (aB 35) (ah (aB 37)) V V rfl (by show (aT 25 (a.eval (aB 35)) (ah (a.eval (aB 37))) V V).run U x=.ok a2 x; rw [fX,g0]; exact f7.o x)) (G _ _ rfl (Z _ _) fun _ _ _ _ _ _ _ h=>h)
  ·cases H;have e7:nD x W.heap.size (a.eval (aB 33)) (lt):=seen.at_ ⟨5,.data⟩ (by simp) rfl (aV rfl);have g1:a.eval (aB 38)=a2:=seen.at_ ⟨10,.data⟩ (by simp) rfl (aH (by decide));have h0:zx x (a.eval (aB 38)) b1:=by rw [g1]; exact f5.o.on F
   obtain⟨d0,dC,r,b6,I⟩:=iC okD W.heap.size e7 h0 (by have:=f9.o; omega) f3.o F.size 25;exact aM rfl rfl (Rg.gV a.eval _ (aB 33) (aB 38) 25 rfl rfl rfl r) (G d0 dC b6 ((Z _ x).grown I F.size fun j a6=>(e7.lt j a6).1) fun j u a6 h4 gR gS gO h=>by
    rcases (by omega:j=0\/j=1\/j=2\/j=3\/j=4\/j=5\/j=6\/j=7\/j=8\/j=9\/j=10\/j=11\/j=12) with rfl|rfl|rfl|rfl|rfl|rfl|rfl|rfl|rfl|rfl|rfl|rfl|rfl
    ·exact absurd rfl (fun _:(0:Nat)=0=>gR (g6 ⟨5,.data⟩ (by simp) rfl))
    ·exact h
    ·exact h
    ·exact h
    ·exact h
    ·exact absurd rfl (fun _:(0:Nat)=0=>gS rfl)
    ·exact h
    ·exact h
    ·exact h
    ·exact h
    ·exact h
    ·exact absurd rfl (fun _:(0:Nat)=0=>gO rfl)
    ·exact h)
  ·cases H;have T:a.eval (aB 3)=aj (ah ⟨q,0,V⟩):=seen.kp 3 _ (nd 3 (by omega)) rfl;exact aM rfl rfl (dw a.eval _ 30 (aB 3) 2 rfl (by rw [T]; simp [go_sem])) (G _ _ rfl (Z _ _) fun _ _ _ _ _ _ _ h=>h)
 ·intro a w' df sz kp ⟨b2,aE⟩ F;have I:a.tmps[39]?=ah (b2 11):=(aE 11 (by omega)).1;have g4:a.tmps[40]?=ah (aj (ah ⟨q,2,V⟩)):=by
   have h:b2 12=aj (ah ⟨q,2,V⟩):=(aE 12 (by omega)).2 (by decide);rw [<- h];exact (aE 12 (by omega)).1
  have e8:nD w' W.heap.size (b2 11) (lt++b1):=(aE 11 (by omega)).2 (by decide);generalize b2 11=dE at *;obtain⟨h2,h3,g2⟩:=(aU e8).len;have a1:=a7.o.on F;have e3:=a7.o.lt;have c5:=a1.cell 2;have g3:=a1.fr 2;simp only [ak,au,ay] at c5;have g7:=eD (k:=2) a1 dE;show Rg.fU _ _ _ 1 13 a w';simp only [Rg.fU];refine Rg.gq 25 (aB 40) (aB 39) rfl rfl rfl rfl (Rg.dU g4) (Rg.dU I) (w':=w'.setCell ⟨q,2,V⟩ dE) (by rw [g2]; simp [go_sem,c5,g3]) ?_;have h1:∀ j,(j<28\/41<=j)->a.tmps[j]?=(b8::b9::u2::aj (ah ⟨q,0,V⟩)::aj (ah ⟨b3,0,V⟩)::cN::u6::u7::L O (at_:Int)::u9::bA::u11::bB::u13::bC::bE::bI::bM::bO::bP::bT::bW::bX::c6::c7::c8::c9::cA::e9::eA::eB::eC::eE::eI::eJ::eK::eL::eM::eN::eQ::eR::cC::cD::cF::cG::cH::cI::cJ::cL::cM::cP::cQ::cR::cS::cT::cU::cV::cW::cX::cY::[])[j]?:=fun j a6=>(kp j (nd j a6)).trans ak;obtain⟨gI,gC,rfl⟩:=Rg.gG 28 13 df sz (by simp) h1
  match gI,gC with
  | [v28,d1,d2,d3,d4,d5,d6,d7,d8,d9,dA,S,v40],_ =>
   have fL:ah S=ah dE:=I;obtain rfl:=aP fL;refine dT.o _ v28 d1 d2 d3 d4 d5 d6 d7 d8 d9 dA S v40 ?_ ?_ ?_ ?_ ?_
   ·simpa using g7
   ·exact eF e8 q 2 _ e3
   ·exact fun B hB=>(F.mono (dn (bH hB e3))).setCell hB _
   ·intro c cs t e4 g8;exact (aF _ _ _ _ e4).trans (g8.on F)
   ·intro k g9 gE;exact (aF _ _ _ _ gE).trans (F.block k g9)
end Bk
namespace Bk
open Go.RowKit Go.Sort Rw YtghlpefopidlaaaGreat.Nm Pr
def cutAt {α:Type} (l:List α) (k:Nat):List α:=l.take k++l.drop (k+1)
def iZ (b:Br) (x:Id) (f:Int):Br×Bool:=match b.dQ[(fQ (b.dQ.map Ad.id) x).toNat]? with
 | none=>(b,aS)
 | some a=>if fQ (b.dQ.map Ad.id) x=-1 then (b,aS) else if a.par=f then ({ b with dQ:=cutAt b.dQ (fQ (b.dQ.map Ad.id) x).toNat,ent:=b.ent.filter fun e=>decide (e.tree≠x) },aZ) else (b,aS)
theorem SK (l:List ku) (x:Id):fQ (l.map fun y=>(y.1,y.2.1)) x=-1\/∃ (k:Nat) (y:ku),fQ (l.map fun y=>(y.1,y.2.1)) x=k/\l[k]?=ah y:=by
 induction l with
 | nil=>exact aV rfl
 | cons a l r =>
  rw [cO,fQ];by_cases h:(a.1,a.2.1)=x
  ·rw [if_pos h];exact aH ⟨0,a,rfl,rfl⟩
  ·rw [if_neg h];rcases r with j|⟨k,y,j,q⟩
   ·rw [if_pos j];exact aV rfl
   ·rw [if_neg (by omega),j];exact aH ⟨k+1,y,by omega,by simpa using q⟩
theorem eY.fil {α u:Type} {R:α->u->Prop} (p:α->Bool) (j:u->Bool) (r:∀ a b,R a b->p a=j b):∀ {l m},eY R l m->eY R (l.filter p) (m.filter j)
 | _,_,.nil=>.nil
 | _,_,.cons (a:=a) (b:=b) x t=>by
  have h:=r a b x;cases q:j b
  ·rw [bS (by rw [h,q]; simp),bS (by rw [q]; simp)];exact t.fil p j r
  ·rw [bU (by rw [h,q]),bU (by rw [q])];exact .cons x (t.fil p j r)
theorem KU (a b c d:Int) (j:Bool) (h:(!(a == c && b == d))=j) (w:aD):(binOp .neq 23 (cZ #[L O a,L O b]) (cZ #[L O c,L O d])).run U w=.ok (aL j) w:=by
 have st:=Sy;subst h;by_cases q:a=c <;> by_cases r:b=d <;> simp [go_sem,Tryz.underlying23,Tryz.underlying3,st,q,r]
def Cb (x:Id) (e:iY):Bool:=decide ((e.1,e.2.1)≠x)
theorem EH {α:Type} (l:List α) (k:Nat) (y:α) (p:α->Bool) (h:l[k]?=ah y):(l.take (k+1)).filter p=(l.take k).filter p++(if p y then [y] else []):=by
 rw [List.take_add_one,h,List.filter_append];cases j:p y <;> simp [j]
theorem Nc (b:Br) (d2 av d7 eE d3:Sl) (x:Id) (f:Int) (w:aD) (h:iT w b d2 av d7 eE d3) (h7:b.dQ.length<=900) (h8:b.ent.length<=900) :
  bF U 161 #[mg b.me d2 av d7 eE d3,nP x,L O f] w fun e w'=>(∃ Eb ev':Sl,e=aC (.tuple #[mg b.me d2 Eb d7 ev' d3,aL (iZ b x f).2])/\iT w' (iZ b x f).1 d2 Eb d7 ev' d3)/\Below w.heap.size w w':=by
 obtain⟨no,N,M⟩:=d2;obtain⟨H,g6,G⟩:=av;obtain⟨a2,a1,sc⟩:=d7;obtain⟨a8,g7,a7⟩:=eE;obtain⟨T,I,S⟩:=d3;obtain⟨c,d⟩:=x;obtain⟨b8,e0,e1⟩:=h.dQ;obtain⟨aE,dZ,eN⟩:=h.ent;have fR:=A (Ez e1);have g3:=A (show b8.length<=900 by rw [e1.len]; exact h7);have hF:=A (show aE.length<=900 by rw [eN.len]; exact h8);have e9:=A e1;have hH:=A eN;obtain⟨d5,d6,cT⟩:=e0.len;obtain⟨rfl,rfl,rfl⟩:H=d5/\g6=b8.length/\G=d6:=by
  have:J H g6 G=J d5 b8.length d6:=cT;simpa using this
 obtain⟨d5,d6,cT⟩:=dZ.len;obtain⟨rfl,rfl,rfl⟩:a8=d5/\g7=aE.length/\a7=d6:=by
  have:J a8 g7 a7=J d5 aE.length d6:=cT;simpa using this
 have cM:=wW b.me (J no N M) (J a8 aE.length a7) (J a2 a1 sc) (J T I S) (H,b8.length,G) b8 (c,d);have dS:=A h;obtain⟨eI,bW,d0,eJ⟩:=gT w #[L O b.me,J no N M,J H b8.length G,J a2 a1 sc,J a8 aE.length a7,J T I S] #[L O c,L O d] #[L O 0,J V 0 0,J V 0 0,J V 0 0,J V 0 0,J V 0 0] 30 23 30;obtain⟨b7,eQ⟩:∃ n,n=b8.length:=⟨_,rfl⟩;obtain⟨b1,eB⟩:∃ n,n=aE.length:=⟨_,rfl⟩;simp only [<- eQ,<- eB] at eI bW d0 eJ e0 dZ dS cM ⊢;have cL:=A eI;have cC:=A bW;have cR:=A d0;have cS:=A eJ;have cN:=A e0;have dE:=A dZ;have fV:=A eQ;have dT:=A eB;obtain⟨me,gS⟩:∃ me,me=b.me:=⟨_,rfl⟩;simp only [<- gS] at cC cL cR cS cM ⊢;clear eI bW d0 eJ e0 dZ e1 eN h cT eQ eB h7 h8 gS;go_enter Tryz.func161,Tryz.ntmps161;go_upto_region 1 with fail;generalize (((w.alloc (aA #[L O me,J no N M,J H b7 G,J a2 a1 sc,J a8 b1 a7,J T I S] 30)).alloc (aA #[L O c,L O d] 23)).alloc (aA #[L O 0,J V 0 0,J V 0 0,J V 0 0,J V 0 0,J V 0 0] 30))=W at *;have cQ:=A (cM W (cN.o.on cL.o));clear cM;obtain⟨c6,c7,cG,cH,cI,cJ⟩:=cC.o.fA;obtain⟨hC,F⟩:=cR.o.cs2;rcases SK b8 (c,d) with cD|⟨k,y,cD,bX⟩
 ·have bT:=A (show iZ b (c,d) f=(b,aS) by
   have d1:=cD;rw [fR.o] at d1;unfold iZ;rw [d1]
   split
   ·rfl
   ·rw [if_pos rfl])
  rw [cD] at cQ;clear cD;go_wp2_with fail;refine cQ.o.mono ?_;rintro hK w1 ⟨rfl,bP⟩;have c8:=A (cL.o.trans (bP.mono cL.o.size));have b5:=cC.o.on bP;have u:=cS.o.on bP;clear cQ bP c6 c7 cG cH cI cJ hC F;obtain⟨c6,c7,cG,cH,cI,cJ⟩:=b5.fA;obtain⟨e2,e3,e4,e5,e6,r5⟩:=u.fA;obtain⟨t0,t1,t2,t3,t4,t5⟩:=u.kg;have e7:=u.lt;have cX:=A (dM u (L O me) (J no N M) (J H b7 G) (J a2 a1 sc) (J a8 b1 a7) (J T I S));have bO:=A (dJ (b:=w.heap.size+1+1) c8.o (by omega) (L O me) (J no N M) (J H b7 G) (J a2 a1 sc) (J a8 b1 a7) (J T I S));clear cC cR cS b5 u cN dE;go_wp2_with fail;obtain⟨v0,d8,d9,v3,v4,v5⟩:=cX.o.fA;refine bD (v:=.tuple #[cZ #[L O me,J no N M,J H b7 G,J a2 a1 sc,J a8 b1 a7,J T I S],aL aS]) (by simp [results,cu,go_sem,v0,d8,d9,v3,v4,v5]) rfl ?_;rw [bT.o];exact⟨⟨(H,b7,G),(a8,b1,a7),rfl,dS.o.on bO.o⟩,bO.o⟩
 ·rw [cD] at cQ;have gI:=(aY.1 bX).1;have hY:=g3.o;have i0:k<b7:=by rw [fV.o]; exact gI
  have fN:=A cD;have hI:=A bX;obtain⟨p,h6,d4⟩:=Mv cN.o rfl fV.o.symm bX;have bT:=A (show ∀ a,b.dQ[k]?=ah a->iZ b (c,d) f=if a.par=f then ({ b with dQ:=cutAt b.dQ k,ent:=b.ent.filter fun e=>decide (e.tree≠(c,d)) },aZ) else (b,aS) from fun a hO=>by
   have d1:=fN.o;rw [fR.o] at d1;unfold iZ;rw [d1,Int.toNat_natCast,hO];simp only;rw [if_neg (by omega)])
  obtain⟨j3,j4,⟨j7,j6,j5⟩,par⟩:=y;obtain⟨a,eL⟩:∃ a,b.dQ[k]?=ah a:=⟨_,aI (by rw [<- e9.o.len]; exact gI)⟩;have gA:a.par=par:=by
   obtain⟨z,h5,hS⟩:=e9.o.at k a eL;rw [hI.o] at h5;obtain rfl:=aP h5;exact hS.2.1.symm
  have c9:=bT.o a eL;rw [gA] at c9;have hQ:decide ((k:Int)<0)=aS:=decide_eq_false (by omega);go_wp2_with fail;refine cQ.o.mono ?_;rintro hK w1 ⟨rfl,bP⟩;have c8:=A (cL.o.trans (bP.mono cL.o.size));have b5:=cC.o.on bP;have eA:=cR.o.on bP;have u:=cS.o.on bP;have hE:=d4 w1 c8.o;obtain⟨f0,f1,f2,f3⟩:=hE;clear cQ bP d4 fN bT cD bX gA eL c6 c7 cG cH cI cJ hC F;by_cases cF:par=f
  ·rw [if_pos cF] at c9;have bT:=A c9;have h0:(par != f)=aS:=by simp [cF]
   have hX:=A cF;have g4:=A b5;have g5:=A eA;have eC:=A u;obtain⟨c6,c7,cG,cH,cI,cJ⟩:=b5.fA;obtain⟨e2,e3,e4,e5,e6,r5⟩:=u.fA;obtain⟨t0,t1,t2,t3,t4,t5⟩:=u.kg;have e7:=u.lt;clear c9 cF cC cR cS b5 eA u;have g0:=A (cN.o.on c8.o);go_upto_region 4 with fail;refine anT _ w1 w.heap.size (w.heap.size+1) me _ _ _ _ H b7 G k b8 g4.o g0.o (by omega) g3.o ?_;intro dA v28 i2 i4 i5 i6 i7 i8 i9 iG iS j0 j1 v40 eM eR gE eS hP;obtain⟨cU,cV,f9⟩:=(aU eR).len;obtain⟨cW,h2⟩:∃ n,n=(b8.take k++b8.drop (k+1)).length:=⟨_,rfl⟩;rw [<- h2] at f9;subst f9;have dC:=A (c8.o.trans (gE _ (aK _)));have f5:=A eM;have f6:=A (eS _ _ _ (by omega) g5.o);have e8:=A (eS _ _ _ (by omega) eC.o);have fX:=A (dO eR (show w.heap.size+3<=w1.heap.size by have:=eC.o.lt; omega));have f8:=A (dE.o.on dC.o);have a4:=eM.cell 4;simp only [ak,au,ay] at a4;have g2:=A e8.o.lt;have h9:=hF.o;rw [<- dT.o] at h9;clear eM eR gE eS hP h2 c8 g4 g5 eC g0 cN dE c6 c7 cG cH cI cJ e2 e3 e4 e5 e6 r5 t0 t1 t2 t3 t4 t5 e7 h6 f0 f1 f2 f3 h0 hQ;go_wp2
   go_loopw [9,44] (fun v i wr=>∃ q:Nat,q<=b1/\i=L O q/\Below dA.heap.size dA wr/\jJ wr dA.heap.size v ((aE.take q).filter (Cb (c,d)))) (fun _ i _=>b1-(intOf i).toNat)
   case atStart=>exact⟨0,bG _,rfl,Z _ _,iR _ _⟩
   case round =>
    obtain⟨q,cT,rfl,gC,h1⟩:=hrel;have b6:=A gC;have cA:=A h1;clear gC h1;by_cases gR:q<b1
    ·obtain⟨e,bX⟩:∃ e,aE[q]?=ah e:=⟨_,aI (by rw [<- dT.o]; exact gR)⟩;obtain⟨p,h6,d4⟩:=Qj f8.o rfl dT.o.symm bX;obtain⟨f0,f1,f2,f3,hT,hU,hV⟩:=d4 wr b6.o;have fL:=A (EH aE q e (Cb (c,d)) bX);obtain⟨F,a6,b9,bA,⟨bM,bI,bE⟩,bB,bC⟩:=e;simp only at f0 f1 f2 f3 hT hU hV;have cP:=A (fP wr (aA #[L O F,L O a6,L O b9,L O bA,J bM bI bE,L O bB,aL bC] 67));obtain⟨c6,c7⟩:=((f6.o.on b6.o).on cP.o).cs2;have i1:IntKind.i64.wrap ((q:Int)+1)=(q:Int)+1:=aW _ (by omega);obtain⟨r,eV⟩:∃ r,(!(F == c && a6 == d))=r:=⟨_,rfl⟩;have hZ:=KU F a6 c d r eV;have fS:=A (show Cb (c,d) (F,a6,b9,bA,(bM,bI,bE),bB,bC)=r by
      rw [<- eV];unfold Cb;by_cases bW:F=c <;> by_cases d0:a6=d <;> simp [bW,d0])
     clear d4 bX eV;cases r
     ·go_wp2
      go_roundw
      case rel=>exact⟨q+1,by omega,by go_num,b6.o.trans (cP.o.mono b6.o.size),by
       rw [fL.o,fS.o];simpa using dK cA.o cP.o⟩
      case measure=>simp [intOf]; omega
     ·have fW:=A (fP (wr.alloc (aA #[L O F,L O a6,L O b9,L O bA,J bM bI bE,L O bB,aL bC] 67)) (aA #[L O F,L O a6,L O b9,L O bA,J bM bI bE,L O bB,aL bC] 67));have gO:=jL nE (wr.alloc (aA #[L O F,L O a6,L O b9,L O bA,J bM bI bE,L O bB,aL bC] 67)) [(F,a6,b9,bA,(bM,bI,bE),bB,bC)] 1 rfl (by simp) #[L O F,L O a6,L O b9,L O bA,J bM bI bE,L O bB,aL bC] rfl;have eW:=dK (dK cA.o cP.o) fW.o;have hB:dA.heap.size<=((wr.alloc (aA #[L O F,L O a6,L O b9,L O bA,J bM bI bE,L O bB,aL bC] 67)).alloc (aA #[L O F,L O a6,L O b9,L O bA,J bM bI bE,L O bB,aL bC] 67)).heap.size:=by have bW:=b6.o.size; simp; omega
      obtain⟨hW,w',f4,hA,g8⟩:=iC nE dA.heap.size eW (aU gO) (by have bW:=cB (Cb (c,d)) (aE.take q); rw [aO] at bW; omega) (by simp) hB 27;have f4:(aQ #[27,27] 27 #[u9,J (ah ⟨wr.heap.size+1,0,V⟩) 1 1]).run U ((wr.alloc (aA #[L O F,L O a6,L O b9,L O bA,J bM bI bE,L O bB,aL bC] 67)).alloc (aA #[L O F,L O a6,L O b9,L O bA,J bM bI bE,L O bB,aL bC] 67))=.ok hW w':=by
       simpa [EN] using f4
      have hD:=A ((b6.o.trans ((cP.o.trans (fW.o.mono cP.o.size)).mono b6.o.size)).grown g8 hB fun j hR=>(eW.lt j hR).1);have hJ:=A hA;clear gO eW hB hA g8 cA;go_wp2_with (first | (at_builtin; refine aN rfl _ _ 27 rfl rfl rfl f4 ?_) | fail)
      go_roundw
      case rel=>exact⟨q+1,by omega,by go_num,hD.o,by
       rw [fL.o,fS.o];simpa using hJ.o⟩
      case measure=>simp [intOf]; omega
    ·obtain rfl:q=b1:=by omega
     have e:aE.take q=aE:=bY (by have:=dT.o; omega);rw [e] at cA;obtain⟨b4,b2,h3⟩:=(aU cA.o).len;obtain⟨vl,h4⟩:∃ n,n=(aE.filter (Cb (c,d))).length:=⟨_,rfl⟩;rw [<- h4] at h3;subst h3;have cY:=f5.o.on b6.o;have c4:=cY.cell 4;have hL:=cY.fr 4;have hM:=cY.lt;simp only [ak,au,ay] at c4;clear h4 e a4 gR cT h9;go_upto_region 13 with fail;have b5:=eD (k:=4) cY (J b4 vl b2);simp only [aX,bJ,bK] at b5;have u:dN _ _ _ _:=(aF wr ⟨w.heap.size,4,V⟩ (J b4 vl b2) _ (show w.heap.size+1+1≠w.heap.size by omega)).trans (e8.o.on b6.o);have fY:=A (eF (dK fX.o b6.o) w.heap.size 4 (J b4 vl b2) (by omega));have g1:=A (eF cA.o w.heap.size 4 (J b4 vl b2) (by have:=g2.o; omega));have f7:=A ((dC.o.trans (b6.o.mono dC.o.size)).setCell (p:=⟨w.heap.size,4,V⟩) (aK _) (J b4 vl b2));clear cY c4 hL hM fX cA dC f5 f6 e8 f8;generalize wr.setCell ⟨w.heap.size,4,V⟩ (J b4 vl b2)=j2 at *;obtain⟨c6,c7,cG,cH,cI,cJ⟩:=b5.fA;obtain⟨e2,e3,e4,e5,e6,r5⟩:=u.fA;obtain⟨t0,t1,t2,t3,t4,t5⟩:=u.kg;have e7:=u.lt;have cX:=A (dM u (L O me) (J no N M) (J cU cW cV) (J a2 a1 sc) (J b4 vl b2) (J T I S));have bO:=A (dJ (b:=w.heap.size+1+1) f7.o (by omega) (L O me) (J no N M) (J cU cW cV) (J a2 a1 sc) (J b4 vl b2) (J T I S));have cM:=A (fJ fY.o (w.heap.size+1+1) (by omega) (L O me) (J no N M) (J cU cW cV) (J a2 a1 sc) (J b4 vl b2) (J T I S));have hG:=A (fJ g1.o (w.heap.size+1+1) (by have:=g2.o; omega) (L O me) (J no N M) (J cU cW cV) (J a2 a1 sc) (J b4 vl b2) (J T I S));clear fY g1 f7 b5 u;go_wp2_with fail;obtain⟨v0,d8,d9,v3,v4,v5⟩:=cX.o.fA;refine bD (v:=.tuple #[cZ #[L O me,J no N M,J cU cW cV,J a2 a1 sc,J b4 vl b2,J T I S],aL aZ]) (by simp [results,cu,go_sem,v0,d8,d9,v3,v4,v5]) rfl ?_;rw [bT.o];refine⟨⟨(cU,cW,cV),(b4,vl,b2),rfl,?_⟩,bO.o⟩;have eK:=dS.o.on bO.o;refine⟨eK.near,⟨_,aU cM.o,?_⟩,eK.seen,⟨_,aU hG.o,?_⟩,eK.own⟩
     ·have g9:=e9.o.mono fun _ _ h=>h.on bO.o;exact (g9.take _).append (g9.drop _)
     ·have hN:=hH.o.mono fun _ _ h=>h.on bO.o;exact hN.fil _ _ fun a b h=>by unfold Cb; rw [h.1]
  ·rw [if_neg cF] at c9;have bT:=A c9;have h0:(par != f)=aZ:=by simp [cF]
   clear c9 cF;obtain⟨c6,c7,cG,cH,cI,cJ⟩:=b5.fA;obtain⟨e2,e3,e4,e5,e6,r5⟩:=u.fA;obtain⟨t0,t1,t2,t3,t4,t5⟩:=u.kg;have e7:=u.lt;clear eA;have cX:=A (dM u (L O me) (J no N M) (J H b7 G) (J a2 a1 sc) (J a8 b1 a7) (J T I S));have bO:=A (dJ (b:=w.heap.size+1+1) c8.o (by omega) (L O me) (J no N M) (J H b7 G) (J a2 a1 sc) (J a8 b1 a7) (J T I S));clear cC cR cS b5 u cN dE;go_wp2_with fail;obtain⟨v0,d8,d9,v3,v4,v5⟩:=cX.o.fA;refine bD (v:=.tuple #[cZ #[L O me,J no N M,J H b7 G,J a2 a1 sc,J a8 b1 a7,J T I S],aL aS]) (by simp [results,cu,go_sem,v0,d8,d9,v3,v4,v5]) rfl ?_;rw [bT.o];exact⟨⟨(H,b7,G),(a8,b1,a7),rfl,dS.o.on bO.o⟩,bO.o⟩
theorem EK {W:aD} {b:Nat} {cs:Array aG} {t:dG} (j:dN W b cs t) {a:dH} {v:aG} (h:W.cell? a=ah v) (e:a.block=b):cs[a.off]?=ah v:=by
 unfold World.cell? at h;unfold dN at j;rw [e,j] at h;have q:a.spot=V/\cs[a.off]?=ah v:=by simpa using h
 exact q.2
theorem Vj {W q:aD} {b:Nat} (r:∀ j,j<W.heap.size->j≠b->q.heap[j]?=W.heap[j]?) {a:dH} {v:aG} (h:W.cell? a=ah v) (e:a.block≠b):q.cell? a=ah v:=by
 have u:=World.block_lt_of_cell? W _ h;unfold World.cell? at h ⊢;rw [r _ u e];exact h
theorem zB (a:dH) (j:Nat):(a.add j).block=a.block:=by unfold bf; split <;> rfl
theorem jr {α:Type} {E:Ek α} (_:E.Ok) {W u:aD} {b:Nat} {v:aG} {l:List α} (h:Row E W v l) (M:∀ j,j<W.heap.size->j≠b->u.heap[j]?=W.heap[j]?) (S:∀ (a:dH) (c:α),(∀ j q,(E.cells c)[j]?=ah q->W.cell? (a.add j)=ah q)->a.block≠b):Row E u v l:=by
 rcases h with h|⟨a,cap,G,H,I,F⟩
 ·exact aV h
 ·refine aH ⟨a,cap,G,H,I,fun j q r=>?_⟩;cases l with
  | nil=>simp [flat] at r
  | cons c T =>
   have N:a.block≠b:=S a c fun j q r=>F j q (by
    rw [flat,List.getElem?_append_left (by exact (aY.1 r).1)];exact r)
   exact Vj M (F j q r) (by rw [zB]; exact N)
theorem mG {α:Type} {E:Ek α} {W:aD} {b:Nat} {cs:Array aG} {t:dG} (q:dN W b cs t) (G:∀ c:α,∃ i j:Int,(E.cells c)[0]?=ah (L O i)/\(E.cells c)[1]?=ah (L O j)) (H:∀ (k:Nat) (i j:Int),cs[k]?=ah (L O i)->cs[k+1]?=ah (L O j)->False) (a:dH) (c:α) (h:∀ j r,(E.cells c)[j]?=ah r->W.cell? (a.add j)=ah r):a.block≠b:=fun e=>by
 obtain⟨i,j,u,F⟩:=G c;have c0:=EK q (h 0 _ u) (by rw [zB]; exact e);have c1:=EK q (h 1 _ F) (by rw [zB]; exact e);have o0:(a.add 0).off=a.off:=by rw [Addr.add_zero']
 have I:(a.add 1).off=a.off+1:=by rw [add_pos _ _ (by decide)]
 rw [o0] at c0;rw [I] at c1;exact H a.off i j c0 c1
theorem rY {W:aD} {b:Nat} {cs:Array aG} {t:dG} (r:dN W b cs t) (u:∀ (k:Nat) (s:ByteArray),cs[k]?≠ah (.string s)) (a:dH) (c:C5) (h:∀ j q,(EC.cells c)[j]?=ah q->W.cell? (a.add j)=ah q):a.block≠b:=fun e=>by
 have c0:=EK r (h 0 _ rfl) (by rw [zB]; exact e);exact u _ _ c0
theorem nT (me:Int) (s1 s2 s3 s4 s5:Sl):∀ (k:Nat) (i q:Int),(jU me s1 s2 s3 s4 s5)[k]?=ah (L O i)->(jU me s1 s2 s3 s4 s5)[k+1]?=ah (L O q)->False:=by
 intro k i q j r
 match k with
 | 0=>simp at r
 | 1=>simp at j
 | 2=>simp at j
 | 3=>simp at j
 | 4=>simp at j
 | 5=>simp at j
 | k+6=>simp at j
theorem uM (me:Int) (s1 s2 s3 s4 s5:Sl):∀ (k:Nat) (s:ByteArray),(jU me s1 s2 s3 s4 s5)[k]?≠ah (.string s):=by
 intro k s h
 match k with
 | 0=>simp at h
 | 1=>simp at h
 | 2=>simp at h
 | 3=>simp at h
 | 4=>simp at h
 | 5=>simp at h
 | k+6=>simp at h
theorem fK {W H:aD} {k:Nat} {me:Int} {s1 s2 s3 s4 s5:Sl} {b:Br} {I av S M N:Sl} (h:iT W b I av S M N) (q:dN W k (jU me s1 s2 s3 s4 s5) 30) (r:∀ G,G<W.heap.size->G≠k->H.heap[G]?=W.heap[G]?) (T:sW H (eu I) b.near):iT H b I av S M N where
 near:=T
 dQ:=by
  obtain⟨l,u,F⟩:=h.dQ;exact⟨l,jr okD u r (mG q (fun c=>⟨_,_,rfl,rfl⟩) (nT me s1 s2 s3 s4 s5)),F.mono fun x a j=>⟨j.1,j.2.1,jr wV j.2.2 r (rY q (uM me s1 s2 s3 s4 s5))⟩⟩
 seen:=jr Eu h.seen r (mG q (fun c=>⟨_,_,rfl,rfl⟩) (nT me s1 s2 s3 s4 s5))
 ent:=by
  obtain⟨l,u,F⟩:=h.ent;exact⟨l,jr nE u r (mG q (fun c=>⟨_,_,rfl,rfl⟩) (nT me s1 s2 s3 s4 s5)),F.mono fun x a j=>⟨j.1,j.2.1,j.2.2.1,j.2.2.2.1,jr wV j.2.2.2.2 r (rY q (uM me s1 s2 s3 s4 s5))⟩⟩
 own:=by
  obtain⟨l,u,F⟩:=h.own;exact⟨l,jr okW u r (mG q (fun c=>⟨_,_,rfl,rfl⟩) (nT me s1 s2 s3 s4 s5)),F.mono fun x a j=>⟨j.1,jr wV j.2 r (rY q (uM me s1 s2 s3 s4 s5))⟩⟩
end Bk
namespace Av
open Go.RowKit Rw YtghlpefopidlaaaGreat.Nm Pr Bk
theorem QC (l:List fB) (x:fB) (h:∀ (j:Nat) (y:fB),l[j]?=ah y->y≠x):fQ l x=-1:=by
 induction l with
 | nil=>rfl
 | cons a l r =>
  rw [fQ,if_neg (h 0 a rfl),r fun j y q=>h (j+1) y (by simpa using q),if_pos rfl]
theorem Yo (l:List fB) (k:Nat) (x:fB) (h:l[k]?=ah x) (q:∀ (j:Nat) (z:fB),j<k->l[j]?=ah z->z≠x):fQ l x=k:=by
 induction l generalizing k with
 | nil=>simp at h
 | cons a l F =>
  cases k with
  | zero =>
   obtain rfl:a=x:=by simpa using h
   rw [fQ,if_pos rfl]
   rfl
  | succ k =>
   have r:=F k (by simpa using h) fun j z G u=>q (j+1) z (by omega) (by simpa using u);rw [fQ,if_neg (q 0 a (by omega) rfl),r,if_neg (by omega)];omega
theorem Nb (l:List fB) (x:fB):decide ((0:Int)<=fQ l x)=decide (x∈l):=by
 induction l with
 | nil=>simp [fQ]
 | cons a l F =>
  have G:=tC l x;rw [fQ];by_cases h:a=x
  ·rw [if_pos h]; simp [h]
  ·rw [if_neg h];have q:¬ x=a:=fun e=>h e.symm;simp only [List.mem_cons,q,false_or];rw [<- F];by_cases j:fQ l x=-1
   ·rw [if_pos j,j]
   ·rw [if_neg j];have r:0<=fQ l x:=by omega
    have u:0<=fQ l x+1:=by omega
    simp [r,u]
theorem Vf (a6:Sl) (l:List fB) (x:fB) (w:aD) (r:yL w (eu a6) l) :
  bF U 139 #[eu a6,nP x] w fun e w'=>e=aC (L O (fQ l x))/\bg w.heap.size w w':=by
 obtain⟨c,d⟩:=x;obtain⟨bI,bE,sc⟩:=a6;obtain⟨b4,b2,u⟩:=r.len;have u:J bI bE sc=J b4 l.length b2:=u;obtain⟨rfl,rfl,rfl⟩:bI=b4/\bE=l.length/\sc=b2:=by simpa using u
 have N:=fP w (aA #[L O c,L O d] 23);have b7:=dR w #[L O c,L O d] 23;have B:=A N;have aE:=A (r.on N);have bM:=A b7;have bB:=r.most;unfold maxLen at bB;obtain⟨n,T⟩:∃ n,n=l.length:=⟨_,rfl⟩;rw [<- T] at aE bB ⊢;have M:=A T.symm;clear N b7 r u T;go_enter Tryz.func139,Tryz.ntmps139;go_upto_region 1 with fail;generalize w.alloc (aA #[L O c,L O d] 23)=W at *;go_wp2
 go_loopw [8] (fun i wr=>∃ k:Nat,k<=n/\i=L O k/\bg W.heap.size W wr/\∀ (q:Nat) (y:fB),q<k->l[q]?=ah y->y≠(c,d)) (fun i _=>n-(intOf i).toNat)
 case atStart=>exact⟨0,bG _,rfl,Z _ _,fun q y h=>by omega⟩
 case round =>
  obtain⟨k,c9,rfl,bA,b9⟩:=hrel;have j:=A bA;have I:=A b9;clear bA b9;by_cases bT:k<n
  ·obtain⟨y,a2⟩:∃ y,l[k]?=ah y:=⟨_,aI (by rw [M.o]; exact bT)⟩;obtain⟨p,cC,bC⟩:=elJ aE.o rfl M.o a2;have a7:bg W.heap.size W wr.drew:=j.o.drew;obtain⟨bW,bX⟩:=bC wr j.o;obtain⟨G,H⟩:=y;simp only at bW bX;obtain⟨cD,cF⟩:=(bM.o.on j.o).cs2;have cA:IntKind.i64.wrap ((k:Int)+1)=(k:Int)+1:=aW _ (by omega);obtain⟨F,a1⟩:∃ F,(c == G && d == H)=F:=⟨_,rfl⟩;have c8:=uL c d G H F a1;have c7:=A a7;have b1:=A a2;have a8:=A a1;clear bC a2 a1 a7;cases F
   ·go_wp2_with fail
    go_quiet (fail)
    go_wp2
    go_roundw
    case rel=>exact⟨k+1,by omega,by go_num,⟨j.o.os,j.o.tape,j.o.output,j.o.size,j.o.block⟩,fun q c6 S b6=>by
     rcases bV q k with b8|b8
     ·exact I.o q c6 b8 b6
     ·obtain rfl:q=k:=by omega
      have b5:=b1.o;rw [b6] at b5;rw [aP b5];intro e;obtain⟨rfl,rfl⟩:G=c/\H=d:=by simpa using e
      have:=a8.o;simp at this⟩
    case measure=>simp [intOf]; omega
   ·go_wp2_with fail
    go_quiet (fail)
    go_wp2;go_ret;have bO:=a8.o;obtain⟨rfl,rfl⟩:c=G/\d=H:=by simpa using bO
    exact⟨by rw [Yo l k (c,d) b1.o I.o]; rfl,B.o.trans (Below.mono ⟨j.o.os,j.o.tape,j.o.output,j.o.size,j.o.block⟩ B.o.size)⟩
  ·obtain rfl:k=n:=by omega
   go_wp2;go_ret;have bP:fQ l (c,d)=-1:=QC l (c,d) fun q y S=>I.o q y (by rw [<- M.o]; exact (aY.1 S).1) S;exact⟨by rw [bP]; rfl,B.o.trans (j.o.mono B.o.size)⟩
theorem KT (j:Sl) (l:List fB) (x:fB) (w:aD) (u:yL w (eu j) l) :
  bF U 98 #[eu j,nP x] w fun e w'=>e=aC (aL (decide (x∈l)))/\bg w.heap.size w w':=by
 have q:=fP w (aA #[L O x.1,L O x.2] 23);have r:=dR w #[L O x.1,L O x.2] 23;have C:=Vf j l x _ (u.on q);have R:=A (Nb l x);obtain⟨c,d⟩:=x;obtain⟨I,H,sc⟩:=j;have B:=A q;obtain⟨M,N⟩:=r.cs2;generalize fQ l (c,d)=G at *;generalize decide ((c,d)∈l)=s at *;clear q r u;go_enter Tryz.func98,Tryz.ntmps98;go_wp2_with fail;refine C.mono ?_;rintro e w1 ⟨rfl,F⟩;go_wp2;go_ret;exact⟨by have h:=R.o; subst h; rfl,B.o.trans (F.mono B.o.size)⟩
theorem Vg (me:Int) (H av r I:aG) (j:Sl) (l:List fB) (x:fB) (w:aD) (G:yL w (eu j) l) :
  bF U 32 #[cZ #[L O me,H,av,eu j,r,I],nP x] w fun e w'=>e=aC (aL (decide (x∈l)))/\bg w.heap.size w w':=by
 obtain⟨q,u,F⟩:=gX w #[L O me,H,av,eu j,r,I] #[L O x.1,L O x.2] 30 23;have C:=KT j l x _ (G.on q);obtain⟨c,d⟩:=x;obtain⟨S,N,sc⟩:=j;have B:=A q;have b3:=u.cell 3;obtain⟨T,a1⟩:=F.cs2;simp only [ak,au,ay] at b3;generalize decide ((c,d)∈l)=s at *;clear q u F G;go_enter Tryz.func32,Tryz.ntmps32;go_wp2_with fail;refine C.mono ?_;rintro e w1 ⟨rfl,M⟩;go_wp2;go_ret;exact⟨rfl,B.o.trans (M.mono B.o.size)⟩
end Av
namespace Bk
open Go.RowKit Rw YtghlpefopidlaaaGreat.Nm Pr
def SI (B j _:Nat) (r:OA) (q sc at_:Nat) (lo u:aG) (lt F:List iY) (i:Nat) (v:aG) (x:aD):Prop :=
 match i with
 | 0=>∃ g,v=J (ah ⟨g,0,V⟩) 0 0/\B<=g/\dN x g #[] 67
 | 1=>v=aj (ah ⟨j,4,V⟩)
 | 2=>v=J r q sc
 | 3=>v=L O (at_:Int)
 | 4=>v=lo
 | 5=>jJ x B v lt
 | 6=>v=aj (ah ⟨j,4,V⟩)
 | 7=>v=J r q sc
 | 8=>v=L O (at_:Int)
 | 9=>v=L O ((at_:Int)+1)
 | 10=>v=u
 | 11=>jJ x B v (lt++F)
 | 12=>v=aj (ah ⟨j,4,V⟩)
 | _=>True
noncomputable def aeP:Code:=((Tryz.f126.body.bind (eX 5)).getD .skip)
theorem Yg (B q b3:Nat) (G:OA) (F sc at_:Nat) (lo r:aG) (lt u:List iY) (i:Nat) (v:aG) (x H:aD) (h:SI B q b3 G F sc at_ lo r lt u i v x) (j:bg x.heap.size x H):SI B q b3 G F sc at_ lo r lt u i v H:=by
 by_cases S:i<13
 ·rcases (by omega:i=0\/i=1\/i=2\/i=3\/i=4\/i=5\/i=6\/i=7\/i=8\/i=9\/i=10\/i=11\/i=12) with rfl|rfl|rfl|rfl|rfl|rfl|rfl|rfl|rfl|rfl|rfl|rfl|rfl
  ·obtain⟨g,I,M,N⟩:=h;exact⟨g,I,M,N.on j⟩
  ·exact h
  ·exact h
  ·exact h
  ·exact h
  ·exact dK h j
  ·exact h
  ·exact h
  ·exact h
  ·exact h
  ·exact h
  ·exact dK h j
  ·exact h
 ·unfold SI
  split <;> first | omega | trivial
theorem anV (Q:Exit->Act->aD->Prop) (W:aD) (q b3:Nat) (me:Int) (h5 h6 h7 h8:aG) (N:OA) (M sc at_:Nat) (l:List iY) {b8 b9 u2 u3 u6 u7 e7 u9 bA bM u13 bO bP bT bW bX c6 c7 c8 c9 cA cC cD cF cG cH cI cJ cL cM cN cP cQ cR cS cT g9 gA gC gE gI gO gR gS h0 h1 h2 h3 h4 cU cV cW cX cY d0 d1 d2 d3 d4 d5 d6 d7 d8 d9 dA dC dE dS dT dZ e0 e1 e2 e3 e4 e5 e6 e8 e9 eA eB eC eE eI eJ eK eL eM eN eQ eR eS eV eW f0 f1 f2 bB bC bE bI:aG}
  (a8:dN W q #[L O me,h5,h6,h7,J N M sc,h8] 30) (b5:mF W (J N M sc) l) (g2:at_+1<=l.length) (i1:l.length<=900)
  (g1:∀ (x:aD) (f4 v40 f5 f6 f7 f8 f9 v46 fL fN fR S v51:aG),dN x q #[L O me,h5,h6,h7,S,h8] 30->jJ x W.heap.size S (l.take at_++l.drop (at_+1))->(∀ B,B<=q->bg B W x)->(∀ c cs t,c≠q->dN W c cs t->dN x c cs t)->(∀ k,k<W.heap.size->k≠q->x.heap[k]?=W.heap[k]?)->Q .normal ⟨(b8::b9::u2::u3::aj (ah ⟨q,0,V⟩)::aj (ah ⟨b3,0,V⟩)::u6::u7::e7::u9::bA::L O (at_:Int)::bM::u13::bO::bP::bT::bW::bX::c6::c7::c8::c9::cA::cC::cD::cF::cG::cH::cI::cJ::cL::cM::cN::cP::cQ::cR::cS::cT::f4::v40::f5::f6::f7::f8::f9::v46::fL::fN::fR::S::v51::cU::cV::cW::cX::cY::d0::d1::d2::d3::d4::d5::d6::d7::d8::d9::dA::dC::dE::dS::dT::dZ::e0::e1::e2::e3::e4::e5::e6::e8::e9::eA::eB::eC::eE::eI::eJ::eK::eL::eM::eN::eQ::eR::eS::eV::eW::f0::f1::f2::bB::bC::bE::bI::[]).toArray,[]⟩ x) :
  Code.wp U aeP Q ⟨(b8::b9::u2::u3::aj (ah ⟨q,0,V⟩)::aj (ah ⟨b3,0,V⟩)::u6::u7::e7::u9::bA::L O (at_:Int)::bM::u13::bO::bP::bT::bW::bX::c6::c7::c8::c9::cA::cC::cD::cF::cG::cH::cI::cJ::cL::cM::cN::cP::cQ::cR::cS::cT::g9::gA::gC::gE::gI::gO::gR::gS::h0::h1::h2::h3::h4::cU::cV::cW::cX::cY::d0::d1::d2::d3::d4::d5::d6::d7::d8::d9::dA::dC::dE::dS::dT::dZ::e0::e1::e2::e3::e4::e5::e6::e8::e9::eA::eB::eC::eE::eI::eJ::eK::eL::eM::eN::eQ::eR::eS::eV::eW::f0::f1::f2::bB::bC::bE::bI::[]).toArray,[]⟩ W:=by
 have fX:=A g1;have a7:=A a8;have hA:=A (show at_<=900 by omega);obtain⟨lo,fY,h9⟩:=yK nE b5 at_ (by omega);obtain⟨a2,g0,fW⟩:=qU nE b5 (at_+1) g2;have hD:=A (show (l.take at_).length<=1000 by rw [aO]; omega);have hI:=A (show (l.take at_).length<=900 by rw [aO]; omega);have hC:=A (show (l.drop (at_+1)).length<=1000 by rw [bR]; omega);generalize l.take at_=lt at *;generalize l.drop (at_+1)=b1 at *;have hH:=A fY;have hG:=A (show ∀ w,(aT 27 (J N M sc) (ah (L O ((at_:Int)+1))) V V).run U w=.ok a2 w from g0);have hF:=A h9;have hE:=A fW;clear g1 a8 b5 fY g0 h9 fW g2 i1;have g6:=Yg W.heap.size q b3 N M sc at_ lo a2 lt b1;unfold aeP
 conv=>arg 2; whnf
 have nd:∀ j,(j<39\/52<=j)->∀ i,i<13->(fun i=>39+i) i≠j:=by
  intro j a6 i g5 h;simp only at h;omega
 refine Rg.gN 14 13 (fun i=>39+i) (fun i=>if i=0 then 5 else if i=5 then 11 else 13) (SI W.heap.size q b3 N M sc at_ lo a2 lt b1) (by kernel_rfl) (by kernel_rfl) rfl (by decide) (fun i j _ _ h=>by have a8:39+i=39+j:=h; omega) (fun i g5=>by show 39+i<104; omega) ?_ (fun _=>Rg.kJ 1 (by kernel_rfl)) (fun j4 o j2 a8=>by omega) ?_
 ·intro i o g5 H a x D j3 g4 hX F seen K G;clear fX;rcases (by omega:i=0\/i=1\/i=2\/i=3\/i=4\/i=5\/i=6\/i=7\/i=8\/i=9\/i=10\/i=11\/i=12) with rfl|rfl|rfl|rfl|rfl|rfl|rfl|rfl|rfl|rfl|rfl|rfl|rfl
  ·cases H;exact aM rfl rfl (Rg.iX a.eval _ 27 0 #[] rfl rfl (by simp [go_sem])) (G (J (ah ⟨x.heap.size,0,V⟩) 0 0) (x.alloc (aA #[] 67)) ⟨x.heap.size,rfl,F.size,dR x #[] 67⟩ ((Z _ _).alloc F.size _) fun j u _ _ _ _ _ h=>g6 j u _ _ h ((Z _ _).alloc (aK _) _))
  ·cases H;have T:a.eval (aB 4)=aj (ah ⟨q,0,V⟩):=seen.kp 4 _ (nd 4 (by omega)) rfl;exact aM rfl rfl (dw a.eval _ 30 (aB 4) 4 rfl (by rw [T]; simp [go_sem])) (G _ _ rfl (Z _ _) fun _ _ _ _ _ _ _ h=>h)
  ·cases H;have hK:a.eval (aB 40)=aj (ah ⟨q,4,V⟩):=seen.at_ ⟨1,.data⟩ (by simp) rfl (aH (by decide));have y:=(a7.o.on F).cell 4;simp only [ak,au,ay] at y;exact aM rfl rfl (Rg.dW a.eval _ 27 (aB 40) rfl (by rw [hK]; simp [go_sem,y])) (G _ _ rfl (Z _ _) fun _ _ _ _ _ _ _ h=>h)
  ·cases H;have b4:a.eval (aB 11)=L O (at_:Int):=seen.kp 11 _ (nd 11 (by omega)) rfl;exact aM rfl rfl (Rg.gF a.eval _ (aB 11) rfl x) (G _ _ b4 (Z _ _) fun _ _ _ _ _ _ _ h=>h)
  ·cases H;have hL:a.eval (aB 41)=J N M sc:=seen.at_ ⟨2,.data⟩ (by simp) rfl (aH (by decide));have hM:a.eval (aB 42)=L O (at_:Int):=seen.at_ ⟨3,.data⟩ (by simp) rfl (aH (by decide));exact aM rfl rfl (Rg.lW a.eval _ 27 (aB 41) V (ah (aB 42)) V rfl (by show (aT 27 (a.eval (aB 41)) V (ah (a.eval (aB 42))) V).run U x=.ok lo x; rw [hL,hM]; exact hH.o x)) (G _ _ rfl (Z _ _) fun _ _ _ _ _ _ _ h=>h)
  ·cases H;obtain⟨g,b7,hW,a1⟩:=seen.at_ ⟨0,.data⟩ (by simp) rfl (aV rfl);have b7:a.eval (aB 39)=J (ah ⟨g,0,V⟩) 0 0:=b7;have hN:a.eval (aB 43)=lo:=seen.at_ ⟨4,.data⟩ (by simp) rfl (aH (by decide));obtain⟨f3,fS,r,b6,I⟩:=iI nE W.heap.size a1 hW (hF.o.on F) hD.o 27;exact aM rfl rfl (Rg.gV a.eval _ (aB 39) (aB 43) 27 rfl b7 hN r) (G f3 fS b6 (I.mono F.size) fun j u _ _ _ _ _ h=>g6 j u _ _ h I)
  ·cases H;have T:a.eval (aB 4)=aj (ah ⟨q,0,V⟩):=seen.kp 4 _ (nd 4 (by omega)) rfl;exact aM rfl rfl (dw a.eval _ 30 (aB 4) 4 rfl (by rw [T]; simp [go_sem])) (G _ _ rfl (Z _ _) fun _ _ _ _ _ _ _ h=>h)
  ·cases H;have hO:a.eval (aB 45)=aj (ah ⟨q,4,V⟩):=seen.at_ ⟨6,.data⟩ (by simp) rfl (aH (by decide));have y:=(a7.o.on F).cell 4;simp only [ak,au,ay] at y;exact aM rfl rfl (Rg.dW a.eval _ 27 (aB 45) rfl (by rw [hO]; simp [go_sem,y])) (G _ _ rfl (Z _ _) fun _ _ _ _ _ _ _ h=>h)
  ·cases H;have b4:a.eval (aB 11)=L O (at_:Int):=seen.kp 11 _ (nd 11 (by omega)) rfl;exact aM rfl rfl (Rg.gF a.eval _ (aB 11) rfl x) (G _ _ b4 (Z _ _) fun _ _ _ _ _ _ _ h=>h)
  ·cases H;have hQ:a.eval (aB 47)=L O (at_:Int):=seen.at_ ⟨8,.data⟩ (by simp) rfl (aH (by decide));exact aM rfl rfl (Rg.XT a.eval _ .add 3 (aB 47) (.const (L O 1)) 3 rfl (by rw [hQ]; exact add_one _ _ _ _ at_ hA.o)) (G _ _ rfl (Z _ _) fun _ _ _ _ _ _ _ h=>h)
  ·cases H;have hP:a.eval (aB 46)=J N M sc:=seen.at_ ⟨7,.data⟩ (by simp) rfl (aH (by decide));have hR:a.eval (aB 48)=L O ((at_:Int)+1):=seen.at_ ⟨9,.data⟩ (by simp) rfl (aH (by decide));exact aM rfl rfl (Rg.lW a.eval _ 27 (aB 46) (ah (aB 48)) V V rfl (by show (aT 27 (a.eval (aB 46)) (ah (a.eval (aB 48))) V V).run U x=.ok a2 x; rw [hP,hR]; exact hG.o x)) (G _ _ rfl (Z _ _) fun _ _ _ _ _ _ _ h=>h)
  ·cases H;have g7:jJ x W.heap.size (a.eval (aB 44)) (lt):=seen.at_ ⟨5,.data⟩ (by simp) rfl (aV rfl);have hS:a.eval (aB 49)=a2:=seen.at_ ⟨10,.data⟩ (by simp) rfl (aH (by decide));have i9:mF x (a.eval (aB 49)) b1:=by rw [hS]; exact hE.o.on F
   obtain⟨f3,fS,r,b6,I⟩:=iC nE W.heap.size g7 i9 (by have:=hI.o; omega) hC.o F.size 27;exact aM rfl rfl (Rg.gV a.eval _ (aB 44) (aB 49) 27 rfl rfl rfl r) (G f3 fS b6 ((Z _ x).grown I F.size fun j a6=>(g7.lt j a6).1) fun j u a6 j1 i7 i8 i6 h=>by
    rcases (by omega:j=0\/j=1\/j=2\/j=3\/j=4\/j=5\/j=6\/j=7\/j=8\/j=9\/j=10\/j=11\/j=12) with rfl|rfl|rfl|rfl|rfl|rfl|rfl|rfl|rfl|rfl|rfl|rfl|rfl
    ·exact absurd rfl (fun _:(0:Nat)=0=>i7 (hX ⟨5,.data⟩ (by simp) rfl))
    ·exact h
    ·exact h
    ·exact h
    ·exact h
    ·exact absurd rfl (fun _:(0:Nat)=0=>i8 rfl)
    ·exact h
    ·exact h
    ·exact h
    ·exact h
    ·exact h
    ·exact absurd rfl (fun _:(0:Nat)=0=>i6 rfl)
    ·exact h)
  ·cases H;have T:a.eval (aB 4)=aj (ah ⟨q,0,V⟩):=seen.kp 4 _ (nd 4 (by omega)) rfl;exact aM rfl rfl (dw a.eval _ 30 (aB 4) 4 rfl (by rw [T]; simp [go_sem])) (G _ _ rfl (Z _ _) fun _ _ _ _ _ _ _ h=>h)
 ·intro a w' df sz kp ⟨b2,aE⟩ F;have I:a.tmps[50]?=ah (b2 11):=(aE 11 (by omega)).1;have hV:a.tmps[51]?=ah (aj (ah ⟨q,4,V⟩)):=by
   have h:b2 12=aj (ah ⟨q,4,V⟩):=(aE 12 (by omega)).2 (by decide);rw [<- h];exact (aE 12 (by omega)).1
  have g8:jJ w' W.heap.size (b2 11) (lt++b1):=(aE 11 (by omega)).2 (by decide);generalize b2 11=fV at *;obtain⟨iS,j0,hT⟩:=(aU g8).len;have a1:=a7.o.on F;have g3:=a7.o.lt;have c5:=a1.cell 4;have hU:=a1.fr 4;simp only [ak,au,ay] at c5;have hY:=eD (k:=4) a1 fV;show Rg.fU _ _ _ 1 13 a w';simp only [Rg.fU];refine Rg.gq 27 (aB 51) (aB 50) rfl rfl rfl rfl (Rg.dU hV) (Rg.dU I) (w':=w'.setCell ⟨q,4,V⟩ fV) (by rw [hT]; simp [go_sem,c5,hU]) ?_;have iG:∀ j,(j<39\/52<=j)->a.tmps[j]?=(b8::b9::u2::u3::aj (ah ⟨q,0,V⟩)::aj (ah ⟨b3,0,V⟩)::u6::u7::e7::u9::bA::L O (at_:Int)::bM::u13::bO::bP::bT::bW::bX::c6::c7::c8::c9::cA::cC::cD::cF::cG::cH::cI::cJ::cL::cM::cN::cP::cQ::cR::cS::cT::g9::gA::gC::gE::gI::gO::gR::gS::h0::h1::h2::h3::h4::cU::cV::cW::cX::cY::d0::d1::d2::d3::d4::d5::d6::d7::d8::d9::dA::dC::dE::dS::dT::dZ::e0::e1::e2::e3::e4::e5::e6::e8::e9::eA::eB::eC::eE::eI::eJ::eK::eL::eM::eN::eQ::eR::eS::eV::eW::f0::f1::f2::bB::bC::bE::bI::[])[j]?:=fun j a6=>(kp j (nd j a6)).trans ak;obtain⟨i5,i2,rfl⟩:=Rg.gG 39 13 df sz (by simp) iG
  match i5,i2 with
  | [f4,v40,f5,f6,f7,f8,f9,v46,fL,fN,fR,S,v51],_ =>
   have hJ:ah S=ah fV:=I;obtain rfl:=aP hJ;refine fX.o _ f4 v40 f5 f6 f7 f8 f9 v46 fL fN fR S v51 ?_ ?_ ?_ ?_ ?_
   ·simpa using hY
   ·exact eF g8 q 4 _ g3
   ·exact fun B hB=>(F.mono (dn (bH hB g3))).setCell hB _
   ·intro c cs t g4 hZ;exact (aF _ _ _ _ g4).trans (hZ.on F)
   ·intro k i0 i4;exact (aF _ _ _ _ i4).trans (F.block k i0)
end Bk
namespace Bk
open Go.RowKit Go.Sort Rw YtghlpefopidlaaaGreat.Nm Pr
abbrev nu:=Int×Int×Int×Int×Int×Int×Sl×Sl
abbrev jW (x:nu):List aG:=[L O x.1,L O x.2.1,L O x.2.2.1,L O x.2.2.2.1,L O x.2.2.2.2.1,L O x.2.2.2.2.2.1,eu x.2.2.2.2.2.2.1,eu x.2.2.2.2.2.2.2]
abbrev vP (x:nu):aG:=cZ #[L O x.1,L O x.2.1,L O x.2.2.1,L O x.2.2.2.1,L O x.2.2.2.2.1,L O x.2.2.2.2.2.1,eu x.2.2.2.2.2.2.1,eu x.2.2.2.2.2.2.2]
def EU:Ek nu:=⟨46,37,8,96,cZ #[L O 0,L O 0,L O 0,L O 0,L O 0,L O 0,J V 0 0,J V 0 0],vP,jW⟩
theorem akq:(Tryz.prog.info? 46).map (fun i=>(i.zero,i.size,i.bytes))=ah (ah (cZ #[L O 0,L O 0,L O 0,L O 0,L O 0,L O 0,J V 0 0,J V 0 0]),8,96):=by kernel_rfl
theorem akr (w:aD) (p:dH) (x:nu) (h:∀ M N,(jW x)[M]?=ah N->w.cell? (p.add M)=ah N):(Instr.loadAt 46 (aj (ah p))).run U w=.ok (vP x) w:=by
 have j:=h 0 _ rfl;have q:=h 1 _ rfl;have r:=h 2 _ rfl;have u:=h 3 _ rfl;have F:=h 4 _ rfl;have G:=h 5 _ rfl;have H:=h 6 _ rfl;have I:=h 7 _ rfl;simp [bf] at j q r u F G H I;simp [go_sem,j,q,r,u,F,G,H,I]
theorem Ic:EU.Ok where
 hu:=Tryz.underlying37
 info:=by
  have h:=akq;cases j:Tryz.prog.info? 46 with
  | none=>rw [j] at h; cases h
  | some i =>
   rw [j] at h;simp only [Option.map_some,Option.some.injEq,Prod.mk.injEq] at h;exact⟨i,j,h.1,h.2.1,h.2.2⟩
 zs:=rfl
 len:=fun _=>rfl
 one:=fun x q hu=>by
  simp only [EU,jW,List.mem_cons,List.not_mem_nil,or_false] at hu;rcases hu with rfl|rfl|rfl|rfl|rfl|rfl|rfl|rfl <;> rfl
 pos:=by decide
 few:=by decide
 load:=fun w p x h=>akr w p x h
abbrev Nf (W:aD) (v:aG) (l:List nu):Prop:=Row EU W v l
abbrev kF (W:aD) (B:Nat) (v:aG) (l:List nu):Prop:=Own EU W B v l
theorem elU {W:aD} {v:aG} {l:List nu} {r:OA} {n c k:Nat} {x:nu} (h:Nf W v l) (H:v=J r n c) (G:l.length=n) (F:l[k]?=ah x) :
  ∃ p:dH,(∀ w,(Instr.indexAt 37 (J r n c) (L O k)).run U w=.ok (aj (ah p)) w)/\∀ w,Below W.heap.size W w->w.cell? p=ah (L O x.1)/\w.cell? ⟨p.block,p.off+1,V⟩=ah (L O x.2.1)/\w.cell? ⟨p.block,p.off+2,V⟩=ah (L O x.2.2.1)/\w.cell? ⟨p.block,p.off+3,V⟩=ah (L O x.2.2.2.1)/\w.cell? ⟨p.block,p.off+4,V⟩=ah (L O x.2.2.2.2.1)/\w.cell? ⟨p.block,p.off+5,V⟩=ah (L O x.2.2.2.2.2.1)/\w.cell? ⟨p.block,p.off+6,V⟩=ah (eu x.2.2.2.2.2.2.1)/\w.cell? ⟨p.block,p.off+7,V⟩=ah (eu x.2.2.2.2.2.2.2):=by
 obtain⟨p,u,_,j⟩:=qR Ic h H G F;exact⟨p,u,fun w q=>⟨by simpa [bf] using j w q 0 _ rfl,by simpa [bf] using j w q 1 _ rfl,by simpa [bf] using j w q 2 _ rfl,by simpa [bf] using j w q 3 _ rfl,by simpa [bf] using j w q 4 _ rfl,by simpa [bf] using j w q 5 _ rfl,by simpa [bf] using j w q 6 _ rfl,by simpa [bf] using j w q 7 _ rfl⟩⟩
def nU (near:List Int) (but:Int) (f:Int->nu):List nu:=(near.filter fun n=>n != but).map f
theorem EM (me but k G ts u F:Int) (b8:Sl) (av bE aE bA:aG) (bB b7:Sl) (l:List Int) (w:aD) (b5:sW w (eu b8) l) (cN:l.length<=900) :
  bF U 119 #[cZ #[L O me,eu b8,av,bE,aE,bA],L O but,cZ #[L O k,L O G,L O ts,L O u,L O F,eu bB,eu b7]] w fun e w'=>(∃ v:Sl,e=aC (eu v)/\kF w' w.heap.size (eu v) (nU l but fun n=>(n,k,G,ts,u,F,bB,b7)))/\Below w.heap.size w w':=by
 obtain⟨no,M,a6⟩:=b8;obtain⟨po,S,N⟩:=bB;obtain⟨H,ln,I⟩:=b7;obtain⟨c9,cA,b4⟩:=b5.len;obtain⟨rfl,bW,rfl⟩:no=c9/\M=l.length/\a6=cA:=by
  have h:J no M a6=J c9 l.length cA:=b4;simpa using h
 clear b4;obtain⟨b1,a2,b2⟩:=gX w #[L O me,J no M a6,av,bE,aE,bA] #[L O k,L O G,L O ts,L O u,L O F,J po S N,J H ln I] 30 43;have bI:=A b1;have cL:=A b2;have cF:=A (b5.on b1);have a8:=A bW;have c1:=a2.cell 1;simp only [ak,au,ay] at c1;have cU:M<=900:=by omega
 have cJ:=A b2.lt;clear b1 a2 b2 b5 cN bW;go_enter Tryz.func119,Tryz.ntmps119;go_upto_region 1 with fail;generalize (w.alloc (aA #[L O me,J no M a6,av,bE,aE,bA] 30)).alloc (aA #[L O k,L O G,L O ts,L O u,L O F,J po S N,J H ln I] 43)=W at *;go_wp2
 go_loopw [7,13] (fun v i wr=>∃ q:Nat,q<=M/\i=L O q/\Below W.heap.size W wr/\kF wr W.heap.size v (nU (l.take q) but fun n=>(n,k,G,ts,u,F,(po,S,N),(H,ln,I)))) (fun _ i _=>M-(intOf i).toNat)
 case atStart=>exact⟨0,bG _,rfl,Z _ _,iR _ _⟩
 case round =>
  obtain⟨q,b4,rfl,bP,bX⟩:=hrel;have T:=A bP;have a1:=A bX;clear bP bX;by_cases cP:q<M
  ·obtain⟨y,b6⟩:∃ y,l[q]?=ah y:=⟨_,aI (by rw [<- a8.o]; exact cP)⟩;obtain⟨p,c6,_,c8⟩:=qR Nm.UY cF.o rfl a8.o.symm b6;have cV:wr.cell? p=ah (L O y):=by simpa [bf] using c8 wr T.o 0 _ rfl
   have c6:∀ w,(Instr.indexAt 24 (J no M a6) (L O q)).run U w=.ok (aj (ah p)) w:=c6;have a7:=A (show nU (l.take (q+1)) but (fun n=>((n,k,G,ts,u,F,(po,S,N),(H,ln,I)):nu))=nU (l.take q) but (fun n=>(n,k,G,ts,u,F,(po,S,N),(H,ln,I)))++(if (y != but)=aZ then [(y,k,G,ts,u,F,(po,S,N),(H,ln,I))] else []) by
    unfold nU;rw [EH l q y _ b6,List.map_append];cases y != but <;> rfl)
   have cT:IntKind.i64.wrap ((q:Int)+1)=(q:Int)+1:=aW _ (by omega);obtain⟨r,cQ⟩:∃ r,(y != but)=r:=⟨_,rfl⟩;rw [cQ] at a7;clear c8 b6;cases r
   ·go_wp2
    go_roundw
    case rel=>exact⟨q+1,by omega,by go_num,T.o,by
     rw [a7.o];simpa using a1.o⟩
    case measure=>simp [intOf]; omega
   ·have cC:=cL.o.on T.o;obtain⟨cW,cX,cY,d0,d1,d2,d3⟩:=cC.oz;have bM:=A (fP wr (aA #[L O y,L O k,L O G,L O ts,L O u,L O F,J po S N,J H ln I] 46));have bT:=jL Ic wr [(y,k,G,ts,u,F,(po,S,N),(H,ln,I))] 1 rfl (by simp) #[L O y,L O k,L O G,L O ts,L O u,L O F,J po S N,J H ln I] rfl;have b9:=dK a1.o bM.o;have hB:W.heap.size<=(wr.alloc (aA #[L O y,L O k,L O G,L O ts,L O u,L O F,J po S N,J H ln I] 46)).heap.size:=by have a2:=T.o.size; simp; omega
    obtain⟨cS,w',bC,c7,bO⟩:=iC Ic W.heap.size b9 (aU bT) (by
     unfold nU;rw [dB];have a2:=cB (fun n=>n != but) (l.take q);rw [aO] at a2;omega) (by simp) hB 37
    have bC:(aQ #[37,37] 37 #[u7,J (ah ⟨wr.heap.size,0,V⟩) 1 1]).run U (wr.alloc (aA #[L O y,L O k,L O G,L O ts,L O u,L O F,J po S N,J H ln I] 46))=.ok cS w':=by
     simpa [EU] using bC
    have cD:=A ((T.o.trans (bM.o.mono T.o.size)).grown bO hB fun j cM=>(b9.lt j cM).1);have cI:=A c7;clear bT b9 hB c7 bO a1 cC;go_wp2_with (first | (at_builtin; refine aN rfl _ _ 37 rfl rfl rfl bC ?_) | fail)
    go_roundw
    case rel=>exact⟨q+1,by omega,by go_num,cD.o,by
     rw [a7.o];simpa using cI.o⟩
    case measure=>simp [intOf]; omega
  ·obtain rfl:M=q:=by omega
   have e:l.take M=l:=bY (by have:=a8.o; omega);rw [e] at a1;obtain⟨cH,cG,cR⟩:=(aU a1.o).len;subst cR;clear e;go_wp2;go_ret;exact⟨⟨(cH,_,cG),rfl,dO a1.o (by have:=cJ.o; omega)⟩,bI.o.trans (T.o.mono bI.o.size)⟩
abbrev I8 (W:aD) (b:Nat) (a0 a1 a2 a3 a4 a5 a6:aG):aD:=((((((W.setCell ⟨b,0,V⟩ a0).setCell ⟨b,1,V⟩ a1).setCell ⟨b,2,V⟩ a2).setCell ⟨b,3,V⟩ a3).setCell ⟨b,4,V⟩ a4).setCell ⟨b,5,V⟩ a5).setCell ⟨b,6,V⟩ a6
theorem Az {W:aD} {b:Nat} {t:dG} {z0 F G z3 z4 z5 H:aG} (h:dN W b #[z0,F,G,z3,z4,z5,H] t) (a0 j q a3 a4 a5 r:aG):dN (I8 W b a0 j q a3 a4 a5 r) b #[a0,j,q,a3,a4,a5,r] t:=by
 have u:=eD (k:=6) (eD (k:=5) (eD (k:=4) (eD (k:=3) (eD (k:=2) (eD (k:=1) (eD (k:=0) h a0) j) q) a3) a4) a5) r;simp only [aX,bJ,bK] at u;exact u
theorem Ec (z:iY) (w:aD):bF U 58 #[qd z] w fun e w'=>e=aC (cZ #[L O 3,L O z.1,L O z.2.1,L O z.2.2.1,L O z.2.2.2.1,eu z.2.2.2.2.1,J V 0 0])/\Below w.heap.size w w':=by
 obtain⟨c,d,g,h,⟨po,q,j⟩,fr,up⟩:=z;obtain⟨u,F,r⟩:=gX w #[L O c,L O d,L O g,L O h,J po q j,L O fr,aL up] #[L O 0,L O 0,L O 0,L O 0,L O 0,J V 0 0,J V 0 0] 67 43;obtain⟨aE,b1,b2,b4,b5,b6,b7⟩:=F.oz;obtain⟨S,T,a1,a2,a6,r5,a7⟩:=r.oz;obtain⟨t0,t1,t2,t3,t4,t5,a8⟩:=r.fs7;have b8:=r.lt;have H:=A (Az r (L O 3) (L O c) (L O d) (L O g) (L O h) (J po q j) (J V 0 0));have G:=A ((((((((u.setCell (p:=⟨w.heap.size+1,0,V⟩) (by show w.heap.size<=w.heap.size+1; omega) (L O 3)).setCell (p:=⟨w.heap.size+1,1,V⟩) (by show w.heap.size<=w.heap.size+1; omega) (L O c)).setCell (p:=⟨w.heap.size+1,2,V⟩) (by show w.heap.size<=w.heap.size+1; omega) (L O d)).setCell (p:=⟨w.heap.size+1,3,V⟩) (by show w.heap.size<=w.heap.size+1; omega) (L O g)).setCell (p:=⟨w.heap.size+1,4,V⟩) (by show w.heap.size<=w.heap.size+1; omega) (L O h)).setCell (p:=⟨w.heap.size+1,5,V⟩) (by show w.heap.size<=w.heap.size+1; omega) (J po q j)).setCell (p:=⟨w.heap.size+1,6,V⟩) (by show w.heap.size<=w.heap.size+1; omega) (J V 0 0)));clear u F r;show bF U 58 #[cZ #[L O c,L O d,L O g,L O h,J po q j,L O fr,aL up]] w _;go_enter Tryz.func58,Tryz.ntmps58;go_upto_region 1 with fail;generalize (w.alloc (aA #[L O c,L O d,L O g,L O h,J po q j,L O fr,aL up] 67)).alloc (aA #[L O 0,L O 0,L O 0,L O 0,L O 0,J V 0 0,J V 0 0] 43)=W at *;go_wp2_with fail;obtain⟨v0,I,M,v3,v4,v5,N⟩:=H.o.oz;refine bD (v:=cZ #[L O 3,L O c,L O d,L O g,L O h,J po q j,J V 0 0]) (by simp [results,Tryz.results58,go_sem,v0,I,M,v3,v4,v5,N]) rfl ?_;exact⟨rfl,G.o⟩
noncomputable def air:Code:=((Tryz.f17.body.bind (kW 0)).getD .skip)
theorem adl (Q:Exit->Act->aD->Prop) (W:aD) (bI b3:Nat) (me c d:Int) (b7 b8 hC hD:aG) (c7:OA) (n sc:Nat) (l:List mP) {cT cU u2 e1 u6 u7 u9 cV u11 cW u13 gA gC gE gI gO gR gS h0 h1 h2 h3 h4 h5 h6 h7 h8 h9 cX cY d0 d1 d2 d3 d4 d5 d6 d7 d8 d9 dA dC dE dS dT dZ e0 e2 e3 e4 e5 e6 e7 e8 e9 eA eB eC eE eI eJ eK eL eM eN eQ eR eS eV eW f0 f1 f2 f3 f4 f5 f6 f7 f8 f9 fL fN fR fS fV fW fX fY g0 g1 g2 g3 g4 g5 g6 g7:aG}
  (cG:dN W bI #[L O me,b7,b8,hC,hD,J c7 n sc] 30) (I:dN W b3 #[L O c,L O d] 23) (cN:Ij W (J c7 n sc) l) (cM:n=l.length) (hG:n<=1000000)
  (cH:∀ (wr:aD) (M N S T a1 a2 a6 a7 v22 a8 aE b1 b2 b4 v28 b5 b6:aG),Below W.heap.size W wr->Q .normal ⟨(cT::cU::u2::aj (ah ⟨bI,0,V⟩)::aj (ah ⟨b3,0,V⟩)::e1::u6::u7::L O (gu (l.map fun y=>(y.1,y.2.1)) (c,d):Nat)::u9::cV::u11::cW::u13::M::N::S::T::a1::a2::a6::a7::v22::a8::aE::b1::b2::b4::v28::b5::b6::cX::cY::d0::d1::d2::d3::d4::d5::d6::d7::d8::d9::dA::dC::dE::dS::dT::dZ::e0::e2::e3::e4::e5::e6::e7::e8::e9::eA::eB::eC::eE::eI::eJ::eK::eL::eM::eN::eQ::eR::eS::eV::eW::f0::f1::f2::f3::f4::f5::f6::f7::f8::f9::fL::fN::fR::fS::fV::fW::fX::fY::g0::g1::g2::g3::g4::g5::g6::g7::[]).toArray,[]⟩ wr) :
  Code.wp U air Q ⟨(cT::cU::u2::aj (ah ⟨bI,0,V⟩)::aj (ah ⟨b3,0,V⟩)::e1::u6::u7::L O 0::u9::cV::u11::cW::u13::gA::gC::gE::gI::gO::gR::gS::h0::h1::h2::h3::h4::h5::h6::h7::h8::h9::cX::cY::d0::d1::d2::d3::d4::d5::d6::d7::d8::d9::dA::dC::dE::dS::dT::dZ::e0::e2::e3::e4::e5::e6::e7::e8::e9::eA::eB::eC::eE::eI::eJ::eK::eL::eM::eN::eQ::eR::eS::eV::eW::f0::f1::f2::f3::f4::f5::f6::f7::f8::f9::fL::fN::fR::fS::fV::fW::fX::fY::g0::g1::g2::g3::g4::g5::g6::g7::[]).toArray,[]⟩ W:=by
 have bB:=A cH;have g8:=A cG;have c8:=A I;have g9:=A cN;have bO:=A cM;clear cH cG I cN cM
 conv=>arg 2; whnf
 go_wp2
 go_loopw [8] (fun i wr=>∃ k:Nat,k<=n/\i=L O k/\Below W.heap.size W wr/\∀ (j:Nat) (y:Id),j<k->(l.map fun y=>(y.1,y.2.1))[j]?=ah y->eT y (c,d)=aZ) (fun i _=>n-(intOf i).toNat)
 case atStart=>exact⟨0,bG _,rfl,Z _ _,fun j y h=>by omega⟩
 case round =>
  obtain⟨k,hF,rfl,cJ,cI⟩:=hrel;have q:=A cJ;have bM:=A cI;clear cJ cI;have bW:=aJ (show wr.cell? ⟨bI,5,V⟩=ah (J c7 n sc) from (g8.o.on q.o).cell 5);have bX:=aJ (show wr.cell? ⟨b3,0,V⟩=ah (L O c) from (c8.o.on q.o).cell 0);have c6:=aJ (show wr.cell? ⟨b3,1,V⟩=ah (L O d) from (c8.o.on q.o).cell 1);have hH:IntKind.i64.wrap ((k:Int)+1)=(k:Int)+1:=aW _ (by omega);by_cases cL:k<n
  ·obtain⟨y,bT⟩:∃ y,l[k]?=ah y:=⟨_,aI (by rw [<- bO.o]; exact cL)⟩;obtain⟨p,cP,cS⟩:=elW g9.o rfl bO.o.symm bT;have bA:=cS wr q.o;obtain⟨b7,b8,⟨hK,hJ,hI⟩⟩:=y;simp only at bA;have cQ:=aJ bA.1;have cR:=aJ bA.2.1;have b9:decide ((k:Int)<(n:Int))=aZ:=decide_eq_true (by omega);have bC:decide (k<n)=aZ:=decide_eq_true cL;obtain⟨r,bP⟩:∃ r,eT (b7,b8) (c,d)=r:=⟨_,rfl⟩;have bE:=A (fun cC os=>bQ (d:=cC) (os:=os) ((vN (b7,b8) (c,d) (grow (bL wr cC) os)).mono fun _ _ h=>⟨by rw [h.1,bP],h.2⟩));have cA:=A (show (l.map fun y=>(y.1,y.2.1))[k]?=ah (b7,b8) by rw [dh,bT]; rfl);have c9:=A bP;clear cS bA bT bP;cases r
   ·go_wp2_with fail;refine ko ?_
    repeat (go_big_quiet_step (first | (with_reducible exact bE.o _ _)))
    refine kr fun u F=>?_;have H:=aR wr u F;have G:=A (fun M N S T a1 a2 a6 a7 v22 a8 aE b1 b2 b4 v28 b5 b6=>bB.o (grow (bL wr u) F) M N S T a1 a2 a6 a7 v22 a8 aE b1 b2 b4 v28 b5 b6 (q.o.trans (H.mono q.o.size)));rw [rD (l.map fun y=>(y.1,y.2.1)) (c,d) k bM.o (aH ⟨_,cA.o,c9.o⟩)] at G;clear cP bB bW bX c6 bE b9 bC cQ cR;go_wp2;exact G.o _ _ _ _ _ _ _ _ _ _ _ _ _ _ _ _ _
   ·go_wp2_with fail;refine ko ?_
    repeat (go_big_quiet_step (first | (with_reducible exact bE.o _ _)))
    refine kr fun u F=>?_;have H:=A (aR wr u F);clear cP bW bX c6 bE b9 bC cQ cR;go_wp2
    go_roundw
    case rel=>exact⟨k+1,by omega,by go_num,q.o.trans (H.o.mono q.o.size),fun j hA hE cF=>by
     rcases bV j k with I|I
     ·exact bM.o j hA I cF
     ·obtain rfl:j=k:=by omega
      have cD:=cA.o;rw [cF] at cD;rw [aP cD];exact c9.o⟩
    case measure=>simp [intOf]; omega
  ·obtain rfl:k=n:=by omega
   have b9:decide ((k:Int)<(k:Int))=aS:=by simp
   have bC:decide (k<k)=aS:=by simp
   go_wp2_with fail;refine ko ?_
   repeat (go_big_quiet_step (fail))
   refine kr fun u F=>?_;have H:=aR wr u F;have G:=A (fun M N S T a1 a2 a6 a7 v22 a8 aE b1 b2 b4 v28 b5 b6=>bB.o (grow (bL wr u) F) M N S T a1 a2 a6 a7 v22 a8 aE b1 b2 b4 v28 b5 b6 (q.o.trans (H.mono q.o.size)));rw [rD (l.map fun y=>(y.1,y.2.1)) (c,d) k bM.o (aV (by simpa using bO.o))] at G;clear bB bW bX c6 b9 bC;go_wp2;exact G.o _ _ _ _ _ _ _ _ _ _ _ _ _ _ _ _ _
end Bk
end Go.Proofs.YtghlpefopidlaaaGreat
