/-
  A subscription made,. Conditions as told.
-/
import Derived.Test.YtghlpefopidlaaaGreatDQ019
import Derived.Test.YtghlpefopidlaaaGreatDQ020
import Derived.Test.YtghlpefopidlaaaGreatDQ021
set_option maxRecDepth 100000
set_option maxHeartbeats 64000000
open _root_.Bool renaming false->aF,true->aX
open _root_.Go renaming World->aC,Value->aK,bodyPost_ret->aN,Calls->bV,Exit->bY
open Go.IntKind renaming i64->O
open Go.Obj renaming cells->aJ
open Go.Operand renaming tmp->Z
open Go.Proofs.Tryz renaming prog->aI,func46->bD,results45->bG,results48->bH,func45->bN,func48->bQ
open Go.Proofs.YtghlpefopidlaaaGreat.Av renaming eP->ah
open Go.Proofs.YtghlpefopidlaaaGreat.Bk.Ow renaming id->aM
open Go.Proofs.YtghlpefopidlaaaGreat.Rg renaming dI->aB,dW->aQ,dY->bg,gF->bJ,gK->bK,Sto->bR,jd->bS,gq->bU,kG->bZ,pO->cu,iX->cB,gG->cK
open Go.RowKit.Below renaming refl->ak
open Go.Value renaming slice->J,int->L,pointer->Y,agg->aD,bool->aR
open _root_.List renaming getElem?_toArray->aj,getElem?_cons_zero->ay,getElem?_cons_succ->aA,getElem?_eq_some_iff->aG,map_toArray->aL,mem_iff_getElem?->aO,map_cons->aP,filter_eq_self->aT,map_nil->aU,length_take->aW,mem_of_getElem?->aY,getElem?_map->bf,length_map->bF,mem_map->bL
open _root_.Nat renaming le_trans->aH,le_refl->aZ
open _root_.Option renaming some->U,none->X
open Option.some renaming inj->aS
open _root_.Or renaming inr->au,inl->aV
open Go.Proofs.YtghlpefopidlaaaGreat renaming hq->C
namespace Go.Proofs.YtghlpefopidlaaaGreat
namespace Rt
open Go.RowKit Go.Sort Rw YtghlpefopidlaaaGreat.Nm Pr Bk Av Rl Sb
def apj (b:Br) (p:List C5) (a:Ad):Bool:=!(a.par == -1) && !fH b.ent a.id p
def apk (b:Br) (p:List C5) (k:Nat):List Ad:=(b.dQ.take k).filter fun a=>jG p a.p
def upK (b:Br) (p:List C5) (k:Nat):List Ad:=(apk b p k).filter fun a=>apj b p a
theorem aep {b:Br} (h:iU b) {i k:Nat} {a c:Ad} (q:b.dQ[i]?=U a) (r:b.dQ[k]?=U c) (e:a.id=c.id):i=k:=by
 rcases Nat.lt_trichotomy i k with j|j|j
 ·have:=kM h.dQ j q r;rw [e,jN] at this; cases this
 ·exact j
 ·have:=kM h.dQ j r q;rw [e,jN] at this; cases this
structure UK (b c:Br) (x:fB) (p:List C5) (k:Nat) (s:Br×List Ou):Prop where
 same:UnI c s.1 b.own
 rise:kD s.1.ent
 ent:s.1.ent=c.ent.filter fun e=>!(decide (e.sub=x) && decide (e.tree∈(b.dQ.take k).map Ad.id))
 o:s.2=(upK b p k).map fun a=>⟨a.par,4,a.id,x,[]⟩
theorem Xg {b:Br} (u:iU b) {k:Nat} {a:Ad} (q:b.dQ[k]?=U a):b.dQ[(fQ (b.dQ.map Ad.id) a.id).toNat]?=U a:=by
 rw [zQ,ER (b.dQ.map Ad.id) k a.id (by rw [bf,q]; rfl) fun F z H j G=>by
  rw [bf] at j;cases r:b.dQ[F]? with
  | none=>rw [r] at j; cases j
  | some c =>
   rw [r] at j;have:=aep u r q ((aS j).trans G);omega,Int.toNat_natCast]
 exact q
def iP (b:Br) (par:Int) (e:En):Br×List Ou:=((iL b e).1,if (iL b e).2=aX then [rF par e] else [])
def jo (b:Br) (par:Int) (t x:fB) (f:Int):Br×List Ou:=((takeB b t x f).1,if (takeB b t x f).2.2=aX then (takeB b t x f).2.1.map (rF par)++[⟨par,4,t,x,[]⟩] else [])
def jH (b:Br) (t:fB):Int:=match gY b.dQ t with | some a=>a.par | none=>0
theorem abv {b:Br} (q:iU b) {k:Nat} {a:Ad} (j:b.dQ[k]?=U a):jH b a.id=a.par:=by
 unfold jH;rw [oP q.dQ (aY j)]
theorem J7 {b:Br} (u:iU b) {t:fB} {a:Ad} (h:gY b.dQ t=U a):b.dQ[(fQ (b.dQ.map Ad.id) t).toNat]?=U a:=by
 obtain⟨j,q⟩:=oO h;obtain⟨k,r⟩:=aO.1 j;subst q;exact Xg u r
theorem Pw {b:Br} (q:iU b) (f:Int) (t x:fB) (p:List C5):jS b f t x p=iP b (jH b t) ⟨t,x,p,f,aF⟩:=by
 unfold jS iP;cases hu:(iL b ⟨t,x,p,f,aF⟩).2 with
 | false=>rfl
 | true =>
  have r:∃ a,gY b.dQ t=U a:=by
   rw [<- xO q.ent] at hu;unfold OX at hu;cases u:gY b.dQ t with
   | none=>rw [show (En.tree ⟨t,x,p,f,aF⟩)=t from rfl,u] at hu; cases hu
   | some a=>exact⟨a,rfl⟩
  obtain⟨a,j⟩:=r;unfold jH;rw [J7 q j,j]
  rfl
theorem GU {b:Br} (q:iU b) (t x:fB) (f:Int):jv b t x f=jo b (jH b t) t x f:=by
 unfold jv jo;cases hu:(takeB b t x f).2.2 with
 | false=>rfl
 | true =>
  obtain⟨e,u,F⟩:=FX hu;have j:=q.Q6 e u;unfold qC at j;rw [F] at j;unfold jH;cases r:gY b.dQ t with
  | none=>rw [r] at j; cases j
  | some a =>
   rw [J7 q r]
   rfl
theorem RJ (x:fB) (p:List C5) (s:Br×List Ou) (a:Ad):iK x p s a=if jG p a.p=aF then s else ((iP s.1 a.par (lC x p a)).1,s.2++(iP s.1 a.par (lC x p a)).2):=by
 unfold iK iq iP
 split
 ·rfl
 ·dsimp only
  split
  ·rfl
  ·rw [List.append_nil]
theorem Px {s:Br×List Ou} (j:iU s.1) {k:Nat} {a:Ad} (q:s.1.dQ[k]?=U a) (x:fB):xL x s a.id=((jo s.1 a.par a.id x (-1)).1,s.2++(jo s.1 a.par a.id x (-1)).2):=by
 unfold xL;rw [GU j,abv j q]
theorem Md {l:List Ow} (I:kL aM l) {x:fB} (h:gZ aM l x=aX):l.filter (fun o=>decide (o.id≠x))=cutAt l (fG aM l x):=by
 unfold gZ at h;cases q:l[fG aM l x]? with
 | none=>rw [q] at h; cases h
 | some y =>
  rw [q] at h;have G:y.id=x:=of_decide_eq_true h;generalize fG aM l x=k at *;have S:=(aG.1 q).1;have e:l=l.take k++y::l.drop (k+1):=by
   conv=>lhs; rw [<- List.take_append_drop k l]
   rw [List.drop_eq_getElem_cons S,(aG.1 q).2]
  have H:∀ u z,u≠k->l[u]?=U z->z.id≠x:=fun u z j r M=>by
   rcases Nat.lt_or_gt_of_ne j with F|F
   ·have:=kM I F r q;rw [M,G,jN] at this; cases this
   ·have:=kM I F q r;rw [M,G,jN] at this; cases this
  unfold cutAt
  conv=>lhs; rw [e]
  rw [List.filter_append,List.filter_cons_of_neg (by simp [G])];rw [aT.2 fun z r=>?_,aT.2 fun z r=>?_]
  ·obtain⟨u,j⟩:=aO.1 r;rw [List.getElem?_drop] at j;exact decide_eq_true (H _ z (by omega) j)
  ·obtain⟨u,j⟩:=aO.1 r;have N:=(aG.1 j).1;rw [aW] at N;rw [List.getElem?_take_of_lt (by omega)] at j;exact decide_eq_true (H u z (by omega) j)
theorem abw {l:List Ow} (q:kL aM l) {x:fB} (h:gZ aM l x=aF):l.filter (fun o=>decide (o.id≠x))=l:=by
 rw [tL q] at h;refine aT.2 fun o j=>?_;have:=of_decide_eq_false h;exact decide_eq_true fun r=>this (bL.2 ⟨o,j,r⟩)
theorem RO {b:Br} {x:fB} (p:List C5) (h:gZ aM b.own x=aX):iV b x p=(b,[]):=by
 unfold gZ at h;rw [iN] at h;unfold iV;cases j:b.own[gu (b.own.map aM) x]? with
 | none=>rw [j] at h; cases h
 | some y =>
  rw [j] at h;rw [if_pos (show Option.map aM (U y)=U x from congrArg U (of_decide_eq_true h))]
theorem abx {b:Br} {x:fB} (p:List C5) (h:gZ aM b.own x=aF):iV b x p=fu b.dQ (iK x p) (ownIn b x p,[]) b.dQ.length:=by
 unfold gZ at h;rw [iN] at h;unfold iV;rw [if_neg];intro j;cases q:b.own[gu (b.own.map aM) x]? with
 | none=>rw [q] at j; cases j
 | some y =>
  rw [q] at h j;exact absurd (aS j) (of_decide_eq_false h)
theorem RV {b:Br} (j:iU b) {x:fB} (h:gZ aM b.own x=aF):fM b x=(b,[]):=by
 unfold fM;rw [if_pos];unfold nY;rw [abw j.own h]
theorem Ag {l:List Ow} {x:fB} (h:gZ aM l x=aX):fG aM l x<l.length:=by
 unfold gZ at h;cases j:l[fG aM l x]? with
 | none=>rw [j] at h; cases h
 | some y=>exact (aG.1 j).1
theorem Mq {b:Br} (j:iU b) {x:fB} (h:gZ aM b.own x=aX):fM b x=ig b x b.dQ.length/\nY b x=cutAt b.own (fG aM b.own x):=by
 have e:=Md j.own h;refine⟨?_,e⟩;unfold fM;rw [if_neg];show ¬ (b.own.filter fun o=>decide (o.id≠x)).length=b.own.length;rw [e];have:=Ag h;unfold cutAt;rw [List.length_append,aW,List.length_drop];omega
structure SuI (b0 b:Br) (k:Nat):Prop where
 at_:Rx b0 b k
 ok:iU b
 pe:∀ e∈b.ent,dX e.p
theorem aby {b:Br} (h:iU b) {x:fB} {p:List C5} (F:Wr.fT p=aX) (q:gZ aM b.own x=aF):iU (ownIn b x p):=by
 have u:∀ y∈b.own,y.id≠x:=fun y H I=>by
  rw [tL h.own] at q;exact of_decide_eq_false q (bL.2 ⟨y,H,I⟩)
 have G:kL aM (gL b.own (gu (b.own.map aM) x) ⟨x,p⟩):=by
  rw [<- iN];exact kY h.own ⟨x,p⟩ u
 exact⟨h.near,h.seen,h.dQ,h.ent,G,h.oks,fun e r=>uS (b:=b) rfl rfl (h.Q6 e r),fun o j=>by
  rcases (jZ _ _ _ _).1 j with rfl|j
  ·exact F
  ·exact h.oko o j⟩
theorem ajs {b:Br} {x:fB} {p:List C5} (F:iU (ownIn b x p)) (pe:∀ e∈b.ent,dX e.p) (pp:dX p) (G:Wr.fT p=aX) (k:Nat) (j:k<=b.dQ.length):SuI (ownIn b x p) (fu b.dQ (iK x p) (ownIn b x p,[]) k).1 k/\(fu b.dQ (iK x p) (ownIn b x p,[]) k).2.length<=k:=by
 obtain⟨q,r,u⟩:=lg (l:=b.dQ) (b0:=ownIn b x p) (o0:=[]) (fun a=>jG p a.p) (fun a=>lC x p a) (fun a=>a.par) (fun e=>dX e.p) pe (fun a _ _=>pp) k j;exact⟨⟨q,uU iU F (fun s a _ H=>step_ok H _ _ _ (qQ _) G) k j,r⟩,by simpa using u⟩
end Rt
namespace Rt
open Go.RowKit Go.Sort Rw YtghlpefopidlaaaGreat.Nm Pr Bk Av Rl Sb Fl
theorem Uq {w0 wr x:aC} {B:Nat} {b:Br} {G av I F H Ql:Sl} {ol:List Ow} (h:Cp w0 B wr b G av I F H) (j:Off (eu H).ownBlock wr x) (N:∃ l,nO x B (eu Ql) l/\eY (QF w0 B x) l ol):Cp w0 B x { b with own:=ol } G av I F Ql:=by
 obtain⟨S,M,_⟩:=h.own;have q:=jQ M;exact {
  near:=j.own h.near q (by decide)
  seen:=j.own h.seen q (by decide)
  dQ:=by obtain⟨l,r,u⟩:=h.dQ; exact⟨l,j.own r q (by decide),u.mono fun _ _ h=>h.off j q (by decide)⟩
  ent:=by obtain⟨l,r,u⟩:=h.ent; exact⟨l,j.own r q (by decide),u.mono fun _ _ h=>h.off j q (by decide)⟩
  own:=N }
def apm (_B:Nat) (b3 _ n k:Nat) (w0:aC) (b:Br) (F:OA) (T v3:Nat) (v4:OA) (v5 a1:Nat) (a2:OA) (a6 v9:Nat) (G:OA) (H I:Nat) (M:OA) (N S:Nat) (j q:Int) (po:OA) (u r:Nat) (p:List C5) (i:Nat) (v:aK) (x:aC):Prop :=
 match i with
 | 0=>v=Y (U ⟨b3,5,X⟩)
 | 1=>v=J M N S
 | 2=>v=L O k
 | 3=>v=aD #[L O j,L O q]
 | 4=>v=J po u r
 | 5=>∃ s:Sl,v=eu s/\iH x _B (eu s) p
 | 6=>∃ s:Sl,v=zy (j,q,s)/\iH x _B (eu s) p
 | 7=>∃ (s:Sl) (g:Nat),v=J (U ⟨g,0,X⟩) 1 1/\_B<=g/\dN x g (lN (j,q,s)).toArray 88/\iH x _B (eu s) p
 | 8=>∃ s:Sl,v=eu s/\Cp (vw w0) n x (ownIn b (j,q) p) (F,T,v3) (v4,v5,a1) (a2,a6,v9) (G,H,I) s
 | 9=>v=Y (U ⟨b3,5,X⟩)
 | 10=>True
 | _=>True
def abz (W:aC) (b3 _ n _:Nat) (w0:aC) (b:Br) (j:OA) (F v3:Nat) (v4:OA) (v5 G:Nat) (H:OA) (I v9:Nat) (q:OA) (r u:Nat) (M:OA) (N S:Nat) (T a1:Int) (_:OA) (_ _:Nat) (p:List C5) (D:Nat->Prop) (x:aC):Prop:=(¬ D 8->Below W.heap.size W x)/\(D 8->¬ D 10->Below n W x/\Off (eu (M,N,S)).ownBlock W x)/\(D 10->Below n W x/\(∀ (g:Nat) (cs:Array aK) (t:TypeId),(t == 88)=aF->g≠b3->dN W g cs t->dN x g cs t)/\∃ s:Sl,dN x b3 #[L O b.me,J j F v3,J v4 v5 G,J H I v9,J q r u,eu s] 30/\Cp (vw w0) n x (ownIn b (T,a1) p) (j,F,v3) (v4,v5,G) (H,I,v9) (q,r,u) s)
noncomputable def alI:Code:=((Tryz.f10.body.bind (eX 5)).getD .skip)
theorem su5 (Q:bY->Act->aC->Prop) (W:aC) (b3 aE n k:Nat) (w0:aC) (b:Br) (b4:OA) (b8 v3:Nat) (v4:OA) (v5 b9:Nat) (bA:OA) (bB v9:Nat) (b5:OA) (b6 b7:Nat) (a6:OA) (a7 a8:Nat) (r F:Int) (po:OA) (a2 a1:Nat) (p:List C5) {cV cW eA u6 u7 u9 cX u11 cY u13 d0 d1 d2 d3 d4 d5 d6 d7 d8 d9 dA g8 g9 gA gC gE gI gO gR gS h0 dC dE dS dT dZ e0 e1 e2 e3 e4 e5 e6 e7 e8 e9 eB eC eE eI eJ eK eL eM eN eQ eR eS eV eW:aK}
  (c6:dN W b3 #[L O b.me,J b4 b8 v3,J v4 v5 b9,J bA bB v9,J b5 b6 b7,J a6 a7 a8] 30) (f4:dN W aE #[L O r,L O F] 23) (f3:Cp (vw w0) n W b (b4,b8,v3) (v4,v5,b9) (bA,bB,v9) (b5,b6,b7) (a6,a7,a8)) (fS:gu (b.own.map aM) (r,F)=k) (kl:k<=b.own.length) (lo:b.own.length<=900) (f7:n<=W.heap.size) (bT:n<=b3) (fN:fO W (J po a2 a1) p) (fV:p.length<=900)
  (f6:∀ (x:aC) (s:Sl) (fX fY g0 g1 g2 g3 g4 g5 g6 g7:aK),Below n W x->(∀ (g:Nat) (cs:Array aK) (t:TypeId),(t == 88)=aF->g≠b3->dN W g cs t->dN x g cs t)->dN x b3 #[L O b.me,J b4 b8 v3,J v4 v5 b9,J bA bB v9,J b5 b6 b7,eu s] 30->Cp (vw w0) n x (ownIn b (r,F) p) (b4,b8,v3) (v4,v5,b9) (bA,bB,v9) (b5,b6,b7) s->Q .normal ⟨(cV::cW::J po a2 a1::Y (U ⟨b3,0,X⟩)::Y (U ⟨aE,0,X⟩)::eA::u6::u7::L O k::u9::cX::u11::cY::u13::d0::d1::d2::d3::d4::d5::d6::d7::d8::d9::dA::fX::fY::g0::g1::g2::g3::g4::g5::g6::g7::dC::dE::dS::dT::dZ::e0::e1::e2::e3::e4::e5::e6::e7::e8::e9::eB::eC::eE::eI::eJ::eK::eL::eM::eN::eQ::eR::eS::eV::eW::[]).toArray,[]⟩ x) :
  Code.wp aI alI Q ⟨(cV::cW::J po a2 a1::Y (U ⟨b3,0,X⟩)::Y (U ⟨aE,0,X⟩)::eA::u6::u7::L O k::u9::cX::u11::cY::u13::d0::d1::d2::d3::d4::d5::d6::d7::d8::d9::dA::g8::g9::gA::gC::gE::gI::gO::gR::gS::h0::dC::dE::dS::dT::dZ::e0::e1::e2::e3::e4::e5::e6::e7::e8::e9::eB::eC::eE::eI::eJ::eK::eL::eM::eN::eQ::eR::eS::eV::eW::[]).toArray,[]⟩ W:=by
 have f1:=C f6;have f0:=C c6;have h7:=C f4;have cG:=C f3;have h9:=C fS;have hA:=C kl;have hC:=C lo;have cH:=C f7;have hE:=C bT;have h8:=C fN;have hD:=C fV;clear f6 c6 f4 f3 fS kl lo f7 bT fN fV;have hF:∀ D x,abz W b3 aE n k w0 b b4 b8 v3 v4 v5 b9 bA bB v9 b5 b6 b7 a6 a7 a8 r F po a2 a1 p D x->¬ D 8->dN x b3 #[L O b.me,J b4 b8 v3,J v4 v5 b9,J bA bB v9,J b5 b6 b7,J a6 a7 a8] 30:=fun D x H G=>f0.o.on (H.1 G);have hG:∀ D x,abz W b3 aE n k w0 b b4 b8 v3 v4 v5 b9 bA bB v9 b5 b6 b7 a6 a7 a8 r F po a2 a1 p D x->¬ D 8->dN x aE #[L O r,L O F] 23:=fun D x H G=>h7.o.on (H.1 G);unfold alI
 conv=>arg 2; whnf
 have nd:∀ j,(∀ i,i<11->[U 25,U 26,U 27,U 28,U 29,U 30,U 31,U 32,U 33,U 34,X].getD i X≠U j)->∀ i,i<11->(fun i=>[U 25,U 26,U 27,U 28,U 29,U 30,U 31,U 32,U 33,U 34,X].getD i X) i≠U j:=fun j h=>h;refine cu 11 (fun i=>[U 25,U 26,U 27,U 28,U 29,U 30,U 31,U 32,U 33,U 34,X].getD i X) (fun i=>if i=5 then 6 else if i=6 then 7 else if i=7 then 8 else 11) (apm W.heap.size b3 aE n k w0 b b4 b8 v3 v4 v5 b9 bA bB v9 b5 b6 b7 a6 a7 a8 r F po a2 a1 p) (abz W b3 aE n k w0 b b4 b8 v3 v4 v5 b9 bA bB v9 b5 b6 b7 a6 a7 a8 r F po a2 a1 p) (by kernel_rfl) (by kernel_rfl) rfl (fun i j e c7 bE N T=>(by decide:∀ i,i<11->∀ j,j<11->([U 25,U 26,U 27,U 28,U 29,U 30,U 31,U 32,U 33,U 34,X].getD i X).isSome=aX->[U 25,U 26,U 27,U 28,U 29,U 30,U 31,U 32,U 33,U 34,X].getD i X=[U 25,U 26,U 27,U 28,U 29,U 30,U 31,U 32,U 33,U 34,X].getD j X->i=j) i c7 j bE (by have N:[U 25,U 26,U 27,U 28,U 29,U 30,U 31,U 32,U 33,U 34,X].getD i X=U e:=N; rw [N]; rfl) (N.trans T.symm)) (fun i e c7 h=>(by decide:∀ i,i<11->∀ q∈[U 25,U 26,U 27,U 28,U 29,U 30,U 31,U 32,U 33,U 34,X].getD i X,q<64) i c7 e h) (⟨fun _=>(ak _ _).drew,fun h=>h.elim,fun h=>h.elim⟩) ?_ ?_
 ·intro i o c7 b2 a x D bI S f5 H seen K b1;clear f1;have bX:∀ i,i≠5/\i≠7/\i≠8/\i≠10->abz W b3 aE n k w0 b b4 b8 v3 v4 v5 b9 bA bB v9 b5 b6 b7 a6 a7 a8 r F po a2 a1 p (fun j=>j=i\/D j) x:=fun i f8=>⟨fun h=>H.1 fun T=>h (au T),fun N T=>H.2.1 (N.resolve_left (Ne.symm f8.2.2.1)) fun c6=>T (au c6),fun h=>H.2.2 (h.resolve_left (Ne.symm f8.2.2.2))⟩;rcases (by omega:i=0\/i=1\/i=2\/i=3\/i=4\/i=5\/i=6\/i=7\/i=8\/i=9\/i=10) with rfl|rfl|rfl|rfl|rfl|rfl|rfl|rfl|rfl|rfl|rfl
  ·cases b2;have cL:a.eval (Z 3)=Y (U ⟨b3,0,X⟩):=seen.kp 3 _ (nd 3 (by decide)) rfl;exact aB rfl rfl (bg a.eval _ 30 (Z 3) 5 rfl (by rw [cL]; simp [go_sem])) (b1 _ _ rfl (bX 0 (by decide)) fun _ _ _ _ _ _ _ h=>h)
  ·cases b2;have G:¬ D 8:=fun cN=>bI (S 8 _ cN rfl ⟨1,.data⟩ (by simp) rfl);have hI:a.eval (Z 25)=Y (U ⟨b3,5,X⟩):=seen.at_ ⟨0,.data⟩ (by simp) rfl (au (by decide)) _ rfl;have h1:=(hF D x H G).cell 5;simp only [aj,ay,aA] at h1;exact aB rfl rfl (aQ a.eval _ 28 (Z 25) rfl (by rw [hI]; simp [go_sem,h1])) (b1 _ _ rfl (bX 1 (by decide)) fun _ _ _ _ _ _ _ h=>h)
  ·cases b2;have hP:a.eval (Z 8)=L O k:=seen.kp 8 _ (nd 8 (by decide)) rfl;exact aB rfl rfl (bJ a.eval _ (Z 8) rfl x) (b1 _ _ hP (bX 2 (by decide)) fun _ _ _ _ _ _ _ h=>h)
  ·cases b2;have G:¬ D 8:=fun cN=>bI (S 6 _ (S 7 _ (S 8 _ cN rfl ⟨7,.data⟩ (by simp) rfl) rfl ⟨6,.data⟩ (by simp) rfl) rfl ⟨3,.data⟩ (by simp) rfl);have hO:a.eval (Z 4)=Y (U ⟨aE,0,X⟩):=seen.kp 4 _ (nd 4 (by decide)) rfl;obtain⟨i7,i8⟩:=(hG D x H G).cs2;exact aB rfl rfl (aQ a.eval _ 23 (Z 4) rfl (by rw [hO]; simp [go_sem,i7,i8])) (b1 _ _ rfl (bX 3 (by decide)) fun _ _ _ _ _ _ _ h=>h)
  ·cases b2;have hH:a.eval (Z 2)=J po a2 a1:=seen.kp 2 _ (nd 2 (by decide)) rfl;exact aB rfl rfl (bJ a.eval _ (Z 2) rfl x) (b1 _ _ hH (bX 4 (by decide)) fun _ _ _ _ _ _ _ h=>h)
  ·cases b2;have hM:a.eval (Z 29)=J po a2 a1:=seen.at_ ⟨4,.data⟩ (by simp) rfl (au (by decide)) _ rfl;have G:¬ D 8:=fun h=>bI (S 8 _ h rfl ⟨5,.chain⟩ (by simp) rfl);have bM:¬ D 10:=fun h=>G (S 10 _ h rfl ⟨8,.chain⟩ (by simp) rfl);have fW:¬ D 6:=fun h=>bI (S 6 _ h rfl ⟨5,.data⟩ (by simp) rfl);have i2:¬ D 7:=fun h=>fW (S 7 _ h rfl ⟨6,.data⟩ (by simp) rfl);have I:=H.1 G;exact bK rfl rfl (Rw.jq a.eval _ (Z 29) 34 44 rfl hM rfl _ (gB Tryz.func44 rfl rfl _ _)) (oJ (po,a2,a1) p x (h8.o.on I) hD.o) fun e w1 h=>by
    obtain⟨⟨s,rfl,bP⟩,cU⟩:=h;exact⟨_,rfl,b1 _ w1 ⟨s,rfl,dO bP I.size⟩ ⟨fun _=>I.trans (cU.mono I.size),fun h=>absurd (h.resolve_left (by decide)) G,fun h=>absurd (h.resolve_left (by decide)) bM⟩ (fun j u bE bC bO cF bW h=>by
    rcases (by omega:j=0\/j=1\/j=2\/j=3\/j=4\/j=5\/j=6\/j=7\/j=8\/j=9\/j=10) with rfl|rfl|rfl|rfl|rfl|rfl|rfl|rfl|rfl|rfl|rfl
    ·exact h
    ·exact h
    ·exact h
    ·exact h
    ·exact h
    ·exact absurd rfl bW
    ·exact absurd bC fW
    ·exact absurd bC i2
    ·exact absurd bC G
    ·exact h
    ·exact absurd bC bM)⟩
  ·cases b2;have hL:a.eval (Z 28)=aD #[L O r,L O F]:=seen.at_ ⟨3,.data⟩ (by simp) rfl (au (by decide)) _ rfl;have h3:=seen.at_ ⟨5,.data⟩ (by simp) rfl (aV rfl) _ rfl;obtain⟨s,M,bP⟩:=h3;have M:a.eval (Z 30)=eu s:=M;exact aB rfl rfl (bS a.eval _ 88 #[(0,Z 28),(1,Z 30)] rfl (ps:=#[(0,aD #[L O r,L O F]),(1,eu s)]) (by simp only [aL,aP,aU,hL,M]) (by simp [go_sem])) (b1 _ _ ⟨s,rfl,bP⟩ (bX 6 (by decide)) fun _ _ _ _ _ _ _ h=>h)
  ·cases b2;have h4:=seen.at_ ⟨6,.data⟩ (by simp) rfl (aV rfl) _ rfl;have G:¬ D 8:=fun h=>bI (S 8 _ h rfl ⟨7,.data⟩ (by simp) rfl);have bM:¬ D 10:=fun h=>G (S 10 _ h rfl ⟨8,.chain⟩ (by simp) rfl);have I:=H.1 G;obtain⟨s,M,bP⟩:=h4;have M:a.eval (Z 31)=zy (r,F,s):=M;have bT:=fP x (aJ (lN (r,F,s)).toArray 88);exact aB rfl rfl (cB a.eval _ 28 1 #[(0,Z 31)] rfl (ps:=#[(0,zy (r,F,s))]) (by simp [M]) (by simp [go_sem])) (b1 (J (U ⟨x.heap.size,0,X⟩) 1 1) (x.alloc (aJ (lN (r,F,s)).toArray 88)) ⟨s,x.heap.size,rfl,I.size,dR x _ _,Bk.dK bP bT⟩ ⟨fun _=>I.trans (bT.mono I.size),fun h=>absurd (h.resolve_left (by decide)) G,fun h=>absurd (h.resolve_left (by decide)) bM⟩ (fun j u bE bC bO cF bW h=>by
    rcases (by omega:j=0\/j=1\/j=2\/j=3\/j=4\/j=5\/j=6\/j=7\/j=8\/j=9\/j=10) with rfl|rfl|rfl|rfl|rfl|rfl|rfl|rfl|rfl|rfl|rfl
    ·exact h
    ·exact h
    ·exact h
    ·exact h
    ·exact h
    ·obtain⟨s,N,T⟩:=h; exact⟨s,N,Bk.dK T bT⟩
    ·obtain⟨s,N,T⟩:=h; exact⟨s,N,Bk.dK T bT⟩
    ·exact absurd rfl bW
    ·exact absurd bC G
    ·exact h
    ·exact absurd bC bM))
  ·cases b2;have hJ:a.eval (Z 26)=J a6 a7 a8:=seen.at_ ⟨1,.data⟩ (by simp) rfl (au (by decide)) _ rfl;have hK:a.eval (Z 27)=L O k:=seen.at_ ⟨2,.data⟩ (by simp) rfl (au (by decide)) _ rfl;have h5:=seen.at_ ⟨7,.data⟩ (by simp) rfl (aV rfl) _ rfl;have cA:D 7:=f5 ⟨7,.data⟩ (by simp) rfl;have cJ:D 6:=S 7 _ cA rfl ⟨6,.data⟩ (by simp) rfl;have bM:¬ D 10:=fun h=>bI (S 10 _ h rfl ⟨8,.chain⟩ (by simp) rfl);have I:=H.1 bI;obtain⟨s,g,M,bP,cU,i4⟩:=h5;have M:a.eval (Z 32)=J (U ⟨g,0,X⟩) 1 1:=M;have f2:=cG.o.grow I;obtain⟨l,f9,cR⟩:=f2.own;obtain⟨i0,cQ,_⟩:=cG.o.own;have hX:(eu (a6,a7,a8)).ownBlock≠U g:=fun e=>by
    obtain⟨d,hU⟩:=jQ cQ _ e;have:=hU.lt;omega
   have c8:=jQ f9;exact bK rfl rfl (xB a.eval _ (Z 26) (Z 27) (Z 32) 28 3 28 43 rfl hJ hK M rfl _ (gB Tryz.func43 rfl rfl _ _)) (NH n (eu (a6,a7,a8)) l k (r,F,s) g x f9 cU hX (by rw [cR.len]; exact hA.o) (by rw [cR.len]; exact hC.o) (aH cH.o I.size)) fun e w1 h=>by
    obtain⟨i6,rfl,cT,cP,fL⟩:=h;obtain⟨t1,t2,fR⟩:=(Row.dL cT).len;have cS:Off (eu (a6,a7,a8)).ownBlock x w1:=⟨fL,cP.size⟩;have h2:=Uq f2 (Ql:=(t1,(l.take k++(r,F,s)::l.drop k).length,t2)) (ol:=gL b.own k ⟨(r,F),p⟩) cS ⟨gL l k (r,F,s),by unfold gL; rw [List.append_assoc]; rw [fR] at cT; exact cT,zH (cR.mono fun _ _ q=>q.off cS c8 (by decide)) k ⟨rfl,au (cS.own (dO i4 cH.o) c8 (by decide))⟩⟩;exact⟨_,rfl,b1 i6 w1 ⟨_,fR,by rw [show ownIn b (r,F) p={ b with own:=gL b.own k ⟨(r,F),p⟩ } from by unfold ownIn; rw [h9.o]]; exact h2⟩ ⟨fun h=>absurd (aV rfl) h,fun _ _=>⟨(I.mono cH.o).trans cP,fun j bE hY=>(fL j (Nat.lt_of_lt_of_le bE I.size) hY).trans (I.block j bE),aH I.size cP.size⟩,fun h=>absurd (h.resolve_left (by decide)) bM⟩ (fun j u bE bC bO cF bW h=>by
    rcases (by omega:j=0\/j=1\/j=2\/j=3\/j=4\/j=5\/j=6\/j=7\/j=8\/j=9\/j=10) with rfl|rfl|rfl|rfl|rfl|rfl|rfl|rfl|rfl|rfl|rfl
    ·exact h
    ·exact h
    ·exact h
    ·exact h
    ·exact h
    ·exact absurd cJ bO
    ·exact absurd cA bO
    ·exact absurd rfl cF
    ·exact absurd rfl bW
    ·exact h
    ·exact absurd bC bM)⟩
  ·cases b2;have cL:a.eval (Z 3)=Y (U ⟨b3,0,X⟩):=seen.kp 3 _ (nd 3 (by decide)) rfl;exact aB rfl rfl (bg a.eval _ 30 (Z 3) 5 rfl (by rw [cL]; simp [go_sem])) (b1 _ _ rfl (bX 9 (by decide)) fun _ _ _ _ _ _ _ h=>h)
  ·cases b2;have hN:a.eval (Z 34)=Y (U ⟨b3,5,X⟩):=seen.at_ ⟨9,.data⟩ (by simp) rfl (au (by decide)) _ rfl;have h6:=seen.at_ ⟨8,.data⟩ (by simp) rfl (au (by decide)) _ rfl;have cC:D 8:=f5 ⟨8,.chain⟩ (by simp) rfl;obtain⟨cM,cD⟩:=H.2.1 cC bI;obtain⟨⟨s1,s2,s3⟩,M,bP⟩:=h6;have M:a.eval (Z 33)=J s1 s2 s3:=M;obtain⟨i0,cQ,_⟩:=cG.o.own;have c8:=jQ cQ;have c9:=cD.box f0.o c8 (by decide);have c5:=c9.cell 5;have r5:=c9.fr 5;simp only [aj,ay,aA] at c5;have hZ:(Instr.storeAt 28 (Y (U ⟨b3,5,X⟩)) (J s1 s2 s3)).run aI x=.ok () (x.setCell ⟨b3,5,X⟩ (J s1 s2 s3)):=by simp [go_sem,c5,r5]
   have cI:=eH x b3 5 (J s1 s2 s3);have hS:abz W b3 aE n k w0 b b4 b8 v3 v4 v5 b9 bA bB v9 b5 b6 b7 a6 a7 a8 r F po a2 a1 p (fun j=>j=10\/D j) (x.setCell ⟨b3,5,X⟩ (J s1 s2 s3)):=⟨fun h=>absurd (au cC) h,fun _ h=>absurd (aV rfl) h,fun _=>⟨cM.setCell (p:=⟨b3,5,X⟩) hE.o _,fun g cs t N T c6=>cI.box (cD.box c6 c8 N) T,(s1,s2,s3),by simpa using eD (k:=5) c9 (J s1 s2 s3),bP.but cI c9⟩⟩;have cA:D 7:=S 8 _ cC rfl ⟨7,.data⟩ (by simp) rfl;have cJ:D 6:=S 7 _ cA rfl ⟨6,.data⟩ (by simp) rfl;have q:=b1 (aR aX) (x.setCell ⟨b3,5,X⟩ (J s1 s2 s3)) trivial hS (fun j u bE bC bO cF bW h=>by
    rcases (by omega:j=0\/j=1\/j=2\/j=3\/j=4\/j=5\/j=6\/j=7\/j=8\/j=9\/j=10) with rfl|rfl|rfl|rfl|rfl|rfl|rfl|rfl|rfl|rfl|rfl
    ·exact h
    ·exact h
    ·exact h
    ·exact h
    ·exact h
    ·exact absurd cJ bO
    ·exact absurd cA bO
    ·exact absurd cC bO
    ·obtain⟨s,N,T⟩:=h; exact⟨s,N,T.but cI c9⟩
    ·exact h
    ·exact absurd rfl bW)
   exact bU 28 (Z 34) (Z 33) rfl rfl rfl rfl hN M hZ q
 ·intro a x df sz kp ⟨iG,i9⟩ ⟨D,hT,H⟩;obtain⟨cM,cD,s,hQ,hR⟩:=H.2.2 (hT 10 (by omega));have i5:∀ j,(j<25\/35<=j)->a.tmps[j]?=(cV::cW::J po a2 a1::Y (U ⟨b3,0,X⟩)::Y (U ⟨aE,0,X⟩)::eA::u6::u7::L O k::u9::cX::u11::cY::u13::d0::d1::d2::d3::d4::d5::d6::d7::d8::d9::dA::g8::g9::gA::gC::gE::gI::gO::gR::gS::h0::dC::dE::dS::dT::dZ::e0::e1::e2::e3::e4::e5::e6::e7::e8::e9::eB::eC::eE::eI::eJ::eK::eL::eM::eN::eQ::eR::eS::eV::eW::[])[j]?:=fun j bE=>(kp j (nd j fun i c7 h=>by
   have:=(by decide:∀ i,i<11->∀ d,[U 25,U 26,U 27,U 28,U 29,U 30,U 31,U 32,U 33,U 34,X].getD i X=U d->25<=d/\d<35) i c7 j h;omega)).trans aj
  obtain⟨i1,hW,hV⟩:=cK (a:=a) 25 10 (by simp [df]) (by simp [sz]) (by simp) i5;rw [hV]
  match i1,hW with
  | [fX,fY,g0,g1,g2,g3,g4,g5,g6,g7],_=>exact f1.o x s _ _ _ _ _ _ _ _ _ _ cM cD hQ hR
def apo (_B:Nat) (_ _ _:Nat) (me:Int) (s1:OA) (s2 s3:Nat) (s4:OA) (s5 a1:Nat) (a2:OA) (a6 a7:Nat) (H:OA) (I M:Nat) (N:OA) (S T:Nat) (par:Int) (j q r u:Int) (po:OA) (G F:Nat) (a8:Int) (aE:Bool) (p:List C5) (i:Nat) (v:aK) (x:aC):Prop :=
 match i with
 | 0=>v=aD #[L O me,J s1 s2 s3,J s4 s5 a1,J a2 a6 a7,J H I M,J N S T]
 | 1=>v=L O par
 | 2=>v=aD #[L O j,L O q,L O r,L O u,J po G F,L O a8,aR aE]
 | 3=>∃ s:Sl,v=aD #[L O 3,L O j,L O q,L O r,L O u,eu s,J X 0 0]/\iH x _B (eu s) p
 | 4=>∃ s:Sl,v=vP (par,3,j,q,r,u,s,(X,0,0))/\iH x _B (eu s) p
 | 5=>∃ s:Sl,kF x _B v [(par,3,j,q,r,u,s,(X,0,0))]/\iH x _B (eu s) p
 | 6=>True
 | 7=>∃ s:Sl,kF x _B v [(par,3,j,q,r,u,s,(X,0,0))]/\iH x _B (eu s) p
 | _=>True
def abA (W:aC) (_ _ j:Nat) (me:Int) (s1:OA) (s2 s3:Nat) (s4:OA) (s5 I:Nat) (M:OA) (N S:Nat) (q:OA) (r u:Nat) (F:OA) (G H:Nat) (_:Int) (_ _ _ _:Int) (_:OA) (_ _:Nat) (_:Int) (_:Bool) (_:List C5) (D:Nat->Prop) (x:aC):Prop:=(¬ D 6->Below W.heap.size W x)/\(D 6->bR j W x/\dN x j #[L O me,J s1 s2 s3,J s4 s5 I,J M N S,J q r u,J F G H] 30)
noncomputable def alK:Code:=((Tryz.f45.body.bind (eX 4)).getD .skip)
theorem rV (Q:bY->Act->aC->Prop) (W:aC) (b3 b6 M:Nat) (me:Int) (s1:OA) (s2 s3:Nat) (s4:OA) (s5 a7:Nat) (a8:OA) (aE b1:Nat) (N:OA) (S T:Nat) (a1:OA) (a2 a6:Nat) (par:Int) (r F G H:Int) (po:OA) (b8 b7:Nat) (b5:Int) (b9:Bool) (p:List C5) (z0 f4 f5 z3 z4 z5:aK) (eE u2 f1 u7 f2 u9 eI u11 eJ u13 eK eL eM eN eQ eR eS eV eW f0:aK)
  (cR:dN W b3 #[L O me,J s1 s2 s3,J s4 s5 a7,J a8 aE b1,J N S T,J a1 a2 a6] 30) (cS:dN W b6 #[L O r,L O F,L O G,L O H,J po b8 b7,L O b5,aR b9] 67) (cT:dN W M #[z0,f4,f5,z3,z4,z5] 30) (d0:b3≠M) (c7:b6≠M) (cV:fO W (J po b8 b7) p) (cY:p.length<=900)
  (cU:∀ (a:Act) (y:aC) (s:Sl) (cG:OA) (cH:Nat),a.defers=[]->a.tmps[6]?=U (Y (U ⟨M,0,X⟩))->a.tmps[7]?=U (J cG 1 cH)->dN y M #[L O me,J s1 s2 s3,J s4 s5 a7,J a8 aE b1,J N S T,J a1 a2 a6] 30->bR M W y->kF y W.heap.size (J cG 1 cH) [(par,3,r,F,G,H,s,(X,0,0))]->iH y W.heap.size (eu s) p->Q .normal a y) :
  Code.wp aI alK Q ⟨(eE::L O par::u2::Y (U ⟨b3,0,X⟩)::f1::Y (U ⟨b6,0,X⟩)::Y (U ⟨M,0,X⟩)::u7::f2::u9::eI::u11::eJ::u13::eK::eL::eM::eN::eQ::eR::eS::eV::eW::f0::[]).toArray,[]⟩ W:=by
 have cP:=C cU;have cM:=C cR;have cN:=C cS;have cA:=C cT;have dA:=C d0;have dC:=C c7;have d8:=C cV;have d9:=C cY;clear cU cR cS cT d0 c7 cV cY;have dE:∀ D x,abA W b3 b6 M me s1 s2 s3 s4 s5 a7 a8 aE b1 N S T a1 a2 a6 par r F G H po b8 b7 b5 b9 p D x->dN x b3 #[L O me,J s1 s2 s3,J s4 s5 a7,J a8 aE b1,J N S T,J a1 a2 a6] 30:=fun D x I=>by
  by_cases bC:D 6
  ·exact (I.2 bC).1.1.box cM.o dA.o
  ·exact cM.o.on (I.1 bC)
 have dS:∀ D x,abA W b3 b6 M me s1 s2 s3 s4 s5 a7 a8 aE b1 N S T a1 a2 a6 par r F G H po b8 b7 b5 b9 p D x->dN x b6 #[L O r,L O F,L O G,L O H,J po b8 b7,L O b5,aR b9] 67:=fun D x I=>by
  by_cases bC:D 6
  ·exact (I.2 bC).1.1.box cN.o dC.o
  ·exact cN.o.on (I.1 bC)
 unfold alK
 conv=>arg 2; whnf
 have nd:∀ j,(∀ i,i<8->[U 18,U 19,U 20,U 21,U 22,U 23,X,U 7].getD i X≠U j)->∀ i,i<8->(fun i=>[U 18,U 19,U 20,U 21,U 22,U 23,X,U 7].getD i X) i≠U j:=fun j h=>h;refine cu 8 (fun i=>[U 18,U 19,U 20,U 21,U 22,U 23,X,U 7].getD i X) (fun _=>8) (apo W.heap.size b3 b6 M me s1 s2 s3 s4 s5 a7 a8 aE b1 N S T a1 a2 a6 par r F G H po b8 b7 b5 b9 p) (abA W b3 b6 M me s1 s2 s3 s4 s5 a7 a8 aE b1 N S T a1 a2 a6 par r F G H po b8 b7 b5 b9 p) (by kernel_rfl) (by kernel_rfl) rfl (fun i j e cC cD b4 b2=>(by decide:∀ i,i<8->∀ j,j<8->([U 18,U 19,U 20,U 21,U 22,U 23,X,U 7].getD i X).isSome=aX->[U 18,U 19,U 20,U 21,U 22,U 23,X,U 7].getD i X=[U 18,U 19,U 20,U 21,U 22,U 23,X,U 7].getD j X->i=j) i cC j cD (by have b4:[U 18,U 19,U 20,U 21,U 22,U 23,X,U 7].getD i X=U e:=b4; rw [b4]; rfl) (b4.trans b2.symm)) (fun i e cC h=>(by decide:∀ i,i<8->∀ q∈[U 18,U 19,U 20,U 21,U 22,U 23,X,U 7].getD i X,q<24) i cC e h) (⟨fun _=>(ak _ _).drew,fun h=>h.elim⟩) ?_ ?_
 ·intro i o cC bI a x D c6 bP f6 I seen K bE;clear cP;have c9:∀ i,i≠3/\i≠5/\i≠6->abA W b3 b6 M me s1 s2 s3 s4 s5 a7 a8 aE b1 N S T a1 a2 a6 par r F G H po b8 b7 b5 b9 p (fun j=>j=i\/D j) x:=fun i eA=>⟨fun h=>I.1 fun b2=>h (au b2),fun h=>I.2 (h.resolve_left (Ne.symm eA.2.2))⟩;rcases (by omega:i=0\/i=1\/i=2\/i=3\/i=4\/i=5\/i=6\/i=7) with rfl|rfl|rfl|rfl|rfl|rfl|rfl|rfl
  ·cases bI;have e2:a.eval (Z 3)=Y (U ⟨b3,0,X⟩):=seen.kp 3 _ (nd 3 (by decide)) rfl;obtain⟨cJ,r,F,G,H,cL⟩:=(dE D x I).fA;exact aB rfl rfl (aQ a.eval _ 30 (Z 3) rfl (by rw [e2]; simp [go_sem,cJ,r,F,G,H,cL])) (bE _ _ rfl (c9 0 (by decide)) fun _ _ _ _ _ _ _ h=>h)
  ·cases bI;have dT:a.eval (Z 1)=L O par:=seen.kp 1 _ (nd 1 (by decide)) rfl;exact aB rfl rfl (bJ a.eval _ (Z 1) rfl x) (bE _ _ dT (c9 1 (by decide)) fun _ _ _ _ _ _ _ h=>h)
  ·cases bI;have e3:a.eval (Z 5)=Y (U ⟨b6,0,X⟩):=seen.kp 5 _ (nd 5 (by decide)) rfl;obtain⟨cJ,r,F,G,H,cL,b5⟩:=(dS D x I).oz;exact aB rfl rfl (aQ a.eval _ 67 (Z 5) rfl (by rw [e3]; simp [go_sem,cJ,r,F,G,H,cL,b5])) (bE _ _ rfl (c9 2 (by decide)) fun _ _ _ _ _ _ _ h=>h)
  ·cases bI;have e1:a.eval (Z 20)=aD #[L O r,L O F,L O G,L O H,J po b8 b7,L O b5,aR b9]:=seen.at_ ⟨2,.data⟩ (by simp) rfl (au (by decide)) _ rfl;have d2:¬ D 6:=fun h=>c6 (bP 6 _ h rfl ⟨3,.chain⟩ (by simp) rfl);have d1:¬ D 4:=fun h=>c6 (bP 4 _ h rfl ⟨3,.data⟩ (by simp) rfl);have c7:¬ D 5:=fun h=>d1 (bP 5 _ h rfl ⟨4,.data⟩ (by simp) rfl);have c8:¬ D 7:=fun h=>c7 (bP 7 _ h rfl ⟨5,.data⟩ (by simp) rfl);have bA:=I.1 d2;exact bK rfl rfl (Rw.jq a.eval _ (Z 20) 67 115 rfl e1 rfl _ (gB Tryz.func115 rfl rfl _ _)) (J4 (r,F,G,H,(po,b8,b7),b5,b9) p x (d8.o.on bA) d9.o) fun e w1 h=>by
    obtain⟨⟨s,rfl,bB⟩,cI⟩:=h;exact⟨_,rfl,bE _ w1 ⟨s,rfl,dO bB bA.size⟩ ⟨fun _=>bA.trans (cI.mono bA.size),fun h=>absurd (h.resolve_left (by decide)) d2⟩ (fun j u cD bM d3 d4 cF h=>by
    rcases (by omega:j=0\/j=1\/j=2\/j=3\/j=4\/j=5\/j=6\/j=7) with rfl|rfl|rfl|rfl|rfl|rfl|rfl|rfl
    ·exact h
    ·exact h
    ·exact h
    ·exact absurd rfl cF
    ·exact absurd bM d1
    ·exact absurd bM c7
    ·exact h
    ·exact absurd bM c8)⟩
  ·cases bI;have e0:a.eval (Z 19)=L O par:=seen.at_ ⟨1,.data⟩ (by simp) rfl (au (by decide)) _ rfl;have d5:=seen.at_ ⟨3,.data⟩ (by simp) rfl (au (by decide)) _ rfl;obtain⟨s,bO,bB⟩:=d5;have bO:a.eval (Z 21)=aD #[L O 3,L O r,L O F,L O G,L O H,eu s,J X 0 0]:=bO;exact aB rfl rfl (bS a.eval _ 46 #[(0,Z 19),(1,Z 21)] rfl (ps:=#[(0,L O par),(1,aD #[L O 3,L O r,L O F,L O G,L O H,eu s,J X 0 0])]) (by simp only [aL,aP,aU,e0,bO]) (by simp [go_sem])) (bE _ _ ⟨s,rfl,bB⟩ (c9 4 (by decide)) fun _ _ _ _ _ _ _ h=>h)
  ·cases bI;have d6:=seen.at_ ⟨4,.data⟩ (by simp) rfl (au (by decide)) _ rfl;obtain⟨s,bO,bB⟩:=d6;have bO:a.eval (Z 22)=vP (par,3,r,F,G,H,s,(X,0,0)):=bO;have cW:W.heap.size<=x.heap.size:=by
    by_cases bC:D 6
    ·exact (I.2 bC).1.1.2
    ·exact (I.1 bC).size
   have c8:¬ D 7:=fun h=>c6 (bP 7 _ h rfl ⟨5,.data⟩ (by simp) rfl);have e9:=jL Ic x [((par,3,r,F,G,H,s,(X,0,0)):nu)] 1 rfl (by simp) (jW (par,3,r,F,G,H,s,(X,0,0))).toArray (by simp [flat,EU]);have bT:=fP x (aJ (jW (par,3,r,F,G,H,s,(X,0,0))).toArray 46);exact aB rfl rfl (cB a.eval _ 37 1 #[(0,Z 22)] rfl (ps:=#[(0,vP (par,3,r,F,G,H,s,(X,0,0)))]) (by simp [bO]) (by simp [go_sem])) (bE (J (U ⟨x.heap.size,0,X⟩) 1 1) (x.alloc (aJ (jW (par,3,r,F,G,H,s,(X,0,0))).toArray 46)) ⟨s,dO e9 cW,Bk.dK bB bT⟩ ⟨fun h=>(I.1 fun b2=>h (au b2)).trans (bT.mono cW),fun h=>⟨(I.2 (h.resolve_left (by decide))).1.grow cA.o.lt bT,(I.2 (h.resolve_left (by decide))).2.on bT⟩⟩ (fun j u cD bM d3 d4 cF h=>by
    rcases (by omega:j=0\/j=1\/j=2\/j=3\/j=4\/j=5\/j=6\/j=7) with rfl|rfl|rfl|rfl|rfl|rfl|rfl|rfl
    ·exact h
    ·exact h
    ·exact h
    ·obtain⟨s,b4,b2⟩:=h; exact⟨s,b4,Bk.dK b2 bT⟩
    ·obtain⟨s,b4,b2⟩:=h; exact⟨s,b4,Bk.dK b2 bT⟩
    ·exact absurd rfl cF
    ·exact h
    ·exact absurd bM c8))
  ·cases bI;have e4:a.eval (Z 6)=Y (U ⟨M,0,X⟩):=seen.kp 6 _ (nd 6 (by decide)) rfl;have dZ:a.eval (Z 18)=aD #[L O me,J s1 s2 s3,J s4 s5 a7,J a8 aE b1,J N S T,J a1 a2 a6]:=seen.at_ ⟨0,.data⟩ (by simp) rfl (au (by decide)) _ rfl;have bA:=I.1 c6;have c8:¬ D 7:=fun h=>c6 (bP 7 _ h rfl ⟨6,.chain⟩ (by simp) rfl);have eB:=o7 (cA.o.on bA) me s1 s4 a8 N a1 s2 s3 s5 a7 aE b1 S T a2 a6;have bW:=ah x M (L O me) (J s1 s2 s3) (J s4 s5 a7) (J a8 aE b1) (J N S T) (J a1 a2 a6);have bX:=cA.o.on bA;have e7:abA W b3 b6 M me s1 s2 s3 s4 s5 a7 a8 aE b1 N S T a1 a2 a6 par r F G H po b8 b7 b5 b9 p (fun j=>j=6\/D j) (gH x M (L O me) (J s1 s2 s3) (J s4 s5 a7) (J a8 aE b1) (J N S T) (J a1 a2 a6)):=⟨fun h=>absurd (aV rfl) h,fun _=>⟨⟨(But.of_below bA).trans bW,fun B hB=>dJ (b:=M) (bA.mono (aH hB (Nat.le_of_lt cA.o.lt))) hB (L O me) (J s1 s2 s3) (J s4 s5 a7) (J a8 aE b1) (J N S T) (J a1 a2 a6)⟩,dM bX (L O me) (J s1 s2 s3) (J s4 s5 a7) (J a8 aE b1) (J N S T) (J a1 a2 a6)⟩⟩;generalize gH x M (L O me) (J s1 s2 s3) (J s4 s5 a7) (J a8 aE b1) (J N S T) (J a1 a2 a6)=f3 at *;have q:=bE (aR aX) f3 trivial e7 (fun j u cD bM d3 d4 cF h=>by
    rcases (by omega:j=0\/j=1\/j=2\/j=3\/j=4\/j=5\/j=6\/j=7) with rfl|rfl|rfl|rfl|rfl|rfl|rfl|rfl
    ·exact h
    ·exact h
    ·exact h
    ·obtain⟨s,b4,b2⟩:=h; exact⟨s,b4,bW.own b2 bX (by decide)⟩
    ·obtain⟨s,b4,b2⟩:=h; exact⟨s,b4,bW.own b2 bX (by decide)⟩
    ·obtain⟨s,b4,b2⟩:=h; exact⟨s,bW.own b4 bX (by decide),bW.own b2 bX (by decide)⟩
    ·exact h
    ·exact absurd bM c8)
   exact bU 30 (Z 6) (Z 18) rfl rfl rfl rfl e4 dZ eB q
  ·cases bI;have d7:=seen.at_ ⟨5,.data⟩ (by simp) rfl (au (by decide)) _ rfl;exact aB rfl rfl (bZ a.eval _ (Z 23) rfl x) (bE _ _ d7 (c9 7 (by decide)) fun _ _ _ _ _ _ _ h=>h)
 ·intro a x df sz kp ⟨f7,cX⟩ ⟨D,e8,I⟩;obtain⟨s,bB,cI⟩:=(cX 7 (by omega)).2 (by decide);have cQ:=(cX 7 (by omega)).1 7 rfl;obtain⟨e5,e6⟩:=I.2 (e8 6 (by omega));obtain⟨cG,cH,eC⟩:=(Row.dL bB).len;rw [eC] at cQ bB;exact cP.o a x s cG cH df ((kp 6 (nd 6 (by decide))).trans rfl) cQ e6 e5 bB cI
def RtQ (W:aC) (P:Prop) (j:Br×List Ou) (e:Ending) (w':aC):Prop:=(∃ (r av F q u s:Sl) (G:List nu),e=.returned (.tuple #[mg j.1.me r av F q u,eu s])/\qF w' j.1 r av F q u/\(P->mq w' j.1 r av F q u)/\sP w' W.heap.size (eu s) G j.2)/\Below W.heap.size W w'
theorem J8 (b:Br) (s1:OA) (s2 s3:Nat) (s4:OA) (s5 b8:Nat) (b9:OA) (bA bB:Nat) (b1:OA) (b2 b4:Nat) (b5:OA) (b6 b7:Nat) (par:Int) (bO bP bT bW:Int) (po:OA) (c7 c6:Nat) (c8:Int) (c9:Bool) (e:En) (w:aC) (h:qF w b (s1,s2,s3) (s4,s5,b8) (b9,bA,bB) (b1,b2,b4) (b5,b6,b7)) (cW:jF w (bO,bP,bT,bW,(po,c7,c6),c8,c9) e) (e9:Am b) (eA:rR b) (cD:kD b.ent) (pe:∀ e∈b.ent,dX e.p) (pp:dX e.p) :
  bV aI 45 #[aD #[L O b.me,J s1 s2 s3,J s4 s5 b8,J b9 bA bB,J b1 b2 b4,J b5 b6 b7],L O par,aD #[L O bO,L O bP,L O bT,L O bW,J po c7 c6,L O c8,aR c9]] w (RtQ w (mq w b (s1,s2,s3) (s4,s5,b8) (b9,bA,bB) (b1,b2,b4) (b5,b6,b7)) (iP b par e)):=by
 obtain⟨cS,cT,cU,cV⟩:=gT w #[L O b.me,J s1 s2 s3,J s4 s5 b8,J b9 bA bB,J b1 b2 b4,J b5 b6 b7] #[L O bO,L O bP,L O bT,L O bW,J po c7 c6,L O c8,aR c9] #[L O 0,J X 0 0,J X 0 0,J X 0 0,J X 0 0,J X 0 0] 30 67 30;have cG:=C (fun W aE=>aaI b e (s1,s2,s3) (s4,s5,b8) (b9,bA,bB) (b1,b2,b4) (b5,b6,b7) (bO,bP,bT,bW,(po,c7,c6),c8,c9) W (h.br.on (show Below w.heap.size w W from aE)) (cW.on aE) e9 eA cD pe pp);have e0:=C h.no;have e2:=C (show ∀ W,Below w.heap.size w W->mq w b (s1,s2,s3) (s4,s5,b8) (b9,bA,bB) (b1,b2,b4) (b5,b6,b7)->mq W b (s1,s2,s3) (s4,s5,b8) (b9,bA,bB) (b1,b2,b4) (b5,b6,b7) from fun W aE f4=>f4.on aE);have eS:=C (iF pp);have cQ:=C cW;have e5:=C (show iP b par e=((iL b e).1,if (iL b e).2=aX then [rF par e] else []) from rfl);have cA:=C (je b e);obtain⟨me,cX⟩:∃ me,me=b.me:=⟨_,rfl⟩;have cR:=C cX;simp only [<- cX] at cS cT cU cV cG ⊢;have bX:=C (cS);have d0:=C (cT);have cY:=C (cU);have dZ:=C (cV);clear cS cT cU cV h cW e9 eA cD pe pp cX;go_enter bN,Tryz.ntmps45;go_upto_region 1 with fail;generalize (((w.alloc (aJ #[L O me,J s1 s2 s3,J s4 s5 b8,J b9 bA bB,J b1 b2 b4,J b5 b6 b7] 30)).alloc (aJ #[L O bO,L O bP,L O bT,L O bW,J po c7 c6,L O c8,aR c9] 67)).alloc (aJ #[L O 0,J X 0 0,J X 0 0,J X 0 0,J X 0 0,J X 0 0] 30))=W at *;have e4:=C (cG.o W bX.o);clear cG;have e3:=C (e2.o W bX.o);have e1:=C (e0.o.on bX.o);clear e2 e0;obtain⟨d5,d6,d7,d8,d9,dA⟩:=d0.o.fA;obtain⟨eL,g2,g3,g4,g5,g6,g7⟩:=cY.o.oz;go_wp2_with fail;refine e4.o.mono ?_;rintro gO w1 ⟨⟨⟨j,N,S⟩,⟨T,a1,a2⟩,⟨a6,a7,a8⟩,⟨u,F,G⟩,⟨H,I,M⟩,rfl,e8,eB,e7⟩,aE⟩;clear e4;clear d5 d6 d7 d8 d9 dA eL g2 g3 g4 g5 g6 g7;have eE:=C (bX.o.trans (aE.mono bX.o.size));have bM:=C (d0.o.on aE);have dT:=C (cY.o.on aE);have dS:=C (dZ.o.on aE);clear bX d0 cY dZ;generalize cD:(iL b e).2=r at *;have dC:=C (show qF w1 (iL b e).1 (j,N,S) (T,a1,a2) (a6,a7,a8) (u,F,G) (H,I,M) from ⟨e8,by rw [cA.o.2.1]; exact (eB e1.o).elim fun B q=>⟨B,by rw [<- cA.o.2.1]; exact q⟩⟩);have dE:=C (show (mq w b (s1,s2,s3) (s4,s5,b8) (b9,bA,bB) (b1,b2,b4) (b5,b6,b7)\/r=aX)->mq w1 (iL b e).1 (j,N,S) (T,a1,a2) (a6,a7,a8) (u,F,G) (H,I,M) from fun h=>e7 (h.imp e3.o id));clear e8 eB e7 aE cD e3 e1;rw [show (iL b e).1.me=me from by rw [cA.o.1,cR.o]];obtain⟨f8,f9,fL,fN,fR,fS⟩:=bM.o.fA;obtain⟨fV,fW,fX,fY,g0,g1⟩:=bM.o.kg;have eJ:=bM.o.lt;have bC:=ah w1 w.heap.size (L O me) (J j N S) (J T a1 a2) (J a6 a7 a8) (J u F G) (J H I M);have cH:=C (dJ (b:=w.heap.size) eE.o (aZ _) (L O me) (J j N S) (J T a1 a2) (J a6 a7 a8) (J u F G) (J H I M));have cI:=C (bC.box dT.o (by omega));have cJ:=C (bC.box dS.o (by omega));have cL:=C (dC.o.keep (s1:=(s1,s2,s3)) (s2:=(s4,s5,b8)) (s3:=(b9,bA,bB)) (s4:=(b1,b2,b4)) (s5:=(b5,b6,b7)) (me:=me) bM.o bC);have cM:=C (fun h=>mq.uO (dE.o h) bC bM.o (by decide) (by decide) (by decide) (by decide) (by decide) (by decide));have cN:=C (dM bM.o (L O me) (J j N S) (J T a1 a2) (J a6 a7 a8) (J u F G) (J H I M));clear bC eE dT dS dC dE bM;go_upto_region 2 with fail;clear eJ f8 f9 fL fN fR fS fV fW fX fY g0 g1;unfold gH at cH cI cJ cL cM cN;generalize ((((((w1.setCell ⟨w.heap.size,0,X⟩ (L O me)).setCell ⟨w.heap.size,1,X⟩ (J j N S)).setCell ⟨w.heap.size,2,X⟩ (J T a1 a2)).setCell ⟨w.heap.size,3,X⟩ (J a6 a7 a8)).setCell ⟨w.heap.size,4,X⟩ (J u F G)).setCell ⟨w.heap.size,5,X⟩ (J H I M))=eI at *;have cC:=C (cH.o);have eV:=C (cI.o);have bE:=C (cJ.o);have f0:=C (cL.o);have e6:=C (cM.o);have bI:=C (cN.o);clear cH cI cJ cL cM cN;cases r
 ·have d5:=bI.o.cell 0;have d6:=bI.o.cell 1;have d7:=bI.o.cell 2;have d8:=bI.o.cell 3;have d9:=bI.o.cell 4;have dA:=bI.o.cell 5;simp only [aj,ay,aA] at d5 d6 d7 d8 d9 dA;have eW:=C (fun h=>e6.o (aV h));obtain⟨gR,gS,h0,h1,h2,r5⟩:=bE.o.fA;obtain⟨g8,g9,gA,gC,gE,gI⟩:=bE.o.kg;have eJ:=bE.o.lt;have bC:=ah eI (w.heap.size+1+1) (L O me) (J j N S) (J T a1 a2) (J a6 a7 a8) (J u F G) (J H I M);have eM:=C (dM bE.o (L O me) (J j N S) (J T a1 a2) (J a6 a7 a8) (J u F G) (J H I M));have cF:=C (dJ (b:=w.heap.size+1+1) cC.o (by omega) (L O me) (J j N S) (J T a1 a2) (J a6 a7 a8) (J u F G) (J H I M));have eN:=C (f0.o.keep (s1:=(X,0,0)) (s2:=(X,0,0)) (s3:=(X,0,0)) (s4:=(X,0,0)) (s5:=(X,0,0)) (me:=0) bE.o bC);have eQ:=C (fun h=>mq.uO (eW.o h) bC bE.o (by decide) (by decide) (by decide) (by decide) (by decide) (by decide));clear bC;go_wp2_with fail;obtain⟨v0,d3,d4,v3,v4,v5⟩:=eM.o.fA;refine aN (v:=.tuple #[aD #[L O me,J j N S,J T a1 a2,J a6 a7 a8,J u F G,J H I M],J X 0 0]) (by simp [results,bG,go_sem,v0,d3,d4,v3,v4,v5]) rfl ?_;rw [e5.o,if_neg (by simp)];exact⟨⟨(j,N,S),(T,a1,a2),(a6,a7,a8),(u,F,G),(H,I,M),(X,0,0),[],by rw [cA.o.1,cR.o],eN.o,eQ.o,sP.nil _ _⟩,cF.o⟩
 ·have eK:=C (e6.o (au rfl));go_upto_region 4 with fail;refine rV _ eI w.heap.size (w.heap.size+1) (w.heap.size+1+1) me j N S T a1 a2 a6 a7 a8 u F G H I M par bO bP bT bW po c7 c6 c8 c9 e.p _ _ _ _ _ _ _ _ _ _ _ _ _ _ _ _ _ _ _ _ _ _ _ _ _ _ bI.o eV.o bE.o (by omega) (by omega) (cQ.o.2.2.2.2.on cC.o) eS.o ?_;intro a y s d1 d2 f5 f1 f2 f3 eC f7 f6;have cP:=C (eK.o.uO eC.1 bE.o (by decide) (by decide) (by decide) (by decide) (by decide) (by decide));have cF:=C (cC.o.trans (eC.2 w.heap.size (by omega)));have eR:=C (show sP y w.heap.size (J d1 1 d2) [(par,3,bO,bP,bT,bW,s,(X,0,0))] [rF par e] from ⟨dO f7 cC.o.size,.cons ⟨rfl,rfl,cQ.o.1,cQ.o.2.1,dO f6 cC.o.size,rfl⟩ .nil⟩);obtain⟨v0,d3,d4,v3,v4,v5⟩:=f3.fA;simp only [Exit.then]
  apply_assumption
  go_wp2_with fail;refine aN (v:=.tuple #[aD #[L O me,J j N S,J T a1 a2,J a6 a7 a8,J u F G,J H I M],J d1 1 d2]) (by simp [results,bG,go_sem,f1,f2,v0,d3,d4,v3,v4,v5]) f5 ?_;rw [e5.o];simp only [if_true];exact⟨⟨(j,N,S),(T,a1,a2),(a6,a7,a8),(u,F,G),(H,I,M),(d1,1,d2),_,by rw [cA.o.1,cR.o],⟨cP.o.br,cP.o.no⟩,fun _=>cP.o,eR.o⟩,cF.o⟩
def alO (_B:Nat) (_ _ _ _ n:Nat) (me:Int) (s1:OA) (s2 s3:Nat) (s4:OA) (s5 S:Nat) (T:OA) (a1 a2:Nat) (F:OA) (G H:Nat) (I:OA) (M N:Nat) (par t1 t2 j q:Int) (u:aK) (_:List nu) (l:List Ou) (_:Br) (_ _ _ _ _ _:aK) (i:Nat) (v:aK) (x:aC):Prop :=
 match i with
 | 0=>v=aD #[L O me,J s1 s2 s3,J s4 s5 S,J T a1 a2,J F G H,J I M N]
 | 1=>v=u
 | 2=>v=L O par
 | 3=>v=aD #[L O t1,L O t2]
 | 4=>v=aD #[L O j,L O q]
 | 5=>v=aD #[L O 4,L O t1,L O t2,L O j,L O q,J X 0 0,J X 0 0]
 | 6=>v=vP (par,4,t1,t2,j,q,(X,0,0),(X,0,0))
 | 7=>kF x _B v [(par,4,t1,t2,j,q,(X,0,0),(X,0,0))]
 | 8=>∃ r:List nu,sP x n v r (l++[⟨par,4,(t1,t2),(j,q),[]⟩])
 | 9=>True
 | 10=>∃ r:List nu,sP x n v r (l++[⟨par,4,(t1,t2),(j,q),[]⟩])
 | _=>True
def GY (W:aC) (T a2 a6 S n:Nat) (me:Int) (s1:OA) (s2 s3:Nat) (s4:OA) (s5 H:Nat) (I:OA) (M N:Nat) (j:OA) (q r:Nat) (u:OA) (F G:Nat) (_ t1 t2 a7 a8:Int) (_:aK) (_:List nu) (_:List Ou) (a1:Br) (z0 aE b1 z3 z4 z5:aK) (D:Nat->Prop) (x:aC):Prop:=(¬ D 8->Below W.heap.size W x)/\(D 8->¬ D 9->(Below n W x/\mq x a1 (s1,s2,s3) (s4,s5,H) (I,M,N) (j,q,r) (u,F,G)/\dN x T #[L O me,J s1 s2 s3,J s4 s5 H,J I M N,J j q r,J u F G] 30/\dN x S #[z0,aE,b1,z3,z4,z5] 30/\dN x a2 #[L O t1,L O t2] 23/\dN x a6 #[L O a7,L O a8] 23))/\(D 9->Below n W x/\mq x a1 (s1,s2,s3) (s4,s5,H) (I,M,N) (j,q,r) (u,F,G)/\dN x T #[L O me,J s1 s2 s3,J s4 s5 H,J I M N,J j q r,J u F G] 30/\dN x S #[L O me,J s1 s2 s3,J s4 s5 H,J I M N,J j q r,J u F G] 30)
noncomputable def afO:Code:=((Tryz.f48.body.bind (eX 10)).getD .skip)
theorem apt (Q:bY->Act->aC->Prop) (W:aC) (b2 b4 b5 H n:Nat) (me:Int) (s1:OA) (s2 s3:Nat) (s4:OA) (s5 a6:Nat) (a7:OA) (a8 aE:Nat) (M:OA) (N S:Nat) (T:OA) (a1 a2:Nat) (par t1 t2 G F:Int) (b8:aK) (bI:List nu) (l:List Ou) (bE:Br) (z0 bM bO z3 z4 z5:aK) {fV u2 u3 h6 u6 u9 u11 fW u13 fX fY g0 g1 g2 g3 g4 g5 g6 g7 g8 g9 gA gC gE gI gO gR gS h0 h1 h2 h3 h4 h5 h7 h8 h9 hA hC hD hE hF hG hH hI hJ:aK}
  (dC:dN W b2 #[L O me,J s1 s2 s3,J s4 s5 a6,J a7 a8 aE,J M N S,J T a1 a2] 30) (dE:dN W b4 #[L O t1,L O t2] 23) (dS:dN W b5 #[L O G,L O F] 23) (dA:dN W H #[z0,bM,bO,z3,z4,z5] 30) (e2:b2≠H) (e3:b4≠H) (bT:b5≠H) (b9:sP W n b8 bI l) (dZ:n<=W.heap.size) (cM:bI.length<=900) (d7:mq W bE (s1,s2,s3) (s4,s5,a6) (a7,a8,aE) (M,N,S) (T,a1,a2)) (cN:n<=H)
  (dT:∀ (a:Act) (y:aC) (c6:List nu) (cQ:OA) (cR:Nat),a.defers=[]->a.tmps[10]?=U (Y (U ⟨H,0,X⟩))->a.tmps[11]?=U (J cQ c6.length cR)->dN y H #[L O me,J s1 s2 s3,J s4 s5 a6,J a7 a8 aE,J M N S,J T a1 a2] 30->Below n W y->mq y bE (s1,s2,s3) (s4,s5,a6) (a7,a8,aE) (M,N,S) (T,a1,a2)->sP y n (J cQ c6.length cR) c6 (l++[⟨par,4,(t1,t2),(G,F),[]⟩])->Q .normal a y) :
  Code.wp aI afO Q ⟨(fV::L O par::u2::u3::h6::Y (U ⟨b2,0,X⟩)::u6::Y (U ⟨b4,0,X⟩)::Y (U ⟨b5,0,X⟩)::u9::Y (U ⟨H,0,X⟩)::u11::fW::u13::b8::fX::fY::g0::g1::g2::g3::g4::g5::g6::g7::g8::g9::gA::gC::gE::gI::gO::gR::gS::h0::h1::h2::h3::h4::h5::h7::h8::h9::hA::hC::hD::hE::hF::hG::hH::hI::hJ::[]).toArray,[]⟩ W:=by
 have d6:=C dT;have d3:=C dC;have d4:=C dE;have d5:=C dS;have e8:=C dA;have eA:=C e2;have hP:=C e3;have hQ:=C bT;have e4:=C b9;have cS:=C dZ;have e9:=C cM;have e5:=C d7;have eB:=C cN;clear dT dC dE dS dA e2 e3 bT b9 dZ cM d7 cN;have eI:∀ D x,GY W b2 b4 b5 H n me s1 s2 s3 s4 s5 a6 a7 a8 aE M N S T a1 a2 par t1 t2 G F b8 bI l bE z0 bM bO z3 z4 z5 D x->dN x b2 #[L O me,J s1 s2 s3,J s4 s5 a6,J a7 a8 aE,J M N S,J T a1 a2] 30:=fun D x I=>by
  by_cases b7:D 8
  ·by_cases d8:D 9
   ·exact (I.2.2 d8).2.2.1
   ·exact (I.2.1 b7 d8).2.2.1
  ·exact d3.o.on (I.1 b7)
 have eC:∀ D x,GY W b2 b4 b5 H n me s1 s2 s3 s4 s5 a6 a7 a8 aE M N S T a1 a2 par t1 t2 G F b8 bI l bE z0 bM bO z3 z4 z5 D x->¬ D 9->dN x b4 #[L O t1,L O t2] 23:=fun D x I bC=>by
  by_cases b7:D 8
  ·exact (I.2.1 b7 bC).2.2.2.2.1
  ·exact d4.o.on (I.1 b7)
 have eE:∀ D x,GY W b2 b4 b5 H n me s1 s2 s3 s4 s5 a6 a7 a8 aE M N S T a1 a2 par t1 t2 G F b8 bI l bE z0 bM bO z3 z4 z5 D x->¬ D 9->dN x b5 #[L O G,L O F] 23:=fun D x I bC=>by
  by_cases b7:D 8
  ·exact (I.2.1 b7 bC).2.2.2.2.2
  ·exact d5.o.on (I.1 b7)
 unfold afO
 conv=>arg 2; whnf
 have nd:∀ j,(∀ i,i<11->[U 43,U 44,U 45,U 46,U 47,U 48,U 49,U 50,U 51,X,U 11].getD i X≠U j)->∀ i,i<11->(fun i=>[U 43,U 44,U 45,U 46,U 47,U 48,U 49,U 50,U 51,X,U 11].getD i X) i≠U j:=fun j h=>h;refine cu 11 (fun i=>[U 43,U 44,U 45,U 46,U 47,U 48,U 49,U 50,U 51,X,U 11].getD i X) (fun i=>if i=7 then 8 else 11) (alO W.heap.size b2 b4 b5 H n me s1 s2 s3 s4 s5 a6 a7 a8 aE M N S T a1 a2 par t1 t2 G F b8 bI l bE z0 bM bO z3 z4 z5) (GY W b2 b4 b5 H n me s1 s2 s3 s4 s5 a6 a7 a8 aE M N S T a1 a2 par t1 t2 G F b8 bI l bE z0 bM bO z3 z4 z5) (by kernel_rfl) (by kernel_rfl) rfl (fun i j e cL cA c9 cC=>(by decide:∀ i,i<11->∀ j,j<11->([U 43,U 44,U 45,U 46,U 47,U 48,U 49,U 50,U 51,X,U 11].getD i X).isSome=aX->[U 43,U 44,U 45,U 46,U 47,U 48,U 49,U 50,U 51,X,U 11].getD i X=[U 43,U 44,U 45,U 46,U 47,U 48,U 49,U 50,U 51,X,U 11].getD j X->i=j) i cL j cA (by have c9:[U 43,U 44,U 45,U 46,U 47,U 48,U 49,U 50,U 51,X,U 11].getD i X=U e:=c9; rw [c9]; rfl) (c9.trans cC.symm)) (fun i e cL h=>(by decide:∀ i,i<11->∀ q∈[U 43,U 44,U 45,U 46,U 47,U 48,U 49,U 50,U 51,X,U 11].getD i X,q<52) i cL e h) (⟨fun _=>(ak _ _).drew,fun h=>h.elim,fun h=>h.elim⟩) ?_ ?_
 ·intro i o cL bB a x D bP b1 f7 I seen K bA;clear d6;have bW:∀ i,i≠7/\i≠8/\i≠9->GY W b2 b4 b5 H n me s1 s2 s3 s4 s5 a6 a7 a8 aE M N S T a1 a2 par t1 t2 G F b8 bI l bE z0 bM bO z3 z4 z5 (fun j=>j=i\/D j) x:=fun i e0=>⟨fun h=>I.1 fun cC=>h (au cC),fun c9 cC=>I.2.1 (c9.resolve_left (Ne.symm e0.2.1)) fun f6=>cC (au f6),fun h=>I.2.2 (h.resolve_left (Ne.symm e0.2.2))⟩;rcases (by omega:i=0\/i=1\/i=2\/i=3\/i=4\/i=5\/i=6\/i=7\/i=8\/i=9\/i=10) with rfl|rfl|rfl|rfl|rfl|rfl|rfl|rfl|rfl|rfl|rfl
  ·cases bB;have f0:a.eval (Z 5)=Y (U ⟨b2,0,X⟩):=seen.kp 5 _ (nd 5 (by decide)) rfl;obtain⟨cD,cF,hL,hM,hN,hO⟩:=(eI D x I).fA;exact aB rfl rfl (aQ a.eval _ 30 (Z 5) rfl (by rw [f0]; simp [go_sem,cD,cF,hL,hM,hN,hO])) (bA _ _ rfl (bW 0 (by decide)) fun _ _ _ _ _ _ _ h=>h)
  ·cases bB;have eL:a.eval (Z 14)=b8:=seen.kp 14 _ (nd 14 (by decide)) rfl;exact aB rfl rfl (bJ a.eval _ (Z 14) rfl x) (bA _ _ eL (bW 1 (by decide)) fun _ _ _ _ _ _ _ h=>h)
  ·cases bB;have eJ:a.eval (Z 1)=L O par:=seen.kp 1 _ (nd 1 (by decide)) rfl;exact aB rfl rfl (bJ a.eval _ (Z 1) rfl x) (bA _ _ eJ (bW 2 (by decide)) fun _ _ _ _ _ _ _ h=>h)
  ·cases bB;have bC:¬ D 9:=fun cX=>bP (b1 5 _ (b1 6 _ (b1 7 _ (b1 8 _ (b1 9 _ cX rfl ⟨8,.chain⟩ (by simp) rfl) rfl ⟨7,.data⟩ (by simp) rfl) rfl ⟨6,.data⟩ (by simp) rfl) rfl ⟨5,.data⟩ (by simp) rfl) rfl ⟨3,.data⟩ (by simp) rfl);have f1:a.eval (Z 7)=Y (U ⟨b4,0,X⟩):=seen.kp 7 _ (nd 7 (by decide)) rfl;obtain⟨cD,cF⟩:=(eC D x I bC).cs2;exact aB rfl rfl (aQ a.eval _ 23 (Z 7) rfl (by rw [f1]; simp [go_sem,cD,cF])) (bA _ _ rfl (bW 3 (by decide)) fun _ _ _ _ _ _ _ h=>h)
  ·cases bB;have bC:¬ D 9:=fun cX=>bP (b1 5 _ (b1 6 _ (b1 7 _ (b1 8 _ (b1 9 _ cX rfl ⟨8,.chain⟩ (by simp) rfl) rfl ⟨7,.data⟩ (by simp) rfl) rfl ⟨6,.data⟩ (by simp) rfl) rfl ⟨5,.data⟩ (by simp) rfl) rfl ⟨4,.data⟩ (by simp) rfl);have f2:a.eval (Z 8)=Y (U ⟨b5,0,X⟩):=seen.kp 8 _ (nd 8 (by decide)) rfl;obtain⟨cD,cF⟩:=(eE D x I bC).cs2;exact aB rfl rfl (aQ a.eval _ 23 (Z 8) rfl (by rw [f2]; simp [go_sem,cD,cF])) (bA _ _ rfl (bW 4 (by decide)) fun _ _ _ _ _ _ _ h=>h)
  ·cases bB;have eR:a.eval (Z 46)=aD #[L O t1,L O t2]:=seen.at_ ⟨3,.data⟩ (by simp) rfl (au (by decide)) _ rfl;have eS:a.eval (Z 47)=aD #[L O G,L O F]:=seen.at_ ⟨4,.data⟩ (by simp) rfl (au (by decide)) _ rfl;exact aB rfl rfl (bS a.eval _ 43 #[(0,.const (L O 4)),(1,Z 46),(2,Z 47)] rfl (ps:=#[(0,L O 4),(1,aD #[L O t1,L O t2]),(2,aD #[L O G,L O F])]) (by simp only [aL,aP,aU,eR,eS]; rfl) (by simp [go_sem])) (bA _ _ rfl (bW 5 (by decide)) fun _ _ _ _ _ _ _ h=>h)
  ·cases bB;have eQ:a.eval (Z 45)=L O par:=seen.at_ ⟨2,.data⟩ (by simp) rfl (au (by decide)) _ rfl;have eV:a.eval (Z 48)=aD #[L O 4,L O t1,L O t2,L O G,L O F,J X 0 0,J X 0 0]:=seen.at_ ⟨5,.data⟩ (by simp) rfl (au (by decide)) _ rfl;exact aB rfl rfl (bS a.eval _ 46 #[(0,Z 45),(1,Z 48)] rfl (ps:=#[(0,L O par),(1,aD #[L O 4,L O t1,L O t2,L O G,L O F,J X 0 0,J X 0 0])]) (by simp only [aL,aP,aU,eQ,eV]) (by simp [go_sem])) (bA _ _ rfl (bW 6 (by decide)) fun _ _ _ _ _ _ _ h=>h)
  ·cases bB;have eW:a.eval (Z 49)=vP (par,4,t1,t2,G,F,(X,0,0),(X,0,0)):=seen.at_ ⟨6,.data⟩ (by simp) rfl (au (by decide)) _ rfl;have bT:¬ D 8:=fun h=>bP (b1 8 _ h rfl ⟨7,.data⟩ (by simp) rfl);have bC:¬ D 9:=fun h=>bT (b1 9 _ h rfl ⟨8,.chain⟩ (by simp) rfl);have b6:=I.1 bT;have cM:=jL Ic x [((par,4,t1,t2,G,F,(X,0,0),(X,0,0)):nu)] 1 rfl (by simp) (jW (par,4,t1,t2,G,F,(X,0,0),(X,0,0))).toArray (by simp [flat,EU]);have cN:=fP x (aJ (jW (par,4,t1,t2,G,F,(X,0,0),(X,0,0))).toArray 46);exact aB rfl rfl (cB a.eval _ 37 1 #[(0,Z 49)] rfl (ps:=#[(0,vP (par,4,t1,t2,G,F,(X,0,0),(X,0,0)))]) (by simp [eW]) (by simp [go_sem])) (bA (J (U ⟨x.heap.size,0,X⟩) 1 1) (x.alloc (aJ (jW (par,4,t1,t2,G,F,(X,0,0),(X,0,0))).toArray 46)) (dO cM b6.size) ⟨fun _=>b6.trans (cN.mono b6.size),fun h=>absurd (h.resolve_left (by decide)) bT,fun h=>absurd (h.resolve_left (by decide)) bC⟩ (fun j u cA c7 cY d0 cP h=>by
    rcases (by omega:j=0\/j=1\/j=2\/j=3\/j=4\/j=5\/j=6\/j=7\/j=8\/j=9\/j=10) with rfl|rfl|rfl|rfl|rfl|rfl|rfl|rfl|rfl|rfl|rfl
    ·exact h
    ·exact h
    ·exact h
    ·exact h
    ·exact h
    ·exact h
    ·exact h
    ·exact absurd rfl cP
    ·exact absurd c7 bT
    ·exact h
    ·exact absurd (b1 10 _ c7 rfl ⟨8,.data⟩ (by simp) rfl) bT))
  ·cases bB;have eN:a.eval (Z 44)=b8:=seen.at_ ⟨1,.data⟩ (by simp) rfl (au (by decide)) _ rfl;have e6:=seen.at_ ⟨7,.data⟩ (by simp) rfl (aV rfl) _ rfl;have bC:¬ D 9:=fun h=>bP (b1 9 _ h rfl ⟨8,.chain⟩ (by simp) rfl);have b6:=I.1 bP;have b9:=e4.o.on b6;obtain⟨hK,d2,r,fS,bX⟩:=iC Ic n b9.row (Row.dL e6) (by have:=e9.o; omega) (by simp) (aH cS.o b6.size) 37;have f9:=b9.more bX fS (m:=[⟨par,4,(t1,t2),(G,F),[]⟩]) (.cons (show OuO _ _ _ _ from ⟨rfl,rfl,rfl,rfl,iR _ _,rfl⟩) .nil);have cG:Below n W d2:=(b6.mono cS.o).grown bX (aH cS.o b6.size) (fun j cA=>(b9.row.lt j cA).1);have cH:=mq.app b9.row bX (e5.o.on b6);have cI:=mE b9.row bX (d3.o.on b6) (by decide);have cJ:=mE b9.row bX (e8.o.on b6) (by decide);have f4:=mE b9.row bX (d4.o.on b6) (by decide);have f5:=mE b9.row bX (d5.o.on b6) (by decide);have cW:GY W b2 b4 b5 H n me s1 s2 s3 s4 s5 a6 a7 a8 aE M N S T a1 a2 par t1 t2 G F b8 bI l bE z0 bM bO z3 z4 z5 (fun j=>j=8\/D j) d2:=⟨fun h=>absurd (aV rfl) h,fun _ _=>⟨cG,cH,cI,cJ,f4,f5⟩,fun h=>absurd (h.resolve_left (by decide)) bC⟩;have q:=bA hK d2 ⟨_,f9⟩ cW (fun j u cA c7 cY d0 cP h=>by
    rcases (by omega:j=0\/j=1\/j=2\/j=3\/j=4\/j=5\/j=6\/j=7\/j=8\/j=9\/j=10) with rfl|rfl|rfl|rfl|rfl|rfl|rfl|rfl|rfl|rfl|rfl
    ·exact h
    ·exact h
    ·exact h
    ·exact h
    ·exact h
    ·exact h
    ·exact h
    ·exact absurd rfl d0
    ·exact absurd rfl cP
    ·exact h
    ·exact absurd (b1 10 _ c7 rfl ⟨8,.data⟩ (by simp) rfl) bP)
   exact aB rfl rfl (Rg.gV a.eval _ (Z 44) (Z 50) 37 rfl eN rfl r) q
  ·cases bB;have eK:a.eval (Z 10)=Y (U ⟨H,0,X⟩):=seen.kp 10 _ (nd 10 (by decide)) rfl;have eM:a.eval (Z 43)=aD #[L O me,J s1 s2 s3,J s4 s5 a6,J a7 a8 aE,J M N S,J T a1 a2]:=seen.at_ ⟨0,.data⟩ (by simp) rfl (au (by decide)) _ rfl;have b7:D 8:=f7 ⟨8,.chain⟩ (by simp) rfl;have fR:¬ D 10:=fun h=>bP (b1 10 _ h rfl ⟨9,.chain⟩ (by simp) rfl);obtain⟨cU,cV,f3,c8,_⟩:=I.2.1 b7 bP;have fL:=o7 c8 me s1 s4 a7 M T s2 s3 s5 a6 a8 aE N S a1 a2;have cT:=ah x H (L O me) (J s1 s2 s3) (J s4 s5 a6) (J a7 a8 aE) (J M N S) (J T a1 a2);have cG:=dJ (b:=H) cU eB.o (L O me) (J s1 s2 s3) (J s4 s5 a6) (J a7 a8 aE) (J M N S) (J T a1 a2);have cH:=cV.uO cT c8 (by decide) (by decide) (by decide) (by decide) (by decide) (by decide);have cI:=cT.box f3 eA.o;have cJ:=dM c8 (L O me) (J s1 s2 s3) (J s4 s5 a6) (J a7 a8 aE) (J M N S) (J T a1 a2);have cW:GY W b2 b4 b5 H n me s1 s2 s3 s4 s5 a6 a7 a8 aE M N S T a1 a2 par t1 t2 G F b8 bI l bE z0 bM bO z3 z4 z5 (fun j=>j=9\/D j) (gH x H (L O me) (J s1 s2 s3) (J s4 s5 a6) (J a7 a8 aE) (J M N S) (J T a1 a2)):=⟨fun h=>absurd (au b7) h,fun _ h=>absurd (aV rfl) h,fun _=>⟨cG,cH,cI,cJ⟩⟩;clear cG cH cI cJ;generalize gH x H (L O me) (J s1 s2 s3) (J s4 s5 a6) (J a7 a8 aE) (J M N S) (J T a1 a2)=F at *;have q:=bA (aR aX) F trivial cW (fun j u cA c7 cY d0 cP h=>by
    rcases (by omega:j=0\/j=1\/j=2\/j=3\/j=4\/j=5\/j=6\/j=7\/j=8\/j=9\/j=10) with rfl|rfl|rfl|rfl|rfl|rfl|rfl|rfl|rfl|rfl|rfl
    ·exact h
    ·exact h
    ·exact h
    ·exact h
    ·exact h
    ·exact h
    ·exact h
    ·exact absurd b7 cY
    ·obtain⟨c6,h⟩:=h; exact⟨c6,h.but cT c8 (by decide) (by decide)⟩
    ·exact h
    ·exact absurd c7 fR)
   exact bU 30 (Z 10) (Z 43) rfl rfl rfl rfl eK eM fL q
  ·cases bB;have e7:=seen.at_ ⟨8,.data⟩ (by simp) rfl (au (by decide)) _ rfl;exact aB rfl rfl (bZ a.eval _ (Z 51) rfl x) (bA _ _ e7 (bW 10 (by decide)) fun _ _ _ _ _ _ _ h=>h)
 ·intro a x df sz kp ⟨hR,e1⟩ ⟨D,f8,I⟩;obtain⟨c6,d1⟩:=(e1 10 (by omega)).2 (by decide);have d9:=(e1 10 (by omega)).1 11 rfl;obtain⟨cU,cV,_,c8⟩:=I.2.2 (f8 9 (by omega));obtain⟨cQ,cR,fN⟩:=(Row.dL d1.row).len;rw [fN] at d9 d1;exact d6.o a x c6 cQ cR df ((kp 10 (nd 10 (by decide))).trans rfl) d9 c8 cU cV d1
theorem ajt {V wr:aC} {B:Nat} {v:aK} {p:List C5} (h:PM (vw V) B wr v p):fO wr v p:=h.elim Lb Row.dL
theorem aes (b:Br) (t x:fB) (f:Int) (h:b.ent.length<=900):(takeB b t x f).2.1.length<=900:=aH (oU b t x f).2 h
theorem Xh {l:List En} {k:Nat} {e:En} (par:Int) (h:l[k]?=U e):(l.take (k+1)).map (rF par)=(l.take k).map (rF par)++[rF par e]:=by
 rw [List.take_add_one,h,List.map_append]
 rfl
theorem J9 (b:Br) (s1:OA) (s2 s3:Nat) (s4:OA) (s5 bX:Nat) (c6:OA) (c7 c8:Nat) (bI:OA) (bM bO:Nat) (bP:OA) (bT bW:Nat) (par t1 t2 u F f:Int) (w:aC) (h:qF w b (s1,s2,s3) (s4,s5,bX) (c6,c7,c8) (bI,bM,bO) (bP,bT,bW)) (f1:Am b) (hN:rR b) (d5:kD b.ent) (pe:∀ e∈b.ent,dX e.p) :
  bV aI 48 #[aD #[L O b.me,J s1 s2 s3,J s4 s5 bX,J c6 c7 c8,J bI bM bO,J bP bT bW],L O par,aD #[L O t1,L O t2],aD #[L O u,L O F],L O f] w (RtQ w (mq w b (s1,s2,s3) (s4,s5,bX) (c6,c7,c8) (bI,bM,bO) (bP,bT,bW)) (jo b par (t1,t2) (u,F) f)):=by
 obtain⟨eS,d0,eV,eW,f0⟩:=zM w #[L O b.me,J s1 s2 s3,J s4 s5 bX,J c6 c7 c8,J bI bM bO,J bP bT bW] #[L O t1,L O t2] #[L O u,L O F] #[L O 0,J X 0 0,J X 0 0,J X 0 0,J X 0 0,J X 0 0] 30 23 23 30;have dA:=C (fun W G=>WM b (s1,s2,s3) (s4,s5,bX) (c6,c7,c8) (bI,bM,bO) (bP,bT,bW) (t1,t2) (u,F) f W (h.br.on (show Below w.heap.size w W from G)) f1 hN d5 pe);have g7:=C h.no;have gO:=C (show ∀ W,Below w.heap.size w W->mq w b (s1,s2,s3) (s4,s5,bX) (c6,c7,c8) (bI,bM,bO) (bP,bT,bW)->mq W b (s1,s2,s3) (s4,s5,bX) (c6,c7,c8) (bI,bM,bO) (bP,bT,bW) from fun W G lO=>lO.on G);have eC:=C (show jo b par (t1,t2) (u,F) f=((takeB b (t1,t2) (u,F) f).1,if (takeB b (t1,t2) (u,F) f).2.2=aX then (takeB b (t1,t2) (u,F) f).2.1.map (rF par)++[⟨par,4,(t1,t2),(u,F),[]⟩] else []) from rfl);have dC:=C (jf b (t1,t2) (u,F) f);have cX:=C (aes b (t1,t2) (u,F) f f1.ent);have h3:=C (show ∀ e∈(takeB b (t1,t2) (u,F) f).2.1,dX e.p from (xK (t1,t2) (u,F) f (fun e=>dX e.p) (fun _ _ q=>q) pe).2);obtain⟨me,f3⟩:∃ me,me=b.me:=⟨_,rfl⟩;have e7:=C f3;simp only [<- f3] at eS d0 eV eW f0 dA ⊢;have cI:=C (eS);have eQ:=C (d0);have eR:=C (eV);have e8:=C (eW);have h6:=C (f0);clear eS d0 eV eW f0 h f1 hN d5 pe f3;go_enter bQ,Tryz.ntmps48;go_upto_region 1 with fail;generalize lJ:((((w.alloc (aJ #[L O me,J s1 s2 s3,J s4 s5 bX,J c6 c7 c8,J bI bM bO,J bP bT bW] 30)).alloc (aJ #[L O t1,L O t2] 23)).alloc (aJ #[L O u,L O F] 23)).alloc (aJ #[L O 0,J X 0 0,J X 0 0,J X 0 0,J X 0 0,J X 0 0] 30))=W at *;clear lJ;have h0:=C (dA.o W cI.o);clear dA;have gR:=C (gO.o W cI.o);have g8:=C (g7.o.on cI.o);clear gO g7;obtain⟨fS,u,F,fV,fW,fX⟩:=eQ.o.fA;obtain⟨j3,mI⟩:=eR.o.cs2;obtain⟨mK,mL⟩:=e8.o.cs2;go_wp2_with fail;refine h0.o.mono ?_;rintro n0 w1 ⟨⟨⟨H,a2,a6⟩,⟨a7,a8,aE⟩,⟨b1,b2,b4⟩,⟨I,M,N⟩,⟨S,T,a1⟩,⟨lA,cA,lB⟩,cG,rfl,hM,f4,d1,hS,cF,h7,⟨h4,e6⟩⟩,G⟩;clear h0;clear fS u F fV fW fX j3 mI mK mL;have i1:=C (cI.o.trans (G.mono cI.o.size));have c9:=C (eQ.o.on G);have hH:=C (eR.o.on G);have g6:=C (e8.o.on G);have eE:=C (h6.o.on G);clear cI eQ eR e8 h6;have cY:=C (show cG.length=(takeB b (t1,t2) (u,F) f).2.1.length from d1.len);have h2:=C (show cG.length=cA from lT f4);obtain⟨cL,hI⟩:∃ l,l=(takeB b (t1,t2) (u,F) f).2.1:=⟨_,rfl⟩;rw [<- hI] at d1 cY cX h3 eC e6;clear hI;generalize d5:(takeB b (t1,t2) (u,F) f).2.2=r at *;have g1:=C (show qF w1 (takeB b (t1,t2) (u,F) f).1 (H,a2,a6) (a7,a8,aE) (b1,b2,b4) (I,M,N) (S,T,a1) from ⟨hM,hS g8.o⟩);have g2:=C (show (mq w b (s1,s2,s3) (s4,s5,bX) (c6,c7,c8) (bI,bM,bO) (bP,bT,bW)\/r=aX)->mq w1 (takeB b (t1,t2) (u,F) f).1 (H,a2,a6) (a7,a8,aE) (b1,b2,b4) (I,M,N) (S,T,a1) from fun h=>cF (h.imp gR.o id));have mX:=C f4;have mM:=C d1;clear hM hS cF G d5 gR g8 f4 d1;rw [show (takeB b (t1,t2) (u,F) f).1.me=me from by rw [dC.o.2.2.1,e7.o]];have jI:=C (show w.heap.size+1+1+1+1<=w1.heap.size from eE.o.lt);have gC:=C h7;have fY:=C (show eY (uN (vw h4) W.heap.size w1) cG cL from e6);clear h7 e6;obtain⟨m0,m1,m2,m3,m4,m5⟩:=c9.o.fA;obtain⟨m6,m7,m8,m9,mA,mB⟩:=c9.o.kg;have j2:=c9.o.lt;have bA:=ah w1 w.heap.size (L O me) (J H a2 a6) (J a7 a8 aE) (J b1 b2 b4) (J I M N) (J S T a1);have dE:=C (dJ (b:=w.heap.size) i1.o (aZ _) (L O me) (J H a2 a6) (J a7 a8 aE) (J b1 b2 b4) (J I M N) (J S T a1));have dS:=C (bA.box hH.o (by omega));have cH:=C (bA.box g6.o (by omega));have dT:=C (bA.box eE.o (by omega));have dZ:=C (g1.o.keep (s1:=(s1,s2,s3)) (s2:=(s4,s5,bX)) (s3:=(c6,c7,c8)) (s4:=(bI,bM,bO)) (s5:=(bP,bT,bW)) (me:=me) c9.o bA);have e0:=C (fun h=>mq.uO (g2.o h) bA c9.o (by decide) (by decide) (by decide) (by decide) (by decide) (by decide));have e1:=C (bA.own gC.o c9.o (by decide));have e2:=C (fY.o.mono fun _ _ q=>q.but bA c9.o (by decide));have e3:=C (dM c9.o (L O me) (J H a2 a6) (J a7 a8 aE) (J b1 b2 b4) (J I M N) (J S T a1));clear bA i1 hH g6 eE g1 g2 gC fY c9;go_upto_region 2 with fail;clear j2 m0 m1 m2 m3 m4 m5 m6 m7 m8 m9 mA mB;unfold gH at dE dS cH dT dZ e0 e1 e2 e3;generalize ((((((w1.setCell ⟨w.heap.size,0,X⟩ (L O me)).setCell ⟨w.heap.size,1,X⟩ (J H a2 a6)).setCell ⟨w.heap.size,2,X⟩ (J a7 a8 aE)).setCell ⟨w.heap.size,3,X⟩ (J b1 b2 b4)).setCell ⟨w.heap.size,4,X⟩ (J I M N)).setCell ⟨w.heap.size,5,X⟩ (J S T a1))=d8 at *;have f7:=C (dE.o);have hJ:=C (dS.o);have g5:=C (cH.o);have cC:=C (dT.o);have h8:=C (dZ.o);have e9:=C (e0.o);have h9:=C (e1.o);have hA:=C (e2.o);have cD:=C (e3.o);clear dE dS cH dT dZ e0 e1 e2 e3;cases r
 ·have fS:=cD.o.cell 0;have u:=cD.o.cell 1;have F:=cD.o.cell 2;have fV:=cD.o.cell 3;have fW:=cD.o.cell 4;have fX:=cD.o.cell 5;simp only [aj,ay,aA] at fS u F fV fW fX;have kO:=C (fun h=>e9.o (aV h));obtain⟨n6,n7,n8,n9,nA,r5⟩:=cC.o.fA;obtain⟨mN,mS,mT,mU,mV,mW⟩:=cC.o.kg;have j2:=cC.o.lt;have bA:=ah d8 (w.heap.size+1+1+1) (L O me) (J H a2 a6) (J a7 a8 aE) (J b1 b2 b4) (J I M N) (J S T a1);have j6:=C (dM cC.o (L O me) (J H a2 a6) (J a7 a8 aE) (J b1 b2 b4) (J I M N) (J S T a1));have d9:=C (dJ (b:=w.heap.size+1+1+1) f7.o (by omega) (L O me) (J H a2 a6) (J a7 a8 aE) (J b1 b2 b4) (J I M N) (J S T a1));have j7:=C (h8.o.keep (s1:=(X,0,0)) (s2:=(X,0,0)) (s3:=(X,0,0)) (s4:=(X,0,0)) (s5:=(X,0,0)) (me:=0) cC.o bA);have j8:=C (fun h=>mq.uO (kO.o h) bA cC.o (by decide) (by decide) (by decide) (by decide) (by decide) (by decide));clear bA;go_wp2_with fail;obtain⟨v0,fN,fR,v3,v4,v5⟩:=j6.o.fA;refine aN (v:=.tuple #[aD #[L O me,J H a2 a6,J a7 a8 aE,J b1 b2 b4,J I M N,J S T a1],J X 0 0]) (by simp [results,bH,go_sem,v0,fN,fR,v3,v4,v5]) rfl ?_;rw [eC.o,if_neg (by simp)];exact⟨⟨(H,a2,a6),(a7,a8,aE),(b1,b2,b4),(I,M,N),(S,T,a1),(X,0,0),[],by rw [dC.o.2.2.1,e7.o],j7.o,j8.o,sP.nil _ _⟩,d9.o⟩
 ·have g0:=C (e9.o (au rfl));clear e9 h8;obtain rfl:cG.length=cA:=h2.o;clear h2;generalize hO:cG.length=cA at *;have cH:=C hO;clear hO;go_wp2_with fail;have jV:=C (show w.heap.size+1+1+1+1<=d8.heap.size from cC.o.lt)
  go_loopw [14,31] (fun v i wr=>∃ (k:Nat) (d7:List nu),k<=cA/\i=L O k/\Below w.heap.size w wr/\dN wr w.heap.size #[L O me,J H a2 a6,J a7 a8 aE,J b1 b2 b4,J I M N,J S T a1] 30/\dN wr (w.heap.size+1) #[L O t1,L O t2] 23/\dN wr (w.heap.size+1+1) #[L O u,L O F] 23/\dN wr (w.heap.size+1+1+1) #[L O 0,J X 0 0,J X 0 0,J X 0 0,J X 0 0,J X 0 0] 30/\mq wr (takeB b (t1,t2) (u,F) f).1 (H,a2,a6) (a7,a8,aE) (b1,b2,b4) (I,M,N) (S,T,a1)/\jJ wr W.heap.size (eu (lA,cA,lB)) cG/\eY (uN (vw h4) W.heap.size wr) cG cL/\sP wr w.heap.size v d7 ((cL.take k).map (rF par))/\d8.heap.size<=wr.heap.size) (fun _ i _=>cA-(intOf i).toNat)
  case atStart=>exact⟨0,[],Nat.zero_le _,rfl,f7.o,cD.o,hJ.o,g5.o,cC.o,g0.o,h9.o,hA.o,sP.nil _ _,aZ _⟩
  case round =>
   clear f7 cD hJ g5 cC g0 h9 hA;obtain⟨k,d7,n2,rfl,hP,hY,hZ,h1,hK,cF,hV,hL,d4,hX⟩:=hrel;have cQ:=C (hP);have eI:=C (hY);have eJ:=C (hZ);have eK:=C (h1);have eA:=C (hK);have f9:=C (cF);have eL:=C (hV);have eM:=C (hL);have fL:=C (d4);have jD:=C hX;clear hP hY hZ h1 hK cF hV hL d4 hX;by_cases hR:k<cA
   ·have n3:(k:Int)<(cA:Int):=by omega
    have n4:IntKind.i64.wrap ((k:Int)+1)=(k:Int)+1:=IntWalk.i64_in _ (by have:=cX.o; have:=cY.o; have:=cH.o; omega);obtain⟨e,d2⟩:∃ e,cL[k]?=U e:=⟨_,List.getElem?_eq_getElem (by rw [<- cY.o]; exact hR)⟩;have k1:=C (Xh par d2);have k0:=C (h3.o e (aY d2));obtain⟨z,i0,d6⟩:=eM.o.at k e d2;obtain⟨n5,lX,iG⟩:=Qj (Row.dL eL.o) rfl cH.o i0;obtain⟨i2,i4,i5,i6,i7,i8,i9⟩:=iG wr (ak _ _);obtain⟨b6,b7,b8,b9,⟨cP,cN,cM⟩,cV,cW⟩:=z;have kK:=C (show (b6,b7)=e.tree from d6.1);have kE:=C (show (b8,b9)=e.sub from d6.2.1);have gI:=C (show fO wr (J cP cN cM) e.p from ajt d6.2.2.2.2);simp only at i2 i4 i5 i6 i7 i8 i9;clear iG i0 d6 d2;go_upto_region 8 with fail;clear i2 i4 i5 i6 i7 i8 i9 lX;have bB:=fP wr (aJ #[L O b6,L O b7,L O b8,L O b9,J cP cN cM,L O cV,aR cW] 67);have f8:=C (cQ.o.trans (bB.mono cQ.o.size));have hC:=C (eI.o.on bB);have hD:=C (eJ.o.on bB);have gE:=C (eK.o.on bB);have h5:=C (eA.o.on bB);have g4:=C (f9.o.on bB);have hE:=C (Bk.dK eL.o bB);have hF:=C (eM.o.mono fun _ _ q=>q.grow bB);have g3:=C (fL.o.on bB);have hG:=C (gI.o.on bB);clear cQ eI eJ eK eA f9 eL eM fL gI;have eN:=C (dR wr #[L O b6,L O b7,L O b8,L O b9,J cP cN cM,L O cV,aR cW] 67);clear bB;have e5:=C (show d8.heap.size<=(wr.alloc (aJ #[L O b6,L O b7,L O b8,L O b9,J cP cN cM,L O cV,aR cW] 67)).heap.size from by have:=jD.o; simp; omega);generalize wr.alloc (aJ #[L O b6,L O b7,L O b8,L O b9,J cP cN cM,L O cV,aR cW] 67)=j1 at *;generalize wr.heap.size=mZ at *;have gS:=C (J4 (b6,b7,b8,b9,(cP,cN,cM),cV,cW) e.p j1 hG.o (iF k0.o));obtain⟨l3,l4,l5,l6,l7,l8,l9⟩:=eN.o.oz;go_wp2_with fail;refine gS.o.mono ?_;rintro n1 cU ⟨⟨⟨cR,cS,cT⟩,rfl,hU⟩,G⟩;clear gS;clear l3 l4 l5 l6 l7 l8 l9;clear hG;have cJ:=C (f8.o.trans (G.mono f8.o.size));have l0:=C (hC.o.on G);have mD:=C (hD.o.on G);have mH:=C (gE.o.on G);have kQ:=C (h5.o.on G);have j4:=C (g4.o.on G);have l1:=C (Bk.dK hE.o G);have l2:=C (hF.o.mono fun _ _ q=>q.grow G);have j5:=C (g3.o.on G);have mY:=C (eN.o.on G);clear f8 hC hD gE h5 g4 hE hF g3 eN;have jB:=C (aH e5.o G.size);have jY:=C (dO hU (show w.heap.size<=j1.heap.size from by have:=jI.o; have:=e5.o; have:=jV.o; omega));clear hU G e5;have b5:=fP cU (aJ (jW (par,3,b6,b7,b8,b9,(cR,cS,cT),(X,0,0))).toArray 46);have hQ:=jL Ic cU [((par,3,b6,b7,b8,b9,(cR,cS,cT),(X,0,0)):nu)] 1 rfl (by simp) (jW (par,3,b6,b7,b8,b9,(cR,cS,cT),(X,0,0))).toArray (by simp [flat,EU]);have bC:=j5.o.on b5;have g9:=Bk.dK jY.o b5;obtain⟨mC,x,f5,hT,bE⟩:=iC Ic w.heap.size bC.row (Row.dL hQ) (by rw [bC.len,bF,aW]; have d0:=cX.o; omega) (by simp) (cJ.o.trans (b5.mono cJ.o.size)).size 37;have hW:=bC.more bE hT (m:=[⟨par,3,(b6,b7),(b8,b9),e.p⟩]) (.cons (show OuO _ _ _ _ from ⟨rfl,rfl,rfl,rfl,g9,rfl⟩) .nil);have k2:=C ((cJ.o.trans (b5.mono cJ.o.size)).grown bE (cJ.o.trans (b5.mono cJ.o.size)).size (fun j f2=>(bC.row.lt j f2).1));have k3:=C (mE bC.row bE (l0.o.on b5) (by decide));have k4:=C (mE bC.row bE (mD.o.on b5) (by decide));have k5:=C (mE bC.row bE (mH.o.on b5) (by decide));have k6:=C (mE bC.row bE (kQ.o.on b5) (by decide));have eB:=jQ bC.row;have d3:Off _ (cU.alloc (aJ (jW (par,3,b6,b7,b8,b9,(cR,cS,cT),(X,0,0))).toArray 46)) x:=⟨fun j f2 lR=>bE.block j f2 lR,bE.size⟩;have k7:=C (mq.app bC.row bE (j4.o.on b5));have k8:=C (d3.own (Bk.dK l1.o b5) eB (by decide));have k9:=C (l2.o.mono fun _ _ q=>(q.grow b5).off d3 eB (by decide));have kA:=C hW;have kB:=C (aH jB.o (aH b5.size d3.2));have f5:(Builtin.append_ #[37,37] 37 #[_,J (U ⟨cU.heap.size,0,X⟩) 1 1]).run aI (cU.alloc (aJ (jW (par,3,b6,b7,b8,b9,(cR,cS,cT),(X,0,0))).toArray 46))=.ok mC x:=f5;clear hQ bC g9 hT bE hW d3 eB b5;go_wp2_with (first | (at_builtin; refine wpList_append_run rfl _ _ 37 rfl rfl rfl f5 ?_) | fail)
    go_roundw
    case rel=>exact⟨k+1,_,hR,by go_num,k2.o,k3.o,k4.o,k5.o,k6.o,k7.o,k8.o,k9.o,by rw [k1.o,show rF par e=⟨par,3,(b6,b7),(b8,b9),e.p⟩ from by unfold rF; rw [kK.o,kE.o]]; exact kA.o,kB.o⟩
    case measure=>simp [intOf]; omega
   ·obtain rfl:k=cA:=by omega
    have gA:=C (show sP wr w.heap.size _ d7 (cL.map (rF par)) from by have h:=fL.o; rw [List.take_of_length_le (by rw [<- cY.o]; exact aZ _)] at h; exact h);go_upto_region 10 with fail;refine apt _ wr w.heap.size (w.heap.size+1) (w.heap.size+1+1) (w.heap.size+1+1+1) w.heap.size me H a2 a6 a7 a8 aE b1 b2 b4 I M N S T a1 par t1 t2 u F _ d7 (cL.map (rF par)) (takeB b (t1,t2) (u,F) f).1 _ _ _ _ _ _ eI.o eJ.o eK.o eA.o (by omega) (by omega) (by omega) gA.o cQ.o.size (by rw [gA.o.len,bF]; exact cX.o) f9.o (by omega) ?_;intro a y f6 iS j0 lP lD lE lL lK cF d4;have d9:=C (cQ.o.trans lK);have e4:=C cF;have j9:=C d4;obtain⟨v0,fN,fR,v3,v4,v5⟩:=lL.fA;simp only [Exit.then]
    apply_assumption
    go_wp2_with fail;refine aN (v:=.tuple #[aD #[L O me,J H a2 a6,J a7 a8 aE,J b1 b2 b4,J I M N,J S T a1],J iS f6.length j0]) (by simp [results,bH,go_sem,lD,lE,v0,fN,fR,v3,v4,v5]) lP ?_;rw [eC.o];simp only [if_true];exact⟨⟨(H,a2,a6),(a7,a8,aE),(b1,b2,b4),(I,M,N),(S,T,a1),(iS,f6.length,j0),f6,by rw [dC.o.2.2.1,e7.o],⟨e4.o.br,e4.o.no⟩,fun _=>e4.o,j9.o⟩,d9.o⟩
theorem Us (b:Br) (s1:OA) (s2 s3:Nat) (s4:OA) (s5 N:Nat) (S:OA) (T a1:Nat) (u:OA) (F G:Nat) (H:OA) (I M:Nat) (t1 t2:Int) (w:aC) (h:iT w b (s1,s2,s3) (s4,s5,N) (S,T,a1) (u,F,G) (H,I,M)) (b7:rR b) :
  bV aI 46 #[aD #[L O b.me,J s1 s2 s3,J s4 s5 N,J S T a1,J u F G,J H I M],aD #[L O t1,L O t2]] w fun e w'=>e=.returned (L O (jH b (t1,t2)))/\Below w.heap.size w w':=by
 obtain⟨a2,aE,b1⟩:=gX w #[L O b.me,J s1 s2 s3,J s4 s5 N,J S T a1,J u F G,J H I M] #[L O t1,L O t2] 30 23;obtain⟨la,b2,b4⟩:=h.dQ;have a8:=C (NK b.me (J s1 s2 s3) (J S T a1) (J u F G) (J H I M) (s4,s5,N) la b.dQ (t1,t2) _ (b2.on a2) (b4.mono fun _ _ q=>q.on a2) b7.dQ);have a6:=C a2;obtain⟨bE,bI,bM,bO,bP,bT⟩:=aE.fA;obtain⟨bW,bX⟩:=b1.cs2;clear a2 aE b1 b2 b4 h b7;go_enter bD,Tryz.ntmps46;go_wp2_with fail;generalize (w.alloc (aJ #[L O b.me,J s1 s2 s3,J s4 s5 N,J S T a1,J u F G,J H I M] 30)).alloc (aJ #[L O t1,L O t2] 23)=W at *;refine a8.o.mono ?_;rintro bA w1 ⟨j,b5⟩;obtain⟨⟨c6,c7,⟨cC,cA,c9⟩,c8⟩,kn,rfl,b8⟩:∃ (r:ku) (kn:Bool),bA=.returned (.tuple #[nC r,aR kn])/\r.2.2.2=jH b (t1,t2):=by
  unfold jH;cases b6:gY b.dQ (t1,t2) with
  | none =>
   rw [b6] at j;exact⟨_,aF,j,rfl⟩
  | some a =>
   rw [b6] at j;obtain⟨r,bB,bC⟩:=j;exact⟨r,aX,bB,bC.2.1⟩
 have b9:=C b8;have a7:=C (a6.o.trans (b5.mono a6.o.size));clear j b8 b5 a8 bE bI bM bO bP bT bW bX;go_wp2;go_ret;exact⟨by rw [<- b9.o]; rfl,(a7.o.alloc a7.o.size _)⟩
def apy (_B:Nat) (_ I _:Nat) (P:Prop) (b:Br) (s1:OA) (s2 s3:Nat) (s4:OA) (s5 a8:Nat) (aE:OA) (b1 b2:Nat) (S:OA) (T a1:Nat) (a2:OA) (a6 a7:Nat) (f _ t1 t2 j q:Int) (po:OA) (N M:Nat) (p:List C5) (i:Nat) (v:aK) (x:aC):Prop :=
 match i with
 | 0=>v=mg b.me (s1,s2,s3) (s4,s5,a8) (aE,b1,b2) (S,T,a1) (a2,a6,a7)
 | 1=>v=mg b.me (s1,s2,s3) (s4,s5,a8) (aE,b1,b2) (S,T,a1) (a2,a6,a7)
 | 2=>v=Y (U ⟨I,1,X⟩)
 | 3=>v=aD #[L O t1,L O t2]
 | 4=>v=L O (jH b (t1,t2))
 | 5=>v=Y (U ⟨I,1,X⟩)
 | 6=>v=aD #[L O t1,L O t2]
 | 7=>v=Y (U ⟨I,3,X⟩)
 | 8=>v=aD #[L O j,L O q]
 | 9=>v=Y (U ⟨I,5,X⟩)
 | 10=>v=J po N M
 | 11=>v=L O f
 | 12=>v=aD #[L O t1,L O t2,L O j,L O q,J po N M,L O f,aR aF]
 | 13=>∃ (u av G r F s:Sl) (H:List nu),v=.tuple #[mg (iP b (jH b (t1,t2)) (⟨(t1,t2),(j,q),p,f,aF⟩:En)).1.me u av G r F,eu s]/\qF x (iP b (jH b (t1,t2)) (⟨(t1,t2),(j,q),p,f,aF⟩:En)).1 u av G r F/\(P->mq x (iP b (jH b (t1,t2)) (⟨(t1,t2),(j,q),p,f,aF⟩:En)).1 u av G r F)/\sP x _B (eu s) H (iP b (jH b (t1,t2)) (⟨(t1,t2),(j,q),p,f,aF⟩:En)).2
 | 14=>∃ (u av G r F:Sl),v=mg (iP b (jH b (t1,t2)) (⟨(t1,t2),(j,q),p,f,aF⟩:En)).1.me u av G r F/\qF x (iP b (jH b (t1,t2)) (⟨(t1,t2),(j,q),p,f,aF⟩:En)).1 u av G r F/\(P->mq x (iP b (jH b (t1,t2)) (⟨(t1,t2),(j,q),p,f,aF⟩:En)).1 u av G r F)
 | 15=>∃ (s:Sl) (H:List nu),v=eu s/\sP x _B (eu s) H (iP b (jH b (t1,t2)) (⟨(t1,t2),(j,q),p,f,aF⟩:En)).2
 | 16=>True
 | 17=>∃ (s:Sl) (H:List nu),v=eu s/\sP x _B (eu s) H (iP b (jH b (t1,t2)) (⟨(t1,t2),(j,q),p,f,aF⟩:En)).2
 | _=>True
noncomputable def alW:Code:=((Tryz.f11.body.bind (eX 1)).getD .skip)
theorem os1 (Q:bY->Act->aC->Prop) (W:aC) (b3 S a8:Nat) (P:Prop) (b:Br) (s1:OA) (s2 s3:Nat) (s4:OA) (s5 b9:Nat) (bA:OA) (bB bC:Nat) (b2:OA) (b4 b5:Nat) (b6:OA) (b7 b8:Nat) (f e3 t1 t2 T a1:Int) (po:OA) (bI bE:Nat) (p:List C5) (d3 u2 d4 u7 eN u9 e7 u11 e8 u13 e9 eA eB eC eE eI eJ eK eL eM:aK)
  (e2:dN W a8 #[L O 0,J X 0 0,J X 0 0,J X 0 0,J X 0 0,J X 0 0] 30) (e1:dN W b3 #[L O b.me,J s1 s2 s3,J s4 s5 b9,J bA bB bC,J b2 b4 b5,J b6 b7 b8] 30) (dE:dN W S #[L O e3,L O t1,L O t2,L O T,L O a1,J po bI bE,J X 0 0] 43) (d8:qF W b (s1,s2,s3) (s4,s5,b9) (bA,bB,bC) (b2,b4,b5) (b6,b7,b8)) (e5:P->mq W b (s1,s2,s3) (s4,s5,b9) (bA,bB,bC) (b2,b4,b5) (b6,b7,b8)) (d9:Am b) (dA:rR b) (e6:kD b.ent) (pe:∀ e∈b.ent,dX e.p) (dS:fO W (J po bI bE) p) (pp:dX p)
  (dC:∀ (x:aC) {f8 v9 eQ eR eS eV eW f0 f1 f2 f3 f4 f5 f6 v22 f7:aK} (bP:OA) (c9 cA:Nat) (cC:OA) (cD cF:Nat) (cG:OA) (cH cI:Nat) (bT:OA) (bW bX:Nat) (c6:OA) (c7 c8:Nat) (cN:OA) (cP cQ:Nat) (N:List nu),dN x a8 #[L O (iP b (jH b (t1,t2)) (⟨(t1,t2),(T,a1),p,f,aF⟩:En)).1.me,J bP c9 cA,J cC cD cF,J cG cH cI,J bT bW bX,J c6 c7 c8] 30->qF x (iP b (jH b (t1,t2)) (⟨(t1,t2),(T,a1),p,f,aF⟩:En)).1 (bP,c9,cA) (cC,cD,cF) (cG,cH,cI) (bT,bW,bX) (c6,c7,c8)->(P->mq x (iP b (jH b (t1,t2)) (⟨(t1,t2),(T,a1),p,f,aF⟩:En)).1 (bP,c9,cA) (cC,cD,cF) (cG,cH,cI) (bT,bW,bX) (c6,c7,c8))->sP x W.heap.size (eu (cN,cP,cQ)) N (iP b (jH b (t1,t2)) (⟨(t1,t2),(T,a1),p,f,aF⟩:En)).2->bR a8 W x->Q .normal ⟨(d3::L O f::u2::Y (U ⟨b3,0,X⟩)::d4::Y (U ⟨S,0,X⟩)::Y (U ⟨a8,0,X⟩)::eu (cN,cP,cQ)::f8::v9::eQ::eR::eS::eV::eW::f0::f1::f2::f3::f4::f5::f6::v22::f7::[]).toArray,[]⟩ x) :
  Code.wp aI alW Q ⟨(d3::L O f::u2::Y (U ⟨b3,0,X⟩)::d4::Y (U ⟨S,0,X⟩)::Y (U ⟨a8,0,X⟩)::u7::eN::u9::e7::u11::e8::u13::e9::eA::eB::eC::eE::eI::eJ::eK::eL::eM::[]).toArray,[]⟩ W:=by
 have cX:=C dC;have fW:=C e2;have d7:=C e1;have cJ:=C dE;have d5:=C d8;have fY:=C e5;have fV:=C d9;have d6:=C dA;have g2:=C e6;have g0:=C pe;have fX:=C dS;have g1:=C pp;clear dC e2 e1 dE d8 e5 d9 dA e6 pe dS pp;unfold alW
 conv=>arg 2; whnf
 have h9:∀ i,i<18->[8,9,10,11,12,13,14,15,16,17,18,19,20,21,22,23,22,7].getD i 0≠1:=by decide
 have e4:∀ i,i<18->[8,9,10,11,12,13,14,15,16,17,18,19,20,21,22,23,22,7].getD i 0≠3:=by decide
 have cU:∀ i,i<18->[8,9,10,11,12,13,14,15,16,17,18,19,20,21,22,23,22,7].getD i 0≠5:=by decide
 have hA:∀ i,i<18->[8,9,10,11,12,13,14,15,16,17,18,19,20,21,22,23,22,7].getD i 0≠6:=by decide
 refine Rg.J5 18 16 14 (fun i=>[8,9,10,11,12,13,14,15,16,17,18,19,20,21,22,23,22,7].getD i 0) (fun i=>18) (apy W.heap.size b3 S a8 P b s1 s2 s3 s4 s5 b9 bA bB bC b2 b4 b5 b6 b7 b8 f e3 t1 t2 T a1 po bI bE p) (fun i=>i == 15 || i == 17) 30 a8 #[L O 0,J X 0 0,J X 0 0,J X 0 0,J X 0 0,J X 0 0] (fun v=>match v with | aD c=>c | _=>#[]) (by kernel_rfl) (by kernel_rfl) rfl (by decide) (by decide) (by decide) (by decide) fW.o (fun i j bM d1 H r h=>(by decide:∀ i,i<18->∀ j,j<18->i≠16->j≠16->[8,9,10,11,12,13,14,15,16,17,18,19,20,21,22,23,22,7].getD i 0=[8,9,10,11,12,13,14,15,16,17,18,19,20,21,22,23,22,7].getD j 0->i=j) i bM j d1 H r h) (fun i bM _=>(by decide:∀ i,i<18->[8,9,10,11,12,13,14,15,16,17,18,19,20,21,22,23,22,7].getD i 0<24) i bM) ?_ ?_ (by decide) ?_ ?_ (fun j H r=>(by decide:∀ j,j<18->j≠16->18<=(fun i=>18) j\/((fun i=>18) j<18/\(fun i=>18) j≠16/\(fun i=>i == 15 || i == 17) ((fun i=>18) j)=aF)) j H r) ?_
 ·intro i v x hK bM h F;rcases (by omega:i=0\/i=1\/i=2\/i=3\/i=4\/i=5\/i=6\/i=7\/i=8\/i=9\/i=10\/i=11\/i=12\/i=13\/i=14\/i=15\/i=16\/i=17) with rfl|rfl|rfl|rfl|rfl|rfl|rfl|rfl|rfl|rfl|rfl|rfl|rfl|rfl|rfl|rfl|rfl|rfl
  ·exact h
  ·exact h
  ·exact h
  ·exact h
  ·exact h
  ·exact h
  ·exact h
  ·exact h
  ·exact h
  ·exact h
  ·exact h
  ·exact h
  ·exact h
  ·obtain⟨a6,a7,a3,a4,a5,b1,N,H,r,aE,cM⟩:=h; exact⟨a6,a7,a3,a4,a5,b1,N,H,r.on F,fun q=>(aE q).on F,cM.on F⟩
  ·obtain⟨a6,a7,a3,a4,a5,H,r,aE⟩:=h; exact⟨a6,a7,a3,a4,a5,H,r.on F,fun q=>(aE q).on F⟩
  ·obtain⟨s,N,H,r⟩:=h; exact⟨s,N,H,r.on F⟩
  ·exact h
  ·obtain⟨s,N,H,r⟩:=h; exact⟨s,N,H,r.on F⟩
 ·intro o I i bM fR cT;cases I;have hF:i≠15:=fun e=>by rw [e] at cT; simp at cT
  have hG:i≠17:=fun e=>by rw [e] at cT; simp at cT
  rcases (by omega:i=0\/i=1\/i=2\/i=3\/i=4\/i=5\/i=6\/i=7\/i=8\/i=9\/i=10\/i=11\/i=12\/i=13\/i=14) with rfl|rfl|rfl|rfl|rfl|rfl|rfl|rfl|rfl|rfl|rfl|rfl|rfl|rfl|rfl
  ·exact⟨⟨0,.phase⟩,by simp,rfl,rfl⟩
  ·exact⟨⟨1,.phase⟩,by simp,rfl,rfl⟩
  ·exact⟨⟨2,.phase⟩,by simp,rfl,rfl⟩
  ·exact⟨⟨3,.phase⟩,by simp,rfl,rfl⟩
  ·exact⟨⟨4,.phase⟩,by simp,rfl,rfl⟩
  ·exact⟨⟨5,.phase⟩,by simp,rfl,rfl⟩
  ·exact⟨⟨6,.phase⟩,by simp,rfl,rfl⟩
  ·exact⟨⟨7,.phase⟩,by simp,rfl,rfl⟩
  ·exact⟨⟨8,.phase⟩,by simp,rfl,rfl⟩
  ·exact⟨⟨9,.phase⟩,by simp,rfl,rfl⟩
  ·exact⟨⟨10,.phase⟩,by simp,rfl,rfl⟩
  ·exact⟨⟨11,.phase⟩,by simp,rfl,rfl⟩
  ·exact⟨⟨12,.phase⟩,by simp,rfl,rfl⟩
  ·exact⟨⟨13,.chain⟩,by simp,rfl,rfl⟩
  ·exact⟨⟨14,.data⟩,by simp,rfl,rfl⟩
 ·intro i o bM fR I a x a2 seen K M;clear cX;rcases (by omega:i=0\/i=1\/i=2\/i=3\/i=4\/i=5\/i=6\/i=7\/i=8\/i=9\/i=10\/i=11\/i=12\/i=13\/i=14\/i=15\/i=17) with rfl|rfl|rfl|rfl|rfl|rfl|rfl|rfl|rfl|rfl|rfl|rfl|rfl|rfl|rfl|rfl|rfl
  ·cases I;obtain⟨F,G⟩:=a2 rfl;have cY:a.eval (Z 3)=Y (U ⟨b3,0,X⟩):=seen.kp 3 _ e4 rfl;exact aB rfl rfl (aQ a.eval _ 30 (Z 3) rfl (by rw [cY]; exact sN (d7.o.on F))) (M _ x rfl (ak _ _))
  ·cases I;obtain⟨F,G⟩:=a2 rfl;have cY:a.eval (Z 3)=Y (U ⟨b3,0,X⟩):=seen.kp 3 _ e4 rfl;exact aB rfl rfl (aQ a.eval _ 30 (Z 3) rfl (by rw [cY]; exact sN (d7.o.on F))) (M _ x rfl (ak _ _))
  ·cases I;obtain⟨F,G⟩:=a2 rfl;have cL:a.eval (Z 5)=Y (U ⟨S,0,X⟩):=seen.kp 5 _ cU rfl;exact aB rfl rfl (bg a.eval _ 43 (Z 5) 1 rfl (by rw [cL]; simp [go_sem])) (M _ x rfl (ak _ _))
  ·cases I;obtain⟨F,G⟩:=a2 rfl;have g5:a.eval (Z 10)=Y (U ⟨S,1,X⟩):=seen.at_ ⟨2,.data⟩ (by simp) rfl (by decide) (au (by decide));have cR:=(cJ.o.on F).cell 1;have cS:=(cJ.o.on F).cell 2;simp only [aj,ay,aA] at cR cS;exact aB rfl rfl (aQ a.eval _ 23 (Z 10) rfl (by rw [g5]; simp [go_sem,cR,cS])) (M _ x rfl (ak _ _))
  ·cases I;obtain⟨F,G⟩:=a2 rfl;have h0:a.eval (Z 9)=mg b.me (s1,s2,s3) (s4,s5,b9) (bA,bB,bC) (b2,b4,b5) (b6,b7,b8):=seen.at_ ⟨1,.data⟩ (by simp) rfl (by decide) (au (by decide));have g6:a.eval (Z 11)=aD #[L O t1,L O t2]:=seen.at_ ⟨3,.data⟩ (by simp) rfl (by decide) (au (by decide));exact bK rfl rfl (Rw.nQ a.eval _ (Z 9) (Z 11) 30 23 46 rfl h0 g6 rfl _ (gB bD rfl rfl _ _)) (Us b s1 s2 s3 s4 s5 b9 bA bB bC b2 b4 b5 b6 b7 b8 t1 t2 x (d5.o.on F).br d6.o) fun e w1 h=>by
    obtain⟨rfl,d0⟩:=h;exact⟨_,rfl,M _ _ rfl d0⟩
  ·cases I;obtain⟨F,G⟩:=a2 rfl;have cL:a.eval (Z 5)=Y (U ⟨S,0,X⟩):=seen.kp 5 _ cU rfl;exact aB rfl rfl (bg a.eval _ 43 (Z 5) 1 rfl (by rw [cL]; simp [go_sem])) (M _ x rfl (ak _ _))
  ·cases I;obtain⟨F,G⟩:=a2 rfl;have g8:a.eval (Z 13)=Y (U ⟨S,1,X⟩):=seen.at_ ⟨5,.data⟩ (by simp) rfl (by decide) (au (by decide));have cR:=(cJ.o.on F).cell 1;have cS:=(cJ.o.on F).cell 2;simp only [aj,ay,aA] at cR cS;exact aB rfl rfl (aQ a.eval _ 23 (Z 13) rfl (by rw [g8]; simp [go_sem,cR,cS])) (M _ x rfl (ak _ _))
  ·cases I;obtain⟨F,G⟩:=a2 rfl;have cL:a.eval (Z 5)=Y (U ⟨S,0,X⟩):=seen.kp 5 _ cU rfl;exact aB rfl rfl (bg a.eval _ 43 (Z 5) 2 rfl (by rw [cL]; simp [go_sem])) (M _ x rfl (ak _ _))
  ·cases I;obtain⟨F,G⟩:=a2 rfl;have gA:a.eval (Z 15)=Y (U ⟨S,3,X⟩):=seen.at_ ⟨7,.data⟩ (by simp) rfl (by decide) (au (by decide));have f9:=(cJ.o.on F).cell 3;have fL:=(cJ.o.on F).cell 4;simp only [aj,ay,aA] at f9 fL;exact aB rfl rfl (aQ a.eval _ 23 (Z 15) rfl (by rw [gA]; simp [go_sem,f9,fL])) (M _ x rfl (ak _ _))
  ·cases I;obtain⟨F,G⟩:=a2 rfl;have cL:a.eval (Z 5)=Y (U ⟨S,0,X⟩):=seen.kp 5 _ cU rfl;exact aB rfl rfl (bg a.eval _ 43 (Z 5) 3 rfl (by rw [cL]; simp [go_sem])) (M _ x rfl (ak _ _))
  ·cases I;obtain⟨F,G⟩:=a2 rfl;have gE:a.eval (Z 17)=Y (U ⟨S,5,X⟩):=seen.at_ ⟨9,.data⟩ (by simp) rfl (by decide) (au (by decide));have fN:=(cJ.o.on F).cell 5;simp only [aj,ay,aA] at fN;exact aB rfl rfl (aQ a.eval _ 34 (Z 17) rfl (by rw [gE]; simp [go_sem,fN])) (M _ x rfl (ak _ _))
  ·cases I;obtain⟨F,G⟩:=a2 rfl;have g4:a.eval (Z 1)=L O f:=seen.kp 1 _ h9 rfl;exact aB rfl rfl (bJ a.eval _ (Z 1) rfl x) (M _ x g4 (ak _ _))
  ·cases I;obtain⟨F,G⟩:=a2 rfl;have g9:a.eval (Z 14)=aD #[L O t1,L O t2]:=seen.at_ ⟨6,.data⟩ (by simp) rfl (by decide) (au (by decide));have gC:a.eval (Z 16)=aD #[L O T,L O a1]:=seen.at_ ⟨8,.data⟩ (by simp) rfl (by decide) (au (by decide));have gI:a.eval (Z 18)=J po bI bE:=seen.at_ ⟨10,.data⟩ (by simp) rfl (by decide) (au (by decide));have gO:a.eval (Z 19)=L O f:=seen.at_ ⟨11,.data⟩ (by simp) rfl (by decide) (au (by decide));exact aB rfl rfl (bS a.eval _ 67 #[(0,Z 14),(1,Z 16),(2,Z 18),(3,Z 19)] rfl (ps:=#[(0,aD #[L O t1,L O t2]),(1,aD #[L O T,L O a1]),(2,J po bI bE),(3,L O f)]) (by simp only [aL,aP,aU,g9,gC,gI,gO]) (by simp [go_sem])) (M _ x rfl (ak _ _))
  ·cases I;obtain⟨F,G⟩:=a2 rfl;have gS:a.eval (Z 8)=mg b.me (s1,s2,s3) (s4,s5,b9) (bA,bB,bC) (b2,b4,b5) (b6,b7,b8):=seen.at_ ⟨0,.data⟩ (by simp) rfl (by decide) (au (by decide));have g7:a.eval (Z 12)=L O (jH b (t1,t2)):=seen.at_ ⟨4,.data⟩ (by simp) rfl (by decide) (au (by decide));have gR:a.eval (Z 20)=aD #[L O t1,L O t2,L O T,L O a1,J po bI bE,L O f,aR aF]:=seen.at_ ⟨12,.data⟩ (by simp) rfl (by decide) (au (by decide));exact bK rfl rfl (xB a.eval _ (Z 8) (Z 12) (Z 20) 30 3 67 45 rfl gS g7 gR rfl _ (gB bN rfl rfl _ _)) (J8 b s1 s2 s3 s4 s5 b9 bA bB bC b2 b4 b5 b6 b7 b8 (jH b (t1,t2)) t1 t2 T a1 po bI bE f aF (⟨(t1,t2),(T,a1),p,f,aF⟩:En) x (d5.o.on F) ⟨rfl,rfl,rfl,rfl,fX.o.on F⟩ fV.o d6.o g2.o g0.o g1.o) fun e w1 h=>by
    obtain⟨⟨a6,a7,a3,a4,a5,b1,N,rfl,r,aE,cM⟩,d0⟩:=h;exact⟨_,rfl,M _ _ ⟨a6,a7,a3,a4,a5,b1,N,rfl,r,fun q=>aE (fY.o q |>.on F),cM.le F.size⟩ d0⟩
  ·cases I;obtain⟨F,G⟩:=a2 rfl;have cV:=seen.at_ ⟨13,.data⟩ (by simp) rfl (by decide) (au (by decide));obtain⟨a6,a7,a3,a4,a5,b1,_,H,r,aE,_⟩:=cV;exact aB rfl rfl (oW a.eval _ (Z 21) 0 rfl (c:=#[mg (iP b (jH b (t1,t2)) (⟨(t1,t2),(T,a1),p,f,aF⟩:En)).1.me a6 a7 a3 a4 a5,eu b1]) H rfl x) (M _ x ⟨a6,a7,a3,a4,a5,rfl,r,aE⟩ (ak _ _))
  ·cases I;have cV:=seen.at_ ⟨13,.data⟩ (by simp) rfl (by decide) (au (by decide));obtain⟨a6,a7,a3,a4,a5,b1,N,H,_,_,cM⟩:=cV;exact aB rfl rfl (oW a.eval _ (Z 21) 1 rfl (c:=#[mg (iP b (jH b (t1,t2)) (⟨(t1,t2),(T,a1),p,f,aF⟩:En)).1.me a6 a7 a3 a4 a5,eu b1]) H rfl x) (M _ x ⟨b1,N,rfl,cM⟩ (ak _ _))
  ·cases I;have fS:=seen.at_ ⟨15,.data⟩ (by simp) rfl (by decide) (au (by decide));exact aB rfl rfl (bZ a.eval _ (Z 23) rfl x) (M _ x fS (ak _ _))
 ·intro o I a x v F G h3 cW h4 K M;clear cX;cases I;have h1:a.eval (Z 6)=Y (U ⟨a8,0,X⟩):=h4 6 _ rfl hA;obtain⟨⟨bP,c9,cA⟩,⟨cC,cD,cF⟩,⟨cG,cH,cI⟩,⟨bT,bW,bX⟩,⟨c6,c7,c8⟩,d2,dZ,e0⟩:=cW;subst d2;have bO:=ah x a8 (L O (iP b (jH b (t1,t2)) (⟨(t1,t2),(T,a1),p,f,aF⟩:En)).1.me) (J bP c9 cA) (J cC cD cF) (J cG cH cI) (J bT bW bX) (J c6 c7 c8);refine bU 30 (Z 6) (Z 22) rfl rfl rfl rfl h1 h3 (w':=gH x a8 (L O (iP b (jH b (t1,t2)) (⟨(t1,t2),(T,a1),p,f,aF⟩:En)).1.me) (J bP c9 cA) (J cC cD cF) (J cG cH cI) (J bT bW bX) (J c6 c7 c8)) (o7 G _ _ _ _ _ _ _ _ _ _ _ _ _ _ _ _) (M _ bO (fun B w hB h=>dJ h hB _ _ _ _ _ _) (dM G _ _ _ _ _ _) ?_);exact fun j u d1 hH hI h=>by
   rcases (by omega:j=0\/j=1\/j=2\/j=3\/j=4\/j=5\/j=6\/j=7\/j=8\/j=9\/j=10\/j=11\/j=12\/j=13\/j=14\/j=15\/j=17) with rfl|rfl|rfl|rfl|rfl|rfl|rfl|rfl|rfl|rfl|rfl|rfl|rfl|rfl|rfl|rfl|rfl
   ·have r:u=mg b.me (s1,s2,s3) (s4,s5,b9) (bA,bB,bC) (b2,b4,b5) (b6,b7,b8):=h; exact r
   ·have r:u=mg b.me (s1,s2,s3) (s4,s5,b9) (bA,bB,bC) (b2,b4,b5) (b6,b7,b8):=h; exact r
   ·have r:u=Y (U ⟨S,1,X⟩):=h; exact r
   ·have r:u=aD #[L O t1,L O t2]:=h; exact r
   ·have r:u=L O (jH b (t1,t2)):=h; exact r
   ·have r:u=Y (U ⟨S,1,X⟩):=h; exact r
   ·have r:u=aD #[L O t1,L O t2]:=h; exact r
   ·have r:u=Y (U ⟨S,3,X⟩):=h; exact r
   ·have r:u=aD #[L O T,L O a1]:=h; exact r
   ·have r:u=Y (U ⟨S,5,X⟩):=h; exact r
   ·have r:u=J po bI bE:=h; exact r
   ·have r:u=L O f:=h; exact r
   ·have r:u=aD #[L O t1,L O t2,L O T,L O a1,J po bI bE,L O f,aR aF]:=h; exact r
   ·obtain⟨a6,a7,a3,a4,a5,b1,N,H,r,aE,cM⟩:=h; exact⟨a6,a7,a3,a4,a5,b1,N,H,r.keep (s1:=(X,0,0)) (s2:=(X,0,0)) (s3:=(X,0,0)) (s4:=(X,0,0)) (s5:=(X,0,0)) (me:=0) G bO,fun q=>(aE q).uO bO G (by decide) (by decide) (by decide) (by decide) (by decide) (by decide),cM.but bO G (by decide) (by decide)⟩
   ·obtain⟨a6,a7,a3,a4,a5,H,r,aE⟩:=h; exact⟨a6,a7,a3,a4,a5,H,r.keep (s1:=(X,0,0)) (s2:=(X,0,0)) (s3:=(X,0,0)) (s4:=(X,0,0)) (s5:=(X,0,0)) (me:=0) G bO,fun q=>(aE q).uO bO G (by decide) (by decide) (by decide) (by decide) (by decide) (by decide)⟩
   ·obtain⟨s,N,H,r⟩:=h; exact⟨s,N,H,r.but bO G (by decide) (by decide)⟩
   ·obtain⟨s,N,H,r⟩:=h; exact⟨s,N,H,r.but bO G (by decide) (by decide)⟩
 ·intro a x v df sz kp hE G cW g3 ⟨hJ,dT⟩;obtain⟨⟨bP,c9,cA⟩,⟨cC,cD,cF⟩,⟨cG,cH,cI⟩,⟨bT,bW,bX⟩,⟨c6,c7,c8⟩,d2,dZ,e0⟩:=cW;subst d2;obtain⟨⟨cN,cP,cQ⟩,N,h6,h7⟩:=(dT 17 (by decide) (by decide)).2 (by decide);have h2:a.tmps[7]?=U (eu (cN,cP,cQ)):=by
   rw [<- h6];exact (dT 17 (by decide) (by decide)).1
  have hC:∀ j,(j<7\/24<=j)->a.tmps[j]?=(d3::L O f::u2::Y (U ⟨b3,0,X⟩)::d4::Y (U ⟨S,0,X⟩)::Y (U ⟨a8,0,X⟩)::u7::eN::u9::e7::u11::e8::u13::e9::eA::eB::eC::eE::eI::eJ::eK::eL::eM::[])[j]?:=fun j d1=>(kp j (fun i bM h=>by have:=(by decide:∀ i,i<18->7<=[8,9,10,11,12,13,14,15,16,17,18,19,20,21,22,23,22,7].getD i 0/\[8,9,10,11,12,13,14,15,16,17,18,19,20,21,22,23,22,7].getD i 0<24) i bM; omega)).trans aj;obtain⟨h8,h5,rfl⟩:=cK 7 17 df (by rw [sz]; rfl) (by simp) hC
  match h8,h5 with
  | [hD,f8,v9,eQ,eR,eS,eV,eW,f0,f1,f2,f3,f4,f5,f6,v22,f7],_ =>
   obtain rfl:hD=eu (cN,cP,cQ):=aS h2;exact cX.o x bP c9 cA cC cD cF cG cH cI bT bW bX c6 c7 c8 cN cP cQ N G dZ e0 h7 g3
theorem Xi {P:Program} (ρ:Operand->aK) (o:Oper) (x y z u v:Operand) (t s r q p:TypeId) (f:FuncId) (I:o.op=.call { callee:=.value (.func f),args:=#[x,y,z,u,v],argTypes:=#[t,s,r,q,p] }) {j F v3 v4 v5:aK} (N:ρ x=j) (S:ρ y=F) (T:ρ z=v3) (hu:ρ u=v4) (M:ρ v=v5) (H:ρ (.func f)=.func (.func f) #[] #[]) (w:aC)
  (G:(callFunc f #[j,F,v3,v4,v5]).run P w=.ok (.enter f #[j,F,v3,v4,v5]) w):(execOp ρ o).run P w=.ok (.enter f #[j,F,v3,v4,v5]) w:=by
 simp [execOp,I,resolve,invoke,N,S,T,hu,M,H,Deferred.ofValue,G]
def apz (_B:Nat) (_ I _:Nat) (P:Prop) (b:Br) (s1:OA) (s2 s3:Nat) (s4:OA) (s5 a6:Nat) (a7:OA) (a8 aE:Nat) (M:OA) (N S:Nat) (T:OA) (a1 a2:Nat) (f _ t1 t2 j q:Int) (_:OA) (_ _:Nat) (i:Nat) (v:aK) (x:aC):Prop :=
 match i with
 | 0=>v=mg b.me (s1,s2,s3) (s4,s5,a6) (a7,a8,aE) (M,N,S) (T,a1,a2)
 | 1=>v=mg b.me (s1,s2,s3) (s4,s5,a6) (a7,a8,aE) (M,N,S) (T,a1,a2)
 | 2=>v=Y (U ⟨I,1,X⟩)
 | 3=>v=aD #[L O t1,L O t2]
 | 4=>v=L O (jH b (t1,t2))
 | 5=>v=Y (U ⟨I,1,X⟩)
 | 6=>v=aD #[L O t1,L O t2]
 | 7=>v=Y (U ⟨I,3,X⟩)
 | 8=>v=aD #[L O j,L O q]
 | 9=>v=L O f
 | 10=>∃ (u av G r F s:Sl) (H:List nu),v=.tuple #[mg (jo b (jH b (t1,t2)) (t1,t2) (j,q) f).1.me u av G r F,eu s]/\qF x (jo b (jH b (t1,t2)) (t1,t2) (j,q) f).1 u av G r F/\(P->mq x (jo b (jH b (t1,t2)) (t1,t2) (j,q) f).1 u av G r F)/\sP x _B (eu s) H (jo b (jH b (t1,t2)) (t1,t2) (j,q) f).2
 | 11=>∃ (u av G r F:Sl),v=mg (jo b (jH b (t1,t2)) (t1,t2) (j,q) f).1.me u av G r F/\qF x (jo b (jH b (t1,t2)) (t1,t2) (j,q) f).1 u av G r F/\(P->mq x (jo b (jH b (t1,t2)) (t1,t2) (j,q) f).1 u av G r F)
 | 12=>∃ (s:Sl) (H:List nu),v=eu s/\sP x _B (eu s) H (jo b (jH b (t1,t2)) (t1,t2) (j,q) f).2
 | 13=>True
 | 14=>∃ (s:Sl) (H:List nu),v=eu s/\sP x _B (eu s) H (jo b (jH b (t1,t2)) (t1,t2) (j,q) f).2
 | _=>True
noncomputable def al1:Code:=((Tryz.f20.body.bind (eX 1)).getD .skip)
theorem ou1 (Q:bY->Act->aC->Prop) (W:aC) (b3 a1 a8:Nat) (P:Prop) (b:Br) (s1:OA) (s2 s3:Nat) (s4:OA) (s5 b9:Nat) (bA:OA) (bB bC:Nat) (b2:OA) (b4 b5:Nat) (b6:OA) (b7 b8:Nat) (f e0 t1 t2 a2 a6:Int) (po:OA) (e4 e2:Nat) (d1 u2 d2 u7 eJ u9 e6 u11 e7 u13 e8 e9 eA eB eC eE eI:aK)
  (dZ:dN W a8 #[L O 0,J X 0 0,J X 0 0,J X 0 0,J X 0 0,J X 0 0] 30) (dT:dN W b3 #[L O b.me,J s1 s2 s3,J s4 s5 b9,J bA bB bC,J b2 b4 b5,J b6 b7 b8] 30) (dA:dN W a1 #[L O e0,L O t1,L O t2,L O a2,L O a6,J po e4 e2,J X 0 0] 43) (d6:qF W b (s1,s2,s3) (s4,s5,b9) (bA,bB,bC) (b2,b4,b5) (b6,b7,b8)) (e3:P->mq W b (s1,s2,s3) (s4,s5,b9) (bA,bB,bC) (b2,b4,b5) (b6,b7,b8)) (d7:Am b) (d8:rR b) (e5:kD b.ent) (pe:∀ e∈b.ent,dX e.p)
  (d9:∀ (x:aC) {f2 v9 eK eL eM eN eQ eR eS eV eW f0 f1:aK} (bM:OA) (c7 c8:Nat) (c9:OA) (cA cC:Nat) (cD:OA) (cF cG:Nat) (bO:OA) (bP bT:Nat) (bW:OA) (bX c6:Nat) (cJ:OA) (cL cM:Nat) (I:List nu),dN x a8 #[L O (jo b (jH b (t1,t2)) (t1,t2) (a2,a6) f).1.me,J bM c7 c8,J c9 cA cC,J cD cF cG,J bO bP bT,J bW bX c6] 30->qF x (jo b (jH b (t1,t2)) (t1,t2) (a2,a6) f).1 (bM,c7,c8) (c9,cA,cC) (cD,cF,cG) (bO,bP,bT) (bW,bX,c6)->(P->mq x (jo b (jH b (t1,t2)) (t1,t2) (a2,a6) f).1 (bM,c7,c8) (c9,cA,cC) (cD,cF,cG) (bO,bP,bT) (bW,bX,c6))->sP x W.heap.size (eu (cJ,cL,cM)) I (jo b (jH b (t1,t2)) (t1,t2) (a2,a6) f).2->bR a8 W x->Q .normal ⟨(d1::L O f::u2::Y (U ⟨b3,0,X⟩)::d2::Y (U ⟨a1,0,X⟩)::Y (U ⟨a8,0,X⟩)::eu (cJ,cL,cM)::f2::v9::eK::eL::eM::eN::eQ::eR::eS::eV::eW::f0::f1::[]).toArray,[]⟩ x) :
  Code.wp aI al1 Q ⟨(d1::L O f::u2::Y (U ⟨b3,0,X⟩)::d2::Y (U ⟨a1,0,X⟩)::Y (U ⟨a8,0,X⟩)::u7::eJ::u9::e6::u11::e7::u13::e8::e9::eA::eB::eC::eE::eI::[]).toArray,[]⟩ W:=by
 have cU:=C d9;have f8:=C dZ;have d5:=C dT;have cI:=C dA;have d3:=C d6;have f9:=C e3;have f7:=C d7;have d4:=C d8;have fN:=C e5;have fL:=C pe;clear d9 dZ dT dA d6 e3 d7 d8 e5 pe;unfold al1
 conv=>arg 2; whnf
 have gO:∀ i,i<15->[8,9,10,11,12,13,14,15,16,17,18,19,20,19,7].getD i 0≠1:=by decide
 have e1:∀ i,i<15->[8,9,10,11,12,13,14,15,16,17,18,19,20,19,7].getD i 0≠3:=by decide
 have d0:∀ i,i<15->[8,9,10,11,12,13,14,15,16,17,18,19,20,19,7].getD i 0≠5:=by decide
 have gR:∀ i,i<15->[8,9,10,11,12,13,14,15,16,17,18,19,20,19,7].getD i 0≠6:=by decide
 refine Rg.J5 15 13 11 (fun i=>[8,9,10,11,12,13,14,15,16,17,18,19,20,19,7].getD i 0) (fun i=>15) (apz W.heap.size b3 a1 a8 P b s1 s2 s3 s4 s5 b9 bA bB bC b2 b4 b5 b6 b7 b8 f e0 t1 t2 a2 a6 po e4 e2) (fun i=>i == 12 || i == 14) 30 a8 #[L O 0,J X 0 0,J X 0 0,J X 0 0,J X 0 0,J X 0 0] (fun v=>match v with | aD c=>c | _=>#[]) (by kernel_rfl) (by kernel_rfl) rfl (by decide) (by decide) (by decide) (by decide) f8.o (fun i j bE cX G r h=>(by decide:∀ i,i<15->∀ j,j<15->i≠13->j≠13->[8,9,10,11,12,13,14,15,16,17,18,19,20,19,7].getD i 0=[8,9,10,11,12,13,14,15,16,17,18,19,20,19,7].getD j 0->i=j) i bE j cX G r h) (fun i bE _=>(by decide:∀ i,i<15->[8,9,10,11,12,13,14,15,16,17,18,19,20,19,7].getD i 0<21) i bE) ?_ ?_ (by decide) ?_ ?_ (fun j G r=>(by decide:∀ j,j<15->j≠13->15<=(fun i=>15) j\/((fun i=>15) j<15/\(fun i=>15) j≠13/\(fun i=>i == 12 || i == 14) ((fun i=>15) j)=aF)) j G r) ?_
 ·intro i v x h7 bE h F;rcases (by omega:i=0\/i=1\/i=2\/i=3\/i=4\/i=5\/i=6\/i=7\/i=8\/i=9\/i=10\/i=11\/i=12\/i=13\/i=14) with rfl|rfl|rfl|rfl|rfl|rfl|rfl|rfl|rfl|rfl|rfl|rfl|rfl|rfl|rfl
  ·exact h
  ·exact h
  ·exact h
  ·exact h
  ·exact h
  ·exact h
  ·exact h
  ·exact h
  ·exact h
  ·exact h
  ·obtain⟨S,T,a3,a4,a5,b1,I,G,r,aE,cH⟩:=h; exact⟨S,T,a3,a4,a5,b1,I,G,r.on F,fun q=>(aE q).on F,cH.on F⟩
  ·obtain⟨S,T,a3,a4,a5,G,r,aE⟩:=h; exact⟨S,T,a3,a4,a5,G,r.on F,fun q=>(aE q).on F⟩
  ·obtain⟨s,I,G,r⟩:=h; exact⟨s,I,G,r.on F⟩
  ·exact h
  ·obtain⟨s,I,G,r⟩:=h; exact⟨s,I,G,r.on F⟩
 ·intro o M i bE f5 cR;cases M;have h2:i≠12:=fun e=>by rw [e] at cR; simp at cR
  have h3:i≠14:=fun e=>by rw [e] at cR; simp at cR
  rcases (by omega:i=0\/i=1\/i=2\/i=3\/i=4\/i=5\/i=6\/i=7\/i=8\/i=9\/i=10\/i=11) with rfl|rfl|rfl|rfl|rfl|rfl|rfl|rfl|rfl|rfl|rfl|rfl
  ·exact⟨⟨0,.phase⟩,by simp,rfl,rfl⟩
  ·exact⟨⟨1,.phase⟩,by simp,rfl,rfl⟩
  ·exact⟨⟨2,.phase⟩,by simp,rfl,rfl⟩
  ·exact⟨⟨3,.phase⟩,by simp,rfl,rfl⟩
  ·exact⟨⟨4,.phase⟩,by simp,rfl,rfl⟩
  ·exact⟨⟨5,.phase⟩,by simp,rfl,rfl⟩
  ·exact⟨⟨6,.phase⟩,by simp,rfl,rfl⟩
  ·exact⟨⟨7,.phase⟩,by simp,rfl,rfl⟩
  ·exact⟨⟨8,.phase⟩,by simp,rfl,rfl⟩
  ·exact⟨⟨9,.phase⟩,by simp,rfl,rfl⟩
  ·exact⟨⟨10,.chain⟩,by simp,rfl,rfl⟩
  ·exact⟨⟨11,.data⟩,by simp,rfl,rfl⟩
 ·intro i o bE f5 M a x a7 seen K N;clear cU;rcases (by omega:i=0\/i=1\/i=2\/i=3\/i=4\/i=5\/i=6\/i=7\/i=8\/i=9\/i=10\/i=11\/i=12\/i=14) with rfl|rfl|rfl|rfl|rfl|rfl|rfl|rfl|rfl|rfl|rfl|rfl|rfl|rfl
  ·cases M;obtain⟨F,H⟩:=a7 rfl;have cV:a.eval (Z 3)=Y (U ⟨b3,0,X⟩):=seen.kp 3 _ e1 rfl;exact aB rfl rfl (aQ a.eval _ 30 (Z 3) rfl (by rw [cV]; exact sN (d5.o.on F))) (N _ x rfl (ak _ _))
  ·cases M;obtain⟨F,H⟩:=a7 rfl;have cV:a.eval (Z 3)=Y (U ⟨b3,0,X⟩):=seen.kp 3 _ e1 rfl;exact aB rfl rfl (aQ a.eval _ 30 (Z 3) rfl (by rw [cV]; exact sN (d5.o.on F))) (N _ x rfl (ak _ _))
  ·cases M;obtain⟨F,H⟩:=a7 rfl;have cN:a.eval (Z 5)=Y (U ⟨a1,0,X⟩):=seen.kp 5 _ d0 rfl;exact aB rfl rfl (bg a.eval _ 43 (Z 5) 1 rfl (by rw [cN]; simp [go_sem])) (N _ x rfl (ak _ _))
  ·cases M;obtain⟨F,H⟩:=a7 rfl;have fV:a.eval (Z 10)=Y (U ⟨a1,1,X⟩):=seen.at_ ⟨2,.data⟩ (by simp) rfl (by decide) (au (by decide));have cP:=(cI.o.on F).cell 1;have cQ:=(cI.o.on F).cell 2;simp only [aj,ay,aA] at cP cQ;exact aB rfl rfl (aQ a.eval _ 23 (Z 10) rfl (by rw [fV]; simp [go_sem,cP,cQ])) (N _ x rfl (ak _ _))
  ·cases M;obtain⟨F,H⟩:=a7 rfl;have g5:a.eval (Z 9)=mg b.me (s1,s2,s3) (s4,s5,b9) (bA,bB,bC) (b2,b4,b5) (b6,b7,b8):=seen.at_ ⟨1,.data⟩ (by simp) rfl (by decide) (au (by decide));have fW:a.eval (Z 11)=aD #[L O t1,L O t2]:=seen.at_ ⟨3,.data⟩ (by simp) rfl (by decide) (au (by decide));exact bK rfl rfl (Rw.nQ a.eval _ (Z 9) (Z 11) 30 23 46 rfl g5 fW rfl _ (gB bD rfl rfl _ _)) (Us b s1 s2 s3 s4 s5 b9 bA bB bC b2 b4 b5 b6 b7 b8 t1 t2 x (d3.o.on F).br d4.o) fun e w1 h=>by
    obtain⟨rfl,cW⟩:=h;exact⟨_,rfl,N _ _ rfl cW⟩
  ·cases M;obtain⟨F,H⟩:=a7 rfl;have cN:a.eval (Z 5)=Y (U ⟨a1,0,X⟩):=seen.kp 5 _ d0 rfl;exact aB rfl rfl (bg a.eval _ 43 (Z 5) 1 rfl (by rw [cN]; simp [go_sem])) (N _ x rfl (ak _ _))
  ·cases M;obtain⟨F,H⟩:=a7 rfl;have fY:a.eval (Z 13)=Y (U ⟨a1,1,X⟩):=seen.at_ ⟨5,.data⟩ (by simp) rfl (by decide) (au (by decide));have cP:=(cI.o.on F).cell 1;have cQ:=(cI.o.on F).cell 2;simp only [aj,ay,aA] at cP cQ;exact aB rfl rfl (aQ a.eval _ 23 (Z 13) rfl (by rw [fY]; simp [go_sem,cP,cQ])) (N _ x rfl (ak _ _))
  ·cases M;obtain⟨F,H⟩:=a7 rfl;have cN:a.eval (Z 5)=Y (U ⟨a1,0,X⟩):=seen.kp 5 _ d0 rfl;exact aB rfl rfl (bg a.eval _ 43 (Z 5) 2 rfl (by rw [cN]; simp [go_sem])) (N _ x rfl (ak _ _))
  ·cases M;obtain⟨F,H⟩:=a7 rfl;have g1:a.eval (Z 15)=Y (U ⟨a1,3,X⟩):=seen.at_ ⟨7,.data⟩ (by simp) rfl (by decide) (au (by decide));have f3:=(cI.o.on F).cell 3;have f4:=(cI.o.on F).cell 4;simp only [aj,ay,aA] at f3 f4;exact aB rfl rfl (aQ a.eval _ 23 (Z 15) rfl (by rw [g1]; simp [go_sem,f3,f4])) (N _ x rfl (ak _ _))
  ·cases M;obtain⟨F,H⟩:=a7 rfl;have fS:a.eval (Z 1)=L O f:=seen.kp 1 _ gO rfl;exact aB rfl rfl (bJ a.eval _ (Z 1) rfl x) (N _ x fS (ak _ _))
  ·cases M;obtain⟨F,H⟩:=a7 rfl;have g4:a.eval (Z 8)=mg b.me (s1,s2,s3) (s4,s5,b9) (bA,bB,bC) (b2,b4,b5) (b6,b7,b8):=seen.at_ ⟨0,.data⟩ (by simp) rfl (by decide) (au (by decide));have fX:a.eval (Z 12)=L O (jH b (t1,t2)):=seen.at_ ⟨4,.data⟩ (by simp) rfl (by decide) (au (by decide));have g0:a.eval (Z 14)=aD #[L O t1,L O t2]:=seen.at_ ⟨6,.data⟩ (by simp) rfl (by decide) (au (by decide));have g2:a.eval (Z 16)=aD #[L O a2,L O a6]:=seen.at_ ⟨8,.data⟩ (by simp) rfl (by decide) (au (by decide));have g3:a.eval (Z 17)=L O f:=seen.at_ ⟨9,.data⟩ (by simp) rfl (by decide) (au (by decide));exact bK rfl rfl (Xi a.eval _ (Z 8) (Z 12) (Z 14) (Z 16) (Z 17) 30 3 23 23 3 48 rfl g4 fX g0 g2 g3 rfl _ (gB bQ rfl rfl _ _)) (J9 b s1 s2 s3 s4 s5 b9 bA bB bC b2 b4 b5 b6 b7 b8 (jH b (t1,t2)) t1 t2 a2 a6 f x (d3.o.on F) f7.o d4.o fN.o fL.o) fun e w1 h=>by
    obtain⟨⟨S,T,a3,a4,a5,b1,I,rfl,r,aE,cH⟩,cW⟩:=h;exact⟨_,rfl,N _ _ ⟨S,T,a3,a4,a5,b1,I,rfl,r,fun q=>aE (f9.o q |>.on F),cH.le F.size⟩ cW⟩
  ·cases M;obtain⟨F,H⟩:=a7 rfl;have cS:=seen.at_ ⟨10,.data⟩ (by simp) rfl (by decide) (au (by decide));obtain⟨S,T,a3,a4,a5,b1,_,G,r,aE,_⟩:=cS;exact aB rfl rfl (oW a.eval _ (Z 18) 0 rfl (c:=#[mg (jo b (jH b (t1,t2)) (t1,t2) (a2,a6) f).1.me S T a3 a4 a5,eu b1]) G rfl x) (N _ x ⟨S,T,a3,a4,a5,rfl,r,aE⟩ (ak _ _))
  ·cases M;have cS:=seen.at_ ⟨10,.data⟩ (by simp) rfl (by decide) (au (by decide));obtain⟨S,T,a3,a4,a5,b1,I,G,_,_,cH⟩:=cS;exact aB rfl rfl (oW a.eval _ (Z 18) 1 rfl (c:=#[mg (jo b (jH b (t1,t2)) (t1,t2) (a2,a6) f).1.me S T a3 a4 a5,eu b1]) G rfl x) (N _ x ⟨b1,I,rfl,cH⟩ (ak _ _))
  ·cases M;have f6:=seen.at_ ⟨12,.data⟩ (by simp) rfl (by decide) (au (by decide));exact aB rfl rfl (bZ a.eval _ (Z 20) rfl x) (N _ x f6 (ak _ _))
 ·intro o M a x v F H g8 cT g9 K N;clear cU;cases M;have g6:a.eval (Z 6)=Y (U ⟨a8,0,X⟩):=g9 6 _ rfl gR;obtain⟨⟨bM,c7,c8⟩,⟨c9,cA,cC⟩,⟨cD,cF,cG⟩,⟨bO,bP,bT⟩,⟨bW,bX,c6⟩,cY,dE,dS⟩:=cT;subst cY;have bI:=ah x a8 (L O (jo b (jH b (t1,t2)) (t1,t2) (a2,a6) f).1.me) (J bM c7 c8) (J c9 cA cC) (J cD cF cG) (J bO bP bT) (J bW bX c6);refine bU 30 (Z 6) (Z 19) rfl rfl rfl rfl g6 g8 (w':=gH x a8 (L O (jo b (jH b (t1,t2)) (t1,t2) (a2,a6) f).1.me) (J bM c7 c8) (J c9 cA cC) (J cD cF cG) (J bO bP bT) (J bW bX c6)) (o7 H _ _ _ _ _ _ _ _ _ _ _ _ _ _ _ _) (N _ bI (fun B w hB h=>dJ h hB _ _ _ _ _ _) (dM H _ _ _ _ _ _) ?_);exact fun j u cX h4 h5 h=>by
   rcases (by omega:j=0\/j=1\/j=2\/j=3\/j=4\/j=5\/j=6\/j=7\/j=8\/j=9\/j=10\/j=11\/j=12\/j=14) with rfl|rfl|rfl|rfl|rfl|rfl|rfl|rfl|rfl|rfl|rfl|rfl|rfl|rfl
   ·have r:u=mg b.me (s1,s2,s3) (s4,s5,b9) (bA,bB,bC) (b2,b4,b5) (b6,b7,b8):=h; exact r
   ·have r:u=mg b.me (s1,s2,s3) (s4,s5,b9) (bA,bB,bC) (b2,b4,b5) (b6,b7,b8):=h; exact r
   ·have r:u=Y (U ⟨a1,1,X⟩):=h; exact r
   ·have r:u=aD #[L O t1,L O t2]:=h; exact r
   ·have r:u=L O (jH b (t1,t2)):=h; exact r
   ·have r:u=Y (U ⟨a1,1,X⟩):=h; exact r
   ·have r:u=aD #[L O t1,L O t2]:=h; exact r
   ·have r:u=Y (U ⟨a1,3,X⟩):=h; exact r
   ·have r:u=aD #[L O a2,L O a6]:=h; exact r
   ·have r:u=L O f:=h; exact r
   ·obtain⟨S,T,a3,a4,a5,b1,I,G,r,aE,cH⟩:=h; exact⟨S,T,a3,a4,a5,b1,I,G,r.keep (s1:=(X,0,0)) (s2:=(X,0,0)) (s3:=(X,0,0)) (s4:=(X,0,0)) (s5:=(X,0,0)) (me:=0) H bI,fun q=>(aE q).uO bI H (by decide) (by decide) (by decide) (by decide) (by decide) (by decide),cH.but bI H (by decide) (by decide)⟩
   ·obtain⟨S,T,a3,a4,a5,G,r,aE⟩:=h; exact⟨S,T,a3,a4,a5,G,r.keep (s1:=(X,0,0)) (s2:=(X,0,0)) (s3:=(X,0,0)) (s4:=(X,0,0)) (s5:=(X,0,0)) (me:=0) H bI,fun q=>(aE q).uO bI H (by decide) (by decide) (by decide) (by decide) (by decide) (by decide)⟩
   ·obtain⟨s,I,G,r⟩:=h; exact⟨s,I,G,r.but bI H (by decide) (by decide)⟩
   ·obtain⟨s,I,G,r⟩:=h; exact⟨s,I,G,r.but bI H (by decide) (by decide)⟩
 ·intro a x v df sz kp h1 H cT fR ⟨h6,dC⟩;obtain⟨⟨bM,c7,c8⟩,⟨c9,cA,cC⟩,⟨cD,cF,cG⟩,⟨bO,bP,bT⟩,⟨bW,bX,c6⟩,cY,dE,dS⟩:=cT;subst cY;obtain⟨⟨cJ,cL,cM⟩,I,gC,gE⟩:=(dC 14 (by decide) (by decide)).2 (by decide);have g7:a.tmps[7]?=U (eu (cJ,cL,cM)):=by
   rw [<- gC];exact (dC 14 (by decide) (by decide)).1
  have gS:∀ j,(j<7\/21<=j)->a.tmps[j]?=(d1::L O f::u2::Y (U ⟨b3,0,X⟩)::d2::Y (U ⟨a1,0,X⟩)::Y (U ⟨a8,0,X⟩)::u7::eJ::u9::e6::u11::e7::u13::e8::e9::eA::eB::eC::eE::eI::[])[j]?:=fun j cX=>(kp j (fun i bE h=>by have:=(by decide:∀ i,i<15->7<=[8,9,10,11,12,13,14,15,16,17,18,19,20,19,7].getD i 0/\[8,9,10,11,12,13,14,15,16,17,18,19,20,19,7].getD i 0<21) i bE; omega)).trans aj;obtain⟨gI,gA,rfl⟩:=cK 7 14 df (by rw [sz]; rfl) (by simp) gS
  match gI,gA with
  | [h0,f2,v9,eK,eL,eM,eN,eQ,eR,eS,eV,eW,f0,f1],_ =>
   obtain rfl:h0=eu (cJ,cL,cM):=aS g7;exact cU.o x bM c7 c8 c9 cA cC cD cF cG bO bP bT bW bX c6 cJ cL cM I H dE dS gE fR
theorem Ka (b:Br) (s1:OA) (s2 s3:Nat) (s4:OA) (s5 I:Nat) (M:OA) (N S:Nat) (j:OA) (r u:Nat) (F:OA) (G H:Nat) (f b1 t1 t2 a1 a2:Int) (po:OA) (a7 a6:Nat) (p:List C5) (w:aC) (h:qF w b (s1,s2,s3) (s4,s5,I) (M,N,S) (j,r,u) (F,G,H)) (c6:Am b) (c7:rR b) (aE:iU b) (pe:∀ e∈b.ent,dX e.p) (c9:fO w (J po a7 a6) p) (pp:dX p) :
  bV aI 11 #[aD #[L O b.me,J s1 s2 s3,J s4 s5 I,J M N S,J j r u,J F G H],L O f,aD #[L O b1,L O t1,L O t2,L O a1,L O a2,J po a7 a6,J X 0 0]] w (RtQ w (mq w b (s1,s2,s3) (s4,s5,I) (M,N,S) (j,r,u) (F,G,H)) (jS b f (t1,t2) (a1,a2) p)):=by
 rw [Pw aE];obtain⟨T,bM,bO,bP⟩:=gT w #[L O b.me,J s1 s2 s3,J s4 s5 I,J M N S,J j r u,J F G H] #[L O b1,L O t1,L O t2,L O a1,L O a2,J po a7 a6,J X 0 0] #[L O 0,J X 0 0,J X 0 0,J X 0 0,J X 0 0,J X 0 0] 30 43 30;obtain⟨P,a8⟩:∃ P:Prop,P=mq w b (s1,s2,s3) (s4,s5,I) (M,N,S) (j,r,u) (F,G,H):=⟨_,rfl⟩;have d2:=C a8;have bE:=C T;have bI:=C (fun (Q:bY->Act->aC->Prop) (W:aC)=>os1 Q W w.heap.size (w.heap.size+1) (w.heap.size+1+1) P b s1 s2 s3 s4 s5 I M N S j r u F G H f b1 t1 t2 a1 a2 po a7 a6 p);have b7:=C bP;have b2:=C bM;have b6:=C bO;have A4:=C (h.on T);have b8:=C (show P->_ from fun q=>(cast a8 q:mq w b (s1,s2,s3) (s4,s5,I) (M,N,S) (j,r,u) (F,G,H)).on T);have b9:=C c6;have bA:=C c7;have bB:=C (show kD b.ent from aE.ent);have bC:=C pe;have b4:=C (c9.on T);have b5:=C pp;clear h T bM bO bP c6 c7 aE pe a8 c9 pp;go_enter Tryz.func11,Tryz.ntmps11;go_upto_region 1 with fail;refine bI.o _ _ _ _ _ _ _ _ _ _ _ _ _ _ _ _ _ _ _ _ _ _ b7.o b2.o b6.o A4.o b8.o b9.o bA.o bB.o bC.o b4.o b5.o ?_;intro x e4 e5 d6 d7 d8 d9 dA dC dE dS dT dZ e0 e1 e2 e3 cC cL cM cN cP cQ cR cS cT cD cF cG cH cI cJ cU cV cW d3 bX bW bT c8 cA;have cX:=C (bE.o.trans (cA.2 w.heap.size (by omega)));have cY:=C bW;have d0:=C bT;have d1:=C (c8.le bE.o.size);obtain⟨v0,d4,d5,v3,v4,v5⟩:=bX.fA;clear bX bW bT c8 cA bI b2 b6 b7 A4 b8 b9 bA bB bC b4 b5;go_wp2_with fail;refine aN (v:=.tuple #[aD #[L O (iP b (jH b (t1,t2)) (⟨(t1,t2),(a1,a2),p,f,aF⟩:En)).1.me,J cC cL cM,J cN cP cQ,J cR cS cT,J cD cF cG,J cH cI cJ],J cU cV cW]) (by simp [results,Tryz.results11,go_sem,v0,d4,d5,v3,v4,v5]) rfl ?_;exact⟨⟨(cC,cL,cM),(cN,cP,cQ),(cR,cS,cT),(cD,cF,cG),(cH,cI,cJ),(cU,cV,cW),d3,rfl,cY.o,fun q=>d0.o (cast d2.o.symm q),d1.o⟩,cX.o⟩
theorem PG (b:Br) (s1:OA) (s2 s3:Nat) (s4:OA) (s5 I:Nat) (M:OA) (N S:Nat) (j:OA) (r u:Nat) (F:OA) (G H:Nat) (f a8 t1 t2 T a1:Int) (po:OA) (b1 aE:Nat) (w:aC) (h:qF w b (s1,s2,s3) (s4,s5,I) (M,N,S) (j,r,u) (F,G,H)) (bW:Am b) (bX:rR b) (a7:iU b) (pe:∀ e∈b.ent,dX e.p) :
  bV aI 20 #[aD #[L O b.me,J s1 s2 s3,J s4 s5 I,J M N S,J j r u,J F G H],L O f,aD #[L O a8,L O t1,L O t2,L O T,L O a1,J po b1 aE,J X 0 0]] w (RtQ w (mq w b (s1,s2,s3) (s4,s5,I) (M,N,S) (j,r,u) (F,G,H)) (jv b (t1,t2) (T,a1) f)):=by
 rw [GU a7];obtain⟨a2,bE,bI,bM⟩:=gT w #[L O b.me,J s1 s2 s3,J s4 s5 I,J M N S,J j r u,J F G H] #[L O a8,L O t1,L O t2,L O T,L O a1,J po b1 aE,J X 0 0] #[L O 0,J X 0 0,J X 0 0,J X 0 0,J X 0 0,J X 0 0] 30 43 30;obtain⟨P,a6⟩:∃ P:Prop,P=mq w b (s1,s2,s3) (s4,s5,I) (M,N,S) (j,r,u) (F,G,H):=⟨_,rfl⟩;have cY:=C a6;have bB:=C a2;have bC:=C (fun (Q:bY->Act->aC->Prop) (W:aC)=>ou1 Q W w.heap.size (w.heap.size+1) (w.heap.size+1+1) P b s1 s2 s3 s4 s5 I M N S j r u F G H f a8 t1 t2 T a1 po b1 aE);have b5:=C bM;have b2:=C bE;have b4:=C bI;have A4:=C (h.on a2);have b6:=C (show P->_ from fun q=>(cast a6 q:mq w b (s1,s2,s3) (s4,s5,I) (M,N,S) (j,r,u) (F,G,H)).on a2);have b7:=C bW;have b8:=C bX;have b9:=C (show kD b.ent from a7.ent);have bA:=C pe;clear h a2 bE bI bM bW bX a7 pe a6;go_enter Tryz.func20,Tryz.ntmps20;go_upto_region 1 with fail;refine bC.o _ _ _ _ _ _ _ _ _ _ _ _ _ _ _ _ _ _ _ b5.o b2.o b4.o A4.o b6.o b7.o b8.o b9.o bA.o ?_;intro x dT dZ d3 d4 d5 d6 d7 d8 d9 dA dC dE dS c8 cH cI cJ cL cM cN cP cQ c9 cA cC cD cF cG cR cS cT d0 bT bP bO c6 c7;have cU:=C (bB.o.trans (c7.2 w.heap.size (by omega)));have cV:=C bP;have cW:=C bO;have cX:=C (c6.le bB.o.size);obtain⟨v0,d1,d2,v3,v4,v5⟩:=bT.fA;clear bT bP bO c6 c7 bC b2 b4 b5 A4 b6 b7 b8 b9 bA;go_wp2_with fail;refine aN (v:=.tuple #[aD #[L O (jo b (jH b (t1,t2)) (t1,t2) (T,a1) f).1.me,J c8 cH cI,J cJ cL cM,J cN cP cQ,J c9 cA cC,J cD cF cG],J cR cS cT]) (by simp [results,Tryz.results20,go_sem,v0,d1,d2,v3,v4,v5]) rfl ?_;exact⟨⟨(c8,cH,cI),(cJ,cL,cM),(cN,cP,cQ),(c9,cA,cC),(cD,cF,cG),(cR,cS,cT),d0,rfl,cV.o,fun q=>cW.o (cast cY.o.symm q),cX.o⟩,cU.o⟩
end Rt
end Go.Proofs.YtghlpefopidlaaaGreat
