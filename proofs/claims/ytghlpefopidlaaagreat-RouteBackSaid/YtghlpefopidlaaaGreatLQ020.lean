/-
  The region of Copy i. Conditions as told.
-/
import Derived.Test.YtghlpefopidlaaaGreatLQ016
import Derived.Test.YtghlpefopidlaaaGreatLQ013
set_option maxRecDepth 100000
set_option maxHeartbeats 64000000
open _root_.Go renaming Value->aC,World->aF,Addr->aN,Calls->aZ
open Go.Act renaming put->aM,eval->aU
open Go.Builtin renaming copy_->aJ,append_->aS
open Go.Instr renaming sliceAt->aA
open Go.IntKind renaming i64->ay,wrap_i64->aQ
open Go.Lib renaming hid->ak
open Go.Obj renaming cells->aK
open Go.Operand renaming tmp->aj
open Go.Proofs.Tryz renaming prog->Y,ntmps104->aO,func104->aP
open Go.Proofs.YtghlpefopidlaaaGreat.Rg renaming dG->aD,get_put->aH,dP->aL,dU->aR,dW->aT,fZ->aV,gP->aX,gu->aY,gU->bf,kL->bg,gD->bF
open Go.RowKit.Below renaming refl->V,heap_setCell->aG
open Go.Value renaming slice->J,pointer->O,int->au,agg->aW
open _root_.List renaming getElem?_toArray->X,getElem?_cons_zero->Z,getElem?_cons_succ->ah,getElem?_eq_some_iff->aI
open _root_.Option renaming none->L,some->U
open _root_.Or renaming inr->aB
namespace Go.Proofs.YtghlpefopidlaaaGreat
namespace Av
open Go.RowKit Go.Sort Rw YtghlpefopidlaaaGreat.Nm Pr Bk
def ab8 (B:Nat) (b1:Nat) (_me:Int) (_z1 _z3:aC) (o2:Option aN) (n2 c2:Nat) (al:List kY) (o4:Option aN) (n4 c4:Nat) (el:List jk) (o5:Option aN) (n5 c5:Nat) (ol:List ny) (i:Nat) (v:aC) (x:aF):Prop :=
 match i with
 | 0=>v=O (U ⟨b1,2,L⟩)
 | 1=>v=J o2 n2 c2
 | 2=>∃ s:Sl,v=dX s/\nk x B v al
 | 3=>v=O (U ⟨b1,4,L⟩)
 | 4=>v=J o4 n4 c4
 | 5=>∃ s:Sl,v=dX s/\jH x B v el
 | 6=>v=O (U ⟨b1,5,L⟩)
 | 7=>v=J o5 n5 c5
 | 8=>∃ s:Sl,v=dX s/\nM x B v ol
 | 9=>v=O (U ⟨b1,2,L⟩)
 | _=>True
noncomputable def ajU:Code:=((Tryz.f33.body.bind (eO 2)).getD .skip)
theorem ab9 (B:Nat) (b1:Nat) (me:Int) (z1 z3:aC) (o2:Option aN) (n2 c2:Nat) (al:List kY) (o4:Option aN) (n4 c4:Nat) (el:List jk) (o5:Option aN) (n5 c5:Nat) (ol:List ny) (i:Nat) (v:aC) (x x':aF) (h:ab8 B b1 me z1 z3 o2 n2 c2 al o4 n4 c4 el o5 n5 c5 ol i v x) (hb:Below x.heap.size x x'):ab8 B b1 me z1 z3 o2 n2 c2 al o4 n4 c4 el o5 n5 c5 ol i v x':=by
 by_cases hi:i<10
 ·rcases (by omega:i=0\/i=1\/i=2\/i=3\/i=4\/i=5\/i=6\/i=7\/i=8\/i=9) with rfl|rfl|rfl|rfl|rfl|rfl|rfl|rfl|rfl|rfl
  ·exact h
  ·exact h
  ·obtain⟨s,h1,h2⟩:=h; exact⟨s,h1,Bk.dI h2 hb⟩
  ·exact h
  ·exact h
  ·obtain⟨s,h1,h2⟩:=h; exact⟨s,h1,Bk.dI h2 hb⟩
  ·exact h
  ·exact h
  ·obtain⟨s,h1,h2⟩:=h; exact⟨s,h1,Bk.dI h2 hb⟩
  ·exact h
 ·unfold ab8
  split <;> first | omega | trivial
theorem cp2 (Q:Exit->Act->aF->Prop) (W:aF) (b1:Nat) (me:Int) (z1 z3:aC) (o2:Option aN) (n2 c2:Nat) (al:List kY) (o4:Option aN) (n4 c4:Nat) (el:List jk) (o5:Option aN) (n5 c5:Nat) (ol:List ny) (T a0 a3 a4 a5 a6 a7 a8 aE b9 bJ bQ c7 fP fR fS fW fX fY g0 g6 g9 gE gO gR c8 c9 cA cC cD cF cG cH cI cJ cL cM cN cP cQ cR cS cT cU cV cW cX cY d1 d3 d4 d5 d7 d9 dA dC dE dS dT e7 e9 eA eB eC eE eI eJ eK eL eM eN eQ eS eV eW f0 f7 f8 f9 fL fN:aC)
  (h1:dK W b1 #[au ay me,z1,J o2 n2 c2,z3,J o4 n4 c4,J o5 n5 c5] 30) (r2:xQ W (J o2 n2 c2) al) (r4:mh W (J o4 n4 c4) el) (r5:EP W (J o5 n5 c5) ol) (l2:al.length<=900) (l4:el.length<=900) (l5:ol.length<=900)
  (hQ:∀ (x:aF) (gS hC hG hH hJ hL hM hO hS hT hU hW:aC) (p2:Option aN) (q2 s2:Nat) (p4:Option aN) (q4 s4:Nat) (p5:Option aN) (q5 s5:Nat),dK x b1 #[au ay me,z1,J p2 q2 s2,z3,J p4 q4 s4,J p5 q5 s5] 30->nk x W.heap.size (J p2 q2 s2) al->jH x W.heap.size (J p4 q4 s4) el->nM x W.heap.size (J p5 q5 s5) ol->(∀ B,B<=b1->Below B W x)->(∀ k,k<W.heap.size->k≠b1->x.heap[k]?=W.heap[k]?)->Q .normal ⟨(T::O (U ⟨b1,0,L⟩)::a0::a3::a4::a5::a6::a7::a8::aE::b9::bJ::bQ::c7::gS::hC::hG::hH::hJ::hL::hM::hO::hS::hT::hU::hW::c8::c9::cA::cC::cD::cF::cG::cH::cI::cJ::cL::cM::cN::cP::cQ::cR::cS::cT::cU::cV::cW::cX::cY::d1::d3::d4::d5::d7::d9::dA::dC::dE::dS::dT::e7::e9::eA::eB::eC::eE::eI::eJ::eK::eL::eM::eN::eQ::eS::eV::eW::f0::f7::f8::f9::fL::fN::[]).toArray,[]⟩ x) :
  Code.wp Y ajU Q ⟨(T::O (U ⟨b1,0,L⟩)::a0::a3::a4::a5::a6::a7::a8::aE::b9::bJ::bQ::c7::fP::fR::fS::fW::fX::fY::g0::g6::g9::gE::gO::gR::c8::c9::cA::cC::cD::cF::cG::cH::cI::cJ::cL::cM::cN::cP::cQ::cR::cS::cT::cU::cV::cW::cX::cY::d1::d3::d4::d5::d7::d9::dA::dC::dE::dS::dT::e7::e9::eA::eB::eC::eE::eI::eJ::eK::eL::eM::eN::eQ::eS::eV::eW::f0::f7::f8::f9::fL::fN::[]).toArray,[]⟩ W:=by
 have HQ:=ak hQ;have H1:=ak h1;have R2:=ak r2;have R4:=ak r4;have R5:=ak r5;have L2:=ak l2;have L4:=ak l4;have L5:=ak l5;clear hQ h1 r2 r4 r5 l2 l4 l5;have jW:=ab9 W.heap.size b1 me z1 z3 o2 n2 c2 al o4 n4 c4 el o5 n5 c5 ol;unfold ajU
 conv=>arg 2; whnf
 have nd:∀ j,(j<14\/24<=j)->∀ i,i<10->(fun i=>14+i) i≠j:=by
  intro j hj i hi h;simp only at h;omega
 refine bf 15 10 (fun i=>14+i) (fun _=>10) (ab8 W.heap.size b1 me z1 z3 o2 n2 c2 al o4 n4 c4 el o5 n5 c5 ol) (by kernel_rfl) (by kernel_rfl) rfl (by decide) (fun i j _ _ h=>by have h2:14+i=14+j:=h; omega) (fun i hi=>by show 14+i<82; omega) ?_ (fun _=>bg 14 (by kernel_rfl)) ?_ ?_
 ·intro i o hi ho a x D hnd hc hD hb seen K hK;clear HQ;rcases (by omega:i=0\/i=1\/i=2\/i=3\/i=4\/i=5\/i=6\/i=7\/i=8\/i=9) with rfl|rfl|rfl|rfl|rfl|rfl|rfl|rfl|rfl|rfl
  ·cases ho;have e1:a.eval (aj 1)=O (U ⟨b1,0,L⟩):=seen.kp 1 _ (nd 1 (by omega)) rfl;exact aD rfl rfl (aT a.eval _ 30 (aj 1) 2 rfl (by rw [e1]; simp [go_sem])) (hK _ _ rfl (V _ _) fun _ _ _ _ _ _ _ h=>h)
  ·cases ho;have e14:a.eval (aj 14)=O (U ⟨b1,2,L⟩):=seen.at_ ⟨0,.data⟩ (by simp) rfl (aB (by decide));have y2:=(H1.out.on hb).cell 2;simp only [X,Z,ah] at y2;exact aD rfl rfl (aR a.eval _ 25 (aj 14) rfl (by rw [e14]; simp [go_sem,y2])) (hK _ _ rfl (V _ _) fun _ _ _ _ _ _ _ h=>h)
  ·cases ho;have e15:a.eval (aj 15)=J o2 n2 c2:=seen.at_ ⟨1,.data⟩ (by simp) rfl (aB (by decide));exact aX rfl rfl (Rw.iZ a.eval _ (aj 15) 25 100 rfl e15 rfl _ (fV Tryz.func100 rfl rfl _ _)) (Oc (o2,n2,c2) al x (R2.out.on hb) L2.out) fun e w1 h=>by
    obtain⟨⟨s,rfl,h1⟩,h3⟩:=h;exact⟨_,rfl,hK _ _ ⟨s,rfl,dM h1 hb.size⟩ (h3.mono hb.size) fun j u hj _ _ _ hne h=>jW j u _ _ h h3⟩
  ·cases ho;have e1:a.eval (aj 1)=O (U ⟨b1,0,L⟩):=seen.kp 1 _ (nd 1 (by omega)) rfl;exact aD rfl rfl (aT a.eval _ 30 (aj 1) 4 rfl (by rw [e1]; simp [go_sem])) (hK _ _ rfl (V _ _) fun _ _ _ _ _ _ _ h=>h)
  ·cases ho;have e17:a.eval (aj 17)=O (U ⟨b1,4,L⟩):=seen.at_ ⟨3,.data⟩ (by simp) rfl (aB (by decide));have y4:=(H1.out.on hb).cell 4;simp only [X,Z,ah] at y4;exact aD rfl rfl (aR a.eval _ 27 (aj 17) rfl (by rw [e17]; simp [go_sem,y4])) (hK _ _ rfl (V _ _) fun _ _ _ _ _ _ _ h=>h)
  ·cases ho;have e18:a.eval (aj 18)=J o4 n4 c4:=seen.at_ ⟨4,.data⟩ (by simp) rfl (aB (by decide));exact aX rfl rfl (Rw.iZ a.eval _ (aj 18) 27 101 rfl e18 rfl _ (fV Tryz.func101 rfl rfl _ _)) (Od (o4,n4,c4) el x (R4.out.on hb) L4.out) fun e w1 h=>by
    obtain⟨⟨s,rfl,h1⟩,h3⟩:=h;exact⟨_,rfl,hK _ _ ⟨s,rfl,dM h1 hb.size⟩ (h3.mono hb.size) fun j u hj _ _ _ hne h=>jW j u _ _ h h3⟩
  ·cases ho;have e1:a.eval (aj 1)=O (U ⟨b1,0,L⟩):=seen.kp 1 _ (nd 1 (by omega)) rfl;exact aD rfl rfl (aT a.eval _ 30 (aj 1) 5 rfl (by rw [e1]; simp [go_sem])) (hK _ _ rfl (V _ _) fun _ _ _ _ _ _ _ h=>h)
  ·cases ho;have e20:a.eval (aj 20)=O (U ⟨b1,5,L⟩):=seen.at_ ⟨6,.data⟩ (by simp) rfl (aB (by decide));have y5:=(H1.out.on hb).cell 5;simp only [X,Z,ah] at y5;exact aD rfl rfl (aR a.eval _ 28 (aj 20) rfl (by rw [e20]; simp [go_sem,y5])) (hK _ _ rfl (V _ _) fun _ _ _ _ _ _ _ h=>h)
  ·cases ho;have e21:a.eval (aj 21)=J o5 n5 c5:=seen.at_ ⟨7,.data⟩ (by simp) rfl (aB (by decide));exact aX rfl rfl (Rw.iZ a.eval _ (aj 21) 28 102 rfl e21 rfl _ (fV Tryz.func102 rfl rfl _ _)) (Oe (o5,n5,c5) ol x (R5.out.on hb) L5.out) fun e w1 h=>by
    obtain⟨⟨s,rfl,h1⟩,h3⟩:=h;exact⟨_,rfl,hK _ _ ⟨s,rfl,dM h1 hb.size⟩ (h3.mono hb.size) fun j u hj _ _ _ hne h=>jW j u _ _ h h3⟩
  ·cases ho;have e1:a.eval (aj 1)=O (U ⟨b1,0,L⟩):=seen.kp 1 _ (nd 1 (by omega)) rfl;exact aD rfl rfl (aT a.eval _ 30 (aj 1) 2 rfl (by rw [e1]; simp [go_sem])) (hK _ _ rfl (V _ _) fun _ _ _ _ _ _ _ h=>h)
 ·intro kk o h1 h2 ho;rcases (by omega:kk=11\/kk=12\/kk=13\/kk=14) with rfl|rfl|rfl|rfl
  ·cases ho;exact⟨⟨10,.phase⟩,by simp,rfl,rfl⟩
  ·cases ho;exact⟨⟨11,.data⟩,by simp,rfl,rfl⟩
  ·cases ho;exact⟨⟨12,.phase⟩,by simp,rfl,rfl⟩
  ·cases ho;exact⟨⟨13,.data⟩,by simp,rfl,rfl⟩
 ·intro a w' df sz kp ⟨vs,hv⟩ hb;have sz':a.tmps.size=82:=sz;have g1:a.tmps[1]?=U (O (U ⟨b1,0,L⟩)):=(kp 1 (nd 1 (by omega))).trans rfl;have g23:a.tmps[23]?=U (O (U ⟨b1,2,L⟩)):=by
   have h:vs 9=O (U ⟨b1,2,L⟩):=(hv 9 (by omega)).2 (by decide);rw [<- h];exact (hv 9 (by omega)).1
  obtain⟨⟨p2,q2,s2⟩,hs2,ho2⟩:=(hv 2 (by omega)).2 (by decide);have g16:a.tmps[16]?=U (J p2 q2 s2):=((hv 2 (by omega)).1).trans (congrArg U hs2);rw [hs2] at ho2;obtain⟨⟨p4,q4,s4⟩,hs4,ho4⟩:=(hv 5 (by omega)).2 (by decide);have g19:a.tmps[19]?=U (J p4 q4 s4):=((hv 5 (by omega)).1).trans (congrArg U hs4);rw [hs4] at ho4;obtain⟨⟨p5,q5,s5⟩,hs5,ho5⟩:=(hv 8 (by omega)).2 (by decide);have g22:a.tmps[22]?=U (J p5 q5 s5):=((hv 8 (by omega)).1).trans (congrArg U hs5);rw [hs5] at ho5;have hB:=H1.out.on hb;have hlt:=H1.out.lt;show aV _ _ _ 5 10 a w';simp only [aV];have c2x:=hB.cell 2;have f2x:=hB.fr 2;simp only [X,Z,ah] at c2x;refine aY 25 (aj 23) (aj 16) rfl rfl rfl rfl (aL g23) (aL g16) (w':=(w').setCell ⟨b1,2,L⟩ (J p2 q2 s2)) (by simp [go_sem,c2x,f2x]) ?_;have hB2:dK ((w').setCell ⟨b1,2,L⟩ (J p2 q2 s2)) b1 #[au ay me,z1,J p2 q2 s2,z3,J o4 n4 c4,J o5 n5 c5] 30:=by simpa using eu (k:=2) hB (J p2 q2 s2)
  refine aD rfl rfl (aT _ _ 30 (aj 1) 4 rfl (v:=O (U ⟨b1,4,L⟩)) (by rw [aL g1]; simp [go_sem])) ?_;have amQ:((a).put (U 24) (O (U ⟨b1,4,L⟩))).tmps[24]?=U (O (U ⟨b1,4,L⟩)):=by simp [aM,sz']
  show Go.wpOp _ _ _ 12 _ ((a).put (U 24) (O (U ⟨b1,4,L⟩))) _;have c4x:=hB2.cell 4;have f4x:=hB2.fr 4;simp only [X,Z,ah] at c4x;refine aY 27 (aj 24) (aj 19) rfl rfl rfl rfl (aL amQ) (aL ((aH _ 24 _ 19 (by decide)).trans g19)) (w':=((w').setCell ⟨b1,2,L⟩ (J p2 q2 s2)).setCell ⟨b1,4,L⟩ (J p4 q4 s4)) (by simp [go_sem,c4x,f4x]) ?_;have hB4:dK (((w').setCell ⟨b1,2,L⟩ (J p2 q2 s2)).setCell ⟨b1,4,L⟩ (J p4 q4 s4)) b1 #[au ay me,z1,J p2 q2 s2,z3,J p4 q4 s4,J o5 n5 c5] 30:=by simpa using eu (k:=4) hB2 (J p4 q4 s4)
  refine aD rfl rfl (aT _ _ 30 (aj 1) 5 rfl (v:=O (U ⟨b1,5,L⟩)) (by rw [aL ((aH _ 24 _ 1 (by decide)).trans g1)]; simp [go_sem])) ?_;have amR:(((a).put (U 24) (O (U ⟨b1,4,L⟩))).put (U 25) (O (U ⟨b1,5,L⟩))).tmps[25]?=U (O (U ⟨b1,5,L⟩)):=by simp [aM,sz']
  show Go.wpOp _ _ _ 14 _ (((a).put (U 24) (O (U ⟨b1,4,L⟩))).put (U 25) (O (U ⟨b1,5,L⟩))) _;have c5x:=hB4.cell 5;have f5x:=hB4.fr 5;simp only [X,Z,ah] at c5x;refine aY 28 (aj 25) (aj 22) rfl rfl rfl rfl (aL amR) (aL ((aH _ 25 _ 22 (by decide)).trans ((aH _ 24 _ 22 (by decide)).trans g22))) (w':=(((w').setCell ⟨b1,2,L⟩ (J p2 q2 s2)).setCell ⟨b1,4,L⟩ (J p4 q4 s4)).setCell ⟨b1,5,L⟩ (J p5 q5 s5)) (by simp [go_sem,c5x,f5x]) ?_;have hB5:dK ((((w').setCell ⟨b1,2,L⟩ (J p2 q2 s2)).setCell ⟨b1,4,L⟩ (J p4 q4 s4)).setCell ⟨b1,5,L⟩ (J p5 q5 s5)) b1 #[au ay me,z1,J p2 q2 s2,z3,J p4 q4 s4,J p5 q5 s5] 30:=by simpa using eu (k:=5) hB4 (J p5 q5 s5)
  have rJ:∀ j,(j<14\/26<=j)->(((a).put (U 24) (O (U ⟨b1,4,L⟩))).put (U 25) (O (U ⟨b1,5,L⟩))).tmps[j]?=(T::O (U ⟨b1,0,L⟩)::a0::a3::a4::a5::a6::a7::a8::aE::b9::bJ::bQ::c7::fP::fR::fS::fW::fX::fY::g0::g6::g9::gE::gO::gR::c8::c9::cA::cC::cD::cF::cG::cH::cI::cJ::cL::cM::cN::cP::cQ::cR::cS::cT::cU::cV::cW::cX::cY::d1::d3::d4::d5::d7::d9::dA::dC::dE::dS::dT::e7::e9::eA::eB::eC::eE::eI::eJ::eK::eL::eM::eN::eQ::eS::eV::eW::f0::f7::f8::f9::fL::fN::[])[j]?:=fun j hj=>(aH _ 25 _ j (by omega)).trans ((aH _ 24 _ j (by omega)).trans ((kp j (nd j (by omega))).trans X));obtain⟨mid,hmid,hfr⟩:=Rg.gM (a:=((a).put (U 24) (O (U ⟨b1,4,L⟩))).put (U 25) (O (U ⟨b1,5,L⟩))) 14 12 df (by simp [Rg.size_put,sz']) (by simp) rJ;show Q .normal (((a).put (U 24) (O (U ⟨b1,4,L⟩))).put (U 25) (O (U ⟨b1,5,L⟩))) _;rw [hfr]
  match mid,hmid with
  | [gS,hC,hG,hH,hJ,hL,hM,hO,hS,hT,hU,hW],_ =>
   exact HQ.out _ _ _ _ _ _ _ _ _ _ _ _ _ p2 q2 s2 p4 q4 s4 p5 q5 s5 hB5 (eZ (eZ (eZ ho2 b1 2 (J p2 q2 s2) hlt) b1 4 (J p4 q4 s4) hlt) b1 5 (J p5 q5 s5) hlt) (eZ (eZ (eZ ho4 b1 2 (J p2 q2 s2) hlt) b1 4 (J p4 q4 s4) hlt) b1 5 (J p5 q5 s5) hlt) (eZ (eZ (eZ ho5 b1 2 (J p2 q2 s2) hlt) b1 4 (J p4 q4 s4) hlt) b1 5 (J p5 q5 s5) hlt) (fun B hBl=>((((hb.mono (Nat.le_of_lt (Nat.lt_of_le_of_lt hBl hlt))).setCell (p:=⟨b1,2,L⟩) hBl (J p2 q2 s2)).setCell (p:=⟨b1,4,L⟩) hBl (J p4 q4 s4)).setCell (p:=⟨b1,5,L⟩) hBl (J p5 q5 s5))) (fun k hk hne=>((aG (((w').setCell ⟨b1,2,L⟩ (J p2 q2 s2)).setCell ⟨b1,4,L⟩ (J p4 q4 s4)) ⟨b1,5,L⟩ (J p5 q5 s5) k hne).trans ((aG ((w').setCell ⟨b1,2,L⟩ (J p2 q2 s2)) ⟨b1,4,L⟩ (J p4 q4 s4) k hne).trans ((aG (w') ⟨b1,2,L⟩ (J p2 q2 s2) k hne).trans (hb.block k hk)))))
def acd (B:Nat) (b1:Nat) (_me:Int) (_z1 _z3 _z4 _z5:aC) (g n cap k:Nat) (y1 y2:Int) (yo:Option aN) (yn yc:Nat) (y4:Int) (p:List C5) (i:Nat) (v:aC) (x:aF):Prop :=
 match i with
 | 0=>v=O (U ⟨b1,2,L⟩)
 | 1=>v=J (U ⟨g,0,L⟩) n cap
 | 2=>v=au ay (k:Int)
 | 3=>v=O (U ⟨b1,2,L⟩)
 | 4=>v=J (U ⟨g,0,L⟩) n cap
 | 5=>v=au ay (k:Int)
 | 6=>v=O (U ⟨g,k * 4,L⟩)
 | 7=>v=nD (y1,y2,(yo,yn,yc),y4)
 | 8=>∃ s:Sl,v=nD (y1,y2,s,y4)/\iJ x B (dX s) p
 | 9=>v=O (U ⟨g,k * 4,L⟩)
 | _=>True
noncomputable def ajW:Code:=((Tryz.f33.body.bind (eO 6)).getD .skip)
theorem ace (B:Nat) (b1:Nat) (me:Int) (z1 z3 z4 z5:aC) (g n cap k:Nat) (y1 y2:Int) (yo:Option aN) (yn yc:Nat) (y4:Int) (p:List C5) (i:Nat) (v:aC) (x x':aF) (h:acd B b1 me z1 z3 z4 z5 g n cap k y1 y2 yo yn yc y4 p i v x) (hb:Below x.heap.size x x'):acd B b1 me z1 z3 z4 z5 g n cap k y1 y2 yo yn yc y4 p i v x':=by
 by_cases hi:i<10
 ·rcases (by omega:i=0\/i=1\/i=2\/i=3\/i=4\/i=5\/i=6\/i=7\/i=8\/i=9) with rfl|rfl|rfl|rfl|rfl|rfl|rfl|rfl|rfl|rfl
  ·exact h
  ·exact h
  ·exact h
  ·exact h
  ·exact h
  ·exact h
  ·exact h
  ·exact h
  ·obtain⟨s,h1,h2⟩:=h; exact⟨s,h1,Bk.dI h2 hb⟩
  ·exact h
 ·unfold acd
  split <;> first | omega | trivial
theorem cp6 (Q:Exit->Act->aF->Prop) (W:aF) (B0:Nat) (l:List kY) (b1:Nat) (me:Int) (z1 z3 z4 z5:aC) (g n cap k:Nat) (y1 y2:Int) (yo:Option aN) (yn yc:Nat) (y4:Int) (p:List C5) (T a0 a3 a4 a5 a6 a7 a8 aE b9 bJ bQ c7 c8 c9 cA cC cD cF cG cH cI cJ cL cM cN cP cQ cR cS fR fS fW fX fY g0 g6 g9 gE gO cT cU cV cW cX cY d1 d3 d4 d5 d7 d9 dA dC dE dS dT e7 e9 eA eB eC eE eI eJ eK eL eM eN eQ eS eV eW f0 f7 f8 f9 fL fN fP:aC)
  (h1:dK W b1 #[au ay me,z1,J (U ⟨g,0,L⟩) n cap,z3,z4,z5] 30) (ho:nk W B0 (J (U ⟨g,0,L⟩) n cap) l) (hy:l[k]?=U (y1,y2,(yo,yn,yc),y4)) (hp:fI W (J yo yn yc) p) (lp:p.length<=900)
  (hQ:∀ (x:aF) (gR gS hC hG hH hJ hL hM hO hS:aC) (s1:Option aN) (s2 s3:Nat),iJ x W.heap.size (J s1 s2 s3) p->nk x B0 (J (U ⟨g,0,L⟩) n cap) (l.set k (y1,y2,(s1,s2,s3),y4))->But g W x->(∀ B1,B1<=g->B1<=W.heap.size->Below B1 W x)->Q .normal ⟨(T::O (U ⟨b1,0,L⟩)::a0::au ay (k:Int)::a3::a4::a5::a6::a7::a8::aE::b9::bJ::bQ::c7::c8::c9::cA::cC::cD::cF::cG::cH::cI::cJ::cL::cM::cN::cP::cQ::cR::cS::gR::gS::hC::hG::hH::hJ::hL::hM::hO::hS::cT::cU::cV::cW::cX::cY::d1::d3::d4::d5::d7::d9::dA::dC::dE::dS::dT::e7::e9::eA::eB::eC::eE::eI::eJ::eK::eL::eM::eN::eQ::eS::eV::eW::f0::f7::f8::f9::fL::fN::fP::[]).toArray,[]⟩ x) :
  Code.wp Y ajW Q ⟨(T::O (U ⟨b1,0,L⟩)::a0::au ay (k:Int)::a3::a4::a5::a6::a7::a8::aE::b9::bJ::bQ::c7::c8::c9::cA::cC::cD::cF::cG::cH::cI::cJ::cL::cM::cN::cP::cQ::cR::cS::fR::fS::fW::fX::fY::g0::g6::g9::gE::gO::cT::cU::cV::cW::cX::cY::d1::d3::d4::d5::d7::d9::dA::dC::dE::dS::dT::e7::e9::eA::eB::eC::eE::eI::eJ::eK::eL::eM::eN::eQ::eS::eV::eW::f0::f7::f8::f9::fL::fN::fP::[]).toArray,[]⟩ W:=by
 have HQ:=ak hQ;have H1:=ak h1;have HO:=ak ho;have HY:=ak hy;have HP:=ak hp;have LP:=ak lp;have IX:=ak (nT okD g k n cap (by obtain⟨_,_,hv⟩:=(Row.dJ ho).len; have h:=(aI.1 hy).1; simp at hv; omega));have EL:=ak (kE okD ho hy);clear hQ h1 ho hy hp lp;have jW:=ace W.heap.size b1 me z1 z3 z4 z5 g n cap k y1 y2 yo yn yc y4 p;unfold ajW
 conv=>arg 2; whnf
 have nd:∀ j,(j<32\/42<=j)->∀ i,i<10->(fun i=>32+i) i≠j:=by
  intro j hj i hi h;simp only at h;omega
 refine bf 11 10 (fun i=>32+i) (fun _=>10) (acd W.heap.size b1 me z1 z3 z4 z5 g n cap k y1 y2 yo yn yc y4 p) (by kernel_rfl) (by kernel_rfl) rfl (by decide) (fun i j _ _ h=>by have h2:32+i=32+j:=h; omega) (fun i hi=>by show 32+i<82; omega) ?_ (fun _=>bg 14 (by kernel_rfl)) ?_ ?_
 ·intro i o hi ho a x D hnd hc hD hb seen K hK;clear HQ;rcases (by omega:i=0\/i=1\/i=2\/i=3\/i=4\/i=5\/i=6\/i=7\/i=8\/i=9) with rfl|rfl|rfl|rfl|rfl|rfl|rfl|rfl|rfl|rfl
  ·cases ho;have e1:a.eval (aj 1)=O (U ⟨b1,0,L⟩):=seen.kp 1 _ (nd 1 (by omega)) rfl;exact aD rfl rfl (aT a.eval _ 30 (aj 1) 2 rfl (by rw [e1]; simp [go_sem])) (hK _ _ rfl (V _ _) fun _ _ _ _ _ _ _ h=>h)
  ·cases ho;have e32:a.eval (aj 32)=O (U ⟨b1,2,L⟩):=seen.at_ ⟨0,.data⟩ (by simp) rfl (aB (by decide));have y2:=(H1.out.on hb).cell 2;simp only [X,Z,ah] at y2;exact aD rfl rfl (aR a.eval _ 25 (aj 32) rfl (by rw [e32]; simp [go_sem,y2])) (hK _ _ rfl (V _ _) fun _ _ _ _ _ _ _ h=>h)
  ·cases ho;have e3:a.eval (aj 3)=au ay (k:Int):=seen.kp 3 _ (nd 3 (by omega)) rfl;exact aD rfl rfl (bF a.eval _ (aj 3) rfl x) (hK _ _ e3 (V _ _) fun _ _ _ _ _ _ _ h=>h)
  ·cases ho;have e1:a.eval (aj 1)=O (U ⟨b1,0,L⟩):=seen.kp 1 _ (nd 1 (by omega)) rfl;exact aD rfl rfl (aT a.eval _ 30 (aj 1) 2 rfl (by rw [e1]; simp [go_sem])) (hK _ _ rfl (V _ _) fun _ _ _ _ _ _ _ h=>h)
  ·cases ho;have e35:a.eval (aj 35)=O (U ⟨b1,2,L⟩):=seen.at_ ⟨3,.data⟩ (by simp) rfl (aB (by decide));have y2:=(H1.out.on hb).cell 2;simp only [X,Z,ah] at y2;exact aD rfl rfl (aR a.eval _ 25 (aj 35) rfl (by rw [e35]; simp [go_sem,y2])) (hK _ _ rfl (V _ _) fun _ _ _ _ _ _ _ h=>h)
  ·cases ho;have e3:a.eval (aj 3)=au ay (k:Int):=seen.kp 3 _ (nd 3 (by omega)) rfl;exact aD rfl rfl (bF a.eval _ (aj 3) rfl x) (hK _ _ e3 (V _ _) fun _ _ _ _ _ _ _ h=>h)
  ·cases ho;have e36:a.eval (aj 36)=J (U ⟨g,0,L⟩) n cap:=seen.at_ ⟨4,.data⟩ (by simp) rfl (aB (by decide));have e37:a.eval (aj 37)=au ay (k:Int):=seen.at_ ⟨5,.data⟩ (by simp) rfl (aB (by decide));exact aD rfl rfl (Rg.qC a.eval _ 25 (aj 36) (aj 37) rfl (by rw [e36,e37]; exact IX.out x)) (hK _ _ rfl (V _ _) fun _ _ _ _ _ _ _ h=>h)
  ·cases ho;have e38:a.eval (aj 38)=O (U ⟨g,k * 4,L⟩):=seen.at_ ⟨6,.data⟩ (by simp) rfl (aB (by decide));exact aD rfl rfl (aR a.eval _ 36 (aj 38) rfl (by rw [e38]; exact Wv x _ (y1,y2,(yo,yn,yc),y4) (EL.out x hb))) (hK _ _ rfl (V _ _) fun _ _ _ _ _ _ _ h=>h)
  ·cases ho;have e39:a.eval (aj 39)=nD (y1,y2,(yo,yn,yc),y4):=seen.at_ ⟨7,.data⟩ (by simp) rfl (aB (by decide));exact aX rfl rfl (Rw.iZ a.eval _ (aj 39) 36 35 rfl e39 rfl _ (fV Tryz.func35 rfl rfl _ _)) (Cm (y1,y2,(yo,yn,yc),y4) p x (HP.out.on hb) LP.out) fun e w1 h=>by
    obtain⟨⟨s,rfl,h1⟩,h3⟩:=h;exact⟨_,rfl,hK _ _ ⟨s,rfl,dM h1 hb.size⟩ (h3.mono hb.size) fun j u hj _ _ _ hne h=>jW j u _ _ h h3⟩
  ·cases ho;have e33:a.eval (aj 33)=J (U ⟨g,0,L⟩) n cap:=seen.at_ ⟨1,.data⟩ (by simp) rfl (aB (by decide));have e34:a.eval (aj 34)=au ay (k:Int):=seen.at_ ⟨2,.data⟩ (by simp) rfl (aB (by decide));exact aD rfl rfl (Rg.qC a.eval _ 25 (aj 33) (aj 34) rfl (by rw [e33,e34]; exact IX.out x)) (hK _ _ rfl (V _ _) fun _ _ _ _ _ _ _ h=>h)
 ·intro kk o h1 h2 ho;omega
 ·intro a w' df sz kp ⟨vs,hv⟩ hb;have sz':a.tmps.size=82:=sz;have g41:a.tmps[41]?=U (O (U ⟨g,k * 4,L⟩)):=by
   have h:vs 9=O (U ⟨g,k * 4,L⟩):=(hv 9 (by omega)).2 (by decide);rw [<- h];exact (hv 9 (by omega)).1
  obtain⟨⟨s1,s2,s3⟩,hs,hc⟩:=(hv 8 (by omega)).2 (by decide);have g40:a.tmps[40]?=U (nD (y1,y2,(s1,s2,s3),y4)):=((hv 8 (by omega)).1).trans (congrArg U hs);obtain⟨w2,hr,st1,st2,st3⟩:=ahQ (k:=k) (y1,y2,(s1,s2,s3),y4) (Bk.dI HO.out hb) (aI.1 HY.out).1;obtain⟨cur,hg⟩:=jL (Bk.dI HO.out hb);show aV _ _ _ 1 10 a w';simp only [aV];refine aY 36 (aj 41) (aj 40) rfl rfl rfl rfl (aL g41) (aL g40) (w':=w2) hr ?_;have rJ:∀ j,(j<32\/42<=j)->(a).tmps[j]?=(T::O (U ⟨b1,0,L⟩)::a0::au ay (k:Int)::a3::a4::a5::a6::a7::a8::aE::b9::bJ::bQ::c7::c8::c9::cA::cC::cD::cF::cG::cH::cI::cJ::cL::cM::cN::cP::cQ::cR::cS::fR::fS::fW::fX::fY::g0::g6::g9::gE::gO::cT::cU::cV::cW::cX::cY::d1::d3::d4::d5::d7::d9::dA::dC::dE::dS::dT::e7::e9::eA::eB::eC::eE::eI::eJ::eK::eL::eM::eN::eQ::eS::eV::eW::f0::f7::f8::f9::fL::fN::fP::[])[j]?:=fun j hj=>(kp j (nd j (by omega))).trans X;obtain⟨mid,hmid,hfr⟩:=Rg.gM (a:=a) 32 10 df (by simp [sz']) (by simp) rJ;show Q .normal (a) _;rw [hfr]
  match mid,hmid with
  | [gR,gS,hC,hG,hH,hJ,hL,hM,hO,hS],_ =>
   exact HQ.out _ _ _ _ _ _ _ _ _ _ _ s1 s2 s3 (st2.own hc hg (by decide)) st1 ((But.of_below hb).trans st2) fun B1 hB hl=>st3 B1 W hB (hb.mono hl)
theorem XH {W:aF} {b:Nat} {c:kY} (h:dK W b (cellsD c).toArray 36):xQ W (J (U ⟨b,0,L⟩) 1 1) [c] :=
 aB ⟨⟨b,0,L⟩,1,rfl,by simp,by decide,tu h (by simp [ED])⟩
def Cz (B:Nat) (l:List kY) (k:Nat) (c:kY) (vv:aC) (W:aF) (e:Ending) (w':aF):Prop:=∃ v',e=.returned v'/\nk w' B v' (l.take k++c::l.drop k)/\Below B W w'/\(∀ j,j<W.heap.size->U j≠vv.ownBlock->w'.heap[j]?=W.heap[j]?)
theorem Kv (B:Nat) (v:aC) (l:List kY) (c:kY) (b:Nat) (W:aF) (ho:nk W B v l) (hx:dK W b (cellsD c).toArray 36) (hl:l.length<=900) (hB:B<=W.heap.size) :
  aZ Y 104 #[v,au ay (l.length:Nat),J (U ⟨b,0,L⟩) 1 1] W (Cz B l l.length c v W):=by
 obtain⟨v',w',hr,ho2,hg⟩:=gZ okD B ho (XH hx) (by omega) (by simp) hB 25;have hr:(aS #[25,25] 25 #[v,J (U ⟨b,0,L⟩) 1 1]).run Y W=.ok v' w':=hr;have Q:=ak (show Cz B l l.length c v W (.returned v') w' from ⟨v',rfl,by rw [List.take_of_length_le (Nat.le_refl _),List.drop_of_length_le (Nat.le_refl _)]; exact ho2,(V B W).grown hg hB (fun j hj=>(ho.lt j hj).1),fun j hj hne=>hg.block j hj hne⟩);obtain⟨sx,hs,_⟩:=qB okD (Row.dJ ho) l.length (Nat.le_refl _);have hs:∀ w,(aA 25 v (U (au ay l.length)) L L).run Y w=.ok sx w:=hs;obtain⟨ao,ac,rfl⟩:=(Row.dJ ho).len;clear ho ho2 hg;generalize hn:l.length=n at *;clear hn;go_enter aP,aO;go_wp2_with (first | (at_builtin; refine wpList_append_run rfl _ _ 25 rfl rfl rfl hr ?_) | fail);go_ret;exact Q.out
theorem XI (w:aF) (g b k la lb cb:Nat) (cur cs:Array aC) (hb:dK w b cs 36) (hg:dK w g cur 36) (hne:b≠g) (h0:0<cur.size):(callFunc 140 #[J (U ⟨b,0,L⟩) la 1,J (U ⟨g,k,L⟩) lb cb]).run Y w=.ok (.value (.bool false)) w:=by
 rw [run_callFunc_extern Tryz.func140 (by kernel_rfl) (by kernel_rfl) (by kernel_rfl) (e:=Extern.SlicesOverlaps.overlaps #[25,25] #[4]) (by kernel_rfl),
  Lib.run_overlaps_apart w 25 4 36 Tryz.underlying25 4 Tryz.sizeOf36 ⟨b,0,L⟩ ⟨g,k,L⟩ la 1 lb cb hne 36 36 cs.size cur.size hb.shape hg.shape (by omega) (hb.fr 0) (hb.fr _)]
 rfl
theorem Fg (B g n cap:Nat) (cur:Array aC) (l:List kY) (k:Nat) (c:kY) (b:Nat) (W:aF) (hn:n=l.length) (hBg:B<=g) (hg:dK W g cur 36) (hcm:cap<=maxLen) (hsz:cur.size=cap * 4) (ht:cur.toList.take (n * 4)=flat ED l) (hx:dK W b (cellsD c).toArray 36) (hne:b≠g) (hk:k<n) (hroom:n+1<=cap) (hl:n<=900) :
  aZ Y 104 #[J (U ⟨g,0,L⟩) n cap,au ay k,J (U ⟨b,0,L⟩) 1 1] W (Cz B l k c (J (U ⟨g,0,L⟩) n cap) W):=by
 obtain⟨R1,R2,r1,r2,ow⟩:=rW (E:=ED) (l:=l) (k:=k) (cap:=cap) (cur:=cur) (cs:=(cellsD c).toArray) (c:=c) okD (by omega) (by omega) hsz (by rw [<- hn]; exact ht) g b hne;have hov:=fun lb cb=>XI W g b ((k+1) * 4) 1 lb cb cur (cellsD c).toArray hx hg hne (by omega);have s0:=gY (E:=ED) okD g k n cap (by omega) (by omega);have s1:=jZ (E:=ED) okD ⟨g,0,L⟩ (n+1) n cap (by omega);have s2:=gY (E:=ED) okD g (k+1) (n+1) cap (by omega) (by omega);have s3:=gY (E:=ED) okD g k (n+1) cap (by omega) (by omega);have q1:=r1 W.drew 3 (n+1-(k+1)) (cap-(k+1)) (n+1-k) (cap-k) hg (by omega);have q2:=r2 (W.drew.setRow g R1) 3 (n+1-k) (cap-k) (dK.set (show dK W.drew g cur 36 from hg) R1) (dK.other (show dK W.drew b _ 36 from hx) hne R1) rfl (by omega);have Q:=ak (show Cz B l k c (J (U ⟨g,0,L⟩) n cap) W (.returned (J (U ⟨g,0,L⟩) (n+1) cap)) ((W.drew.setRow g R1).setRow g R2) from ⟨_,rfl,by rw [hn]; exact ow _ B hBg hcm (dK.set (dK.set (show dK W.drew g cur 36 from hg) R1) R2),below_setRow (below_setRow (V B W).drew hBg _) hBg _,fun j hj hne=>(setRow_other _ g j _ (fun e=>hne (by rw [e]; rfl))).trans (setRow_other _ g j _ (fun e=>hne (by rw [e]; rfl)))⟩);clear r1 r2 ow hg ht hx hsz hBg hcm;change ∀ w,(aA 25 (J (U ⟨g,0,L⟩) n cap) (U (au ay k)) L L).run Y w=.ok (J (U ⟨g,k * 4,L⟩) (n-k) (cap-k)) w at s0;change ∀ w,(aA 25 (J (U ⟨g,0,L⟩) n cap) L (U (au ay ((n:Int)+1))) L).run Y w=.ok (J (U ⟨g,0,L⟩) (n+1) cap) w at s1;change ∀ w,(aA 25 (J (U ⟨g,0,L⟩) (n+1) cap) (U (au ay ((k:Int)+1))) L L).run Y w=.ok (J (U ⟨g,(k+1) * 4,L⟩) (n+1-(k+1)) (cap-(k+1))) w at s2;change ∀ w,(aA 25 (J (U ⟨g,0,L⟩) (n+1) cap) (U (au ay k)) L L).run Y w=.ok (J (U ⟨g,k * 4,L⟩) (n+1-k) (cap-k)) w at s3;have e1:((k:Int) == (n:Int))=false:=by rw [beq_eq_false_iff_ne]; omega
 have e2:decide ((cap:Int)<(n:Int)+1)=false:=by simp; omega
 change (aJ #[25,25] 3 #[J (U ⟨g,(k+1) * 4,L⟩) (n+1-(k+1)) (cap-(k+1)),J (U ⟨g,k * 4,L⟩) (n+1-k) (cap-k)]).run Y W.drew=.ok (au ay ((l.length-k:Nat):Int)) (W.drew.setRow g R1) at q1;change (aJ #[25,25] 3 #[J (U ⟨g,k * 4,L⟩) (n+1-k) (cap-k),J (U ⟨b,0,L⟩) 1 1]).run Y (W.drew.setRow g R1)=.ok (au ay 1) ((W.drew.setRow g R1).setRow g R2) at q2;clear hn;go_enter aP,aO;go_wp2_with (first | (simp only [hov]) | fail);clear hov s0 s1 s2 s3;have hw1:IntKind.i64.wrap ((k:Int)+1)=(k:Int)+1:=by rw [aQ]; omega
 have hb1:(0:Int)<=(k:Int)+1:=by omega
 have hb0:(k:Int)+1<=(n:Int)+1:=by omega
 have htn:((k:Int)+1).toNat=k+1:=by omega
 have hb2:¬ (cap=k+1):=by omega
 have hb3:(k:Int)<=(n:Int)+1:=by omega
 have hb4:¬ (cap=k):=by omega
 have h81:n+1-(k+1)=n-k:=by omega
 rw [h81] at q1;clear h81
 go_region_law (refine iP rfl (aj 73) (aj 76) 25 rfl (v:=J (U ⟨g,(k+1) * 4,L⟩) (n-k) (cap-(k+1))) (xv:=J (U ⟨g,k * 4,L⟩) (n+1-k) (cap-k)) (by simp [aU,aM]) (by simp [aU,aM]) q1 ?_)
 all_goals simp only [Exit.then]
 all_goals apply_assumption
 clear q1 hw1 hb1 hb0 htn hb2 hb3 hb4;have s3:=gY (E:=ED) okD g k (n+1) cap (by omega) (by omega);change ∀ w,(aA 25 (J (U ⟨g,0,L⟩) (n+1) cap) (U (au ay k)) L L).run Y w=.ok (J (U ⟨g,k * 4,L⟩) (n+1-k) (cap-k)) w at s3;go_wp2_with (first | (at_builtin; refine wpList_copy_run rfl _ _ 25 rfl rfl rfl q2 ?_) | fail);go_ret;exact Q.out
theorem Jf (B g n cap:Nat) (cur:Array aC) (l:List kY) (k:Nat) (c:kY) (b:Nat) (W:aF) (hn:n=l.length) (hg:dK W g cur 36) (hcm:cap<=maxLen) (hnc:n<=cap) (ht:cur.toList.take (n * 4)=flat ED l) (hx:dK W b (cellsD c).toArray 36) (hk:k<n) (hroom:cap<n+1) (hl:n<=900) (hB:B<=W.heap.size) :
  aZ Y 104 #[J (U ⟨g,0,L⟩) n cap,au ay k,J (U ⟨b,0,L⟩) 1 1] W (Cz B l k c (J (U ⟨g,0,L⟩) n cap) W):=by
 have hgw:=hg.lt;have hbw:=hx.lt;obtain⟨G,R1,R2,R3,hG1,hG2,r1,r2,r3,ow⟩:=uS (E:=ED) (l:=l) (k:=k) (cap:=cap) (cur:=cur) (cs:=(cellsD c).toArray) (c:=c) okD 3 Tryz.underlying3 (by omega) (by omega) (by omega) (by omega) (by rw [<- hn]; exact ht) W g b hg hbw;unfold maxLen at hcm hG2;have s0:=gY (E:=ED) okD g k n cap (by omega) (by omega);have s1:=jZ (E:=ED) okD ⟨g,0,L⟩ k n cap (by omega);have s2:=gY (E:=ED) okD W.heap.size k (n+1) G (by omega) (by omega);have s3:=gY (E:=ED) okD W.heap.size (k+1) (n+1) G (by omega) (by omega);have a1:=r1 25;have n1:=dQ W.drew R1 36;have bl:W.drew.heap.size=W.heap.size:=rfl;rw [bl] at n1;have g1:dK (W.drew.alloc (aK R1 36)) g cur 36:=dK.more (show dK W.drew g cur 36 from hg) _;have x1:dK (W.drew.alloc (aK R1 36)) b (cellsD c).toArray 36:=dK.more (show dK W.drew b _ 36 from hx) _;have q2:=r2 (W.drew.alloc (aK R1 36)) 3 (n+1-k) (G-k) n1 x1 rfl (by omega);have q3:=r3 ((W.drew.alloc (aK R1 36)).setRow W.heap.size R2).drew 3 (n+1-(k+1)) (G-(k+1)) (n-k) (cap-k) (dK.set n1 R2) (dK.other g1 (by omega) R2) (by omega);have Q:=ak (show Cz B l k c (J (U ⟨g,0,L⟩) n cap) W (.returned (J (U ⟨W.heap.size,0,L⟩) (n+1) G)) (((W.drew.alloc (aK R1 36)).setRow W.heap.size R2).drew.setRow W.heap.size R3) from ⟨_,rfl,by rw [hn]; exact ow _ B hB (dK.set (dK.set n1 R2) R3),below_setRow (below_setRow ((V B W).drew.alloc hB _) hB _).drew hB _,fun j hj _=>(setRow_other _ W.heap.size j _ (by omega)).trans ((setRow_other _ W.heap.size j _ (by omega)).trans (Array.getElem?_push_lt hj |>.trans (Array.getElem?_eq_getElem hj).symm))⟩);have l1:l.length+1=n+1:=by rw [hn]
 rw [l1,<- hn] at a1;clear r1 r2 r3 ow hg ht hx g1 x1 n1 bl l1;change ∀ w,(aA 25 (J (U ⟨g,0,L⟩) n cap) (U (au ay k)) L L).run Y w=.ok (J (U ⟨g,k * 4,L⟩) (n-k) (cap-k)) w at s0;change ∀ w,(aA 25 (J (U ⟨g,0,L⟩) n cap) L (U (au ay k)) L).run Y w=.ok (J (U ⟨g,0,L⟩) k cap) w at s1;change ∀ w,(aA 25 (J (U ⟨W.heap.size,0,L⟩) (n+1) G) (U (au ay k)) L L).run Y w=.ok (J (U ⟨W.heap.size,k * 4,L⟩) (n+1-k) (G-k)) w at s2;change ∀ w,(aA 25 (J (U ⟨W.heap.size,0,L⟩) (n+1) G) (U (au ay ((k:Int)+1))) L L).run Y w=.ok (J (U ⟨W.heap.size,(k+1) * 4,L⟩) (n+1-(k+1)) (G-(k+1))) w at s3;change (aS #[25,3] 25 #[J (U ⟨g,0,L⟩) k cap,au ay ((n:Int)+1-k)]).run Y W=.ok (J (U ⟨W.heap.size,0,L⟩) (n+1) G) (W.drew.alloc (aK R1 36)) at a1;change (aJ #[25,25] 3 #[J (U ⟨W.heap.size,k * 4,L⟩) (n+1-k) (G-k),J (U ⟨b,0,L⟩) 1 1]).run Y (W.drew.alloc (aK R1 36))=.ok (au ay 1) ((W.drew.alloc (aK R1 36)).setRow W.heap.size R2) at q2;change (aJ #[25,25] 3 #[J (U ⟨W.heap.size,(k+1) * 4,L⟩) (n+1-(k+1)) (G-(k+1)),J (U ⟨g,k * 4,L⟩) (n-k) (cap-k)]).run Y ((W.drew.alloc (aK R1 36)).setRow W.heap.size R2).drew=.ok (au ay ((l.length-k:Nat):Int)) (((W.drew.alloc (aK R1 36)).setRow W.heap.size R2).drew.setRow W.heap.size R3) at q3;have e1:((k:Int) == (n:Int))=false:=by rw [beq_eq_false_iff_ne]; omega
 have e2:decide ((cap:Int)<(n:Int)+1)=true:=by simp; omega
 have hGn:n+1<=G:=by omega
 clear hn;generalize W.heap.size=N at *;generalize W.drew.alloc (aK R1 36)=W1 at *;generalize W1.setRow N R2=W2 at *;go_enter aP,aO;go_wp2_with (first | (at_builtin; refine jf rfl _ _ 25 3 rfl rfl rfl a1 ?_) | (at_builtin; refine wpList_copy_run rfl _ _ 25 rfl rfl rfl q2 ?_) | fail);clear a1 q2 s0 s1 s2 s3;have hw1:IntKind.i64.wrap ((k:Int)+1)=(k:Int)+1:=by rw [aQ]; omega
 have hb1:(0:Int)<=(k:Int)+1:=by omega
 have hb0:(k:Int)+1<=(n:Int)+1:=by omega
 have htn:((k:Int)+1).toNat=k+1:=by omega
 have hb2:¬ (G=k+1):=by omega
 have hb3:(k:Int)<=(n:Int):=by omega
 have hb4:¬ (cap=k):=by omega
 have h81:n+1-(k+1)=n-k:=by omega
 rw [h81] at q3;clear h81
 go_region_law (refine iP rfl (aj 50) (aj 53) 25 rfl (v:=J (U ⟨N,(k+1) * 4,L⟩) (n-k) (G-(k+1))) (xv:=J (U ⟨g,k * 4,L⟩) (n-k) (cap-k)) (by simp [aU,aM]) (by simp [aU,aM]) q3 ?_)
 all_goals simp only [Exit.then]
 all_goals apply_assumption
 go_wp2;go_ret;exact Q.out
theorem Kw (B:Nat) (v:aC) (l:List kY) (k:Nat) (c:kY) (b:Nat) (W:aF) (ho:nk W B v l) (hx:dK W b (cellsD c).toArray 36) (hne:v.ownBlock≠U b) (hk:k<=l.length) (hl:l.length<=900) (hB:B<=W.heap.size) :
  aZ Y 104 #[v,au ay k,J (U ⟨b,0,L⟩) 1 1] W (Cz B l k c v W):=by
 rcases Nat.lt_or_ge k l.length with h|h
 ·rcases gB ho with⟨_,h2⟩|⟨g,cap,cur,rfl,h1,h2,h3,h4,h5,h6⟩
  ·rw [h2] at h; simp at h
  ·rcases Nat.lt_or_ge cap (l.length+1) with h7|h7
   ·exact Jf B g _ cap cur l k c b W rfl h2 h4 h3 h6 hx h h7 hl hB
   ·exact Fg B g _ cap cur l k c b W rfl h1 h2 h4 h5 h6 hx (fun e=>hne (by simp [Value.ownBlock,e])) h h7 hl
 ·obtain rfl:k=l.length:=by omega
  exact Kv B v l c b W ho hx hl hB
end Av
namespace Bk
open Go.RowKit Go.Sort Rw YtghlpefopidlaaaGreat.Nm Pr
def uV (B:Nat) (bv:aC) (f c d:Int) (l:List Int) (i:Nat) (v:aC) (x:aF):Prop :=
 match i with
 | 0=>v=bv
 | 1=>v=bv
 | 2=>v=au ay f
 | 3=>v=nC (c,d)
 | 4=>v=aW #[au ay 2,au ay c,au ay d,au ay 0,au ay 0,J L 0 0,J L 0 0]
 | 5=>∃ sl:Sl,v=dX sl/\jX x B v (nH l f fun n=>(n,2,c,d,0,0,(L,0,0),(L,0,0)))
 | _=>True
noncomputable def Qu:Code:=((Tryz.f120.body.bind (eO 4)).getD .skip)
theorem XJ (Q:Exit->Act->aF->Prop) (W:aF) (b3 b5 b6:Nat) (me f c d:Int) (o1 o2 o3 o4 o5:Option aN) (n1 c1 n2 c2 n3 c3 n4 c4 n5 c5:Nat) (l:List Int) (z0 z1 z2 z3 z4 z5:aC) (T a0 a3 a4 a5 a6 a7 a8 aE b9 bJ bQ c7 c8 c9 cA cC cD cF cG cH:aC)
  (h3:dK W b3 #[au ay me,J o1 n1 c1,J o2 n2 c2,J o3 n3 c3,J o4 n4 c4,J o5 n5 c5] 30) (h5:dK W b5 #[au ay c,au ay d] 23) (h6:dK W b6 #[z0,z1,z2,z3,z4,z5] 30) (hl:uR W (J o1 n1 c1) l) (hlen:l.length<=900)
  (hQ:∀ (a:Act) (x:aF) (sl:Sl),a.defers=[]->a.tmps[6]?=U (O (U ⟨b6,0,L⟩))->a.tmps[7]?=U (dX sl)->dK x b6 #[au ay me,J o1 n1 c1,J o2 n2 c2,J o3 n3 c3,J o4 n4 c4,J o5 n5 c5] 30->jX x W.heap.size (dX sl) (nH l f fun n=>(n,2,c,d,0,0,(L,0,0),(L,0,0)))->(∀ k,k<W.heap.size->k≠b6->x.heap[k]?=W.heap[k]?)->(∀ B,B<=b6->Below B W x)->Q .normal a x) :
  Code.wp Y Qu Q ⟨(T::au ay f::a0::O (U ⟨b3,0,L⟩)::a3::O (U ⟨b5,0,L⟩)::O (U ⟨b6,0,L⟩)::a4::a5::a6::a7::a8::aE::b9::bJ::bQ::c7::c8::c9::cA::cC::cD::cF::cG::cH::[]).toArray,[]⟩ W:=by
 have HQ:=ak hQ;have H3:=ak h3;have H5:=ak h5;have H6:=ak h6;have HL:=ak hl;have LL:=ak hlen;clear hQ h3 h5 h6 hl hlen;have jW:∀ (j:Nat) (u:aC) (x x':aF),j<6->uV W.heap.size (aW #[au ay me,J o1 n1 c1,J o2 n2 c2,J o3 n3 c3,J o4 n4 c4,J o5 n5 c5]) f c d l j u x->Below x.heap.size x x'->uV W.heap.size (aW #[au ay me,J o1 n1 c1,J o2 n2 c2,J o3 n3 c3,J o4 n4 c4,J o5 n5 c5]) f c d l j u x':=by
  intro i u x x' hi h hb;rcases (by omega:i=0\/i=1\/i=2\/i=3\/i=4\/i=5) with rfl|rfl|rfl|rfl|rfl|rfl
  ·exact h
  ·exact h
  ·exact h
  ·exact h
  ·exact h
  ·obtain⟨sl,h1,h2⟩:=h;exact⟨sl,h1,dI h2 hb⟩
 unfold Qu
 conv=>arg 2; whnf
 have nd:∀ j,(j<19\/25<=j)->∀ i,i<6->(fun i=>19+i) i≠j:=by
  intro j hj i hi h;simp only at h;omega
 refine bf 8 6 (fun i=>19+i) (fun _=>6) (uV W.heap.size (aW #[au ay me,J o1 n1 c1,J o2 n2 c2,J o3 n3 c3,J o4 n4 c4,J o5 n5 c5]) f c d l) (by kernel_rfl) (by kernel_rfl) rfl (by decide) (fun i j _ _ h=>by have h2:19+i=19+j:=h; omega) (fun i hi=>by show 19+i<25; omega) ?_ (fun _=>bg 3 (by kernel_rfl)) ?_ ?_
 ·intro i o hi ho a x D hnd hc hD hb seen K hK;clear HQ;rcases (by omega:i=0\/i=1\/i=2\/i=3\/i=4\/i=5) with rfl|rfl|rfl|rfl|rfl|rfl
  ·cases ho;have e3:a.eval (aj 3)=O (U ⟨b3,0,L⟩):=seen.kp 3 _ (nd 3 (by omega)) rfl;exact aD rfl rfl (aR a.eval _ 30 (aj 3) rfl (by rw [e3]; exact tJ (H3.out.on hb))) (hK _ _ rfl (V _ _) fun _ _ _ _ _ _ _ h=>h)
  ·cases ho;have e3:a.eval (aj 3)=O (U ⟨b3,0,L⟩):=seen.kp 3 _ (nd 3 (by omega)) rfl;exact aD rfl rfl (aR a.eval _ 30 (aj 3) rfl (by rw [e3]; exact tJ (H3.out.on hb))) (hK _ _ rfl (V _ _) fun _ _ _ _ _ _ _ h=>h)
  ·cases ho;have e1:a.eval (aj 1)=au ay f:=seen.kp 1 _ (nd 1 (by omega)) rfl;exact aD rfl rfl (bF a.eval _ (aj 1) rfl x) (hK _ _ e1 (V _ _) fun _ _ _ _ _ _ _ h=>h)
  ·cases ho;have e5:a.eval (aj 5)=O (U ⟨b5,0,L⟩):=seen.kp 5 _ (nd 5 (by omega)) rfl;exact aD rfl rfl (aR a.eval _ 23 (aj 5) rfl (by rw [e5]; exact Gc x _ (c,d) (Qj (H5.out.on hb)))) (hK _ _ rfl (V _ _) fun _ _ _ _ _ _ _ h=>h)
  ·cases ho;have e22:a.eval (aj 22)=nC (c,d):=seen.at_ ⟨3,.data⟩ (by simp) rfl (aB (by decide));exact aD rfl rfl (Rg.jg a.eval _ 43 #[(0,.const (au ay 2)),(1,aj 22)] rfl (ps:=#[(0,au ay 2),(1,nC (c,d))]) (by simp only [List.map_toArray,List.map_cons,List.map_nil,e22]; rfl) (by simp [go_sem])) (hK _ _ rfl (V _ _) fun _ _ _ _ _ _ _ h=>h)
  ·cases ho;have e20:a.eval (aj 20)=aW #[au ay me,J o1 n1 c1,J o2 n2 c2,J o3 n3 c3,J o4 n4 c4,J o5 n5 c5]:=seen.at_ ⟨1,.data⟩ (by simp) rfl (aB (by decide));have e21:a.eval (aj 21)=au ay f:=seen.at_ ⟨2,.data⟩ (by simp) rfl (aB (by decide));have e23:a.eval (aj 23)=aW #[au ay 2,au ay c,au ay d,au ay 0,au ay 0,J L 0 0,J L 0 0]:=seen.at_ ⟨4,.data⟩ (by simp) rfl (aB (by decide));exact aX rfl rfl (rZ a.eval _ (aj 20) (aj 21) (aj 23) 30 3 43 119 rfl e20 e21 e23 rfl _ (fV Tryz.func119 rfl rfl _ _)) (Ch me f 2 c d 0 0 (o1,n1,c1) _ _ _ _ (L,0,0) (L,0,0) l x (HL.out.on hb) LL.out) fun e w1 h=>by
    obtain⟨⟨v,rfl,h1⟩,h3⟩:=h;exact⟨_,rfl,hK _ _ ⟨v,rfl,dM h1 hb.size⟩ (h3.mono hb.size) fun j u hj _ _ _ hne h=>jW j u _ _ (by omega) h h3⟩
 ·intro kk o h1 h2 ho;obtain rfl:kk=7:=by omega
  cases ho;exact⟨⟨6,.chain⟩,by simp,rfl,rfl⟩
 ·intro a w' df sz kp ⟨vs,hv⟩ hb;have g19:a.tmps[19]?=U (aW #[au ay me,J o1 n1 c1,J o2 n2 c2,J o3 n3 c3,J o4 n4 c4,J o5 n5 c5]):=by
   have h:vs 0=aW #[au ay me,J o1 n1 c1,J o2 n2 c2,J o3 n3 c3,J o4 n4 c4,J o5 n5 c5]:=(hv 0 (by omega)).2 (by decide);rw [<- h];exact (hv 0 (by omega)).1
  obtain⟨sl,hsl,ho⟩:=(hv 5 (by omega)).2 (by decide);have g24:a.tmps[24]?=U (dX sl):=by
   rw [<- hsl];exact (hv 5 (by omega)).1
  rw [hsl] at ho;have g6:a.tmps[6]?=U (O (U ⟨b6,0,L⟩)):=(kp 6 (nd 6 (by omega))).trans rfl;have sz':a.tmps.size=25:=sz;have H6':=H6.out.on hb;have lt6:=H6.out.lt;show aV _ _ _ 2 6 a w';simp only [aV];refine aY 30 (aj 6) (aj 19) rfl rfl rfl rfl (aL g6) (aL g19) (w':=gV w' b6 (au ay me) (J o1 n1 c1) (J o2 n2 c2) (J o3 n3 c3) (J o4 n4 c4) (J o5 n5 c5)) (oD H6' me _ _ _ _ _ _ _ _ _ _ _ _ _ _ _) ?_;refine aD rfl rfl (Rg.kP a.eval _ (aj 24) rfl _) ?_;rw [aL g24];refine HQ.out _ _ sl df ((aH a 7 (dX sl) 6 (by decide)).trans g6) ?_ (dL H6' _ _ _ _ _ _) (gy ho b6 lt6 _ _ _ _ _ _) ?_ ?_
  ·have:7<a.tmps.size:=by omega
   show (a.put (U 7) (dX sl)).tmps[7]?=_;simp [aM,this]
  ·intro k hk hne;exact (dN w' b6 (au ay me) (J o1 n1 c1) (J o2 n2 c2) (J o3 n3 c3) (J o4 n4 c4) (J o5 n5 c5) k hne).trans (hb.block k hk)
  ·exact fun B hB=>dH (hb.mono (Nat.le_of_lt (Nat.lt_of_le_of_lt hB lt6))) hB _ _ _ _ _ _
end Bk
end Go.Proofs.YtghlpefopidlaaaGreat
