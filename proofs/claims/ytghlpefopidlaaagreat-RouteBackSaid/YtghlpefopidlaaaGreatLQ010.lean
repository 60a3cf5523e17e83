/-
  Same of two lists of. Conditions as told.
-/
import Derived.Test.YtghlpefopidlaaaGreatLQ008
import Derived.Maps.OwnSet
import Derived.DeepKeys4
import Derived.KernelRfl
set_option maxRecDepth 100000
set_option maxHeartbeats 64000000
open _root_.Go renaming Value->aG,World->aH,Addr->aO
open Go.Instr renaming sliceAt->aJ
open Go.IntKind renaming i64->au
open Go.Lib renaming hid->J
open Go.Operand renaming tmp->V
open Go.Proofs.Tryz renaming prog->aA
open Go.Proofs.YtghlpefopidlaaaGreat.Rg renaming dG->aC,dW->aN,dU->aP,gQ->aQ,gD->aR,lJ->aS,fZ->aT,dP->aU,iY->aV
open Go.RowKit.Below renaming refl->L,heap_setCell->ay
open Go.Value renaming pointer->O,slice->aj,int->ak
open _root_.List renaming getElem?_toArray->X,getElem?_cons_zero->Z,getElem?_cons_succ->ah,getElem?_eq_getElem->aD,length_take->aI,takeWhile_cons->aL,length_drop->aM
open _root_.Option renaming some->U,none->Y
open Option.some renaming inj->aF
open _root_.Or renaming inr->aB,inl->aK
namespace Go.Proofs.YtghlpefopidlaaaGreat
namespace At
open Go.RowKit Go.Sort Va In
def Aw (c:UInt8):Bool:=decide (97<=c.toNat) && decide (c.toNat<=122)
def pK (s:ByteArray):Bool:=s.data.toList.all Aw && (decide (1<=s.size) && decide (s.size<=12))
end At
namespace Bk
open Go.RowKit Go.Sort Rw YtghlpefopidlaaaGreat.Nm Pr
theorem qG (l:List Id) (x:Id) (k:Nat) (hall:∀ (j:Nat) (y:Id),j<k->l[j]?=U y->eH y x=true) (hend:k=l.length\/∃ y,l[k]?=U y/\eH y x=false):fC l x=k:=by
 unfold fC
 induction l generalizing k with
 | nil =>
  rcases hend with h|⟨y,h,_⟩
  ·rw [h]; rfl
  ·simp at h
 | cons a l ih =>
  cases k with
  | zero =>
   rcases hend with h|⟨y,h,h2⟩
   ·simp at h
   ·obtain rfl:a=y:=by simpa using h
    rw [aL,h2]
    rfl
  | succ k =>
   have h0:=hall 0 a (by omega) rfl;rw [aL,h0];simp only [if_true,List.length_cons];rw [ih k (fun j y hj hy=>hall (j+1) y (by omega) (by simpa using hy)) (by
    rcases hend with h|⟨y,h,h2⟩
    ·exact aK (by simpa using h)
    ·exact aB ⟨y,by simpa using h,h2⟩)]
noncomputable def abQ:Code:=((Tryz.f118.body.bind (kM 0)).getD .skip)
theorem Ww (Q:Exit->Act->aH->Prop) (W:aH) (b2 b3:Nat) (me c d:Int) (y1 y2 y4 y5 p3 q3:aG) (so:Option aO) (n sc:Nat) (l:List eU) (cD cF cG cH cI cJ cL cM cN g6 g9 gE gO gR gS hC hG hH hJ hL hM hO hS hT hU hW cP cQ cR cS cT cU cV cW cX cY d1 d3 d4 d5 d7 d9 dA dC dE dS dT e7 e9 eA eB eC eE eI eJ eK eL eM eN eQ eS eV eW f0 f7 f8 f9 fL fN fP fR fS fW fX fY g0:aG)
  (h2:dK W b2 #[ak au me,y1,y2,aj so n sc,y4,y5] 30) (h3:dK W b3 #[ak au c,ak au d,p3,q3] 36) (hs:wY W (aj so n sc) l) (hn:n=l.length) (hm:n<=1000000)
  (hQ:∀ (wr:aH) (T a0 a3 a4 a5 a6 a7 a8 aE b9 bJ bQ c7 c8 c9 cA cC:aG),Below W.heap.size W wr->Q .normal ⟨(cD::cF::O (U ⟨b2,0,Y⟩)::O (U ⟨b3,0,Y⟩)::cG::cH::ak au (fC l (c,d):Nat)::cI::cJ::cL::cM::cN::T::a0::a3::a4::a5::a6::a7::a8::aE::b9::bJ::bQ::c7::c8::c9::cA::cC::cP::cQ::cR::cS::cT::cU::cV::cW::cX::cY::d1::d3::d4::d5::d7::d9::dA::dC::dE::dS::dT::e7::e9::eA::eB::eC::eE::eI::eJ::eK::eL::eM::eN::eQ::eS::eV::eW::f0::f7::f8::f9::fL::fN::fP::fR::fS::fW::fX::fY::g0::[]).toArray,[]⟩ wr) :
  Code.wp aA abQ Q ⟨(cD::cF::O (U ⟨b2,0,Y⟩)::O (U ⟨b3,0,Y⟩)::cG::cH::ak au 0::cI::cJ::cL::cM::cN::g6::g9::gE::gO::gR::gS::hC::hG::hH::hJ::hL::hM::hO::hS::hT::hU::hW::cP::cQ::cR::cS::cT::cU::cV::cW::cX::cY::d1::d3::d4::d5::d7::d9::dA::dC::dE::dS::dT::e7::e9::eA::eB::eC::eE::eI::eJ::eK::eL::eM::eN::eQ::eS::eV::eW::f0::f7::f8::f9::fL::fN::fP::fR::fS::fW::fX::fY::g0::[]).toArray,[]⟩ W:=by
 have HQ:=J hQ;have H2:=J h2;have H3:=J h3;have HS:=J hs;have HN:=J hn;clear hQ h2 h3 hs hn
 conv=>arg 2; whnf
 go_wp2
 go_loopw [6] (fun i wr=>∃ k:Nat,k<=n/\i=ak au k/\Below W.heap.size W wr/\∀ (j:Nat) (y:Id),j<k->l[j]?=U y->eH y (c,d)=true) (fun i _=>n-(intOf i).toNat)
 case atStart=>exact⟨0,Nat.zero_le _,rfl,L _ _,fun j y h=>by omega⟩
 case round =>
  obtain⟨k,hk,rfl,hbe,hall⟩:=hrel;have BE:=J hbe;have AL:=J hall;clear hbe hall;have q0:=cell_regrown (show wr.cell? ⟨b2,3,Y⟩=U (aj so n sc) from (H2.out.on BE.out).cell 3);have r0:=cell_regrown (show wr.cell? ⟨b3,0,Y⟩=U (ak au c) from (H3.out.on BE.out).cell 0);have r1:=cell_regrown (show wr.cell? ⟨b3,1,Y⟩=U (ak au d) from (H3.out.on BE.out).cell 1);have hw3:IntKind.i64.wrap ((k:Int)+1)=(k:Int)+1:=IntWalk.i64_in _ (by omega);by_cases hlt:k<n
  ·obtain⟨y,hy⟩:∃ y,l[k]?=U y:=⟨_,aD (by rw [<- HN.out]; exact hlt)⟩;obtain⟨p,ix,px⟩:=elJ HS.out rfl HN.out.symm hy;have AA:=px wr BE.out;obtain⟨y1,y2⟩:=y;simp only at AA;have p0:=cell_regrown AA.1;have p1:=cell_regrown AA.2;have zU:decide ((k:Int)<(n:Int))=true:=decide_eq_true (by omega);have EZ:decide (k<n)=true:=decide_eq_true hlt;obtain⟨r,hr⟩:∃ r,eH (y1,y2) (c,d)=r:=⟨_,rfl⟩;have LS:=J (fun d' os=>Calls.regrown_of (d:=d') (os:=os) ((uW (y1,y2) (c,d) (grow (redrawn wr d') os)).mono fun _ _ h=>⟨by rw [h.1,hr],h.2⟩));have HY:=J (show l[k]?=U (y1,y2) by exact hy);have HR:=J hr;clear px AA hy hr;cases r
   ·go_wp2_with fail;refine wp_region_quiet_below (by kernel_rfl) (by kernel_rfl) ?_
    repeat (go_big_quiet_step (first | (with_reducible exact LS.out _ _)))
    refine wpQuiet_nil ?_;intro _ hw';obtain⟨⟨dq,osq⟩,hw''⟩:=hw';subst hw'';have Z6:=below_regrown wr dq osq;have HF:=J (fun T a0 a3 a4 a5 a6 a7 a8 aE b9 bJ bQ c7 c8 c9 cA cC=>HQ.out (grow (redrawn wr dq) osq) T a0 a3 a4 a5 a6 a7 a8 aE b9 bJ bQ c7 c8 c9 cA cC (BE.out.trans (Z6.mono BE.out.size)));rw [qG l (c,d) k AL.out (aB ⟨_,HY.out,HR.out⟩)] at HF;clear ix HQ q0 r0 r1 LS zU EZ p0 p1;go_wp2;exact HF.out _ _ _ _ _ _ _ _ _ _ _ _ _ _ _ _ _
   ·go_wp2_with fail;refine wp_region_quiet_below (by kernel_rfl) (by kernel_rfl) ?_
    repeat (go_big_quiet_step (first | (with_reducible exact LS.out _ _)))
    refine wpQuiet_nil ?_;intro _ hw';obtain⟨⟨dq,osq⟩,hw''⟩:=hw';subst hw'';have Z6:=J (below_regrown wr dq osq);clear ix q0 r0 r1 LS zU EZ p0 p1;go_wp2
    go_roundw
    case rel=>exact⟨k+1,by omega,by go_num,BE.out.trans (Z6.out.mono BE.out.size),fun j y' hj h1=>by
     rcases Nat.lt_or_ge j k with h3|h3
     ·exact AL.out j y' h3 h1
     ·obtain rfl:j=k:=by omega
      have e1:=HY.out;rw [h1] at e1;rw [aF e1];exact HR.out⟩
    case measure=>simp [intOf]; omega
  ·obtain rfl:k=n:=by omega
   have zU:decide ((k:Int)<(k:Int))=false:=by simp
   have EZ:decide (k<k)=false:=by simp
   go_wp2_with fail;refine wp_region_quiet_below (by kernel_rfl) (by kernel_rfl) ?_
   repeat (go_big_quiet_step (fail))
   refine wpQuiet_nil ?_;intro _ hw';obtain⟨⟨dq,osq⟩,hw''⟩:=hw';subst hw'';have Z6:=below_regrown wr dq osq;have HF:=J (fun T a0 a3 a4 a5 a6 a7 a8 aE b9 bJ bQ c7 c8 c9 cA cC=>HQ.out (grow (redrawn wr dq) osq) T a0 a3 a4 a5 a6 a7 a8 aE b9 bJ bQ c7 c8 c9 cA cC (BE.out.trans (Z6.mono BE.out.size)));rw [qG l (c,d) k AL.out (aK (by simpa using HN.out))] at HF;clear HQ q0 r0 r1 zU EZ;go_wp2;exact HF.out _ _ _ _ _ _ _ _ _ _ _ _ _ _ _ _ _
noncomputable def abR:Code:=((Tryz.f118.body.bind (kM 2)).getD .skip)
theorem Wx (Q:Exit->Act->aH->Prop) (W:aH) (b2 b3:Nat) (me c d:Int) (y1 y3 y4 y5 p3 q3:aG) (so:Option aO) (n sc:Nat) (l:List kY) (cF cG cH cI cJ cL cM cN cP cQ cR cS cT cU cV cW cX cY d1 d3 d4 d5 d7 d9 dA dC dE dS dT e7 e9 eA eB eC eE eI eJ eK eL eM eN eQ g6 g9 gE gO gR gS hC hG hH hJ hL hM hO hS hT hU hW hX eS eV eW f0 f7 f8 f9 fL fN fP fR fS fW fX fY g0:aG)
  (h2:dK W b2 #[ak au me,y1,aj so n sc,y3,y4,y5] 30) (h3:dK W b3 #[ak au c,ak au d,p3,q3] 36) (hs:xQ W (aj so n sc) l) (hn:n=l.length) (hm:n<=1000000)
  (hQ:∀ (wr:aH) (T a0 a3 a4 a5 a6 a7 a8 aE b9 bJ bQ c7 c8 c9 cA cC cD:aG),Below W.heap.size W wr->Q .normal ⟨(cF::cG::O (U ⟨b2,0,Y⟩)::O (U ⟨b3,0,Y⟩)::cH::cI::ak au (fC (l.map fun y=>(y.1,y.2.1)) (c,d):Nat)::cJ::cL::cM::cN::cP::cQ::cR::cS::cT::cU::cV::cW::cX::cY::d1::d3::d4::d5::d7::d9::dA::dC::dE::dS::dT::e7::e9::eA::eB::eC::eE::eI::eJ::eK::eL::eM::eN::eQ::T::a0::a3::a4::a5::a6::a7::a8::aE::b9::bJ::bQ::c7::c8::c9::cA::cC::cD::eS::eV::eW::f0::f7::f8::f9::fL::fN::fP::fR::fS::fW::fX::fY::g0::[]).toArray,[]⟩ wr) :
  Code.wp aA abR Q ⟨(cF::cG::O (U ⟨b2,0,Y⟩)::O (U ⟨b3,0,Y⟩)::cH::cI::ak au 0::cJ::cL::cM::cN::cP::cQ::cR::cS::cT::cU::cV::cW::cX::cY::d1::d3::d4::d5::d7::d9::dA::dC::dE::dS::dT::e7::e9::eA::eB::eC::eE::eI::eJ::eK::eL::eM::eN::eQ::g6::g9::gE::gO::gR::gS::hC::hG::hH::hJ::hL::hM::hO::hS::hT::hU::hW::hX::eS::eV::eW::f0::f7::f8::f9::fL::fN::fP::fR::fS::fW::fX::fY::g0::[]).toArray,[]⟩ W:=by
 have HQ:=J hQ;have H2:=J h2;have H3:=J h3;have HS:=J hs;have HN:=J hn;clear hQ h2 h3 hs hn
 conv=>arg 2; whnf
 go_wp2
 go_loopw [6] (fun i wr=>∃ k:Nat,k<=n/\i=ak au k/\Below W.heap.size W wr/\∀ (j:Nat) (y:Id),j<k->(l.map fun y=>(y.1,y.2.1))[j]?=U y->eH y (c,d)=true) (fun i _=>n-(intOf i).toNat)
 case atStart=>exact⟨0,Nat.zero_le _,rfl,L _ _,fun j y h=>by omega⟩
 case round =>
  obtain⟨k,hk,rfl,hbe,hall⟩:=hrel;have BE:=J hbe;have AL:=J hall;clear hbe hall;have q0:=cell_regrown (show wr.cell? ⟨b2,2,Y⟩=U (aj so n sc) from (H2.out.on BE.out).cell 2);have r0:=cell_regrown (show wr.cell? ⟨b3,0,Y⟩=U (ak au c) from (H3.out.on BE.out).cell 0);have r1:=cell_regrown (show wr.cell? ⟨b3,1,Y⟩=U (ak au d) from (H3.out.on BE.out).cell 1);have hw3:IntKind.i64.wrap ((k:Int)+1)=(k:Int)+1:=IntWalk.i64_in _ (by omega);by_cases hlt:k<n
  ·obtain⟨y,hy⟩:∃ y,l[k]?=U y:=⟨_,aD (by rw [<- HN.out]; exact hlt)⟩;obtain⟨p,ix,px⟩:=NK HS.out rfl HN.out.symm hy;have AA:=px wr BE.out;obtain⟨y1,y2,⟨y3o,y3n,y3c⟩,y4⟩:=y;simp only at AA;have p0:=cell_regrown AA.1;have p1:=cell_regrown AA.2.1;have zU:decide ((k:Int)<(n:Int))=true:=decide_eq_true (by omega);have EZ:decide (k<n)=true:=decide_eq_true hlt;obtain⟨r,hr⟩:∃ r,eH (y1,y2) (c,d)=r:=⟨_,rfl⟩;have LS:=J (fun d' os=>Calls.regrown_of (d:=d') (os:=os) ((uW (y1,y2) (c,d) (grow (redrawn wr d') os)).mono fun _ _ h=>⟨by rw [h.1,hr],h.2⟩));have HY:=J (show (l.map fun y=>(y.1,y.2.1))[k]?=U (y1,y2) by rw [List.getElem?_map,hy]; rfl);have HR:=J hr;clear px AA hy hr;cases r
   ·go_wp2_with fail;refine wp_region_quiet_below (by kernel_rfl) (by kernel_rfl) ?_
    repeat (go_big_quiet_step (first | (with_reducible exact LS.out _ _)))
    refine wpQuiet_nil ?_;intro _ hw';obtain⟨⟨dq,osq⟩,hw''⟩:=hw';subst hw'';have Z6:=below_regrown wr dq osq;have HF:=J (fun T a0 a3 a4 a5 a6 a7 a8 aE b9 bJ bQ c7 c8 c9 cA cC cD=>HQ.out (grow (redrawn wr dq) osq) T a0 a3 a4 a5 a6 a7 a8 aE b9 bJ bQ c7 c8 c9 cA cC cD (BE.out.trans (Z6.mono BE.out.size)));rw [qG (l.map fun y=>(y.1,y.2.1)) (c,d) k AL.out (aB ⟨_,HY.out,HR.out⟩)] at HF;clear ix HQ q0 r0 r1 LS zU EZ p0 p1;go_wp2;exact HF.out _ _ _ _ _ _ _ _ _ _ _ _ _ _ _ _ _ _
   ·go_wp2_with fail;refine wp_region_quiet_below (by kernel_rfl) (by kernel_rfl) ?_
    repeat (go_big_quiet_step (first | (with_reducible exact LS.out _ _)))
    refine wpQuiet_nil ?_;intro _ hw';obtain⟨⟨dq,osq⟩,hw''⟩:=hw';subst hw'';have Z6:=J (below_regrown wr dq osq);clear ix q0 r0 r1 LS zU EZ p0 p1;go_wp2
    go_roundw
    case rel=>exact⟨k+1,by omega,by go_num,BE.out.trans (Z6.out.mono BE.out.size),fun j y' hj h1=>by
     rcases Nat.lt_or_ge j k with h3|h3
     ·exact AL.out j y' h3 h1
     ·obtain rfl:j=k:=by omega
      have e1:=HY.out;rw [h1] at e1;rw [aF e1];exact HR.out⟩
    case measure=>simp [intOf]; omega
  ·obtain rfl:k=n:=by omega
   have zU:decide ((k:Int)<(k:Int))=false:=by simp
   have EZ:decide (k<k)=false:=by simp
   go_wp2_with fail;refine wp_region_quiet_below (by kernel_rfl) (by kernel_rfl) ?_
   repeat (go_big_quiet_step (fail))
   refine wpQuiet_nil ?_;intro _ hw';obtain⟨⟨dq,osq⟩,hw''⟩:=hw';subst hw'';have Z6:=below_regrown wr dq osq;have HF:=J (fun T a0 a3 a4 a5 a6 a7 a8 aE b9 bJ bQ c7 c8 c9 cA cC cD=>HQ.out (grow (redrawn wr dq) osq) T a0 a3 a4 a5 a6 a7 a8 aE b9 bJ bQ c7 c8 c9 cA cC cD (BE.out.trans (Z6.mono BE.out.size)));rw [qG (l.map fun y=>(y.1,y.2.1)) (c,d) k AL.out (aK (by simpa using HN.out))] at HF;clear HQ q0 r0 r1 zU EZ;go_wp2;exact HF.out _ _ _ _ _ _ _ _ _ _ _ _ _ _ _ _ _ _
def Qc (B b2 b3:Nat) (so:Option aO) (sn sc at_:Nat) (lo hiv:aG) (z:eU) (lt ld:List eU) (i:Nat) (v:aG) (x:aH):Prop :=
 match i with
 | 0=>∃ g,v=aj (U ⟨g,0,Y⟩) 0 0/\B<=g/\dK x g #[] 23
 | 1=>v=O (U ⟨b2,3,Y⟩)
 | 2=>v=aj so sn sc
 | 3=>v=ak au (at_:Int)
 | 4=>v=lo
 | 5=>uE x B v lt
 | 6=>v=O (U ⟨b3,0,Y⟩)
 | 7=>v=Wu z
 | 8=>uE x B v [z]
 | 9=>uE x B v (lt++[z])
 | 10=>v=O (U ⟨b2,3,Y⟩)
 | 11=>v=aj so sn sc
 | 12=>v=ak au (at_:Int)
 | 13=>v=hiv
 | 14=>uE x B v (lt++[z]++ld)
 | 15=>v=O (U ⟨b2,3,Y⟩)
 | _=>True
noncomputable def adC:Code:=((Tryz.f118.body.bind (eO 6)).getD .skip)
theorem Wy (B b2 b3:Nat) (so:Option aO) (sn sc at_:Nat) (lo hiv:aG) (z:eU) (lt ld:List eU) (i:Nat) (v:aG) (x x':aH) (h:Qc B b2 b3 so sn sc at_ lo hiv z lt ld i v x) (hb:Below x.heap.size x x'):Qc B b2 b3 so sn sc at_ lo hiv z lt ld i v x':=by
 by_cases hi:i<16
 ·rcases (by omega:i=0\/i=1\/i=2\/i=3\/i=4\/i=5\/i=6\/i=7\/i=8\/i=9\/i=10\/i=11\/i=12\/i=13\/i=14\/i=15) with rfl|rfl|rfl|rfl|rfl|rfl|rfl|rfl|rfl|rfl|rfl|rfl|rfl|rfl|rfl|rfl
  ·obtain⟨g,h1,h2,h3⟩:=h;exact⟨g,h1,h2,h3.on hb⟩
  ·exact h
  ·exact h
  ·exact h
  ·exact h
  ·exact dI h hb
  ·exact h
  ·exact h
  ·exact dI h hb
  ·exact dI h hb
  ·exact h
  ·exact h
  ·exact h
  ·exact h
  ·exact dI h hb
  ·exact h
 ·unfold Qc
  split <;> first | omega | trivial
theorem amE (Q:Exit->Act->aH->Prop) (W:aH) (b2 b3:Nat) (me:Int) (y1 y2 y4 y5:aG) (so:Option aO) (sn sc at_:Nat) (l:List eU) (z:eU) (a0 a3 a4 a5 a6 a7 a8 aE b9 bJ bQ c7 c8 c9 cA cC cD cF cG cH cI cJ cL cM cN cP g6 g9 gE gO gR gS hC hG hH hJ hL hM hO hS hT hU cQ cR cS cT cU cV cW cX cY d1 d3 d4 d5 d7 d9 dA dC dE dS dT e7 e9 eA eB eC eE eI eJ eK eL eM eN eQ eS:aG)
  (h2:dK W b2 #[ak au me,y1,y2,aj so sn sc,y4,y5] 30) (hx:∀ x,Below W.heap.size W x->∀ j u,(kR z)[j]?=U u->x.cell? ((⟨b3,0,Y⟩:aO).add j)=U u) (hs:wY W (aj so sn sc) l) (hat:at_<=l.length) (hlen:l.length<=900)
  (hQ:∀ (x:aH) (eV eW f0 f7 f8 f9 fL fN fP fR fS fW fX fY T g0:aG),dK x b2 #[ak au me,y1,y2,T,y4,y5] 30->uE x W.heap.size T (l.take at_++[z]++l.drop at_)->(∀ B,B<=b2->Below B W x)->(∀ c cs t,c≠b2->dK W c cs t->dK x c cs t)->(∀ k,k<W.heap.size->k≠b2->x.heap[k]?=W.heap[k]?)->Q .normal ⟨(a0::a3::O (U ⟨b2,0,Y⟩)::O (U ⟨b3,0,Y⟩)::a4::a5::ak au (at_:Int)::a6::a7::a8::aE::b9::bJ::bQ::c7::c8::c9::cA::cC::cD::cF::cG::cH::cI::cJ::cL::cM::cN::cP::eV::eW::f0::f7::f8::f9::fL::fN::fP::fR::fS::fW::fX::fY::T::g0::cQ::cR::cS::cT::cU::cV::cW::cX::cY::d1::d3::d4::d5::d7::d9::dA::dC::dE::dS::dT::e7::e9::eA::eB::eC::eE::eI::eJ::eK::eL::eM::eN::eQ::eS::[]).toArray,[]⟩ x) :
  Code.wp aA adC Q ⟨(a0::a3::O (U ⟨b2,0,Y⟩)::O (U ⟨b3,0,Y⟩)::a4::a5::ak au (at_:Int)::a6::a7::a8::aE::b9::bJ::bQ::c7::c8::c9::cA::cC::cD::cF::cG::cH::cI::cJ::cL::cM::cN::cP::g6::g9::gE::gO::gR::gS::hC::hG::hH::hJ::hL::hM::hO::hS::hT::hU::cQ::cR::cS::cT::cU::cV::cW::cX::cY::d1::d3::d4::d5::d7::d9::dA::dC::dE::dS::dT::e7::e9::eA::eB::eC::eE::eI::eJ::eK::eL::eM::eN::eQ::eS::[]).toArray,[]⟩ W:=by
 have HQ:=J hQ;have H2:=J h2;have LX:=J hx;obtain⟨lo,E5,xJ⟩:=wW Ev hs at_ (by omega);obtain⟨hiv,E8,za⟩:=qB Ev hs (at_) hat;have LT:=J (show (l.take at_).length<=1000 by rw [aI]; omega);have Wz:=J (show (l.take at_).length<=900 by rw [aI]; omega);have LD:=J (show (l.drop (at_)).length<=1000 by rw [aM]; omega);generalize l.take at_=lt at *;generalize l.drop (at_)=ld at *;have SL:=J E5;have SH:=J E8;have RL:=J xJ;have RH:=J za;clear hQ h2 hx hs E5 E8 xJ za hat hlen;have jW:=Wy W.heap.size b2 b3 so sn sc at_ lo hiv z lt ld;unfold adC
 conv=>arg 2; whnf
 have nd:∀ j,(j<29\/45<=j)->∀ i,i<16->(fun i=>29+i) i≠j:=by
  intro j hj i hi h;simp only at h;omega
 refine Rg.gU 17 16 (fun i=>29+i) (fun i=>if i=0 then 5 else if i=5 then 9 else if i=8 then 9 else if i=9 then 14 else 16) (Qc W.heap.size b2 b3 so sn sc at_ lo hiv z lt ld) (by kernel_rfl) (by kernel_rfl) rfl (by decide) (fun i j _ _ h=>by have h2:29+i=29+j:=h; omega) (fun i hi=>by show 29+i<79; omega) ?_ (fun _=>Rg.kL 1 (by kernel_rfl)) (fun kk o h1 h2=>by omega) ?_
 ·intro i o hi ho a x D hnd hc hD hb seen K hK;clear HQ;rcases (by omega:i=0\/i=1\/i=2\/i=3\/i=4\/i=5\/i=6\/i=7\/i=8\/i=9\/i=10\/i=11\/i=12\/i=13\/i=14\/i=15) with rfl|rfl|rfl|rfl|rfl|rfl|rfl|rfl|rfl|rfl|rfl|rfl|rfl|rfl|rfl|rfl
  ·cases ho;exact aC rfl rfl (aV a.eval _ 26 0 #[] rfl rfl (by simp [go_sem])) (hK (aj (U ⟨x.heap.size,0,Y⟩) 0 0) (x.alloc (.cells #[] 23)) ⟨x.heap.size,rfl,hb.size,dQ x #[] 23⟩ ((L _ _).alloc hb.size _) fun j u _ _ _ _ _ h=>jW j u _ _ h ((L _ _).alloc (Nat.le_refl _) _))
  ·cases ho;have e2:a.eval (V 2)=O (U ⟨b2,0,Y⟩):=seen.kp 2 _ (nd 2 (by omega)) rfl;exact aC rfl rfl (aN a.eval _ 30 (V 2) 3 rfl (by rw [e2]; simp [go_sem])) (hK _ _ rfl (L _ _) fun _ _ _ _ _ _ _ h=>h)
  ·cases ho;have e30:a.eval (V 30)=O (U ⟨b2,3,Y⟩):=seen.at_ ⟨1,.data⟩ (by simp) rfl (aB (by decide));have y:=(H2.out.on hb).cell 3;simp only [X,Z,ah] at y;exact aC rfl rfl (aP a.eval _ 26 (V 30) rfl (by rw [e30]; simp [go_sem,y])) (hK _ _ rfl (L _ _) fun _ _ _ _ _ _ _ h=>h)
  ·cases ho;have e6:a.eval (V 6)=ak au (at_:Int):=seen.kp 6 _ (nd 6 (by omega)) rfl;exact aC rfl rfl (aR a.eval _ (V 6) rfl x) (hK _ _ e6 (L _ _) fun _ _ _ _ _ _ _ h=>h)
  ·cases ho;have e31:a.eval (V 31)=aj so sn sc:=seen.at_ ⟨2,.data⟩ (by simp) rfl (aB (by decide));have e32:a.eval (V 32)=ak au (at_:Int):=seen.at_ ⟨3,.data⟩ (by simp) rfl (aB (by decide));exact aC rfl rfl (aS a.eval _ 26 (V 31) Y (U (V 32)) Y rfl (by show (aJ 26 (a.eval (V 31)) Y (U (a.eval (V 32))) Y).run aA x=.ok lo x; rw [e31,e32]; exact SL.out x)) (hK _ _ rfl (L _ _) fun _ _ _ _ _ _ _ h=>h)
  ·cases ho;obtain⟨g,q0,hBg,hbx⟩:=seen.at_ ⟨0,.data⟩ (by simp) rfl (aK rfl);have q0:a.eval (V 29)=aj (U ⟨g,0,Y⟩) 0 0:=q0;have e33:a.eval (V 33)=lo:=seen.at_ ⟨4,.data⟩ (by simp) rfl (aB (by decide));obtain⟨v',x',r,o',gr⟩:=jN Ev W.heap.size hbx hBg (RL.out.on hb) LT.out 26;exact aC rfl rfl (aQ a.eval _ (V 29) (V 33) 26 rfl q0 e33 r) (hK v' x' o' (gr.mono hb.size) fun j u _ _ _ _ _ h=>jW j u _ _ h gr)
  ·cases ho;have e3:a.eval (V 3)=O (U ⟨b3,0,Y⟩):=seen.kp 3 _ (nd 3 (by omega)) rfl;exact aC rfl rfl (aN a.eval _ 36 (V 3) 0 rfl (by rw [e3]; simp [go_sem])) (hK _ _ rfl (L _ _) fun _ _ _ _ _ _ _ h=>h)
  ·cases ho;have e35:a.eval (V 35)=O (U ⟨b3,0,Y⟩):=seen.at_ ⟨6,.data⟩ (by simp) rfl (aB (by decide));exact aC rfl rfl (aP a.eval _ 23 (V 35) rfl (by rw [e35]; exact Gc x _ z (LX.out x hb))) (hK _ _ rfl (L _ _) fun _ _ _ _ _ _ _ h=>h)
  ·cases ho;have e36:a.eval (V 36)=Wu z:=seen.at_ ⟨7,.data⟩ (by simp) rfl (aB (by decide));have hl:=jC Ev x [z] 1 rfl (by simp) (kR z).toArray (by simp [flat,EJ]);have hl:uE (x.alloc (.cells (kR z).toArray 23)) x.heap.size (aj (U ⟨x.heap.size,0,Y⟩) 1 1) [z]:=hl;exact aC rfl rfl (aV a.eval _ 26 1 #[(0,V 36)] rfl (ps:=#[(0,Wu z)]) (by simp [e36]) (by simp [go_sem])) (hK (aj (U ⟨x.heap.size,0,Y⟩) 1 1) (x.alloc (.cells (kR z).toArray 23)) (dM hl hb.size) ((L _ _).alloc hb.size _) fun j u _ _ _ _ _ h=>jW j u _ _ h ((L _ _).alloc (Nat.le_refl _) _))
  ·cases ho;have o34:uE x W.heap.size (a.eval (V 34)) (lt):=seen.at_ ⟨5,.data⟩ (by simp) rfl (aK rfl);have o37:uE x W.heap.size (a.eval (V 37)) ([z]):=seen.at_ ⟨8,.data⟩ (by simp) rfl (aK rfl);have ox:=Row.dJ o37;obtain⟨v',x',r,o',gr⟩:=gZ Ev W.heap.size o34 ox (by have:=LT.out; omega) (by simp) hb.size 26;exact aC rfl rfl (aQ a.eval _ (V 34) (V 37) 26 rfl rfl rfl r) (hK v' x' o' ((L _ x).grown gr hb.size fun j hj=>(o34.lt j hj).1) fun j u hj dj nl nx ni h=>by
    rcases (by omega:j=0\/j=1\/j=2\/j=3\/j=4\/j=5\/j=6\/j=7\/j=8\/j=9\/j=10\/j=11\/j=12\/j=13\/j=14\/j=15) with rfl|rfl|rfl|rfl|rfl|rfl|rfl|rfl|rfl|rfl|rfl|rfl|rfl|rfl|rfl|rfl
    ·exact absurd rfl (fun _:(0:Nat)=0=>nl (hc 5 _ (hD ⟨5,.data⟩ (by simp) rfl) rfl ⟨0,.data⟩ (by simp) rfl |> fun _=>hD ⟨5,.data⟩ (by simp) rfl))
    ·exact h
    ·exact h
    ·exact h
    ·exact h
    ·exact absurd rfl (fun _:(0:Nat)=0=>nx rfl)
    ·exact h
    ·exact h
    ·exact absurd rfl (fun _:(0:Nat)=0=>nx rfl)
    ·exact absurd rfl (fun _:(0:Nat)=0=>ni rfl)
    ·exact h
    ·exact h
    ·exact h
    ·exact h
    ·exact absurd rfl (fun _:(0:Nat)=0=>hnd (hc 14 _ dj rfl ⟨9,.data⟩ (by simp) rfl))
    ·exact h)
  ·cases ho;have e2:a.eval (V 2)=O (U ⟨b2,0,Y⟩):=seen.kp 2 _ (nd 2 (by omega)) rfl;exact aC rfl rfl (aN a.eval _ 30 (V 2) 3 rfl (by rw [e2]; simp [go_sem])) (hK _ _ rfl (L _ _) fun _ _ _ _ _ _ _ h=>h)
  ·cases ho;have e39:a.eval (V 39)=O (U ⟨b2,3,Y⟩):=seen.at_ ⟨10,.data⟩ (by simp) rfl (aB (by decide));have y:=(H2.out.on hb).cell 3;simp only [X,Z,ah] at y;exact aC rfl rfl (aP a.eval _ 26 (V 39) rfl (by rw [e39]; simp [go_sem,y])) (hK _ _ rfl (L _ _) fun _ _ _ _ _ _ _ h=>h)
  ·cases ho;have e6:a.eval (V 6)=ak au (at_:Int):=seen.kp 6 _ (nd 6 (by omega)) rfl;exact aC rfl rfl (aR a.eval _ (V 6) rfl x) (hK _ _ e6 (L _ _) fun _ _ _ _ _ _ _ h=>h)
  ·cases ho;have e40:a.eval (V 40)=aj so sn sc:=seen.at_ ⟨11,.data⟩ (by simp) rfl (aB (by decide));have e41:a.eval (V 41)=ak au (at_:Int):=seen.at_ ⟨12,.data⟩ (by simp) rfl (aB (by decide));exact aC rfl rfl (aS a.eval _ 26 (V 40) (U (V 41)) Y Y rfl (by show (aJ 26 (a.eval (V 40)) (U (a.eval (V 41))) Y Y).run aA x=.ok hiv x; rw [e40,e41]; exact SH.out x)) (hK _ _ rfl (L _ _) fun _ _ _ _ _ _ _ h=>h)
  ·cases ho;have o38:uE x W.heap.size (a.eval (V 38)) ((lt++[z])):=seen.at_ ⟨9,.data⟩ (by simp) rfl (aK rfl);have e42:a.eval (V 42)=hiv:=seen.at_ ⟨13,.data⟩ (by simp) rfl (aB (by decide));have ox:wY x (a.eval (V 42)) ld:=by rw [e42]; exact RH.out.on hb
   obtain⟨v',x',r,o',gr⟩:=gZ Ev W.heap.size o38 ox (by have:=Wz.out; rw [List.length_append,List.length_singleton]; omega) LD.out hb.size 26;exact aC rfl rfl (aQ a.eval _ (V 38) (V 42) 26 rfl rfl rfl r) (hK v' x' o' ((L _ x).grown gr hb.size fun j hj=>(o38.lt j hj).1) fun j u hj dj nl nx ni h=>by
    rcases (by omega:j=0\/j=1\/j=2\/j=3\/j=4\/j=5\/j=6\/j=7\/j=8\/j=9\/j=10\/j=11\/j=12\/j=13\/j=14\/j=15) with rfl|rfl|rfl|rfl|rfl|rfl|rfl|rfl|rfl|rfl|rfl|rfl|rfl|rfl|rfl|rfl
    ·exact absurd rfl (fun _:(0:Nat)=0=>nl (hc 9 _ (hD ⟨9,.data⟩ (by simp) rfl) rfl ⟨5,.data⟩ (by simp) rfl))
    ·exact h
    ·exact h
    ·exact h
    ·exact h
    ·exact absurd rfl (fun _:(0:Nat)=0=>nl (hD ⟨9,.data⟩ (by simp) rfl))
    ·exact h
    ·exact h
    ·exact absurd rfl (fun _:(0:Nat)=0=>nl (hD ⟨9,.data⟩ (by simp) rfl))
    ·exact absurd rfl (fun _:(0:Nat)=0=>nx rfl)
    ·exact h
    ·exact h
    ·exact h
    ·exact h
    ·exact absurd rfl (fun _:(0:Nat)=0=>ni rfl)
    ·exact h)
  ·cases ho;have e2:a.eval (V 2)=O (U ⟨b2,0,Y⟩):=seen.kp 2 _ (nd 2 (by omega)) rfl;exact aC rfl rfl (aN a.eval _ 30 (V 2) 3 rfl (by rw [e2]; simp [go_sem])) (hK _ _ rfl (L _ _) fun _ _ _ _ _ _ _ h=>h)
 ·intro a w' df sz kp ⟨vs,hv⟩ hb;have gr:a.tmps[43]?=U (vs 14):=(hv 14 (by omega)).1;have gp:a.tmps[44]?=U (O (U ⟨b2,3,Y⟩)):=by
   have h:vs 15=O (U ⟨b2,3,Y⟩):=(hv 15 (by omega)).2 (by decide);rw [<- h];exact (hv 15 (by omega)).1
  have oR:uE w' W.heap.size (vs 14) (lt++[z]++ld):=(hv 14 (by omega)).2 (by decide);generalize vs 14=xR at *;obtain⟨ca,cp,eR⟩:=(Row.dJ oR).len;have hbx:=H2.out.on hb;have hblt:=H2.out.lt;have c5:=hbx.cell 3;have f5:=hbx.fr 3;simp only [X,Z,ah] at c5;have hb1:=eu (k:=3) hbx xR;show aT _ _ _ 1 16 a w';simp only [aT];refine Rg.gu 26 (V 44) (V 43) rfl rfl rfl rfl (aU gp) (aU gr) (w':=w'.setCell ⟨b2,3,Y⟩ xR) (by rw [eR]; simp [go_sem,c5,f5]) ?_;have rJ:∀ j,(j<29\/45<=j)->a.tmps[j]?=(a0::a3::O (U ⟨b2,0,Y⟩)::O (U ⟨b3,0,Y⟩)::a4::a5::ak au (at_:Int)::a6::a7::a8::aE::b9::bJ::bQ::c7::c8::c9::cA::cC::cD::cF::cG::cH::cI::cJ::cL::cM::cN::cP::g6::g9::gE::gO::gR::gS::hC::hG::hH::hJ::hL::hM::hO::hS::hT::hU::cQ::cR::cS::cT::cU::cV::cW::cX::cY::d1::d3::d4::d5::d7::d9::dA::dC::dE::dS::dT::e7::e9::eA::eB::eC::eE::eI::eJ::eK::eL::eM::eN::eQ::eS::[])[j]?:=fun j hj=>(kp j (nd j hj)).trans X;obtain⟨mid,hmid,rfl⟩:=Rg.gM 29 16 df sz (by simp) rJ
  match mid,hmid with
  | [eV,eW,f0,f7,f8,f9,fL,fN,fP,fR,fS,fW,fX,fY,T,g0],_ =>
   have e1:U T=U xR:=gr;obtain rfl:=aF e1;refine HQ.out _ eV eW f0 f7 f8 f9 fL fN fP fR fS fW fX fY T g0 ?_ ?_ ?_ ?_ ?_
   ·simpa using hb1
   ·exact eZ oR b2 3 _ hblt
   ·exact fun B hB=>(hb.mono (Nat.le_of_lt (Nat.lt_of_le_of_lt hB hblt))).setCell hB _
   ·intro c cs t hc hbc;exact (ay _ _ _ _ hc).trans (hbc.on hb)
   ·intro k hk hne;exact (ay _ _ _ _ hne).trans (hb.block k hk)
def Qd (B b2 _b3:Nat) (so:Option aO) (sn sc at_:Nat) (lo hiv:aG) (lt ld:List kY) (i:Nat) (v:aG) (x:aH):Prop :=
 match i with
 | 0=>∃ g,v=aj (U ⟨g,0,Y⟩) 0 0/\B<=g/\dK x g #[] 36
 | 1=>v=O (U ⟨b2,2,Y⟩)
 | 2=>v=aj so sn sc
 | 3=>v=ak au (at_:Int)
 | 4=>v=lo
 | 5=>nk x B v lt
 | 6=>v=O (U ⟨b2,2,Y⟩)
 | 7=>v=aj so sn sc
 | 8=>v=ak au (at_:Int)
 | 9=>v=ak au ((at_:Int)+1)
 | 10=>v=hiv
 | 11=>nk x B v (lt++ld)
 | 12=>v=O (U ⟨b2,2,Y⟩)
 | _=>True
noncomputable def adD:Code:=((Tryz.f161.body.bind (eO 4)).getD .skip)
theorem WA (B b2 b3:Nat) (so:Option aO) (sn sc at_:Nat) (lo hiv:aG) (lt ld:List kY) (i:Nat) (v:aG) (x x':aH) (h:Qd B b2 b3 so sn sc at_ lo hiv lt ld i v x) (hb:Below x.heap.size x x'):Qd B b2 b3 so sn sc at_ lo hiv lt ld i v x':=by
 by_cases hi:i<13
 ·rcases (by omega:i=0\/i=1\/i=2\/i=3\/i=4\/i=5\/i=6\/i=7\/i=8\/i=9\/i=10\/i=11\/i=12) with rfl|rfl|rfl|rfl|rfl|rfl|rfl|rfl|rfl|rfl|rfl|rfl|rfl
  ·obtain⟨g,h1,h2,h3⟩:=h;exact⟨g,h1,h2,h3.on hb⟩
  ·exact h
  ·exact h
  ·exact h
  ·exact h
  ·exact dI h hb
  ·exact h
  ·exact h
  ·exact h
  ·exact h
  ·exact h
  ·exact dI h hb
  ·exact h
 ·unfold Qd
  split <;> first | omega | trivial
theorem amF (Q:Exit->Act->aH->Prop) (W:aH) (b2 b3:Nat) (me:Int) (y1 y3 y4 y5:aG) (so:Option aO) (sn sc at_:Nat) (l:List kY) (a0 a3 a4 a5 a6 a7 a8 aE b9 bJ bQ c7 c8 c9 cA cC cD cF cG cH cI cJ cL cM cN eM eN eQ eS eV eW f0 f7 f8 f9 fL fN fP cP cQ cR cS cT cU cV cW cX cY d1 d3 d4 d5 d7 d9 dA dC dE:aG)
  (h2:dK W b2 #[ak au me,y1,aj so sn sc,y3,y4,y5] 30) (hs:xQ W (aj so sn sc) l) (hat:at_+1<=l.length) (hlen:l.length<=900)
  (hQ:∀ (x:aH) (dS dT e7 e9 eA eB eC eE eI eJ eK T eL:aG),dK x b2 #[ak au me,y1,T,y3,y4,y5] 30->nk x W.heap.size T (l.take at_++l.drop (at_+1))->(∀ B,B<=b2->Below B W x)->(∀ c cs t,c≠b2->dK W c cs t->dK x c cs t)->(∀ k,k<W.heap.size->k≠b2->x.heap[k]?=W.heap[k]?)->Q .normal ⟨(a0::a3::a4::O (U ⟨b2,0,Y⟩)::O (U ⟨b3,0,Y⟩)::a5::a6::a7::ak au (at_:Int)::a8::aE::b9::bJ::bQ::c7::c8::c9::cA::cC::cD::cF::cG::cH::cI::cJ::cL::cM::cN::dS::dT::e7::e9::eA::eB::eC::eE::eI::eJ::eK::T::eL::cP::cQ::cR::cS::cT::cU::cV::cW::cX::cY::d1::d3::d4::d5::d7::d9::dA::dC::dE::[]).toArray,[]⟩ x) :
  Code.wp aA adD Q ⟨(a0::a3::a4::O (U ⟨b2,0,Y⟩)::O (U ⟨b3,0,Y⟩)::a5::a6::a7::ak au (at_:Int)::a8::aE::b9::bJ::bQ::c7::c8::c9::cA::cC::cD::cF::cG::cH::cI::cJ::cL::cM::cN::eM::eN::eQ::eS::eV::eW::f0::f7::f8::f9::fL::fN::fP::cP::cQ::cR::cS::cT::cU::cV::cW::cX::cY::d1::d3::d4::d5::d7::d9::dA::dC::dE::[]).toArray,[]⟩ W:=by
 have HQ:=J hQ;have H2:=J h2;have AT1:=J (show at_<=900 by omega);obtain⟨lo,E5,xJ⟩:=wW okD hs at_ (by omega);obtain⟨hiv,E8,za⟩:=qB okD hs (at_+1) hat;have LT:=J (show (l.take at_).length<=1000 by rw [aI]; omega);have Wz:=J (show (l.take at_).length<=900 by rw [aI]; omega);have LD:=J (show (l.drop (at_+1)).length<=1000 by rw [aM]; omega);generalize l.take at_=lt at *;generalize l.drop (at_+1)=ld at *;have SL:=J E5;have SH:=J (show ∀ w,(aJ 25 (aj so sn sc) (U (ak au ((at_:Int)+1))) Y Y).run aA w=.ok hiv w from E8);have RL:=J xJ;have RH:=J za;clear hQ h2 hs E5 E8 xJ za hat hlen;have jW:=WA W.heap.size b2 b3 so sn sc at_ lo hiv lt ld;unfold adD
 conv=>arg 2; whnf
 have nd:∀ j,(j<28\/41<=j)->∀ i,i<13->(fun i=>28+i) i≠j:=by
  intro j hj i hi h;simp only at h;omega
 refine Rg.gU 14 13 (fun i=>28+i) (fun i=>if i=0 then 5 else if i=5 then 11 else 13) (Qd W.heap.size b2 b3 so sn sc at_ lo hiv lt ld) (by kernel_rfl) (by kernel_rfl) rfl (by decide) (fun i j _ _ h=>by have h2:28+i=28+j:=h; omega) (fun i hi=>by show 28+i<60; omega) ?_ (fun _=>Rg.kL 1 (by kernel_rfl)) (fun kk o h1 h2=>by omega) ?_
 ·intro i o hi ho a x D hnd hc hD hb seen K hK;clear HQ;rcases (by omega:i=0\/i=1\/i=2\/i=3\/i=4\/i=5\/i=6\/i=7\/i=8\/i=9\/i=10\/i=11\/i=12) with rfl|rfl|rfl|rfl|rfl|rfl|rfl|rfl|rfl|rfl|rfl|rfl|rfl
  ·cases ho;exact aC rfl rfl (aV a.eval _ 25 0 #[] rfl rfl (by simp [go_sem])) (hK (aj (U ⟨x.heap.size,0,Y⟩) 0 0) (x.alloc (.cells #[] 36)) ⟨x.heap.size,rfl,hb.size,dQ x #[] 36⟩ ((L _ _).alloc hb.size _) fun j u _ _ _ _ _ h=>jW j u _ _ h ((L _ _).alloc (Nat.le_refl _) _))
  ·cases ho;have e3:a.eval (V 3)=O (U ⟨b2,0,Y⟩):=seen.kp 3 _ (nd 3 (by omega)) rfl;exact aC rfl rfl (aN a.eval _ 30 (V 3) 2 rfl (by rw [e3]; simp [go_sem])) (hK _ _ rfl (L _ _) fun _ _ _ _ _ _ _ h=>h)
  ·cases ho;have e29:a.eval (V 29)=O (U ⟨b2,2,Y⟩):=seen.at_ ⟨1,.data⟩ (by simp) rfl (aB (by decide));have y:=(H2.out.on hb).cell 2;simp only [X,Z,ah] at y;exact aC rfl rfl (aP a.eval _ 25 (V 29) rfl (by rw [e29]; simp [go_sem,y])) (hK _ _ rfl (L _ _) fun _ _ _ _ _ _ _ h=>h)
  ·cases ho;have e8:a.eval (V 8)=ak au (at_:Int):=seen.kp 8 _ (nd 8 (by omega)) rfl;exact aC rfl rfl (aR a.eval _ (V 8) rfl x) (hK _ _ e8 (L _ _) fun _ _ _ _ _ _ _ h=>h)
  ·cases ho;have e30:a.eval (V 30)=aj so sn sc:=seen.at_ ⟨2,.data⟩ (by simp) rfl (aB (by decide));have e31:a.eval (V 31)=ak au (at_:Int):=seen.at_ ⟨3,.data⟩ (by simp) rfl (aB (by decide));exact aC rfl rfl (aS a.eval _ 25 (V 30) Y (U (V 31)) Y rfl (by show (aJ 25 (a.eval (V 30)) Y (U (a.eval (V 31))) Y).run aA x=.ok lo x; rw [e30,e31]; exact SL.out x)) (hK _ _ rfl (L _ _) fun _ _ _ _ _ _ _ h=>h)
  ·cases ho;obtain⟨g,q0,hBg,hbx⟩:=seen.at_ ⟨0,.data⟩ (by simp) rfl (aK rfl);have q0:a.eval (V 28)=aj (U ⟨g,0,Y⟩) 0 0:=q0;have e32:a.eval (V 32)=lo:=seen.at_ ⟨4,.data⟩ (by simp) rfl (aB (by decide));obtain⟨v',x',r,o',gr⟩:=jN okD W.heap.size hbx hBg (RL.out.on hb) LT.out 25;exact aC rfl rfl (aQ a.eval _ (V 28) (V 32) 25 rfl q0 e32 r) (hK v' x' o' (gr.mono hb.size) fun j u _ _ _ _ _ h=>jW j u _ _ h gr)
  ·cases ho;have e3:a.eval (V 3)=O (U ⟨b2,0,Y⟩):=seen.kp 3 _ (nd 3 (by omega)) rfl;exact aC rfl rfl (aN a.eval _ 30 (V 3) 2 rfl (by rw [e3]; simp [go_sem])) (hK _ _ rfl (L _ _) fun _ _ _ _ _ _ _ h=>h)
  ·cases ho;have e34:a.eval (V 34)=O (U ⟨b2,2,Y⟩):=seen.at_ ⟨6,.data⟩ (by simp) rfl (aB (by decide));have y:=(H2.out.on hb).cell 2;simp only [X,Z,ah] at y;exact aC rfl rfl (aP a.eval _ 25 (V 34) rfl (by rw [e34]; simp [go_sem,y])) (hK _ _ rfl (L _ _) fun _ _ _ _ _ _ _ h=>h)
  ·cases ho;have e8:a.eval (V 8)=ak au (at_:Int):=seen.kp 8 _ (nd 8 (by omega)) rfl;exact aC rfl rfl (aR a.eval _ (V 8) rfl x) (hK _ _ e8 (L _ _) fun _ _ _ _ _ _ _ h=>h)
  ·cases ho;have e36:a.eval (V 36)=ak au (at_:Int):=seen.at_ ⟨8,.data⟩ (by simp) rfl (aB (by decide));exact aC rfl rfl (Rg.Wn a.eval _ .add 3 (V 36) (.const (ak au 1)) 3 rfl (by rw [e36]; exact add_one _ _ _ _ at_ AT1.out)) (hK _ _ rfl (L _ _) fun _ _ _ _ _ _ _ h=>h)
  ·cases ho;have e35:a.eval (V 35)=aj so sn sc:=seen.at_ ⟨7,.data⟩ (by simp) rfl (aB (by decide));have e37:a.eval (V 37)=ak au ((at_:Int)+1):=seen.at_ ⟨9,.data⟩ (by simp) rfl (aB (by decide));exact aC rfl rfl (aS a.eval _ 25 (V 35) (U (V 37)) Y Y rfl (by show (aJ 25 (a.eval (V 35)) (U (a.eval (V 37))) Y Y).run aA x=.ok hiv x; rw [e35,e37]; exact SH.out x)) (hK _ _ rfl (L _ _) fun _ _ _ _ _ _ _ h=>h)
  ·cases ho;have o33:nk x W.heap.size (a.eval (V 33)) (lt):=seen.at_ ⟨5,.data⟩ (by simp) rfl (aK rfl);have e38:a.eval (V 38)=hiv:=seen.at_ ⟨10,.data⟩ (by simp) rfl (aB (by decide));have ox:xQ x (a.eval (V 38)) ld:=by rw [e38]; exact RH.out.on hb
   obtain⟨v',x',r,o',gr⟩:=gZ okD W.heap.size o33 ox (by have:=Wz.out; omega) LD.out hb.size 25;exact aC rfl rfl (aQ a.eval _ (V 33) (V 38) 25 rfl rfl rfl r) (hK v' x' o' ((L _ x).grown gr hb.size fun j hj=>(o33.lt j hj).1) fun j u hj dj nl nx ni h=>by
    rcases (by omega:j=0\/j=1\/j=2\/j=3\/j=4\/j=5\/j=6\/j=7\/j=8\/j=9\/j=10\/j=11\/j=12) with rfl|rfl|rfl|rfl|rfl|rfl|rfl|rfl|rfl|rfl|rfl|rfl|rfl
    ·exact absurd rfl (fun _:(0:Nat)=0=>nl (hD ⟨5,.data⟩ (by simp) rfl))
    ·exact h
    ·exact h
    ·exact h
    ·exact h
    ·exact absurd rfl (fun _:(0:Nat)=0=>nx rfl)
    ·exact h
    ·exact h
    ·exact h
    ·exact h
    ·exact h
    ·exact absurd rfl (fun _:(0:Nat)=0=>ni rfl)
    ·exact h)
  ·cases ho;have e3:a.eval (V 3)=O (U ⟨b2,0,Y⟩):=seen.kp 3 _ (nd 3 (by omega)) rfl;exact aC rfl rfl (aN a.eval _ 30 (V 3) 2 rfl (by rw [e3]; simp [go_sem])) (hK _ _ rfl (L _ _) fun _ _ _ _ _ _ _ h=>h)
 ·intro a w' df sz kp ⟨vs,hv⟩ hb;have gr:a.tmps[39]?=U (vs 11):=(hv 11 (by omega)).1;have gp:a.tmps[40]?=U (O (U ⟨b2,2,Y⟩)):=by
   have h:vs 12=O (U ⟨b2,2,Y⟩):=(hv 12 (by omega)).2 (by decide);rw [<- h];exact (hv 12 (by omega)).1
  have oR:nk w' W.heap.size (vs 11) (lt++ld):=(hv 11 (by omega)).2 (by decide);generalize vs 11=xR at *;obtain⟨ca,cp,eR⟩:=(Row.dJ oR).len;have hbx:=H2.out.on hb;have hblt:=H2.out.lt;have c5:=hbx.cell 2;have f5:=hbx.fr 2;simp only [X,Z,ah] at c5;have hb1:=eu (k:=2) hbx xR;show aT _ _ _ 1 13 a w';simp only [aT];refine Rg.gu 25 (V 40) (V 39) rfl rfl rfl rfl (aU gp) (aU gr) (w':=w'.setCell ⟨b2,2,Y⟩ xR) (by rw [eR]; simp [go_sem,c5,f5]) ?_;have rJ:∀ j,(j<28\/41<=j)->a.tmps[j]?=(a0::a3::a4::O (U ⟨b2,0,Y⟩)::O (U ⟨b3,0,Y⟩)::a5::a6::a7::ak au (at_:Int)::a8::aE::b9::bJ::bQ::c7::c8::c9::cA::cC::cD::cF::cG::cH::cI::cJ::cL::cM::cN::eM::eN::eQ::eS::eV::eW::f0::f7::f8::f9::fL::fN::fP::cP::cQ::cR::cS::cT::cU::cV::cW::cX::cY::d1::d3::d4::d5::d7::d9::dA::dC::dE::[])[j]?:=fun j hj=>(kp j (nd j hj)).trans X;obtain⟨mid,hmid,rfl⟩:=Rg.gM 28 13 df sz (by simp) rJ
  match mid,hmid with
  | [dS,dT,e7,e9,eA,eB,eC,eE,eI,eJ,eK,T,eL],_ =>
   have e1:U T=U xR:=gr;obtain rfl:=aF e1;refine HQ.out _ dS dT e7 e9 eA eB eC eE eI eJ eK T eL ?_ ?_ ?_ ?_ ?_
   ·simpa using hb1
   ·exact eZ oR b2 2 _ hblt
   ·exact fun B hB=>(hb.mono (Nat.le_of_lt (Nat.lt_of_le_of_lt hB hblt))).setCell hB _
   ·intro c cs t hc hbc;exact (ay _ _ _ _ hc).trans (hbc.on hb)
   ·intro k hk hne;exact (ay _ _ _ _ hne).trans (hb.block k hk)
end Bk
namespace Av
open Go.RowKit Rw YtghlpefopidlaaaGreat.Nm Pr Bk
theorem NP (l:List eU) (x:eU) (h:∀ (j:Nat) (y:eU),l[j]?=U y->y≠x):fO l x=-1:=by
 induction l with
 | nil=>rfl
 | cons a l ih =>
  rw [fO,if_neg (h 0 a rfl),ih fun j y hj=>h (j+1) y (by simpa using hj),if_pos rfl]
theorem WE (l:List eU) (k:Nat) (x:eU) (h:l[k]?=U x) (hall:∀ (j:Nat) (z:eU),j<k->l[j]?=U z->z≠x):fO l x=k:=by
 induction l generalizing k with
 | nil=>simp at h
 | cons a l ih =>
  cases k with
  | zero =>
   obtain rfl:a=x:=by simpa using h
   rw [fO,if_pos rfl]
   rfl
  | succ k =>
   have h2:=ih k (by simpa using h) fun j z hj hz=>hall (j+1) z (by omega) (by simpa using hz);rw [fO,if_neg (hall 0 a (by omega) rfl),h2,if_neg (by omega)];omega
theorem J6 (l:List eU) (x:eU):decide ((0:Int)<=fO l x)=decide (x∈l):=by
 induction l with
 | nil=>simp [fO]
 | cons a l ih =>
  have hb:=rX l x;rw [fO];by_cases h:a=x
  ·rw [if_pos h]; simp [h]
  ·rw [if_neg h];have h':¬ x=a:=fun e=>h e.symm;simp only [List.mem_cons,h',false_or];rw [<- ih];by_cases h2:fO l x=-1
   ·rw [if_pos h2,h2]
   ·rw [if_neg h2];have h3:0<=fO l x:=by omega
    have h4:0<=fO l x+1:=by omega
    simp [h3,h4]
theorem TF (sv:Sl) (l:List eU) (x:eU) (w:aH) (hs:wY w (dX sv) l) :
  Calls aA 139 #[dX sv,nC x] w fun e w'=>e=.returned (ak au (fO l x))/\Below w.heap.size w w':=by
 obtain⟨c,d⟩:=x;obtain⟨so,sn,sc⟩:=sv;obtain⟨ao,ac,hv⟩:=hs.len;have hv:aj so sn sc=aj ao l.length ac:=hv;obtain⟨rfl,rfl,rfl⟩:so=ao/\sn=l.length/\sc=ac:=by simpa using hv
 have h0:=gN w (.cells #[ak au c,ak au d] 23);have h2:=dQ w #[ak au c,ak au d] 23;have B:=J h0;have HS:=J (hs.on h0);have X3:=J h2;have lm:=hs.most;unfold maxLen at lm;obtain⟨n,hn⟩:∃ n,n=l.length:=⟨_,rfl⟩;rw [<- hn] at HS lm ⊢;have HN:=J hn.symm;clear h0 h2 hs hv hn;go_enter Tryz.func139,Tryz.ntmps139;go_upto_region 1 with fail;generalize w.alloc (.cells #[ak au c,ak au d] 23)=W at *;go_wp2
 go_loopw [8] (fun i wr=>∃ k:Nat,k<=n/\i=ak au k/\Below W.heap.size W wr/\∀ (j:Nat) (y:eU),j<k->l[j]?=U y->y≠(c,d)) (fun i _=>n-(intOf i).toNat)
 case atStart=>exact⟨0,Nat.zero_le _,rfl,L _ _,fun j y h=>by omega⟩
 case round =>
  obtain⟨k,hk,rfl,hbe,hall⟩:=hrel;have BE:=J hbe;have AL:=J hall;clear hbe hall;by_cases hlt:k<n
  ·obtain⟨y,hy⟩:∃ y,l[k]?=U y:=⟨_,aD (by rw [HN.out]; exact hlt)⟩;obtain⟨p,ix,px⟩:=elJ HS.out rfl HN.out hy;have DD:Below W.heap.size W wr.drew:=BE.out.drew;obtain⟨p0,p1⟩:=px wr BE.out;obtain⟨y1,y2⟩:=y;simp only at p0 p1;obtain⟨x0,x1⟩:=(X3.out.on BE.out).cs2;have hw3:IntKind.i64.wrap ((k:Int)+1)=(k:Int)+1:=IntWalk.i64_in _ (by omega);obtain⟨r,hr⟩:∃ r,(c == y1 && d == y2)=r:=⟨_,rfl⟩;have he:=rH c d y1 y2 r hr;have DB:=J DD;have HY:=J hy;have HR:=J hr;clear px hy hr DD;cases r
   ·go_wp2_with fail
    go_quiet (fail)
    go_wp2
    go_roundw
    case rel=>exact⟨k+1,by omega,by go_num,⟨BE.out.os,BE.out.tape,BE.out.output,BE.out.size,BE.out.block⟩,fun j y' hj h1=>by
     rcases Nat.lt_or_ge j k with h3|h3
     ·exact AL.out j y' h3 h1
     ·obtain rfl:j=k:=by omega
      have e1:=HY.out;rw [h1] at e1;rw [aF e1];intro e;obtain⟨rfl,rfl⟩:y1=c/\y2=d:=by simpa using e
      have:=HR.out;simp at this⟩
    case measure=>simp [intOf]; omega
   ·go_wp2_with fail
    go_quiet (fail)
    go_wp2;go_ret;have h8:=HR.out;obtain⟨rfl,rfl⟩:c=y1/\d=y2:=by simpa using h8
    exact⟨by rw [WE l k (c,d) HY.out AL.out]; rfl,B.out.trans (Below.mono ⟨BE.out.os,BE.out.tape,BE.out.output,BE.out.size,BE.out.block⟩ B.out.size)⟩
  ·obtain rfl:k=n:=by omega
   go_wp2;go_ret;have hd:fO l (c,d)=-1:=NP l (c,d) fun j y hj=>AL.out j y (by rw [<- HN.out]; exact (List.getElem?_eq_some_iff.1 hj).1) hj;exact⟨by rw [hd]; rfl,B.out.trans (BE.out.mono B.out.size)⟩
theorem I6 (sv:Sl) (l:List eU) (x:eU) (w:aH) (hs:wY w (dX sv) l) :
  Calls aA 98 #[dX sv,nC x] w fun e w'=>e=.returned (.bool (decide (x∈l)))/\Below w.heap.size w w':=by
 have h0:=gN w (.cells #[ak au x.1,ak au x.2] 23);have h2:=dQ w #[ak au x.1,ak au x.2] 23;have C:=TF sv l x _ (hs.on h0);have R:=J (J6 l x);obtain⟨c,d⟩:=x;obtain⟨so,sn,sc⟩:=sv;have B:=J h0;obtain⟨x0,x1⟩:=h2.cs2;generalize fO l (c,d)=r at *;generalize decide ((c,d)∈l)=s at *;clear h0 h2 hs;go_enter Tryz.func98,Tryz.ntmps98;go_wp2_with fail;refine C.mono ?_;rintro e w1 ⟨rfl,hb⟩;go_wp2;go_ret;exact⟨by have h:=R.out; subst h; rfl,B.out.trans (hb.mono B.out.size)⟩
theorem TI (me:Int) (nv av ev ov:aG) (sv:Sl) (l:List eU) (x:eU) (w:aH) (hs:wY w (dX sv) l) :
  Calls aA 32 #[.agg #[ak au me,nv,av,dX sv,ev,ov],nC x] w fun e w'=>e=.returned (.bool (decide (x∈l)))/\Below w.heap.size w w':=by
 obtain⟨h0,h1,h2⟩:=iI w #[ak au me,nv,av,dX sv,ev,ov] #[ak au x.1,ak au x.2] 30 23;have C:=I6 sv l x _ (hs.on h0);obtain⟨c,d⟩:=x;obtain⟨so,sn,sc⟩:=sv;have B:=J h0;have b3:=h1.cell 3;obtain⟨x0,x1⟩:=h2.cs2;simp only [X,Z,ah] at b3;generalize decide ((c,d)∈l)=s at *;clear h0 h1 h2 hs;go_enter Tryz.func32,Tryz.ntmps32;go_wp2_with fail;refine C.mono ?_;rintro e w1 ⟨rfl,hb⟩;go_wp2;go_ret;exact⟨rfl,B.out.trans (hb.mono B.out.size)⟩
end Av
namespace Av
open Go.RowKit Rw Bk Go.Maps Go.ChangeMaps
noncomputable def kl (l:eU):Lit:=(keyOf aA 23 (nC l)).getD (Lit.bool false)
end Av
namespace Rg
open Go.RowKit
end Rg
namespace Rg
open Go.RowKit Rw
end Rg
end Go.Proofs.YtghlpefopidlaaaGreat
