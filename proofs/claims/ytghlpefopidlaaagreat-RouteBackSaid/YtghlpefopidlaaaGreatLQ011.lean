/-
  The region of Learn . Conditions as told.
-/
import Derived.Test.YtghlpefopidlaaaGreatLQ008
set_option maxRecDepth 100000
set_option maxHeartbeats 64000000
open _root_.Go renaming World->ay,Value->aF,Calls->aT,Act->aU
open Go.Builtin renaming copy_->aM
open Go.Instr renaming sliceAt->Z
open Go.IntKind renaming i64->aH,wrap_i64->aQ
open Go.Lib renaming hid->aA
open Go.Obj renaming cells->aI
open Go.Operand renaming tmp->aj
open Go.Proofs.Tryz renaming prog->X,ntmps191->aN,func191->aO
open Go.Region renaming binds->au
open Go.RowKit.Below renaming refl->Y,heap_setCell->aL
open Go.Value renaming slice->J,pointer->ah,int->aG
open _root_.List renaming getElem?_toArray->ak,getElem?_cons_zero->aC,getElem?_cons_succ->aD,length_take->aP
open _root_.Nat renaming le_refl->aJ,lt_or_ge->aS
open _root_.Option renaming some->O,none->U
open Option.some renaming inj->aB
open _root_.Or renaming inr->aK,inl->aR
namespace Go.Proofs.YtghlpefopidlaaaGreat
namespace Bk
open Go.RowKit Rw YtghlpefopidlaaaGreat.Nm Pr
def I7 (B b2 _b3:Nat) (so:Option Addr) (sn sc at_:Nat) (lo hiv:aF) (z:kY) (lt ld:List kY) (i:Nat) (v:aF) (x:ay):Prop :=
 match i with
 | 0=>∃ g,v=J (O ⟨g,0,U⟩) 0 0/\B<=g/\dK x g #[] 36
 | 1=>v=ah (O ⟨b2,2,U⟩)
 | 2=>v=J so sn sc
 | 3=>v=aG aH (at_:Int)
 | 4=>v=lo
 | 5=>nk x B v lt
 | 6=>v=nD z
 | 7=>nk x B v [z]
 | 8=>nk x B v (lt++[z])
 | 9=>v=ah (O ⟨b2,2,U⟩)
 | 10=>v=J so sn sc
 | 11=>v=aG aH (at_:Int)
 | 12=>v=hiv
 | 13=>nk x B v (lt++[z]++ld)
 | 14=>v=ah (O ⟨b2,2,U⟩)
 | _=>True
noncomputable def WH:Code:=((Tryz.f118.body.bind (eO 10)).getD .skip)
theorem TJ (B b2 b3:Nat) (so:Option Addr) (sn sc at_:Nat) (lo hiv:aF) (z:kY) (lt ld:List kY) (i:Nat) (v:aF) (x x':ay) (h:I7 B b2 b3 so sn sc at_ lo hiv z lt ld i v x) (hb:Below x.heap.size x x'):I7 B b2 b3 so sn sc at_ lo hiv z lt ld i v x':=by
 by_cases hi:i<15
 ·rcases (by omega:i=0\/i=1\/i=2\/i=3\/i=4\/i=5\/i=6\/i=7\/i=8\/i=9\/i=10\/i=11\/i=12\/i=13\/i=14) with rfl|rfl|rfl|rfl|rfl|rfl|rfl|rfl|rfl|rfl|rfl|rfl|rfl|rfl|rfl
  ·obtain⟨g,h1,h2,h3⟩:=h;exact⟨g,h1,h2,h3.on hb⟩
  ·exact h
  ·exact h
  ·exact h
  ·exact h
  ·exact dI h hb
  ·exact h
  ·exact dI h hb
  ·exact dI h hb
  ·exact h
  ·exact h
  ·exact h
  ·exact h
  ·exact dI h hb
  ·exact h
 ·unfold I7
  split <;> first | omega | trivial
theorem ajH (Q:Exit->aU->ay->Prop) (W:ay) (b2 b3:Nat) (me:Int) (y1 y3 y4 y5:aF) (so:Option Addr) (sn sc at_:Nat) (l:List kY) (z:kY) (a0 a3 a4 a5 a6 a7 a8 aE b9 bJ bQ c7 c8 c9 cA cC cD cF cG cH cI cJ cL cM cN cP cQ cR cS cT cU cV cW cX cY d1 d3 d4 d5 d7 d9 dA dC dE dS dT e7 e9 eA eB eC eE eI eJ eK eL eM eN eQ eS g6 g9 gE gO gR gS hC hG hH hJ hL hM hO hS hT eV:aF)
  (h2:dK W b2 #[aG aH me,y1,J so sn sc,y3,y4,y5] 30) (hx:∀ x,Below W.heap.size W x->∀ j u,(cellsD z)[j]?=O u->x.cell? ((⟨b3,0,U⟩:Addr).add j)=O u) (hs:xQ W (J so sn sc) l) (hat:at_<=l.length) (hlen:l.length<=900)
  (hQ:∀ (x:ay) (eW f0 f7 f8 f9 fL fN fP fR fS fW fX fY T g0:aF),dK x b2 #[aG aH me,y1,T,y3,y4,y5] 30->nk x W.heap.size T (l.take at_++[z]++l.drop at_)->(∀ B,B<=b2->Below B W x)->(∀ c cs t,c≠b2->dK W c cs t->dK x c cs t)->(∀ k,k<W.heap.size->k≠b2->x.heap[k]?=W.heap[k]?)->Q .normal ⟨(a0::a3::ah (O ⟨b2,0,U⟩)::ah (O ⟨b3,0,U⟩)::a4::a5::aG aH (at_:Int)::a6::a7::a8::aE::b9::bJ::bQ::c7::c8::c9::cA::cC::cD::cF::cG::cH::cI::cJ::cL::cM::cN::cP::cQ::cR::cS::cT::cU::cV::cW::cX::cY::d1::d3::d4::d5::d7::d9::dA::dC::dE::dS::dT::e7::e9::eA::eB::eC::eE::eI::eJ::eK::eL::eM::eN::eQ::eS::eW::f0::f7::f8::f9::fL::fN::fP::fR::fS::fW::fX::fY::T::g0::eV::[]).toArray,[]⟩ x) :
  Code.wp X WH Q ⟨(a0::a3::ah (O ⟨b2,0,U⟩)::ah (O ⟨b3,0,U⟩)::a4::a5::aG aH (at_:Int)::a6::a7::a8::aE::b9::bJ::bQ::c7::c8::c9::cA::cC::cD::cF::cG::cH::cI::cJ::cL::cM::cN::cP::cQ::cR::cS::cT::cU::cV::cW::cX::cY::d1::d3::d4::d5::d7::d9::dA::dC::dE::dS::dT::e7::e9::eA::eB::eC::eE::eI::eJ::eK::eL::eM::eN::eQ::eS::g6::g9::gE::gO::gR::gS::hC::hG::hH::hJ::hL::hM::hO::hS::hT::eV::[]).toArray,[]⟩ W:=by
 have HQ:=aA hQ;have H2:=aA h2;have LX:=aA hx;obtain⟨lo,E5,xJ⟩:=wW okD hs at_ (by omega);obtain⟨hiv,E8,za⟩:=qB okD hs (at_) hat;have LT:=aA (show (l.take at_).length<=1000 by rw [aP]; omega);have Wz:=aA (show (l.take at_).length<=900 by rw [aP]; omega);have LD:=aA (show (l.drop (at_)).length<=1000 by rw [List.length_drop]; omega);generalize l.take at_=lt at *;generalize l.drop (at_)=ld at *;have SL:=aA E5;have SH:=aA E8;have RL:=aA xJ;have RH:=aA za;clear hQ h2 hx hs E5 E8 xJ za hat hlen;have jW:=TJ W.heap.size b2 b3 so sn sc at_ lo hiv z lt ld;unfold WH
 conv=>arg 2; whnf
 have nd:∀ j,(j<63\/78<=j)->∀ i,i<15->(fun i=>63+i) i≠j:=by
  intro j hj i hi h;simp only at h;omega
 refine Rg.gU 16 15 (fun i=>63+i) (fun i=>if i=0 then 5 else if i=5 then 8 else if i=7 then 8 else if i=8 then 13 else 15) (I7 W.heap.size b2 b3 so sn sc at_ lo hiv z lt ld) (by kernel_rfl) (by kernel_rfl) rfl (by decide) (fun i j _ _ h=>by have h2:63+i=63+j:=h; omega) (fun i hi=>by show 63+i<79; omega) ?_ (fun _=>Rg.kL 1 (by kernel_rfl)) (fun kk o h1 h2=>by omega) ?_
 ·intro i o hi ho a x D hnd hc hD hb seen K hK;clear HQ;rcases (by omega:i=0\/i=1\/i=2\/i=3\/i=4\/i=5\/i=6\/i=7\/i=8\/i=9\/i=10\/i=11\/i=12\/i=13\/i=14) with rfl|rfl|rfl|rfl|rfl|rfl|rfl|rfl|rfl|rfl|rfl|rfl|rfl|rfl|rfl
  ·cases ho;exact Rg.dG rfl rfl (Rg.iY a.eval _ 25 0 #[] rfl rfl (by simp [go_sem])) (hK (J (O ⟨x.heap.size,0,U⟩) 0 0) (x.alloc (aI #[] 36)) ⟨x.heap.size,rfl,hb.size,dQ x #[] 36⟩ ((Y _ _).alloc hb.size _) fun j u _ _ _ _ _ h=>jW j u _ _ h ((Y _ _).alloc (aJ _) _))
  ·cases ho;have e2:a.eval (aj 2)=ah (O ⟨b2,0,U⟩):=seen.kp 2 _ (nd 2 (by omega)) rfl;exact Rg.dG rfl rfl (Rg.dW a.eval _ 30 (aj 2) 2 rfl (by rw [e2]; simp [go_sem])) (hK _ _ rfl (Y _ _) fun _ _ _ _ _ _ _ h=>h)
  ·cases ho;have e64:a.eval (aj 64)=ah (O ⟨b2,2,U⟩):=seen.at_ ⟨1,.data⟩ (by simp) rfl (aK (by decide));have y:=(H2.out.on hb).cell 2;simp only [ak,aC,aD] at y;exact Rg.dG rfl rfl (Rg.dU a.eval _ 25 (aj 64) rfl (by rw [e64]; simp [go_sem,y])) (hK _ _ rfl (Y _ _) fun _ _ _ _ _ _ _ h=>h)
  ·cases ho;have e6:a.eval (aj 6)=aG aH (at_:Int):=seen.kp 6 _ (nd 6 (by omega)) rfl;exact Rg.dG rfl rfl (Rg.gD a.eval _ (aj 6) rfl x) (hK _ _ e6 (Y _ _) fun _ _ _ _ _ _ _ h=>h)
  ·cases ho;have e65:a.eval (aj 65)=J so sn sc:=seen.at_ ⟨2,.data⟩ (by simp) rfl (aK (by decide));have e66:a.eval (aj 66)=aG aH (at_:Int):=seen.at_ ⟨3,.data⟩ (by simp) rfl (aK (by decide));exact Rg.dG rfl rfl (Rg.lJ a.eval _ 25 (aj 65) U (O (aj 66)) U rfl (by show (Z 25 (a.eval (aj 65)) U (O (a.eval (aj 66))) U).run X x=.ok lo x; rw [e65,e66]; exact SL.out x)) (hK _ _ rfl (Y _ _) fun _ _ _ _ _ _ _ h=>h)
  ·cases ho;obtain⟨g,q0,hBg,hbx⟩:=seen.at_ ⟨0,.data⟩ (by simp) rfl (aR rfl);have q0:a.eval (aj 63)=J (O ⟨g,0,U⟩) 0 0:=q0;have e67:a.eval (aj 67)=lo:=seen.at_ ⟨4,.data⟩ (by simp) rfl (aK (by decide));obtain⟨v',x',r,o',gr⟩:=jN okD W.heap.size hbx hBg (RL.out.on hb) LT.out 25;exact Rg.dG rfl rfl (Rg.gQ a.eval _ (aj 63) (aj 67) 25 rfl q0 e67 r) (hK v' x' o' (gr.mono hb.size) fun j u _ _ _ _ _ h=>jW j u _ _ h gr)
  ·cases ho;have e3:a.eval (aj 3)=ah (O ⟨b3,0,U⟩):=seen.kp 3 _ (nd 3 (by omega)) rfl;exact Rg.dG rfl rfl (Rg.dU a.eval _ 36 (aj 3) rfl (by rw [e3]; exact Wv x _ z (LX.out x hb))) (hK _ _ rfl (Y _ _) fun _ _ _ _ _ _ _ h=>h)
  ·cases ho;have e69:a.eval (aj 69)=nD z:=seen.at_ ⟨6,.data⟩ (by simp) rfl (aK (by decide));have hl:=jC okD x [z] 1 rfl (by simp) (cellsD z).toArray (by simp [flat,ED]);have hl:nk (x.alloc (aI (cellsD z).toArray 36)) x.heap.size (J (O ⟨x.heap.size,0,U⟩) 1 1) [z]:=hl;exact Rg.dG rfl rfl (Rg.iY a.eval _ 25 1 #[(0,aj 69)] rfl (ps:=#[(0,nD z)]) (by simp [e69]) (by simp [go_sem])) (hK (J (O ⟨x.heap.size,0,U⟩) 1 1) (x.alloc (aI (cellsD z).toArray 36)) (dM hl hb.size) ((Y _ _).alloc hb.size _) fun j u _ _ _ _ _ h=>jW j u _ _ h ((Y _ _).alloc (aJ _) _))
  ·cases ho;have o68:nk x W.heap.size (a.eval (aj 68)) (lt):=seen.at_ ⟨5,.data⟩ (by simp) rfl (aR rfl);have o70:nk x W.heap.size (a.eval (aj 70)) ([z]):=seen.at_ ⟨7,.data⟩ (by simp) rfl (aR rfl);have ox:=Row.dJ o70;obtain⟨v',x',r,o',gr⟩:=gZ okD W.heap.size o68 ox (by have:=LT.out; omega) (by simp) hb.size 25;exact Rg.dG rfl rfl (Rg.gQ a.eval _ (aj 68) (aj 70) 25 rfl rfl rfl r) (hK v' x' o' ((Y _ x).grown gr hb.size fun j hj=>(o68.lt j hj).1) fun j u hj dj nl nx ni h=>by
    rcases (by omega:j=0\/j=1\/j=2\/j=3\/j=4\/j=5\/j=6\/j=7\/j=8\/j=9\/j=10\/j=11\/j=12\/j=13\/j=14) with rfl|rfl|rfl|rfl|rfl|rfl|rfl|rfl|rfl|rfl|rfl|rfl|rfl|rfl|rfl
    ·exact absurd rfl (fun _:(0:Nat)=0=>nl (hc 5 _ (hD ⟨5,.data⟩ (by simp) rfl) rfl ⟨0,.data⟩ (by simp) rfl |> fun _=>hD ⟨5,.data⟩ (by simp) rfl))
    ·exact h
    ·exact h
    ·exact h
    ·exact h
    ·exact absurd rfl (fun _:(0:Nat)=0=>nx rfl)
    ·exact h
    ·exact absurd rfl (fun _:(0:Nat)=0=>nx rfl)
    ·exact absurd rfl (fun _:(0:Nat)=0=>ni rfl)
    ·exact h
    ·exact h
    ·exact h
    ·exact h
    ·exact absurd rfl (fun _:(0:Nat)=0=>hnd (hc 13 _ dj rfl ⟨8,.data⟩ (by simp) rfl))
    ·exact h)
  ·cases ho;have e2:a.eval (aj 2)=ah (O ⟨b2,0,U⟩):=seen.kp 2 _ (nd 2 (by omega)) rfl;exact Rg.dG rfl rfl (Rg.dW a.eval _ 30 (aj 2) 2 rfl (by rw [e2]; simp [go_sem])) (hK _ _ rfl (Y _ _) fun _ _ _ _ _ _ _ h=>h)
  ·cases ho;have e72:a.eval (aj 72)=ah (O ⟨b2,2,U⟩):=seen.at_ ⟨9,.data⟩ (by simp) rfl (aK (by decide));have y:=(H2.out.on hb).cell 2;simp only [ak,aC,aD] at y;exact Rg.dG rfl rfl (Rg.dU a.eval _ 25 (aj 72) rfl (by rw [e72]; simp [go_sem,y])) (hK _ _ rfl (Y _ _) fun _ _ _ _ _ _ _ h=>h)
  ·cases ho;have e6:a.eval (aj 6)=aG aH (at_:Int):=seen.kp 6 _ (nd 6 (by omega)) rfl;exact Rg.dG rfl rfl (Rg.gD a.eval _ (aj 6) rfl x) (hK _ _ e6 (Y _ _) fun _ _ _ _ _ _ _ h=>h)
  ·cases ho;have e73:a.eval (aj 73)=J so sn sc:=seen.at_ ⟨10,.data⟩ (by simp) rfl (aK (by decide));have e74:a.eval (aj 74)=aG aH (at_:Int):=seen.at_ ⟨11,.data⟩ (by simp) rfl (aK (by decide));exact Rg.dG rfl rfl (Rg.lJ a.eval _ 25 (aj 73) (O (aj 74)) U U rfl (by show (Z 25 (a.eval (aj 73)) (O (a.eval (aj 74))) U U).run X x=.ok hiv x; rw [e73,e74]; exact SH.out x)) (hK _ _ rfl (Y _ _) fun _ _ _ _ _ _ _ h=>h)
  ·cases ho;have o71:nk x W.heap.size (a.eval (aj 71)) ((lt++[z])):=seen.at_ ⟨8,.data⟩ (by simp) rfl (aR rfl);have e75:a.eval (aj 75)=hiv:=seen.at_ ⟨12,.data⟩ (by simp) rfl (aK (by decide));have ox:xQ x (a.eval (aj 75)) ld:=by rw [e75]; exact RH.out.on hb
   obtain⟨v',x',r,o',gr⟩:=gZ okD W.heap.size o71 ox (by have:=Wz.out; rw [List.length_append,List.length_singleton]; omega) LD.out hb.size 25;exact Rg.dG rfl rfl (Rg.gQ a.eval _ (aj 71) (aj 75) 25 rfl rfl rfl r) (hK v' x' o' ((Y _ x).grown gr hb.size fun j hj=>(o71.lt j hj).1) fun j u hj dj nl nx ni h=>by
    rcases (by omega:j=0\/j=1\/j=2\/j=3\/j=4\/j=5\/j=6\/j=7\/j=8\/j=9\/j=10\/j=11\/j=12\/j=13\/j=14) with rfl|rfl|rfl|rfl|rfl|rfl|rfl|rfl|rfl|rfl|rfl|rfl|rfl|rfl|rfl
    ·exact absurd rfl (fun _:(0:Nat)=0=>nl (hc 8 _ (hD ⟨8,.data⟩ (by simp) rfl) rfl ⟨5,.data⟩ (by simp) rfl))
    ·exact h
    ·exact h
    ·exact h
    ·exact h
    ·exact absurd rfl (fun _:(0:Nat)=0=>nl (hD ⟨8,.data⟩ (by simp) rfl))
    ·exact h
    ·exact absurd rfl (fun _:(0:Nat)=0=>nl (hD ⟨8,.data⟩ (by simp) rfl))
    ·exact absurd rfl (fun _:(0:Nat)=0=>nx rfl)
    ·exact h
    ·exact h
    ·exact h
    ·exact h
    ·exact absurd rfl (fun _:(0:Nat)=0=>ni rfl)
    ·exact h)
  ·cases ho;have e2:a.eval (aj 2)=ah (O ⟨b2,0,U⟩):=seen.kp 2 _ (nd 2 (by omega)) rfl;exact Rg.dG rfl rfl (Rg.dW a.eval _ 30 (aj 2) 2 rfl (by rw [e2]; simp [go_sem])) (hK _ _ rfl (Y _ _) fun _ _ _ _ _ _ _ h=>h)
 ·intro a w' df sz kp ⟨vs,hv⟩ hb;have gr:a.tmps[76]?=O (vs 13):=(hv 13 (by omega)).1;have gp:a.tmps[77]?=O (ah (O ⟨b2,2,U⟩)):=by
   have h:vs 14=ah (O ⟨b2,2,U⟩):=(hv 14 (by omega)).2 (by decide);rw [<- h];exact (hv 14 (by omega)).1
  have oR:nk w' W.heap.size (vs 13) (lt++[z]++ld):=(hv 13 (by omega)).2 (by decide);generalize vs 13=xR at *;obtain⟨ca,cp,eR⟩:=(Row.dJ oR).len;have hbx:=H2.out.on hb;have hblt:=H2.out.lt;have c5:=hbx.cell 2;have f5:=hbx.fr 2;simp only [ak,aC,aD] at c5;have hb1:=eu (k:=2) hbx xR;show Rg.fZ _ _ _ 1 15 a w';simp only [Rg.fZ];refine Rg.gu 25 (aj 77) (aj 76) rfl rfl rfl rfl (Rg.dP gp) (Rg.dP gr) (w':=w'.setCell ⟨b2,2,U⟩ xR) (by rw [eR]; simp [go_sem,c5,f5]) ?_;have rJ:∀ j,(j<63\/78<=j)->a.tmps[j]?=(a0::a3::ah (O ⟨b2,0,U⟩)::ah (O ⟨b3,0,U⟩)::a4::a5::aG aH (at_:Int)::a6::a7::a8::aE::b9::bJ::bQ::c7::c8::c9::cA::cC::cD::cF::cG::cH::cI::cJ::cL::cM::cN::cP::cQ::cR::cS::cT::cU::cV::cW::cX::cY::d1::d3::d4::d5::d7::d9::dA::dC::dE::dS::dT::e7::e9::eA::eB::eC::eE::eI::eJ::eK::eL::eM::eN::eQ::eS::g6::g9::gE::gO::gR::gS::hC::hG::hH::hJ::hL::hM::hO::hS::hT::eV::[])[j]?:=fun j hj=>(kp j (nd j hj)).trans ak;obtain⟨mid,hmid,rfl⟩:=Rg.gM 63 15 df sz (by simp) rJ
  match mid,hmid with
  | [eW,f0,f7,f8,f9,fL,fN,fP,fR,fS,fW,fX,fY,T,g0],_ =>
   have e1:O T=O xR:=gr;obtain rfl:=aB e1;refine HQ.out _ eW f0 f7 f8 f9 fL fN fP fR fS fW fX fY T g0 ?_ ?_ ?_ ?_ ?_
   ·simpa using hb1
   ·exact eZ oR b2 2 _ hblt
   ·exact fun B hB=>(hb.mono (Nat.le_of_lt (Nat.lt_of_le_of_lt hB hblt))).setCell hB _
   ·intro c cs t hc hbc;exact (aL _ _ _ _ hc).trans (hbc.on hb)
   ·intro k hk hne;exact (aL _ _ _ _ hne).trans (hb.block k hk)
end Bk
namespace Rl
open Go.RowKit Pu Pr
def kJ:List Cn->List Cn->Option (List Cn)
 | m,[]=>O m
 | m,c::r=>match ng m c with
  | none=>U
  | some n=>kJ n r
theorem Gh:∀ (r m p:List Cn),iU m->kJ m r=O p->m.length<=p.length/\iU p
 | [],m,p,hm,h=>by
  obtain rfl:=aB h;exact⟨aJ _,hm⟩
 | c::r,m,p,hm,h=>by
  simp only [kJ] at h;cases hi:ng m c with
  | none=>rw [hi] at h; cases h
  | some n =>
   rw [hi] at h;have e1:=wX m c n hm hi;obtain⟨e2,e3⟩:=Gh r n p (kg m c n hm hi).1 h;exact⟨by omega,e3⟩
theorem Bf:∀ (r m p:List Cn) (at_:Nat),iU m->m.length<=5->(jT at_ m r=.ok p↔kJ m r=O p/\p.length<=5)
 | [],m,p,at_,_,h5=>by
  simp only [jT,kJ];constructor
  ·intro h;injection h with h
   subst h;exact⟨rfl,h5⟩
  ·rintro⟨h,_⟩;rw [aB h]
 | c::r,m,p,at_,hm,h5=>by
  simp only [jT,kJ];cases hi:ng m c with
  | none =>
   constructor
   ·intro h; cases h
   ·rintro⟨h,_⟩; cases h
  | some n =>
   simp only;have hn:=(kg m c n hm hi).1;by_cases h6:5<n.length
   ·rw [if_pos h6];constructor
    ·intro h; cases h
    ·rintro⟨h,h7⟩;have:=(Gh r n p hn h).1;omega
   ·rw [if_neg h6];exact Bf r n p (at_+1) hn (by omega)
theorem xV:∀ (a b m m':List Cn),kJ m a=O m'->kJ m (a++b)=kJ m' b
 | [],b,m,m',h=>by
  obtain rfl:=aB h
  rfl
 | c::r,b,m,m',h=>by
  simp only [List.cons_append,kJ] at h ⊢;cases hi:ng m c with
  | none=>rw [hi] at h; cases h
  | some n =>
   rw [hi] at h;exact xV r b n m' h
theorem Gi:∀ (p m:List Cn),iU (m++p)->kJ m p=O (m++p)
 | [],m,_=>by simp [kJ]
 | c::r,m,h=>by
  have h1:∀ x∈m,Op.bytesLess x.1.toList c.1.toList=true:=fun x hx=>(List.pairwise_append.1 h).2.2 x hx c (List.mem_cons_self ..);simp only [kJ];rw [IW m c h1];simp only;rw [Gi r (m++[c]) (by simpa using h)];simp
theorem WJ {a b:List Cn} (ha:iU a):kJ [] (a++b)=kJ a b:=xV a b [] a (by simpa using Gi a [] (by simpa using ha))
theorem WK {a b:List Cn} (ha:iU a) (h5:a.length<=5):pI a b=match kJ a b with
  | some p=>decide (p.length<=5)
  | none=>false:=by
 unfold pI;cases h:kJ a b with
 | none =>
  cases h2:jT a.length a b with
  | ok p =>
   have:=(Bf b a p a.length ha h5).1 h2;rw [h] at this;cases this.1
  | error e=>rfl
 | some p =>
  by_cases h6:p.length<=5
  ·rw [(Bf b a p a.length ha h5).2 ⟨h,h6⟩];simp [h6]
  ·cases h2:jT a.length a b with
   | ok q =>
    have h3:=(Bf b a q a.length ha h5).1 h2;rw [h] at h3;obtain rfl:=aB h3.1;exact absurd h3.2 h6
   | error e=>simp [h6]
end Rl
namespace Rl
open Go.RowKit Pu Rw Pr
def EA:Ek An:=⟨175,41,4,48,.agg #[.string ⟨#[]⟩,.bool false,aG aH 0,.string ⟨#[]⟩],At.av,At.ahB⟩
structure NL (l:List An):Prop where
 rise:l.Pairwise fun x y=>Op.bytesLess x.1.toList y.1.toList=true
 five:l.length<=5
 small:∀ x∈l,x.1.size<=100/\x.2.2.2.size<=100
end Rl
namespace Pr
open Go.RowKit Go.Sort Pu Rw
theorem abS {W:ay} {b:Nat} {c:C5} (h:dK W b (cells5 c).toArray 91):fI W (J (O ⟨b,0,U⟩) 1 1) [c] :=
 aK ⟨⟨b,0,U⟩,1,rfl,by simp,by decide,tu h (by simp [EC])⟩
def NQ (B:Nat) (l:List C5) (k:Nat) (c:C5) (W:ay) (e:Ending) (w':ay):Prop:=∃ v',e=.returned v'/\iJ w' B v' (l.take k++c::l.drop k)/\Below B W w'
theorem NS (B:Nat) (v:aF) (l:List C5) (c:C5) (b:Nat) (W:ay) (ho:iJ W B v l) (hx:dK W b (cells5 c).toArray 91) (hl:l.length<=100) (hB:B<=W.heap.size) :
  aT X 191 #[v,aG aH (l.length:Nat),J (O ⟨b,0,U⟩) 1 1] W (NQ B l l.length c W):=by
 obtain⟨v',w',hr,ho2,hg⟩:=EK B ho (abS hx) (by omega) (by simp) hB;have Q:=aA (show NQ B l l.length c W (.returned v') w' from ⟨v',rfl,by rw [List.take_of_length_le (aJ _),List.drop_of_length_le (aJ _)]; exact ho2,(Y B W).grown hg hB (fun j hj=>(ho.lt j hj).1)⟩);obtain⟨sx,hs,_⟩:=hiC (Row.dJ ho) l.length (aJ _);obtain⟨ao,ac,rfl⟩:=(Row.dJ ho).len;clear ho ho2 hg;generalize hn:l.length=n at *;clear hn;go_enter aO,aN;go_wp2_with (first | (at_builtin; refine wpList_append_run rfl _ _ 34 rfl rfl rfl hr ?_) | fail);go_ret;exact Q.out
theorem abT (w:ay) (g b k la lb cb:Nat) (cur cs:Array aF) (hb:dK w b cs 91) (hg:dK w g cur 91) (hne:b≠g) (h0:0<cur.size):(callFunc 198 #[J (O ⟨b,0,U⟩) la 1,J (O ⟨g,k,U⟩) lb cb]).run X w=.ok (.value (.bool false)) w:=by
 rw [run_callFunc_extern Tryz.func198 (by kernel_rfl) (by kernel_rfl) (by kernel_rfl) (e:=Extern.SlicesOverlaps.overlaps #[34,34] #[4]) (by kernel_rfl),
  Lib.run_overlaps_apart w 34 4 91 Tryz.underlying34 5 Tryz.sizeOf91 ⟨b,0,U⟩ ⟨g,k,U⟩ la 1 lb cb hne 91 91 cs.size cur.size hb.shape hg.shape (by omega) (hb.fr 0) (hb.fr _)]
 rfl
theorem I8 (B g n cap:Nat) (cur:Array aF) (l:List C5) (k:Nat) (c:C5) (b:Nat) (W:ay) (hn:n=l.length) (hBg:B<=g) (hg:dK W g cur 91) (hcm:cap<=maxLen) (hsz:cur.size=cap * 5) (ht:cur.toList.take (n * 5)=flat EC l) (hx:dK W b (cells5 c).toArray 91) (hne:b≠g) (hk:k<n) (hroom:n+1<=cap) (hl:n<=100) :
  aT X 191 #[J (O ⟨g,0,U⟩) n cap,aG aH k,J (O ⟨b,0,U⟩) 1 1] W (NQ B l k c W):=by
 obtain⟨R1,R2,r1,r2,ow⟩:=rW (E:=EC) (l:=l) (k:=k) (cap:=cap) (cur:=cur) (cs:=(cells5 c).toArray) (c:=c) wF (by omega) (by omega) hsz (by rw [<- hn]; exact ht) g b hne;have hov:=fun lb cb=>abT W g b ((k+1) * 5) 1 lb cb cur (cells5 c).toArray hx hg hne (by omega);have s0:=gY (E:=EC) wF g k n cap (by omega) (by omega);have s1:=jZ (E:=EC) wF ⟨g,0,U⟩ (n+1) n cap (by omega);have s2:=gY (E:=EC) wF g (k+1) (n+1) cap (by omega) (by omega);have s3:=gY (E:=EC) wF g k (n+1) cap (by omega) (by omega);have q1:=r1 W.drew 3 (n+1-(k+1)) (cap-(k+1)) (n+1-k) (cap-k) hg (by omega);have q2:=r2 (W.drew.setRow g R1) 3 (n+1-k) (cap-k) (dK.set (show dK W.drew g cur 91 from hg) R1) (dK.other (show dK W.drew b _ 91 from hx) hne R1) rfl (by omega);have Q:=aA (show NQ B l k c W (.returned (J (O ⟨g,0,U⟩) (n+1) cap)) ((W.drew.setRow g R1).setRow g R2) from ⟨_,rfl,by rw [hn]; exact ow _ B hBg hcm (dK.set (dK.set (show dK W.drew g cur 91 from hg) R1) R2),below_setRow (below_setRow (Y B W).drew hBg _) hBg _⟩);clear r1 r2 ow hg ht hx hsz hBg hcm;change ∀ w,(Z 34 (J (O ⟨g,0,U⟩) n cap) (O (aG aH k)) U U).run X w=.ok (J (O ⟨g,k * 5,U⟩) (n-k) (cap-k)) w at s0;change ∀ w,(Z 34 (J (O ⟨g,0,U⟩) n cap) U (O (aG aH ((n:Int)+1))) U).run X w=.ok (J (O ⟨g,0,U⟩) (n+1) cap) w at s1;change ∀ w,(Z 34 (J (O ⟨g,0,U⟩) (n+1) cap) (O (aG aH ((k:Int)+1))) U U).run X w=.ok (J (O ⟨g,(k+1) * 5,U⟩) (n+1-(k+1)) (cap-(k+1))) w at s2;change ∀ w,(Z 34 (J (O ⟨g,0,U⟩) (n+1) cap) (O (aG aH k)) U U).run X w=.ok (J (O ⟨g,k * 5,U⟩) (n+1-k) (cap-k)) w at s3;have e1:((k:Int) == (n:Int))=false:=by rw [beq_eq_false_iff_ne]; omega
 have e2:decide ((cap:Int)<(n:Int)+1)=false:=by simp; omega
 change (aM #[34,34] 3 #[J (O ⟨g,(k+1) * 5,U⟩) (n+1-(k+1)) (cap-(k+1)),J (O ⟨g,k * 5,U⟩) (n+1-k) (cap-k)]).run X W.drew=.ok (aG aH ((l.length-k:Nat):Int)) (W.drew.setRow g R1) at q1;change (aM #[34,34] 3 #[J (O ⟨g,k * 5,U⟩) (n+1-k) (cap-k),J (O ⟨b,0,U⟩) 1 1]).run X (W.drew.setRow g R1)=.ok (aG aH 1) ((W.drew.setRow g R1).setRow g R2) at q2;clear hn;go_enter aO,aN;go_wp2_with (first | (simp only [hov]) | fail);clear hov s0 s1 s2 s3;have hw1:IntKind.i64.wrap ((k:Int)+1)=(k:Int)+1:=by rw [aQ]; omega
 have hb1:(0:Int)<=(k:Int)+1:=by omega
 have hb0:(k:Int)+1<=(n:Int)+1:=by omega
 have htn:((k:Int)+1).toNat=k+1:=by omega
 have hb2:¬ (cap=k+1):=by omega
 have hb3:(k:Int)<=(n:Int)+1:=by omega
 have hb4:¬ (cap=k):=by omega
 have h81:n+1-(k+1)=n-k:=by omega
 rw [h81] at q1;clear h81
 go_region_law (refine iP rfl (aj 73) (aj 76) 34 rfl (v:=J (O ⟨g,(k+1) * 5,U⟩) (n-k) (cap-(k+1))) (xv:=J (O ⟨g,k * 5,U⟩) (n+1-k) (cap-k)) (by simp [Act.eval,Act.put]) (by simp [Act.eval,Act.put]) q1 ?_)
 all_goals simp only [Exit.then]
 all_goals apply_assumption
 clear q1 hw1 hb1 hb0 htn hb2 hb3 hb4;have s3:=gY (E:=EC) wF g k (n+1) cap (by omega) (by omega);change ∀ w,(Z 34 (J (O ⟨g,0,U⟩) (n+1) cap) (O (aG aH k)) U U).run X w=.ok (J (O ⟨g,k * 5,U⟩) (n+1-k) (cap-k)) w at s3;go_wp2_with (first | (at_builtin; refine wpList_copy_run rfl _ _ 34 rfl rfl rfl q2 ?_) | fail);go_ret;exact Q.out
theorem J7 (B g n cap:Nat) (cur:Array aF) (l:List C5) (k:Nat) (c:C5) (b:Nat) (W:ay) (hn:n=l.length) (hg:dK W g cur 91) (hcm:cap<=maxLen) (hnc:n<=cap) (ht:cur.toList.take (n * 5)=flat EC l) (hx:dK W b (cells5 c).toArray 91) (hk:k<n) (hroom:cap<n+1) (hl:n<=100) (hB:B<=W.heap.size) :
  aT X 191 #[J (O ⟨g,0,U⟩) n cap,aG aH k,J (O ⟨b,0,U⟩) 1 1] W (NQ B l k c W):=by
 have hgw:=hg.lt;have hbw:=hx.lt;obtain⟨G,R1,R2,R3,hG1,hG2,r1,r2,r3,ow⟩:=uS (E:=EC) (l:=l) (k:=k) (cap:=cap) (cur:=cur) (cs:=(cells5 c).toArray) (c:=c) wF 3 Tryz.underlying3 (by omega) (by omega) (by omega) (by omega) (by rw [<- hn]; exact ht) W g b hg hbw;unfold maxLen at hcm hG2;have s0:=gY (E:=EC) wF g k n cap (by omega) (by omega);have s1:=jZ (E:=EC) wF ⟨g,0,U⟩ k n cap (by omega);have s2:=gY (E:=EC) wF W.heap.size k (n+1) G (by omega) (by omega);have s3:=gY (E:=EC) wF W.heap.size (k+1) (n+1) G (by omega) (by omega);have a1:=r1 34;have n1:=dQ W.drew R1 91;have bl:W.drew.heap.size=W.heap.size:=rfl;rw [bl] at n1;have g1:dK (W.drew.alloc (aI R1 91)) g cur 91:=dK.more (show dK W.drew g cur 91 from hg) _;have x1:dK (W.drew.alloc (aI R1 91)) b (cells5 c).toArray 91:=dK.more (show dK W.drew b _ 91 from hx) _;have q2:=r2 (W.drew.alloc (aI R1 91)) 3 (n+1-k) (G-k) n1 x1 rfl (by omega);have q3:=r3 ((W.drew.alloc (aI R1 91)).setRow W.heap.size R2).drew 3 (n+1-(k+1)) (G-(k+1)) (n-k) (cap-k) (dK.set n1 R2) (dK.other g1 (by omega) R2) (by omega);have Q:=aA (show NQ B l k c W (.returned (J (O ⟨W.heap.size,0,U⟩) (n+1) G)) (((W.drew.alloc (aI R1 91)).setRow W.heap.size R2).drew.setRow W.heap.size R3) from ⟨_,rfl,by rw [hn]; exact ow _ B hB (dK.set (dK.set n1 R2) R3),below_setRow (below_setRow ((Y B W).drew.alloc hB _) hB _).drew hB _⟩);have l1:l.length+1=n+1:=by rw [hn]
 rw [l1,<- hn] at a1;clear r1 r2 r3 ow hg ht hx g1 x1 n1 bl l1;change ∀ w,(Z 34 (J (O ⟨g,0,U⟩) n cap) (O (aG aH k)) U U).run X w=.ok (J (O ⟨g,k * 5,U⟩) (n-k) (cap-k)) w at s0;change ∀ w,(Z 34 (J (O ⟨g,0,U⟩) n cap) U (O (aG aH k)) U).run X w=.ok (J (O ⟨g,0,U⟩) k cap) w at s1;change ∀ w,(Z 34 (J (O ⟨W.heap.size,0,U⟩) (n+1) G) (O (aG aH k)) U U).run X w=.ok (J (O ⟨W.heap.size,k * 5,U⟩) (n+1-k) (G-k)) w at s2;change ∀ w,(Z 34 (J (O ⟨W.heap.size,0,U⟩) (n+1) G) (O (aG aH ((k:Int)+1))) U U).run X w=.ok (J (O ⟨W.heap.size,(k+1) * 5,U⟩) (n+1-(k+1)) (G-(k+1))) w at s3;change (Builtin.append_ #[34,3] 34 #[J (O ⟨g,0,U⟩) k cap,aG aH ((n:Int)+1-k)]).run X W=.ok (J (O ⟨W.heap.size,0,U⟩) (n+1) G) (W.drew.alloc (aI R1 91)) at a1;change (aM #[34,34] 3 #[J (O ⟨W.heap.size,k * 5,U⟩) (n+1-k) (G-k),J (O ⟨b,0,U⟩) 1 1]).run X (W.drew.alloc (aI R1 91))=.ok (aG aH 1) ((W.drew.alloc (aI R1 91)).setRow W.heap.size R2) at q2;change (aM #[34,34] 3 #[J (O ⟨W.heap.size,(k+1) * 5,U⟩) (n+1-(k+1)) (G-(k+1)),J (O ⟨g,k * 5,U⟩) (n-k) (cap-k)]).run X ((W.drew.alloc (aI R1 91)).setRow W.heap.size R2).drew=.ok (aG aH ((l.length-k:Nat):Int)) (((W.drew.alloc (aI R1 91)).setRow W.heap.size R2).drew.setRow W.heap.size R3) at q3;have e1:((k:Int) == (n:Int))=false:=by rw [beq_eq_false_iff_ne]; omega
 have e2:decide ((cap:Int)<(n:Int)+1)=true:=by simp; omega
 have hGn:n+1<=G:=by omega
 clear hn;generalize W.heap.size=N at *;generalize W.drew.alloc (aI R1 91)=W1 at *;generalize W1.setRow N R2=W2 at *;go_enter aO,aN;go_wp2_with (first | (at_builtin; refine jf rfl _ _ 34 3 rfl rfl rfl a1 ?_) | (at_builtin; refine wpList_copy_run rfl _ _ 34 rfl rfl rfl q2 ?_) | fail);clear a1 q2 s0 s1 s2 s3;have hw1:IntKind.i64.wrap ((k:Int)+1)=(k:Int)+1:=by rw [aQ]; omega
 have hb1:(0:Int)<=(k:Int)+1:=by omega
 have hb0:(k:Int)+1<=(n:Int)+1:=by omega
 have htn:((k:Int)+1).toNat=k+1:=by omega
 have hb2:¬ (G=k+1):=by omega
 have hb3:(k:Int)<=(n:Int):=by omega
 have hb4:¬ (cap=k):=by omega
 have h81:n+1-(k+1)=n-k:=by omega
 rw [h81] at q3;clear h81
 go_region_law (refine iP rfl (aj 50) (aj 53) 34 rfl (v:=J (O ⟨N,(k+1) * 5,U⟩) (n-k) (G-(k+1))) (xv:=J (O ⟨g,k * 5,U⟩) (n-k) (cap-k)) (by simp [Act.eval,Act.put]) (by simp [Act.eval,Act.put]) q3 ?_)
 all_goals simp only [Exit.then]
 all_goals apply_assumption
 go_wp2;go_ret;exact Q.out
theorem NU (B:Nat) (v:aF) (l:List C5) (k:Nat) (c:C5) (b:Nat) (W:ay) (ho:iJ W B v l) (hx:dK W b (cells5 c).toArray 91) (hne:v.ownBlock≠O b) (hk:k<=l.length) (hl:l.length<=100) (hB:B<=W.heap.size) :
  aT X 191 #[v,aG aH k,J (O ⟨b,0,U⟩) 1 1] W (NQ B l k c W):=by
 rcases aS k l.length with h|h
 ·rcases gB ho with⟨_,h2⟩|⟨g,cap,cur,rfl,h1,h2,h3,h4,h5,h6⟩
  ·rw [h2] at h; simp at h
  ·rcases aS cap (l.length+1) with h7|h7
   ·exact J7 B g _ cap cur l k c b W rfl h2 h4 h3 h6 hx h h7 hl hB
   ·exact I8 B g _ cap cur l k c b W rfl h1 h2 h4 h5 h6 hx (fun e=>hne (by simp [Value.ownBlock,e])) h h7 hl
 ·obtain rfl:k=l.length:=by omega
  exact NS B v l c b W ho hx hl hB
end Pr
namespace Rg
open Go.RowKit
structure adE (i N:Nat) (dst:Nat->Option Nat) (last:Nat->Nat) (V:Nat->aF->ay->Prop) (base:aU) (o:Oper) (a:aU) (w:ay):Prop where
 kp:∀ j u,(∀ k,k<N->dst k≠O j)->base.tmps[j]?=O u->a.eval (aj j)=u
 at_:∀ e∈o.after,au .any e=true->(last e.on=i\/N<=last e.on)->∀ d,dst e.on=O d->V e.on (a.eval (aj d)) w
 st:∀ e∈o.after,au .any e=true->(last e.on=i\/N<=last e.on)->∃ v,V e.on v w
theorem Gj (a:aU) (d:Option Nat) (v:aF) (j:Nat) (hj:d≠O j):(a.put d v).tmps[j]?=a.tmps[j]?:=by
 cases d with
 | none=>rfl
 | some d=>exact get_put _ _ _ _ (fun e=>hj (by rw [e]))
theorem WM (a:aU) (d:Option Nat) (v:aF):(a.put d v).tmps.size=a.tmps.size:=by
 cases d with
 | none=>rfl
 | some d=>exact size_put _ _ _
theorem put_defers (a:aU) (d:Option Nat) (v:aF):(a.put d v).defers=a.defers:=by
 cases d <;> rfl
structure PhD (l:List Oper) (N:Nat) (dst:Nat->Option Nat) (last:Nat->Nat) (V:Nat->aF->ay->Prop) (F:(Nat->Prop)->ay->Prop) (base:aU) (L:Array Bool) (a:aU) (x:ay):Prop where
 cl:∀ i o,done L i->l[i]?=O o->∀ e∈o.after,au .any e=true->done L e.on
 df:a.defers=base.defers
 sz:a.tmps.size=base.tmps.size
 kp:∀ j,(∀ i,i<N->dst i≠O j)->a.tmps[j]?=base.tmps[j]?
 fr:F (done L) x
 no:∀ i,N<=i->¬ done L i
 val:∃ vs:Nat->aF,∀ i,i<N->done L i->(∀ d,dst i=O d->a.tmps[d]?=O (vs i))/\(¬ done L (last i)->V i (vs i) x)
theorem oJ {P:Program} {Q:Exit->aU->ay->Prop} {id:Nat} {base:aU} {w:ay} {l:List Oper} (N:Nat) (dst:Nat->Option Nat) (last:Nat->Nat) (V:Nat->aF->ay->Prop) (F:(Nat->Prop)->ay->Prop)
  (hm:P.follows .mixedOrders=true) (hf:JO l.toArray=true) (hN:l.length=N) (hinj:∀ i j d,i<N->j<N->dst i=O d->dst j=O d->i=j) (hs:∀ i d,i<N->dst i=O d->d<base.tmps.size) (h0:F (fun _=>False) w.drew)
  (hop:∀ i o,i<N->l[i]?=O o->∀ a w' (D:Nat->Prop),¬ D i->(∀ j oj,D j->l[j]?=O oj->∀ e∈oj.after,au .any e=true->D e.on)->(∀ e∈o.after,au .any e=true->D e.on)->F D w'->adE i N dst last V base o a w'->∀ K:aU->ay->Prop,(∀ v w'',V i v w''->F (fun j=>j=i\/D j) w''->(∀ j u,j<N->D j->¬ D (last j)->last j≠i->j≠i->V j u w'->V j u w'')->K (a.put (dst i) v) w'')->wpOp P l.toArray Q i K a w')
  (hend:∀ a w',a.defers=base.defers->a.tmps.size=base.tmps.size->(∀ j,(∀ i,i<N->dst i≠O j)->a.tmps[j]?=base.tmps[j]?)->(∃ vs:Nat->aF,∀ i,i<N->(∀ d,dst i=O d->a.tmps[d]?=O (vs i))/\(N<=last i->V i (vs i) w'))->(∃ D:Nat->Prop,(∀ i,i<N->D i)/\F D w')->Q .normal a w'):(Code.region id l.toArray true).wp P Q base w:=by
 refine nU (fun L a x=>PhD l N dst last V F base L a x) hm hf ?_ ?_ ?_
 ·exact⟨fun i o h=>absurd h (gF _ _),rfl,rfl,fun _ _=>rfl,by rw [show done (Array.replicate l.length false)=fun _=>False from funext fun i=>propext ⟨fun h=>gF _ _ h,False.elim⟩]; exact h0,fun i _=>gF _ _,fun _=>.bool true,fun i _ h=>absurd h (gF _ _)⟩
 ·intro L a x i o hsz I ho hnd mP;have hi:i<l.length:=(List.getElem?_eq_some_iff.1 ho).1;have yY:i<L.size:=by omega
  have hiM:i<N:=by omega
  obtain⟨vs,q1⟩:=I.val;have hon:∀ e∈o.after,au .any e=true->e.on<N:=fun e he hb=>by
   have h7:=List.all_eq_true.1 hf i (List.mem_range.2 (by simpa using hi));have ho':(l.toArray)[i]?=O o:=by simpa using ho
   rw [ho'] at h7;have h8:=Array.all_eq_true'.1 h7 e he;rw [hb] at h8;have:e.on<i:=by simpa using h8
   omega
  have lv:∀ e∈o.after,au .any e=true->(last e.on=i\/N<=last e.on)->V e.on (vs e.on) x:=fun e he hbd hl=>by
   refine (q1 e.on (hon e he hbd) (mP e he hbd)).2 ?_;rcases hl with hl|hl
   ·rw [hl]; exact hnd
   ·exact I.no _ hl
  have seen:adE i N dst last V base o a x:=⟨fun j u hj hu=>dP (by rw [I.kp j hj]; exact hu),fun e he hbd hl d hd=>by
   rw [dP ((q1 e.on (hon e he hbd) (mP e he hbd)).1 d hd)];exact lv e he hbd hl,fun e he hbd hl=>⟨_,lv e he hbd hl⟩⟩
  refine hop i o hiM ho a x (done L) hnd I.cl mP I.fr seen _ fun v w'' hvw hfw hpr=>?_;refine⟨fun k q hk hq e he hb=>?_,by rw [put_defers]; exact I.df,by rw [WM]; exact I.sz,fun j hj=>?_,by rw [show done (L.setIfInBounds i true)=fun j=>j=i\/done L j from funext fun j=>propext (iw yY j)]; exact hfw,fun k hk hd=>?_,fun k=>if k=i then v else vs k,fun k hkM hk=>?_⟩
  ·rw [iw yY] at hk ⊢;rcases hk with rfl|hk
   ·rw [hq] at ho;cases ho;exact aK (mP e he hb)
   ·exact aK (I.cl k q hk hq e he hb)
  ·rw [Gj _ _ _ _ (hj i hiM)];exact I.kp j hj
  ·rcases (iw yY k).1 hd with h9|h9
   ·omega
   ·exact I.no k hk h9
  ·by_cases e:k=i
   ·subst e;simp only [if_true];refine⟨fun d hd=>?_,fun _=>hvw⟩;have h9:d<a.tmps.size:=by rw [I.sz]; exact hs k d hkM hd
    rw [hd];simp [Act.put,h9]
   ·simp only [if_neg e];rcases (iw yY k).1 hk with h9|h9
    ·exact absurd h9 e
    ·obtain⟨p1,p2⟩:=q1 k hkM h9;refine⟨fun d hd=>?_,fun hn=>?_⟩
     ·rw [Gj _ _ _ _ (fun h=>e (hinj k i d hkM hiM hd h))];exact p1 d hd
     ·have n1:last k≠i:=fun e3=>hn ((iw yY _).2 (aR e3));have n2:¬ done L (last k):=fun e3=>hn ((iw yY _).2 (aK e3));exact hpr k _ hkM h9 n2 n1 e (p2 n2)
 ·intro L a x I hd;obtain⟨vs,q1⟩:=I.val;exact hend a x I.df I.sz I.kp ⟨vs,fun k hk=>⟨(q1 k hk (hd k (by omega))).1,fun hl=>(q1 k hk (hd k (by omega))).2 (I.no _ hl)⟩⟩ ⟨done L,fun i hi=>hd i (by omega),I.fr⟩
end Rg
end Go.Proofs.YtghlpefopidlaaaGreat
