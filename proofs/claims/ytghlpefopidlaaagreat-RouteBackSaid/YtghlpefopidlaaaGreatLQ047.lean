/-
  Advertise of package. Conditions as told.
-/
import Derived.Test.YtghlpefopidlaaaGreatLQ046
set_option maxRecDepth 100000
set_option maxHeartbeats 64000000
open _root_.Go renaming Addr->aj,World->aA,Value->aB
open Go.Lib renaming hid->V
open Go.Operand renaming tmp->Y
open Go.RowKit.Below renaming refl->X
open Go.Value renaming slice->L,pointer->O,int->au,agg->aC,bool->aD
open _root_.List renaming getElem?_toArray->ah
open _root_.Nat renaming le_trans->ak,le_refl->ay
open _root_.Option renaming none->U,some->Z
open Option.some renaming inj->J
namespace Go.Proofs.YtghlpefopidlaaaGreat
namespace Fl
open Go.RowKit Go.Sort Rw YtghlpefopidlaaaGreat.Nm Pr Bk Av Rl Sb
structure ali (b:Br) (f:Int) (p:List C5):Prop where
 few:Gl b
 wH:rO b
 ok:iC b
 ls:b.seen.length<=899
 la:b.dO.length<=899
 lo:b.ent.length+b.own.length<=900
 pe:∀ e∈b.ent,dR e.p
 po:∀ o∈b.own,dR o.p
 pp:dR p
 co:lT b.near f=true
 rp:Wr.iW p=true
structure Cut (b c:Br) (t:eU) (f:Int):Prop where
 dO:ali c f []
 none_:gJ c.dO t=U
 un:Dz c f t=(c,[])
 anew:mI c f t []=(c,[])
 len:c.dO.length+1=b.dO.length
 br:qN c.ent t=[]
 seen:t∈c.seen
 mem:∀ e∈b.ent,e.tree≠t->e∈c.ent
structure alj (b:Br):Prop where
 few:Gl b
 wH:rO b
 ok:iC b
 pe:∀ e∈b.ent,dR e.p
end Fl
namespace Rt
open Go.RowKit Go.Sort Rw YtghlpefopidlaaaGreat.Nm Pr Bk Av Rl Sb Fl
structure Kept (b:Br) (c:Br):Prop where
 me:c.me=b.me
 near:c.near=b.near
 dO:c.dO=b.dO
 seen:c.seen=b.seen
theorem Iw (b:Br) (x:eU) (p:List C5):Kept b (fF b x p).1:=by
 unfold fF
 split
 ·exact⟨rfl,rfl,rfl,rfl⟩
 ·obtain⟨h1,_,_⟩:=kW (b0:=ownIn b x p) (o0:=[]) (fun a=>fU p a.p) (fun a=>jm x p a) (fun a=>a.par) (fun _=>True) (fun _ _=>trivial) (fun _ _ _=>trivial) b.dO.length (ay _);exact⟨h1.me,h1.near,h1.dO,h1.seen⟩
structure adi (R:eU->List C5->Prop) (s:Br×List Ou):Prop where
 ent:∀ e∈s.1.ent,R e.sub e.p
 out:∀ o∈s.2,R o.id o.p
theorem aaM {b:Br} {R:eU->List C5->Prop} (h:∀ e∈b.ent,R e.sub e.p) (e:En) (he:R e.sub e.p):∀ z∈(iB b e).1.ent,R z.sub z.p:=Dv (fun z=>R z.sub z.p) h fun _=>he
theorem VD {b:Br} {R:eU->List C5->Prop} (h:∀ e∈b.ent,R e.sub e.p) (x:eU) (p:List C5) (hx:R x p):adi R (fF b x p):=by
 have key:∀ k,k<=b.dO.length->adi R (eT b.dO (iA x p) (ownIn b x p,[]) k):=by
  intro k
  induction k with
  | zero=>exact fun _=>⟨h,fun o ho=>by simp [eT] at ho⟩
  | succ k ih =>
   intro hk;obtain⟨a,ha⟩:∃ a,b.dO[k]?=Z a:=⟨_,List.getElem?_eq_getElem hk⟩;rw [lW _ _ ha];have hi:=ih (by omega);generalize eT b.dO (iA x p) (ownIn b x p,[]) k=s at *;show adi R (gW _ _ _ _);unfold gW
   split
   ·exact hi
   ·refine⟨aaM hi.ent _ hx,?_⟩;dsimp only
    split
    ·intro o ho;rcases List.mem_append.1 ho with ho|ho
     ·exact hi.out o ho
     ·rw [List.mem_singleton.1 ho];exact hx
    ·exact hi.out
 unfold fF
 split
 ·exact⟨h,fun o ho=>by simp at ho⟩
 ·exact key _ (ay _)
structure After (b:Br) (s:Br×List Ou):Prop where
 nice:alj s.1
 tight:ig s.1
 out:s.2.length<=1000000/\∀ o∈s.2,o.p.length<=1000
 me:s.1.me=b.me
theorem aaN {b:Br} {s:Br×List Ou} {n m:Nat} (hk:Kept b s.1) (hl:Lens b s n m) (hf:Gl b) (hfp:rO b) (he:b.ent.length+n<=900) (ho:b.own.length<=899) (hm:m<=1000000) (hr:adi (fun _ p=>dR p) s) (hw:∀ o∈s.1.own,o.p.length<=900) (hok:iC s.1) (ht:ig s.1):After b s :=
 ⟨⟨⟨by rw [hk.near]; exact hf.near,by rw [hk.dO]; exact hf.dO,by rw [hk.seen]; exact hf.seen,ak hl.ent he,ak hl.own (by omega)⟩,⟨by rw [hk.dO]; exact hfp.dO,fun e q=>iD (hr.ent e q),hw⟩,hok,hr.ent⟩,ht,⟨ak hl.out hm,fun o q=>ak (Go.Proofs.YtghlpefopidlaaaGreat.Sb.iD (hr.out o q)) (by decide)⟩,hk.me⟩
theorem adj:dR []:=⟨[],⟨List.Pairwise.nil,by simp,by simp,by simp⟩,rfl⟩
theorem aaO {b:Br} {x:eU} {p:List C5}:∀ o∈(fF b x p).1.own,o=⟨x,p⟩\/o∈b.own:=by
 unfold fF
 split
 ·exact fun o ho=>Or.inr ho
 ·obtain⟨h1,_,_⟩:=kW (b0:=ownIn b x p) (o0:=[]) (fun a=>fU p a.p) (fun a=>jm x p a) (fun a=>a.par) (fun _=>True) (fun _ _=>trivial) (fun _ _ _=>trivial) b.dO.length (ay _);rw [h1.own];exact fun o ho=>(jM _ _ _ _).1 ho
structure RtN (b:Br):Prop where
 rt:Fw b
 lo:b.own.length<=899
 le:b.ent.length<=899
 tight:ig b
theorem Es {b:Br} (h:RtN b) (x:eU) {p:List C5} (pp:dR p) (rq:Wr.iW p=true):After b (fF b x p) :=
 aaN (Iw b x p) (Mw b x p) h.rt.few h.rt.wH h.rt.lo h.lo (ak h.rt.few.dO (by decide)) (VD h.rt.pe x p pp) (fun o ho=>by
  rcases aaO o ho with rfl|ho
  ·exact iD pp
  ·exact h.rt.wH.own o ho) (Rm h.rt.ok x p rq) (D5 h.rt.ok h.tight x p rq)
theorem KI.rtN {b:Br} (h:KI 12 b) (ht:ig b):RtN b:=⟨Go.Proofs.YtghlpefopidlaaaGreat.Rt.KI.aow h,by have:=h.lo; omega,by have:=h.le; omega,ht⟩
def aoG (_B:Nat) (_bB _bT _bP:Nat) (b:Br) (s1:Option aj) (s2 s3:Nat) (s4:Option aj) (s5 s6:Nat) (s7:Option aj) (s8 s9:Nat) (s10:Option aj) (s11 s12:Nat) (s13:Option aj) (s14 s15:Nat) (h1:Option aj) (h2 h3:Nat) (g1:Option aj) (g2 g3:Nat) (has vals:List Int) (i:Nat) (v:aB) (x:aA):Prop :=
 match i with
 | 0=>v=mG b.me (s1,s2,s3) (s4,s5,s6) (s7,s8,s9) (s10,s11,s12) (s13,s14,s15)
 | 1=>v=aC #[au .i64 15,au .i64 3]
 | 2=>v=aC #[L h1 h2 h3,L g1 g2 g3]
 | 3=>∃ sl:Sl,v=dX sl/\fI x v ((jw has vals 7).map r5)
 | 4=>∃ nv av sv ev ov s:Sl,v=.tuple #[mG (fF b (15,3) ((jw has vals 7).map r5)).1.me nv av sv ev ov,dX s]/\qY x (fF b (15,3) ((jw has vals 7).map r5)).1 nv av sv ev ov/\kG x s (fF b (15,3) ((jw has vals 7).map r5)).2
 | 5=>∃ nv av sv ev ov s:Sl,v=.tuple #[mG (fF b (15,3) ((jw has vals 7).map r5)).1.me nv av sv ev ov,dX s]/\qY x (fF b (15,3) ((jw has vals 7).map r5)).1 nv av sv ev ov/\kG x s (fF b (15,3) ((jw has vals 7).map r5)).2
 | 6=>∃ nv av sv ev ov:Sl,v=mG (fF b (15,3) ((jw has vals 7).map r5)).1.me nv av sv ev ov/\qY x (fF b (15,3) ((jw has vals 7).map r5)).1 nv av sv ev ov
 | 7=>∃ s:Sl,v=dX s/\kG x s (fF b (15,3) ((jw has vals 7).map r5)).2
 | 8=>True
 | 9=>True
 | 10=>∃ s:Sl,v=dX s/\kG x s (fF b (15,3) ((jw has vals 7).map r5)).2
 | _=>True
noncomputable def alm:Code:=((Tryz.f6.body.bind (eO 3)).getD .skip)
theorem rb3 (Q:Exit->Act->aA->Prop) (W:aA) (bB bT bP:Nat) (b:Br) (s1:Option aj) (s2 s3:Nat) (s4:Option aj) (s5 s6:Nat) (s7:Option aj) (s8 s9:Nat) (s10:Option aj) (s11 s12:Nat) (s13:Option aj) (s14 s15:Nat) (h1:Option aj) (h2 h3:Nat) (g1:Option aj) (g2 g3:Nat) (has vals:List Int) (cL cM cN cP oA oE T a0 a7 a8 aE b9 bJ bQ c7 c8 c9 cA cC cD cF cG cH cI cJ oM oT oX oY p0 p6 p7 p9 cQ cR cS cT cU cV cW cX cY d1 d3 d4 d5 d7 d9 dA dC dE dS dT e7 e9 eA eB eC eE eI eJ eK eL eM eN eQ eS eV eW f0 f7 f8 f9 fL fN fP fR fS fW fX fY g0 g6 g9 gE gO gR gS hG hH hJ hL hM hO hS hT hU hW hX hY hZ i0 i3 i4 i5 i6 i7 i8 i9 iF iS j0 j2 j3 j4 j5 j6 j7 j8 j9 jV k6 k7 k8 k9 kA kB kO kX l0 lA lB lD lE lF lL lO lP lR lX m0 mA mB mC mD mJ mL mN mP mS mT mY n0 nA nB nF nJ nL nP nQ nS nV nW o6 o9:aB)
  (hx:dK W bB #[au .i64 b.me,L s1 s2 s3,L s4 s5 s6,L s7 s8 s9,L s10 s11 s12,L s13 s14 s15] 30) (bn:qY W b (s1,s2,s3) (s4,s5,s6) (s7,s8,s9) (s10,s11,s12) (s13,s14,s15)) (rn:RtN b) (pp:dR ((jw has vals 7).map r5)) (rq:Wr.iW ((jw has vals 7).map r5)=true) (xt:dK W bT #[au .i64 15,au .i64 3] 23) (xp:dK W bP #[L h1 h2 h3,L g1 g2 g3] 52) (ih:In.kQ W (L h1 h2 h3) has) (iv:In.kQ W (L g1 g2 g3) vals) (lh:has.length<=maxLen) (lv:vals.length<=maxLen)
  (hQ:∀ (x:aA) (bb:Nat) (pA pB pC pD pE pF pH pJ:aB) (m1:Option aj) (m2 m3:Nat) (m4:Option aj) (m5 m6:Nat) (m7:Option aj) (m8 m9:Nat) (m10:Option aj) (m11 m12:Nat) (m13:Option aj) (m14 m15:Nat) (o1:Option aj) (o2 o3:Nat),W.heap.size<=bb->dK x bb #[au .i64 (fF b (15,3) ((jw has vals 7).map r5)).1.me,L m1 m2 m3,L m4 m5 m6,L m7 m8 m9,L m10 m11 m12,L m13 m14 m15] 30->qY x (fF b (15,3) ((jw has vals 7).map r5)).1 (m1,m2,m3) (m4,m5,m6) (m7,m8,m9) (m10,m11,m12) (m13,m14,m15)->kG x (o1,o2,o3) (fF b (15,3) ((jw has vals 7).map r5)).2->Below W.heap.size W x->Q .normal ⟨(cL::cM::cN::O (Z ⟨bP,0,U⟩)::cP::O (Z ⟨bB,0,U⟩)::O (Z ⟨bT,0,U⟩)::O (Z ⟨bb,0,U⟩)::dX (o1,o2,o3)::T::a0::a7::a8::aE::b9::bJ::bQ::c7::c8::c9::cA::cC::cD::cF::cG::cH::cI::cJ::pA::pB::pC::pD::pE::pF::pH::pJ::cQ::cR::cS::cT::cU::cV::cW::cX::cY::d1::d3::d4::d5::d7::d9::dA::dC::dE::dS::dT::e7::e9::eA::eB::eC::eE::eI::eJ::eK::eL::eM::eN::eQ::eS::eV::eW::f0::f7::f8::f9::fL::fN::fP::fR::fS::fW::fX::fY::g0::g6::g9::gE::gO::gR::gS::hG::hH::hJ::hL::hM::hO::hS::hT::hU::hW::hX::hY::hZ::i0::i3::i4::i5::i6::i7::i8::i9::iF::iS::j0::j2::j3::j4::j5::j6::j7::j8::j9::jV::k6::k7::k8::k9::kA::kB::kO::kX::l0::lA::lB::lD::lE::lF::lL::lO::lP::lR::lX::m0::mA::mB::mC::mD::mJ::mL::mN::mP::mS::mT::mY::n0::nA::nB::nF::nJ::nL::nP::nQ::nS::nV::nW::o6::o9::[]).toArray,[]⟩ x) :
  Code.wp Tryz.prog alm Q ⟨(cL::cM::cN::O (Z ⟨bP,0,U⟩)::cP::O (Z ⟨bB,0,U⟩)::O (Z ⟨bT,0,U⟩)::oA::oE::T::a0::a7::a8::aE::b9::bJ::bQ::c7::c8::c9::cA::cC::cD::cF::cG::cH::cI::cJ::oM::oT::oX::oY::p0::p6::p7::p9::cQ::cR::cS::cT::cU::cV::cW::cX::cY::d1::d3::d4::d5::d7::d9::dA::dC::dE::dS::dT::e7::e9::eA::eB::eC::eE::eI::eJ::eK::eL::eM::eN::eQ::eS::eV::eW::f0::f7::f8::f9::fL::fN::fP::fR::fS::fW::fX::fY::g0::g6::g9::gE::gO::gR::gS::hG::hH::hJ::hL::hM::hO::hS::hT::hU::hW::hX::hY::hZ::i0::i3::i4::i5::i6::i7::i8::i9::iF::iS::j0::j2::j3::j4::j5::j6::j7::j8::j9::jV::k6::k7::k8::k9::kA::kB::kO::kX::l0::lA::lB::lD::lE::lF::lL::lO::lP::lR::lX::m0::mA::mB::mC::mD::mJ::mL::mN::mP::mS::mT::mY::n0::nA::nB::nF::nJ::nL::nP::nQ::nS::nV::nW::o6::o9::[]).toArray,[]⟩ W:=by
 have HQ:=V hQ;have HX:=V hx;have BN:=V bn;have RN:=V rn;have PP:=V pp;have RQ:=V rq;have HT:=V xt;have HP:=V xp;have IH:=V ih;have IV:=V iv;have LH:=V lh;have LV:=V lv;clear hQ hx bn rn pp rq xt xp ih iv lh lv;unfold alm
 conv=>arg 2; whnf
 have nb3:∀ i,i<11->[29,30,31,32,33,28,34,35,7,7,8].getD i 0≠3:=by decide
 have nb5:∀ i,i<11->[29,30,31,32,33,28,34,35,7,7,8].getD i 0≠5:=by decide
 have nb6:∀ i,i<11->[29,30,31,32,33,28,34,35,7,7,8].getD i 0≠6:=by decide
 refine Rg.vZ 11 8 9 6 (fun i=>[29,30,31,32,33,28,34,35,7,7,8].getD i 0) (fun i=>if i=3 then 4 else if i=4 then 5 else 11) (aoG W.heap.size bB bT bP b s1 s2 s3 s4 s5 s6 s7 s8 s9 s10 s11 s12 s13 s14 s15 h1 h2 h3 g1 g2 g3 has vals) 30 #[au .i64 0,L U 0 0,L U 0 0,L U 0 0,L U 0 0,L U 0 0] (fun v=>match v with | aC c=>c | _=>#[]) (by kernel_rfl) (by kernel_rfl) rfl (by decide) (by decide) (by decide) (by decide) (by decide) (by decide) (by decide) (fun i j hi hj h1 h2 h=>(by decide:∀ i,i<11->∀ j,j<11->i≠9->j≠9->[29,30,31,32,33,28,34,35,7,7,8].getD i 0=[29,30,31,32,33,28,34,35,7,7,8].getD j 0->i=j) i hi j hj h1 h2 h) (fun i hi=>(by decide:∀ i,i<11->[29,30,31,32,33,28,34,35,7,7,8].getD i 0<168) i hi) ?_ ?_ ?_ ?_ ?_ ?_
 ·intro i v x x' hi h hb;rcases (by omega:i=0\/i=1\/i=2\/i=3\/i=4\/i=5\/i=6\/i=7\/i=8\/i=9\/i=10) with rfl|rfl|rfl|rfl|rfl|rfl|rfl|rfl|rfl|rfl|rfl
  ·exact h
  ·exact h
  ·exact h
  ·obtain⟨s,h1,h2⟩:=h; exact⟨s,h1,h2.on hb⟩
  ·obtain⟨a1,a2,a3,a4,a5,a6,h1,h2,h3⟩:=h; exact⟨a1,a2,a3,a4,a5,a6,h1,h2.on hb,h3.on hb⟩
  ·obtain⟨a1,a2,a3,a4,a5,a6,h1,h2,h3⟩:=h; exact⟨a1,a2,a3,a4,a5,a6,h1,h2.on hb,h3.on hb⟩
  ·obtain⟨a1,a2,a3,a4,a5,h1,h2⟩:=h; exact⟨a1,a2,a3,a4,a5,h1,h2.on hb⟩
  ·obtain⟨s,h1,h2⟩:=h; exact⟨s,h1,h2.on hb⟩
  ·exact h
  ·exact h
  ·obtain⟨s,h1,h2⟩:=h; exact⟨s,h1,h2.on hb⟩
 ·intro o ho;cases ho;exact⟨⟨⟨8,.data⟩,by simp,rfl,rfl⟩,⟨⟨6,.data⟩,by simp,rfl,rfl⟩⟩
 ·intro i o hi hiA Bl ho a x hb seen K hK;clear HQ;rcases (by omega:i=0\/i=1\/i=2\/i=3\/i=4\/i=5\/i=6\/i=7\/i=10) with rfl|rfl|rfl|rfl|rfl|rfl|rfl|rfl|rfl
  ·cases ho;have e5:a.eval (Y 5)=O (Z ⟨bB,0,U⟩):=seen.kp 5 _ nb5 rfl;exact Rg.dG rfl rfl (Rg.dU a.eval _ 30 (Y 5) rfl (by rw [e5]; exact tJ (HX.out.on hb))) (hK _ x rfl (X _ _))
  ·cases ho;have e6:a.eval (Y 6)=O (Z ⟨bT,0,U⟩):=seen.kp 6 _ nb6 rfl;obtain⟨y0,y1⟩:=(HT.out.on hb).cs2;exact Rg.dG rfl rfl (Rg.dU a.eval _ 23 (Y 6) rfl (by rw [e6]; simp [go_sem,y0,y1])) (hK _ x rfl (X _ _))
  ·cases ho;have e3:a.eval (Y 3)=O (Z ⟨bP,0,U⟩):=seen.kp 3 _ nb3 rfl;obtain⟨y0,y1⟩:=(HP.out.on hb).cs2;exact Rg.dG rfl rfl (Rg.dU a.eval _ 52 (Y 3) rfl (by rw [e3]; simp [go_sem,y0,y1])) (hK _ x rfl (X _ _))
  ·cases ho;have e31:a.eval (Y 31)=aC #[L h1 h2 h3,L g1 g2 g3]:=seen.at_ ⟨2,.data⟩ (by simp) rfl (by decide) (by decide) (Or.inr (by decide));exact Rg.gP rfl rfl (Rw.iZ a.eval _ (Y 31) 52 15 rfl e31 rfl _ (fV Tryz.func15 rfl rfl _ _)) (Cx (L h1 h2 h3) (L g1 g2 g3) has vals x (IH.out.on hb) (IV.out.on hb) LH.out LV.out) fun e w1 h=>by
    obtain⟨v,rfl,q1,q2⟩:=h;have q3:=Row.dJ q1;obtain⟨a1,a2,hvv⟩:=q3.len;exact⟨_,rfl,hK _ _ ⟨(a1,_,a2),hvv,q3⟩ q2⟩
  ·cases ho;have e29:a.eval (Y 29)=mG b.me (s1,s2,s3) (s4,s5,s6) (s7,s8,s9) (s10,s11,s12) (s13,s14,s15):=seen.at_ ⟨0,.data⟩ (by simp) rfl (by decide) (by decide) (Or.inr (by decide));have e30:a.eval (Y 30)=aC #[au .i64 15,au .i64 3]:=seen.at_ ⟨1,.data⟩ (by simp) rfl (by decide) (by decide) (Or.inr (by decide));have E32:=seen.at_ ⟨3,.data⟩ (by simp) rfl (by decide) (by decide) (Or.inl rfl);obtain⟨⟨l1,l2,l3⟩,q0,q1⟩:=E32;have q0:a.eval (Y 32)=L l1 l2 l3:=q0;have q2:fI x (L l1 l2 l3) ((jw has vals 7).map r5):=by rw [<- q0]; exact q1
   exact Rg.gP rfl rfl (rZ a.eval _ (Y 29) (Y 30) (Y 32) 30 23 34 10 rfl e29 e30 q0 rfl _ (fV Tryz.func10 rfl rfl _ _)) (Eh b s1 s2 s3 s4 s5 s6 s7 s8 s9 s10 s11 s12 s13 s14 s15 15 3 l1 l2 l3 ((jw has vals 7).map r5) x (BN.out.on hb) q2 RN.out.rt RN.out.lo PP.out RQ.out) fun e w1 h=>by
    obtain⟨⟨a1,a2,a3,a4,a5,a6,lx,rfl,h2,_,h3⟩,h5⟩:=h;exact⟨_,rfl,hK _ _ ⟨a1,a2,a3,a4,a5,a6,rfl,h2,h3.outs⟩ h5⟩
  ·cases ho;have E33:=seen.at_ ⟨4,.data⟩ (by simp) rfl (by decide) (by decide) (Or.inl rfl);exact Rg.dG rfl rfl (Rg.gD a.eval _ (Y 33) rfl x) (hK _ x E33 (X _ _))
  ·cases ho;have E28:=seen.at_ ⟨5,.data⟩ (by simp) rfl (by decide) (by decide) (Or.inr (by decide));obtain⟨a1,a2,a3,a4,a5,a6,h1,h2,_⟩:=E28;exact Rg.dG rfl rfl (oz a.eval _ (Y 28) 0 rfl (c:=#[mG (fF b (15,3) ((jw has vals 7).map r5)).1.me a1 a2 a3 a4 a5,dX a6]) h1 rfl x) (hK _ x ⟨a1,a2,a3,a4,a5,rfl,h2⟩ (X _ _))
  ·cases ho;have E28:=seen.at_ ⟨5,.data⟩ (by simp) rfl (by decide) (by decide) (Or.inr (by decide));obtain⟨a1,a2,a3,a4,a5,a6,h1,_,h3⟩:=E28;exact Rg.dG rfl rfl (oz a.eval _ (Y 28) 1 rfl (c:=#[mG (fF b (15,3) ((jw has vals 7).map r5)).1.me a1 a2 a3 a4 a5,dX a6]) h1 rfl x) (hK _ x ⟨a6,rfl,h3⟩ (X _ _))
  ·cases ho;have E35:=seen.at_ ⟨7,.data⟩ (by simp) rfl (by decide) (by decide) (Or.inr (by decide));exact Rg.dG rfl rfl (Rg.kP a.eval _ (Y 35) rfl x) (hK _ x E35 (X _ _))
 ·intro o ho a x K hK;cases ho;exact Rg.dG rfl rfl (Rg.xU a.eval _ 30 rfl (by simp [go_sem])) hK
 ·intro o ho a x bb v D hc hD hb hA hC Jr hbb ku K hK;clear HQ;cases ho;obtain⟨⟨m1,m2,m3⟩,⟨m4,m5,m6⟩,⟨m7,m8,m9⟩,⟨m10,m11,m12⟩,⟨m13,m14,m15⟩,hv1,hv2⟩:=Jr;subst hv1;have kV:=Go.Proofs.YtghlpefopidlaaaGreat.Av.fu x bb (au .i64 (fF b (15,3) ((jw has vals 7).map r5)).1.me) (L m1 m2 m3) (L m4 m5 m6) (L m7 m8 m9) (L m10 m11 m12) (L m13 m14 m15);refine Rg.gu 30 (Y 7) (Y 34) rfl rfl rfl rfl hA hC (w':=gV x bb (au .i64 (fF b (15,3) ((jw has vals 7).map r5)).1.me) (L m1 m2 m3) (L m4 m5 m6) (L m7 m8 m9) (L m10 m11 m12) (L m13 m14 m15)) (oD ku _ _ _ _ _ _ _ _ _ _ _ _ _ _ _ _) (hK _ (dH hb hbb _ _ _ _ _ _) (dL ku _ _ _ _ _ _) ?_);exact fun j u hj hjA hjS hdj hnl hls h=>by
   rcases (by omega:j=0\/j=1\/j=2\/j=3\/j=4\/j=5\/j=6\/j=7\/j=10) with rfl|rfl|rfl|rfl|rfl|rfl|rfl|rfl|rfl
   ·have h2:u=mG b.me (s1,s2,s3) (s4,s5,s6) (s7,s8,s9) (s10,s11,s12) (s13,s14,s15):=h; exact h2
   ·have h2:u=aC #[au .i64 15,au .i64 3]:=h; exact h2
   ·have h2:u=aC #[L h1 h2 h3,L g1 g2 g3]:=h; exact h2
   ·exact absurd (hD ⟨4,.chain⟩ (by simp) rfl) hnl
   ·exact absurd (hD ⟨5,.phase⟩ (by simp) rfl) hnl
   ·obtain⟨a1,a2,a3,a4,a5,a6,h1,h2,h3⟩:=h; exact⟨a1,a2,a3,a4,a5,a6,h1,h2.keep (s1:=(U,0,0)) (s2:=(U,0,0)) (s3:=(U,0,0)) (s4:=(U,0,0)) (s5:=(U,0,0)) (me:=0) ku kV,iT (s1:=(U,0,0)) (s2:=(U,0,0)) (s3:=(U,0,0)) (s4:=(U,0,0)) (s5:=(U,0,0)) (me:=0) h3 ku kV.1⟩
   ·obtain⟨a1,a2,a3,a4,a5,h1,h2⟩:=h; exact⟨a1,a2,a3,a4,a5,h1,h2.keep (s1:=(U,0,0)) (s2:=(U,0,0)) (s3:=(U,0,0)) (s4:=(U,0,0)) (s5:=(U,0,0)) (me:=0) ku kV⟩
   ·obtain⟨s,h1,h2⟩:=h; exact⟨s,h1,iT (s1:=(U,0,0)) (s2:=(U,0,0)) (s3:=(U,0,0)) (s4:=(U,0,0)) (s5:=(U,0,0)) (me:=0) h2 ku kV.1⟩
   ·obtain⟨s,h1,h2⟩:=h; exact⟨s,h1,iT (s1:=(U,0,0)) (s2:=(U,0,0)) (s3:=(U,0,0)) (s4:=(U,0,0)) (s5:=(U,0,0)) (me:=0) h2 ku kV.1⟩
 ·intro a x bb v df sz kp gA gC hbb ku Jr hbel ⟨vs,hv⟩;obtain⟨⟨m1,m2,m3⟩,⟨m4,m5,m6⟩,⟨m7,m8,m9⟩,⟨m10,m11,m12⟩,⟨m13,m14,m15⟩,hv1,hv2⟩:=Jr;subst hv1;have g7:a.tmps[7]?=Z (O (Z ⟨bb,0,U⟩)):=gA;obtain⟨⟨o1,o2,o3⟩,ho1,ho2⟩:=(hv 10 (by decide) (by decide) (by decide)).2 (by decide);have g8:a.tmps[8]?=Z (dX (o1,o2,o3)):=by
   rw [<- ho1];exact (hv 10 (by decide) (by decide) (by decide)).1
  have rJ:∀ j,(j<7\/36<=j)->a.tmps[j]?=(cL::cM::cN::O (Z ⟨bP,0,U⟩)::cP::O (Z ⟨bB,0,U⟩)::O (Z ⟨bT,0,U⟩)::oA::oE::T::a0::a7::a8::aE::b9::bJ::bQ::c7::c8::c9::cA::cC::cD::cF::cG::cH::cI::cJ::oM::oT::oX::oY::p0::p6::p7::p9::cQ::cR::cS::cT::cU::cV::cW::cX::cY::d1::d3::d4::d5::d7::d9::dA::dC::dE::dS::dT::e7::e9::eA::eB::eC::eE::eI::eJ::eK::eL::eM::eN::eQ::eS::eV::eW::f0::f7::f8::f9::fL::fN::fP::fR::fS::fW::fX::fY::g0::g6::g9::gE::gO::gR::gS::hG::hH::hJ::hL::hM::hO::hS::hT::hU::hW::hX::hY::hZ::i0::i3::i4::i5::i6::i7::i8::i9::iF::iS::j0::j2::j3::j4::j5::j6::j7::j8::j9::jV::k6::k7::k8::k9::kA::kB::kO::kX::l0::lA::lB::lD::lE::lF::lL::lO::lP::lR::lX::m0::mA::mB::mC::mD::mJ::mL::mN::mP::mS::mT::mY::n0::nA::nB::nF::nJ::nL::nP::nQ::nS::nV::nW::o6::o9::[])[j]?:=fun j hj=>(kp j (fun i hi h=>by have:=(by decide:∀ i,i<11->7<=[29,30,31,32,33,28,34,35,7,7,8].getD i 0/\[29,30,31,32,33,28,34,35,7,7,8].getD i 0<36) i hi; omega)).trans ah;obtain⟨mid,hmid,rfl⟩:=Rg.gM 7 29 df sz (by simp) rJ
  match mid,hmid with
  | [pL,pM,pN,pO,pP,pQ,pR,pS,pT,pU,pY,pZ,q6,q7,q8,q9,qL,qM,qS,qT,r0,pA,pB,pC,pD,pE,pF,pH,pJ],_ =>
   obtain rfl:pL=O (Z ⟨bb,0,U⟩):=J g7;obtain rfl:pM=dX (o1,o2,o3):=J g8;obtain rfl:pN=T:=J (kp 9 (fun i hi h=>(by decide:∀ i,i<11->[29,30,31,32,33,28,34,35,7,7,8].getD i 0≠9) i hi h));obtain rfl:pO=a0:=J (kp 10 (fun i hi h=>(by decide:∀ i,i<11->[29,30,31,32,33,28,34,35,7,7,8].getD i 0≠10) i hi h));obtain rfl:pP=a7:=J (kp 11 (fun i hi h=>(by decide:∀ i,i<11->[29,30,31,32,33,28,34,35,7,7,8].getD i 0≠11) i hi h));obtain rfl:pQ=a8:=J (kp 12 (fun i hi h=>(by decide:∀ i,i<11->[29,30,31,32,33,28,34,35,7,7,8].getD i 0≠12) i hi h));obtain rfl:pR=aE:=J (kp 13 (fun i hi h=>(by decide:∀ i,i<11->[29,30,31,32,33,28,34,35,7,7,8].getD i 0≠13) i hi h));obtain rfl:pS=b9:=J (kp 14 (fun i hi h=>(by decide:∀ i,i<11->[29,30,31,32,33,28,34,35,7,7,8].getD i 0≠14) i hi h));obtain rfl:pT=bJ:=J (kp 15 (fun i hi h=>(by decide:∀ i,i<11->[29,30,31,32,33,28,34,35,7,7,8].getD i 0≠15) i hi h));obtain rfl:pU=bQ:=J (kp 16 (fun i hi h=>(by decide:∀ i,i<11->[29,30,31,32,33,28,34,35,7,7,8].getD i 0≠16) i hi h));obtain rfl:pY=c7:=J (kp 17 (fun i hi h=>(by decide:∀ i,i<11->[29,30,31,32,33,28,34,35,7,7,8].getD i 0≠17) i hi h));obtain rfl:pZ=c8:=J (kp 18 (fun i hi h=>(by decide:∀ i,i<11->[29,30,31,32,33,28,34,35,7,7,8].getD i 0≠18) i hi h));obtain rfl:q6=c9:=J (kp 19 (fun i hi h=>(by decide:∀ i,i<11->[29,30,31,32,33,28,34,35,7,7,8].getD i 0≠19) i hi h));obtain rfl:q7=cA:=J (kp 20 (fun i hi h=>(by decide:∀ i,i<11->[29,30,31,32,33,28,34,35,7,7,8].getD i 0≠20) i hi h));obtain rfl:q8=cC:=J (kp 21 (fun i hi h=>(by decide:∀ i,i<11->[29,30,31,32,33,28,34,35,7,7,8].getD i 0≠21) i hi h));obtain rfl:q9=cD:=J (kp 22 (fun i hi h=>(by decide:∀ i,i<11->[29,30,31,32,33,28,34,35,7,7,8].getD i 0≠22) i hi h));obtain rfl:qL=cF:=J (kp 23 (fun i hi h=>(by decide:∀ i,i<11->[29,30,31,32,33,28,34,35,7,7,8].getD i 0≠23) i hi h));obtain rfl:qM=cG:=J (kp 24 (fun i hi h=>(by decide:∀ i,i<11->[29,30,31,32,33,28,34,35,7,7,8].getD i 0≠24) i hi h));obtain rfl:qS=cH:=J (kp 25 (fun i hi h=>(by decide:∀ i,i<11->[29,30,31,32,33,28,34,35,7,7,8].getD i 0≠25) i hi h));obtain rfl:qT=cI:=J (kp 26 (fun i hi h=>(by decide:∀ i,i<11->[29,30,31,32,33,28,34,35,7,7,8].getD i 0≠26) i hi h));obtain rfl:r0=cJ:=J (kp 27 (fun i hi h=>(by decide:∀ i,i<11->[29,30,31,32,33,28,34,35,7,7,8].getD i 0≠27) i hi h));exact HQ.out x bb _ _ _ _ _ _ _ _ m1 m2 m3 m4 m5 m6 m7 m8 m9 m10 m11 m12 m13 m14 m15 o1 o2 o3 hbb ku hv2 ho2 hbel
def aff (_B:Nat) (bA _bP:Nat) (_c1 _c2:Int) (ao:Option aj) (an ac:Nat) (_fa:Int) (q:List C5) (h1:Option aj) (h2 h3:Nat) (g1:Option aj) (g2 g3:Nat) (has vals:List Int) (i:Nat) (v:aB) (x:aA):Prop :=
 match i with
 | 0=>v=O (Z ⟨bA,2,U⟩)
 | 1=>v=L ao an ac
 | 2=>v=aC #[L h1 h2 h3,L g1 g2 g3]
 | 3=>∃ sl:Sl,v=dX sl/\fI x v ((jw has vals 7).map r5)
 | 4=>v=aD (fU q ((jw has vals 7).map r5))
 | _=>True
noncomputable def afg:Code:=((Tryz.f6.body.bind (eO 11)).getD .skip)
theorem aoI (Q:Exit->Act->aA->Prop) (W:aA) (bA bP:Nat) (c1 c2:Int) (ao:Option aj) (an ac:Nat) (fa:Int) (q:List C5) (h1:Option aj) (h2 h3:Nat) (g1:Option aj) (g2 g3:Nat) (has vals:List Int) (T a0 a3 a4 a5 a6 a7 a8 aE b9 bJ bQ c7 c8 c9 cA cC cD cF cG cH cI cJ cL cM cN cP cQ cR cS cT cU cV cW cX cY d1 d3 d4 d5 d7 d9 dA dC dE dS dT e7 e9 eA eB eC eE eI eJ eK eL eM eN oA oE oM oT oX eQ eS eV eW f0 f7 f8 f9 fL fN fP fR fS fW fX fY g0 g6 g9 gE gO gR gS hC hG hH hJ hL hM hO hS hT hU hW hX hY hZ i0 i3 i4 i5 i6 i7 i8 i9 iF iS j0 j2 j3 j4 j5 j6 j7 j8 j9 jV k6 k7 k8 k9 kA kB kO kV kX l0 lA lB lD lE lF lL lO lP lR lX m0 mA mB mC mD mJ mL mN mP mS mT mY n0 nA nB nF nJ nL nP nQ nS nV nW o6 o9:aB)
  (xa:dK W bA #[au .i64 c1,au .i64 c2,L ao an ac,au .i64 fa] 36) (xp:dK W bP #[L h1 h2 h3,L g1 g2 g3] 52) (ap:fI W (L ao an ac) q) (pq:dR q) (ih:In.kQ W (L h1 h2 h3) has) (iv:In.kQ W (L g1 g2 g3) vals) (lh:has.length<=maxLen) (lv:vals.length<=maxLen)
  (hQ:∀ (x:aA) (oY p0 p6 p7:aB),Below W.heap.size W x->Q .normal ⟨(T::a0::a3::O (Z ⟨bP,0,U⟩)::a4::a5::a6::a7::a8::aE::b9::bJ::bQ::c7::c8::c9::cA::cC::O (Z ⟨bA,0,U⟩)::cD::cF::cG::cH::cI::cJ::cL::cM::cN::cP::cQ::cR::cS::cT::cU::cV::cW::cX::cY::d1::d3::d4::d5::d7::d9::dA::dC::dE::dS::dT::e7::e9::eA::eB::eC::eE::eI::eJ::eK::eL::eM::eN::oY::p0::p6::p7::aD (fU q ((jw has vals 7).map r5))::eQ::eS::eV::eW::f0::f7::f8::f9::fL::fN::fP::fR::fS::fW::fX::fY::g0::g6::g9::gE::gO::gR::gS::hC::hG::hH::hJ::hL::hM::hO::hS::hT::hU::hW::hX::hY::hZ::i0::i3::i4::i5::i6::i7::i8::i9::iF::iS::j0::j2::j3::j4::j5::j6::j7::j8::j9::jV::k6::k7::k8::k9::kA::kB::kO::kV::kX::l0::lA::lB::lD::lE::lF::lL::lO::lP::lR::lX::m0::mA::mB::mC::mD::mJ::mL::mN::mP::mS::mT::mY::n0::nA::nB::nF::nJ::nL::nP::nQ::nS::nV::nW::o6::o9::[]).toArray,[]⟩ x) :
  Code.wp Tryz.prog afg Q ⟨(T::a0::a3::O (Z ⟨bP,0,U⟩)::a4::a5::a6::a7::a8::aE::b9::bJ::bQ::c7::c8::c9::cA::cC::O (Z ⟨bA,0,U⟩)::cD::cF::cG::cH::cI::cJ::cL::cM::cN::cP::cQ::cR::cS::cT::cU::cV::cW::cX::cY::d1::d3::d4::d5::d7::d9::dA::dC::dE::dS::dT::e7::e9::eA::eB::eC::eE::eI::eJ::eK::eL::eM::eN::oA::oE::oM::oT::oX::eQ::eS::eV::eW::f0::f7::f8::f9::fL::fN::fP::fR::fS::fW::fX::fY::g0::g6::g9::gE::gO::gR::gS::hC::hG::hH::hJ::hL::hM::hO::hS::hT::hU::hW::hX::hY::hZ::i0::i3::i4::i5::i6::i7::i8::i9::iF::iS::j0::j2::j3::j4::j5::j6::j7::j8::j9::jV::k6::k7::k8::k9::kA::kB::kO::kV::kX::l0::lA::lB::lD::lE::lF::lL::lO::lP::lR::lX::m0::mA::mB::mC::mD::mJ::mL::mN::mP::mS::mT::mY::n0::nA::nB::nF::nJ::nL::nP::nQ::nS::nV::nW::o6::o9::[]).toArray,[]⟩ W:=by
 have HQ:=V hQ;have HA:=V xa;have HP:=V xp;have AP:=V ap;have PQ:=V pq;have IH:=V ih;have IV:=V iv;have LH:=V lh;have LV:=V lv;clear hQ xa xp ap pq ih iv lh lv;unfold afg
 conv=>arg 2; whnf
 have nd:∀ j,(j<61\/66<=j)->∀ i,i<5->(fun i=>61+i) i≠j:=by
  intro j hj i hi h;simp only at h;omega
 refine Rg.Nz 5 (fun i=>61+i) (aff W.heap.size bA bP c1 c2 ao an ac fa q h1 h2 h3 g1 g2 g3 has vals) (by kernel_rfl) (by kernel_rfl) rfl ?_ (fun i j _ _ h=>by have h2:61+i=61+j:=h; omega) (fun i hi=>by show 61+i<168; omega) ?_ ?_ ?_
 ·intro i o ho;have hi:i<5:=(List.getElem?_eq_some_iff.1 ho).1;rcases (by omega:i=0\/i=1\/i=2\/i=3\/i=4) with rfl|rfl|rfl|rfl|rfl
  all_goals (obtain rfl:=J ho; rfl)
 ·intro i v x x' h hb;by_cases hi:i<5
  ·rcases (by omega:i=0\/i=1\/i=2\/i=3\/i=4) with rfl|rfl|rfl|rfl|rfl
   ·exact h
   ·exact h
   ·exact h
   ·obtain⟨s,h1,h2⟩:=h; exact⟨s,h1,h2.on hb⟩
   ·exact h
  ·unfold aff
   split <;> first | omega | trivial
 ·intro i o hi ho a x hb seen K hK;clear HQ;rcases (by omega:i=0\/i=1\/i=2\/i=3\/i=4) with rfl|rfl|rfl|rfl|rfl
  ·cases ho;have e18:a.eval (Y 18)=O (Z ⟨bA,0,U⟩):=seen.kp 18 _ (nd 18 (by omega)) rfl;exact Rg.dG rfl rfl (Rg.dW a.eval _ 36 (Y 18) 1 rfl (by rw [e18]; simp [go_sem])) (hK _ x rfl (X _ _))
  ·cases ho;have e61:a.eval (Y 61)=O (Z ⟨bA,2,U⟩):=seen.at_ ⟨0,.data⟩ (by simp) rfl;have y2:=(HA.out.on hb).cell 2;simp only [ah,List.getElem?_cons_zero,List.getElem?_cons_succ] at y2;exact Rg.dG rfl rfl (Rg.dU a.eval _ 34 (Y 61) rfl (by rw [e61]; simp [go_sem,y2])) (hK _ x rfl (X _ _))
  ·cases ho;have e3:a.eval (Y 3)=O (Z ⟨bP,0,U⟩):=seen.kp 3 _ (nd 3 (by omega)) rfl;obtain⟨y0,y1⟩:=(HP.out.on hb).cs2;exact Rg.dG rfl rfl (Rg.dU a.eval _ 52 (Y 3) rfl (by rw [e3]; simp [go_sem,y0,y1])) (hK _ x rfl (X _ _))
  ·cases ho;have e63:a.eval (Y 63)=aC #[L h1 h2 h3,L g1 g2 g3]:=seen.at_ ⟨2,.data⟩ (by simp) rfl;exact Rg.gP rfl rfl (Rw.iZ a.eval _ (Y 63) 52 15 rfl e63 rfl _ (fV Tryz.func15 rfl rfl _ _)) (Cx (L h1 h2 h3) (L g1 g2 g3) has vals x (IH.out.on hb) (IV.out.on hb) LH.out LV.out) fun e w1 h=>by
    obtain⟨v,rfl,q1,q2⟩:=h;have q3:=Row.dJ q1;obtain⟨a1,a2,hvv⟩:=q3.len;exact⟨_,rfl,hK _ _ ⟨(a1,_,a2),hvv,q3⟩ q2⟩
  ·cases ho;have e62:a.eval (Y 62)=L ao an ac:=seen.at_ ⟨1,.data⟩ (by simp) rfl;have E64:=seen.at_ ⟨3,.data⟩ (by simp) rfl;obtain⟨⟨l1,l2,l3⟩,q0,q1⟩:=E64;have q0:a.eval (Y 64)=L l1 l2 l3:=q0;have q2:fI x (L l1 l2 l3) ((jw has vals 7).map r5):=by rw [<- q0]; exact q1
   exact Rg.gP rfl rfl (Rw.qF a.eval _ (Y 62) (Y 64) 34 34 28 rfl e62 q0 rfl _ (fV Tryz.func28 rfl rfl _ _)) (Ry _ _ _ _ x (AP.out.on hb) q2 PQ.out (JJ has vals)) fun e w1 h=>by
    obtain⟨rfl,h5⟩:=h;exact⟨_,rfl,hK _ _ rfl h5⟩
 ·intro a x df sz kp hv hbel;have g65:a.tmps[65]?=Z (aD (fU q ((jw has vals 7).map r5))):=by
   obtain⟨v,h1,h2⟩:=hv 4 (by decide);have h3:v=aD (fU q ((jw has vals 7).map r5)):=h2;rw [<- h3];exact h1
  have rJ:∀ j,(j<61\/66<=j)->a.tmps[j]?=(T::a0::a3::O (Z ⟨bP,0,U⟩)::a4::a5::a6::a7::a8::aE::b9::bJ::bQ::c7::c8::c9::cA::cC::O (Z ⟨bA,0,U⟩)::cD::cF::cG::cH::cI::cJ::cL::cM::cN::cP::cQ::cR::cS::cT::cU::cV::cW::cX::cY::d1::d3::d4::d5::d7::d9::dA::dC::dE::dS::dT::e7::e9::eA::eB::eC::eE::eI::eJ::eK::eL::eM::eN::oA::oE::oM::oT::oX::eQ::eS::eV::eW::f0::f7::f8::f9::fL::fN::fP::fR::fS::fW::fX::fY::g0::g6::g9::gE::gO::gR::gS::hC::hG::hH::hJ::hL::hM::hO::hS::hT::hU::hW::hX::hY::hZ::i0::i3::i4::i5::i6::i7::i8::i9::iF::iS::j0::j2::j3::j4::j5::j6::j7::j8::j9::jV::k6::k7::k8::k9::kA::kB::kO::kV::kX::l0::lA::lB::lD::lE::lF::lL::lO::lP::lR::lX::m0::mA::mB::mC::mD::mJ::mL::mN::mP::mS::mT::mY::n0::nA::nB::nF::nJ::nL::nP::nQ::nS::nV::nW::o6::o9::[])[j]?:=fun j hj=>(kp j (nd j hj)).trans ah;obtain⟨mid,hmid,rfl⟩:=Rg.gM 61 5 df sz (by simp) rJ
  match mid,hmid with
  | [oY,p0,p6,p7,p9],_ =>
   obtain rfl:p9=aD (fU q ((jw has vals 7).map r5)):=J g65;exact HQ.out x _ _ _ _ hbel
end Rt
end Go.Proofs.YtghlpefopidlaaaGreat
