/-
  slices.BinarySearchF. Conditions as told.
-/
import Derived.Test.YtghlpefopidlaaaGreatLQ013
import Derived.Deep.LoopGhost
import Derived.Test.YtghlpefopidlaaaGreatLQ016
set_option maxRecDepth 100000
set_option maxHeartbeats 64000000
open _root_.Go renaming World->aI,Value->aK,Addr->aL
open Go.IntKind renaming i64->U
open Go.Lib renaming hid->J
open Go.Obj renaming cells->aB
open Go.Operand renaming tmp->aJ
open Go.RowKit.Below renaming refl->aA,heap_setCell->aF
open Go.Value renaming slice->L,int->O,pointer->V,bool->aN
open _root_.List renaming getElem?_eq_getElem->Z,getElem?_toArray->ah,getElem?_cons_zero->aj,getElem?_cons_succ->ak,getElem?_eq_some_iff->aD
open _root_.Nat renaming le_refl->aG,lt_or_ge->aH,zero_le->aM
open _root_.Option renaming some->au,none->ay
open Option.some renaming inj->aC
namespace Go.Proofs.YtghlpefopidlaaaGreat
namespace Av
open Go.RowKit Go.Sort Rw YtghlpefopidlaaaGreat.Nm Pr Bk
abbrev wG (x:eU):eU:=x
theorem Xy {W W1:aI} {v:aK} {l:List eU} {ao:Option aL} {n c k:Nat} {x:eU} (h:wY W v l) (hv:v=L ao n c) (hn:l.length=n) (hk:l[k]?=au x) (hb:Below W.heap.size W W1) :
  ∃ p:aL,(∀ w,(Instr.indexAt 26 (L ao n c) (O U k)).run Tryz.prog w=.ok (V (au p)) w) /\
   (∀ d os,(grow (redrawn W1 d) os).cell? p=au (O U x.1))/\(∀ d os,(grow (redrawn W1 d) os).cell? ⟨p.block,p.off+1,ay⟩=au (O U x.2)):=by
 obtain⟨p,h1,h2⟩:=elJ h hv hn hk;obtain⟨c0,c1⟩:=h2 _ hb;exact⟨p,h1,cell_regrown c0,cell_regrown c1⟩
theorem Qo {W:aI} {b:Nat} {c:eU} (h:dK W b #[O U c.1,O U c.2] 23):(∀ d os,(grow (redrawn W d) os).cell? ⟨b,0,ay⟩=au (O U c.1))/\(∀ d os,(grow (redrawn W d) os).cell? ⟨b,1,ay⟩=au (O U c.2)) :=
 ⟨cell_regrown (h.cell 0),cell_regrown (h.cell 1)⟩
theorem Qp (c d:eU) (r:Int) (hr:nE c d=r) (w:aI) (k:Nat) (os:Array Obj) :
  Calls Tryz.prog 38 #[nC c,nC d] (grow (redrawn w k) os) fun e w''=>e=.returned (O U r)/\∃ p:Regrown,w''=grow (redrawn w p.d) p.os:=by
 subst hr;exact Calls.regrown_of (Cb c d _)
theorem ab4 (v:aK) (l:List eU) (c:eU) (w:aI) (hv:wY w v l) (hr:kS wG l) (hl:l.length<=900) :
  Calls Tryz.prog 105 #[v,nC c,.func (.func 38) #[] #[]] w fun e w'=>e=.returned (.tuple #[O U (fJ wG l c),aN (iG wG l c)])/\Below w.heap.size w w':=by
 have HL:=J hv;have HR:=J hr;have BX:=J (dQ w #[O U c.1,O U c.2] 23);have B1:=J ((aA w.heap.size w).alloc (aG _) (aB #[O U c.1,O U c.2] 23));obtain⟨ao,ac,rfl⟩:=hv.len;obtain⟨n,hn⟩:∃ n,n=l.length:=⟨_,rfl⟩;rw [<- hn] at HL hl ⊢;have HN:=J hn;obtain⟨cnt,hc⟩:∃ k,k=fJ wG l c:=⟨_,rfl⟩;obtain⟨th,ht⟩:∃ k,k=iG wG l c:=⟨_,rfl⟩;rw [<- hc,<- ht];have HC:=J hc;have HT:=J ht;clear hv hr hn hc ht;obtain⟨c1,c2⟩:=c;go_enter Tryz.func105,Tryz.ntmps105;go_wp2;generalize w.alloc (aB #[O U c1,O U c2] 23)=w1 at *
 go_loopg [9,10] n (fun kx s9 s10 wr=>∃ lo hi:Nat,s9=O U lo/\s10=O U hi/\lo<=hi/\hi<=n/\hi-lo<=kx/\Below w.heap.size w wr/\dK wr w.heap.size #[O U c1,O U c2] 23 /\
  (∀ (t:Nat) (y:eU),t<lo->l[t]?=au y->eH y (c1,c2)=true)/\(∀ (t:Nat) (y:eU),hi<=t->l[t]?=au y->eH y (c1,c2)=false))
 case atStart=>exact⟨0,n,rfl,rfl,aM _,aG _,by omega,B1.out,BX.out,fun t y h=>by omega,fun t y h1 h2=>by have:=(aD.1 h2).1; have:=HN.out; omega⟩
 case round =>
  clear B1 BX;obtain⟨lo,hi,rfl,rfl,hlh,hin,hg,hb,hx,ha,hz⟩:=hrel;have B:=J hb;have X:=J hx;have AL:=J ha;have ZL:=J hz;clear hb hx ha hz;by_cases hlt:lo<hi
  ·obtain⟨y,hy⟩:∃ y,l[(lo+hi) / 2]?=au y:=⟨_,Z (by have:=HN.out; omega)⟩;obtain⟨p,ix,p0,p1⟩:=Xy HL.out rfl HN.out.symm hy B.out;obtain⟨b0,b1⟩:=Qo (c:=(c1,c2)) X.out;obtain⟨r,hr⟩:∃ r,nE y (c1,c2)=r:=⟨_,rfl⟩;have C:=Qp y (c1,c2) r hr wr;have LE:=J (show decide (r<0)=eH y (c1,c2) by rw [<- hr]; exact Gn _ _);have Y:=J hy;clear hy hr;have e23:((lo:Int)+(hi:Int)) / 2=(((lo+hi) / 2:Nat):Int):=by omega
   generalize hm:(lo+hi) / 2=m at *;have BN:=J (fun dq osq=>B.out.trans ((below_regrown wr dq osq).mono B.out.size));have XN:=J (fun dq osq=>X.out.on (below_regrown wr dq osq));obtain⟨y1,y2⟩:=y;simp only at p0 p1 b0 b1 C;by_cases hneg:r<0
   ·have d0:decide (r<0)=true:=by simpa using hneg
    have LT:=J (show eH (y1,y2) (c1,c2)=true by rw [<- LE.out]; exact d0);go_wp2;refine wp_region_quiet_below (by kernel_rfl) (by kernel_rfl) ?_
    repeat (go_big_quiet_step (first | (with_reducible exact C _ _) | exact Gu _ _))
    refine wpQuiet_nil ?_;intro _ hw';obtain⟨⟨dq,osq⟩,hw''⟩:=hw';subst hw'';clear ix p0 p1 b0 b1 C;go_wp2
    go_roundg (hi-(m+1))
    case measure=>omega
    case rel=>exact⟨m+1,hi,by go_num,rfl,by omega,hin,aG _,BN.out _ _,XN.out _ _,fun t z h1 h2=>by
     rcases aH t m with h3|h3
     ·exact iV (kU HR.out (by omega) h2 Y.out) LT.out
     ·obtain rfl:t=m:=by omega
      rw [Y.out] at h2;rw [<- aC h2];exact LT.out,ZL.out⟩
   ·have d0:decide (r<0)=false:=by simpa using hneg
    have LT:=J (show eH (y1,y2) (c1,c2)=false by rw [<- LE.out]; exact d0);go_wp2;refine wp_region_quiet_below (by kernel_rfl) (by kernel_rfl) ?_
    repeat (go_big_quiet_step (first | (with_reducible exact C _ _) | exact Gu _ _))
    refine wpQuiet_nil ?_;intro _ hw';obtain⟨⟨dq,osq⟩,hw''⟩:=hw';subst hw'';clear ix p0 p1 b0 b1 C;go_wp2
    go_roundg (m-lo)
    case measure=>omega
    case rel=>exact⟨lo,m,rfl,rfl,by omega,by omega,aG _,BN.out _ _,XN.out _ _,AL.out,fun t z h1 h2=>by
     cases h:eH z (c1,c2)
     ·rfl
     ·rcases aH m t with h3|h3
      ·have:=iV (kU HR.out h3 Y.out h2) h;rw [LT.out] at this;cases this
      ·obtain rfl:t=m:=by omega
       rw [Y.out] at h2;rw [<- aC h2,LT.out] at h;cases h⟩
  ·obtain rfl:hi=lo:=by omega
   have E:=J (Gm wG l (c1,c2) hi AL.out (by
    rcases aH hi n with h|h
    ·exact Or.inr ⟨_,Z (by have:=HN.out; omega),ZL.out hi _ (aG _) (Z (by have:=HN.out; omega))⟩
    ·exact Or.inl (by have:=HN.out; omega)))
   by_cases hn:hi<n
   ·obtain⟨y,hy⟩:∃ y,l[hi]?=au y:=⟨_,Z (by have:=HN.out; omega)⟩;obtain⟨p,ix,p0,p1⟩:=Xy HL.out rfl HN.out.symm hy B.out;obtain⟨b0,b1⟩:=Qo (c:=(c1,c2)) X.out;obtain⟨r,hr⟩:∃ r,nE y (c1,c2)=r:=⟨_,rfl⟩;have C:=Qp y (c1,c2) r hr wr;have TH:=J (show th=(r == 0) by
     rw [HT.out,iG,E.out,hy,Bool.eq_iff_iff,beq_iff_eq,<- hr,vX,decide_eq_true_eq])
    have BN:=J (fun dq osq=>B.out.trans ((below_regrown wr dq osq).mono B.out.size));have CE:=J (show cnt=hi by rw [HC.out,E.out]);clear hy hr hlt;have g4:decide ((hi:Int)<(n:Int))=true:=by simp; omega
    obtain⟨y1,y2⟩:=y;simp only at p0 p1 b0 b1 C;go_wp2;refine wp_region_quiet_below (by kernel_rfl) (by kernel_rfl) ?_
    repeat (go_big_quiet_step (first | (with_reducible exact C _ _) | exact Gu _ _))
    refine wpQuiet_nil ?_;intro _ hw';obtain⟨⟨dq,osq⟩,hw''⟩:=hw';subst hw'';clear ix p0 p1 b0 b1 C;go_wp2
    go_ret2
    exact⟨by rw [TH.out,CE.out]; rfl,BN.out _ _⟩
   ·have TH:=J (show th=false by
     rw [HT.out,iG,E.out,List.getElem?_eq_none (by have:=HN.out; omega)])
    have CE:=J (show cnt=hi by rw [HC.out,E.out]);have BN:=J (fun dq osq=>B.out.trans ((below_regrown wr dq osq).mono B.out.size));have g4:decide ((hi:Int)<(n:Int))=false:=by simp; omega
    clear hlt;go_wp2;refine wp_region_quiet_below (by kernel_rfl) (by kernel_rfl) ?_
    repeat (go_big_quiet_step (fail))
    refine wpQuiet_nil ?_;intro _ hw';obtain⟨⟨dq,osq⟩,hw''⟩:=hw';subst hw'';go_wp2
    go_ret2
    exact⟨by rw [TH.out,CE.out]; rfl,BN.out _ _⟩
def ab5 (B:Nat) (b1:Nat) (_me:Int) (_z2 _z4 _z5:aK) (o1:Option aL) (n1 c1:Nat) (nl:List Int) (o3:Option aL) (n3 c3:Nat) (sl:List eU) (i:Nat) (v:aK) (x:aI):Prop :=
 match i with
 | 0=>v=V (au ⟨b1,1,ay⟩)
 | 1=>v=L o1 n1 c1
 | 2=>∃ s:Sl,v=dX s/\Ay x B v nl
 | 3=>v=V (au ⟨b1,3,ay⟩)
 | 4=>v=L o3 n3 c3
 | 5=>∃ s:Sl,v=dX s/\uE x B v sl
 | 6=>v=V (au ⟨b1,1,ay⟩)
 | _=>True
noncomputable def ajR:Code:=((Tryz.f33.body.bind (eO 1)).getD .skip)
theorem ab6 (B:Nat) (b1:Nat) (me:Int) (z2 z4 z5:aK) (o1:Option aL) (n1 c1:Nat) (nl:List Int) (o3:Option aL) (n3 c3:Nat) (sl:List eU) (i:Nat) (v:aK) (x x':aI) (h:ab5 B b1 me z2 z4 z5 o1 n1 c1 nl o3 n3 c3 sl i v x) (hb:Below x.heap.size x x'):ab5 B b1 me z2 z4 z5 o1 n1 c1 nl o3 n3 c3 sl i v x':=by
 by_cases hi:i<7
 ·rcases (by omega:i=0\/i=1\/i=2\/i=3\/i=4\/i=5\/i=6) with rfl|rfl|rfl|rfl|rfl|rfl|rfl
  ·exact h
  ·exact h
  ·obtain⟨s,h1,h2⟩:=h; exact⟨s,h1,Bk.dI h2 hb⟩
  ·exact h
  ·exact h
  ·obtain⟨s,h1,h2⟩:=h; exact⟨s,h1,Bk.dI h2 hb⟩
  ·exact h
 ·unfold ab5
  split <;> first | omega | trivial
theorem cp1 (Q:Exit->Act->aI->Prop) (W:aI) (b1:Nat) (me:Int) (z2 z4 z5:aK) (o1:Option aL) (n1 c1:Nat) (nl:List Int) (o3:Option aL) (n3 c3:Nat) (sl:List eU) (T a0 a3 a4 a5 g0 g6 g9 gE gO gR gS hC a6 a7 a8 aE b9 bJ bQ c7 c8 c9 cA cC cD cF cG cH cI cJ cL cM cN cP cQ cR cS cT cU cV cW cX cY d1 d3 d4 d5 d7 d9 dA dC dE dS dT eA eB eC eE eI eJ eK eL eM eN eQ eS eV eW f0 f7 f8 f9 fL fN fP fR fS fW fX fY:aK)
  (h1:dK W b1 #[O U me,L o1 n1 c1,z2,L o3 n3 c3,z4,z5] 30) (r1:uR W (L o1 n1 c1) nl) (r3:wY W (L o3 n3 c3) sl) (l1:nl.length<=900) (l3:sl.length<=900)
  (hQ:∀ (x:aI) (hG hH hJ hL hM hO hS hT:aK) (p1:Option aL) (q1 s1:Nat) (p3:Option aL) (q3 s3:Nat),dK x b1 #[O U me,L p1 q1 s1,z2,L p3 q3 s3,z4,z5] 30->Ay x W.heap.size (L p1 q1 s1) nl->uE x W.heap.size (L p3 q3 s3) sl->(∀ B,B<=b1->Below B W x)->(∀ k,k<W.heap.size->k≠b1->x.heap[k]?=W.heap[k]?)->Q .normal ⟨(T::V (au ⟨b1,0,ay⟩)::a0::a3::a4::a5::hG::hH::hJ::hL::hM::hO::hS::hT::a6::a7::a8::aE::b9::bJ::bQ::c7::c8::c9::cA::cC::cD::cF::cG::cH::cI::cJ::cL::cM::cN::cP::cQ::cR::cS::cT::cU::cV::cW::cX::cY::d1::d3::d4::d5::d7::d9::dA::dC::dE::dS::dT::eA::eB::eC::eE::eI::eJ::eK::eL::eM::eN::eQ::eS::eV::eW::f0::f7::f8::f9::fL::fN::fP::fR::fS::fW::fX::fY::[]).toArray,[]⟩ x) :
  Code.wp Tryz.prog ajR Q ⟨(T::V (au ⟨b1,0,ay⟩)::a0::a3::a4::a5::g0::g6::g9::gE::gO::gR::gS::hC::a6::a7::a8::aE::b9::bJ::bQ::c7::c8::c9::cA::cC::cD::cF::cG::cH::cI::cJ::cL::cM::cN::cP::cQ::cR::cS::cT::cU::cV::cW::cX::cY::d1::d3::d4::d5::d7::d9::dA::dC::dE::dS::dT::eA::eB::eC::eE::eI::eJ::eK::eL::eM::eN::eQ::eS::eV::eW::f0::f7::f8::f9::fL::fN::fP::fR::fS::fW::fX::fY::[]).toArray,[]⟩ W:=by
 have HQ:=J hQ;have H1:=J h1;have R1:=J r1;have R3:=J r3;have L1:=J l1;have L3:=J l3;clear hQ h1 r1 r3 l1 l3;have jW:=ab6 W.heap.size b1 me z2 z4 z5 o1 n1 c1 nl o3 n3 c3 sl;unfold ajR
 conv=>arg 2; whnf
 have nd:∀ j,(j<6\/13<=j)->∀ i,i<7->(fun i=>6+i) i≠j:=by
  intro j hj i hi h;simp only at h;omega
 refine Rg.gU 10 7 (fun i=>6+i) (fun _=>7) (ab5 W.heap.size b1 me z2 z4 z5 o1 n1 c1 nl o3 n3 c3 sl) (by kernel_rfl) (by kernel_rfl) rfl (by decide) (fun i j _ _ h=>by have h2:6+i=6+j:=h; omega) (fun i hi=>by show 6+i<82; omega) ?_ (fun _=>Rg.kL 14 (by kernel_rfl)) ?_ ?_
 ·intro i o hi ho a x D hnd hc hD hb seen K hK;clear HQ;rcases (by omega:i=0\/i=1\/i=2\/i=3\/i=4\/i=5\/i=6) with rfl|rfl|rfl|rfl|rfl|rfl|rfl
  ·cases ho;have e1:a.eval (aJ 1)=V (au ⟨b1,0,ay⟩):=seen.kp 1 _ (nd 1 (by omega)) rfl;exact Rg.dG rfl rfl (Rg.dW a.eval _ 30 (aJ 1) 1 rfl (by rw [e1]; simp [go_sem])) (hK _ _ rfl (aA _ _) fun _ _ _ _ _ _ _ h=>h)
  ·cases ho;have e6:a.eval (aJ 6)=V (au ⟨b1,1,ay⟩):=seen.at_ ⟨0,.data⟩ (by simp) rfl (Or.inr (by decide));have y1:=(H1.out.on hb).cell 1;simp only [ah,aj,ak] at y1;exact Rg.dG rfl rfl (Rg.dU a.eval _ 24 (aJ 6) rfl (by rw [e6]; simp [go_sem,y1])) (hK _ _ rfl (aA _ _) fun _ _ _ _ _ _ _ h=>h)
  ·cases ho;have e7:a.eval (aJ 7)=L o1 n1 c1:=seen.at_ ⟨1,.data⟩ (by simp) rfl (Or.inr (by decide));exact Rg.gP rfl rfl (Rw.iZ a.eval _ (aJ 7) 24 39 rfl e7 rfl _ (fV Tryz.func39 rfl rfl _ _)) (Ci (o1,n1,c1) nl x (R1.out.on hb) L1.out) fun e w1 h=>by
    obtain⟨⟨s,rfl,h1⟩,h3⟩:=h;exact⟨_,rfl,hK _ _ ⟨s,rfl,dM h1 hb.size⟩ (h3.mono hb.size) fun j u hj _ _ _ hne h=>jW j u _ _ h h3⟩
  ·cases ho;have e1:a.eval (aJ 1)=V (au ⟨b1,0,ay⟩):=seen.kp 1 _ (nd 1 (by omega)) rfl;exact Rg.dG rfl rfl (Rg.dW a.eval _ 30 (aJ 1) 3 rfl (by rw [e1]; simp [go_sem])) (hK _ _ rfl (aA _ _) fun _ _ _ _ _ _ _ h=>h)
  ·cases ho;have e9:a.eval (aJ 9)=V (au ⟨b1,3,ay⟩):=seen.at_ ⟨3,.data⟩ (by simp) rfl (Or.inr (by decide));have y3:=(H1.out.on hb).cell 3;simp only [ah,aj,ak] at y3;exact Rg.dG rfl rfl (Rg.dU a.eval _ 26 (aJ 9) rfl (by rw [e9]; simp [go_sem,y3])) (hK _ _ rfl (aA _ _) fun _ _ _ _ _ _ _ h=>h)
  ·cases ho;have e10:a.eval (aJ 10)=L o3 n3 c3:=seen.at_ ⟨4,.data⟩ (by simp) rfl (Or.inr (by decide));exact Rg.gP rfl rfl (Rw.iZ a.eval _ (aJ 10) 26 99 rfl e10 rfl _ (fV Tryz.func99 rfl rfl _ _)) (Ob (o3,n3,c3) sl x (R3.out.on hb) L3.out) fun e w1 h=>by
    obtain⟨⟨s,rfl,h1⟩,h3⟩:=h;exact⟨_,rfl,hK _ _ ⟨s,rfl,dM h1 hb.size⟩ (h3.mono hb.size) fun j u hj _ _ _ hne h=>jW j u _ _ h h3⟩
  ·cases ho;have e1:a.eval (aJ 1)=V (au ⟨b1,0,ay⟩):=seen.kp 1 _ (nd 1 (by omega)) rfl;exact Rg.dG rfl rfl (Rg.dW a.eval _ 30 (aJ 1) 1 rfl (by rw [e1]; simp [go_sem])) (hK _ _ rfl (aA _ _) fun _ _ _ _ _ _ _ h=>h)
 ·intro kk o h1 h2 ho;rcases (by omega:kk=8\/kk=9) with rfl|rfl
  ·cases ho;exact⟨⟨7,.phase⟩,by simp,rfl,rfl⟩
  ·cases ho;exact⟨⟨8,.data⟩,by simp,rfl,rfl⟩
 ·intro a w' df sz kp ⟨vs,hv⟩ hb;have sz':a.tmps.size=82:=sz;have g1:a.tmps[1]?=au (V (au ⟨b1,0,ay⟩)):=(kp 1 (nd 1 (by omega))).trans rfl;have g12:a.tmps[12]?=au (V (au ⟨b1,1,ay⟩)):=by
   have h:vs 6=V (au ⟨b1,1,ay⟩):=(hv 6 (by omega)).2 (by decide);rw [<- h];exact (hv 6 (by omega)).1
  obtain⟨⟨p1,q1,s1⟩,hs1,ho1⟩:=(hv 2 (by omega)).2 (by decide);have g8:a.tmps[8]?=au (L p1 q1 s1):=((hv 2 (by omega)).1).trans (congrArg au hs1);rw [hs1] at ho1;obtain⟨⟨p3,q3,s3⟩,hs3,ho3⟩:=(hv 5 (by omega)).2 (by decide);have g11:a.tmps[11]?=au (L p3 q3 s3):=((hv 5 (by omega)).1).trans (congrArg au hs3);rw [hs3] at ho3;have hB:=H1.out.on hb;have hlt:=H1.out.lt;show Rg.fZ _ _ _ 3 7 a w';simp only [Rg.fZ];have c1x:=hB.cell 1;have f1x:=hB.fr 1;simp only [ah,aj,ak] at c1x;refine Rg.gu 24 (aJ 12) (aJ 8) rfl rfl rfl rfl (Rg.dP g12) (Rg.dP g8) (w':=(w').setCell ⟨b1,1,ay⟩ (L p1 q1 s1)) (by simp [go_sem,c1x,f1x]) ?_;have hB1:dK ((w').setCell ⟨b1,1,ay⟩ (L p1 q1 s1)) b1 #[O U me,L p1 q1 s1,z2,L o3 n3 c3,z4,z5] 30:=by simpa using eu (k:=1) hB (L p1 q1 s1)
  refine Rg.dG rfl rfl (Rg.dW _ _ 30 (aJ 1) 3 rfl (v:=V (au ⟨b1,3,ay⟩)) (by rw [Rg.dP g1]; simp [go_sem])) ?_;have amN:((a).put (au 13) (V (au ⟨b1,3,ay⟩))).tmps[13]?=au (V (au ⟨b1,3,ay⟩)):=by simp [Act.put,sz']
  show Go.wpOp _ _ _ 9 _ ((a).put (au 13) (V (au ⟨b1,3,ay⟩))) _;have c3x:=hB1.cell 3;have f3x:=hB1.fr 3;simp only [ah,aj,ak] at c3x;refine Rg.gu 26 (aJ 13) (aJ 11) rfl rfl rfl rfl (Rg.dP amN) (Rg.dP ((Rg.get_put _ 13 _ 11 (by decide)).trans g11)) (w':=((w').setCell ⟨b1,1,ay⟩ (L p1 q1 s1)).setCell ⟨b1,3,ay⟩ (L p3 q3 s3)) (by simp [go_sem,c3x,f3x]) ?_;have hB3:dK (((w').setCell ⟨b1,1,ay⟩ (L p1 q1 s1)).setCell ⟨b1,3,ay⟩ (L p3 q3 s3)) b1 #[O U me,L p1 q1 s1,z2,L p3 q3 s3,z4,z5] 30:=by simpa using eu (k:=3) hB1 (L p3 q3 s3)
  have rJ:∀ j,(j<6\/14<=j)->((a).put (au 13) (V (au ⟨b1,3,ay⟩))).tmps[j]?=(T::V (au ⟨b1,0,ay⟩)::a0::a3::a4::a5::g0::g6::g9::gE::gO::gR::gS::hC::a6::a7::a8::aE::b9::bJ::bQ::c7::c8::c9::cA::cC::cD::cF::cG::cH::cI::cJ::cL::cM::cN::cP::cQ::cR::cS::cT::cU::cV::cW::cX::cY::d1::d3::d4::d5::d7::d9::dA::dC::dE::dS::dT::eA::eB::eC::eE::eI::eJ::eK::eL::eM::eN::eQ::eS::eV::eW::f0::f7::f8::f9::fL::fN::fP::fR::fS::fW::fX::fY::[])[j]?:=fun j hj=>(Rg.get_put _ 13 _ j (by omega)).trans ((kp j (nd j (by omega))).trans ah);obtain⟨mid,hmid,hfr⟩:=Rg.gM (a:=(a).put (au 13) (V (au ⟨b1,3,ay⟩))) 6 8 df (by simp [Rg.size_put,sz']) (by simp) rJ;show Q .normal ((a).put (au 13) (V (au ⟨b1,3,ay⟩))) _;rw [hfr]
  match mid,hmid with
  | [hG,hH,hJ,hL,hM,hO,hS,hT],_ =>
   exact HQ.out _ _ _ _ _ _ _ _ _ p1 q1 s1 p3 q3 s3 hB3 (eZ (eZ ho1 b1 1 (L p1 q1 s1) hlt) b1 3 (L p3 q3 s3) hlt) (eZ (eZ ho3 b1 1 (L p1 q1 s1) hlt) b1 3 (L p3 q3 s3) hlt) (fun B hBl=>(((hb.mono (Nat.le_of_lt (Nat.lt_of_le_of_lt hBl hlt))).setCell (p:=⟨b1,1,ay⟩) hBl (L p1 q1 s1)).setCell (p:=⟨b1,3,ay⟩) hBl (L p3 q3 s3))) (fun k hk hne=>((aF ((w').setCell ⟨b1,1,ay⟩ (L p1 q1 s1)) ⟨b1,3,ay⟩ (L p3 q3 s3) k hne).trans ((aF (w') ⟨b1,1,ay⟩ (L p1 q1 s1) k hne).trans (hb.block k hk))))
def gJ (l:List Ad) (x:eU):Option Ad:=l.find? fun a=>decide (a.id=x)
theorem xu {l:List Ad} {x:eU} (h:∀ (j:Nat) (a:Ad),l[j]?=au a->a.id≠x):gJ l x=ay:=by
 unfold gJ;rw [List.find?_eq_none];intro a ha;obtain⟨j,hj⟩:=List.mem_iff_getElem?.1 ha;simpa using h j a hj
theorem vB:∀ {l:List Ad} {x:eU} {k:Nat} {a:Ad},l[k]?=au a->a.id=x->(∀ (j:Nat) (z:Ad),j<k->l[j]?=au z->z.id≠x)->gJ l x=au a
 | [],_,_,_,h,_,_=>by simp at h
 | b::l,x,0,a,h,hx,_=>by
  obtain rfl:b=a:=by simpa using h
  simp [gJ,hx]
 | b::l,x,k+1,a,h,hx,hall=>by
  have hb:=hall 0 b (by omega) rfl;have ih:=vB (l:=l) (x:=x) (k:=k) (a:=a) (by simpa using h) hx fun j z hj hz=>hall (j+1) z (by omega) (by simpa using hz);unfold gJ at *;rw [List.find?_cons_of_neg (by simpa using hb)];exact ih
def ajS (W:aI) (o:Option Ad) (w:aI) (e:Ending) (w':aI):Prop:=(match o with
 | none=>e=.returned (.tuple #[nD (0,0,(ay,0,0),0),aN false])
 | some a=>∃ r:kY,e=.returned (.tuple #[nD r,aN true])/\uU w' r a)/\Below W.heap.size w w'
theorem Kt (me:Int) (nv sv ev ov:aK) (av:Sl) (l:List kY) (al:List Ad) (x:eU) (w:aI) (hs:xQ w (dX av) l) (hA:eY (uU w) l al) (hf:∀ a∈al,a.p.length<=900) :
  Calls Tryz.prog 116 #[.agg #[O U me,nv,dX av,sv,ev,ov],nC x] w (ajS w (gJ al x) w):=by
 obtain⟨c,d⟩:=x;obtain⟨so,sn,sc⟩:=av;obtain⟨ao,ac,hv⟩:=hs.len;have hv:L so sn sc=L ao l.length ac:=hv;obtain⟨rfl,rfl,rfl⟩:so=ao/\sn=l.length/\sc=ac:=by simpa using hv
 obtain⟨h0,h1,h2⟩:=iI w #[O U me,nv,L so l.length sc,sv,ev,ov] #[O U c,O U d] 30 23;have h3:=gN ((w.alloc (aB #[O U me,nv,L so l.length sc,sv,ev,ov] 30)).alloc (aB #[O U c,O U d] 23)) (aB #[O U 0,O U 0,L ay 0 0,O U 0] 36);have h4:=dQ ((w.alloc (aB #[O U me,nv,L so l.length sc,sv,ev,ov] 30)).alloc (aB #[O U c,O U d] 23)) #[O U 0,O U 0,L ay 0 0,O U 0] 36;have hsz:((w.alloc (aB #[O U me,nv,L so l.length sc,sv,ev,ov] 30)).alloc (aB #[O U c,O U d] 23)).heap.size=w.heap.size+1+1:=by simp
 rw [hsz] at h4;have B:=J (h0.trans (h3.mono h0.size));have HS:=J (hs.on B.out);have HA:=J (hA.mono fun _ _ h=>h.on B.out);have X2:=J (h1.on h3);have X3:=J (h2.on h3);have X4:=J h4;have HF:=J hf;have lm:=hs.most;unfold maxLen at lm;obtain⟨n,hn⟩:∃ n,n=l.length:=⟨_,rfl⟩;have q3:=X2.out.cell 2;simp only [ah,aj,ak] at q3;rw [<- hn] at HS X2 X3 X4 HA lm q3 B ⊢;have HN:=J hn.symm;obtain⟨fo,hfo⟩:∃ o,o=gJ al (c,d):=⟨_,rfl⟩;rw [<- hfo];have FO:=J hfo;clear h0 h1 h2 h3 h4 hs hv hn hA hf hsz hfo;go_enter Tryz.func116,Tryz.ntmps116;go_upto_region 1 with fail;generalize ((w.alloc (aB #[O U me,nv,L so n sc,sv,ev,ov] 30)).alloc (aB #[O U c,O U d] 23)).alloc (aB #[O U 0,O U 0,L ay 0 0,O U 0] 36)=W at *;go_wp2
 go_loopw [11] (fun i wr=>∃ k:Nat,k<=n/\i=O U k/\Below W.heap.size W wr/\∀ (j:Nat) (y:kY),j<k->l[j]?=au y->(y.1,y.2.1)≠(c,d)) (fun i _=>n-(intOf i).toNat)
 case atStart=>exact⟨0,aM _,rfl,aA _ _,fun j y h=>by omega⟩
 case round =>
  obtain⟨k,hk,rfl,hbe,hall⟩:=hrel;have BE:=J hbe;have AL:=J hall;clear hbe hall;by_cases hlt:k<n
  ·obtain⟨y,hy⟩:∃ y,l[k]?=au y:=⟨_,Z (by rw [HN.out]; exact hlt)⟩;obtain⟨p,ix,px⟩:=NK HS.out rfl HN.out hy;obtain⟨p0,p1,p2,p3⟩:=px wr BE.out;obtain⟨y1,y2,⟨yo,yn,yc⟩,y4⟩:=y;simp only at p0 p1 p2 p3;have NB:=J (gN wr (aB #[O U y1,O U y2,L yo yn yc,O U y4] 36));obtain⟨x0,x1⟩:=((X3.out.on BE.out).on NB.out).cs2;have hw3:IntKind.i64.wrap ((k:Int)+1)=(k:Int)+1:=IntWalk.i64_in _ (by omega);obtain⟨r,hr⟩:∃ r,(y1 == c && y2 == d)=r:=⟨_,rfl⟩;have he:=rH y1 y2 c d r hr;have HY:=J hy;have HR:=J hr;clear px hy hr;cases r
   ·go_wp2
    go_roundw
    case rel=>exact⟨k+1,by omega,by go_num,BE.out.trans (NB.out.mono BE.out.size),fun j y' hj h1=>by
     rcases aH j k with h3|h3
     ·exact AL.out j y' h3 h1
     ·obtain rfl:j=k:=by omega
      have e1:=HY.out;rw [h1] at e1;rw [aC e1];intro e;obtain⟨rfl,rfl⟩:y1=c/\y2=d:=by simpa using e
      have:=HR.out;simp at this⟩
    case measure=>simp [intOf]; omega
   ·obtain⟨a,ha⟩:∃ a,al[k]?=au a:=⟨_,Z (by rw [<- HA.out.len,HN.out]; exact hlt)⟩;obtain⟨z,hz1,hz2⟩:=HA.out.at k a ha;rw [HY.out] at hz1;obtain rfl:=aC hz1;have BA:=J (BE.out.trans (NB.out.mono BE.out.size));have C:=J (Cm (y1,y2,(yo,yn,yc),y4) a.p _ (hz2.2.2.on BA.out) (HF.out a (List.mem_of_getElem? ha)));have HZ:=J hz2;have h8:=HR.out;obtain⟨rfl,rfl⟩:y1=c/\y2=d:=by simpa using h8
    have FA:=J (show fo=au a by
     rw [FO.out];refine vB ha hz2.1.symm fun j z hj hzz=>?_;obtain⟨u,hu1,hu2⟩:=HA.out.at j z hzz;rw [<- hu2.1];exact AL.out j u hj hu1)
    have X4a:=(X4.out.on BE.out).on NB.out;clear hz1 hz2 ha h8;go_wp2_with fail;refine C.out.mono ?_;rintro e w1 ⟨⟨⟨T,a0,a3⟩,rfl,ho⟩,hb⟩;have Y1:=X4a.on hb;have B1:=J (BA.out.trans (hb.mono BA.out.size));obtain⟨r0,r1,r2,r3⟩:=Y1.Bt;obtain⟨t0,t1,t2,t3⟩:=Y1.fs4;have zz:=Y1.lt;have hs2:w.heap.size+1+1<(wr.alloc (aB #[O U y1,O U y2,L yo yn yc,O U y4] 36)).heap.size:=X4a.lt;have FB:=J (Ck Y1 (O U y1) (O U y2) (L T a0 a3) (O U y4));have BL:=J (xg (b:=w.heap.size+1+1) (B.out.trans (B1.out.mono B.out.size)) (by omega) (O U y1) (O U y2) (L T a0 a3) (O U y4));have FW:=J (Kj ho (w.heap.size+1+1) hs2 (O U y1) (O U y2) (L T a0 a3) (O U y4));clear Y1 ho hb hs2 X4a;go_wp2_with fail;obtain⟨a4,a5,a6,a7⟩:=FB.out.Bt;refine bodyPost_ret (v:=.tuple #[.agg #[O U y1,O U y2,L T a0 a3,O U y4],aN true]) (by simp [results,Tryz.results116,go_sem,a4,a5,a6,a7]) rfl ?_;rw [FA.out];exact⟨⟨(y1,y2,(T,a0,a3),y4),rfl,HZ.out.1,HZ.out.2.1,Row.dJ FW.out⟩,BL.out⟩
  ·obtain rfl:k=n:=by omega
   have FA:=J (show fo=ay by
    rw [FO.out];refine xu fun j z hzz=>?_;obtain⟨u,hu1,hu2⟩:=HA.out.at j z hzz;rw [<- hu2.1];exact AL.out j u (by rw [<- HN.out]; exact (aD.1 hu1).1) hu1)
   have Y1:=X4.out.on BE.out;obtain⟨r0,r1,r2,r3⟩:=Y1.Bt;obtain⟨t0,t1,t2,t3⟩:=Y1.fs4;have zz:=Y1.lt;have FB:=J (Ck Y1 (O U 0) (O U 0) (L ay 0 0) (O U 0));have BL:=J (xg (b:=w.heap.size+1+1) (B.out.trans (BE.out.mono B.out.size)) (by omega) (O U 0) (O U 0) (L ay 0 0) (O U 0));clear Y1;go_wp2_with fail;obtain⟨a4,a5,a6,a7⟩:=FB.out.Bt;refine bodyPost_ret (v:=.tuple #[.agg #[O U 0,O U 0,L ay 0 0,O U 0],aN false]) (by simp [results,Tryz.results116,go_sem,a4,a5,a6,a7]) rfl ?_;rw [FA.out];exact⟨rfl,BL.out⟩
end Av
namespace Bk
open Go.RowKit Go.Sort Rw YtghlpefopidlaaaGreat.Nm
end Bk
end Go.Proofs.YtghlpefopidlaaaGreat
