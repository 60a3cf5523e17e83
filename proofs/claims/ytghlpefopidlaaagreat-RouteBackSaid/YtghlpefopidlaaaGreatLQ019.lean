/-
  slices.BinarySearchF. Conditions as told.
-/
import Derived.Test.YtghlpefopidlaaaGreatLQ013
import Derived.Deep.LoopGhost
import Derived.Test.YtghlpefopidlaaaGreatLQ016
set_option maxRecDepth 100000
set_option maxHeartbeats 64000000
open _root_.Go renaming Value->aJ,World->aM,Addr->aV,Calls->bf
open Go.IntKind renaming i64->ak
open Go.Lib renaming hid->J,compact->aj,compactUpTo->aG
open Go.Operand renaming tmp->au
open Go.Proofs.Tryz renaming prog->aN,func44->aY,sortI->aZ,cptI->bg
open Go.Proofs.YtghlpefopidlaaaGreat.Rg renaming dG->aI,dW->aU,dU->aX,gD->bF,qC->bG,fZ->bH,dP->bI
open Go.RowKit.Below renaming refl->V
open Go.Sort renaming ahead->aF
open Go.Value renaming slice->L,pointer->O,int->ah
open _root_.List renaming getElem?_toArray->ay,getElem?_eq_getElem->aA,getElem?_cons_zero->aC,getElem?_cons_succ->aD,getElem?_eq_some_iff->aH,replicate->aO,getElem?_take->aR,mem_singleton->aS,length_append->aT
open _root_.Nat renaming le_refl->aK,lt_or_ge->aL,le_trans->aP,mul_le_mul_right->aQ,le_of_lt->aW
open _root_.Option renaming none->U,some->Z
open _root_.Or renaming inr->aB
namespace Go.Proofs.YtghlpefopidlaaaGreat
namespace Av
open Go.RowKit Go.Sort Rw YtghlpefopidlaaaGreat.Nm Pr Bk
abbrev tL (x:kY):eU:=(x.1,x.2.1)
theorem Xz {W W1:aM} {v:aJ} {l:List kY} {ao:Option aV} {n c k:Nat} {x:kY} (h:xQ W v l) (hv:v=L ao n c) (hn:l.length=n) (hk:l[k]?=Z x) (hb:Below W.heap.size W W1) :
  ∃ p:aV,(∀ w,(Instr.indexAt 25 (L ao n c) (ah ak k)).run aN w=.ok (O (Z p)) w) /\
   (∀ d os,(grow (redrawn W1 d) os).cell? p=Z (ah ak x.1))/\(∀ d os,(grow (redrawn W1 d) os).cell? ⟨p.block,p.off+1,U⟩=Z (ah ak x.2.1))/\(∀ d os,(grow (redrawn W1 d) os).cell? ⟨p.block,p.off+2,U⟩=Z (dX x.2.2.1))/\(∀ d os,(grow (redrawn W1 d) os).cell? ⟨p.block,p.off+3,U⟩=Z (ah ak x.2.2.2)):=by
 obtain⟨p,h1,h2⟩:=NK h hv hn hk;obtain⟨c0,c1,c2,c3⟩:=h2 _ hb;exact⟨p,h1,cell_regrown c0,cell_regrown c1,cell_regrown c2,cell_regrown c3⟩
theorem Qq {W:aM} {b:Nat} {c:kY} (h:dK W b #[ah ak c.1,ah ak c.2.1,dX c.2.2.1,ah ak c.2.2.2] 36):(∀ d os,(grow (redrawn W d) os).cell? ⟨b,0,U⟩=Z (ah ak c.1))/\(∀ d os,(grow (redrawn W d) os).cell? ⟨b,1,U⟩=Z (ah ak c.2.1))/\(∀ d os,(grow (redrawn W d) os).cell? ⟨b,2,U⟩=Z (dX c.2.2.1))/\(∀ d os,(grow (redrawn W d) os).cell? ⟨b,3,U⟩=Z (ah ak c.2.2.2)) :=
 ⟨cell_regrown (h.cell 0),cell_regrown (h.cell 1),cell_regrown (h.cell 2),cell_regrown (h.cell 3)⟩
theorem Qr (c d:kY) (r:Int) (hr:nE (c.1,c.2.1) (d.1,d.2.1)=r) (w:aM) (k:Nat) (os:Array Obj) :
  bf aN 36 #[nD c,nD d] (grow (redrawn w k) os) fun e w''=>e=.returned (ah ak r)/\∃ p:Regrown,w''=grow (redrawn w p.d) p.os:=by
 subst hr;exact Calls.regrown_of (TN c d _)
theorem ab7 (v:aJ) (l:List kY) (c:kY) (w:aM) (hv:xQ w v l) (hr:kS tL l) (hl:l.length<=900) :
  bf aN 103 #[v,nD c,.func (.func 36) #[] #[]] w fun e w'=>e=.returned (.tuple #[ah ak (fJ tL l (c.1,c.2.1)),.bool (iG tL l (c.1,c.2.1))])/\Below w.heap.size w w':=by
 have HL:=J hv;have HR:=J hr;have BX:=J (dQ w #[ah ak c.1,ah ak c.2.1,dX c.2.2.1,ah ak c.2.2.2] 36);have B1:=J ((V w.heap.size w).alloc (aK _) (.cells #[ah ak c.1,ah ak c.2.1,dX c.2.2.1,ah ak c.2.2.2] 36));obtain⟨ao,ac,rfl⟩:=hv.len;obtain⟨n,hn⟩:∃ n,n=l.length:=⟨_,rfl⟩;rw [<- hn] at HL hl ⊢;have HN:=J hn;obtain⟨cnt,hc⟩:∃ k,k=fJ tL l (c.1,c.2.1):=⟨_,rfl⟩;obtain⟨th,ht⟩:∃ k,k=iG tL l (c.1,c.2.1):=⟨_,rfl⟩;rw [<- hc,<- ht];have HC:=J hc;have HT:=J ht;clear hv hr hn hc ht;obtain⟨c1,c2,⟨c3,c4,c5⟩,c6⟩:=c;go_enter Tryz.func103,Tryz.ntmps103;go_wp2;generalize w.alloc (.cells #[ah ak c1,ah ak c2,L c3 c4 c5,ah ak c6] 36)=w1 at *
 go_loopg [9,10] n (fun kx s9 s10 wr=>∃ lo hi:Nat,s9=ah ak lo/\s10=ah ak hi/\lo<=hi/\hi<=n/\hi-lo<=kx/\Below w.heap.size w wr/\dK wr w.heap.size #[ah ak c1,ah ak c2,L c3 c4 c5,ah ak c6] 36 /\
  (∀ (t:Nat) (y:kY),t<lo->l[t]?=Z y->eH (y.1,y.2.1) (c1,c2)=true)/\(∀ (t:Nat) (y:kY),hi<=t->l[t]?=Z y->eH (y.1,y.2.1) (c1,c2)=false))
 case atStart=>exact⟨0,n,rfl,rfl,Nat.zero_le _,aK _,by omega,B1.out,BX.out,fun t y h=>by omega,fun t y h1 h2=>by have:=(aH.1 h2).1; have:=HN.out; omega⟩
 case round =>
  clear B1 BX;obtain⟨lo,hi,rfl,rfl,hlh,hin,hg,hb,hx,ha,hz⟩:=hrel;have B:=J hb;have X:=J hx;have AL:=J ha;have ZL:=J hz;clear hb hx ha hz;by_cases hlt:lo<hi
  ·obtain⟨y,hy⟩:∃ y,l[(lo+hi) / 2]?=Z y:=⟨_,aA (by have:=HN.out; omega)⟩;obtain⟨p,ix,p0,p1,p2,p3⟩:=Xz HL.out rfl HN.out.symm hy B.out;obtain⟨b0,b1,b2,b3⟩:=Qq (c:=(c1,c2,(c3,c4,c5),c6)) X.out;obtain⟨r,hr⟩:∃ r,nE (y.1,y.2.1) (c1,c2)=r:=⟨_,rfl⟩;have C:=Qr y (c1,c2,(c3,c4,c5),c6) r hr wr;have LE:=J (show decide (r<0)=eH (y.1,y.2.1) (c1,c2) by rw [<- hr]; exact Gn _ _);have Y:=J hy;clear hy hr;have e23:((lo:Int)+(hi:Int)) / 2=(((lo+hi) / 2:Nat):Int):=by omega
   generalize hm:(lo+hi) / 2=m at *;have BN:=J (fun dq osq=>B.out.trans ((below_regrown wr dq osq).mono B.out.size));have XN:=J (fun dq osq=>X.out.on (below_regrown wr dq osq));obtain⟨y1,y2,⟨yo,yn,yc⟩,y4⟩:=y;simp only at p0 p1 p2 p3 b0 b1 b2 b3 C;by_cases hneg:r<0
   ·have d0:decide (r<0)=true:=by simpa using hneg
    have LT:=J (show eH (y1,y2) (c1,c2)=true by rw [<- LE.out]; exact d0);go_wp2;refine wp_region_quiet_below (by kernel_rfl) (by kernel_rfl) ?_
    repeat (go_big_quiet_step (first | (with_reducible exact C _ _) | exact Gv _ _))
    refine wpQuiet_nil ?_;intro _ hw';obtain⟨⟨dq,osq⟩,hw''⟩:=hw';subst hw'';clear ix p0 p1 p2 p3 b0 b1 b2 b3 C;go_wp2
    go_roundg (hi-(m+1))
    case measure=>omega
    case rel=>exact⟨m+1,hi,by go_num,rfl,by omega,hin,aK _,BN.out _ _,XN.out _ _,fun t z h1 h2=>by
     rcases aL t m with h3|h3
     ·exact iV (kU HR.out (by omega) h2 Y.out) LT.out
     ·obtain rfl:t=m:=by omega
      rw [Y.out] at h2;rw [<- Option.some.inj h2];exact LT.out,ZL.out⟩
   ·have d0:decide (r<0)=false:=by simpa using hneg
    have LT:=J (show eH (y1,y2) (c1,c2)=false by rw [<- LE.out]; exact d0);go_wp2;refine wp_region_quiet_below (by kernel_rfl) (by kernel_rfl) ?_
    repeat (go_big_quiet_step (first | (with_reducible exact C _ _) | exact Gv _ _))
    refine wpQuiet_nil ?_;intro _ hw';obtain⟨⟨dq,osq⟩,hw''⟩:=hw';subst hw'';clear ix p0 p1 p2 p3 b0 b1 b2 b3 C;go_wp2
    go_roundg (m-lo)
    case measure=>omega
    case rel=>exact⟨lo,m,rfl,rfl,by omega,by omega,aK _,BN.out _ _,XN.out _ _,AL.out,fun t z h1 h2=>by
     cases h:eH (z.1,z.2.1) (c1,c2)
     ·rfl
     ·rcases aL m t with h3|h3
      ·have:=iV (kU HR.out h3 Y.out h2) h;rw [LT.out] at this;cases this
      ·obtain rfl:t=m:=by omega
       rw [Y.out] at h2;rw [<- Option.some.inj h2,LT.out] at h;cases h⟩
  ·obtain rfl:hi=lo:=by omega
   have E:=J (Gm tL l (c1,c2) hi AL.out (by
    rcases aL hi n with h|h
    ·exact aB ⟨_,aA (by have:=HN.out; omega),ZL.out hi _ (aK _) (aA (by have:=HN.out; omega))⟩
    ·exact Or.inl (by have:=HN.out; omega)))
   by_cases hn:hi<n
   ·obtain⟨y,hy⟩:∃ y,l[hi]?=Z y:=⟨_,aA (by have:=HN.out; omega)⟩;obtain⟨p,ix,p0,p1,p2,p3⟩:=Xz HL.out rfl HN.out.symm hy B.out;obtain⟨b0,b1,b2,b3⟩:=Qq (c:=(c1,c2,(c3,c4,c5),c6)) X.out;obtain⟨r,hr⟩:∃ r,nE (y.1,y.2.1) (c1,c2)=r:=⟨_,rfl⟩;have C:=Qr y (c1,c2,(c3,c4,c5),c6) r hr wr;have TH:=J (show th=(r == 0) by
     rw [HT.out,iG,E.out,hy,Bool.eq_iff_iff,beq_iff_eq,<- hr,vX,decide_eq_true_eq])
    have BN:=J (fun dq osq=>B.out.trans ((below_regrown wr dq osq).mono B.out.size));have CE:=J (show cnt=hi by rw [HC.out,E.out]);clear hy hr hlt;have g4:decide ((hi:Int)<(n:Int))=true:=by simp; omega
    obtain⟨y1,y2,⟨yo,yn,yc⟩,y4⟩:=y;simp only at p0 p1 p2 p3 b0 b1 b2 b3 C;go_wp2;refine wp_region_quiet_below (by kernel_rfl) (by kernel_rfl) ?_
    repeat (go_big_quiet_step (first | (with_reducible exact C _ _) | exact Gv _ _))
    refine wpQuiet_nil ?_;intro _ hw';obtain⟨⟨dq,osq⟩,hw''⟩:=hw';subst hw'';clear ix p0 p1 p2 p3 b0 b1 b2 b3 C;go_wp2
    go_ret2
    exact⟨by rw [TH.out,CE.out]; rfl,BN.out _ _⟩
   ·have TH:=J (show th=false by
     rw [HT.out,iG,E.out,List.getElem?_eq_none (by have:=HN.out; omega)])
    have CE:=J (show cnt=hi by rw [HC.out,E.out]);have BN:=J (fun dq osq=>B.out.trans ((below_regrown wr dq osq).mono B.out.size));have g4:decide ((hi:Int)<(n:Int))=false:=by simp; omega
    clear hlt;go_wp2;refine wp_region_quiet_below (by kernel_rfl) (by kernel_rfl) ?_
    repeat (go_big_quiet_step (fail))
    refine wpQuiet_nil ?_;intro _ hw';obtain⟨⟨dq,osq⟩,hw''⟩:=hw';subst hw'';go_wp2
    go_ret2
    exact⟨by rw [TH.out,CE.out]; rfl,BN.out _ _⟩
def Qs (B:Nat) (b1:Nat) (_me:Int) (_z1 _z2 _z3 _z5:aJ) (g n cap k:Nat) (_y1 _y2 _y3 _y4:Int) (yo:Option aV) (yn yc:Nat) (_y6:Int) (_y7:Bool) (p:List C5) (i:Nat) (v:aJ) (x:aM):Prop :=
 match i with
 | 0=>v=O (Z ⟨b1,4,U⟩)
 | 1=>v=L (Z ⟨g,0,U⟩) n cap
 | 2=>v=ah ak (k:Int)
 | 3=>v=O (Z ⟨b1,4,U⟩)
 | 4=>v=L (Z ⟨g,0,U⟩) n cap
 | 5=>v=ah ak (k:Int)
 | 6=>v=O (Z ⟨g,k * 7,U⟩)
 | 7=>v=O (Z ⟨g,k * 7+4,U⟩)
 | 8=>v=L yo yn yc
 | 9=>∃ s:Sl,v=dX s/\iJ x B v p
 | 10=>v=O (Z ⟨g,k * 7,U⟩)
 | 11=>v=O (Z ⟨g,k * 7+4,U⟩)
 | _=>True
noncomputable def adK:Code:=((Tryz.f33.body.bind (eO 11)).getD .skip)
theorem XA (B:Nat) (b1:Nat) (me:Int) (z1 z2 z3 z5:aJ) (g n cap k:Nat) (y1 y2 y3 y4:Int) (yo:Option aV) (yn yc:Nat) (y6:Int) (y7:Bool) (p:List C5) (i:Nat) (v:aJ) (x x':aM) (h:Qs B b1 me z1 z2 z3 z5 g n cap k y1 y2 y3 y4 yo yn yc y6 y7 p i v x) (hb:Below x.heap.size x x'):Qs B b1 me z1 z2 z3 z5 g n cap k y1 y2 y3 y4 yo yn yc y6 y7 p i v x':=by
 by_cases hi:i<12
 ·rcases (by omega:i=0\/i=1\/i=2\/i=3\/i=4\/i=5\/i=6\/i=7\/i=8\/i=9\/i=10\/i=11) with rfl|rfl|rfl|rfl|rfl|rfl|rfl|rfl|rfl|rfl|rfl|rfl
  ·exact h
  ·exact h
  ·exact h
  ·exact h
  ·exact h
  ·exact h
  ·exact h
  ·exact h
  ·exact h
  ·obtain⟨s,h1,h2⟩:=h; exact⟨s,h1,Bk.dI h2 hb⟩
  ·exact h
  ·exact h
 ·unfold Qs
  split <;> first | omega | trivial
theorem amO (Q:Exit->Act->aM->Prop) (W:aM) (B0:Nat) (l:List jk) (b1:Nat) (me:Int) (z1 z2 z3 z5:aJ) (g n cap k:Nat) (y1 y2 y3 y4:Int) (yo:Option aV) (yn yc:Nat) (y6:Int) (y7:Bool) (p:List C5) (T a0 a3 a4 a5 a6 a7 a8 aE b9 bJ bQ c7 c8 c9 cA cC cD cF cG cH cI cJ cL cM cN cP cQ cR cS cT cU cV cW cX cY d1 d3 d4 d5 d7 d9 dA dC dE dS dT fN fP fR fS fW fX fY g0 g6 g9 gE gO e7 e9 eA eB eC eE eI eJ eK eL eM eN eQ eS eV eW f0 f7 f8 f9 fL:aJ)
  (h1:dK W b1 #[ah ak me,z1,z2,z3,L (Z ⟨g,0,U⟩) n cap,z5] 30) (ho:jH W B0 (L (Z ⟨g,0,U⟩) n cap) l) (hy:l[k]?=Z (y1,y2,y3,y4,(yo,yn,yc),y6,y7)) (hp:fI W (L yo yn yc) p) (lp:p.length<=900)
  (hQ:∀ (x:aM) (gR gS hC hG hH hJ hL hM hO hS hT hU:aJ) (s1:Option aV) (s2 s3:Nat),iJ x W.heap.size (L s1 s2 s3) p->jH x B0 (L (Z ⟨g,0,U⟩) n cap) (l.set k (y1,y2,y3,y4,(s1,s2,s3),y6,y7))->But g W x->(∀ B1,B1<=g->B1<=W.heap.size->Below B1 W x)->Q .normal ⟨(T::O (Z ⟨b1,0,U⟩)::a0::a3::ah ak (k:Int)::a4::a5::a6::a7::a8::aE::b9::bJ::bQ::c7::c8::c9::cA::cC::cD::cF::cG::cH::cI::cJ::cL::cM::cN::cP::cQ::cR::cS::cT::cU::cV::cW::cX::cY::d1::d3::d4::d5::d7::d9::dA::dC::dE::dS::dT::gR::gS::hC::hG::hH::hJ::hL::hM::hO::hS::hT::hU::e7::e9::eA::eB::eC::eE::eI::eJ::eK::eL::eM::eN::eQ::eS::eV::eW::f0::f7::f8::f9::fL::[]).toArray,[]⟩ x) :
  Code.wp aN adK Q ⟨(T::O (Z ⟨b1,0,U⟩)::a0::a3::ah ak (k:Int)::a4::a5::a6::a7::a8::aE::b9::bJ::bQ::c7::c8::c9::cA::cC::cD::cF::cG::cH::cI::cJ::cL::cM::cN::cP::cQ::cR::cS::cT::cU::cV::cW::cX::cY::d1::d3::d4::d5::d7::d9::dA::dC::dE::dS::dT::fN::fP::fR::fS::fW::fX::fY::g0::g6::g9::gE::gO::e7::e9::eA::eB::eC::eE::eI::eJ::eK::eL::eM::eN::eQ::eS::eV::eW::f0::f7::f8::f9::fL::[]).toArray,[]⟩ W:=by
 have HQ:=J hQ;have H1:=J h1;have HO:=J ho;have HY:=J hy;have HP:=J hp;have LP:=J lp;have IX:=J (nT mM g k n cap (by obtain⟨_,_,hv⟩:=(Row.dJ ho).len; have h:=(aH.1 hy).1; simp at hv; omega));have EL:=J (kE mM ho hy);clear hQ h1 ho hy hp lp;have jW:=XA W.heap.size b1 me z1 z2 z3 z5 g n cap k y1 y2 y3 y4 yo yn yc y6 y7 p;unfold adK
 conv=>arg 2; whnf
 have nd:∀ j,(j<49\/61<=j)->∀ i,i<12->(fun i=>49+i) i≠j:=by
  intro j hj i hi h;simp only at h;omega
 refine Rg.gU 13 12 (fun i=>49+i) (fun _=>12) (Qs W.heap.size b1 me z1 z2 z3 z5 g n cap k y1 y2 y3 y4 yo yn yc y6 y7 p) (by kernel_rfl) (by kernel_rfl) rfl (by decide) (fun i j _ _ h=>by have h2:49+i=49+j:=h; omega) (fun i hi=>by show 49+i<82; omega) ?_ (fun _=>Rg.kL 14 (by kernel_rfl)) ?_ ?_
 ·intro i o hi ho a x D hnd hc hD hb seen K hK;clear HQ;rcases (by omega:i=0\/i=1\/i=2\/i=3\/i=4\/i=5\/i=6\/i=7\/i=8\/i=9\/i=10\/i=11) with rfl|rfl|rfl|rfl|rfl|rfl|rfl|rfl|rfl|rfl|rfl|rfl
  ·cases ho;have e1:a.eval (au 1)=O (Z ⟨b1,0,U⟩):=seen.kp 1 _ (nd 1 (by omega)) rfl;exact aI rfl rfl (aU a.eval _ 30 (au 1) 4 rfl (by rw [e1]; simp [go_sem])) (hK _ _ rfl (V _ _) fun _ _ _ _ _ _ _ h=>h)
  ·cases ho;have e49:a.eval (au 49)=O (Z ⟨b1,4,U⟩):=seen.at_ ⟨0,.data⟩ (by simp) rfl (aB (by decide));have y4:=(H1.out.on hb).cell 4;simp only [ay,aC,aD] at y4;exact aI rfl rfl (aX a.eval _ 27 (au 49) rfl (by rw [e49]; simp [go_sem,y4])) (hK _ _ rfl (V _ _) fun _ _ _ _ _ _ _ h=>h)
  ·cases ho;have e4:a.eval (au 4)=ah ak (k:Int):=seen.kp 4 _ (nd 4 (by omega)) rfl;exact aI rfl rfl (bF a.eval _ (au 4) rfl x) (hK _ _ e4 (V _ _) fun _ _ _ _ _ _ _ h=>h)
  ·cases ho;have e1:a.eval (au 1)=O (Z ⟨b1,0,U⟩):=seen.kp 1 _ (nd 1 (by omega)) rfl;exact aI rfl rfl (aU a.eval _ 30 (au 1) 4 rfl (by rw [e1]; simp [go_sem])) (hK _ _ rfl (V _ _) fun _ _ _ _ _ _ _ h=>h)
  ·cases ho;have e52:a.eval (au 52)=O (Z ⟨b1,4,U⟩):=seen.at_ ⟨3,.data⟩ (by simp) rfl (aB (by decide));have y4:=(H1.out.on hb).cell 4;simp only [ay,aC,aD] at y4;exact aI rfl rfl (aX a.eval _ 27 (au 52) rfl (by rw [e52]; simp [go_sem,y4])) (hK _ _ rfl (V _ _) fun _ _ _ _ _ _ _ h=>h)
  ·cases ho;have e4:a.eval (au 4)=ah ak (k:Int):=seen.kp 4 _ (nd 4 (by omega)) rfl;exact aI rfl rfl (bF a.eval _ (au 4) rfl x) (hK _ _ e4 (V _ _) fun _ _ _ _ _ _ _ h=>h)
  ·cases ho;have e53:a.eval (au 53)=L (Z ⟨g,0,U⟩) n cap:=seen.at_ ⟨4,.data⟩ (by simp) rfl (aB (by decide));have e54:a.eval (au 54)=ah ak (k:Int):=seen.at_ ⟨5,.data⟩ (by simp) rfl (aB (by decide));exact aI rfl rfl (bG a.eval _ 27 (au 53) (au 54) rfl (by rw [e53,e54]; exact IX.out x)) (hK _ _ rfl (V _ _) fun _ _ _ _ _ _ _ h=>h)
  ·cases ho;have e55:a.eval (au 55)=O (Z ⟨g,k * 7,U⟩):=seen.at_ ⟨6,.data⟩ (by simp) rfl (aB (by decide));exact aI rfl rfl (aU a.eval _ 67 (au 55) 2 rfl (by rw [e55]; simp [go_sem])) (hK _ _ rfl (V _ _) fun _ _ _ _ _ _ _ h=>h)
  ·cases ho;have e56:a.eval (au 56)=O (Z ⟨g,k * 7+4,U⟩):=seen.at_ ⟨7,.data⟩ (by simp) rfl (aB (by decide));have y:=EL.out x hb 4 _ rfl;simp [Addr.add,EN] at y;exact aI rfl rfl (aX a.eval _ 34 (au 56) rfl (by rw [e56]; simp [go_sem,y])) (hK _ _ rfl (V _ _) fun _ _ _ _ _ _ _ h=>h)
  ·cases ho;have e57:a.eval (au 57)=L yo yn yc:=seen.at_ ⟨8,.data⟩ (by simp) rfl (aB (by decide));exact Rg.gP rfl rfl (Rw.iZ a.eval _ (au 57) 34 44 rfl e57 rfl _ (fV aY rfl rfl _ _)) (nX (yo,yn,yc) p x (HP.out.on hb) LP.out) fun e w1 h=>by
    obtain⟨⟨s,rfl,h1⟩,h3⟩:=h;exact⟨_,rfl,hK _ _ ⟨s,rfl,dM h1 hb.size⟩ (h3.mono hb.size) fun j u hj _ _ _ hne h=>jW j u _ _ h h3⟩
  ·cases ho;have e50:a.eval (au 50)=L (Z ⟨g,0,U⟩) n cap:=seen.at_ ⟨1,.data⟩ (by simp) rfl (aB (by decide));have e51:a.eval (au 51)=ah ak (k:Int):=seen.at_ ⟨2,.data⟩ (by simp) rfl (aB (by decide));exact aI rfl rfl (bG a.eval _ 27 (au 50) (au 51) rfl (by rw [e50,e51]; exact IX.out x)) (hK _ _ rfl (V _ _) fun _ _ _ _ _ _ _ h=>h)
  ·cases ho;have e59:a.eval (au 59)=O (Z ⟨g,k * 7,U⟩):=seen.at_ ⟨10,.data⟩ (by simp) rfl (aB (by decide));exact aI rfl rfl (aU a.eval _ 67 (au 59) 2 rfl (by rw [e59]; simp [go_sem])) (hK _ _ rfl (V _ _) fun _ _ _ _ _ _ _ h=>h)
 ·intro kk o h1 h2 ho;omega
 ·intro a w' df sz kp ⟨vs,hv⟩ hb;have sz':a.tmps.size=82:=sz;have g60:a.tmps[60]?=Z (O (Z ⟨g,k * 7+4,U⟩)):=by
   have h:vs 11=O (Z ⟨g,k * 7+4,U⟩):=(hv 11 (by omega)).2 (by decide);rw [<- h];exact (hv 11 (by omega)).1
  obtain⟨⟨s1,s2,s3⟩,hs,hc⟩:=(hv 9 (by omega)).2 (by decide);have g58:a.tmps[58]?=Z (L s1 s2 s3):=((hv 9 (by omega)).1).trans (congrArg Z hs);rw [hs] at hc;obtain⟨w2,hr,st1,st2,st3⟩:=ahR (k:=k) s1 s2 s3 (Bk.dI HO.out hb) HY.out;obtain⟨cur,hg⟩:=jL (Bk.dI HO.out hb);show bH _ _ _ 1 12 a w';simp only [bH];refine Rg.gu 34 (au 60) (au 58) rfl rfl rfl rfl (bI g60) (bI g58) (w':=w2) hr ?_;have rJ:∀ j,(j<49\/61<=j)->(a).tmps[j]?=(T::O (Z ⟨b1,0,U⟩)::a0::a3::ah ak (k:Int)::a4::a5::a6::a7::a8::aE::b9::bJ::bQ::c7::c8::c9::cA::cC::cD::cF::cG::cH::cI::cJ::cL::cM::cN::cP::cQ::cR::cS::cT::cU::cV::cW::cX::cY::d1::d3::d4::d5::d7::d9::dA::dC::dE::dS::dT::fN::fP::fR::fS::fW::fX::fY::g0::g6::g9::gE::gO::e7::e9::eA::eB::eC::eE::eI::eJ::eK::eL::eM::eN::eQ::eS::eV::eW::f0::f7::f8::f9::fL::[])[j]?:=fun j hj=>(kp j (nd j (by omega))).trans ay;obtain⟨mid,hmid,hfr⟩:=Rg.gM (a:=a) 49 12 df (by simp [sz']) (by simp) rJ;show Q .normal (a) _;rw [hfr]
  match mid,hmid with
  | [gR,gS,hC,hG,hH,hJ,hL,hM,hO,hS,hT,hU],_ =>
   exact HQ.out _ _ _ _ _ _ _ _ _ _ _ _ _ s1 s2 s3 (st2.own hc hg (by decide)) st1 ((But.of_below hb).trans st2) fun B1 hB hl=>st3 B1 W hB (hb.mono hl)
def Qt (B:Nat) (b1:Nat) (_me:Int) (_z1 _z2 _z3 _z4:aJ) (g n cap k:Nat) (_y1 _y2:Int) (yo:Option aV) (yn yc:Nat) (p:List C5) (i:Nat) (v:aJ) (x:aM):Prop :=
 match i with
 | 0=>v=O (Z ⟨b1,5,U⟩)
 | 1=>v=L (Z ⟨g,0,U⟩) n cap
 | 2=>v=ah ak (k:Int)
 | 3=>v=O (Z ⟨b1,5,U⟩)
 | 4=>v=L (Z ⟨g,0,U⟩) n cap
 | 5=>v=ah ak (k:Int)
 | 6=>v=O (Z ⟨g,k * 3,U⟩)
 | 7=>v=O (Z ⟨g,k * 3+2,U⟩)
 | 8=>v=L yo yn yc
 | 9=>∃ s:Sl,v=dX s/\iJ x B v p
 | 10=>v=O (Z ⟨g,k * 3,U⟩)
 | 11=>v=O (Z ⟨g,k * 3+2,U⟩)
 | _=>True
noncomputable def adL:Code:=((Tryz.f33.body.bind (eO 16)).getD .skip)
theorem XC (B:Nat) (b1:Nat) (me:Int) (z1 z2 z3 z4:aJ) (g n cap k:Nat) (y1 y2:Int) (yo:Option aV) (yn yc:Nat) (p:List C5) (i:Nat) (v:aJ) (x x':aM) (h:Qt B b1 me z1 z2 z3 z4 g n cap k y1 y2 yo yn yc p i v x) (hb:Below x.heap.size x x'):Qt B b1 me z1 z2 z3 z4 g n cap k y1 y2 yo yn yc p i v x':=by
 by_cases hi:i<12
 ·rcases (by omega:i=0\/i=1\/i=2\/i=3\/i=4\/i=5\/i=6\/i=7\/i=8\/i=9\/i=10\/i=11) with rfl|rfl|rfl|rfl|rfl|rfl|rfl|rfl|rfl|rfl|rfl|rfl
  ·exact h
  ·exact h
  ·exact h
  ·exact h
  ·exact h
  ·exact h
  ·exact h
  ·exact h
  ·exact h
  ·obtain⟨s,h1,h2⟩:=h; exact⟨s,h1,Bk.dI h2 hb⟩
  ·exact h
  ·exact h
 ·unfold Qt
  split <;> first | omega | trivial
theorem amP (Q:Exit->Act->aM->Prop) (W:aM) (B0:Nat) (l:List ny) (b1:Nat) (me:Int) (z1 z2 z3 z4:aJ) (g n cap k:Nat) (y1 y2:Int) (yo:Option aV) (yn yc:Nat) (p:List C5) (T a0 a3 a4 a5 a6 a7 a8 aE b9 bJ bQ c7 c8 c9 cA cC cD cF cG cH cI cJ cL cM cN cP cQ cR cS cT cU cV cW cX cY d1 d3 d4 d5 d7 d9 dA dC dE dS dT e7 e9 eA eB eC eE eI eJ eK eL eM eN eQ eS eV eW f0 f7 f8 fN fP fR fS fW fX fY g0 g6 g9 gE gO f9 fL:aJ)
  (h1:dK W b1 #[ah ak me,z1,z2,z3,z4,L (Z ⟨g,0,U⟩) n cap] 30) (ho:nM W B0 (L (Z ⟨g,0,U⟩) n cap) l) (hy:l[k]?=Z (y1,y2,(yo,yn,yc))) (hp:fI W (L yo yn yc) p) (lp:p.length<=900)
  (hQ:∀ (x:aM) (gR gS hC hG hH hJ hL hM hO hS hT hU:aJ) (s1:Option aV) (s2 s3:Nat),iJ x W.heap.size (L s1 s2 s3) p->nM x B0 (L (Z ⟨g,0,U⟩) n cap) (l.set k (y1,y2,(s1,s2,s3)))->But g W x->(∀ B1,B1<=g->B1<=W.heap.size->Below B1 W x)->Q .normal ⟨(T::O (Z ⟨b1,0,U⟩)::a0::a3::a4::ah ak (k:Int)::a5::a6::a7::a8::aE::b9::bJ::bQ::c7::c8::c9::cA::cC::cD::cF::cG::cH::cI::cJ::cL::cM::cN::cP::cQ::cR::cS::cT::cU::cV::cW::cX::cY::d1::d3::d4::d5::d7::d9::dA::dC::dE::dS::dT::e7::e9::eA::eB::eC::eE::eI::eJ::eK::eL::eM::eN::eQ::eS::eV::eW::f0::f7::f8::gR::gS::hC::hG::hH::hJ::hL::hM::hO::hS::hT::hU::f9::fL::[]).toArray,[]⟩ x) :
  Code.wp aN adL Q ⟨(T::O (Z ⟨b1,0,U⟩)::a0::a3::a4::ah ak (k:Int)::a5::a6::a7::a8::aE::b9::bJ::bQ::c7::c8::c9::cA::cC::cD::cF::cG::cH::cI::cJ::cL::cM::cN::cP::cQ::cR::cS::cT::cU::cV::cW::cX::cY::d1::d3::d4::d5::d7::d9::dA::dC::dE::dS::dT::e7::e9::eA::eB::eC::eE::eI::eJ::eK::eL::eM::eN::eQ::eS::eV::eW::f0::f7::f8::fN::fP::fR::fS::fW::fX::fY::g0::g6::g9::gE::gO::f9::fL::[]).toArray,[]⟩ W:=by
 have HQ:=J hQ;have H1:=J h1;have HO:=J ho;have HY:=J hy;have HP:=J hp;have LP:=J lp;have IX:=J (nT okW g k n cap (by obtain⟨_,_,hv⟩:=(Row.dJ ho).len; have h:=(aH.1 hy).1; simp at hv; omega));have EL:=J (kE okW ho hy);clear hQ h1 ho hy hp lp;have jW:=XC W.heap.size b1 me z1 z2 z3 z4 g n cap k y1 y2 yo yn yc p;unfold adL
 conv=>arg 2; whnf
 have nd:∀ j,(j<68\/80<=j)->∀ i,i<12->(fun i=>68+i) i≠j:=by
  intro j hj i hi h;simp only at h;omega
 refine Rg.gU 13 12 (fun i=>68+i) (fun _=>12) (Qt W.heap.size b1 me z1 z2 z3 z4 g n cap k y1 y2 yo yn yc p) (by kernel_rfl) (by kernel_rfl) rfl (by decide) (fun i j _ _ h=>by have h2:68+i=68+j:=h; omega) (fun i hi=>by show 68+i<82; omega) ?_ (fun _=>Rg.kL 14 (by kernel_rfl)) ?_ ?_
 ·intro i o hi ho a x D hnd hc hD hb seen K hK;clear HQ;rcases (by omega:i=0\/i=1\/i=2\/i=3\/i=4\/i=5\/i=6\/i=7\/i=8\/i=9\/i=10\/i=11) with rfl|rfl|rfl|rfl|rfl|rfl|rfl|rfl|rfl|rfl|rfl|rfl
  ·cases ho;have e1:a.eval (au 1)=O (Z ⟨b1,0,U⟩):=seen.kp 1 _ (nd 1 (by omega)) rfl;exact aI rfl rfl (aU a.eval _ 30 (au 1) 5 rfl (by rw [e1]; simp [go_sem])) (hK _ _ rfl (V _ _) fun _ _ _ _ _ _ _ h=>h)
  ·cases ho;have e68:a.eval (au 68)=O (Z ⟨b1,5,U⟩):=seen.at_ ⟨0,.data⟩ (by simp) rfl (aB (by decide));have y5:=(H1.out.on hb).cell 5;simp only [ay,aC,aD] at y5;exact aI rfl rfl (aX a.eval _ 28 (au 68) rfl (by rw [e68]; simp [go_sem,y5])) (hK _ _ rfl (V _ _) fun _ _ _ _ _ _ _ h=>h)
  ·cases ho;have e5:a.eval (au 5)=ah ak (k:Int):=seen.kp 5 _ (nd 5 (by omega)) rfl;exact aI rfl rfl (bF a.eval _ (au 5) rfl x) (hK _ _ e5 (V _ _) fun _ _ _ _ _ _ _ h=>h)
  ·cases ho;have e1:a.eval (au 1)=O (Z ⟨b1,0,U⟩):=seen.kp 1 _ (nd 1 (by omega)) rfl;exact aI rfl rfl (aU a.eval _ 30 (au 1) 5 rfl (by rw [e1]; simp [go_sem])) (hK _ _ rfl (V _ _) fun _ _ _ _ _ _ _ h=>h)
  ·cases ho;have e71:a.eval (au 71)=O (Z ⟨b1,5,U⟩):=seen.at_ ⟨3,.data⟩ (by simp) rfl (aB (by decide));have y5:=(H1.out.on hb).cell 5;simp only [ay,aC,aD] at y5;exact aI rfl rfl (aX a.eval _ 28 (au 71) rfl (by rw [e71]; simp [go_sem,y5])) (hK _ _ rfl (V _ _) fun _ _ _ _ _ _ _ h=>h)
  ·cases ho;have e5:a.eval (au 5)=ah ak (k:Int):=seen.kp 5 _ (nd 5 (by omega)) rfl;exact aI rfl rfl (bF a.eval _ (au 5) rfl x) (hK _ _ e5 (V _ _) fun _ _ _ _ _ _ _ h=>h)
  ·cases ho;have e72:a.eval (au 72)=L (Z ⟨g,0,U⟩) n cap:=seen.at_ ⟨4,.data⟩ (by simp) rfl (aB (by decide));have e73:a.eval (au 73)=ah ak (k:Int):=seen.at_ ⟨5,.data⟩ (by simp) rfl (aB (by decide));exact aI rfl rfl (bG a.eval _ 28 (au 72) (au 73) rfl (by rw [e72,e73]; exact IX.out x)) (hK _ _ rfl (V _ _) fun _ _ _ _ _ _ _ h=>h)
  ·cases ho;have e74:a.eval (au 74)=O (Z ⟨g,k * 3,U⟩):=seen.at_ ⟨6,.data⟩ (by simp) rfl (aB (by decide));exact aI rfl rfl (aU a.eval _ 88 (au 74) 1 rfl (by rw [e74]; simp [go_sem])) (hK _ _ rfl (V _ _) fun _ _ _ _ _ _ _ h=>h)
  ·cases ho;have e75:a.eval (au 75)=O (Z ⟨g,k * 3+2,U⟩):=seen.at_ ⟨7,.data⟩ (by simp) rfl (aB (by decide));have y:=EL.out x hb 2 _ rfl;simp [Addr.add,EW] at y;exact aI rfl rfl (aX a.eval _ 34 (au 75) rfl (by rw [e75]; simp [go_sem,y])) (hK _ _ rfl (V _ _) fun _ _ _ _ _ _ _ h=>h)
  ·cases ho;have e76:a.eval (au 76)=L yo yn yc:=seen.at_ ⟨8,.data⟩ (by simp) rfl (aB (by decide));exact Rg.gP rfl rfl (Rw.iZ a.eval _ (au 76) 34 44 rfl e76 rfl _ (fV aY rfl rfl _ _)) (nX (yo,yn,yc) p x (HP.out.on hb) LP.out) fun e w1 h=>by
    obtain⟨⟨s,rfl,h1⟩,h3⟩:=h;exact⟨_,rfl,hK _ _ ⟨s,rfl,dM h1 hb.size⟩ (h3.mono hb.size) fun j u hj _ _ _ hne h=>jW j u _ _ h h3⟩
  ·cases ho;have e69:a.eval (au 69)=L (Z ⟨g,0,U⟩) n cap:=seen.at_ ⟨1,.data⟩ (by simp) rfl (aB (by decide));have e70:a.eval (au 70)=ah ak (k:Int):=seen.at_ ⟨2,.data⟩ (by simp) rfl (aB (by decide));exact aI rfl rfl (bG a.eval _ 28 (au 69) (au 70) rfl (by rw [e69,e70]; exact IX.out x)) (hK _ _ rfl (V _ _) fun _ _ _ _ _ _ _ h=>h)
  ·cases ho;have e78:a.eval (au 78)=O (Z ⟨g,k * 3,U⟩):=seen.at_ ⟨10,.data⟩ (by simp) rfl (aB (by decide));exact aI rfl rfl (aU a.eval _ 88 (au 78) 1 rfl (by rw [e78]; simp [go_sem])) (hK _ _ rfl (V _ _) fun _ _ _ _ _ _ _ h=>h)
 ·intro kk o h1 h2 ho;omega
 ·intro a w' df sz kp ⟨vs,hv⟩ hb;have sz':a.tmps.size=82:=sz;have g79:a.tmps[79]?=Z (O (Z ⟨g,k * 3+2,U⟩)):=by
   have h:vs 11=O (Z ⟨g,k * 3+2,U⟩):=(hv 11 (by omega)).2 (by decide);rw [<- h];exact (hv 11 (by omega)).1
  obtain⟨⟨s1,s2,s3⟩,hs,hc⟩:=(hv 9 (by omega)).2 (by decide);have g77:a.tmps[77]?=Z (L s1 s2 s3):=((hv 9 (by omega)).1).trans (congrArg Z hs);rw [hs] at hc;obtain⟨w2,hr,st1,st2,st3⟩:=ahS (k:=k) s1 s2 s3 (Bk.dI HO.out hb) HY.out;obtain⟨cur,hg⟩:=jL (Bk.dI HO.out hb);show bH _ _ _ 1 12 a w';simp only [bH];refine Rg.gu 34 (au 79) (au 77) rfl rfl rfl rfl (bI g79) (bI g77) (w':=w2) hr ?_;have rJ:∀ j,(j<68\/80<=j)->(a).tmps[j]?=(T::O (Z ⟨b1,0,U⟩)::a0::a3::a4::ah ak (k:Int)::a5::a6::a7::a8::aE::b9::bJ::bQ::c7::c8::c9::cA::cC::cD::cF::cG::cH::cI::cJ::cL::cM::cN::cP::cQ::cR::cS::cT::cU::cV::cW::cX::cY::d1::d3::d4::d5::d7::d9::dA::dC::dE::dS::dT::e7::e9::eA::eB::eC::eE::eI::eJ::eK::eL::eM::eN::eQ::eS::eV::eW::f0::f7::f8::fN::fP::fR::fS::fW::fX::fY::g0::g6::g9::gE::gO::f9::fL::[])[j]?:=fun j hj=>(kp j (nd j (by omega))).trans ay;obtain⟨mid,hmid,hfr⟩:=Rg.gM (a:=a) 68 12 df (by simp [sz']) (by simp) rJ;show Q .normal (a) _;rw [hfr]
  match mid,hmid with
  | [gR,gS,hC,hG,hH,hJ,hL,hM,hO,hS,hT,hU],_ =>
   exact HQ.out _ _ _ _ _ _ _ _ _ _ _ _ _ s1 s2 s3 (st2.own hc hg (by decide)) st1 ((But.of_below hb).trans st2) fun B1 hB hl=>st3 B1 W hB (hb.mono hl)
end Av
namespace At
open Go.RowKit Va
abbrev V3:=Bool×Int×ByteArray
/-! ### the publications that numbers make -/
end At
namespace At
open Go.RowKit Go.Sort Va In
end At
namespace Av
open Go.RowKit Rw YtghlpefopidlaaaGreat.Nm Pr Bk Go.Sort
theorem XD {α:Type} [Inhabited α] (enc:α->aJ) (d:Array α) (cur:Array aJ) (h:d.size<=cur.size):(putCells enc 0 d cur).toList.take d.size=d.toList.map enc:=by
 apply List.ext_getElem?;intro j;rw [aR];by_cases hj:j<d.size
 ·have hc:j<cur.size:=by omega
  simp [putCells,hj,hc]
 ·simp [hj]
theorem Cy {α β:Type} [Inhabited β] {E:Ek α} (K:E.Ok) {w:aM} {B g cap:Nat} {l l':List α} (h:Own E w B (L (Z ⟨g,0,U⟩) l.length cap) l) (enc:β->aJ) (d:Array β) (hd:d.toList.map enc=flat E l') (hl:l'.length=l.length) (n:Nat) (os:Array Obj) :
  Own E (grow (putRow enc (aF w n) g 0 d) os) B (L (Z ⟨g,0,U⟩) l.length cap) l'/\w.grownBy (grow (putRow enc (aF w n) g 0 d) os) (Z g):=by
 have hds:d.size=l.length * E.n:=by
  rw [<- hl,<- eD K l',<- hd];simp
 rcases gB h with⟨e,_⟩|⟨g',cap',cur,e,h1,h2,h3,h4,h5,h6⟩
 ·cases e
 obtain⟨rfl,rfl⟩:g=g'/\cap=cap':=by simpa using e
 have hlt:=lt_of_heap h2;have hb:(grow (putRow enc (aF w n) g 0 d) os).heap[g]?=Z (.cells (putCells enc 0 d cur) E.t (0,0)):=by
  rw [heap_grow_old _ _ (by simp [putRow,mapBlock,aF]; exact hlt)];unfold dK at h2;simp only [putRow,mapBlock,aF,Array.getElem?_modify,if_true,h2]
  rfl
 have hfit:d.size<=cur.size:=by
  rw [hds,h5];exact aQ _ h3
 refine⟨⟨by rw [eD K],aB ⟨g,cap,_,by rw [hl],h1,hb,by rw [hl]; exact h3,h4,by simp [putCells]; exact h5,?_⟩⟩,⟨rfl,rfl,rfl,by simp [putRow,mapBlock,aF],fun k hk hne=>?_⟩⟩
 ·rw [hl,<- hds,XD enc d cur hfit,hd]
 ·rw [heap_grow_old _ _ (by simp [putRow,mapBlock,aF]; exact hk)];have hkg:g≠k:=fun e=>hne (by rw [e]);simp [putRow,mapBlock,aF,Array.getElem?_modify,hkg]
theorem Gw {α:Type} {E:Ek α} {w:aM} {B g cap:Nat} {l:List α} (K:E.Ok) {β:Type} [Inhabited β] (enc:β->aJ) (d:Array β) (hd:d.toList.map enc=flat E l) (h:Own E w B (L (Z ⟨g,0,U⟩) l.length cap) l):Holds enc w g 0 d/\g<w.heap.size:=by
 rcases gB h with⟨e,_⟩|⟨g',cap',cur,e,h1,h2,h3,h4,h5,h6⟩
 ·cases e
 obtain⟨rfl,rfl⟩:g=g'/\cap=cap':=by simpa using e
 refine⟨fun j hj=>?_,h2.lt⟩;rw [Nat.zero_add];refine⟨?_,h2.fr j⟩;rw [h2.cell j];have hsz:d.size=l.length * E.n:=by
  rw [<- eD K l,<- hd];simp
 have h7:(cur.toList.take (l.length * E.n))[j]?=(d.toList.map enc)[j]?:=by rw [h6,hd]
 rw [aR,if_pos (by omega)] at h7;rw [Array.getElem?_toList] at h7;rw [h7,List.getElem?_map,Array.getElem?_toList,getElem!_pos d j hj,Array.getElem?_eq_getElem hj]
 rfl
theorem Uh (w:aM) (B:Nat) (v:aJ) (l:List Int) (h:Ay w B v l) (hlen:l.length<=900):bf aN 40 #[v] w fun e w'=>e=.returned (.tuple #[])/\∃ l':List Int,Ay w' B v l'/\l'.Perm l/\l'.Pairwise (·<=·)/\w.grownBy w' v.ownBlock:=by
 rcases gB h with⟨rfl,rfl⟩|⟨g,cap,cur,rfl,h1,h2,h3,h4,h5,h6⟩
 ·have hc:=Any.slices_Sort_int_none aZ U 0 w;refine Calls.mono hc ?_;rintro e w' ⟨rfl,rfl⟩;exact⟨rfl,[],h,List.Perm.refl _,List.Pairwise.nil,Rw.tq _ _⟩
 ·obtain⟨hh,hlt⟩:=Gw Nm.VH (ah ak) l.toArray (by rw [JW]) h;have hc:=Any.slices_Sort_int aZ g 0 cap l w hh hlt (by omega);refine Calls.mono hc ?_;rintro e w' ⟨rfl,n,os,rfl⟩;have hs:=Cy Nm.VH (l':=l.mergeSort fun x y=>decide (x<=y)) h (ah ak) (l.mergeSort fun x y=>decide (x<=y)).toArray (by rw [JW]) (List.length_mergeSort l) n os;refine⟨rfl,_,hs.1,List.mergeSort_perm _ _,?_,hs.2⟩;have hp:=List.pairwise_mergeSort (le:=fun x y:Int=>decide (x<=y)) (fun a b c h1 h2=>by simp at h1 h2 ⊢; omega) (fun a b=>by simp; omega) l;exact hp.imp (fun {a b} hab=>by simpa using hab)
theorem Ku (d:Array Int) (n:Nat) (hs:∀ i j,i<=j->j<n->d[i]!<=d[j]!):∀ m,m<=n->(∀ x∈aG d m,∃ j,j<m/\d[j]! = x)/\(∀ j,j<m->d[j]!∈aG d m)/\(aG d m).Pairwise (·<·)
 | 0,_=>⟨fun x h=>by simp [aG] at h,fun j h=>by omega,by simp [aG]⟩
 | m+1,hm=>by
  obtain⟨h1,h2,h3⟩:=Ku d n hs m (by omega);rw [Lib.compactUpTo_succ];cases hk:Lib.keeps d m with
  | false =>
   simp only [Bool.false_eq_true,if_false,List.append_nil];have hk':m≠0/\d[m]! = d[m-1]!:=by
    have h:=of_decide_eq_false hk;rw [not_or] at h;exact⟨h.1,Classical.not_not.1 h.2⟩
   refine⟨fun x hx=>?_,fun j hj=>?_,h3⟩
   ·obtain⟨j,hj,e⟩:=h1 x hx;exact⟨j,by omega,e⟩
   ·rcases aL j m with h|h
    ·exact h2 j h
    ·obtain rfl:j=m:=by omega
     rw [hk'.2];exact h2 _ (by omega)
  | true =>
   simp only [if_true];have hk':m=0\/d[m]!≠d[m-1]!:=of_decide_eq_true hk;refine⟨fun x hx=>?_,fun j hj=>?_,?_⟩
   ·rcases List.mem_append.1 hx with h|h
    ·obtain⟨j,hj,e⟩:=h1 x h;exact⟨j,by omega,e⟩
    ·exact⟨m,by omega,(aS.1 h).symm⟩
   ·rcases aL j m with h|h
    ·exact List.mem_append_left _ (h2 j h)
    ·obtain rfl:j=m:=by omega
     exact List.mem_append_right _ (by simp)
   ·rw [List.pairwise_append];refine⟨h3,List.pairwise_singleton _ _,fun a ha b hb=>?_⟩;obtain⟨j,hj,rfl⟩:=h1 a ha;rw [aS.1 hb];have a1:=hs j (m-1) (by omega) (by omega);have a2:=hs (m-1) m (by omega) (by omega);rcases hk' with h|h
    ·omega
    ·omega
theorem Om (l:List Int) (hs:l.Pairwise (·<=·)):(aj l).Pairwise (·<·)/\(∀ x,x∈aj l↔x∈l)/\(aj l).length<=l.length:=by
 have hd:∀ i j,i<=j->j<l.length->l.toArray[i]!<=l.toArray[j]!:=by
  intro i j hij hj;rw [getElem!_pos l.toArray i (by simp; omega),getElem!_pos l.toArray j (by simpa using hj)];rcases aL i j with h|h
  ·have:=List.pairwise_iff_getElem.1 hs i j (by omega) hj h;simpa using this
  ·obtain rfl:i=j:=by omega
   exact Int.le_refl _
 obtain⟨h1,h2,h3⟩:=Ku l.toArray l.length hd l.length (aK _);refine⟨h3,fun x=>⟨fun hx=>?_,fun hx=>?_⟩,?_⟩
 ·obtain⟨j,hj,rfl⟩:=h1 x hx;rw [getElem!_pos l.toArray j (by simpa using hj)];simp
 ·obtain⟨j,hj,rfl⟩:=List.mem_iff_getElem.1 hx;have:=h2 j hj;rw [getElem!_pos l.toArray j (by simpa using hj)] at this;simpa [aj] using this
 ·unfold aj aG;rw [List.length_map];exact aP (List.length_filter_le _ _) (by simp)
theorem XF (w:aM) (B:Nat) (v:Sl) (l:List Int) (h:Ay w B (dX v) l) (hs:l.Pairwise (·<=·)) (hlen:l.length<=900):bf aN 41 #[dX v] w fun e w'=>(∃ v':Sl,e=.returned (dX v')/\∃ l':List Int,Ay w' B (dX v') l'/\l'.Pairwise (·<·)/\∀ x,x∈l'↔x∈l)/\w.grownBy w' (dX v).ownBlock:=by
 obtain⟨vo,vn,vc⟩:=v;rcases gB h with⟨h0,rfl⟩|⟨g,cap,cur,h0,h1,h2,h3,h4,h5,h6⟩
 ·obtain⟨rfl,rfl,rfl⟩:vo=U/\vn=0/\vc=0:=by simpa using h0
  have hc:=Any.slices_Compact_int_empty bg U 0 w;refine Calls.mono hc ?_;rintro e w' ⟨rfl,rfl⟩;exact⟨⟨(U,0,0),rfl,[],h,List.Pairwise.nil,fun _=>Iff.rfl⟩,Rw.tq _ _⟩
 ·obtain⟨rfl,rfl,rfl⟩:vo=Z ⟨g,0,U⟩/\vn=l.length/\vc=cap:=by simpa using h0
  obtain⟨hh,hlt⟩:=Gw Nm.VH (ah ak) l.toArray (by rw [JW]) h;have hc:=Any.slices_Compact_int bg g 0 vc l w hh (by omega) h3;obtain⟨c1,c2,c3⟩:=Om l hs;refine Calls.mono hc ?_;rintro e w' ⟨rfl,n,rfl⟩;have ht:=Cy Nm.VH (l':=aj l++aO (l.length-(aj l).length) 0) h (ah ak) (aj l++aO (l.length-(aj l).length) 0).toArray (by rw [JW]) (by rw [aT,List.length_replicate]; omega) n #[];have hg:grow (putRow (ah ak) (aF w n) g 0 (aj l++aO (l.length-(aj l).length) 0).toArray) #[]=putRow (ah ak) (aF w n) g 0 (aj l++aO (l.length-(aj l).length) 0).toArray:=grow_empty _;rw [hg] at ht;refine⟨⟨(Z ⟨g,0,U⟩,(aj l).length,vc),rfl,aj l,?_,c1,c2⟩,ht.2⟩;rcases gB ht.1 with⟨e,_⟩|⟨g',cap',cur',e,k1,k2,k3,k4,k5,k6⟩
  ·cases e
  ·obtain⟨rfl,_,rfl⟩:g=g'/\l.length=_/\vc=cap':=by simpa using e
   refine oI Nm.VH rfl k1 k2 (aP c3 h3) k4 k5 ?_;have k7:=congrArg (List.take ((aj l).length * EI.n)) k6;rw [List.take_take,qb Nm.VH,Nat.min_eq_left (aQ _ (by rw [aT]; omega)),List.take_left'] at k7
   ·exact k7
   ·rfl
abbrev Gx (me:Int) (near:List Int):Br:=⟨me,near,[],[],[],[]⟩
theorem XG (me:Int) (v:Sl) (l:List Int) (w:aM) (hv:uR w (dX v) l) (hl:l.length<=900) :
  bf aN 9 #[ah ak me,dX v] w fun e w'=>(∃ (l':List Int) (nv:Sl),e=.returned (mG me nv (U,0,0) (U,0,0) (U,0,0) (U,0,0))/\jq w' (Gx me l') nv (U,0,0) (U,0,0) (U,0,0) (U,0,0)/\(∃ B,Ay w' B (dX nv) l')/\l'.Pairwise (·<·)/\∀ x,x∈l'↔x∈l)/\Below w.heap.size w w':=by
 have n0:=gN w (.cells #[ah ak 0,L U 0 0,L U 0 0,L U 0 0,L U 0 0,L U 0 0] 30);have X:=J (dQ w #[ah ak 0,L U 0 0,L U 0 0,L U 0 0,L U 0 0,L U 0 0] 30);have C:=J (Ci v l _ (hv.on n0) hl);have B0:=J n0;have HL:=J hl;obtain⟨vo,vn,vc⟩:=v;clear hv hl n0;go_enter Tryz.func9,Tryz.ntmps9;go_wp2_with fail;generalize w.alloc (.cells #[ah ak 0,L U 0 0,L U 0 0,L U 0 0,L U 0 0,L U 0 0] 30)=W at *;refine C.out.mono ?_;rintro e1 w1 ⟨⟨⟨p1,p2,p3⟩,rfl,ho⟩,hb⟩;have B1:=J (B0.out.trans (hb.mono B0.out.size));have X1:=J (X.out.on hb);have hlt:w.heap.size<W.heap.size:=X.out.lt;have C2:=J (Uh w1 W.heap.size _ l ho HL.out);have OT:=J (fun g hg=>(ho.lt g hg).1);have HW:=J hlt;clear hb ho C X;go_wp2_with fail;refine C2.out.mono ?_;rintro e2 w2 ⟨rfl,l2,ho2,hp2,hs2,hg2⟩;have B2:=J (B1.out.grown hg2 B1.out.size (fun j hj=>aP (aW HW.out) (OT.out j hj)));have X2:=J (show dK w2 w.heap.size _ _ from (hg2.block _ X1.out.lt (fun e=>by have:=OT.out _ e.symm; have:=HW.out; omega)).trans X1.out);have C3:=J (XF w2 W.heap.size (p1,p2,p3) l2 ho2 hs2 (by rw [hp2.length_eq]; exact HL.out));have PM:=J hp2;have OT2:=J (fun g hg=>(ho2.lt g hg).1);clear ho2 hp2 hs2 hg2 C2 OT X1;go_wp2_with fail;refine C3.out.mono ?_;rintro e3 w3 ⟨⟨⟨t1,t2,t3⟩,rfl,l3,ho3,hs3,hm3⟩,hg3⟩;have B3:=J (B2.out.grown hg3 B2.out.size (fun j hj=>aP (aW HW.out) (OT2.out j hj)));have Y:=show dK w3 w.heap.size _ _ from (hg3.block _ X2.out.lt (fun e=>by have:=OT2.out _ e.symm; have:=HW.out; omega)).trans X2.out;obtain⟨y0,y1,y2,y3,y4,y5⟩:=Y.fD;obtain⟨f0,f1,f2,f3,f4,f5⟩:=Y.kK;have zz:=Y.lt;have FB:=J (dL Y (ah ak me) (L t1 t2 t3) (L U 0 0) (L U 0 0) (L U 0 0) (L U 0 0));have FL:=J (dH (b:=w.heap.size) B3.out (aK _) (ah ak me) (L t1 t2 t3) (L U 0 0) (L U 0 0) (L U 0 0) (L U 0 0));have FO:=J (gy ho3 w.heap.size HW.out (ah ak me) (L t1 t2 t3) (L U 0 0) (L U 0 0) (L U 0 0) (L U 0 0));have Q:=J (show l3.Pairwise (·<·)/\∀ x,x∈l3↔x∈l from ⟨hs3,fun x=>(hm3 x).trans PM.out.mem_iff⟩);clear ho3 hs3 hm3 hg3 Y X2 C3 B2 B1 B0;go_wp2_with fail;obtain⟨T,a0,a3,a4,a5,a6⟩:=FB.out.fD;refine bodyPost_ret (v:=.agg #[ah ak me,L t1 t2 t3,L U 0 0,L U 0 0,L U 0 0,L U 0 0]) (by simp [results,Tryz.results9,go_sem,T,a0,a3,a4,a5,a6]) rfl ?_;exact⟨⟨l3,(t1,t2,t3),rfl,⟨Row.dJ FO.out,⟨[],jo _,.nil⟩,jo _,⟨[],jo _,.nil⟩,⟨[],jo _,.nil⟩⟩,⟨_,FO.out⟩,Q.out.1,Q.out.2⟩,FL.out⟩
end Av
end Go.Proofs.YtghlpefopidlaaaGreat
