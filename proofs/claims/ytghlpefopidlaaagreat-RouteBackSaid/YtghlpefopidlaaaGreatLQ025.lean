/-
  Covered of broadside. Conditions as told.
-/
import Derived.Test.YtghlpefopidlaaaGreatLQ024
import Derived.Test.YtghlpefopidlaaaGreatLQ016
import Derived.Test.YtghlpefopidlaaaGreatLQ017
set_option maxRecDepth 100000
set_option maxHeartbeats 64000000
open _root_.Bool renaming false->U,true->au
open _root_.Go renaming World->aP,Value->aW,Calls->aZ
open Go.Calls renaming regrown_of->aO
open Go.IntKind renaming i64->L
open Go.Lib renaming hid->D
open Go.Obj renaming cells->Y
open Go.Proofs.Tryz renaming results57->aj,prog->aI,results126->aK
open Go.Proofs.YtghlpefopidlaaaGreat.Rw.Row renaming dJ->aJ
open Go.RowKit.Below renaming heap_setCell->O,refl->aB
open Go.Value renaming slice->J,int->K,bool->V,agg->aR,pointer->aT
open _root_.List renaming getElem?_eq_getElem->Z,mem_of_getElem?->aA,getElem?_cons_zero->aC,getElem?_cons_succ->aD,length_map->aG,getElem?_toArray->aH,getElem?_eq_some_iff->aN,takeWhile_cons->aQ,set_cons_succ->aS,mem_append->aV,map_cons->aY
open _root_.Nat renaming le_refl->ay,le_trans->aF,lt_or_ge->aL,zero_le->aU,le_succ->bf
open _root_.Option renaming none->X,some->ah
open Option.some renaming inj->ak
open _root_.Or renaming inr->aM,inl->aX
namespace Go.Proofs.YtghlpefopidlaaaGreat
namespace Bk
open Go.RowKit Rw YtghlpefopidlaaaGreat.Nm Pr Rl
def unR (c:C5):Cn:=(c.1,if c.2.1=1 then .rg c.2.2.1 c.2.2.2.1 else if c.2.1=2 then .tx c.2.2.2.2 else .pr c.2.2.2.2)
theorem ahW (c:Cn):unR (r5 c)=c:=by
 obtain⟨n,k⟩:=c;cases k <;> simp [unR,r5,kN,kH,kI,kT]
theorem oG (a:List Cn):(a.map r5).map unR=a:=by
 rw [List.map_map];have h:unR∘r5=id:=funext ahW;rw [h,List.map_id]
def dR (p:List C5):Prop:=∃ a:List Cn,NF a/\p=a.map r5
def oH (p q:List C5):Bool:=qV (p.map unR) (q.map unR)
theorem X9 (pO bv:aW) (p q:List C5) (w:aP) (ha:fI w pO p) (hb:fI w bv q) (hp:dR p) (hq:dR q) :
  aZ aI 164 #[pO,bv] w fun e w'=>e=.returned (V (oH p q))/\Below w.heap.size w w':=by
 obtain⟨a,na,rfl⟩:=hp;obtain⟨b,nb,rfl⟩:=hq;unfold oH;rw [oG,oG];exact Kl pO bv a b w ha hb (by have:=na.five; omega) (by have:=nb.five; omega)
def CJ (t:Id) (p:List C5) (e:En):Bool:=decide (e.tree=t) && (e.up && oH e.p p)
def fA (m:List En) (t:Id) (p:List C5):Bool:=m.any (CJ t p)
theorem yu (me:Int) (nv av sv ov:aW) (ev:Sl) (l:List jk) (m:List En) (x:Id) (pv:aW) (p':List C5) (w:aP) (hs:mh w (dX ev) l) (hu:eY (jJ w) l m) (hp:fI w pv p') (hok:∀ e∈m,dR e.p) (hop:dR p') :
  aZ aI 125 #[aR #[K L me,nv,av,sv,dX ev,ov],nC x,pv] w fun e w'=>e=.returned (V (fA m x p'))/\Below w.heap.size w w':=by
 have bJ:=D hu;have bQ:=D hp;have c9:=D hok;have cA:=D hop;obtain⟨pa,pc,rfl⟩:=hp.len;obtain⟨pn,hpn⟩:∃ n,n=p'.length:=⟨_,rfl⟩;rw [<- hpn] at bQ ⊢;clear hu hp hok hop hpn;obtain⟨c,d⟩:=x;obtain⟨so,sn,sc⟩:=ev;obtain⟨ao,ac,hv⟩:=hs.len;have hv:J so sn sc=J ao l.length ac:=hv;obtain⟨rfl,rfl,rfl⟩:so=ao/\sn=l.length/\sc=ac:=by simpa using hv
 obtain⟨h0,h1,h2⟩:=iI w #[K L me,nv,av,sv,J so l.length sc,ov] #[K L c,K L d] 30 23;have B:=D h0;have aE:=D (hs.on h0);have c8:=D h1;have a8:=D h2;have lm:=hs.most;unfold maxLen at lm;obtain⟨n,hn⟩:∃ n,n=l.length:=⟨_,rfl⟩;have q3:=h1.cell 4;simp only [aH,aC,aD] at q3;rw [<- hn] at aE c8 lm q3 B a8 ⊢;have a7:=D hn.symm;clear h0 h1 h2 hs hv hn;go_enter Tryz.func125,Tryz.ntmps125;go_upto_region 1 with fail;generalize (w.alloc (Y #[K L me,nv,av,sv,J so n sc,ov] 30)).alloc (Y #[K L c,K L d] 23)=W at *;go_wp2
 go_loopw [12] (fun i wr=>∃ k:Nat,k<=n/\i=K L k/\Below W.heap.size W wr/\∀ (j:Nat) (y:En),j<k->m[j]?=ah y->CJ (c,d) p' y=U) (fun i _=>n-(intOf i).toNat)
 case atStart=>exact⟨0,aU _,rfl,aB _ _,fun j y h=>by omega⟩
 case round =>
  obtain⟨k,hk,rfl,hbe,hall⟩:=hrel;have T:=D hbe;have a4:=D hall;clear hbe hall;by_cases hlt:k<n
  ·obtain⟨y,hy⟩:∃ y,l[k]?=ah y:=⟨_,Z (by rw [a7.out]; exact hlt)⟩;obtain⟨p,ix,px⟩:=P8 aE.out rfl a7.out hy;obtain⟨p0,p1,p2,p3,p4,p5,p6⟩:=px wr T.out;obtain⟨y1,y2,y3,y4,⟨yo,yn,yc⟩,y6,y7⟩:=y;simp only at p0 p1 p2 p3 p4 p5 p6;have a0:=D (gN wr (Y #[K L y1,K L y2,K L y3,K L y4,J yo yn yc,K L y6,V y7] 67));obtain⟨x0,x1⟩:=((a8.out.on T.out).on a0.out).cs2;have hw3:IntKind.i64.wrap ((k:Int)+1)=(k:Int)+1:=IntWalk.i64_in _ (by omega);obtain⟨me_,hm,hin⟩:=Qy bJ.out k _ hy;obtain⟨r,hr⟩:∃ r,(y1 == c && y2 == d)=r:=⟨_,rfl⟩;obtain⟨t,ht⟩:∃ r,oH me_.p p'=r:=⟨_,rfl⟩;have he:=rH y1 y2 c d r hr;have a5:=D (show CJ (c,d) p' me_=(r && (y7 && t)) by
    rw [<- hr,<- ht];unfold CJ;rw [<- hin.1,<- hin.2.2.2.1];by_cases g1:y1=c <;> by_cases g2:y2=d <;> simp [g1,g2])
   have a3:=D hm;have a6:=D (fun W' (hb':Below w.heap.size w W')=>(X9 (J yo yn yc) (J pa pn pc) me_.p p' W' (hin.2.2.2.2.on hb') (bQ.out.on hb') (c9.out _ (aA hm)) cA.out));rw [ht] at a6;clear px hy hr ht hm hin;cases r
   ·go_wp2
    go_roundw
    case rel=>exact⟨k+1,by omega,by go_num,T.out.trans (a0.out.mono T.out.size),fun j y' hj h1=>by
     rcases aL j k with h3|h3
     ·exact a4.out j y' h3 h1
     ·obtain rfl:j=k:=by omega
      have e1:=a3.out;rw [h1] at e1;rw [ak e1];exact a5.out.trans (by simp)⟩
    case measure=>simp [intOf]; omega
   ·cases y7
    ·go_wp2
     go_roundw
     case rel=>exact⟨k+1,by omega,by go_num,T.out.trans (a0.out.mono T.out.size),fun j y' hj h1=>by
     rcases aL j k with h3|h3
     ·exact a4.out j y' h3 h1
     ·obtain rfl:j=k:=by omega
      have e1:=a3.out;rw [h1] at e1;rw [ak e1];exact a5.out.trans (by simp)⟩
     case measure=>simp [intOf]; omega
    ·have BF:=D (T.out.trans (a0.out.mono T.out.size));have c7:=D (a6.out _ (B.out.trans (BF.out.mono B.out.size)));clear a6;go_wp2_with fail;refine c7.out.mono ?_;rintro e3 w3 ⟨rfl,hb⟩;have b9:=D (BF.out.trans (hb.mono BF.out.size));clear c7 hb x0 x1 p0 p1 p2 p3 p4 p5 p6 ix he;cases t
     ·go_wp2
      go_roundw
      case rel=>exact⟨k+1,by omega,by go_num,b9.out,fun j y' hj h1=>by
     rcases aL j k with h3|h3
     ·exact a4.out j y' h3 h1
     ·obtain rfl:j=k:=by omega
      have e1:=a3.out;rw [h1] at e1;rw [ak e1];exact a5.out.trans (by simp)⟩
      case measure=>simp [intOf]; omega
     ·go_wp2;go_ret;have hd:fA m (c,d) p'=au:=by
       unfold fA;rw [List.any_eq_true];exact⟨me_,aA a3.out,a5.out.trans (by simp)⟩
      exact⟨by rw [hd]; rfl,B.out.trans (b9.out.mono B.out.size)⟩
  ·obtain rfl:k=n:=by omega
   go_wp2;go_ret;have hd:fA m (c,d) p'=U:=by
    unfold fA;rw [List.any_eq_false];intro e he;obtain⟨j,hj,hje⟩:=List.getElem_of_mem he;have h9:=a4.out j e (by rw [<- a7.out,bJ.out.len]; exact hj) (by rw [Z hj,hje]);simpa using h9
   exact⟨by rw [hd]; rfl,B.out.trans (T.out.mono B.out.size)⟩
end Bk
namespace Bk
open Go.RowKit Go.Sort Rw YtghlpefopidlaaaGreat.Nm Pr
theorem zx {κ:Type} (f:κ->Bool) (l:List κ) (k:Nat) (hall:∀ (j:Nat) (y:κ),j<k->l[j]?=ah y->f y=au) (hend:k=l.length\/∃ y,l[k]?=ah y/\f y=U):(l.takeWhile f).length=k:=by
 induction l generalizing k with
 | nil =>
  rcases hend with h|⟨y,h,_⟩
  ·rw [h]; rfl
  ·simp at h
 | cons a l ih =>
  cases k with
  | zero =>
   rcases hend with h|⟨y,h,h2⟩
   ·simp at h
   ·obtain rfl:a=y:=by simpa using h
    rw [aQ,h2]
    rfl
  | succ k =>
   have h0:=hall 0 a (by omega) rfl;rw [aQ,h0];simp only [if_true,List.length_cons];rw [ih k (fun j y hj hy=>hall (j+1) y (by omega) (by simpa using hy)) (by
    rcases hend with h|⟨y,h,h2⟩
    ·exact aX (by simpa using h)
    ·exact aM ⟨y,by simpa using h,h2⟩)]
def kC (a b:Id×Id):Bool:=eH a.1 b.1 || (J9 a.1 b.1 && eH a.2 b.2)
def dZ (l:List (Id×Id)) (x:Id×Id):Nat:=(l.takeWhile fun a=>kC a x).length
noncomputable def ajZ:Code:=((Tryz.f57.body.bind (kM 0)).getD .skip)
theorem zA (Q:Exit->Act->aP->Prop) (W:aP) (b2 b3:Nat) (me c d g h:Int) (y1_ y2_ y3_ y5_ p3' p4' p5':aW) (so:Option Addr) (n sc:Nat) (l:List jk) (eC eE eI eJ eK eL eM eN eQ eS eV eW f0 f7 f8 f9 fL fN fP fR fS fW fX fY g0 g6 g9 gE gO gR gS hC hG hH hJ hL hM hO hS hT hU hW hX hY hZ i0 i3 i4 i5 i6 i7 i8 i9 iF kV kX l0 lA lB lD lE lF lL lO lP lR lX m0 mA mB mC mD mJ mL mN mP mS mT mY n0 nA nB nF nJ nL nP nQ nS nV nW o6 o9 oA oE iS j0 j2 j3 j4 j5 j6 j7 j8 j9 jV k6 k7 k8 k9 kA kB kO:aW)
  (h2:dK W b2 #[K L me,y1_,y2_,y3_,J so n sc,y5_] 30) (h3:dK W b3 #[K L c,K L d,K L g,K L h,p3',p4',p5'] 67) (hs:mh W (J so n sc) l) (hn:n=l.length) (hm:n<=1000000)
  (hQ:∀ (wr:aP) (a6 a7 a8 aE b9 bJ bQ c7 c8 c9 cA cC cD cF cG cH cI cJ cL cM cN cP cQ cR cS cT cU cV cW cX cY d1 d3 d4 d5 d7 d9 dA dC dE:aW),Below W.heap.size W wr->Q .normal ⟨(eC::eE::aT (ah ⟨b2,0,X⟩)::aT (ah ⟨b3,0,X⟩)::eI::eJ::eK::K L (dZ (l.map jG) ((c,d),(g,h)):Nat)::eL::eM::eN::eQ::eS::eV::eW::f0::f7::f8::f9::fL::fN::fP::fR::fS::fW::fX::fY::g0::g6::g9::gE::gO::gR::gS::hC::hG::hH::hJ::hL::hM::hO::hS::hT::hU::hW::hX::hY::hZ::i0::i3::i4::i5::i6::i7::i8::i9::iF::a6::a7::a8::aE::b9::bJ::bQ::c7::c8::c9::cA::cC::cD::cF::cG::cH::cI::cJ::cL::cM::cN::cP::cQ::cR::cS::cT::cU::cV::cW::cX::cY::d1::d3::d4::d5::d7::d9::dA::dC::dE::iS::j0::j2::j3::j4::j5::j6::j7::j8::j9::jV::k6::k7::k8::k9::kA::kB::kO::[]).toArray,[]⟩ wr) :
  Code.wp aI ajZ Q ⟨(eC::eE::aT (ah ⟨b2,0,X⟩)::aT (ah ⟨b3,0,X⟩)::eI::eJ::eK::K L 0::eL::eM::eN::eQ::eS::eV::eW::f0::f7::f8::f9::fL::fN::fP::fR::fS::fW::fX::fY::g0::g6::g9::gE::gO::gR::gS::hC::hG::hH::hJ::hL::hM::hO::hS::hT::hU::hW::hX::hY::hZ::i0::i3::i4::i5::i6::i7::i8::i9::iF::kV::kX::l0::lA::lB::lD::lE::lF::lL::lO::lP::lR::lX::m0::mA::mB::mC::mD::mJ::mL::mN::mP::mS::mT::mY::n0::nA::nB::nF::nJ::nL::nP::nQ::nS::nV::nW::o6::o9::oA::oE::iS::j0::j2::j3::j4::j5::j6::j7::j8::j9::jV::k6::k7::k8::k9::kA::kB::kO::[]).toArray,[]⟩ W:=by
 have dS:=D hQ;have oT:=D h2;have e7:=D h3;have oM:=D hs;have eB:=D hn;clear hQ h2 h3 hs hn
 conv=>arg 2; whnf
 go_wp2
 go_loopw [7] (fun i wr=>∃ k:Nat,k<=n/\i=K L k/\Below W.heap.size W wr/\∀ (j:Nat) (y:Id×Id),j<k->(l.map jG)[j]?=ah y->kC y ((c,d),(g,h))=au) (fun i _=>n-(intOf i).toNat)
 case atStart=>exact⟨0,aU _,rfl,aB _ _,fun j y h=>by omega⟩
 case round =>
  obtain⟨k,hk,rfl,hbe,hall⟩:=hrel;have T:=D hbe;have dT:=D hall;clear hbe hall;have q0:=cell_regrown (show wr.cell? ⟨b2,4,X⟩=ah (J so n sc) from (oT.out.on T.out).cell 4);have r0:=cell_regrown (show wr.cell? ⟨b3,0,X⟩=ah (K L c) from (e7.out.on T.out).cell 0);have r1:=cell_regrown (show wr.cell? ⟨b3,1,X⟩=ah (K L d) from (e7.out.on T.out).cell 1);have r2:=cell_regrown (show wr.cell? ⟨b3,2,X⟩=ah (K L g) from (e7.out.on T.out).cell 2);have r3:=cell_regrown (show wr.cell? ⟨b3,3,X⟩=ah (K L h) from (e7.out.on T.out).cell 3);have hw3:IntKind.i64.wrap ((k:Int)+1)=(k:Int)+1:=IntWalk.i64_in _ (by omega);by_cases hlt:k<n
  ·obtain⟨y,hy⟩:∃ y,l[k]?=ah y:=⟨_,Z (by rw [<- eB.out]; exact hlt)⟩;obtain⟨p,ix,px⟩:=P8 oM.out rfl eB.out.symm hy;have AA:=px wr T.out;obtain⟨y1,y2,y3,y4,⟨yo,yn,yc⟩,y6,y7⟩:=y;simp only at AA;have p0:=cell_regrown AA.1;have p1:=cell_regrown AA.2.1;have p2:=cell_regrown AA.2.2.1;have p3:=cell_regrown AA.2.2.2.1;have zU:decide ((k:Int)<(n:Int))=au:=decide_eq_true (by omega);have EZ:decide (k<n)=au:=decide_eq_true hlt;obtain⟨r,hr⟩:∃ r,eH (y1,y2) (c,d)=r:=⟨_,rfl⟩;obtain⟨t,ht⟩:∃ r,(y1 == c && y2 == d)=r:=⟨_,rfl⟩;obtain⟨s,hs⟩:∃ r,eH (y3,y4) (g,h)=r:=⟨_,rfl⟩;have he:=rH y1 y2 c d t ht;have a3:=D (fun d' os=>aO (d:=d') (os:=os) ((uW (y1,y2) (c,d) (grow (redrawn wr d') os)).mono fun _ _ h=>⟨by rw [h.1,hr],h.2⟩));have a4:=D (fun d' os=>aO (d:=d') (os:=os) ((uW (y3,y4) (g,h) (grow (redrawn wr d') os)).mono fun _ _ h=>⟨by rw [h.1,hs],h.2⟩));have e9:=D (show (l.map jG)[k]?=ah ((y1,y2),(y3,y4)) by rw [List.getElem?_map,hy]; rfl);have eA:=D (show kC ((y1,y2),(y3,y4)) ((c,d),(g,h))=(r || (t && s)) by rw [<- hr,<- ht,<- hs]; rfl);clear px AA hy hr ht hs;cases r
   ·cases t
    ·have HR:=D (eA.out.trans (show _=U by simp));go_wp2_with fail;refine wp_region_quiet_below (by kernel_rfl) (by kernel_rfl) ?_
     repeat (go_big_quiet_step (first | (with_reducible exact a3.out _ _) | (with_reducible exact a4.out _ _)))
     refine wpQuiet_nil ?_;intro _ hw';obtain⟨⟨dq,osq⟩,hw''⟩:=hw';subst hw'';have a0:=below_regrown wr dq osq;have a5:=D (fun a6 a7 a8 aE b9 bJ bQ c7 c8 c9 cA cC cD cF cG cH cI cJ cL cM cN cP cQ cR cS cT cU cV cW cX cY d1 d3 d4 d5 d7 d9 dA dC dE=>dS.out (grow (redrawn wr dq) osq) a6 a7 a8 aE b9 bJ bQ c7 c8 c9 cA cC cD cF cG cH cI cJ cL cM cN cP cQ cR cS cT cU cV cW cX cY d1 d3 d4 d5 d7 d9 dA dC dE (T.out.trans (a0.mono T.out.size)));rw [show dZ (l.map jG) ((c,d),(g,h))=k from zx _ _ k dT.out (aM ⟨_,e9.out,HR.out⟩)] at a5;clear ix dS q0 r0 r1 r2 r3 a3 a4 zU EZ p0 p1 p2 p3 he;go_wp2;exact a5.out _ _ _ _ _ _ _ _ _ _ _ _ _ _ _ _ _ _ _ _ _ _ _ _ _ _ _ _ _ _ _ _ _ _ _ _ _ _ _ _
    ·cases s
     ·have HR:=D (eA.out.trans (show _=U by simp));go_wp2_with fail;refine wp_region_quiet_below (by kernel_rfl) (by kernel_rfl) ?_
      repeat (go_big_quiet_step (first | (with_reducible exact a3.out _ _) | (with_reducible exact a4.out _ _)))
      refine wpQuiet_nil ?_;intro _ hw';obtain⟨⟨dq,osq⟩,hw''⟩:=hw';subst hw'';have a0:=below_regrown wr dq osq;have a5:=D (fun a6 a7 a8 aE b9 bJ bQ c7 c8 c9 cA cC cD cF cG cH cI cJ cL cM cN cP cQ cR cS cT cU cV cW cX cY d1 d3 d4 d5 d7 d9 dA dC dE=>dS.out (grow (redrawn wr dq) osq) a6 a7 a8 aE b9 bJ bQ c7 c8 c9 cA cC cD cF cG cH cI cJ cL cM cN cP cQ cR cS cT cU cV cW cX cY d1 d3 d4 d5 d7 d9 dA dC dE (T.out.trans (a0.mono T.out.size)));rw [show dZ (l.map jG) ((c,d),(g,h))=k from zx _ _ k dT.out (aM ⟨_,e9.out,HR.out⟩)] at a5;clear ix dS q0 r0 r1 r2 r3 a3 a4 zU EZ p0 p1 p2 p3 he;go_wp2;exact a5.out _ _ _ _ _ _ _ _ _ _ _ _ _ _ _ _ _ _ _ _ _ _ _ _ _ _ _ _ _ _ _ _ _ _ _ _ _ _ _ _
     ·have HR:=D (eA.out.trans (show _=au by simp));go_wp2_with fail;refine wp_region_quiet_below (by kernel_rfl) (by kernel_rfl) ?_
      repeat (go_big_quiet_step (first | (with_reducible exact a3.out _ _) | (with_reducible exact a4.out _ _)))
      refine wpQuiet_nil ?_;intro _ hw';obtain⟨⟨dq,osq⟩,hw''⟩:=hw';subst hw'';have a0:=D (below_regrown wr dq osq);clear ix q0 r0 r1 r2 r3 a3 a4 zU EZ p0 p1 p2 p3 he;go_wp2
      go_roundw
      case rel=>exact⟨k+1,by omega,by go_num,T.out.trans (a0.out.mono T.out.size),fun j y' hj h1=>by
       rcases aL j k with h3|h3
       ·exact dT.out j y' h3 h1
       ·obtain rfl:j=k:=by omega
        have e1:=e9.out;rw [h1] at e1;rw [ak e1];exact HR.out⟩
      case measure=>simp [intOf]; omega
   ·have HR:=D (eA.out.trans (show _=au by simp));go_wp2_with fail;refine wp_region_quiet_below (by kernel_rfl) (by kernel_rfl) ?_
    repeat (go_big_quiet_step (first | (with_reducible exact a3.out _ _) | (with_reducible exact a4.out _ _)))
    refine wpQuiet_nil ?_;intro _ hw';obtain⟨⟨dq,osq⟩,hw''⟩:=hw';subst hw'';have a0:=D (below_regrown wr dq osq);clear ix q0 r0 r1 r2 r3 a3 a4 zU EZ p0 p1 p2 p3 he;go_wp2
    go_roundw
    case rel=>exact⟨k+1,by omega,by go_num,T.out.trans (a0.out.mono T.out.size),fun j y' hj h1=>by
     rcases aL j k with h3|h3
     ·exact dT.out j y' h3 h1
     ·obtain rfl:j=k:=by omega
      have e1:=e9.out;rw [h1] at e1;rw [ak e1];exact HR.out⟩
    case measure=>simp [intOf]; omega
  ·obtain rfl:n=k:=by omega
   have zU:decide ((n:Int)<(n:Int))=U:=by simp
   have EZ:decide (n<n)=U:=by simp
   go_wp2_with fail;refine wp_region_quiet_below (by kernel_rfl) (by kernel_rfl) ?_
   repeat (go_big_quiet_step (fail))
   refine wpQuiet_nil ?_;intro _ hw';obtain⟨⟨dq,osq⟩,hw''⟩:=hw';subst hw'';have a0:=below_regrown wr dq osq;have a5:=D (fun a6 a7 a8 aE b9 bJ bQ c7 c8 c9 cA cC cD cF cG cH cI cJ cL cM cN cP cQ cR cS cT cU cV cW cX cY d1 d3 d4 d5 d7 d9 dA dC dE=>dS.out (grow (redrawn wr dq) osq) a6 a7 a8 aE b9 bJ bQ c7 c8 c9 cA cC cD cF cG cH cI cJ cL cM cN cP cQ cR cS cT cU cV cW cX cY d1 d3 d4 d5 d7 d9 dA dC dE (T.out.trans (a0.mono T.out.size)));rw [show dZ (l.map jG) ((c,d),(g,h))=n from zx _ _ n dT.out (aX (by simpa using eB.out))] at a5;clear dS q0 r0 r1 r2 r3 zU EZ;go_wp2;exact a5.out _ _ _ _ _ _ _ _ _ _ _ _ _ _ _ _ _ _ _ _ _ _ _ _ _ _ _ _ _ _ _ _ _ _ _ _ _ _ _ _
abbrev dY (e:En):Id×Id:=(e.tree,e.sub)
theorem keys_eq {W:aP} {l:List jk} {m:List En} (h:eY (jJ W) l m):l.map jG=m.map dY:=by
 induction h with
 | nil=>rfl
 | cons x t ih=>rw [aY,aY,ih,show jG _=dY _ from Prod.ext x.1 x.2.1]
def iB (b:Br) (e:En):Br×Bool:=match b.dO[(fO (b.dO.map Ad.id) e.tree).toNat]? with
 | none=>(b,U)
 | some a=>if fO (b.dO.map Ad.id) e.tree=-1 then (b,U) else if jc (b.ent.map dY) (dY e)≠-1 then (b,U) else if e.from_≠-1/\e.from_=a.par then (b,U) else
  ({ b with ent:=fM b.ent (dZ (b.ent.map dY) (dY e)) { e with up:=decide (a.par≠-1) && !fA b.ent e.tree e.p } },decide (a.par≠-1) && !fA b.ent e.tree e.p)
theorem ql (l:List (Id×Id)) (x:Id×Id):dZ l x<=l.length:=by
 unfold dZ;exact (List.takeWhile_sublist _).length_le
theorem nZ {W:aP} {b:Nat} {c d g h f:Int} {p:Sl} {u:Bool} (hb:dK W b #[K L c,K L d,K L g,K L h,dX p,K L f,V u] 67):∀ x,Below W.heap.size W x->∀ j v,(jr (c,d,g,h,p,f,u))[j]?=ah v->x.cell? ((⟨b,0,X⟩:Addr).add j)=ah v:=by
 intro x hx j v hj;rw [lY,(hb.on hx).cell]
 match j with
 | 0=>exact hj
 | 1=>exact hj
 | 2=>exact hj
 | 3=>exact hj
 | 4=>exact hj
 | 5=>exact hj
 | 6=>exact hj
 | j+7=>simp at hj
theorem wu (b:Br) (nv av sv ev ov:Sl) (z:jk) (e:En) (w:aP) (es:List jk) (R:jk->En->Prop) (h_:jq w b nv av sv ev ov) (he1:mh w (dX ev) es) (he2:eY (jJ w) es b.ent) (hr2:eY R es b.ent) (hrz:∀ u,R (z.1,z.2.1,z.2.2.1,z.2.2.2.1,z.2.2.2.2.1,z.2.2.2.2.2.1,u) { e with up:=u }) (hz:jJ w z e) (l2:b.dO.length<=900) (l3:b.ent.length<=900) (hok:∀ e∈b.ent,dR e.p) (hop:dR e.p) :
  aZ aI 57 #[mG b.me nv av sv ev ov,qO z] w fun e' w'=>(∃ (ev':Sl) (xs:List jk),e'=.returned (.tuple #[mG b.me nv av sv ev' ov,V (iB b e).2])/\((ev'=ev/\xs=es/\(iB b e).1=b)\/jH w' w.heap.size (dX ev') xs)/\eY R xs (iB b e).1.ent)/\Below w.heap.size w w':=by
 obtain⟨no,nn,nc⟩:=nv;obtain⟨ao,an,ac⟩:=av;obtain⟨so,sn,sc⟩:=sv;obtain⟨eo,en,ec⟩:=ev;obtain⟨oo,eG,oc⟩:=ov;obtain⟨c,d,g,h,⟨po,pn,pc⟩,fr,up0⟩:=z;obtain⟨⟨tc,td⟩,⟨sg,sh⟩,p',fr',up'⟩:=e;obtain⟨hz1,hz2,hz3,hz4,hz5⟩:=hz;obtain⟨rfl,rfl⟩:c=tc/\d=td:=by simpa using hz1
 obtain⟨rfl,rfl⟩:g=sg/\h=sh:=by simpa using hz2
 obtain rfl:fr=fr':=hz3;obtain rfl:up0=up':=hz4;have HP:=D hz5;have cW:=D hr2;have dE:=D hrz;clear hr2 hrz;obtain⟨xs,hx1,hx2⟩:=h_.dO;have j3:=D (Cc hx2);have d9:=D (keys_eq he2);have j9:=D (show xs.length<=900 by rw [hx2.len]; exact l2);have d1:=D (show es.length<=900 by rw [he2.len]; exact l3);have j7:=D hx2;have HE2:=D he2;have OK:=D hok;have OP:=D hop;obtain⟨q1,q2,hq⟩:=hx1.len;obtain⟨rfl,rfl,rfl⟩:ao=q1/\an=xs.length/\ac=q2:=by
  have:J ao an ac=J q1 xs.length q2:=hq;simpa using this
 clear hq;obtain⟨q1,q2,hq⟩:=he1.len;obtain⟨rfl,rfl,rfl⟩:eo=q1/\en=es.length/\ec=q2:=by
  have:J eo en ec=J q1 es.length q2:=hq;simpa using this
 clear hq;have FD:=vV b.me (J no nn nc) (J eo es.length ec) (J so sn sc) (J oo eG oc) (ao,xs.length,ac) xs (c,d);have dS:=Ct b.me (J no nn nc) (J ao xs.length ac) (J so sn sc) (J oo eG oc) (eo,es.length,ec) es (c,d) (g,h);have d5:=fun W hb'=>yu b.me (J no nn nc) (J ao xs.length ac) (J so sn sc) (J oo eG oc) (eo,es.length,ec) es b.ent (c,d) (J po pn pc) p' W (he1.on (show Below w.heap.size w W from hb')) (he2.mono fun _ _ h=>h.on hb') (hz5.on hb') hok hop;have jV:=D h_;obtain⟨h0,h1,h2,h3⟩:=gT w #[K L b.me,J no nn nc,J ao xs.length ac,J so sn sc,J eo es.length ec,J oo eG oc] #[K L c,K L d,K L g,K L h,J po pn pc,K L fr,V up0] #[K L 0,J X 0 0,J X 0 0,J X 0 0,J X 0 0,J X 0 0] 30 67 30;obtain⟨n2,hn2⟩:∃ n,n=xs.length:=⟨_,rfl⟩;obtain⟨n3,WU⟩:∃ n,n=es.length:=⟨_,rfl⟩;simp only [<- hn2,<- WU] at h0 h1 h2 h3 hx1 he1 jV FD dS d5 ⊢;have iF:=D h0;have i8:=D h1;have i7:=D h2;have iS:=D h3;have j2:=D hx1;have dA:=D he1;have j5:=D hn2;have d3:=D WU;obtain⟨me,hme⟩:∃ me,me=b.me:=⟨_,rfl⟩;simp only [<- hme] at i8 iF i7 iS FD dS d5 ⊢;have dS:=D dS;have d5:=D d5;clear h0 h1 h2 h3 hx1 he1 hx2 he2 h_ hn2 WU l2 l3 hme hz1 hz2 hz5 hok hop;show aZ aI 57 #[aR #[K L me,J no nn nc,J ao n2 ac,J so sn sc,J eo n3 ec,J oo eG oc],aR #[K L c,K L d,K L g,K L h,J po pn pc,K L fr,V up0]] w _;go_enter Tryz.func57,Tryz.ntmps57;go_upto_region 1 with fail;generalize (((w.alloc (Y #[K L me,J no nn nc,J ao n2 ac,J so sn sc,J eo n3 ec,J oo eG oc] 30)).alloc (Y #[K L c,K L d,K L g,K L h,J po pn pc,K L fr,V up0] 67)).alloc (Y #[K L 0,J X 0 0,J X 0 0,J X 0 0,J X 0 0,J X 0 0] 30))=W at *;have j6:=D (FD W (j2.out.on iF.out));clear FD;have x_:=i8.out;have y_:=i7.out;obtain⟨x0,x1,x2,x3,x4,x5⟩:=x_.fD;obtain⟨y0,y1,y2,y3,y4,y5,y6⟩:=y_.pG;clear x_ y_;go_wp2_with fail;refine j6.out.mono ?_;rintro e1 w1 ⟨rfl,hb⟩;have cP:=D (iF.out.trans (hb.mono iF.out.size));have cT:=D (i8.out.on hb);have cG:=D (i7.out.on hb);have d7:=D (iS.out.on hb);clear j6 hb i8 i7 iS x0 x1 x2 x3 x4 x5 y0 y1 y2 y3 y4 y5 y6;have a0:=cell_regrown (show w1.cell? ⟨w.heap.size,0,X⟩=ah (K L me) from cT.out.cell 0);have a1:=cell_regrown (show w1.cell? ⟨w.heap.size,1,X⟩=ah (J no nn nc) from cT.out.cell 1);have a2:=cell_regrown (show w1.cell? ⟨w.heap.size,2,X⟩=ah (J ao n2 ac) from cT.out.cell 2);have a3:=cell_regrown (show w1.cell? ⟨w.heap.size,3,X⟩=ah (J so sn sc) from cT.out.cell 3);have a4:=cell_regrown (show w1.cell? ⟨w.heap.size,4,X⟩=ah (J eo n3 ec) from cT.out.cell 4);have a5:=cell_regrown (show w1.cell? ⟨w.heap.size,5,X⟩=ah (J oo eG oc) from cT.out.cell 5);have b0:=cell_regrown (show w1.cell? ⟨w.heap.size+1,0,X⟩=ah (K L c) from cG.out.cell 0);have b1:=cell_regrown (show w1.cell? ⟨w.heap.size+1,1,X⟩=ah (K L d) from cG.out.cell 1);have b2:=cell_regrown (show w1.cell? ⟨w.heap.size+1,2,X⟩=ah (K L g) from cG.out.cell 2);have b3:=cell_regrown (show w1.cell? ⟨w.heap.size+1,3,X⟩=ah (K L h) from cG.out.cell 3);have b4:=cell_regrown (show w1.cell? ⟨w.heap.size+1,4,X⟩=ah (J po pn pc) from cG.out.cell 4);have b5:=cell_regrown (show w1.cell? ⟨w.heap.size+1,5,X⟩=ah (K L fr) from cG.out.cell 5);have b6:=cell_regrown (show w1.cell? ⟨w.heap.size+1,6,X⟩=ah (V up0) from cG.out.cell 6);have dC:=D (fun d os=>aO (d:=d) (os:=os) (dS.out _ ((dA.out.on cP.out).on (below_regrown w1 d os))));clear dS;rcases Qe xs (c,d) with hf|⟨k,y,hf,hy⟩
 ·have LB:=D (show iB b ⟨(c,d),(g,h),p',fr,up0⟩=(b,U) by
   have hf':=hf;rw [j3.out] at hf';unfold iB;simp only;rw [hf']
   split
   ·rfl
   ·rw [if_pos rfl])
  rw [hf];clear hf;go_upto_region 2 with fail;refine wp_region_quiet_below (by kernel_rfl) (by kernel_rfl) ?_
  repeat (go_big_quiet_step (fail))
  refine wpQuiet_nil ?_;intro _ hw';obtain⟨⟨dq,osq⟩,hw''⟩:=hw';subst hw'';have Z6:=below_regrown w1 dq osq;have bQ:=D (cP.out.trans (Z6.mono cP.out.size));have cJ:=D (cT.out.on Z6);have cY:=D (cG.out.on Z6);have c7:=D (d7.out.on Z6);clear Z6 cP cT cG d7 a0 a1 a2 a3 a4 a5 b0 b1 b2 b3 b4 b5 b6;generalize grow (redrawn w1 dq) osq=w2 at *;have cS:=D (dL c7.out (K L me) (J no nn nc) (J ao n2 ac) (J so sn sc) (J eo n3 ec) (J oo eG oc));have cN:=D (dH (b:=w.heap.size+1+1) bQ.out (by omega) (K L me) (J no nn nc) (J ao n2 ac) (J so sn sc) (J eo n3 ec) (J oo eG oc));have Bg:=cJ.out;have uF:=c7.out;obtain⟨x0,x1,x2,x3,x4,x5⟩:=Bg.fD;obtain⟨r0,r1,r2,r3,r4,r5⟩:=uF.fD;obtain⟨t0,t1,t2,t3,t4,t5⟩:=uF.kK;have zz:=uF.lt;clear Bg uF;go_wp2_with fail;obtain⟨c8,c9,cA,cC,cD,cF⟩:=cS.out.fD;refine bodyPost_ret (v:=.tuple #[aR #[K L me,J no nn nc,J ao n2 ac,J so sn sc,J eo n3 ec,J oo eG oc],V U]) (by simp [results,aj,go_sem,c8,c9,cA,cC,cD,cF]) rfl ?_;rw [LB.out];exact⟨⟨(eo,n3,ec),es,rfl,aX ⟨rfl,rfl,rfl⟩,cW.out⟩,cN.out⟩
 ·have HF:=D hf;have j8:=D hy;have hk:=(aN.1 hy).1;have XL2:=j9.out;have hkn:k<n2:=by rw [j5.out]; exact hk
  obtain⟨p,ix,px⟩:=NK j2.out rfl j5.out.symm hy;obtain⟨z1,z2,⟨zo,zn,zc⟩,par⟩:=y;have j4:=D px;have pr:=cell_regrown (show w1.cell? ⟨p.block,p.off+3,X⟩=ah (K L par) from (px w1 cP.out).2.2.2);obtain⟨a,hak⟩:∃ a,b.dO[k]?=ah a:=⟨_,Z (by rw [<- j7.out.len]; exact hk)⟩;have hap:a.par=par:=by
   obtain⟨z,hz1,hz2⟩:=j7.out.at k a hak;rw [j8.out] at hz1;obtain rfl:=ak hz1;exact hz2.2.1.symm
  have i9:=D (show ∀ i,jc (es.map jG) ((c,d),(g,h))=i->iB b ⟨(c,d),(g,h),p',fr,up0⟩=if i≠-1 then (b,U) else if fr≠-1/\fr=par then (b,U) else ({ b with ent:=fM b.ent (dZ (b.ent.map dY) ((c,d),(g,h))) ⟨(c,d),(g,h),p',fr,decide (par≠-1) && !fA b.ent (c,d) p'⟩ },decide (par≠-1) && !fA b.ent (c,d) p') from fun i hi=>by
   have hf':=HF.out;rw [j3.out] at hf';rw [d9.out] at hi;unfold iB;simp only;rw [hf',Int.toNat_natCast,hak];simp only;rw [if_neg (by omega),hap,hi])
  have hik:decide ((k:Int)<0)=U:=decide_eq_false (by omega);rw [hf];clear hf hy px hak hap HF j8;rcases mH (es.map jG) ((c,d),(g,h)) with he|⟨j,he,_⟩
  ·have LC:=i9.out _ he;rw [if_neg (by simp)] at LC;rw [he] at dC;clear i9 he;obtain⟨f1,hf1⟩:∃ r,(fr != -1)=r:=⟨_,rfl⟩;obtain⟨f2,hf2⟩:∃ r,(fr == par)=r:=⟨_,rfl⟩;have F1:=D hf1;have F2_:=D hf2;cases f1
   ·have LD:=LC;rw [if_neg (by exact fun q=>q.1 (by simpa using hf1))] at LD;clear LC;go_upto_region 2 with fail;refine wp_region_quiet_below (by kernel_rfl) (by kernel_rfl) ?_
    repeat (go_big_quiet_step (first | (with_reducible exact dC.out _ _)))
    refine wpQuiet_nil ?_;intro _ hw';obtain⟨⟨dq,osq⟩,hw''⟩:=hw';subst hw'';have Z6:=below_regrown w1 dq osq;have bQ:=D (cP.out.trans (Z6.mono cP.out.size));have cJ:=D (cT.out.on Z6);have cY:=D (cG.out.on Z6);have c7:=D (d7.out.on Z6);clear Z6 cP cT cG d7 a0 a1 a2 a3 a4 a5 b0 b1 b2 b3 b4 b5 b6;generalize grow (redrawn w1 dq) osq=w2 at *;have p3b:=(j4.out w2 bQ.out).2.2.2;have x_:=cJ.out;have y_:=cY.out;obtain⟨x0,x1,x2,x3,x4,x5⟩:=x_.fD;obtain⟨y0,y1,y2,y3,y4,y5,y6⟩:=y_.pG;clear x_ y_;obtain⟨g1,hg1⟩:∃ r,(par != -1)=r:=⟨_,rfl⟩;have j0:=D (show decide (par≠-1)=g1 by rw [<- hg1]; by_cases q:par=-1 <;> simp [q]);rw [j0.out] at LD;cases g1
    ·have LB:=D LD;clear LD d5;have cX:=D bQ.out;have cV:=D cJ.out;have bJ:=D cY.out;have cU:=D c7.out;clear bQ cJ cY c7;have f3:=bJ.out;obtain⟨k0,k1,k2,k3,k4,k5,k6⟩:=f3.pG;have f36:=f3.fr 6;have Ya:=f3.lt;clear f3;go_upto_region 5 with fail;clear k0 k1 k2 k3 k4 k5 k6 f36 Ya;have a8:=D (show dK _ _ #[K L c,K L d,K L g,K L h,J po pn pc,K L fr,V U] _ from by simpa using eu (k:=6) bJ.out (V U));have a7:=D (show dK _ _ _ _ from (O w2 ⟨w.heap.size+1,6,X⟩ (V U) _ (show w.heap.size≠w.heap.size+1 by omega)).trans cV.out);have cM:=D (show dK _ _ _ _ from (O w2 ⟨w.heap.size+1,6,X⟩ (V U) _ (show w.heap.size+1+1≠w.heap.size+1 by omega)).trans cU.out);have T:=D (cX.out.setCell (p:=⟨w.heap.size+1,6,X⟩) (by show w.heap.size<=w.heap.size+1; omega) (V U));clear cX cV bJ cU;generalize w2.setCell ⟨w.heap.size+1,6,X⟩ (V U)=w4 at *;have b9:=D (dA.out.on T.out)
     go_upto_block 0 with (fail)
     refine zA _ w4 w.heap.size (w.heap.size+1) me c d g h _ _ _ _ _ _ _ eo n3 ec es _ _ _ _ _ _ _ _ _ _ _ _ _ _ _ _ _ _ _ _ _ _ _ _ _ _ _ _ _ _ _ _ _ _ _ _ _ _ _ _ _ _ _ _ _ _ _ _ _ _ _ _ _ _ _ _ _ _ _ _ _ _ _ _ _ _ _ _ _ _ _ _ _ _ _ _ _ _ _ _ _ _ _ _ _ _ _ _ _ _ _ _ _ _ _ _ _ _ _ _ _ _ _ _ _ _ _ _ _ _ _ _ a7.out a8.out b9.out d3.out (by have:=d1.out; have:=d3.out; omega) ?_;intro wr dT e7 e9 eA eB eC eE eI eJ eK eL eM eN eQ eS eV eW f0 f7 f8 f9 fL fN fP fR fS fW fX fY g0 g6 g9 gE gO gR gS hC hG hH hJ hb;have cR:=D (T.out.trans (hb.mono T.out.size));have cQ:=D (a7.out.on hb);have a6:=D (a8.out.on hb);have aE:=D (cM.out.on hb);have cI:=D (b9.out.on hb);clear hb T a7 a8 cM b9;go_upto_region 8 with fail;refine TR _ wr w.heap.size (w.heap.size+1) me _ _ _ _ eo n3 ec (dZ (es.map jG) ((c,d),(g,h))) es (c,d,g,h,(po,pn,pc),fr,U) _ _ _ _ _ _ _ _ _ _ _ _ _ _ _ _ _ _ _ _ _ _ _ _ _ _ _ _ _ _ _ _ _ _ _ _ _ _ _ _ _ _ _ _ _ _ _ _ _ _ _ _ _ _ _ _ _ _ _ _ _ _ _ _ _ _ _ _ _ _ _ _ _ _ _ _ _ _ _ _ _ _ _ _ _ _ _ _ _ _ _ _ _ _ _ _ _ _ _ _ _ _ _ _ _ _ _ _ _ _ _ _ cQ.out (nZ (p:=(po,pn,pc)) a6.out) cI.out (by have:=ql (es.map jG) ((c,d),(g,h)); rw [aG] at this; exact this) d1.out ?_;intro xw hL hM hO hS hT hU hW hX hY hZ i0 i3 i4 i5 i6 hbx ho hbl hoth hblk;obtain⟨nV,nW,Ce⟩:=(aJ ho).len;obtain⟨tl,htl⟩:∃ n,n=(es.take (dZ (es.map jG) ((c,d),(g,h)))++[(c,d,g,h,(po,pn,pc),fr,U)]++es.drop (dZ (es.map jG) ((c,d),(g,h)))).length:=⟨_,rfl⟩;rw [<- htl] at Ce;subst Ce;have cL:=D (cR.out.trans (hbl _ (ay _)));have M2:=hbx;have M3:=hoth _ _ _ (by omega) a6.out;have M5:=hoth _ _ _ (by omega) aE.out;have cH:=D (dM ho (show w.heap.size+3<=wr.heap.size by have:=aE.out.lt; omega));clear ho hbl hoth hblk htl hbx cR cQ a6 aE cI;go_upto_region 9 with fail;refine zk _ xw w.heap.size (w.heap.size+1) (w.heap.size+1+1) me no ao so nV oo nn nc n2 ac sn sc tl nW eG oc _ _ _ _ _ _ _ _ _ _ _ _ U _ _ _ _ _ _ _ _ _ _ _ _ _ _ _ _ _ _ _ _ _ _ _ _ _ _ _ _ _ _ _ _ _ _ _ _ _ _ _ _ _ _ _ _ _ _ _ _ _ _ _ _ _ _ _ _ _ _ _ _ _ _ _ _ _ _ _ _ _ _ _ _ _ _ _ _ _ _ _ _ _ _ _ _ _ _ _ _ _ _ _ _ _ _ _ _ _ _ _ _ _ _ _ _ _ _ _ _ _ _ _ _ M2 M3 M5 (by omega) ?_;intro a9 x9 Kz h49 h59 Yb;subst Yb;have cS:=D (dL M5.drew (K L me) (J no nn nc) (J ao n2 ac) (J so sn sc) (J nV tl nW) (J oo eG oc));have cN:=D (dH (b:=w.heap.size+1+1) cL.out.drew (by omega) (K L me) (J no nn nc) (J ao n2 ac) (J so sn sc) (J nV tl nW) (J oo eG oc));have d4:=D (gy (dI cH.out ((aB xw.heap.size xw).drew)) (w.heap.size+1+1) (by omega) (K L me) (J no nn nc) (J ao n2 ac) (J so sn sc) (J nV tl nW) (J oo eG oc));clear cH M2 M3 M5 cL;simp only [Exit.then]
     apply_assumption
     go_wp2_with fail;obtain⟨c8,c9,cA,cC,cD,cF⟩:=cS.out.fD;refine bodyPost_ret (v:=.tuple #[aR #[K L me,J no nn nc,J ao n2 ac,J so sn sc,J nV tl nW,J oo eG oc],V U]) (by simp [results,aj,go_sem,h49,h59,c8,c9,cA,cC,cD,cF]) Kz ?_;rw [LB.out];refine⟨⟨(nV,tl,nW),_,rfl,aM (dM d4.out (show w.heap.size<=w.heap.size+3 by omega)),?_⟩,cN.out⟩;rw [<- d9.out];exact ((cW.out.take _).append (.cons (dE.out _) .nil)).append (cW.out.drop _)
    ·have CW:=D (d5.out w2 bQ.out);obtain⟨cv,hcv⟩:∃ r,fA b.ent (c,d) p'=r:=⟨_,rfl⟩;rw [hcv] at CW LD;clear d5 hcv;go_wp2_with fail;refine CW.out.mono ?_;rintro e3 w3 ⟨rfl,hb⟩;have cX:=D (bQ.out.trans (hb.mono bQ.out.size));have cV:=D (cJ.out.on hb);have bJ:=D (cY.out.on hb);have cU:=D (c7.out.on hb);clear hb CW bQ cJ cY c7 x0 x1 x2 x3 x4 x5 y0 y1 y2 y3 y4 y5 y6 p3b;cases cv
     ·have LB:=D LD;clear LD;have f3:=bJ.out;obtain⟨k0,k1,k2,k3,k4,k5,k6⟩:=f3.pG;have f36:=f3.fr 6;have Ya:=f3.lt;clear f3;go_upto_region 5 with fail;clear k0 k1 k2 k3 k4 k5 k6 f36 Ya;have a8:=D (show dK _ _ #[K L c,K L d,K L g,K L h,J po pn pc,K L fr,V au] _ from by simpa using eu (k:=6) bJ.out (V au));have a7:=D (show dK _ _ _ _ from (O w3 ⟨w.heap.size+1,6,X⟩ (V au) _ (show w.heap.size≠w.heap.size+1 by omega)).trans cV.out);have cM:=D (show dK _ _ _ _ from (O w3 ⟨w.heap.size+1,6,X⟩ (V au) _ (show w.heap.size+1+1≠w.heap.size+1 by omega)).trans cU.out);have T:=D (cX.out.setCell (p:=⟨w.heap.size+1,6,X⟩) (by show w.heap.size<=w.heap.size+1; omega) (V au));clear cX cV bJ cU;generalize w3.setCell ⟨w.heap.size+1,6,X⟩ (V au)=w4 at *;have b9:=D (dA.out.on T.out)
      go_upto_block 0 with (fail)
      refine zA _ w4 w.heap.size (w.heap.size+1) me c d g h _ _ _ _ _ _ _ eo n3 ec es _ _ _ _ _ _ _ _ _ _ _ _ _ _ _ _ _ _ _ _ _ _ _ _ _ _ _ _ _ _ _ _ _ _ _ _ _ _ _ _ _ _ _ _ _ _ _ _ _ _ _ _ _ _ _ _ _ _ _ _ _ _ _ _ _ _ _ _ _ _ _ _ _ _ _ _ _ _ _ _ _ _ _ _ _ _ _ _ _ _ _ _ _ _ _ _ _ _ _ _ _ _ _ _ _ _ _ _ _ _ _ _ a7.out a8.out b9.out d3.out (by have:=d1.out; have:=d3.out; omega) ?_;intro wr dT e7 e9 eA eB eC eE eI eJ eK eL eM eN eQ eS eV eW f0 f7 f8 f9 fL fN fP fR fS fW fX fY g0 g6 g9 gE gO gR gS hC hG hH hJ hb;have cR:=D (T.out.trans (hb.mono T.out.size));have cQ:=D (a7.out.on hb);have a6:=D (a8.out.on hb);have aE:=D (cM.out.on hb);have cI:=D (b9.out.on hb);clear hb T a7 a8 cM b9;go_upto_region 8 with fail;refine TR _ wr w.heap.size (w.heap.size+1) me _ _ _ _ eo n3 ec (dZ (es.map jG) ((c,d),(g,h))) es (c,d,g,h,(po,pn,pc),fr,au) _ _ _ _ _ _ _ _ _ _ _ _ _ _ _ _ _ _ _ _ _ _ _ _ _ _ _ _ _ _ _ _ _ _ _ _ _ _ _ _ _ _ _ _ _ _ _ _ _ _ _ _ _ _ _ _ _ _ _ _ _ _ _ _ _ _ _ _ _ _ _ _ _ _ _ _ _ _ _ _ _ _ _ _ _ _ _ _ _ _ _ _ _ _ _ _ _ _ _ _ _ _ _ _ _ _ _ _ _ _ _ _ cQ.out (nZ (p:=(po,pn,pc)) a6.out) cI.out (by have:=ql (es.map jG) ((c,d),(g,h)); rw [aG] at this; exact this) d1.out ?_;intro xw hL hM hO hS hT hU hW hX hY hZ i0 i3 i4 i5 i6 hbx ho hbl hoth hblk;obtain⟨nV,nW,Ce⟩:=(aJ ho).len;obtain⟨tl,htl⟩:∃ n,n=(es.take (dZ (es.map jG) ((c,d),(g,h)))++[(c,d,g,h,(po,pn,pc),fr,au)]++es.drop (dZ (es.map jG) ((c,d),(g,h)))).length:=⟨_,rfl⟩;rw [<- htl] at Ce;subst Ce;have cL:=D (cR.out.trans (hbl _ (ay _)));have M2:=hbx;have M3:=hoth _ _ _ (by omega) a6.out;have M5:=hoth _ _ _ (by omega) aE.out;have cH:=D (dM ho (show w.heap.size+3<=wr.heap.size by have:=aE.out.lt; omega));clear ho hbl hoth hblk htl hbx cR cQ a6 aE cI;go_upto_region 9 with fail;refine zk _ xw w.heap.size (w.heap.size+1) (w.heap.size+1+1) me no ao so nV oo nn nc n2 ac sn sc tl nW eG oc _ _ _ _ _ _ _ _ _ _ _ _ au _ _ _ _ _ _ _ _ _ _ _ _ _ _ _ _ _ _ _ _ _ _ _ _ _ _ _ _ _ _ _ _ _ _ _ _ _ _ _ _ _ _ _ _ _ _ _ _ _ _ _ _ _ _ _ _ _ _ _ _ _ _ _ _ _ _ _ _ _ _ _ _ _ _ _ _ _ _ _ _ _ _ _ _ _ _ _ _ _ _ _ _ _ _ _ _ _ _ _ _ _ _ _ _ _ _ _ _ _ _ _ _ M2 M3 M5 (by omega) ?_;intro a9 x9 Kz h49 h59 Yb;subst Yb;have cS:=D (dL M5.drew (K L me) (J no nn nc) (J ao n2 ac) (J so sn sc) (J nV tl nW) (J oo eG oc));have cN:=D (dH (b:=w.heap.size+1+1) cL.out.drew (by omega) (K L me) (J no nn nc) (J ao n2 ac) (J so sn sc) (J nV tl nW) (J oo eG oc));have d4:=D (gy (dI cH.out ((aB xw.heap.size xw).drew)) (w.heap.size+1+1) (by omega) (K L me) (J no nn nc) (J ao n2 ac) (J so sn sc) (J nV tl nW) (J oo eG oc));clear cH M2 M3 M5 cL;simp only [Exit.then]
      apply_assumption
      go_wp2_with fail;obtain⟨c8,c9,cA,cC,cD,cF⟩:=cS.out.fD;refine bodyPost_ret (v:=.tuple #[aR #[K L me,J no nn nc,J ao n2 ac,J so sn sc,J nV tl nW,J oo eG oc],V au]) (by simp [results,aj,go_sem,h49,h59,c8,c9,cA,cC,cD,cF]) Kz ?_;rw [LB.out];refine⟨⟨(nV,tl,nW),_,rfl,aM (dM d4.out (show w.heap.size<=w.heap.size+3 by omega)),?_⟩,cN.out⟩;rw [<- d9.out];exact ((cW.out.take _).append (.cons (dE.out _) .nil)).append (cW.out.drop _)
     ·have LB:=D LD;clear LD;have f3:=bJ.out;obtain⟨k0,k1,k2,k3,k4,k5,k6⟩:=f3.pG;have f36:=f3.fr 6;have Ya:=f3.lt;clear f3;go_upto_region 5 with fail;clear k0 k1 k2 k3 k4 k5 k6 f36 Ya;have a8:=D (show dK _ _ #[K L c,K L d,K L g,K L h,J po pn pc,K L fr,V U] _ from by simpa using eu (k:=6) bJ.out (V U));have a7:=D (show dK _ _ _ _ from (O w3 ⟨w.heap.size+1,6,X⟩ (V U) _ (show w.heap.size≠w.heap.size+1 by omega)).trans cV.out);have cM:=D (show dK _ _ _ _ from (O w3 ⟨w.heap.size+1,6,X⟩ (V U) _ (show w.heap.size+1+1≠w.heap.size+1 by omega)).trans cU.out);have T:=D (cX.out.setCell (p:=⟨w.heap.size+1,6,X⟩) (by show w.heap.size<=w.heap.size+1; omega) (V U));clear cX cV bJ cU;generalize w3.setCell ⟨w.heap.size+1,6,X⟩ (V U)=w4 at *;have b9:=D (dA.out.on T.out)
      go_upto_block 0 with (fail)
      refine zA _ w4 w.heap.size (w.heap.size+1) me c d g h _ _ _ _ _ _ _ eo n3 ec es _ _ _ _ _ _ _ _ _ _ _ _ _ _ _ _ _ _ _ _ _ _ _ _ _ _ _ _ _ _ _ _ _ _ _ _ _ _ _ _ _ _ _ _ _ _ _ _ _ _ _ _ _ _ _ _ _ _ _ _ _ _ _ _ _ _ _ _ _ _ _ _ _ _ _ _ _ _ _ _ _ _ _ _ _ _ _ _ _ _ _ _ _ _ _ _ _ _ _ _ _ _ _ _ _ _ _ _ _ _ _ _ a7.out a8.out b9.out d3.out (by have:=d1.out; have:=d3.out; omega) ?_;intro wr dT e7 e9 eA eB eC eE eI eJ eK eL eM eN eQ eS eV eW f0 f7 f8 f9 fL fN fP fR fS fW fX fY g0 g6 g9 gE gO gR gS hC hG hH hJ hb;have cR:=D (T.out.trans (hb.mono T.out.size));have cQ:=D (a7.out.on hb);have a6:=D (a8.out.on hb);have aE:=D (cM.out.on hb);have cI:=D (b9.out.on hb);clear hb T a7 a8 cM b9;go_upto_region 8 with fail;refine TR _ wr w.heap.size (w.heap.size+1) me _ _ _ _ eo n3 ec (dZ (es.map jG) ((c,d),(g,h))) es (c,d,g,h,(po,pn,pc),fr,U) _ _ _ _ _ _ _ _ _ _ _ _ _ _ _ _ _ _ _ _ _ _ _ _ _ _ _ _ _ _ _ _ _ _ _ _ _ _ _ _ _ _ _ _ _ _ _ _ _ _ _ _ _ _ _ _ _ _ _ _ _ _ _ _ _ _ _ _ _ _ _ _ _ _ _ _ _ _ _ _ _ _ _ _ _ _ _ _ _ _ _ _ _ _ _ _ _ _ _ _ _ _ _ _ _ _ _ _ _ _ _ _ cQ.out (nZ (p:=(po,pn,pc)) a6.out) cI.out (by have:=ql (es.map jG) ((c,d),(g,h)); rw [aG] at this; exact this) d1.out ?_;intro xw hL hM hO hS hT hU hW hX hY hZ i0 i3 i4 i5 i6 hbx ho hbl hoth hblk;obtain⟨nV,nW,Ce⟩:=(aJ ho).len;obtain⟨tl,htl⟩:∃ n,n=(es.take (dZ (es.map jG) ((c,d),(g,h)))++[(c,d,g,h,(po,pn,pc),fr,U)]++es.drop (dZ (es.map jG) ((c,d),(g,h)))).length:=⟨_,rfl⟩;rw [<- htl] at Ce;subst Ce;have cL:=D (cR.out.trans (hbl _ (ay _)));have M2:=hbx;have M3:=hoth _ _ _ (by omega) a6.out;have M5:=hoth _ _ _ (by omega) aE.out;have cH:=D (dM ho (show w.heap.size+3<=wr.heap.size by have:=aE.out.lt; omega));clear ho hbl hoth hblk htl hbx cR cQ a6 aE cI;go_upto_region 9 with fail;refine zk _ xw w.heap.size (w.heap.size+1) (w.heap.size+1+1) me no ao so nV oo nn nc n2 ac sn sc tl nW eG oc _ _ _ _ _ _ _ _ _ _ _ _ U _ _ _ _ _ _ _ _ _ _ _ _ _ _ _ _ _ _ _ _ _ _ _ _ _ _ _ _ _ _ _ _ _ _ _ _ _ _ _ _ _ _ _ _ _ _ _ _ _ _ _ _ _ _ _ _ _ _ _ _ _ _ _ _ _ _ _ _ _ _ _ _ _ _ _ _ _ _ _ _ _ _ _ _ _ _ _ _ _ _ _ _ _ _ _ _ _ _ _ _ _ _ _ _ _ _ _ _ _ _ _ _ M2 M3 M5 (by omega) ?_;intro a9 x9 Kz h49 h59 Yb;subst Yb;have cS:=D (dL M5.drew (K L me) (J no nn nc) (J ao n2 ac) (J so sn sc) (J nV tl nW) (J oo eG oc));have cN:=D (dH (b:=w.heap.size+1+1) cL.out.drew (by omega) (K L me) (J no nn nc) (J ao n2 ac) (J so sn sc) (J nV tl nW) (J oo eG oc));have d4:=D (gy (dI cH.out ((aB xw.heap.size xw).drew)) (w.heap.size+1+1) (by omega) (K L me) (J no nn nc) (J ao n2 ac) (J so sn sc) (J nV tl nW) (J oo eG oc));clear cH M2 M3 M5 cL;simp only [Exit.then]
      apply_assumption
      go_wp2_with fail;obtain⟨c8,c9,cA,cC,cD,cF⟩:=cS.out.fD;refine bodyPost_ret (v:=.tuple #[aR #[K L me,J no nn nc,J ao n2 ac,J so sn sc,J nV tl nW,J oo eG oc],V U]) (by simp [results,aj,go_sem,h49,h59,c8,c9,cA,cC,cD,cF]) Kz ?_;rw [LB.out];refine⟨⟨(nV,tl,nW),_,rfl,aM (dM d4.out (show w.heap.size<=w.heap.size+3 by omega)),?_⟩,cN.out⟩;rw [<- d9.out];exact ((cW.out.take _).append (.cons (dE.out _) .nil)).append (cW.out.drop _)
   ·cases f2
    ·have LD:=LC;rw [if_neg (by intro q; simp [q.2] at hf2)] at LD;clear LC;go_upto_region 2 with fail;refine wp_region_quiet_below (by kernel_rfl) (by kernel_rfl) ?_
     repeat (go_big_quiet_step (first | (with_reducible exact dC.out _ _)))
     refine wpQuiet_nil ?_;intro _ hw';obtain⟨⟨dq,osq⟩,hw''⟩:=hw';subst hw'';have Z6:=below_regrown w1 dq osq;have bQ:=D (cP.out.trans (Z6.mono cP.out.size));have cJ:=D (cT.out.on Z6);have cY:=D (cG.out.on Z6);have c7:=D (d7.out.on Z6);clear Z6 cP cT cG d7 a0 a1 a2 a3 a4 a5 b0 b1 b2 b3 b4 b5 b6;generalize grow (redrawn w1 dq) osq=w2 at *;have p3b:=(j4.out w2 bQ.out).2.2.2;have x_:=cJ.out;have y_:=cY.out;obtain⟨x0,x1,x2,x3,x4,x5⟩:=x_.fD;obtain⟨y0,y1,y2,y3,y4,y5,y6⟩:=y_.pG;clear x_ y_;obtain⟨g1,hg1⟩:∃ r,(par != -1)=r:=⟨_,rfl⟩;have j0:=D (show decide (par≠-1)=g1 by rw [<- hg1]; by_cases q:par=-1 <;> simp [q]);rw [j0.out] at LD;cases g1
     ·have LB:=D LD;clear LD d5;have cX:=D bQ.out;have cV:=D cJ.out;have bJ:=D cY.out;have cU:=D c7.out;clear bQ cJ cY c7;have f3:=bJ.out;obtain⟨k0,k1,k2,k3,k4,k5,k6⟩:=f3.pG;have f36:=f3.fr 6;have Ya:=f3.lt;clear f3;go_upto_region 5 with fail;clear k0 k1 k2 k3 k4 k5 k6 f36 Ya;have a8:=D (show dK _ _ #[K L c,K L d,K L g,K L h,J po pn pc,K L fr,V U] _ from by simpa using eu (k:=6) bJ.out (V U));have a7:=D (show dK _ _ _ _ from (O w2 ⟨w.heap.size+1,6,X⟩ (V U) _ (show w.heap.size≠w.heap.size+1 by omega)).trans cV.out);have cM:=D (show dK _ _ _ _ from (O w2 ⟨w.heap.size+1,6,X⟩ (V U) _ (show w.heap.size+1+1≠w.heap.size+1 by omega)).trans cU.out);have T:=D (cX.out.setCell (p:=⟨w.heap.size+1,6,X⟩) (by show w.heap.size<=w.heap.size+1; omega) (V U));clear cX cV bJ cU;generalize w2.setCell ⟨w.heap.size+1,6,X⟩ (V U)=w4 at *;have b9:=D (dA.out.on T.out)
      go_upto_block 0 with (fail)
      refine zA _ w4 w.heap.size (w.heap.size+1) me c d g h _ _ _ _ _ _ _ eo n3 ec es _ _ _ _ _ _ _ _ _ _ _ _ _ _ _ _ _ _ _ _ _ _ _ _ _ _ _ _ _ _ _ _ _ _ _ _ _ _ _ _ _ _ _ _ _ _ _ _ _ _ _ _ _ _ _ _ _ _ _ _ _ _ _ _ _ _ _ _ _ _ _ _ _ _ _ _ _ _ _ _ _ _ _ _ _ _ _ _ _ _ _ _ _ _ _ _ _ _ _ _ _ _ _ _ _ _ _ _ _ _ _ _ a7.out a8.out b9.out d3.out (by have:=d1.out; have:=d3.out; omega) ?_;intro wr dT e7 e9 eA eB eC eE eI eJ eK eL eM eN eQ eS eV eW f0 f7 f8 f9 fL fN fP fR fS fW fX fY g0 g6 g9 gE gO gR gS hC hG hH hJ hb;have cR:=D (T.out.trans (hb.mono T.out.size));have cQ:=D (a7.out.on hb);have a6:=D (a8.out.on hb);have aE:=D (cM.out.on hb);have cI:=D (b9.out.on hb);clear hb T a7 a8 cM b9;go_upto_region 8 with fail;refine TR _ wr w.heap.size (w.heap.size+1) me _ _ _ _ eo n3 ec (dZ (es.map jG) ((c,d),(g,h))) es (c,d,g,h,(po,pn,pc),fr,U) _ _ _ _ _ _ _ _ _ _ _ _ _ _ _ _ _ _ _ _ _ _ _ _ _ _ _ _ _ _ _ _ _ _ _ _ _ _ _ _ _ _ _ _ _ _ _ _ _ _ _ _ _ _ _ _ _ _ _ _ _ _ _ _ _ _ _ _ _ _ _ _ _ _ _ _ _ _ _ _ _ _ _ _ _ _ _ _ _ _ _ _ _ _ _ _ _ _ _ _ _ _ _ _ _ _ _ _ _ _ _ _ cQ.out (nZ (p:=(po,pn,pc)) a6.out) cI.out (by have:=ql (es.map jG) ((c,d),(g,h)); rw [aG] at this; exact this) d1.out ?_;intro xw hL hM hO hS hT hU hW hX hY hZ i0 i3 i4 i5 i6 hbx ho hbl hoth hblk;obtain⟨nV,nW,Ce⟩:=(aJ ho).len;obtain⟨tl,htl⟩:∃ n,n=(es.take (dZ (es.map jG) ((c,d),(g,h)))++[(c,d,g,h,(po,pn,pc),fr,U)]++es.drop (dZ (es.map jG) ((c,d),(g,h)))).length:=⟨_,rfl⟩;rw [<- htl] at Ce;subst Ce;have cL:=D (cR.out.trans (hbl _ (ay _)));have M2:=hbx;have M3:=hoth _ _ _ (by omega) a6.out;have M5:=hoth _ _ _ (by omega) aE.out;have cH:=D (dM ho (show w.heap.size+3<=wr.heap.size by have:=aE.out.lt; omega));clear ho hbl hoth hblk htl hbx cR cQ a6 aE cI;go_upto_region 9 with fail;refine zk _ xw w.heap.size (w.heap.size+1) (w.heap.size+1+1) me no ao so nV oo nn nc n2 ac sn sc tl nW eG oc _ _ _ _ _ _ _ _ _ _ _ _ U _ _ _ _ _ _ _ _ _ _ _ _ _ _ _ _ _ _ _ _ _ _ _ _ _ _ _ _ _ _ _ _ _ _ _ _ _ _ _ _ _ _ _ _ _ _ _ _ _ _ _ _ _ _ _ _ _ _ _ _ _ _ _ _ _ _ _ _ _ _ _ _ _ _ _ _ _ _ _ _ _ _ _ _ _ _ _ _ _ _ _ _ _ _ _ _ _ _ _ _ _ _ _ _ _ _ _ _ _ _ _ _ M2 M3 M5 (by omega) ?_;intro a9 x9 Kz h49 h59 Yb;subst Yb;have cS:=D (dL M5.drew (K L me) (J no nn nc) (J ao n2 ac) (J so sn sc) (J nV tl nW) (J oo eG oc));have cN:=D (dH (b:=w.heap.size+1+1) cL.out.drew (by omega) (K L me) (J no nn nc) (J ao n2 ac) (J so sn sc) (J nV tl nW) (J oo eG oc));have d4:=D (gy (dI cH.out ((aB xw.heap.size xw).drew)) (w.heap.size+1+1) (by omega) (K L me) (J no nn nc) (J ao n2 ac) (J so sn sc) (J nV tl nW) (J oo eG oc));clear cH M2 M3 M5 cL;simp only [Exit.then]
      apply_assumption
      go_wp2_with fail;obtain⟨c8,c9,cA,cC,cD,cF⟩:=cS.out.fD;refine bodyPost_ret (v:=.tuple #[aR #[K L me,J no nn nc,J ao n2 ac,J so sn sc,J nV tl nW,J oo eG oc],V U]) (by simp [results,aj,go_sem,h49,h59,c8,c9,cA,cC,cD,cF]) Kz ?_;rw [LB.out];refine⟨⟨(nV,tl,nW),_,rfl,aM (dM d4.out (show w.heap.size<=w.heap.size+3 by omega)),?_⟩,cN.out⟩;rw [<- d9.out];exact ((cW.out.take _).append (.cons (dE.out _) .nil)).append (cW.out.drop _)
     ·have CW:=D (d5.out w2 bQ.out);obtain⟨cv,hcv⟩:∃ r,fA b.ent (c,d) p'=r:=⟨_,rfl⟩;rw [hcv] at CW LD;clear d5 hcv;go_wp2_with fail;refine CW.out.mono ?_;rintro e3 w3 ⟨rfl,hb⟩;have cX:=D (bQ.out.trans (hb.mono bQ.out.size));have cV:=D (cJ.out.on hb);have bJ:=D (cY.out.on hb);have cU:=D (c7.out.on hb);clear hb CW bQ cJ cY c7 x0 x1 x2 x3 x4 x5 y0 y1 y2 y3 y4 y5 y6 p3b;cases cv
      ·have LB:=D LD;clear LD;have f3:=bJ.out;obtain⟨k0,k1,k2,k3,k4,k5,k6⟩:=f3.pG;have f36:=f3.fr 6;have Ya:=f3.lt;clear f3;go_upto_region 5 with fail;clear k0 k1 k2 k3 k4 k5 k6 f36 Ya;have a8:=D (show dK _ _ #[K L c,K L d,K L g,K L h,J po pn pc,K L fr,V au] _ from by simpa using eu (k:=6) bJ.out (V au));have a7:=D (show dK _ _ _ _ from (O w3 ⟨w.heap.size+1,6,X⟩ (V au) _ (show w.heap.size≠w.heap.size+1 by omega)).trans cV.out);have cM:=D (show dK _ _ _ _ from (O w3 ⟨w.heap.size+1,6,X⟩ (V au) _ (show w.heap.size+1+1≠w.heap.size+1 by omega)).trans cU.out);have T:=D (cX.out.setCell (p:=⟨w.heap.size+1,6,X⟩) (by show w.heap.size<=w.heap.size+1; omega) (V au));clear cX cV bJ cU;generalize w3.setCell ⟨w.heap.size+1,6,X⟩ (V au)=w4 at *;have b9:=D (dA.out.on T.out)
       go_upto_block 0 with (fail)
       refine zA _ w4 w.heap.size (w.heap.size+1) me c d g h _ _ _ _ _ _ _ eo n3 ec es _ _ _ _ _ _ _ _ _ _ _ _ _ _ _ _ _ _ _ _ _ _ _ _ _ _ _ _ _ _ _ _ _ _ _ _ _ _ _ _ _ _ _ _ _ _ _ _ _ _ _ _ _ _ _ _ _ _ _ _ _ _ _ _ _ _ _ _ _ _ _ _ _ _ _ _ _ _ _ _ _ _ _ _ _ _ _ _ _ _ _ _ _ _ _ _ _ _ _ _ _ _ _ _ _ _ _ _ _ _ _ _ a7.out a8.out b9.out d3.out (by have:=d1.out; have:=d3.out; omega) ?_;intro wr dT e7 e9 eA eB eC eE eI eJ eK eL eM eN eQ eS eV eW f0 f7 f8 f9 fL fN fP fR fS fW fX fY g0 g6 g9 gE gO gR gS hC hG hH hJ hb;have cR:=D (T.out.trans (hb.mono T.out.size));have cQ:=D (a7.out.on hb);have a6:=D (a8.out.on hb);have aE:=D (cM.out.on hb);have cI:=D (b9.out.on hb);clear hb T a7 a8 cM b9;go_upto_region 8 with fail;refine TR _ wr w.heap.size (w.heap.size+1) me _ _ _ _ eo n3 ec (dZ (es.map jG) ((c,d),(g,h))) es (c,d,g,h,(po,pn,pc),fr,au) _ _ _ _ _ _ _ _ _ _ _ _ _ _ _ _ _ _ _ _ _ _ _ _ _ _ _ _ _ _ _ _ _ _ _ _ _ _ _ _ _ _ _ _ _ _ _ _ _ _ _ _ _ _ _ _ _ _ _ _ _ _ _ _ _ _ _ _ _ _ _ _ _ _ _ _ _ _ _ _ _ _ _ _ _ _ _ _ _ _ _ _ _ _ _ _ _ _ _ _ _ _ _ _ _ _ _ _ _ _ _ _ cQ.out (nZ (p:=(po,pn,pc)) a6.out) cI.out (by have:=ql (es.map jG) ((c,d),(g,h)); rw [aG] at this; exact this) d1.out ?_;intro xw hL hM hO hS hT hU hW hX hY hZ i0 i3 i4 i5 i6 hbx ho hbl hoth hblk;obtain⟨nV,nW,Ce⟩:=(aJ ho).len;obtain⟨tl,htl⟩:∃ n,n=(es.take (dZ (es.map jG) ((c,d),(g,h)))++[(c,d,g,h,(po,pn,pc),fr,au)]++es.drop (dZ (es.map jG) ((c,d),(g,h)))).length:=⟨_,rfl⟩;rw [<- htl] at Ce;subst Ce;have cL:=D (cR.out.trans (hbl _ (ay _)));have M2:=hbx;have M3:=hoth _ _ _ (by omega) a6.out;have M5:=hoth _ _ _ (by omega) aE.out;have cH:=D (dM ho (show w.heap.size+3<=wr.heap.size by have:=aE.out.lt; omega));clear ho hbl hoth hblk htl hbx cR cQ a6 aE cI;go_upto_region 9 with fail;refine zk _ xw w.heap.size (w.heap.size+1) (w.heap.size+1+1) me no ao so nV oo nn nc n2 ac sn sc tl nW eG oc _ _ _ _ _ _ _ _ _ _ _ _ au _ _ _ _ _ _ _ _ _ _ _ _ _ _ _ _ _ _ _ _ _ _ _ _ _ _ _ _ _ _ _ _ _ _ _ _ _ _ _ _ _ _ _ _ _ _ _ _ _ _ _ _ _ _ _ _ _ _ _ _ _ _ _ _ _ _ _ _ _ _ _ _ _ _ _ _ _ _ _ _ _ _ _ _ _ _ _ _ _ _ _ _ _ _ _ _ _ _ _ _ _ _ _ _ _ _ _ _ _ _ _ _ M2 M3 M5 (by omega) ?_;intro a9 x9 Kz h49 h59 Yb;subst Yb;have cS:=D (dL M5.drew (K L me) (J no nn nc) (J ao n2 ac) (J so sn sc) (J nV tl nW) (J oo eG oc));have cN:=D (dH (b:=w.heap.size+1+1) cL.out.drew (by omega) (K L me) (J no nn nc) (J ao n2 ac) (J so sn sc) (J nV tl nW) (J oo eG oc));have d4:=D (gy (dI cH.out ((aB xw.heap.size xw).drew)) (w.heap.size+1+1) (by omega) (K L me) (J no nn nc) (J ao n2 ac) (J so sn sc) (J nV tl nW) (J oo eG oc));clear cH M2 M3 M5 cL;simp only [Exit.then]
       apply_assumption
       go_wp2_with fail;obtain⟨c8,c9,cA,cC,cD,cF⟩:=cS.out.fD;refine bodyPost_ret (v:=.tuple #[aR #[K L me,J no nn nc,J ao n2 ac,J so sn sc,J nV tl nW,J oo eG oc],V au]) (by simp [results,aj,go_sem,h49,h59,c8,c9,cA,cC,cD,cF]) Kz ?_;rw [LB.out];refine⟨⟨(nV,tl,nW),_,rfl,aM (dM d4.out (show w.heap.size<=w.heap.size+3 by omega)),?_⟩,cN.out⟩;rw [<- d9.out];exact ((cW.out.take _).append (.cons (dE.out _) .nil)).append (cW.out.drop _)
      ·have LB:=D LD;clear LD;have f3:=bJ.out;obtain⟨k0,k1,k2,k3,k4,k5,k6⟩:=f3.pG;have f36:=f3.fr 6;have Ya:=f3.lt;clear f3;go_upto_region 5 with fail;clear k0 k1 k2 k3 k4 k5 k6 f36 Ya;have a8:=D (show dK _ _ #[K L c,K L d,K L g,K L h,J po pn pc,K L fr,V U] _ from by simpa using eu (k:=6) bJ.out (V U));have a7:=D (show dK _ _ _ _ from (O w3 ⟨w.heap.size+1,6,X⟩ (V U) _ (show w.heap.size≠w.heap.size+1 by omega)).trans cV.out);have cM:=D (show dK _ _ _ _ from (O w3 ⟨w.heap.size+1,6,X⟩ (V U) _ (show w.heap.size+1+1≠w.heap.size+1 by omega)).trans cU.out);have T:=D (cX.out.setCell (p:=⟨w.heap.size+1,6,X⟩) (by show w.heap.size<=w.heap.size+1; omega) (V U));clear cX cV bJ cU;generalize w3.setCell ⟨w.heap.size+1,6,X⟩ (V U)=w4 at *;have b9:=D (dA.out.on T.out)
       go_upto_block 0 with (fail)
       refine zA _ w4 w.heap.size (w.heap.size+1) me c d g h _ _ _ _ _ _ _ eo n3 ec es _ _ _ _ _ _ _ _ _ _ _ _ _ _ _ _ _ _ _ _ _ _ _ _ _ _ _ _ _ _ _ _ _ _ _ _ _ _ _ _ _ _ _ _ _ _ _ _ _ _ _ _ _ _ _ _ _ _ _ _ _ _ _ _ _ _ _ _ _ _ _ _ _ _ _ _ _ _ _ _ _ _ _ _ _ _ _ _ _ _ _ _ _ _ _ _ _ _ _ _ _ _ _ _ _ _ _ _ _ _ _ _ a7.out a8.out b9.out d3.out (by have:=d1.out; have:=d3.out; omega) ?_;intro wr dT e7 e9 eA eB eC eE eI eJ eK eL eM eN eQ eS eV eW f0 f7 f8 f9 fL fN fP fR fS fW fX fY g0 g6 g9 gE gO gR gS hC hG hH hJ hb;have cR:=D (T.out.trans (hb.mono T.out.size));have cQ:=D (a7.out.on hb);have a6:=D (a8.out.on hb);have aE:=D (cM.out.on hb);have cI:=D (b9.out.on hb);clear hb T a7 a8 cM b9;go_upto_region 8 with fail;refine TR _ wr w.heap.size (w.heap.size+1) me _ _ _ _ eo n3 ec (dZ (es.map jG) ((c,d),(g,h))) es (c,d,g,h,(po,pn,pc),fr,U) _ _ _ _ _ _ _ _ _ _ _ _ _ _ _ _ _ _ _ _ _ _ _ _ _ _ _ _ _ _ _ _ _ _ _ _ _ _ _ _ _ _ _ _ _ _ _ _ _ _ _ _ _ _ _ _ _ _ _ _ _ _ _ _ _ _ _ _ _ _ _ _ _ _ _ _ _ _ _ _ _ _ _ _ _ _ _ _ _ _ _ _ _ _ _ _ _ _ _ _ _ _ _ _ _ _ _ _ _ _ _ _ cQ.out (nZ (p:=(po,pn,pc)) a6.out) cI.out (by have:=ql (es.map jG) ((c,d),(g,h)); rw [aG] at this; exact this) d1.out ?_;intro xw hL hM hO hS hT hU hW hX hY hZ i0 i3 i4 i5 i6 hbx ho hbl hoth hblk;obtain⟨nV,nW,Ce⟩:=(aJ ho).len;obtain⟨tl,htl⟩:∃ n,n=(es.take (dZ (es.map jG) ((c,d),(g,h)))++[(c,d,g,h,(po,pn,pc),fr,U)]++es.drop (dZ (es.map jG) ((c,d),(g,h)))).length:=⟨_,rfl⟩;rw [<- htl] at Ce;subst Ce;have cL:=D (cR.out.trans (hbl _ (ay _)));have M2:=hbx;have M3:=hoth _ _ _ (by omega) a6.out;have M5:=hoth _ _ _ (by omega) aE.out;have cH:=D (dM ho (show w.heap.size+3<=wr.heap.size by have:=aE.out.lt; omega));clear ho hbl hoth hblk htl hbx cR cQ a6 aE cI;go_upto_region 9 with fail;refine zk _ xw w.heap.size (w.heap.size+1) (w.heap.size+1+1) me no ao so nV oo nn nc n2 ac sn sc tl nW eG oc _ _ _ _ _ _ _ _ _ _ _ _ U _ _ _ _ _ _ _ _ _ _ _ _ _ _ _ _ _ _ _ _ _ _ _ _ _ _ _ _ _ _ _ _ _ _ _ _ _ _ _ _ _ _ _ _ _ _ _ _ _ _ _ _ _ _ _ _ _ _ _ _ _ _ _ _ _ _ _ _ _ _ _ _ _ _ _ _ _ _ _ _ _ _ _ _ _ _ _ _ _ _ _ _ _ _ _ _ _ _ _ _ _ _ _ _ _ _ _ _ _ _ _ _ M2 M3 M5 (by omega) ?_;intro a9 x9 Kz h49 h59 Yb;subst Yb;have cS:=D (dL M5.drew (K L me) (J no nn nc) (J ao n2 ac) (J so sn sc) (J nV tl nW) (J oo eG oc));have cN:=D (dH (b:=w.heap.size+1+1) cL.out.drew (by omega) (K L me) (J no nn nc) (J ao n2 ac) (J so sn sc) (J nV tl nW) (J oo eG oc));have d4:=D (gy (dI cH.out ((aB xw.heap.size xw).drew)) (w.heap.size+1+1) (by omega) (K L me) (J no nn nc) (J ao n2 ac) (J so sn sc) (J nV tl nW) (J oo eG oc));clear cH M2 M3 M5 cL;simp only [Exit.then]
       apply_assumption
       go_wp2_with fail;obtain⟨c8,c9,cA,cC,cD,cF⟩:=cS.out.fD;refine bodyPost_ret (v:=.tuple #[aR #[K L me,J no nn nc,J ao n2 ac,J so sn sc,J nV tl nW,J oo eG oc],V U]) (by simp [results,aj,go_sem,h49,h59,c8,c9,cA,cC,cD,cF]) Kz ?_;rw [LB.out];refine⟨⟨(nV,tl,nW),_,rfl,aM (dM d4.out (show w.heap.size<=w.heap.size+3 by omega)),?_⟩,cN.out⟩;rw [<- d9.out];exact ((cW.out.take _).append (.cons (dE.out _) .nil)).append (cW.out.drop _)
    ·have LB:=D (LC.trans (if_pos (by simpa using And.intro hf1 hf2)));clear LC;go_upto_region 2 with fail;refine wp_region_quiet_below (by kernel_rfl) (by kernel_rfl) ?_
     repeat (go_big_quiet_step (first | (with_reducible exact dC.out _ _)))
     refine wpQuiet_nil ?_;intro _ hw';obtain⟨⟨dq,osq⟩,hw''⟩:=hw';subst hw'';have Z6:=below_regrown w1 dq osq;have bQ:=D (cP.out.trans (Z6.mono cP.out.size));have cJ:=D (cT.out.on Z6);have cY:=D (cG.out.on Z6);have c7:=D (d7.out.on Z6);clear Z6 cP cT cG d7 a0 a1 a2 a3 a4 a5 b0 b1 b2 b3 b4 b5 b6;generalize grow (redrawn w1 dq) osq=w2 at *;have cS:=D (dL c7.out (K L me) (J no nn nc) (J ao n2 ac) (J so sn sc) (J eo n3 ec) (J oo eG oc));have cN:=D (dH (b:=w.heap.size+1+1) bQ.out (by omega) (K L me) (J no nn nc) (J ao n2 ac) (J so sn sc) (J eo n3 ec) (J oo eG oc));have Bg:=cJ.out;have uF:=c7.out;obtain⟨x0,x1,x2,x3,x4,x5⟩:=Bg.fD;obtain⟨r0,r1,r2,r3,r4,r5⟩:=uF.fD;obtain⟨t0,t1,t2,t3,t4,t5⟩:=uF.kK;have zz:=uF.lt;clear Bg uF;go_wp2_with fail;obtain⟨c8,c9,cA,cC,cD,cF⟩:=cS.out.fD;refine bodyPost_ret (v:=.tuple #[aR #[K L me,J no nn nc,J ao n2 ac,J so sn sc,J eo n3 ec,J oo eG oc],V U]) (by simp [results,aj,go_sem,c8,c9,cA,cC,cD,cF]) rfl ?_;rw [LB.out];exact⟨⟨(eo,n3,ec),es,rfl,aX ⟨rfl,rfl,rfl⟩,cW.out⟩,cN.out⟩
  ·have LB:=D (show iB b ⟨(c,d),(g,h),p',fr,up0⟩=(b,U) from (i9.out _ he).trans (if_pos (by omega)));have hge:decide ((0:Int)<=(j:Int))=au:=decide_eq_true (by omega);rw [he] at dC;clear i9 he;go_upto_region 2 with fail;refine wp_region_quiet_below (by kernel_rfl) (by kernel_rfl) ?_
   repeat (go_big_quiet_step (first | (with_reducible exact dC.out _ _)))
   refine wpQuiet_nil ?_;intro _ hw';obtain⟨⟨dq,osq⟩,hw''⟩:=hw';subst hw'';have Z6:=below_regrown w1 dq osq;have bQ:=D (cP.out.trans (Z6.mono cP.out.size));have cJ:=D (cT.out.on Z6);have cY:=D (cG.out.on Z6);have c7:=D (d7.out.on Z6);clear Z6 cP cT cG d7 a0 a1 a2 a3 a4 a5 b0 b1 b2 b3 b4 b5 b6;generalize grow (redrawn w1 dq) osq=w2 at *;have cS:=D (dL c7.out (K L me) (J no nn nc) (J ao n2 ac) (J so sn sc) (J eo n3 ec) (J oo eG oc));have cN:=D (dH (b:=w.heap.size+1+1) bQ.out (by omega) (K L me) (J no nn nc) (J ao n2 ac) (J so sn sc) (J eo n3 ec) (J oo eG oc));have Bg:=cJ.out;have uF:=c7.out;obtain⟨x0,x1,x2,x3,x4,x5⟩:=Bg.fD;obtain⟨r0,r1,r2,r3,r4,r5⟩:=uF.fD;obtain⟨t0,t1,t2,t3,t4,t5⟩:=uF.kK;have zz:=uF.lt;clear Bg uF;go_wp2_with fail;obtain⟨c8,c9,cA,cC,cD,cF⟩:=cS.out.fD;refine bodyPost_ret (v:=.tuple #[aR #[K L me,J no nn nc,J ao n2 ac,J so sn sc,J eo n3 ec,J oo eG oc],V U]) (by simp [results,aj,go_sem,c8,c9,cA,cC,cD,cF]) rfl ?_;rw [LB.out];exact⟨⟨(eo,n3,ec),es,rfl,aX ⟨rfl,rfl,rfl⟩,cW.out⟩,cN.out⟩
theorem jO (b:Br) (e:En):(iB b e).1.me=b.me/\(iB b e).1.near=b.near/\(iB b e).1.dO=b.dO/\(iB b e).1.seen=b.seen/\(iB b e).1.own=b.own:=by
 unfold iB
 split
 ·exact⟨rfl,rfl,rfl,rfl,rfl⟩
 ·split
  ·exact⟨rfl,rfl,rfl,rfl,rfl⟩
  ·split
   ·exact⟨rfl,rfl,rfl,rfl,rfl⟩
   ·split <;> exact⟨rfl,rfl,rfl,rfl,rfl⟩
theorem Yc (b:Br) (nv av sv ev ov:Sl) (z:jk) (e:En) (w:aP) (h_:jq w b nv av sv ev ov) (hz:jJ w z e) (l2:b.dO.length<=900) (l3:b.ent.length<=900) (hok:∀ e∈b.ent,dR e.p) (hop:dR e.p) :
  aZ aI 57 #[mG b.me nv av sv ev ov,qO z] w fun e' w'=>(∃ ev':Sl,e'=.returned (.tuple #[mG b.me nv av sv ev' ov,V (iB b e).2])/\jq w' (iB b e).1 nv av sv ev' ov)/\Below w.heap.size w w':=by
 obtain⟨es,he1,he2⟩:=h_.ent;refine (wu b nv av sv ev ov z e w es (jJ w) h_ he1 he2 he2 (fun u=>⟨hz.1,hz.2.1,hz.2.2.1,rfl,hz.2.2.2.2⟩) hz l2 l3 hok hop).mono ?_;rintro e1 w1 ⟨⟨ev',xs,rfl,hr,hx⟩,hb⟩;refine⟨⟨ev',rfl,?_⟩,hb⟩;have hI:=h_.on hb;obtain⟨_,a2,a3,a4,a5⟩:=jO b e;refine⟨by rw [a2]; exact hI.near,by rw [a3]; exact hI.dO,by rw [a4]; exact hI.seen,⟨xs,?_,hx.mono fun _ _ h=>h.on hb⟩,by rw [a5]; exact hI.own⟩;rcases hr with⟨h1,h2,_⟩|hr
 ·rw [h1,h2];exact he1.on hb
 ·exact aJ hr
end Bk
namespace Bk
open Go.RowKit Go.Sort Rw YtghlpefopidlaaaGreat.Nm Pr
open Av
def Ez (e:En):En:={ e with up:=au }
def iH (t:Id) (s:List En×List En) (k:Nat):List En×List En:=match s.1[k]? with
 | none=>s
 | some e=>if e.tree=t/\e.up=U/\fA s.1 t e.p=U then (s.1.set k (Ez e),s.2++[Ez e]) else s
def iN (t:Id) (m:List En) (k:Nat):List En×List En:=(List.range k).foldl (iH t) (m,[])
def takeB (b:Br) (t s:Id) (f:Int):Br×List En×Bool:=match b.ent[(jc (b.ent.map dY) (t,s)).toNat]? with
 | none=>(b,[],U)
 | some e=>if jc (b.ent.map dY) (t,s)=-1 then (b,[],U) else if e.from_≠f then (b,[],U) else
  if e.up=U then ({ b with ent:=cutAt b.ent (jc (b.ent.map dY) (t,s)).toNat },[],U) else
  ({ b with ent:=(iN t (cutAt b.ent (jc (b.ent.map dY) (t,s)).toNat) (cutAt b.ent (jc (b.ent.map dY) (t,s)).toNat).length).1 },(iN t (cutAt b.ent (jc (b.ent.map dY) (t,s)).toNat) (cutAt b.ent (jc (b.ent.map dY) (t,s)).toNat).length).2,au)
theorem kF (t:Id) (m:List En) (k:Nat):iN t m (k+1)=iH t (iN t m k) k:=by
 simp [iN,List.range_succ]
theorem Jh (t:Id) (s:List En×List En) (k:Nat):(iH t s k).1.length=s.1.length/\(iH t s k).2.length<=s.2.length+1:=by
 unfold iH
 split
 ·exact⟨rfl,bf _⟩
 ·split
  ·simp
  ·exact⟨rfl,bf _⟩
theorem qm (t:Id) (m:List En):∀ k,(iN t m k).1.length=m.length/\(iN t m k).2.length<=k
 | 0=>⟨rfl,ay _⟩
 | k+1=>by
  rw [kF];have h1:=qm t m k;have h2:=Jh t (iN t m k) k;omega
theorem KF {t:Id} {m:List En} (P:List C5->Prop) (h:∀ e∈m,P e.p):∀ k,(∀ e∈(iN t m k).1,P e.p)/\∀ e∈(iN t m k).2,P e.p
 | 0=>⟨h,fun e he=>by simp [iN] at he⟩
 | k+1=>by
  have ih:=KF (t:=t) P h k;rw [kF];unfold iH
  split
  ·exact ih
  ·rename_i e he
   split
   ·refine⟨fun x hx=>?_,fun x hx=>?_⟩
    ·rcases List.mem_or_eq_of_mem_set hx with h1|h1
     ·exact ih.1 x h1
     ·rw [h1];exact ih.1 e (aA he)
    ·rcases aV.1 hx with h1|h1
     ·exact ih.2 x h1
     ·rw [List.mem_singleton.1 h1];exact ih.1 e (aA he)
   ·exact ih
theorem KG:∀ (l:List jk) (k:Nat) (x:jk),l[k]?=ah x->flat EN (l.set k (x.1,x.2.1,x.2.2.1,x.2.2.2.1,x.2.2.2.2.1,x.2.2.2.2.2.1,au))=(flat EN l).set (k * 7+6) (V au)
 | [],k,x,h=>by simp at h
 | y::r,0,x,h=>by
  obtain rfl:y=x:=by simpa using h
  rfl
 | y::r,k+1,x,h=>by
  have ih:=KG r k x (by simpa using h);rw [show (k+1) * 7+6=(k * 7+6)+1+1+1+1+1+1+1 by omega];simp only [aS,flat,EN,jr,List.cons_append,List.nil_append] at ih ⊢;rw [ih]
theorem Qz {w:aP} {B g n cap k:Nat} {l:List jk} {x:jk} (h:jH w B (J (ah ⟨g,0,X⟩) n cap) l) (hk:l[k]?=ah x) :
  jH (w.setCell ⟨g,k * 7+6,X⟩ (V au)) B (J (ah ⟨g,0,X⟩) n cap) (l.set k (x.1,x.2.1,x.2.2.1,x.2.2.2.1,x.2.2.2.2.1,x.2.2.2.2.2.1,au))/\w.cell? ⟨g,k * 7+6,X⟩=ah (V x.2.2.2.2.2.2)/\w.frozen? ⟨g,k * 7+6,X⟩=U:=by
 have c:=kE mM h hk w (aB _ _);have c6:=c 6 _ rfl;simp [Addr.add,EN] at c6;obtain⟨cur,hb⟩:=jL h;obtain⟨ao,c',hv⟩:=(aJ h).len;obtain⟨_,rfl,_⟩:ah ⟨g,0,X⟩=ao/\n=l.length/\cap=c':=by simpa using hv
 have h:w.ownsRow B 67 7 (J (ah ⟨g,0,X⟩) l.length cap) l.length (flat EN l):=h;have t1:=(h.stored (k * 7+6) (V au)).1;refine⟨?_,c6,hb.fr _⟩;have e:=KG l k x hk;show World.ownsRow _ B 67 7 _ (List.length _) (flat EN _);rw [e,List.length_set];exact t1
theorem eY.set2 {α β:Type} {R:α->β->Prop}:∀ {l:List α} {m:List β} (k:Nat) {a:α} {b:β},eY R l m->R a b->eY R (l.set k a) (m.set k b)
 | _,_,_,_,_,.nil,_=>.nil
 | _,_,0,_,_,.cons _ t,hr=>.cons hr t
 | _,_,k+1,_,_,.cons x t,hr=>.cons x (eY.set2 k t hr)
theorem vG (w:aP) (c d e f:Array aW) (r s t u:TypeId):Below w.heap.size w ((((w.alloc (Y c r)).alloc (Y d s)).alloc (Y e t)).alloc (Y f u))/\dK ((((w.alloc (Y c r)).alloc (Y d s)).alloc (Y e t)).alloc (Y f u)) w.heap.size c r/\dK ((((w.alloc (Y c r)).alloc (Y d s)).alloc (Y e t)).alloc (Y f u)) (w.heap.size+1) d s/\dK ((((w.alloc (Y c r)).alloc (Y d s)).alloc (Y e t)).alloc (Y f u)) (w.heap.size+1+1) e t/\dK ((((w.alloc (Y c r)).alloc (Y d s)).alloc (Y e t)).alloc (Y f u)) (w.heap.size+1+1+1) f u:=by
 obtain⟨h0,h1,h2,h3⟩:=gT w c d e r s t;refine⟨h0.alloc h0.size _,h1.more _,h2.more _,h3.more _,?_⟩;have h:=dQ (((w.alloc (Y c r)).alloc (Y d s)).alloc (Y e t)) f u;have e2:(((w.alloc (Y c r)).alloc (Y d s)).alloc (Y e t)).heap.size=w.heap.size+1+1+1:=by simp
 rw [e2] at h;exact h
theorem Ur (b:Br) (nv av sv ev ov:Sl) (x s:Id) (f:Int) (w:aP) (h:jq w b nv av sv ev ov) (l3:b.ent.length<=900) (hok:∀ e∈b.ent,dR e.p) :
  aZ aI 126 #[mG b.me nv av sv ev ov,nC x,nC s,K L f] w fun e w'=>(∃ ev' lo:Sl,e=.returned (.tuple #[mG b.me nv av sv ev' ov,dX lo,V (takeB b x s f).2.2])/\jq w' (takeB b x s f).1 nv av sv ev' ov/\∃ xs,mh w' (dX lo) xs/\eY (jJ w') xs (takeB b x s f).2.1)/\Below w.heap.size w w':=by
 obtain⟨no,nn,nc⟩:=nv;obtain⟨ao,an,ac⟩:=av;obtain⟨so,sn,sc⟩:=sv;obtain⟨eo,en,ec⟩:=ev;obtain⟨oo,eG,oc⟩:=ov;obtain⟨c,d⟩:=x;obtain⟨c2,d2⟩:=s;obtain⟨es,he1,he2⟩:=h.ent;have fY:=D (keys_eq he2);have j5:=D (show es.length<=900 by rw [he2.len]; exact l3);have e7:=D he2;have fR:=D hok;obtain⟨q1,q2,hq⟩:=he1.len;obtain⟨rfl,rfl,rfl⟩:eo=q1/\en=es.length/\ec=q2:=by
  have:J eo en ec=J q1 es.length q2:=hq;simpa using this
 have EY:=Ct b.me (J no nn nc) (J ao an ac) (J so sn sc) (J oo eG oc) (eo,es.length,ec) es (c,d) (c2,d2);have cV:=D h;obtain⟨h0,h1,h2,h3,h4⟩:=vG w #[K L b.me,J no nn nc,J ao an ac,J so sn sc,J eo es.length ec,J oo eG oc] #[K L c,K L d] #[K L c2,K L d2] #[K L 0,J X 0 0,J X 0 0,J X 0 0,J X 0 0,J X 0 0] 30 23 23 30;obtain⟨n3,WU⟩:∃ n,n=es.length:=⟨_,rfl⟩;simp only [<- WU] at h0 h1 h2 h3 h4 he1 cV EY ⊢;obtain⟨me,hme⟩:∃ me,me=b.me:=⟨_,rfl⟩;simp only [<- hme] at h0 h1 h2 h3 h4 EY ⊢;have hT:=D WU;have cJ:=D (h0);have cT:=D (h1);have cS:=D (h2);have cU:=D (h3);have dT:=D (h4);have cM:=D (he1.on h0);have HEW:=D he1;clear h0 h1 h2 h3 h4 he1 he2 h hq WU l3 hme hok;go_enter Tryz.func126,Tryz.ntmps126;go_upto_region 1 with fail;generalize ((((w.alloc (Y #[K L me,J no nn nc,J ao an ac,J so sn sc,J eo n3 ec,J oo eG oc] 30)).alloc (Y #[K L c,K L d] 23)).alloc (Y #[K L c2,K L d2] 23)).alloc (Y #[K L 0,J X 0 0,J X 0 0,J X 0 0,J X 0 0,J X 0 0] 30))=W at *;have cL:=D (EY W cM.out);clear EY;obtain⟨x0,x1,x2,x3,x4,x5⟩:=cT.out.fD;obtain⟨y0,y1⟩:=cS.out.cs2;obtain⟨z0,z1⟩:=cU.out.cs2;rcases mH (es.map jG) ((c,d),(c2,d2)) with hf|⟨k,hf,hkk⟩
 ·have a4:=D (show takeB b (c,d) (c2,d2) f=(b,[],U) by
   have hf2:=hf;rw [fY.out] at hf2;unfold takeB;rw [hf2]
   split
   ·rfl
   ·rw [if_pos rfl])
  rw [hf] at cL;clear hf;go_wp2_with fail;refine cL.out.mono ?_;rintro e1 w1 ⟨rfl,hb⟩;clear cL;clear x0 x1 x2 x3 x4 x5 y0 y1 z0 z1;have cR:=D (cJ.out.trans (hb.mono cJ.out.size));have cI:=D (cT.out.on hb);have eM:=D (cS.out.on hb);have eC:=D (cU.out.on hb);have T:=D (dT.out.on hb);have eB:=D (cM.out.on hb);clear cJ cT cS cU dT cM;clear hb;obtain⟨x0,x1,x2,x3,x4,x5⟩:=cI.out.fD;obtain⟨r0,r1,r2,r3,r4,r5⟩:=T.out.fD;obtain⟨zW,zX,zY,zZ,z8,Aa⟩:=T.out.kK;have zz:=T.out.lt;have cF:=D (dL T.out (K L me) (J no nn nc) (J ao an ac) (J so sn sc) (J eo n3 ec) (J oo eG oc));have a0:=D (dH (b:=w.heap.size+1+1+1) cR.out (by omega) (K L me) (J no nn nc) (J ao an ac) (J so sn sc) (J eo n3 ec) (J oo eG oc));go_wp2_with fail;obtain⟨bJ,bQ,c7,c8,c9,cA⟩:=cF.out.fD;refine bodyPost_ret (v:=.tuple #[aR #[K L me,J no nn nc,J ao an ac,J so sn sc,J eo n3 ec,J oo eG oc],J X 0 0,V U]) (by simp [results,aK,go_sem,bJ,bQ,c7,c8,c9,cA]) rfl ?_;rw [a4.out];exact⟨⟨(eo,n3,ec),(X,0,0),rfl,cV.out.on a0.out,[],jo _,.nil⟩,a0.out⟩
 ·rw [hf] at cL;have hk:k<es.length:=by have:=(aN.1 hkk).1; simpa using this
  obtain⟨y,hy⟩:∃ y,es[k]?=ah y:=⟨_,Z hk⟩;obtain⟨e0,he0⟩:∃ e,b.ent[k]?=ah e:=⟨_,Z (by rw [<- e7.out.len]; exact hk)⟩;obtain⟨y_,hy_,hye⟩:=e7.out.at k e0 he0;obtain rfl:y=y_:=ak (hy.symm.trans hy_);have hkn:k<n3:=by rw [hT.out]; exact hk
  have a4:=D (show takeB b (c,d) (c2,d2) f=if e0.from_≠f then (b,[],U) else if e0.up=U then ({ b with ent:=cutAt b.ent k },[],U) else ({ b with ent:=(iN (c,d) (cutAt b.ent k) (cutAt b.ent k).length).1 },(iN (c,d) (cutAt b.ent k) (cutAt b.ent k).length).2,au) by
   have hf2:=hf;rw [fY.out] at hf2;unfold takeB;rw [hf2,Int.toNat_natCast,he0];simp only;rw [if_neg (by omega)])
  obtain⟨p,ix,px⟩:=P8 cM.out rfl hT.out.symm hy;obtain⟨t1,t2,t3,t4,⟨po,pn,pc⟩,fr,up⟩:=y;obtain⟨hl1,hl2,hfr,hup,hl5⟩:=hye;simp only at hfr hup;rw [<- hfr,<- hup] at a4;clear hfr hup hl1 hl2 hl5 hy_ he0 e0;have hik:decide ((k:Int)<0)=U:=decide_eq_false (by omega);have XL:=j5.out;go_wp2_with fail;refine cL.out.mono ?_;rintro e1 w1 ⟨rfl,hb⟩;have AA:=px w1 hb;obtain⟨p0,p1,p2,p3,p4,p5,p6⟩:=AA;clear cL px;clear x0 x1 x2 x3 x4 x5 y0 y1 z0 z1;have cR:=D (cJ.out.trans (hb.mono cJ.out.size));have cI:=D (cT.out.on hb);have eM:=D (cS.out.on hb);have eC:=D (cU.out.on hb);have T:=D (dT.out.on hb);have eB:=D (cM.out.on hb);clear cJ cT cS cU dT cM;clear hb hf;by_cases hpf:fr=f
  ·rw [if_neg (by simp [hpf])] at a4;have hne:(fr != f)=U:=by simp [hpf]
   obtain⟨x0,x1,x2,x3,x4,x5⟩:=cI.out.fD;obtain⟨r0,r1,r2,r3,r4,r5⟩:=T.out.fD;obtain⟨zW,zX,zY,zZ,z8,Aa⟩:=T.out.kK;have zz:=T.out.lt;go_upto_region 5 with fail;clear zz hne hik ix p0 p1 p2 p3 p4 p5 p6;clear x0 x1 x2 x3 x4 x5 r0 r1 r2 r3 r4 r5 zW zX zY zZ z8 Aa;refine amL _ w1 w.heap.size (w.heap.size+1) me _ _ _ _ eo n3 ec k es _ _ _ _ _ _ _ _ _ _ _ _ _ _ _ _ _ _ _ _ _ _ _ _ _ _ _ _ _ _ _ _ _ _ _ _ _ _ _ _ _ _ _ _ _ _ _ _ _ _ _ _ _ _ _ _ _ _ _ _ _ _ _ _ _ _ _ _ _ _ _ _ _ _ _ _ _ _ _ _ _ _ _ _ _ _ _ _ _ _ _ _ _ _ _ _ _ _ _ _ _ cI.out eB.out (by omega) XL ?_;intro xw v39 v40 v41 v42 v43 v44 v45 v46 v47 v48 v49 v50 v51 hbx ho hbl hoth hblk;have eV:=D (show eY (jJ w) (es.take k++es.drop (k+1)) (cutAt b.ent k) from (e7.out.take k).append (e7.out.drop (k+1)));have hZ:=D (show ∀ e∈cutAt b.ent k,dR e.p from fun e he=>by
    rcases aV.1 he with h|h
    ·exact fR.out e (List.mem_of_mem_take h)
    ·exact fR.out e (List.mem_of_mem_drop h))
   have i3:=D (show (es.take k++es.drop (k+1)).length<=900 from by rw [List.length_append,List.length_take,List.length_drop]; omega);generalize es.take k++es.drop (k+1)=cs at *;obtain⟨ea,JL,hev⟩:=(aJ ho).len;obtain⟨n,hn⟩:∃ n,n=cs.length:=⟨_,rfl⟩;rw [<- hn] at hev;subst hev;have N:=D hn;clear hn;have gO:=D (show (cutAt b.ent k).length=n from by rw [N.out,eV.out.len]);have hcl:=gO.out;simp only [hcl] at a4;generalize cutAt b.ent k=cb at *;clear hcl;have eN:=D (cR.out.trans (hbl _ (ay _)));have d4:=D (hbx);have gS:=D (hoth _ _ _ (by omega) eM.out);have i7:=D (hoth _ _ _ (by omega) eC.out);have cD:=D (hoth _ _ _ (by omega) T.out);have eS:=D (dM ho (show w.heap.size+4<=w1.heap.size by have:=T.out.lt; omega));have a6:=D (show w.heap.size+4<=xw.heap.size from by have:=cD.out.lt; omega);clear hbx ho hbl hoth hblk cR cI eM eC T eB;cases up
   ·rw [if_pos rfl] at a4;obtain⟨x0,x1,x2,x3,x4,x5⟩:=d4.out.fD;obtain⟨r0,r1,r2,r3,r4,r5⟩:=cD.out.fD;obtain⟨zW,zX,zY,zZ,z8,Aa⟩:=cD.out.kK;have zz:=cD.out.lt;have cF:=D (dL cD.out (K L me) (J no nn nc) (J ao an ac) (J so sn sc) (J ea n JL) (J oo eG oc));have a0:=D (dH (b:=w.heap.size+1+1+1) eN.out (by omega) (K L me) (J no nn nc) (J ao an ac) (J so sn sc) (J ea n JL) (J oo eG oc));have eQ:=D (gy eS.out (w.heap.size+1+1+1) (by omega) (K L me) (J no nn nc) (J ao an ac) (J so sn sc) (J ea n JL) (J oo eG oc));go_wp2_with fail;obtain⟨bJ,bQ,c7,c8,c9,cA⟩:=cF.out.fD;refine bodyPost_ret (v:=.tuple #[aR #[K L me,J no nn nc,J ao an ac,J so sn sc,J ea n JL,J oo eG oc],J X 0 0,V U]) (by simp [results,aK,go_sem,bJ,bQ,c7,c8,c9,cA]) rfl ?_;rw [a4.out];have hI:=cV.out.on a0.out;exact⟨⟨(ea,n,JL),(X,0,0),rfl,⟨hI.near,hI.dO,hI.seen,⟨cs,aJ eQ.out,eV.out.mono fun _ _ h=>h.on a0.out⟩,hI.own⟩,[],jo _,.nil⟩,a0.out⟩
   ·rw [if_neg (by simp)] at a4;have L4:=i3.out;rw [<- N.out] at L4;obtain⟨x0,x1,x2,x3,x4,x5⟩:=d4.out.fD;go_wp2_with fail;clear x0 x1 x2 x3 x4 x5
    go_loopw [13,58] (fun v i wr=>∃ (k:Nat) (xs ls:List jk) (a:Option Addr) (c_:Nat),k<=n/\i=K L k/\Below w.heap.size w wr/\w.heap.size+4<=wr.heap.size/\dK wr w.heap.size #[K L me,J no nn nc,J ao an ac,J so sn sc,J a n c_,J oo eG oc] 30/\dK wr (w.heap.size+1) #[K L c,K L d] 23/\dK wr (w.heap.size+1+1+1) #[K L 0,J X 0 0,J X 0 0,J X 0 0,J X 0 0,J X 0 0] 30/\jH wr (w.heap.size+4) (J a n c_) xs/\eY (jJ w) xs (iN (c,d) cb k).1/\jH wr (w.heap.size+4) v ls/\eY (jJ w) ls (iN (c,d) cb k).2) (fun _ i _=>n-(intOf i).toNat)
    case atStart=>exact⟨0,cs,[],ea,JL,aU _,rfl,eN.out,a6.out,d4.out,gS.out,cD.out,eS.out,eV.out,iO _ _,.nil⟩
    case round =>
     clear a6 eN d4 gS i7 cD eS;obtain⟨k,xs,ls,ea,JL,hk,rfl,hgb,hwf,hx4,hx5,QB,hoe,hen,hol,hln⟩:=hrel;have e9:=D (hgb);have d9:=D (hx4);have g6:=D (hx5);have cH:=D (QB);have dC:=D (hoe);have dS:=D (hol);have a6:=D hwf;have a7:=D hen;have cG:=D hln;clear hgb hwf hx4 hx5 QB hoe hen hol hln;have b9:=D (show xs.length=n from by rw [a7.out.len,(qm _ _ _).1,gO.out]);have i8:=D (show ls.length<=900 from by rw [cG.out.len]; exact aF (qm _ _ _).2 (by omega));by_cases hlt:k<n
     ·have hlt':(k:Int)<(n:Int):=by omega
      have hw:IntKind.i64.wrap ((k:Int)+1)=(k:Int)+1:=IntWalk.i64_in _ (by omega);obtain⟨y,hy⟩:∃ y,xs[k]?=ah y:=⟨_,Z (by rw [b9.out]; exact hlt)⟩;obtain⟨e,he⟩:∃ e,(iN (c,d) cb k).1[k]?=ah e:=⟨_,Z (by rw [<- a7.out.len,b9.out]; exact hlt)⟩;obtain⟨y_,hy_,hye⟩:=a7.out.at k e he;obtain rfl:y=y_:=ak (hy.symm.trans hy_);have a5:=D (show iN (c,d) cb (k+1)=if e.tree=(c,d)/\e.up=U/\fA (iN (c,d) cb k).1 (c,d) e.p=U then ((iN (c,d) cb k).1.set k (Ez e),(iN (c,d) cb k).2++[Ez e]) else iN (c,d) cb k from by rw [kF]; unfold iH; rw [he]);have hH:=D ((KF (t:=(c,d)) dR hZ.out k).1);have a3:=D hye;have j6:=D hy;have j2:=D (hH.out e (aA he));clear hy_ hye he;generalize iN (c,d) cb k=mk at *;obtain⟨p,ix,px⟩:=P8 (aJ dC.out) rfl b9.out hy;obtain⟨p0,p1,p2,p3,p4,p5,p6⟩:=px wr (aB _ _);obtain⟨y1,y2,y3,y4,⟨yo,yn,yc⟩,y6,y7⟩:=y;simp only at p0 p1 p2 p3 p4 p5 p6;clear px hy;obtain⟨x0,x1,x2,x3,x4,x5⟩:=d9.out.fD;go_upto_region 13 with fail;clear x0 x1 x2 x3 x4 x5;clear p0 p1 p2 p3 p4 p5 p6 ix;have NN:=gN wr (Y #[K L y1,K L y2,K L y3,K L y4,J yo yn yc,K L y6,V y7] 67);have a8:=D NN.size;have cC:=D (e9.out.trans (NN.mono e9.out.size));have cP:=D (d9.out.on NN);have cN:=D (g6.out.on NN);have dA:=D (cH.out.on NN);have cW:=D (Bk.dI dC.out NN);have d7:=D (Bk.dI dS.out NN);clear e9 d9 g6 cH dC dS;clear NN;have f7:=D (dQ wr #[K L y1,K L y2,K L y3,K L y4,J yo yn yc,K L y6,V y7] 67);generalize wr.alloc (Y #[K L y1,K L y2,K L y3,K L y4,J yo yn yc,K L y6,V y7] 67)=wa at *;obtain⟨x0,x1,x2,x3,x4,x5⟩:=cP.out.fD;obtain⟨zD,y_1⟩:=cN.out.cs2;obtain⟨z0,z1,z2,z3,z4,z5,z6⟩:=f7.out.pG;have eI:=D (show e.tree=(y1,y2) from a3.out.1.symm);have eL:=D (show e.up=y7 from a3.out.2.2.2.1.symm);obtain⟨r1,hr1⟩:∃ r,(y1 == c && y2 == d)=r:=⟨_,rfl⟩;have heq:=rH y1 y2 c d r1 hr1;have eK:=D hr1;clear hr1;cases r1
      ·go_wp2_with fail
       go_roundw
       case rel=>exact⟨k+1,xs,ls,ea,JL,by omega,by go_num,cC.out,by have:=a8.out; have:=a6.out; omega,cP.out,cN.out,dA.out,cW.out,by rw [a5.out,if_neg (by intro hh; have h1:=hh.1; rw [eI.out] at h1; have h2:=eK.out; simp at h1; simp [h1] at h2)]; exact a7.out,d7.out,by rw [a5.out,if_neg (by intro hh; have h1:=hh.1; rw [eI.out] at h1; have h2:=eK.out; simp at h1; simp [h1] at h2)]; exact cG.out⟩
       case measure=>simp [intOf]; omega
      ·cases y7
       ·obtain⟨cv,hcv⟩:∃ r,fA mk.1 (c,d) e.p=r:=⟨_,rfl⟩;have CO:=yu me (J no nn nc) (J ao an ac) (J so sn sc) (J oo eG oc) (ea,n,JL) xs mk.1 (c,d) (J yo yn yc) e.p wa (aJ cW.out) (a7.out.mono fun _ _ h=>h.on cC.out) (a3.out.2.2.2.2.on cC.out) hH.out j2.out;rw [hcv] at CO;rw [hcv] at a5;clear hcv;go_wp2_with fail;refine CO.mono ?_;rintro e2 wb ⟨rfl,hb⟩;clear CO;clear x0 x1 x2 x3 x4 x5 zD y_1 z0 z1 z2 z3 z4 z5 z6;have cX:=D (cC.out.trans (hb.mono cC.out.size));have cY:=D (cP.out.on hb);have eW:=D (cN.out.on hb);have f8:=D (dA.out.on hb);have d3:=D (Bk.dI cW.out hb);have d5:=D (Bk.dI d7.out hb);have hM:=D (f7.out.on hb);clear cC cP cN dA cW d7 f7;have i0:=D (aF a8.out hb.size);clear hb a8;have a8:=D i0.out;cases cv
        ·rw [if_pos ⟨by rw [eI.out]; have h:=eK.out; simp at h; rw [h.1,h.2],eL.out,rfl⟩] at a5;have NB:=gN wb (Y #[] 67);obtain⟨va,x1,q1,oa,ga⟩:=jN mM (w:=wb.alloc (Y #[] 67)) wb.heap.size (dQ wb #[] 67) (ay _) (aJ (dI d3.out NB)) (by rw [b9.out]; omega) 27;have aE:=D (NB.trans (ga.mono NB.size));have m4:=(cY.out.on NB).cell 4;simp only [aH,aC,aD] at m4;rcases gB oa with⟨_,h0⟩|⟨g,cg,_,rfl,hBg,_,_⟩
         ·rw [h0] at b9;have:=b9.out;simp at this;omega
         rw [b9.out] at q1 oa;have q1:(Builtin.append_ #[27,27] 27 #[J (ah ⟨wb.heap.size,0,X⟩) 0 0,J ea n JL]).run aI (wb.alloc (Y #[] 67))=.ok (J (ah ⟨g,0,X⟩) n cg) x1:=q1;have fS:=D (dM oa (show w.heap.size+4<=wb.heap.size from by have:=a8.out; have:=a6.out; omega));have hG:=D (aF hBg (ay g));clear oa ga NB;have j0:=D (d5.out);have g9:=D (cX.out.trans (aE.out.mono cX.out.size));have cQ:=D (cY.out.on aE.out);have fP:=D (eW.out.on aE.out);have hC:=D (f8.out.on aE.out);have i5:=D (Bk.dI d3.out aE.out);have gE:=D (Bk.dI d5.out aE.out);have hY:=D (hM.out.on aE.out);clear cX cY eW f8 d3 d5 hM;have hO:=D (aF a8.out aE.out.size);obtain⟨x0,x1,x2,x3,x4,x5⟩:=cQ.out.fD;obtain⟨xf0,xf1,xf2,xf3,Ov,xf5⟩:=cQ.out.kK;have hl4:=cQ.out.lt;go_upto_region 15 with (first | (at_builtin; refine wpList_append_run rfl _ _ 27 rfl rfl rfl q1 ?_) | fail)
         clear x0 x1 x2 x3 x4 x5 xf0 xf1 xf2 xf3 Ov xf5;clear hl4 q1 m4;have X4b:=eu (k:=4) cQ.out (J (ah ⟨g,0,X⟩) n cg);simp only [List.setIfInBounds_toArray,List.set_cons_zero,aS] at X4b;have BK:=eF x1 w.heap.size 4 (J (ah ⟨g,0,X⟩) n cg);have hJ:=D (g9.out.setCell (p:=⟨w.heap.size,4,X⟩) (ay _) (J (ah ⟨g,0,X⟩) n cg));have f0:=D X4b;have hL:=D (BK.box fP.out (by omega));have gG:=D (BK.box hC.out (by omega));have eJ:=D (eZ fS.out w.heap.size 4 (J (ah ⟨g,0,X⟩) n cg) (by omega));have d1:=D (eZ gE.out w.heap.size 4 (J (ah ⟨g,0,X⟩) n cg) (by omega));have gR:=D (show wr.heap.size<=(x1.setCell ⟨w.heap.size,4,X⟩ (J (ah ⟨g,0,X⟩) n cg)).heap.size from by have:=hO.out; simpa using this);clear X4b BK fS hO g9 cQ fP hC i5 gE hY;generalize x1.setCell ⟨w.heap.size,4,X⟩ (J (ah ⟨g,0,X⟩) n cg)=x2 at *;have UP:=Qz eJ.out j6.out;obtain⟨eA,f9,hU⟩:=UP;simp only at eA f9;have ix:=nT mM g k n cg hlt;have ix:∀ w,(Instr.indexAt 27 (J (ah ⟨g,0,X⟩) n cg) (K L (k:Int))).run aI w=.ok (aT (ah ⟨g,k * 7,X⟩)) w:=ix;have x4:=f0.out.cell 4;simp only [aH,aC,aD] at x4;have hS:=D eA;clear eA;have gl:g<x2.heap.size:=by obtain⟨cur,hb⟩:=jL eJ.out; exact hb.lt
         go_upto_region 16 with fail;clear f9 hU x4 gl;have BG:=eF x2 g (k * 7+6) (V au);have dE:=D (show w.heap.size+4<=g from by have:=a8.out; have:=a6.out; have:=hG.out; omega);have g0:=D (hJ.out.setCell (p:=⟨g,k * 7+6,X⟩) (by have:=dE.out; show w.heap.size<=g; omega) (V au));have fN:=D (BG.box f0.out (by have:=dE.out; omega));have i6:=D (BG.box hL.out (by have:=dE.out; omega));have i4:=D (BG.box gG.out (by have:=dE.out; omega));have fW:=D (show u13.ownBlock=X\/u13.ownBlock≠ah g from by
          cases hob:u13.ownBlock with
          | none=>exact aX rfl
          | some j =>
           refine aM fun e=>?_;injection e with e
           have h1:=(j0.out.lt j hob).2;have h2:=hG.out;omega)
         have eE:=D (d1.out.kept (w':=x2.setCell ⟨g,k * 7+6,X⟩ (V au)) (row:=ah g) ⟨rfl,rfl,rfl,by simp [World.setCell],fun j _ hne=>O _ _ _ _ (fun e=>hne (by rw [e]))⟩ fW.out);have fL:=D (show wr.heap.size<=(x2.setCell ⟨g,k * 7+6,X⟩ (V au)).heap.size from by have:=gR.out; simpa using this);clear BG hJ f0 hL gG eJ d1 gR;generalize x2.setCell ⟨g,k * 7+6,X⟩ (V au)=x3 at *;have OU2:=hS.out;have hset:(xs.set k (y1,y2,y3,y4,(yo,yn,yc),y6,au))[k]?=ah (y1,y2,y3,y4,(yo,yn,yc),y6,au):=List.getElem?_set_self (by rw [b9.out]; exact hlt);have ce:∀ j u,(jr (y1,y2,y3,y4,(yo,yn,yc),y6,au))[j]?=ah u->x3.cell? ((⟨g,k * 7,X⟩:Addr).add j)=ah u:=kE mM OU2 hset x3 (aB _ _);have c0_:=ce 0 _ rfl;have c1_:=ce 1 _ rfl;have c2_:=ce 2 _ rfl;have c3_:=ce 3 _ rfl;have c4_:=ce 4 _ rfl;have c5_:=ce 5 _ rfl;have c6_:=ce 6 _ rfl;simp [Addr.add] at c0_ c1_ c2_ c3_ c4_ c5_ c6_;have x4:=fN.out.cell 4;simp only [aH,aC,aD] at x4;have hlit:=jC mM x3 [(y1,y2,y3,y4,(yo,yn,yc),y6,au)] 1 rfl (by simp) #[K L y1,K L y2,K L y3,K L y4,J yo yn yc,K L y6,V au] rfl;have NB:=gN x3 (Y #[K L y1,K L y2,K L y3,K L y4,J yo yn yc,K L y6,V au] 67);have hB:w.heap.size+4<=(x3.alloc (Y #[K L y1,K L y2,K L y3,K L y4,J yo yn yc,K L y6,V au] 67)).heap.size:=aF (aF a6.out fL.out) NB.size;obtain⟨v',x5,q2,o2,g2⟩:=gZ mM (w.heap.size+4) (dI eE.out NB) (aJ hlit) (by have:=i8.out; omega) (by simp) hB 27;have q2:(Builtin.append_ #[27,27] 27 #[u13,J (ah ⟨x3.heap.size,0,X⟩) 1 1]).run aI (x3.alloc (Y #[K L y1,K L y2,K L y3,K L y4,J yo yn yc,K L y6,V au] 67))=.ok v' x5:=q2;have iS:=D (show Below w.heap.size w x5 from ((g0.out.trans (NB.mono g0.out.size)).grown g2 (by omega) fun j hj=>by have:=((dI eE.out NB).lt j hj).1; omega));have fX:=D (show ∀ j,j<x3.heap.size->ah j≠u13.ownBlock->x5.heap[j]?=x3.heap[j]? from fun j hj hne=>(g2.block j (Nat.lt_of_lt_of_le hj NB.size) hne).trans (NB.block j hj));have ZX:=fun (bb:Nat) (cs:Array aW) (tt:TypeId) (hbb:bb<w.heap.size+4) (hbx:dK x3 bb cs tt)=>show dK x5 bb cs tt from (fX.out bb hbx.lt (fun e=>by have:=(eE.out.lt bb e.symm).1; omega)).trans hbx;have hW:=D (ZX _ _ _ (by omega) fN.out);have i9:=D (ZX _ _ _ (by omega) i6.out);have j3:=D (ZX _ _ _ (by omega) i4.out);have j4:=D (show jH x5 (w.heap.size+4) (J (ah ⟨g,0,X⟩) n cg) (xs.set k (y1,y2,y3,y4,(yo,yn,yc),y6,au)) from by
          have h1:=Bk.dI hS.out NB;exact h1.kept g2 (by
           cases hob:u13.ownBlock with
           | none=>exact aM (by simp [Value.ownBlock])
           | some j =>
            refine aM fun e=>?_;have h2:=fW.out;rw [hob] at h2;rcases h2 with h2|h2
            ·cases h2
            ·exact h2 (by rw [<- e]; rfl)))
         have hX:=D o2;have iF:=D (aF fL.out (aF NB.size g2.size));clear hlit hB o2 g2 ZX fX OU2 NB hset ce;go_wp2_with (first | (at_builtin; refine wpList_append_run rfl _ _ 27 rfl rfl rfl q2 ?_) | fail)
         go_roundw
         case rel=>exact⟨k+1,_,_,ah ⟨g,0,X⟩,cg,by omega,by go_num,iS.out,by have:=a6.out; have:=iF.out; omega,hW.out,i9.out,j3.out,j4.out,by
          rw [a5.out];exact a7.out.set2 k ⟨a3.out.1,a3.out.2.1,a3.out.2.2.1,rfl,a3.out.2.2.2.2⟩,hX.out,by
          rw [a5.out];exact cG.out.append (.cons ⟨a3.out.1,a3.out.2.1,a3.out.2.2.1,rfl,a3.out.2.2.2.2⟩ .nil)⟩
         case measure=>simp [intOf]; omega
        ·go_wp2_with fail
         go_roundw
         case rel=>exact⟨k+1,xs,ls,ea,JL,by omega,by go_num,cX.out,by have:=a8.out; have:=a6.out; omega,cY.out,eW.out,f8.out,d3.out,by rw [a5.out,if_neg (by simp)]; exact a7.out,d5.out,by rw [a5.out,if_neg (by simp)]; exact cG.out⟩
         case measure=>simp [intOf]; omega
       ·go_wp2_with fail
        go_roundw
        case rel=>exact⟨k+1,xs,ls,ea,JL,by omega,by go_num,cC.out,by have:=a8.out; have:=a6.out; omega,cP.out,cN.out,dA.out,cW.out,by rw [a5.out,if_neg (by intro hh; have h1:=hh.2.1; rw [eL.out] at h1; cases h1)]; exact a7.out,d7.out,by rw [a5.out,if_neg (by intro hh; have h1:=hh.2.1; rw [eL.out] at h1; cases h1)]; exact cG.out⟩
        case measure=>simp [intOf]; omega
     ·obtain rfl:k=n:=by omega
      obtain⟨x0,x1,x2,x3,x4,x5⟩:=d9.out.fD;obtain⟨la,lc,hlv⟩:=(aJ dS.out).len;obtain⟨ln,hln⟩:∃ n,n=ls.length:=⟨_,rfl⟩;rw [<- hln] at hlv;subst hlv;clear hln;obtain⟨r0,r1,r2,r3,r4,r5⟩:=cH.out.fD;obtain⟨zW,zX,zY,zZ,z8,Aa⟩:=cH.out.kK;have zz:=cH.out.lt;have cF:=D (dL cH.out (K L me) (J no nn nc) (J ao an ac) (J so sn sc) (J ea k JL) (J oo eG oc));have a0:=D (dH (b:=w.heap.size+1+1+1) e9.out (by omega) (K L me) (J no nn nc) (J ao an ac) (J so sn sc) (J ea k JL) (J oo eG oc));have eQ:=D (gy dC.out (w.heap.size+1+1+1) (by omega) (K L me) (J no nn nc) (J ao an ac) (J so sn sc) (J ea k JL) (J oo eG oc));have d1:=D (gy dS.out (w.heap.size+1+1+1) (by omega) (K L me) (J no nn nc) (J ao an ac) (J so sn sc) (J ea k JL) (J oo eG oc));go_wp2_with fail;obtain⟨bJ,bQ,c7,c8,c9,cA⟩:=cF.out.fD;refine bodyPost_ret (v:=.tuple #[aR #[K L me,J no nn nc,J ao an ac,J so sn sc,J ea k JL,J oo eG oc],J la ln lc,V au]) (by simp [results,aK,go_sem,bJ,bQ,c7,c8,c9,cA]) rfl ?_;rw [a4.out];have hI:=cV.out.on a0.out;exact⟨⟨(ea,k,JL),(la,ln,lc),rfl,⟨hI.near,hI.dO,hI.seen,⟨xs,aJ eQ.out,a7.out.mono fun _ _ h=>h.on a0.out⟩,hI.own⟩,ls,aJ d1.out,cG.out.mono fun _ _ h=>h.on a0.out⟩,a0.out⟩
  ·rw [if_pos hpf] at a4;have hne:(fr != f)=au:=by simp [hpf]
   obtain⟨x0,x1,x2,x3,x4,x5⟩:=cI.out.fD;obtain⟨r0,r1,r2,r3,r4,r5⟩:=T.out.fD;obtain⟨zW,zX,zY,zZ,z8,Aa⟩:=T.out.kK;have zz:=T.out.lt;have cF:=D (dL T.out (K L me) (J no nn nc) (J ao an ac) (J so sn sc) (J eo n3 ec) (J oo eG oc));have a0:=D (dH (b:=w.heap.size+1+1+1) cR.out (by omega) (K L me) (J no nn nc) (J ao an ac) (J so sn sc) (J eo n3 ec) (J oo eG oc));go_wp2_with fail;obtain⟨bJ,bQ,c7,c8,c9,cA⟩:=cF.out.fD;refine bodyPost_ret (v:=.tuple #[aR #[K L me,J no nn nc,J ao an ac,J so sn sc,J eo n3 ec,J oo eG oc],J X 0 0,V U]) (by simp [results,aK,go_sem,bJ,bQ,c7,c8,c9,cA]) rfl ?_;rw [a4.out];exact⟨⟨(eo,n3,ec),(X,0,0),rfl,cV.out.on a0.out,[],jo _,.nil⟩,a0.out⟩
end Bk
end Go.Proofs.YtghlpefopidlaaaGreat
