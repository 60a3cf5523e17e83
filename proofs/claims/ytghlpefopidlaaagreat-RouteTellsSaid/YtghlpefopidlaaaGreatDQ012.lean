/-
  Covered of broadside. Conditions as told.
-/
import Derived.Test.YtghlpefopidlaaaGreatDQ011
import Derived.Test.YtghlpefopidlaaaGreatDQ009
set_option maxRecDepth 100000
set_option maxHeartbeats 64000000
open _root_.Bool renaming false->U,true->aD
open _root_.Go renaming cell_regrown->O,below_regrown->Z,bodyPost_ret->aj,redrawn->aH,World->aM,Value->aQ,Calls->aU
open Go.Calls renaming regrown_of->aJ
open Go.IntKind renaming i64->L
open Go.Obj renaming cells->Y
open Go.Proofs.Tryz renaming results57->ah,prog->aI
open Go.RowKit.Below renaming heap_setCell->J,refl->aB
open Go.Value renaming slice->D,int->K,bool->V,agg->aN,pointer->aO
open _root_.List renaming getElem?_eq_getElem->ak,length_map->aA,mem_of_getElem?->aC,takeWhile_cons->aL,map_cons->aP
open _root_.Nat renaming le_refl->aF,lt_or_ge->aG,zero_le->aS,le_succ->aT
open _root_.Option renaming none->X,some->au
open Option.some renaming inj->ay
open _root_.Or renaming inr->aK,inl->aR
open Go.Proofs.YtghlpefopidlaaaGreat renaming hq->o
namespace Go.Proofs.YtghlpefopidlaaaGreat
namespace Bk
open Go.RowKit Rw YtghlpefopidlaaaGreat.Nm Pr Rl
def unR (c:C5):Cn:=(c.1,if c.2.1=1 then .rg c.2.2.1 c.2.2.2.1 else if c.2.1=2 then .tx c.2.2.2.2 else .pr c.2.2.2.2)
theorem aiP (c:Cn):unR (r5 c)=c:=by
 obtain⟨n,k⟩:=c;cases k <;> simp [unR,r5,kN,kS,kU,kT]
theorem r9 (a:List Cn):(a.map r5).map unR=a:=by
 rw [List.map_map];have h:unR∘r5=id:=funext aiP;rw [h,List.map_id]
def dX (p:List C5):Prop:=∃ a:List Cn,NF a/\p=a.map r5
def o9 (p j:List C5):Bool:=rW (p.map unR) (j.map unR)
theorem Zv (q j:aQ) (p r:List C5) (w:aM) (u:fO w q p) (F:fO w j r) (G:dX p) (H:dX r) :
  aU aI 164 #[q,j] w fun e w'=>e=.returned (V (o9 p r))/\Below w.heap.size w w':=by
 obtain⟨a,I,rfl⟩:=G;obtain⟨b,M,rfl⟩:=H;unfold o9;rw [r9,r9];exact Nr q j a b w u F (by have:=I.five; omega) (by have:=M.five; omega)
def NW (t:Id) (p:List C5) (e:En):Bool:=decide (e.tree=t) && (e.up && o9 e.p p)
def fH (m:List En) (t:Id) (p:List C5):Bool:=m.any (NW t p)
theorem zL (me:Int) (bP av bW bT:aQ) (b7:Sl) (l:List iY) (m:List En) (x:Id) (d0:aQ) (r:List C5) (w:aM) (a6:mF w (eu b7) l) (hu:eY (jF w) l m) (bE:fO w d0 r) (cN:∀ e∈m,dX e.p) (cP:dX r) :
  aU aI 125 #[aN #[K L me,bP,av,bW,eu b7,bT],nP x,d0] w fun e w'=>e=.returned (V (fH m x r))/\Below w.heap.size w w':=by
 have cA:=o hu;have c8:=o bE;have d7:=o cN;have d8:=o cP;obtain⟨pa,e0,rfl⟩:=bE.len;obtain⟨e1,cQ⟩:∃ n,n=r.length:=⟨_,rfl⟩;rw [<- cQ] at c8 ⊢;clear hu bE cN cP cQ;obtain⟨c,d⟩:=x;obtain⟨aE,d3,sc⟩:=b7;obtain⟨cG,cF,a7⟩:=a6.len;have a7:D aE d3 sc=D cG l.length cF:=a7;obtain⟨rfl,rfl,rfl⟩:aE=cG/\d3=l.length/\sc=cF:=by simpa using a7
 obtain⟨b8,q,cH⟩:=gX w #[K L me,bP,av,bW,D aE l.length sc,bT] #[K L c,K L d] 30 23;have B:=o b8;have c9:=o (a6.on b8);have d9:=o q;have cD:=o cH;have cR:=a6.most;unfold maxLen at cR;obtain⟨n,bC⟩:∃ n,n=l.length:=⟨_,rfl⟩;have d2:=q.cell 4;simp only [List.getElem?_toArray,List.getElem?_cons_zero,List.getElem?_cons_succ] at d2;rw [<- bC] at c9 d9 cR d2 B cD ⊢;have b6:=o bC.symm;clear b8 q cH a6 a7 bC;go_enter Tryz.func125,Tryz.ntmps125;go_upto_region 1 with fail;generalize (w.alloc (Y #[K L me,bP,av,bW,D aE n sc,bT] 30)).alloc (Y #[K L c,K L d] 23)=W at *;go_wp2
 go_loopw [12] (fun i wr=>∃ k:Nat,k<=n/\i=K L k/\Below W.heap.size W wr/\∀ (j:Nat) (y:En),j<k->m[j]?=au y->NW (c,d) r y=U) (fun i _=>n-(intOf i).toNat)
 case atStart=>exact⟨0,aS _,rfl,aB _ _,fun j y h=>by omega⟩
 case round =>
  obtain⟨k,e8,rfl,cM,cI⟩:=hrel;have u:=o cM;have N:=o cI;clear cM cI;by_cases dT:k<n
  ·obtain⟨y,bO⟩:∃ y,l[k]?=au y:=⟨_,ak (by rw [b6.o]; exact dT)⟩;obtain⟨p,dZ,d1⟩:=Qj c9.o rfl b6.o bO;obtain⟨cS,cT,cU,cV,cW,cX,cY⟩:=d1 wr u.o;obtain⟨b1,b2,e4,e5,⟨d6,d5,d4⟩,e6,bX⟩:=y;simp only at cS cT cU cV cW cX cY;have a1:=o (fP wr (Y #[K L b1,K L b2,K L e4,K L e5,D d6 d5 d4,K L e6,V bX] 67));obtain⟨e2,e3⟩:=((cD.o.on u.o).on a1.o).cs2;have e9:IntKind.i64.wrap ((k:Int)+1)=(k:Int)+1:=IntWalk.i64_in _ (by omega);obtain⟨a8,bB,a2⟩:=o8 cA.o k _ bO;obtain⟨H,bI⟩:∃ H,(b1 == c && b2 == d)=H:=⟨_,rfl⟩;obtain⟨t,bM⟩:∃ H,o9 a8.p r=H:=⟨_,rfl⟩;have bA:=uL b1 b2 c d H bI;have T:=o (show NW (c,d) r a8=(H && (bX && t)) by
    rw [<- bI,<- bM];unfold NW;rw [<- a2.1,<- a2.2.2.2.1];by_cases dA:b1=c <;> by_cases dC:b2=d <;> simp [dA,dC])
   have S:=o bB;have b5:=o (fun cC (cL:Below w.heap.size w cC)=>(Zv (D d6 d5 d4) (D pa e1 e0) a8.p r cC (a2.2.2.2.2.on cL) (c8.o.on cL) (d7.o _ (aC bB)) d8.o));rw [bM] at b5;clear d1 bO bI bM bB a2;cases H
   ·go_wp2
    go_roundw
    case rel=>exact⟨k+1,by omega,by go_num,u.o.trans (a1.o.mono u.o.size),fun j M I q=>by
     rcases aG j k with G|G
     ·exact N.o j M G q
     ·obtain rfl:j=k:=by omega
      have F:=S.o;rw [q] at F;rw [ay F];exact T.o.trans (by simp)⟩
    case measure=>simp [intOf]; omega
   ·cases bX
    ·go_wp2
     go_roundw
     case rel=>exact⟨k+1,by omega,by go_num,u.o.trans (a1.o.mono u.o.size),fun j M I q=>by
     rcases aG j k with G|G
     ·exact N.o j M G q
     ·obtain rfl:j=k:=by omega
      have F:=S.o;rw [q] at F;rw [ay F];exact T.o.trans (by simp)⟩
     case measure=>simp [intOf]; omega
    ·have b4:=o (u.o.trans (a1.o.mono u.o.size));have c7:=o (b5.o _ (B.o.trans (b4.o.mono B.o.size)));clear b5;go_wp2_with fail;refine c7.o.mono ?_;rintro e7 eA ⟨rfl,cJ⟩;have c6:=o (b4.o.trans (cJ.mono b4.o.size));clear c7 cJ e2 e3 cS cT cU cV cW cX cY dZ bA;cases t
     ·go_wp2
      go_roundw
      case rel=>exact⟨k+1,by omega,by go_num,c6.o,fun j M I q=>by
     rcases aG j k with G|G
     ·exact N.o j M G q
     ·obtain rfl:j=k:=by omega
      have F:=S.o;rw [q] at F;rw [ay F];exact T.o.trans (by simp)⟩
      case measure=>simp [intOf]; omega
     ·go_wp2;go_ret;have b9:fH m (c,d) r=aD:=by
       unfold fH;rw [List.any_eq_true];exact⟨a8,aC S.o,T.o.trans (by simp)⟩
      exact⟨by rw [b9]; rfl,B.o.trans (c6.o.mono B.o.size)⟩
  ·obtain rfl:k=n:=by omega
   go_wp2;go_ret;have b9:fH m (c,d) r=U:=by
    unfold fH;rw [List.any_eq_false];intro e bA;obtain⟨j,I,dS⟩:=List.getElem_of_mem bA;have dE:=N.o j e (by rw [<- b6.o,cA.o.len]; exact I) (by rw [ak I,dS]);simpa using dE
   exact⟨by rw [b9]; rfl,B.o.trans (u.o.mono B.o.size)⟩
end Bk
namespace Bk
open Go.RowKit Go.Sort Rw YtghlpefopidlaaaGreat.Nm Pr
theorem Ba {u:Type} (f:u->Bool) (l:List u) (k:Nat) (F:∀ (j:Nat) (y:u),j<k->l[j]?=au y->f y=aD) (r:k=l.length\/∃ y,l[k]?=au y/\f y=U):(l.takeWhile f).length=k:=by
 induction l generalizing k with
 | nil =>
  rcases r with h|⟨y,h,_⟩
  ·rw [h]; rfl
  ·simp at h
 | cons a l I =>
  cases k with
  | zero =>
   rcases r with h|⟨y,h,q⟩
   ·simp at h
   ·obtain rfl:a=y:=by simpa using h
    rw [aL,q]
    rfl
  | succ k =>
   have G:=F 0 a (by omega) rfl;rw [aL,G];simp only [if_true,List.length_cons];rw [I k (fun j y M H=>F (j+1) y (by omega) (by simpa using H)) (by
    rcases r with h|⟨y,h,q⟩
    ·exact aR (by simpa using h)
    ·exact aK ⟨y,by simpa using h,q⟩)]
def kP (a b:Id×Id):Bool:=eT a.1 b.1 || (Ef a.1 b.1 && eT a.2 b.2)
def eU (l:List (Id×Id)) (x:Id×Id):Nat:=(l.takeWhile fun a=>kP a x).length
noncomputable def akR:Code:=((Tryz.f57.body.bind (kW 0)).getD .skip)
theorem Bb (Q:Exit->Act->aM->Prop) (W:aM) (d8 b3:Nat) (me c d g h:Int) (k7 k8 k9 kA hQ hR hS:aQ) (e5:OA) (n sc:Nat) (l:List iY) {eI eJ gS hA u6 hJ u9 eK u11 f7 u13 f8 f9 fL fN fR fS fV fW fX fY g0 g1 g2 g3 g4 g5 g6 g7 g8 g9 gA gC gE gI gO gR h0 h1 h2 h3 h4 h5 h6 h7 h8 h9 hC hD hE hF hG hH hI hT hU hV hW hX hY hZ i0 i1 i2 i4 i5 i6 i7 i8 i9 iG iS j0 j1 j2 j3 j4 j5 j6 j7 j8 j9 jB jD jI jV jY k0 k1 k2 k3 k4 k5 k6 hK hL hM eL eM eN eQ eR eS eV eW f0 f1 f2 f3 f4 f5 f6:aQ}
  (e7:dN W d8 #[K L me,k7,k8,k9,D e5 n sc,kA] 30) (M:dN W b3 #[K L c,K L d,K L g,K L h,hQ,hR,hS] 67) (cS:mF W (D e5 n sc) l) (eC:n=l.length) (kE:n<=1000000)
  (e8:∀ (wr:aM) (T a1 a2 a6 a7 a8 aE b1 b2 b4 b5 b6 b7 b8 b9 bA bB bC bE bI bM bO bP bT bW bX c6 c7 c8 c9 cA cC cD cF cG cH cI cJ cL cM:aQ),Below W.heap.size W wr->Q .normal ⟨(eI::eJ::aO (au ⟨d8,0,X⟩)::aO (au ⟨b3,0,X⟩)::gS::hA::u6::K L (eU (l.map jR) ((c,d),(g,h)):Nat)::hJ::u9::eK::u11::f7::u13::f8::f9::fL::fN::fR::fS::fV::fW::fX::fY::g0::g1::g2::g3::g4::g5::g6::g7::g8::g9::gA::gC::gE::gI::gO::gR::h0::h1::h2::h3::h4::h5::h6::h7::h8::h9::hC::hD::hE::hF::hG::hH::hI::T::a1::a2::a6::a7::a8::aE::b1::b2::b4::b5::b6::b7::b8::b9::bA::bB::bC::bE::bI::bM::bO::bP::bT::bW::bX::c6::c7::c8::c9::cA::cC::cD::cF::cG::cH::cI::cJ::cL::cM::hK::hL::hM::eL::eM::eN::eQ::eR::eS::eV::eW::f0::f1::f2::f3::f4::f5::f6::[]).toArray,[]⟩ wr) :
  Code.wp aI akR Q ⟨(eI::eJ::aO (au ⟨d8,0,X⟩)::aO (au ⟨b3,0,X⟩)::gS::hA::u6::K L 0::hJ::u9::eK::u11::f7::u13::f8::f9::fL::fN::fR::fS::fV::fW::fX::fY::g0::g1::g2::g3::g4::g5::g6::g7::g8::g9::gA::gC::gE::gI::gO::gR::h0::h1::h2::h3::h4::h5::h6::h7::h8::h9::hC::hD::hE::hF::hG::hH::hI::hT::hU::hV::hW::hX::hY::hZ::i0::i1::i2::i4::i5::i6::i7::i8::i9::iG::iS::j0::j1::j2::j3::j4::j5::j6::j7::j8::j9::jB::jD::jI::jV::jY::k0::k1::k2::k3::k4::k5::k6::hK::hL::hM::eL::eM::eN::eQ::eR::eS::eV::eW::f0::f1::f2::f3::f4::f5::f6::[]).toArray,[]⟩ W:=by
 have cQ:=o e8;have hN:=o e7;have d5:=o M;have hO:=o cS;have e1:=o eC;clear e8 e7 M cS eC
 conv=>arg 2; whnf
 go_wp2
 go_loopw [7] (fun i wr=>∃ k:Nat,k<=n/\i=K L k/\Below W.heap.size W wr/\∀ (u:Nat) (y:Id×Id),u<k->(l.map jR)[u]?=au y->kP y ((c,d),(g,h))=aD) (fun i _=>n-(intOf i).toNat)
 case atStart=>exact⟨0,aS _,rfl,aB _ _,fun u y h=>by omega⟩
 case round =>
  obtain⟨k,kB,rfl,eA,e9⟩:=hrel;have j:=o eA;have cV:=o e9;clear eA e9;have d0:=O (show wr.cell? ⟨d8,4,X⟩=au (D e5 n sc) from (hN.o.on j.o).cell 4);have d1:=O (show wr.cell? ⟨b3,0,X⟩=au (K L c) from (d5.o.on j.o).cell 0);have d2:=O (show wr.cell? ⟨b3,1,X⟩=au (K L d) from (d5.o.on j.o).cell 1);have d3:=O (show wr.cell? ⟨b3,2,X⟩=au (K L g) from (d5.o.on j.o).cell 2);have d4:=O (show wr.cell? ⟨b3,3,X⟩=au (K L h) from (d5.o.on j.o).cell 3);have kK:IntKind.i64.wrap ((k:Int)+1)=(k:Int)+1:=IntWalk.i64_in _ (by omega);by_cases eB:k<n
  ·obtain⟨y,e4⟩:∃ y,l[k]?=au y:=⟨_,ak (by rw [<- e1.o]; exact eB)⟩;obtain⟨p,dA,eE⟩:=Qj hO.o rfl e1.o.symm e4;have cP:=eE wr j.o;obtain⟨cT,cU,dZ,e0,⟨l2,l1,l0⟩,kO,kQ⟩:=y;simp only at cP;have dC:=O cP.1;have dE:=O cP.2.1;have dS:=O cP.2.2.1;have dT:=O cP.2.2.2.1;have cN:decide ((k:Int)<(n:Int))=aD:=decide_eq_true (by omega);have cR:decide (k<n)=aD:=decide_eq_true eB;obtain⟨N,e2⟩:∃ N,eT (cT,cU) (c,d)=N:=⟨_,rfl⟩;obtain⟨t,e3⟩:∃ N,(cT == c && cU == d)=N:=⟨_,rfl⟩;obtain⟨s,cS⟩:∃ N,eT (dZ,e0) (g,h)=N:=⟨_,rfl⟩;have d9:=uL cT cU c d t e3;have H:=o (fun cW os=>aJ (d:=cW) (os:=os) ((vN (cT,cU) (c,d) (grow (aH wr cW) os)).mono fun _ _ h=>⟨by rw [h.1,e2],h.2⟩));have I:=o (fun cW os=>aJ (d:=cW) (os:=os) ((vN (dZ,e0) (g,h) (grow (aH wr cW) os)).mono fun _ _ h=>⟨by rw [h.1,cS],h.2⟩));have d7:=o (show (l.map jR)[k]?=au ((cT,cU),(dZ,e0)) by rw [List.getElem?_map,e4]; rfl);have d6:=o (show kP ((cT,cU),(dZ,e0)) ((c,d),(g,h))=(N || (t && s)) by rw [<- e2,<- e3,<- cS]; rfl);clear eE cP e4 e2 e3 cS;cases N
   ·cases t
    ·have S:=o (d6.o.trans (show _=U by simp));go_wp2_with fail;refine ko ?_
     repeat (go_big_quiet_step (first | (with_reducible exact H.o _ _) | (with_reducible exact I.o _ _)))
     refine kr fun q r=>?_;have F:=Z wr q r;have G:=o (fun T a1 a2 a6 a7 a8 aE b1 b2 b4 b5 b6 b7 b8 b9 bA bB bC bE bI bM bO bP bT bW bX c6 c7 c8 c9 cA cC cD cF cG cH cI cJ cL cM=>cQ.o (grow (aH wr q) r) T a1 a2 a6 a7 a8 aE b1 b2 b4 b5 b6 b7 b8 b9 bA bB bC bE bI bM bO bP bT bW bX c6 c7 c8 c9 cA cC cD cF cG cH cI cJ cL cM (j.o.trans (F.mono j.o.size)));rw [show eU (l.map jR) ((c,d),(g,h))=k from Ba _ _ k cV.o (aK ⟨_,d7.o,S.o⟩)] at G;clear dA cQ d0 d1 d2 d3 d4 H I cN cR dC dE dS dT d9;go_wp2;exact G.o _ _ _ _ _ _ _ _ _ _ _ _ _ _ _ _ _ _ _ _ _ _ _ _ _ _ _ _ _ _ _ _ _ _ _ _ _ _ _ _
    ·cases s
     ·have S:=o (d6.o.trans (show _=U by simp));go_wp2_with fail;refine ko ?_
      repeat (go_big_quiet_step (first | (with_reducible exact H.o _ _) | (with_reducible exact I.o _ _)))
      refine kr fun q r=>?_;have F:=Z wr q r;have G:=o (fun T a1 a2 a6 a7 a8 aE b1 b2 b4 b5 b6 b7 b8 b9 bA bB bC bE bI bM bO bP bT bW bX c6 c7 c8 c9 cA cC cD cF cG cH cI cJ cL cM=>cQ.o (grow (aH wr q) r) T a1 a2 a6 a7 a8 aE b1 b2 b4 b5 b6 b7 b8 b9 bA bB bC bE bI bM bO bP bT bW bX c6 c7 c8 c9 cA cC cD cF cG cH cI cJ cL cM (j.o.trans (F.mono j.o.size)));rw [show eU (l.map jR) ((c,d),(g,h))=k from Ba _ _ k cV.o (aK ⟨_,d7.o,S.o⟩)] at G;clear dA cQ d0 d1 d2 d3 d4 H I cN cR dC dE dS dT d9;go_wp2;exact G.o _ _ _ _ _ _ _ _ _ _ _ _ _ _ _ _ _ _ _ _ _ _ _ _ _ _ _ _ _ _ _ _ _ _ _ _ _ _ _ _
     ·have S:=o (d6.o.trans (show _=aD by simp));go_wp2_with fail;refine ko ?_
      repeat (go_big_quiet_step (first | (with_reducible exact H.o _ _) | (with_reducible exact I.o _ _)))
      refine kr fun q r=>?_;have F:=o (Z wr q r);clear dA d0 d1 d2 d3 d4 H I cN cR dC dE dS dT d9;go_wp2
      go_roundw
      case rel=>exact⟨k+1,by omega,by go_num,j.o.trans (F.o.mono j.o.size),fun u e6 hP cY=>by
       rcases aG u k with M|M
       ·exact cV.o u e6 M cY
       ·obtain rfl:u=k:=by omega
        have cX:=d7.o;rw [cY] at cX;rw [ay cX];exact S.o⟩
      case measure=>simp [intOf]; omega
   ·have S:=o (d6.o.trans (show _=aD by simp));go_wp2_with fail;refine ko ?_
    repeat (go_big_quiet_step (first | (with_reducible exact H.o _ _) | (with_reducible exact I.o _ _)))
    refine kr fun q r=>?_;have F:=o (Z wr q r);clear dA d0 d1 d2 d3 d4 H I cN cR dC dE dS dT d9;go_wp2
    go_roundw
    case rel=>exact⟨k+1,by omega,by go_num,j.o.trans (F.o.mono j.o.size),fun u e6 hP cY=>by
     rcases aG u k with M|M
     ·exact cV.o u e6 M cY
     ·obtain rfl:u=k:=by omega
      have cX:=d7.o;rw [cY] at cX;rw [ay cX];exact S.o⟩
    case measure=>simp [intOf]; omega
  ·obtain rfl:n=k:=by omega
   have cN:decide ((n:Int)<(n:Int))=U:=by simp
   have cR:decide (n<n)=U:=by simp
   go_wp2_with fail;refine ko ?_
   repeat (go_big_quiet_step (fail))
   refine kr fun q r=>?_;have F:=Z wr q r;have G:=o (fun T a1 a2 a6 a7 a8 aE b1 b2 b4 b5 b6 b7 b8 b9 bA bB bC bE bI bM bO bP bT bW bX c6 c7 c8 c9 cA cC cD cF cG cH cI cJ cL cM=>cQ.o (grow (aH wr q) r) T a1 a2 a6 a7 a8 aE b1 b2 b4 b5 b6 b7 b8 b9 bA bB bC bE bI bM bO bP bT bW bX c6 c7 c8 c9 cA cC cD cF cG cH cI cJ cL cM (j.o.trans (F.mono j.o.size)));rw [show eU (l.map jR) ((c,d),(g,h))=n from Ba _ _ n cV.o (aR (by simpa using e1.o))] at G;clear cQ d0 d1 d2 d3 d4 cN cR;go_wp2;exact G.o _ _ _ _ _ _ _ _ _ _ _ _ _ _ _ _ _ _ _ _ _ _ _ _ _ _ _ _ _ _ _ _ _ _ _ _ _ _ _ _
abbrev fE (e:En):Id×Id:=(e.tree,e.sub)
theorem keys_eq {W:aM} {l:List iY} {m:List En} (h:eY (jF W) l m):l.map jR=m.map fE:=by
 induction h with
 | nil=>rfl
 | cons x t j=>rw [aP,aP,j,show jR _=fE _ from Prod.ext x.1 x.2.1]
def iL (b:Br) (e:En):Br×Bool:=match b.dQ[(fQ (b.dQ.map Ad.id) e.tree).toNat]? with
 | none=>(b,U)
 | some a=>if fQ (b.dQ.map Ad.id) e.tree=-1 then (b,U) else if jT (b.ent.map fE) (fE e)≠-1 then (b,U) else if e.from_≠-1/\e.from_=a.par then (b,U) else
  ({ b with ent:=gL b.ent (eU (b.ent.map fE) (fE e)) { e with up:=decide (a.par≠-1) && !fH b.ent e.tree e.p } },decide (a.par≠-1) && !fH b.ent e.tree e.p)
theorem qO (l:List (Id×Id)) (x:Id×Id):eU l x<=l.length:=by
 unfold eU;exact (List.takeWhile_sublist _).length_le
theorem oN {W:aM} {b:Nat} {c d g h f:Int} {p:Sl} {r:Bool} (u:dN W b #[K L c,K L d,K L g,K L h,eu p,K L f,V r] 67):∀ x,Below W.heap.size W x->∀ j v,(jE (c,d,g,h,p,f,r))[j]?=au v->x.cell? ((⟨b,0,X⟩:Addr).add j)=au v:=by
 intro x F j v q;rw [mO,(u.on F).cell]
 match j with
 | 0=>exact q
 | 1=>exact q
 | 2=>exact q
 | 3=>exact q
 | 4=>exact q
 | 5=>exact q
 | 6=>exact q
 | j+7=>simp at q
theorem xH (b:Br) (k1 av k3 fW k2:Sl) (z:iY) (e:En) (w:aM) (F:List iY) (R:iY->En->Prop) (kB:iT w b k1 av k3 fW k2) (g0:mF w (eu fW) F) (g1:eY (jF w) F b.ent) (m0:eY R F b.ent) (m1:∀ u,R (z.1,z.2.1,z.2.2.1,z.2.2.2.1,z.2.2.2.2.1,z.2.2.2.2.2.1,u) { e with up:=u }) (mL:jF w z e) (m2:b.dQ.length<=900) (m3:b.ent.length<=900) (l2:∀ e∈b.ent,dX e.p) (l3:dX e.p) :
  aU aI 57 #[mg b.me k1 av k3 fW k2,qd z] w fun mC w'=>(∃ (ev':Sl) (d8:List iY),mC=.returned (.tuple #[mg b.me k1 av k3 ev' k2,V (iL b e).2])/\((ev'=fW/\d8=F/\(iL b e).1=b)\/jJ w' w.heap.size (eu ev') d8)/\eY R d8 (iL b e).1.ent)/\Below w.heap.size w w':=by
 obtain⟨no,S,N⟩:=k1;obtain⟨I,lK,H⟩:=av;obtain⟨a6,a2,sc⟩:=k3;obtain⟨b4,lL,b2⟩:=fW;obtain⟨a1,M,T⟩:=k2;obtain⟨c,d,g,h,⟨po,b9,b8⟩,fr,eJ⟩:=z;obtain⟨⟨mU,mV⟩,⟨mS,mT⟩,eI,mK,mW⟩:=e;obtain⟨g4,k0,mM,mN,l4⟩:=mL;obtain⟨rfl,rfl⟩:c=mU/\d=mV:=by simpa using g4
 obtain⟨rfl,rfl⟩:g=mS/\h=mT:=by simpa using k0
 obtain rfl:fr=mK:=mM;obtain rfl:eJ=mW:=mN;have n0:=o l4;have d2:=o m0;have f7:=o m1;clear m0 m1;obtain⟨d8,jI,jV⟩:=kB.dQ;have lB:=o (Ez jV);have f2:=o (keys_eq g1);have mB:=o (show d8.length<=900 by rw [jV.len]; exact m2);have dA:=o (show F.length<=900 by rw [g1.len]; exact m3);have l7:=o jV;have mZ:=o g1;have n1:=o l2;have n2:=o l3;obtain⟨g5,g6,g3⟩:=jI.len;obtain⟨rfl,rfl,rfl⟩:I=g5/\lK=d8.length/\H=g6:=by
  have:D I lK H=D g5 d8.length g6:=g3;simpa using this
 clear g3;obtain⟨g5,g6,g3⟩:=g0.len;obtain⟨rfl,rfl,rfl⟩:b4=g5/\lL=F.length/\b2=g6:=by
  have:D b4 lL b2=D g5 F.length g6:=g3;simpa using this
 clear g3;have j8:=wW b.me (D no S N) (D b4 F.length b2) (D a6 a2 sc) (D a1 M T) (I,d8.length,H) d8 (c,d);have EN:=EZ b.me (D no S N) (D I d8.length H) (D a6 a2 sc) (D a1 M T) (b4,F.length,b2) F (c,d) (g,h);have eC:=fun W kK=>zL b.me (D no S N) (D I d8.length H) (D a6 a2 sc) (D a1 M T) (b4,F.length,b2) F b.ent (c,d) (D po b9 b8) eI W (g0.on (show Below w.heap.size w W from kK)) (g1.mono fun _ _ h=>h.on kK) (l4.on kK) l2 l3;have mA:=o kB;obtain⟨k7,k8,k9,kA⟩:=gT w #[K L b.me,D no S N,D I d8.length H,D a6 a2 sc,D b4 F.length b2,D a1 M T] #[K L c,K L d,K L g,K L h,D po b9 b8,K L fr,V eJ] #[K L 0,D X 0 0,D X 0 0,D X 0 0,D X 0 0,D X 0 0] 30 67 30;obtain⟨a7,l1⟩:∃ n,n=d8.length:=⟨_,rfl⟩;obtain⟨bA,k6⟩:∃ n,n=F.length:=⟨_,rfl⟩;simp only [<- l1,<- k6] at k7 k8 k9 kA jI g0 mA j8 EN eC ⊢;have j7:=o k7;have jB:=o k8;have jD:=o k9;have k5:=o kA;have l9:=o jI;have f1:=o g0;have lD:=o l1;have dC:=o k6;obtain⟨me,lX⟩:∃ me,me=b.me:=⟨_,rfl⟩;simp only [<- lX] at jB j7 jD k5 j8 EN eC ⊢;have EN:=o EN;have eC:=o eC;clear k7 k8 k9 kA jI g0 jV g1 kB l1 k6 m2 m3 lX g4 k0 l4 l2 l3;show aU aI 57 #[aN #[K L me,D no S N,D I a7 H,D a6 a2 sc,D b4 bA b2,D a1 M T],aN #[K L c,K L d,K L g,K L h,D po b9 b8,K L fr,V eJ]] w _;go_enter Tryz.func57,Tryz.ntmps57;go_upto_region 1 with fail;generalize (((w.alloc (Y #[K L me,D no S N,D I a7 H,D a6 a2 sc,D b4 bA b2,D a1 M T] 30)).alloc (Y #[K L c,K L d,K L g,K L h,D po b9 b8,K L fr,V eJ] 67)).alloc (Y #[K L 0,D X 0 0,D X 0 0,D X 0 0,D X 0 0,D X 0 0] 30))=W at *;have lJ:=o (j8 W (l9.o.on j7.o));clear j8;have eV:=jB.o;have eW:=jD.o;obtain⟨eK,eL,eM,eN,eQ,eR⟩:=eV.fA;obtain⟨j0,j1,j2,j3,j4,j5,j6⟩:=eW.oz;clear eV eW;go_wp2_with fail;refine lJ.o.mono ?_;rintro n4 w1 ⟨rfl,G⟩;have c9:=o (j7.o.trans (G.mono j7.o.size));have cX:=o (jB.o.on G);have cQ:=o (jD.o.on G);have eE:=o (k5.o.on G);clear lJ G jB jD k5 eK eL eM eN eQ eR j0 j1 j2 j3 j4 j5 j6;have a0:=O (show w1.cell? ⟨w.heap.size,0,X⟩=au (K L me) from cX.o.cell 0);have f8:=O (show w1.cell? ⟨w.heap.size,1,X⟩=au (D no S N) from cX.o.cell 1);have f9:=O (show w1.cell? ⟨w.heap.size,2,X⟩=au (D I a7 H) from cX.o.cell 2);have a3:=O (show w1.cell? ⟨w.heap.size,3,X⟩=au (D a6 a2 sc) from cX.o.cell 3);have a4:=O (show w1.cell? ⟨w.heap.size,4,X⟩=au (D b4 bA b2) from cX.o.cell 4);have a5:=O (show w1.cell? ⟨w.heap.size,5,X⟩=au (D a1 M T) from cX.o.cell 5);have b0:=O (show w1.cell? ⟨w.heap.size+1,0,X⟩=au (K L c) from cQ.o.cell 0);have fL:=O (show w1.cell? ⟨w.heap.size+1,1,X⟩=au (K L d) from cQ.o.cell 1);have fN:=O (show w1.cell? ⟨w.heap.size+1,2,X⟩=au (K L g) from cQ.o.cell 2);have b3:=O (show w1.cell? ⟨w.heap.size+1,3,X⟩=au (K L h) from cQ.o.cell 3);have fR:=O (show w1.cell? ⟨w.heap.size+1,4,X⟩=au (D po b9 b8) from cQ.o.cell 4);have fS:=O (show w1.cell? ⟨w.heap.size+1,5,X⟩=au (K L fr) from cQ.o.cell 5);have fV:=O (show w1.cell? ⟨w.heap.size+1,6,X⟩=au (V eJ) from cQ.o.cell 6);have f6:=o (fun d os=>aJ (d:=d) (os:=os) (EN.o _ ((f1.o.on c9.o).on (Z w1 d os))));clear EN;rcases SK d8 (c,d) with f5|⟨k,y,f5,jY⟩
 ·have cJ:=o (show iL b ⟨(c,d),(g,h),eI,fr,eJ⟩=(b,U) by
   have g2:=f5;rw [lB.o] at g2;unfold iL;simp only;rw [g2]
   split
   ·rfl
   ·rw [if_pos rfl])
  rw [f5];clear f5;go_upto_region 2 with fail;refine ko ?_
  repeat (go_big_quiet_step (fail))
  refine kr fun d4 d5=>?_;have b6:=Z w1 d4 d5;have bX:=o (c9.o.trans (b6.mono c9.o.size));have cR:=o (cX.o.on b6);have d3:=o (cQ.o.on b6);have c8:=o (eE.o.on b6);clear b6 c9 cX cQ eE a0 f8 f9 a3 a4 a5 b0 fL fN b3 fR fS fV;generalize grow (aH w1 d4) d5=d7 at *;have cG:=o (dM c8.o (K L me) (D no S N) (D I a7 H) (D a6 a2 sc) (D b4 bA b2) (D a1 M T));have cD:=o (dJ (b:=w.heap.size+1+1) bX.o (by omega) (K L me) (D no S N) (D I a7 H) (D a6 a2 sc) (D b4 bA b2) (D a1 M T));have eS:=cR.o;have d6:=c8.o;obtain⟨eK,eL,eM,eN,eQ,eR⟩:=eS.fA;obtain⟨m4,m5,m6,m7,m8,r5⟩:=d6.fA;obtain⟨t0,t1,t2,t3,t4,t5⟩:=d6.kg;have m9:=d6.lt;clear eS d6;go_wp2_with fail;obtain⟨v0,cV,cW,v3,v4,v5⟩:=cG.o.fA;refine aj (v:=.tuple #[aN #[K L me,D no S N,D I a7 H,D a6 a2 sc,D b4 bA b2,D a1 M T],V U]) (by simp [results,ah,go_sem,v0,cV,cW,v3,v4,v5]) rfl ?_;rw [cJ.o];exact⟨⟨(b4,bA,b2),F,rfl,aR ⟨rfl,rfl,rfl⟩,d2.o⟩,cD.o⟩
 ·have l8:=o f5;have lA:=o jY;have lR:=(List.getElem?_eq_some_iff.1 jY).1;have n3:=mB.o;have n7:k<a7:=by rw [lD.o]; exact lR
  obtain⟨p,n8,l6⟩:=Mv l9.o rfl lD.o.symm jY;obtain⟨n9,nA,⟨nH,nF,nB⟩,par⟩:=y;have lE:=o l6;have pr:=O (show w1.cell? ⟨p.block,p.off+3,X⟩=au (K L par) from (l6 w1 c9.o).2.2.2);obtain⟨a,kE⟩:∃ a,b.dQ[k]?=au a:=⟨_,ak (by rw [<- l7.o.len]; exact lR)⟩;have lO:a.par=par:=by
   obtain⟨z,g4,k0⟩:=l7.o.at k a kE;rw [lA.o] at g4;obtain rfl:=ay g4;exact k0.2.1.symm
  have j9:=o (show ∀ i,jT (F.map jR) ((c,d),(g,h))=i->iL b ⟨(c,d),(g,h),eI,fr,eJ⟩=if i≠-1 then (b,U) else if fr≠-1/\fr=par then (b,U) else ({ b with ent:=gL b.ent (eU (b.ent.map fE) ((c,d),(g,h))) ⟨(c,d),(g,h),eI,fr,decide (par≠-1) && !fH b.ent (c,d) eI⟩ },decide (par≠-1) && !fH b.ent (c,d) eI) from fun i lP=>by
   have g2:=l8.o;rw [lB.o] at g2;rw [f2.o] at lP;unfold iL;simp only;rw [g2,Int.toNat_natCast,kE];simp only;rw [if_neg (by omega),lO,lP])
  have n6:decide ((k:Int)<0)=U:=decide_eq_false (by omega);rw [f5];clear f5 jY l6 kE lO l8 lA;rcases pI (F.map jR) ((c,d),(g,h)) with f4|⟨j,f4,_⟩
  ·have f3:=j9.o _ f4;rw [if_neg (by simp)] at f3;rw [f4] at f6;clear j9 f4;obtain⟨mH,kO⟩:∃ r,(fr != -1)=r:=⟨_,rfl⟩;obtain⟨mI,kQ⟩:∃ r,(fr == par)=r:=⟨_,rfl⟩;have mX:=o kO;have mY:=o kQ;cases mH
   ·have c7:=f3;rw [if_neg (by exact fun q=>q.1 (by simpa using kO))] at c7;clear f3;go_upto_region 2 with fail;refine ko ?_
    repeat (go_big_quiet_step (first | (with_reducible exact f6.o _ _)))
    refine kr fun d4 d5=>?_;have b6:=Z w1 d4 d5;have bX:=o (c9.o.trans (b6.mono c9.o.size));have cR:=o (cX.o.on b6);have d3:=o (cQ.o.on b6);have c8:=o (eE.o.on b6);clear b6 c9 cX cQ eE a0 f8 f9 a3 a4 a5 b0 fL fN b3 fR fS fV;generalize grow (aH w1 d4) d5=d7 at *;have l5:=(lE.o d7 bX.o).2.2.2;have eV:=cR.o;have eW:=d3.o;obtain⟨eK,eL,eM,eN,eQ,eR⟩:=eV.fA;obtain⟨j0,j1,j2,j3,j4,j5,j6⟩:=eW.oz;clear eV eW;obtain⟨fX,l0⟩:∃ r,(par != -1)=r:=⟨_,rfl⟩;have k4:=o (show decide (par≠-1)=fX by rw [<- l0]; by_cases q:par=-1 <;> simp [q]);rw [k4.o] at c7;cases fX
    ·have cJ:=o c7;clear c7 eC;have cY:=o bX.o;have d0:=o cR.o;have c6:=o d3.o;have d1:=o c8.o;clear bX cR d3 c8;have b7:=c6.o;obtain⟨e4,e5,e6,e7,e8,e9,eA⟩:=b7.oz;have e0:=b7.fr 6;have dT:=b7.lt;clear b7;go_upto_region 5 with fail;clear e4 e5 e6 e7 e8 e9 eA e0 dT;have bC:=o (show dN _ _ #[K L c,K L d,K L g,K L h,D po b9 b8,K L fr,V U] _ from by simpa using eD (k:=6) c6.o (V U));have bB:=o (show dN _ _ _ _ from (J d7 ⟨w.heap.size+1,6,X⟩ (V U) _ (show w.heap.size≠w.heap.size+1 by omega)).trans d0.o);have cH:=o (show dN _ _ _ _ from (J d7 ⟨w.heap.size+1,6,X⟩ (V U) _ (show w.heap.size+1+1≠w.heap.size+1 by omega)).trans d1.o);have b5:=o (cY.o.setCell (p:=⟨w.heap.size+1,6,X⟩) (by show w.heap.size<=w.heap.size+1; omega) (V U));clear cY d0 c6 d1;generalize d7.setCell ⟨w.heap.size+1,6,X⟩ (V U)=eB at *;have bO:=o (f1.o.on b5.o)
     go_upto_block 0 with (fail)
     refine Bb _ eB w.heap.size (w.heap.size+1) me c d g h _ _ _ _ _ _ _ b4 bA b2 F bB.o bC.o bO.o dC.o (by have:=dA.o; have:=dC.o; omega) ?_;intro wr h2 h3 h4 h5 h6 h7 h8 h9 hA hC hD hE hF hG hH hI hJ hK hL hM hN hO hP hQ hR hS hT hU hV hW hX hY hZ i0 i1 i2 i4 i5 i6 i7 G;have cA:=o (b5.o.trans (G.mono b5.o.size));have cI:=o (bB.o.on G);have bE:=o (bC.o.on G);have bI:=o (cH.o.on G);have cP:=o (bO.o.on G);clear G b5 bB bC cH bO;go_upto_region 8 with fail;refine Vq _ wr w.heap.size (w.heap.size+1) me _ _ _ _ b4 bA b2 (eU (F.map jR) ((c,d),(g,h))) F (c,d,g,h,(po,b9,b8),fr,U) cI.o (oN (p:=(po,b9,b8)) bE.o) cP.o (by have:=qO (F.map jR) ((c,d),(g,h)); rw [aA] at this; exact this) dA.o ?_;intro bW i8 i9 iG g7 g8 g9 gA gC gE gI gO gR gS h0 h1 cT bP cS bT e3;obtain⟨a8,aE,cF⟩:=(Row.dL bP).len;obtain⟨b1,cU⟩:∃ n,n=(F.take (eU (F.map jR) ((c,d),(g,h)))++[(c,d,g,h,(po,b9,b8),fr,U)]++F.drop (eU (F.map jR) ((c,d),(g,h)))).length:=⟨_,rfl⟩;rw [<- cU] at cF;subst cF;have cC:=o (cA.o.trans (cS _ (aF _)));have cL:=cT;have cM:=bT _ _ _ (by omega) bE.o;have bM:=bT _ _ _ (by omega) bI.o;have cN:=o (dO bP (show w.heap.size+3<=wr.heap.size by have:=bI.o.lt; omega));clear bP cS bT e3 cU cT cA cI bE bI cP;go_upto_region 9 with fail;refine AX _ bW w.heap.size (w.heap.size+1) (w.heap.size+1+1) me no I a6 a8 a1 S N a7 H a2 sc b1 aE M T _ _ _ _ _ _ _ _ _ _ _ _ U cL cM bM (by omega) ?_;intro a9 iS dS e1 e2 dZ;subst dZ;have cG:=o (dM bM.drew (K L me) (D no S N) (D I a7 H) (D a6 a2 sc) (D a8 b1 aE) (D a1 M T));have cD:=o (dJ (b:=w.heap.size+1+1) cC.o.drew (by omega) (K L me) (D no S N) (D I a7 H) (D a6 a2 sc) (D a8 b1 aE) (D a1 M T));have dE:=o (fJ (dK cN.o ((aB bW.heap.size bW).drew)) (w.heap.size+1+1) (by omega) (K L me) (D no S N) (D I a7 H) (D a6 a2 sc) (D a8 b1 aE) (D a1 M T));clear cN cL cM bM cC;simp only [Exit.then]
     apply_assumption
     go_wp2_with fail;obtain⟨v0,cV,cW,v3,v4,v5⟩:=cG.o.fA;refine aj (v:=.tuple #[aN #[K L me,D no S N,D I a7 H,D a6 a2 sc,D a8 b1 aE,D a1 M T],V U]) (by simp [results,ah,go_sem,e1,e2,v0,cV,cW,v3,v4,v5]) dS ?_;rw [cJ.o];refine⟨⟨(a8,b1,aE),_,rfl,aK (dO dE.o (show w.heap.size<=w.heap.size+3 by omega)),?_⟩,cD.o⟩;rw [<- f2.o];exact ((d2.o.take _).append (.cons (f7.o _) .nil)).append (d2.o.drop _)
    ·have f0:=o (eC.o d7 bX.o);obtain⟨cv,fY⟩:∃ r,fH b.ent (c,d) eI=r:=⟨_,rfl⟩;rw [fY] at f0 c7;clear eC fY;go_wp2_with fail;refine f0.o.mono ?_;rintro mD d9 ⟨rfl,G⟩;have cY:=o (bX.o.trans (G.mono bX.o.size));have d0:=o (cR.o.on G);have c6:=o (d3.o.on G);have d1:=o (c8.o.on G);clear G f0 bX cR d3 c8 eK eL eM eN eQ eR j0 j1 j2 j3 j4 j5 j6 l5;cases cv
     ·have cJ:=o c7;clear c7;have b7:=c6.o;obtain⟨e4,e5,e6,e7,e8,e9,eA⟩:=b7.oz;have e0:=b7.fr 6;have dT:=b7.lt;clear b7;go_upto_region 5 with fail;clear e4 e5 e6 e7 e8 e9 eA e0 dT;have bC:=o (show dN _ _ #[K L c,K L d,K L g,K L h,D po b9 b8,K L fr,V aD] _ from by simpa using eD (k:=6) c6.o (V aD));have bB:=o (show dN _ _ _ _ from (J d9 ⟨w.heap.size+1,6,X⟩ (V aD) _ (show w.heap.size≠w.heap.size+1 by omega)).trans d0.o);have cH:=o (show dN _ _ _ _ from (J d9 ⟨w.heap.size+1,6,X⟩ (V aD) _ (show w.heap.size+1+1≠w.heap.size+1 by omega)).trans d1.o);have b5:=o (cY.o.setCell (p:=⟨w.heap.size+1,6,X⟩) (by show w.heap.size<=w.heap.size+1; omega) (V aD));clear cY d0 c6 d1;generalize d9.setCell ⟨w.heap.size+1,6,X⟩ (V aD)=eB at *;have bO:=o (f1.o.on b5.o)
      go_upto_block 0 with (fail)
      refine Bb _ eB w.heap.size (w.heap.size+1) me c d g h _ _ _ _ _ _ _ b4 bA b2 F bB.o bC.o bO.o dC.o (by have:=dA.o; have:=dC.o; omega) ?_;intro wr h2 h3 h4 h5 h6 h7 h8 h9 hA hC hD hE hF hG hH hI hJ hK hL hM hN hO hP hQ hR hS hT hU hV hW hX hY hZ i0 i1 i2 i4 i5 i6 i7 G;have cA:=o (b5.o.trans (G.mono b5.o.size));have cI:=o (bB.o.on G);have bE:=o (bC.o.on G);have bI:=o (cH.o.on G);have cP:=o (bO.o.on G);clear G b5 bB bC cH bO;go_upto_region 8 with fail;refine Vq _ wr w.heap.size (w.heap.size+1) me _ _ _ _ b4 bA b2 (eU (F.map jR) ((c,d),(g,h))) F (c,d,g,h,(po,b9,b8),fr,aD) cI.o (oN (p:=(po,b9,b8)) bE.o) cP.o (by have:=qO (F.map jR) ((c,d),(g,h)); rw [aA] at this; exact this) dA.o ?_;intro bW i8 i9 iG g7 g8 g9 gA gC gE gI gO gR gS h0 h1 cT bP cS bT e3;obtain⟨a8,aE,cF⟩:=(Row.dL bP).len;obtain⟨b1,cU⟩:∃ n,n=(F.take (eU (F.map jR) ((c,d),(g,h)))++[(c,d,g,h,(po,b9,b8),fr,aD)]++F.drop (eU (F.map jR) ((c,d),(g,h)))).length:=⟨_,rfl⟩;rw [<- cU] at cF;subst cF;have cC:=o (cA.o.trans (cS _ (aF _)));have cL:=cT;have cM:=bT _ _ _ (by omega) bE.o;have bM:=bT _ _ _ (by omega) bI.o;have cN:=o (dO bP (show w.heap.size+3<=wr.heap.size by have:=bI.o.lt; omega));clear bP cS bT e3 cU cT cA cI bE bI cP;go_upto_region 9 with fail;refine AX _ bW w.heap.size (w.heap.size+1) (w.heap.size+1+1) me no I a6 a8 a1 S N a7 H a2 sc b1 aE M T _ _ _ _ _ _ _ _ _ _ _ _ aD cL cM bM (by omega) ?_;intro a9 iS dS e1 e2 dZ;subst dZ;have cG:=o (dM bM.drew (K L me) (D no S N) (D I a7 H) (D a6 a2 sc) (D a8 b1 aE) (D a1 M T));have cD:=o (dJ (b:=w.heap.size+1+1) cC.o.drew (by omega) (K L me) (D no S N) (D I a7 H) (D a6 a2 sc) (D a8 b1 aE) (D a1 M T));have dE:=o (fJ (dK cN.o ((aB bW.heap.size bW).drew)) (w.heap.size+1+1) (by omega) (K L me) (D no S N) (D I a7 H) (D a6 a2 sc) (D a8 b1 aE) (D a1 M T));clear cN cL cM bM cC;simp only [Exit.then]
      apply_assumption
      go_wp2_with fail;obtain⟨v0,cV,cW,v3,v4,v5⟩:=cG.o.fA;refine aj (v:=.tuple #[aN #[K L me,D no S N,D I a7 H,D a6 a2 sc,D a8 b1 aE,D a1 M T],V aD]) (by simp [results,ah,go_sem,e1,e2,v0,cV,cW,v3,v4,v5]) dS ?_;rw [cJ.o];refine⟨⟨(a8,b1,aE),_,rfl,aK (dO dE.o (show w.heap.size<=w.heap.size+3 by omega)),?_⟩,cD.o⟩;rw [<- f2.o];exact ((d2.o.take _).append (.cons (f7.o _) .nil)).append (d2.o.drop _)
     ·have cJ:=o c7;clear c7;have b7:=c6.o;obtain⟨e4,e5,e6,e7,e8,e9,eA⟩:=b7.oz;have e0:=b7.fr 6;have dT:=b7.lt;clear b7;go_upto_region 5 with fail;clear e4 e5 e6 e7 e8 e9 eA e0 dT;have bC:=o (show dN _ _ #[K L c,K L d,K L g,K L h,D po b9 b8,K L fr,V U] _ from by simpa using eD (k:=6) c6.o (V U));have bB:=o (show dN _ _ _ _ from (J d9 ⟨w.heap.size+1,6,X⟩ (V U) _ (show w.heap.size≠w.heap.size+1 by omega)).trans d0.o);have cH:=o (show dN _ _ _ _ from (J d9 ⟨w.heap.size+1,6,X⟩ (V U) _ (show w.heap.size+1+1≠w.heap.size+1 by omega)).trans d1.o);have b5:=o (cY.o.setCell (p:=⟨w.heap.size+1,6,X⟩) (by show w.heap.size<=w.heap.size+1; omega) (V U));clear cY d0 c6 d1;generalize d9.setCell ⟨w.heap.size+1,6,X⟩ (V U)=eB at *;have bO:=o (f1.o.on b5.o)
      go_upto_block 0 with (fail)
      refine Bb _ eB w.heap.size (w.heap.size+1) me c d g h _ _ _ _ _ _ _ b4 bA b2 F bB.o bC.o bO.o dC.o (by have:=dA.o; have:=dC.o; omega) ?_;intro wr h2 h3 h4 h5 h6 h7 h8 h9 hA hC hD hE hF hG hH hI hJ hK hL hM hN hO hP hQ hR hS hT hU hV hW hX hY hZ i0 i1 i2 i4 i5 i6 i7 G;have cA:=o (b5.o.trans (G.mono b5.o.size));have cI:=o (bB.o.on G);have bE:=o (bC.o.on G);have bI:=o (cH.o.on G);have cP:=o (bO.o.on G);clear G b5 bB bC cH bO;go_upto_region 8 with fail;refine Vq _ wr w.heap.size (w.heap.size+1) me _ _ _ _ b4 bA b2 (eU (F.map jR) ((c,d),(g,h))) F (c,d,g,h,(po,b9,b8),fr,U) cI.o (oN (p:=(po,b9,b8)) bE.o) cP.o (by have:=qO (F.map jR) ((c,d),(g,h)); rw [aA] at this; exact this) dA.o ?_;intro bW i8 i9 iG g7 g8 g9 gA gC gE gI gO gR gS h0 h1 cT bP cS bT e3;obtain⟨a8,aE,cF⟩:=(Row.dL bP).len;obtain⟨b1,cU⟩:∃ n,n=(F.take (eU (F.map jR) ((c,d),(g,h)))++[(c,d,g,h,(po,b9,b8),fr,U)]++F.drop (eU (F.map jR) ((c,d),(g,h)))).length:=⟨_,rfl⟩;rw [<- cU] at cF;subst cF;have cC:=o (cA.o.trans (cS _ (aF _)));have cL:=cT;have cM:=bT _ _ _ (by omega) bE.o;have bM:=bT _ _ _ (by omega) bI.o;have cN:=o (dO bP (show w.heap.size+3<=wr.heap.size by have:=bI.o.lt; omega));clear bP cS bT e3 cU cT cA cI bE bI cP;go_upto_region 9 with fail;refine AX _ bW w.heap.size (w.heap.size+1) (w.heap.size+1+1) me no I a6 a8 a1 S N a7 H a2 sc b1 aE M T _ _ _ _ _ _ _ _ _ _ _ _ U cL cM bM (by omega) ?_;intro a9 iS dS e1 e2 dZ;subst dZ;have cG:=o (dM bM.drew (K L me) (D no S N) (D I a7 H) (D a6 a2 sc) (D a8 b1 aE) (D a1 M T));have cD:=o (dJ (b:=w.heap.size+1+1) cC.o.drew (by omega) (K L me) (D no S N) (D I a7 H) (D a6 a2 sc) (D a8 b1 aE) (D a1 M T));have dE:=o (fJ (dK cN.o ((aB bW.heap.size bW).drew)) (w.heap.size+1+1) (by omega) (K L me) (D no S N) (D I a7 H) (D a6 a2 sc) (D a8 b1 aE) (D a1 M T));clear cN cL cM bM cC;simp only [Exit.then]
      apply_assumption
      go_wp2_with fail;obtain⟨v0,cV,cW,v3,v4,v5⟩:=cG.o.fA;refine aj (v:=.tuple #[aN #[K L me,D no S N,D I a7 H,D a6 a2 sc,D a8 b1 aE,D a1 M T],V U]) (by simp [results,ah,go_sem,e1,e2,v0,cV,cW,v3,v4,v5]) dS ?_;rw [cJ.o];refine⟨⟨(a8,b1,aE),_,rfl,aK (dO dE.o (show w.heap.size<=w.heap.size+3 by omega)),?_⟩,cD.o⟩;rw [<- f2.o];exact ((d2.o.take _).append (.cons (f7.o _) .nil)).append (d2.o.drop _)
   ·cases mI
    ·have c7:=f3;rw [if_neg (by intro q; simp [q.2] at kQ)] at c7;clear f3;go_upto_region 2 with fail;refine ko ?_
     repeat (go_big_quiet_step (first | (with_reducible exact f6.o _ _)))
     refine kr fun d4 d5=>?_;have b6:=Z w1 d4 d5;have bX:=o (c9.o.trans (b6.mono c9.o.size));have cR:=o (cX.o.on b6);have d3:=o (cQ.o.on b6);have c8:=o (eE.o.on b6);clear b6 c9 cX cQ eE a0 f8 f9 a3 a4 a5 b0 fL fN b3 fR fS fV;generalize grow (aH w1 d4) d5=d7 at *;have l5:=(lE.o d7 bX.o).2.2.2;have eV:=cR.o;have eW:=d3.o;obtain⟨eK,eL,eM,eN,eQ,eR⟩:=eV.fA;obtain⟨j0,j1,j2,j3,j4,j5,j6⟩:=eW.oz;clear eV eW;obtain⟨fX,l0⟩:∃ r,(par != -1)=r:=⟨_,rfl⟩;have k4:=o (show decide (par≠-1)=fX by rw [<- l0]; by_cases q:par=-1 <;> simp [q]);rw [k4.o] at c7;cases fX
     ·have cJ:=o c7;clear c7 eC;have cY:=o bX.o;have d0:=o cR.o;have c6:=o d3.o;have d1:=o c8.o;clear bX cR d3 c8;have b7:=c6.o;obtain⟨e4,e5,e6,e7,e8,e9,eA⟩:=b7.oz;have e0:=b7.fr 6;have dT:=b7.lt;clear b7;go_upto_region 5 with fail;clear e4 e5 e6 e7 e8 e9 eA e0 dT;have bC:=o (show dN _ _ #[K L c,K L d,K L g,K L h,D po b9 b8,K L fr,V U] _ from by simpa using eD (k:=6) c6.o (V U));have bB:=o (show dN _ _ _ _ from (J d7 ⟨w.heap.size+1,6,X⟩ (V U) _ (show w.heap.size≠w.heap.size+1 by omega)).trans d0.o);have cH:=o (show dN _ _ _ _ from (J d7 ⟨w.heap.size+1,6,X⟩ (V U) _ (show w.heap.size+1+1≠w.heap.size+1 by omega)).trans d1.o);have b5:=o (cY.o.setCell (p:=⟨w.heap.size+1,6,X⟩) (by show w.heap.size<=w.heap.size+1; omega) (V U));clear cY d0 c6 d1;generalize d7.setCell ⟨w.heap.size+1,6,X⟩ (V U)=eB at *;have bO:=o (f1.o.on b5.o)
      go_upto_block 0 with (fail)
      refine Bb _ eB w.heap.size (w.heap.size+1) me c d g h _ _ _ _ _ _ _ b4 bA b2 F bB.o bC.o bO.o dC.o (by have:=dA.o; have:=dC.o; omega) ?_;intro wr h2 h3 h4 h5 h6 h7 h8 h9 hA hC hD hE hF hG hH hI hJ hK hL hM hN hO hP hQ hR hS hT hU hV hW hX hY hZ i0 i1 i2 i4 i5 i6 i7 G;have cA:=o (b5.o.trans (G.mono b5.o.size));have cI:=o (bB.o.on G);have bE:=o (bC.o.on G);have bI:=o (cH.o.on G);have cP:=o (bO.o.on G);clear G b5 bB bC cH bO;go_upto_region 8 with fail;refine Vq _ wr w.heap.size (w.heap.size+1) me _ _ _ _ b4 bA b2 (eU (F.map jR) ((c,d),(g,h))) F (c,d,g,h,(po,b9,b8),fr,U) cI.o (oN (p:=(po,b9,b8)) bE.o) cP.o (by have:=qO (F.map jR) ((c,d),(g,h)); rw [aA] at this; exact this) dA.o ?_;intro bW i8 i9 iG g7 g8 g9 gA gC gE gI gO gR gS h0 h1 cT bP cS bT e3;obtain⟨a8,aE,cF⟩:=(Row.dL bP).len;obtain⟨b1,cU⟩:∃ n,n=(F.take (eU (F.map jR) ((c,d),(g,h)))++[(c,d,g,h,(po,b9,b8),fr,U)]++F.drop (eU (F.map jR) ((c,d),(g,h)))).length:=⟨_,rfl⟩;rw [<- cU] at cF;subst cF;have cC:=o (cA.o.trans (cS _ (aF _)));have cL:=cT;have cM:=bT _ _ _ (by omega) bE.o;have bM:=bT _ _ _ (by omega) bI.o;have cN:=o (dO bP (show w.heap.size+3<=wr.heap.size by have:=bI.o.lt; omega));clear bP cS bT e3 cU cT cA cI bE bI cP;go_upto_region 9 with fail;refine AX _ bW w.heap.size (w.heap.size+1) (w.heap.size+1+1) me no I a6 a8 a1 S N a7 H a2 sc b1 aE M T _ _ _ _ _ _ _ _ _ _ _ _ U cL cM bM (by omega) ?_;intro a9 iS dS e1 e2 dZ;subst dZ;have cG:=o (dM bM.drew (K L me) (D no S N) (D I a7 H) (D a6 a2 sc) (D a8 b1 aE) (D a1 M T));have cD:=o (dJ (b:=w.heap.size+1+1) cC.o.drew (by omega) (K L me) (D no S N) (D I a7 H) (D a6 a2 sc) (D a8 b1 aE) (D a1 M T));have dE:=o (fJ (dK cN.o ((aB bW.heap.size bW).drew)) (w.heap.size+1+1) (by omega) (K L me) (D no S N) (D I a7 H) (D a6 a2 sc) (D a8 b1 aE) (D a1 M T));clear cN cL cM bM cC;simp only [Exit.then]
      apply_assumption
      go_wp2_with fail;obtain⟨v0,cV,cW,v3,v4,v5⟩:=cG.o.fA;refine aj (v:=.tuple #[aN #[K L me,D no S N,D I a7 H,D a6 a2 sc,D a8 b1 aE,D a1 M T],V U]) (by simp [results,ah,go_sem,e1,e2,v0,cV,cW,v3,v4,v5]) dS ?_;rw [cJ.o];refine⟨⟨(a8,b1,aE),_,rfl,aK (dO dE.o (show w.heap.size<=w.heap.size+3 by omega)),?_⟩,cD.o⟩;rw [<- f2.o];exact ((d2.o.take _).append (.cons (f7.o _) .nil)).append (d2.o.drop _)
     ·have f0:=o (eC.o d7 bX.o);obtain⟨cv,fY⟩:∃ r,fH b.ent (c,d) eI=r:=⟨_,rfl⟩;rw [fY] at f0 c7;clear eC fY;go_wp2_with fail;refine f0.o.mono ?_;rintro mD d9 ⟨rfl,G⟩;have cY:=o (bX.o.trans (G.mono bX.o.size));have d0:=o (cR.o.on G);have c6:=o (d3.o.on G);have d1:=o (c8.o.on G);clear G f0 bX cR d3 c8 eK eL eM eN eQ eR j0 j1 j2 j3 j4 j5 j6 l5;cases cv
      ·have cJ:=o c7;clear c7;have b7:=c6.o;obtain⟨e4,e5,e6,e7,e8,e9,eA⟩:=b7.oz;have e0:=b7.fr 6;have dT:=b7.lt;clear b7;go_upto_region 5 with fail;clear e4 e5 e6 e7 e8 e9 eA e0 dT;have bC:=o (show dN _ _ #[K L c,K L d,K L g,K L h,D po b9 b8,K L fr,V aD] _ from by simpa using eD (k:=6) c6.o (V aD));have bB:=o (show dN _ _ _ _ from (J d9 ⟨w.heap.size+1,6,X⟩ (V aD) _ (show w.heap.size≠w.heap.size+1 by omega)).trans d0.o);have cH:=o (show dN _ _ _ _ from (J d9 ⟨w.heap.size+1,6,X⟩ (V aD) _ (show w.heap.size+1+1≠w.heap.size+1 by omega)).trans d1.o);have b5:=o (cY.o.setCell (p:=⟨w.heap.size+1,6,X⟩) (by show w.heap.size<=w.heap.size+1; omega) (V aD));clear cY d0 c6 d1;generalize d9.setCell ⟨w.heap.size+1,6,X⟩ (V aD)=eB at *;have bO:=o (f1.o.on b5.o)
       go_upto_block 0 with (fail)
       refine Bb _ eB w.heap.size (w.heap.size+1) me c d g h _ _ _ _ _ _ _ b4 bA b2 F bB.o bC.o bO.o dC.o (by have:=dA.o; have:=dC.o; omega) ?_;intro wr h2 h3 h4 h5 h6 h7 h8 h9 hA hC hD hE hF hG hH hI hJ hK hL hM hN hO hP hQ hR hS hT hU hV hW hX hY hZ i0 i1 i2 i4 i5 i6 i7 G;have cA:=o (b5.o.trans (G.mono b5.o.size));have cI:=o (bB.o.on G);have bE:=o (bC.o.on G);have bI:=o (cH.o.on G);have cP:=o (bO.o.on G);clear G b5 bB bC cH bO;go_upto_region 8 with fail;refine Vq _ wr w.heap.size (w.heap.size+1) me _ _ _ _ b4 bA b2 (eU (F.map jR) ((c,d),(g,h))) F (c,d,g,h,(po,b9,b8),fr,aD) cI.o (oN (p:=(po,b9,b8)) bE.o) cP.o (by have:=qO (F.map jR) ((c,d),(g,h)); rw [aA] at this; exact this) dA.o ?_;intro bW i8 i9 iG g7 g8 g9 gA gC gE gI gO gR gS h0 h1 cT bP cS bT e3;obtain⟨a8,aE,cF⟩:=(Row.dL bP).len;obtain⟨b1,cU⟩:∃ n,n=(F.take (eU (F.map jR) ((c,d),(g,h)))++[(c,d,g,h,(po,b9,b8),fr,aD)]++F.drop (eU (F.map jR) ((c,d),(g,h)))).length:=⟨_,rfl⟩;rw [<- cU] at cF;subst cF;have cC:=o (cA.o.trans (cS _ (aF _)));have cL:=cT;have cM:=bT _ _ _ (by omega) bE.o;have bM:=bT _ _ _ (by omega) bI.o;have cN:=o (dO bP (show w.heap.size+3<=wr.heap.size by have:=bI.o.lt; omega));clear bP cS bT e3 cU cT cA cI bE bI cP;go_upto_region 9 with fail;refine AX _ bW w.heap.size (w.heap.size+1) (w.heap.size+1+1) me no I a6 a8 a1 S N a7 H a2 sc b1 aE M T _ _ _ _ _ _ _ _ _ _ _ _ aD cL cM bM (by omega) ?_;intro a9 iS dS e1 e2 dZ;subst dZ;have cG:=o (dM bM.drew (K L me) (D no S N) (D I a7 H) (D a6 a2 sc) (D a8 b1 aE) (D a1 M T));have cD:=o (dJ (b:=w.heap.size+1+1) cC.o.drew (by omega) (K L me) (D no S N) (D I a7 H) (D a6 a2 sc) (D a8 b1 aE) (D a1 M T));have dE:=o (fJ (dK cN.o ((aB bW.heap.size bW).drew)) (w.heap.size+1+1) (by omega) (K L me) (D no S N) (D I a7 H) (D a6 a2 sc) (D a8 b1 aE) (D a1 M T));clear cN cL cM bM cC;simp only [Exit.then]
       apply_assumption
       go_wp2_with fail;obtain⟨v0,cV,cW,v3,v4,v5⟩:=cG.o.fA;refine aj (v:=.tuple #[aN #[K L me,D no S N,D I a7 H,D a6 a2 sc,D a8 b1 aE,D a1 M T],V aD]) (by simp [results,ah,go_sem,e1,e2,v0,cV,cW,v3,v4,v5]) dS ?_;rw [cJ.o];refine⟨⟨(a8,b1,aE),_,rfl,aK (dO dE.o (show w.heap.size<=w.heap.size+3 by omega)),?_⟩,cD.o⟩;rw [<- f2.o];exact ((d2.o.take _).append (.cons (f7.o _) .nil)).append (d2.o.drop _)
      ·have cJ:=o c7;clear c7;have b7:=c6.o;obtain⟨e4,e5,e6,e7,e8,e9,eA⟩:=b7.oz;have e0:=b7.fr 6;have dT:=b7.lt;clear b7;go_upto_region 5 with fail;clear e4 e5 e6 e7 e8 e9 eA e0 dT;have bC:=o (show dN _ _ #[K L c,K L d,K L g,K L h,D po b9 b8,K L fr,V U] _ from by simpa using eD (k:=6) c6.o (V U));have bB:=o (show dN _ _ _ _ from (J d9 ⟨w.heap.size+1,6,X⟩ (V U) _ (show w.heap.size≠w.heap.size+1 by omega)).trans d0.o);have cH:=o (show dN _ _ _ _ from (J d9 ⟨w.heap.size+1,6,X⟩ (V U) _ (show w.heap.size+1+1≠w.heap.size+1 by omega)).trans d1.o);have b5:=o (cY.o.setCell (p:=⟨w.heap.size+1,6,X⟩) (by show w.heap.size<=w.heap.size+1; omega) (V U));clear cY d0 c6 d1;generalize d9.setCell ⟨w.heap.size+1,6,X⟩ (V U)=eB at *;have bO:=o (f1.o.on b5.o)
       go_upto_block 0 with (fail)
       refine Bb _ eB w.heap.size (w.heap.size+1) me c d g h _ _ _ _ _ _ _ b4 bA b2 F bB.o bC.o bO.o dC.o (by have:=dA.o; have:=dC.o; omega) ?_;intro wr h2 h3 h4 h5 h6 h7 h8 h9 hA hC hD hE hF hG hH hI hJ hK hL hM hN hO hP hQ hR hS hT hU hV hW hX hY hZ i0 i1 i2 i4 i5 i6 i7 G;have cA:=o (b5.o.trans (G.mono b5.o.size));have cI:=o (bB.o.on G);have bE:=o (bC.o.on G);have bI:=o (cH.o.on G);have cP:=o (bO.o.on G);clear G b5 bB bC cH bO;go_upto_region 8 with fail;refine Vq _ wr w.heap.size (w.heap.size+1) me _ _ _ _ b4 bA b2 (eU (F.map jR) ((c,d),(g,h))) F (c,d,g,h,(po,b9,b8),fr,U) cI.o (oN (p:=(po,b9,b8)) bE.o) cP.o (by have:=qO (F.map jR) ((c,d),(g,h)); rw [aA] at this; exact this) dA.o ?_;intro bW i8 i9 iG g7 g8 g9 gA gC gE gI gO gR gS h0 h1 cT bP cS bT e3;obtain⟨a8,aE,cF⟩:=(Row.dL bP).len;obtain⟨b1,cU⟩:∃ n,n=(F.take (eU (F.map jR) ((c,d),(g,h)))++[(c,d,g,h,(po,b9,b8),fr,U)]++F.drop (eU (F.map jR) ((c,d),(g,h)))).length:=⟨_,rfl⟩;rw [<- cU] at cF;subst cF;have cC:=o (cA.o.trans (cS _ (aF _)));have cL:=cT;have cM:=bT _ _ _ (by omega) bE.o;have bM:=bT _ _ _ (by omega) bI.o;have cN:=o (dO bP (show w.heap.size+3<=wr.heap.size by have:=bI.o.lt; omega));clear bP cS bT e3 cU cT cA cI bE bI cP;go_upto_region 9 with fail;refine AX _ bW w.heap.size (w.heap.size+1) (w.heap.size+1+1) me no I a6 a8 a1 S N a7 H a2 sc b1 aE M T _ _ _ _ _ _ _ _ _ _ _ _ U cL cM bM (by omega) ?_;intro a9 iS dS e1 e2 dZ;subst dZ;have cG:=o (dM bM.drew (K L me) (D no S N) (D I a7 H) (D a6 a2 sc) (D a8 b1 aE) (D a1 M T));have cD:=o (dJ (b:=w.heap.size+1+1) cC.o.drew (by omega) (K L me) (D no S N) (D I a7 H) (D a6 a2 sc) (D a8 b1 aE) (D a1 M T));have dE:=o (fJ (dK cN.o ((aB bW.heap.size bW).drew)) (w.heap.size+1+1) (by omega) (K L me) (D no S N) (D I a7 H) (D a6 a2 sc) (D a8 b1 aE) (D a1 M T));clear cN cL cM bM cC;simp only [Exit.then]
       apply_assumption
       go_wp2_with fail;obtain⟨v0,cV,cW,v3,v4,v5⟩:=cG.o.fA;refine aj (v:=.tuple #[aN #[K L me,D no S N,D I a7 H,D a6 a2 sc,D a8 b1 aE,D a1 M T],V U]) (by simp [results,ah,go_sem,e1,e2,v0,cV,cW,v3,v4,v5]) dS ?_;rw [cJ.o];refine⟨⟨(a8,b1,aE),_,rfl,aK (dO dE.o (show w.heap.size<=w.heap.size+3 by omega)),?_⟩,cD.o⟩;rw [<- f2.o];exact ((d2.o.take _).append (.cons (f7.o _) .nil)).append (d2.o.drop _)
    ·have cJ:=o (f3.trans (if_pos (by simpa using And.intro kO kQ)));clear f3;go_upto_region 2 with fail;refine ko ?_
     repeat (go_big_quiet_step (first | (with_reducible exact f6.o _ _)))
     refine kr fun d4 d5=>?_;have b6:=Z w1 d4 d5;have bX:=o (c9.o.trans (b6.mono c9.o.size));have cR:=o (cX.o.on b6);have d3:=o (cQ.o.on b6);have c8:=o (eE.o.on b6);clear b6 c9 cX cQ eE a0 f8 f9 a3 a4 a5 b0 fL fN b3 fR fS fV;generalize grow (aH w1 d4) d5=d7 at *;have cG:=o (dM c8.o (K L me) (D no S N) (D I a7 H) (D a6 a2 sc) (D b4 bA b2) (D a1 M T));have cD:=o (dJ (b:=w.heap.size+1+1) bX.o (by omega) (K L me) (D no S N) (D I a7 H) (D a6 a2 sc) (D b4 bA b2) (D a1 M T));have eS:=cR.o;have d6:=c8.o;obtain⟨eK,eL,eM,eN,eQ,eR⟩:=eS.fA;obtain⟨m4,m5,m6,m7,m8,r5⟩:=d6.fA;obtain⟨t0,t1,t2,t3,t4,t5⟩:=d6.kg;have m9:=d6.lt;clear eS d6;go_wp2_with fail;obtain⟨v0,cV,cW,v3,v4,v5⟩:=cG.o.fA;refine aj (v:=.tuple #[aN #[K L me,D no S N,D I a7 H,D a6 a2 sc,D b4 bA b2,D a1 M T],V U]) (by simp [results,ah,go_sem,v0,cV,cW,v3,v4,v5]) rfl ?_;rw [cJ.o];exact⟨⟨(b4,bA,b2),F,rfl,aR ⟨rfl,rfl,rfl⟩,d2.o⟩,cD.o⟩
  ·have cJ:=o (show iL b ⟨(c,d),(g,h),eI,fr,eJ⟩=(b,U) from (j9.o _ f4).trans (if_pos (by omega)));have n5:decide ((0:Int)<=(j:Int))=aD:=decide_eq_true (by omega);rw [f4] at f6;clear j9 f4;go_upto_region 2 with fail;refine ko ?_
   repeat (go_big_quiet_step (first | (with_reducible exact f6.o _ _)))
   refine kr fun d4 d5=>?_;have b6:=Z w1 d4 d5;have bX:=o (c9.o.trans (b6.mono c9.o.size));have cR:=o (cX.o.on b6);have d3:=o (cQ.o.on b6);have c8:=o (eE.o.on b6);clear b6 c9 cX cQ eE a0 f8 f9 a3 a4 a5 b0 fL fN b3 fR fS fV;generalize grow (aH w1 d4) d5=d7 at *;have cG:=o (dM c8.o (K L me) (D no S N) (D I a7 H) (D a6 a2 sc) (D b4 bA b2) (D a1 M T));have cD:=o (dJ (b:=w.heap.size+1+1) bX.o (by omega) (K L me) (D no S N) (D I a7 H) (D a6 a2 sc) (D b4 bA b2) (D a1 M T));have eS:=cR.o;have d6:=c8.o;obtain⟨eK,eL,eM,eN,eQ,eR⟩:=eS.fA;obtain⟨m4,m5,m6,m7,m8,r5⟩:=d6.fA;obtain⟨t0,t1,t2,t3,t4,t5⟩:=d6.kg;have m9:=d6.lt;clear eS d6;go_wp2_with fail;obtain⟨v0,cV,cW,v3,v4,v5⟩:=cG.o.fA;refine aj (v:=.tuple #[aN #[K L me,D no S N,D I a7 H,D a6 a2 sc,D b4 bA b2,D a1 M T],V U]) (by simp [results,ah,go_sem,v0,cV,cW,v3,v4,v5]) rfl ?_;rw [cJ.o];exact⟨⟨(b4,bA,b2),F,rfl,aR ⟨rfl,rfl,rfl⟩,d2.o⟩,cD.o⟩
theorem je (b:Br) (e:En):(iL b e).1.me=b.me/\(iL b e).1.near=b.near/\(iL b e).1.dQ=b.dQ/\(iL b e).1.seen=b.seen/\(iL b e).1.own=b.own:=by
 unfold iL
 split
 ·exact⟨rfl,rfl,rfl,rfl,rfl⟩
 ·split
  ·exact⟨rfl,rfl,rfl,rfl,rfl⟩
  ·split
   ·exact⟨rfl,rfl,rfl,rfl,rfl⟩
   ·split <;> exact⟨rfl,rfl,rfl,rfl,rfl⟩
theorem Zy (b:Br) (q av F I r:Sl) (z:iY) (e:En) (w:aM) (M:iT w b q av F I r) (j:jF w z e) (b4:b.dQ.length<=900) (b5:b.ent.length<=900) (aE:∀ e∈b.ent,dX e.p) (b1:dX e.p) :
  aU aI 57 #[mg b.me q av F I r,qd z] w fun a2 w'=>(∃ ev':Sl,a2=.returned (.tuple #[mg b.me q av F ev' r,V (iL b e).2])/\iT w' (iL b e).1 q av F ev' r)/\Below w.heap.size w w':=by
 obtain⟨a6,S,T⟩:=M.ent;refine (xH b q av F I r z e w a6 (jF w) M S T T (fun u=>⟨j.1,j.2.1,j.2.2.1,rfl,j.2.2.2.2⟩) j b4 b5 aE b1).mono ?_;rintro b7 w1 ⟨⟨ev',b6,rfl,N,b2⟩,H⟩;refine⟨⟨ev',rfl,?_⟩,H⟩;have G:=M.on H;obtain⟨_,a1,a3,a4,a5⟩:=je b e;refine⟨by rw [a1]; exact G.near,by rw [a3]; exact G.dQ,by rw [a4]; exact G.seen,⟨b6,?_,b2.mono fun _ _ h=>h.on H⟩,by rw [a5]; exact G.own⟩;rcases N with⟨a7,a8,_⟩|N
 ·rw [a7,a8];exact S.on H
 ·exact Row.dL N
end Bk
namespace Bk
open Go.RowKit Go.Sort Rw YtghlpefopidlaaaGreat.Nm Pr
open Av
def Ig (e:En):En:={ e with up:=aD }
def iQ (t:Id) (s:List En×List En) (k:Nat):List En×List En:=match s.1[k]? with
 | none=>s
 | some e=>if e.tree=t/\e.up=U/\fH s.1 t e.p=U then (s.1.set k (Ig e),s.2++[Ig e]) else s
def jk (t:Id) (m:List En) (k:Nat):List En×List En:=(List.range k).foldl (iQ t) (m,[])
def takeB (b:Br) (t s:Id) (f:Int):Br×List En×Bool:=match b.ent[(jT (b.ent.map fE) (t,s)).toNat]? with
 | none=>(b,[],U)
 | some e=>if jT (b.ent.map fE) (t,s)=-1 then (b,[],U) else if e.from_≠f then (b,[],U) else
  if e.up=U then ({ b with ent:=cutAt b.ent (jT (b.ent.map fE) (t,s)).toNat },[],U) else
  ({ b with ent:=(jk t (cutAt b.ent (jT (b.ent.map fE) (t,s)).toNat) (cutAt b.ent (jT (b.ent.map fE) (t,s)).toNat).length).1 },(jk t (cutAt b.ent (jT (b.ent.map fE) (t,s)).toNat) (cutAt b.ent (jT (b.ent.map fE) (t,s)).toNat).length).2,aD)
theorem lS (t:Id) (m:List En) (k:Nat):jk t m (k+1)=iQ t (jk t m k) k:=by
 simp [jk,List.range_succ]
theorem Lj (t:Id) (s:List En×List En) (k:Nat):(iQ t s k).1.length=s.1.length/\(iQ t s k).2.length<=s.2.length+1:=by
 unfold iQ
 split
 ·exact⟨rfl,aT _⟩
 ·split
  ·simp
  ·exact⟨rfl,aT _⟩
theorem qP (t:Id) (m:List En):∀ k,(jk t m k).1.length=m.length/\(jk t m k).2.length<=k
 | 0=>⟨rfl,aF _⟩
 | k+1=>by
  rw [lS];have j:=qP t m k;have q:=Lj t (jk t m k) k;omega
theorem NZ {t:Id} {m:List En} (P:List C5->Prop) (h:∀ e∈m,P e.p):∀ k,(∀ e∈(jk t m k).1,P e.p)/\∀ e∈(jk t m k).2,P e.p
 | 0=>⟨h,fun e r=>by simp [jk] at r⟩
 | k+1=>by
  have q:=NZ (t:=t) P h k;rw [lS];unfold iQ
  split
  ·exact q
  ·rename_i e r
   split
   ·refine⟨fun x u=>?_,fun x u=>?_⟩
    ·rcases List.mem_or_eq_of_mem_set u with j|j
     ·exact q.1 x j
     ·rw [j];exact q.1 e (aC r)
    ·rcases List.mem_append.1 u with j|j
     ·exact q.2 x j
     ·rw [List.mem_singleton.1 j];exact q.1 e (aC r)
   ·exact q
theorem Oa:∀ (l:List iY) (k:Nat) (x:iY),l[k]?=au x->flat EN (l.set k (x.1,x.2.1,x.2.2.1,x.2.2.2.1,x.2.2.2.2.1,x.2.2.2.2.2.1,aD))=(flat EN l).set (k * 7+6) (V aD)
 | [],k,x,h=>by simp at h
 | y::q,0,x,h=>by
  obtain rfl:y=x:=by simpa using h
  rfl
 | y::q,k+1,x,h=>by
  have j:=Oa q k x (by simpa using h);rw [show (k+1) * 7+6=(k * 7+6)+1+1+1+1+1+1+1 by omega];simp only [List.set_cons_succ,flat,EN,jE,List.cons_append,List.nil_append] at j ⊢;rw [j]
theorem Tw {w:aM} {B g n cap k:Nat} {l:List iY} {x:iY} (h:jJ w B (D (au ⟨g,0,X⟩) n cap) l) (q:l[k]?=au x) :
  jJ (w.setCell ⟨g,k * 7+6,X⟩ (V aD)) B (D (au ⟨g,0,X⟩) n cap) (l.set k (x.1,x.2.1,x.2.2.1,x.2.2.2.1,x.2.2.2.2.1,x.2.2.2.2.2.1,aD))/\w.cell? ⟨g,k * 7+6,X⟩=au (V x.2.2.2.2.2.2)/\w.frozen? ⟨g,k * 7+6,X⟩=U:=by
 have c:=kR nE h q w (aB _ _);have j:=c 6 _ rfl;simp [Addr.add,EN] at j;obtain⟨cur,F⟩:=jX h;obtain⟨r,u,G⟩:=(Row.dL h).len;obtain⟨_,rfl,_⟩:au ⟨g,0,X⟩=r/\n=l.length/\cap=u:=by simpa using G
 have h:w.ownsRow B 67 7 (D (au ⟨g,0,X⟩) l.length cap) l.length (flat EN l):=h;have t1:=(h.stored (k * 7+6) (V aD)).1;refine⟨?_,j,F.fr _⟩;have e:=Oa l k x q;show World.ownsRow _ B 67 7 _ (List.length _) (flat EN _);rw [e,List.length_set];exact t1
theorem eY.set2 {α q:Type} {R:α->q->Prop}:∀ {l:List α} {m:List q} (k:Nat) {a:α} {b:q},eY R l m->R a b->eY R (l.set k a) (m.set k b)
 | _,_,_,_,_,.nil,_=>.nil
 | _,_,0,_,_,.cons _ t,j=>.cons j t
 | _,_,k+1,_,_,.cons x t,j=>.cons x (eY.set2 k t j)
theorem zM (w:aM) (c d e f:Array aQ) (j s t q:TypeId):Below w.heap.size w ((((w.alloc (Y c j)).alloc (Y d s)).alloc (Y e t)).alloc (Y f q))/\dN ((((w.alloc (Y c j)).alloc (Y d s)).alloc (Y e t)).alloc (Y f q)) w.heap.size c j/\dN ((((w.alloc (Y c j)).alloc (Y d s)).alloc (Y e t)).alloc (Y f q)) (w.heap.size+1) d s/\dN ((((w.alloc (Y c j)).alloc (Y d s)).alloc (Y e t)).alloc (Y f q)) (w.heap.size+1+1) e t/\dN ((((w.alloc (Y c j)).alloc (Y d s)).alloc (Y e t)).alloc (Y f q)) (w.heap.size+1+1+1) f q:=by
 obtain⟨r,F,G,H⟩:=gT w c d e j s t;refine⟨r.alloc r.size _,F.more _,G.more _,H.more _,?_⟩;have h:=dR (((w.alloc (Y c j)).alloc (Y d s)).alloc (Y e t)) f q;have u:(((w.alloc (Y c j)).alloc (Y d s)).alloc (Y e t)).heap.size=w.heap.size+1+1+1:=by simp
 rw [u] at h;exact h
end Bk
end Go.Proofs.YtghlpefopidlaaaGreat
