/-
  Advertise of broadsi. Conditions as told.
-/
import Derived.Test.YtghlpefopidlaaaGreatDQ018
set_option maxRecDepth 100000
set_option maxHeartbeats 64000000
open _root_.Bool renaming false->aC,true->aI
open _root_.Go renaming cell_regrown->X,bodyPost_ret->Z,below_regrown->aM,World->aV,Calls->aW,redrawn->aX
open Go.IntKind renaming i64->L
open Go.Obj renaming cells->Y
open Go.Proofs.Tryz renaming prog->aF,results51->aJ,results17->aL,results50->aT
open Go.Proofs.YtghlpefopidlaaaGreat.Bk.But renaming below->J
open Go.RowKit.Below renaming refl->aH
open Go.Value renaming slice->D,int->K,agg->aN,bool->aP
open _root_.List renaming getElem?_eq_getElem->U,mem_of_getElem?->ah,getElem?_cons_zero->aj,getElem?_cons_succ->ak,getElem?_toArray->au,mem_filter->aA,length_filter_le->aD,mem_map->aK,length_map->aQ,length_nil->aR,map_cons->aU
open _root_.Nat renaming le_refl->Q,le_trans->V,le_succ_of_le->ay,le_of_lt->aB,zero_le->aO
open _root_.Option renaming none->O,some->aG,map_some->aS
open Go.Proofs.YtghlpefopidlaaaGreat renaming hq->g
namespace Go.Proofs.YtghlpefopidlaaaGreat
namespace Bk
open Go.RowKit Go.Sort Rw YtghlpefopidlaaaGreat.Nm Pr
open Av
theorem O6 (b:Br) (d7 av hU h5 d8:Sl) (f:Int) (x:Id) (hS:Sl) (p:List C5) (w:aV) (h:iT w b d7 av hU h5 d8) (hD:fO w (eu hS) p) (mC:b.near.length<=900) (pC:b.seen.length<=899) (mD:b.dQ.length<=899) (mH:b.ent.length+b.own.length<=900) (m1:∀ e∈b.ent,dX e.p) (m2:∀ o∈b.own,dX o.p) (m3:dX p) :
  aW aF 50 #[mg b.me d7 av hU h5 d8,K L f,nP x,eu hS] w fun e w'=>(∃ Eb Mw ev' lo:Sl,e=.returned (.tuple #[mg b.me d7 Eb Mw ev' d8,eu lo])/\iT w' (nG b f x p).1 d7 Eb Mw ev' d8/\lZ w' lo (nG b f x p).2)/\Below w.heap.size w w':=by
 obtain⟨no,N,M⟩:=d7;obtain⟨d3,d2,d1⟩:=av;obtain⟨dA,d9,sc⟩:=hU;obtain⟨b1,aE,a8⟩:=h5;obtain⟨I,b5,H⟩:=d8;obtain⟨c,d⟩:=x;obtain⟨po,eN,eM⟩:=hS;have g2:=g (fun W lA=>QD b (no,N,M) (d3,d2,d1) (dA,d9,sc) (b1,aE,a8) (I,b5,H) (c,d,(po,eN,eM),f) ⟨(c,d),p,f⟩ W (h.on (show Below w.heap.size w W from lA)) ⟨rfl,rfl,hD.on lA⟩ (by omega) (by omega));have e0:=g h.near;have j4:=g hD;have j7:=g mC;have o2:=g (show b.dQ.length<=899 from mD);have o3:=g mH;have oG:=g m1;have oL:=g m2;have oQ:=g m3;obtain⟨h7,bE,b7,eE⟩:=gT w #[K L b.me,D no N M,D d3 d2 d1,D dA d9 sc,D b1 aE a8,D I b5 H] #[K L c,K L d] #[K L 0,D O 0 0,D O 0 0,D O 0 0,D O 0 0,D O 0 0] 30 23 30;obtain⟨me,h9⟩:∃ me,me=b.me:=⟨_,rfl⟩;simp only [<- h9] at h7 bE b7 eE g2 ⊢;have eC:=g (h7);have f2:=g (bE);have h4:=g (b7);have jD:=g (eE);have oA:=g h9;clear h7 bE b7 eE h mC pC mD mH h9 m1 m2 m3 hD;show aW aF 50 #[aN #[K L me,D no N M,D d3 d2 d1,D dA d9 sc,D b1 aE a8,D I b5 H],K L f,aN #[K L c,K L d],D po eN eM] w _;go_enter Tryz.func50,Tryz.ntmps50;go_upto_region 1 with fail;generalize (((w.alloc (Y #[K L me,D no N M,D d3 d2 d1,D dA d9 sc,D b1 aE a8,D I b5 H] 30)).alloc (Y #[K L c,K L d] 23)).alloc (Y #[K L 0,D O 0 0,D O 0 0,D O 0 0,D O 0 0,D O 0 0] 30))=W at *;have k4:=g (g2.o W eC.o);clear g2;obtain⟨c7,c8,c9,cA,cC,bP⟩:=f2.o.fA;obtain⟨i6,b6⟩:=h4.o.cs2;go_wp2_with fail;refine k4.o.mono ?_;rintro pW w1 ⟨⟨⟨S,a1,a2⟩,⟨a7,a6,T⟩,rfl,lD⟩,F⟩;clear k4;clear c7 c8 c9 cA cC bP i6 b6;have mN:=g (eC.o.trans (F.mono eC.o.size));have cQ:=g (f2.o.on F);have mY:=g (h4.o.on F);have j0:=g (jD.o.on F);clear eC f2 h4 jD;obtain⟨p7,g5⟩:∃ r,(fZ b ⟨(c,d),p,f⟩).2=r:=⟨_,rfl⟩;have j8:=g g5;rw [g5];obtain⟨hG,hH,hI,hJ,hK,hL⟩:=cQ.o.fA;obtain⟨hM,hN,hO,hP,hQ,hR⟩:=cQ.o.kg;have dZ:=cQ.o.lt;have f5:=g (dM cQ.o (K L me) (D no N M) (D S a1 a2) (D a7 a6 T) (D b1 aE a8) (D I b5 H));have e2:=g (dJ (b:=w.heap.size) mN.o (Q _) (K L me) (D no N M) (D S a1 a2) (D a7 a6 T) (D b1 aE a8) (D I b5 H));have j6:=g (fun j (_:j<w1.heap.size) (cM:j≠w.heap.size)=>dP w1 (w.heap.size) (K L me) (D no N M) (D S a1 a2) (D a7 a6 T) (D b1 aE a8) (D I b5 H) j cM);have fX:=g (show dN _ _ _ _ from (dP w1 (w.heap.size) (K L me) (D no N M) (D S a1 a2) (D a7 a6 T) (D b1 aE a8) (D I b5 H) (w.heap.size+1) (by omega)).trans mY.o);have f6:=g (show dN _ _ _ _ from (dP w1 (w.heap.size) (K L me) (D no N M) (D S a1 a2) (D a7 a6 T) (D b1 aE a8) (D I b5 H) (w.heap.size+1+1) (by omega)).trans j0.o);have cL:=g (fK (s1:=(no,N,M)) (s2:=(d3,d2,d1)) (s3:=(dA,d9,sc)) (s4:=(b1,aE,a8)) (s5:=(I,b5,H)) lD cQ.o j6.o (by rw [(lU b ⟨(c,d),p,f⟩).2.1]; exact e0.o.on e2.o));clear g5 lD F mN cQ mY j0;go_upto_region 2 with fail;clear dZ j6 hG hH hI hJ hK hL hM hN hO hP hQ hR;unfold gH at f5 e2 cL fX f6;generalize ((((((w1.setCell ⟨w.heap.size,0,O⟩ (K L me)).setCell ⟨w.heap.size,1,O⟩ (D no N M)).setCell ⟨w.heap.size,2,O⟩ (D S a1 a2)).setCell ⟨w.heap.size,3,O⟩ (D a7 a6 T)).setCell ⟨w.heap.size,4,O⟩ (D b1 aE a8)).setCell ⟨w.heap.size,5,O⟩ (D I b5 H))=b8 at *;have cR:=g (e2.o);have bT:=g (f5.o);have eL:=g (fX.o);have cH:=g (f6.o);clear e2 f5 fX f6;cases p7
 ·have c7:=bT.o.cell 0;have c8:=bT.o.cell 1;have c9:=bT.o.cell 2;have cA:=bT.o.cell 3;have cC:=bT.o.cell 4;have bP:=bT.o.cell 5;simp only [au,aj,ak] at c7 c8 c9 cA cC bP;obtain⟨pD,pH,pL,pM,pN,r5⟩:=cH.o.fA;obtain⟨n7,n8,n9,nA,nB,nF⟩:=cH.o.kg;have dZ:=cH.o.lt;have fS:=g (dM cH.o (K L me) (D no N M) (D S a1 a2) (D a7 a6 T) (D b1 aE a8) (D I b5 H));have cV:=g (dJ (b:=w.heap.size+1+1) cR.o (by omega) (K L me) (D no N M) (D S a1 a2) (D a7 a6 T) (D b1 aE a8) (D I b5 H));have e4:=g (fun j (_:j<b8.heap.size) (cM:j≠w.heap.size+1+1)=>dP b8 (w.heap.size+1+1) (K L me) (D no N M) (D S a1 a2) (D a7 a6 T) (D b1 aE a8) (D I b5 H) j cM);have fY:=g (fK (s1:=(O,0,0)) (s2:=(O,0,0)) (s3:=(O,0,0)) (s4:=(O,0,0)) (s5:=(O,0,0)) cL.o cH.o e4.o (by rw [(lU b ⟨(c,d),p,f⟩).2.1]; exact e0.o.on cV.o));go_wp2_with fail;obtain⟨v0,hY,hZ,v3,v4,v5⟩:=fS.o.fA;refine Z (v:=.tuple #[aN #[K L me,D no N M,D S a1 a2,D a7 a6 T,D b1 aE a8,D I b5 H],D O 0 0]) (by simp [results,aT,go_sem,v0,hY,hZ,v3,v4,v5]) rfl ?_;have pA:nG b f (c,d) p=((fZ b ⟨(c,d),p,f⟩).1,[]):=by unfold nG; rw [if_pos j8.o]
  rw [pA];exact⟨⟨(S,a1,a2),(a7,a6,T),(b1,aE,a8),(O,0,0),rfl,fY.o,uf _⟩,cV.o⟩
 ·have nH:=g (show nG b f (c,d) p=fu (fZ b ⟨(c,d),p,f⟩).1.own (pV f (c,d) p) ((fZ b ⟨(c,d),p,f⟩).1,iE b.near f 1 (c,d) (0,0) p) (fZ b ⟨(c,d),p,f⟩).1.own.length from by unfold nG; rw [if_neg (by rw [j8.o]; simp)]);obtain⟨d5,d6,cN,mI⟩:=lU b ⟨(c,d),p,f⟩;have mK:=(JW b ⟨(c,d),p,f⟩).1;have oE:=g d6;have j1:=g cN;have jY:=g mI;have n6:=g (show (fZ b ⟨(c,d),p,f⟩).1.dQ.length<=900 from V mK (by have:=o2.o; omega));have o6:=g d5;clear d5 d6 cN mI mK;generalize (fZ b ⟨(c,d),p,f⟩).1=G at *;have jB:=g (show G.ent.length+G.own.length<=900 from by rw [j1.o,jY.o]; exact o3.o);have oK:=g (show ∀ e∈G.ent,dX e.p from by rw [j1.o]; exact oG.o);have k0:=g (show ∀ o∈G.own,dX o.p from by rw [jY.o]; exact oL.o);have g0:=g (show ∀ W,Below w.heap.size w W->sW W (D no N M) G.near from fun W F=>by rw [oE.o]; exact e0.o.on F);have nL:=g (show ∀ k,k<=G.own.length->Rx G (fu G.own (pV f (c,d) p) (G,iE b.near f 1 (c,d) (0,0) p) k).1 k/\(∀ q∈(fu G.own (pV f (c,d) p) (G,iE b.near f 1 (c,d) (0,0) p) k).1.ent,dX q.p)/\(fu G.own (pV f (c,d) p) (G,iE b.near f 1 (c,d) (0,0) p) k).2.length<=(iE b.near f 1 (c,d) (0,0) p).length+k from fun k h8=>lg (l:=G.own) (b0:=G) (o0:=iE b.near f 1 (c,d) (0,0) p) (fun o=>jG o.p p) (fun o=>Gi (c,d) o) (fun _=>f) (fun e=>dX e.p) oK.o (fun a p9 _=>k0.o a p9) k h8);obtain⟨i4,eK,m7⟩:=cL.o.own;obtain⟨mX,cS,m4⟩:=eK.len;obtain⟨rfl,rfl,rfl⟩:I=mX/\b5=i4.length/\H=cS:=by
   have:D I b5 H=D mX i4.length cS:=m4;simpa using this
  obtain⟨e1,lO,lP⟩:=cL.o.ent;obtain⟨b2,hC⟩:∃ n,n=i4.length:=⟨_,rfl⟩;simp only [<- hC] at cL eK bT ⊢;have o1:=g eK;have j5:=g m7;have i5:=g lO;have nW:=g lP;have g4:=g hC;have o4:=g eL.o.lt;have o5:=g cH.o.lt;have bC:=g (show dN b8 w.heap.size (jU me (no,N,M) (S,a1,a2) (a7,a6,T) (b1,aE,a8) (I,b2,H)) 30 from bT.o);have cX:=g (show G.own.length=b2 from by rw [g4.o,j5.o.len]);clear eK m7 lO lP hC m4;have d0:=g (EM me f 1 c d 0 0 (no,N,M) (D S a1 a2) (D a7 a6 T) (D b1 aE a8) (D I b2 H) (po,eN,eM) (O,0,0) b.near b8 (e0.o.on cR.o) j7.o);obtain⟨c7,c8,c9,cA,cC,bP⟩:=bT.o.fA;obtain⟨i6,b6⟩:=eL.o.cs2;go_wp2_with fail;refine d0.o.mono ?_;rintro pX pR ⟨⟨⟨q4,q6,q5⟩,rfl,lX⟩,F⟩;clear d0;clear c7 c8 c9 cA cC bP i6 b6;have iS:=g (show But w.heap.size b8 pR from But.of_below F);have d0:=g lX;have oR:=g (j4.o.on cR.o);have n1:=g (cR.o.trans (F.mono cR.o.size));have hT:=g (bT.o.on F);have jI:=g (eL.o.on F);have l1:=g (cH.o.on F);clear cR bT eL cH;clear F lX;obtain⟨c7,c8,c9,cA,cC,bP⟩:=hT.o.fA;go_wp2_with fail;clear c7 c8 c9 cA cC bP
  go_loopw [11,37] (fun v i wr=>∃ (k:Nat) (bW:OA) (bX c6:Nat) (d4:List iY) (lo:List nu),k<=b2/\i=K L k/\Below w.heap.size w wr/\But w.heap.size b8 wr/\dN wr w.heap.size #[K L me,D no N M,D S a1 a2,D a7 a6 T,D bW bX c6,D I b2 H] 30/\dN wr (w.heap.size+1) #[K L c,K L d] 23/\dN wr (w.heap.size+1+1) #[K L 0,D O 0 0,D O 0 0,D O 0 0,D O 0 0,D O 0 0] 30/\vV b8 wr (b1,aE,a8) (bW,bX,c6) e1 d4/\kF wr b8.heap.size v lo/\eY (jF b8) d4 (fu G.own (pV f (c,d) p) (G,iE b.near f 1 (c,d) (0,0) p) k).1.ent/\eY (tZ b8) lo (fu G.own (pV f (c,d) p) (G,iE b.near f 1 (c,d) (0,0) p) k).2) (fun _ i _=>b2-(intOf i).toNat)
  case atStart=>exact⟨0,b1,aE,a8,e1,_,aO _,rfl,n1.o,iS.o,hT.o,jI.o,l1.o,Or.inl ⟨rfl,rfl⟩,d0.o,nW.o,JX (near:=b.near) (f:=f) (k:=1) (t:=(c,d)) (x:=(0,0)) oR.o⟩
  case round =>
   clear iS d0 n1 hT jI l1;obtain⟨k,bW,bX,c6,d4,lo,h8,rfl,lK,lB,m9,mA,k5,lJ,m0,lE,lR⟩:=hrel;have dT:=g (lK);have cY:=g (lB);have h0:=g (m9);have l2:=g (mA);have cF:=g (k5);have h1:=g (lJ);have e6:=g (m0);have EN:=g lE;have cW:=g lR;clear lK lB m9 mA k5 lJ m0 lE lR;have cG:=g (nL.o k (by rw [cX.o]; exact h8));have q3:b2<=900:=by have bE:=jB.o; rw [cX.o] at bE; omega
   by_cases eI:k<b2
   ·have q1:(k:Int)<(b2:Int):=by omega
    have q2:IntKind.i64.wrap ((k:Int)+1)=(k:Int)+1:=IntWalk.i64_in _ (by omega);obtain⟨o,eB⟩:∃ o,G.own[k]?=aG o:=⟨_,U (by rw [cX.o]; exact eI)⟩;have k7:=g (nM (pV f (c,d) p) (G,iE b.near f 1 (c,d) (0,0) p) eB);have jV:=g (k0.o o (ah eB));obtain⟨z,mB,hF⟩:=j5.o.at k o eB;have k2:=jr okW o1.o cY.o.1 (mG bC.o (fun c=>⟨_,_,rfl,rfl⟩) (nT me (no,N,M) (S,a1,a2) (a7,a6,T) (b1,aE,a8) (I,b2,H)));obtain⟨pa,pB,mW⟩:=elW k2 rfl g4.o.symm mB;obtain⟨mS,mT,mU⟩:=mW wr (aH _ _);obtain⟨b6,bO,⟨bB,bA,b9⟩⟩:=z;have g6:=g (show o.id=(b6,bO) from hF.1.symm);have eA:=g (show fO b8 (D bB bA b9) o.p from hF.2);simp only at mS mT mU;clear mW mB hF k2 eB;go_upto_region 8 with fail;clear mS mT mU pB;have b4:=fP wr (Y #[K L b6,K L bO,D bB bA b9] 88);have eV:=g (dT.o.trans (b4.mono dT.o.size));have h2:=g (J cY.o b4);have l3:=g (h0.o.on b4);have h3:=g (l2.o.on b4);have l4:=g (cF.o.on b4);have l5:=g (h1.o.on b4);have mV:=g (Bk.dK e6.o b4);clear dT cY h0 l2 cF h1 e6;have g7:=g (dR wr #[K L b6,K L bO,D bB bA b9] 88);clear b4;generalize wr.alloc (Y #[K L b6,K L bO,D bB bA b9] 88)=pS at *;obtain⟨mL,hA⟩:∃ r,jG o.p p=r:=⟨_,rfl⟩;have g3:=g (Mg (D bB bA b9) (D po eN eM) o.p p pS (vW bC.o h2.o eA.o) (j4.o.on eV.o) jV.o oQ.o);rw [hA] at g3;have e5:=g (show (fu G.own (pV f (c,d) p) (G,iE b.near f 1 (c,d) (0,0) p) (k+1))=iq (fu G.own (pV f (c,d) p) (G,iE b.near f 1 (c,d) (0,0) p) k) mL (Gi (c,d) o) f from by rw [<- hA]; exact k7.o);clear hA k7;obtain⟨z0,cI,cJ⟩:=g7.o.cs3;obtain⟨f3,i7⟩:=h3.o.cs2;go_wp2_with fail;refine g3.o.mono ?_;rintro pY dS ⟨rfl,F⟩;clear g3;clear z0 cI cJ f3 i7;have eQ:=g (eV.o.trans (F.mono eV.o.size));have g8:=g (J h2.o F);have i9:=g (l3.o.on F);have e7:=g (h3.o.on F);have f4:=g (l4.o.on F);have g9:=g (l5.o.on F);have iG:=g (Bk.dK mV.o F);have dC:=g (g7.o.on F);clear eV h2 l3 h3 l4 l5 mV g7;clear F;cases mL
    ·go_wp2_with fail
     go_roundw
     case rel=>exact⟨k+1,bW,bX,c6,d4,lo,eI,by go_num,eQ.o,g8.o,i9.o,e7.o,f4.o,g9.o,iG.o,by rw [e5.o]; exact EN.o,by rw [e5.o]; exact cW.o⟩
     case measure=>simp [intOf]; omega
    ·have z0:=dC.o.cell 0;have cI:=dC.o.cell 1;have cJ:=dC.o.cell 2;simp only [au,aj,ak] at z0 cI cJ;obtain⟨f3,i7⟩:=e7.o.cs2;go_upto_region 11 with fail;clear z0 cI cJ f3 i7;have b4:=fP dS (Y #[K L c,K L d,K L b6,K L bO,D bB bA b9,K L (-1),aP aC] 67);have eR:=g (eQ.o.trans (b4.mono eQ.o.size));have cP:=g (J g8.o b4);have hW:=g (i9.o.on b4);have n0:=g (e7.o.on b4);have l6:=g (f4.o.on b4);have dE:=g (g9.o.on b4);have n4:=g (Bk.dK iG.o b4);have mZ:=g (dC.o.on b4);clear eQ g8 i9 e7 f4 g9 iG dC;have g1:=g (dR dS #[K L c,K L d,K L b6,K L bO,D bB bA b9,K L (-1),aP aC] 67);clear b4;generalize dS.alloc (Y #[K L c,K L d,K L b6,K L bO,D bB bA b9,K L (-1),aP aC] 67)=pT at *;have f1:=g (xH (fu G.own (pV f (c,d) p) (G,iE b.near f 1 (c,d) (0,0) p) k).1 (no,N,M) (S,a1,a2) (a7,a6,T) (bW,bX,c6) (I,b2,H) (c,d,b6,bO,(bB,bA,b9),-1,aC) (Gi (c,d) o) pT d4 (jF b8) (uj bC.o cP.o cL.o (g0.o _ eR.o) i5.o dE.o EN.o cG.o.1) (dE.o.row bC.o cP.o i5.o) (zY bC.o cP.o EN.o) EN.o (fun u=>⟨rfl,g6.o.symm,rfl,rfl,eA.o⟩) ⟨rfl,g6.o.symm,rfl,rfl,vW bC.o cP.o eA.o⟩ (by rw [cG.o.1.dQ]; exact n6.o) (by have bE:=cG.o.1.len; have b7:=jB.o; rw [cX.o] at b7; omega) cG.o.2.1 jV.o);rw [cG.o.1.me,o6.o,<- oA.o] at f1;obtain⟨c7,c8,c9,cA,cC,bP⟩:=hW.o.fA;obtain⟨z0,cI,cJ,z3,z4,z5,i8⟩:=g1.o.oz;go_wp2_with fail;refine f1.o.mono ?_;rintro pZ cU ⟨⟨⟨bI,rV,bM⟩,f0,rfl,eJ,m8⟩,F⟩;clear f1;clear c7 c8 c9 cA cC bP z0 cI cJ z3 z4 z5 i8;have j3:=g m8;have j2:=g (show vV b8 cU (b1,aE,a8) (bI,rV,bM) e1 f0 from by
      rcases eJ with⟨bE,b7,_⟩|eJ
      ·rw [bE,b7];exact dE.o.on F
      ·exact Or.inr (dO eJ cP.o.2))
     clear eJ m8;have n5:=g (eR.o.trans (F.mono eR.o.size));have l7:=g (J cP.o F);have cT:=g (hW.o.on F);have l8:=g (n0.o.on F);have k1:=g (l6.o.on F);have p4:=g (dE.o.on F);have k6:=g (Bk.dK n4.o F);have p5:=g (mZ.o.on F);have hV:=g (g1.o.on F);clear eR cP hW n0 l6 dE n4 mZ g1;clear F p4;obtain⟨up,hE⟩:∃ r,(iL (fu G.own (pV f (c,d) p) (G,iE b.near f 1 (c,d) (0,0) p) k).1 (Gi (c,d) o)).2=r:=⟨_,rfl⟩;rw [hE];have e3:=g (show (fu G.own (pV f (c,d) p) (G,iE b.near f 1 (c,d) (0,0) p) (k+1))=((iL (fu G.own (pV f (c,d) p) (G,iE b.near f 1 (c,d) (0,0) p) k).1 (Gi (c,d) o)).1,if up=aI then (fu G.own (pV f (c,d) p) (G,iE b.near f 1 (c,d) (0,0) p) k).2++[rF f (Gi (c,d) o)] else (fu G.own (pV f (c,d) p) (G,iE b.near f 1 (c,d) (0,0) p) k).2) from by rw [e5.o]; unfold iq; rw [if_neg (by simp),hE]);clear hE e5;obtain⟨hG,hH,hI,hJ,hK,hL⟩:=cT.o.fA;obtain⟨hM,hN,hO,hP,hQ,hR⟩:=cT.o.kg;have dZ:=cT.o.lt;have oC:=g (show dS.heap.size≠w.heap.size from fun e=>by have bE:=hV.o; have b7:=cT.o; unfold dN at bE b7; rw [e] at bE; rw [bE] at b7; injection b7 with b7; injection b7 with b7; simp at b7);have f7:=g (dJ (b:=w.heap.size) n5.o (Q _) (K L me) (D no N M) (D S a1 a2) (D a7 a6 T) (D bI rV bM) (D I b2 H));have f8:=g (l7.o.trans (aad cU w.heap.size (K L me) (D no N M) (D S a1 a2) (D a7 a6 T) (D bI rV bM) (D I b2 H)));have f9:=g (dM cT.o (K L me) (D no N M) (D S a1 a2) (D a7 a6 T) (D bI rV bM) (D I b2 H));have fL:=g (show dN _ _ _ _ from (dP cU w.heap.size (K L me) (D no N M) (D S a1 a2) (D a7 a6 T) (D bI rV bM) (D I b2 H) (w.heap.size+1) (by omega)).trans l8.o);have fN:=g (show dN _ _ _ _ from (dP cU w.heap.size (K L me) (D no N M) (D S a1 a2) (D a7 a6 T) (D bI rV bM) (D I b2 H) (w.heap.size+1+1) (by omega)).trans k1.o);have fR:=g (show dN _ _ _ _ from (dP cU w.heap.size (K L me) (D no N M) (D S a1 a2) (D a7 a6 T) (D bI rV bM) (D I b2 H) dS.heap.size oC.o).trans hV.o);have fV:=g (fJ k6.o w.heap.size bC.o.lt (K L me) (D no N M) (D S a1 a2) (D a7 a6 T) (D bI rV bM) (D I b2 H));have fW:=g (show vV b8 _ (b1,aE,a8) (bI,rV,bM) e1 f0 from j2.o.imp id fun h=>fJ h w.heap.size bC.o.lt (K L me) (D no N M) (D S a1 a2) (D a7 a6 T) (D bI rV bM) (D I b2 H));clear j2 n5 l7 cT l8 k1 hV k6 p5;go_upto_region 12 with fail;clear dZ hG hH hI hJ hK hL hM hN hO hP hQ hR;unfold gH at f7 f8 f9 fL fN fR fV fW;generalize ((((((cU.setCell ⟨w.heap.size,0,O⟩ (K L me)).setCell ⟨w.heap.size,1,O⟩ (D no N M)).setCell ⟨w.heap.size,2,O⟩ (D S a1 a2)).setCell ⟨w.heap.size,3,O⟩ (D a7 a6 T)).setCell ⟨w.heap.size,4,O⟩ (D bI rV bM)).setCell ⟨w.heap.size,5,O⟩ (D I b2 H))=pU at *;have eS:=g (f7.o);have gA:=g (f8.o);have gC:=g (f9.o);have hX:=g (fL.o);have gE:=g (fN.o);have gI:=g (fR.o);have gO:=g (fV.o);have gR:=g (fW.o);clear f7 f8 f9 fL fN fR fV fW;cases up
     ·go_wp2_with fail
      go_roundw
      case rel=>exact⟨k+1,bI,rV,bM,f0,lo,eI,by go_num,eS.o,gA.o,gC.o,hX.o,gE.o,gR.o,gO.o,by rw [e3.o]; exact j3.o,by rw [e3.o]; exact cW.o⟩
      case measure=>simp [intOf]; omega
     ·have k3:=Ec (c,d,b6,bO,(bB,bA,b9),-1,aC) pU;obtain⟨z0,cI,cJ,z3,z4,z5,i8⟩:=gI.o.oz;go_wp2_with fail;refine k3.mono ?_;rintro q0 eW ⟨rfl,F⟩;clear k3;clear z0 cI cJ z3 z4 z5 i8;have gS:=g (eS.o.trans (F.mono eS.o.size));have l9:=g (J gA.o F);have k8:=g (gC.o.on F);have k9:=g (hX.o.on F);have kA:=g (gE.o.on F);have kB:=g (gI.o.on F);have n2:=g (Bk.dK gO.o F);have kE:=g (gR.o.on F);clear eS gA gC hX gE gI gO gR;clear F;have lL:=jL Ic eW [((f,3,c,d,b6,bO,(bB,bA,b9),(O,0,0)):nu)] 1 rfl (by simp) #[K L f,K L 3,K L c,K L d,K L b6,K L bO,D bB bA b9,D O 0 0] (by rfl);have cD:=fP eW (Y #[K L f,K L 3,K L c,K L d,K L b6,K L bO,D bB bA b9,D O 0 0] 46);have kK:=g (gS.o.trans (cD.mono gS.o.size));have e8:=g (J l9.o cD);have kO:=g (k8.o.on cD);have kQ:=g (k9.o.on cD);have l0:=g (kA.o.on cD);have p6:=g (kB.o.on cD);have e9:=g (Bk.dK n2.o cD);have n3:=g (kE.o.on cD);clear gS l9 k8 k9 kA kB n2 kE;have j9:lo.length<=1000000:=by
       have bE:=cG.o.2.2;have b7:=j7.o;have eE:(iE b.near f 1 (c,d) (0,0) p).length<=b.near.length:=by
        unfold iE;rw [aQ];exact aD _ _
       rw [cW.o.len];omega
      obtain⟨pP,bP,cS,mM,h6⟩:=uh Ic b8.heap.size e9.o (Row.dL lL) j9 (by simp) e8.o.2 37;have cS:(Builtin.append_ #[37,37] 37 #[u11,D (aG ⟨eW.heap.size,0,O⟩) 1 1]).run aF (eW.alloc (Y #[K L f,K L 3,K L c,K L d,K L b6,K L bO,D bB bA b9,D O 0 0] 46))=.ok pP bP:=cS;obtain⟨d5,d6,cN⟩:=Mh rfl e9.o h6 e8.o n3.o;have oT:=g (cN _ _ _ bC.o.lt kO.o);have oX:=g (cN _ _ _ o4.o kQ.o);have oY:=g (cN _ _ _ o5.o l0.o);have p0:=g (kK.o.grown h6 (V (aB bC.o.lt) e8.o.2) fun j cM=>V (aB bC.o.lt) (e9.o.lt j cM).1);have p1:=g d5;have p3:=g d6;have p2:=g mM;clear d5 d6 cN lL cD mM h6 j9 kK e8 kO kQ l0 n3 e9 p6;go_wp2_with (first | (at_builtin; refine wpList_append_run rfl _ _ 37 rfl rfl rfl cS ?_) | fail)
      go_roundw
      case rel=>exact⟨k+1,bI,rV,bM,f0,_,eI,by go_num,p0.o,p1.o,oT.o,oX.o,oY.o,p3.o,p2.o,by rw [e3.o]; exact j3.o,by rw [e3.o]; exact cW.o.append (.cons ⟨rfl,rfl,rfl,g6.o.symm,eA.o,rfl⟩ .nil)⟩
      case measure=>simp [intOf]; omega
   ·obtain rfl:k=b2:=by omega
    obtain⟨c7,c8,c9,cA,cC,bP⟩:=h0.o.fA;have nS:=g (uj bC.o cY.o cL.o (g0.o _ dT.o) i5.o h1.o EN.o cG.o.1);have nZ:=g (show eY (tZ wr) lo _ from Gj bC.o cY.o cW.o);obtain⟨i0,i1,m5⟩:=(Row.dL e6.o).len;obtain⟨i2,m6⟩:∃ n,n=lo.length:=⟨_,rfl⟩;rw [<- m6] at m5;have oS:=g (Row.dL e6.o);subst m5;clear m6;obtain⟨pD,pH,pL,pM,pN,r5⟩:=cF.o.fA;obtain⟨n7,n8,n9,nA,nB,nF⟩:=cF.o.kg;have dZ:=cF.o.lt;have fS:=g (dM cF.o (K L me) (D no N M) (D S a1 a2) (D a7 a6 T) (D bW bX c6) (D I k H));have cV:=g (dJ (b:=w.heap.size+1+1) dT.o (by omega) (K L me) (D no N M) (D S a1 a2) (D a7 a6 T) (D bW bX c6) (D I k H));have e4:=g (fun j (_:j<wr.heap.size) (cM:j≠w.heap.size+1+1)=>dP wr (w.heap.size+1+1) (K L me) (D no N M) (D S a1 a2) (D a7 a6 T) (D bW bX c6) (D I k H) j cM);have fY:=g (fK (s1:=(O,0,0)) (s2:=(O,0,0)) (s3:=(O,0,0)) (s4:=(O,0,0)) (s5:=(O,0,0)) nS.o cF.o e4.o (by rw [cG.o.1.near]; exact g0.o _ cV.o));have nX:=g (gy (s1:=(O,0,0)) (s2:=(O,0,0)) (s3:=(O,0,0)) (s4:=(O,0,0)) (s5:=(O,0,0)) (s:=(i0,i2,i1)) ⟨lo,oS.o,nZ.o⟩ cF.o e4.o);go_wp2_with fail;obtain⟨v0,hY,hZ,v3,v4,v5⟩:=fS.o.fA;refine Z (v:=.tuple #[aN #[K L me,D no N M,D S a1 a2,D a7 a6 T,D bW bX c6,D I k H],D i0 i2 i1]) (by simp [results,aT,go_sem,v0,hY,hZ,v3,v4,v5]) rfl ?_;have oD:=cX.o;have p8:=g4.o;rw [nH.o,oD];subst p8;exact⟨⟨(S,a1,a2),(a7,a6,T),(bW,bX,c6),(i0,i2,i1),rfl,fY.o,nX.o⟩,cV.o⟩
def Gm (b:Br) (f:Int) (x:Id):Br×List Ou:=((iZ b x f).1,if (iZ b x f).2=aI then iE b.near f 2 x (0,0) [] else [])
theorem abd {W:aV} {b:Br} {f:Int} {x:Id} {s:Sl} (h:Nf W (eu s) (FZ b f x)):lZ W s (Gm b f x).2:=by
 refine⟨_,h,?_⟩;unfold FZ Gm
 split
 ·exact JX (p:=[]) (x:=(0,0)) (jK _)
 ·exact .nil
def lI (b:Br) (f mk:Int) (t x:Id) (p:List C5):Br×List Ou:=if mk=1 then nG b f t p else if mk=2 then Gm b f t else if mk=3 then jS b f t x p else jv b t x f
theorem WY (b:Br) (f:Int) (x:Id) (p:List C5) (_:∀ o∈b.own,dX o.p) (_:∀ e∈b.ent,dX e.p):(nG b f x p).1.near=b.near:=by
 unfold nG
 split
 ·exact (lU b ⟨x,p,f⟩).2.1
 ·have j:=lU b ⟨x,p,f⟩;have q:=(lg (l:=(fZ b ⟨x,p,f⟩).1.own) (b0:=(fZ b ⟨x,p,f⟩).1) (o0:=iE b.near f 1 x (0,0) p) (fun o=>jG o.p p) (fun o=>Gi x o) (fun _=>f) (fun _=>True) (fun _ _=>trivial) (fun _ _ _=>trivial) _ (Q _)).1.near;exact q.trans j.2.1
theorem CG (b:Br) (f:Int) (t x:Id) (p:List C5):(jS b f t x p).1.near=b.near:=by
 rw [kH];exact (je b _).2.1
theorem CK (b:Br) (t x:Id) (f:Int):(jv b t x f).1.near=b.near:=by
 rw [iA];exact (jf b t x f).2.1
theorem WZ (b:Br) (e3 av fY f2 e4:Sl) (f mk:Int) (t x:Id) (fN gC:Sl) (p:List C5) (w:aV) (h:iT w b e3 av fY f2 e4) (f9:fO w (eu fN) p) (gE:1<=mk/\mk<=4) (fL:b.near.length<=900) (g8:b.seen.length<=899) (g9:b.dQ.length<=899) (gA:b.ent.length+b.own.length<=900) (e2:∀ e∈b.ent,dX e.p) (f7:∀ o∈b.own,dX o.p) (f8:dX p) (g6:∀ e∈b.ent,e.tree∈b.dQ.map Ad.id) :
  aW aF 51 #[mg b.me e3 av fY f2 e4,K L f,mgv mk t x fN gC] w fun e w'=>(∃ Eb Mw ev' lo:Sl,e=.returned (.tuple #[mg b.me e3 Eb Mw ev' e4,eu lo,D O 0 0])/\iT w' (lI b f mk t x p).1 e3 Eb Mw ev' e4/\lZ w' lo (lI b f mk t x p).2)/\Below w.heap.size w w':=by
 obtain⟨no,u,r⟩:=e3;obtain⟨a2,a1,T⟩:=av;obtain⟨I,H,sc⟩:=fY;obtain⟨bB,bA,b9⟩:=f2;obtain⟨G,q,F⟩:=e4;obtain⟨po,dS,dE⟩:=fN;obtain⟨e7,e6,e5⟩:=gC;obtain⟨c,d⟩:=t;obtain⟨c2,cD⟩:=x;have eJ:=g (fun W cF=>O6 b (no,u,r) (a2,a1,T) (I,H,sc) (bB,bA,b9) (G,q,F) f (c,d) (po,dS,dE) p W (h.on (show Below w.heap.size w W from cF)) (f9.on cF) fL g8 g9 gA e2 f7 f8);have eK:=g (fun W cF=>Ri b (no,u,r) (a2,a1,T) (I,H,sc) (bB,bA,b9) (G,q,F) (c,d) f W (h.on (show Below w.heap.size w W from cF)) fL (by omega) (by omega));have eL:=g (fun W cF=>Gd b (no,u,r) (a2,a1,T) (I,H,sc) (bB,bA,b9) (G,q,F) f mk (c,d) (c2,cD) (po,dS,dE) (e7,e6,e5) p W (h.on (show Below w.heap.size w W from cF)) (f9.on cF) (by omega) (by omega) e2 f8);have eM:=g (fun W cF=>zX b (no,u,r) (a2,a1,T) (I,H,sc) (bB,bA,b9) (G,q,F) f mk (c,d) (c2,cD) (po,dS,dE) (e7,e6,e5) W (h.on (show Below w.heap.size w W from cF)) (by omega) (by omega) e2 g6);have cI:=g h.near;have g0:=g (WY b f (c,d) p f7 e2);obtain⟨f3,f4,f5,f6⟩:=gT w #[K L b.me,D no u r,D a2 a1 T,D I H sc,D bB bA b9,D G q F] #[K L mk,K L c,K L d,K L c2,K L cD,D po dS dE,D e7 e6 e5] #[K L 0,D O 0 0,D O 0 0,D O 0 0,D O 0 0,D O 0 0] 30 43 30;obtain⟨me,g7⟩:∃ me,me=b.me:=⟨_,rfl⟩;simp only [<- g7] at f3 f4 f5 f6 eJ eK eL eM ⊢;have b5:=g (f3);have cH:=g (f4);have cG:=g (f5);have cJ:=g (f6);clear f3 f4 f5 f6 h f9 fL g8 g9 gA g7 e2 f7 f8 g6;show aW aF 51 #[aN #[K L me,D no u r,D a2 a1 T,D I H sc,D bB bA b9,D G q F],K L f,aN #[K L mk,K L c,K L d,K L c2,K L cD,D po dS dE,D e7 e6 e5]] w _;go_enter Tryz.func51,Tryz.ntmps51;go_upto_region 1 with fail;generalize (((w.alloc (Y #[K L me,D no u r,D a2 a1 T,D I H sc,D bB bA b9,D G q F] 30)).alloc (Y #[K L mk,K L c,K L d,K L c2,K L cD,D po dS dE,D e7 e6 e5] 43)).alloc (Y #[K L 0,D O 0 0,D O 0 0,D O 0 0,D O 0 0,D O 0 0] 30))=W at *;have g1:=eJ.o W b5.o;have g2:=eK.o W b5.o;have g3:=eL.o W b5.o;have g4:=eM.o W b5.o;have dT:=g g1;have dZ:=g g2;have e0:=g g3;have e1:=g g4;clear g1 g2 g3 g4 eJ eK eL eM;obtain⟨cL,cM,cN,cP,cQ,cR⟩:=cH.o.fA;obtain⟨e8,e9,eA,eB,eC,eE,eI⟩:=cG.o.oz;rcases (by omega:mk=1\/mk=2\/mk=3\/mk=4) with rfl|rfl|rfl|rfl
 ·go_wp2_with fail;refine dT.o.mono ?_;rintro f1 w1 ⟨⟨⟨aE,b1,b2⟩,⟨cC,cA,c9⟩,⟨M,N,S⟩,⟨la,ln,bW⟩,rfl,bP,bT⟩,a8⟩;clear dT dZ e0 e1;clear cL cM cN cP cQ cR e8 e9 eA eB eC eE eI;have bX:=g (b5.o.trans (a8.mono b5.o.size));have a6:=g (cH.o.on a8);have f0:=g (cG.o.on a8);have c6:=g (cJ.o.on a8);clear b5 cH cG cJ;obtain⟨cW,cX,cY,d0,d1,d2⟩:=a6.o.fA;obtain⟨d3,d4,d5,d6,d7,d8⟩:=a6.o.kg;have c8:=a6.o.lt;have b6:=g (dM a6.o (K L me) (D no u r) (D aE b1 b2) (D cC cA c9) (D M N S) (D G q F));have b4:=g (dJ (b:=w.heap.size) bX.o (Q _) (K L me) (D no u r) (D aE b1 b2) (D cC cA c9) (D M N S) (D G q F));have b8:=g (fun j (_:j<w1.heap.size) (bC:j≠w.heap.size)=>dP w1 (w.heap.size) (K L me) (D no u r) (D aE b1 b2) (D cC cA c9) (D M N S) (D G q F) j bC);have b7:=g (show dN _ _ _ _ from (dP w1 (w.heap.size) (K L me) (D no u r) (D aE b1 b2) (D cC cA c9) (D M N S) (D G q F) (w.heap.size+1+1) (by omega)).trans c6.o);have bI:=g (fK (s1:=(no,u,r)) (s2:=(a2,a1,T)) (s3:=(I,H,sc)) (s4:=(bB,bA,b9)) (s5:=(G,q,F)) bP a6.o b8.o (by rw [g0.o]; exact cI.o.on b4.o));have bO:=g (gy (s1:=(no,u,r)) (s2:=(a2,a1,T)) (s3:=(I,H,sc)) (s4:=(bB,bA,b9)) (s5:=(G,q,F)) bT a6.o b8.o);clear bP bT a8 bX a6 c6;go_upto_region 14 with fail;clear c8 b8 cW cX cY d0 d1 d2 d3 d4 d5 d6 d7 d8;unfold gH at b6 b4 bI b7 bO;generalize ((((((w1.setCell ⟨w.heap.size,0,O⟩ (K L me)).setCell ⟨w.heap.size,1,O⟩ (D no u r)).setCell ⟨w.heap.size,2,O⟩ (D aE b1 b2)).setCell ⟨w.heap.size,3,O⟩ (D cC cA c9)).setCell ⟨w.heap.size,4,O⟩ (D M N S)).setCell ⟨w.heap.size,5,O⟩ (D G q F))=c7 at *;have cV:=g (b4.o);have d9:=g (b6.o);have a7:=g (b7.o);clear b4 b6 b7;obtain⟨cL,cM,cN,cP,cQ,cR⟩:=d9.o.fA;obtain⟨fR,fS,fV,fW,fX,r5⟩:=a7.o.fA;obtain⟨eN,eQ,eR,eS,eV,eW⟩:=a7.o.kg;have c8:=a7.o.lt;have cS:=g (dM a7.o (K L me) (D no u r) (D aE b1 b2) (D cC cA c9) (D M N S) (D G q F));have bE:=g (dJ (b:=w.heap.size+1+1) cV.o (by omega) (K L me) (D no u r) (D aE b1 b2) (D cC cA c9) (D M N S) (D G q F));have bM:=g (fun j (_:j<c7.heap.size) (bC:j≠w.heap.size+1+1)=>dP c7 (w.heap.size+1+1) (K L me) (D no u r) (D aE b1 b2) (D cC cA c9) (D M N S) (D G q F) j bC);have cT:=g (fK (s1:=(O,0,0)) (s2:=(O,0,0)) (s3:=(O,0,0)) (s4:=(O,0,0)) (s5:=(O,0,0)) bI.o a7.o bM.o (by rw [g0.o]; exact cI.o.on bE.o));have cU:=g (gy (s1:=(O,0,0)) (s2:=(O,0,0)) (s3:=(O,0,0)) (s4:=(O,0,0)) (s5:=(O,0,0)) bO.o a7.o bM.o);go_wp2_with fail;obtain⟨v0,dA,dC,v3,v4,v5⟩:=cS.o.fA;refine Z (v:=.tuple #[aN #[K L me,D no u r,D aE b1 b2,D cC cA c9,D M N S,D G q F],D la ln bW,D O 0 0]) (by simp [results,aJ,go_sem,v0,dA,dC,v3,v4,v5]) rfl ?_;exact⟨⟨(aE,b1,b2),(cC,cA,c9),(M,N,S),(la,ln,bW),rfl,cT.o,cU.o⟩,bE.o⟩
 ·go_wp2_with fail;refine dZ.o.mono ?_;rintro f1 w1 ⟨⟨⟨aE,b1,b2⟩,⟨M,N,S⟩,⟨la,ln,bW⟩,rfl,bP,g5⟩,a8⟩;have bT:=abd g5;clear g5;clear dT dZ e0 e1;clear cL cM cN cP cQ cR e8 e9 eA eB eC eE eI;have bX:=g (b5.o.trans (a8.mono b5.o.size));have a6:=g (cH.o.on a8);have f0:=g (cG.o.on a8);have c6:=g (cJ.o.on a8);clear b5 cH cG cJ;obtain⟨cW,cX,cY,d0,d1,d2⟩:=a6.o.fA;obtain⟨d3,d4,d5,d6,d7,d8⟩:=a6.o.kg;have c8:=a6.o.lt;have b6:=g (dM a6.o (K L me) (D no u r) (D aE b1 b2) (D I H sc) (D M N S) (D G q F));have b4:=g (dJ (b:=w.heap.size) bX.o (Q _) (K L me) (D no u r) (D aE b1 b2) (D I H sc) (D M N S) (D G q F));have b8:=g (fun j (_:j<w1.heap.size) (bC:j≠w.heap.size)=>dP w1 (w.heap.size) (K L me) (D no u r) (D aE b1 b2) (D I H sc) (D M N S) (D G q F) j bC);have b7:=g (show dN _ _ _ _ from (dP w1 (w.heap.size) (K L me) (D no u r) (D aE b1 b2) (D I H sc) (D M N S) (D G q F) (w.heap.size+1+1) (by omega)).trans c6.o);have bI:=g (fK (s1:=(no,u,r)) (s2:=(a2,a1,T)) (s3:=(I,H,sc)) (s4:=(bB,bA,b9)) (s5:=(G,q,F)) bP a6.o b8.o (by rw [(mJ b (c,d) f).1]; exact cI.o.on b4.o));have bO:=g (gy (s1:=(no,u,r)) (s2:=(a2,a1,T)) (s3:=(I,H,sc)) (s4:=(bB,bA,b9)) (s5:=(G,q,F)) bT a6.o b8.o);clear bP bT a8 bX a6 c6;go_upto_region 14 with fail;clear c8 b8 cW cX cY d0 d1 d2 d3 d4 d5 d6 d7 d8;unfold gH at b6 b4 bI b7 bO;generalize ((((((w1.setCell ⟨w.heap.size,0,O⟩ (K L me)).setCell ⟨w.heap.size,1,O⟩ (D no u r)).setCell ⟨w.heap.size,2,O⟩ (D aE b1 b2)).setCell ⟨w.heap.size,3,O⟩ (D I H sc)).setCell ⟨w.heap.size,4,O⟩ (D M N S)).setCell ⟨w.heap.size,5,O⟩ (D G q F))=c7 at *;have cV:=g (b4.o);have d9:=g (b6.o);have a7:=g (b7.o);clear b4 b6 b7;obtain⟨cL,cM,cN,cP,cQ,cR⟩:=d9.o.fA;obtain⟨fR,fS,fV,fW,fX,r5⟩:=a7.o.fA;obtain⟨eN,eQ,eR,eS,eV,eW⟩:=a7.o.kg;have c8:=a7.o.lt;have cS:=g (dM a7.o (K L me) (D no u r) (D aE b1 b2) (D I H sc) (D M N S) (D G q F));have bE:=g (dJ (b:=w.heap.size+1+1) cV.o (by omega) (K L me) (D no u r) (D aE b1 b2) (D I H sc) (D M N S) (D G q F));have bM:=g (fun j (_:j<c7.heap.size) (bC:j≠w.heap.size+1+1)=>dP c7 (w.heap.size+1+1) (K L me) (D no u r) (D aE b1 b2) (D I H sc) (D M N S) (D G q F) j bC);have cT:=g (fK (s1:=(O,0,0)) (s2:=(O,0,0)) (s3:=(O,0,0)) (s4:=(O,0,0)) (s5:=(O,0,0)) bI.o a7.o bM.o (by rw [(mJ b (c,d) f).1]; exact cI.o.on bE.o));have cU:=g (gy (s1:=(O,0,0)) (s2:=(O,0,0)) (s3:=(O,0,0)) (s4:=(O,0,0)) (s5:=(O,0,0)) bO.o a7.o bM.o);go_wp2_with fail;obtain⟨v0,dA,dC,v3,v4,v5⟩:=cS.o.fA;refine Z (v:=.tuple #[aN #[K L me,D no u r,D aE b1 b2,D I H sc,D M N S,D G q F],D la ln bW,D O 0 0]) (by simp [results,aJ,go_sem,v0,dA,dC,v3,v4,v5]) rfl ?_;exact⟨⟨(aE,b1,b2),(I,H,sc),(M,N,S),(la,ln,bW),rfl,cT.o,cU.o⟩,bE.o⟩
 ·go_wp2_with fail;refine e0.o.mono ?_;rintro f1 w1 ⟨⟨⟨M,N,S⟩,⟨la,ln,bW⟩,rfl,bP,bT⟩,a8⟩;clear dT dZ e0 e1;clear cL cM cN cP cQ cR e8 e9 eA eB eC eE eI;have bX:=g (b5.o.trans (a8.mono b5.o.size));have a6:=g (cH.o.on a8);have f0:=g (cG.o.on a8);have c6:=g (cJ.o.on a8);clear b5 cH cG cJ;obtain⟨cW,cX,cY,d0,d1,d2⟩:=a6.o.fA;obtain⟨d3,d4,d5,d6,d7,d8⟩:=a6.o.kg;have c8:=a6.o.lt;have b6:=g (dM a6.o (K L me) (D no u r) (D a2 a1 T) (D I H sc) (D M N S) (D G q F));have b4:=g (dJ (b:=w.heap.size) bX.o (Q _) (K L me) (D no u r) (D a2 a1 T) (D I H sc) (D M N S) (D G q F));have b8:=g (fun j (_:j<w1.heap.size) (bC:j≠w.heap.size)=>dP w1 (w.heap.size) (K L me) (D no u r) (D a2 a1 T) (D I H sc) (D M N S) (D G q F) j bC);have b7:=g (show dN _ _ _ _ from (dP w1 (w.heap.size) (K L me) (D no u r) (D a2 a1 T) (D I H sc) (D M N S) (D G q F) (w.heap.size+1+1) (by omega)).trans c6.o);have bI:=g (fK (s1:=(no,u,r)) (s2:=(a2,a1,T)) (s3:=(I,H,sc)) (s4:=(bB,bA,b9)) (s5:=(G,q,F)) bP a6.o b8.o (by rw [CG b f (c,d) (c2,cD) p]; exact cI.o.on b4.o));have bO:=g (gy (s1:=(no,u,r)) (s2:=(a2,a1,T)) (s3:=(I,H,sc)) (s4:=(bB,bA,b9)) (s5:=(G,q,F)) bT a6.o b8.o);clear bP bT a8 bX a6 c6;go_upto_region 14 with fail;clear c8 b8 cW cX cY d0 d1 d2 d3 d4 d5 d6 d7 d8;unfold gH at b6 b4 bI b7 bO;generalize ((((((w1.setCell ⟨w.heap.size,0,O⟩ (K L me)).setCell ⟨w.heap.size,1,O⟩ (D no u r)).setCell ⟨w.heap.size,2,O⟩ (D a2 a1 T)).setCell ⟨w.heap.size,3,O⟩ (D I H sc)).setCell ⟨w.heap.size,4,O⟩ (D M N S)).setCell ⟨w.heap.size,5,O⟩ (D G q F))=c7 at *;have cV:=g (b4.o);have d9:=g (b6.o);have a7:=g (b7.o);clear b4 b6 b7;obtain⟨cL,cM,cN,cP,cQ,cR⟩:=d9.o.fA;obtain⟨fR,fS,fV,fW,fX,r5⟩:=a7.o.fA;obtain⟨eN,eQ,eR,eS,eV,eW⟩:=a7.o.kg;have c8:=a7.o.lt;have cS:=g (dM a7.o (K L me) (D no u r) (D a2 a1 T) (D I H sc) (D M N S) (D G q F));have bE:=g (dJ (b:=w.heap.size+1+1) cV.o (by omega) (K L me) (D no u r) (D a2 a1 T) (D I H sc) (D M N S) (D G q F));have bM:=g (fun j (_:j<c7.heap.size) (bC:j≠w.heap.size+1+1)=>dP c7 (w.heap.size+1+1) (K L me) (D no u r) (D a2 a1 T) (D I H sc) (D M N S) (D G q F) j bC);have cT:=g (fK (s1:=(O,0,0)) (s2:=(O,0,0)) (s3:=(O,0,0)) (s4:=(O,0,0)) (s5:=(O,0,0)) bI.o a7.o bM.o (by rw [CG b f (c,d) (c2,cD) p]; exact cI.o.on bE.o));have cU:=g (gy (s1:=(O,0,0)) (s2:=(O,0,0)) (s3:=(O,0,0)) (s4:=(O,0,0)) (s5:=(O,0,0)) bO.o a7.o bM.o);go_wp2_with fail;obtain⟨v0,dA,dC,v3,v4,v5⟩:=cS.o.fA;refine Z (v:=.tuple #[aN #[K L me,D no u r,D a2 a1 T,D I H sc,D M N S,D G q F],D la ln bW,D O 0 0]) (by simp [results,aJ,go_sem,v0,dA,dC,v3,v4,v5]) rfl ?_;exact⟨⟨(a2,a1,T),(I,H,sc),(M,N,S),(la,ln,bW),rfl,cT.o,cU.o⟩,bE.o⟩
 ·go_wp2_with fail;refine e1.o.mono ?_;rintro f1 w1 ⟨⟨⟨M,N,S⟩,⟨la,ln,bW⟩,rfl,bP,bT⟩,a8⟩;clear dT dZ e0 e1;clear cL cM cN cP cQ cR e8 e9 eA eB eC eE eI;have bX:=g (b5.o.trans (a8.mono b5.o.size));have a6:=g (cH.o.on a8);have f0:=g (cG.o.on a8);have c6:=g (cJ.o.on a8);clear b5 cH cG cJ;obtain⟨cW,cX,cY,d0,d1,d2⟩:=a6.o.fA;obtain⟨d3,d4,d5,d6,d7,d8⟩:=a6.o.kg;have c8:=a6.o.lt;have b6:=g (dM a6.o (K L me) (D no u r) (D a2 a1 T) (D I H sc) (D M N S) (D G q F));have b4:=g (dJ (b:=w.heap.size) bX.o (Q _) (K L me) (D no u r) (D a2 a1 T) (D I H sc) (D M N S) (D G q F));have b8:=g (fun j (_:j<w1.heap.size) (bC:j≠w.heap.size)=>dP w1 (w.heap.size) (K L me) (D no u r) (D a2 a1 T) (D I H sc) (D M N S) (D G q F) j bC);have b7:=g (show dN _ _ _ _ from (dP w1 (w.heap.size) (K L me) (D no u r) (D a2 a1 T) (D I H sc) (D M N S) (D G q F) (w.heap.size+1+1) (by omega)).trans c6.o);have bI:=g (fK (s1:=(no,u,r)) (s2:=(a2,a1,T)) (s3:=(I,H,sc)) (s4:=(bB,bA,b9)) (s5:=(G,q,F)) bP a6.o b8.o (by rw [CK b (c,d) (c2,cD) f]; exact cI.o.on b4.o));have bO:=g (gy (s1:=(no,u,r)) (s2:=(a2,a1,T)) (s3:=(I,H,sc)) (s4:=(bB,bA,b9)) (s5:=(G,q,F)) bT a6.o b8.o);clear bP bT a8 bX a6 c6;go_upto_region 14 with fail;clear c8 b8 cW cX cY d0 d1 d2 d3 d4 d5 d6 d7 d8;unfold gH at b6 b4 bI b7 bO;generalize ((((((w1.setCell ⟨w.heap.size,0,O⟩ (K L me)).setCell ⟨w.heap.size,1,O⟩ (D no u r)).setCell ⟨w.heap.size,2,O⟩ (D a2 a1 T)).setCell ⟨w.heap.size,3,O⟩ (D I H sc)).setCell ⟨w.heap.size,4,O⟩ (D M N S)).setCell ⟨w.heap.size,5,O⟩ (D G q F))=c7 at *;have cV:=g (b4.o);have d9:=g (b6.o);have a7:=g (b7.o);clear b4 b6 b7;obtain⟨cL,cM,cN,cP,cQ,cR⟩:=d9.o.fA;obtain⟨fR,fS,fV,fW,fX,r5⟩:=a7.o.fA;obtain⟨eN,eQ,eR,eS,eV,eW⟩:=a7.o.kg;have c8:=a7.o.lt;have cS:=g (dM a7.o (K L me) (D no u r) (D a2 a1 T) (D I H sc) (D M N S) (D G q F));have bE:=g (dJ (b:=w.heap.size+1+1) cV.o (by omega) (K L me) (D no u r) (D a2 a1 T) (D I H sc) (D M N S) (D G q F));have bM:=g (fun j (_:j<c7.heap.size) (bC:j≠w.heap.size+1+1)=>dP c7 (w.heap.size+1+1) (K L me) (D no u r) (D a2 a1 T) (D I H sc) (D M N S) (D G q F) j bC);have cT:=g (fK (s1:=(O,0,0)) (s2:=(O,0,0)) (s3:=(O,0,0)) (s4:=(O,0,0)) (s5:=(O,0,0)) bI.o a7.o bM.o (by rw [CK b (c,d) (c2,cD) f]; exact cI.o.on bE.o));have cU:=g (gy (s1:=(O,0,0)) (s2:=(O,0,0)) (s3:=(O,0,0)) (s4:=(O,0,0)) (s5:=(O,0,0)) bO.o a7.o bM.o);go_wp2_with fail;obtain⟨v0,dA,dC,v3,v4,v5⟩:=cS.o.fA;refine Z (v:=.tuple #[aN #[K L me,D no u r,D a2 a1 T,D I H sc,D M N S,D G q F],D la ln bW,D O 0 0]) (by simp [results,aJ,go_sem,v0,dA,dC,v3,v4,v5]) rfl ?_;exact⟨⟨(a2,a1,T),(I,H,sc),(M,N,S),(la,ln,bW),rfl,cT.o,cU.o⟩,bE.o⟩
theorem ajm {W:aV} {l:List mP} {m:List Ow} (h:eY (xQ W) l m):(l.map fun y=>(y.1,y.2.1))=m.map Ow.id:=by
 induction h with
 | nil=>rfl
 | cons x t j=>rw [aU,aU,j]; exact congrArg (·::_) x.1
theorem Uj {W:aV} {b:Nat} {c d:Int} (h:dN W b #[K L c,K L d] 23):∀ x,Below W.heap.size W x->∀ j q,(kZ (c,d))[j]?=aG q->x.cell? ((⟨b,0,O⟩:Addr).add j)=aG q:=fun _ r=>Te (h.on r)
theorem JY (b:Br) (l2 av l7 n2 o5:Sl) (x:Id) (o6:Sl) (p:List C5) (w:aV) (h:iT w b l2 av l7 n2 o5) (p9:fO w (eu o6) p) (pC:b.dQ.length<=900) (pD:b.ent.length+b.dQ.length<=900) (pH:b.own.length<=899) (p7:∀ e∈b.ent,dX e.p) (p6:∀ a∈b.dQ,dX a.p) (p8:dX p) :
  aW aF 17 #[mg b.me l2 av l7 n2 o5,nP x,eu o6] w fun e w'=>(∃ ev' Ql lo:Sl,e=.returned (.tuple #[mg b.me l2 av l7 ev' Ql,eu lo])/\iT w' (iV b x p).1 l2 av l7 ev' Ql/\lZ w' lo (iV b x p).2)/\Below w.heap.size w w':=by
 obtain⟨no,I,H⟩:=l2;obtain⟨G,cC,F⟩:=av;obtain⟨S,N,sc⟩:=l7;obtain⟨bA,b9,b8⟩:=n2;obtain⟨cF,bB,cD⟩:=o5;obtain⟨c,d⟩:=x;obtain⟨po,c7,c6⟩:=o6;obtain⟨bT,lP,lR⟩:=h.own;obtain⟨eQ,eR,eI⟩:=lP.len;obtain⟨rfl,rfl,rfl⟩:cF=eQ/\bB=bT.length/\cD=eR:=by
  have:D cF bB cD=D eQ bT.length eR:=eI;simpa using this
 have g1:=g h;have eB:=g p9;have lJ:=g pC;have p1:=g pD;have lL:=g (show bT.length<=899 from by rw [lR.len]; exact pH);have hX:=g lR;have pT:=g (ajm lR);have p4:=g p7;have p3:=g p6;have hH:=g p8;obtain⟨bB,n8⟩:∃ n,n=bT.length:=⟨_,rfl⟩;simp only [<- n8] at g1 lP ⊢;have eC:=g n8;obtain⟨lO,a8,T,j9⟩:=gT w #[K L b.me,D no I H,D G cC F,D S N sc,D bA b9 b8,D cF bB cD] #[K L c,K L d] #[K L 0,D O 0 0,D O 0 0,D O 0 0,D O 0 0,D O 0 0] 30 23 30;obtain⟨me,n6⟩:∃ me,me=b.me:=⟨_,rfl⟩;simp only [<- n6] at lO a8 T j9 ⊢;have n3:=g (lO);have oA:=g (a8);have n0:=g (T);have o4:=g (j9);have mH:=g (lP.on lO);have p2:=g n6;clear lO a8 T j9 h pC pD pH n6 p7 p6 p8 p9 lP lR eI n8;show aW aF 17 #[aN #[K L me,D no I H,D G cC F,D S N sc,D bA b9 b8,D cF bB cD],aN #[K L c,K L d],D po c7 c6] w _;go_enter Tryz.func17,Tryz.ntmps17;go_upto_region 1 with fail;generalize (((w.alloc (Y #[K L me,D no I H,D G cC F,D S N sc,D bA b9 b8,D cF bB cD] 30)).alloc (Y #[K L c,K L d] 23)).alloc (Y #[K L 0,D O 0 0,D O 0 0,D O 0 0,D O 0 0,D O 0 0] 30))=W at *;have rL:=g (show w.heap.size+3<=W.heap.size from by have:=o4.o.lt; omega)
 go_upto_block 0 with (fail)
 refine adl _ W w.heap.size (w.heap.size+1) me c d _ _ _ _ cF bB cD bT oA.o n0.o mH.o eC.o (by rw [eC.o]; exact V lL.o (by decide)) ?_;intro wr rN rO rQ rS rT rU s6 s7 v22 s8 s9 sA sB sC v28 sD sE hJ;have dZ:=g (n3.o.trans (hJ.mono n3.o.size));have cN:=g (oA.o.on hJ);have eS:=g (n0.o.on hJ);have hG:=g (o4.o.on hJ);have g5:=g (mH.o.on hJ);clear n3 oA n0 o4 mH;clear hJ;have mC:=g (show (gu (bT.map fun y=>(y.1,y.2.1)) (c,d))<=bT.length from by have a8:=nR (bT.map fun y=>(y.1,y.2.1)) (c,d); rw [aQ] at a8; exact a8);have lK:=g (show (gu (bT.map fun y=>(y.1,y.2.1)) (c,d))=gu (b.own.map Ow.id) (c,d) from by rw [pT.o]);generalize (gu (bT.map fun y=>(y.1,y.2.1)) (c,d))=at_ at *;have a0:=X (show wr.cell? ⟨w.heap.size,0,O⟩=aG (K L me) from cN.o.cell 0);have mW:=X (show wr.cell? ⟨w.heap.size,1,O⟩=aG (D no I H) from cN.o.cell 1);have mX:=X (show wr.cell? ⟨w.heap.size,2,O⟩=aG (D G cC F) from cN.o.cell 2);have a3:=X (show wr.cell? ⟨w.heap.size,3,O⟩=aG (D S N sc) from cN.o.cell 3);have a4:=X (show wr.cell? ⟨w.heap.size,4,O⟩=aG (D bA b9 b8) from cN.o.cell 4);have a5:=X (show wr.cell? ⟨w.heap.size,5,O⟩=aG (D cF bB cD) from cN.o.cell 5);have b0:=X (show wr.cell? ⟨w.heap.size+1,0,O⟩=aG (K L c) from eS.o.cell 0);have n1:=X (show wr.cell? ⟨w.heap.size+1,1,O⟩=aG (K L d) from eS.o.cell 1);have rM:bB<=899:=by rw [eC.o]; exact lL.o
 rcases k3:decide (at_<bB) with _|_
 ·have hK:¬ at_<bB:=of_decide_eq_false k3;have pZ:at_=bB:=by have:=mC.o; rw [<- eC.o] at this; omega
  have NF:=g (show ¬ (b.own[gu (b.own.map Ow.id) (c,d)]?).map Ow.id=aG (c,d) from by
   rw [<- lK.o,List.getElem?_eq_none (by rw [<- hX.o.len,<- eC.o]; omega)];simp)
  have lE:decide ((at_:Int)<(bB:Int))=aC:=decide_eq_false (by omega);clear hK pZ;go_upto_region 4 with fail;refine ko ?_
  repeat (go_big_quiet_step (fail))
  refine kr fun eE eL=>?_;have bO:=aM wr eE eL;have eJ:=g (dZ.o.trans (bO.mono dZ.o.size));have h2:=g (cN.o.on bO);have eK:=g (eS.o.on bO);have cV:=g (hG.o.on bO);have hI:=g (g5.o.on bO);clear dZ cN eS hG g5;clear bO a0 mW mX a3 a4 a5 b0 n1;generalize grow (aX wr eE) eL=hM at *;clear lE k3;have m0:=g (show iV b (c,d) p=fu b.dQ (iK (c,d) p) (ownIn b (c,d) p,[]) b.dQ.length from by unfold iV; rw [if_neg NF.o]);have i1:at_<=bT.length:=mC.o;go_upto_region 6 with fail;refine ae5 _ hM w.heap.size (w.heap.size+1) me _ _ _ _ cF bB cD at_ bT ((c,d,(po,c7,c6)):mP) h2.o (Uj eK.o) hI.o i1 (V lL.o (by decide)) ?_;intro b6 q3 q4 q5 q6 v51 q7 v53 q8 q9 qA qG qH qI qS qT r0 r1 jV gE jI gI n5;obtain⟨a6,a7,k8⟩:=(Row.dL gE).len;obtain⟨a2,j8⟩:∃ n,n=(bT.take at_++[((c,d,(po,c7,c6)):mP)]++bT.drop at_).length:=⟨_,rfl⟩;rw [<- j8] at k8;subst k8;clear j8 i1;have bP:=g (eJ.o.trans (jI _ (Q _)));have j5:=g jV;have j6:=g (gI _ _ _ (by omega) eK.o);have j7:=g (gI _ _ _ (by omega) cV.o);have cP:=g (show iT b6 (ownIn b (c,d) p) (no,I,H) (G,cC,F) (S,N,sc) (bA,b9,b8) (a6,a2,a7) from by
   have d9:=g1.o.on bP.o;refine⟨d9.near,d9.dQ,d9.seen,d9.ent,⟨_,Row.dL gE,?_⟩⟩;have jB:=hX.o.mono fun _ _ h=>xQ.on h bP.o;show eY _ _ (gL b.own (gu (b.own.map Ow.id) (c,d)) ⟨(c,d),p⟩);rw [<- lK.o];exact ((jB.take _).append (.cons ⟨rfl,eB.o.on bP.o⟩ .nil)).append (jB.drop _))
  clear jV gE jI gI n5 eJ h2 eK cV hI;have gS:=g (bP.o);have cU:=g (j5.o);have h4:=g (j6.o);have h0:=g (j7.o);clear bP j5 j6 j7;have m1:=g (show ∀ k,k<=b.dQ.length->Rx (ownIn b (c,d) p) (fu b.dQ (iK (c,d) p) (ownIn b (c,d) p,[]) k).1 k/\(∀ q∈(fu b.dQ (iK (c,d) p) (ownIn b (c,d) p,[]) k).1.ent,dX q.p)/\(fu b.dQ (iK (c,d) p) (ownIn b (c,d) p,[]) k).2.length<=([]:List Ou).length+k from fun k g9=>lg (l:=b.dQ) (b0:=ownIn b (c,d) p) (o0:=[]) (fun a=>jG p a.p) (fun a=>lC (c,d) p a) (fun a=>a.par) (fun e=>dX e.p) p4.o (fun _ _ _=>hH.o) k g9);obtain⟨d8,dC,jY⟩:=cP.o.dQ;obtain⟨eQ,eR,eI⟩:=dC.len;obtain⟨rfl,rfl,rfl⟩:G=eQ/\cC=d8.length/\F=eR:=by
   have:D G cC F=D eQ d8.length eR:=eI;simpa using this
  obtain⟨d5,k4,k5⟩:=cP.o.ent;obtain⟨a1,gC⟩:∃ n,n=d8.length:=⟨_,rfl⟩;simp only [<- gC] at cP dC cU ⊢;have m2:=g dC;have hV:=g (show eY (rP b6) d8 b.dQ from jY);have hC:=g k4;have m3:=g k5;have g6:=g gC;have b7:=g (show dN b6 w.heap.size (jU me (no,I,H) (G,a1,F) (S,N,sc) (bA,b9,b8) (a6,a2,a7)) 30 from cU.o);have m6:=g h4.o.lt;have m7:=g h0.o.lt;have cR:=g (show b.dQ.length=a1 from by rw [g6.o,hV.o.len]);clear dC jY k4 k5 gC eI;have g3:=g (show ∀ W,Below w.heap.size w W->sW W (D no I H) (ownIn b (c,d) p).near from fun W M=>g1.o.near.on M);have i2:=g (eB.o.on gS.o);obtain⟨cL,d0,d1,d2,d3,cM⟩:=cU.o.fA;go_wp2_with fail;clear cL d0 d1 d2 d3 cM
  go_loopw [9,67] (fun v i wr=>∃ (k:Nat) (bC:OA) (bI bM:Nat) (cS:List iY) (lo:List nu),k<=a1/\i=K L k/\Below w.heap.size w wr/\But w.heap.size b6 wr/\dN wr w.heap.size #[K L me,D no I H,D G a1 F,D S N sc,D bC bI bM,D a6 a2 a7] 30/\dN wr (w.heap.size+1) #[K L c,K L d] 23/\dN wr (w.heap.size+1+1) #[K L 0,D O 0 0,D O 0 0,D O 0 0,D O 0 0,D O 0 0] 30/\vV b6 wr (bA,b9,b8) (bC,bI,bM) d5 cS/\kF wr b6.heap.size v lo/\eY (jF b6) cS (fu b.dQ (iK (c,d) p) (ownIn b (c,d) p,[]) k).1.ent/\eY (tZ b6) lo (fu b.dQ (iK (c,d) p) (ownIn b (c,d) p,[]) k).2) (fun _ i _=>a1-(intOf i).toNat)
  case atStart=>exact⟨0,bA,b9,b8,d5,[],aO _,rfl,gS.o,But.of_below (aH _ _),cU.o,h4.o,h0.o,Or.inl ⟨rfl,rfl⟩,iR _ _,m3.o,.nil⟩
  case round =>
   clear gS cU h4 h0;obtain⟨k,bC,bI,bM,cS,lo,g9,rfl,k2,jD,kE,kK,j3,k1,k7,k0,k6⟩:=hrel;have cW:=g (k2);have cX:=g (jD);have f8:=g (kE);have lA:=g (kK);have bX:=g (j3);have f9:=g (k1);have e4:=g (k7);have EN:=g k0;have cQ:=g k6;clear k2 jD kE kK j3 k1 k7 k0 k6;have bW:=g (m1.o k (by rw [cR.o]; exact g9));have q2:a1<=900:=by have a8:=lJ.o; rw [cR.o] at a8; exact a8
   by_cases dS:k<a1
   ·have q0:(k:Int)<(a1:Int):=by omega
    have q1:IntKind.i64.wrap ((k:Int)+1)=(k:Int)+1:=IntWalk.i64_in _ (by omega);obtain⟨a,dA⟩:∃ a,b.dQ[k]?=aG a:=⟨_,U (by rw [cR.o]; exact dS)⟩;have j4:=g (nM (iK (c,d) p) (ownIn b (c,d) p,[]) dA);have mB:=g (p3.o a (ah dA));obtain⟨z,kO,dT⟩:=hV.o.at k a dA;have j2:=jr okD m2.o cX.o.1 (mG b7.o (fun c=>⟨_,_,rfl,rfl⟩) (nT me (no,I,H) (G,a1,F) (S,N,sc) (bA,b9,b8) (a6,a2,a7)));obtain⟨pa,hL,eN⟩:=Mv j2 rfl g6.o.symm kO;obtain⟨e2,e3,eM,l4⟩:=eN wr (aH _ _);obtain⟨b1,b2,⟨z3,z4,z5⟩,cA⟩:=z;have g7:=g (show a.id=(b1,b2) from dT.1.symm);have mV:=g (show a.par=cA from dT.2.1.symm);have mU:=g (show fO b6 (D z3 z4 z5) a.p from dT.2.2);simp only at e2 e3 eM l4;clear eN kO dT j2 dA;go_upto_region 11 with fail;clear e2 e3 eM l4 hL;have aE:=fP wr (Y #[K L b1,K L b2,D z3 z4 z5,K L cA] 36);have e9:=g (cW.o.trans (aE.mono cW.o.size));have fL:=g (J cX.o aE);have hZ:=g (f8.o.on aE);have i0:=g (lA.o.on aE);have i4:=g (bX.o.on aE);have i5:=g (f9.o.on aE);have i6:=g (Bk.dK e4.o aE);clear cW cX f8 lA bX f9 e4;have h6:=g (dR wr #[K L b1,K L b2,D z3 z4 z5,K L cA] 36);clear aE;generalize wr.alloc (Y #[K L b1,K L b2,D z3 z4 z5,K L cA] 36)=oC at *;obtain⟨l1,gA⟩:∃ r,jG p a.p=r:=⟨_,rfl⟩;have g4:=g (Mg (D po c7 c6) (D z3 z4 z5) p a.p oC (eB.o.on e9.o) (vW b7.o fL.o mU.o) hH.o mB.o);rw [gA] at g4;have d7:=g (show (fu b.dQ (iK (c,d) p) (ownIn b (c,d) p,[]) (k+1))=iq (fu b.dQ (iK (c,d) p) (ownIn b (c,d) p,[]) k) l1 (lC (c,d) p a) a.par from by rw [<- gA]; exact j4.o);clear gA j4;obtain⟨z0,b1,b2,z3⟩:=h6.o.Ib;go_wp2_with fail;refine g4.o.mono ?_;rintro pW cJ ⟨rfl,M⟩;clear g4;clear z0 b1 b2 z3;have e5:=g (e9.o.trans (M.mono e9.o.size));have h1:=g (J fL.o M);have fN:=g (hZ.o.on M);have e6:=g (i0.o.on M);have h3:=g (i4.o.on M);have h7:=g (i5.o.on M);have hF:=g (Bk.dK i6.o M);have cH:=g (h6.o.on M);clear e9 fL hZ i0 i4 i5 i6 h6;clear M;cases l1
    ·go_wp2_with fail
     go_roundw
     case rel=>exact⟨k+1,bC,bI,bM,cS,lo,dS,by go_num,e5.o,h1.o,fN.o,e6.o,h3.o,h7.o,hF.o,by rw [d7.o]; exact EN.o,by rw [d7.o]; exact cQ.o⟩
     case measure=>simp [intOf]; omega
    ·have z0:=cH.o.cell 0;have b1:=cH.o.cell 1;have b2:=cH.o.cell 2;have z3:=cH.o.cell 3;simp only [au,aj,ak] at z0 b1 b2 z3;obtain⟨lX,oL⟩:=e6.o.cs2;go_upto_region 14 with fail;clear z0 b1 b2 z3 lX oL;have aE:=fP cJ (Y #[K L b1,K L b2,K L c,K L d,D po c7 c6,K L (-1),aP aC] 67);have cT:=g (e5.o.trans (aE.mono e5.o.size));have cI:=g (J h1.o aE);have hE:=g (fN.o.on aE);have lB:=g (e6.o.on aE);have hO:=g (h3.o.on aE);have cY:=g (h7.o.on aE);have lD:=g (Bk.dK hF.o aE);have l5:=g (cH.o.on aE);clear e5 h1 fN e6 h3 h7 hF cH;have h5:=g (dR cJ #[K L b1,K L b2,K L c,K L d,D po c7 c6,K L (-1),aP aC] 67);clear aE;generalize cJ.alloc (Y #[K L b1,K L b2,K L c,K L d,D po c7 c6,K L (-1),aP aC] 67)=oD at *;have eV:=g (xH (fu b.dQ (iK (c,d) p) (ownIn b (c,d) p,[]) k).1 (no,I,H) (G,a1,F) (S,N,sc) (bC,bI,bM) (a6,a2,a7) (b1,b2,c,d,(po,c7,c6),-1,aC) (lC (c,d) p a) oD cS (jF b6) (uj b7.o cI.o cP.o (g3.o _ cT.o) hC.o cY.o EN.o bW.o.1) (cY.o.row b7.o cI.o hC.o) (zY b7.o cI.o EN.o) EN.o (fun u=>⟨g7.o.symm,rfl,rfl,rfl,i2.o⟩) ⟨g7.o.symm,rfl,rfl,rfl,eB.o.on cT.o⟩ (by rw [bW.o.1.dQ]; exact lJ.o) (by have a8:=bW.o.1.len; have T:=p1.o; rw [cR.o] at T; have j9:(ownIn b (c,d) p).ent.length=b.ent.length:=rfl; omega) bW.o.2.1 hH.o);rw [bW.o.1.me,show (ownIn b (c,d) p).me=b.me from rfl,<- p2.o] at eV;obtain⟨cL,d0,d1,d2,d3,cM⟩:=hE.o.fA;obtain⟨z0,b1,b2,z3,z4,z5,cA⟩:=h5.o.oz;go_wp2_with fail;refine eV.o.mono ?_;rintro pX c9 ⟨⟨⟨b4,rV,b5⟩,e8,rfl,cG,kB⟩,M⟩;clear eV;clear cL d0 d1 d2 d3 cM z0 b1 b2 z3 z4 z5 cA;have hR:=g kB;have hQ:=g (show vV b6 c9 (bA,b9,b8) (b4,rV,b5) d5 e8 from by
      rcases cG with⟨a8,T,_⟩|cG
      ·rw [a8,T];exact cY.o.on M
      ·exact Or.inr (dO cG cI.o.2))
     clear cG kB;have l6:=g (cT.o.trans (M.mono cT.o.size));have i7:=g (J cI.o M);have c8:=g (hE.o.on M);have i8:=g (lB.o.on M);have hP:=g (hO.o.on M);have mY:=g (cY.o.on M);have i9:=g (Bk.dK lD.o M);have fR:=g (l5.o.on M);have fS:=g (h5.o.on M);clear cT cI hE lB hO cY lD l5 h5;clear M mY;obtain⟨up,gO⟩:∃ r,(iL (fu b.dQ (iK (c,d) p) (ownIn b (c,d) p,[]) k).1 (lC (c,d) p a)).2=r:=⟨_,rfl⟩;rw [gO];have d6:=g (show (fu b.dQ (iK (c,d) p) (ownIn b (c,d) p,[]) (k+1))=((iL (fu b.dQ (iK (c,d) p) (ownIn b (c,d) p,[]) k).1 (lC (c,d) p a)).1,if up=aI then (fu b.dQ (iK (c,d) p) (ownIn b (c,d) p,[]) k).2++[rF a.par (lC (c,d) p a)] else (fu b.dQ (iK (c,d) p) (ownIn b (c,d) p,[]) k).2) from by rw [d7.o]; unfold iq; rw [if_neg (by simp),gO]);clear gO d7;obtain⟨nA,nB,nF,nH,nL,nS⟩:=c8.o.fA;obtain⟨nW,nX,nZ,o1,o2,o3⟩:=c8.o.kg;have hN:=c8.o.lt;have m9:=g (show cJ.heap.size≠w.heap.size from fun e=>by have a8:=fS.o; have T:=c8.o; unfold dN at a8 T; rw [e] at a8; rw [a8] at T; injection T with T; injection T with T; simp at T);have m8:=g (show wr.heap.size≠w.heap.size from fun e=>by have a8:=fR.o; have T:=c8.o; unfold dN at a8 T; rw [e] at a8; rw [a8] at T; injection T with T; injection T with T; simp at T);have eW:=g (dJ (b:=w.heap.size) l6.o (Q _) (K L me) (D no I H) (D G a1 F) (D S N sc) (D b4 rV b5) (D a6 a2 a7));have bP:=g (i7.o.trans (aad c9 w.heap.size (K L me) (D no I H) (D G a1 F) (D S N sc) (D b4 rV b5) (D a6 a2 a7)));have f0:=g (dM c8.o (K L me) (D no I H) (D G a1 F) (D S N sc) (D b4 rV b5) (D a6 a2 a7));have f1:=g (show dN _ _ _ _ from (dP c9 w.heap.size (K L me) (D no I H) (D G a1 F) (D S N sc) (D b4 rV b5) (D a6 a2 a7) (w.heap.size+1) (by omega)).trans i8.o);have f2:=g (show dN _ _ _ _ from (dP c9 w.heap.size (K L me) (D no I H) (D G a1 F) (D S N sc) (D b4 rV b5) (D a6 a2 a7) (w.heap.size+1+1) (by omega)).trans hP.o);have f4:=g (show dN _ _ _ _ from (dP c9 w.heap.size (K L me) (D no I H) (D G a1 F) (D S N sc) (D b4 rV b5) (D a6 a2 a7) cJ.heap.size m9.o).trans fS.o);have f3:=g (show dN _ _ _ _ from (dP c9 w.heap.size (K L me) (D no I H) (D G a1 F) (D S N sc) (D b4 rV b5) (D a6 a2 a7) wr.heap.size m8.o).trans fR.o);have f6:=g (fJ i9.o w.heap.size b7.o.lt (K L me) (D no I H) (D G a1 F) (D S N sc) (D b4 rV b5) (D a6 a2 a7));have f7:=g (show vV b6 _ (bA,b9,b8) (b4,rV,b5) d5 e8 from hQ.o.imp id fun h=>fJ h w.heap.size b7.o.lt (K L me) (D no I H) (D G a1 F) (D S N sc) (D b4 rV b5) (D a6 a2 a7));clear hQ l6 i7 c8 i8 hP fS i9 fR;go_upto_region 15 with fail;clear hN nA nB nF nH nL nS nW nX nZ o1 o2 o3;unfold gH at eW bP f0 f1 f2 f4 f3 f6 f7;generalize ((((((c9.setCell ⟨w.heap.size,0,O⟩ (K L me)).setCell ⟨w.heap.size,1,O⟩ (D no I H)).setCell ⟨w.heap.size,2,O⟩ (D G a1 F)).setCell ⟨w.heap.size,3,O⟩ (D S N sc)).setCell ⟨w.heap.size,4,O⟩ (D b4 rV b5)).setCell ⟨w.heap.size,5,O⟩ (D a6 a2 a7))=oE at *;have e1:=g (eW.o);have d4:=g (bP.o);have gR:=g (f0.o);have fV:=g (f1.o);have fW:=g (f2.o);have fX:=g (f4.o);have fY:=g (f3.o);have e7:=g (f6.o);have hD:=g (f7.o);clear eW bP f0 f1 f2 f4 f3 f6 f7;cases up
     ·go_wp2_with fail
      go_roundw
      case rel=>exact⟨k+1,b4,rV,b5,e8,lo,dS,by go_num,e1.o,d4.o,gR.o,fV.o,fW.o,hD.o,e7.o,by rw [d6.o]; exact hR.o,by rw [d6.o]; exact cQ.o⟩
      case measure=>simp [intOf]; omega
     ·have hY:lo.length<=1000000:=by
       have a8:=bW.o.2.2;rw [cQ.o.len];rw [aR] at a8;omega
      go_upto_region 16 with fail;refine aaD _ oE wr.heap.size cJ.heap.size b6.heap.size b1 b2 cA b1 b2 c d (-1) aC z3 po z4 z5 c7 c6 u9 lo fY.o fX.o d4.o.2 e7.o hY ?_;intro cL cM rJ r2 r3 r4 r6 r7 r8 rH rI bE g8 l3;have hT:=g (e1.o.trans (bE.mono e1.o.size));have g0:=g (J d4.o bE);have iG:=g (gR.o.on bE);have iS:=g (fV.o.on bE);have j0:=g (fW.o.on bE);have mZ:=g (fX.o.on bE);have mI:=g (fY.o.on bE);have f5:=g (Bk.dK e7.o bE);have j1:=g (hD.o.on bE);clear e1 d4 gR fV fW fX fY e7 hD;obtain⟨kQ,l0,e0⟩:=Mh rfl f5.o g8 g0.o j1.o;have V3:=g (e0 _ _ _ b7.o.lt iG.o);have mK:=g (e0 _ _ _ m6.o iS.o);have mL:=g (e0 _ _ _ m7.o j0.o);have mM:=g (hT.o.grown g8 (V (aB b7.o.lt) g0.o.2) fun j dE=>V (aB b7.o.lt) (f5.o.lt j dE).1);have mN:=g kQ;have mT:=g l0;have mS:=g l3;clear kQ l0 e0 bE g8 l3 hY hT g0 iG iS j0 j1 f5 mZ mI;go_wp2_with fail
      go_roundw
      case rel=>exact⟨k+1,b4,rV,b5,e8,_,dS,by go_num,mM.o,mN.o,V3.o,mK.o,mL.o,mT.o,mS.o,by rw [d6.o]; exact hR.o,by rw [d6.o]; exact cQ.o.append (.cons ⟨mV.o.symm,rfl,g7.o.symm,rfl,i2.o,rfl⟩ .nil)⟩
      case measure=>simp [intOf]; omega
   ·obtain rfl:k=a1:=by omega
    obtain⟨cL,d0,d1,d2,d3,cM⟩:=f8.o.fA;have hW:=g (uj b7.o cX.o cP.o (g3.o _ cW.o) hC.o f9.o EN.o bW.o.1);have m5:=g (show eY (tZ wr) lo _ from Gj b7.o cX.o cQ.o);obtain⟨h8,h9,k9⟩:=(Row.dL e4.o).len;obtain⟨hA,kA⟩:∃ n,n=lo.length:=⟨_,rfl⟩;rw [<- kA] at k9;have mD:=g (Row.dL e4.o);subst k9;clear kA;obtain⟨pM,pN,pP,pR,pS,r5⟩:=bX.o.fA;obtain⟨oQ,oR,oS,oT,oX,oY⟩:=bX.o.kg;have hN:=bX.o.lt;have hS:=g (dM bX.o (K L me) (D no I H) (D G k F) (D S N sc) (D bC bI bM) (D a6 a2 a7));have eA:=g (dJ (b:=w.heap.size+1+1) cW.o (by omega) (K L me) (D no I H) (D G k F) (D S N sc) (D bC bI bM) (D a6 a2 a7));have g2:=g (fun j (_:j<wr.heap.size) (dE:j≠w.heap.size+1+1)=>dP wr (w.heap.size+1+1) (K L me) (D no I H) (D G k F) (D S N sc) (D bC bI bM) (D a6 a2 a7) j dE);have hU:=g (fK (s1:=(O,0,0)) (s2:=(O,0,0)) (s3:=(O,0,0)) (s4:=(O,0,0)) (s5:=(O,0,0)) hW.o bX.o g2.o (by rw [bW.o.1.near]; exact g3.o _ eA.o));have m4:=g (gy (s1:=(O,0,0)) (s2:=(O,0,0)) (s3:=(O,0,0)) (s4:=(O,0,0)) (s5:=(O,0,0)) (s:=(h8,hA,h9)) ⟨lo,mD.o,m5.o⟩ bX.o g2.o);go_wp2_with fail;obtain⟨v0,l8,l9,v3,v4,v5⟩:=hS.o.fA;refine Z (v:=.tuple #[aN #[K L me,D no I H,D G k F,D S N sc,D bC bI bM,D a6 a2 a7],D h8 hA h9]) (by simp [results,aL,go_sem,v0,l8,l9,v3,v4,v5]) rfl ?_;have mA:=cR.o;have n4:=g6.o;rw [m0.o,mA];subst n4;exact⟨⟨(bC,bI,bM),(a6,a2,a7),(h8,hA,h9),rfl,hU.o,m4.o⟩,eA.o⟩
 ·have hK:at_<bB:=of_decide_eq_true k3;obtain⟨z,n9⟩:∃ z,bT[at_]?=aG z:=⟨_,U (by rw [<- eC.o]; exact hK)⟩;obtain⟨pL,n7⟩:∃ o,b.own[at_]?=aG o:=⟨_,U (by rw [<- hX.o.len,<- eC.o]; exact hK)⟩;obtain⟨rK,pA,pB⟩:=hX.o.at at_ pL n7;obtain rfl:z=rK:=Option.some.inj (n9.symm.trans pA);obtain⟨pa,hL,eN⟩:=elW g5.o rfl eC.o.symm n9;obtain⟨e2,e3,eM⟩:=eN wr (aH _ _);obtain⟨oG,oK,⟨sI,sG,sF⟩⟩:=z;simp only at e2 e3 eM;have s0:=X e2;have s1:=X e3;have pU:=g (show pL.id=(oG,oK) from pB.1.symm);obtain⟨r,cG⟩:∃ r,(oG == c && oK == d)=r:=⟨_,rfl⟩;have p5:=uL oG oK c d r cG;have lE:decide ((at_:Int)<(bB:Int))=aI:=decide_eq_true (by omega);have p0:=g (show ((b.own[gu (b.own.map Ow.id) (c,d)]?).map Ow.id=aG (c,d))=(r=aI) from by
   rw [<- lK.o,n7,aS,pU.o,<- cG];simp)
  clear eN e2 e3 eM pA n9 n7 pB cG;cases r
  ·have NF:=g (show ¬ (b.own[gu (b.own.map Ow.id) (c,d)]?).map Ow.id=aG (c,d) from by rw [p0.o]; simp);go_upto_region 4 with fail;refine ko ?_
   repeat (go_big_quiet_step (fail))
   refine kr fun eE eL=>?_;have bO:=aM wr eE eL;have eJ:=g (dZ.o.trans (bO.mono dZ.o.size));have h2:=g (cN.o.on bO);have eK:=g (eS.o.on bO);have cV:=g (hG.o.on bO);have hI:=g (g5.o.on bO);clear dZ cN eS hG g5;clear bO a0 mW mX a3 a4 a5 b0 n1;generalize grow (aX wr eE) eL=hM at *;clear lE k3 hL s0 s1 p5 hK;have m0:=g (show iV b (c,d) p=fu b.dQ (iK (c,d) p) (ownIn b (c,d) p,[]) b.dQ.length from by unfold iV; rw [if_neg NF.o]);have i1:at_<=bT.length:=mC.o;go_upto_region 6 with fail;refine ae5 _ hM w.heap.size (w.heap.size+1) me _ _ _ _ cF bB cD at_ bT ((c,d,(po,c7,c6)):mP) h2.o (Uj eK.o) hI.o i1 (V lL.o (by decide)) ?_;intro b6 q3 q4 q5 q6 v51 q7 v53 q8 q9 qA qG qH qI qS qT r0 r1 jV gE jI gI n5;obtain⟨a6,a7,k8⟩:=(Row.dL gE).len;obtain⟨a2,j8⟩:∃ n,n=(bT.take at_++[((c,d,(po,c7,c6)):mP)]++bT.drop at_).length:=⟨_,rfl⟩;rw [<- j8] at k8;subst k8;clear j8 i1;have bP:=g (eJ.o.trans (jI _ (Q _)));have j5:=g jV;have j6:=g (gI _ _ _ (by omega) eK.o);have j7:=g (gI _ _ _ (by omega) cV.o);have cP:=g (show iT b6 (ownIn b (c,d) p) (no,I,H) (G,cC,F) (S,N,sc) (bA,b9,b8) (a6,a2,a7) from by
    have d9:=g1.o.on bP.o;refine⟨d9.near,d9.dQ,d9.seen,d9.ent,⟨_,Row.dL gE,?_⟩⟩;have jB:=hX.o.mono fun _ _ h=>xQ.on h bP.o;show eY _ _ (gL b.own (gu (b.own.map Ow.id) (c,d)) ⟨(c,d),p⟩);rw [<- lK.o];exact ((jB.take _).append (.cons ⟨rfl,eB.o.on bP.o⟩ .nil)).append (jB.drop _))
   clear jV gE jI gI n5 eJ h2 eK cV hI;have gS:=g (bP.o);have cU:=g (j5.o);have h4:=g (j6.o);have h0:=g (j7.o);clear bP j5 j6 j7;have m1:=g (show ∀ k,k<=b.dQ.length->Rx (ownIn b (c,d) p) (fu b.dQ (iK (c,d) p) (ownIn b (c,d) p,[]) k).1 k/\(∀ q∈(fu b.dQ (iK (c,d) p) (ownIn b (c,d) p,[]) k).1.ent,dX q.p)/\(fu b.dQ (iK (c,d) p) (ownIn b (c,d) p,[]) k).2.length<=([]:List Ou).length+k from fun k g9=>lg (l:=b.dQ) (b0:=ownIn b (c,d) p) (o0:=[]) (fun a=>jG p a.p) (fun a=>lC (c,d) p a) (fun a=>a.par) (fun e=>dX e.p) p4.o (fun _ _ _=>hH.o) k g9);obtain⟨d8,dC,jY⟩:=cP.o.dQ;obtain⟨eQ,eR,eI⟩:=dC.len;obtain⟨rfl,rfl,rfl⟩:G=eQ/\cC=d8.length/\F=eR:=by
    have:D G cC F=D eQ d8.length eR:=eI;simpa using this
   obtain⟨d5,k4,k5⟩:=cP.o.ent;obtain⟨a1,gC⟩:∃ n,n=d8.length:=⟨_,rfl⟩;simp only [<- gC] at cP dC cU ⊢;have m2:=g dC;have hV:=g (show eY (rP b6) d8 b.dQ from jY);have hC:=g k4;have m3:=g k5;have g6:=g gC;have b7:=g (show dN b6 w.heap.size (jU me (no,I,H) (G,a1,F) (S,N,sc) (bA,b9,b8) (a6,a2,a7)) 30 from cU.o);have m6:=g h4.o.lt;have m7:=g h0.o.lt;have cR:=g (show b.dQ.length=a1 from by rw [g6.o,hV.o.len]);clear dC jY k4 k5 gC eI;have g3:=g (show ∀ W,Below w.heap.size w W->sW W (D no I H) (ownIn b (c,d) p).near from fun W M=>g1.o.near.on M);have i2:=g (eB.o.on gS.o);obtain⟨cL,d0,d1,d2,d3,cM⟩:=cU.o.fA;go_wp2_with fail;clear cL d0 d1 d2 d3 cM
   go_loopw [9,67] (fun v i wr=>∃ (k:Nat) (bC:OA) (bI bM:Nat) (cS:List iY) (lo:List nu),k<=a1/\i=K L k/\Below w.heap.size w wr/\But w.heap.size b6 wr/\dN wr w.heap.size #[K L me,D no I H,D G a1 F,D S N sc,D bC bI bM,D a6 a2 a7] 30/\dN wr (w.heap.size+1) #[K L c,K L d] 23/\dN wr (w.heap.size+1+1) #[K L 0,D O 0 0,D O 0 0,D O 0 0,D O 0 0,D O 0 0] 30/\vV b6 wr (bA,b9,b8) (bC,bI,bM) d5 cS/\kF wr b6.heap.size v lo/\eY (jF b6) cS (fu b.dQ (iK (c,d) p) (ownIn b (c,d) p,[]) k).1.ent/\eY (tZ b6) lo (fu b.dQ (iK (c,d) p) (ownIn b (c,d) p,[]) k).2) (fun _ i _=>a1-(intOf i).toNat)
   case atStart=>exact⟨0,bA,b9,b8,d5,[],aO _,rfl,gS.o,But.of_below (aH _ _),cU.o,h4.o,h0.o,Or.inl ⟨rfl,rfl⟩,iR _ _,m3.o,.nil⟩
   case round =>
    clear gS cU h4 h0;obtain⟨k,bC,bI,bM,cS,lo,g9,rfl,k2,jD,kE,kK,j3,k1,k7,k0,k6⟩:=hrel;have cW:=g (k2);have cX:=g (jD);have f8:=g (kE);have lA:=g (kK);have bX:=g (j3);have f9:=g (k1);have e4:=g (k7);have EN:=g k0;have cQ:=g k6;clear k2 jD kE kK j3 k1 k7 k0 k6;have bW:=g (m1.o k (by rw [cR.o]; exact g9));have q2:a1<=900:=by have a8:=lJ.o; rw [cR.o] at a8; exact a8
    by_cases dS:k<a1
    ·have q0:(k:Int)<(a1:Int):=by omega
     have q1:IntKind.i64.wrap ((k:Int)+1)=(k:Int)+1:=IntWalk.i64_in _ (by omega);obtain⟨a,dA⟩:∃ a,b.dQ[k]?=aG a:=⟨_,U (by rw [cR.o]; exact dS)⟩;have j4:=g (nM (iK (c,d) p) (ownIn b (c,d) p,[]) dA);have mB:=g (p3.o a (ah dA));obtain⟨z,kO,dT⟩:=hV.o.at k a dA;have j2:=jr okD m2.o cX.o.1 (mG b7.o (fun c=>⟨_,_,rfl,rfl⟩) (nT me (no,I,H) (G,a1,F) (S,N,sc) (bA,b9,b8) (a6,a2,a7)));obtain⟨pa,hL,eN⟩:=Mv j2 rfl g6.o.symm kO;obtain⟨e2,e3,eM,l4⟩:=eN wr (aH _ _);obtain⟨b1,b2,⟨z3,z4,z5⟩,cA⟩:=z;have g7:=g (show a.id=(b1,b2) from dT.1.symm);have mV:=g (show a.par=cA from dT.2.1.symm);have mU:=g (show fO b6 (D z3 z4 z5) a.p from dT.2.2);simp only at e2 e3 eM l4;clear eN kO dT j2 dA;go_upto_region 11 with fail;clear e2 e3 eM l4 hL;have aE:=fP wr (Y #[K L b1,K L b2,D z3 z4 z5,K L cA] 36);have e9:=g (cW.o.trans (aE.mono cW.o.size));have fL:=g (J cX.o aE);have hZ:=g (f8.o.on aE);have i0:=g (lA.o.on aE);have i4:=g (bX.o.on aE);have i5:=g (f9.o.on aE);have i6:=g (Bk.dK e4.o aE);clear cW cX f8 lA bX f9 e4;have h6:=g (dR wr #[K L b1,K L b2,D z3 z4 z5,K L cA] 36);clear aE;generalize wr.alloc (Y #[K L b1,K L b2,D z3 z4 z5,K L cA] 36)=oC at *;obtain⟨l1,gA⟩:∃ r,jG p a.p=r:=⟨_,rfl⟩;have g4:=g (Mg (D po c7 c6) (D z3 z4 z5) p a.p oC (eB.o.on e9.o) (vW b7.o fL.o mU.o) hH.o mB.o);rw [gA] at g4;have d7:=g (show (fu b.dQ (iK (c,d) p) (ownIn b (c,d) p,[]) (k+1))=iq (fu b.dQ (iK (c,d) p) (ownIn b (c,d) p,[]) k) l1 (lC (c,d) p a) a.par from by rw [<- gA]; exact j4.o);clear gA j4;obtain⟨z0,b1,b2,z3⟩:=h6.o.Ib;go_wp2_with fail;refine g4.o.mono ?_;rintro pW cJ ⟨rfl,M⟩;clear g4;clear z0 b1 b2 z3;have e5:=g (e9.o.trans (M.mono e9.o.size));have h1:=g (J fL.o M);have fN:=g (hZ.o.on M);have e6:=g (i0.o.on M);have h3:=g (i4.o.on M);have h7:=g (i5.o.on M);have hF:=g (Bk.dK i6.o M);have cH:=g (h6.o.on M);clear e9 fL hZ i0 i4 i5 i6 h6;clear M;cases l1
     ·go_wp2_with fail
      go_roundw
      case rel=>exact⟨k+1,bC,bI,bM,cS,lo,dS,by go_num,e5.o,h1.o,fN.o,e6.o,h3.o,h7.o,hF.o,by rw [d7.o]; exact EN.o,by rw [d7.o]; exact cQ.o⟩
      case measure=>simp [intOf]; omega
     ·have z0:=cH.o.cell 0;have b1:=cH.o.cell 1;have b2:=cH.o.cell 2;have z3:=cH.o.cell 3;simp only [au,aj,ak] at z0 b1 b2 z3;obtain⟨lX,oL⟩:=e6.o.cs2;go_upto_region 14 with fail;clear z0 b1 b2 z3 lX oL;have aE:=fP cJ (Y #[K L b1,K L b2,K L c,K L d,D po c7 c6,K L (-1),aP aC] 67);have cT:=g (e5.o.trans (aE.mono e5.o.size));have cI:=g (J h1.o aE);have hE:=g (fN.o.on aE);have lB:=g (e6.o.on aE);have hO:=g (h3.o.on aE);have cY:=g (h7.o.on aE);have lD:=g (Bk.dK hF.o aE);have l5:=g (cH.o.on aE);clear e5 h1 fN e6 h3 h7 hF cH;have h5:=g (dR cJ #[K L b1,K L b2,K L c,K L d,D po c7 c6,K L (-1),aP aC] 67);clear aE;generalize cJ.alloc (Y #[K L b1,K L b2,K L c,K L d,D po c7 c6,K L (-1),aP aC] 67)=oD at *;have eV:=g (xH (fu b.dQ (iK (c,d) p) (ownIn b (c,d) p,[]) k).1 (no,I,H) (G,a1,F) (S,N,sc) (bC,bI,bM) (a6,a2,a7) (b1,b2,c,d,(po,c7,c6),-1,aC) (lC (c,d) p a) oD cS (jF b6) (uj b7.o cI.o cP.o (g3.o _ cT.o) hC.o cY.o EN.o bW.o.1) (cY.o.row b7.o cI.o hC.o) (zY b7.o cI.o EN.o) EN.o (fun u=>⟨g7.o.symm,rfl,rfl,rfl,i2.o⟩) ⟨g7.o.symm,rfl,rfl,rfl,eB.o.on cT.o⟩ (by rw [bW.o.1.dQ]; exact lJ.o) (by have a8:=bW.o.1.len; have T:=p1.o; rw [cR.o] at T; have j9:(ownIn b (c,d) p).ent.length=b.ent.length:=rfl; omega) bW.o.2.1 hH.o);rw [bW.o.1.me,show (ownIn b (c,d) p).me=b.me from rfl,<- p2.o] at eV;obtain⟨cL,d0,d1,d2,d3,cM⟩:=hE.o.fA;obtain⟨z0,b1,b2,z3,z4,z5,cA⟩:=h5.o.oz;go_wp2_with fail;refine eV.o.mono ?_;rintro pX c9 ⟨⟨⟨b4,rV,b5⟩,e8,rfl,cG,kB⟩,M⟩;clear eV;clear cL d0 d1 d2 d3 cM z0 b1 b2 z3 z4 z5 cA;have hR:=g kB;have hQ:=g (show vV b6 c9 (bA,b9,b8) (b4,rV,b5) d5 e8 from by
       rcases cG with⟨a8,T,_⟩|cG
       ·rw [a8,T];exact cY.o.on M
       ·exact Or.inr (dO cG cI.o.2))
      clear cG kB;have l6:=g (cT.o.trans (M.mono cT.o.size));have i7:=g (J cI.o M);have c8:=g (hE.o.on M);have i8:=g (lB.o.on M);have hP:=g (hO.o.on M);have mY:=g (cY.o.on M);have i9:=g (Bk.dK lD.o M);have fR:=g (l5.o.on M);have fS:=g (h5.o.on M);clear cT cI hE lB hO cY lD l5 h5;clear M mY;obtain⟨up,gO⟩:∃ r,(iL (fu b.dQ (iK (c,d) p) (ownIn b (c,d) p,[]) k).1 (lC (c,d) p a)).2=r:=⟨_,rfl⟩;rw [gO];have d6:=g (show (fu b.dQ (iK (c,d) p) (ownIn b (c,d) p,[]) (k+1))=((iL (fu b.dQ (iK (c,d) p) (ownIn b (c,d) p,[]) k).1 (lC (c,d) p a)).1,if up=aI then (fu b.dQ (iK (c,d) p) (ownIn b (c,d) p,[]) k).2++[rF a.par (lC (c,d) p a)] else (fu b.dQ (iK (c,d) p) (ownIn b (c,d) p,[]) k).2) from by rw [d7.o]; unfold iq; rw [if_neg (by simp),gO]);clear gO d7;obtain⟨nA,nB,nF,nH,nL,nS⟩:=c8.o.fA;obtain⟨nW,nX,nZ,o1,o2,o3⟩:=c8.o.kg;have hN:=c8.o.lt;have m9:=g (show cJ.heap.size≠w.heap.size from fun e=>by have a8:=fS.o; have T:=c8.o; unfold dN at a8 T; rw [e] at a8; rw [a8] at T; injection T with T; injection T with T; simp at T);have m8:=g (show wr.heap.size≠w.heap.size from fun e=>by have a8:=fR.o; have T:=c8.o; unfold dN at a8 T; rw [e] at a8; rw [a8] at T; injection T with T; injection T with T; simp at T);have eW:=g (dJ (b:=w.heap.size) l6.o (Q _) (K L me) (D no I H) (D G a1 F) (D S N sc) (D b4 rV b5) (D a6 a2 a7));have bP:=g (i7.o.trans (aad c9 w.heap.size (K L me) (D no I H) (D G a1 F) (D S N sc) (D b4 rV b5) (D a6 a2 a7)));have f0:=g (dM c8.o (K L me) (D no I H) (D G a1 F) (D S N sc) (D b4 rV b5) (D a6 a2 a7));have f1:=g (show dN _ _ _ _ from (dP c9 w.heap.size (K L me) (D no I H) (D G a1 F) (D S N sc) (D b4 rV b5) (D a6 a2 a7) (w.heap.size+1) (by omega)).trans i8.o);have f2:=g (show dN _ _ _ _ from (dP c9 w.heap.size (K L me) (D no I H) (D G a1 F) (D S N sc) (D b4 rV b5) (D a6 a2 a7) (w.heap.size+1+1) (by omega)).trans hP.o);have f4:=g (show dN _ _ _ _ from (dP c9 w.heap.size (K L me) (D no I H) (D G a1 F) (D S N sc) (D b4 rV b5) (D a6 a2 a7) cJ.heap.size m9.o).trans fS.o);have f3:=g (show dN _ _ _ _ from (dP c9 w.heap.size (K L me) (D no I H) (D G a1 F) (D S N sc) (D b4 rV b5) (D a6 a2 a7) wr.heap.size m8.o).trans fR.o);have f6:=g (fJ i9.o w.heap.size b7.o.lt (K L me) (D no I H) (D G a1 F) (D S N sc) (D b4 rV b5) (D a6 a2 a7));have f7:=g (show vV b6 _ (bA,b9,b8) (b4,rV,b5) d5 e8 from hQ.o.imp id fun h=>fJ h w.heap.size b7.o.lt (K L me) (D no I H) (D G a1 F) (D S N sc) (D b4 rV b5) (D a6 a2 a7));clear hQ l6 i7 c8 i8 hP fS i9 fR;go_upto_region 15 with fail;clear hN nA nB nF nH nL nS nW nX nZ o1 o2 o3;unfold gH at eW bP f0 f1 f2 f4 f3 f6 f7;generalize ((((((c9.setCell ⟨w.heap.size,0,O⟩ (K L me)).setCell ⟨w.heap.size,1,O⟩ (D no I H)).setCell ⟨w.heap.size,2,O⟩ (D G a1 F)).setCell ⟨w.heap.size,3,O⟩ (D S N sc)).setCell ⟨w.heap.size,4,O⟩ (D b4 rV b5)).setCell ⟨w.heap.size,5,O⟩ (D a6 a2 a7))=oE at *;have e1:=g (eW.o);have d4:=g (bP.o);have gR:=g (f0.o);have fV:=g (f1.o);have fW:=g (f2.o);have fX:=g (f4.o);have fY:=g (f3.o);have e7:=g (f6.o);have hD:=g (f7.o);clear eW bP f0 f1 f2 f4 f3 f6 f7;cases up
      ·go_wp2_with fail
       go_roundw
       case rel=>exact⟨k+1,b4,rV,b5,e8,lo,dS,by go_num,e1.o,d4.o,gR.o,fV.o,fW.o,hD.o,e7.o,by rw [d6.o]; exact hR.o,by rw [d6.o]; exact cQ.o⟩
       case measure=>simp [intOf]; omega
      ·have hY:lo.length<=1000000:=by
        have a8:=bW.o.2.2;rw [cQ.o.len];rw [aR] at a8;omega
       go_upto_region 16 with fail;refine aaD _ oE wr.heap.size cJ.heap.size b6.heap.size b1 b2 cA b1 b2 c d (-1) aC z3 po z4 z5 c7 c6 u9 lo fY.o fX.o d4.o.2 e7.o hY ?_;intro cL cM rJ r2 r3 r4 r6 r7 r8 rH rI bE g8 l3;have hT:=g (e1.o.trans (bE.mono e1.o.size));have g0:=g (J d4.o bE);have iG:=g (gR.o.on bE);have iS:=g (fV.o.on bE);have j0:=g (fW.o.on bE);have mZ:=g (fX.o.on bE);have mI:=g (fY.o.on bE);have f5:=g (Bk.dK e7.o bE);have j1:=g (hD.o.on bE);clear e1 d4 gR fV fW fX fY e7 hD;obtain⟨kQ,l0,e0⟩:=Mh rfl f5.o g8 g0.o j1.o;have V3:=g (e0 _ _ _ b7.o.lt iG.o);have mK:=g (e0 _ _ _ m6.o iS.o);have mL:=g (e0 _ _ _ m7.o j0.o);have mM:=g (hT.o.grown g8 (V (aB b7.o.lt) g0.o.2) fun j dE=>V (aB b7.o.lt) (f5.o.lt j dE).1);have mN:=g kQ;have mT:=g l0;have mS:=g l3;clear kQ l0 e0 bE g8 l3 hY hT g0 iG iS j0 j1 f5 mZ mI;go_wp2_with fail
       go_roundw
       case rel=>exact⟨k+1,b4,rV,b5,e8,_,dS,by go_num,mM.o,mN.o,V3.o,mK.o,mL.o,mT.o,mS.o,by rw [d6.o]; exact hR.o,by rw [d6.o]; exact cQ.o.append (.cons ⟨mV.o.symm,rfl,g7.o.symm,rfl,i2.o,rfl⟩ .nil)⟩
       case measure=>simp [intOf]; omega
    ·obtain rfl:k=a1:=by omega
     obtain⟨cL,d0,d1,d2,d3,cM⟩:=f8.o.fA;have hW:=g (uj b7.o cX.o cP.o (g3.o _ cW.o) hC.o f9.o EN.o bW.o.1);have m5:=g (show eY (tZ wr) lo _ from Gj b7.o cX.o cQ.o);obtain⟨h8,h9,k9⟩:=(Row.dL e4.o).len;obtain⟨hA,kA⟩:∃ n,n=lo.length:=⟨_,rfl⟩;rw [<- kA] at k9;have mD:=g (Row.dL e4.o);subst k9;clear kA;obtain⟨pM,pN,pP,pR,pS,r5⟩:=bX.o.fA;obtain⟨oQ,oR,oS,oT,oX,oY⟩:=bX.o.kg;have hN:=bX.o.lt;have hS:=g (dM bX.o (K L me) (D no I H) (D G k F) (D S N sc) (D bC bI bM) (D a6 a2 a7));have eA:=g (dJ (b:=w.heap.size+1+1) cW.o (by omega) (K L me) (D no I H) (D G k F) (D S N sc) (D bC bI bM) (D a6 a2 a7));have g2:=g (fun j (_:j<wr.heap.size) (dE:j≠w.heap.size+1+1)=>dP wr (w.heap.size+1+1) (K L me) (D no I H) (D G k F) (D S N sc) (D bC bI bM) (D a6 a2 a7) j dE);have hU:=g (fK (s1:=(O,0,0)) (s2:=(O,0,0)) (s3:=(O,0,0)) (s4:=(O,0,0)) (s5:=(O,0,0)) hW.o bX.o g2.o (by rw [bW.o.1.near]; exact g3.o _ eA.o));have m4:=g (gy (s1:=(O,0,0)) (s2:=(O,0,0)) (s3:=(O,0,0)) (s4:=(O,0,0)) (s5:=(O,0,0)) (s:=(h8,hA,h9)) ⟨lo,mD.o,m5.o⟩ bX.o g2.o);go_wp2_with fail;obtain⟨v0,l8,l9,v3,v4,v5⟩:=hS.o.fA;refine Z (v:=.tuple #[aN #[K L me,D no I H,D G k F,D S N sc,D bC bI bM,D a6 a2 a7],D h8 hA h9]) (by simp [results,aL,go_sem,v0,l8,l9,v3,v4,v5]) rfl ?_;have mA:=cR.o;have n4:=g6.o;rw [m0.o,mA];subst n4;exact⟨⟨(bC,bI,bM),(a6,a2,a7),(h8,hA,h9),rfl,hU.o,m4.o⟩,eA.o⟩
  ·go_upto_region 4 with fail;refine ko ?_
   repeat (go_big_quiet_step (fail))
   refine kr fun eE eL=>?_;have bO:=aM wr eE eL;have eJ:=g (dZ.o.trans (bO.mono dZ.o.size));have h2:=g (cN.o.on bO);have eK:=g (eS.o.on bO);have cV:=g (hG.o.on bO);have hI:=g (g5.o.on bO);clear dZ cN eS hG g5;clear bO a0 mW mX a3 a4 a5 b0 n1;generalize grow (aX wr eE) eL=hM at *;clear lE k3 hL s0 s1 p5 hK;obtain⟨cL,d0,d1,d2,d3,cM⟩:=h2.o.fA;have hW:=g (g1.o.on eJ.o);obtain⟨pM,pN,pP,pR,pS,r5⟩:=cV.o.fA;obtain⟨oQ,oR,oS,oT,oX,oY⟩:=cV.o.kg;have hN:=cV.o.lt;have hS:=g (dM cV.o (K L me) (D no I H) (D G cC F) (D S N sc) (D bA b9 b8) (D cF bB cD));have eA:=g (dJ (b:=w.heap.size+1+1) eJ.o (by omega) (K L me) (D no I H) (D G cC F) (D S N sc) (D bA b9 b8) (D cF bB cD));have g2:=g (fun j (_:j<hM.heap.size) (dE:j≠w.heap.size+1+1)=>dP hM (w.heap.size+1+1) (K L me) (D no I H) (D G cC F) (D S N sc) (D bA b9 b8) (D cF bB cD) j dE);have hU:=g (fK (s1:=(O,0,0)) (s2:=(O,0,0)) (s3:=(O,0,0)) (s4:=(O,0,0)) (s5:=(O,0,0)) hW.o cV.o g2.o (g1.o.near.on eA.o));go_wp2_with fail;obtain⟨v0,l8,l9,v3,v4,v5⟩:=hS.o.fA;refine Z (v:=.tuple #[aN #[K L me,D no I H,D G cC F,D S N sc,D bA b9 b8,D cF bB cD],D O 0 0]) (by simp [results,aL,go_sem,v0,l8,l9,v3,v4,v5]) rfl ?_;have pY:iV b (c,d) p=(b,[]):=by unfold iV; rw [if_pos (cast p0.o.symm trivial)]
   rw [pY];exact⟨⟨bA,b9,b8,cF,bB,cD,O,0,0,rfl,hU.o,uf _⟩,eA.o⟩
end Bk
namespace Av
open Go.RowKit Go.Sort Rw YtghlpefopidlaaaGreat.Nm Pr Bk
theorem Mk {b:Br} (h:iU b) (t x:fB) (f:Int):iU (jv b t x f).1:=by
 rw [iA];exact ad9 h t x f
theorem ze {b:Br} (h:iU b) (x:fB):∀ k,k<=b.dQ.length->iU (ig b x k).1
 | 0,_=>⟨h.near,h.seen,h.dQ,h.ent,h.own.sublist List.filter_sublist,h.oks,fun e q=>uS (b:=b) rfl rfl (h.Q6 e q),fun o u=>h.oko o ((aA.1 u).1)⟩
 | k+1,r=>by
  obtain⟨a,j⟩:∃ a,b.dQ[k]?=aG a:=⟨_,U r⟩;rw [lH b x j];exact Mk (ze h x k (by omega)) _ _ _
theorem JZ {b:Br} (h:iU b) (x:fB):iU (fM b x).1:=by
 unfold fM
 split
 ·exact h
 ·exact ze h x _ (Q _)
theorem uU {α:Type} {l:List α} {f:Br×List Ou->α->Br×List Ou} {s0:Br×List Ou} (P:Br->Prop) (j:P s0.1) (r:∀ s a,a∈l->P s.1->P (f s a).1):∀ k,k<=l.length->P (fu l f s0 k).1
 | 0,_=>j
 | k+1,u=>by
  obtain⟨a,q⟩:∃ a,l[k]?=aG a:=⟨_,U u⟩;rw [nM f s0 q];exact r _ a (ah q) (uU P j r k (by omega))
theorem step_ok {s:Br×List Ou} (h:iU s.1) (r:Bool) (e:En) (t:Int) (j:jm s.1.near e.from_=aI) (q:Wr.fT e.p=aI):iU (iq s r e t).1:=by
 unfold iq
 split
 ·exact h
 ·exact Rp h e j q
theorem qQ (l:List Int):jm l (-1)=aI:=by simp [jm]
theorem ajo {b:Br} (h:iU b) (f:Int) (x:fB) (p:List C5) (r:jm b.near f=aI) (u:Wr.fT p=aI):iU (nG b f x p).1:=by
 have j:=Oe h ⟨x,p,f⟩ r u;unfold nG
 split
 ·exact j
 ·refine uU iU j (fun s o q F=>step_ok F _ _ _ (qQ _) ?_) _ (Q _);rw [(lU b ⟨x,p,f⟩).2.2.2] at q;exact h.oko o q
theorem J2 {l:List Ow} (r:kL Ow.id l) {x:fB} (h:¬ (l[gu (l.map Ow.id) x]?).map Ow.id=aG x):∀ y∈l,y.id≠x:=by
 intro y u e;apply h;rw [<- iN];have j:gZ Ow.id l x=aI:=by
  rw [tL r];exact decide_eq_true (aK.2 ⟨y,u,e⟩)
 unfold gZ at j;cases q:l[fG Ow.id l x]? with
 | none=>rw [q] at j; cases j
 | some z =>
  rw [q] at j;rw [aS,of_decide_eq_true j]
theorem Ul {b:Br} (h:iU b) (x:fB) (p:List C5) (q:Wr.fT p=aI):iU (iV b x p).1:=by
 unfold iV
 split
 ·exact h
 ·rename_i F
  have u:iU (ownIn b x p):=by
   have G:kL Ow.id (gL b.own (gu (b.own.map Ow.id) x) ⟨x,p⟩):=by
    rw [<- iN];exact kY h.own ⟨x,p⟩ (J2 h.own F)
   exact⟨h.near,h.seen,h.dQ,h.ent,G,h.oks,fun e r=>uS (b:=b) rfl rfl (h.Q6 e r),fun o j=>by
    rcases (jZ _ _ _ _).1 j with rfl|j
    ·exact q
    ·exact h.oko o j⟩
  exact uU iU u (fun s a _ H=>step_ok H _ _ _ (qQ _) q) _ (Q _)
structure KI (i:Nat) (b:Br):Prop where
 ok:iU b
 pa:∀ a∈b.dQ,dX a.p
 pe:∀ e∈b.ent,dX e.p
 po:∀ o∈b.own,dX o.p
 ln:b.near.length<=4
 ls:b.seen.length<=i
 la:b.dQ.length<=i
 lo:b.own.length<=i
 le:b.ent.length<=i * 12
theorem KI.kn {i:Nat} {b:Br} (h:KI i b):∀ e∈b.ent,e.tree∈b.dQ.map Ad.id:=fun e r=>by
 have j:=h.ok.Q6 e r;unfold qC at j;cases q:gY b.dQ e.tree with
 | none=>rw [q] at j; cases j
 | some a =>
  obtain⟨u,F⟩:=oO q;exact aK.2 ⟨a,u,F⟩
theorem KI.more {i:Nat} {b:Br} (h:KI i b):KI (i+1) b:=⟨h.ok,h.pa,h.pe,h.po,h.ln,ay h.ls,ay h.la,ay h.lo,by have:=h.le; omega⟩
theorem Xb (b:Br) (a:Ad):∀ y∈(fZ b a).1.dQ,y=a\/y∈b.dQ:=by
 unfold fZ
 split
 ·exact fun y j=>Or.inr j
 ·exact fun y j=>(jZ _ _ _ _).1 j
theorem KI.dQ {i:Nat} {b:Br} (h:KI i b) (b4:i<12) (f:Int) (x:fB) (p:List C5) (N:jm b.near f=aI) (T:Wr.fT p=aI) (S:dX p):KI (i+1) (nG b f x p).1:=by
 have F:=ajo h.ok f x p N T;obtain⟨b5,I,G,j⟩:=lU b ⟨x,p,f⟩;obtain⟨a2,a6⟩:=JW b ⟨x,p,f⟩;have a1:=Xb b ⟨x,p,f⟩;have H:∀ a∈(fZ b ⟨x,p,f⟩).1.dQ,dX a.p:=fun a r=>by
  rcases a1 a r with rfl|r
  ·exact S
  ·exact h.pa a r
 have a8:=h.ls;have aE:=h.la;have b1:=h.lo;have b2:=h.le;revert F;unfold nG
 split
 ·intro F;exact⟨F,H,by rw [G]; exact h.pe,by rw [j]; exact h.po,by rw [I]; exact h.ln,V a6 (by omega),V a2 (by omega),by rw [j]; omega,by rw [G]; omega⟩
 ·intro F;obtain⟨q,a7,_⟩:=lg (l:=(fZ b ⟨x,p,f⟩).1.own) (b0:=(fZ b ⟨x,p,f⟩).1) (o0:=iE b.near f 1 x (0,0) p) (fun o=>jG o.p p) (fun o=>Gi x o) (fun _=>f) (fun e=>dX e.p) (by rw [G]; exact h.pe) (fun o u _=>by rw [j] at u; exact h.po o u) _ (Q _);refine⟨F,?_,a7,?_,?_,?_,?_,?_,?_⟩
  ·intro a r;rw [show (fu _ (pV f x p) _ _).1.dQ=_ from q.dQ] at r;exact H a r
  ·intro o u;rw [show (fu _ (pV f x p) _ _).1.own=_ from q.own,j] at u;exact h.po o u
  ·rw [show (fu _ (pV f x p) _ _).1.near=_ from q.near,I];exact h.ln
  ·rw [show (fu _ (pV f x p) _ _).1.seen=_ from q.seen];omega
  ·rw [show (fu _ (pV f x p) _ _).1.dQ=_ from q.dQ];omega
  ·rw [show (fu _ (pV f x p) _ _).1.own=_ from q.own,j];omega
  ·have M:=q.len;rw [G,j] at M;refine V (show (fu _ (pV f x p) _ _).1.ent.length<=_ from by rw [j]; exact M) ?_;omega
theorem KI.subs {i:Nat} {b:Br} (h:KI i b) (a1:i<12) (x:fB) (p:List C5) (G:Wr.fT p=aI) (F:dX p):KI (i+1) (iV b x p).1:=by
 have r:=Ul h.ok x p G;have M:=h.ls;have N:=h.la;have S:=h.lo;have T:=h.le;revert r;unfold iV
 split
 ·intro r;exact h.more
 ·intro r;obtain⟨j,H,_⟩:=lg (l:=b.dQ) (b0:=ownIn b x p) (o0:=[]) (fun a=>jG p a.p) (fun a=>lC x p a) (fun a=>a.par) (fun e=>dX e.p) h.pe (fun o q _=>F) _ (Q _);refine⟨r,?_,H,?_,?_,?_,?_,?_,?_⟩
  ·intro a u;rw [show (fu _ (iK x p) _ _).1.dQ=_ from j.dQ] at u;exact h.pa a u
  ·intro o q;rw [show (fu _ (iK x p) _ _).1.own=_ from j.own] at q;rcases (jZ _ _ _ _).1 q with rfl|q
   ·exact F
   ·exact h.po o q
  ·rw [show (fu _ (iK x p) _ _).1.near=_ from j.near];exact h.ln
  ·rw [show (fu _ (iK x p) _ _).1.seen=_ from j.seen];show b.seen.length<=_;omega
  ·rw [show (fu _ (iK x p) _ _).1.dQ=_ from j.dQ];show b.dQ.length<=_;omega
  ·rw [show (fu _ (iK x p) _ _).1.own=_ from j.own];show (gL _ _ _).length<=_;rw [Bu];omega
  ·have I:=j.len;have a2:(ownIn b x p).ent.length=b.ent.length:=rfl;refine V (show (fu _ (iK x p) _ _).1.ent.length<=_ from I) ?_;omega
theorem KI.ajp {i:Nat} {b:Br} (h:KI i b) (x:fB):KI (i+1) (fM b x).1:=by
 have q:=JZ h.ok x;have u:=h.ls;have F:=h.la;have G:=h.lo;have H:=h.le;revert q;unfold fM
 split
 ·intro q;exact h.more
 ·intro q;have j:=(ng b x b.dQ.length (Q _)).1;refine⟨q,by rw [j.dQ]; exact h.pa,rG b x (fun e=>dX e.p) (fun _ h=>h) h.pe _ (Q _),?_,by rw [j.near]; exact h.ln,by rw [j.seen]; omega,by rw [j.dQ]; omega,?_,by have:=j.len; omega⟩
  ·rw [j.own];exact fun o r=>h.po o ((aA.1 r).1)
  ·rw [j.own];have I:=aD (fun o:Ow=>decide (o.id≠x)) b.own;unfold nY;omega
theorem KI.drop {i:Nat} {b:Br} (h:KI i b) (t x:fB) (f:Int):KI (i+1) (jv b t x f).1:=by
 have j:=Mk h.ok t x f;have G:=h.ls;have H:=h.la;have I:=h.lo;have M:=h.le;rw [iA] at j ⊢;obtain⟨q,u,_,F,r⟩:=jf b t x f;exact⟨j,by rw [q]; exact h.pa,(xK t x f (fun e=>dX e.p) (fun _ _ h=>h) h.pe).1,by rw [r]; exact h.po,by rw [u]; exact h.ln,by rw [F]; omega,by rw [q]; omega,by rw [r]; omega,by have:=(oU b t x f).1; omega⟩
theorem KI.alD {i:Nat} {b:Br} (h:KI i b) (f:Int) (t x:fB) (p:List C5) (r:jm b.near f=aI) (G:Wr.fT p=aI) (F:dX p):KI (i+1) (jS b f t x p).1:=by
 have u:=Rp h.ok ⟨t,x,p,f,aC⟩ r G;have M:=h.ls;have N:=h.la;have S:=h.lo;have T:=h.le;rw [kH];obtain⟨_,H,j,I,q⟩:=je b ⟨t,x,p,f,aC⟩;exact⟨u,by rw [j]; exact h.pa,Gg (fun e=>dX e.p) h.pe (fun _=>F),by rw [q]; exact h.po,by rw [H]; exact h.ln,by rw [I]; omega,by rw [j]; omega,by rw [q]; omega,by have:=Gh b ⟨t,x,p,f,aC⟩; omega⟩
theorem KI.forget {i:Nat} {b:Br} (h:KI i b) (x:fB) (f:Int):KI (i+1) (iZ b x f).1:=by
 have j:=VZ h.ok x f;rw [Fw h.ok.dQ] at j;have q:=h.ls;have H:=h.la;have r:=h.lo;have I:=h.le;revert j;unfold iZ
 split
 ·exact fun _=>h.more
 ·split
  ·exact fun _=>h.more
  ·split
   ·intro j;exact⟨j,fun a F=>h.pa a (qE F),fun e G=>h.pe e ((aA.1 G).1),h.po,h.ln,ay q,by have u:=(uT b.dQ (fQ (b.dQ.map Ad.id) x).toNat).length_le; show (cutAt _ _).length<=_; omega,ay r,by have u:=aD (fun e:En=>decide (e.tree≠x)) b.ent; show (List.filter _ _).length<=_; omega⟩
   ·exact fun _=>h.more
theorem Ry (l:List Int) (n:Int):jm l (Ja l n)=aI:=by
 unfold Ja;cases h:l[(Wi.within n 0 l.length).toNat]? with
 | none=>exact qQ l
 | some z =>
  have:=ah h;simp [jm,this]
abbrev KS (b:Br):Prop:=(∀ e∈b.ent,e.sub.1<=4)/\∀ o∈b.own,o.id.1<=4
theorem abh {b:Br} (h:KS b) (e:En) (q:e.sub.1<=4):KS (iL b e).1:=by
 unfold iL
 split
 ·exact h
 ·split
  ·exact h
  ·split
   ·exact h
   ·split
    ·exact h
    ·refine⟨fun z j=>?_,h.2⟩;rcases (jZ _ _ _ _).1 j with rfl|j
     ·exact q
     ·exact h.1 z j
theorem Pq {s:Br×List Ou} (h:KS s.1) (q:Bool) (e:En) (t:Int) (j:e.sub.1<=4):KS (iq s q e t).1:=by
 unfold iq
 split
 ·exact h
 ·exact abh h e j
theorem Ml {b:Br} (h:KS b) (f:Int) (x:fB) (p:List C5):KS (nG b f x p).1:=by
 have j:=lU b ⟨x,p,f⟩;have q:KS (fZ b ⟨x,p,f⟩).1:=⟨by rw [j.2.2.1]; exact h.1,by rw [j.2.2.2]; exact h.2⟩;unfold nG
 split
 ·exact q
 ·refine uU KS q (fun s o r u=>Pq u _ _ _ ?_) _ (Q _);rw [j.2.2.2] at r;exact h.2 o r
theorem aei {b:Br} (h:KS b) (x:fB) (p:List C5) (q:x.1<=4):KS (iV b x p).1:=by
 unfold iV
 split
 ·exact h
 ·have r:KS (ownIn b x p):=⟨h.1,fun o j=>by
   rcases (jZ _ _ _ _).1 j with rfl|j
   ·exact q
   ·exact h.2 o j⟩
  exact uU KS r (fun s a _ u=>Pq u _ _ _ q) _ (Q _)
theorem Um {b:Br} (h:KS b) (t x:fB) (f:Int):KS (takeB b t x f).1:=by
 unfold takeB
 split
 ·exact h
 ·split
  ·exact h
  ·split
   ·exact h
   ·split
    ·exact⟨fun e j=>h.1 e (qE j),h.2⟩
    ·refine⟨fun e j=>?_,h.2⟩;have q:fE e∈(jk t (cutAt b.ent (jT (b.ent.map fE) (t,x)).toNat) (cutAt b.ent (jT (b.ent.map fE) (t,x)).toNat).length).1.map fE:=aK.2 ⟨e,j,rfl⟩;rw [za] at q;obtain⟨z,F,u⟩:=aK.1 q;have r:=h.1 z (qE F);rw [<- show z.sub=e.sub from congrArg Prod.snd u];exact r
theorem J3 {b:Br} (h:KS b) (x:fB):∀ k,k<=b.dQ.length->KS (ig b x k).1
 | 0,_=>⟨h.1,fun o r=>h.2 o ((aA.1 r).1)⟩
 | k+1,q=>by
  obtain⟨a,j⟩:∃ a,b.dQ[k]?=aG a:=⟨_,U q⟩;rw [lH b x j];show KS (jv _ _ _ _).1;rw [iA];exact Um (J3 h x k (by omega)) _ _ _
theorem Xc {b:Br} (h:KS b) (x:fB):KS (fM b x).1:=by
 unfold fM
 split
 ·exact h
 ·exact J3 h x _ (Q _)
theorem Ej {b:Br} (h:KS b) (f mk:Int) (t x:fB) (p:List C5) (q:x.1<=4):KS (lI b f mk t x p).1:=by
 unfold lI
 split
 ·exact Ml h f t p
 ·split
  ·show KS (iZ b t f).1;unfold iZ
   split
   ·exact h
   ·split
    ·exact h
    ·split
     ·exact⟨fun e j=>h.1 e ((aA.1 j).1),h.2⟩
     ·exact h
  ·split
   ·rw [kH]; exact abh h _ q
   ·rw [iA]; exact Um h _ _ _
abbrev SnK (b:Br):Prop:=(∀ x∈b.seen,x.1<=2)/\KS b
end Av
namespace Sb
open Go.RowKit Go.Sort Rw YtghlpefopidlaaaGreat.Nm Pr Bk Av
theorem Rz {s:Br×List Ou} (h:iU s.1) (j:iD s.1) (q:Bool) (e:En) (t:Int):iD (iq s q e t).1:=by
 unfold iq
 split
 ·exact j
 ·exact Bg h e j
theorem GI {α:Type} {l:List α} (q:α->Bool) (e:α->En) (t:α->Int) {s0:Br×List Ou} (h:iU s0.1) (G:iD s0.1) (u:∀ s:Br×List Ou,∀ a∈l,iU s.1->iU (iq s (q a) (e a) (t a)).1) (k:Nat) (F:k<=l.length):iD (fu l (fun s a=>iq s (q a) (e a) (t a)) s0 k).1 :=
 (uU (fun b=>iU b/\iD b) ⟨h,G⟩ (fun s a r j=>⟨u s a r j.1,Rz j.1 j.2 _ _ _⟩) k F).2
theorem xP {b:Br} (h:iU b) (H:iD b) (f:Int) (x:fB) (p:List C5) (r:jm b.near f=aI) (F:Wr.fT p=aI):iD (nG b f x p).1:=by
 have j:=Oe h ⟨x,p,f⟩ r F;have q:=Oi h ⟨x,p,f⟩ H;unfold nG
 split
 ·exact q
 ·exact GI (s0:=((fZ b ⟨x,p,f⟩).1,iE b.near f 1 x (0,0) p)) (fun o=>jG o.p p) (fun o=>Gi x o) (fun _=>f) j q (fun s o u G=>step_ok G _ _ _ (qQ _) (j.oko o u)) _ (Q _)
theorem GJ {b:Br} (h:iU b) (r:iD b) (x:fB) (p:List C5) (q:Wr.fT p=aI):iD (iV b x p).1:=by
 unfold iV
 split
 ·exact r
 ·rename_i G
  have F:iU (ownIn b x p):=by
   have H:kL Ow.id (gL b.own (gu (b.own.map Ow.id) x) ⟨x,p⟩):=by
    rw [<- iN];exact kY h.own ⟨x,p⟩ (J2 h.own G)
   exact⟨h.near,h.seen,h.dQ,h.ent,H,h.oks,fun e u=>uS (b:=b) rfl rfl (h.Q6 e u),fun o j=>by
    rcases (jZ _ _ _ _).1 j with rfl|j
    ·exact q
    ·exact h.oko o j⟩
  exact GI (s0:=(ownIn b x p,[])) (fun a=>jG p a.p) (fun a=>lC x p a) (fun a=>a.par) F (show iD (ownIn b x p) from r) (fun s a _ I=>step_ok I _ _ _ (qQ _) q) _ (Q _)
theorem Ae {b:Br} (j:iD b) (x:fB):∀ k,k<=b.dQ.length->iD (ig b x k).1
 | 0,_=>j
 | k+1,r=>by
  obtain⟨a,q⟩:∃ a,b.dQ[k]?=aG a:=⟨_,U r⟩;rw [lH b x q];show iD (jv _ _ _ _).1;rw [iA];exact yU _ _ _ (Ae j x k (by omega))
theorem Af {b:Br} (j:iD b) (x:fB):iD (fM b x).1:=by
 unfold fM
 split
 ·exact j
 ·exact Ae j x _ (Q _)
theorem sH {b:Br} (h:iU b) (j:iD b) (f mk:Int) (t x:fB) (p:List C5) (q:jm b.near f=aI) (r:Wr.fT p=aI):iD (lI b f mk t x p).1:=by
 unfold lI
 split
 ·exact xP h j f t p q r
 ·split
  ·show iD (iZ b t f).1;rw [<- Fw h.dQ];exact Lr t f j
  ·split
   ·rw [kH]; exact Bg h _ j
   ·rw [iA]; exact yU _ _ _ j
end Sb
end Go.Proofs.YtghlpefopidlaaaGreat
