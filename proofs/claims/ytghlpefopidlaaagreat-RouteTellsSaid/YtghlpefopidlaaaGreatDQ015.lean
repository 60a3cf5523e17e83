/-
  Brokers of broadside. Conditions as told.
-/
import Derived.Test.YtghlpefopidlaaaGreatDQ007
import Derived.Test.YtghlpefopidlaaaGreatDQ012
set_option maxRecDepth 100000
set_option maxHeartbeats 64000000
open _root_.Bool renaming false->ak,true->ay,and_eq_true->aD
open _root_.Go renaming cell_regrown->J,below_regrown->Q,bodyPost_ret->aG
open Go.IntKind renaming i64->O
open Go.Obj renaming cells->aA
open Go.Proofs.Tryz renaming results126->aC,prog->aF
open Go.Value renaming slice->D,int->L,bool->aB,agg->aK
open _root_.List renaming getElem?_eq_getElem->K,getElem?_cons_zero->V,getElem?_cons_succ->X,getElem?_toArray->aj,getElem?_eq_some_iff->au
open _root_.Nat renaming le_trans->Y,le_refl->aH,zero_le->aI,lt_or_ge->aJ
open _root_.Option renaming none->U,some->Z
open Option.some renaming inj->ah
open Go.Proofs.YtghlpefopidlaaaGreat renaming hq->l
namespace Go.Proofs.YtghlpefopidlaaaGreat
namespace Bk
open Go.RowKit Go.Sort Rw YtghlpefopidlaaaGreat.Nm Pr
def eqD (x y:Ad):Bool:=Ef x.id y.id && (x.par == y.par && kC x.p y.p)
def eqW (x y:Ow):Bool:=Ef x.id y.id && kC x.p y.p
theorem ad2 (x y:Ad):eqD x y=ay↔x=y:=by
 obtain⟨a,b,c⟩:=x;obtain⟨u,F,G⟩:=y;simp only [eqD,aD,rZ,tF,beq_iff_eq,Ad.mk.injEq];constructor
 ·rintro⟨j,q,r⟩;exact⟨j,r,q⟩
 ·rintro⟨j,q,r⟩;exact⟨j,r,q⟩
theorem ad3 (x y:Ow):eqW x y=ay↔x=y:=by
 obtain⟨a,b⟩:=x;obtain⟨j,q⟩:=y;simp only [eqW,aD,rZ,tF,Ow.mk.injEq]
def Bt (a b:Br):Bool:=a.me == b.me && (decide (a.near=b.near) && (iB Ef a.seen b.seen && (decide (a.dQ.length=b.dQ.length) && (decide (a.own.length=b.own.length) && (iB Np a.ent b.ent && (iB eqD a.dQ b.dQ && iB eqW a.own b.own))))))
theorem Rh (a b:Br):Bt a b=ay↔a=b:=by
 obtain⟨m,n,d,s,e,o⟩:=a;obtain⟨m',S,M,a1,N,T⟩:=b;simp only [Bt,aD,beq_iff_eq,decide_eq_true_eq,tJ rZ,tJ adq,tJ ad2,tJ ad3,Br.mk.injEq];constructor
 ·rintro⟨r,u,j,_,_,q,H,I⟩;exact⟨r,u,H,j,q,I⟩
 ·rintro⟨r,u,j,F,G,q⟩;exact⟨r,u,F,by rw [j],by rw [q],G,j,q⟩
def Shr (b:Br):Prop:=(∀ (k:Nat) (a:Ad),b.dQ[k]?=Z a->a.p.length<=1000000)/\(∀ (k:Nat) (e:En),b.ent[k]?=Z e->e.p.length<=1000000)/\(∀ (k:Nat) (o:Ow),b.own[k]?=Z o->o.p.length<=1000000)
theorem Cw (a b:Br) (g6 av h3 f6 g8 g7 f3 h4 f7 g9:Sl) (w:World) (cR:iT w a g6 av h3 f6 g8) (F:iT w b g7 f3 h4 f7 g9) (h1:Shr a) (h2:Shr b) (dA:Am a) :
  Calls aF 22 #[mg a.me g6 av h3 f6 g8,mg b.me g7 f3 h4 f7 g9] w fun e w'=>e=.returned (aB (Bt a b))/\Below w.heap.size w w':=by
 obtain⟨no,eK,eI⟩:=g6;obtain⟨cQ,a1,cP⟩:=av;obtain⟨eR,eQ,sc⟩:=h3;obtain⟨e8,e7,e6⟩:=f6;obtain⟨cX,a2,cV⟩:=g8;obtain⟨eM,eL,eJ⟩:=g7;obtain⟨cL,c8,cU⟩:=f3;obtain⟨eS,eN,eA⟩:=h4;obtain⟨e2,eB,eC⟩:=f7;obtain⟨cY,c7,cW⟩:=g9;obtain⟨g2,f9,fL⟩:=cR.dQ;obtain⟨g3,fN,hZ⟩:=F.dQ;obtain⟨iG,i0,fR⟩:=cR.ent;obtain⟨jY,i1,i2⟩:=F.ent;obtain⟨g4,fS,fV⟩:=cR.own;obtain⟨g5,fW,i7⟩:=F.own;have i4:iG.length<=1000000:=by have:=fR.len; have:=dA.ent; omega
 have jI:=dA.dQ;have jV:=dA.own;have k0:=fL.len;have lo9:=fV.len;obtain⟨b5,b6,b4⟩:=f9.len;obtain⟨rfl,i8,rfl⟩:cQ=b5/\a1=(g2).length/\cP=b6:=by
  have cC:D cQ a1 cP=D b5 (g2).length b6:=b4;simpa using cC
 clear b4;obtain⟨b5,b6,b4⟩:=fN.len;obtain⟨rfl,i9,rfl⟩:cL=b5/\c8=(g3).length/\cU=b6:=by
  have cC:D cL c8 cU=D b5 (g3).length b6:=b4;simpa using cC
 clear b4;obtain⟨b5,b6,b4⟩:=fS.len;obtain⟨rfl,cS,rfl⟩:cX=b5/\a2=(g4).length/\cV=b6:=by
  have cC:D cX a2 cV=D b5 (g4).length b6:=b4;simpa using cC
 clear b4;obtain⟨b5,b6,b4⟩:=fW.len;obtain⟨rfl,cT,rfl⟩:cY=b5/\c7=(g5).length/\cW=b6:=by
  have cC:D cY c7 cW=D b5 (g5).length b6:=b4;simpa using cC
 clear b4;have cM:=l i8;have d6:=l i9;have cN:=l cS;have d7:=l cT;have k9:a1<=900:=by omega
 have kA:a2<=900:=by omega
 have d8:=l fL;have e3:=l hZ;have d9:=l fV;have e4:=l i7;have j4:=l f9;have j5:=l fN;have j6:=l fS;have j7:=l fW;have hN:=l h1;have hO:=l h2;obtain⟨f8,G,a6⟩:=gX w #[L O a.me,D no eK eI,D cQ a1 cP,D eR eQ sc,D e8 e7 e6,D cX a2 cV] #[L O b.me,D eM eL eJ,D cL c8 cU,D eS eN eA,D e2 eB eC,D cY c7 cW] 30 30;obtain⟨j0,H⟩:∃ r,decide (a.near=b.near)=r:=⟨_,rfl⟩;obtain⟨j1,a7⟩:∃ r,iB Ef a.seen b.seen=r:=⟨_,rfl⟩;obtain⟨gS,b2⟩:∃ r,decide (a.dQ.length=b.dQ.length)=r:=⟨_,rfl⟩;obtain⟨h0,e5⟩:∃ r,decide (a.own.length=b.own.length)=r:=⟨_,rfl⟩;obtain⟨r5,f5⟩:∃ r,iB Np a.ent b.ent=r:=⟨_,rfl⟩;have e9:Bt a b=(a.me == b.me && (j0 && (j1 && (gS && (h0 && (r5 && (iB eqD a.dQ b.dQ && iB eqW a.own b.own))))))):=by rw [<- H,<- a7,<- b2,<- e5,<- f5]; rfl
 have eV:=l (fun W (bI:Below w.heap.size w W)=>akz (D no eK eI) (D eM eL eJ) a.near b.near W (cR.near.on bI) (F.near.on bI));have hJ:=l (fun W (bI:Below w.heap.size w W)=>Vw (D eR eQ sc) (D eS eN eA) a.seen b.seen W (cR.seen.on bI) (F.seen.on bI) (by have:=dA.seen; omega));have hH:=l (fun W (bI:Below w.heap.size w W)=>NV (D e8 e7 e6) (D e2 eB eC) iG jY a.ent b.ent W (i0.on bI) (i1.on bI) (fR.mono fun _ _ h=>h.on bI) (i2.mono fun _ _ h=>h.on bI) h1.2.1 h2.2.1 i4);rw [H] at eV;rw [a7] at hJ;rw [f5] at hH;have hL:=l b2;have hM:=l e5;obtain⟨me,i6⟩:∃ me,me=a.me:=⟨_,rfl⟩;obtain⟨eE,hX⟩:∃ me,me=b.me:=⟨_,rfl⟩;simp only [<- i6,<- hX] at f8 G a6 e9 ⊢;obtain⟨iS,hY⟩:∃ r,(me == eE)=r:=⟨_,rfl⟩;have kB:(me != eE)=!iS:=by rw [<- hY]; rfl
 rw [hY] at e9;have R:=l e9;generalize Bt a b=kE at *;have e0:=l f8;have hP:=l G;have hT:=l a6;clear f8 G a6 cR F h1 h2 dA f9 fL fN hZ i0 fR i1 i2 fS fV fW i7 i4 jI jV k0 lo9 i8 i9 cS cT H a7 b2 e5 f5 i6 hX e9;show Calls aF 22 #[aK #[L O me,D no eK eI,D cQ a1 cP,D eR eQ sc,D e8 e7 e6,D cX a2 cV],aK #[L O eE,D eM eL eJ,D cL c8 cU,D eS eN eA,D e2 eB eC,D cY c7 cW]] w _;go_enter Tryz.func22,Tryz.ntmps22;go_upto_region 1 with fail;generalize (w.alloc (aA #[L O me,D no eK eI,D cQ a1 cP,D eR eQ sc,D e8 e7 e6,D cX a2 cV] 30)).alloc (aA #[L O eE,D eM eL eJ,D cL c8 cU,D eS eN eA,D e2 eB eC,D cY c7 cW] 30)=W at *;have hK:=l (eV.o W e0.o);clear eV;have b8:=hP.o;have bA:=hT.o;obtain⟨d0,I,M,d1,b7,d2⟩:=b8.fA;obtain⟨d3,N,S,d4,b9,d5⟩:=bA.fA;clear b8 bA;cases iS
 ·go_wp2;go_ret;exact⟨mh (by rw [R.o]; simp),e0.o⟩
 ·go_wp2_with fail;refine hK.o.mono ?_;rintro H w1 ⟨rfl,F⟩;have e1:=l (e0.o.trans (F.mono e0.o.size));have hQ:=l (hP.o.on F);have hU:=l (hT.o.on F);clear F hK d0 I M d1 b7 d2 d3 N S d4 b9 d5;have b8:=hQ.o;have bA:=hU.o;obtain⟨d0,I,M,d1,b7,d2⟩:=b8.fA;obtain⟨d3,N,S,d4,b9,d5⟩:=bA.fA;clear b8 bA;cases j0
  ·go_wp2;go_ret;exact⟨mh (by rw [R.o]; simp),e1.o⟩
  ·have hI:=l (hJ.o w1 e1.o);go_wp2_with fail;refine hI.o.mono ?_;rintro a7 k7 ⟨rfl,F⟩;have cJ:=l (e1.o.trans (F.mono e1.o.size));have hR:=l (hQ.o.on F);have hV:=l (hU.o.on F);clear F hI d0 I M d1 b7 d2 d3 N S d4 b9 d5;have b8:=hR.o;have bA:=hV.o;obtain⟨d0,I,M,d1,b7,d2⟩:=b8.fA;obtain⟨d3,N,S,d4,b9,d5⟩:=bA.fA;clear b8 bA;cases j1
   ·go_wp2;go_ret;exact⟨mh (by rw [R.o]; simp),cJ.o⟩
   ·by_cases j8:a1=c8
    ·subst j8;have cS:gS=ay:=by rw [<- hL.o]; exact decide_eq_true (by rw [<- d8.o.len,<- e3.o.len]; have:=cM.o; have:=d6.o; omega)
     subst cS;by_cases j9:a2=c7
     ·subst j9;have cT:h0=ay:=by rw [<- hM.o]; exact decide_eq_true (by rw [<- d9.o.len,<- e4.o.len]; have:=cN.o; have:=d7.o; omega)
      subst cT;have hG:=l (hH.o k7 cJ.o);go_wp2_with fail;refine hG.o.mono ?_;rintro e5 j2 ⟨rfl,F⟩;have bB:=l (cJ.o.trans (F.mono cJ.o.size));have f0:=l (hR.o.on F);have f1:=l (hV.o.on F);clear F hG d0 I M d1 b7 d2 d3 N S d4 b9 d5;have b8:=f0.o;have bA:=f1.o;obtain⟨d0,I,M,d1,b7,d2⟩:=b8.fA;obtain⟨d3,N,S,d4,b9,d5⟩:=bA.fA;clear b8 bA;cases r5
      ·go_wp2;go_ret;exact⟨mh (by rw [R.o]; simp),bB.o⟩
      ·go_wp2
       go_loopw [57] (fun i wr=>∃ k:Nat,k<=a1/\i=L O k/\Below j2.heap.size j2 wr/\∀ (j:Nat) (x y:Ad),j<k->a.dQ[j]?=Z x->b.dQ[j]?=Z y->eqD x y=ay) (fun i _=>a1-(intOf i).toNat)
       case atStart=>exact⟨0,aI _,rfl,Below.refl _ _,fun j x y h=>by omega⟩
       case round =>
        obtain⟨k,jD,rfl,dS,dE⟩:=hrel;have u:=l dS;have cI:=l dE;have bE:=l bB.o;clear dS dE;by_cases i5:k<a1
        ·obtain⟨x,cG⟩:∃ x,g2[k]?=Z x:=⟨_,K (by have:=cM.o; omega)⟩;obtain⟨y,cH⟩:∃ y,g3[k]?=Z y:=⟨_,K (by have:=d6.o; omega)⟩;obtain⟨p,fX,bM⟩:=Mv (j4.o.on bE.o) rfl cM.o.symm cG;obtain⟨q,g0,bO⟩:=Mv (j5.o.on bE.o) rfl d6.o.symm cH;obtain⟨h5,cD,fY⟩:=o8 d8.o k x cG;obtain⟨h6,cF,g1⟩:=o8 e3.o k y cH;obtain⟨I,M,⟨hA,h9,h8⟩,b7⟩:=x;obtain⟨N,S,⟨hF,hE,hD⟩,b9⟩:=y;obtain⟨k5,bT,kK⟩:=h5;obtain⟨k6,bW,kO⟩:=h6;obtain⟨rfl,rfl,dT⟩:=fY;obtain⟨rfl,rfl,dZ⟩:=g1;have cA:=show eqD ⟨(I,M),bT,b7⟩ ⟨(N,S),bW,b9⟩=(Ef (I,M) (N,S) && (b7 == b9 && kC bT bW)) from rfl;have f4:=J (show wr.cell? ⟨w.heap.size,2,U⟩=Z (D cQ a1 cP) from (f0.o.on u.o).cell 2);have b3:=J (show wr.cell? ⟨w.heap.size+1,2,U⟩=Z (D cL a1 cU) from (f1.o.on u.o).cell 2);have gA:=J (bM _ u.o).1;have gC:=J (bM _ u.o).2.1;have gE:=J (bM _ u.o).2.2.1;have k3:=J (bM _ u.o).2.2.2;have gI:=J (bO _ u.o).1;have gO:=J (bO _ u.o).2.1;have gR:=J (bO _ u.o).2.2.1;have k4:=J (bO _ u.o).2.2.2;have bC:=l (fun d os=>Calls.regrown_of (d:=d) (os:=os) (xg (D hA h9 h8) (D hF hE hD) bT bW _ (((dT.on bE.o).on u.o).on (Q wr d os)) (((dZ.on bE.o).on u.o).on (Q wr d os)) (hN.o.1 _ _ cD) (hO.o.1 _ _ cF)));obtain⟨s1,H⟩:∃ r,Ef (I,M) (N,S)=r:=⟨_,rfl⟩;obtain⟨s2,a7⟩:∃ r,(b7 == b9)=r:=⟨_,rfl⟩;obtain⟨s3,b2⟩:∃ r,kC bT bW=r:=⟨_,rfl⟩;have G:=KU I M N S (!s1) (by rw [<- H]; rfl);have a6:(b7 != b9)=!s2:=by rw [<- a7]; rfl
         rw [b2] at bC;rw [H,a7,b2] at cA;have bX:=l cD;have c6:=l cF;have T:=l cA;clear bM bO cG cH cD cF dT dZ cA H a7 b2;cases s1
         ·have a8:=l (T.o.trans (show _=ak by simp));have bP:=l (show iB eqD a.dQ b.dQ=ak from jP a.dQ b.dQ k _ _ bX.o c6.o a8.o);clear T;go_wp2;refine ko ?_
          repeat (go_big_quiet_step (first | (with_reducible exact bC.o _ _)))
          refine kr fun aE b1=>?_;go_wp2;go_ret;exact⟨mh (by rw [R.o,bP.o]; simp),bB.o.trans ((u.o.trans ((Q wr aE b1).mono u.o.size)).mono bB.o.size)⟩
         ·cases s2
          ·have a8:=l (T.o.trans (show _=ak by simp));have bP:=l (show iB eqD a.dQ b.dQ=ak from jP a.dQ b.dQ k _ _ bX.o c6.o a8.o);clear T;go_wp2;refine ko ?_
           repeat (go_big_quiet_step (first | (with_reducible exact bC.o _ _)))
           refine kr fun aE b1=>?_;go_wp2;go_ret;exact⟨mh (by rw [R.o,bP.o]; simp),bB.o.trans ((u.o.trans ((Q wr aE b1).mono u.o.size)).mono bB.o.size)⟩
          ·cases s3
           ·have a8:=l (T.o.trans (show _=ak by simp));have bP:=l (show iB eqD a.dQ b.dQ=ak from jP a.dQ b.dQ k _ _ bX.o c6.o a8.o);clear T;go_wp2;refine ko ?_
            repeat (go_big_quiet_step (first | (with_reducible exact bC.o _ _)))
            refine kr fun aE b1=>?_;go_wp2;go_ret;exact⟨mh (by rw [R.o,bP.o]; simp),bB.o.trans ((u.o.trans ((Q wr aE b1).mono u.o.size)).mono bB.o.size)⟩
           ·have a8:=l (T.o.trans (show _=ay by simp));clear T;go_wp2;refine ko ?_
            repeat (go_big_quiet_step (first | (with_reducible exact bC.o _ _)))
            refine kr fun aE b1=>?_;clear fX g0 f4 b3 gA gI gC gO gE gR k3 k4 G a6;go_wp2
            go_roundw
            case rel=>exact⟨k+1,by omega,by go_num,u.o.trans ((Q wr aE b1).mono u.o.size),fun j h7 hC jB G a6=>by
             rcases aJ j k with dC|dC
             ·exact cI.o j h7 hC dC G a6
             ·obtain rfl:j=k:=by omega
              have H:=bX.o;have a7:=c6.o;rw [G] at H;rw [a6] at a7;rw [ah H,ah a7];exact a8.o⟩
            case measure=>simp [intOf]; omega
        ·have eW:=l (show iB eqD a.dQ b.dQ=ay from tH a.dQ b.dQ (by rw [<- d8.o.len,<- e3.o.len]; have:=cM.o; have:=d6.o; omega) (fun j a b G a6=>cI.o j a b (by have:=(au.1 G).1; have:=d8.o.len; have:=cM.o; omega) G a6));have R:=l (R.o.trans (by rw [eW.o]));obtain rfl:a1=k:=by omega
         obtain⟨j3,f2⟩:∃ x,x=wr:=⟨_,rfl⟩;rw [<- f2] at u;have c9:=l (bB.o.trans (u.o.mono bB.o.size));have hS:=l (f0.o.on u.o);have hW:=l (f1.o.on u.o);rw [<- f2];have z5:=hS.o.cell 5;have k8:=hW.o.cell 5;simp only [aj,V,X] at z5 k8;clear f2 u cI bE i5;go_wp2
         go_loopw [108] (fun i wr=>∃ k:Nat,k<=a2/\i=L O k/\Below j3.heap.size j3 wr/\∀ (j:Nat) (x y:Ow),j<k->a.own[j]?=Z x->b.own[j]?=Z y->eqW x y=ay) (fun i _=>a2-(intOf i).toNat)
         case atStart=>exact⟨0,aI _,rfl,Below.refl _ _,fun j x y h=>by omega⟩
         case round =>
          obtain⟨k,jD,rfl,dS,dE⟩:=hrel;have u:=l dS;have cI:=l dE;have bE:=l c9.o;clear dS dE;by_cases i5:k<a2
          ·obtain⟨x,cG⟩:∃ x,g4[k]?=Z x:=⟨_,K (by have:=cN.o; omega)⟩;obtain⟨y,cH⟩:∃ y,g5[k]?=Z y:=⟨_,K (by have:=d7.o; omega)⟩;obtain⟨p,fX,bM⟩:=elW (j6.o.on bE.o) rfl cN.o.symm cG;obtain⟨q,g0,bO⟩:=elW (j7.o.on bE.o) rfl d7.o.symm cH;obtain⟨h5,cD,fY⟩:=o8 d9.o k x cG;obtain⟨h6,cF,g1⟩:=o8 e4.o k y cH;obtain⟨I,M,hA,h9,h8⟩:=x;obtain⟨N,S,hF,hE,hD⟩:=y;obtain⟨k5,bT⟩:=h5;obtain⟨k6,bW⟩:=h6;obtain⟨rfl,dT⟩:=fY;obtain⟨rfl,dZ⟩:=g1;have cA:=show eqW ⟨(I,M),bT⟩ ⟨(N,S),bW⟩=(Ef (I,M) (N,S) && kC bT bW) from rfl;have f4:=J (show wr.cell? ⟨w.heap.size,5,U⟩=Z (D cX a2 cV) from (hS.o.on u.o).cell 5);have b3:=J (show wr.cell? ⟨w.heap.size+1,5,U⟩=Z (D cY a2 cW) from (hW.o.on u.o).cell 5);have gA:=J (bM _ u.o).1;have gC:=J (bM _ u.o).2.1;have gE:=J (bM _ u.o).2.2;have gI:=J (bO _ u.o).1;have gO:=J (bO _ u.o).2.1;have gR:=J (bO _ u.o).2.2;have bC:=l (fun d os=>Calls.regrown_of (d:=d) (os:=os) (xg (D hA h9 h8) (D hF hE hD) bT bW _ (((dT.on bE.o).on u.o).on (Q wr d os)) (((dZ.on bE.o).on u.o).on (Q wr d os)) (hN.o.2.2 _ _ cD) (hO.o.2.2 _ _ cF)));obtain⟨s1,H⟩:∃ r,Ef (I,M) (N,S)=r:=⟨_,rfl⟩;obtain⟨s3,b2⟩:∃ r,kC bT bW=r:=⟨_,rfl⟩;have G:=KU I M N S (!s1) (by rw [<- H]; rfl);rw [b2] at bC;rw [H,b2] at cA;have bX:=l cD;have c6:=l cF;have T:=l cA;clear bM bO cG cH cD cF dT dZ cA H b2;cases s1
           ·have a8:=l (T.o.trans (show _=ak by simp));have bP:=l (show iB eqW a.own b.own=ak from jP a.own b.own k _ _ bX.o c6.o a8.o);clear T;go_wp2;refine ko ?_
            repeat (go_big_quiet_step (first | (with_reducible exact bC.o _ _)))
            refine kr fun aE b1=>?_;go_wp2;go_ret;exact⟨mh (by rw [R.o,bP.o]; simp),c9.o.trans ((u.o.trans ((Q wr aE b1).mono u.o.size)).mono c9.o.size)⟩
           ·cases s3
            ·have a8:=l (T.o.trans (show _=ak by simp));have bP:=l (show iB eqW a.own b.own=ak from jP a.own b.own k _ _ bX.o c6.o a8.o);clear T;go_wp2;refine ko ?_
             repeat (go_big_quiet_step (first | (with_reducible exact bC.o _ _)))
             refine kr fun aE b1=>?_;go_wp2;go_ret;exact⟨mh (by rw [R.o,bP.o]; simp),c9.o.trans ((u.o.trans ((Q wr aE b1).mono u.o.size)).mono c9.o.size)⟩
            ·have a8:=l (T.o.trans (show _=ay by simp));clear T;go_wp2;refine ko ?_
             repeat (go_big_quiet_step (first | (with_reducible exact bC.o _ _)))
             refine kr fun aE b1=>?_;clear fX g0 f4 b3 gA gI gC gO gE gR G;go_wp2
             go_roundw
             case rel=>exact⟨k+1,by omega,by go_num,u.o.trans ((Q wr aE b1).mono u.o.size),fun j h7 hC jB G a6=>by
              rcases aJ j k with dC|dC
              ·exact cI.o j h7 hC dC G a6
              ·obtain rfl:j=k:=by omega
               have H:=bX.o;have a7:=c6.o;rw [G] at H;rw [a6] at a7;rw [ah H,ah a7];exact a8.o⟩
             case measure=>simp [intOf]; omega
          ·have eW:=l (show iB eqW a.own b.own=ay from tH a.own b.own (by rw [<- d9.o.len,<- e4.o.len]; have:=cN.o; have:=d7.o; omega) (fun j a b G a6=>cI.o j a b (by have:=(au.1 G).1; have:=d9.o.len; have:=cN.o; omega) G a6));have R:=l (R.o.trans (by rw [eW.o]));obtain rfl:a2=k:=by omega
           go_wp2;go_ret;exact⟨mh (by rw [R.o]; simp),c9.o.trans (u.o.mono c9.o.size)⟩
     ·have cT:h0=ak:=by rw [<- hM.o]; exact decide_eq_false (by rw [<- d9.o.len,<- e4.o.len]; have:=cN.o; have:=d7.o; omega)
      subst cT;have k1:((a2:Int) != (c7:Int))=ay:=by simp; omega
      have k2:((a2:Int) == (c7:Int))=ak:=by simp; omega
      go_wp2;go_ret;exact⟨mh (by rw [R.o]; simp),cJ.o⟩
    ·have cS:gS=ak:=by rw [<- hL.o]; exact decide_eq_false (by rw [<- d8.o.len,<- e3.o.len]; have:=cM.o; have:=d6.o; omega)
     subst cS;have k1:((a1:Int) != (c8:Int))=ay:=by simp; omega
     have k2:((a1:Int) == (c8:Int))=ak:=by simp; omega
     go_wp2;go_ret;exact⟨mh (by rw [R.o]; simp),cJ.o⟩
end Bk
namespace Bk
open Go.RowKit Go.Sort Rw YtghlpefopidlaaaGreat.Nm Pr
open Av
theorem Wt (b:Br) (eK av eV hP eL:Sl) (x s:Id) (f:Int) (w:World) (h:iT w b eK av eV hP eL) (l5:b.ent.length<=900) (kO:∀ e∈b.ent,dX e.p) :
  Calls aF 126 #[mg b.me eK av eV hP eL,nP x,nP s,L O f] w fun e w'=>(∃ ev' lo:Sl,e=.returned (.tuple #[mg b.me eK av eV ev' eL,eu lo,aB (takeB b x s f).2.2])/\iT w' (takeB b x s f).1 eK av eV ev' eL/\∃ bE,mF w' (eu lo) bE/\eY (jF w') bE (takeB b x s f).2.1)/\Below w.heap.size w w':=by
 obtain⟨no,a8,a7⟩:=eK;obtain⟨a2,a1,T⟩:=av;obtain⟨b4,b2,sc⟩:=eV;obtain⟨bP,k3,bO⟩:=hP;obtain⟨b1,a6,aE⟩:=eL;obtain⟨c,d⟩:=x;obtain⟨c2,d6⟩:=s;obtain⟨b8,e9,g1⟩:=h.ent;have i9:=l (keys_eq g1);have lK:=l (show b8.length<=900 by rw [g1.len]; exact l5);have f9:=l g1;have j1:=l kO;obtain⟨cP,dE,l0⟩:=e9.len;obtain⟨rfl,rfl,rfl⟩:bP=cP/\k3=b8.length/\bO=dE:=by
  have:D bP k3 bO=D cP b8.length dE:=l0;simpa using this
 have f7:=EZ b.me (D no a8 a7) (D a2 a1 T) (D b4 b2 sc) (D b1 a6 aE) (bP,b8.length,bO) b8 (c,d) (c2,d6);have e4:=l h;obtain⟨cS,I,b9,fY,g0⟩:=zM w #[L O b.me,D no a8 a7,D a2 a1 T,D b4 b2 sc,D bP b8.length bO,D b1 a6 aE] #[L O c,L O d] #[L O c2,L O d6] #[L O 0,D U 0 0,D U 0 0,D U 0 0,D U 0 0,D U 0 0] 30 23 23 30;obtain⟨cD,hJ⟩:∃ n,n=b8.length:=⟨_,rfl⟩;simp only [<- hJ] at cS I b9 fY g0 e9 e4 f7 ⊢;obtain⟨me,kE⟩:∃ me,me=b.me:=⟨_,rfl⟩;simp only [<- kE] at cS I b9 fY g0 f7 ⊢;have iS:=l hJ;have d7:=l (cS);have dS:=l (I);have eI:=l (b9);have eJ:=l (fY);have f5:=l (g0);have d5:=l (e9.on cS);have nX:=l e9;clear cS I b9 fY g0 e9 g1 h l0 hJ l5 kE kO;go_enter Tryz.func126,Tryz.ntmps126;go_upto_region 1 with fail;generalize ((((w.alloc (aA #[L O me,D no a8 a7,D a2 a1 T,D b4 b2 sc,D bP cD bO,D b1 a6 aE] 30)).alloc (aA #[L O c,L O d] 23)).alloc (aA #[L O c2,L O d6] 23)).alloc (aA #[L O 0,D U 0 0,D U 0 0,D U 0 0,D U 0 0,D U 0 0] 30))=W at *;have d4:=l (f7 W d5.o);clear f7;obtain⟨bA,M,G,F,S,H⟩:=dS.o.fA;obtain⟨lA,b7⟩:=eI.o.cs2;obtain⟨z0,h5⟩:=eJ.o.cs2;rcases pI (b8.map jR) ((c,d),(c2,d6)) with cT|⟨k,cT,mZ⟩
 ·have cC:=l (show takeB b (c,d) (c2,d6) f=(b,[],ak) by
   have eA:=cT;rw [i9.o] at eA;unfold takeB;rw [eA]
   split
   ·rfl
   ·rw [if_pos rfl])
  rw [cT] at d4;clear cT;go_wp2_with fail;refine d4.o.mono ?_;rintro mU w1 ⟨rfl,q⟩;clear d4;clear bA M G F S H lA b7 z0 h5;have eE:=l (d7.o.trans (q.mono d7.o.size));have dC:=l (dS.o.on q);have hC:=l (eI.o.on q);have i0:=l (eJ.o.on q);have bC:=l (f5.o.on q);have hO:=l (d5.o.on q);clear d7 dS eI eJ f5 d5;clear q;obtain⟨bA,M,G,F,S,H⟩:=dC.o.fA;obtain⟨eN,cQ,eQ,eR,eS,r5⟩:=bC.o.fA;obtain⟨dT,dZ,e0,e1,e2,e3⟩:=bC.o.kg;have f3:=bC.o.lt;have cR:=l (dM bC.o (L O me) (D no a8 a7) (D a2 a1 T) (D b4 b2 sc) (D bP cD bO) (D b1 a6 aE));have bM:=l (dJ (b:=w.heap.size+1+1+1) eE.o (by omega) (L O me) (D no a8 a7) (D a2 a1 T) (D b4 b2 sc) (D bP cD bO) (D b1 a6 aE));go_wp2_with fail;obtain⟨v0,cY,d0,v3,v4,v5⟩:=cR.o.fA;refine aG (v:=.tuple #[aK #[L O me,D no a8 a7,D a2 a1 T,D b4 b2 sc,D bP cD bO,D b1 a6 aE],D U 0 0,aB ak]) (by simp [results,aC,go_sem,v0,cY,d0,v3,v4,v5]) rfl ?_;rw [cC.o];exact⟨⟨(bP,cD,bO),(U,0,0),rfl,e4.o.on bM.o,[],jK _,.nil⟩,bM.o⟩
 ·rw [cT] at d4;have g3:k<b8.length:=by have:=(au.1 mZ).1; simpa using this
  obtain⟨y,cV⟩:∃ y,b8[k]?=Z y:=⟨_,K g3⟩;obtain⟨fX,hR⟩:∃ e,b.ent[k]?=Z e:=⟨_,K (by rw [<- f9.o.len]; exact g3)⟩;obtain⟨i1,eC,g7⟩:=f9.o.at k fX hR;obtain rfl:y=i1:=ah (cV.symm.trans eC);have o3:k<cD:=by rw [iS.o]; exact g3
  have cC:=l (show takeB b (c,d) (c2,d6) f=if fX.from_≠f then (b,[],ak) else if fX.up=ak then ({ b with ent:=cutAt b.ent k },[],ak) else ({ b with ent:=(jk (c,d) (cutAt b.ent k) (cutAt b.ent k).length).1 },(jk (c,d) (cutAt b.ent k) (cutAt b.ent k).length).2,ay) by
   have eA:=cT;rw [i9.o] at eA;unfold takeB;rw [eA,Int.toNat_natCast,hR];simp only;rw [if_neg (by omega)])
  obtain⟨p,dA,eM⟩:=Qj d5.o rfl iS.o.symm cV;obtain⟨t1,t2,t3,t4,⟨po,oA,o6⟩,fr,up⟩:=y;obtain⟨n0,n1,hS,hX,n3⟩:=g7;simp only at hS hX;rw [<- hS,<- hX] at cC;clear hS hX n0 n1 n3 eC hR fX;have mY:decide ((k:Int)<0)=ak:=decide_eq_false (by omega);have mC:=lK.o;go_wp2_with fail;refine d4.o.mono ?_;rintro mU w1 ⟨rfl,q⟩;have lJ:=eM w1 q;obtain⟨gA,gC,gE,gI,gO,gR,gS⟩:=lJ;clear d4 eM;clear bA M G F S H lA b7 z0 h5;have eE:=l (d7.o.trans (q.mono d7.o.size));have dC:=l (dS.o.on q);have hC:=l (eI.o.on q);have i0:=l (eJ.o.on q);have bC:=l (f5.o.on q);have hO:=l (d5.o.on q);clear d7 dS eI eJ f5 d5;clear q cT;by_cases g6:fr=f
  ·rw [if_neg (by simp [g6])] at cC;have d9:(fr != f)=ak:=by simp [g6]
   obtain⟨bA,M,G,F,S,H⟩:=dC.o.fA;obtain⟨eN,cQ,eQ,eR,eS,r5⟩:=bC.o.fA;obtain⟨dT,dZ,e0,e1,e2,e3⟩:=bC.o.kg;have f3:=bC.o.lt;go_upto_region 5 with fail;clear f3 d9 mY dA gA gC gE gI gO gR gS;clear bA M G F S H eN cQ eQ eR eS r5 dT dZ e0 e1 e2 e3;refine anV _ w1 w.heap.size (w.heap.size+1) me _ _ _ _ bP cD bO k b8 dC.o hO.o (by omega) mC ?_;intro nH oC v40 oD oE oG oK oL v46 oQ oR oS oT v51 e8 hU k5 g5 mX;have h7:=l (show eY (jF w) (b8.take k++b8.drop (k+1)) (cutAt b.ent k) from (f9.o.take k).append (f9.o.drop (k+1)));have m0:=l (show ∀ e∈cutAt b.ent k,dX e.p from fun e d8=>by
    rcases List.mem_append.1 d8 with h|h
    ·exact j1.o e (List.mem_of_mem_take h)
    ·exact j1.o e (List.mem_of_mem_drop h))
   have lE:=l (show (b8.take k++b8.drop (k+1)).length<=900 from by rw [List.length_append,List.length_take,List.length_drop]; omega);generalize b8.take k++b8.drop (k+1)=cs at *;obtain⟨b6,b5,k8⟩:=(Row.dL hU).len;obtain⟨n,hT⟩:∃ n,n=cs.length:=⟨_,rfl⟩;rw [<- hT] at k8;subst k8;have N:=l hT;clear hT;have i4:=l (show (cutAt b.ent k).length=n from by rw [N.o,h7.o.len]);have k6:=i4.o;simp only [k6] at cC;generalize cutAt b.ent k=cb at *;clear k6;have hY:=l (eE.o.trans (k5 _ (aH _)));have fW:=l (e8);have j6:=l (g5 _ _ _ (by omega) hC.o);have n4:=l (g5 _ _ _ (by omega) i0.o);have cX:=l (g5 _ _ _ (by omega) bC.o);have hK:=l (dO hU (show w.heap.size+4<=w1.heap.size by have:=bC.o.lt; omega));have cG:=l (show w.heap.size+4<=nH.heap.size from by have:=cX.o.lt; omega);clear e8 hU k5 g5 mX eE dC hC i0 bC hO;cases up
   ·rw [if_pos rfl] at cC;obtain⟨bA,M,G,F,S,H⟩:=fW.o.fA;obtain⟨eN,cQ,eQ,eR,eS,r5⟩:=cX.o.fA;obtain⟨dT,dZ,e0,e1,e2,e3⟩:=cX.o.kg;have f3:=cX.o.lt;have cR:=l (dM cX.o (L O me) (D no a8 a7) (D a2 a1 T) (D b4 b2 sc) (D b6 n b5) (D b1 a6 aE));have bM:=l (dJ (b:=w.heap.size+1+1+1) hY.o (by omega) (L O me) (D no a8 a7) (D a2 a1 T) (D b4 b2 sc) (D b6 n b5) (D b1 a6 aE));have hG:=l (fJ hK.o (w.heap.size+1+1+1) (by omega) (L O me) (D no a8 a7) (D a2 a1 T) (D b4 b2 sc) (D b6 n b5) (D b1 a6 aE));go_wp2_with fail;obtain⟨v0,cY,d0,v3,v4,v5⟩:=cR.o.fA;refine aG (v:=.tuple #[aK #[L O me,D no a8 a7,D a2 a1 T,D b4 b2 sc,D b6 n b5,D b1 a6 aE],D U 0 0,aB ak]) (by simp [results,aC,go_sem,v0,cY,d0,v3,v4,v5]) rfl ?_;rw [cC.o];have cI:=e4.o.on bM.o;exact⟨⟨(b6,n,b5),(U,0,0),rfl,⟨cI.near,cI.dQ,cI.seen,⟨cs,Row.dL hG.o,h7.o.mono fun _ _ h=>h.on bM.o⟩,cI.own⟩,[],jK _,.nil⟩,bM.o⟩
   ·rw [if_neg (by simp)] at cC;have lP:=lE.o;rw [<- N.o] at lP;obtain⟨bA,M,G,F,S,H⟩:=fW.o.fA;go_wp2_with fail;clear bA M G F S H
    go_loopw [13,58] (fun v i wr=>∃ (k:Nat) (bE ls:List iY) (a:OA) (k2:Nat),k<=n/\i=L O k/\Below w.heap.size w wr/\w.heap.size+4<=wr.heap.size/\dN wr w.heap.size #[L O me,D no a8 a7,D a2 a1 T,D b4 b2 sc,D a n k2,D b1 a6 aE] 30/\dN wr (w.heap.size+1) #[L O c,L O d] 23/\dN wr (w.heap.size+1+1+1) #[L O 0,D U 0 0,D U 0 0,D U 0 0,D U 0 0,D U 0 0] 30/\jJ wr (w.heap.size+4) (D a n k2) bE/\eY (jF w) bE (jk (c,d) cb k).1/\jJ wr (w.heap.size+4) v ls/\eY (jF w) ls (jk (c,d) cb k).2) (fun _ i _=>n-(intOf i).toNat)
    case atStart=>exact⟨0,cs,[],b6,b5,aI _,rfl,hY.o,cG.o,fW.o,j6.o,cX.o,hK.o,h7.o,iR _ _,.nil⟩
    case round =>
     clear cG hY fW j6 n4 cX hK;obtain⟨k,bE,ls,b6,b5,g3,rfl,k9,l2,l3,l4,j7,kK,k7,kQ,eB⟩:=hrel;have h1:=l (k9);have h2:=l (l3);have jY:=l (l4);have d2:=l (j7);have h0:=l (kK);have fN:=l (kQ);have cG:=l l2;have EN:=l k7;have d3:=l eB;clear k9 l2 l3 l4 j7 kK k7 kQ eB;have cM:=l (show bE.length=n from by rw [EN.o.len,(qP _ _ _).1,i4.o]);have lR:=l (show ls.length<=900 from by rw [d3.o.len]; exact Y (qP _ _ _).2 (by omega));by_cases g4:k<n
     ·have o4:(k:Int)<(n:Int):=by omega
      have o5:IntKind.i64.wrap ((k:Int)+1)=(k:Int)+1:=IntWalk.i64_in _ (by omega);obtain⟨y,cV⟩:∃ y,bE[k]?=Z y:=⟨_,K (by rw [cM.o]; exact g4)⟩;obtain⟨e,d8⟩:∃ e,(jk (c,d) cb k).1[k]?=Z e:=⟨_,K (by rw [<- EN.o.len,cM.o]; exact g4)⟩;obtain⟨i1,eC,g7⟩:=EN.o.at k e d8;obtain rfl:y=i1:=ah (cV.symm.trans eC);have cF:=l (show jk (c,d) cb (k+1)=if e.tree=(c,d)/\e.up=ak/\fH (jk (c,d) cb k).1 (c,d) e.p=ak then ((jk (c,d) cb k).1.set k (Ig e),(jk (c,d) cb k).2++[Ig e]) else jk (c,d) cb k from by rw [lS]; unfold iQ; rw [d8]);have j2:=l ((NZ (t:=(c,d)) dX m0.o k).1);have cA:=l g7;have lO:=l cV;have m1:=l (j2.o e (List.mem_of_getElem? d8));clear eC g7 d8;generalize jk (c,d) cb k=mk at *;obtain⟨p,dA,eM⟩:=Qj (Row.dL h0.o) rfl cM.o cV;obtain⟨gA,gC,gE,gI,gO,gR,gS⟩:=eM wr (Below.refl _ _);obtain⟨b7,bI,c7,c8,⟨bX,bW,bT⟩,c9,f0⟩:=y;simp only at gA gC gE gI gO gR gS;clear eM cV;obtain⟨bA,M,G,F,S,H⟩:=h2.o.fA;go_upto_region 13 with fail;clear bA M G F S H;clear gA gC gE gI gO gR gS dA;have cL:=fP wr (aA #[L O b7,L O bI,L O c7,L O c8,D bX bW bT,L O c9,aB f0] 67);have cH:=l cL.size;have cW:=l (h1.o.trans (cL.mono h1.o.size));have f1:=l (h2.o.on cL);have e5:=l (jY.o.on cL);have f6:=l (d2.o.on cL);have f2:=l (Bk.dK h0.o cL);have fR:=l (Bk.dK fN.o cL);clear h1 h2 jY d2 h0 fN;clear cL;have hL:=l (dR wr #[L O b7,L O bI,L O c7,L O c8,D bX bW bT,L O c9,aB f0] 67);generalize wr.alloc (aA #[L O b7,L O bI,L O c7,L O c8,D bX bW bT,L O c9,aB f0] 67)=n7 at *;obtain⟨bA,M,G,F,S,H⟩:=f1.o.fA;obtain⟨lD,nL⟩:=e5.o.cs2;obtain⟨z0,h5,nS,z3,z4,z5,nW⟩:=hL.o.oz;have hE:=l (show e.tree=(b7,bI) from cA.o.1.symm);have hF:=l (show e.up=f0 from cA.o.2.2.2.1.symm);obtain⟨cQ,hW⟩:∃ r,(b7 == c && bI == d)=r:=⟨_,rfl⟩;have o2:=uL b7 bI c d cQ hW;have hD:=l hW;clear hW;cases cQ
      ·go_wp2_with fail
       go_roundw
       case rel=>exact⟨k+1,bE,ls,b6,b5,by omega,by go_num,cW.o,by have:=cH.o; have:=cG.o; omega,f1.o,e5.o,f6.o,f2.o,by rw [cF.o,if_neg (by intro cU; have I:=cU.1; rw [hE.o] at I; have b9:=hD.o; simp at I; simp [I] at b9)]; exact EN.o,fR.o,by rw [cF.o,if_neg (by intro cU; have I:=cU.1; rw [hE.o] at I; have b9:=hD.o; simp at I; simp [I] at b9)]; exact d3.o⟩
       case measure=>simp [intOf]; omega
      ·cases f0
       ·obtain⟨cv,hQ⟩:∃ r,fH mk.1 (c,d) e.p=r:=⟨_,rfl⟩;have h8:=zL me (D no a8 a7) (D a2 a1 T) (D b4 b2 sc) (D b1 a6 aE) (b6,n,b5) bE mk.1 (c,d) (D bX bW bT) e.p n7 (Row.dL f2.o) (EN.o.mono fun _ _ h=>h.on cW.o) (cA.o.2.2.2.2.on cW.o) j2.o m1.o;rw [hQ] at h8;rw [hQ] at cF;clear hQ;go_wp2_with fail;refine h8.mono ?_;rintro nZ d1 ⟨rfl,q⟩;clear h8;clear bA M G F S H lD nL z0 h5 nS z3 z4 z5 nW;have g8:=l (cW.o.trans (q.mono cW.o.size));have h3:=l (f1.o.on q);have hM:=l (e5.o.on q);have hN:=l (f6.o.on q);have h4:=l (Bk.dK f2.o q);have fS:=l (Bk.dK fR.o q);have i8:=l (hL.o.on q);clear cW f1 e5 f6 f2 fR hL;have mB:=l (Y cH.o q.size);clear q cH;have cH:=l mB.o;cases cv
        ·rw [if_pos ⟨by rw [hE.o]; have h:=hD.o; simp at h; rw [h.1,h.2],hF.o,rfl⟩] at cF;have bB:=fP d1 (aA #[] 67);obtain⟨oX,M,cP,g9,k4⟩:=iI nE (w:=d1.alloc (aA #[] 67)) d1.heap.size (dR d1 #[] 67) (aH _) (Row.dL (dK h4.o bB)) (by rw [cM.o]; omega) 27;have cJ:=l (bB.trans (k4.mono bB.size));have l7:=(h3.o.on bB).cell 4;simp only [aj,V,X] at l7;rcases gD g9 with⟨_,cS⟩|⟨g,c6,_,rfl,mW,_,_⟩
         ·rw [cS] at cM;have:=cM.o;simp at this;omega
         rw [cM.o] at cP g9;have cP:(Builtin.append_ #[27,27] 27 #[D (Z ⟨d1.heap.size,0,U⟩) 0 0,D b6 n b5]).run aF (d1.alloc (aA #[] 67))=.ok (D (Z ⟨g,0,U⟩) n c6) M:=cP;have j0:=l (dO g9 (show w.heap.size+4<=d1.heap.size from by have:=cH.o; have:=cG.o; omega));have i7:=l (Y mW (aH g));clear g9 k4 bB;have m2:=l (fS.o);have lB:=l (g8.o.trans (cJ.o.mono g8.o.size));have eW:=l (h3.o.on cJ.o);have k0:=l (hM.o.on cJ.o);have j5:=l (hN.o.on cJ.o);have m5:=l (Bk.dK h4.o cJ.o);have k1:=l (Bk.dK fS.o cJ.o);have n5:=l (i8.o.on cJ.o);clear g8 h3 hM hN h4 fS i8;have j8:=l (Y cH.o cJ.o.size);obtain⟨bA,M,G,F,S,H⟩:=eW.o.fA;obtain⟨n8,n9,nA,nB,m4,nF⟩:=eW.o.kg;have n2:=eW.o.lt;go_upto_region 15 with (first | (at_builtin; refine wpList_append_run rfl _ _ 27 rfl rfl rfl cP ?_) | fail)
         clear bA M G F S H n8 n9 nA nB m4 nF;clear n2 cP l7;have hH:=eD (k:=4) eW.o (D (Z ⟨g,0,U⟩) n c6);simp only [List.setIfInBounds_toArray,List.set_cons_zero,List.set_cons_succ] at hH;have h6:=eH M w.heap.size 4 (D (Z ⟨g,0,U⟩) n c6);have i5:=l (lB.o.setCell (p:=⟨w.heap.size,4,U⟩) (aH _) (D (Z ⟨g,0,U⟩) n c6));have hI:=l hH;have jD:=l (h6.box k0.o (by omega));have jI:=l (h6.box j5.o (by omega));have h9:=l (eF j0.o w.heap.size 4 (D (Z ⟨g,0,U⟩) n c6) (by omega));have fL:=l (eF k1.o w.heap.size 4 (D (Z ⟨g,0,U⟩) n c6) (by omega));have j9:=l (show wr.heap.size<=(M.setCell ⟨w.heap.size,4,U⟩ (D (Z ⟨g,0,U⟩) n c6)).heap.size from by have:=j8.o; simpa using this);clear hH h6 j0 j8 lB eW k0 j5 m5 k1 n5;generalize M.setCell ⟨w.heap.size,4,U⟩ (D (Z ⟨g,0,U⟩) n c6)=G at *;have m6:=Tw h9.o lO.o;obtain⟨hZ,u2,u3⟩:=m6;simp only at hZ u2;have dA:=oI nE g k n c6 g4;have dA:∀ w,(Instr.indexAt 27 (D (Z ⟨g,0,U⟩) n c6) (L O (k:Int))).run aF w=.ok (.pointer (Z ⟨g,k * 7,U⟩)) w:=dA;have S:=hI.o.cell 4;simp only [aj,V,X] at S;have j3:=l hZ;clear hZ;have mV:g<G.heap.size:=by obtain⟨cur,q⟩:=jX h9.o; exact q.lt
         go_upto_region 16 with fail;clear u2 u3 S mV;have f4:=eH G g (k * 7+6) (aB ay);have f8:=l (show w.heap.size+4<=g from by have:=cH.o; have:=cG.o; have:=i7.o; omega);have i6:=l (i5.o.setCell (p:=⟨g,k * 7+6,U⟩) (by have:=f8.o; show w.heap.size<=g; omega) (aB ay));have jV:=l (f4.box hI.o (by have:=f8.o; omega));have mD:=l (f4.box jD.o (by have:=f8.o; omega));have mH:=l (f4.box jI.o (by have:=f8.o; omega));have iG:=l (show u13.ownBlock=U\/u13.ownBlock≠Z g from by
          cases hV:u13.ownBlock with
          | none=>exact Or.inl rfl
          | some j =>
           refine Or.inr fun e=>?_;injection e with e
           have I:=(m2.o.lt j hV).2;have b9:=i7.o;omega)
         have hA:=l (fL.o.kept (w':=G.setCell ⟨g,k * 7+6,U⟩ (aB ay)) (row:=Z g) ⟨rfl,rfl,rfl,by simp [World.setCell],fun j _ d9=>RowKit.Below.heap_setCell _ _ _ _ (fun e=>d9 (by rw [e]))⟩ iG.o);have jB:=l (show wr.heap.size<=(G.setCell ⟨g,k * 7+6,U⟩ (aB ay)).heap.size from by have:=j9.o; simpa using this);clear f4 i5 hI jD jI h9 fL j9;generalize G.setCell ⟨g,k * 7+6,U⟩ (aB ay)=F at *;have j4:=j3.o;have l1:(bE.set k (b7,bI,c7,c8,(bX,bW,bT),c9,ay))[k]?=Z (b7,bI,c7,c8,(bX,bW,bT),c9,ay):=List.getElem?_set_self (by rw [cM.o]; exact g4);have cN:∀ j u,(jE (b7,bI,c7,c8,(bX,bW,bT),c9,ay))[j]?=Z u->F.cell? ((⟨g,k * 7,U⟩:Addr).add j)=Z u:=kR nE j4 l1 F (Below.refl _ _);have mI:=cN 0 _ rfl;have mK:=cN 1 _ rfl;have mL:=cN 2 _ rfl;have mM:=cN 3 _ rfl;have mN:=cN 4 _ rfl;have mS:=cN 5 _ rfl;have mT:=cN 6 _ rfl;simp [Addr.add] at mI mK mL mM mN mS mT;have S:=jV.o.cell 4;simp only [aj,V,X] at S;have kA:=jL nE F [(b7,bI,c7,c8,(bX,bW,bT),c9,ay)] 1 rfl (by simp) #[L O b7,L O bI,L O c7,L O c8,D bX bW bT,L O c9,aB ay] rfl;have bB:=fP F (aA #[L O b7,L O bI,L O c7,L O c8,D bX bW bT,L O c9,aB ay] 67);have hB:w.heap.size+4<=(F.alloc (aA #[L O b7,L O bI,L O c7,L O c8,D bX bW bT,L O c9,aB ay] 67)).heap.size:=Y (Y cG.o jB.o) bB.size;obtain⟨n6,H,dE,l8,e7⟩:=iC nE (w.heap.size+4) (dK hA.o bB) (Row.dL kA) (by have:=lR.o; omega) (by simp) hB 27;have dE:(Builtin.append_ #[27,27] 27 #[u13,D (Z ⟨F.heap.size,0,U⟩) 1 1]).run aF (F.alloc (aA #[L O b7,L O bI,L O c7,L O c8,D bX bW bT,L O c9,aB ay] 67))=.ok n6 H:=dE;have lL:=l (show Below w.heap.size w H from ((i6.o.trans (bB.mono i6.o.size)).grown e7 (by omega) fun j g2=>by have:=((dK hA.o bB).lt j g2).1; omega));have i2:=l (show ∀ j,j<F.heap.size->Z j≠u13.ownBlock->H.heap[j]?=F.heap[j]? from fun j g2 d9=>(e7.block j (Nat.lt_of_lt_of_le g2 bB.size) d9).trans (bB.block j g2));have fV:=fun (e6:Nat) (cs:Array Value) (l9:TypeId) (o1:e6<w.heap.size+4) (e8:dN F e6 cs l9)=>show dN H e6 cs l9 from (i2.o e6 e8.lt (fun e=>by have:=(hA.o.lt e6 e.symm).1; omega)).trans e8;have m7:=l (fV _ _ _ (by omega) jV.o);have m8:=l (fV _ _ _ (by omega) mD.o);have m9:=l (fV _ _ _ (by omega) mH.o);have m3:=l (show jJ H (w.heap.size+4) (D (Z ⟨g,0,U⟩) n c6) (bE.set k (b7,bI,c7,c8,(bX,bW,bT),c9,ay)) from by
          have I:=Bk.dK j3.o bB;exact I.kept e7 (by
           cases hV:u13.ownBlock with
           | none=>exact Or.inr (by simp [Value.ownBlock])
           | some j =>
            refine Or.inr fun e=>?_;have b9:=iG.o;rw [hV] at b9;rcases b9 with b9|b9
            ·cases b9
            ·exact b9 (by rw [<- e]; rfl)))
         have lX:=l l8;have mA:=l (Y jB.o (Y bB.size e7.size));clear kA hB l8 e7 fV i2 j4 bB l1 cN;go_wp2_with (first | (at_builtin; refine wpList_append_run rfl _ _ 27 rfl rfl rfl dE ?_) | fail)
         go_roundw
         case rel=>exact⟨k+1,_,_,Z ⟨g,0,U⟩,c6,by omega,by go_num,lL.o,by have:=cG.o; have:=mA.o; omega,m7.o,m8.o,m9.o,m3.o,by
          rw [cF.o];exact EN.o.set2 k ⟨cA.o.1,cA.o.2.1,cA.o.2.2.1,rfl,cA.o.2.2.2.2⟩,lX.o,by
          rw [cF.o];exact d3.o.append (.cons ⟨cA.o.1,cA.o.2.1,cA.o.2.2.1,rfl,cA.o.2.2.2.2⟩ .nil)⟩
         case measure=>simp [intOf]; omega
        ·go_wp2_with fail
         go_roundw
         case rel=>exact⟨k+1,bE,ls,b6,b5,by omega,by go_num,g8.o,by have:=cH.o; have:=cG.o; omega,h3.o,hM.o,hN.o,h4.o,by rw [cF.o,if_neg (by simp)]; exact EN.o,fS.o,by rw [cF.o,if_neg (by simp)]; exact d3.o⟩
         case measure=>simp [intOf]; omega
       ·go_wp2_with fail
        go_roundw
        case rel=>exact⟨k+1,bE,ls,b6,b5,by omega,by go_num,cW.o,by have:=cH.o; have:=cG.o; omega,f1.o,e5.o,f6.o,f2.o,by rw [cF.o,if_neg (by intro cU; have I:=cU.2.1; rw [hF.o] at I; cases I)]; exact EN.o,fR.o,by rw [cF.o,if_neg (by intro cU; have I:=cU.2.1; rw [hF.o] at I; cases I)]; exact d3.o⟩
        case measure=>simp [intOf]; omega
     ·obtain rfl:k=n:=by omega
      obtain⟨bA,M,G,F,S,H⟩:=h2.o.fA;obtain⟨la,l6,kB⟩:=(Row.dL fN.o).len;obtain⟨ln,eB⟩:∃ n,n=ls.length:=⟨_,rfl⟩;rw [<- eB] at kB;subst kB;clear eB;obtain⟨eN,cQ,eQ,eR,eS,r5⟩:=d2.o.fA;obtain⟨dT,dZ,e0,e1,e2,e3⟩:=d2.o.kg;have f3:=d2.o.lt;have cR:=l (dM d2.o (L O me) (D no a8 a7) (D a2 a1 T) (D b4 b2 sc) (D b6 k b5) (D b1 a6 aE));have bM:=l (dJ (b:=w.heap.size+1+1+1) h1.o (by omega) (L O me) (D no a8 a7) (D a2 a1 T) (D b4 b2 sc) (D b6 k b5) (D b1 a6 aE));have hG:=l (fJ h0.o (w.heap.size+1+1+1) (by omega) (L O me) (D no a8 a7) (D a2 a1 T) (D b4 b2 sc) (D b6 k b5) (D b1 a6 aE));have fL:=l (fJ fN.o (w.heap.size+1+1+1) (by omega) (L O me) (D no a8 a7) (D a2 a1 T) (D b4 b2 sc) (D b6 k b5) (D b1 a6 aE));go_wp2_with fail;obtain⟨v0,cY,d0,v3,v4,v5⟩:=cR.o.fA;refine aG (v:=.tuple #[aK #[L O me,D no a8 a7,D a2 a1 T,D b4 b2 sc,D b6 k b5,D b1 a6 aE],D la ln l6,aB ay]) (by simp [results,aC,go_sem,v0,cY,d0,v3,v4,v5]) rfl ?_;rw [cC.o];have cI:=e4.o.on bM.o;exact⟨⟨(b6,k,b5),(la,ln,l6),rfl,⟨cI.near,cI.dQ,cI.seen,⟨bE,Row.dL hG.o,EN.o.mono fun _ _ h=>h.on bM.o⟩,cI.own⟩,ls,Row.dL fL.o,d3.o.mono fun _ _ h=>h.on bM.o⟩,bM.o⟩
  ·rw [if_pos g6] at cC;have d9:(fr != f)=ay:=by simp [g6]
   obtain⟨bA,M,G,F,S,H⟩:=dC.o.fA;obtain⟨eN,cQ,eQ,eR,eS,r5⟩:=bC.o.fA;obtain⟨dT,dZ,e0,e1,e2,e3⟩:=bC.o.kg;have f3:=bC.o.lt;have cR:=l (dM bC.o (L O me) (D no a8 a7) (D a2 a1 T) (D b4 b2 sc) (D bP cD bO) (D b1 a6 aE));have bM:=l (dJ (b:=w.heap.size+1+1+1) eE.o (by omega) (L O me) (D no a8 a7) (D a2 a1 T) (D b4 b2 sc) (D bP cD bO) (D b1 a6 aE));go_wp2_with fail;obtain⟨v0,cY,d0,v3,v4,v5⟩:=cR.o.fA;refine aG (v:=.tuple #[aK #[L O me,D no a8 a7,D a2 a1 T,D b4 b2 sc,D bP cD bO,D b1 a6 aE],D U 0 0,aB ak]) (by simp [results,aC,go_sem,v0,cY,d0,v3,v4,v5]) rfl ?_;rw [cC.o];exact⟨⟨(bP,cD,bO),(U,0,0),rfl,e4.o.on bM.o,[],jK _,.nil⟩,bM.o⟩
end Bk
end Go.Proofs.YtghlpefopidlaaaGreat
