/-
  Chapter 13's runs: C. Conditions as told.
-/
import Derived.Test.YtkcfgbddlpomgaaGreatLQ046
import Derived.Test.YtkcfgbddlpomgaaGreatLQ045
set_option maxRecDepth 100000
set_option maxHeartbeats 64000000
open _root_.Bool renaming false->Z
open Go.IntKind renaming i64->V
open Go.Lib renaming hid->D
open Go.Proofs.YtkcfgbddlpomgaaGreat.Av renaming gq->Q
open Go.Value renaming slice->J,int->U,string->X
open _root_.List renaming getElem?_cons_zero->K,getElem?_cons_succ->L,getElem?_toArray->O,mem_singleton->ah
open _root_.Option renaming none->Y
namespace Go.Proofs.YtkcfgbddlpomgaaGreat.Ca
open Go.RowKit Go.Sort Rw YtkcfgbddlpomgaaGreat.Nm Pr Bk Av Rl Sb Fl
theorem Xn (n:ByteArray) (k:Kd) (h1:A8 (n,k)=true) (h2:Jl (n,k)):NF [(n,k)] :=
 ⟨List.pairwise_singleton _ _,by simp,by simpa using h1,by simpa using h2⟩
theorem afZ {W:World} {lx:List mU} {k:Int} {t x:eG} {l:List An} {n:Int} (h:eu (Ym W) lx (AV k t x l [n])):∃ x0,lx=[x0]/\x0.1=n:=by
 match lx,h with
 | [a],.cons q0 .nil=>exact⟨a,rfl,q0.1⟩
def cN:Cn:=(⟨#[97]⟩,.rg 1 2)
abbrev cP:List C5:=[r5 cN]
abbrev cr1:Br:=⟨0,[2,3],[⟨(1,0),[],-1⟩],[(1,0)],[⟨(1,0),(5,0),[],2,Z⟩],[]⟩
abbrev cr2:Br:=⟨0,[2,3],[⟨(1,0),[],-1⟩],[(1,0)],[⟨(1,0),(5,0),[],2,Z⟩,⟨(1,0),(6,0),cP,3,Z⟩],[]⟩
theorem Xo:gP Xm ⟨(1,0),(5,0),[],2,Z⟩=(cr1,Z):=rfl
theorem Xp:gP cr1 ⟨(1,0),(6,0),cP,3,Z⟩=(cr2,Z):=rfl
theorem EH:dQ []:=⟨[],⟨List.Pairwise.nil,by simp,by simp,by simp⟩,rfl⟩
theorem Zl:dQ cP:=⟨[cN],Xn _ _ (by decide) ⟨by decide,by decide,by decide,by decide⟩,rfl⟩
theorem Xq:Py Xm:=⟨by simp,by simp,by simp,by simp,by simp⟩
theorem Uv:xC Xm:=⟨by simp,by simp,by simp⟩
theorem Xr:Py cr1:=⟨by simp,by simp,by simp,by simp,by simp⟩
theorem Uw:xC cr1:=⟨by simp,by simp,by simp⟩
theorem abI:∀ e∈cr1.ent,dQ e.p:=by intro o ho; rw [ah.1 ho]; exact EH
theorem Mx:sV cr2:=⟨(zq _).1 (by decide +kernel),⟨by simp,by simp,by simp,by simp,by simp⟩,⟨by simp,by simp,by simp⟩,by
 intro o ho;rcases List.mem_cons.1 ho with rfl|ho
 ·exact EH
 ·rw [ah.1 ho]; exact Zl,by simp,by simp,by simp⟩
theorem MF:NL []:=⟨List.Pairwise.nil,by simp,by simp⟩
theorem Xt:jX cr2 (-1) (1,0) []=([2],[]):=by decide +kernel
theorem Xu:jX cr2 2 (1,0) []=([],[]):=by decide +kernel
theorem Dl (w:World):Calls Tryz.prog 15 #[] w fun e w'=>e=.returned (.bool true)/\Below w.heap.size w w':=by
 have h0:=fO w (.cells #[U V 1,U V 0] 38);have h1:=dK w #[U V 1,U V 0] 38;have gD:=D (h0);have JZ:=D (h1);clear h0 h1;have S3:=D (show (w.alloc (.cells #[U V 1,U V 0] 38)).heap.size=w.heap.size+1 from by simp);go_enter Tryz.func15,Tryz.ntmps15;go_upto_region 2 with fail;generalize w.alloc (.cells #[U V 1,U V 0] 38)=W at *;refine afX _ W w.heap.size _ _ _ _ _ _ _ _ _ _ _ _ _ _ _ _ _ _ _ _ _ _ _ _ _ _ _ _ _ _ _ _ _ _ _ _ _ _ _ _ _ _ _ _ _ _ _ _ _ _ _ _ _ _ _ _ _ _ _ _ _ _ _ _ _ _ _ _ _ _ _ JZ.out ?_;intro x bb v10 v11 v12 v13 v14 v15 v16 v17 m1 m2 m3 m4 m5 m6 m7 m8 m9 m10 m11 m12 m13 m14 m15 hbb lK hbr hbel;have abJ:=D (gD.out.trans (hbel.mono gD.out.size));have aea:=D (JZ.out.on hbel);clear gD JZ;have aeb:=D (lK);have Ux:=D (hbr);have BL:=D (show w.heap.size+1<=bb by have:=S3.out; omega);clear hbb lK hbr hbel;go_upto_region 4 with fail;have NN:=fO x (.cells #[X ⟨#[97]⟩,U V 1,U V 1,U V 2,X ⟨#[]⟩] 106);have hlit:=gZ Ba x cP 1 rfl (by simp) #[X ⟨#[97]⟩,U V 1,U V 1,U V 2,X ⟨#[]⟩] rfl;have hlit:jO (x.alloc (.cells #[X ⟨#[97]⟩,U V 1,U V 1,U V 2,X ⟨#[]⟩] 106)) x.heap.size (J (some ⟨x.heap.size,0,Y⟩) 1 1) cP:=hlit;have iQ:=D (abJ.out.trans (NN.mono abJ.out.size));have Xv:=D (aea.out.on NN);have abK:=D (aeb.out.on NN);have Ez:=D (Ux.out.on NN);clear abJ aea aeb Ux;have aec:=D (Row.dw hlit);clear NN hlit;generalize x.alloc (.cells #[X ⟨#[97]⟩,U V 1,U V 1,U V 2,X ⟨#[]⟩] 106)=y0 at *;generalize x.heap.size=bc at *;obtain⟨xG,xH,xI,xJ,xK,xL⟩:=abK.out.eZ;have x10:=Xv.out.cell 0;have x11:=Xv.out.cell 1;simp only [O,K,L] at x10 x11;go_wp2_with fail;refine (Ir Xm ⟨(1,0),(5,0),[],2,Z⟩ (m1,m2,m3) (m4,m5,m6) (m7,m8,m9) (m10,m11,m12) (m13,m14,m15) (1,0,5,0,(Y,0,0),2,Z) y0 Ez.out.br ⟨rfl,rfl,rfl,rfl,jg _⟩ Xq Uv ((zq _).1 (by decide +kernel)).ent (by simp) EH).mono ?_;rw [Xo];rintro e1 y1 ⟨⟨⟨n1,n2,n3⟩,⟨n4,n5,n6⟩,⟨n7,n8,n9⟩,⟨n10,n11,n12⟩,⟨n13,n14,n15⟩,rfl,hbi,hno⟩,hb⟩;clear xG xH xI xJ xK xL x10 x11;have hbn:xD y1 cr1 (n1,n2,n3) (n4,n5,n6) (n7,n8,n9) (n10,n11,n12) (n13,n14,n15):=⟨hbi,hno Ez.out.no⟩;clear Ez;have lN:=D (iQ.out.trans (hb.mono iQ.out.size));have aed:=D (Xv.out.on hb);have AX:=D (abK.out.on hb);have aee:=D (aec.out.on hb);clear iQ Xv abK aec;have Uy:=D hbn;clear hbi hno hbn hb;have aef:=D Uy.out;clear Uy;obtain⟨k0,k1,k2,k3,k4,k5⟩:=AX.out.eZ;obtain⟨pQ,pR,pU,pV,pW,pX⟩:=AX.out.ku;have zz:=AX.out.lt;have bs:=Q y1 bb (U V 0) (J n1 n2 n3) (J n4 n5 n6) (J n7 n8 n9) (J n10 n11 n12) (J n13 n14 n15);have G0:=D (dB (b:=bb) lN.out (by have:=BL.out; omega) (U V 0) (J n1 n2 n3) (J n4 n5 n6) (J n7 n8 n9) (J n10 n11 n12) (J n13 n14 n15));have G1:=D (bs.box aed.out (by have:=BL.out; omega));have G2:=D (aef.out.keep (s1:=(m1,m2,m3)) (s2:=(m4,m5,m6)) (s3:=(m7,m8,m9)) (s4:=(m10,m11,m12)) (s5:=(m13,m14,m15)) (me:=0) AX.out bs);have G3:=D (gK Ba aee.out bs.1 (ny AX.out (nA 0 (m1,m2,m3) (m4,m5,m6) (m7,m8,m9) (m10,m11,m12) (m13,m14,m15))));have G4:=D (dJ AX.out (U V 0) (J n1 n2 n3) (J n4 n5 n6) (J n7 n8 n9) (J n10 n11 n12) (J n13 n14 n15));clear bs lN aed aef aee AX;go_upto_region 5 with fail;clear zz k0 k1 k2 k3 k4 k5 pQ pR pU pV pW pX;unfold gN at G0 G1 G2 G3 G4;generalize ((((((y1.setCell ⟨bb,0,Y⟩ (U V 0)).setCell ⟨bb,1,Y⟩ (J n1 n2 n3)).setCell ⟨bb,2,Y⟩ (J n4 n5 n6)).setCell ⟨bb,3,Y⟩ (J n7 n8 n9)).setCell ⟨bb,4,Y⟩ (J n10 n11 n12)).setCell ⟨bb,5,Y⟩ (J n13 n14 n15))=y2 at *;have kV:=D (G0.out);have vB:=D (G1.out);have Dm:=D (G2.out);have Uz:=D (G3.out);have UA:=D (G4.out);clear G0 G1 G2 G3 G4;obtain⟨xG,xH,xI,xJ,xK,xL⟩:=UA.out.eZ;have x10:=vB.out.cell 0;have x11:=vB.out.cell 1;simp only [O,K,L] at x10 x11;go_wp2_with fail;refine (Ir cr1 ⟨(1,0),(6,0),cP,3,Z⟩ (n1,n2,n3) (n4,n5,n6) (n7,n8,n9) (n10,n11,n12) (n13,n14,n15) (1,0,6,0,(some ⟨bc,0,Y⟩,1,1),3,Z) y2 Dm.out.br ⟨rfl,rfl,rfl,rfl,Uz.out⟩ Xr Uw ((zq _).1 (by decide +kernel)).ent abI Zl).mono ?_;rw [Xp];rintro e2 y3 ⟨⟨⟨l1,l2,l3⟩,⟨l4,l5,l6⟩,⟨l7,l8,l9⟩,⟨l10,l11,l12⟩,⟨l13,l14,l15⟩,rfl,hbi,hno⟩,hb⟩;clear xG xH xI xJ xK xL x10 x11;have hbn:xD y3 cr2 (l1,l2,l3) (l4,l5,l6) (l7,l8,l9) (l10,l11,l12) (l13,l14,l15):=⟨hbi,hno Dm.out.no⟩;clear Dm;have oQ:=D (kV.out.trans (hb.mono kV.out.size));have Ig:=D (vB.out.on hb);have qC:=D (UA.out.on hb);have Zm:=D (Uz.out.on hb);clear kV vB UA Uz;have Uy:=D hbn;clear hbi hno hbn hb;have Zn:=D Uy.out;clear Uy;obtain⟨k0,k1,k2,k3,k4,k5⟩:=qC.out.eZ;obtain⟨pQ,pR,pU,pV,pW,pX⟩:=qC.out.ku;have zz:=qC.out.lt;have bs:=Q y3 bb (U V 0) (J l1 l2 l3) (J l4 l5 l6) (J l7 l8 l9) (J l10 l11 l12) (J l13 l14 l15);have G0:=D (dB (b:=bb) oQ.out (by have:=BL.out; omega) (U V 0) (J l1 l2 l3) (J l4 l5 l6) (J l7 l8 l9) (J l10 l11 l12) (J l13 l14 l15));have G1:=D (bs.box Ig.out (by have:=BL.out; omega));have G2:=D (Zn.out.keep (s1:=(n1,n2,n3)) (s2:=(n4,n5,n6)) (s3:=(n7,n8,n9)) (s4:=(n10,n11,n12)) (s5:=(n13,n14,n15)) (me:=0) qC.out bs);have G3:=D (gK Ba Zm.out bs.1 (ny qC.out (nA 0 (n1,n2,n3) (n4,n5,n6) (n7,n8,n9) (n10,n11,n12) (n13,n14,n15))));have G4:=D (dJ qC.out (U V 0) (J l1 l2 l3) (J l4 l5 l6) (J l7 l8 l9) (J l10 l11 l12) (J l13 l14 l15));clear bs oQ Ig Zn Zm qC;go_upto_region 6 with fail;clear zz k0 k1 k2 k3 k4 k5 pQ pR pU pV pW pX;unfold gN at G0 G1 G2 G3 G4;generalize ((((((y3.setCell ⟨bb,0,Y⟩ (U V 0)).setCell ⟨bb,1,Y⟩ (J l1 l2 l3)).setCell ⟨bb,2,Y⟩ (J l4 l5 l6)).setCell ⟨bb,3,Y⟩ (J l7 l8 l9)).setCell ⟨bb,4,Y⟩ (J l10 l11 l12)).setCell ⟨bb,5,Y⟩ (J l13 l14 l15))=y4 at *;have UC:=D (G0.out);have MG:=D (G1.out);have UD:=D (G2.out);have aeg:=D (G3.out);have Ag:=D (G4.out);clear G0 G1 G2 G3 G4;clear aeg;obtain⟨xG,xH,xI,xJ,xK,xL⟩:=Ag.out.eZ;have x10:=MG.out.cell 0;have x11:=MG.out.cell 1;simp only [O,K,L] at x10 x11;go_wp2_with fail;refine (Ac cr2 (l1,l2,l3) (l4,l5,l6) (l7,l8,l9) (l10,l11,l12) (l13,l14,l15) (-1) 5 (1,0) (1,7) (Y,0,0) [] y4 UD.out.br Mx (Or.inl ⟨rfl,rfl⟩) MF).mono ?_;rw [Xt];rintro e3 y5 ⟨⟨⟨o1,o2,o3⟩,⟨d1,d2,d3⟩,rfl,⟨lx,hox,hoa⟩,ly,hgx,hga⟩,hb⟩;clear xG xH xI xJ xK xL x10 x11;have UF:=D (UC.out.trans (hb.mono UC.out.size));have MH:=D (MG.out.on hb);have UH:=D (Ag.out.on hb);have UJ:=D (UD.out.on hb);clear UC MG Ag UD;obtain rfl:o2=1:=by have h1:=zZ hoa; have h2:lx.length=o2:=kQ (Row.dw hox); rw [<- h2,h1]; rfl
 obtain rfl:d2=0:=by have h1:=Ip hga; have h2:ly.length=d2:=kQ (Row.dw hgx); rw [<- h2,h1]; rfl
 obtain⟨x0,rfl,hx0⟩:=afZ hoa;have IC:=D (Row.dw hox);have HX0:=D hx0;clear hox hoa hgx hga hx0 hb;obtain⟨xG,xH,xI,xJ,xK,xL⟩:=UH.out.eZ;have x10:=MH.out.cell 0;have x11:=MH.out.cell 1;simp only [O,K,L] at x10 x11;go_wp2_with fail;refine (Ac cr2 (l1,l2,l3) (l4,l5,l6) (l7,l8,l9) (l10,l11,l12) (l13,l14,l15) 2 5 (1,0) (0,0) (Y,0,0) [] y5 UJ.out.br Mx (Or.inl ⟨rfl,rfl⟩) MF).mono ?_;rw [Xu];rintro e4 y6 ⟨⟨⟨p1,p2,p3⟩,⟨q1,q2,q3⟩,rfl,⟨lx2,hox,hoa⟩,ly2,hgx,hga⟩,hb⟩;clear xG xH xI xJ xK xL x10 x11;have aeh:=D (UF.out.trans (hb.mono UF.out.size));have ahf:=D (MH.out.on hb);have ahg:=D (UH.out.on hb);have ahh:=D (UJ.out.on hb);have aei:=D (IC.out.on hb);clear UF MH UH UJ IC;obtain rfl:p2=0:=by have h1:=zZ hoa; have h2:lx2.length=p2:=kQ (Row.dw hox); rw [<- h2,h1]; rfl
 clear hox hoa hgx hga hb;obtain⟨px,ix,qx⟩:=elU (k:=0) aei.out rfl rfl rfl;have p0:=(qx y6 (Below.refl _ _)).1;rw [HX0.out] at p0
 replace ix:∀ w,(Instr.indexAt 44 (J o1 1 o3) (U V 0)).run Tryz.prog w=.ok (.pointer (some px)) w:=ix
 clear qx;go_wp2;go_ret;exact⟨rfl,aeh.out⟩
end Go.Proofs.YtkcfgbddlpomgaaGreat.Ca
