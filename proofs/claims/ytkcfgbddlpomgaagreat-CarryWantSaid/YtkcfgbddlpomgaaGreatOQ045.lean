/-
  Chapter 13's runs: C. Conditions as told.
-/
import Derived.Test.YtkcfgbddlpomgaaGreatOQ044
import Derived.Test.YtkcfgbddlpomgaaGreatOQ043
import Derived.Test.YtkcfgbddlpomgaaGreatOQ038
set_option maxRecDepth 100000
set_option maxHeartbeats 64000000
open _root_.Bool renaming false->Z
open Go.IntKind renaming i64->V
open Go.Lib renaming hid->D
open Go.Proofs.YtkcfgbddlpomgaaGreat.Av renaming fZ->Q
open Go.Value renaming slice->J,int->U,string->X
open _root_.List renaming getElem?_cons_zero->K,getElem?_cons_succ->L,getElem?_toArray->O,mem_singleton->ah
open _root_.Option renaming none->Y
namespace Go.Proofs.YtkcfgbddlpomgaaGreat.Ca
open Go.RowKit Go.Sort Rw YtkcfgbddlpomgaaGreat.Nm Pr Bk Av Rl Sb Fl
theorem ZK (n:ByteArray) (k:Kd) (h1:Di (n,k)=true) (h2:KF (n,k)):NF [(n,k)] :=
 ⟨List.pairwise_singleton _ _,by simp,by simpa using h1,by simpa using h2⟩
theorem aji {W:World} {lx:List qd} {k:Int} {t x:eT} {l:List An} {n:Int} (h:eH (OuA W) lx (Gx k t x l [n])):∃ x0,lx=[x0]/\x0.1=n:=by
 match lx,h with
 | [a],.cons q0 .nil=>exact⟨a,rfl,q0.1⟩
def cN:Cn:=(⟨#[97]⟩,.rg 1 2)
abbrev cP:List C5:=[r5 cN]
abbrev cr1:Br:=⟨0,[2,3],[⟨(1,0),[],-1⟩],[(1,0)],[⟨(1,0),(5,0),[],2,Z⟩],[]⟩
abbrev cr2:Br:=⟨0,[2,3],[⟨(1,0),[],-1⟩],[(1,0)],[⟨(1,0),(5,0),[],2,Z⟩,⟨(1,0),(6,0),cP,3,Z⟩],[]⟩
theorem ZM:fG ZJ ⟨(1,0),(5,0),[],2,Z⟩=(cr1,Z):=rfl
theorem ZN:fG cr1 ⟨(1,0),(6,0),cP,3,Z⟩=(cr2,Z):=rfl
theorem GI:dW []:=⟨[],⟨List.Pairwise.nil,by simp,by simp,by simp⟩,rfl⟩
theorem abD:dW cP:=⟨[cN],ZK _ _ (by decide) ⟨by decide,by decide,by decide,by decide⟩,rfl⟩
theorem ZO:Kw ZJ:=⟨by simp,by simp,by simp,by simp,by simp⟩
theorem Xp:wL ZJ:=⟨by simp,by simp,by simp⟩
theorem ZR:Kw cr1:=⟨by simp,by simp,by simp,by simp,by simp⟩
theorem Xq:wL cr1:=⟨by simp,by simp,by simp⟩
theorem aek:∀ e∈cr1.ent,dW e.p:=by intro o ho; rw [ah.1 ho]; exact GI
theorem O8:qU cr2:=⟨(AP _).1 (by decide +kernel),⟨by simp,by simp,by simp,by simp,by simp⟩,⟨by simp,by simp,by simp⟩,by
 intro o ho;rcases List.mem_cons.1 ho with rfl|ho
 ·exact GI
 ·rw [ah.1 ho]; exact abD,by simp,by simp,by simp⟩
theorem O9:NL []:=⟨List.Pairwise.nil,by simp,by simp⟩
theorem ZT:qO cr2 (-1) (1,0) []=([2],[]):=by decide +kernel
theorem ZU:qO cr2 2 (1,0) []=([],[]):=by decide +kernel
theorem nK (w:World):Calls Tryz.prog 15 #[] w fun e w'=>e=.returned (.bool true)/\Below w.heap.size w w':=by
 have h0:=fI w (.cells #[U V 1,U V 0] 38);have h1:=dO w #[U V 1,U V 0] 38;have gU:=D (h0);have Mk:=D (h1);clear h0 h1;have S3:=D (show (w.alloc (.cells #[U V 1,U V 0] 38)).heap.size=w.heap.size+1 from by simp);go_enter Tryz.func15,Tryz.ntmps15;go_upto_region 2 with fail;generalize w.alloc (.cells #[U V 1,U V 0] 38)=W at *;refine ajg _ W w.heap.size _ _ _ _ _ _ _ _ _ _ _ _ _ _ _ _ _ _ _ _ _ _ _ _ _ _ _ _ _ _ _ _ _ _ _ _ _ _ _ _ _ _ _ _ _ _ _ _ _ _ _ _ _ _ _ _ _ _ _ _ _ _ _ _ _ _ _ _ _ _ _ Mk.out ?_;intro x bb v10 v11 v12 v13 v14 v15 v16 v17 m1 m2 m3 m4 m5 m6 m7 m8 m9 m10 m11 m12 m13 m14 m15 hbb ku hbr hbel;have ael:=D (gU.out.trans (hbel.mono gU.out.size));have agU:=D (Mk.out.on hbel);clear gU Mk;have agV:=D (ku);have agW:=D (hbr);have BL:=D (show w.heap.size+1<=bb by have:=S3.out; omega);clear hbb ku hbr hbel;go_upto_region 4 with fail;have NN:=fI x (.cells #[X ⟨#[97]⟩,U V 1,U V 1,U V 2,X ⟨#[]⟩] 106);have hlit:=iD Dk x cP 1 rfl (by simp) #[X ⟨#[97]⟩,U V 1,U V 1,U V 2,X ⟨#[]⟩] rfl;have hlit:jP (x.alloc (.cells #[X ⟨#[97]⟩,U V 1,U V 1,U V 2,X ⟨#[]⟩] 106)) x.heap.size (J (some ⟨x.heap.size,0,Y⟩) 1 1) cP:=hlit;have jD:=D (ael.out.trans (NN.mono ael.out.size));have ZV:=D (agU.out.on NN);have aem:=D (agV.out.on NN);have GH:=D (agW.out.on NN);clear ael agU agV agW;have agX:=D (Row.dH hlit);clear NN hlit;generalize x.alloc (.cells #[X ⟨#[97]⟩,U V 1,U V 1,U V 2,X ⟨#[]⟩] 106)=y0 at *;generalize x.heap.size=bc at *;obtain⟨Mw,Mx,MF,MG,MH,MI⟩:=aem.out.fB;have x10:=ZV.out.cell 0;have x11:=ZV.out.cell 1;simp only [O,K,L] at x10 x11;go_wp2_with fail;refine (Cj ZJ ⟨(1,0),(5,0),[],2,Z⟩ (m1,m2,m3) (m4,m5,m6) (m7,m8,m9) (m10,m11,m12) (m13,m14,m15) (1,0,5,0,(Y,0,0),2,Z) y0 GH.out.br ⟨rfl,rfl,rfl,rfl,je _⟩ ZO Xp ((AP _).1 (by decide +kernel)).ent (by simp) GI).mono ?_;rw [ZM];rintro e1 y1 ⟨⟨⟨n1,n2,n3⟩,⟨n4,n5,n6⟩,⟨n7,n8,n9⟩,⟨n10,n11,n12⟩,⟨n13,n14,n15⟩,rfl,hbi,hno⟩,hb⟩;clear Mw Mx MF MG MH MI x10 x11;have hbn:vY y1 cr1 (n1,n2,n3) (n4,n5,n6) (n7,n8,n9) (n10,n11,n12) (n13,n14,n15):=⟨hbi,hno GH.out.no⟩;clear GH;have qj:=D (jD.out.trans (hb.mono jD.out.size));have agY:=D (ZV.out.on hb);have Dc:=D (aem.out.on hb);have agZ:=D (agX.out.on hb);clear jD ZV aem agX;have Xr:=D hbn;clear hbi hno hbn hb;have Xt:=D Xr.out;clear Xr;obtain⟨k0,k1,k2,k3,k4,k5⟩:=Dc.out.fB;obtain⟨rA,rD,rE,rF,rG,rH⟩:=Dc.out.kJ;have zz:=Dc.out.lt;have bs:=Q y1 bb (U V 0) (J n1 n2 n3) (J n4 n5 n6) (J n7 n8 n9) (J n10 n11 n12) (J n13 n14 n15);have G0:=D (dI (b:=bb) qj.out (by have:=BL.out; omega) (U V 0) (J n1 n2 n3) (J n4 n5 n6) (J n7 n8 n9) (J n10 n11 n12) (J n13 n14 n15));have G1:=D (bs.box agY.out (by have:=BL.out; omega));have G2:=D (Xt.out.keep (s1:=(m1,m2,m3)) (s2:=(m4,m5,m6)) (s3:=(m7,m8,m9)) (s4:=(m10,m11,m12)) (s5:=(m13,m14,m15)) (me:=0) Dc.out bs);have G3:=D (iq Dk agZ.out bs.1 (oK Dc.out (oL 0 (m1,m2,m3) (m4,m5,m6) (m7,m8,m9) (m10,m11,m12) (m13,m14,m15))));have G4:=D (dM Dc.out (U V 0) (J n1 n2 n3) (J n4 n5 n6) (J n7 n8 n9) (J n10 n11 n12) (J n13 n14 n15));clear bs qj agY Xt agZ Dc;go_upto_region 5 with fail;clear zz k0 k1 k2 k3 k4 k5 rA rD rE rF rG rH;unfold gY at G0 G1 G2 G3 G4;generalize ((((((y1.setCell ⟨bb,0,Y⟩ (U V 0)).setCell ⟨bb,1,Y⟩ (J n1 n2 n3)).setCell ⟨bb,2,Y⟩ (J n4 n5 n6)).setCell ⟨bb,3,Y⟩ (J n7 n8 n9)).setCell ⟨bb,4,Y⟩ (J n10 n11 n12)).setCell ⟨bb,5,Y⟩ (J n13 n14 n15))=y2 at *;have oG:=D (G0.out);have xE:=D (G1.out);have Xu:=D (G2.out);have Xv:=D (G3.out);have Co:=D (G4.out);clear G0 G1 G2 G3 G4;obtain⟨Mw,Mx,MF,MG,MH,MI⟩:=Co.out.fB;have x10:=xE.out.cell 0;have x11:=xE.out.cell 1;simp only [O,K,L] at x10 x11;go_wp2_with fail;refine (Cj cr1 ⟨(1,0),(6,0),cP,3,Z⟩ (n1,n2,n3) (n4,n5,n6) (n7,n8,n9) (n10,n11,n12) (n13,n14,n15) (1,0,6,0,(some ⟨bc,0,Y⟩,1,1),3,Z) y2 Xu.out.br ⟨rfl,rfl,rfl,rfl,Xv.out⟩ ZR Xq ((AP _).1 (by decide +kernel)).ent aek abD).mono ?_;rw [ZN];rintro e2 y3 ⟨⟨⟨l1,l2,l3⟩,⟨l4,l5,l6⟩,⟨l7,l8,l9⟩,⟨l10,l11,l12⟩,⟨l13,l14,l15⟩,rfl,hbi,hno⟩,hb⟩;clear Mw Mx MF MG MH MI x10 x11;have hbn:vY y3 cr2 (l1,l2,l3) (l4,l5,l6) (l7,l8,l9) (l10,l11,l12) (l13,l14,l15):=⟨hbi,hno Xu.out.no⟩;clear Xu;have BP:=D (oG.out.trans (hb.mono oG.out.size));have JM:=D (xE.out.on hb);have Cq:=D (Co.out.on hb);have abE:=D (Xv.out.on hb);clear oG xE Co Xv;have Xr:=D hbn;clear hbi hno hbn hb;have J6:=D Xr.out;clear Xr;obtain⟨k0,k1,k2,k3,k4,k5⟩:=Cq.out.fB;obtain⟨rA,rD,rE,rF,rG,rH⟩:=Cq.out.kJ;have zz:=Cq.out.lt;have bs:=Q y3 bb (U V 0) (J l1 l2 l3) (J l4 l5 l6) (J l7 l8 l9) (J l10 l11 l12) (J l13 l14 l15);have G0:=D (dI (b:=bb) BP.out (by have:=BL.out; omega) (U V 0) (J l1 l2 l3) (J l4 l5 l6) (J l7 l8 l9) (J l10 l11 l12) (J l13 l14 l15));have G1:=D (bs.box JM.out (by have:=BL.out; omega));have G2:=D (J6.out.keep (s1:=(n1,n2,n3)) (s2:=(n4,n5,n6)) (s3:=(n7,n8,n9)) (s4:=(n10,n11,n12)) (s5:=(n13,n14,n15)) (me:=0) Cq.out bs);have G3:=D (iq Dk abE.out bs.1 (oK Cq.out (oL 0 (n1,n2,n3) (n4,n5,n6) (n7,n8,n9) (n10,n11,n12) (n13,n14,n15))));have G4:=D (dM Cq.out (U V 0) (J l1 l2 l3) (J l4 l5 l6) (J l7 l8 l9) (J l10 l11 l12) (J l13 l14 l15));clear bs BP JM J6 abE Cq;go_upto_region 6 with fail;clear zz k0 k1 k2 k3 k4 k5 rA rD rE rF rG rH;unfold gY at G0 G1 G2 G3 G4;generalize ((((((y3.setCell ⟨bb,0,Y⟩ (U V 0)).setCell ⟨bb,1,Y⟩ (J l1 l2 l3)).setCell ⟨bb,2,Y⟩ (J l4 l5 l6)).setCell ⟨bb,3,Y⟩ (J l7 l8 l9)).setCell ⟨bb,4,Y⟩ (J l10 l11 l12)).setCell ⟨bb,5,Y⟩ (J l13 l14 l15))=y4 at *;have Xw:=D (G0.out);have Pb:=D (G1.out);have ER:=D (G2.out);have ag0:=D (G3.out);have Xx:=D (G4.out);clear G0 G1 G2 G3 G4;clear ag0;obtain⟨Mw,Mx,MF,MG,MH,MI⟩:=Xx.out.fB;have x10:=Pb.out.cell 0;have x11:=Pb.out.cell 1;simp only [O,K,L] at x10 x11;go_wp2_with fail;refine (J5 cr2 (l1,l2,l3) (l4,l5,l6) (l7,l8,l9) (l10,l11,l12) (l13,l14,l15) (-1) 5 (1,0) (1,7) (Y,0,0) [] y4 ER.out.br O8 (Or.inl ⟨rfl,rfl⟩) O9).mono ?_;rw [ZT];rintro e3 y5 ⟨⟨⟨o1,o2,o3⟩,⟨d1,d2,d3⟩,rfl,⟨lx,hox,hoa⟩,ly,hgx,hga⟩,hb⟩;clear Mw Mx MF MG MH MI x10 x11;have Cr:=D (Xw.out.trans (hb.mono Xw.out.size));have Pf:=D (Pb.out.on hb);have EZ:=D (Xx.out.on hb);have E5:=D (ER.out.on hb);clear Xw Pb Xx ER;obtain rfl:o2=1:=by have h1:=JX hoa; have h2:lx.length=o2:=uz (Row.dH hox); rw [<- h2,h1]; rfl
 obtain rfl:d2=0:=by have h1:=WZ hga; have h2:ly.length=d2:=uz (Row.dH hgx); rw [<- h2,h1]; rfl
 obtain⟨x0,rfl,hx0⟩:=aji hoa;have abF:=D (Row.dH hox);have HX0:=D hx0;clear hox hoa hgx hga hx0 hb;obtain⟨Mw,Mx,MF,MG,MH,MI⟩:=EZ.out.fB;have x10:=Pf.out.cell 0;have x11:=Pf.out.cell 1;simp only [O,K,L] at x10 x11;go_wp2_with fail;refine (J5 cr2 (l1,l2,l3) (l4,l5,l6) (l7,l8,l9) (l10,l11,l12) (l13,l14,l15) 2 5 (1,0) (0,0) (Y,0,0) [] y5 E5.out.br O8 (Or.inl ⟨rfl,rfl⟩) O9).mono ?_;rw [ZU];rintro e4 y6 ⟨⟨⟨p1,p2,p3⟩,⟨q1,q2,q3⟩,rfl,⟨lx2,hox,hoa⟩,ly2,hgx,hga⟩,hb⟩;clear Mw Mx MF MG MH MI x10 x11;have J7:=D (Cr.out.trans (hb.mono Cr.out.size));have akJ:=D (Pf.out.on hb);have Xy:=D (EZ.out.on hb);have Xz:=D (E5.out.on hb);have ag1:=D (abF.out.on hb);clear Cr Pf EZ E5 abF;obtain rfl:p2=0:=by have h1:=JX hoa; have h2:lx2.length=p2:=uz (Row.dH hox); rw [<- h2,h1]; rfl
 clear hox hoa hgx hga hb;obtain⟨px,ix,qx⟩:=elU (k:=0) ag1.out rfl rfl rfl;have p0:=(qx y6 (Below.refl _ _)).1;rw [HX0.out] at p0
 replace ix:∀ w,(Instr.indexAt 44 (J o1 1 o3) (U V 0)).run Tryz.prog w=.ok (.pointer (some px)) w:=ix
 clear qx;go_wp2;go_ret;exact⟨rfl,J7.out⟩
end Go.Proofs.YtkcfgbddlpomgaaGreat.Ca
