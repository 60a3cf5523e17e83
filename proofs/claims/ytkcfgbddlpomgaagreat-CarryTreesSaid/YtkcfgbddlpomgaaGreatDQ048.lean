/-
  Chapter 13's runs: C. Conditions as told.
-/
import Derived.Test.YtkcfgbddlpomgaaGreatDQ047
import Derived.Test.YtkcfgbddlpomgaaGreatDQ046
set_option maxRecDepth 100000
set_option maxHeartbeats 64000000
open _root_.Bool renaming false->Z
open Go.IntKind renaming i64->V
open Go.Lib renaming hid->D
open Go.Proofs.YtkcfgbddlpomgaaGreat.Av renaming gD->Q
open Go.Value renaming slice->J,int->U,string->X
open _root_.List renaming getElem?_cons_zero->K,getElem?_cons_succ->L,getElem?_toArray->O,mem_singleton->ah
open _root_.Option renaming none->Y
namespace Go.Proofs.YtkcfgbddlpomgaaGreat.Ca
open Go.RowKit Go.Sort Rw YtkcfgbddlpomgaaGreat.Nm Pr Bk Av Rl Sb Fl
theorem XM (n:ByteArray) (k:Kd) (h1:Bv (n,k)=true) (h2:Jt (n,k)):NF [(n,k)] :=
 ⟨List.pairwise_singleton _ _,by simp,by simpa using h1,by simpa using h2⟩
theorem agQ {W:World} {lx:List nC} {k:Int} {t x:eO} {l:List An} {n:Int} (h:eB (Qb W) lx (Ah k t x l [n])):∃ x0,lx=[x0]/\x0.1=n:=by
 match lx,h with
 | [a],.cons q0 .nil=>exact⟨a,rfl,q0.1⟩
def cN:Cn:=(⟨#[97]⟩,.rg 1 2)
abbrev cP:List C5:=[r5 cN]
abbrev cr1:Br:=⟨0,[2,3],[⟨(1,0),[],-1⟩],[(1,0)],[⟨(1,0),(5,0),[],2,Z⟩],[]⟩
abbrev cr2:Br:=⟨0,[2,3],[⟨(1,0),[],-1⟩],[(1,0)],[⟨(1,0),(5,0),[],2,Z⟩,⟨(1,0),(6,0),cP,3,Z⟩],[]⟩
theorem XO:gQ XK ⟨(1,0),(5,0),[],2,Z⟩=(cr1,Z):=rfl
theorem XP:gQ cr1 ⟨(1,0),(6,0),cP,3,Z⟩=(cr2,Z):=rfl
theorem Fv:dW []:=⟨[],⟨List.Pairwise.nil,by simp,by simp,by simp⟩,rfl⟩
theorem ZG:dW cP:=⟨[cN],XM _ _ (by decide) ⟨by decide,by decide,by decide,by decide⟩,rfl⟩
theorem XQ:Np XK:=⟨by simp,by simp,by simp,by simp,by simp⟩
theorem Vd:xQ XK:=⟨by simp,by simp,by simp⟩
theorem XR:Np cr1:=⟨by simp,by simp,by simp,by simp,by simp⟩
theorem Ve:xQ cr1:=⟨by simp,by simp,by simp⟩
theorem ab0:∀ e∈cr1.ent,dW e.p:=by intro o ho; rw [ah.1 ho]; exact Fv
theorem MU:vK cr2:=⟨(zC _).1 (by decide +kernel),⟨by simp,by simp,by simp,by simp,by simp⟩,⟨by simp,by simp,by simp⟩,by
 intro o ho;rcases List.mem_cons.1 ho with rfl|ho
 ·exact Fv
 ·rw [ah.1 ho]; exact ZG,by simp,by simp,by simp⟩
theorem MV:NL []:=⟨List.Pairwise.nil,by simp,by simp⟩
theorem XT:iH cr2 (-1) (1,0) []=([2],[]):=by decide +kernel
theorem XV:iH cr2 2 (1,0) []=([],[]):=by decide +kernel
theorem wZ (w:World):Calls Tryz.prog 15 #[] w fun e w'=>e=.returned (.bool true)/\Below w.heap.size w w':=by
 have h0:=fE w (.cells #[U V 1,U V 0] 38);have h1:=dL w #[U V 1,U V 0] 38;have gH:=D (h0);have Kg:=D (h1);clear h0 h1;have S3:=D (show (w.alloc (.cells #[U V 1,U V 0] 38)).heap.size=w.heap.size+1 from by simp);go_enter Tryz.func15,Tryz.ntmps15;go_upto_region 2 with fail;generalize w.alloc (.cells #[U V 1,U V 0] 38)=W at *;refine agO _ W w.heap.size _ _ _ _ _ _ _ _ _ _ _ _ _ _ _ _ _ _ _ _ _ _ _ _ _ _ _ _ _ _ _ _ _ _ _ _ _ _ _ _ _ _ _ _ _ _ _ _ _ _ _ _ _ _ _ _ _ _ _ _ _ _ _ _ _ _ _ _ _ _ _ Kg.out ?_;intro x bb v10 v11 v12 v13 v14 v15 v16 v17 m1 m2 m3 m4 m5 m6 m7 m8 m9 m10 m11 m12 m13 m14 m15 hbb lJ hbr hbel;have ab1:=D (gH.out.trans (hbel.mono gH.out.size));have aeD:=D (Kg.out.on hbel);clear gH Kg;have aeE:=D (lJ);have Vf:=D (hbr);have BL:=D (show w.heap.size+1<=bb by have:=S3.out; omega);clear hbb lJ hbr hbel;go_upto_region 4 with fail;have NN:=fE x (.cells #[X ⟨#[97]⟩,U V 1,U V 1,U V 2,X ⟨#[]⟩] 106);have hlit:=gT AO x cP 1 rfl (by simp) #[X ⟨#[97]⟩,U V 1,U V 1,U V 2,X ⟨#[]⟩] rfl;have hlit:jP (x.alloc (.cells #[X ⟨#[97]⟩,U V 1,U V 1,U V 2,X ⟨#[]⟩] 106)) x.heap.size (J (some ⟨x.heap.size,0,Y⟩) 1 1) cP:=hlit;have iR:=D (ab1.out.trans (NN.mono ab1.out.size));have XW:=D (aeD.out.on NN);have ab2:=D (aeE.out.on NN);have Fu:=D (Vf.out.on NN);clear ab1 aeD aeE Vf;have aeF:=D (Row.dx hlit);clear NN hlit;generalize x.alloc (.cells #[X ⟨#[97]⟩,U V 1,U V 1,U V 2,X ⟨#[]⟩] 106)=y0 at *;generalize x.heap.size=bc at *;obtain⟨Bh,Bj,Bl,Bn,Bo,Bp⟩:=ab2.out.fA;have x10:=XW.out.cell 0;have x11:=XW.out.cell 1;simp only [O,K,L] at x10 x11;go_wp2_with fail;refine (I5 XK ⟨(1,0),(5,0),[],2,Z⟩ (m1,m2,m3) (m4,m5,m6) (m7,m8,m9) (m10,m11,m12) (m13,m14,m15) (1,0,5,0,(Y,0,0),2,Z) y0 Fu.out.br ⟨rfl,rfl,rfl,rfl,ji _⟩ XQ Vd ((zC _).1 (by decide +kernel)).ent (by simp) Fv).mono ?_;rw [XO];rintro e1 y1 ⟨⟨⟨n1,n2,n3⟩,⟨n4,n5,n6⟩,⟨n7,n8,n9⟩,⟨n10,n11,n12⟩,⟨n13,n14,n15⟩,rfl,hbi,hno⟩,hb⟩;clear Bh Bj Bl Bn Bo Bp x10 x11;have hbn:xG y1 cr1 (n1,n2,n3) (n4,n5,n6) (n7,n8,n9) (n10,n11,n12) (n13,n14,n15):=⟨hbi,hno Fu.out.no⟩;clear Fu;have lM:=D (iR.out.trans (hb.mono iR.out.size));have aeG:=D (XW.out.on hb);have Bq:=D (ab2.out.on hb);have aeH:=D (aeF.out.on hb);clear iR XW ab2 aeF;have Vg:=D hbn;clear hbi hno hbn hb;have aeI:=D Vg.out;clear Vg;obtain⟨k0,k1,k2,k3,k4,k5⟩:=Bq.out.fA;obtain⟨pG,pI,pJ,pK,pO,pQ⟩:=Bq.out.kg;have zz:=Bq.out.lt;have bs:=Q y1 bb (U V 0) (J n1 n2 n3) (J n4 n5 n6) (J n7 n8 n9) (J n10 n11 n12) (J n13 n14 n15);have G0:=D (dD (b:=bb) lM.out (by have:=BL.out; omega) (U V 0) (J n1 n2 n3) (J n4 n5 n6) (J n7 n8 n9) (J n10 n11 n12) (J n13 n14 n15));have G1:=D (bs.box aeG.out (by have:=BL.out; omega));have G2:=D (aeI.out.keep (s1:=(m1,m2,m3)) (s2:=(m4,m5,m6)) (s3:=(m7,m8,m9)) (s4:=(m10,m11,m12)) (s5:=(m13,m14,m15)) (me:=0) Bq.out bs);have G3:=D (fQ AO aeH.out bs.1 (mE Bq.out (kK 0 (m1,m2,m3) (m4,m5,m6) (m7,m8,m9) (m10,m11,m12) (m13,m14,m15))));have G4:=D (dK Bq.out (U V 0) (J n1 n2 n3) (J n4 n5 n6) (J n7 n8 n9) (J n10 n11 n12) (J n13 n14 n15));clear bs lM aeG aeI aeH Bq;go_upto_region 5 with fail;clear zz k0 k1 k2 k3 k4 k5 pG pI pJ pK pO pQ;unfold gP at G0 G1 G2 G3 G4;generalize ((((((y1.setCell ⟨bb,0,Y⟩ (U V 0)).setCell ⟨bb,1,Y⟩ (J n1 n2 n3)).setCell ⟨bb,2,Y⟩ (J n4 n5 n6)).setCell ⟨bb,3,Y⟩ (J n7 n8 n9)).setCell ⟨bb,4,Y⟩ (J n10 n11 n12)).setCell ⟨bb,5,Y⟩ (J n13 n14 n15))=y2 at *;have kX:=D (G0.out);have vI:=D (G1.out);have Ak:=D (G2.out);have Vh:=D (G3.out);have DN:=D (G4.out);clear G0 G1 G2 G3 G4;obtain⟨Bh,Bj,Bl,Bn,Bo,Bp⟩:=DN.out.fA;have x10:=vI.out.cell 0;have x11:=vI.out.cell 1;simp only [O,K,L] at x10 x11;go_wp2_with fail;refine (I5 cr1 ⟨(1,0),(6,0),cP,3,Z⟩ (n1,n2,n3) (n4,n5,n6) (n7,n8,n9) (n10,n11,n12) (n13,n14,n15) (1,0,6,0,(some ⟨bc,0,Y⟩,1,1),3,Z) y2 Ak.out.br ⟨rfl,rfl,rfl,rfl,Vh.out⟩ XR Ve ((zC _).1 (by decide +kernel)).ent ab0 ZG).mono ?_;rw [XP];rintro e2 y3 ⟨⟨⟨l1,l2,l3⟩,⟨l4,l5,l6⟩,⟨l7,l8,l9⟩,⟨l10,l11,l12⟩,⟨l13,l14,l15⟩,rfl,hbi,hno⟩,hb⟩;clear Bh Bj Bl Bn Bo Bp x10 x11;have hbn:xG y3 cr2 (l1,l2,l3) (l4,l5,l6) (l7,l8,l9) (l10,l11,l12) (l13,l14,l15):=⟨hbi,hno Ak.out.no⟩;clear Ak;have rW:=D (kX.out.trans (hb.mono kX.out.size));have II:=D (vI.out.on hb);have sj:=D (DN.out.on hb);have ZH:=D (Vh.out.on hb);clear kX vI DN Vh;have Vg:=D hbn;clear hbi hno hbn hb;have ZJ:=D Vg.out;clear Vg;obtain⟨k0,k1,k2,k3,k4,k5⟩:=sj.out.fA;obtain⟨pG,pI,pJ,pK,pO,pQ⟩:=sj.out.kg;have zz:=sj.out.lt;have bs:=Q y3 bb (U V 0) (J l1 l2 l3) (J l4 l5 l6) (J l7 l8 l9) (J l10 l11 l12) (J l13 l14 l15);have G0:=D (dD (b:=bb) rW.out (by have:=BL.out; omega) (U V 0) (J l1 l2 l3) (J l4 l5 l6) (J l7 l8 l9) (J l10 l11 l12) (J l13 l14 l15));have G1:=D (bs.box II.out (by have:=BL.out; omega));have G2:=D (ZJ.out.keep (s1:=(n1,n2,n3)) (s2:=(n4,n5,n6)) (s3:=(n7,n8,n9)) (s4:=(n10,n11,n12)) (s5:=(n13,n14,n15)) (me:=0) sj.out bs);have G3:=D (fQ AO ZH.out bs.1 (mE sj.out (kK 0 (n1,n2,n3) (n4,n5,n6) (n7,n8,n9) (n10,n11,n12) (n13,n14,n15))));have G4:=D (dK sj.out (U V 0) (J l1 l2 l3) (J l4 l5 l6) (J l7 l8 l9) (J l10 l11 l12) (J l13 l14 l15));clear bs rW II ZJ ZH sj;go_upto_region 6 with fail;clear zz k0 k1 k2 k3 k4 k5 pG pI pJ pK pO pQ;unfold gP at G0 G1 G2 G3 G4;generalize ((((((y3.setCell ⟨bb,0,Y⟩ (U V 0)).setCell ⟨bb,1,Y⟩ (J l1 l2 l3)).setCell ⟨bb,2,Y⟩ (J l4 l5 l6)).setCell ⟨bb,3,Y⟩ (J l7 l8 l9)).setCell ⟨bb,4,Y⟩ (J l10 l11 l12)).setCell ⟨bb,5,Y⟩ (J l13 l14 l15))=y4 at *;have Al:=D (G0.out);have MW:=D (G1.out);have Vi:=D (G2.out);have aeJ:=D (G3.out);have Vj:=D (G4.out);clear G0 G1 G2 G3 G4;clear aeJ;obtain⟨Bh,Bj,Bl,Bn,Bo,Bp⟩:=Vj.out.fA;have x10:=MW.out.cell 0;have x11:=MW.out.cell 1;simp only [O,K,L] at x10 x11;go_wp2_with fail;refine (r9 cr2 (l1,l2,l3) (l4,l5,l6) (l7,l8,l9) (l10,l11,l12) (l13,l14,l15) (-1) 5 (1,0) (1,7) (Y,0,0) [] y4 Vi.out.br MU (Or.inl ⟨rfl,rfl⟩) MV).mono ?_;rw [XT];rintro e3 y5 ⟨⟨⟨o1,o2,o3⟩,⟨d1,d2,d3⟩,rfl,⟨lx,hox,hoa⟩,ly,hgx,hga⟩,hb⟩;clear Bh Bj Bl Bn Bo Bp x10 x11;have Vk:=D (Al.out.trans (hb.mono Al.out.size));have MZ:=D (MW.out.on hb);have Vl:=D (Vj.out.on hb);have Vm:=D (Vi.out.on hb);clear Al MW Vj Vi;obtain rfl:o2=1:=by have h1:=vL hoa; have h2:lx.length=o2:=rP (Row.dx hox); rw [<- h2,h1]; rfl
 obtain rfl:d2=0:=by have h1:=IW hga; have h2:ly.length=d2:=rP (Row.dx hgx); rw [<- h2,h1]; rfl
 obtain⟨x0,rfl,hx0⟩:=agQ hoa;have M0:=D (Row.dx hox);have HX0:=D hx0;clear hox hoa hgx hga hx0 hb;obtain⟨Bh,Bj,Bl,Bn,Bo,Bp⟩:=Vl.out.fA;have x10:=MZ.out.cell 0;have x11:=MZ.out.cell 1;simp only [O,K,L] at x10 x11;go_wp2_with fail;refine (r9 cr2 (l1,l2,l3) (l4,l5,l6) (l7,l8,l9) (l10,l11,l12) (l13,l14,l15) 2 5 (1,0) (0,0) (Y,0,0) [] y5 Vm.out.br MU (Or.inl ⟨rfl,rfl⟩) MV).mono ?_;rw [XV];rintro e4 y6 ⟨⟨⟨p1,p2,p3⟩,⟨q1,q2,q3⟩,rfl,⟨lx2,hox,hoa⟩,ly2,hgx,hga⟩,hb⟩;clear Bh Bj Bl Bn Bo Bp x10 x11;have aeK:=D (Vk.out.trans (hb.mono Vk.out.size));have aib:=D (MZ.out.on hb);have aic:=D (Vl.out.on hb);have aie:=D (Vm.out.on hb);have aeL:=D (M0.out.on hb);clear Vk MZ Vl Vm M0;obtain rfl:p2=0:=by have h1:=vL hoa; have h2:lx2.length=p2:=rP (Row.dx hox); rw [<- h2,h1]; rfl
 clear hox hoa hgx hga hb;obtain⟨px,ix,qx⟩:=elU (k:=0) aeL.out rfl rfl rfl;have p0:=(qx y6 (Below.refl _ _)).1;rw [HX0.out] at p0
 replace ix:∀ w,(Instr.indexAt 44 (J o1 1 o3) (U V 0)).run Tryz.prog w=.ok (.pointer (some px)) w:=ix
 clear qx;go_wp2;go_ret;exact⟨rfl,aeK.out⟩
end Go.Proofs.YtkcfgbddlpomgaaGreat.Ca
