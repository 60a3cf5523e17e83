/-
  Chapter 13's runs: C. Conditions as told.
-/
import Derived.Test.YtkcfgbddlpomgaaBQ047
import Derived.Test.YtkcfgbddlpomgaaBQ048
set_option maxRecDepth 100000
set_option maxHeartbeats 64000000
open _root_.Bool renaming false->Z
open Go.IntKind renaming i64->V
open Go.Lib renaming hid->D
open Go.Proofs.Ytkcfgbddlpomgaa.Av renaming fA->Q
open Go.Value renaming slice->J,int->U,string->X
open _root_.List renaming getElem?_cons_zero->K,getElem?_cons_succ->L,getElem?_toArray->O,mem_singleton->ah
open _root_.Option renaming none->Y
namespace Go.Proofs.Ytkcfgbddlpomgaa.Ca
open Go.RowKit Go.Sort Rw Ytkcfgbddlpomgaa.Nm Pr Bk Av Rl Sb Fl
theorem Aj (n:ByteArray) (k:Kd) (h1:wN (n,k)=true) (h2:xu (n,k)):NF [(n,k)] :=
 ⟨List.pairwise_singleton _ _,by simp,by simpa using h1,by simpa using h2⟩
theorem Hy {W:World} {lx:List nG} {k:Int} {t x:dI} {l:List An} {n:Int} (h:dJ (Cg W) lx (oV k t x l [n])):∃ x0,lx=[x0]/\x0.1=n:=by
 match lx,h with
 | [a],.cons q0 .nil=>exact⟨a,rfl,q0.1⟩
def cN:Cn:=(⟨#[97]⟩,.rg 1 2)
abbrev cP:List C5:=[r5 cN]
abbrev C8:Br:=⟨0,[2,3],[⟨(1,0),[],-1⟩],[(1,0)],[⟨(1,0),(5,0),[],2,Z⟩],[]⟩
abbrev C9:Br:=⟨0,[2,3],[⟨(1,0),[],-1⟩],[(1,0)],[⟨(1,0),(5,0),[],2,Z⟩,⟨(1,0),(6,0),cP,3,Z⟩],[]⟩
theorem Ak:kY Ag ⟨(1,0),(5,0),[],2,Z⟩=(C8,Z):=rfl
theorem Al:kY C8 ⟨(1,0),(6,0),cP,3,Z⟩=(C9,Z):=rfl
theorem o7:eF []:=⟨[],⟨List.Pairwise.nil,by simp,by simp,by simp⟩,rfl⟩
theorem Bf:eF cP:=⟨[cN],Aj _ _ (by decide) ⟨by decide,by decide,by decide,by decide⟩,rfl⟩
theorem Am:zB Ag:=⟨by simp,by simp,by simp,by simp,by simp⟩
theorem zh:mZ Ag:=⟨by simp,by simp,by simp⟩
theorem Ao:zB C8:=⟨by simp,by simp,by simp,by simp,by simp⟩
theorem zi:mZ C8:=⟨by simp,by simp,by simp⟩
theorem Da:∀ e∈C8.ent,eF e.p:=by intro o ho; rw [ah.1 ho]; exact o7
theorem tV:mM C9:=⟨(mF _).1 (by decide +kernel),⟨by simp,by simp,by simp,by simp,by simp⟩,⟨by simp,by simp,by simp⟩,by
 intro o ho;rcases List.mem_cons.1 ho with rfl|ho
 ·exact o7
 ·rw [ah.1 ho]; exact Bf,by simp,by simp,by simp⟩
theorem tX:NL []:=⟨List.Pairwise.nil,by simp,by simp⟩
theorem Ap:iA C9 (-1) (1,0) []=([2],[]):=by decide +kernel
theorem Aq:iA C9 2 (1,0) []=([],[]):=by decide +kernel
theorem wC (w:World):Calls Try.prog 3 #[] w fun e w'=>e=.returned (.bool true)/\Below w.heap.size w w':=by
 have h0:=fK w (.cells #[U V 1,U V 0] 23);have h1:=dB w #[U V 1,U V 0] 23;have rX:=D (h0);have Db:=D (h1);clear h0 h1;have S3:=D (show (w.alloc (.cells #[U V 1,U V 0] 23)).heap.size=w.heap.size+1 from by simp);go_enter Try.func3,Try.ntmps3;go_upto_region 2 with fail;generalize w.alloc (.cells #[U V 1,U V 0] 23)=W at *;refine Hr _ W w.heap.size _ _ _ _ _ _ _ _ _ _ _ _ _ _ _ _ _ _ _ _ _ _ _ _ _ _ _ _ _ _ _ _ _ _ _ _ _ _ _ _ _ _ _ _ _ _ _ _ _ _ _ _ _ _ _ _ _ _ _ _ _ _ _ _ _ _ _ _ _ _ _ Db.out ?_;intro x bb v10 v11 v12 v13 v14 v15 v16 v17 m1 m2 m3 m4 m5 m6 m7 m8 m9 m10 m11 m12 m13 m14 m15 hbb jE hbr hbel;have Dc:=D (rX.out.trans (hbel.mono rX.out.size));have FJ:=D (Db.out.on hbel);clear rX Db;have FK:=D (jE);have FM:=D (hbr);have BL:=D (show w.heap.size+1<=bb by have:=S3.out; omega);clear hbb jE hbr hbel;go_upto_region 4 with fail;have NN:=fK x (.cells #[X ⟨#[97]⟩,U V 1,U V 1,U V 2,X ⟨#[]⟩] 38);have hlit:=jk Aw x cP 1 rfl (by simp) #[X ⟨#[97]⟩,U V 1,U V 1,U V 2,X ⟨#[]⟩] rfl;have hlit:kW (x.alloc (.cells #[X ⟨#[97]⟩,U V 1,U V 1,U V 2,X ⟨#[]⟩] 38)) x.heap.size (J (some ⟨x.heap.size,0,Y⟩) 1 1) cP:=hlit;have mQ:=D (Dc.out.trans (NN.mono Dc.out.size));have Au:=D (FJ.out.on NN);have Df:=D (FK.out.on NN);have wB:=D (FM.out.on NN);clear Dc FJ FK FM;have FN:=D (Row.dw hlit);clear NN hlit;generalize x.alloc (.cells #[X ⟨#[97]⟩,U V 1,U V 1,U V 2,X ⟨#[]⟩] 38)=y0 at *;generalize x.heap.size=bc at *;obtain⟨vY,vZ,wh,wm,wo,wu⟩:=Df.out.gX;have x10:=Au.out.cell 0;have x11:=Au.out.cell 1;simp only [O,K,L] at x10 x11;go_wp2_with fail;refine (qE Ag ⟨(1,0),(5,0),[],2,Z⟩ (m1,m2,m3) (m4,m5,m6) (m7,m8,m9) (m10,m11,m12) (m13,m14,m15) (1,0,5,0,(Y,0,0),2,Z) y0 wB.out.br ⟨rfl,rfl,rfl,rfl,jh _⟩ Am zh ((mF _).1 (by decide +kernel)).ent (by simp) o7).mono ?_;rw [Ak];rintro e1 y1 ⟨⟨⟨n1,n2,n3⟩,⟨n4,n5,n6⟩,⟨n7,n8,n9⟩,⟨n10,n11,n12⟩,⟨n13,n14,n15⟩,rfl,hbi,hno⟩,hb⟩;clear vY vZ wh wm wo wu x10 x11;have hbn:vF y1 C8 (n1,n2,n3) (n4,n5,n6) (n7,n8,n9) (n10,n11,n12) (n13,n14,n15):=⟨hbi,hno wB.out.no⟩;clear wB;have rY:=D (mQ.out.trans (hb.mono mQ.out.size));have FP:=D (Au.out.on hb);have rZ:=D (Df.out.on hb);have FR:=D (FN.out.on hb);clear mQ Au Df FN;have zk:=D hbn;clear hbi hno hbn hb;have FT:=D zk.out;clear zk;obtain⟨k0,k1,k2,k3,k4,k5⟩:=rZ.out.gX;obtain⟨Hz,H6,H7,H8,H9,Ia⟩:=rZ.out.qH;have zz:=rZ.out.lt;have bs:=Q y1 bb (U V 0) (J n1 n2 n3) (J n4 n5 n6) (J n7 n8 n9) (J n10 n11 n12) (J n13 n14 n15);have G0:=D (dM (b:=bb) rY.out (by have:=BL.out; omega) (U V 0) (J n1 n2 n3) (J n4 n5 n6) (J n7 n8 n9) (J n10 n11 n12) (J n13 n14 n15));have G1:=D (bs.box FP.out (by have:=BL.out; omega));have G2:=D (FT.out.keep (s1:=(m1,m2,m3)) (s2:=(m4,m5,m6)) (s3:=(m7,m8,m9)) (s4:=(m10,m11,m12)) (s5:=(m13,m14,m15)) (me:=0) rZ.out bs);have G3:=D (gy Aw FR.out bs.1 (jU rZ.out (jV 0 (m1,m2,m3) (m4,m5,m6) (m7,m8,m9) (m10,m11,m12) (m13,m14,m15))));have G4:=D (dY rZ.out (U V 0) (J n1 n2 n3) (J n4 n5 n6) (J n7 n8 n9) (J n10 n11 n12) (J n13 n14 n15));clear bs rY FP FT FR rZ;go_upto_region 5 with fail;clear zz k0 k1 k2 k3 k4 k5 Hz H6 H7 H8 H9 Ia;unfold iU at G0 G1 G2 G3 G4;generalize ((((((y1.setCell ⟨bb,0,Y⟩ (U V 0)).setCell ⟨bb,1,Y⟩ (J n1 n2 n3)).setCell ⟨bb,2,Y⟩ (J n4 n5 n6)).setCell ⟨bb,3,Y⟩ (J n7 n8 n9)).setCell ⟨bb,4,Y⟩ (J n10 n11 n12)).setCell ⟨bb,5,Y⟩ (J n13 n14 n15))=y2 at *;have mR:=D (G0.out);have tY:=D (G1.out);have zl:=D (G2.out);have zm:=D (G3.out);have zn:=D (G4.out);clear G0 G1 G2 G3 G4;obtain⟨vY,vZ,wh,wm,wo,wu⟩:=zn.out.gX;have x10:=tY.out.cell 0;have x11:=tY.out.cell 1;simp only [O,K,L] at x10 x11;go_wp2_with fail;refine (qE C8 ⟨(1,0),(6,0),cP,3,Z⟩ (n1,n2,n3) (n4,n5,n6) (n7,n8,n9) (n10,n11,n12) (n13,n14,n15) (1,0,6,0,(some ⟨bc,0,Y⟩,1,1),3,Z) y2 zl.out.br ⟨rfl,rfl,rfl,rfl,zm.out⟩ Ao zi ((mF _).1 (by decide +kernel)).ent Da Bf).mono ?_;rw [Al];rintro e2 y3 ⟨⟨⟨l1,l2,l3⟩,⟨l4,l5,l6⟩,⟨l7,l8,l9⟩,⟨l10,l11,l12⟩,⟨l13,l14,l15⟩,rfl,hbi,hno⟩,hb⟩;clear vY vZ wh wm wo wu x10 x11;have hbn:vF y3 C9 (l1,l2,l3) (l4,l5,l6) (l7,l8,l9) (l10,l11,l12) (l13,l14,l15):=⟨hbi,hno zl.out.no⟩;clear zl;have tT:=D (mR.out.trans (hb.mono mR.out.size));have Bg:=D (tY.out.on hb);have mU:=D (zn.out.on hb);have Bh:=D (zm.out.on hb);clear mR tY zn zm;have zk:=D hbn;clear hbi hno hbn hb;have Bj:=D zk.out;clear zk;obtain⟨k0,k1,k2,k3,k4,k5⟩:=mU.out.gX;obtain⟨Hz,H6,H7,H8,H9,Ia⟩:=mU.out.qH;have zz:=mU.out.lt;have bs:=Q y3 bb (U V 0) (J l1 l2 l3) (J l4 l5 l6) (J l7 l8 l9) (J l10 l11 l12) (J l13 l14 l15);have G0:=D (dM (b:=bb) tT.out (by have:=BL.out; omega) (U V 0) (J l1 l2 l3) (J l4 l5 l6) (J l7 l8 l9) (J l10 l11 l12) (J l13 l14 l15));have G1:=D (bs.box Bg.out (by have:=BL.out; omega));have G2:=D (Bj.out.keep (s1:=(n1,n2,n3)) (s2:=(n4,n5,n6)) (s3:=(n7,n8,n9)) (s4:=(n10,n11,n12)) (s5:=(n13,n14,n15)) (me:=0) mU.out bs);have G3:=D (gy Aw Bh.out bs.1 (jU mU.out (jV 0 (n1,n2,n3) (n4,n5,n6) (n7,n8,n9) (n10,n11,n12) (n13,n14,n15))));have G4:=D (dY mU.out (U V 0) (J l1 l2 l3) (J l4 l5 l6) (J l7 l8 l9) (J l10 l11 l12) (J l13 l14 l15));clear bs tT Bg Bj Bh mU;go_upto_region 6 with fail;clear zz k0 k1 k2 k3 k4 k5 Hz H6 H7 H8 H9 Ia;unfold iU at G0 G1 G2 G3 G4;generalize ((((((y3.setCell ⟨bb,0,Y⟩ (U V 0)).setCell ⟨bb,1,Y⟩ (J l1 l2 l3)).setCell ⟨bb,2,Y⟩ (J l4 l5 l6)).setCell ⟨bb,3,Y⟩ (J l7 l8 l9)).setCell ⟨bb,4,Y⟩ (J l10 l11 l12)).setCell ⟨bb,5,Y⟩ (J l13 l14 l15))=y4 at *;have zo:=D (G0.out);have tZ:=D (G1.out);have zq:=D (G2.out);have FU:=D (G3.out);have zu:=D (G4.out);clear G0 G1 G2 G3 G4;clear FU;obtain⟨vY,vZ,wh,wm,wo,wu⟩:=zu.out.gX;have x10:=tZ.out.cell 0;have x11:=tZ.out.cell 1;simp only [O,K,L] at x10 x11;go_wp2_with fail;refine (qF C9 (l1,l2,l3) (l4,l5,l6) (l7,l8,l9) (l10,l11,l12) (l13,l14,l15) (-1) 5 (1,0) (1,7) (Y,0,0) [] y4 zq.out.br tV (Or.inl ⟨rfl,rfl⟩) tX).mono ?_;rw [Ap];rintro e3 y5 ⟨⟨⟨o1,o2,o3⟩,⟨d1,d2,d3⟩,rfl,⟨lx,hox,hoa⟩,ly,hgx,hga⟩,hb⟩;clear vY vZ wh wm wo wu x10 x11;have zw:=D (zo.out.trans (hb.mono zo.out.size));have uf:=D (tZ.out.on hb);have zx:=D (zu.out.on hb);have zy:=D (zq.out.on hb);clear zo tZ zu zq;obtain rfl:o2=1:=by have h1:=qC hoa; have h2:lx.length=o2:=rP (Row.dw hox); rw [<- h2,h1]; rfl
 obtain rfl:d2=0:=by have h1:=yO hga; have h2:ly.length=d2:=rP (Row.dw hgx); rw [<- h2,h1]; rfl
 obtain⟨x0,rfl,hx0⟩:=Hy hoa;have Bl:=D (Row.dw hox);have HX0:=D hx0;clear hox hoa hgx hga hx0 hb;obtain⟨vY,vZ,wh,wm,wo,wu⟩:=zx.out.gX;have x10:=uf.out.cell 0;have x11:=uf.out.cell 1;simp only [O,K,L] at x10 x11;go_wp2_with fail;refine (qF C9 (l1,l2,l3) (l4,l5,l6) (l7,l8,l9) (l10,l11,l12) (l13,l14,l15) 2 5 (1,0) (0,0) (Y,0,0) [] y5 zy.out.br tV (Or.inl ⟨rfl,rfl⟩) tX).mono ?_;rw [Aq];rintro e4 y6 ⟨⟨⟨p1,p2,p3⟩,⟨q1,q2,q3⟩,rfl,⟨JR,hox,hoa⟩,J5,hgx,hga⟩,hb⟩;clear vY vZ wh wm wo wu x10 x11;have FV:=D (zw.out.trans (hb.mono zw.out.size));have Jb:=D (uf.out.on hb);have Jc:=D (zx.out.on hb);have Jd:=D (zy.out.on hb);have FX:=D (Bl.out.on hb);clear zw uf zx zy Bl;obtain rfl:p2=0:=by have h1:=qC hoa; have h2:JR.length=p2:=rP (Row.dw hox); rw [<- h2,h1]; rfl
 clear hox hoa hgx hga hb;obtain⟨px,ix,qx⟩:=Jh (k:=0) FX.out rfl rfl rfl;have p0:=(qx y6 (Below.refl _ _)).1;rw [HX0.out] at p0
 replace ix:∀ w,(Instr.indexAt 42 (J o1 1 o3) (U V 0)).run Try.prog w=.ok (.pointer (some px)) w:=ix
 clear qx;go_wp2;go_ret;exact⟨rfl,FV.out⟩
end Go.Proofs.Ytkcfgbddlpomgaa.Ca
