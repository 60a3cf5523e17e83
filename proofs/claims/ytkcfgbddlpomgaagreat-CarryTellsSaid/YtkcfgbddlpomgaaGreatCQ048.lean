/-
  Chapter 13's runs: C. Conditions as told.
-/
import Derived.Test.YtkcfgbddlpomgaaGreatCQ047
import Derived.Test.YtkcfgbddlpomgaaGreatCQ045
set_option maxRecDepth 100000
set_option maxHeartbeats 64000000
open _root_.Bool renaming false->Z
open Go.IntKind renaming i64->V
open Go.Lib renaming hid->D
open Go.Proofs.YtkcfgbddlpomgaaGreat.Av renaming fV->Q
open Go.Value renaming slice->J,int->U,string->X
open _root_.List renaming getElem?_cons_zero->K,getElem?_cons_succ->L,getElem?_toArray->O,mem_singleton->ah
open _root_.Option renaming none->Y
namespace Go.Proofs.YtkcfgbddlpomgaaGreat.Ca
open Go.RowKit Go.Sort Rw YtkcfgbddlpomgaaGreat.Nm Pr Bk Av Rl Sb Fl
theorem Xc (n:ByteArray) (k:Kd) (h1:Bd (n,k)=true) (h2:Jb (n,k)):NF [(n,k)] :=
 ⟨List.pairwise_singleton _ _,by simp,by simpa using h1,by simpa using h2⟩
theorem afk {W:World} {lx:List nH} {k:Int} {t x:eF} {l:List An} {n:Int} (h:dX (Ve W) lx (xP k t x l [n])):∃ x0,lx=[x0]/\x0.1=n:=by
 match lx,h with
 | [a],.cons q0 .nil=>exact⟨a,rfl,q0.1⟩
def cN:Cn:=(⟨#[97]⟩,.rg 1 2)
abbrev cP:List C5:=[r5 cN]
abbrev cr1:Br:=⟨0,[2,3],[⟨(1,0),[],-1⟩],[(1,0)],[⟨(1,0),(5,0),[],2,Z⟩],[]⟩
abbrev cr2:Br:=⟨0,[2,3],[⟨(1,0),[],-1⟩],[(1,0)],[⟨(1,0),(5,0),[],2,Z⟩,⟨(1,0),(6,0),cP,3,Z⟩],[]⟩
theorem Xd:gN Xb ⟨(1,0),(5,0),[],2,Z⟩=(cr1,Z):=rfl
theorem Xe:gN cr1 ⟨(1,0),(6,0),cP,3,Z⟩=(cr2,Z):=rfl
theorem E5:dM []:=⟨[],⟨List.Pairwise.nil,by simp,by simp,by simp⟩,rfl⟩
theorem Y7:dM cP:=⟨[cN],Xc _ _ (by decide) ⟨by decide,by decide,by decide,by decide⟩,rfl⟩
theorem Xf:Qc Xb:=⟨by simp,by simp,by simp,by simp,by simp⟩
theorem Ut:yZ Xb:=⟨by simp,by simp,by simp⟩
theorem Xg:Qc cr1:=⟨by simp,by simp,by simp,by simp,by simp⟩
theorem Uu:yZ cr1:=⟨by simp,by simp,by simp⟩
theorem aa3:∀ e∈cr1.ent,dM e.p:=by intro o ho; rw [ah.1 ho]; exact E5
theorem Mq:xO cr2:=⟨(zy _).1 (by decide +kernel),⟨by simp,by simp,by simp,by simp,by simp⟩,⟨by simp,by simp,by simp⟩,by
 intro o ho;rcases List.mem_cons.1 ho with rfl|ho
 ·exact E5
 ·rw [ah.1 ho]; exact Y7,by simp,by simp,by simp⟩
theorem Mr:NL []:=⟨List.Pairwise.nil,by simp,by simp⟩
theorem Xh:jE cr2 (-1) (1,0) []=([2],[]):=by decide +kernel
theorem Xi:jE cr2 2 (1,0) []=([],[]):=by decide +kernel
theorem Pn (w:World):Calls Tryz.prog 15 #[] w fun e w'=>e=.returned (.bool true)/\Below w.heap.size w w':=by
 have h0:=fT w (.cells #[U V 1,U V 0] 38);have h1:=dI w #[U V 1,U V 0] 38;have gB:=D (h0);have J2:=D (h1);clear h0 h1;have S3:=D (show (w.alloc (.cells #[U V 1,U V 0] 38)).heap.size=w.heap.size+1 from by simp);go_enter Tryz.func15,Tryz.ntmps15;go_upto_region 2 with fail;generalize w.alloc (.cells #[U V 1,U V 0] 38)=W at *;refine afi _ W w.heap.size _ _ _ _ _ _ _ _ _ _ _ _ _ _ _ _ _ _ _ _ _ _ _ _ _ _ _ _ _ _ _ _ _ _ _ _ _ _ _ _ _ _ _ _ _ _ _ _ _ _ _ _ _ _ _ _ _ _ _ _ _ _ _ _ _ _ _ _ _ _ _ J2.out ?_;intro x bb v10 v11 v12 v13 v14 v15 v16 v17 m1 m2 m3 m4 m5 m6 m7 m8 m9 m10 m11 m12 m13 m14 m15 hbb jQ hbr hbel;have aa4:=D (gB.out.trans (hbel.mono gB.out.size));have adp:=D (J2.out.on hbel);clear gB J2;have adq:=D (jQ);have Uv:=D (hbr);have BL:=D (show w.heap.size+1<=bb by have:=S3.out; omega);clear hbb jQ hbr hbel;go_upto_region 4 with fail;have NN:=fT x (.cells #[X ⟨#[97]⟩,U V 1,U V 1,U V 2,X ⟨#[]⟩] 106);have hlit:=gH Bh x cP 1 rfl (by simp) #[X ⟨#[97]⟩,U V 1,U V 1,U V 2,X ⟨#[]⟩] rfl;have hlit:jL (x.alloc (.cells #[X ⟨#[97]⟩,U V 1,U V 1,U V 2,X ⟨#[]⟩] 106)) x.heap.size (J (some ⟨x.heap.size,0,Y⟩) 1 1) cP:=hlit;have iO:=D (aa4.out.trans (NN.mono aa4.out.size));have Xj:=D (adp.out.on NN);have aa5:=D (adq.out.on NN);have Ba:=D (Uv.out.on NN);clear aa4 adp adq Uv;have adr:=D (Row.dn hlit);clear NN hlit;generalize x.alloc (.cells #[X ⟨#[97]⟩,U V 1,U V 1,U V 2,X ⟨#[]⟩] 106)=y0 at *;generalize x.heap.size=bc at *;obtain⟨Ez,EH,EK,EM,EP,ER⟩:=aa5.out.eZ;have x10:=Xj.out.cell 0;have x11:=Xj.out.cell 1;simp only [O,K,L] at x10 x11;go_wp2_with fail;refine (IE Xb ⟨(1,0),(5,0),[],2,Z⟩ (m1,m2,m3) (m4,m5,m6) (m7,m8,m9) (m10,m11,m12) (m13,m14,m15) (1,0,5,0,(Y,0,0),2,Z) y0 Ba.out.br ⟨rfl,rfl,rfl,rfl,jf _⟩ Xf Ut ((zy _).1 (by decide +kernel)).ent (by simp) E5).mono ?_;rw [Xd];rintro e1 y1 ⟨⟨⟨n1,n2,n3⟩,⟨n4,n5,n6⟩,⟨n7,n8,n9⟩,⟨n10,n11,n12⟩,⟨n13,n14,n15⟩,rfl,hbi,hno⟩,hb⟩;clear Ez EH EK EM EP ER x10 x11;have hbn:xM y1 cr1 (n1,n2,n3) (n4,n5,n6) (n7,n8,n9) (n10,n11,n12) (n13,n14,n15):=⟨hbi,hno Ba.out.no⟩;clear Ba;have lI:=D (iO.out.trans (hb.mono iO.out.size));have ads:=D (Xj.out.on hb);have Bb:=D (aa5.out.on hb);have adt:=D (adr.out.on hb);clear iO Xj aa5 adr;have Uw:=D hbn;clear hbi hno hbn hb;have Po:=D Uw.out;clear Uw;obtain⟨k0,k1,k2,k3,k4,k5⟩:=Bb.out.eZ;obtain⟨pK,pO,pQ,pR,pU,pV⟩:=Bb.out.kg;have zz:=Bb.out.lt;have bs:=Q y1 bb (U V 0) (J n1 n2 n3) (J n4 n5 n6) (J n7 n8 n9) (J n10 n11 n12) (J n13 n14 n15);have G0:=D (dw (b:=bb) lI.out (by have:=BL.out; omega) (U V 0) (J n1 n2 n3) (J n4 n5 n6) (J n7 n8 n9) (J n10 n11 n12) (J n13 n14 n15));have G1:=D (bs.box ads.out (by have:=BL.out; omega));have G2:=D (Po.out.keep (s1:=(m1,m2,m3)) (s2:=(m4,m5,m6)) (s3:=(m7,m8,m9)) (s4:=(m10,m11,m12)) (s5:=(m13,m14,m15)) (me:=0) Bb.out bs);have G3:=D (gK Bh adt.out bs.1 (nk Bb.out (nu 0 (m1,m2,m3) (m4,m5,m6) (m7,m8,m9) (m10,m11,m12) (m13,m14,m15))));have G4:=D (dH Bb.out (U V 0) (J n1 n2 n3) (J n4 n5 n6) (J n7 n8 n9) (J n10 n11 n12) (J n13 n14 n15));clear bs lI ads Po adt Bb;go_upto_region 5 with fail;clear zz k0 k1 k2 k3 k4 k5 pK pO pQ pR pU pV;unfold gM at G0 G1 G2 G3 G4;generalize ((((((y1.setCell ⟨bb,0,Y⟩ (U V 0)).setCell ⟨bb,1,Y⟩ (J n1 n2 n3)).setCell ⟨bb,2,Y⟩ (J n4 n5 n6)).setCell ⟨bb,3,Y⟩ (J n7 n8 n9)).setCell ⟨bb,4,Y⟩ (J n10 n11 n12)).setCell ⟨bb,5,Y⟩ (J n13 n14 n15))=y2 at *;have mX:=D (G0.out);have vI:=D (G1.out);have Aj:=D (G2.out);have Ux:=D (G3.out);have Uy:=D (G4.out);clear G0 G1 G2 G3 G4;obtain⟨Ez,EH,EK,EM,EP,ER⟩:=Uy.out.eZ;have x10:=vI.out.cell 0;have x11:=vI.out.cell 1;simp only [O,K,L] at x10 x11;go_wp2_with fail;refine (IE cr1 ⟨(1,0),(6,0),cP,3,Z⟩ (n1,n2,n3) (n4,n5,n6) (n7,n8,n9) (n10,n11,n12) (n13,n14,n15) (1,0,6,0,(some ⟨bc,0,Y⟩,1,1),3,Z) y2 Aj.out.br ⟨rfl,rfl,rfl,rfl,Ux.out⟩ Xg Uu ((zy _).1 (by decide +kernel)).ent aa3 Y7).mono ?_;rw [Xe];rintro e2 y3 ⟨⟨⟨l1,l2,l3⟩,⟨l4,l5,l6⟩,⟨l7,l8,l9⟩,⟨l10,l11,l12⟩,⟨l13,l14,l15⟩,rfl,hbi,hno⟩,hb⟩;clear Ez EH EK EM EP ER x10 x11;have hbn:xM y3 cr2 (l1,l2,l3) (l4,l5,l6) (l7,l8,l9) (l10,l11,l12) (l13,l14,l15):=⟨hbi,hno Aj.out.no⟩;clear Aj;have Ac:=D (mX.out.trans (hb.mono mX.out.size));have Iq:=D (vI.out.on hb);have Ak:=D (Uy.out.on hb);have Y9:=D (Ux.out.on hb);clear mX vI Uy Ux;have Uw:=D hbn;clear hbi hno hbn hb;have Za:=D Uw.out;clear Uw;obtain⟨k0,k1,k2,k3,k4,k5⟩:=Ak.out.eZ;obtain⟨pK,pO,pQ,pR,pU,pV⟩:=Ak.out.kg;have zz:=Ak.out.lt;have bs:=Q y3 bb (U V 0) (J l1 l2 l3) (J l4 l5 l6) (J l7 l8 l9) (J l10 l11 l12) (J l13 l14 l15);have G0:=D (dw (b:=bb) Ac.out (by have:=BL.out; omega) (U V 0) (J l1 l2 l3) (J l4 l5 l6) (J l7 l8 l9) (J l10 l11 l12) (J l13 l14 l15));have G1:=D (bs.box Iq.out (by have:=BL.out; omega));have G2:=D (Za.out.keep (s1:=(n1,n2,n3)) (s2:=(n4,n5,n6)) (s3:=(n7,n8,n9)) (s4:=(n10,n11,n12)) (s5:=(n13,n14,n15)) (me:=0) Ak.out bs);have G3:=D (gK Bh Y9.out bs.1 (nk Ak.out (nu 0 (n1,n2,n3) (n4,n5,n6) (n7,n8,n9) (n10,n11,n12) (n13,n14,n15))));have G4:=D (dH Ak.out (U V 0) (J l1 l2 l3) (J l4 l5 l6) (J l7 l8 l9) (J l10 l11 l12) (J l13 l14 l15));clear bs Ac Iq Za Y9 Ak;go_upto_region 6 with fail;clear zz k0 k1 k2 k3 k4 k5 pK pO pQ pR pU pV;unfold gM at G0 G1 G2 G3 G4;generalize ((((((y3.setCell ⟨bb,0,Y⟩ (U V 0)).setCell ⟨bb,1,Y⟩ (J l1 l2 l3)).setCell ⟨bb,2,Y⟩ (J l4 l5 l6)).setCell ⟨bb,3,Y⟩ (J l7 l8 l9)).setCell ⟨bb,4,Y⟩ (J l10 l11 l12)).setCell ⟨bb,5,Y⟩ (J l13 l14 l15))=y4 at *;have Al:=D (G0.out);have Ms:=D (G1.out);have Uz:=D (G2.out);have adu:=D (G3.out);have UC:=D (G4.out);clear G0 G1 G2 G3 G4;clear adu;obtain⟨Ez,EH,EK,EM,EP,ER⟩:=UC.out.eZ;have x10:=Ms.out.cell 0;have x11:=Ms.out.cell 1;simp only [O,K,L] at x10 x11;go_wp2_with fail;refine (Ai cr2 (l1,l2,l3) (l4,l5,l6) (l7,l8,l9) (l10,l11,l12) (l13,l14,l15) (-1) 5 (1,0) (1,7) (Y,0,0) [] y4 Uz.out.br Mq (Or.inl ⟨rfl,rfl⟩) Mr).mono ?_;rw [Xh];rintro e3 y5 ⟨⟨⟨o1,o2,o3⟩,⟨d1,d2,d3⟩,rfl,⟨lx,hox,hoa⟩,ly,hgx,hga⟩,hb⟩;clear Ez EH EK EM EP ER x10 x11;have IG:=D (Al.out.trans (hb.mono Al.out.size));have Mt:=D (Ms.out.on hb);have UD:=D (UC.out.on hb);have UF:=D (Uz.out.on hb);clear Al Ms UC Uz;obtain rfl:o2=1:=by have h1:=Iz hoa; have h2:lx.length=o2:=rV (Row.dn hox); rw [<- h2,h1]; rfl
 obtain rfl:d2=0:=by have h1:=Uh hga; have h2:ly.length=d2:=rV (Row.dn hgx); rw [<- h2,h1]; rfl
 obtain⟨x0,rfl,hx0⟩:=afk hoa;have Zb:=D (Row.dn hox);have HX0:=D hx0;clear hox hoa hgx hga hx0 hb;obtain⟨Ez,EH,EK,EM,EP,ER⟩:=UD.out.eZ;have x10:=Mt.out.cell 0;have x11:=Mt.out.cell 1;simp only [O,K,L] at x10 x11;go_wp2_with fail;refine (Ai cr2 (l1,l2,l3) (l4,l5,l6) (l7,l8,l9) (l10,l11,l12) (l13,l14,l15) 2 5 (1,0) (0,0) (Y,0,0) [] y5 UF.out.br Mq (Or.inl ⟨rfl,rfl⟩) Mr).mono ?_;rw [Xi];rintro e4 y6 ⟨⟨⟨p1,p2,p3⟩,⟨q1,q2,q3⟩,rfl,⟨lx2,hox,hoa⟩,ly2,hgx,hga⟩,hb⟩;clear Ez EH EK EM EP ER x10 x11;have adw:=D (IG.out.trans (hb.mono IG.out.size));have agz:=D (Mt.out.on hb);have agA:=D (UD.out.on hb);have agB:=D (UF.out.on hb);have adx:=D (Zb.out.on hb);clear IG Mt UD UF Zb;obtain rfl:p2=0:=by have h1:=Iz hoa; have h2:lx2.length=p2:=rV (Row.dn hox); rw [<- h2,h1]; rfl
 clear hox hoa hgx hga hb;obtain⟨px,ix,qx⟩:=elU (k:=0) adx.out rfl rfl rfl;have p0:=(qx y6 (Below.refl _ _)).1;rw [HX0.out] at p0
 replace ix:∀ w,(Instr.indexAt 44 (J o1 1 o3) (U V 0)).run Tryz.prog w=.ok (.pointer (some px)) w:=ix
 clear qx;go_wp2;go_ret;exact⟨rfl,adw.out⟩
end Go.Proofs.YtkcfgbddlpomgaaGreat.Ca
