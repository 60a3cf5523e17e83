/-
  Chapter 12's runs: R. Conditions as told.
-/
import Derived.Test.YtghlpefopidlaaaGreatBQ045
set_option maxRecDepth 100000
set_option maxHeartbeats 64000000
open _root_.Go renaming cell_regrown->K
open Go.IntKind renaming i64->Y
open Go.Lib renaming hid->D
open Go.Obj renaming cells->Z
open Go.Proofs.YtghlpefopidlaaaGreat.Av renaming eF->U
open Go.Value renaming slice->J,int->X,pointer->ah
open _root_.List renaming getElem?_cons_zero->L,getElem?_cons_succ->O,getElem?_toArray->Q,mem_singleton->V
namespace Go.Proofs.YtghlpefopidlaaaGreat.Rt
open Go.RowKit Go.Sort Rw YtghlpefopidlaaaGreat.Nm Pr Bk Av Rl Sb Fl
abbrev Vh:Br:=⟨0,[1,2],[⟨(3,0),[],1⟩],[(3,0)],[⟨(3,0),(4,0),[],-1,true⟩],[⟨(4,0),[]⟩]⟩
abbrev Rh:Br:=⟨0,[1,2],[⟨(3,0),[],1⟩],[(3,0)],[⟨(3,0),(4,0),[],-1,true⟩,⟨(3,0),(5,0),[],2,false⟩],[⟨(4,0),[]⟩]⟩
theorem Vi:iX Q6 (4,0) []=(Vh,[⟨1,3,(3,0),(4,0),[]⟩]):=rfl
theorem YQ:iG Vh 2 (3,0) (5,0) []=(Rh,[]):=rfl
theorem Vj:(fB Rh (4,0)).2=[⟨1,3,(3,0),(5,0),[]⟩,⟨1,4,(3,0),(4,0),[]⟩]:=rfl
theorem Pb {α β:Type} {R:α->β->Prop} {l:List α} {x y:β} (h:eT R l [x,y]):∃ a b,l=[a,b]/\R a x/\R b y:=by
 match l,h with
 | [a,b],.cons q0 (.cons q1 .nil)=>exact⟨a,b,rfl,q0,q1⟩
theorem Pf {α β:Type} {R:α->β->Prop} {l:List α} {x:β} (h:eT R l [x]):∃ a,l=[a]/\R a x:=by
 match l,h with
 | [a],.cons q0 .nil=>exact⟨a,rfl,q0⟩
theorem oF:dN []:=⟨[],⟨List.Pairwise.nil,by simp,by simp,by simp⟩,rfl⟩
theorem Vk:gP Q6:=(vW _).1 rfl
theorem Vl:gP Vh:=(vW _).1 rfl
theorem Vm:gP Rh:=(vW _).1 rfl
theorem Vn:∀ e∈Vh.ent,dN e.p:=by intro o ho; rw [V.1 ho]; exact oF
theorem Vo:∀ e∈Rh.ent,dN e.p:=by
 intro o ho;rcases List.mem_cons.1 ho with rfl|ho
 ·exact oF
 ·rw [V.1 ho]; exact oF
theorem Vp:Ba Q6:=⟨⟨by simp,by simp,by simp,by simp,by simp⟩,⟨by simp,by simp,by simp⟩,Vk,by simp,by intro o ho; rw [V.1 ho]; exact oF,by simp⟩
theorem Ri:xR Vh:=⟨by simp,by simp,by simp,by simp,by simp⟩
theorem Pg:mq Vh:=⟨by simp,by simp,by simp⟩
theorem Vq:Ba Rh:=⟨⟨by simp,by simp,by simp,by simp,by simp⟩,⟨by simp,by simp,by simp⟩,Vm,by simp,by intro o ho; rw [V.1 ho]; exact oF,Vo⟩
theorem Kk (w:World):Calls Tryz.prog 3 #[] w fun e w'=>e=.returned (.bool true)/\Below w.heap.size w w':=by
 obtain⟨h0,h1,h2,h3⟩:=ji w #[X Y 3,X Y 0] #[X Y 4,X Y 0] #[X Y 5,X Y 0] 23 23 23;have jH:=D (h0);have Vr:=D (h1);have YR:=D (h2);have YS:=D (h3);clear h0 h1 h2 h3;have S3:=D (show (((w.alloc (Z #[X Y 3,X Y 0] 23)).alloc (Z #[X Y 4,X Y 0] 23)).alloc (Z #[X Y 5,X Y 0] 23)).heap.size=w.heap.size+1+1+1 from by simp);go_enter Tryz.func3,Tryz.ntmps3;go_upto_region 2 with fail;generalize (((w.alloc (Z #[X Y 3,X Y 0] 23)).alloc (Z #[X Y 4,X Y 0] 23)).alloc (Z #[X Y 5,X Y 0] 23))=W at *;refine abk _ W w.heap.size _ _ _ _ _ _ _ _ _ _ _ _ _ _ _ _ _ _ _ _ _ _ _ _ _ _ _ _ _ _ _ _ _ _ _ _ _ _ _ _ _ _ _ _ _ _ _ _ _ _ _ _ _ _ _ _ _ _ _ _ _ _ _ _ _ _ _ _ _ _ _ _ _ _ _ _ _ _ _ _ _ _ _ _ _ _ _ _ _ _ _ _ _ _ Vr.out ?_;intro x bb v13 v14 v15 v16 v17 v18 v19 v20 m1 m2 m3 m4 m5 m6 m7 m8 m9 m10 m11 m12 m13 m14 m15 hbb jc hbr hbel;have rV:=D (jH.out.trans (hbel.mono jH.out.size));have YT:=D (Vr.out.on hbel);have Rj:=D (YR.out.on hbel);have yh:=D (YS.out.on hbel);clear jH Vr YR YS;have jr:=D (jc);have YU:=D (hbr);have BL:=D (show w.heap.size+1+1+1<=bb by have:=S3.out; omega);clear hbb jc hbr hbel;obtain⟨lN,lQ,lS,lT,lU,lV⟩:=jr.out.ig;have x20:=Rj.out.cell 0;have x21:=Rj.out.cell 1;simp only [Q,L,O] at x20 x21;go_wp2_with fail;refine (DC Q6 m1 m2 m3 m4 m5 m6 m7 m8 m9 m10 m11 m12 m13 m14 m15 4 0 none 0 0 [] x YU.out (jN _) Vp (by simp) oF rfl).mono ?_;rw [Vi];rintro e1 y1 ⟨⟨⟨n1,n2,n3⟩,⟨n4,n5,n6⟩,⟨n7,n8,n9⟩,⟨n10,n11,n12⟩,⟨n13,n14,n15⟩,⟨o1,o2,o3⟩,lxa,rfl,hbn,_,hou⟩,hb⟩;clear lN lQ lS lT lU lV x20 x21;clear YU;have yt:=D (rV.out.trans (hb.mono rV.out.size));have YV:=D (YT.out.on hb);have YW:=D (Rj.out.on hb);have YX:=D (yh.out.on hb);have Gn:=D (jr.out.on hb);clear rV YT Rj yh jr;have BM:=D hbn;have OA:=D hou;clear hbn hou hb;obtain⟨k0,k1,k2,k3,k4,k5⟩:=Gn.out.ig;obtain⟨wM,wN,wO,wP,wQ,wR⟩:=Gn.out.oJ;have zz:=Gn.out.lt;have bs:=U y1 bb (X Y 0) (J n1 n2 n3) (J n4 n5 n6) (J n7 n8 n9) (J n10 n11 n12) (J n13 n14 n15);have G0:=D (dI (b:=bb) yt.out (by have:=BL.out; omega) (X Y 0) (J n1 n2 n3) (J n4 n5 n6) (J n7 n8 n9) (J n10 n11 n12) (J n13 n14 n15));have G1:=D (bs.box YV.out (by have:=BL.out; omega));have G2:=D (bs.box YW.out (by have:=BL.out; omega));have G3:=D (bs.box YX.out (by have:=BL.out; omega));have G4:=D (BM.out.keep (s1:=(m1,m2,m3)) (s2:=(m4,m5,m6)) (s3:=(m7,m8,m9)) (s4:=(m10,m11,m12)) (s5:=(m13,m14,m15)) (me:=0) Gn.out bs);have G5:=D (OA.out.but bs Gn.out (by decide) (by decide));have G6:=D (dX Gn.out (X Y 0) (J n1 n2 n3) (J n4 n5 n6) (J n7 n8 n9) (J n10 n11 n12) (J n13 n14 n15));clear bs yt YV YW YX BM OA Gn;go_upto_region 4 with fail;clear zz k0 k1 k2 k3 k4 k5 wM wN wO wP wQ wR;unfold iY at G0 G1 G2 G3 G4 G5 G6;generalize ((((((y1.setCell ⟨bb,0,none⟩ (X Y 0)).setCell ⟨bb,1,none⟩ (J n1 n2 n3)).setCell ⟨bb,2,none⟩ (J n4 n5 n6)).setCell ⟨bb,3,none⟩ (J n7 n8 n9)).setCell ⟨bb,4,none⟩ (J n10 n11 n12)).setCell ⟨bb,5,none⟩ (J n13 n14 n15))=y2 at *;have xH:=D (G0.out);have Ii:=D (G1.out);have S9:=D (G2.out);have Ij:=D (G3.out);have Ta:=D (G4.out);have Tc:=D (G5.out);have Ph:=D (G6.out);clear G0 G1 G2 G3 G4 G5 G6;obtain⟨lN,lQ,lS,lT,lU,lV⟩:=Ph.out.ig;have x10:=Ii.out.cell 0;have x11:=Ii.out.cell 1;simp only [Q,L,O] at x10 x11;have x30:=Ij.out.cell 0;have x31:=Ij.out.cell 1;simp only [Q,L,O] at x30 x31;go_wp2_with fail;refine (zK Vh n1 n2 n3 n4 n5 n6 n7 n8 n9 n10 n11 n12 n13 n14 n15 2 3 3 0 5 0 none 0 0 [] y2 Ta.out Ri Pg Vl Vn (jN _) oF).mono ?_;rw [YQ];rintro e2 y3 ⟨⟨⟨l1,l2,l3⟩,⟨l4,l5,l6⟩,⟨l7,l8,l9⟩,⟨l10,l11,l12⟩,⟨l13,l14,l15⟩,⟨p1,p2,p3⟩,lxb,rfl,hbn,_,hou⟩,hb⟩;clear lN lQ lS lT lU lV x10 x11 x30 x31;clear Ta;have Td:=D (xH.out.trans (hb.mono xH.out.size));have Te:=D (Ii.out.on hb);have Tf:=D (S9.out.on hb);have Tg:=D (Ij.out.on hb);have oI:=D (Ph.out.on hb);have Ti:=D (Tc.out.on hb);clear xH Ii S9 Ij Ph Tc;have BK:=D hbn;have OB:=D hou;clear hbn hou hb;obtain⟨k0,k1,k2,k3,k4,k5⟩:=oI.out.ig;obtain⟨wM,wN,wO,wP,wQ,wR⟩:=oI.out.oJ;have zz:=oI.out.lt;have bs:=U y3 bb (X Y 0) (J l1 l2 l3) (J l4 l5 l6) (J l7 l8 l9) (J l10 l11 l12) (J l13 l14 l15);have G0:=D (dI (b:=bb) Td.out (by have:=BL.out; omega) (X Y 0) (J l1 l2 l3) (J l4 l5 l6) (J l7 l8 l9) (J l10 l11 l12) (J l13 l14 l15));have G1:=D (bs.box Te.out (by have:=BL.out; omega));have G2:=D (bs.box Tf.out (by have:=BL.out; omega));have G3:=D (bs.box Tg.out (by have:=BL.out; omega));have G4:=D (BK.out.keep (s1:=(n1,n2,n3)) (s2:=(n4,n5,n6)) (s3:=(n7,n8,n9)) (s4:=(n10,n11,n12)) (s5:=(n13,n14,n15)) (me:=0) oI.out bs);have G5:=D (Ti.out.but bs oI.out (by decide) (by decide));have G6:=D (OB.out.but bs oI.out (by decide) (by decide));have G7:=D (dX oI.out (X Y 0) (J l1 l2 l3) (J l4 l5 l6) (J l7 l8 l9) (J l10 l11 l12) (J l13 l14 l15));clear bs Td Te Tf Tg BK Ti OB oI;go_upto_region 5 with fail;clear zz k0 k1 k2 k3 k4 k5 wM wN wO wP wQ wR;unfold iY at G0 G1 G2 G3 G4 G5 G6 G7;generalize ((((((y3.setCell ⟨bb,0,none⟩ (X Y 0)).setCell ⟨bb,1,none⟩ (J l1 l2 l3)).setCell ⟨bb,2,none⟩ (J l4 l5 l6)).setCell ⟨bb,3,none⟩ (J l7 l8 l9)).setCell ⟨bb,4,none⟩ (J l10 l11 l12)).setCell ⟨bb,5,none⟩ (J l13 l14 l15))=y4 at *;have Pj:=D (G0.out);have Tj:=D (G1.out);have Ik:=D (G2.out);have Tk:=D (G3.out);have Pk:=D (G4.out);have Tm:=D (G5.out);have Tn:=D (G6.out);have Pm:=D (G7.out);clear G0 G1 G2 G3 G4 G5 G6 G7;obtain⟨lN,lQ,lS,lT,lU,lV⟩:=Pm.out.ig;have x20:=Ik.out.cell 0;have x21:=Ik.out.cell 1;simp only [Q,L,O] at x20 x21;go_wp2_with fail;refine (xq Rh l1 l2 l3 l4 l5 l6 l7 l8 l9 l10 l11 l12 l13 l14 l15 4 0 y4 Pk.out Vq).mono ?_;rintro e3 y5 ⟨⟨⟨j1,j2,j3⟩,⟨j4,j5,j6⟩,⟨j7,j8,j9⟩,⟨j10,j11,j12⟩,⟨j13,j14,j15⟩,⟨q1,q2,q3⟩,lxc,rfl,hbn,_,hou⟩,hb⟩;rw [Vj] at hou;clear lN lQ lS lT lU lV x20 x21;have Pn:=D (Pj.out.trans (hb.mono Pj.out.size));have Tp:=D (Tj.out.on hb);have Tq:=D (Ik.out.on hb);have Tt:=D (Tk.out.on hb);have Tv:=D (Pm.out.on hb);have Tw:=D (Tm.out.on hb);have Tx:=D (Pk.out.on hb);have Tz:=D (Tn.out.on hb);clear Pj Tj Ik Tk Pm Tm Pk Tn;have OC:=D hou;clear hbn hou hb;go_upto_region 6 with fail;have NN:=jk y5 (Z #[X Y (fB Rh (4,0)).1.me,J j1 j2 j3,J j4 j5 j6,J j7 j8 j9,J j10 j11 j12,J j13 j14 j15] 30);have TB:=D (Pn.out.trans (NN.mono Pn.out.size));have acD:=D (Tp.out.on NN);have TD:=D (Tq.out.on NN);have TF:=D (Tt.out.on NN);have acE:=D (Tv.out.on NN);have TI:=D (Tw.out.on NN);have acF:=D (Tx.out.on NN);have TJ:=D (Tz.out.on NN);have TK:=D (OC.out.on NN);clear Pn Tp Tq Tt Tv Tw Tx Tz OC;have acG:=D (dO y5 #[X Y (fB Rh (4,0)).1.me,J j1 j2 j3,J j4 j5 j6,J j7 j8 j9,J j10 j11 j12,J j13 j14 j15] 30);clear NN;generalize y5.alloc (Z #[X Y (fB Rh (4,0)).1.me,J j1 j2 j3,J j4 j5 j6,J j7 j8 j9,J j10 j11 j12,J j13 j14 j15] 30)=w6 at *;generalize y5.heap.size=b8 at *;obtain⟨a0,rfl,ha0⟩:=Pf TI.out.all;obtain⟨c0,c1,rfl,hc0,hc1⟩:=Pb TK.out.all;have LB:lxb=[]:=by
  have h:=TJ.out.len;exact List.eq_nil_of_length_eq_zero h
 subst LB;have ro:=Row.dH TI.out.row;have no:=gZ ro;obtain rfl:o2=1:=no.symm;have rp:=Row.dH TJ.out.row;have np:=gZ rp;obtain rfl:p2=0:=np.symm;have rq:=Row.dH TK.out.row;have nq:=gZ rq;obtain rfl:q2=2:=nq.symm;obtain⟨pa0,YZ,Y0⟩:=Zj (k:=0) ro rfl rfl rfl;obtain⟨Zt,Zu,_,_,fa0,Zv,_,_⟩:=Y0 w6 (Below.refl _ _);rw [ha0.1] at Zt;rw [ha0.2.1] at Zu;obtain⟨za0,ya0⟩:=Prod.mk.inj (show (a0.2.2.2.2.1,a0.2.2.2.2.2.1)=((4,0):dV) from ha0.2.2.2.1);rw [za0] at fa0;rw [ya0] at Zv
 replace YZ:∀ w,(Instr.indexAt 37 (J o1 1 o3) (X Y 0)).run Tryz.prog w=.ok (ah (some pa0)) w:=YZ
 obtain⟨pc0,Y4,Y5⟩:=Zj (k:=0) rq rfl rfl rfl;obtain⟨Zw,Zx,_,_,Zy,Zz,_,_⟩:=Y5 w6 (Below.refl _ _);rw [hc0.1] at Zw;rw [hc0.2.1] at Zx;obtain⟨zc0,yc0⟩:=Prod.mk.inj (show (c0.2.2.2.2.1,c0.2.2.2.2.2.1)=((5,0):dV) from hc0.2.2.2.1);rw [zc0] at Zy;rw [yc0] at Zz
 replace Y4:∀ w,(Instr.indexAt 37 (J q1 2 q3) (X Y 0)).run Tryz.prog w=.ok (ah (some pc0)) w:=Y4
 obtain⟨pc1,Y6,Y7⟩:=Zj (k:=1) rq rfl rfl rfl;obtain⟨ZA,ZC,_,_,ZE,Vw,_,_⟩:=Y7 w6 (Below.refl _ _);rw [hc1.1] at ZA;rw [hc1.2.1] at ZC;obtain⟨zc1,yc1⟩:=Prod.mk.inj (show (c1.2.2.2.2.1,c1.2.2.2.2.2.1)=((4,0):dV) from hc1.2.2.2.1);rw [zc1] at ZE;rw [yc1] at Vw
 replace Y6:∀ w,(Instr.indexAt 37 (J q1 2 q3) (X Y 1)).run Tryz.prog w=.ok (ah (some pc1)) w:=Y6
 simp only at Zt Zu fa0 Zv Zw Zx Zy Zz ZA ZC ZE Vw;have q5:=Ae 5 0 5 0 true rfl;have q4:=Ae 4 0 4 0 true rfl;clear no np nq Y0 Y5 Y7 ro rp rq ha0 hc0 hc1;have x30:=TF.out.cell 0;have x31:=TF.out.cell 1;simp only [Q,L,O] at x30 x31;have x20:=TD.out.cell 0;have x21:=TD.out.cell 1;simp only [Q,L,O] at x20 x21;have BQ:=D (fun dq osq=>TB.out.trans ((below_regrown w6 dq osq).mono TB.out.size))
 replace Zt:=K Zt
 replace Zu:=K Zu
 replace fa0:=K fa0
 replace Zv:=K Zv
 replace Zw:=K Zw
 replace Zx:=K Zx
 replace Zy:=K Zy
 replace Zz:=K Zz
 replace ZA:=K ZA
 replace ZC:=K ZC
 replace ZE:=K ZE
 replace Vw:=K Vw
 replace x30:=K x30
 replace x31:=K x31
 replace x20:=K x20
 replace x21:=K x21
 go_wp2;refine wp_region_quiet_below (by kernel_rfl) (by kernel_rfl) ?_
 repeat (go_big_quiet_step (fail))
 refine wpQuiet_nil ?_;intro _ hw';obtain⟨⟨dq,osq⟩,hw''⟩:=hw';subst hw'';go_wp2;go_ret;exact⟨rfl,BQ.out _ _⟩
end Go.Proofs.YtghlpefopidlaaaGreat.Rt
