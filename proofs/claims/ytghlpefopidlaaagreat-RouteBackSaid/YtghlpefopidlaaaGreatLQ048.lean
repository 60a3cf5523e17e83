/-
  Chapter 12's runs: R. Conditions as told.
-/
import Derived.Test.YtghlpefopidlaaaGreatLQ046
set_option maxRecDepth 100000
set_option maxHeartbeats 64000000
open Go.IntKind renaming i64->X
open Go.Lib renaming hid->D
open Go.Obj renaming cells->Y
open Go.Proofs.YtghlpefopidlaaaGreat.Av renaming fu->Q
open Go.Value renaming slice->J,int->V,pointer->ah
open _root_.List renaming getElem?_cons_zero->K,getElem?_cons_succ->L,getElem?_toArray->O,mem_singleton->U
open _root_.Option renaming none->Z
namespace Go.Proofs.YtghlpefopidlaaaGreat.Rt
open Go.RowKit Go.Sort Rw YtghlpefopidlaaaGreat.Nm Pr Bk Av Rl Sb Fl
abbrev rr1:Br:=⟨0,[1,2],[⟨(3,0),[],1⟩],[(3,0)],[⟨(3,0),(4,0),[],-1,true⟩],[⟨(4,0),[]⟩]⟩
abbrev rr2:Br:=⟨0,[1,2],[⟨(3,0),[],1⟩],[(3,0)],[⟨(3,0),(4,0),[],-1,true⟩,⟨(3,0),(5,0),[],2,false⟩],[⟨(4,0),[]⟩]⟩
theorem aiR:fF rr0 (4,0) []=(rr1,[⟨1,3,(3,0),(4,0),[]⟩]):=rfl
theorem aln:mE rr1 2 (3,0) (5,0) []=(rr2,[]):=rfl
theorem aiS:(fT rr2 (4,0)).2=[⟨1,3,(3,0),(5,0),[]⟩,⟨1,4,(3,0),(4,0),[]⟩]:=rfl
theorem aaP {α β:Type} {R:α->β->Prop} {l:List α} {x y:β} (h:eY R l [x,y]):∃ a b,l=[a,b]/\R a x/\R b y:=by
 match l,h with
 | [a,b],.cons q0 (.cons q1 .nil)=>exact⟨a,b,rfl,q0,q1⟩
theorem aaQ {α β:Type} {R:α->β->Prop} {l:List α} {x:β} (h:eY R l [x]):∃ a,l=[a]/\R a x:=by
 match l,h with
 | [a],.cons q0 .nil=>exact⟨a,rfl,q0⟩
theorem tZ:dR []:=⟨[],⟨List.Pairwise.nil,by simp,by simp,by simp⟩,rfl⟩
theorem aiT:iC rr0:=(CZ _).1 rfl
theorem aiU:iC rr1:=(CZ _).1 rfl
theorem aiV:iC rr2:=(CZ _).1 rfl
theorem aiW:∀ e∈rr1.ent,dR e.p:=by intro o ho; rw [U.1 ho]; exact tZ
theorem aiX:∀ e∈rr2.ent,dR e.p:=by
 intro o ho;rcases List.mem_cons.1 ho with rfl|ho
 ·exact tZ
 ·rw [U.1 ho]; exact tZ
theorem aiY:Fw rr0:=⟨⟨by simp,by simp,by simp,by simp,by simp⟩,⟨by simp,by simp,by simp⟩,aiT,by simp,by intro o ho; rw [U.1 ho]; exact tZ,by simp⟩
theorem adl:Gl rr1:=⟨by simp,by simp,by simp,by simp,by simp⟩
theorem aaR:rO rr1:=⟨by simp,by simp,by simp⟩
theorem aiZ:Fw rr2:=⟨⟨by simp,by simp,by simp,by simp,by simp⟩,⟨by simp,by simp,by simp⟩,aiV,by simp,by intro o ho; rw [U.1 ho]; exact tZ,aiX⟩
theorem VE (w:World):Calls Tryz.prog 3 #[] w fun e w'=>e=.returned (.bool true)/\Below w.heap.size w w':=by
 obtain⟨h0,h1,h2,h3⟩:=gT w #[V X 3,V X 0] #[V X 4,V X 0] #[V X 5,V X 0] 23 23 23;have cH:=D (h0);have cA:=D (h1);have dA:=D (h2);have eA:=D (h3);clear h0 h1 h2 h3;have f9:=D (show (((w.alloc (Y #[V X 3,V X 0] 23)).alloc (Y #[V X 4,V X 0] 23)).alloc (Y #[V X 5,V X 0] 23)).heap.size=w.heap.size+1+1+1 from by simp);go_enter Tryz.func3,Tryz.ntmps3;go_upto_region 2 with fail;generalize (((w.alloc (Y #[V X 3,V X 0] 23)).alloc (Y #[V X 4,V X 0] 23)).alloc (Y #[V X 5,V X 0] 23))=W at *;refine aoE _ W w.heap.size _ _ _ _ _ _ _ _ _ _ _ _ _ _ _ _ _ _ _ _ _ _ _ _ _ _ _ _ _ _ _ _ _ _ _ _ _ _ _ _ _ _ _ _ _ _ _ _ _ _ _ _ _ _ _ _ _ _ _ _ _ _ _ _ _ _ _ _ _ _ _ _ _ _ _ _ _ _ _ _ _ _ _ _ _ _ _ _ _ _ _ _ _ _ cA.out ?_;intro x bb v13 v14 v15 v16 v17 v18 v19 v20 m1 m2 m3 m4 m5 m6 m7 m8 m9 m10 m11 m12 m13 m14 m15 hbb ku hbr hbel;have cL:=D (cH.out.trans (hbel.mono cH.out.size));have cS:=D (cA.out.on hbel);have c7:=D (dA.out.on hbel);have eI:=D (eA.out.on hbel);clear cH cA dA eA;have cC:=D (ku);have d9:=D (hbr);have a3:=D (show w.heap.size+1+1+1<=bb by have:=f9.out; omega);clear hbb ku hbr hbel;obtain⟨uJ,uK,uL,uM,uN,uO⟩:=cC.out.fD;have x20:=c7.out.cell 0;have x21:=c7.out.cell 1;simp only [O,K,L] at x20 x21;go_wp2_with fail;refine (Eh rr0 m1 m2 m3 m4 m5 m6 m7 m8 m9 m10 m11 m12 m13 m14 m15 4 0 Z 0 0 [] x d9.out (jo _) aiY (by simp) tZ rfl).mono ?_;rw [aiR];rintro e1 y1 ⟨⟨⟨n1,n2,n3⟩,⟨n4,n5,n6⟩,⟨n7,n8,n9⟩,⟨n10,n11,n12⟩,⟨n13,n14,n15⟩,⟨o1,o2,o3⟩,lxa,rfl,hbn,_,hou⟩,hb⟩;clear uJ uK uL uM uN uO x20 x21;clear d9;have dS:=D (cL.out.trans (hb.mono cL.out.size));have cW:=D (cS.out.on hb);have dT:=D (c7.out.on hb);have cY:=D (eI.out.on hb);have a4:=D (cC.out.on hb);clear cL cS c7 eI cC;have f7:=D hbn;have cP:=D hou;clear hbn hou hb;obtain⟨k0,k1,k2,k3,k4,k5⟩:=a4.out.fD;obtain⟨oP,oQ,oU,oW,oZ,o7⟩:=a4.out.kK;have zz:=a4.out.lt;have bs:=Q y1 bb (V X 0) (J n1 n2 n3) (J n4 n5 n6) (J n7 n8 n9) (J n10 n11 n12) (J n13 n14 n15);have a5:=D (dH (b:=bb) dS.out (by have:=a3.out; omega) (V X 0) (J n1 n2 n3) (J n4 n5 n6) (J n7 n8 n9) (J n10 n11 n12) (J n13 n14 n15));have bJ:=D (bs.box cW.out (by have:=a3.out; omega));have a6:=D (bs.box dT.out (by have:=a3.out; omega));have a7:=D (bs.box cY.out (by have:=a3.out; omega));have a8:=D (f7.out.keep (s1:=(m1,m2,m3)) (s2:=(m4,m5,m6)) (s3:=(m7,m8,m9)) (s4:=(m10,m11,m12)) (s5:=(m13,m14,m15)) (me:=0) a4.out bs);have aE:=D (cP.out.but bs a4.out (by decide) (by decide));have b9:=D (dL a4.out (V X 0) (J n1 n2 n3) (J n4 n5 n6) (J n7 n8 n9) (J n10 n11 n12) (J n13 n14 n15));clear bs dS cW dT cY f7 cP a4;go_upto_region 4 with fail;clear zz k0 k1 k2 k3 k4 k5 oP oQ oU oW oZ o7;unfold gV at a5 bJ a6 a7 a8 aE b9;generalize ((((((y1.setCell ⟨bb,0,Z⟩ (V X 0)).setCell ⟨bb,1,Z⟩ (J n1 n2 n3)).setCell ⟨bb,2,Z⟩ (J n4 n5 n6)).setCell ⟨bb,3,Z⟩ (J n7 n8 n9)).setCell ⟨bb,4,Z⟩ (J n10 n11 n12)).setCell ⟨bb,5,Z⟩ (J n13 n14 n15))=y2 at *;have cG:=D (a5.out);have c8:=D (bJ.out);have cX:=D (a6.out);have c9:=D (a7.out);have cT:=D (a8.out);have eK:=D (aE.out);have cJ:=D (b9.out);clear a5 bJ a6 a7 a8 aE b9;obtain⟨uJ,uK,uL,uM,uN,uO⟩:=cJ.out.fD;have x10:=c8.out.cell 0;have x11:=c8.out.cell 1;simp only [O,K,L] at x10 x11;have x30:=c9.out.cell 0;have x31:=c9.out.cell 1;simp only [O,K,L] at x30 x31;go_wp2_with fail;refine (Vt rr1 n1 n2 n3 n4 n5 n6 n7 n8 n9 n10 n11 n12 n13 n14 n15 2 3 3 0 5 0 Z 0 0 [] y2 cT.out adl aaR aiU aiW (jo _) tZ).mono ?_;rw [aln];rintro e2 y3 ⟨⟨⟨l1,l2,l3⟩,⟨l4,l5,l6⟩,⟨l7,l8,l9⟩,⟨l10,l11,l12⟩,⟨l13,l14,l15⟩,⟨p1,p2,p3⟩,lxb,rfl,hbn,_,hou⟩,hb⟩;clear uJ uK uL uM uN uO x10 x11 x30 x31;clear cT;have cU:=D (cG.out.trans (hb.mono cG.out.size));have d1:=D (c8.out.on hb);have eB:=D (cX.out.on hb);have eJ:=D (c9.out.on hb);have T:=D (cJ.out.on hb);have eW:=D (eK.out.on hb);clear cG c8 cX c9 cJ eK;have eN:=D hbn;have dE:=D hou;clear hbn hou hb;obtain⟨k0,k1,k2,k3,k4,k5⟩:=T.out.fD;obtain⟨oP,oQ,oU,oW,oZ,o7⟩:=T.out.kK;have zz:=T.out.lt;have bs:=Q y3 bb (V X 0) (J l1 l2 l3) (J l4 l5 l6) (J l7 l8 l9) (J l10 l11 l12) (J l13 l14 l15);have a5:=D (dH (b:=bb) cU.out (by have:=a3.out; omega) (V X 0) (J l1 l2 l3) (J l4 l5 l6) (J l7 l8 l9) (J l10 l11 l12) (J l13 l14 l15));have bJ:=D (bs.box d1.out (by have:=a3.out; omega));have a6:=D (bs.box eB.out (by have:=a3.out; omega));have a7:=D (bs.box eJ.out (by have:=a3.out; omega));have a8:=D (eN.out.keep (s1:=(n1,n2,n3)) (s2:=(n4,n5,n6)) (s3:=(n7,n8,n9)) (s4:=(n10,n11,n12)) (s5:=(n13,n14,n15)) (me:=0) T.out bs);have aE:=D (eW.out.but bs T.out (by decide) (by decide));have b9:=D (dE.out.but bs T.out (by decide) (by decide));have cF:=D (dL T.out (V X 0) (J l1 l2 l3) (J l4 l5 l6) (J l7 l8 l9) (J l10 l11 l12) (J l13 l14 l15));clear bs cU d1 eB eJ eN eW dE T;go_upto_region 5 with fail;clear zz k0 k1 k2 k3 k4 k5 oP oQ oU oW oZ o7;unfold gV at a5 bJ a6 a7 a8 aE b9 cF;generalize ((((((y3.setCell ⟨bb,0,Z⟩ (V X 0)).setCell ⟨bb,1,Z⟩ (J l1 l2 l3)).setCell ⟨bb,2,Z⟩ (J l4 l5 l6)).setCell ⟨bb,3,Z⟩ (J l7 l8 l9)).setCell ⟨bb,4,Z⟩ (J l10 l11 l12)).setCell ⟨bb,5,Z⟩ (J l13 l14 l15))=y4 at *;have cD:=D (a5.out);have e7:=D (bJ.out);have bQ:=D (a6.out);have eL:=D (a7.out);have cI:=D (a8.out);have e9:=D (aE.out);have eM:=D (b9.out);have cM:=D (cF.out);clear a5 bJ a6 a7 a8 aE b9 cF;obtain⟨uJ,uK,uL,uM,uN,uO⟩:=cM.out.fD;have x20:=bQ.out.cell 0;have x21:=bQ.out.cell 1;simp only [O,K,L] at x20 x21;go_wp2_with fail;refine (xI rr2 l1 l2 l3 l4 l5 l6 l7 l8 l9 l10 l11 l12 l13 l14 l15 4 0 y4 cI.out aiZ).mono ?_;rintro e3 y5 ⟨⟨⟨j1,j2,j3⟩,⟨j4,j5,j6⟩,⟨j7,j8,j9⟩,⟨j10,j11,j12⟩,⟨j13,j14,j15⟩,⟨q1,q2,q3⟩,lxc,rfl,hbn,_,hou⟩,hb⟩;rw [aiS] at hou;clear uJ uK uL uM uN uO x20 x21;have cN:=D (cD.out.trans (hb.mono cD.out.size));have eE:=D (e7.out.on hb);have cQ:=D (bQ.out.on hb);have cV:=D (eL.out.on hb);have eV:=D (cM.out.on hb);have f0:=D (e9.out.on hb);have eQ:=D (cI.out.on hb);have cR:=D (eM.out.on hb);clear cD e7 bQ eL cM e9 cI eM;have d5:=D hou;clear hbn hou hb;go_upto_region 6 with fail;have NN:=gN y5 (Y #[V X (fT rr2 (4,0)).1.me,J j1 j2 j3,J j4 j5 j6,J j7 j8 j9,J j10 j11 j12,J j13 j14 j15] 30);have d3:=D (cN.out.trans (NN.mono cN.out.size));have aqn:=D (eE.out.on NN);have eC:=D (cQ.out.on NN);have d4:=D (cV.out.on NN);have aqo:=D (eV.out.on NN);have d7:=D (f0.out.on NN);have aqp:=D (eQ.out.on NN);have eS:=D (cR.out.on NN);have dC:=D (d5.out.on NN);clear cN eE cQ cV eV f0 eQ cR d5;have aqr:=D (dQ y5 #[V X (fT rr2 (4,0)).1.me,J j1 j2 j3,J j4 j5 j6,J j7 j8 j9,J j10 j11 j12,J j13 j14 j15] 30);clear NN;generalize y5.alloc (Y #[V X (fT rr2 (4,0)).1.me,J j1 j2 j3,J j4 j5 j6,J j7 j8 j9,J j10 j11 j12,J j13 j14 j15] 30)=w6 at *;generalize y5.heap.size=b8 at *;obtain⟨a0,rfl,ha0⟩:=aaQ d7.out.all;obtain⟨c0,c1,rfl,hc0,hc1⟩:=aaP dC.out.all;have LB:lxb=[]:=by
  have h:=eS.out.len;exact List.eq_nil_of_length_eq_zero h
 subst LB;have ro:=Row.dJ d7.out.row;have no:=iX ro;obtain rfl:o2=1:=no.symm;have rp:=Row.dJ eS.out.row;have np:=iX rp;obtain rfl:p2=0:=np.symm;have rq:=Row.dJ dC.out.row;have nq:=iX rq;obtain rfl:q2=2:=nq.symm;obtain⟨pa0,als,alu⟩:=elU (k:=0) ro rfl rfl rfl;obtain⟨da0,ea0,_,_,fa0,ga0,_,_⟩:=alu w6 (Below.refl _ _);rw [ha0.1] at da0;rw [ha0.2.1] at ea0;obtain⟨za0,ya0⟩:=Prod.mk.inj (show (a0.2.2.2.2.1,a0.2.2.2.2.2.1)=((4,0):eU) from ha0.2.2.2.1);rw [za0] at fa0;rw [ya0] at ga0
 replace als:∀ w,(Instr.indexAt 37 (J o1 1 o3) (V X 0)).run Tryz.prog w=.ok (ah (some pa0)) w:=als
 obtain⟨pc0,alv,alx⟩:=elU (k:=0) rq rfl rfl rfl;obtain⟨dc0,ec0,_,_,fc0,gc0,_,_⟩:=alx w6 (Below.refl _ _);rw [hc0.1] at dc0;rw [hc0.2.1] at ec0;obtain⟨zc0,yc0⟩:=Prod.mk.inj (show (c0.2.2.2.2.1,c0.2.2.2.2.2.1)=((5,0):eU) from hc0.2.2.2.1);rw [zc0] at fc0;rw [yc0] at gc0
 replace alv:∀ w,(Instr.indexAt 37 (J q1 2 q3) (V X 0)).run Tryz.prog w=.ok (ah (some pc0)) w:=alv
 obtain⟨pc1,aly,alz⟩:=elU (k:=1) rq rfl rfl rfl;obtain⟨dc1,ec1,_,_,fc1,gc1,_,_⟩:=alz w6 (Below.refl _ _);rw [hc1.1] at dc1;rw [hc1.2.1] at ec1;obtain⟨zc1,yc1⟩:=Prod.mk.inj (show (c1.2.2.2.2.1,c1.2.2.2.2.2.1)=((4,0):eU) from hc1.2.2.2.1);rw [zc1] at fc1;rw [yc1] at gc1
 replace aly:∀ w,(Instr.indexAt 37 (J q1 2 q3) (V X 1)).run Tryz.prog w=.ok (ah (some pc1)) w:=aly
 simp only at da0 ea0 fa0 ga0 dc0 ec0 fc0 gc0 dc1 ec1 fc1 gc1;have q5:=rH 5 0 5 0 true rfl;have q4:=rH 4 0 4 0 true rfl;clear no np nq alu alx alz ro rp rq ha0 hc0 hc1;have x30:=d4.out.cell 0;have x31:=d4.out.cell 1;simp only [O,K,L] at x30 x31;have x20:=eC.out.cell 0;have x21:=eC.out.cell 1;simp only [O,K,L] at x20 x21;have f8:=D (fun dq osq=>d3.out.trans ((below_regrown w6 dq osq).mono d3.out.size))
 replace da0:=cell_regrown da0
 replace ea0:=cell_regrown ea0
 replace fa0:=cell_regrown fa0
 replace ga0:=cell_regrown ga0
 replace dc0:=cell_regrown dc0
 replace ec0:=cell_regrown ec0
 replace fc0:=cell_regrown fc0
 replace gc0:=cell_regrown gc0
 replace dc1:=cell_regrown dc1
 replace ec1:=cell_regrown ec1
 replace fc1:=cell_regrown fc1
 replace gc1:=cell_regrown gc1
 replace x30:=cell_regrown x30
 replace x31:=cell_regrown x31
 replace x20:=cell_regrown x20
 replace x21:=cell_regrown x21
 go_wp2;refine wp_region_quiet_below (by kernel_rfl) (by kernel_rfl) ?_
 repeat (go_big_quiet_step (fail))
 refine wpQuiet_nil ?_;intro _ hw';obtain⟨⟨dq,osq⟩,hw''⟩:=hw';subst hw'';go_wp2;go_ret;exact⟨rfl,f8.out _ _⟩
end Go.Proofs.YtghlpefopidlaaaGreat.Rt
