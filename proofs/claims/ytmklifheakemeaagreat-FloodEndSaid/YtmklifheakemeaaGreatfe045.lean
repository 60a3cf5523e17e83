/-
  A broker that steps . Conditions as told.
-/
import Derived.Test.YtmklifheakemeaaGreatfe044
import Derived.Test.YtmklifheakemeaaGreatfe043
set_option maxRecDepth 100000
set_option maxHeartbeats 64000000
open Go.IntKind renaming i64->Q
open Go.Lib renaming hid->J
open Go.Proofs.YtmklifheakemeaaGreat.Av renaming eY->K
open Go.RowKit.Below renaming refl->V
open Go.Value renaming slice->D,int->O,agg->Y
open _root_.Nat renaming le_trans->L,le_refl->X
open _root_.Option renaming none->U
namespace Go.Proofs.YtmklifheakemeaaGreat
namespace Av
open Go.RowKit Go.Sort Rw YtmklifheakemeaaGreat.Nm Pr Bk
theorem jk {p:List C5} (h:dZ p):p.length<=5:=by
 obtain⟨a,na,rfl⟩:=h;rw [List.length_map];exact na.five
theorem KI.few {b:Br} (h:KI 12 b):Rk b:=⟨L h.ln (by decide),L h.la (by decide),L h.ls (by decide),L h.le (by decide),L h.lo (by decide)⟩
theorem KI.pV {b:Br} (h:KI 12 b):yD b:=⟨fun a q=>L (jk (h.pa a q)) (by decide),fun a q=>L (jk (h.pe a q)) (by decide),fun a q=>L (jk (h.po a q)) (by decide)⟩
abbrev z5:C5:=(⟨#[]⟩,0,0,0,⟨#[]⟩)
abbrev c0 (b:Br) (z:Int):Br:={ b with near:=b.near++[z] }
abbrev c1 (b:Br):Br:={ b with dQ:=b.dQ++[⟨(99,0),[],-1⟩] }
abbrev c2 (b:Br):Br:={ b with ent:=b.ent++[⟨(98,0),(0,0),[],-1,false⟩] }
abbrev c3 (b:Br):Br:={ b with own:=b.own++[⟨(-1,0),[]⟩,⟨(-1,0),[]⟩] }
abbrev c4 (b:Br):Br:={ b with seen:=b.seen++[(97,0),(97,0)] }
abbrev c5 (b:Br):Br:={ b with own:=[⟨(-5,0),[z5]⟩]++b.own }
end Av
namespace Fl
open Go.RowKit Go.Sort Rw YtmklifheakemeaaGreat.Nm Pr Bk Av Rl Sb
theorem Fp {α:Type} (l:List α) (mt:α->Bool) (e:α->En) (t:α->Int) (b:Br) (o0:List Ou):∀ k,k<=l.length->eu l (fun s a=>gu s (mt a) (e a) (t a)) (b,o0) k=((eu l (fun s a=>gu s (mt a) (e a) (t a)) (b,[]) k).1,o0++(eu l (fun s a=>gu s (mt a) (e a) (t a)) (b,[]) k).2)
 | 0,_=>by simp [eu]
 | k+1,hk=>by
  obtain⟨a,ha⟩:∃ a,l[k]?=some a:=⟨_,List.getElem?_eq_getElem hk⟩;rw [lq _ _ ha,lq _ _ ha,Fp l mt e t b o0 k (by omega)];unfold gu
  split
  ·rfl
  ·dsimp only
   split
   ·rw [List.append_assoc]
   ·rfl
theorem Q9 (b:Br) (f:Int) (x:fC) (p:List C5):kK b f x p=if (eX b ⟨x,p,f⟩).2=false then ((eX b ⟨x,p,f⟩).1,[]) else ((zu (eX b ⟨x,p,f⟩).1 ⟨x,p,f⟩).1,fG b.near f 1 x (0,0) p++(zu (eX b ⟨x,p,f⟩).1 ⟨x,p,f⟩).2):=by
 unfold kK
 split
 ·rfl
 ·exact Fp _ (fun o=>jr o.p p) (fun o=>ou x o) (fun _=>f) _ _ _ (X _)
structure JY (b:Br) (f:Int) (p:List C5):Prop where
 few:Rk b
 pV:yD b
 ok:jc b
 ls:b.seen.length<=899
 la:b.dQ.length<=899
 lo:b.ent.length+b.own.length<=900
 pe:∀ e∈b.ent,dZ e.p
 po:∀ o∈b.own,dZ o.p
 pp:dZ p
 co:kW b.near f=true
 rp:Wr.jP p=true
theorem Ra {b:Br} {x:fC} {f:Int} {p:List C5} (h:JY b f p):Rk (eX b ⟨x,p,f⟩).1/\yD (eX b ⟨x,p,f⟩).1:=by
 obtain⟨m1,m2,m3,m4⟩:=ji b ⟨x,p,f⟩;obtain⟨n1,n2⟩:=yR b ⟨x,p,f⟩;refine⟨⟨by rw [m2]; exact h.few.near,L n1 (by have:=h.la; omega),L n2 (by have:=h.ls; omega),by rw [m3]; exact h.few.ent,by rw [m4]; exact h.few.own⟩,⟨fun a ha=>?_,by rw [m3]; exact h.pV.ent,by rw [m4]; exact h.pV.own⟩⟩;have key:∀ y∈(eX b ⟨x,p,f⟩).1.dQ,y=⟨x,p,f⟩\/y∈b.dQ:=Fa b ⟨x,p,f⟩;rcases key a ha with rfl|ha
 ·exact jk h.pp
 ·exact h.pV.dQ a ha
theorem yT (b:Br) (s1:Option Addr) (s2 s3:Nat) (s4:Option Addr) (s5 s6:Nat) (s7:Option Addr) (s8 s9:Nat) (s10:Option Addr) (s11 s12:Nat) (s13:Option Addr) (s14 s15:Nat) (f c d:Int) (po:Option Addr) (pn pc:Nat) (p:List C5) (w:World) (h:yK w b (s1,s2,s3) (s4,s5,s6) (s7,s8,s9) (s10,s11,s12) (s13,s14,s15)) (hp:fI w (D po pn pc) p) (ha:JY b f p) :
  Calls Tryz.prog 9 #[Y #[O Q b.me,D s1 s2 s3,D s4 s5 s6,D s7 s8 s9,D s10 s11 s12,D s13 s14 s15],O Q f,Y #[O Q c,O Q d],D po pn pc] w (FlQ w (qb w b (s1,s2,s3) (s4,s5,s6) (s7,s8,s9) (s10,s11,s12) (s13,s14,s15)) (kK b f (c,d) p)):=by
 obtain⟨h0,h1,h2,h3⟩:=gK w #[O Q b.me,D s1 s2 s3,D s4 s5 s6,D s7 s8 s9,D s10 s11 s12,D s13 s14 s15] #[O Q c,O Q d] #[O Q 0,D U 0 0,D U 0 0,D U 0 0,D U 0 0,D U 0 0] 28 31 28;have FG:=J (fun W hb=>Qv b ⟨(c,d),p,f⟩ (s1,s2,s3) (s4,s5,s6) (s7,s8,s9) (s10,s11,s12) (s13,s14,s15) (c,d,(po,pn,pc),f) W (h.br.on (show Below w.heap.size w W from hb)) ⟨rfl,rfl,hp.on hb⟩ ha.few ha.pV (jk ha.pp) ha.ok.seen ha.ok.dQ);have NO:=J h.no;have HP:=J hp;have HA:=J ha;have RC:=J (show ∀ W,Below w.heap.size w W->qb w b (s1,s2,s3) (s4,s5,s6) (s7,s8,s9) (s10,s11,s12) (s13,s14,s15)->qb W b (s1,s2,s3) (s4,s5,s6) (s7,s8,s9) (s10,s11,s12) (s13,s14,s15) from fun W hb hc=>hc.on hb);have UE:=J (Q9 b f (c,d) p);have LF:=J (Ra (x:=(c,d)) ha);have LS:=J (ji b ⟨(c,d),p,f⟩);have LO:=J (Bu ha.ok ⟨(c,d),p,f⟩ ha.co ha.rp);obtain⟨me,hme⟩:∃ me,me=b.me:=⟨_,rfl⟩;have ME:=J hme;simp only [<- hme] at h0 h1 h2 h3 FG ⊢;have gB:=J (h0);have qQ:=J (h1);have Cj:=J (h2);have Jo:=J (h3);clear h0 h1 h2 h3 h hp ha hme;go_enter Tryz.func9,Tryz.ntmps9;go_upto_region 1 with fail;generalize hW0:(((w.alloc (.cells #[O Q me,D s1 s2 s3,D s4 s5 s6,D s7 s8 s9,D s10 s11 s12,D s13 s14 s15] 28)).alloc (.cells #[O Q c,O Q d] 31)).alloc (.cells #[O Q 0,D U 0 0,D U 0 0,D U 0 0,D U 0 0,D U 0 0] 28))=W0 at *;have S0:=J (show W0.heap.size=w.heap.size+1+1+1 from by rw [<- hW0]; simp);clear hW0;obtain⟨y0,y1⟩:=Cj.out.cs2;go_upto_region 2 with fail;clear y0 y1;have NN:=fM W0 (.cells #[O Q c,O Q d,D po pn pc,O Q f] 74);have kJ:=J (gB.out.trans (NN.mono gB.out.size));have sJ:=J (qQ.out.on NN);have l7:=J (Cj.out.on NN);have uZ:=J (Jo.out.on NN);clear gB qQ Cj Jo;have WM:=J (dJ W0 #[O Q c,O Q d,D po pn pc,O Q f] 74);clear NN;generalize W0.alloc (.cells #[O Q c,O Q d,D po pn pc,O Q f] 74)=W at *;generalize hb0:W0.heap.size=b0 at *;have B0:=J (show b0=w.heap.size+1+1+1 from S0.out);clear S0 hb0;have SW:=J (FG.out W kJ.out);clear FG;have RC2:=J (RC.out W kJ.out);have Vv:=J (NO.out.on kJ.out);clear RC NO;obtain⟨x0,x1,x2,x3,x4,x5⟩:=sJ.out.eZ;obtain⟨z0,z1,z2,z3⟩:=WM.out.xQ;go_wp2_with fail;refine SW.out.mono ?_;rintro e1 w1 ⟨⟨⟨m1,m2,m3⟩,⟨m4,m5,m6⟩,⟨m7,m8,m9⟩,⟨m10,m11,m12⟩,⟨m13,m14,m15⟩,rfl,hbr,hno,hbc⟩,hb⟩;clear SW;clear x0 x1 x2 x3 x4 x5 z0 z1 z2 z3;have lS:=J (kJ.out.trans (hb.mono kJ.out.size));have kX:=J (sJ.out.on hb);have oW:=J (l7.out.on hb);have qA:=J (uZ.out.on hb);have abp:=J (WM.out.on hb);clear kJ sJ l7 uZ WM;generalize hr:(eX b ⟨(c,d),p,f⟩).2=r at *;have BN:=J (show yK w1 (eX b ⟨(c,d),p,f⟩).1 (m1,m2,m3) (m4,m5,m6) (m7,m8,m9) (m10,m11,m12) (m13,m14,m15) from ⟨hbr,hno Vv.out⟩);have BNC:=J (show (qb w b (s1,s2,s3) (s4,s5,s6) (s7,s8,s9) (s10,s11,s12) (s13,s14,s15)\/r=true)->qb w1 (eX b ⟨(c,d),p,f⟩).1 (m1,m2,m3) (m4,m5,m6) (m7,m8,m9) (m10,m11,m12) (m13,m14,m15) from fun h=>hbc (h.imp RC2.out id));clear hbr hno hbc hb hr RC2 Vv;rw [show (eX b ⟨(c,d),p,f⟩).1.me=me from by rw [LS.out.1,ME.out]];have NB0:=J (show b0≠w.heap.size from by have:=B0.out; omega);have NB8:=J (show b0≠w.heap.size+1+1 from by have:=B0.out; omega);clear B0;obtain⟨k0,k1,k2,k3,k4,k5⟩:=kX.out.eZ;obtain⟨pG,pI,pJ,pK,pO,pQ⟩:=kX.out.kL;have zz:=kX.out.lt;have bs:=K w1 w.heap.size (O Q me) (D m1 m2 m3) (D m4 m5 m6) (D m7 m8 m9) (D m10 m11 m12) (D m13 m14 m15);have G0:=J (dG (b:=w.heap.size) lS.out (X _) (O Q me) (D m1 m2 m3) (D m4 m5 m6) (D m7 m8 m9) (D m10 m11 m12) (D m13 m14 m15));have G1:=J (bs.box oW.out (by omega));have G2:=J (bs.box qA.out (by omega));have G3:=J (bs.box abp.out NB0.out);have G4:=J (BN.out.keep (s1:=(s1,s2,s3)) (s2:=(s4,s5,s6)) (s3:=(s7,s8,s9)) (s4:=(s10,s11,s12)) (s5:=(s13,s14,s15)) (me:=me) kX.out bs);have G5:=J (fun h=>qb.yh (BNC.out h) bs kX.out (by decide) (by decide) (by decide) (by decide) (by decide) (by decide));have G6:=J (dM kX.out (O Q me) (D m1 m2 m3) (D m4 m5 m6) (D m7 m8 m9) (D m10 m11 m12) (D m13 m14 m15));clear bs lS oW qA abp BN BNC kX;go_upto_region 3 with fail;clear zz k0 k1 k2 k3 k4 k5 pG pI pJ pK pO pQ;unfold gH at G0 G1 G2 G3 G4 G5 G6;generalize ((((((w1.setCell ⟨w.heap.size,0,U⟩ (O Q me)).setCell ⟨w.heap.size,1,U⟩ (D m1 m2 m3)).setCell ⟨w.heap.size,2,U⟩ (D m4 m5 m6)).setCell ⟨w.heap.size,3,U⟩ (D m7 m8 m9)).setCell ⟨w.heap.size,4,U⟩ (D m10 m11 m12)).setCell ⟨w.heap.size,5,U⟩ (D m13 m14 m15))=w2 at *;have qB:=J (G0.out);have adz:=J (G1.out);have tK:=J (G2.out);have WO:=J (G3.out);have JZ:=J (G4.out);have MF:=J (G5.out);have xM:=J (G6.out);clear G0 G1 G2 G3 G4 G5 G6;cases r
 ·have x0:=xM.out.cell 0;have x1:=xM.out.cell 1;have x2:=xM.out.cell 2;have x3:=xM.out.cell 3;have x4:=xM.out.cell 4;have x5:=xM.out.cell 5;simp only [List.getElem?_toArray,List.getElem?_cons_zero,List.getElem?_cons_succ] at x0 x1 x2 x3 x4 x5;have afC:=J (fun h=>MF.out (Or.inl h));obtain⟨r0,r1,r2,r3,r4,r5⟩:=tK.out.eZ;obtain⟨wW,vg,zN,Bl,Bn,Bo⟩:=tK.out.kL;have zz:=tK.out.lt;have bs:=K w2 (w.heap.size+1+1) (O Q me) (D m1 m2 m3) (D m4 m5 m6) (D m7 m8 m9) (D m10 m11 m12) (D m13 m14 m15);have GG:=J (dM tK.out (O Q me) (D m1 m2 m3) (D m4 m5 m6) (D m7 m8 m9) (D m10 m11 m12) (D m13 m14 m15));have BL:=J (dG (b:=w.heap.size+1+1) qB.out (by omega) (O Q me) (D m1 m2 m3) (D m4 m5 m6) (D m7 m8 m9) (D m10 m11 m12) (D m13 m14 m15));have HB:=J (JZ.out.keep (s1:=(U,0,0)) (s2:=(U,0,0)) (s3:=(U,0,0)) (s4:=(U,0,0)) (s5:=(U,0,0)) (me:=0) tK.out bs);have HB2:=J (fun h=>qb.yh (afC.out h) bs tK.out (by decide) (by decide) (by decide) (by decide) (by decide) (by decide));clear bs;go_wp2_with fail;obtain⟨v0,v1,v2,v3,v4,v5⟩:=GG.out.eZ;refine bodyPost_ret (v:=.tuple #[Y #[O Q me,D m1 m2 m3,D m4 m5 m6,D m7 m8 m9,D m10 m11 m12,D m13 m14 m15],D U 0 0]) (by simp [results,Tryz.results9,go_sem,v0,v1,v2,v3,v4,v5]) rfl ?_;rw [UE.out];simp only [if_true];exact⟨⟨(m1,m2,m3),(m4,m5,m6),(m7,m8,m9),(m10,m11,m12),(m13,m14,m15),(U,0,0),[],by rw [LS.out.1,ME.out],HB.out,HB2.out,wD.nil _ _⟩,BL.out⟩
 ·have BC:=J (MF.out (Or.inr rfl));clear MF JZ;have HN:=J (show qJ w2 (D m1 m2 m3) b.near from by have h:=BC.out.br.near; rw [LS.out.2.1] at h; exact h);have OT:=J (Fg me f 1 c d 0 0 (m1,m2,m3) (D m4 m5 m6) (D m7 m8 m9) (D m10 m11 m12) (D m13 m14 m15) (po,pn,pc) p b.near w2 HN.out HA.out.few.near (HP.out.on qB.out) (jk HA.out.pp));obtain⟨x0,x1,x2,x3,x4,x5⟩:=xM.out.eZ;obtain⟨y0,y1⟩:=adz.out.cs2;go_wp2_with fail;refine OT.out.mono ?_;rintro e2 w3 ⟨⟨⟨o1,o2,o3⟩,lx,rfl,hou⟩,hb⟩;clear OT HN;clear x0 x1 x2 x3 x4 x5 y0 y1;have OU:=J (hou.le qB.out.size);clear hou;have kR:=J (qB.out.trans (hb.mono qB.out.size));have WQ:=J (xM.out.on hb);have abq:=J (adz.out.on hb);have abr:=J (tK.out.on hb);have MG:=J (WO.out.on hb);have nZ:=J (BC.out.on hb);clear qB xM adz tK WO BC;clear hb;have JN:=J (Bd (eX b ⟨(c,d),p,f⟩).1 m1 m2 m3 m4 m5 m6 m7 m8 m9 m10 m11 m12 m13 m14 m15 c d po pn pc f p w3 nZ.out (HP.out.on kR.out) LF.out.1 LF.out.2 (by rw [LS.out.2.2.1,LS.out.2.2.2]; exact HA.out.lo) LO.out (by rw [LS.out.2.2.1]; exact HA.out.pe) (by rw [LS.out.2.2.2]; exact HA.out.po) HA.out.pp);rw [LS.out.1,<- ME.out] at JN;obtain⟨x0,x1,x2,x3,x4,x5⟩:=WQ.out.eZ;obtain⟨z0,z1,z2,z3⟩:=MG.out.xQ;go_wp2_with fail;refine JN.out.mono ?_;rintro e3 w4 ⟨⟨⟨n1,n2,n3⟩,⟨n4,n5,n6⟩,⟨n7,n8,n9⟩,⟨n10,n11,n12⟩,⟨n13,n14,n15⟩,⟨r1,r2,r3⟩,ly,rfl,hbc,hou⟩,hb⟩;clear JN;clear x0 x1 x2 x3 x4 x5 z0 z1 z2 z3;clear nZ;have BD:=J hbc;have OV:=J (hou.le kR.out.size);clear hbc hou;have Pf:=J (kR.out.trans (hb.mono kR.out.size));have zx:=J (WQ.out.on hb);have ajl:=J (abq.out.on hb);have abt:=J (abr.out.on hb);have ahA:=J (MG.out.on hb);have abu:=J (OU.out.on hb);clear kR WQ abq abr MG OU;clear hb;obtain⟨k0,k1,k2,k3,k4,k5⟩:=zx.out.eZ;obtain⟨pG,pI,pJ,pK,pO,pQ⟩:=zx.out.kL;have zz:=zx.out.lt;have bs:=K w4 w.heap.size (O Q me) (D n1 n2 n3) (D n4 n5 n6) (D n7 n8 n9) (D n10 n11 n12) (D n13 n14 n15);have G0:=J (dG (b:=w.heap.size) Pf.out (X _) (O Q me) (D n1 n2 n3) (D n4 n5 n6) (D n7 n8 n9) (D n10 n11 n12) (D n13 n14 n15));have G1:=J (bs.box abt.out (by omega));have G2:=J (BD.out.yh bs zx.out (by decide) (by decide) (by decide) (by decide) (by decide) (by decide));have G3:=J (abu.out.but bs zx.out (by decide) (by decide));have G4:=J (OV.out.but bs zx.out (by decide) (by decide));have G5:=J (dM zx.out (O Q me) (D n1 n2 n3) (D n4 n5 n6) (D n7 n8 n9) (D n10 n11 n12) (D n13 n14 n15));clear bs Pf abt BD abu OV zx;go_upto_region 7 with fail;clear zz k0 k1 k2 k3 k4 k5 pG pI pJ pK pO pQ;unfold gH at G0 G1 G2 G3 G4 G5;generalize ((((((w4.setCell ⟨w.heap.size,0,U⟩ (O Q me)).setCell ⟨w.heap.size,1,U⟩ (D n1 n2 n3)).setCell ⟨w.heap.size,2,U⟩ (D n4 n5 n6)).setCell ⟨w.heap.size,3,U⟩ (D n7 n8 n9)).setCell ⟨w.heap.size,4,U⟩ (D n10 n11 n12)).setCell ⟨w.heap.size,5,U⟩ (D n13 n14 n15))=w5 at *;have tZ:=J (G0.out);have afD:=J (G1.out);have afE:=J (G2.out);have abv:=J (G3.out);have WR:=J (G4.out);have abw:=J (G5.out);clear G0 G1 G2 G3 G4 G5;have LX:lx.length<=900:=by
   rw [abv.out.len];have h1:=Fe b.near f 1 (c,d) (0,0) p;have h2:=HA.out.few.near;omega
  have LY:ly.length<=1000:=by
   rw [WR.out.len];have h1:=(Mt LO.out (by rw [LS.out.2.2.1]; exact HA.out.pe) (by rw [LS.out.2.2.2]; exact HA.out.po) f (c,d) p [] _ (X _)).2;have h2:=HA.out.few.own;have h3:(eX b ⟨(c,d),p,f⟩).1.own.length=b.own.length:=by rw [LS.out.2.2.2]
   have h4:(zu (eX b ⟨(c,d),p,f⟩).1 ⟨(c,d),p,f⟩).2.length<=0+(eX b ⟨(c,d),p,f⟩).1.own.length:=h1;omega
  have od:=abv.out.on (V _ _).drew;have rd:=(WR.out.on (V _ _).drew).row;obtain⟨v',X1,hrun,ho,gr⟩:=gJ D7 w.heap.size od.row (Row.dH rd) (L LX (by decide)) LY (by have h:=tZ.out.size; simpa using h) 35;have HO1:=od.more gr ho ((WR.out.on (V _ _).drew).all);have gb:=(tZ.out.drew).grown gr (by have h:=tZ.out.size; simpa using h) fun j hj=>(od.row.lt j hj).1;have b4:=Gj od.row gr (abw.out.on (V _ _).drew) (by decide);have b8:=Gj od.row gr (afD.out.on (V _ _).drew) (by decide);have bd:=qb.app od.row gr (afE.out.on (V _ _).drew);obtain⟨ra,rc,hv⟩:=(Row.dH ho).len;have bs:=K X1 (w.heap.size+1+1) (O Q me) (D n1 n2 n3) (D n4 n5 n6) (D n7 n8 n9) (D n10 n11 n12) (D n13 n14 n15);have GG:=dM b8 (O Q me) (D n1 n2 n3) (D n4 n5 n6) (D n7 n8 n9) (D n10 n11 n12) (D n13 n14 n15);have BL:=J (dG (b:=w.heap.size+1+1) gb (by omega) (O Q me) (D n1 n2 n3) (D n4 n5 n6) (D n7 n8 n9) (D n10 n11 n12) (D n13 n14 n15));have HC:=J (bd.yh bs b8 (by decide) (by decide) (by decide) (by decide) (by decide) (by decide));have HO:=J (HO1.but bs b8 (by decide) (by decide));have HR:=J hrun;have H4:=J b4;have H8:=J b8;clear LX LY od rd ho gr HO1 gb b4 b8 bd bs hrun;rw [hv] at HR HO;refine ad7 _ w5 w.heap.size (w.heap.size+1+1) me n1 n2 n3 n4 n5 n6 n7 n8 n9 n10 n11 n12 n13 n14 n15 _ _ (D ra (lx++ly).length rc) X1 _ _ _ _ _ _ _ _ _ _ _ _ _ _ _ _ _ _ _ _ _ _ _ _ _ _ _ _ _ _ _ _ _ _ _ _ _ _ _ _ _ _ _ _ _ abw.out H4.out H8.out (by omega) HR.out ?_;intro a hd h8 h9;obtain⟨v0,v1,v2,v3,v4,v5⟩:=GG.eZ;simp only [Exit.then]
  apply_assumption
  go_wp2_with fail;refine bodyPost_ret (v:=.tuple #[Y #[O Q me,D n1 n2 n3,D n4 n5 n6,D n7 n8 n9,D n10 n11 n12,D n13 n14 n15],D ra (lx++ly).length rc]) (by simp [results,Tryz.results9,go_sem,h8,h9,v0,v1,v2,v3,v4,v5]) hd ?_;rw [UE.out,if_neg (by simp)];refine⟨⟨(n1,n2,n3),(n4,n5,n6),(n7,n8,n9),(n10,n11,n12),(n13,n14,n15),(ra,(lx++ly).length,rc),_,?_,⟨HC.out.br,HC.out.no⟩,fun _=>HC.out,HO.out⟩,BL.out⟩;rw [show (zu (eX b ⟨(c,d),p,f⟩).1 ⟨(c,d),p,f⟩).1.me=me from by rw [show (zu (eX b ⟨(c,d),p,f⟩).1 ⟨(c,d),p,f⟩).1.me=(eX b ⟨(c,d),p,f⟩).1.me from (Mt LO.out (by rw [LS.out.2.2.1]; exact HA.out.pe) (by rw [LS.out.2.2.2]; exact HA.out.po) f (c,d) p [] _ (X _)).1.at_.me,LS.out.1,ME.out]]
end Fl
end Go.Proofs.YtmklifheakemeaaGreat
