/-
  Brokers of broadside. Conditions as told.
-/
import Derived.Test.YtmklifheakemeaaGreatBQ023
import Derived.Test.YtmklifheakemeaaGreatBQ012
set_option maxRecDepth 100000
set_option maxHeartbeats 64000000
open _root_.Bool renaming and_eq_true->Q,false->U,true->X
open Go.Lib renaming hid->D
open Go.Value renaming slice->J,int->Y
open _root_.List renaming getElem?_eq_getElem->K,getElem?_eq_some_iff->O
open _root_.Option renaming some->V,none->Z
open Option.some renaming inj->L
namespace Go.Proofs.YtmklifheakemeaaGreat.Bk
open Go.RowKit Go.Sort Rw YtmklifheakemeaaGreat.Nm Pr
def Xx (x y:Ad):Bool:=za x.id y.id && (x.par == y.par && jv x.p y.p)
def Yj (x y:Ow):Bool:=za x.id y.id && jv x.p y.p
theorem Yk (x y:Ad):Xx x y=X↔x=y:=by
 obtain⟨a,b,c⟩:=x;obtain⟨a',b',c'⟩:=y;simp only [Xx,Q,pF,tO,beq_iff_eq,Ad.mk.injEq];constructor
 ·rintro⟨h1,h2,h3⟩;exact⟨h1,h3,h2⟩
 ·rintro⟨h1,h2,h3⟩;exact⟨h1,h3,h2⟩
theorem Yl (x y:Ow):Yj x y=X↔x=y:=by
 obtain⟨a,b⟩:=x;obtain⟨a',b'⟩:=y;simp only [Yj,Q,pF,tO,Ow.mk.injEq]
def xS (a b:Br):Bool:=a.me == b.me && (decide (a.near=b.near) && (gH za a.seen b.seen && (decide (a.dQ.length=b.dQ.length) && (decide (a.own.length=b.own.length) && (gH Gw a.ent b.ent && (gH Xx a.dQ b.dQ && gH Yj a.own b.own))))))
theorem Kz (a b:Br):xS a b=X↔a=b:=by
 obtain⟨m,n,d,s,e,o⟩:=a;obtain⟨m',n',d',s',e',o'⟩:=b;simp only [xS,Q,beq_iff_eq,decide_eq_true_eq,qE pF,qE XT,qE Yk,qE Yl,Br.mk.injEq];constructor
 ·rintro⟨h1,h2,h3,_,_,h6,h7,h8⟩;exact⟨h1,h2,h7,h3,h6,h8⟩
 ·rintro⟨h1,h2,h3,h4,h5,h6⟩;exact⟨h1,h2,h4,by rw [h3],by rw [h6],h5,h3,h6⟩
def Shr (b:Br):Prop:=(∀ (k:Nat) (a:Ad),b.dQ[k]?=V a->a.p.length<=1000000)/\(∀ (k:Nat) (e:En),b.ent[k]?=V e->e.p.length<=1000000)/\(∀ (k:Nat) (o:Ow),b.own[k]?=V o->o.p.length<=1000000)
theorem yx (a b:Br) (nv av sv ev ov nv2 av2 sv2 ev2 ov2:Sl) (w:World) (ha:iZ w a nv av sv ev ov) (hb:iZ w b nv2 av2 sv2 ev2 ov2) (sa:Shr a) (sb:Shr b) (fa:PW a) :
  Calls Tryz.prog 18 #[oK a.me nv av sv ev ov,oK b.me nv2 av2 sv2 ev2 ov2] w fun e w'=>e=.returned (.bool (xS a b))/\Below w.heap.size w w':=by
 obtain⟨no,nn,nc⟩:=nv;obtain⟨ao,an,ac⟩:=av;obtain⟨so,sn,sc⟩:=sv;obtain⟨eo,en,ec⟩:=ev;obtain⟨oo,dY,oc⟩:=ov;obtain⟨no2,nn2,nc2⟩:=nv2;obtain⟨Cq,kJ,kM⟩:=av2;obtain⟨so2,oM,iI⟩:=sv2;obtain⟨EP,iA,iB⟩:=ev2;obtain⟨oo2,Hw,oc2⟩:=ov2;obtain⟨lDa,hd1,hd2⟩:=ha.dQ;obtain⟨lDb,hd3,hd4⟩:=hb.dQ;obtain⟨lEa,he1,he2⟩:=ha.ent;obtain⟨lEb,he3,he4⟩:=hb.ent;obtain⟨lWa,hw1,hw2⟩:=ha.own;obtain⟨lWb,hw3,hw4⟩:=hb.own;have hl9:lEa.length<=1000000:=by have:=he2.len; have:=fa.ent; omega
 have hm9:=fa.dQ;have hn9:=fa.own;have la9:=hd2.len;have lo9:=hw2.len;obtain⟨q1_,q2_,TJ⟩:=hd1.len;obtain⟨rfl,k1,rfl⟩:ao=q1_/\an=(lDa).length/\ac=q2_:=by
  have h_:J ao an ac=J q1_ (lDa).length q2_:=TJ;simpa using h_
 clear TJ;obtain⟨q1_,q2_,TJ⟩:=hd3.len;obtain⟨rfl,k2,rfl⟩:Cq=q1_/\kJ=(lDb).length/\kM=q2_:=by
  have h_:J Cq kJ kM=J q1_ (lDb).length q2_:=TJ;simpa using h_
 clear TJ;obtain⟨q1_,q2_,TJ⟩:=hw1.len;obtain⟨rfl,k3,rfl⟩:oo=q1_/\dY=(lWa).length/\oc=q2_:=by
  have h_:J oo dY oc=J q1_ (lWa).length q2_:=TJ;simpa using h_
 clear TJ;obtain⟨q1_,q2_,TJ⟩:=hw3.len;obtain⟨rfl,k4,rfl⟩:oo2=q1_/\Hw=(lWb).length/\oc2=q2_:=by
  have h_:J oo2 Hw oc2=J q1_ (lWb).length q2_:=TJ;simpa using h_
 clear TJ;have LDA:=D k1;have LDB:=D k2;have LWA:=D k3;have LWB:=D k4;have akI:an<=900:=by omega
 have akJ:dY<=900:=by omega
 have UDA:=D hd2;have UDB:=D hd4;have UWA:=D hw2;have UWB:=D hw4;have RDA:=D hd1;have RDB:=D hd3;have RWA:=D hw1;have RWB:=D hw3;have SHA:=D sa;have SHB:=D sb;obtain⟨h0,h1,h2⟩:=gY w #[Y .i64 a.me,J no nn nc,J ao an ac,J so sn sc,J eo en ec,J oo dY oc] #[Y .i64 b.me,J no2 nn2 nc2,J Cq kJ kM,J so2 oM iI,J EP iA iB,J oo2 Hw oc2] 28 28;obtain⟨r1,e1⟩:∃ r,decide (a.near=b.near)=r:=⟨_,rfl⟩;obtain⟨r2,e2⟩:∃ r,gH za a.seen b.seen=r:=⟨_,rfl⟩;obtain⟨r3,e3⟩:∃ r,decide (a.dQ.length=b.dQ.length)=r:=⟨_,rfl⟩;obtain⟨r4,e4⟩:∃ r,decide (a.own.length=b.own.length)=r:=⟨_,rfl⟩;obtain⟨r5,e5⟩:∃ r,gH Gw a.ent b.ent=r:=⟨_,rfl⟩;have hR:xS a b=(a.me == b.me && (r1 && (r2 && (r3 && (r4 && (r5 && (gH Xx a.dQ b.dQ && gH Yj a.own b.own))))))):=by rw [<- e1,<- e2,<- e3,<- e4,<- e5]; rfl
 have CN0:=D (fun W (Xy:Below w.heap.size w W)=>aeh (J no nn nc) (J no2 nn2 nc2) a.near b.near W (ha.near.on Xy) (hb.near.on Xy));have CJ0:=D (fun W (Xy:Below w.heap.size w W)=>PY (J so sn sc) (J so2 oM iI) a.seen b.seen W (ha.seen.on Xy) (hb.seen.on Xy) (by have:=fa.seen; omega));have CE0:=D (fun W (Xy:Below w.heap.size w W)=>Hu (J eo en ec) (J EP iA iB) lEa lEb a.ent b.ent W (he1.on Xy) (he3.on Xy) (he2.mono fun _ _ h=>h.on Xy) (he4.mono fun _ _ h=>h.on Xy) sa.2.1 sb.2.1 hl9);rw [e1] at CN0;rw [e2] at CJ0;rw [e5] at CE0;have E3:=D e3;have E4:=D e4;obtain⟨me,hme⟩:∃ me,me=a.me:=⟨_,rfl⟩;obtain⟨me2,aeR⟩:∃ me,me=b.me:=⟨_,rfl⟩;simp only [<- hme,<- aeR] at h0 h1 h2 hR ⊢;obtain⟨r0,e0⟩:∃ r,(me == me2)=r:=⟨_,rfl⟩;have h0':(me != me2)=!r0:=by rw [<- e0]; rfl
 rw [e0] at hR;have R:=D hR;generalize xS a b=rr at *;have B0:=D h0;have X0:=D h1;have Y0:=D h2;clear h0 h1 h2 ha hb sa sb fa hd1 hd2 hd3 hd4 he1 he2 he3 he4 hw1 hw2 hw3 hw4 hl9 hm9 hn9 la9 lo9 k1 k2 k3 k4 e1 e2 e3 e4 e5 hme aeR hR;show Calls Tryz.prog 18 #[.agg #[Y .i64 me,J no nn nc,J ao an ac,J so sn sc,J eo en ec,J oo dY oc],.agg #[Y .i64 me2,J no2 nn2 nc2,J Cq kJ kM,J so2 oM iI,J EP iA iB,J oo2 Hw oc2]] w _;go_enter Tryz.func18,Tryz.ntmps18;go_upto_region 1 with fail;generalize (w.alloc (.cells #[Y .i64 me,J no nn nc,J ao an ac,J so sn sc,J eo en ec,J oo dY oc] 28)).alloc (.cells #[Y .i64 me2,J no2 nn2 nc2,J Cq kJ kM,J so2 oM iI,J EP iA iB,J oo2 Hw oc2] 28)=W at *;have CN:=D (CN0.out W B0.out);clear CN0;have x_:=X0.out;have y_:=Y0.out;obtain⟨x0,x1,x2,x3,x4,x5⟩:=x_.fu;obtain⟨y0,y1,y2,y3,y4,y5⟩:=y_.fu;clear x_ y_;cases r0
 ·go_wp2;go_ret;exact⟨kL (by rw [R.out]; simp),B0.out⟩
 ·go_wp2_with fail;refine CN.out.mono ?_;rintro e1 w1 ⟨rfl,hb⟩;have B1:=D (B0.out.trans (hb.mono B0.out.size));have X1:=D (X0.out.on hb);have Y1:=D (Y0.out.on hb);clear hb CN x0 x1 x2 x3 x4 x5 y0 y1 y2 y3 y4 y5;have x_:=X1.out;have y_:=Y1.out;obtain⟨x0,x1,x2,x3,x4,x5⟩:=x_.fu;obtain⟨y0,y1,y2,y3,y4,y5⟩:=y_.fu;clear x_ y_;cases r1
  ·go_wp2;go_ret;exact⟨kL (by rw [R.out]; simp),B1.out⟩
  ·have CJ:=D (CJ0.out w1 B1.out);go_wp2_with fail;refine CJ.out.mono ?_;rintro e2 w2 ⟨rfl,hb⟩;have B2:=D (B1.out.trans (hb.mono B1.out.size));have X2:=D (X1.out.on hb);have Y2:=D (Y1.out.on hb);clear hb CJ x0 x1 x2 x3 x4 x5 y0 y1 y2 y3 y4 y5;have x_:=X2.out;have y_:=Y2.out;obtain⟨x0,x1,x2,x3,x4,x5⟩:=x_.fu;obtain⟨y0,y1,y2,y3,y4,y5⟩:=y_.fu;clear x_ y_;cases r2
   ·go_wp2;go_ret;exact⟨kL (by rw [R.out]; simp),B2.out⟩
   ·by_cases hA:an=kJ
    ·subst hA;have k3:r3=X:=by rw [<- E3.out]; exact decide_eq_true (by rw [<- UDA.out.len,<- UDB.out.len]; have:=LDA.out; have:=LDB.out; omega)
     subst k3;by_cases hO:dY=Hw
     ·subst hO;have k4:r4=X:=by rw [<- E4.out]; exact decide_eq_true (by rw [<- UWA.out.len,<- UWB.out.len]; have:=LWA.out; have:=LWB.out; omega)
      subst k4;have CE:=D (CE0.out w2 B2.out);go_wp2_with fail;refine CE.out.mono ?_;rintro e4 w4 ⟨rfl,hb⟩;have B4:=D (B2.out.trans (hb.mono B2.out.size));have X4:=D (X2.out.on hb);have Y4:=D (Y2.out.on hb);clear hb CE x0 x1 x2 x3 x4 x5 y0 y1 y2 y3 y4 y5;have x_:=X4.out;have y_:=Y4.out;obtain⟨x0,x1,x2,x3,x4,x5⟩:=x_.fu;obtain⟨y0,y1,y2,y3,y4,y5⟩:=y_.fu;clear x_ y_;cases r5
      ·go_wp2;go_ret;exact⟨kL (by rw [R.out]; simp),B4.out⟩
      ·go_wp2
       go_loopw [57] (fun i wr=>∃ k:Nat,k<=an/\i=Y .i64 k/\Below w4.heap.size w4 wr/\∀ (j:Nat) (x y:Ad),j<k->a.dQ[j]?=V x->b.dQ[j]?=V y->Xx x y=X) (fun i _=>an-(intOf i).toNat)
       case atStart=>exact⟨0,Nat.zero_le _,rfl,Below.refl _ _,fun j x y h=>by omega⟩
       case round =>
        obtain⟨k,hk,rfl,hbe,hall⟩:=hrel;have BE:=D hbe;have AL:=D hall;have WX:=D B4.out;clear hbe hall;by_cases hlt:k<an
        ·obtain⟨x,hx⟩:∃ x,lDa[k]?=V x:=⟨_,K (by have:=LDA.out; omega)⟩;obtain⟨y,hy⟩:∃ y,lDb[k]?=V y:=⟨_,K (by have:=LDB.out; omega)⟩;obtain⟨p,ix,px⟩:=Mf (RDA.out.on WX.out) rfl LDA.out.symm hx;obtain⟨q,iy,py⟩:=Mf (RDB.out.on WX.out) rfl LDB.out.symm hy;obtain⟨sx,hsx,ix_⟩:=pK UDA.out k x hx;obtain⟨sy,hsy,iy_⟩:=pK UDB.out k y hy;obtain⟨x1,x2,⟨xo,xn,xc⟩,x4⟩:=x;obtain⟨y1,y2,⟨yo,yn,yc⟩,y4⟩:=y;obtain⟨ta,tp,tf⟩:=sx;obtain⟨va,vp,vf⟩:=sy;obtain⟨rfl,rfl,rx⟩:=ix_;obtain⟨rfl,rfl,ry⟩:=iy_;have R0:=show Xx ⟨(x1,x2),tp,x4⟩ ⟨(y1,y2),vp,y4⟩=(za (x1,x2) (y1,y2) && (x4 == y4 && jv tp vp)) from rfl;have b2:=cell_regrown (show wr.cell? ⟨w.heap.size,2,Z⟩=V (J ao an ac) from (X4.out.on BE.out).cell 2);have b3:=cell_regrown (show wr.cell? ⟨w.heap.size+1,2,Z⟩=V (J Cq an kM) from (Y4.out.on BE.out).cell 2);have p0:=cell_regrown (px _ BE.out).1;have p1:=cell_regrown (px _ BE.out).2.1;have p2:=cell_regrown (px _ BE.out).2.2.1;have p3:=cell_regrown (px _ BE.out).2.2.2;have q0:=cell_regrown (py _ BE.out).1;have q1:=cell_regrown (py _ BE.out).2.1;have q2:=cell_regrown (py _ BE.out).2.2.1;have q3:=cell_regrown (py _ BE.out).2.2.2;have CS:=D (fun d os=>Calls.regrown_of (d:=d) (os:=os) (xq (J xo xn xc) (J yo yn yc) tp vp _ (((rx.on WX.out).on BE.out).on (below_regrown wr d os)) (((ry.on WX.out).on BE.out).on (below_regrown wr d os)) (SHA.out.1 _ _ hsx) (SHB.out.1 _ _ hsy)));obtain⟨s1,e1⟩:∃ r,za (x1,x2) (y1,y2)=r:=⟨_,rfl⟩;obtain⟨s2,e2⟩:∃ r,(x4 == y4)=r:=⟨_,rfl⟩;obtain⟨s3,e3⟩:∃ r,jv tp vp=r:=⟨_,rfl⟩;have h1:=EG x1 x2 y1 y2 (!s1) (by rw [<- e1]; rfl);have h2:(x4 != y4)=!s2:=by rw [<- e2]; rfl
         rw [e3] at CS;rw [e1,e2,e3] at R0;have HX:=D hsx;have HY:=D hsy;have yQ:=D R0;clear px py hx hy hsx hsy rx ry R0 e1 e2 e3;cases s1
         ·have HR:=D (yQ.out.trans (show _=U by simp));have RN:=D (show gH Xx a.dQ b.dQ=U from iQ a.dQ b.dQ k _ _ HX.out HY.out HR.out);clear yQ;go_wp2;refine wp_region_quiet_below (by kernel_rfl) (by kernel_rfl) ?_
          repeat (go_big_quiet_step (first | (with_reducible exact CS.out _ _)))
          refine wpQuiet_nil ?_;intro _ hw';obtain⟨⟨dq,osq⟩,hw''⟩:=hw';subst hw'';go_wp2;go_ret;exact⟨kL (by rw [R.out,RN.out]; simp),B4.out.trans ((BE.out.trans ((below_regrown wr dq osq).mono BE.out.size)).mono B4.out.size)⟩
         ·cases s2
          ·have HR:=D (yQ.out.trans (show _=U by simp));have RN:=D (show gH Xx a.dQ b.dQ=U from iQ a.dQ b.dQ k _ _ HX.out HY.out HR.out);clear yQ;go_wp2;refine wp_region_quiet_below (by kernel_rfl) (by kernel_rfl) ?_
           repeat (go_big_quiet_step (first | (with_reducible exact CS.out _ _)))
           refine wpQuiet_nil ?_;intro _ hw';obtain⟨⟨dq,osq⟩,hw''⟩:=hw';subst hw'';go_wp2;go_ret;exact⟨kL (by rw [R.out,RN.out]; simp),B4.out.trans ((BE.out.trans ((below_regrown wr dq osq).mono BE.out.size)).mono B4.out.size)⟩
          ·cases s3
           ·have HR:=D (yQ.out.trans (show _=U by simp));have RN:=D (show gH Xx a.dQ b.dQ=U from iQ a.dQ b.dQ k _ _ HX.out HY.out HR.out);clear yQ;go_wp2;refine wp_region_quiet_below (by kernel_rfl) (by kernel_rfl) ?_
            repeat (go_big_quiet_step (first | (with_reducible exact CS.out _ _)))
            refine wpQuiet_nil ?_;intro _ hw';obtain⟨⟨dq,osq⟩,hw''⟩:=hw';subst hw'';go_wp2;go_ret;exact⟨kL (by rw [R.out,RN.out]; simp),B4.out.trans ((BE.out.trans ((below_regrown wr dq osq).mono BE.out.size)).mono B4.out.size)⟩
           ·have HR:=D (yQ.out.trans (show _=X by simp));clear yQ;go_wp2;refine wp_region_quiet_below (by kernel_rfl) (by kernel_rfl) ?_
            repeat (go_big_quiet_step (first | (with_reducible exact CS.out _ _)))
            refine wpQuiet_nil ?_;intro _ hw';obtain⟨⟨dq,osq⟩,hw''⟩:=hw';subst hw'';clear ix iy b2 b3 p0 q0 p1 q1 p2 q2 p3 q3 h1 h2;go_wp2
            go_roundw
            case rel=>exact⟨k+1,by omega,by go_num,BE.out.trans ((below_regrown wr dq osq).mono BE.out.size),fun j x' y' hj h1 h2=>by
             rcases Nat.lt_or_ge j k with h3|h3
             ·exact AL.out j x' y' h3 h1 h2
             ·obtain rfl:j=k:=by omega
              have e1:=HX.out;have e2:=HY.out;rw [h1] at e1;rw [h2] at e2;rw [L e1,L e2];exact HR.out⟩
            case measure=>simp [intOf]; omega
        ·have RK:=D (show gH Xx a.dQ b.dQ=X from qD a.dQ b.dQ (by rw [<- UDA.out.len,<- UDB.out.len]; have:=LDA.out; have:=LDB.out; omega) (fun j a b h1 h2=>AL.out j a b (by have:=(O.1 h1).1; have:=UDA.out.len; have:=LDA.out; omega) h1 h2));have R:=D (R.out.trans (by rw [RK.out]));obtain rfl:an=k:=by omega
         obtain⟨wr1,ach⟩:∃ x,x=wr:=⟨_,rfl⟩;rw [<- ach] at BE;have Br1:=D (B4.out.trans (BE.out.mono B4.out.size));have Xr:=D (X4.out.on BE.out);have Yr:=D (Y4.out.on BE.out);rw [<- ach];have z5:=Xr.out.cell 5;have zz:=Yr.out.cell 5;simp only [List.getElem?_toArray,List.getElem?_cons_zero,List.getElem?_cons_succ] at z5 zz;clear ach BE AL WX hlt;go_wp2
         go_loopw [108] (fun i wr=>∃ k:Nat,k<=dY/\i=Y .i64 k/\Below wr1.heap.size wr1 wr/\∀ (j:Nat) (x y:Ow),j<k->a.own[j]?=V x->b.own[j]?=V y->Yj x y=X) (fun i _=>dY-(intOf i).toNat)
         case atStart=>exact⟨0,Nat.zero_le _,rfl,Below.refl _ _,fun j x y h=>by omega⟩
         case round =>
          obtain⟨k,hk,rfl,hbe,hall⟩:=hrel;have BE:=D hbe;have AL:=D hall;have WX:=D Br1.out;clear hbe hall;by_cases hlt:k<dY
          ·obtain⟨x,hx⟩:∃ x,lWa[k]?=V x:=⟨_,K (by have:=LWA.out; omega)⟩;obtain⟨y,hy⟩:∃ y,lWb[k]?=V y:=⟨_,K (by have:=LWB.out; omega)⟩;obtain⟨p,ix,px⟩:=elW (RWA.out.on WX.out) rfl LWA.out.symm hx;obtain⟨q,iy,py⟩:=elW (RWB.out.on WX.out) rfl LWB.out.symm hy;obtain⟨sx,hsx,ix_⟩:=pK UWA.out k x hx;obtain⟨sy,hsy,iy_⟩:=pK UWB.out k y hy;obtain⟨x1,x2,xo,xn,xc⟩:=x;obtain⟨y1,y2,yo,yn,yc⟩:=y;obtain⟨ta,tp⟩:=sx;obtain⟨va,vp⟩:=sy;obtain⟨rfl,rx⟩:=ix_;obtain⟨rfl,ry⟩:=iy_;have R0:=show Yj ⟨(x1,x2),tp⟩ ⟨(y1,y2),vp⟩=(za (x1,x2) (y1,y2) && jv tp vp) from rfl;have b2:=cell_regrown (show wr.cell? ⟨w.heap.size,5,Z⟩=V (J oo dY oc) from (Xr.out.on BE.out).cell 5);have b3:=cell_regrown (show wr.cell? ⟨w.heap.size+1,5,Z⟩=V (J oo2 dY oc2) from (Yr.out.on BE.out).cell 5);have p0:=cell_regrown (px _ BE.out).1;have p1:=cell_regrown (px _ BE.out).2.1;have p2:=cell_regrown (px _ BE.out).2.2;have q0:=cell_regrown (py _ BE.out).1;have q1:=cell_regrown (py _ BE.out).2.1;have q2:=cell_regrown (py _ BE.out).2.2;have CS:=D (fun d os=>Calls.regrown_of (d:=d) (os:=os) (xq (J xo xn xc) (J yo yn yc) tp vp _ (((rx.on WX.out).on BE.out).on (below_regrown wr d os)) (((ry.on WX.out).on BE.out).on (below_regrown wr d os)) (SHA.out.2.2 _ _ hsx) (SHB.out.2.2 _ _ hsy)));obtain⟨s1,e1⟩:∃ r,za (x1,x2) (y1,y2)=r:=⟨_,rfl⟩;obtain⟨s3,e3⟩:∃ r,jv tp vp=r:=⟨_,rfl⟩;have h1:=EG x1 x2 y1 y2 (!s1) (by rw [<- e1]; rfl);rw [e3] at CS;rw [e1,e3] at R0;have HX:=D hsx;have HY:=D hsy;have yQ:=D R0;clear px py hx hy hsx hsy rx ry R0 e1 e3;cases s1
           ·have HR:=D (yQ.out.trans (show _=U by simp));have RN:=D (show gH Yj a.own b.own=U from iQ a.own b.own k _ _ HX.out HY.out HR.out);clear yQ;go_wp2;refine wp_region_quiet_below (by kernel_rfl) (by kernel_rfl) ?_
            repeat (go_big_quiet_step (first | (with_reducible exact CS.out _ _)))
            refine wpQuiet_nil ?_;intro _ hw';obtain⟨⟨dq,osq⟩,hw''⟩:=hw';subst hw'';go_wp2;go_ret;exact⟨kL (by rw [R.out,RN.out]; simp),Br1.out.trans ((BE.out.trans ((below_regrown wr dq osq).mono BE.out.size)).mono Br1.out.size)⟩
           ·cases s3
            ·have HR:=D (yQ.out.trans (show _=U by simp));have RN:=D (show gH Yj a.own b.own=U from iQ a.own b.own k _ _ HX.out HY.out HR.out);clear yQ;go_wp2;refine wp_region_quiet_below (by kernel_rfl) (by kernel_rfl) ?_
             repeat (go_big_quiet_step (first | (with_reducible exact CS.out _ _)))
             refine wpQuiet_nil ?_;intro _ hw';obtain⟨⟨dq,osq⟩,hw''⟩:=hw';subst hw'';go_wp2;go_ret;exact⟨kL (by rw [R.out,RN.out]; simp),Br1.out.trans ((BE.out.trans ((below_regrown wr dq osq).mono BE.out.size)).mono Br1.out.size)⟩
            ·have HR:=D (yQ.out.trans (show _=X by simp));clear yQ;go_wp2;refine wp_region_quiet_below (by kernel_rfl) (by kernel_rfl) ?_
             repeat (go_big_quiet_step (first | (with_reducible exact CS.out _ _)))
             refine wpQuiet_nil ?_;intro _ hw';obtain⟨⟨dq,osq⟩,hw''⟩:=hw';subst hw'';clear ix iy b2 b3 p0 q0 p1 q1 p2 q2 h1;go_wp2
             go_roundw
             case rel=>exact⟨k+1,by omega,by go_num,BE.out.trans ((below_regrown wr dq osq).mono BE.out.size),fun j x' y' hj h1 h2=>by
              rcases Nat.lt_or_ge j k with h3|h3
              ·exact AL.out j x' y' h3 h1 h2
              ·obtain rfl:j=k:=by omega
               have e1:=HX.out;have e2:=HY.out;rw [h1] at e1;rw [h2] at e2;rw [L e1,L e2];exact HR.out⟩
             case measure=>simp [intOf]; omega
          ·have RK:=D (show gH Yj a.own b.own=X from qD a.own b.own (by rw [<- UWA.out.len,<- UWB.out.len]; have:=LWA.out; have:=LWB.out; omega) (fun j a b h1 h2=>AL.out j a b (by have:=(O.1 h1).1; have:=UWA.out.len; have:=LWA.out; omega) h1 h2));have R:=D (R.out.trans (by rw [RK.out]));obtain rfl:dY=k:=by omega
           go_wp2;go_ret;exact⟨kL (by rw [R.out]; simp),Br1.out.trans (BE.out.mono Br1.out.size)⟩
     ·have k4:r4=U:=by rw [<- E4.out]; exact decide_eq_false (by rw [<- UWA.out.len,<- UWB.out.len]; have:=LWA.out; have:=LWB.out; omega)
      subst k4;have n1:((dY:Int) != (Hw:Int))=X:=by simp; omega
      have n2:((dY:Int) == (Hw:Int))=U:=by simp; omega
      go_wp2;go_ret;exact⟨kL (by rw [R.out]; simp),B2.out⟩
    ·have k3:r3=U:=by rw [<- E3.out]; exact decide_eq_false (by rw [<- UDA.out.len,<- UDB.out.len]; have:=LDA.out; have:=LDB.out; omega)
     subst k3;have n1:((an:Int) != (kJ:Int))=X:=by simp; omega
     have n2:((an:Int) == (kJ:Int))=U:=by simp; omega
     go_wp2;go_ret;exact⟨kL (by rw [R.out]; simp),B2.out⟩
end Go.Proofs.YtmklifheakemeaaGreat.Bk
