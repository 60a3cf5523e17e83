/-
  slices.Delete of one. Conditions as told.
-/
import Derived.Test.YtmklifheakemeaaGreatfe040
set_option maxRecDepth 100000
set_option maxHeartbeats 64000000
open Go.Ending renaming returned->aj
open Go.IntKind renaming i64->L
open Go.Lib renaming hid->D
open Go.Obj renaming cells->V
open Go.Proofs.Tryz renaming prog->ah,ntmps82->aA,ntmps84->aB,ntmps86->aC,func82->aD,func84->aF,func86->aG
open Go.RowKit.Below renaming refl->au
open Go.Value renaming slice->J,int->K,bool->ak
open _root_.List renaming getElem?_eq_getElem->O,getElem?_eq_some_iff->U,mem_of_getElem?->Z,mem_iff_getElem?->ay
open Option.some renaming inj->Q
namespace Go.Proofs.YtmklifheakemeaaGreat
namespace Sb
open Go.RowKit Go.Sort Rw YtmklifheakemeaaGreat.Nm Pr Bk Av
end Sb
namespace Sb
open Go.RowKit Go.Sort Rw YtmklifheakemeaaGreat.Nm Pr Bk Av Rl
theorem WT {m:List En} (hr:mQ m) {i j:Nat} {x y:En} (hx:m[i]?=some x) (hy:m[j]?=some y) (h:fB x=fB y):i=j:=by
 rcases Nat.lt_trichotomy i j with q|q|q
 ·have:=(nA x y).2 (yO hr q hx hy);rw [h,qW] at this;cases this
 ·exact q
 ·have:=(nA y x).2 (yO hr q hy hx);rw [h,qW] at this;cases this
theorem Rb {m:List En} (hr:mQ m) {e:En} (he:e∈m):zl m e.tree e.sub=some e/\lg m e.tree e.sub=true:=by
 have ft:=Bw hr e.tree e.sub;have hk:fB e∈m.map fB:=List.mem_map.2 ⟨e,he,rfl⟩;have ht:lg m e.tree e.sub=true:=by
  cases h:lg m e.tree e.sub with
  | true=>rfl
  | false =>
   rw [h,if_neg (by simp)] at ft;rcases lQ (m.map fB) (fB e) with q|⟨k,q,r⟩
   ·exfalso;obtain⟨j,hj⟩:=ay.1 hk;have:∀ l:List (fC×fC),iA l (fB e)=-1->fB e ∉ l:=by
     intro l
     induction l with
     | nil=>intro _ h; simp at h
     | cons a l ih =>
      intro h2 h3;rw [iA] at h2
      split at h2
      ·cases h2
      ·rename_i hne
       split at h2
       ·rename_i h4
        rcases List.mem_cons.1 h3 with h5|h5
        ·exact hne h5.symm
        ·exact ih h4 h5
       ·rename_i h4
        rcases lQ l (fB e) with h5|⟨k,h5,_⟩
        ·exact h4 h5
        ·rw [h5] at h2; omega
    exact this _ q hk
   ·rw [show iA (m.map fB) (e.tree,e.sub)=iA (m.map fB) (fB e) from rfl,q] at ft;omega
 obtain⟨e',h1,h2,h3⟩:=EK ht;obtain⟨j,hj⟩:=ay.1 he;have hij:=WT hr h1 hj h2;rw [hij,hj] at h1;obtain rfl:=Q h1;exact⟨h3,ht⟩
end Sb
namespace Av
open Go.RowKit Go.Sort Rw YtmklifheakemeaaGreat.Nm Pr Bk
theorem Rc (x y:jD) (a b:Ad) (w:World) (hx:uX w x a) (hy:uX w y b) (hl:a.p.length<=1000000):Calls ah 83 #[mJ x,mJ y] w fun e w'=>e=aj (ak (Lp a b))/\Below w.heap.size w w':=by
 obtain⟨x1,x2,⟨xo,xn,xc⟩,x4⟩:=x;obtain⟨y1,y2,⟨yo,yn,yc⟩,y4⟩:=y;obtain⟨gi,gp,gr⟩:=hx;obtain⟨ki,kp,kr⟩:=hy;have ER:Lp a b=((x1 == y1 && x2 == y2) && ((x4 == y4) && jo a.p b.p)):=by
  unfold Lp;rw [<- gi,<- ki,<- gp,<- kp]
  rfl
 rw [ER];obtain⟨h0,X,Y⟩:=gP w #[K L x1,K L x2,J xo xn xc,K L x4] #[K L y1,K L y2,J yo yn yc,K L y4] 74 74;have C:=D (yQ _ _ a.p b.p _ (gr.on h0) (kr.on h0) hl);obtain⟨Ro,Rp,Rq,WU⟩:=X.xQ;obtain⟨Rs,Rt,Ru,WV⟩:=Y.xQ;have B0:=D h0;clear h0 X Y gr kr hl ER gi gp ki kp;obtain⟨r0,hr0⟩:∃ r,(x1 == y1 && x2 == y2)=r:=⟨_,rfl⟩;have he0:=qO x1 x2 y1 y2 r0 hr0;obtain⟨r1,hr1⟩:∃ r,(x4 == y4)=r:=⟨_,rfl⟩;rw [hr0,hr1];clear hr0;obtain⟨rs,hrs⟩:∃ r,jo a.p b.p=r:=⟨_,rfl⟩;rw [hrs] at C ⊢;clear hrs;go_enter Tryz.func83,Tryz.ntmps83;cases r0
 ·go_wp2_with fail;go_ret;exact⟨rfl,B0.out⟩
 ·cases r1
  ·go_wp2_with fail;go_ret;exact⟨rfl,B0.out⟩
  ·go_wp2_with fail;refine C.out.mono ?_;rintro e w1 ⟨rfl,hb⟩;have BB:=D (B0.out.trans (hb.mono B0.out.size));clear hb;go_wp2;go_ret;exact⟨rfl,BB.out⟩
theorem WW (v u:Sl) (l m:List jD) (al bl:List Ad) (w:World) (ha:Row ED w (dU v) l) (hb:Row ED w (dU u) m) (hA:eP (uX w) l al) (hB:eP (uX w) m bl) (hs:∀ a∈al,a.p.length<=1000000) :
  Calls ah 82 #[dU v,dU u,.func (.func 83) #[] #[]] w fun e w'=>e=aj (ak (fV Lp al bl))/\Below w.heap.size w w':=by
 obtain⟨so,sn,sc⟩:=v;obtain⟨uo,un,uc⟩:=u;obtain⟨ao,ac,hv⟩:=ha.len;have hv:J so sn sc=J ao l.length ac:=hv;obtain⟨rfl,rfl,rfl⟩:so=ao/\sn=l.length/\sc=ac:=by simpa using hv
 obtain⟨ao,ac,hv2⟩:=hb.len;have hv2:J uo un uc=J ao m.length ac:=hv2;obtain⟨rfl,rfl,rfl⟩:uo=ao/\un=m.length/\uc=ac:=by simpa using hv2
 have RA:=D ha;have RB:=D hb;have LA:=D hA;have LB:=D hB;have HS:=D hs;have ma:=ha.most;unfold maxLen at ma;clear ha hb hA hB hs hv hv2;by_cases hlen:l.length=m.length
 ·have HL:=D hlen;rw [<- hlen] at RB ⊢;generalize hn:l.length=n at *;have HN:=D hn;clear hlen hn;go_enter aD,aA;go_wp2
  go_loopw [17] (fun i wr=>∃ k:Nat,k<=n/\i=K L k/\Below w.heap.size w wr/\∀ (j:Nat) (x y:Ad),j<k->al[j]?=some x->bl[j]?=some y->Lp x y=true) (fun i _=>n-(intOf i).toNat)
  case atStart=>exact⟨0,Nat.zero_le _,rfl,au _ _,fun j x y h=>by omega⟩
  case round =>
   obtain⟨k,hk,rfl,hbe,hall⟩:=hrel;have BE:=D hbe;have AL:=D hall;clear hbe hall;by_cases hlt:k<n
   ·obtain⟨a,hak⟩:∃ a,al[k]?=some a:=⟨_,O (by rw [<- LA.out.len,HN.out]; exact hlt)⟩;obtain⟨b,hbk⟩:∃ b,bl[k]?=some b:=⟨_,O (by rw [<- LB.out.len,<- HL.out]; exact hlt)⟩;obtain⟨x,hx,ix⟩:=LA.out.at k a hak;obtain⟨y,hy,iy⟩:=LB.out.at k b hbk;obtain⟨p,jx,px⟩:=M7 RA.out rfl HN.out hx;obtain⟨q,jy,py⟩:=M7 RB.out rfl HL.out.symm hy;obtain⟨p0,p1,p2,p3⟩:=px wr BE.out;have hs1:=HS.out a (Z hak);have CC:=fun W' (h:Below w.heap.size w W')=>Rc x y a b W' (ix.on h) (iy.on h) hs1;have AZ:=D hak;have HBK:=D hbk;clear hx hy hak hbk hs1 px ix iy;obtain⟨x1,x2,⟨xo,xn,xc⟩,x4⟩:=x;obtain⟨y1,y2,⟨yo,yn,yc⟩,y4⟩:=y;simp only at p0 p1 p2 p3;have N1:=fM wr (V #[K L x1,K L x2,J xo xn xc,K L x4] 74);have N2:=fM (wr.alloc (V #[K L x1,K L x2,J xo xn xc,K L x4] 74)) (V #[K L y1,K L y2,J yo yn yc,K L y4] 74);have BN:=D (BE.out.trans ((N1.trans (N2.mono N1.size)).mono BE.out.size));obtain⟨q0,q1,q2,q3⟩:=py _ (BE.out.trans (N1.mono BE.out.size));have hX:=(dJ wr #[K L x1,K L x2,J xo xn xc,K L x4] 74).on N2;have hY:=dJ (wr.alloc (V #[K L x1,K L x2,J xo xn xc,K L x4] 74)) #[K L y1,K L y2,J yo yn yc,K L y4] 74;have hsz:(wr.alloc (V #[K L x1,K L x2,J xo xn xc,K L x4] 74)).heap.size=wr.heap.size+1:=by simp
    rw [hsz] at hY;obtain⟨ex0,ex1,ex2,ex3⟩:=hX.xQ;obtain⟨ey0,ey1,ey2,ey3⟩:=hY.xQ;simp only at q0 q1 q2 q3;have hw3:IntKind.i64.wrap ((k:Int)+1)=(k:Int)+1:=IntWalk.i64_in _ (by omega);have C:=D (CC _ BN.out);obtain⟨r,hr⟩:∃ r,Lp a b=r:=⟨_,rfl⟩;rw [hr] at C;have HR:=D hr;clear CC hr N1 N2 hX hY hsz py;go_wp2_with fail;refine C.out.mono ?_;rintro e w1 ⟨rfl,hb⟩;have BB:=D (BN.out.trans (hb.mono BN.out.size));clear hb C p0 p1 p2 p3 q0 q1 q2 q3 ex0 ex1 ex2 ex3 ey0 ey1 ey2 ey3 jx jy;cases r
    ·have R:=D (show fV Lp al bl=false from oD al bl k a b AZ.out HBK.out HR.out);go_wp2;go_ret;exact⟨by rw [R.out]; rfl,BB.out⟩
    ·go_wp2
     go_roundw
     case rel=>exact⟨k+1,by omega,by go_num,BB.out,fun j x' y' hj h1 h2=>by
      rcases Nat.lt_or_ge j k with h3|h3
      ·exact AL.out j x' y' h3 h1 h2
      ·obtain rfl:j=k:=by omega
       have e1:=AZ.out;have e2:=HBK.out;rw [h1] at e1;rw [h2] at e2;rw [Q e1,Q e2];exact HR.out⟩
     case measure=>simp [intOf]; omega
   ·obtain rfl:k=n:=by omega
    have R:=D (show fV Lp al bl=true from oC al bl (by rw [<- LA.out.len,<- LB.out.len,HN.out]; exact HL.out) (fun j a b h1 h2=>AL.out j a b (by have:=(U.1 h1).1; have:=HN.out; have:=LA.out.len; omega) h1 h2));go_wp2;go_ret;exact⟨by rw [R.out]; rfl,BE.out⟩
 ·have R:=D (show fV Lp al bl=false by
   cases h:fV Lp al bl
   ·rfl
   ·exact absurd ((LA.out.len.trans (oz _ _ h)).trans LB.out.len.symm) hlen)
  have hne:(((l.length:Nat):Int) != ((m.length:Nat):Int))=true:=by simp; omega
  have hne2:(((l.length:Nat):Int) == ((m.length:Nat):Int))=false:=by simp; omega
  clear hlen;go_enter aD,aA;go_wp2;go_ret;exact⟨by rw [R.out]; rfl,au _ _⟩
theorem Rf (x y:iq) (a b:En) (w:World) (hx:jm w x a) (hy:jm w y b) (hl:a.p.length<=1000000):Calls ah 85 #[pF x,pF y] w fun e w'=>e=aj (ak (KJ a b))/\Below w.heap.size w w':=by
 obtain⟨x1,x2,x3,x4,⟨xo,xn,xc⟩,x6,x7⟩:=x;obtain⟨y1,y2,y3,y4,⟨yo,yn,yc⟩,y6,y7⟩:=y;obtain⟨gi,gj,gp,gq,gr⟩:=hx;obtain⟨ki,kj,kp,kq,kr⟩:=hy;have ER:KJ a b=((x1 == y1 && x2 == y2) && ((x3 == y3 && x4 == y4) && ((x6 == y6) && ((x7 == y7) && jo a.p b.p)))):=by
  unfold KJ;rw [<- gi,<- ki,<- gj,<- kj,<- gp,<- kp,<- gq,<- kq]
  rfl
 rw [ER];obtain⟨h0,X,Y⟩:=gP w #[K L x1,K L x2,K L x3,K L x4,J xo xn xc,K L x6,ak x7] #[K L y1,K L y2,K L y3,K L y4,J yo yn yc,K L y6,ak y7] 66 66;have C:=D (yQ _ _ a.p b.p _ (gr.on h0) (kr.on h0) hl);obtain⟨Ro,Rp,Rq,WU,X6,X7,cx6⟩:=X.mI;obtain⟨Rs,Rt,Ru,WV,X8,X9,cy6⟩:=Y.mI;have B0:=D h0;clear h0 X Y gr kr hl ER gi gj gp gq ki kj kp kq;obtain⟨r0,hr0⟩:∃ r,(x1 == y1 && x2 == y2)=r:=⟨_,rfl⟩;have he0:=qO x1 x2 y1 y2 r0 hr0;obtain⟨r1,hr1⟩:∃ r,(x3 == y3 && x4 == y4)=r:=⟨_,rfl⟩;have he1:=qO x3 x4 y3 y4 r1 hr1;obtain⟨r2,hr2⟩:∃ r,(x6 == y6)=r:=⟨_,rfl⟩;obtain⟨r3,hr3⟩:∃ r,(x7 == y7)=r:=⟨_,rfl⟩;rw [hr0,hr1,hr2,hr3];clear hr0;clear hr1;obtain⟨rs,hrs⟩:∃ r,jo a.p b.p=r:=⟨_,rfl⟩;rw [hrs] at C ⊢;clear hrs;go_enter Tryz.func85,Tryz.ntmps85;cases r0
 ·go_wp2_with fail;go_ret;exact⟨rfl,B0.out⟩
 ·cases r1
  ·go_wp2_with fail;go_ret;exact⟨rfl,B0.out⟩
  ·cases r2
   ·go_wp2_with fail;go_ret;exact⟨rfl,B0.out⟩
   ·cases r3
    ·go_wp2_with fail;go_ret;exact⟨rfl,B0.out⟩
    ·go_wp2_with fail;refine C.out.mono ?_;rintro e w1 ⟨rfl,hb⟩;have BB:=D (B0.out.trans (hb.mono B0.out.size));clear hb;go_wp2;go_ret;exact⟨rfl,BB.out⟩
theorem WX (v u:Sl) (l m:List iq) (al bl:List En) (w:World) (ha:Row EN w (dU v) l) (hb:Row EN w (dU u) m) (hA:eP (jm w) l al) (hB:eP (jm w) m bl) (hs:∀ a∈al,a.p.length<=1000000) :
  Calls ah 84 #[dU v,dU u,.func (.func 85) #[] #[]] w fun e w'=>e=aj (ak (fV KJ al bl))/\Below w.heap.size w w':=by
 obtain⟨so,sn,sc⟩:=v;obtain⟨uo,un,uc⟩:=u;obtain⟨ao,ac,hv⟩:=ha.len;have hv:J so sn sc=J ao l.length ac:=hv;obtain⟨rfl,rfl,rfl⟩:so=ao/\sn=l.length/\sc=ac:=by simpa using hv
 obtain⟨ao,ac,hv2⟩:=hb.len;have hv2:J uo un uc=J ao m.length ac:=hv2;obtain⟨rfl,rfl,rfl⟩:uo=ao/\un=m.length/\uc=ac:=by simpa using hv2
 have RA:=D ha;have RB:=D hb;have LA:=D hA;have LB:=D hB;have HS:=D hs;have ma:=ha.most;unfold maxLen at ma;clear ha hb hA hB hs hv hv2;by_cases hlen:l.length=m.length
 ·have HL:=D hlen;rw [<- hlen] at RB ⊢;generalize hn:l.length=n at *;have HN:=D hn;clear hlen hn;go_enter aF,aB;go_wp2
  go_loopw [17] (fun i wr=>∃ k:Nat,k<=n/\i=K L k/\Below w.heap.size w wr/\∀ (j:Nat) (x y:En),j<k->al[j]?=some x->bl[j]?=some y->KJ x y=true) (fun i _=>n-(intOf i).toNat)
  case atStart=>exact⟨0,Nat.zero_le _,rfl,au _ _,fun j x y h=>by omega⟩
  case round =>
   obtain⟨k,hk,rfl,hbe,hall⟩:=hrel;have BE:=D hbe;have AL:=D hall;clear hbe hall;by_cases hlt:k<n
   ·obtain⟨a,hak⟩:∃ a,al[k]?=some a:=⟨_,O (by rw [<- LA.out.len,HN.out]; exact hlt)⟩;obtain⟨b,hbk⟩:∃ b,bl[k]?=some b:=⟨_,O (by rw [<- LB.out.len,<- HL.out]; exact hlt)⟩;obtain⟨x,hx,ix⟩:=LA.out.at k a hak;obtain⟨y,hy,iy⟩:=LB.out.at k b hbk;obtain⟨p,jx,px⟩:=Kh RA.out rfl HN.out hx;obtain⟨q,jy,py⟩:=Kh RB.out rfl HL.out.symm hy;obtain⟨p0,p1,p2,p3,p4,p5,p6⟩:=px wr BE.out;have hs1:=HS.out a (Z hak);have CC:=fun W' (h:Below w.heap.size w W')=>Rf x y a b W' (ix.on h) (iy.on h) hs1;have AZ:=D hak;have HBK:=D hbk;clear hx hy hak hbk hs1 px ix iy;obtain⟨x1,x2,x3,x4,⟨xo,xn,xc⟩,x6,x7⟩:=x;obtain⟨y1,y2,y3,y4,⟨yo,yn,yc⟩,y6,y7⟩:=y;simp only at p0 p1 p2 p3 p4 p5 p6;have N1:=fM wr (V #[K L x1,K L x2,K L x3,K L x4,J xo xn xc,K L x6,ak x7] 66);have N2:=fM (wr.alloc (V #[K L x1,K L x2,K L x3,K L x4,J xo xn xc,K L x6,ak x7] 66)) (V #[K L y1,K L y2,K L y3,K L y4,J yo yn yc,K L y6,ak y7] 66);have BN:=D (BE.out.trans ((N1.trans (N2.mono N1.size)).mono BE.out.size));obtain⟨q0,q1,q2,q3,q4,q5,q6⟩:=py _ (BE.out.trans (N1.mono BE.out.size));have hX:=(dJ wr #[K L x1,K L x2,K L x3,K L x4,J xo xn xc,K L x6,ak x7] 66).on N2;have hY:=dJ (wr.alloc (V #[K L x1,K L x2,K L x3,K L x4,J xo xn xc,K L x6,ak x7] 66)) #[K L y1,K L y2,K L y3,K L y4,J yo yn yc,K L y6,ak y7] 66;have hsz:(wr.alloc (V #[K L x1,K L x2,K L x3,K L x4,J xo xn xc,K L x6,ak x7] 66)).heap.size=wr.heap.size+1:=by simp
    rw [hsz] at hY;obtain⟨ex0,ex1,ex2,ex3,ex4,ex5,ex6⟩:=hX.mI;obtain⟨ey0,ey1,ey2,ey3,ey4,ey5,ey6⟩:=hY.mI;simp only at q0 q1 q2 q3 q4 q5 q6;have hw3:IntKind.i64.wrap ((k:Int)+1)=(k:Int)+1:=IntWalk.i64_in _ (by omega);have C:=D (CC _ BN.out);obtain⟨r,hr⟩:∃ r,KJ a b=r:=⟨_,rfl⟩;rw [hr] at C;have HR:=D hr;clear CC hr N1 N2 hX hY hsz py;go_wp2_with fail;refine C.out.mono ?_;rintro e w1 ⟨rfl,hb⟩;have BB:=D (BN.out.trans (hb.mono BN.out.size));clear hb C p0 p1 p2 p3 p4 p5 p6 q0 q1 q2 q3 q4 q5 q6 ex0 ex1 ex2 ex3 ex4 ex5 ex6 ey0 ey1 ey2 ey3 ey4 ey5 ey6 jx jy;cases r
    ·have R:=D (show fV KJ al bl=false from oD al bl k a b AZ.out HBK.out HR.out);go_wp2;go_ret;exact⟨by rw [R.out]; rfl,BB.out⟩
    ·go_wp2
     go_roundw
     case rel=>exact⟨k+1,by omega,by go_num,BB.out,fun j x' y' hj h1 h2=>by
      rcases Nat.lt_or_ge j k with h3|h3
      ·exact AL.out j x' y' h3 h1 h2
      ·obtain rfl:j=k:=by omega
       have e1:=AZ.out;have e2:=HBK.out;rw [h1] at e1;rw [h2] at e2;rw [Q e1,Q e2];exact HR.out⟩
     case measure=>simp [intOf]; omega
   ·obtain rfl:k=n:=by omega
    have R:=D (show fV KJ al bl=true from oC al bl (by rw [<- LA.out.len,<- LB.out.len,HN.out]; exact HL.out) (fun j a b h1 h2=>AL.out j a b (by have:=(U.1 h1).1; have:=HN.out; have:=LA.out.len; omega) h1 h2));go_wp2;go_ret;exact⟨by rw [R.out]; rfl,BE.out⟩
 ·have R:=D (show fV KJ al bl=false by
   cases h:fV KJ al bl
   ·rfl
   ·exact absurd ((LA.out.len.trans (oz _ _ h)).trans LB.out.len.symm) hlen)
  have hne:(((l.length:Nat):Int) != ((m.length:Nat):Int))=true:=by simp; omega
  have hne2:(((l.length:Nat):Int) == ((m.length:Nat):Int))=false:=by simp; omega
  clear hlen;go_enter aF,aB;go_wp2;go_ret;exact⟨by rw [R.out]; rfl,au _ _⟩
theorem Rh (x y:qM) (a b:Ow) (w:World) (hx:zL w x a) (hy:zL w y b) (hl:a.p.length<=1000000):Calls ah 87 #[Kn x,Kn y] w fun e w'=>e=aj (ak (Lr a b))/\Below w.heap.size w w':=by
 obtain⟨x1,x2,⟨xo,xn,xc⟩⟩:=x;obtain⟨y1,y2,⟨yo,yn,yc⟩⟩:=y;obtain⟨gi,gr⟩:=hx;obtain⟨ki,kr⟩:=hy;have ER:Lr a b=((x1 == y1 && x2 == y2) && jo a.p b.p):=by
  unfold Lr;rw [<- gi,<- ki]
  rfl
 rw [ER];obtain⟨h0,X,Y⟩:=gP w #[K L x1,K L x2,J xo xn xc] #[K L y1,K L y2,J yo yn yc] 34 34;have C:=D (yQ _ _ a.p b.p _ (gr.on h0) (kr.on h0) hl);obtain⟨Ro,Rp,Rq⟩:=X.cs3;obtain⟨Rs,Rt,Ru⟩:=Y.cs3;have B0:=D h0;clear h0 X Y gr kr hl ER gi ki;obtain⟨r0,hr0⟩:∃ r,(x1 == y1 && x2 == y2)=r:=⟨_,rfl⟩;have he0:=qO x1 x2 y1 y2 r0 hr0;rw [hr0];clear hr0;obtain⟨rs,hrs⟩:∃ r,jo a.p b.p=r:=⟨_,rfl⟩;rw [hrs] at C ⊢;clear hrs;go_enter Tryz.func87,Tryz.ntmps87;cases r0
 ·go_wp2_with fail;go_ret;exact⟨rfl,B0.out⟩
 ·go_wp2_with fail;refine C.out.mono ?_;rintro e w1 ⟨rfl,hb⟩;have BB:=D (B0.out.trans (hb.mono B0.out.size));clear hb;go_wp2;go_ret;exact⟨rfl,BB.out⟩
theorem WY (v u:Sl) (l m:List qM) (al bl:List Ow) (w:World) (ha:Row EW w (dU v) l) (hb:Row EW w (dU u) m) (hA:eP (zL w) l al) (hB:eP (zL w) m bl) (hs:∀ a∈al,a.p.length<=1000000) :
  Calls ah 86 #[dU v,dU u,.func (.func 87) #[] #[]] w fun e w'=>e=aj (ak (fV Lr al bl))/\Below w.heap.size w w':=by
 obtain⟨so,sn,sc⟩:=v;obtain⟨uo,un,uc⟩:=u;obtain⟨ao,ac,hv⟩:=ha.len;have hv:J so sn sc=J ao l.length ac:=hv;obtain⟨rfl,rfl,rfl⟩:so=ao/\sn=l.length/\sc=ac:=by simpa using hv
 obtain⟨ao,ac,hv2⟩:=hb.len;have hv2:J uo un uc=J ao m.length ac:=hv2;obtain⟨rfl,rfl,rfl⟩:uo=ao/\un=m.length/\uc=ac:=by simpa using hv2
 have RA:=D ha;have RB:=D hb;have LA:=D hA;have LB:=D hB;have HS:=D hs;have ma:=ha.most;unfold maxLen at ma;clear ha hb hA hB hs hv hv2;by_cases hlen:l.length=m.length
 ·have HL:=D hlen;rw [<- hlen] at RB ⊢;generalize hn:l.length=n at *;have HN:=D hn;clear hlen hn;go_enter aG,aC;go_wp2
  go_loopw [17] (fun i wr=>∃ k:Nat,k<=n/\i=K L k/\Below w.heap.size w wr/\∀ (j:Nat) (x y:Ow),j<k->al[j]?=some x->bl[j]?=some y->Lr x y=true) (fun i _=>n-(intOf i).toNat)
  case atStart=>exact⟨0,Nat.zero_le _,rfl,au _ _,fun j x y h=>by omega⟩
  case round =>
   obtain⟨k,hk,rfl,hbe,hall⟩:=hrel;have BE:=D hbe;have AL:=D hall;clear hbe hall;by_cases hlt:k<n
   ·obtain⟨a,hak⟩:∃ a,al[k]?=some a:=⟨_,O (by rw [<- LA.out.len,HN.out]; exact hlt)⟩;obtain⟨b,hbk⟩:∃ b,bl[k]?=some b:=⟨_,O (by rw [<- LB.out.len,<- HL.out]; exact hlt)⟩;obtain⟨x,hx,ix⟩:=LA.out.at k a hak;obtain⟨y,hy,iy⟩:=LB.out.at k b hbk;obtain⟨p,jx,px⟩:=elW RA.out rfl HN.out hx;obtain⟨q,jy,py⟩:=elW RB.out rfl HL.out.symm hy;obtain⟨p0,p1,p2⟩:=px wr BE.out;have hs1:=HS.out a (Z hak);have CC:=fun W' (h:Below w.heap.size w W')=>Rh x y a b W' (ix.on h) (iy.on h) hs1;have AZ:=D hak;have HBK:=D hbk;clear hx hy hak hbk hs1 px ix iy;obtain⟨x1,x2,⟨xo,xn,xc⟩⟩:=x;obtain⟨y1,y2,⟨yo,yn,yc⟩⟩:=y;simp only at p0 p1 p2;have N1:=fM wr (V #[K L x1,K L x2,J xo xn xc] 34);have N2:=fM (wr.alloc (V #[K L x1,K L x2,J xo xn xc] 34)) (V #[K L y1,K L y2,J yo yn yc] 34);have BN:=D (BE.out.trans ((N1.trans (N2.mono N1.size)).mono BE.out.size));obtain⟨q0,q1,q2⟩:=py _ (BE.out.trans (N1.mono BE.out.size));have hX:=(dJ wr #[K L x1,K L x2,J xo xn xc] 34).on N2;have hY:=dJ (wr.alloc (V #[K L x1,K L x2,J xo xn xc] 34)) #[K L y1,K L y2,J yo yn yc] 34;have hsz:(wr.alloc (V #[K L x1,K L x2,J xo xn xc] 34)).heap.size=wr.heap.size+1:=by simp
    rw [hsz] at hY;obtain⟨ex0,ex1,ex2⟩:=hX.cs3;obtain⟨ey0,ey1,ey2⟩:=hY.cs3;simp only at q0 q1 q2;have hw3:IntKind.i64.wrap ((k:Int)+1)=(k:Int)+1:=IntWalk.i64_in _ (by omega);have C:=D (CC _ BN.out);obtain⟨r,hr⟩:∃ r,Lr a b=r:=⟨_,rfl⟩;rw [hr] at C;have HR:=D hr;clear CC hr N1 N2 hX hY hsz py;go_wp2_with fail;refine C.out.mono ?_;rintro e w1 ⟨rfl,hb⟩;have BB:=D (BN.out.trans (hb.mono BN.out.size));clear hb C p0 p1 p2 q0 q1 q2 ex0 ex1 ex2 ey0 ey1 ey2 jx jy;cases r
    ·have R:=D (show fV Lr al bl=false from oD al bl k a b AZ.out HBK.out HR.out);go_wp2;go_ret;exact⟨by rw [R.out]; rfl,BB.out⟩
    ·go_wp2
     go_roundw
     case rel=>exact⟨k+1,by omega,by go_num,BB.out,fun j x' y' hj h1 h2=>by
      rcases Nat.lt_or_ge j k with h3|h3
      ·exact AL.out j x' y' h3 h1 h2
      ·obtain rfl:j=k:=by omega
       have e1:=AZ.out;have e2:=HBK.out;rw [h1] at e1;rw [h2] at e2;rw [Q e1,Q e2];exact HR.out⟩
     case measure=>simp [intOf]; omega
   ·obtain rfl:k=n:=by omega
    have R:=D (show fV Lr al bl=true from oC al bl (by rw [<- LA.out.len,<- LB.out.len,HN.out]; exact HL.out) (fun j a b h1 h2=>AL.out j a b (by have:=(U.1 h1).1; have:=HN.out; have:=LA.out.len; omega) h1 h2));go_wp2;go_ret;exact⟨by rw [R.out]; rfl,BE.out⟩
 ·have R:=D (show fV Lr al bl=false by
   cases h:fV Lr al bl
   ·rfl
   ·exact absurd ((LA.out.len.trans (oz _ _ h)).trans LB.out.len.symm) hlen)
  have hne:(((l.length:Nat):Int) != ((m.length:Nat):Int))=true:=by simp; omega
  have hne2:(((l.length:Nat):Int) == ((m.length:Nat):Int))=false:=by simp; omega
  clear hlen;go_enter aG,aC;go_wp2;go_ret;exact⟨by rw [R.out]; rfl,au _ _⟩
theorem Gz (a b:Br):Bq a b=(a.me == b.me && (fV UU a.near b.near && (fV Ie a.seen b.seen && (fV Lp a.dQ b.dQ && (fV KJ a.ent b.ent && fV Lr a.own b.own))))):=by
 rw [Bool.eq_iff_iff,Bt];obtain⟨m,n,d,s,e,o⟩:=a;obtain⟨m',n',d',s',e',o'⟩:=b;simp only [Bool.and_eq_true,beq_iff_eq,kP Zh,kP oh,kP Nh,kP NY,kP NZ,Br.mk.injEq];constructor
 ·rintro⟨h1,h2,h3,h4,h5,h6⟩;exact⟨h1,h2,h4,h3,h5,h6⟩
 ·rintro⟨h1,h2,h4,h3,h5,h6⟩;exact⟨h1,h2,h3,h4,h5,h6⟩
theorem Fq (a b:Br) (nv av sv ev ov nv2 av2 sv2 ev2 ov2:Sl) (w:World) (ha:iZ w a nv av sv ev ov) (hb:iZ w b nv2 av2 sv2 ev2 ov2) (fa:Rk a) (pa:∀ p,(∃ x∈a.dQ,x.p=p)\/(∃ x∈a.ent,x.p=p)\/(∃ x∈a.own,x.p=p)->p.length<=1000000) :
  Calls ah 30 #[rP a.me nv av sv ev ov,rP b.me nv2 av2 sv2 ev2 ov2] w fun e w'=>e=aj (ak (Bq a b))/\Below w.heap.size w w':=by
 obtain⟨xn,xnn,xnc⟩:=nv;obtain⟨xa,xan,xac⟩:=av;obtain⟨xs,xsn,xsc⟩:=sv;obtain⟨xe,xen,xec⟩:=ev;obtain⟨xw,xwn,xwc⟩:=ov;obtain⟨yn,ynn,ync⟩:=nv2;obtain⟨ya,yan,yac⟩:=av2;obtain⟨ys,ysn,ysc⟩:=sv2;obtain⟨ye,yen,yec⟩:=ev2;obtain⟨yw,ywn,ywc⟩:=ov2;rw [Gz];obtain⟨lA,hA1,hA2⟩:=ha.dQ;obtain⟨lB,hB1,hB2⟩:=hb.dQ;obtain⟨mA,iA1,iA2⟩:=ha.ent;obtain⟨mB,iB1,iB2⟩:=hb.ent;obtain⟨kA,jA1,jA2⟩:=ha.own;obtain⟨kB,jB1,jB2⟩:=hb.own;have C1:=fun W' (h:Below w.heap.size w W')=>Zi (J xn xnn xnc) (J yn ynn ync) a.near b.near W' (ha.near.on h) (hb.near.on h) (by have:=fa.near; omega);have C2:=fun W' (h:Below w.heap.size w W')=>Zj (J xs xsn xsc) (J ys ysn ysc) a.seen b.seen W' (ha.seen.on h) (hb.seen.on h) (by have:=fa.seen; omega);have C3:=fun W' (h:Below w.heap.size w W')=>WW (xa,xan,xac) (ya,yan,yac) lA lB a.dQ b.dQ W' (hA1.on h) (hB1.on h) (hA2.mono fun _ _ q=>q.on h) (hB2.mono fun _ _ q=>q.on h) (fun x hx=>pa x.p (Or.inl ⟨x,hx,rfl⟩));have C4:=fun W' (h:Below w.heap.size w W')=>WX (xe,xen,xec) (ye,yen,yec) mA mB a.ent b.ent W' (iA1.on h) (iB1.on h) (iA2.mono fun _ _ q=>q.on h) (iB2.mono fun _ _ q=>q.on h) (fun x hx=>pa x.p (Or.inr (Or.inl ⟨x,hx,rfl⟩)));have C5:=fun W' (h:Below w.heap.size w W')=>WY (xw,xwn,xwc) (yw,ywn,ywc) kA kB a.own b.own W' (jA1.on h) (jB1.on h) (jA2.mono fun _ _ q=>q.on h) (jB2.mono fun _ _ q=>q.on h) (fun x hx=>pa x.p (Or.inr (Or.inr ⟨x,hx,rfl⟩)));obtain⟨r0,hr0⟩:∃ r,(a.me == b.me)=r:=⟨_,rfl⟩;generalize fV UU a.near b.near=r1 at *;generalize fV Ie a.seen b.seen=r2 at *;generalize fV Lp a.dQ b.dQ=r3 at *;generalize fV KJ a.ent b.ent=r4 at *;generalize fV Lr a.own b.own=r5 at *;rw [hr0];obtain⟨h0,X,Y⟩:=gP w #[K L a.me,J xn xnn xnc,J xa xan xac,J xs xsn xsc,J xe xen xec,J xw xwn xwc] #[K L b.me,J yn ynn ync,J ya yan yac,J ys ysn ysc,J ye yen yec,J yw ywn ywc] 28 28;have B0:=D h0;have X0:=D X;have Y0:=D Y;have C1:=D C1;have C2:=D C2;have C3:=D C3;have C4:=D C4;have C5:=D C5;obtain⟨Ro,Rp,Rq,WU,X6,X7⟩:=X.eZ;obtain⟨Rs,Rt,Ru,WV,X8,X9⟩:=Y.eZ;clear h0 X Y ha hb fa pa hA1 hA2 hB1 hB2 iA1 iA2 iB1 iB2 jA1 jA2 jB1 jB2;go_enter Tryz.func30,Tryz.ntmps30;cases r0
 ·go_wp2_with fail;go_ret;exact⟨rfl,B0.out⟩
 ·go_wp2_with fail;generalize (w.alloc (V #[K L a.me,J xn xnn xnc,J xa xan xac,J xs xsn xsc,J xe xen xec,J xw xwn xwc] 28)).alloc (V #[K L b.me,J yn ynn ync,J ya yan yac,J ys ysn ysc,J ye yen yec,J yw ywn ywc] 28)=W0 at *;refine (C1.out _ B0.out).mono ?_;rintro e1 W1 ⟨rfl,hb⟩;have B1:=D (B0.out.trans (hb.mono B0.out.size));have X1:=D (X0.out.on hb);have Y1:=D (Y0.out.on hb);clear hb Ro Rp Rq WU X6 X7 Rs Rt Ru WV X8 X9;obtain⟨Ro,Rp,Rq,WU,X6,X7⟩:=X1.out.eZ;obtain⟨Rs,Rt,Ru,WV,X8,X9⟩:=Y1.out.eZ;cases r1
  ·go_wp2_with fail;go_ret;exact⟨rfl,B1.out⟩
  ·go_wp2_with fail;refine (C2.out _ B1.out).mono ?_;rintro e2 W2 ⟨rfl,hb⟩;have B2:=D (B1.out.trans (hb.mono B1.out.size));have X2:=D (X1.out.on hb);have Y2:=D (Y1.out.on hb);clear hb Ro Rp Rq WU X6 X7 Rs Rt Ru WV X8 X9;obtain⟨Ro,Rp,Rq,WU,X6,X7⟩:=X2.out.eZ;obtain⟨Rs,Rt,Ru,WV,X8,X9⟩:=Y2.out.eZ;cases r2
   ·go_wp2_with fail;go_ret;exact⟨rfl,B2.out⟩
   ·go_wp2_with fail;refine (C3.out _ B2.out).mono ?_;rintro e3 W3 ⟨rfl,hb⟩;have B3:=D (B2.out.trans (hb.mono B2.out.size));have X3:=D (X2.out.on hb);have Y3:=D (Y2.out.on hb);clear hb Ro Rp Rq WU X6 X7 Rs Rt Ru WV X8 X9;obtain⟨Ro,Rp,Rq,WU,X6,X7⟩:=X3.out.eZ;obtain⟨Rs,Rt,Ru,WV,X8,X9⟩:=Y3.out.eZ;cases r3
    ·go_wp2_with fail;go_ret;exact⟨rfl,B3.out⟩
    ·go_wp2_with fail;refine (C4.out _ B3.out).mono ?_;rintro e4 W4 ⟨rfl,hb⟩;have B4:=D (B3.out.trans (hb.mono B3.out.size));have X4:=D (X3.out.on hb);have Y4:=D (Y3.out.on hb);clear hb Ro Rp Rq WU X6 X7 Rs Rt Ru WV X8 X9;obtain⟨Ro,Rp,Rq,WU,X6,X7⟩:=X4.out.eZ;obtain⟨Rs,Rt,Ru,WV,X8,X9⟩:=Y4.out.eZ;cases r4
     ·go_wp2_with fail;go_ret;exact⟨rfl,B4.out⟩
     ·go_wp2_with fail;refine (C5.out _ B4.out).mono ?_;rintro e5 W5 ⟨rfl,hb⟩;have B5:=D (B4.out.trans (hb.mono B4.out.size));clear hb Ro Rp Rq WU X6 X7 Rs Rt Ru WV X8 X9;go_wp2_with fail;go_ret;exact⟨rfl,B5.out⟩
end Av
end Go.Proofs.YtmklifheakemeaaGreat
