/-
  Entries of broadside. Conditions as told.
-/
import Derived.Test.YtmklifheakemeaaGreatBQ011
set_option maxRecDepth 100000
set_option maxHeartbeats 64000000
open _root_.Bool renaming false->K,true->O
open Go.Lib renaming hid->D
open _root_.List renaming getElem?_eq_getElem->L
open Option.some renaming inj->J
namespace Go.Proofs.YtmklifheakemeaaGreat.Bk
open Go.RowKit Go.Sort Rw YtmklifheakemeaaGreat.Nm Pr
theorem pK {α β:Type} {R:α->β->Prop}:∀ {l m} (_:fA R l m) (k:Nat) (a:α),l[k]?=some a->∃ b,m[k]?=some b/\R a b
 | _,_,.nil,k,b,h=>by simp at h
 | _,_,.cons x t,0,b,h=>by
  simp at h;subst h;exact⟨_,rfl,x⟩
 | _,_,.cons x t,k+1,b,h=>by
  obtain⟨a,h1,h2⟩:=pK t k b (by simpa using h);exact⟨a,by simpa using h1,h2⟩
theorem Hu (oL bv:Value) (l m:List iL) (la lb:List En) (w:World) (ha:lF w oL l) (hb:lF w bv m) (ua:fA (kr w) l la) (ub:fA (kr w) m lb) (sa:∀ (k:Nat) (e:En),la[k]?=some e->e.p.length<=1000000) (sb:∀ (k:Nat) (e:En),lb[k]?=some e->e.p.length<=1000000) (hl:l.length<=1000000) :
  Calls Tryz.prog 51 #[oL,bv] w fun e w'=>e=.returned (.bool (gH Gw la lb))/\Below w.heap.size w w':=by
 have UA:=D ua;have UB:=D ub;have SHA:=D sa;have SHB:=D sb;clear ua ub sa sb;have HA:=D ha;have HB:=D hb;obtain⟨ao,ac,rfl⟩:=ha.len;obtain⟨bo,bc,rfl⟩:=hb.len;clear ha hb;by_cases hlen:l.length=m.length
 ·have HL:=D hlen;rw [<- hlen] at HB ⊢;obtain⟨n,hn⟩:∃ n,n=l.length:=⟨_,rfl⟩;simp only [<- hn] at HA HB ⊢;have HN:=D hn.symm;rw [<- hn] at hl;clear hlen hn;go_enter Tryz.func51,Tryz.ntmps51;go_wp2
  go_loopw [13] (fun i wr=>∃ k:Nat,k<=n/\i=.int .i64 k/\Below w.heap.size w wr/\∀ (j:Nat) (x y:En),j<k->la[j]?=some x->lb[j]?=some y->Gw x y=O) (fun i _=>n-(intOf i).toNat)
  case atStart=>exact⟨0,Nat.zero_le _,rfl,Below.refl _ _,fun j x y h=>by omega⟩
  case round =>
   obtain⟨k,hk,rfl,hbe,hall⟩:=hrel;have BE:=D hbe;have AL:=D hall;clear hbe hall;by_cases hlt:k<n
   ·obtain⟨x,hx⟩:∃ x,l[k]?=some x:=⟨_,L (by rw [HN.out]; exact hlt)⟩;obtain⟨y,hy⟩:∃ y,m[k]?=some y:=⟨_,L (by rw [<- HL.out,HN.out]; exact hlt)⟩;obtain⟨p,ix,px⟩:=Pp HA.out rfl HN.out hx;obtain⟨q,iy,py⟩:=Pp HB.out rfl (HL.out.symm.trans HN.out) hy;obtain⟨sx,hsx,ix_⟩:=pK UA.out k x hx;obtain⟨sy,hsy,iy_⟩:=pK UB.out k y hy;obtain⟨x1,x2,x3,x4,⟨xo,xn,xc⟩,x6,x7⟩:=x;obtain⟨y1,y2,y3,y4,⟨yo,yn,yc⟩,y6,y7⟩:=y;obtain⟨ta,tb,tp,tf,tu⟩:=sx;obtain⟨va,vb,vp,vf,vu⟩:=sy;obtain⟨rfl,rfl,rfl,rfl,rx⟩:=ix_;obtain⟨rfl,rfl,rfl,rfl,ry⟩:=iy_;have p0:=cell_regrown (px _ BE.out).1;have p1:=cell_regrown (px _ BE.out).2.1;have p2:=cell_regrown (px _ BE.out).2.2.1;have p3:=cell_regrown (px _ BE.out).2.2.2.1;have p4:=cell_regrown (px _ BE.out).2.2.2.2.1;have p5:=cell_regrown (px _ BE.out).2.2.2.2.2.1;have p6:=cell_regrown (px _ BE.out).2.2.2.2.2.2;have q0:=cell_regrown (py _ BE.out).1;have q1:=cell_regrown (py _ BE.out).2.1;have q2:=cell_regrown (py _ BE.out).2.2.1;have q3:=cell_regrown (py _ BE.out).2.2.2.1;have q4:=cell_regrown (py _ BE.out).2.2.2.2.1;have q5:=cell_regrown (py _ BE.out).2.2.2.2.2.1;have q6:=cell_regrown (py _ BE.out).2.2.2.2.2.2;have CS:=D (fun d os=>Calls.regrown_of (d:=d) (os:=os) (xq (.slice xo xn xc) (.slice yo yn yc) tp vp _ ((rx.on BE.out).on (below_regrown wr d os)) ((ry.on BE.out).on (below_regrown wr d os)) (SHA.out _ _ hsx) (SHB.out _ _ hsy)));have R0:=show Gw ⟨(x1,x2),(x3,x4),tp,x6,x7⟩ ⟨(y1,y2),(y3,y4),vp,y6,y7⟩=(za (x1,x2) (y1,y2) && (za (x3,x4) (y3,y4) && (x6 == y6 && (x7 == y7 && jv tp vp)))) from rfl;obtain⟨r1,e1⟩:∃ r,za (x1,x2) (y1,y2)=r:=⟨_,rfl⟩;obtain⟨r2,e2⟩:∃ r,za (x3,x4) (y3,y4)=r:=⟨_,rfl⟩;obtain⟨r3,e3⟩:∃ r,(x6 == y6)=r:=⟨_,rfl⟩;obtain⟨r5,e5⟩:∃ r,jv tp vp=r:=⟨_,rfl⟩;have h1:=EG x1 x2 y1 y2 (!r1) (by rw [<- e1]; rfl);have h2:=EG x3 x4 y3 y4 (!r2) (by rw [<- e2]; rfl);have h3:(x6 != y6)=!r3:=by rw [<- e3]; rfl
    rw [e5] at CS;rw [e1,e2,e3,e5] at R0;have HX:=D hsx;have HY:=D hsy;have yQ:=D R0;clear px py hx hy hsx hsy rx ry R0 e1 e2 e3 e5;cases r1
    ·have HR:=D (yQ.out.trans (show _=K by simp));have R:=D (show gH Gw la lb=K from iQ la lb k _ _ HX.out HY.out HR.out);go_wp2;refine wp_region_quiet_below (by kernel_rfl) (by kernel_rfl) ?_
     repeat (go_big_quiet_step (first | (with_reducible exact CS.out _ _)))
     refine wpQuiet_nil ?_;intro _ hw';obtain⟨⟨dq,osq⟩,hw''⟩:=hw';subst hw'';go_wp2;go_ret;exact⟨kL R.out.symm,BE.out.trans ((below_regrown wr dq osq).mono BE.out.size)⟩
    ·cases r2
     ·have HR:=D (yQ.out.trans (show _=K by simp));have R:=D (show gH Gw la lb=K from iQ la lb k _ _ HX.out HY.out HR.out);go_wp2;refine wp_region_quiet_below (by kernel_rfl) (by kernel_rfl) ?_
      repeat (go_big_quiet_step (first | (with_reducible exact CS.out _ _)))
      refine wpQuiet_nil ?_;intro _ hw';obtain⟨⟨dq,osq⟩,hw''⟩:=hw';subst hw'';go_wp2;go_ret;exact⟨kL R.out.symm,BE.out.trans ((below_regrown wr dq osq).mono BE.out.size)⟩
     ·cases r3
      ·have HR:=D (yQ.out.trans (show _=K by simp));have R:=D (show gH Gw la lb=K from iQ la lb k _ _ HX.out HY.out HR.out);go_wp2;refine wp_region_quiet_below (by kernel_rfl) (by kernel_rfl) ?_
       repeat (go_big_quiet_step (first | (with_reducible exact CS.out _ _)))
       refine wpQuiet_nil ?_;intro _ hw';obtain⟨⟨dq,osq⟩,hw''⟩:=hw';subst hw'';go_wp2;go_ret;exact⟨kL R.out.symm,BE.out.trans ((below_regrown wr dq osq).mono BE.out.size)⟩
      ·cases x7 <;> cases y7
       ·cases r5
        ·have HR:=D (yQ.out.trans (show _=K by simp));have R:=D (show gH Gw la lb=K from iQ la lb k _ _ HX.out HY.out HR.out);go_wp2;refine wp_region_quiet_below (by kernel_rfl) (by kernel_rfl) ?_
         repeat (go_big_quiet_step (first | (with_reducible exact CS.out _ _)))
         refine wpQuiet_nil ?_;intro _ hw';obtain⟨⟨dq,osq⟩,hw''⟩:=hw';subst hw'';go_wp2;go_ret;exact⟨kL R.out.symm,BE.out.trans ((below_regrown wr dq osq).mono BE.out.size)⟩
        ·have HR:=D (yQ.out.trans (show _=O by simp));go_wp2;refine wp_region_quiet_below (by kernel_rfl) (by kernel_rfl) ?_
         repeat (go_big_quiet_step (first | (with_reducible exact CS.out _ _)))
         refine wpQuiet_nil ?_;intro _ hw';obtain⟨⟨dq,osq⟩,hw''⟩:=hw';subst hw'';clear ix iy p0 q0 p1 q1 p2 q2 p3 q3 p4 q4 p5 q5 p6 q6 h1 h2 h3;go_wp2
         go_roundw
         case rel=>exact⟨k+1,by omega,by go_num,BE.out.trans ((below_regrown wr dq osq).mono BE.out.size),fun j x' y' hj h1 h2=>by
          rcases Nat.lt_or_ge j k with h3|h3
          ·exact AL.out j x' y' h3 h1 h2
          ·obtain rfl:j=k:=by omega
           have e1:=HX.out;have e2:=HY.out;rw [h1] at e1;rw [h2] at e2;rw [J e1,J e2];exact HR.out⟩
         case measure=>simp [intOf]; omega
       ·have HR:=D (yQ.out.trans (show _=K by simp));have R:=D (show gH Gw la lb=K from iQ la lb k _ _ HX.out HY.out HR.out);go_wp2;refine wp_region_quiet_below (by kernel_rfl) (by kernel_rfl) ?_
        repeat (go_big_quiet_step (first | (with_reducible exact CS.out _ _)))
        refine wpQuiet_nil ?_;intro _ hw';obtain⟨⟨dq,osq⟩,hw''⟩:=hw';subst hw'';go_wp2;go_ret;exact⟨kL R.out.symm,BE.out.trans ((below_regrown wr dq osq).mono BE.out.size)⟩
       ·have HR:=D (yQ.out.trans (show _=K by simp));have R:=D (show gH Gw la lb=K from iQ la lb k _ _ HX.out HY.out HR.out);go_wp2;refine wp_region_quiet_below (by kernel_rfl) (by kernel_rfl) ?_
        repeat (go_big_quiet_step (first | (with_reducible exact CS.out _ _)))
        refine wpQuiet_nil ?_;intro _ hw';obtain⟨⟨dq,osq⟩,hw''⟩:=hw';subst hw'';go_wp2;go_ret;exact⟨kL R.out.symm,BE.out.trans ((below_regrown wr dq osq).mono BE.out.size)⟩
       ·cases r5
        ·have HR:=D (yQ.out.trans (show _=K by simp));have R:=D (show gH Gw la lb=K from iQ la lb k _ _ HX.out HY.out HR.out);go_wp2;refine wp_region_quiet_below (by kernel_rfl) (by kernel_rfl) ?_
         repeat (go_big_quiet_step (first | (with_reducible exact CS.out _ _)))
         refine wpQuiet_nil ?_;intro _ hw';obtain⟨⟨dq,osq⟩,hw''⟩:=hw';subst hw'';go_wp2;go_ret;exact⟨kL R.out.symm,BE.out.trans ((below_regrown wr dq osq).mono BE.out.size)⟩
        ·have HR:=D (yQ.out.trans (show _=O by simp));go_wp2;refine wp_region_quiet_below (by kernel_rfl) (by kernel_rfl) ?_
         repeat (go_big_quiet_step (first | (with_reducible exact CS.out _ _)))
         refine wpQuiet_nil ?_;intro _ hw';obtain⟨⟨dq,osq⟩,hw''⟩:=hw';subst hw'';clear ix iy p0 q0 p1 q1 p2 q2 p3 q3 p4 q4 p5 q5 p6 q6 h1 h2 h3;go_wp2
         go_roundw
         case rel=>exact⟨k+1,by omega,by go_num,BE.out.trans ((below_regrown wr dq osq).mono BE.out.size),fun j x' y' hj h1 h2=>by
          rcases Nat.lt_or_ge j k with h3|h3
          ·exact AL.out j x' y' h3 h1 h2
          ·obtain rfl:j=k:=by omega
           have e1:=HX.out;have e2:=HY.out;rw [h1] at e1;rw [h2] at e2;rw [J e1,J e2];exact HR.out⟩
         case measure=>simp [intOf]; omega
   ·obtain rfl:k=n:=by omega
    have R:=D (show gH Gw la lb=O from qD la lb (by rw [<- UA.out.len,<- UB.out.len]; exact HL.out) (fun j a b h1 h2=>AL.out j a b (by have:=(List.getElem?_eq_some_iff.1 h1).1; have:=HN.out; have:=UA.out.len; omega) h1 h2));go_wp2;go_ret;exact⟨kL R.out.symm,BE.out⟩
 ·have R:=D (show gH Gw la lb=K by
   cases h:gH Gw la lb
   ·rfl
   ·have h2:=xu _ _ h;exact absurd (by rw [UA.out.len,UB.out.len]; exact h2) hlen)
  have hne:(((l.length:Nat):Int) != ((m.length:Nat):Int))=O:=by simp; omega
  have hne2:(((l.length:Nat):Int) == ((m.length:Nat):Int))=K:=by simp; omega
  clear hlen;go_enter Tryz.func51,Tryz.ntmps51;go_wp2;go_ret;exact⟨kL R.out.symm,Below.refl _ _⟩
end Go.Proofs.YtmklifheakemeaaGreat.Bk
