/-
  Brokers of broadside. Conditions as told.
-/
import Derived.Test.YtghlpefopidlaaaGreatLQ024
import Derived.Test.YtghlpefopidlaaaGreatLQ022
set_option maxRecDepth 100000
set_option maxHeartbeats 64000000
open _root_.Bool renaming and_eq_true->V,true->aj,false->ak
open Go.IntKind renaming i64->L
open Go.Lib renaming hid->D
open Go.Obj renaming cells->Z
open Go.Value renaming slice->J,int->K,bool->au
open _root_.List renaming getElem?_eq_getElem->O,getElem?_eq_some_iff->U,mem_of_getElem?->ah
open Option.some renaming inj->Q
namespace Go.Proofs.YtghlpefopidlaaaGreat
namespace Bk
open Go.RowKit Go.Sort Rw YtghlpefopidlaaaGreat.Nm Pr
def O6 (x y:Ad):Bool:=J9 x.id y.id && (x.par == y.par && jU x.p y.p)
def O7 (x y:Ow):Bool:=J9 x.id y.id && jU x.p y.p
theorem QO (x y:Ad):O6 x y=aj↔x=y:=by
 obtain⟨a,b,c⟩:=x;obtain⟨a',b',c'⟩:=y;simp only [O6,V,pV,vW,beq_iff_eq,Ad.mk.injEq];constructor
 ·rintro⟨h1,h2,h3⟩;exact⟨h1,h3,h2⟩
 ·rintro⟨h1,h2,h3⟩;exact⟨h1,h3,h2⟩
theorem QT (x y:Ow):O7 x y=aj↔x=y:=by
 obtain⟨a,b⟩:=x;obtain⟨a',b'⟩:=y;simp only [O7,V,pV,vW,Ow.mk.injEq]
def Di (a b:Br):Bool:=a.me == b.me && (decide (a.near=b.near) && (gI J9 a.seen b.seen && (decide (a.dO.length=b.dO.length) && (decide (a.own.length=b.own.length) && (gI NY a.ent b.ent && (gI O6 a.dO b.dO && gI O7 a.own b.own))))))
theorem Dj (a b:Br):Di a b=aj↔a=b:=by
 obtain⟨m,n,d,s,e,o⟩:=a;obtain⟨m',n',d',s',e',o'⟩:=b;simp only [Di,V,beq_iff_eq,decide_eq_true_eq,lK pV,lK Qf,lK QO,lK QT,Br.mk.injEq];constructor
 ·rintro⟨h1,h2,h3,_,_,h6,h7,h8⟩;exact⟨h1,h2,h7,h3,h6,h8⟩
 ·rintro⟨h1,h2,h3,h4,h5,h6⟩;exact⟨h1,h2,h4,by rw [h3],by rw [h6],h5,h3,h6⟩
end Bk
namespace Av
open Go.RowKit Go.Sort Rw YtghlpefopidlaaaGreat.Nm Pr Bk
theorem UC (x y:kY) (a b:Ad) (w:World) (hx:uU w x a) (hy:uU w y b) (hl:a.p.length<=1000000):Calls Tryz.prog 93 #[nD x,nD y] w fun e w'=>e=.returned (au (O6 a b))/\Below w.heap.size w w':=by
 obtain⟨x1,x2,⟨xo,xn,xc⟩,x4⟩:=x;obtain⟨y1,y2,⟨yo,yn,yc⟩,y4⟩:=y;obtain⟨gi,gp,gr⟩:=hx;obtain⟨ki,kp,kr⟩:=hy;have ER:O6 a b=((x1 == y1 && x2 == y2) && ((x4 == y4) && jU a.p b.p)):=by
  unfold O6;rw [<- gi,<- ki,<- gp,<- kp]
  rfl
 rw [ER];obtain⟨h0,X,Y⟩:=iI w #[K L x1,K L x2,J xo xn xc,K L x4] #[K L y1,K L y2,J yo yn yc,K L y4] 36 36;have C:=D (zw _ _ a.p b.p _ (gr.on h0) (kr.on h0) hl);obtain⟨VL,VN,VP,Yu⟩:=X.Bt;obtain⟨VQ,VT,VU,Yv⟩:=Y.Bt;have T:=D h0;clear h0 X Y gr kr hl ER gi gp ki kp;obtain⟨r0,hr0⟩:∃ r,(x1 == y1 && x2 == y2)=r:=⟨_,rfl⟩;have he0:=rH x1 x2 y1 y2 r0 hr0;obtain⟨r1,hr1⟩:∃ r,(x4 == y4)=r:=⟨_,rfl⟩;rw [hr0,hr1];clear hr0;obtain⟨rs,hrs⟩:∃ r,jU a.p b.p=r:=⟨_,rfl⟩;rw [hrs] at C ⊢;clear hrs;go_enter Tryz.func93,Tryz.ntmps93;cases r0
 ·go_wp2_with fail;go_ret;exact⟨rfl,T.out⟩
 ·cases r1
  ·go_wp2_with fail;go_ret;exact⟨rfl,T.out⟩
  ·go_wp2_with fail;refine C.out.mono ?_;rintro e w1 ⟨rfl,hb⟩;have a0:=D (T.out.trans (hb.mono T.out.size));clear hb;go_wp2;go_ret;exact⟨rfl,a0.out⟩
theorem Yw (v u:Sl) (l m:List kY) (al bl:List Ad) (w:World) (ha:Row ED w (dX v) l) (hb:Row ED w (dX u) m) (hA:eY (uU w) l al) (hB:eY (uU w) m bl) (hs:∀ a∈al,a.p.length<=1000000) :
  Calls Tryz.prog 92 #[dX v,dX u,.func (.func 93) #[] #[]] w fun e w'=>e=.returned (au (gI O6 al bl))/\Below w.heap.size w w':=by
 obtain⟨so,sn,sc⟩:=v;obtain⟨uo,un,uc⟩:=u;obtain⟨ao,ac,hv⟩:=ha.len;have hv:J so sn sc=J ao l.length ac:=hv;obtain⟨rfl,rfl,rfl⟩:so=ao/\sn=l.length/\sc=ac:=by simpa using hv
 obtain⟨ao,ac,hv2⟩:=hb.len;have hv2:J uo un uc=J ao m.length ac:=hv2;obtain⟨rfl,rfl,rfl⟩:uo=ao/\un=m.length/\uc=ac:=by simpa using hv2
 have c7:=D ha;have b9:=D hb;have a0:=D hA;have a4:=D hB;have bQ:=D hs;have ma:=ha.most;unfold maxLen at ma;clear ha hb hA hB hs hv hv2;by_cases hlen:l.length=m.length
 ·have HL:=D hlen;rw [<- hlen] at b9 ⊢;generalize hn:l.length=n at *;have a3:=D hn;clear hlen hn;go_enter Tryz.func92,Tryz.ntmps92;go_wp2
  go_loopw [17] (fun i wr=>∃ k:Nat,k<=n/\i=K L k/\Below w.heap.size w wr/\∀ (j:Nat) (x y:Ad),j<k->al[j]?=some x->bl[j]?=some y->O6 x y=aj) (fun i _=>n-(intOf i).toNat)
  case atStart=>exact⟨0,Nat.zero_le _,rfl,Below.refl _ _,fun j x y h=>by omega⟩
  case round =>
   obtain⟨k,hk,rfl,hbe,hall⟩:=hrel;have T:=D hbe;have bJ:=D hall;clear hbe hall;by_cases hlt:k<n
   ·obtain⟨a,hak⟩:∃ a,al[k]?=some a:=⟨_,O (by rw [<- a0.out.len,a3.out]; exact hlt)⟩;obtain⟨b,hbk⟩:∃ b,bl[k]?=some b:=⟨_,O (by rw [<- a4.out.len,<- HL.out]; exact hlt)⟩;obtain⟨x,hx,ix⟩:=a0.out.at k a hak;obtain⟨y,hy,iy⟩:=a4.out.at k b hbk;obtain⟨p,jx,px⟩:=NK c7.out rfl a3.out hx;obtain⟨q,jy,py⟩:=NK b9.out rfl HL.out.symm hy;obtain⟨p0,p1,p2,p3⟩:=px wr T.out;have hs1:=bQ.out a (ah hak);have CC:=fun W' (h:Below w.heap.size w W')=>UC x y a b W' (ix.on h) (iy.on h) hs1;have a8:=D hak;have a6:=D hbk;clear hx hy hak hbk hs1 px ix iy;obtain⟨x1,x2,⟨xo,xn,xc⟩,x4⟩:=x;obtain⟨y1,y2,⟨yo,yn,yc⟩,y4⟩:=y;simp only at p0 p1 p2 p3;have N1:=gN wr (Z #[K L x1,K L x2,J xo xn xc,K L x4] 36);have N2:=gN (wr.alloc (Z #[K L x1,K L x2,J xo xn xc,K L x4] 36)) (Z #[K L y1,K L y2,J yo yn yc,K L y4] 36);have a5:=D (T.out.trans ((N1.trans (N2.mono N1.size)).mono T.out.size));obtain⟨q0,q1,q2,q3⟩:=py _ (T.out.trans (N1.mono T.out.size));have hX:=(dQ wr #[K L x1,K L x2,J xo xn xc,K L x4] 36).on N2;have hY:=dQ (wr.alloc (Z #[K L x1,K L x2,J xo xn xc,K L x4] 36)) #[K L y1,K L y2,J yo yn yc,K L y4] 36;have hsz:(wr.alloc (Z #[K L x1,K L x2,J xo xn xc,K L x4] 36)).heap.size=wr.heap.size+1:=by simp
    rw [hsz] at hY;obtain⟨ex0,ex1,ex2,ex3⟩:=hX.Bt;obtain⟨ey0,ey1,ey2,ey3⟩:=hY.Bt;simp only at q0 q1 q2 q3;have hw3:IntKind.i64.wrap ((k:Int)+1)=(k:Int)+1:=IntWalk.i64_in _ (by omega);have C:=D (CC _ a5.out);obtain⟨r,hr⟩:∃ r,O6 a b=r:=⟨_,rfl⟩;rw [hr] at C;have aE:=D hr;clear CC hr N1 N2 hX hY hsz py;go_wp2_with fail;refine C.out.mono ?_;rintro e w1 ⟨rfl,hb⟩;have a7:=D (a5.out.trans (hb.mono a5.out.size));clear hb C p0 p1 p2 p3 q0 q1 q2 q3 ex0 ex1 ex2 ex3 ey0 ey1 ey2 ey3 jx jy;cases r
    ·have R:=D (show gI O6 al bl=ak from qh al bl k a b a8.out a6.out aE.out);go_wp2;go_ret;exact⟨by rw [R.out]; rfl,a7.out⟩
    ·go_wp2
     go_roundw
     case rel=>exact⟨k+1,by omega,by go_num,a7.out,fun j x' y' hj h1 h2=>by
      rcases Nat.lt_or_ge j k with h3|h3
      ·exact bJ.out j x' y' h3 h1 h2
      ·obtain rfl:j=k:=by omega
       have e1:=a8.out;have e2:=a6.out;rw [h1] at e1;rw [h2] at e2;rw [Q e1,Q e2];exact aE.out⟩
     case measure=>simp [intOf]; omega
   ·obtain rfl:k=n:=by omega
    have R:=D (show gI O6 al bl=aj from qg al bl (by rw [<- a0.out.len,<- a4.out.len,a3.out]; exact HL.out) (fun j a b h1 h2=>bJ.out j a b (by have:=(U.1 h1).1; have:=a3.out; have:=a0.out.len; omega) h1 h2));go_wp2;go_ret;exact⟨by rw [R.out]; rfl,T.out⟩
 ·have R:=D (show gI O6 al bl=ak by
   cases h:gI O6 al bl
   ·rfl
   ·exact absurd ((a0.out.len.trans (qd _ _ h)).trans a4.out.len.symm) hlen)
  have hne:(((l.length:Nat):Int) != ((m.length:Nat):Int))=aj:=by simp; omega
  have hne2:(((l.length:Nat):Int) == ((m.length:Nat):Int))=ak:=by simp; omega
  clear hlen;go_enter Tryz.func92,Tryz.ntmps92;go_wp2;go_ret;exact⟨by rw [R.out]; rfl,Below.refl _ _⟩
theorem UD (x y:ny) (a b:Ow) (w:World) (hx:xS w x a) (hy:xS w y b) (hl:a.p.length<=1000000):Calls Tryz.prog 97 #[EM x,EM y] w fun e w'=>e=.returned (au (O7 a b))/\Below w.heap.size w w':=by
 obtain⟨x1,x2,⟨xo,xn,xc⟩⟩:=x;obtain⟨y1,y2,⟨yo,yn,yc⟩⟩:=y;obtain⟨gi,gr⟩:=hx;obtain⟨ki,kr⟩:=hy;have ER:O7 a b=((x1 == y1 && x2 == y2) && jU a.p b.p):=by
  unfold O7;rw [<- gi,<- ki]
  rfl
 rw [ER];obtain⟨h0,X,Y⟩:=iI w #[K L x1,K L x2,J xo xn xc] #[K L y1,K L y2,J yo yn yc] 88 88;have C:=D (zw _ _ a.p b.p _ (gr.on h0) (kr.on h0) hl);obtain⟨VL,VN,VP⟩:=X.cs3;obtain⟨VQ,VT,VU⟩:=Y.cs3;have T:=D h0;clear h0 X Y gr kr hl ER gi ki;obtain⟨r0,hr0⟩:∃ r,(x1 == y1 && x2 == y2)=r:=⟨_,rfl⟩;have he0:=rH x1 x2 y1 y2 r0 hr0;rw [hr0];clear hr0;obtain⟨rs,hrs⟩:∃ r,jU a.p b.p=r:=⟨_,rfl⟩;rw [hrs] at C ⊢;clear hrs;go_enter Tryz.func97,Tryz.ntmps97;cases r0
 ·go_wp2_with fail;go_ret;exact⟨rfl,T.out⟩
 ·go_wp2_with fail;refine C.out.mono ?_;rintro e w1 ⟨rfl,hb⟩;have a0:=D (T.out.trans (hb.mono T.out.size));clear hb;go_wp2;go_ret;exact⟨rfl,a0.out⟩
theorem Yx (v u:Sl) (l m:List ny) (al bl:List Ow) (w:World) (ha:Row EW w (dX v) l) (hb:Row EW w (dX u) m) (hA:eY (xS w) l al) (hB:eY (xS w) m bl) (hs:∀ a∈al,a.p.length<=1000000) :
  Calls Tryz.prog 96 #[dX v,dX u,.func (.func 97) #[] #[]] w fun e w'=>e=.returned (au (gI O7 al bl))/\Below w.heap.size w w':=by
 obtain⟨so,sn,sc⟩:=v;obtain⟨uo,un,uc⟩:=u;obtain⟨ao,ac,hv⟩:=ha.len;have hv:J so sn sc=J ao l.length ac:=hv;obtain⟨rfl,rfl,rfl⟩:so=ao/\sn=l.length/\sc=ac:=by simpa using hv
 obtain⟨ao,ac,hv2⟩:=hb.len;have hv2:J uo un uc=J ao m.length ac:=hv2;obtain⟨rfl,rfl,rfl⟩:uo=ao/\un=m.length/\uc=ac:=by simpa using hv2
 have c7:=D ha;have b9:=D hb;have a0:=D hA;have a4:=D hB;have bQ:=D hs;have ma:=ha.most;unfold maxLen at ma;clear ha hb hA hB hs hv hv2;by_cases hlen:l.length=m.length
 ·have HL:=D hlen;rw [<- hlen] at b9 ⊢;generalize hn:l.length=n at *;have a3:=D hn;clear hlen hn;go_enter Tryz.func96,Tryz.ntmps96;go_wp2
  go_loopw [17] (fun i wr=>∃ k:Nat,k<=n/\i=K L k/\Below w.heap.size w wr/\∀ (j:Nat) (x y:Ow),j<k->al[j]?=some x->bl[j]?=some y->O7 x y=aj) (fun i _=>n-(intOf i).toNat)
  case atStart=>exact⟨0,Nat.zero_le _,rfl,Below.refl _ _,fun j x y h=>by omega⟩
  case round =>
   obtain⟨k,hk,rfl,hbe,hall⟩:=hrel;have T:=D hbe;have bJ:=D hall;clear hbe hall;by_cases hlt:k<n
   ·obtain⟨a,hak⟩:∃ a,al[k]?=some a:=⟨_,O (by rw [<- a0.out.len,a3.out]; exact hlt)⟩;obtain⟨b,hbk⟩:∃ b,bl[k]?=some b:=⟨_,O (by rw [<- a4.out.len,<- HL.out]; exact hlt)⟩;obtain⟨x,hx,ix⟩:=a0.out.at k a hak;obtain⟨y,hy,iy⟩:=a4.out.at k b hbk;obtain⟨p,jx,px⟩:=elW c7.out rfl a3.out hx;obtain⟨q,jy,py⟩:=elW b9.out rfl HL.out.symm hy;obtain⟨p0,p1,p2⟩:=px wr T.out;have hs1:=bQ.out a (ah hak);have CC:=fun W' (h:Below w.heap.size w W')=>UD x y a b W' (ix.on h) (iy.on h) hs1;have a8:=D hak;have a6:=D hbk;clear hx hy hak hbk hs1 px ix iy;obtain⟨x1,x2,⟨xo,xn,xc⟩⟩:=x;obtain⟨y1,y2,⟨yo,yn,yc⟩⟩:=y;simp only at p0 p1 p2;have N1:=gN wr (Z #[K L x1,K L x2,J xo xn xc] 88);have N2:=gN (wr.alloc (Z #[K L x1,K L x2,J xo xn xc] 88)) (Z #[K L y1,K L y2,J yo yn yc] 88);have a5:=D (T.out.trans ((N1.trans (N2.mono N1.size)).mono T.out.size));obtain⟨q0,q1,q2⟩:=py _ (T.out.trans (N1.mono T.out.size));have hX:=(dQ wr #[K L x1,K L x2,J xo xn xc] 88).on N2;have hY:=dQ (wr.alloc (Z #[K L x1,K L x2,J xo xn xc] 88)) #[K L y1,K L y2,J yo yn yc] 88;have hsz:(wr.alloc (Z #[K L x1,K L x2,J xo xn xc] 88)).heap.size=wr.heap.size+1:=by simp
    rw [hsz] at hY;obtain⟨ex0,ex1,ex2⟩:=hX.cs3;obtain⟨ey0,ey1,ey2⟩:=hY.cs3;simp only at q0 q1 q2;have hw3:IntKind.i64.wrap ((k:Int)+1)=(k:Int)+1:=IntWalk.i64_in _ (by omega);have C:=D (CC _ a5.out);obtain⟨r,hr⟩:∃ r,O7 a b=r:=⟨_,rfl⟩;rw [hr] at C;have aE:=D hr;clear CC hr N1 N2 hX hY hsz py;go_wp2_with fail;refine C.out.mono ?_;rintro e w1 ⟨rfl,hb⟩;have a7:=D (a5.out.trans (hb.mono a5.out.size));clear hb C p0 p1 p2 q0 q1 q2 ex0 ex1 ex2 ey0 ey1 ey2 jx jy;cases r
    ·have R:=D (show gI O7 al bl=ak from qh al bl k a b a8.out a6.out aE.out);go_wp2;go_ret;exact⟨by rw [R.out]; rfl,a7.out⟩
    ·go_wp2
     go_roundw
     case rel=>exact⟨k+1,by omega,by go_num,a7.out,fun j x' y' hj h1 h2=>by
      rcases Nat.lt_or_ge j k with h3|h3
      ·exact bJ.out j x' y' h3 h1 h2
      ·obtain rfl:j=k:=by omega
       have e1:=a8.out;have e2:=a6.out;rw [h1] at e1;rw [h2] at e2;rw [Q e1,Q e2];exact aE.out⟩
     case measure=>simp [intOf]; omega
   ·obtain rfl:k=n:=by omega
    have R:=D (show gI O7 al bl=aj from qg al bl (by rw [<- a0.out.len,<- a4.out.len,a3.out]; exact HL.out) (fun j a b h1 h2=>bJ.out j a b (by have:=(U.1 h1).1; have:=a3.out; have:=a0.out.len; omega) h1 h2));go_wp2;go_ret;exact⟨by rw [R.out]; rfl,T.out⟩
 ·have R:=D (show gI O7 al bl=ak by
   cases h:gI O7 al bl
   ·rfl
   ·exact absurd ((a0.out.len.trans (qd _ _ h)).trans a4.out.len.symm) hlen)
  have hne:(((l.length:Nat):Int) != ((m.length:Nat):Int))=aj:=by simp; omega
  have hne2:(((l.length:Nat):Int) == ((m.length:Nat):Int))=ak:=by simp; omega
  clear hlen;go_enter Tryz.func96,Tryz.ntmps96;go_wp2;go_ret;exact⟨by rw [R.out]; rfl,Below.refl _ _⟩
end Av
end Go.Proofs.YtghlpefopidlaaaGreat
