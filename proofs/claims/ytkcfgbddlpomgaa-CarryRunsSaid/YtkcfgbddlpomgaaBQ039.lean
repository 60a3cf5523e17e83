/-
  ahead, place and bra. Conditions as told.
-/
import Derived.Test.YtkcfgbddlpomgaaBQ036
import Derived.Shelf.Abstract
set_option maxRecDepth 100000
set_option maxHeartbeats 64000000
open _root_.Go renaming cell_regrown->D,redrawn->U,below_regrown->ak,World->au,Calls->ay,Value->aF
open Go.Ending renaming returned->J
open Go.IntKind renaming i64->Q
open Go.Lib renaming hid->K
open Go.Proofs.Try renaming prog->L,ntmps43->aA,func43->aB,func42->aC,func70->aD
open Go.Value renaming int->O,bool->V,pointer->ah,slice->aj
namespace Go.Proofs.Ytkcfgbddlpomgaa.Sb
open Go.RowKit Go.Sort Rw Ytkcfgbddlpomgaa.Nm Pr Bk Av
theorem vI (x:gq) (t s:dI) (r:Bool) (hr:fI (pW x) (t,s)=r) (w:au):ay L 43 #[mX x,lq t,lq s] w fun e w'=>e=J (V r)/\Below w.heap.size w w':=by
 obtain⟨y1,y2,y3,y4,⟨yo,yn,yc⟩,y6,y7⟩:=x;obtain⟨c,d⟩:=t;obtain⟨g,h⟩:=s;obtain⟨h0,X,Y,Z⟩:=kC w #[O Q y1,O Q y2,O Q y3,O Q y4,aj yo yn yc,O Q y6,V y7] #[O Q c,O Q d] #[O Q g,O Q h] 41 23 23;have x1:=X.cell 1;have x0:=X.cell 0;have x2:=X.cell 2;have x3:=X.cell 3;obtain⟨c0,c1⟩:=Y.cs2;obtain⟨d0,d1⟩:=Z.cs2;simp only [List.getElem?_toArray,List.getElem?_cons_zero,List.getElem?_cons_succ] at x0 x1 x2 x3;have C1:=kI (y1,y2) (c,d);have C2:=kI (y3,y4) (g,h);have B:=K h0;have he:fI ((y1,y2),(y3,y4)) ((c,d),(g,h))=if ((y1,y2):dI)=(c,d) then dD (y3,y4) (g,h) else dD (y1,y2) (c,d):=by
  unfold fI;by_cases q:((y1,y2):dI)=(c,d)
  ·rw [if_pos q,q,jq,(oG _ _).2 rfl]; rfl
  ·rw [if_neg q,Bool.eq_false_iff.2 fun q2=>q ((oG _ _).1 q2)]; simp
 clear h0 X Y Z;by_cases q:((y1,y2):dI)=(c,d)
 ·have hr2:=K (show dD (y3,y4) (g,h)=r by rw [<- hr]; show _=fI ((y1,y2),(y3,y4)) ((c,d),(g,h)); rw [he,if_pos q]);obtain⟨rfl,rfl⟩:y1=c/\y2=d:=by simpa using q
  have hne:=DT y1 y2 y1 y2 false (by simp);clear he hr q;go_enter aB,aA;go_wp2_with fail;refine (C2 _).mono ?_;rintro e w1 ⟨rfl,hb⟩;go_wp2;go_ret;exact⟨congrArg (fun b=>J (V b)) hr2.out,B.out.trans (hb.mono B.out.size)⟩
 ·have hr2:=K (show dD (y1,y2) (c,d)=r by rw [<- hr]; show _=fI ((y1,y2),(y3,y4)) ((c,d),(g,h)); rw [he,if_neg q]);have hne:=DT y1 y2 c d true (by rw [show (y1 == c && y2 == d)=false from Bool.eq_false_iff.2 fun h=>q (by simp at h; rw [h.1,h.2])]; rfl);clear he hr q;go_enter aB,aA;go_wp2_with fail;refine (C1 _).mono ?_;rintro e w1 ⟨rfl,hb⟩;go_wp2;go_ret;exact⟨congrArg (fun b=>J (V b)) hr2.out,B.out.trans (hb.mono B.out.size)⟩
theorem mI (g:Nat) (cb:Array aF) (eg:∀ args w,(callFunc g args).run L w=.ok (.enter g args) w) (n k:Nat) (p:Nat->Bool) (w:au) (hn:n<=1000000)
  (hf:∀ i,i<n->∀ W,Below w.heap.size w W->ay L g (#[O Q i]++cb) W fun e w'=>e=J (V (p i))/\Below W.heap.size W w')
  (hk:k<=n) (hlo:∀ i,i<k->p i=false) (hhi:∀ i,k<=i->i<n->p i=true) :
  ay L 41 #[O Q n,.func (.func g) #[] cb] w fun e w'=>e=J (O Q k)/\Below w.heap.size w w':=by
 have HF:=K hf;have LO:=K hlo;have HI:=K hhi;clear hf hlo hhi;go_enter Try.func41,Try.ntmps41;go_wp2
 go_loopg [5,6] n (fun kx s5 s6 wr=>∃ lo hi:Nat,s5=O Q lo/\s6=O Q hi/\lo<=k/\k<=hi/\hi<=n/\hi-lo<=kx/\Below w.heap.size w wr)
 case atStart=>exact⟨0,n,rfl,rfl,Nat.zero_le _,hk,Nat.le_refl _,by omega,Below.refl _ _⟩
 case round =>
  obtain⟨lo,hi,rfl,rfl,hlk,hkh,hin,hg,hb⟩:=hrel;have B:=K hb;clear hb;by_cases hlt:lo<hi
  ·have hc:=HF.out ((lo+hi) / 2) (by omega) wr B.out;rw [show (((lo+hi) / 2:Nat):Int)=((lo:Int)+(hi:Int)) / 2 by omega] at hc;cases hp:p ((lo+hi) / 2) <;> rw [hp] at hc
   ·have HP:=K hp;have HK:=K (show (lo+hi) / 2+1<=k from by
     rcases Nat.lt_or_ge ((lo+hi) / 2) k with h|h
     ·exact h
     ·have:=HI.out _ h (by omega); rw [hp] at this; cases this)
    clear hp;go_wp2_with (go_at_fn g; refine hc.mono ?_; rintro e w' ⟨rfl,hb2⟩)
    go_roundg (hi-((lo+hi) / 2+1))
    case measure=>omega
    case rel=>exact⟨(lo+hi) / 2+1,hi,by rw [show ((lo:Int)+(hi:Int)) / 2+1=(((lo+hi) / 2+1:Nat):Int) by omega],rfl,HK.out,hkh,hin,Nat.le_refl _,B.out.trans (hb2.mono B.out.size)⟩
   ·have HP:=K hp;have HK:=K (show k<=(lo+hi) / 2 from by
     rcases Nat.lt_or_ge ((lo+hi) / 2) k with h|h
     ·have:=LO.out _ h; rw [hp] at this; cases this
     ·exact h)
    clear hp;go_wp2_with (go_at_fn g; refine hc.mono ?_; rintro e w' ⟨rfl,hb2⟩)
    go_roundg ((lo+hi) / 2-lo)
    case measure=>omega
    case rel=>exact⟨lo,(lo+hi) / 2,rfl,by rw [show ((lo:Int)+(hi:Int)) / 2=(((lo+hi) / 2:Nat):Int) by omega],hlk,HK.out,by omega,Nat.le_refl _,B.out.trans (hb2.mono B.out.size)⟩
  ·obtain rfl:hi=lo:=by omega
   obtain rfl:hi=k:=by omega
   go_wp2;go_ret;exact⟨rfl,B.out⟩
theorem mJ {W W1:au} {v:aF} {l:List gq} {ao:Option Addr} {n c k:Nat} {x:gq} (h:iY W v l) (hv:v=aj ao n c) (hn:l.length=n) (hk:l[k]?=some x) (hb:Below W.heap.size W W1) :
  ∃ p:Addr,(∀ w,(Instr.indexAt 27 (aj ao n c) (O Q k)).run L w=.ok (ah (some p)) w) /\
   (∀ d os,(grow (U W1 d) os).cell? p=some (O Q x.1))/\(∀ d os,(grow (U W1 d) os).cell? ⟨p.block,p.off+1,none⟩=some (O Q x.2.1)) /\
   (∀ d os,(grow (U W1 d) os).cell? ⟨p.block,p.off+2,none⟩=some (O Q x.2.2.1))/\(∀ d os,(grow (U W1 d) os).cell? ⟨p.block,p.off+3,none⟩=some (O Q x.2.2.2.1)) /\
   (∀ d os,(grow (U W1 d) os).cell? ⟨p.block,p.off+4,none⟩=some (dz x.2.2.2.2.1))/\(∀ d os,(grow (U W1 d) os).cell? ⟨p.block,p.off+5,none⟩=some (O Q x.2.2.2.2.2.1)) /\
   (∀ d os,(grow (U W1 d) os).cell? ⟨p.block,p.off+6,none⟩=some (V x.2.2.2.2.2.2)):=by
 obtain⟨p,h1,h2⟩:=F4 h hv hn hk;obtain⟨c0,c1,c2,c3,c4,c5,c6⟩:=h2 _ hb;exact⟨p,h1,D c0,D c1,D c2,D c3,D c4,D c5,D c6⟩
theorem zX (args:Array aF) (w:au):(callFunc 42 args).run L w=.ok (.enter 42 args) w:=dV aC rfl rfl args w
theorem zY (args:Array aF) (w:au):(callFunc 70 args).run L w=.ok (.enter 70 args) w:=dV aD rfl rfl args w
theorem zZ (i:Nat) (b1 b2 b3:Nat) (ao:Option Addr) (n ac:Nat) (l:List gq) (t s:dI) (y:gq) (r:Bool) (w:au) (hv:iY w (aj ao n ac) l) (hn:l.length=n) (hy:l[i]?=some y) (hr:(!fI (pW y) (t,s))=r)
  (h1:dh w b1 #[aj ao n ac] 27) (h2:dh w b2 #[O Q t.1,O Q t.2] 23) (h3:dh w b3 #[O Q s.1,O Q s.2] 23) :
  ay L 42 #[O Q i,ah (some ⟨b1,0,none⟩),ah (some ⟨b2,0,none⟩),ah (some ⟨b3,0,none⟩)] w fun e w'=>e=J (V r)/\Below w.heap.size w w':=by
 obtain⟨p,ix,p0,p1,p2,p3,p4,p5,p6⟩:=mJ hv rfl hn hy (Below.refl _ _);have a0:=D (h1.cell 0);have b0:=D (h2.cell 0);have b1':=D (h2.cell 1);have c0:=D (h3.cell 0);have c1:=D (h3.cell 1);obtain⟨q,hq⟩:∃ q,fI (pW y) (t,s)=q:=⟨_,rfl⟩;have C:∀ k os,ay L 43 #[mX y,lq t,lq s] (grow (U w k) os) fun e w''=>e=J (V q)/\∃ p:Regrown,w''=grow (U w p.d) p.os:=fun k os=>Calls.regrown_of (vI y t s q hq _);rw [hq] at hr;have R:=K hr;have BN:=K (fun dq osq=>ak w dq osq);obtain⟨y1,y2,y3,y4,⟨yo,yn,yc⟩,y6,y7⟩:=y;obtain⟨c,d⟩:=t;obtain⟨g,h⟩:=s;simp only at p0 p1 p2 p3 p4 p5 p6 b0 b1' c0 c1 C;clear hv hn hy hr hq h1 h2 h3;go_enter aC,Try.ntmps42;go_wp2;refine wp_region_quiet_below (by kernel_rfl) (by kernel_rfl) ?_
 repeat (go_big_quiet_step (first | (with_reducible exact C _ _) | exact Cj _ _))
 refine wpQuiet_nil ?_;intro _ hw';obtain⟨⟨dq,osq⟩,hw''⟩:=hw';subst hw'';go_wp2;go_ret;exact⟨congrArg (fun b=>J (V b)) R.out,BN.out _ _⟩
theorem z8 (i:Nat) (b1 b2:Nat) (ao:Option Addr) (n ac:Nat) (l:List gq) (t:dI) (y:gq) (r:Bool) (w:au) (hv:iY w (aj ao n ac) l) (hn:l.length=n) (hy:l[i]?=some y) (hr:(!dD (y.1,y.2.1) t)=r)
  (h1:dh w b1 #[aj ao n ac] 27) (h2:dh w b2 #[O Q t.1,O Q t.2] 23) :
  ay L 70 #[O Q i,ah (some ⟨b1,0,none⟩),ah (some ⟨b2,0,none⟩)] w fun e w'=>e=J (V r)/\Below w.heap.size w w':=by
 obtain⟨p,ix,p0,p1,p2,p3,p4,p5,p6⟩:=mJ hv rfl hn hy (Below.refl _ _);have a0:=D (h1.cell 0);have b0:=D (h2.cell 0);have b1':=D (h2.cell 1);have C:∀ k os,ay L 68 #[lq (y.1,y.2.1),lq t] (grow (U w k) os) fun e w''=>e=J (V (dD (y.1,y.2.1) t))/\∃ p:Regrown,w''=grow (U w p.d) p.os:=fun k os=>Calls.regrown_of (kI (y.1,y.2.1) t _);generalize dD (y.1,y.2.1) t=q at *;have R:=K hr;have BN:=K (fun dq osq=>ak w dq osq);obtain⟨y1,y2,y3,y4,⟨yo,yn,yc⟩,y6,y7⟩:=y;obtain⟨c,d⟩:=t;simp only at p0 p1 p2 p3 p4 p5 p6 b0 b1' C;clear hv hn hy hr h1 h2 p2 p3 p4 p5 p6;go_enter aD,Try.ntmps70;go_wp2;refine wp_region_quiet_below (by kernel_rfl) (by kernel_rfl) ?_
 repeat (go_big_quiet_step (first | (with_reducible exact C _ _) | exact Dm _ _))
 refine wpQuiet_nil ?_;intro _ hw';obtain⟨⟨dq,osq⟩,hw''⟩:=hw';subst hw'';go_wp2;go_ret;exact⟨congrArg (fun b=>J (V b)) R.out,BN.out _ _⟩
end Go.Proofs.Ytkcfgbddlpomgaa.Sb
