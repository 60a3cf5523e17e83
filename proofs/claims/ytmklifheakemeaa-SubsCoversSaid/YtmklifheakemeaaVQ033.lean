/-
  ahead, place and bra. Conditions as told.
-/
import Derived.Test.YtmklifheakemeaaVQ032
import Derived.Shelf.Abstract
set_option maxRecDepth 100000
set_option maxHeartbeats 64000000
open Go.Ending renaming returned->D
open Go.IntKind renaming i64->O
open Go.Lib renaming hid->J
open Go.Proofs.Try renaming prog->K,ntmps59->ak,func59->au,func58->ay,func63->aA
open Go.Value renaming int->L,bool->Q,pointer->U,slice->ah
open _root_.Option renaming some->V,none->aj
namespace Go.Proofs.Ytmklifheakemeaa.Sb
open Go.RowKit Go.Sort Rw Ytmklifheakemeaa.Nm Pr Bk Av
theorem Dx (x:gM) (t s:eu) (r:Bool) (hr:gL (xR x) (t,s)=r) (w:World):Calls K 59 #[kX x,pG t,pG s] w fun e w'=>e=D (Q r)/\Below w.heap.size w w':=by
 obtain⟨y1,y2,y3,y4,⟨yo,yn,yc⟩,y6,y7⟩:=x;obtain⟨c,d⟩:=t;obtain⟨g,h⟩:=s;obtain⟨h0,X,Y,Z⟩:=nT w #[L O y1,L O y2,L O y3,L O y4,ah yo yn yc,L O y6,Q y7] #[L O c,L O d] #[L O g,L O h] 43 25 25;have x1:=X.cell 1;have x0:=X.cell 0;have x2:=X.cell 2;have x3:=X.cell 3;obtain⟨c0,c1⟩:=Y.cs2;obtain⟨d0,d1⟩:=Z.cs2;simp only [List.getElem?_toArray,List.getElem?_cons_zero,List.getElem?_cons_succ] at x0 x1 x2 x3;have C1:=qG (y1,y2) (c,d);have C2:=qG (y3,y4) (g,h);have B:=J h0;have he:gL ((y1,y2),(y3,y4)) ((c,d),(g,h))=if ((y1,y2):eu)=(c,d) then dW (y3,y4) (g,h) else dW (y1,y2) (c,d):=by
  unfold gL;by_cases q:((y1,y2):eu)=(c,d)
  ·rw [if_pos q,q,lG,(rD _ _).2 rfl]; rfl
  ·rw [if_neg q,Bool.eq_false_iff.2 fun q2=>q ((rD _ _).1 q2)]; simp
 clear h0 X Y Z;by_cases q:((y1,y2):eu)=(c,d)
 ·have hr2:=J (show dW (y3,y4) (g,h)=r by rw [<- hr]; show _=gL ((y1,y2),(y3,y4)) ((c,d),(g,h)); rw [he,if_pos q]);obtain⟨rfl,rfl⟩:y1=c/\y2=d:=by simpa using q
  have hne:=MF y1 y2 y1 y2 false (by simp);clear he hr q;go_enter au,ak;go_wp2_with fail;refine (C2 _).mono ?_;rintro e w1 ⟨rfl,hb⟩;go_wp2;go_ret;exact⟨congrArg (fun b=>D (Q b)) hr2.out,B.out.trans (hb.mono B.out.size)⟩
 ·have hr2:=J (show dW (y1,y2) (c,d)=r by rw [<- hr]; show _=gL ((y1,y2),(y3,y4)) ((c,d),(g,h)); rw [he,if_neg q]);have hne:=MF y1 y2 c d true (by rw [show (y1 == c && y2 == d)=false from Bool.eq_false_iff.2 fun h=>q (by simp at h; rw [h.1,h.2])]; rfl);clear he hr q;go_enter au,ak;go_wp2_with fail;refine (C1 _).mono ?_;rintro e w1 ⟨rfl,hb⟩;go_wp2;go_ret;exact⟨congrArg (fun b=>D (Q b)) hr2.out,B.out.trans (hb.mono B.out.size)⟩
theorem sU (g:Nat) (cb:Array Value) (eg:∀ args w,(callFunc g args).run K w=.ok (.enter g args) w) (n k:Nat) (p:Nat->Bool) (w:World) (hn:n<=1000000)
  (hf:∀ i,i<n->∀ W,Below w.heap.size w W->Calls K g (#[L O i]++cb) W fun e w'=>e=D (Q (p i))/\Below W.heap.size W w')
  (hk:k<=n) (hlo:∀ i,i<k->p i=false) (hhi:∀ i,k<=i->i<n->p i=true) :
  Calls K 57 #[L O n,.func (.func g) #[] cb] w fun e w'=>e=D (L O k)/\Below w.heap.size w w':=by
 have HF:=J hf;have LO:=J hlo;have HI:=J hhi;clear hf hlo hhi;go_enter Try.func57,Try.ntmps57;go_wp2
 go_loopg [5,6] n (fun kx s5 s6 wr=>∃ lo hi:Nat,s5=L O lo/\s6=L O hi/\lo<=k/\k<=hi/\hi<=n/\hi-lo<=kx/\Below w.heap.size w wr)
 case atStart=>exact⟨0,n,rfl,rfl,Nat.zero_le _,hk,Nat.le_refl _,by omega,Below.refl _ _⟩
 case round =>
  obtain⟨lo,hi,rfl,rfl,hlk,hkh,hin,hg,hb⟩:=hrel;have B:=J hb;clear hb;by_cases hlt:lo<hi
  ·have hc:=HF.out ((lo+hi) / 2) (by omega) wr B.out;rw [show (((lo+hi) / 2:Nat):Int)=((lo:Int)+(hi:Int)) / 2 by omega] at hc;cases hp:p ((lo+hi) / 2) <;> rw [hp] at hc
   ·have HP:=J hp;have HK:=J (show (lo+hi) / 2+1<=k from by
     rcases Nat.lt_or_ge ((lo+hi) / 2) k with h|h
     ·exact h
     ·have:=HI.out _ h (by omega); rw [hp] at this; cases this)
    clear hp;go_wp2_with (go_at_fn g; refine hc.mono ?_; rintro e w' ⟨rfl,hb2⟩)
    go_roundg (hi-((lo+hi) / 2+1))
    case measure=>omega
    case rel=>exact⟨(lo+hi) / 2+1,hi,by rw [show ((lo:Int)+(hi:Int)) / 2+1=(((lo+hi) / 2+1:Nat):Int) by omega],rfl,HK.out,hkh,hin,Nat.le_refl _,B.out.trans (hb2.mono B.out.size)⟩
   ·have HP:=J hp;have HK:=J (show k<=(lo+hi) / 2 from by
     rcases Nat.lt_or_ge ((lo+hi) / 2) k with h|h
     ·have:=LO.out _ h; rw [hp] at this; cases this
     ·exact h)
    clear hp;go_wp2_with (go_at_fn g; refine hc.mono ?_; rintro e w' ⟨rfl,hb2⟩)
    go_roundg ((lo+hi) / 2-lo)
    case measure=>omega
    case rel=>exact⟨lo,(lo+hi) / 2,rfl,by rw [show ((lo:Int)+(hi:Int)) / 2=(((lo+hi) / 2:Nat):Int) by omega],hlk,HK.out,by omega,Nat.le_refl _,B.out.trans (hb2.mono B.out.size)⟩
  ·obtain rfl:hi=lo:=by omega
   obtain rfl:hi=k:=by omega
   go_wp2;go_ret;exact⟨rfl,B.out⟩
theorem sV {W W1:World} {v:Value} {l:List gM} {ao:Option Addr} {n c k:Nat} {x:gM} (h:jR W v l) (hv:v=ah ao n c) (hn:l.length=n) (hk:l[k]?=V x) (hb:Below W.heap.size W W1) :
  ∃ p:Addr,(∀ w,(Instr.indexAt 28 (ah ao n c) (L O k)).run K w=.ok (U (V p)) w) /\
   (∀ d os,(grow (redrawn W1 d) os).cell? p=V (L O x.1))/\(∀ d os,(grow (redrawn W1 d) os).cell? ⟨p.block,p.off+1,aj⟩=V (L O x.2.1)) /\
   (∀ d os,(grow (redrawn W1 d) os).cell? ⟨p.block,p.off+2,aj⟩=V (L O x.2.2.1))/\(∀ d os,(grow (redrawn W1 d) os).cell? ⟨p.block,p.off+3,aj⟩=V (L O x.2.2.2.1)) /\
   (∀ d os,(grow (redrawn W1 d) os).cell? ⟨p.block,p.off+4,aj⟩=V (dR x.2.2.2.2.1))/\(∀ d os,(grow (redrawn W1 d) os).cell? ⟨p.block,p.off+5,aj⟩=V (L O x.2.2.2.2.2.1)) /\
   (∀ d os,(grow (redrawn W1 d) os).cell? ⟨p.block,p.off+6,aj⟩=V (Q x.2.2.2.2.2.2)):=by
 obtain⟨p,h1,h2⟩:=Iw h hv hn hk;obtain⟨c0,c1,c2,c3,c4,c5,c6⟩:=h2 _ hb;exact⟨p,h1,cell_regrown c0,cell_regrown c1,cell_regrown c2,cell_regrown c3,cell_regrown c4,cell_regrown c5,cell_regrown c6⟩
theorem Je (args:Array Value) (w:World):(callFunc 58 args).run K w=.ok (.enter 58 args) w:=eT ay rfl rfl args w
theorem Jf (args:Array Value) (w:World):(callFunc 63 args).run K w=.ok (.enter 63 args) w:=eT aA rfl rfl args w
theorem Jg (i:Nat) (b1 b2 b3:Nat) (ao:Option Addr) (n ac:Nat) (l:List gM) (t s:eu) (y:gM) (r:Bool) (w:World) (hv:jR w (ah ao n ac) l) (hn:l.length=n) (hy:l[i]?=V y) (hr:(!gL (xR y) (t,s))=r)
  (h1:dH w b1 #[ah ao n ac] 28) (h2:dH w b2 #[L O t.1,L O t.2] 25) (h3:dH w b3 #[L O s.1,L O s.2] 25) :
  Calls K 58 #[L O i,U (V ⟨b1,0,aj⟩),U (V ⟨b2,0,aj⟩),U (V ⟨b3,0,aj⟩)] w fun e w'=>e=D (Q r)/\Below w.heap.size w w':=by
 obtain⟨p,ix,p0,p1,p2,p3,p4,p5,p6⟩:=sV hv rfl hn hy (Below.refl _ _);have a0:=cell_regrown (h1.cell 0);have b0:=cell_regrown (h2.cell 0);have b1':=cell_regrown (h2.cell 1);have c0:=cell_regrown (h3.cell 0);have c1:=cell_regrown (h3.cell 1);obtain⟨q,hq⟩:∃ q,gL (xR y) (t,s)=q:=⟨_,rfl⟩;have C:∀ k os,Calls K 59 #[kX y,pG t,pG s] (grow (redrawn w k) os) fun e w''=>e=D (Q q)/\∃ p:Regrown,w''=grow (redrawn w p.d) p.os:=fun k os=>Calls.regrown_of (Dx y t s q hq _);rw [hq] at hr;have R:=J hr;have BN:=J (fun dq osq=>below_regrown w dq osq);obtain⟨y1,y2,y3,y4,⟨yo,yn,yc⟩,y6,y7⟩:=y;obtain⟨c,d⟩:=t;obtain⟨g,h⟩:=s;simp only at p0 p1 p2 p3 p4 p5 p6 b0 b1' c0 c1 C;clear hv hn hy hr hq h1 h2 h3;go_enter ay,Try.ntmps58;go_wp2;refine wp_region_quiet_below (by kernel_rfl) (by kernel_rfl) ?_
 repeat (go_big_quiet_step (first | (with_reducible exact C _ _) | exact Ku _ _))
 refine wpQuiet_nil ?_;intro _ hw';obtain⟨⟨dq,osq⟩,hw''⟩:=hw';subst hw'';go_wp2;go_ret;exact⟨congrArg (fun b=>D (Q b)) R.out,BN.out _ _⟩
theorem Jh (i:Nat) (b1 b2:Nat) (ao:Option Addr) (n ac:Nat) (l:List gM) (t:eu) (y:gM) (r:Bool) (w:World) (hv:jR w (ah ao n ac) l) (hn:l.length=n) (hy:l[i]?=V y) (hr:(!dW (y.1,y.2.1) t)=r)
  (h1:dH w b1 #[ah ao n ac] 28) (h2:dH w b2 #[L O t.1,L O t.2] 25) :
  Calls K 63 #[L O i,U (V ⟨b1,0,aj⟩),U (V ⟨b2,0,aj⟩)] w fun e w'=>e=D (Q r)/\Below w.heap.size w w':=by
 obtain⟨p,ix,p0,p1,p2,p3,p4,p5,p6⟩:=sV hv rfl hn hy (Below.refl _ _);have a0:=cell_regrown (h1.cell 0);have b0:=cell_regrown (h2.cell 0);have b1':=cell_regrown (h2.cell 1);have C:∀ k os,Calls K 64 #[pG (y.1,y.2.1),pG t] (grow (redrawn w k) os) fun e w''=>e=D (Q (dW (y.1,y.2.1) t))/\∃ p:Regrown,w''=grow (redrawn w p.d) p.os:=fun k os=>Calls.regrown_of (qG (y.1,y.2.1) t _);generalize dW (y.1,y.2.1) t=q at *;have R:=J hr;have BN:=J (fun dq osq=>below_regrown w dq osq);obtain⟨y1,y2,y3,y4,⟨yo,yn,yc⟩,y6,y7⟩:=y;obtain⟨c,d⟩:=t;simp only at p0 p1 p2 p3 p4 p5 p6 b0 b1' C;clear hv hn hy hr h1 h2 p2 p3 p4 p5 p6;go_enter aA,Try.ntmps63;go_wp2;refine wp_region_quiet_below (by kernel_rfl) (by kernel_rfl) ?_
 repeat (go_big_quiet_step (first | (with_reducible exact C _ _) | exact LY _ _))
 refine wpQuiet_nil ?_;intro _ hw';obtain⟨⟨dq,osq⟩,hw''⟩:=hw';subst hw'';go_wp2;go_ret;exact⟨congrArg (fun b=>D (Q b)) R.out,BN.out _ _⟩
end Go.Proofs.Ytmklifheakemeaa.Sb
