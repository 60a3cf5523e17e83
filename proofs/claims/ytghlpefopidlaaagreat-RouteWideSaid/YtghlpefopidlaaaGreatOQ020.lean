/-
  slices.BinarySearchF. Conditions as told.
-/
import Derived.Test.YtghlpefopidlaaaGreatOQ018
set_option maxRecDepth 100000
set_option maxHeartbeats 64000000
open Go.IntKind renaming i64->L
open Go.Lib renaming hid->D
open Go.Proofs.Tryz renaming prog->ah
open Go.Value renaming int->K,slice->ak
open _root_.List renaming getElem?_eq_getElem->J,getElem?_eq_some_iff->Z,getElem?_eq_none->aj
open _root_.Nat renaming le_refl->O,lt_or_ge->Q,zero_le->ay
open _root_.Option renaming some->V,none->au
open Option.some renaming inj->U
namespace Go.Proofs.YtghlpefopidlaaaGreat.Av
open Go.RowKit Go.Sort Rw YtghlpefopidlaaaGreat.Nm Pr Bk
abbrev pz (x:dO):dO:=x
theorem Kc {W W1:World} {v:Value} {l:List dO} {ao:Option Addr} {n c k:Nat} {x:dO} (h:yZ W v l) (hv:v=ak ao n c) (hn:l.length=n) (hk:l[k]?=V x) (hb:Below W.heap.size W W1) :
  ∃ p:Addr,(∀ w,(Instr.indexAt 26 (ak ao n c) (K L k)).run ah w=.ok (.pointer (V p)) w) /\
   (∀ d os,(grow (redrawn W1 d) os).cell? p=V (K L x.1))/\(∀ d os,(grow (redrawn W1 d) os).cell? ⟨p.block,p.off+1,au⟩=V (K L x.2)):=by
 obtain⟨p,h1,h2⟩:=Zl h hv hn hk;obtain⟨c0,c1⟩:=h2 _ hb;exact⟨p,h1,cell_regrown c0,cell_regrown c1⟩
theorem Fg {W:World} {b:Nat} {c:dO} (h:dx W b #[K L c.1,K L c.2] 23):(∀ d os,(grow (redrawn W d) os).cell? ⟨b,0,au⟩=V (K L c.1))/\(∀ d os,(grow (redrawn W d) os).cell? ⟨b,1,au⟩=V (K L c.2)) :=
 ⟨cell_regrown (h.cell 0),cell_regrown (h.cell 1)⟩
theorem Fh (c d:dO) (r:Int) (hr:jA c d=r) (w:World) (k:Nat) (os:Array Obj) :
  Calls ah 38 #[pK c,pK d] (grow (redrawn w k) os) fun e w''=>e=.returned (K L r)/\∃ p:Regrown,w''=grow (redrawn w p.d) p.os:=by
 subst hr;exact Calls.regrown_of (uD c d _)
theorem NG (v:Value) (l:List dO) (c:dO) (w:World) (hv:yZ w v l) (hr:iE pz l) (hl:l.length<=900) :
  Calls ah 105 #[v,pK c,.func (.func 38) #[] #[]] w fun e w'=>e=.returned (.tuple #[K L (dX pz l c),.bool (fF pz l c)])/\Below w.heap.size w w':=by
 have HL:=D hv;have HR:=D hr;have BX:=D (dK w #[K L c.1,K L c.2] 23);have B1:=D ((Below.refl w.heap.size w).alloc (O _) (.cells #[K L c.1,K L c.2] 23));obtain⟨ao,ac,rfl⟩:=hv.len;obtain⟨n,hn⟩:∃ n,n=l.length:=⟨_,rfl⟩;rw [<- hn] at HL hl ⊢;have HN:=D hn;obtain⟨cnt,hc⟩:∃ k,k=dX pz l c:=⟨_,rfl⟩;obtain⟨th,ht⟩:∃ k,k=fF pz l c:=⟨_,rfl⟩;rw [<- hc,<- ht];have HC:=D hc;have HT:=D ht;clear hv hr hn hc ht;obtain⟨c1,c2⟩:=c;go_enter Tryz.func105,Tryz.ntmps105;go_wp2;generalize w.alloc (.cells #[K L c1,K L c2] 23)=w1 at *
 go_loopg [9,10] n (fun kx s9 s10 wr=>∃ lo hi:Nat,s9=K L lo/\s10=K L hi/\lo<=hi/\hi<=n/\hi-lo<=kx/\Below w.heap.size w wr/\dx wr w.heap.size #[K L c1,K L c2] 23 /\
  (∀ (t:Nat) (y:dO),t<lo->l[t]?=V y->dJ y (c1,c2)=true)/\(∀ (t:Nat) (y:dO),hi<=t->l[t]?=V y->dJ y (c1,c2)=false))
 case atStart=>exact⟨0,n,rfl,rfl,ay _,O _,by omega,B1.out,BX.out,fun t y h=>by omega,fun t y h1 h2=>by have:=(Z.1 h2).1; have:=HN.out; omega⟩
 case round =>
  clear B1 BX;obtain⟨lo,hi,rfl,rfl,hlh,hin,hg,hb,hx,ha,hz⟩:=hrel;have B:=D hb;have X:=D hx;have AL:=D ha;have ZL:=D hz;clear hb hx ha hz;by_cases hlt:lo<hi
  ·obtain⟨y,hy⟩:∃ y,l[(lo+hi) / 2]?=V y:=⟨_,J (by have:=HN.out; omega)⟩;obtain⟨p,ix,p0,p1⟩:=Kc HL.out rfl HN.out.symm hy B.out;obtain⟨b0,b1⟩:=Fg (c:=(c1,c2)) X.out;obtain⟨r,hr⟩:∃ r,jA y (c1,c2)=r:=⟨_,rfl⟩;have C:=Fh y (c1,c2) r hr wr;have LE:=D (show decide (r<0)=dJ y (c1,c2) by rw [<- hr]; exact xJ _ _);have Y:=D hy;clear hy hr;have e23:((lo:Int)+(hi:Int)) / 2=(((lo+hi) / 2:Nat):Int):=by omega
   generalize hm:(lo+hi) / 2=m at *;have BN:=D (fun dq osq=>B.out.trans ((below_regrown wr dq osq).mono B.out.size));have XN:=D (fun dq osq=>X.out.on (below_regrown wr dq osq));obtain⟨y1,y2⟩:=y;simp only at p0 p1 b0 b1 C;by_cases hneg:r<0
   ·have d0:decide (r<0)=true:=by simpa using hneg
    have LT:=D (show dJ (y1,y2) (c1,c2)=true by rw [<- LE.out]; exact d0);go_wp2;refine wp_region_quiet_below (by kernel_rfl) (by kernel_rfl) ?_
    repeat (go_big_quiet_step (first | (with_reducible exact C _ _) | exact xK _ _))
    refine wpQuiet_nil ?_;intro _ hw';obtain⟨⟨dq,osq⟩,hw''⟩:=hw';subst hw'';clear ix p0 p1 b0 b1 C;go_wp2
    go_roundg (hi-(m+1))
    case measure=>omega
    case rel=>exact⟨m+1,hi,by go_num,rfl,by omega,hin,O _,BN.out _ _,XN.out _ _,fun t z h1 h2=>by
     rcases Q t m with h3|h3
     ·exact fT (iN HR.out (by omega) h2 Y.out) LT.out
     ·obtain rfl:t=m:=by omega
      rw [Y.out] at h2;rw [<- U h2];exact LT.out,ZL.out⟩
   ·have d0:decide (r<0)=false:=by simpa using hneg
    have LT:=D (show dJ (y1,y2) (c1,c2)=false by rw [<- LE.out]; exact d0);go_wp2;refine wp_region_quiet_below (by kernel_rfl) (by kernel_rfl) ?_
    repeat (go_big_quiet_step (first | (with_reducible exact C _ _) | exact xK _ _))
    refine wpQuiet_nil ?_;intro _ hw';obtain⟨⟨dq,osq⟩,hw''⟩:=hw';subst hw'';clear ix p0 p1 b0 b1 C;go_wp2
    go_roundg (m-lo)
    case measure=>omega
    case rel=>exact⟨lo,m,rfl,rfl,by omega,by omega,O _,BN.out _ _,XN.out _ _,AL.out,fun t z h1 h2=>by
     cases h:dJ z (c1,c2)
     ·rfl
     ·rcases Q m t with h3|h3
      ·have:=fT (iN HR.out h3 Y.out h2) h;rw [LT.out] at this;cases this
      ·obtain rfl:t=m:=by omega
       rw [Y.out] at h2;rw [<- U h2,LT.out] at h;cases h⟩
  ·obtain rfl:hi=lo:=by omega
   have E:=D (xI pz l (c1,c2) hi AL.out (by
    rcases Q hi n with h|h
    ·exact Or.inr ⟨_,J (by have:=HN.out; omega),ZL.out hi _ (O _) (J (by have:=HN.out; omega))⟩
    ·exact Or.inl (by have:=HN.out; omega)))
   by_cases hn:hi<n
   ·obtain⟨y,hy⟩:∃ y,l[hi]?=V y:=⟨_,J (by have:=HN.out; omega)⟩;obtain⟨p,ix,p0,p1⟩:=Kc HL.out rfl HN.out.symm hy B.out;obtain⟨b0,b1⟩:=Fg (c:=(c1,c2)) X.out;obtain⟨r,hr⟩:∃ r,jA y (c1,c2)=r:=⟨_,rfl⟩;have C:=Fh y (c1,c2) r hr wr;have TH:=D (show th=(r == 0) by
     rw [HT.out,fF,E.out,hy,Bool.eq_iff_iff,beq_iff_eq,<- hr,oN,decide_eq_true_eq])
    have BN:=D (fun dq osq=>B.out.trans ((below_regrown wr dq osq).mono B.out.size));have CE:=D (show cnt=hi by rw [HC.out,E.out]);clear hy hr hlt;have g4:decide ((hi:Int)<(n:Int))=true:=by simp; omega
    obtain⟨y1,y2⟩:=y;simp only at p0 p1 b0 b1 C;go_wp2;refine wp_region_quiet_below (by kernel_rfl) (by kernel_rfl) ?_
    repeat (go_big_quiet_step (first | (with_reducible exact C _ _) | exact xK _ _))
    refine wpQuiet_nil ?_;intro _ hw';obtain⟨⟨dq,osq⟩,hw''⟩:=hw';subst hw'';clear ix p0 p1 b0 b1 C;go_wp2
    go_ret2
    exact⟨by rw [TH.out,CE.out]; rfl,BN.out _ _⟩
   ·have TH:=D (show th=false by
     rw [HT.out,fF,E.out,aj (by have:=HN.out; omega)])
    have CE:=D (show cnt=hi by rw [HC.out,E.out]);have BN:=D (fun dq osq=>B.out.trans ((below_regrown wr dq osq).mono B.out.size));have g4:decide ((hi:Int)<(n:Int))=false:=by simp; omega
    clear hlt;go_wp2;refine wp_region_quiet_below (by kernel_rfl) (by kernel_rfl) ?_
    repeat (go_big_quiet_step (fail))
    refine wpQuiet_nil ?_;intro _ hw';obtain⟨⟨dq,osq⟩,hw''⟩:=hw';subst hw'';go_wp2
    go_ret2
    exact⟨by rw [TH.out,CE.out]; rfl,BN.out _ _⟩
abbrev nE (x:jD):dO:=(x.1,x.2.1)
theorem Ke {W W1:World} {v:Value} {l:List jD} {ao:Option Addr} {n c k:Nat} {x:jD} (h:CZ W v l) (hv:v=ak ao n c) (hn:l.length=n) (hk:l[k]?=V x) (hb:Below W.heap.size W W1) :
  ∃ p:Addr,(∀ w,(Instr.indexAt 25 (ak ao n c) (K L k)).run ah w=.ok (.pointer (V p)) w) /\
   (∀ d os,(grow (redrawn W1 d) os).cell? p=V (K L x.1))/\(∀ d os,(grow (redrawn W1 d) os).cell? ⟨p.block,p.off+1,au⟩=V (K L x.2.1))/\(∀ d os,(grow (redrawn W1 d) os).cell? ⟨p.block,p.off+2,au⟩=V (dN x.2.2.1))/\(∀ d os,(grow (redrawn W1 d) os).cell? ⟨p.block,p.off+3,au⟩=V (K L x.2.2.2)):=by
 obtain⟨p,h1,h2⟩:=Ul h hv hn hk;obtain⟨c0,c1,c2,c3⟩:=h2 _ hb;exact⟨p,h1,cell_regrown c0,cell_regrown c1,cell_regrown c2,cell_regrown c3⟩
theorem Fj {W:World} {b:Nat} {c:jD} (h:dx W b #[K L c.1,K L c.2.1,dN c.2.2.1,K L c.2.2.2] 36):(∀ d os,(grow (redrawn W d) os).cell? ⟨b,0,au⟩=V (K L c.1))/\(∀ d os,(grow (redrawn W d) os).cell? ⟨b,1,au⟩=V (K L c.2.1))/\(∀ d os,(grow (redrawn W d) os).cell? ⟨b,2,au⟩=V (dN c.2.2.1))/\(∀ d os,(grow (redrawn W d) os).cell? ⟨b,3,au⟩=V (K L c.2.2.2)) :=
 ⟨cell_regrown (h.cell 0),cell_regrown (h.cell 1),cell_regrown (h.cell 2),cell_regrown (h.cell 3)⟩
theorem Fp (c d:jD) (r:Int) (hr:jA (c.1,c.2.1) (d.1,d.2.1)=r) (w:World) (k:Nat) (os:Array Obj) :
  Calls ah 36 #[kR c,kR d] (grow (redrawn w k) os) fun e w''=>e=.returned (K L r)/\∃ p:Regrown,w''=grow (redrawn w p.d) p.os:=by
 subst hr;exact Calls.regrown_of (Ht c d _)
theorem NH (v:Value) (l:List jD) (c:jD) (w:World) (hv:CZ w v l) (hr:iE nE l) (hl:l.length<=900) :
  Calls ah 103 #[v,kR c,.func (.func 36) #[] #[]] w fun e w'=>e=.returned (.tuple #[K L (dX nE l (c.1,c.2.1)),.bool (fF nE l (c.1,c.2.1))])/\Below w.heap.size w w':=by
 have HL:=D hv;have HR:=D hr;have BX:=D (dK w #[K L c.1,K L c.2.1,dN c.2.2.1,K L c.2.2.2] 36);have B1:=D ((Below.refl w.heap.size w).alloc (O _) (.cells #[K L c.1,K L c.2.1,dN c.2.2.1,K L c.2.2.2] 36));obtain⟨ao,ac,rfl⟩:=hv.len;obtain⟨n,hn⟩:∃ n,n=l.length:=⟨_,rfl⟩;rw [<- hn] at HL hl ⊢;have HN:=D hn;obtain⟨cnt,hc⟩:∃ k,k=dX nE l (c.1,c.2.1):=⟨_,rfl⟩;obtain⟨th,ht⟩:∃ k,k=fF nE l (c.1,c.2.1):=⟨_,rfl⟩;rw [<- hc,<- ht];have HC:=D hc;have HT:=D ht;clear hv hr hn hc ht;obtain⟨c1,c2,⟨c3,c4,c5⟩,c6⟩:=c;go_enter Tryz.func103,Tryz.ntmps103;go_wp2;generalize w.alloc (.cells #[K L c1,K L c2,ak c3 c4 c5,K L c6] 36)=w1 at *
 go_loopg [9,10] n (fun kx s9 s10 wr=>∃ lo hi:Nat,s9=K L lo/\s10=K L hi/\lo<=hi/\hi<=n/\hi-lo<=kx/\Below w.heap.size w wr/\dx wr w.heap.size #[K L c1,K L c2,ak c3 c4 c5,K L c6] 36 /\
  (∀ (t:Nat) (y:jD),t<lo->l[t]?=V y->dJ (y.1,y.2.1) (c1,c2)=true)/\(∀ (t:Nat) (y:jD),hi<=t->l[t]?=V y->dJ (y.1,y.2.1) (c1,c2)=false))
 case atStart=>exact⟨0,n,rfl,rfl,ay _,O _,by omega,B1.out,BX.out,fun t y h=>by omega,fun t y h1 h2=>by have:=(Z.1 h2).1; have:=HN.out; omega⟩
 case round =>
  clear B1 BX;obtain⟨lo,hi,rfl,rfl,hlh,hin,hg,hb,hx,ha,hz⟩:=hrel;have B:=D hb;have X:=D hx;have AL:=D ha;have ZL:=D hz;clear hb hx ha hz;by_cases hlt:lo<hi
  ·obtain⟨y,hy⟩:∃ y,l[(lo+hi) / 2]?=V y:=⟨_,J (by have:=HN.out; omega)⟩;obtain⟨p,ix,p0,p1,p2,p3⟩:=Ke HL.out rfl HN.out.symm hy B.out;obtain⟨b0,b1,b2,b3⟩:=Fj (c:=(c1,c2,(c3,c4,c5),c6)) X.out;obtain⟨r,hr⟩:∃ r,jA (y.1,y.2.1) (c1,c2)=r:=⟨_,rfl⟩;have C:=Fp y (c1,c2,(c3,c4,c5),c6) r hr wr;have LE:=D (show decide (r<0)=dJ (y.1,y.2.1) (c1,c2) by rw [<- hr]; exact xJ _ _);have Y:=D hy;clear hy hr;have e23:((lo:Int)+(hi:Int)) / 2=(((lo+hi) / 2:Nat):Int):=by omega
   generalize hm:(lo+hi) / 2=m at *;have BN:=D (fun dq osq=>B.out.trans ((below_regrown wr dq osq).mono B.out.size));have XN:=D (fun dq osq=>X.out.on (below_regrown wr dq osq));obtain⟨y1,y2,⟨yo,yn,yc⟩,y4⟩:=y;simp only at p0 p1 p2 p3 b0 b1 b2 b3 C;by_cases hneg:r<0
   ·have d0:decide (r<0)=true:=by simpa using hneg
    have LT:=D (show dJ (y1,y2) (c1,c2)=true by rw [<- LE.out]; exact d0);go_wp2;refine wp_region_quiet_below (by kernel_rfl) (by kernel_rfl) ?_
    repeat (go_big_quiet_step (first | (with_reducible exact C _ _) | exact xL _ _))
    refine wpQuiet_nil ?_;intro _ hw';obtain⟨⟨dq,osq⟩,hw''⟩:=hw';subst hw'';clear ix p0 p1 p2 p3 b0 b1 b2 b3 C;go_wp2
    go_roundg (hi-(m+1))
    case measure=>omega
    case rel=>exact⟨m+1,hi,by go_num,rfl,by omega,hin,O _,BN.out _ _,XN.out _ _,fun t z h1 h2=>by
     rcases Q t m with h3|h3
     ·exact fT (iN HR.out (by omega) h2 Y.out) LT.out
     ·obtain rfl:t=m:=by omega
      rw [Y.out] at h2;rw [<- U h2];exact LT.out,ZL.out⟩
   ·have d0:decide (r<0)=false:=by simpa using hneg
    have LT:=D (show dJ (y1,y2) (c1,c2)=false by rw [<- LE.out]; exact d0);go_wp2;refine wp_region_quiet_below (by kernel_rfl) (by kernel_rfl) ?_
    repeat (go_big_quiet_step (first | (with_reducible exact C _ _) | exact xL _ _))
    refine wpQuiet_nil ?_;intro _ hw';obtain⟨⟨dq,osq⟩,hw''⟩:=hw';subst hw'';clear ix p0 p1 p2 p3 b0 b1 b2 b3 C;go_wp2
    go_roundg (m-lo)
    case measure=>omega
    case rel=>exact⟨lo,m,rfl,rfl,by omega,by omega,O _,BN.out _ _,XN.out _ _,AL.out,fun t z h1 h2=>by
     cases h:dJ (z.1,z.2.1) (c1,c2)
     ·rfl
     ·rcases Q m t with h3|h3
      ·have:=fT (iN HR.out h3 Y.out h2) h;rw [LT.out] at this;cases this
      ·obtain rfl:t=m:=by omega
       rw [Y.out] at h2;rw [<- U h2,LT.out] at h;cases h⟩
  ·obtain rfl:hi=lo:=by omega
   have E:=D (xI nE l (c1,c2) hi AL.out (by
    rcases Q hi n with h|h
    ·exact Or.inr ⟨_,J (by have:=HN.out; omega),ZL.out hi _ (O _) (J (by have:=HN.out; omega))⟩
    ·exact Or.inl (by have:=HN.out; omega)))
   by_cases hn:hi<n
   ·obtain⟨y,hy⟩:∃ y,l[hi]?=V y:=⟨_,J (by have:=HN.out; omega)⟩;obtain⟨p,ix,p0,p1,p2,p3⟩:=Ke HL.out rfl HN.out.symm hy B.out;obtain⟨b0,b1,b2,b3⟩:=Fj (c:=(c1,c2,(c3,c4,c5),c6)) X.out;obtain⟨r,hr⟩:∃ r,jA (y.1,y.2.1) (c1,c2)=r:=⟨_,rfl⟩;have C:=Fp y (c1,c2,(c3,c4,c5),c6) r hr wr;have TH:=D (show th=(r == 0) by
     rw [HT.out,fF,E.out,hy,Bool.eq_iff_iff,beq_iff_eq,<- hr,oN,decide_eq_true_eq])
    have BN:=D (fun dq osq=>B.out.trans ((below_regrown wr dq osq).mono B.out.size));have CE:=D (show cnt=hi by rw [HC.out,E.out]);clear hy hr hlt;have g4:decide ((hi:Int)<(n:Int))=true:=by simp; omega
    obtain⟨y1,y2,⟨yo,yn,yc⟩,y4⟩:=y;simp only at p0 p1 p2 p3 b0 b1 b2 b3 C;go_wp2;refine wp_region_quiet_below (by kernel_rfl) (by kernel_rfl) ?_
    repeat (go_big_quiet_step (first | (with_reducible exact C _ _) | exact xL _ _))
    refine wpQuiet_nil ?_;intro _ hw';obtain⟨⟨dq,osq⟩,hw''⟩:=hw';subst hw'';clear ix p0 p1 p2 p3 b0 b1 b2 b3 C;go_wp2
    go_ret2
    exact⟨by rw [TH.out,CE.out]; rfl,BN.out _ _⟩
   ·have TH:=D (show th=false by
     rw [HT.out,fF,E.out,aj (by have:=HN.out; omega)])
    have CE:=D (show cnt=hi by rw [HC.out,E.out]);have BN:=D (fun dq osq=>B.out.trans ((below_regrown wr dq osq).mono B.out.size));have g4:decide ((hi:Int)<(n:Int))=false:=by simp; omega
    clear hlt;go_wp2;refine wp_region_quiet_below (by kernel_rfl) (by kernel_rfl) ?_
    repeat (go_big_quiet_step (fail))
    refine wpQuiet_nil ?_;intro _ hw';obtain⟨⟨dq,osq⟩,hw''⟩:=hw';subst hw'';go_wp2
    go_ret2
    exact⟨by rw [TH.out,CE.out]; rfl,BN.out _ _⟩
end Go.Proofs.YtghlpefopidlaaaGreat.Av
