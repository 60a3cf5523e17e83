/-
  slices.BinarySearchF. Conditions as told.
-/
import Derived.Test.YtmklifheakemeaaGreatCQ020
set_option maxRecDepth 100000
set_option maxHeartbeats 64000000
open _root_.Go renaming World->aI,Value->aL,Addr->aQ,Calls->aV
open Go.IntKind renaming i64->ay
open Go.Lib renaming hid->J
open Go.Operand renaming tmp->aD
open Go.Proofs.Tryz renaming prog->aK,func123->aT
open Go.Proofs.YtmklifheakemeaaGreat.Rg renaming dD->aJ,dW->aR,dR->aU,fV->aW,pE->aX,fH->aY,dL->aZ
open Go.RowKit.Below renaming refl->V
open Go.Value renaming slice->L,pointer->U,int->au
open _root_.List renaming getElem?_eq_getElem->O,getElem?_toArray->ah,getElem?_eq_some_iff->aj,getElem?_cons_zero->aA,getElem?_cons_succ->aB,take_of_length_le->aF,mem_of_getElem?->aN,getElem?_eq_none->aP
open _root_.Nat renaming le_refl->aC,lt_or_ge->aM,zero_le->aO
open _root_.Option renaming some->Z,none->ak
open Option.some renaming inj->aH
open _root_.Or renaming inr->aG,inl->aS
namespace Go.Proofs.YtmklifheakemeaaGreat.Av
open Go.RowKit Go.Sort Rw YtmklifheakemeaaGreat.Nm Pr Bk
abbrev sI (x:fD):fD:=x
theorem Vh {W W1:aI} {v:aL} {l:List fD} {ao:Option aQ} {n c k:Nat} {x:fD} (h:wB W v l) (hv:v=L ao n c) (hn:l.length=n) (hk:l[k]?=Z x) (hb:Below W.heap.size W W1) :
  ∃ p:aQ,(∀ w,(Instr.indexAt 24 (L ao n c) (au ay k)).run aK w=.ok (U (Z p)) w) /\
   (∀ d os,(grow (redrawn W1 d) os).cell? p=Z (au ay x.1))/\(∀ d os,(grow (redrawn W1 d) os).cell? ⟨p.block,p.off+1,ak⟩=Z (au ay x.2)):=by
 obtain⟨p,h1,h2⟩:=elJ h hv hn hk;obtain⟨c0,c1⟩:=h2 _ hb;exact⟨p,h1,cell_regrown c0,cell_regrown c1⟩
theorem Pf {W:aI} {b:Nat} {c:fD} (h:dJ W b #[au ay c.1,au ay c.2] 31):(∀ d os,(grow (redrawn W d) os).cell? ⟨b,0,ak⟩=Z (au ay c.1))/\(∀ d os,(grow (redrawn W d) os).cell? ⟨b,1,ak⟩=Z (au ay c.2)) :=
 ⟨cell_regrown (h.cell 0),cell_regrown (h.cell 1)⟩
theorem Pg (c d:fD) (r:Int) (hr:gK c d=r) (w:aI) (k:Nat) (os:Array Obj) :
  aV aK 56 #[mW c,mW d] (grow (redrawn w k) os) fun e w''=>e=.returned (au ay r)/\∃ p:Regrown,w''=grow (redrawn w p.d) p.os:=by
 subst hr;exact Calls.regrown_of (pQ c d _)
theorem Ph (v:aL) (l:List fD) (c:fD) (w:aI) (hv:wB w v l) (hr:lC sI l) (hl:l.length<=900) :
  aV aK 113 #[v,mW c,.func (.func 56) #[] #[]] w fun e w'=>e=.returned (.tuple #[au ay (gF sI l c),.bool (kZ sI l c)])/\Below w.heap.size w w':=by
 have HL:=J hv;have HR:=J hr;have BX:=J (dO w #[au ay c.1,au ay c.2] 31);have B1:=J ((V w.heap.size w).alloc (aC _) (.cells #[au ay c.1,au ay c.2] 31));obtain⟨ao,ac,rfl⟩:=hv.len;obtain⟨n,hn⟩:∃ n,n=l.length:=⟨_,rfl⟩;rw [<- hn] at HL hl ⊢;have HN:=J hn;obtain⟨cnt,hc⟩:∃ k,k=gF sI l c:=⟨_,rfl⟩;obtain⟨th,ht⟩:∃ k,k=kZ sI l c:=⟨_,rfl⟩;rw [<- hc,<- ht];have HC:=J hc;have HT:=J ht;clear hv hr hn hc ht;obtain⟨c1,c2⟩:=c;go_enter Tryz.func113,Tryz.ntmps113;go_wp2;generalize w.alloc (.cells #[au ay c1,au ay c2] 31)=w1 at *
 go_loopg [9,10] n (fun kx s9 s10 wr=>∃ lo hi:Nat,s9=au ay lo/\s10=au ay hi/\lo<=hi/\hi<=n/\hi-lo<=kx/\Below w.heap.size w wr/\dJ wr w.heap.size #[au ay c1,au ay c2] 31 /\
  (∀ (t:Nat) (y:fD),t<lo->l[t]?=Z y->eT y (c1,c2)=true)/\(∀ (t:Nat) (y:fD),hi<=t->l[t]?=Z y->eT y (c1,c2)=false))
 case atStart=>exact⟨0,n,rfl,rfl,aO _,aC _,by omega,B1.out,BX.out,fun t y h=>by omega,fun t y h1 h2=>by have:=(aj.1 h2).1; have:=HN.out; omega⟩
 case round =>
  clear B1 BX;obtain⟨lo,hi,rfl,rfl,hlh,hin,hg,hb,hx,ha,hz⟩:=hrel;have B:=J hb;have X:=J hx;have AL:=J ha;have ZL:=J hz;clear hb hx ha hz;by_cases hlt:lo<hi
  ·obtain⟨y,hy⟩:∃ y,l[(lo+hi) / 2]?=Z y:=⟨_,O (by have:=HN.out; omega)⟩;obtain⟨p,ix,p0,p1⟩:=Vh HL.out rfl HN.out.symm hy B.out;obtain⟨b0,b1⟩:=Pf (c:=(c1,c2)) X.out;obtain⟨r,hr⟩:∃ r,gK y (c1,c2)=r:=⟨_,rfl⟩;have C:=Pg y (c1,c2) r hr wr;have LE:=J (show decide (r<0)=eT y (c1,c2) by rw [<- hr]; exact E5 _ _);have Y:=J hy;clear hy hr;have e23:((lo:Int)+(hi:Int)) / 2=(((lo+hi) / 2:Nat):Int):=by omega
   generalize hm:(lo+hi) / 2=m at *;have BN:=J (fun dq osq=>B.out.trans ((below_regrown wr dq osq).mono B.out.size));have XN:=J (fun dq osq=>X.out.on (below_regrown wr dq osq));obtain⟨y1,y2⟩:=y;simp only at p0 p1 b0 b1 C;by_cases hneg:r<0
   ·have d0:decide (r<0)=true:=by simpa using hneg
    have LT:=J (show eT (y1,y2) (c1,c2)=true by rw [<- LE.out]; exact d0);go_wp2;refine wp_region_quiet_below (by kernel_rfl) (by kernel_rfl) ?_
    repeat (go_big_quiet_step (first | (with_reducible exact C _ _) | exact Fg _ _))
    refine wpQuiet_nil ?_;intro _ hw';obtain⟨⟨dq,osq⟩,hw''⟩:=hw';subst hw'';clear ix p0 p1 b0 b1 C;go_wp2
    go_roundg (hi-(m+1))
    case measure=>omega
    case rel=>exact⟨m+1,hi,by go_num,rfl,by omega,hin,aC _,BN.out _ _,XN.out _ _,fun t z h1 h2=>by
     rcases aM t m with h3|h3
     ·exact iU (mG HR.out (by omega) h2 Y.out) LT.out
     ·obtain rfl:t=m:=by omega
      rw [Y.out] at h2;rw [<- aH h2];exact LT.out,ZL.out⟩
   ·have d0:decide (r<0)=false:=by simpa using hneg
    have LT:=J (show eT (y1,y2) (c1,c2)=false by rw [<- LE.out]; exact d0);go_wp2;refine wp_region_quiet_below (by kernel_rfl) (by kernel_rfl) ?_
    repeat (go_big_quiet_step (first | (with_reducible exact C _ _) | exact Fg _ _))
    refine wpQuiet_nil ?_;intro _ hw';obtain⟨⟨dq,osq⟩,hw''⟩:=hw';subst hw'';clear ix p0 p1 b0 b1 C;go_wp2
    go_roundg (m-lo)
    case measure=>omega
    case rel=>exact⟨lo,m,rfl,rfl,by omega,by omega,aC _,BN.out _ _,XN.out _ _,AL.out,fun t z h1 h2=>by
     cases h:eT z (c1,c2)
     ·rfl
     ·rcases aM m t with h3|h3
      ·have:=iU (mG HR.out h3 Y.out h2) h;rw [LT.out] at this;cases this
      ·obtain rfl:t=m:=by omega
       rw [Y.out] at h2;rw [<- aH h2,LT.out] at h;cases h⟩
  ·obtain rfl:hi=lo:=by omega
   have E:=J (EZ sI l (c1,c2) hi AL.out (by
    rcases aM hi n with h|h
    ·exact aG ⟨_,O (by have:=HN.out; omega),ZL.out hi _ (aC _) (O (by have:=HN.out; omega))⟩
    ·exact aS (by have:=HN.out; omega)))
   by_cases hn:hi<n
   ·obtain⟨y,hy⟩:∃ y,l[hi]?=Z y:=⟨_,O (by have:=HN.out; omega)⟩;obtain⟨p,ix,p0,p1⟩:=Vh HL.out rfl HN.out.symm hy B.out;obtain⟨b0,b1⟩:=Pf (c:=(c1,c2)) X.out;obtain⟨r,hr⟩:∃ r,gK y (c1,c2)=r:=⟨_,rfl⟩;have C:=Pg y (c1,c2) r hr wr;have TH:=J (show th=(r == 0) by
     rw [HT.out,kZ,E.out,hy,Bool.eq_iff_iff,beq_iff_eq,<- hr,uT,decide_eq_true_eq])
    have BN:=J (fun dq osq=>B.out.trans ((below_regrown wr dq osq).mono B.out.size));have CE:=J (show cnt=hi by rw [HC.out,E.out]);clear hy hr hlt;have g4:decide ((hi:Int)<(n:Int))=true:=by simp; omega
    obtain⟨y1,y2⟩:=y;simp only at p0 p1 b0 b1 C;go_wp2;refine wp_region_quiet_below (by kernel_rfl) (by kernel_rfl) ?_
    repeat (go_big_quiet_step (first | (with_reducible exact C _ _) | exact Fg _ _))
    refine wpQuiet_nil ?_;intro _ hw';obtain⟨⟨dq,osq⟩,hw''⟩:=hw';subst hw'';clear ix p0 p1 b0 b1 C;go_wp2
    go_ret2
    exact⟨by rw [TH.out,CE.out]; rfl,BN.out _ _⟩
   ·have TH:=J (show th=false by
     rw [HT.out,kZ,E.out,aP (by have:=HN.out; omega)])
    have CE:=J (show cnt=hi by rw [HC.out,E.out]);have BN:=J (fun dq osq=>B.out.trans ((below_regrown wr dq osq).mono B.out.size));have g4:decide ((hi:Int)<(n:Int))=false:=by simp; omega
    clear hlt;go_wp2;refine wp_region_quiet_below (by kernel_rfl) (by kernel_rfl) ?_
    repeat (go_big_quiet_step (fail))
    refine wpQuiet_nil ?_;intro _ hw';obtain⟨⟨dq,osq⟩,hw''⟩:=hw';subst hw'';go_wp2
    go_ret2
    exact⟨by rw [TH.out,CE.out]; rfl,BN.out _ _⟩
abbrev jw (x:jv):fD:=(x.1,x.2.1)
theorem Vi {W W1:aI} {v:aL} {l:List jv} {ao:Option aQ} {n c k:Nat} {x:jv} (h:wZ W v l) (hv:v=L ao n c) (hn:l.length=n) (hk:l[k]?=Z x) (hb:Below W.heap.size W W1) :
  ∃ p:aQ,(∀ w,(Instr.indexAt 23 (L ao n c) (au ay k)).run aK w=.ok (U (Z p)) w) /\
   (∀ d os,(grow (redrawn W1 d) os).cell? p=Z (au ay x.1))/\(∀ d os,(grow (redrawn W1 d) os).cell? ⟨p.block,p.off+1,ak⟩=Z (au ay x.2.1))/\(∀ d os,(grow (redrawn W1 d) os).cell? ⟨p.block,p.off+2,ak⟩=Z (dY x.2.2.1))/\(∀ d os,(grow (redrawn W1 d) os).cell? ⟨p.block,p.off+3,ak⟩=Z (au ay x.2.2.2)):=by
 obtain⟨p,h1,h2⟩:=IJ h hv hn hk;obtain⟨c0,c1,c2,c3⟩:=h2 _ hb;exact⟨p,h1,cell_regrown c0,cell_regrown c1,cell_regrown c2,cell_regrown c3⟩
theorem Pj {W:aI} {b:Nat} {c:jv} (h:dJ W b #[au ay c.1,au ay c.2.1,dY c.2.2.1,au ay c.2.2.2] 74):(∀ d os,(grow (redrawn W d) os).cell? ⟨b,0,ak⟩=Z (au ay c.1))/\(∀ d os,(grow (redrawn W d) os).cell? ⟨b,1,ak⟩=Z (au ay c.2.1))/\(∀ d os,(grow (redrawn W d) os).cell? ⟨b,2,ak⟩=Z (dY c.2.2.1))/\(∀ d os,(grow (redrawn W d) os).cell? ⟨b,3,ak⟩=Z (au ay c.2.2.2)) :=
 ⟨cell_regrown (h.cell 0),cell_regrown (h.cell 1),cell_regrown (h.cell 2),cell_regrown (h.cell 3)⟩
theorem Pk (c d:jv) (r:Int) (hr:gK (c.1,c.2.1) (d.1,d.2.1)=r) (w:aI) (k:Nat) (os:Array Obj) :
  aV aK 58 #[lX c,lX d] (grow (redrawn w k) os) fun e w''=>e=.returned (au ay r)/\∃ p:Regrown,w''=grow (redrawn w p.d) p.os:=by
 subst hr;exact Calls.regrown_of (ER c d _)
theorem Pm (v:aL) (l:List jv) (c:jv) (w:aI) (hv:wZ w v l) (hr:lC jw l) (hl:l.length<=900) :
  aV aK 115 #[v,lX c,.func (.func 58) #[] #[]] w fun e w'=>e=.returned (.tuple #[au ay (gF jw l (c.1,c.2.1)),.bool (kZ jw l (c.1,c.2.1))])/\Below w.heap.size w w':=by
 have HL:=J hv;have HR:=J hr;have BX:=J (dO w #[au ay c.1,au ay c.2.1,dY c.2.2.1,au ay c.2.2.2] 74);have B1:=J ((V w.heap.size w).alloc (aC _) (.cells #[au ay c.1,au ay c.2.1,dY c.2.2.1,au ay c.2.2.2] 74));obtain⟨ao,ac,rfl⟩:=hv.len;obtain⟨n,hn⟩:∃ n,n=l.length:=⟨_,rfl⟩;rw [<- hn] at HL hl ⊢;have HN:=J hn;obtain⟨cnt,hc⟩:∃ k,k=gF jw l (c.1,c.2.1):=⟨_,rfl⟩;obtain⟨th,ht⟩:∃ k,k=kZ jw l (c.1,c.2.1):=⟨_,rfl⟩;rw [<- hc,<- ht];have HC:=J hc;have HT:=J ht;clear hv hr hn hc ht;obtain⟨c1,c2,⟨c3,c4,c5⟩,c6⟩:=c;go_enter Tryz.func115,Tryz.ntmps115;go_wp2;generalize w.alloc (.cells #[au ay c1,au ay c2,L c3 c4 c5,au ay c6] 74)=w1 at *
 go_loopg [9,10] n (fun kx s9 s10 wr=>∃ lo hi:Nat,s9=au ay lo/\s10=au ay hi/\lo<=hi/\hi<=n/\hi-lo<=kx/\Below w.heap.size w wr/\dJ wr w.heap.size #[au ay c1,au ay c2,L c3 c4 c5,au ay c6] 74 /\
  (∀ (t:Nat) (y:jv),t<lo->l[t]?=Z y->eT (y.1,y.2.1) (c1,c2)=true)/\(∀ (t:Nat) (y:jv),hi<=t->l[t]?=Z y->eT (y.1,y.2.1) (c1,c2)=false))
 case atStart=>exact⟨0,n,rfl,rfl,aO _,aC _,by omega,B1.out,BX.out,fun t y h=>by omega,fun t y h1 h2=>by have:=(aj.1 h2).1; have:=HN.out; omega⟩
 case round =>
  clear B1 BX;obtain⟨lo,hi,rfl,rfl,hlh,hin,hg,hb,hx,ha,hz⟩:=hrel;have B:=J hb;have X:=J hx;have AL:=J ha;have ZL:=J hz;clear hb hx ha hz;by_cases hlt:lo<hi
  ·obtain⟨y,hy⟩:∃ y,l[(lo+hi) / 2]?=Z y:=⟨_,O (by have:=HN.out; omega)⟩;obtain⟨p,ix,p0,p1,p2,p3⟩:=Vi HL.out rfl HN.out.symm hy B.out;obtain⟨b0,b1,b2,b3⟩:=Pj (c:=(c1,c2,(c3,c4,c5),c6)) X.out;obtain⟨r,hr⟩:∃ r,gK (y.1,y.2.1) (c1,c2)=r:=⟨_,rfl⟩;have C:=Pk y (c1,c2,(c3,c4,c5),c6) r hr wr;have LE:=J (show decide (r<0)=eT (y.1,y.2.1) (c1,c2) by rw [<- hr]; exact E5 _ _);have Y:=J hy;clear hy hr;have e23:((lo:Int)+(hi:Int)) / 2=(((lo+hi) / 2:Nat):Int):=by omega
   generalize hm:(lo+hi) / 2=m at *;have BN:=J (fun dq osq=>B.out.trans ((below_regrown wr dq osq).mono B.out.size));have XN:=J (fun dq osq=>X.out.on (below_regrown wr dq osq));obtain⟨y1,y2,⟨yo,yn,yc⟩,y4⟩:=y;simp only at p0 p1 p2 p3 b0 b1 b2 b3 C;by_cases hneg:r<0
   ·have d0:decide (r<0)=true:=by simpa using hneg
    have LT:=J (show eT (y1,y2) (c1,c2)=true by rw [<- LE.out]; exact d0);go_wp2;refine wp_region_quiet_below (by kernel_rfl) (by kernel_rfl) ?_
    repeat (go_big_quiet_step (first | (with_reducible exact C _ _) | exact Fh _ _))
    refine wpQuiet_nil ?_;intro _ hw';obtain⟨⟨dq,osq⟩,hw''⟩:=hw';subst hw'';clear ix p0 p1 p2 p3 b0 b1 b2 b3 C;go_wp2
    go_roundg (hi-(m+1))
    case measure=>omega
    case rel=>exact⟨m+1,hi,by go_num,rfl,by omega,hin,aC _,BN.out _ _,XN.out _ _,fun t z h1 h2=>by
     rcases aM t m with h3|h3
     ·exact iU (mG HR.out (by omega) h2 Y.out) LT.out
     ·obtain rfl:t=m:=by omega
      rw [Y.out] at h2;rw [<- aH h2];exact LT.out,ZL.out⟩
   ·have d0:decide (r<0)=false:=by simpa using hneg
    have LT:=J (show eT (y1,y2) (c1,c2)=false by rw [<- LE.out]; exact d0);go_wp2;refine wp_region_quiet_below (by kernel_rfl) (by kernel_rfl) ?_
    repeat (go_big_quiet_step (first | (with_reducible exact C _ _) | exact Fh _ _))
    refine wpQuiet_nil ?_;intro _ hw';obtain⟨⟨dq,osq⟩,hw''⟩:=hw';subst hw'';clear ix p0 p1 p2 p3 b0 b1 b2 b3 C;go_wp2
    go_roundg (m-lo)
    case measure=>omega
    case rel=>exact⟨lo,m,rfl,rfl,by omega,by omega,aC _,BN.out _ _,XN.out _ _,AL.out,fun t z h1 h2=>by
     cases h:eT (z.1,z.2.1) (c1,c2)
     ·rfl
     ·rcases aM m t with h3|h3
      ·have:=iU (mG HR.out h3 Y.out h2) h;rw [LT.out] at this;cases this
      ·obtain rfl:t=m:=by omega
       rw [Y.out] at h2;rw [<- aH h2,LT.out] at h;cases h⟩
  ·obtain rfl:hi=lo:=by omega
   have E:=J (EZ jw l (c1,c2) hi AL.out (by
    rcases aM hi n with h|h
    ·exact aG ⟨_,O (by have:=HN.out; omega),ZL.out hi _ (aC _) (O (by have:=HN.out; omega))⟩
    ·exact aS (by have:=HN.out; omega)))
   by_cases hn:hi<n
   ·obtain⟨y,hy⟩:∃ y,l[hi]?=Z y:=⟨_,O (by have:=HN.out; omega)⟩;obtain⟨p,ix,p0,p1,p2,p3⟩:=Vi HL.out rfl HN.out.symm hy B.out;obtain⟨b0,b1,b2,b3⟩:=Pj (c:=(c1,c2,(c3,c4,c5),c6)) X.out;obtain⟨r,hr⟩:∃ r,gK (y.1,y.2.1) (c1,c2)=r:=⟨_,rfl⟩;have C:=Pk y (c1,c2,(c3,c4,c5),c6) r hr wr;have TH:=J (show th=(r == 0) by
     rw [HT.out,kZ,E.out,hy,Bool.eq_iff_iff,beq_iff_eq,<- hr,uT,decide_eq_true_eq])
    have BN:=J (fun dq osq=>B.out.trans ((below_regrown wr dq osq).mono B.out.size));have CE:=J (show cnt=hi by rw [HC.out,E.out]);clear hy hr hlt;have g4:decide ((hi:Int)<(n:Int))=true:=by simp; omega
    obtain⟨y1,y2,⟨yo,yn,yc⟩,y4⟩:=y;simp only at p0 p1 p2 p3 b0 b1 b2 b3 C;go_wp2;refine wp_region_quiet_below (by kernel_rfl) (by kernel_rfl) ?_
    repeat (go_big_quiet_step (first | (with_reducible exact C _ _) | exact Fh _ _))
    refine wpQuiet_nil ?_;intro _ hw';obtain⟨⟨dq,osq⟩,hw''⟩:=hw';subst hw'';clear ix p0 p1 p2 p3 b0 b1 b2 b3 C;go_wp2
    go_ret2
    exact⟨by rw [TH.out,CE.out]; rfl,BN.out _ _⟩
   ·have TH:=J (show th=false by
     rw [HT.out,kZ,E.out,aP (by have:=HN.out; omega)])
    have CE:=J (show cnt=hi by rw [HC.out,E.out]);have BN:=J (fun dq osq=>B.out.trans ((below_regrown wr dq osq).mono B.out.size));have g4:decide ((hi:Int)<(n:Int))=false:=by simp; omega
    clear hlt;go_wp2;refine wp_region_quiet_below (by kernel_rfl) (by kernel_rfl) ?_
    repeat (go_big_quiet_step (fail))
    refine wpQuiet_nil ?_;intro _ hw';obtain⟨⟨dq,osq⟩,hw''⟩:=hw';subst hw'';go_wp2
    go_ret2
    exact⟨by rw [TH.out,CE.out]; rfl,BN.out _ _⟩
def Pn (B:Nat) (b1:Nat) (_me:Int) (_z1 _z2 _z3 _z5:aL) (g n cap k:Nat) (_y1 _y2 _y3 _y4:Int) (yo:Option aQ) (yn yc:Nat) (_y6:Int) (_y7:Bool) (p:List C5) (i:Nat) (v:aL) (x:aI):Prop :=
 match i with
 | 0=>v=U (Z ⟨b1,4,ak⟩)
 | 1=>v=L (Z ⟨g,0,ak⟩) n cap
 | 2=>v=au ay (k:Int)
 | 3=>v=U (Z ⟨b1,4,ak⟩)
 | 4=>v=L (Z ⟨g,0,ak⟩) n cap
 | 5=>v=au ay (k:Int)
 | 6=>v=U (Z ⟨g,k * 7,ak⟩)
 | 7=>v=U (Z ⟨g,k * 7+4,ak⟩)
 | 8=>v=L yo yn yc
 | 9=>∃ s:Sl,v=dY s/\iq x B v p
 | 10=>v=U (Z ⟨g,k * 7,ak⟩)
 | 11=>v=U (Z ⟨g,k * 7+4,ak⟩)
 | _=>True
noncomputable def abH:Code:=((Tryz.f91.body.bind (eO 11)).getD .skip)
theorem Vj (B:Nat) (b1:Nat) (me:Int) (z1 z2 z3 z5:aL) (g n cap k:Nat) (y1 y2 y3 y4:Int) (yo:Option aQ) (yn yc:Nat) (y6:Int) (y7:Bool) (p:List C5) (i:Nat) (v:aL) (x x':aI) (h:Pn B b1 me z1 z2 z3 z5 g n cap k y1 y2 y3 y4 yo yn yc y6 y7 p i v x) (hb:Below x.heap.size x x'):Pn B b1 me z1 z2 z3 z5 g n cap k y1 y2 y3 y4 yo yn yc y6 y7 p i v x':=by
 by_cases hi:i<12
 ·rcases (by omega:i=0\/i=1\/i=2\/i=3\/i=4\/i=5\/i=6\/i=7\/i=8\/i=9\/i=10\/i=11) with rfl|rfl|rfl|rfl|rfl|rfl|rfl|rfl|rfl|rfl|rfl|rfl
  ·exact h
  ·exact h
  ·exact h
  ·exact h
  ·exact h
  ·exact h
  ·exact h
  ·exact h
  ·exact h
  ·obtain⟨s,h1,h2⟩:=h; exact⟨s,h1,Bk.dI h2 hb⟩
  ·exact h
  ·exact h
 ·unfold Pn
  split <;> first | omega | trivial
theorem ala (Q:Exit->Act->aI->Prop) (W:aI) (B0:Nat) (l:List iH) (b1:Nat) (me:Int) (z1 z2 z3 z5:aL) (g n cap k:Nat) (y1 y2 y3 y4:Int) (yo:Option aQ) (yn yc:Nat) (y6:Int) (y7:Bool) (p:List C5) (u0 u2 u3 u5 u6 u7 u8 u9 u10 u11 u12 u13 u14 u15 u16 u17 u18 u19 u20 u21 u22 u23 u24 u25 u26 u27 u28 u29 u30 u31 u32 u33 u34 u35 u36 u37 u38 u39 u40 u41 u42 u43 u44 u45 u46 u47 u48 u49 u50 u51 u52 u53 u54 u55 u56 u57 u58 u59 u60 u61 u62 u63 u64 u65 u66 u67 u68 u69 u70 u71 u72 u73 u74 u75 u76 u77 u78 u79 u80 u81:aL)
  (h1:dJ W b1 #[au ay me,z1,z2,z3,L (Z ⟨g,0,ak⟩) n cap,z5] 28) (ho:kY W B0 (L (Z ⟨g,0,ak⟩) n cap) l) (hy:l[k]?=Z (y1,y2,y3,y4,(yo,yn,yc),y6,y7)) (hp:fK W (L yo yn yc) p) (lp:p.length<=900)
  (hQ:∀ (x:aI) (v49 v50 v51 v52 v53 v54 v55 v56 v57 v58 v59 v60:aL) (s1:Option aQ) (s2 s3:Nat),iq x W.heap.size (L s1 s2 s3) p->kY x B0 (L (Z ⟨g,0,ak⟩) n cap) (l.set k (y1,y2,y3,y4,(s1,s2,s3),y6,y7))->But g W x->(∀ B1,B1<=g->B1<=W.heap.size->Below B1 W x)->Q .normal ⟨(u0::U (Z ⟨b1,0,ak⟩)::u2::u3::au ay (k:Int)::u5::u6::u7::u8::u9::u10::u11::u12::u13::u14::u15::u16::u17::u18::u19::u20::u21::u22::u23::u24::u25::u26::u27::u28::u29::u30::u31::u32::u33::u34::u35::u36::u37::u38::u39::u40::u41::u42::u43::u44::u45::u46::u47::u48::v49::v50::v51::v52::v53::v54::v55::v56::v57::v58::v59::v60::u61::u62::u63::u64::u65::u66::u67::u68::u69::u70::u71::u72::u73::u74::u75::u76::u77::u78::u79::u80::u81::[]).toArray,[]⟩ x) :
  Code.wp aK abH Q ⟨(u0::U (Z ⟨b1,0,ak⟩)::u2::u3::au ay (k:Int)::u5::u6::u7::u8::u9::u10::u11::u12::u13::u14::u15::u16::u17::u18::u19::u20::u21::u22::u23::u24::u25::u26::u27::u28::u29::u30::u31::u32::u33::u34::u35::u36::u37::u38::u39::u40::u41::u42::u43::u44::u45::u46::u47::u48::u49::u50::u51::u52::u53::u54::u55::u56::u57::u58::u59::u60::u61::u62::u63::u64::u65::u66::u67::u68::u69::u70::u71::u72::u73::u74::u75::u76::u77::u78::u79::u80::u81::[]).toArray,[]⟩ W:=by
 have HQ:=J hQ;have H1:=J h1;have HO:=J ho;have HY:=J hy;have HP:=J hp;have LP:=J lp;have IX:=J (lJ nX g k n cap (by obtain⟨_,_,hv⟩:=(Row.dH ho).len; have h:=(aj.1 hy).1; simp at hv; omega));have EL:=J (jP nX ho hy);clear hQ h1 ho hy hp lp;have iO:=Vj W.heap.size b1 me z1 z2 z3 z5 g n cap k y1 y2 y3 y4 yo yn yc y6 y7 p;unfold abH
 conv=>arg 2; whnf
 have nd:∀ j,(j<49\/61<=j)->∀ i,i<12->(fun i=>49+i) i≠j:=by
  intro j hj i hi h;simp only at h;omega
 refine Rg.fQ 13 12 (fun i=>49+i) (fun _=>12) (Pn W.heap.size b1 me z1 z2 z3 z5 g n cap k y1 y2 y3 y4 yo yn yc y6 y7 p) (by kernel_rfl) (by kernel_rfl) rfl (by decide) (fun i j _ _ h=>by have h2:49+i=49+j:=h; omega) (fun i hi=>by show 49+i<82; omega) ?_ (fun _=>Rg.jq 14 (by kernel_rfl)) ?_ ?_
 ·intro i o hi ho a x D hnd hc hD hb seen K hK;clear HQ;rcases (by omega:i=0\/i=1\/i=2\/i=3\/i=4\/i=5\/i=6\/i=7\/i=8\/i=9\/i=10\/i=11) with rfl|rfl|rfl|rfl|rfl|rfl|rfl|rfl|rfl|rfl|rfl|rfl
  ·cases ho;have e1:a.eval (aD 1)=U (Z ⟨b1,0,ak⟩):=seen.kp 1 _ (nd 1 (by omega)) rfl;exact aJ rfl rfl (aR a.eval _ 28 (aD 1) 4 rfl (by rw [e1]; simp [go_sem])) (hK _ _ rfl (V _ _) fun _ _ _ _ _ _ _ h=>h)
  ·cases ho;have e49:a.eval (aD 49)=U (Z ⟨b1,4,ak⟩):=seen.at_ ⟨0,.data⟩ (by simp) rfl (aG (by decide));have y4:=(H1.out.on hb).cell 4;simp only [ah,aA,aB] at y4;exact aJ rfl rfl (aU a.eval _ 25 (aD 49) rfl (by rw [e49]; simp [go_sem,y4])) (hK _ _ rfl (V _ _) fun _ _ _ _ _ _ _ h=>h)
  ·cases ho;have e4:a.eval (aD 4)=au ay (k:Int):=seen.kp 4 _ (nd 4 (by omega)) rfl;exact aJ rfl rfl (aW a.eval _ (aD 4) rfl x) (hK _ _ e4 (V _ _) fun _ _ _ _ _ _ _ h=>h)
  ·cases ho;have e1:a.eval (aD 1)=U (Z ⟨b1,0,ak⟩):=seen.kp 1 _ (nd 1 (by omega)) rfl;exact aJ rfl rfl (aR a.eval _ 28 (aD 1) 4 rfl (by rw [e1]; simp [go_sem])) (hK _ _ rfl (V _ _) fun _ _ _ _ _ _ _ h=>h)
  ·cases ho;have e52:a.eval (aD 52)=U (Z ⟨b1,4,ak⟩):=seen.at_ ⟨3,.data⟩ (by simp) rfl (aG (by decide));have y4:=(H1.out.on hb).cell 4;simp only [ah,aA,aB] at y4;exact aJ rfl rfl (aU a.eval _ 25 (aD 52) rfl (by rw [e52]; simp [go_sem,y4])) (hK _ _ rfl (V _ _) fun _ _ _ _ _ _ _ h=>h)
  ·cases ho;have e4:a.eval (aD 4)=au ay (k:Int):=seen.kp 4 _ (nd 4 (by omega)) rfl;exact aJ rfl rfl (aW a.eval _ (aD 4) rfl x) (hK _ _ e4 (V _ _) fun _ _ _ _ _ _ _ h=>h)
  ·cases ho;have e53:a.eval (aD 53)=L (Z ⟨g,0,ak⟩) n cap:=seen.at_ ⟨4,.data⟩ (by simp) rfl (aG (by decide));have e54:a.eval (aD 54)=au ay (k:Int):=seen.at_ ⟨5,.data⟩ (by simp) rfl (aG (by decide));exact aJ rfl rfl (aX a.eval _ 25 (aD 53) (aD 54) rfl (by rw [e53,e54]; exact IX.out x)) (hK _ _ rfl (V _ _) fun _ _ _ _ _ _ _ h=>h)
  ·cases ho;have e55:a.eval (aD 55)=U (Z ⟨g,k * 7,ak⟩):=seen.at_ ⟨6,.data⟩ (by simp) rfl (aG (by decide));exact aJ rfl rfl (aR a.eval _ 66 (aD 55) 2 rfl (by rw [e55]; simp [go_sem])) (hK _ _ rfl (V _ _) fun _ _ _ _ _ _ _ h=>h)
  ·cases ho;have e56:a.eval (aD 56)=U (Z ⟨g,k * 7+4,ak⟩):=seen.at_ ⟨7,.data⟩ (by simp) rfl (aG (by decide));have y:=EL.out x hb 4 _ rfl;simp [Addr.add,EN] at y;exact aJ rfl rfl (aU a.eval _ 32 (aD 56) rfl (by rw [e56]; simp [go_sem,y])) (hK _ _ rfl (V _ _) fun _ _ _ _ _ _ _ h=>h)
  ·cases ho;have e57:a.eval (aD 57)=L yo yn yc:=seen.at_ ⟨8,.data⟩ (by simp) rfl (aG (by decide));exact Rg.gL rfl rfl (Rw.iB a.eval _ (aD 57) 32 123 rfl e57 rfl _ (gD aT rfl rfl _ _)) (mY (yo,yn,yc) p x (HP.out.on hb) LP.out) fun e w1 h=>by
    obtain⟨⟨s,rfl,h1⟩,h3⟩:=h;exact⟨_,rfl,hK _ _ ⟨s,rfl,dM h1 hb.size⟩ (h3.mono hb.size) fun j u hj _ _ _ hne h=>iO j u _ _ h h3⟩
  ·cases ho;have e50:a.eval (aD 50)=L (Z ⟨g,0,ak⟩) n cap:=seen.at_ ⟨1,.data⟩ (by simp) rfl (aG (by decide));have e51:a.eval (aD 51)=au ay (k:Int):=seen.at_ ⟨2,.data⟩ (by simp) rfl (aG (by decide));exact aJ rfl rfl (aX a.eval _ 25 (aD 50) (aD 51) rfl (by rw [e50,e51]; exact IX.out x)) (hK _ _ rfl (V _ _) fun _ _ _ _ _ _ _ h=>h)
  ·cases ho;have e59:a.eval (aD 59)=U (Z ⟨g,k * 7,ak⟩):=seen.at_ ⟨10,.data⟩ (by simp) rfl (aG (by decide));exact aJ rfl rfl (aR a.eval _ 66 (aD 59) 2 rfl (by rw [e59]; simp [go_sem])) (hK _ _ rfl (V _ _) fun _ _ _ _ _ _ _ h=>h)
 ·intro kk o h1 h2 ho;omega
 ·intro a w' df sz kp ⟨vs,hv⟩ hb;have sz':a.tmps.size=82:=sz;have g60:a.tmps[60]?=Z (U (Z ⟨g,k * 7+4,ak⟩)):=by
   have h:vs 11=U (Z ⟨g,k * 7+4,ak⟩):=(hv 11 (by omega)).2 (by decide);rw [<- h];exact (hv 11 (by omega)).1
  obtain⟨⟨s1,s2,s3⟩,hs,hc⟩:=(hv 9 (by omega)).2 (by decide);have g58:a.tmps[58]?=Z (L s1 s2 s3):=((hv 9 (by omega)).1).trans (congrArg Z hs);rw [hs] at hc;obtain⟨w2,hr,st1,st2,st3⟩:=afK (k:=k) s1 s2 s3 (Bk.dI HO.out hb) HY.out;obtain⟨cur,hg⟩:=jU (Bk.dI HO.out hb);show aY _ _ _ 1 12 a w';simp only [aY];refine Rg.fT 32 (aD 60) (aD 58) rfl rfl rfl rfl (aZ g60) (aZ g58) (w':=w2) hr ?_;have qI:∀ j,(j<49\/61<=j)->(a).tmps[j]?=(u0::U (Z ⟨b1,0,ak⟩)::u2::u3::au ay (k:Int)::u5::u6::u7::u8::u9::u10::u11::u12::u13::u14::u15::u16::u17::u18::u19::u20::u21::u22::u23::u24::u25::u26::u27::u28::u29::u30::u31::u32::u33::u34::u35::u36::u37::u38::u39::u40::u41::u42::u43::u44::u45::u46::u47::u48::u49::u50::u51::u52::u53::u54::u55::u56::u57::u58::u59::u60::u61::u62::u63::u64::u65::u66::u67::u68::u69::u70::u71::u72::u73::u74::u75::u76::u77::u78::u79::u80::u81::[])[j]?:=fun j hj=>(kp j (nd j (by omega))).trans ah;obtain⟨mid,hmid,hfr⟩:=Rg.gJ (a:=a) 49 12 df (by simp [sz']) (by simp) qI;show Q .normal (a) _;rw [hfr]
  match mid,hmid with
  | [v49,v50,v51,v52,v53,v54,v55,v56,v57,v58,v59,v60],_ =>
   exact HQ.out _ _ _ _ _ _ _ _ _ _ _ _ _ s1 s2 s3 (st2.own hc hg (by decide)) st1 ((But.of_below hb).trans st2) fun B1 hB hl=>st3 B1 W hB (hb.mono hl)
def Po (B:Nat) (b1:Nat) (_me:Int) (_z1 _z2 _z3 _z4:aL) (g n cap k:Nat) (_y1 _y2:Int) (yo:Option aQ) (yn yc:Nat) (p:List C5) (i:Nat) (v:aL) (x:aI):Prop :=
 match i with
 | 0=>v=U (Z ⟨b1,5,ak⟩)
 | 1=>v=L (Z ⟨g,0,ak⟩) n cap
 | 2=>v=au ay (k:Int)
 | 3=>v=U (Z ⟨b1,5,ak⟩)
 | 4=>v=L (Z ⟨g,0,ak⟩) n cap
 | 5=>v=au ay (k:Int)
 | 6=>v=U (Z ⟨g,k * 3,ak⟩)
 | 7=>v=U (Z ⟨g,k * 3+2,ak⟩)
 | 8=>v=L yo yn yc
 | 9=>∃ s:Sl,v=dY s/\iq x B v p
 | 10=>v=U (Z ⟨g,k * 3,ak⟩)
 | 11=>v=U (Z ⟨g,k * 3+2,ak⟩)
 | _=>True
noncomputable def abI:Code:=((Tryz.f91.body.bind (eO 16)).getD .skip)
theorem Vk (B:Nat) (b1:Nat) (me:Int) (z1 z2 z3 z4:aL) (g n cap k:Nat) (y1 y2:Int) (yo:Option aQ) (yn yc:Nat) (p:List C5) (i:Nat) (v:aL) (x x':aI) (h:Po B b1 me z1 z2 z3 z4 g n cap k y1 y2 yo yn yc p i v x) (hb:Below x.heap.size x x'):Po B b1 me z1 z2 z3 z4 g n cap k y1 y2 yo yn yc p i v x':=by
 by_cases hi:i<12
 ·rcases (by omega:i=0\/i=1\/i=2\/i=3\/i=4\/i=5\/i=6\/i=7\/i=8\/i=9\/i=10\/i=11) with rfl|rfl|rfl|rfl|rfl|rfl|rfl|rfl|rfl|rfl|rfl|rfl
  ·exact h
  ·exact h
  ·exact h
  ·exact h
  ·exact h
  ·exact h
  ·exact h
  ·exact h
  ·exact h
  ·obtain⟨s,h1,h2⟩:=h; exact⟨s,h1,Bk.dI h2 hb⟩
  ·exact h
  ·exact h
 ·unfold Po
  split <;> first | omega | trivial
theorem alb (Q:Exit->Act->aI->Prop) (W:aI) (B0:Nat) (l:List oq) (b1:Nat) (me:Int) (z1 z2 z3 z4:aL) (g n cap k:Nat) (y1 y2:Int) (yo:Option aQ) (yn yc:Nat) (p:List C5) (u0 u2 u3 u4 u6 u7 u8 u9 u10 u11 u12 u13 u14 u15 u16 u17 u18 u19 u20 u21 u22 u23 u24 u25 u26 u27 u28 u29 u30 u31 u32 u33 u34 u35 u36 u37 u38 u39 u40 u41 u42 u43 u44 u45 u46 u47 u48 u49 u50 u51 u52 u53 u54 u55 u56 u57 u58 u59 u60 u61 u62 u63 u64 u65 u66 u67 u68 u69 u70 u71 u72 u73 u74 u75 u76 u77 u78 u79 u80 u81:aL)
  (h1:dJ W b1 #[au ay me,z1,z2,z3,z4,L (Z ⟨g,0,ak⟩) n cap] 28) (ho:qH W B0 (L (Z ⟨g,0,ak⟩) n cap) l) (hy:l[k]?=Z (y1,y2,(yo,yn,yc))) (hp:fK W (L yo yn yc) p) (lp:p.length<=900)
  (hQ:∀ (x:aI) (v68 v69 v70 v71 v72 v73 v74 v75 v76 v77 v78 v79:aL) (s1:Option aQ) (s2 s3:Nat),iq x W.heap.size (L s1 s2 s3) p->qH x B0 (L (Z ⟨g,0,ak⟩) n cap) (l.set k (y1,y2,(s1,s2,s3)))->But g W x->(∀ B1,B1<=g->B1<=W.heap.size->Below B1 W x)->Q .normal ⟨(u0::U (Z ⟨b1,0,ak⟩)::u2::u3::u4::au ay (k:Int)::u6::u7::u8::u9::u10::u11::u12::u13::u14::u15::u16::u17::u18::u19::u20::u21::u22::u23::u24::u25::u26::u27::u28::u29::u30::u31::u32::u33::u34::u35::u36::u37::u38::u39::u40::u41::u42::u43::u44::u45::u46::u47::u48::u49::u50::u51::u52::u53::u54::u55::u56::u57::u58::u59::u60::u61::u62::u63::u64::u65::u66::u67::v68::v69::v70::v71::v72::v73::v74::v75::v76::v77::v78::v79::u80::u81::[]).toArray,[]⟩ x) :
  Code.wp aK abI Q ⟨(u0::U (Z ⟨b1,0,ak⟩)::u2::u3::u4::au ay (k:Int)::u6::u7::u8::u9::u10::u11::u12::u13::u14::u15::u16::u17::u18::u19::u20::u21::u22::u23::u24::u25::u26::u27::u28::u29::u30::u31::u32::u33::u34::u35::u36::u37::u38::u39::u40::u41::u42::u43::u44::u45::u46::u47::u48::u49::u50::u51::u52::u53::u54::u55::u56::u57::u58::u59::u60::u61::u62::u63::u64::u65::u66::u67::u68::u69::u70::u71::u72::u73::u74::u75::u76::u77::u78::u79::u80::u81::[]).toArray,[]⟩ W:=by
 have HQ:=J hQ;have H1:=J h1;have HO:=J ho;have HY:=J hy;have HP:=J hp;have LP:=J lp;have IX:=J (lJ okW g k n cap (by obtain⟨_,_,hv⟩:=(Row.dH ho).len; have h:=(aj.1 hy).1; simp at hv; omega));have EL:=J (jP okW ho hy);clear hQ h1 ho hy hp lp;have iO:=Vk W.heap.size b1 me z1 z2 z3 z4 g n cap k y1 y2 yo yn yc p;unfold abI
 conv=>arg 2; whnf
 have nd:∀ j,(j<68\/80<=j)->∀ i,i<12->(fun i=>68+i) i≠j:=by
  intro j hj i hi h;simp only at h;omega
 refine Rg.fQ 13 12 (fun i=>68+i) (fun _=>12) (Po W.heap.size b1 me z1 z2 z3 z4 g n cap k y1 y2 yo yn yc p) (by kernel_rfl) (by kernel_rfl) rfl (by decide) (fun i j _ _ h=>by have h2:68+i=68+j:=h; omega) (fun i hi=>by show 68+i<82; omega) ?_ (fun _=>Rg.jq 14 (by kernel_rfl)) ?_ ?_
 ·intro i o hi ho a x D hnd hc hD hb seen K hK;clear HQ;rcases (by omega:i=0\/i=1\/i=2\/i=3\/i=4\/i=5\/i=6\/i=7\/i=8\/i=9\/i=10\/i=11) with rfl|rfl|rfl|rfl|rfl|rfl|rfl|rfl|rfl|rfl|rfl|rfl
  ·cases ho;have e1:a.eval (aD 1)=U (Z ⟨b1,0,ak⟩):=seen.kp 1 _ (nd 1 (by omega)) rfl;exact aJ rfl rfl (aR a.eval _ 28 (aD 1) 5 rfl (by rw [e1]; simp [go_sem])) (hK _ _ rfl (V _ _) fun _ _ _ _ _ _ _ h=>h)
  ·cases ho;have e68:a.eval (aD 68)=U (Z ⟨b1,5,ak⟩):=seen.at_ ⟨0,.data⟩ (by simp) rfl (aG (by decide));have y5:=(H1.out.on hb).cell 5;simp only [ah,aA,aB] at y5;exact aJ rfl rfl (aU a.eval _ 26 (aD 68) rfl (by rw [e68]; simp [go_sem,y5])) (hK _ _ rfl (V _ _) fun _ _ _ _ _ _ _ h=>h)
  ·cases ho;have e5:a.eval (aD 5)=au ay (k:Int):=seen.kp 5 _ (nd 5 (by omega)) rfl;exact aJ rfl rfl (aW a.eval _ (aD 5) rfl x) (hK _ _ e5 (V _ _) fun _ _ _ _ _ _ _ h=>h)
  ·cases ho;have e1:a.eval (aD 1)=U (Z ⟨b1,0,ak⟩):=seen.kp 1 _ (nd 1 (by omega)) rfl;exact aJ rfl rfl (aR a.eval _ 28 (aD 1) 5 rfl (by rw [e1]; simp [go_sem])) (hK _ _ rfl (V _ _) fun _ _ _ _ _ _ _ h=>h)
  ·cases ho;have e71:a.eval (aD 71)=U (Z ⟨b1,5,ak⟩):=seen.at_ ⟨3,.data⟩ (by simp) rfl (aG (by decide));have y5:=(H1.out.on hb).cell 5;simp only [ah,aA,aB] at y5;exact aJ rfl rfl (aU a.eval _ 26 (aD 71) rfl (by rw [e71]; simp [go_sem,y5])) (hK _ _ rfl (V _ _) fun _ _ _ _ _ _ _ h=>h)
  ·cases ho;have e5:a.eval (aD 5)=au ay (k:Int):=seen.kp 5 _ (nd 5 (by omega)) rfl;exact aJ rfl rfl (aW a.eval _ (aD 5) rfl x) (hK _ _ e5 (V _ _) fun _ _ _ _ _ _ _ h=>h)
  ·cases ho;have e72:a.eval (aD 72)=L (Z ⟨g,0,ak⟩) n cap:=seen.at_ ⟨4,.data⟩ (by simp) rfl (aG (by decide));have e73:a.eval (aD 73)=au ay (k:Int):=seen.at_ ⟨5,.data⟩ (by simp) rfl (aG (by decide));exact aJ rfl rfl (aX a.eval _ 26 (aD 72) (aD 73) rfl (by rw [e72,e73]; exact IX.out x)) (hK _ _ rfl (V _ _) fun _ _ _ _ _ _ _ h=>h)
  ·cases ho;have e74:a.eval (aD 74)=U (Z ⟨g,k * 3,ak⟩):=seen.at_ ⟨6,.data⟩ (by simp) rfl (aG (by decide));exact aJ rfl rfl (aR a.eval _ 34 (aD 74) 1 rfl (by rw [e74]; simp [go_sem])) (hK _ _ rfl (V _ _) fun _ _ _ _ _ _ _ h=>h)
  ·cases ho;have e75:a.eval (aD 75)=U (Z ⟨g,k * 3+2,ak⟩):=seen.at_ ⟨7,.data⟩ (by simp) rfl (aG (by decide));have y:=EL.out x hb 2 _ rfl;simp [Addr.add,EW] at y;exact aJ rfl rfl (aU a.eval _ 32 (aD 75) rfl (by rw [e75]; simp [go_sem,y])) (hK _ _ rfl (V _ _) fun _ _ _ _ _ _ _ h=>h)
  ·cases ho;have e76:a.eval (aD 76)=L yo yn yc:=seen.at_ ⟨8,.data⟩ (by simp) rfl (aG (by decide));exact Rg.gL rfl rfl (Rw.iB a.eval _ (aD 76) 32 123 rfl e76 rfl _ (gD aT rfl rfl _ _)) (mY (yo,yn,yc) p x (HP.out.on hb) LP.out) fun e w1 h=>by
    obtain⟨⟨s,rfl,h1⟩,h3⟩:=h;exact⟨_,rfl,hK _ _ ⟨s,rfl,dM h1 hb.size⟩ (h3.mono hb.size) fun j u hj _ _ _ hne h=>iO j u _ _ h h3⟩
  ·cases ho;have e69:a.eval (aD 69)=L (Z ⟨g,0,ak⟩) n cap:=seen.at_ ⟨1,.data⟩ (by simp) rfl (aG (by decide));have e70:a.eval (aD 70)=au ay (k:Int):=seen.at_ ⟨2,.data⟩ (by simp) rfl (aG (by decide));exact aJ rfl rfl (aX a.eval _ 26 (aD 69) (aD 70) rfl (by rw [e69,e70]; exact IX.out x)) (hK _ _ rfl (V _ _) fun _ _ _ _ _ _ _ h=>h)
  ·cases ho;have e78:a.eval (aD 78)=U (Z ⟨g,k * 3,ak⟩):=seen.at_ ⟨10,.data⟩ (by simp) rfl (aG (by decide));exact aJ rfl rfl (aR a.eval _ 34 (aD 78) 1 rfl (by rw [e78]; simp [go_sem])) (hK _ _ rfl (V _ _) fun _ _ _ _ _ _ _ h=>h)
 ·intro kk o h1 h2 ho;omega
 ·intro a w' df sz kp ⟨vs,hv⟩ hb;have sz':a.tmps.size=82:=sz;have g79:a.tmps[79]?=Z (U (Z ⟨g,k * 3+2,ak⟩)):=by
   have h:vs 11=U (Z ⟨g,k * 3+2,ak⟩):=(hv 11 (by omega)).2 (by decide);rw [<- h];exact (hv 11 (by omega)).1
  obtain⟨⟨s1,s2,s3⟩,hs,hc⟩:=(hv 9 (by omega)).2 (by decide);have g77:a.tmps[77]?=Z (L s1 s2 s3):=((hv 9 (by omega)).1).trans (congrArg Z hs);rw [hs] at hc;obtain⟨w2,hr,st1,st2,st3⟩:=afL (k:=k) s1 s2 s3 (Bk.dI HO.out hb) HY.out;obtain⟨cur,hg⟩:=jU (Bk.dI HO.out hb);show aY _ _ _ 1 12 a w';simp only [aY];refine Rg.fT 32 (aD 79) (aD 77) rfl rfl rfl rfl (aZ g79) (aZ g77) (w':=w2) hr ?_;have qI:∀ j,(j<68\/80<=j)->(a).tmps[j]?=(u0::U (Z ⟨b1,0,ak⟩)::u2::u3::u4::au ay (k:Int)::u6::u7::u8::u9::u10::u11::u12::u13::u14::u15::u16::u17::u18::u19::u20::u21::u22::u23::u24::u25::u26::u27::u28::u29::u30::u31::u32::u33::u34::u35::u36::u37::u38::u39::u40::u41::u42::u43::u44::u45::u46::u47::u48::u49::u50::u51::u52::u53::u54::u55::u56::u57::u58::u59::u60::u61::u62::u63::u64::u65::u66::u67::u68::u69::u70::u71::u72::u73::u74::u75::u76::u77::u78::u79::u80::u81::[])[j]?:=fun j hj=>(kp j (nd j (by omega))).trans ah;obtain⟨mid,hmid,hfr⟩:=Rg.gJ (a:=a) 68 12 df (by simp [sz']) (by simp) qI;show Q .normal (a) _;rw [hfr]
  match mid,hmid with
  | [v68,v69,v70,v71,v72,v73,v74,v75,v76,v77,v78,v79],_ =>
   exact HQ.out _ _ _ _ _ _ _ _ _ _ _ _ _ s1 s2 s3 (st2.own hc hg (by decide)) st1 ((But.of_below hb).trans st2) fun B1 hB hl=>st3 B1 W hB (hb.mono hl)
structure Af (b:Br):Prop where
 dP:∀ a∈b.dP,a.p.length<=900
 ent:∀ a∈b.ent,a.p.length<=900
 own:∀ a∈b.own,a.p.length<=900
theorem iC {α:Type} {E:Ek α} {W:aI} {B n cap:Nat} {o:Option aQ} {l:List α} (h:Own E W B (L o n cap) l):l.length=n:=by
 obtain⟨_,_,hv⟩:=(Row.dH h).len;have:n=l.length:=by simpa using congrArg (fun v=>match v with | Value.slice _ n _=>n | _=>0) hv
 exact this.symm
theorem uf {α:Type} {E:Ek α} {W:aI} {B n cap:Nat} {o:Option aQ} {l:List α} (h:Own E W B (L o n cap) l) (hn:0<n):∃ g,o=Z ⟨g,0,ak⟩/\B<=g:=by
 have hl:=iC h;rcases gX h with⟨_,h2⟩|⟨g,c',cur,h1,h2,_⟩
 ·rw [h2] at hl; simp at hl; omega
 ·exact⟨g,by simp at h1; exact h1.1,h2⟩
theorem eU (w:aI) (b:Nat) (a0 a1 a2 a3 a4 a5:aL):But b w (gN w b a0 a1 a2 a3 a4 a5) :=
 (((dQ _ b _ _).trans (dQ _ b _ _)).trans ((dQ _ b _ _).trans (dQ _ b _ _))).trans ((dQ _ b _ _).trans (dQ _ b _ _))
theorem Cs.done {w0 w wr:aI} {b:Br} {nv sv:Sl} {p2 p4 p5:Option aQ} {q2 s2 q4 s4 q5 s5:Nat} (h:Cs w0 w wr b q2 q4 q5 nv (p2,q2,s2) sv (p4,q4,s4) (p5,q5,s5)) (a0 a1 a2 a3 a4 a5:aL):Cp (vw w0) w.heap.size (gN wr (w.heap.size+1) a0 a1 a2 a3 a4 a5) b nv (p2,q2,s2) sv (p4,q4,s4) (p5,q5,s5)/\Below w.heap.size w (gN wr (w.heap.size+1) a0 a1 a2 a3 a4 a5):=by
 obtain⟨l1,d1,d2,d3⟩:=h.dP;obtain⟨l2,e1,e2,e3⟩:=h.ent;obtain⟨l3,f1,f2,f3⟩:=h.own;have n1:l1.length=q2:=iC d1;have n2:l2.length=q4:=iC e1;have n3:l3.length=q5:=iC f1;rw [aF (by omega),aF (by have:=d2.len; omega)] at d3;rw [aF (by omega),aF (by have:=e2.len; omega)] at e3;rw [aF (by omega),aF (by have:=f2.len; omega)] at f3;exact⟨Cp.but ⟨h.near,h.seen,⟨l1,d1,d3⟩,⟨l2,e1,e3⟩,⟨l3,f1,f3⟩⟩ (eU wr (w.heap.size+1) a0 a1 a2 a3 a4 a5) h.bz,dG h.vP (by omega) a0 a1 a2 a3 a4 a5⟩
theorem uU (b:Br) (nv av sv ev ov:Sl) (w0 w:aI) (hw0:Below w0.heap.size w0 w) (h:iN w0 b nv av sv ev ov) (hf:Hq b) (hp:Af b) :
  aV aK 91 #[mo b.me nv av sv ev ov] w fun e w'=>(∃ nv' Ac IK ev' Vb:Sl,e=.returned (mo b.me nv' Ac IK ev' Vb)/\Cp (vw w0) w.heap.size w' b nv' Ac IK ev' Vb)/\Below w.heap.size w w':=by
 obtain⟨no,nn,nc⟩:=nv;obtain⟨ao,an,ac⟩:=av;obtain⟨so,sn,sc⟩:=sv;obtain⟨eo,en,ec⟩:=ev;obtain⟨oo,dU,oc⟩:=ov;obtain⟨la,ha1,ha2⟩:=h.dP;obtain⟨le,he1,he2⟩:=h.ent;obtain⟨Ht,ho1,ho2⟩:=h.own;have HA:=J ha2;have HE:=J he2;have HO:=J ho2;have R0:=J (h.near.on hw0);have R1:=J (ha1.on hw0);have R2:=J (h.seen.on hw0);have R3:=J (he1.on hw0);have R4:=J (ho1.on hw0);have W0:=J hw0;have HP:=J hp;have LL0:=J hf.near;have LL1:=J (show la.length<=900 by rw [ha2.len]; exact hf.dP);have LL2:=J hf.seen;have LL3:=J (show le.length<=900 by rw [he2.len]; exact hf.ent);have LL4:=J (show Ht.length<=900 by rw [ho2.len]; exact hf.own);obtain⟨h0,h1,h2⟩:=gM w #[au ay b.me,L no nn nc,L ao an ac,L so sn sc,L eo en ec,L oo dU oc] #[au ay 0,L ak 0 0,L ak 0 0,L ak 0 0,L ak 0 0,L ak 0 0] 28 28;have B0:=J h0;have XB:=J h1;have ZB:=J h2;clear h0 h1 h2 h hf hp hw0 ha1 ha2 he1 he2 ho1 ho2;go_enter Tryz.func91,Tryz.ntmps91;go_upto_region 1 with fail;generalize (w.alloc (.cells #[au ay b.me,L no nn nc,L ao an ac,L so sn sc,L eo en ec,L oo dU oc] 28)).alloc (.cells #[au ay 0,L ak 0 0,L ak 0 0,L ak 0 0,L ak 0 0,L ak 0 0] 28)=W at *;refine cp1 _ W w.heap.size b.me (L ao an ac) (L eo en ec) (L oo dU oc) no nn nc b.near so sn sc b.seen _ _ _ _ _ _ _ _ _ _ _ _ _ _ _ _ _ _ _ _ _ _ _ _ _ _ _ _ _ _ _ _ _ _ _ _ _ _ _ _ _ _ _ _ _ _ _ _ _ _ _ _ _ _ _ _ _ _ _ _ _ _ _ _ _ _ _ _ _ _ _ _ _ _ _ _ _ _ _ _ _ XB.out (R0.out.on B0.out) (R2.out.on B0.out) LL0.out LL2.out ?_;intro x1 v6 v7 v8 v9 v10 v11 v12 v13 p1 q1 s1 p3 q3 s3 hb1 hn1 hs1 Vl Vm;have B1:=J (B0.out.trans (Vl _ (aC _)));have S1:=J (show W.heap.size<=x1.heap.size from (Vl _ (aC _)).size);have ZB1:=J (show dJ x1 (w.heap.size+1) _ _ from (Vm _ ZB.out.lt (by omega)).trans ZB.out);have XB1:=J hb1;have N1:=J (dM hn1 B0.out.size);have J1:=J (dM hs1 B0.out.size);clear hb1 hn1 hs1 Vl Vm XB ZB;go_upto_region 2 with fail;refine cp2 _ x1 w.heap.size b.me (L p1 q1 s1) (L p3 q3 s3) ao an ac la eo en ec le oo dU oc Ht _ _ _ _ _ _ _ _ _ _ _ _ _ _ _ _ _ _ _ _ _ _ _ _ _ _ _ _ _ _ _ _ _ _ _ _ _ _ _ _ _ _ _ _ _ _ _ _ _ _ _ _ _ _ _ _ _ _ _ _ _ _ _ _ _ _ _ _ _ _ _ _ _ _ _ _ _ _ _ _ _ XB1.out (R1.out.on B1.out) (R3.out.on B1.out) (R4.out.on B1.out) LL1.out LL3.out LL4.out ?_;intro x2 v14 v15 v16 v17 v18 v19 v20 v21 v22 v23 v24 v25 p2 q2 s2 p4 q4 s4 p5 q5 s5 hb2 ha2 he2 ho2 Pp Ia;have CS:=J (show Cs w0 w x2 b 0 0 0 (p1,q1,s1) (p2,q2,s2) (p3,q3,s3) (p4,q4,s4) (p5,q5,s5) from {
  vP:=B1.out.trans (Pp _ (aC _))
  bx:=hb2
  bz:=(Ia _ ZB1.out.lt (by omega)).trans ZB1.out
  near:=But.own ⟨Ia,(Pp _ (aC _)).size⟩ N1.out XB1.out (by decide)
  seen:=But.own ⟨Ia,(Pp _ (aC _)).size⟩ J1.out XB1.out (by decide)
  dP:=⟨la,dM ha2 B1.out.size,HA.out.mono fun _ _ q=>⟨q.1,q.2.1,aS q.2.2⟩,.nil⟩
  ent:=⟨le,dM he2 B1.out.size,HE.out.mono fun _ _ q=>⟨q.1,q.2.1,q.2.2.1,q.2.2.2.1,aS q.2.2.2.2⟩,.nil⟩
  own:=⟨Ht,dM ho2 B1.out.size,HO.out.mono fun _ _ q=>⟨q.1,aS q.2⟩,.nil⟩ })
 have Q2:=J (show q2<=900 from by rw [<- iC ha2]; exact LL1.out);have Q4:=J (show q4<=900 from by rw [<- iC he2]; exact LL3.out);have Q5:=J (show q5<=900 from by rw [<- iC ho2]; exact LL4.out);clear hb2 ha2 he2 ho2 Pp Ia XB1 ZB1 N1 J1 B1 S1 R0 R1 R2 R3 R4 HA HE HO LL0 LL1 LL2 LL3 LL4 B0;have cf2:=CS.out.bx.cell 2;simp only [ah,aA,aB] at cf2;go_wp2
 go_loopw [29] (fun i wr=>∃ k:Nat,k<=q2/\i=au ay k/\Cs w0 w wr b k 0 0 (p1,q1,s1) (p2,q2,s2) (p3,q3,s3) (p4,q4,s4) (p5,q5,s5)) (fun i _=>q2-(intOf i).toNat)
 case atStart=>exact⟨0,aO _,rfl,CS.out⟩
 case round =>
  obtain⟨k,hk,rfl,hcs⟩:=hrel;have CS:=J hcs;have hq:=Q2.out;clear hcs;by_cases hlt:k<q2
  ·obtain⟨l,hl,hA,hV⟩:=CS.out.dP;have hln:l.length=q2:=iC hl;obtain⟨g,rfl,hBg⟩:∃ g,p2=Z ⟨g,0,ak⟩/\w.heap.size<=g:=uf hl (show 0<q2 by omega);obtain⟨y,hy⟩:∃ y,l[k]?=Z y:=⟨_,O (by omega)⟩;obtain⟨a,ha⟩:∃ a,b.dP[k]?=Z a:=⟨_,O (by have h:=hA.len; have h2:l.length=q2:=hln; omega)⟩;obtain⟨y',hy',hym⟩:=hA.at k a ha;rw [hy] at hy';obtain rfl:=aH hy';obtain⟨y1,y2,⟨yo,yn,yc⟩,y4⟩:=y;have HW:=J hl;have HAA:=J hA;have HVV:=J hV;have DI:=J hym;have Vn:=J hy;have Cj:=J ha;have HBG:=J hBg;have hw3:IntKind.i64.wrap ((k:Int)+1)=(k:Int)+1:=IntWalk.i64_in _ (by omega);clear hl hA hV hln hy ha hy' hym hBg cf2;go_upto_region 6 with fail;refine cp6 _ wr w.heap.size l w.heap.size b.me (L p1 q1 s1) (L p3 q3 s3) (L p4 q4 s4) (L p5 q5 s5) g q2 s2 k y1 y2 yo yn yc y4 a.p _ _ _ _ _ _ _ _ _ _ _ _ _ _ _ _ _ _ _ _ _ _ _ _ _ _ _ _ _ _ _ _ _ _ _ _ _ _ _ _ _ _ _ _ _ _ _ _ _ _ _ _ _ _ _ _ _ _ _ _ _ _ _ _ _ _ _ _ _ _ _ _ _ _ _ _ _ _ _ _ CS.out.bx HW.out Vn.out (DI.out.2.2.row (W0.out.trans (CS.out.vP.mono W0.out.size))) (HP.out.dP a (aN Cj.out)) ?_;intro x v32 v33 v34 v35 v36 v37 v38 v39 v40 v41 t1 t2 t3 hC hO xB hBel;have CS2:=J (show Cs w0 w x b (k+1) 0 0 (p1,q1,s1) (Z ⟨g,0,ak⟩,q2,s2) (p3,q3,s3) (p4,q4,s4) (p5,q5,s5) from by
    obtain⟨cur,hg⟩:=jU HW.out;exact CS.out.Uq HW.out hO xB (CS.out.vP.trans (hBel _ HBG.out CS.out.vP.size)) (eY.set k _ a (HAA.out.mono fun _ _ q=>q.but xB hg (by decide)) Cj.out ⟨DI.out.1,DI.out.2.1,aG (dM hC CS.out.vP.size)⟩) (yN (HVV.out.mono fun _ _ q=>q.but xB hg (by decide)) (aj.1 Vn.out).1 Cj.out ⟨DI.out.1,DI.out.2.1,aG (dM hC CS.out.vP.size)⟩))
   clear hC hO xB hBel CS HW HAA HVV DI Vn Cj HBG;go_wp2
   go_roundw
   case rel=>exact⟨k+1,by omega,by go_num,CS2.out⟩
   case measure=>simp [intOf]; omega
  ·obtain rfl:q2=k:=by omega
   have cf4:=CS.out.bx.cell 4;simp only [ah,aA,aB] at cf4;clear hlt;go_wp2
   go_loopw [46] (fun i wr=>∃ k:Nat,k<=q4/\i=au ay k/\Cs w0 w wr b q2 k 0 (p1,q1,s1) (p2,q2,s2) (p3,q3,s3) (p4,q4,s4) (p5,q5,s5)) (fun i _=>q4-(intOf i).toNat)
   case atStart=>exact⟨0,aO _,rfl,CS.out⟩
   case round =>
    obtain⟨k,hk,rfl,hcs⟩:=hrel;have CS:=J hcs;have hq:=Q4.out;clear hcs;by_cases hlt:k<q4
    ·obtain⟨l,hl,hA,hV⟩:=CS.out.ent;have hln:l.length=q4:=iC hl;obtain⟨g,rfl,hBg⟩:∃ g,p4=Z ⟨g,0,ak⟩/\w.heap.size<=g:=uf hl (show 0<q4 by omega);obtain⟨y,hy⟩:∃ y,l[k]?=Z y:=⟨_,O (by omega)⟩;obtain⟨a,ha⟩:∃ a,b.ent[k]?=Z a:=⟨_,O (by have h:=hA.len; have h2:l.length=q4:=hln; omega)⟩;obtain⟨y',hy',hym⟩:=hA.at k a ha;rw [hy] at hy';obtain rfl:=aH hy';obtain⟨y1,y2,y3,y4,⟨yo,yn,yc⟩,y6,y7⟩:=y;have HW:=J hl;have HAA:=J hA;have HVV:=J hV;have DI:=J hym;have Vn:=J hy;have Cj:=J ha;have HBG:=J hBg;have hw3:IntKind.i64.wrap ((k:Int)+1)=(k:Int)+1:=IntWalk.i64_in _ (by omega);clear hl hA hV hln hy ha hy' hym hBg cf4;go_upto_region 11 with fail;refine ala _ wr w.heap.size l w.heap.size b.me (L p1 q1 s1) (L p2 q2 s2) (L p3 q3 s3) (L p5 q5 s5) g q4 s4 k y1 y2 y3 y4 yo yn yc y6 y7 a.p _ _ _ _ _ _ _ _ _ _ _ _ _ _ _ _ _ _ _ _ _ _ _ _ _ _ _ _ _ _ _ _ _ _ _ _ _ _ _ _ _ _ _ _ _ _ _ _ _ _ _ _ _ _ _ _ _ _ _ _ _ _ _ _ _ _ _ _ _ _ _ _ _ _ _ _ _ _ _ _ CS.out.bx HW.out Vn.out (DI.out.2.2.2.2.row (W0.out.trans (CS.out.vP.mono W0.out.size))) (HP.out.ent a (aN Cj.out)) ?_;intro x v49 v50 v51 v52 v53 v54 v55 v56 v57 v58 v59 v60 t1 t2 t3 hC hO xB hBel;have CS2:=J (show Cs w0 w x b q2 (k+1) 0 (p1,q1,s1) (p2,q2,s2) (p3,q3,s3) (Z ⟨g,0,ak⟩,q4,s4) (p5,q5,s5) from by
      obtain⟨cur,hg⟩:=jU HW.out;exact CS.out.akD HW.out hO xB (CS.out.vP.trans (hBel _ HBG.out CS.out.vP.size)) (eY.set k _ a (HAA.out.mono fun _ _ q=>q.but xB hg (by decide)) Cj.out ⟨DI.out.1,DI.out.2.1,DI.out.2.2.1,DI.out.2.2.2.1,aG (dM hC CS.out.vP.size)⟩) (yN (HVV.out.mono fun _ _ q=>q.but xB hg (by decide)) (aj.1 Vn.out).1 Cj.out ⟨DI.out.1,DI.out.2.1,DI.out.2.2.1,DI.out.2.2.2.1,aG (dM hC CS.out.vP.size)⟩))
     clear hC hO xB hBel CS HW HAA HVV DI Vn Cj HBG;go_wp2
     go_roundw
     case rel=>exact⟨k+1,by omega,by go_num,CS2.out⟩
     case measure=>simp [intOf]; omega
    ·obtain rfl:q4=k:=by omega
     have cf5:=CS.out.bx.cell 5;simp only [ah,aA,aB] at cf5;clear hlt;go_wp2
     go_loopw [65] (fun i wr=>∃ k:Nat,k<=q5/\i=au ay k/\Cs w0 w wr b q2 q4 k (p1,q1,s1) (p2,q2,s2) (p3,q3,s3) (p4,q4,s4) (p5,q5,s5)) (fun i _=>q5-(intOf i).toNat)
     case atStart=>exact⟨0,aO _,rfl,CS.out⟩
     case round =>
      obtain⟨k,hk,rfl,hcs⟩:=hrel;have CS:=J hcs;have hq:=Q5.out;clear hcs;by_cases hlt:k<q5
      ·obtain⟨l,hl,hA,hV⟩:=CS.out.own;have hln:l.length=q5:=iC hl;obtain⟨g,rfl,hBg⟩:∃ g,p5=Z ⟨g,0,ak⟩/\w.heap.size<=g:=uf hl (show 0<q5 by omega);obtain⟨y,hy⟩:∃ y,l[k]?=Z y:=⟨_,O (by omega)⟩;obtain⟨a,ha⟩:∃ a,b.own[k]?=Z a:=⟨_,O (by have h:=hA.len; have h2:l.length=q5:=hln; omega)⟩;obtain⟨y',hy',hym⟩:=hA.at k a ha;rw [hy] at hy';obtain rfl:=aH hy';obtain⟨y1,y2,⟨yo,yn,yc⟩⟩:=y;have HW:=J hl;have HAA:=J hA;have HVV:=J hV;have DI:=J hym;have Vn:=J hy;have Cj:=J ha;have HBG:=J hBg;have hw3:IntKind.i64.wrap ((k:Int)+1)=(k:Int)+1:=IntWalk.i64_in _ (by omega);clear hl hA hV hln hy ha hy' hym hBg cf5;go_upto_region 16 with fail;refine alb _ wr w.heap.size l w.heap.size b.me (L p1 q1 s1) (L p2 q2 s2) (L p3 q3 s3) (L p4 q4 s4) g q5 s5 k y1 y2 yo yn yc a.p _ _ _ _ _ _ _ _ _ _ _ _ _ _ _ _ _ _ _ _ _ _ _ _ _ _ _ _ _ _ _ _ _ _ _ _ _ _ _ _ _ _ _ _ _ _ _ _ _ _ _ _ _ _ _ _ _ _ _ _ _ _ _ _ _ _ _ _ _ _ _ _ _ _ _ _ _ _ _ _ CS.out.bx HW.out Vn.out (DI.out.2.row (W0.out.trans (CS.out.vP.mono W0.out.size))) (HP.out.own a (aN Cj.out)) ?_;intro x v68 v69 v70 v71 v72 v73 v74 v75 v76 v77 v78 v79 t1 t2 t3 hC hO xB hBel;have CS2:=J (show Cs w0 w x b q2 q4 (k+1) (p1,q1,s1) (p2,q2,s2) (p3,q3,s3) (p4,q4,s4) (Z ⟨g,0,ak⟩,q5,s5) from by
        obtain⟨cur,hg⟩:=jU HW.out;exact CS.out.setW HW.out hO xB (CS.out.vP.trans (hBel _ HBG.out CS.out.vP.size)) (eY.set k _ a (HAA.out.mono fun _ _ q=>q.but xB hg (by decide)) Cj.out ⟨DI.out.1,aG (dM hC CS.out.vP.size)⟩) (yN (HVV.out.mono fun _ _ q=>q.but xB hg (by decide)) (aj.1 Vn.out).1 Cj.out ⟨DI.out.1,aG (dM hC CS.out.vP.size)⟩))
       clear hC hO xB hBel CS HW HAA HVV DI Vn Cj HBG;go_wp2
       go_roundw
       case rel=>exact⟨k+1,by omega,by go_num,CS2.out⟩
       case measure=>simp [intOf]; omega
      ·obtain rfl:q5=k:=by omega
       have X1:=CS.out.bx;have Z1:=CS.out.bz;obtain⟨x0,x1,x2,x3,x4,x5⟩:=X1.eX;obtain⟨r0,r1,r2,r3,r4,r5⟩:=Z1.eX;obtain⟨t0,t1,t2,t3,t4,t5⟩:=Z1.kI;have zz:=Z1.lt;have FB:=J (dK Z1 (au ay b.me) (L p1 q1 s1) (L p2 q2 s2) (L p3 q3 s3) (L p4 q4 s4) (L p5 q5 s5));have FD:=J (CS.out.done (au ay b.me) (L p1 q1 s1) (L p2 q2 s2) (L p3 q3 s3) (L p4 q4 s4) (L p5 q5 s5));clear X1 Z1 CS;go_wp2_with fail;obtain⟨v0,v1,v2,v3,v4,v5⟩:=FB.out.eX;refine bodyPost_ret (v:=.agg #[au ay b.me,L p1 q1 s1,L p2 q2 s2,L p3 q3 s3,L p4 q4 s4,L p5 q5 s5]) (by simp [results,Tryz.results91,go_sem,v0,v1,v2,v3,v4,v5]) rfl ?_;exact⟨⟨(p1,q1,s1),(p2,q2,s2),(p3,q3,s3),(p4,q4,s4),(p5,q5,s5),rfl,FD.out.1⟩,FD.out.2⟩
end Go.Proofs.YtmklifheakemeaaGreat.Av
