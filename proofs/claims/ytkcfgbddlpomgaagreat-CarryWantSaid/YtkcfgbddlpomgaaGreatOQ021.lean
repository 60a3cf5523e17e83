/-
  slices.BinarySearchF. Conditions as told.
-/
import Derived.Test.YtkcfgbddlpomgaaGreatOQ017
import Derived.Test.YtkcfgbddlpomgaaGreatOQ020
import Derived.Deep.LoopGhost
set_option maxRecDepth 100000
set_option maxHeartbeats 64000000
open _root_.Go renaming below_regrown->L,cell_regrown->O,redrawn->V,World->ah
open Go.IntKind renaming i64->U
open Go.Lib renaming hid->D
open Go.Value renaming int->Q
open _root_.List renaming getElem?_eq_getElem->J
open _root_.Nat renaming le_refl->K,lt_or_ge->Z
namespace Go.Proofs.YtkcfgbddlpomgaaGreat.Av
open Go.RowKit Go.Sort Rw YtkcfgbddlpomgaaGreat.Nm Pr Bk
abbrev uX (x:eT):eT:=x
theorem U0 {W W1:ah} {v:Value} {l:List eT} {ao:Option Addr} {n c k:Nat} {x:eT} (h:xP W v l) (hv:v=.slice ao n c) (hn:l.length=n) (hk:l[k]?=some x) (hb:Below W.heap.size W W1) :
  ∃ p:Addr,(∀ w,(Instr.indexAt 29 (.slice ao n c) (Q U k)).run Tryz.prog w=.ok (.pointer (some p)) w) /\
   (∀ d os,(grow (V W1 d) os).cell? p=some (Q U x.1))/\(∀ d os,(grow (V W1 d) os).cell? ⟨p.block,p.off+1,none⟩=some (Q U x.2)):=by
 obtain⟨p,h1,h2⟩:=elJ h hv hn hk;obtain⟨c0,c1⟩:=h2 _ hb;exact⟨p,h1,O c0,O c1⟩
theorem ND {W:ah} {b:Nat} {c:eT} (h:dN W b #[Q U c.1,Q U c.2] 38):(∀ d os,(grow (V W d) os).cell? ⟨b,0,none⟩=some (Q U c.1))/\(∀ d os,(grow (V W d) os).cell? ⟨b,1,none⟩=some (Q U c.2)) :=
 ⟨O (h.cell 0),O (h.cell 1)⟩
theorem NG (c d:eT) (r:Int) (hr:mQ c d=r) (w:ah) (k:Nat) (os:Array Obj) :
  Calls Tryz.prog 73 #[mY c,mY d] (grow (V w k) os) fun e w''=>e=.returned (Q U r)/\∃ p:Regrown,w''=grow (V w p.d) p.os:=by
 subst hr;exact Calls.regrown_of (Ap c d _)
theorem Y7 (v:Value) (l:List eT) (c:eT) (w:ah) (hv:xP w v l) (hr:kW uX l) (hl:l.length<=900) :
  Calls Tryz.prog 100 #[v,mY c,.func (.func 73) #[] #[]] w fun e w'=>e=.returned (.tuple #[Q U (gN uX l c),.bool (mU uX l c)])/\Below w.heap.size w w':=by
 have HL:=D hv;have HR:=D hr;have BX:=D (dO w #[Q U c.1,Q U c.2] 38);have B1:=D ((Below.refl w.heap.size w).alloc (K _) (.cells #[Q U c.1,Q U c.2] 38));obtain⟨ao,ac,rfl⟩:=hv.len;obtain⟨n,hn⟩:∃ n,n=l.length:=⟨_,rfl⟩;rw [<- hn] at HL hl ⊢;have HN:=D hn;obtain⟨cnt,hc⟩:∃ k,k=gN uX l c:=⟨_,rfl⟩;obtain⟨th,ht⟩:∃ k,k=mU uX l c:=⟨_,rfl⟩;rw [<- hc,<- ht];have HC:=D hc;have HT:=D ht;clear hv hr hn hc ht;obtain⟨c1,c2⟩:=c;go_enter Tryz.func100,Tryz.ntmps100;go_wp2;generalize w.alloc (.cells #[Q U c1,Q U c2] 38)=w1 at *
 go_loopg [9,10] n (fun kx s9 s10 wr=>∃ lo hi:Nat,s9=Q U lo/\s10=Q U hi/\lo<=hi/\hi<=n/\hi-lo<=kx/\Below w.heap.size w wr/\dN wr w.heap.size #[Q U c1,Q U c2] 38 /\
  (∀ (t:Nat) (y:eT),t<lo->l[t]?=some y->eO y (c1,c2)=true)/\(∀ (t:Nat) (y:eT),hi<=t->l[t]?=some y->eO y (c1,c2)=false))
 case atStart=>exact⟨0,n,rfl,rfl,Nat.zero_le _,K _,by omega,B1.out,BX.out,fun t y h=>by omega,fun t y h1 h2=>by have:=(List.getElem?_eq_some_iff.1 h2).1; have:=HN.out; omega⟩
 case round =>
  clear B1 BX;obtain⟨lo,hi,rfl,rfl,hlh,hin,hg,hb,hx,ha,hz⟩:=hrel;have B:=D hb;have X:=D hx;have AL:=D ha;have ZL:=D hz;clear hb hx ha hz;by_cases hlt:lo<hi
  ·obtain⟨y,hy⟩:∃ y,l[(lo+hi) / 2]?=some y:=⟨_,J (by have:=HN.out; omega)⟩;obtain⟨p,ix,p0,p1⟩:=U0 HL.out rfl HN.out.symm hy B.out;obtain⟨b0,b1⟩:=ND (c:=(c1,c2)) X.out;obtain⟨r,hr⟩:∃ r,mQ y (c1,c2)=r:=⟨_,rfl⟩;have C:=NG y (c1,c2) r hr wr;have LE:=D (show decide (r<0)=eO y (c1,c2) by rw [<- hr]; exact Ea _ _);have Y:=D hy;clear hy hr;have e23:((lo:Int)+(hi:Int)) / 2=(((lo+hi) / 2:Nat):Int):=by omega
   generalize hm:(lo+hi) / 2=m at *;have BN:=D (fun dq osq=>B.out.trans ((L wr dq osq).mono B.out.size));have XN:=D (fun dq osq=>X.out.on (L wr dq osq));obtain⟨y1,y2⟩:=y;simp only at p0 p1 b0 b1 C;by_cases hneg:r<0
   ·have d0:decide (r<0)=true:=by simpa using hneg
    have LT:=D (show eO (y1,y2) (c1,c2)=true by rw [<- LE.out]; exact d0);go_wp2;refine wp_region_quiet_below (by kernel_rfl) (by kernel_rfl) ?_
    repeat (go_big_quiet_step (first | (with_reducible exact C _ _) | exact Eb _ _))
    refine wpQuiet_nil ?_;intro _ hw';obtain⟨⟨dq,osq⟩,hw''⟩:=hw';subst hw'';clear ix p0 p1 b0 b1 C;go_wp2
    go_roundg (hi-(m+1))
    case measure=>omega
    case rel=>exact⟨m+1,hi,by go_num,rfl,by omega,hin,K _,BN.out _ _,XN.out _ _,fun t z h1 h2=>by
     rcases Z t m with h3|h3
     ·exact iT (nU HR.out (by omega) h2 Y.out) LT.out
     ·obtain rfl:t=m:=by omega
      rw [Y.out] at h2;rw [<- Option.some.inj h2];exact LT.out,ZL.out⟩
   ·have d0:decide (r<0)=false:=by simpa using hneg
    have LT:=D (show eO (y1,y2) (c1,c2)=false by rw [<- LE.out]; exact d0);go_wp2;refine wp_region_quiet_below (by kernel_rfl) (by kernel_rfl) ?_
    repeat (go_big_quiet_step (first | (with_reducible exact C _ _) | exact Eb _ _))
    refine wpQuiet_nil ?_;intro _ hw';obtain⟨⟨dq,osq⟩,hw''⟩:=hw';subst hw'';clear ix p0 p1 b0 b1 C;go_wp2
    go_roundg (m-lo)
    case measure=>omega
    case rel=>exact⟨lo,m,rfl,rfl,by omega,by omega,K _,BN.out _ _,XN.out _ _,AL.out,fun t z h1 h2=>by
     cases h:eO z (c1,c2)
     ·rfl
     ·rcases Z m t with h3|h3
      ·have:=iT (nU HR.out h3 Y.out h2) h;rw [LT.out] at this;cases this
      ·obtain rfl:t=m:=by omega
       rw [Y.out] at h2;rw [<- Option.some.inj h2,LT.out] at h;cases h⟩
  ·obtain rfl:hi=lo:=by omega
   have E:=D (D9 uX l (c1,c2) hi AL.out (by
    rcases Z hi n with h|h
    ·exact Or.inr ⟨_,J (by have:=HN.out; omega),ZL.out hi _ (K _) (J (by have:=HN.out; omega))⟩
    ·exact Or.inl (by have:=HN.out; omega)))
   by_cases hn:hi<n
   ·obtain⟨y,hy⟩:∃ y,l[hi]?=some y:=⟨_,J (by have:=HN.out; omega)⟩;obtain⟨p,ix,p0,p1⟩:=U0 HL.out rfl HN.out.symm hy B.out;obtain⟨b0,b1⟩:=ND (c:=(c1,c2)) X.out;obtain⟨r,hr⟩:∃ r,mQ y (c1,c2)=r:=⟨_,rfl⟩;have C:=NG y (c1,c2) r hr wr;have TH:=D (show th=(r == 0) by
     rw [HT.out,mU,E.out,hy,Bool.eq_iff_iff,beq_iff_eq,<- hr,uM,decide_eq_true_eq])
    have BN:=D (fun dq osq=>B.out.trans ((L wr dq osq).mono B.out.size));have CE:=D (show cnt=hi by rw [HC.out,E.out]);clear hy hr hlt;have g4:decide ((hi:Int)<(n:Int))=true:=by simp; omega
    obtain⟨y1,y2⟩:=y;simp only at p0 p1 b0 b1 C;go_wp2;refine wp_region_quiet_below (by kernel_rfl) (by kernel_rfl) ?_
    repeat (go_big_quiet_step (first | (with_reducible exact C _ _) | exact Eb _ _))
    refine wpQuiet_nil ?_;intro _ hw';obtain⟨⟨dq,osq⟩,hw''⟩:=hw';subst hw'';clear ix p0 p1 b0 b1 C;go_wp2
    go_ret2
    exact⟨by rw [TH.out,CE.out]; rfl,BN.out _ _⟩
   ·have TH:=D (show th=false by
     rw [HT.out,mU,E.out,List.getElem?_eq_none (by have:=HN.out; omega)])
    have CE:=D (show cnt=hi by rw [HC.out,E.out]);have BN:=D (fun dq osq=>B.out.trans ((L wr dq osq).mono B.out.size));have g4:decide ((hi:Int)<(n:Int))=false:=by simp; omega
    clear hlt;go_wp2;refine wp_region_quiet_below (by kernel_rfl) (by kernel_rfl) ?_
    repeat (go_big_quiet_step (fail))
    refine wpQuiet_nil ?_;intro _ hw';obtain⟨⟨dq,osq⟩,hw''⟩:=hw';subst hw'';go_wp2
    go_ret2
    exact⟨by rw [TH.out,CE.out]; rfl,BN.out _ _⟩
end Go.Proofs.YtkcfgbddlpomgaaGreat.Av
