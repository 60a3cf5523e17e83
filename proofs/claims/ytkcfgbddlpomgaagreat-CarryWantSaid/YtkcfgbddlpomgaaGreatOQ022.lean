/-
  slices.BinarySearchF. Conditions as told.
-/
import Derived.Test.YtkcfgbddlpomgaaGreatOQ017
import Derived.Test.YtkcfgbddlpomgaaGreatOQ020
import Derived.Deep.LoopGhost
set_option maxRecDepth 100000
set_option maxHeartbeats 64000000
open _root_.Go renaming cell_regrown->K,redrawn->Q,below_regrown->V,World->aj
open Go.IntKind renaming i64->O
open Go.Lib renaming hid->D
open Go.Value renaming int->L,slice->ah
open _root_.List renaming getElem?_eq_getElem->J
open _root_.Nat renaming le_refl->U,lt_or_ge->Z
namespace Go.Proofs.YtkcfgbddlpomgaaGreat.Av
open Go.RowKit Go.Sort Rw YtkcfgbddlpomgaaGreat.Nm Pr Bk
abbrev sQ (x:kr):eT:=(x.1,x.2.1)
theorem U5 {W W1:aj} {v:Value} {l:List kr} {ao:Option Addr} {n c k:Nat} {x:kr} (h:wB W v l) (hv:v=ah ao n c) (hn:l.length=n) (hk:l[k]?=some x) (hb:Below W.heap.size W W1) :
  ∃ p:Addr,(∀ w,(Instr.indexAt 28 (ah ao n c) (L O k)).run Tryz.prog w=.ok (.pointer (some p)) w) /\
   (∀ d os,(grow (Q W1 d) os).cell? p=some (L O x.1))/\(∀ d os,(grow (Q W1 d) os).cell? ⟨p.block,p.off+1,none⟩=some (L O x.2.1))/\(∀ d os,(grow (Q W1 d) os).cell? ⟨p.block,p.off+2,none⟩=some (dU x.2.2.1))/\(∀ d os,(grow (Q W1 d) os).cell? ⟨p.block,p.off+3,none⟩=some (L O x.2.2.2)):=by
 obtain⟨p,h1,h2⟩:=Yh h hv hn hk;obtain⟨c0,c1,c2,c3⟩:=h2 _ hb;exact⟨p,h1,K c0,K c1,K c2,K c3⟩
theorem NH {W:aj} {b:Nat} {c:kr} (h:dN W b #[L O c.1,L O c.2.1,dU c.2.2.1,L O c.2.2.2] 53):(∀ d os,(grow (Q W d) os).cell? ⟨b,0,none⟩=some (L O c.1))/\(∀ d os,(grow (Q W d) os).cell? ⟨b,1,none⟩=some (L O c.2.1))/\(∀ d os,(grow (Q W d) os).cell? ⟨b,2,none⟩=some (dU c.2.2.1))/\(∀ d os,(grow (Q W d) os).cell? ⟨b,3,none⟩=some (L O c.2.2.2)) :=
 ⟨K (h.cell 0),K (h.cell 1),K (h.cell 2),K (h.cell 3)⟩
theorem NI (c d:kr) (r:Int) (hr:mQ (c.1,c.2.1) (d.1,d.2.1)=r) (w:aj) (k:Nat) (os:Array Obj) :
  Calls Tryz.prog 71 #[nR c,nR d] (grow (Q w k) os) fun e w''=>e=.returned (L O r)/\∃ p:Regrown,w''=grow (Q w p.d) p.os:=by
 subst hr;exact Calls.regrown_of (Ql c d _)
theorem Y9 (v:Value) (l:List kr) (c:kr) (w:aj) (hv:wB w v l) (hr:kW sQ l) (hl:l.length<=900) :
  Calls Tryz.prog 98 #[v,nR c,.func (.func 71) #[] #[]] w fun e w'=>e=.returned (.tuple #[L O (gN sQ l (c.1,c.2.1)),.bool (mU sQ l (c.1,c.2.1))])/\Below w.heap.size w w':=by
 have HL:=D hv;have HR:=D hr;have BX:=D (dO w #[L O c.1,L O c.2.1,dU c.2.2.1,L O c.2.2.2] 53);have B1:=D ((Below.refl w.heap.size w).alloc (U _) (.cells #[L O c.1,L O c.2.1,dU c.2.2.1,L O c.2.2.2] 53));obtain⟨ao,ac,rfl⟩:=hv.len;obtain⟨n,hn⟩:∃ n,n=l.length:=⟨_,rfl⟩;rw [<- hn] at HL hl ⊢;have HN:=D hn;obtain⟨cnt,hc⟩:∃ k,k=gN sQ l (c.1,c.2.1):=⟨_,rfl⟩;obtain⟨th,ht⟩:∃ k,k=mU sQ l (c.1,c.2.1):=⟨_,rfl⟩;rw [<- hc,<- ht];have HC:=D hc;have HT:=D ht;clear hv hr hn hc ht;obtain⟨c1,c2,⟨c3,c4,c5⟩,c6⟩:=c;go_enter Tryz.func98,Tryz.ntmps98;go_wp2;generalize w.alloc (.cells #[L O c1,L O c2,ah c3 c4 c5,L O c6] 53)=w1 at *
 go_loopg [9,10] n (fun kx s9 s10 wr=>∃ lo hi:Nat,s9=L O lo/\s10=L O hi/\lo<=hi/\hi<=n/\hi-lo<=kx/\Below w.heap.size w wr/\dN wr w.heap.size #[L O c1,L O c2,ah c3 c4 c5,L O c6] 53 /\
  (∀ (t:Nat) (y:kr),t<lo->l[t]?=some y->eO (y.1,y.2.1) (c1,c2)=true)/\(∀ (t:Nat) (y:kr),hi<=t->l[t]?=some y->eO (y.1,y.2.1) (c1,c2)=false))
 case atStart=>exact⟨0,n,rfl,rfl,Nat.zero_le _,U _,by omega,B1.out,BX.out,fun t y h=>by omega,fun t y h1 h2=>by have:=(List.getElem?_eq_some_iff.1 h2).1; have:=HN.out; omega⟩
 case round =>
  clear B1 BX;obtain⟨lo,hi,rfl,rfl,hlh,hin,hg,hb,hx,ha,hz⟩:=hrel;have B:=D hb;have X:=D hx;have AL:=D ha;have ZL:=D hz;clear hb hx ha hz;by_cases hlt:lo<hi
  ·obtain⟨y,hy⟩:∃ y,l[(lo+hi) / 2]?=some y:=⟨_,J (by have:=HN.out; omega)⟩;obtain⟨p,ix,p0,p1,p2,p3⟩:=U5 HL.out rfl HN.out.symm hy B.out;obtain⟨b0,b1,b2,b3⟩:=NH (c:=(c1,c2,(c3,c4,c5),c6)) X.out;obtain⟨r,hr⟩:∃ r,mQ (y.1,y.2.1) (c1,c2)=r:=⟨_,rfl⟩;have C:=NI y (c1,c2,(c3,c4,c5),c6) r hr wr;have LE:=D (show decide (r<0)=eO (y.1,y.2.1) (c1,c2) by rw [<- hr]; exact Ea _ _);have Y:=D hy;clear hy hr;have e23:((lo:Int)+(hi:Int)) / 2=(((lo+hi) / 2:Nat):Int):=by omega
   generalize hm:(lo+hi) / 2=m at *;have BN:=D (fun dq osq=>B.out.trans ((V wr dq osq).mono B.out.size));have XN:=D (fun dq osq=>X.out.on (V wr dq osq));obtain⟨y1,y2,⟨yo,yn,yc⟩,y4⟩:=y;simp only at p0 p1 p2 p3 b0 b1 b2 b3 C;by_cases hneg:r<0
   ·have d0:decide (r<0)=true:=by simpa using hneg
    have LT:=D (show eO (y1,y2) (c1,c2)=true by rw [<- LE.out]; exact d0);go_wp2;refine wp_region_quiet_below (by kernel_rfl) (by kernel_rfl) ?_
    repeat (go_big_quiet_step (first | (with_reducible exact C _ _) | exact Ec _ _))
    refine wpQuiet_nil ?_;intro _ hw';obtain⟨⟨dq,osq⟩,hw''⟩:=hw';subst hw'';clear ix p0 p1 p2 p3 b0 b1 b2 b3 C;go_wp2
    go_roundg (hi-(m+1))
    case measure=>omega
    case rel=>exact⟨m+1,hi,by go_num,rfl,by omega,hin,U _,BN.out _ _,XN.out _ _,fun t z h1 h2=>by
     rcases Z t m with h3|h3
     ·exact iT (nU HR.out (by omega) h2 Y.out) LT.out
     ·obtain rfl:t=m:=by omega
      rw [Y.out] at h2;rw [<- Option.some.inj h2];exact LT.out,ZL.out⟩
   ·have d0:decide (r<0)=false:=by simpa using hneg
    have LT:=D (show eO (y1,y2) (c1,c2)=false by rw [<- LE.out]; exact d0);go_wp2;refine wp_region_quiet_below (by kernel_rfl) (by kernel_rfl) ?_
    repeat (go_big_quiet_step (first | (with_reducible exact C _ _) | exact Ec _ _))
    refine wpQuiet_nil ?_;intro _ hw';obtain⟨⟨dq,osq⟩,hw''⟩:=hw';subst hw'';clear ix p0 p1 p2 p3 b0 b1 b2 b3 C;go_wp2
    go_roundg (m-lo)
    case measure=>omega
    case rel=>exact⟨lo,m,rfl,rfl,by omega,by omega,U _,BN.out _ _,XN.out _ _,AL.out,fun t z h1 h2=>by
     cases h:eO (z.1,z.2.1) (c1,c2)
     ·rfl
     ·rcases Z m t with h3|h3
      ·have:=iT (nU HR.out h3 Y.out h2) h;rw [LT.out] at this;cases this
      ·obtain rfl:t=m:=by omega
       rw [Y.out] at h2;rw [<- Option.some.inj h2,LT.out] at h;cases h⟩
  ·obtain rfl:hi=lo:=by omega
   have E:=D (D9 sQ l (c1,c2) hi AL.out (by
    rcases Z hi n with h|h
    ·exact Or.inr ⟨_,J (by have:=HN.out; omega),ZL.out hi _ (U _) (J (by have:=HN.out; omega))⟩
    ·exact Or.inl (by have:=HN.out; omega)))
   by_cases hn:hi<n
   ·obtain⟨y,hy⟩:∃ y,l[hi]?=some y:=⟨_,J (by have:=HN.out; omega)⟩;obtain⟨p,ix,p0,p1,p2,p3⟩:=U5 HL.out rfl HN.out.symm hy B.out;obtain⟨b0,b1,b2,b3⟩:=NH (c:=(c1,c2,(c3,c4,c5),c6)) X.out;obtain⟨r,hr⟩:∃ r,mQ (y.1,y.2.1) (c1,c2)=r:=⟨_,rfl⟩;have C:=NI y (c1,c2,(c3,c4,c5),c6) r hr wr;have TH:=D (show th=(r == 0) by
     rw [HT.out,mU,E.out,hy,Bool.eq_iff_iff,beq_iff_eq,<- hr,uM,decide_eq_true_eq])
    have BN:=D (fun dq osq=>B.out.trans ((V wr dq osq).mono B.out.size));have CE:=D (show cnt=hi by rw [HC.out,E.out]);clear hy hr hlt;have g4:decide ((hi:Int)<(n:Int))=true:=by simp; omega
    obtain⟨y1,y2,⟨yo,yn,yc⟩,y4⟩:=y;simp only at p0 p1 p2 p3 b0 b1 b2 b3 C;go_wp2;refine wp_region_quiet_below (by kernel_rfl) (by kernel_rfl) ?_
    repeat (go_big_quiet_step (first | (with_reducible exact C _ _) | exact Ec _ _))
    refine wpQuiet_nil ?_;intro _ hw';obtain⟨⟨dq,osq⟩,hw''⟩:=hw';subst hw'';clear ix p0 p1 p2 p3 b0 b1 b2 b3 C;go_wp2
    go_ret2
    exact⟨by rw [TH.out,CE.out]; rfl,BN.out _ _⟩
   ·have TH:=D (show th=false by
     rw [HT.out,mU,E.out,List.getElem?_eq_none (by have:=HN.out; omega)])
    have CE:=D (show cnt=hi by rw [HC.out,E.out]);have BN:=D (fun dq osq=>B.out.trans ((V wr dq osq).mono B.out.size));have g4:decide ((hi:Int)<(n:Int))=false:=by simp; omega
    clear hlt;go_wp2;refine wp_region_quiet_below (by kernel_rfl) (by kernel_rfl) ?_
    repeat (go_big_quiet_step (fail))
    refine wpQuiet_nil ?_;intro _ hw';obtain⟨⟨dq,osq⟩,hw''⟩:=hw';subst hw'';go_wp2
    go_ret2
    exact⟨by rw [TH.out,CE.out]; rfl,BN.out _ _⟩
end Go.Proofs.YtkcfgbddlpomgaaGreat.Av
