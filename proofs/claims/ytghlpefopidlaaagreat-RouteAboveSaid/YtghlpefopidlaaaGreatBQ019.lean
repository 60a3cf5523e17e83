/-
  slices.BinarySearchF. Conditions as told.
-/
import Derived.Test.YtghlpefopidlaaaGreatBQ014
import Derived.Test.YtghlpefopidlaaaGreatBQ015
import Derived.Deep.LoopGhost
set_option maxRecDepth 100000
set_option maxHeartbeats 64000000
open _root_.Go renaming cell_regrown->K,below_regrown->U,redrawn->V,World->aA,Value->aF,Calls->aG
open Go.IntKind renaming i64->O
open Go.Lib renaming hid->D
open Go.Proofs.Tryz renaming prog->au
open Go.Value renaming int->L,slice->aB
open _root_.List renaming getElem?_eq_getElem->J,getElem?_eq_some_iff->ak,getElem?_eq_none->ay
open _root_.Nat renaming le_refl->Q,lt_or_ge->Z,zero_le->aD
open _root_.Option renaming some->aj,none->aC
open Option.some renaming inj->ah
namespace Go.Proofs.YtghlpefopidlaaaGreat.Av
open Go.RowKit Go.Sort Rw YtghlpefopidlaaaGreat.Nm Pr Bk
abbrev qp (x:dV):dV:=x
theorem L8 {W W1:aA} {v:aF} {l:List dV} {ao:Option Addr} {n c k:Nat} {x:dV} (h:Ac W v l) (hv:v=aB ao n c) (hn:l.length=n) (hk:l[k]?=aj x) (hb:Below W.heap.size W W1) :
  ∃ p:Addr,(∀ w,(Instr.indexAt 26 (aB ao n c) (L O k)).run au w=.ok (.pointer (aj p)) w) /\
   (∀ d os,(grow (V W1 d) os).cell? p=aj (L O x.1))/\(∀ d os,(grow (V W1 d) os).cell? ⟨p.block,p.off+1,aC⟩=aj (L O x.2)):=by
 obtain⟨p,h1,h2⟩:=elJ h hv hn hk;obtain⟨c0,c1⟩:=h2 _ hb;exact⟨p,h1,K c0,K c1⟩
theorem GK {W:aA} {b:Nat} {c:dV} (h:dG W b #[L O c.1,L O c.2] 23):(∀ d os,(grow (V W d) os).cell? ⟨b,0,aC⟩=aj (L O c.1))/\(∀ d os,(grow (V W d) os).cell? ⟨b,1,aC⟩=aj (L O c.2)) :=
 ⟨K (h.cell 0),K (h.cell 1)⟩
theorem GN (c d:dV) (r:Int) (hr:jO c d=r) (w:aA) (k:Nat) (os:Array Obj) :
  aG au 38 #[oK c,oK d] (grow (V w k) os) fun e w''=>e=.returned (L O r)/\∃ p:Regrown,w''=grow (V w p.d) p.os:=by
 subst hr;exact Calls.regrown_of (vF c d _)
theorem Qi (v:aF) (l:List dV) (c:dV) (w:aA) (hv:Ac w v l) (hr:iN qp l) (hl:l.length<=900) :
  aG au 105 #[v,oK c,.func (.func 38) #[] #[]] w fun e w'=>e=.returned (.tuple #[L O (eG qp l c),.bool (fO qp l c)])/\Below w.heap.size w w':=by
 have HL:=D hv;have HR:=D hr;have BX:=D (dO w #[L O c.1,L O c.2] 23);have B1:=D ((Below.refl w.heap.size w).alloc (Q _) (.cells #[L O c.1,L O c.2] 23));obtain⟨ao,ac,rfl⟩:=hv.len;obtain⟨n,hn⟩:∃ n,n=l.length:=⟨_,rfl⟩;rw [<- hn] at HL hl ⊢;have HN:=D hn;obtain⟨cnt,hc⟩:∃ k,k=eG qp l c:=⟨_,rfl⟩;obtain⟨th,ht⟩:∃ k,k=fO qp l c:=⟨_,rfl⟩;rw [<- hc,<- ht];have HC:=D hc;have HT:=D ht;clear hv hr hn hc ht;obtain⟨c1,c2⟩:=c;go_enter Tryz.func105,Tryz.ntmps105;go_wp2;generalize w.alloc (.cells #[L O c1,L O c2] 23)=w1 at *
 go_loopg [9,10] n (fun kx s9 s10 wr=>∃ lo hi:Nat,s9=L O lo/\s10=L O hi/\lo<=hi/\hi<=n/\hi-lo<=kx/\Below w.heap.size w wr/\dG wr w.heap.size #[L O c1,L O c2] 23 /\
  (∀ (t:Nat) (y:dV),t<lo->l[t]?=aj y->dP y (c1,c2)=true)/\(∀ (t:Nat) (y:dV),hi<=t->l[t]?=aj y->dP y (c1,c2)=false))
 case atStart=>exact⟨0,n,rfl,rfl,aD _,Q _,by omega,B1.out,BX.out,fun t y h=>by omega,fun t y h1 h2=>by have:=(ak.1 h2).1; have:=HN.out; omega⟩
 case round =>
  clear B1 BX;obtain⟨lo,hi,rfl,rfl,hlh,hin,hg,hb,hx,ha,hz⟩:=hrel;have B:=D hb;have X:=D hx;have AL:=D ha;have ZL:=D hz;clear hb hx ha hz;by_cases hlt:lo<hi
  ·obtain⟨y,hy⟩:∃ y,l[(lo+hi) / 2]?=aj y:=⟨_,J (by have:=HN.out; omega)⟩;obtain⟨p,ix,p0,p1⟩:=L8 HL.out rfl HN.out.symm hy B.out;obtain⟨b0,b1⟩:=GK (c:=(c1,c2)) X.out;obtain⟨r,hr⟩:∃ r,jO y (c1,c2)=r:=⟨_,rfl⟩;have C:=GN y (c1,c2) r hr wr;have LE:=D (show decide (r<0)=dP y (c1,c2) by rw [<- hr]; exact yK _ _);have Y:=D hy;clear hy hr;have e23:((lo:Int)+(hi:Int)) / 2=(((lo+hi) / 2:Nat):Int):=by omega
   generalize hm:(lo+hi) / 2=m at *;have BN:=D (fun dq osq=>B.out.trans ((U wr dq osq).mono B.out.size));have XN:=D (fun dq osq=>X.out.on (U wr dq osq));obtain⟨y1,y2⟩:=y;simp only at p0 p1 b0 b1 C;by_cases hneg:r<0
   ·have d0:decide (r<0)=true:=by simpa using hneg
    have LT:=D (show dP (y1,y2) (c1,c2)=true by rw [<- LE.out]; exact d0);go_wp2;refine wp_region_quiet_below (by kernel_rfl) (by kernel_rfl) ?_
    repeat (go_big_quiet_step (first | (with_reducible exact C _ _) | exact yP _ _))
    refine wpQuiet_nil ?_;intro _ hw';obtain⟨⟨dq,osq⟩,hw''⟩:=hw';subst hw'';clear ix p0 p1 b0 b1 C;go_wp2
    go_roundg (hi-(m+1))
    case measure=>omega
    case rel=>exact⟨m+1,hi,by go_num,rfl,by omega,hin,Q _,BN.out _ _,XN.out _ _,fun t z h1 h2=>by
     rcases Z t m with h3|h3
     ·exact gF (jy HR.out (by omega) h2 Y.out) LT.out
     ·obtain rfl:t=m:=by omega
      rw [Y.out] at h2;rw [<- ah h2];exact LT.out,ZL.out⟩
   ·have d0:decide (r<0)=false:=by simpa using hneg
    have LT:=D (show dP (y1,y2) (c1,c2)=false by rw [<- LE.out]; exact d0);go_wp2;refine wp_region_quiet_below (by kernel_rfl) (by kernel_rfl) ?_
    repeat (go_big_quiet_step (first | (with_reducible exact C _ _) | exact yP _ _))
    refine wpQuiet_nil ?_;intro _ hw';obtain⟨⟨dq,osq⟩,hw''⟩:=hw';subst hw'';clear ix p0 p1 b0 b1 C;go_wp2
    go_roundg (m-lo)
    case measure=>omega
    case rel=>exact⟨lo,m,rfl,rfl,by omega,by omega,Q _,BN.out _ _,XN.out _ _,AL.out,fun t z h1 h2=>by
     cases h:dP z (c1,c2)
     ·rfl
     ·rcases Z m t with h3|h3
      ·have:=gF (jy HR.out h3 Y.out h2) h;rw [LT.out] at this;cases this
      ·obtain rfl:t=m:=by omega
       rw [Y.out] at h2;rw [<- ah h2,LT.out] at h;cases h⟩
  ·obtain rfl:hi=lo:=by omega
   have E:=D (yJ qp l (c1,c2) hi AL.out (by
    rcases Z hi n with h|h
    ·exact Or.inr ⟨_,J (by have:=HN.out; omega),ZL.out hi _ (Q _) (J (by have:=HN.out; omega))⟩
    ·exact Or.inl (by have:=HN.out; omega)))
   by_cases hn:hi<n
   ·obtain⟨y,hy⟩:∃ y,l[hi]?=aj y:=⟨_,J (by have:=HN.out; omega)⟩;obtain⟨p,ix,p0,p1⟩:=L8 HL.out rfl HN.out.symm hy B.out;obtain⟨b0,b1⟩:=GK (c:=(c1,c2)) X.out;obtain⟨r,hr⟩:∃ r,jO y (c1,c2)=r:=⟨_,rfl⟩;have C:=GN y (c1,c2) r hr wr;have TH:=D (show th=(r == 0) by
     rw [HT.out,fO,E.out,hy,Bool.eq_iff_iff,beq_iff_eq,<- hr,pW,decide_eq_true_eq])
    have BN:=D (fun dq osq=>B.out.trans ((U wr dq osq).mono B.out.size));have CE:=D (show cnt=hi by rw [HC.out,E.out]);clear hy hr hlt;have g4:decide ((hi:Int)<(n:Int))=true:=by simp; omega
    obtain⟨y1,y2⟩:=y;simp only at p0 p1 b0 b1 C;go_wp2;refine wp_region_quiet_below (by kernel_rfl) (by kernel_rfl) ?_
    repeat (go_big_quiet_step (first | (with_reducible exact C _ _) | exact yP _ _))
    refine wpQuiet_nil ?_;intro _ hw';obtain⟨⟨dq,osq⟩,hw''⟩:=hw';subst hw'';clear ix p0 p1 b0 b1 C;go_wp2
    go_ret2
    exact⟨by rw [TH.out,CE.out]; rfl,BN.out _ _⟩
   ·have TH:=D (show th=false by
     rw [HT.out,fO,E.out,ay (by have:=HN.out; omega)])
    have CE:=D (show cnt=hi by rw [HC.out,E.out]);have BN:=D (fun dq osq=>B.out.trans ((U wr dq osq).mono B.out.size));have g4:decide ((hi:Int)<(n:Int))=false:=by simp; omega
    clear hlt;go_wp2;refine wp_region_quiet_below (by kernel_rfl) (by kernel_rfl) ?_
    repeat (go_big_quiet_step (fail))
    refine wpQuiet_nil ?_;intro _ hw';obtain⟨⟨dq,osq⟩,hw''⟩:=hw';subst hw'';go_wp2
    go_ret2
    exact⟨by rw [TH.out,CE.out]; rfl,BN.out _ _⟩
abbrev nZ (x:jS):dV:=(x.1,x.2.1)
theorem L9 {W W1:aA} {v:aF} {l:List jS} {ao:Option Addr} {n c k:Nat} {x:jS} (h:Er W v l) (hv:v=aB ao n c) (hn:l.length=n) (hk:l[k]?=aj x) (hb:Below W.heap.size W W1) :
  ∃ p:Addr,(∀ w,(Instr.indexAt 25 (aB ao n c) (L O k)).run au w=.ok (.pointer (aj p)) w) /\
   (∀ d os,(grow (V W1 d) os).cell? p=aj (L O x.1))/\(∀ d os,(grow (V W1 d) os).cell? ⟨p.block,p.off+1,aC⟩=aj (L O x.2.1))/\(∀ d os,(grow (V W1 d) os).cell? ⟨p.block,p.off+2,aC⟩=aj (dQ x.2.2.1))/\(∀ d os,(grow (V W1 d) os).cell? ⟨p.block,p.off+3,aC⟩=aj (L O x.2.2.2)):=by
 obtain⟨p,h1,h2⟩:=Zi h hv hn hk;obtain⟨c0,c1,c2,c3⟩:=h2 _ hb;exact⟨p,h1,K c0,K c1,K c2,K c3⟩
theorem GQ {W:aA} {b:Nat} {c:jS} (h:dG W b #[L O c.1,L O c.2.1,dQ c.2.2.1,L O c.2.2.2] 36):(∀ d os,(grow (V W d) os).cell? ⟨b,0,aC⟩=aj (L O c.1))/\(∀ d os,(grow (V W d) os).cell? ⟨b,1,aC⟩=aj (L O c.2.1))/\(∀ d os,(grow (V W d) os).cell? ⟨b,2,aC⟩=aj (dQ c.2.2.1))/\(∀ d os,(grow (V W d) os).cell? ⟨b,3,aC⟩=aj (L O c.2.2.2)) :=
 ⟨K (h.cell 0),K (h.cell 1),K (h.cell 2),K (h.cell 3)⟩
theorem GU (c d:jS) (r:Int) (hr:jO (c.1,c.2.1) (d.1,d.2.1)=r) (w:aA) (k:Nat) (os:Array Obj) :
  aG au 36 #[lJ c,lJ d] (grow (V w k) os) fun e w''=>e=.returned (L O r)/\∃ p:Regrown,w''=grow (V w p.d) p.os:=by
 subst hr;exact Calls.regrown_of (Jc c d _)
theorem Qj (v:aF) (l:List jS) (c:jS) (w:aA) (hv:Er w v l) (hr:iN nZ l) (hl:l.length<=900) :
  aG au 103 #[v,lJ c,.func (.func 36) #[] #[]] w fun e w'=>e=.returned (.tuple #[L O (eG nZ l (c.1,c.2.1)),.bool (fO nZ l (c.1,c.2.1))])/\Below w.heap.size w w':=by
 have HL:=D hv;have HR:=D hr;have BX:=D (dO w #[L O c.1,L O c.2.1,dQ c.2.2.1,L O c.2.2.2] 36);have B1:=D ((Below.refl w.heap.size w).alloc (Q _) (.cells #[L O c.1,L O c.2.1,dQ c.2.2.1,L O c.2.2.2] 36));obtain⟨ao,ac,rfl⟩:=hv.len;obtain⟨n,hn⟩:∃ n,n=l.length:=⟨_,rfl⟩;rw [<- hn] at HL hl ⊢;have HN:=D hn;obtain⟨cnt,hc⟩:∃ k,k=eG nZ l (c.1,c.2.1):=⟨_,rfl⟩;obtain⟨th,ht⟩:∃ k,k=fO nZ l (c.1,c.2.1):=⟨_,rfl⟩;rw [<- hc,<- ht];have HC:=D hc;have HT:=D ht;clear hv hr hn hc ht;obtain⟨c1,c2,⟨c3,c4,c5⟩,c6⟩:=c;go_enter Tryz.func103,Tryz.ntmps103;go_wp2;generalize w.alloc (.cells #[L O c1,L O c2,aB c3 c4 c5,L O c6] 36)=w1 at *
 go_loopg [9,10] n (fun kx s9 s10 wr=>∃ lo hi:Nat,s9=L O lo/\s10=L O hi/\lo<=hi/\hi<=n/\hi-lo<=kx/\Below w.heap.size w wr/\dG wr w.heap.size #[L O c1,L O c2,aB c3 c4 c5,L O c6] 36 /\
  (∀ (t:Nat) (y:jS),t<lo->l[t]?=aj y->dP (y.1,y.2.1) (c1,c2)=true)/\(∀ (t:Nat) (y:jS),hi<=t->l[t]?=aj y->dP (y.1,y.2.1) (c1,c2)=false))
 case atStart=>exact⟨0,n,rfl,rfl,aD _,Q _,by omega,B1.out,BX.out,fun t y h=>by omega,fun t y h1 h2=>by have:=(ak.1 h2).1; have:=HN.out; omega⟩
 case round =>
  clear B1 BX;obtain⟨lo,hi,rfl,rfl,hlh,hin,hg,hb,hx,ha,hz⟩:=hrel;have B:=D hb;have X:=D hx;have AL:=D ha;have ZL:=D hz;clear hb hx ha hz;by_cases hlt:lo<hi
  ·obtain⟨y,hy⟩:∃ y,l[(lo+hi) / 2]?=aj y:=⟨_,J (by have:=HN.out; omega)⟩;obtain⟨p,ix,p0,p1,p2,p3⟩:=L9 HL.out rfl HN.out.symm hy B.out;obtain⟨b0,b1,b2,b3⟩:=GQ (c:=(c1,c2,(c3,c4,c5),c6)) X.out;obtain⟨r,hr⟩:∃ r,jO (y.1,y.2.1) (c1,c2)=r:=⟨_,rfl⟩;have C:=GU y (c1,c2,(c3,c4,c5),c6) r hr wr;have LE:=D (show decide (r<0)=dP (y.1,y.2.1) (c1,c2) by rw [<- hr]; exact yK _ _);have Y:=D hy;clear hy hr;have e23:((lo:Int)+(hi:Int)) / 2=(((lo+hi) / 2:Nat):Int):=by omega
   generalize hm:(lo+hi) / 2=m at *;have BN:=D (fun dq osq=>B.out.trans ((U wr dq osq).mono B.out.size));have XN:=D (fun dq osq=>X.out.on (U wr dq osq));obtain⟨y1,y2,⟨yo,yn,yc⟩,y4⟩:=y;simp only at p0 p1 p2 p3 b0 b1 b2 b3 C;by_cases hneg:r<0
   ·have d0:decide (r<0)=true:=by simpa using hneg
    have LT:=D (show dP (y1,y2) (c1,c2)=true by rw [<- LE.out]; exact d0);go_wp2;refine wp_region_quiet_below (by kernel_rfl) (by kernel_rfl) ?_
    repeat (go_big_quiet_step (first | (with_reducible exact C _ _) | exact yQ _ _))
    refine wpQuiet_nil ?_;intro _ hw';obtain⟨⟨dq,osq⟩,hw''⟩:=hw';subst hw'';clear ix p0 p1 p2 p3 b0 b1 b2 b3 C;go_wp2
    go_roundg (hi-(m+1))
    case measure=>omega
    case rel=>exact⟨m+1,hi,by go_num,rfl,by omega,hin,Q _,BN.out _ _,XN.out _ _,fun t z h1 h2=>by
     rcases Z t m with h3|h3
     ·exact gF (jy HR.out (by omega) h2 Y.out) LT.out
     ·obtain rfl:t=m:=by omega
      rw [Y.out] at h2;rw [<- ah h2];exact LT.out,ZL.out⟩
   ·have d0:decide (r<0)=false:=by simpa using hneg
    have LT:=D (show dP (y1,y2) (c1,c2)=false by rw [<- LE.out]; exact d0);go_wp2;refine wp_region_quiet_below (by kernel_rfl) (by kernel_rfl) ?_
    repeat (go_big_quiet_step (first | (with_reducible exact C _ _) | exact yQ _ _))
    refine wpQuiet_nil ?_;intro _ hw';obtain⟨⟨dq,osq⟩,hw''⟩:=hw';subst hw'';clear ix p0 p1 p2 p3 b0 b1 b2 b3 C;go_wp2
    go_roundg (m-lo)
    case measure=>omega
    case rel=>exact⟨lo,m,rfl,rfl,by omega,by omega,Q _,BN.out _ _,XN.out _ _,AL.out,fun t z h1 h2=>by
     cases h:dP (z.1,z.2.1) (c1,c2)
     ·rfl
     ·rcases Z m t with h3|h3
      ·have:=gF (jy HR.out h3 Y.out h2) h;rw [LT.out] at this;cases this
      ·obtain rfl:t=m:=by omega
       rw [Y.out] at h2;rw [<- ah h2,LT.out] at h;cases h⟩
  ·obtain rfl:hi=lo:=by omega
   have E:=D (yJ nZ l (c1,c2) hi AL.out (by
    rcases Z hi n with h|h
    ·exact Or.inr ⟨_,J (by have:=HN.out; omega),ZL.out hi _ (Q _) (J (by have:=HN.out; omega))⟩
    ·exact Or.inl (by have:=HN.out; omega)))
   by_cases hn:hi<n
   ·obtain⟨y,hy⟩:∃ y,l[hi]?=aj y:=⟨_,J (by have:=HN.out; omega)⟩;obtain⟨p,ix,p0,p1,p2,p3⟩:=L9 HL.out rfl HN.out.symm hy B.out;obtain⟨b0,b1,b2,b3⟩:=GQ (c:=(c1,c2,(c3,c4,c5),c6)) X.out;obtain⟨r,hr⟩:∃ r,jO (y.1,y.2.1) (c1,c2)=r:=⟨_,rfl⟩;have C:=GU y (c1,c2,(c3,c4,c5),c6) r hr wr;have TH:=D (show th=(r == 0) by
     rw [HT.out,fO,E.out,hy,Bool.eq_iff_iff,beq_iff_eq,<- hr,pW,decide_eq_true_eq])
    have BN:=D (fun dq osq=>B.out.trans ((U wr dq osq).mono B.out.size));have CE:=D (show cnt=hi by rw [HC.out,E.out]);clear hy hr hlt;have g4:decide ((hi:Int)<(n:Int))=true:=by simp; omega
    obtain⟨y1,y2,⟨yo,yn,yc⟩,y4⟩:=y;simp only at p0 p1 p2 p3 b0 b1 b2 b3 C;go_wp2;refine wp_region_quiet_below (by kernel_rfl) (by kernel_rfl) ?_
    repeat (go_big_quiet_step (first | (with_reducible exact C _ _) | exact yQ _ _))
    refine wpQuiet_nil ?_;intro _ hw';obtain⟨⟨dq,osq⟩,hw''⟩:=hw';subst hw'';clear ix p0 p1 p2 p3 b0 b1 b2 b3 C;go_wp2
    go_ret2
    exact⟨by rw [TH.out,CE.out]; rfl,BN.out _ _⟩
   ·have TH:=D (show th=false by
     rw [HT.out,fO,E.out,ay (by have:=HN.out; omega)])
    have CE:=D (show cnt=hi by rw [HC.out,E.out]);have BN:=D (fun dq osq=>B.out.trans ((U wr dq osq).mono B.out.size));have g4:decide ((hi:Int)<(n:Int))=false:=by simp; omega
    clear hlt;go_wp2;refine wp_region_quiet_below (by kernel_rfl) (by kernel_rfl) ?_
    repeat (go_big_quiet_step (fail))
    refine wpQuiet_nil ?_;intro _ hw';obtain⟨⟨dq,osq⟩,hw''⟩:=hw';subst hw'';go_wp2
    go_ret2
    exact⟨by rw [TH.out,CE.out]; rfl,BN.out _ _⟩
end Go.Proofs.YtghlpefopidlaaaGreat.Av
