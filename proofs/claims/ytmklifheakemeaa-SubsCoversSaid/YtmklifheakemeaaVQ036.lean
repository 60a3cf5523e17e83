/-
  covered and tight of. Conditions as told.
-/
import Derived.Test.YtmklifheakemeaaVQ035
import Derived.Test.YtmklifheakemeaaVQ020
set_option maxRecDepth 100000
set_option maxHeartbeats 64000000
open Go.IntKind renaming i64->V
open Go.Lib renaming hid->D
open Go.Value renaming int->U,slice->X,bool->Z
open _root_.List renaming getElem?_eq_getElem->J,mem_of_getElem?->K,getElem_of_mem->Q
open _root_.Nat renaming lt_or_ge->O,zero_le->Y
open Option.some renaming inj->L
namespace Go.Proofs.Ytmklifheakemeaa.Sb
open Go.RowKit Go.Sort Rw Ytmklifheakemeaa.Nm Pr Bk Av Rl
theorem sW (P7 bv:Value) (p q:List C5) (w:World) (ha:iy w P7 p) (hb:iy w bv q) (hp:eO p) (hq:eO q) :
  Calls Try.prog 15 #[P7,bv] w fun e w'=>e=.returned (Z (jD p q))/\Below w.heap.size w w':=by
 obtain⟨a,na,rfl⟩:=hp;obtain⟨b,nb,rfl⟩:=hq;unfold jD;rw [BJ,BJ];exact Ay P7 bv a b w ha hb na nb
theorem Kw {α:Type} (f:α->Bool) {l:List α} (h:∀ (j:Nat) (y:α),j<l.length->l[j]?=some y->f y=false):l.any f=false:=by
 rw [List.any_eq_false];intro e he;obtain⟨j,hj,P8⟩:=Q he;simpa using h j e hj (by rw [J hj,P8])
theorem Ky {α:Type} (f:α->Bool) {l:List α} {k:Nat} {y:α} (h:l[k]?=some y) (hf:f y=true):l.any f=true:=by
 rw [List.any_eq_true];exact⟨y,K h,hf⟩
abbrev cE (p:List C5) (e:En):Bool:=e.up && jD e.p p
theorem mZ (v:Sl) (pv:Value) (l:List gM) (m:List En) (p':List C5) (w:World) (hs:jR w (dR v) l) (hu:eF (iC w) l m) (hp:iy w pv p') (hok:∀ e∈m,eO e.p) (hop:eO p') :
  Calls Try.prog 35 #[dR v,pv] w fun e w'=>e=.returned (Z (qK m p'))/\Below w.heap.size w w':=by
 have HU:=D hu;have HP:=D hp;have OK:=D hok;have OP:=D hop;obtain⟨pa,pc,rfl⟩:=hp.len;generalize p'.length=pn at *;obtain⟨so,n,sc⟩:=v;have hn:=gX hs;have HS:=D hs;have lm:=hs.most;unfold maxLen at lm;rw [hn] at lm;have HN:=D hn;clear hu hp hok hop hs hn;go_enter Try.func35,Try.ntmps35;go_wp2
 go_loopw [9] (fun i wr=>∃ k:Nat,k<=n/\i=U V k/\Below w.heap.size w wr/\∀ (j:Nat) (y:En),j<k->m[j]?=some y->cE p' y=false) (fun i _=>n-(intOf i).toNat)
 case atStart=>exact⟨0,Y _,rfl,Below.refl _ _,fun j y h=>by omega⟩
 case round =>
  obtain⟨k,hk,rfl,hbe,hall⟩:=hrel;have BE:=D hbe;have AL:=D hall;clear hbe hall;by_cases hlt:k<n
  ·obtain⟨y,hy⟩:∃ y,l[k]?=some y:=⟨_,J (by rw [HN.out]; exact hlt)⟩;obtain⟨q,ix,px⟩:=Iw HS.out rfl HN.out hy;obtain⟨p0,p1,p2,p3,p4,p5,p6⟩:=px wr BE.out;obtain⟨e,he,_,hin⟩:=iQ HU.out hy;obtain⟨y1,y2,y3,y4,⟨yo,yn,yc⟩,y6,y7⟩:=y;simp only at p0 p1 p2 p3 p4 p5 p6;have NB:=D (iG wr (.cells #[U V y1,U V y2,U V y3,U V y4,X yo yn yc,U V y6,Z y7] 43));have hw3:IntKind.i64.wrap ((k:Int)+1)=(k:Int)+1:=IntWalk.i64_in _ (by omega);obtain⟨t,ht⟩:∃ r,jD e.p p'=r:=⟨_,rfl⟩;have HV:=D (show cE p' e=(y7 && t) by unfold cE; rw [<- hin.2.2.2.1,ht]);have HE:=D he;have BF:=D (BE.out.trans (NB.out.mono BE.out.size));have CV:=D (sW (X yo yn yc) (X pa pn pc) e.p p' _ (hin.2.2.2.2.on BF.out) (HP.out.on BF.out) (OK.out _ (K he)) OP.out);rw [ht] at CV;clear px hy ht he hin;cases y7
   ·clear CV;go_wp2
    go_roundw
    case rel=>exact⟨k+1,by omega,by go_num,BF.out,fun j y' hj h1=>by
     rcases O j k with h3|h3
     ·exact AL.out j y' h3 h1
     ·obtain rfl:j=k:=by omega
      have e1:=HE.out;rw [h1] at e1;rw [L e1];exact HV.out.trans (by simp)⟩
    case measure=>simp [intOf]; omega
   ·go_wp2_with fail;refine CV.out.mono ?_;rintro e3 w3 ⟨rfl,hb⟩;have BG:=D (BF.out.trans (hb.mono BF.out.size));clear CV hb p0 p1 p2 p3 p4 p5 p6 ix;cases t
    ·go_wp2
     go_roundw
     case rel=>exact⟨k+1,by omega,by go_num,BG.out,fun j y' hj h1=>by
      rcases O j k with h3|h3
      ·exact AL.out j y' h3 h1
      ·obtain rfl:j=k:=by omega
       have e1:=HE.out;rw [h1] at e1;rw [L e1];exact HV.out.trans (by simp)⟩
     case measure=>simp [intOf]; omega
    ·have hd:qK m p'=true:=Ky (cE p') HE.out (HV.out.trans (by simp));go_wp2;go_ret;exact⟨by rw [hd]; rfl,BG.out⟩
  ·obtain rfl:k=n:=by omega
   have hd:qK m p'=false:=Kw (cE p') fun j y hj h=>AL.out j y (by rw [<- HN.out,HU.out.len]; exact hj) h;go_wp2;go_ret;exact⟨by rw [hd]; rfl,BE.out⟩
theorem Gt {α:Type} (f:α->Bool) {l:List α} (h:∀ (j:Nat) (y:α),j<l.length->l[j]?=some y->f y=true):l.all f=true:=by
 rw [List.all_eq_true];intro e he;obtain⟨j,hj,P8⟩:=Q he;exact h j e hj (by rw [J hj,P8])
theorem Gu {α:Type} (f:α->Bool) {l:List α} {k:Nat} {y:α} (h:l[k]?=some y) (hf:f y=false):l.all f=false:=by
 rw [List.all_eq_false];exact⟨y,K h,by rw [hf]; simp⟩
abbrev tE (r:List En) (e:En):Bool:=e.up || qK r e.p
theorem Dz (v:Sl) (l:List gM) (m:List En) (w:World) (hs:jR w (dR v) l) (hu:eF (iC w) l m) (hok:∀ e∈m,eO e.p) :
  Calls Try.prog 39 #[dR v] w fun e w'=>e=.returned (Z (oP m))/\Below w.heap.size w w':=by
 have HU:=D hu;have OK:=D hok;have HS:=D hs;obtain⟨so,n,sc⟩:=v;have hn:=gX hs;have lm:=hs.most;unfold maxLen at lm;rw [hn] at lm;have HN:=D hn;clear hu hok hs hn;go_enter Try.func39,Try.ntmps39;go_wp2
 go_loopw [7] (fun i wr=>∃ k:Nat,k<=n/\i=U V k/\Below w.heap.size w wr/\∀ (j:Nat) (y:En),j<k->m[j]?=some y->tE m y=true) (fun i _=>n-(intOf i).toNat)
 case atStart=>exact⟨0,Y _,rfl,Below.refl _ _,fun j y h=>by omega⟩
 case round =>
  obtain⟨k,hk,rfl,hbe,hall⟩:=hrel;have BE:=D hbe;have AL:=D hall;clear hbe hall;by_cases hlt:k<n
  ·obtain⟨y,hy⟩:∃ y,l[k]?=some y:=⟨_,J (by rw [HN.out]; exact hlt)⟩;obtain⟨q,ix,px⟩:=Iw HS.out rfl HN.out hy;obtain⟨p0,p1,p2,p3,p4,p5,p6⟩:=px wr BE.out;obtain⟨e,he,_,hin⟩:=iQ HU.out hy;obtain⟨y1,y2,y3,y4,⟨yo,yn,yc⟩,y6,y7⟩:=y;simp only at p0 p1 p2 p3 p4 p5 p6;have NB:=D (iG wr (.cells #[U V y1,U V y2,U V y3,U V y4,X yo yn yc,U V y6,Z y7] 43));have hw3:IntKind.i64.wrap ((k:Int)+1)=(k:Int)+1:=IntWalk.i64_in _ (by omega);obtain⟨t,ht⟩:∃ r,qK m e.p=r:=⟨_,rfl⟩;have HV:=D (show tE m e=(y7 || t) by unfold tE; rw [<- hin.2.2.2.1,ht]);have HE:=D he;have BF:=D (BE.out.trans (NB.out.mono BE.out.size));have CV:=D (mZ (so,n,sc) (X yo yn yc) l m e.p _ (HS.out.on BF.out) (HU.out.mono fun _ _ q=>q.on BF.out) (hin.2.2.2.2.on BF.out) OK.out (OK.out _ (K he)));rw [ht] at CV;clear px hy ht he hin;cases y7
   ·go_wp2_with fail;refine CV.out.mono ?_;rintro e3 w3 ⟨rfl,hb⟩;have BG:=D (BF.out.trans (hb.mono BF.out.size));clear CV hb p0 p1 p2 p3 p4 p5 p6 ix;cases t
    ·have hd:oP m=false:=Gu (tE m) HE.out (HV.out.trans (by simp));go_wp2;go_ret;exact⟨by rw [hd]; rfl,BG.out⟩
    ·go_wp2
     go_roundw
     case rel=>exact⟨k+1,by omega,by go_num,BG.out,fun j y' hj h1=>by
      rcases O j k with h3|h3
      ·exact AL.out j y' h3 h1
      ·obtain rfl:j=k:=by omega
       have e1:=HE.out;rw [h1] at e1;rw [L e1];exact HV.out.trans (by simp)⟩
     case measure=>simp [intOf]; omega
   ·clear CV;go_wp2
    go_roundw
    case rel=>exact⟨k+1,by omega,by go_num,BF.out,fun j y' hj h1=>by
     rcases O j k with h3|h3
     ·exact AL.out j y' h3 h1
     ·obtain rfl:j=k:=by omega
      have e1:=HE.out;rw [h1] at e1;rw [L e1];exact HV.out.trans (by simp)⟩
    case measure=>simp [intOf]; omega
  ·obtain rfl:k=n:=by omega
   have hd:oP m=true:=Gt (tE m) fun j y hj h=>AL.out j y (by rw [<- HN.out,HU.out.len]; exact hj) h;go_wp2;go_ret;exact⟨by rw [hd]; rfl,BE.out⟩
end Go.Proofs.Ytmklifheakemeaa.Sb
