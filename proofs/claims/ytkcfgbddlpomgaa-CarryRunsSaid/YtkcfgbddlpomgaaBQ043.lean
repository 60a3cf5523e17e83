/-
  covered and tight of. Conditions as told.
-/
import Derived.Test.YtkcfgbddlpomgaaBQ041
import Derived.Test.YtkcfgbddlpomgaaBQ033
set_option maxRecDepth 100000
set_option maxHeartbeats 64000000
open Go.IntKind renaming i64->O
open Go.Lib renaming hid->D
open Go.Value renaming int->L,slice->Q,bool->U
open _root_.List renaming getElem?_eq_getElem->J,mem_of_getElem?->K
namespace Go.Proofs.Ytkcfgbddlpomgaa.Sb
open Go.RowKit Go.Sort Rw Ytkcfgbddlpomgaa.Nm Pr Bk Av Rl
theorem yQ (Hf bv:Value) (p q:List C5) (w:World) (ha:gL w Hf p) (hb:gL w bv q) (hp:eF p) (hq:eF q) :
  Calls Try.prog 69 #[Hf,bv] w fun e w'=>e=.returned (U (jm p q))/\Below w.heap.size w w':=by
 obtain⟨a,na,rfl⟩:=hp;obtain⟨b,nb,rfl⟩:=hq;unfold jm;rw [oI,oI];exact rM Hf bv a b w ha hb na nb
theorem Cq {α:Type} (f:α->Bool) {l:List α} (h:∀ (j:Nat) (y:α),j<l.length->l[j]?=some y->f y=false):l.any f=false:=by
 rw [List.any_eq_false];intro e he;obtain⟨j,hj,JG⟩:=List.getElem_of_mem he;simpa using h j e hj (by rw [J hj,JG])
theorem Cr {α:Type} (f:α->Bool) {l:List α} {k:Nat} {y:α} (h:l[k]?=some y) (hf:f y=true):l.any f=true:=by
 rw [List.any_eq_true];exact⟨y,K h,hf⟩
abbrev cE (p:List C5) (e:En):Bool:=e.up && jm e.p p
theorem qD (v:Sl) (pv:Value) (l:List gq) (m:List En) (p':List C5) (w:World) (hs:iY w (dz v) l) (hu:dJ (iT w) l m) (hp:gL w pv p') (hok:∀ e∈m,eF e.p) (hop:eF p') :
  Calls Try.prog 44 #[dz v,pv] w fun e w'=>e=.returned (U (yx m p'))/\Below w.heap.size w w':=by
 have HU:=D hu;have HP:=D hp;have OK:=D hok;have OP:=D hop;obtain⟨pa,pc,rfl⟩:=hp.len;generalize p'.length=pn at *;obtain⟨so,n,sc⟩:=v;have hn:=jf hs;have HS:=D hs;have lm:=hs.most;unfold maxLen at lm;rw [hn] at lm;have HN:=D hn;clear hu hp hok hop hs hn;go_enter Try.func44,Try.ntmps44;go_wp2
 go_loopw [9] (fun i wr=>∃ k:Nat,k<=n/\i=L O k/\Below w.heap.size w wr/\∀ (j:Nat) (y:En),j<k->m[j]?=some y->cE p' y=false) (fun i _=>n-(intOf i).toNat)
 case atStart=>exact⟨0,Nat.zero_le _,rfl,Below.refl _ _,fun j y h=>by omega⟩
 case round =>
  obtain⟨k,hk,rfl,hbe,hall⟩:=hrel;have BE:=D hbe;have AL:=D hall;clear hbe hall;by_cases hlt:k<n
  ·obtain⟨y,hy⟩:∃ y,l[k]?=some y:=⟨_,J (by rw [HN.out]; exact hlt)⟩;obtain⟨q,ix,px⟩:=F4 HS.out rfl HN.out hy;obtain⟨p0,p1,p2,p3,p4,p5,p6⟩:=px wr BE.out;obtain⟨e,he,_,hin⟩:=fO HU.out hy;obtain⟨y1,y2,y3,y4,⟨yo,yn,yc⟩,y6,y7⟩:=y;simp only at p0 p1 p2 p3 p4 p5 p6;have NB:=D (fK wr (.cells #[L O y1,L O y2,L O y3,L O y4,Q yo yn yc,L O y6,U y7] 41));have hw3:IntKind.i64.wrap ((k:Int)+1)=(k:Int)+1:=IntWalk.i64_in _ (by omega);obtain⟨t,ht⟩:∃ r,jm e.p p'=r:=⟨_,rfl⟩;have HV:=D (show cE p' e=(y7 && t) by unfold cE; rw [<- hin.2.2.2.1,ht]);have HE:=D he;have BF:=D (BE.out.trans (NB.out.mono BE.out.size));have CV:=D (yQ (Q yo yn yc) (Q pa pn pc) e.p p' _ (hin.2.2.2.2.on BF.out) (HP.out.on BF.out) (OK.out _ (K he)) OP.out);rw [ht] at CV;clear px hy ht he hin;cases y7
   ·clear CV;go_wp2
    go_roundw
    case rel=>exact⟨k+1,by omega,by go_num,BF.out,fun j y' hj h1=>by
     rcases Nat.lt_or_ge j k with h3|h3
     ·exact AL.out j y' h3 h1
     ·obtain rfl:j=k:=by omega
      have e1:=HE.out;rw [h1] at e1;rw [Option.some.inj e1];exact HV.out.trans (by simp)⟩
    case measure=>simp [intOf]; omega
   ·go_wp2_with fail;refine CV.out.mono ?_;rintro e3 w3 ⟨rfl,hb⟩;have BG:=D (BF.out.trans (hb.mono BF.out.size));clear CV hb p0 p1 p2 p3 p4 p5 p6 ix;cases t
    ·go_wp2
     go_roundw
     case rel=>exact⟨k+1,by omega,by go_num,BG.out,fun j y' hj h1=>by
      rcases Nat.lt_or_ge j k with h3|h3
      ·exact AL.out j y' h3 h1
      ·obtain rfl:j=k:=by omega
       have e1:=HE.out;rw [h1] at e1;rw [Option.some.inj e1];exact HV.out.trans (by simp)⟩
     case measure=>simp [intOf]; omega
    ·have hd:yx m p'=true:=Cr (cE p') HE.out (HV.out.trans (by simp));go_wp2;go_ret;exact⟨by rw [hd]; rfl,BG.out⟩
  ·obtain rfl:k=n:=by omega
   have hd:yx m p'=false:=Cq (cE p') fun j y hj h=>AL.out j y (by rw [<- HN.out,HU.out.len]; exact hj) h;go_wp2;go_ret;exact⟨by rw [hd]; rfl,BE.out⟩
theorem yR {W:World} {v:Sl} {l:List gq} {m:List En} (hv:iY W (dz v) l) (hA:dJ (iT W) l m) (t:dI):iY W (dz (cutV v (eT m t) (iV m t).length)) ((l.drop (eT m t)).take (iV m t).length)/\dJ (iT W) ((l.drop (eT m t)).take (iV m t).length) (iV m t):=by
 refine⟨(tF hv _ _ (by rw [hA.len]; exact kQ m t)).2,?_⟩;have h:=(hA.drop (eT m t)).take (iV m t).length;have e:(m.drop (eT m t)).take (iV m t).length=iV m t:=by
  unfold iV
  conv=>lhs; arg 2; rw [<- List.takeWhile_append_dropWhile (p:=fun e:En=>decide (e.tree=t)) (l:=m.drop (eT m t))]
  rw [List.take_left]
 rw [e] at h;exact h
theorem yS (m:List En) (t:dI):∀ e∈iV m t,e∈m:=fun _ he=>List.mem_of_mem_drop ((List.takeWhile_sublist _).subset he)
theorem yT (me:Int) (nv av sv ov:Value) (ev:Sl) (l:List gq) (m:List En) (t:dI) (pv:Value) (p':List C5) (w:World) (hs:iY w (dz ev) l) (hu:dJ (iT w) l m) (hr:fM m) (hl:l.length<=1000) (hp:gL w pv p') (hok:∀ e∈m,eF e.p) (hop:eF p') :
  Calls Try.prog 21 #[.agg #[L O me,nv,av,sv,dz ev,ov],lq t,pv] w fun e w'=>e=.returned (U (gJ m t p'))/\Below w.heap.size w w':=by
 obtain⟨pa,pc,rfl⟩:=hp.len;obtain⟨so,n,sc⟩:=ev;obtain⟨c,d⟩:=t;obtain⟨h0,X,Y⟩:=eX w #[L O me,nv,av,sv,Q so n sc,ov] #[L O c,L O d] 30 23;have B:=D h0;have x4:=X.cell 4;obtain⟨y0,y1⟩:=Y.cs2;simp only [List.getElem?_toArray,List.getElem?_cons_zero,List.getElem?_cons_succ] at x4;have BR:=D (mK (so,n,sc) l m (c,d) _ (hs.on h0) (hu.mono fun _ _ q=>q.on h0) hr hl);obtain⟨q1,q2⟩:=yR (hs.on h0) (hu.mono fun _ _ q=>q.on h0) (c,d);have Q1:=D q1;have Q2:=D q2;have HP:=D (hp.on h0);have OK:=D (fun e he=>hok e (yS m (c,d) e he));have CB:=D (Ci hr (c,d) p');generalize p'.length=pn at *;generalize gJ m (c,d) p'=r at *;generalize cutV (so,n,sc) (eT m (c,d)) (iV m (c,d)).length=z at *;obtain⟨z1,z2,z3⟩:=z;clear h0 X Y hs hu hr hl hp hok q1 q2;go_enter Try.func21,Try.ntmps21;go_wp2_with fail;generalize (w.alloc (.cells #[L O me,nv,av,sv,Q so n sc,ov] 30)).alloc (.cells #[L O c,L O d] 23)=W at *;refine BR.out.mono ?_;rintro e1 w1 ⟨rfl,hb⟩;have HB:=D hb;have CV:=D (qD (z1,z2,z3) (Q pa pn pc) _ (iV m (c,d)) p' w1 (Q1.out.on hb) (Q2.out.mono fun _ _ q=>q.on hb) (HP.out.on hb) OK.out hop);clear x4 y0 y1 hb BR;go_wp2_with fail;refine CV.out.mono ?_;rintro e2 w2 ⟨rfl,hb2⟩;go_wp2;go_ret;exact⟨by rw [<- CB.out]; rfl,B.out.trans ((HB.out.trans (hb2.mono HB.out.size)).mono B.out.size)⟩
end Go.Proofs.Ytkcfgbddlpomgaa.Sb
