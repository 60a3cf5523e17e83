/-
  covered and tight of. Conditions as told.
-/
import Derived.Test.YtmklifheakemeaaGreatLQ038
import Derived.Test.YtmklifheakemeaaGreatLQ039
set_option maxRecDepth 100000
set_option maxHeartbeats 64000000
open _root_.Bool renaming false->ay,true->aR
open _root_.Go renaming World->aJ,Value->aS,Calls->aX
open Go.Ending renaming returned->aI
open Go.IntKind renaming i64->O
open Go.IntWalk renaming i64_in->aN
open Go.Lib renaming hid->J
open Go.Obj renaming cells->aC
open Go.Proofs.Tryz renaming prog->aD,results94->aM,underlying61->aQ,results26->aY
open Go.RowKit.Below renaming refl->aH
open Go.Value renaming slice->K,int->L,bool->aj,agg->aZ,cells->bf
open _root_.List renaming getElem?_cons_zero->Q,getElem?_cons_succ->U,getElem?_toArray->ah,getElem?_eq_getElem->ak,mem_of_getElem?->aA,getElem?_eq_some_iff->aF,mem_iff_getElem?->aT,getElem_of_mem->aU,getElem?_map->aV,append_assoc->aW
open _root_.Nat renaming lt_or_ge->aK,le_trans->aL,zero_le->aO,le_refl->aP
open _root_.Option renaming none->au,some->aG
open Option.some renaming inj->aB
namespace Go.Proofs.YtmklifheakemeaaGreat
namespace Sb
open Go.RowKit Go.Sort Rw YtmklifheakemeaaGreat.Nm Pr Bk Av Rl
theorem Nv (nA bv:aS) (p q:List C5) (w:aJ) (ha:eY w nA p) (hb:eY w bv q) (hp:dW p) (hq:dW q) :
  aX aD 156 #[nA,bv] w fun e w'=>e=aI (aj (kM p q))/\Below w.heap.size w w':=by
 obtain⟨a,na,rfl⟩:=hp;obtain⟨b,nb,rfl⟩:=hq;unfold kM;rw [lZ,lZ];exact Fa nA bv a b w ha hb na nb
theorem Vy {α:Type} (f:α->Bool) {l:List α} (h:∀ (j:Nat) (y:α),j<l.length->l[j]?=aG y->f y=ay):l.any f=ay:=by
 rw [List.any_eq_false];intro e he;obtain⟨j,hj,Yk⟩:=aU he;simpa using h j e hj (by rw [ak hj,Yk])
theorem Vz {α:Type} (f:α->Bool) {l:List α} {k:Nat} {y:α} (h:l[k]?=aG y) (hf:f y=aR):l.any f=aR:=by
 rw [List.any_eq_true];exact⟨y,aA h,hf⟩
abbrev cE (p:List C5) (e:En):Bool:=e.up && kM e.p p
theorem tJ (v:Sl) (pv:aS) (l:List gW) (m:List En) (p':List C5) (w:aJ) (hs:kr w (dO v) l) (hu:eZ (jQ w) l m) (hp:eY w pv p') (hok:∀ e∈m,dW e.p) (hop:dW p') :
  aX aD 117 #[dO v,pv] w fun e w'=>e=aI (aj (Cj m p'))/\Below w.heap.size w w':=by
 have HU:=J hu;have HP:=J hp;have OK:=J hok;have OP:=J hop;obtain⟨pa,pc,rfl⟩:=hp.len;generalize p'.length=pn at *;obtain⟨so,n,sc⟩:=v;have hn:=jT hs;have HS:=J hs;have lm:=hs.most;unfold maxLen at lm;rw [hn] at lm;have HN:=J hn;clear hu hp hok hop hs hn;go_enter Tryz.func117,Tryz.ntmps117;go_wp2
 go_loopw [9] (fun i wr=>∃ k:Nat,k<=n/\i=L O k/\Below w.heap.size w wr/\∀ (j:Nat) (y:En),j<k->m[j]?=aG y->cE p' y=ay) (fun i _=>n-(intOf i).toNat)
 case atStart=>exact⟨0,aO _,rfl,aH _ _,fun j y h=>by omega⟩
 case round =>
  obtain⟨k,hk,rfl,hbe,hall⟩:=hrel;have BE:=J hbe;have AL:=J hall;clear hbe hall;by_cases hlt:k<n
  ·obtain⟨y,hy⟩:∃ y,l[k]?=aG y:=⟨_,ak (by rw [HN.out]; exact hlt)⟩;obtain⟨q,ix,px⟩:=KA HS.out rfl HN.out hy;obtain⟨p0,p1,p2,p3,p4,p5,p6⟩:=px wr BE.out;obtain⟨e,he,_,hin⟩:=jL HU.out hy;obtain⟨y1,y2,y3,y4,⟨yo,yn,yc⟩,y6,y7⟩:=y;simp only at p0 p1 p2 p3 p4 p5 p6;have NB:=J (gM wr (aC #[L O y1,L O y2,L O y3,L O y4,K yo yn yc,L O y6,aj y7] 66));have hw3:IntKind.i64.wrap ((k:Int)+1)=(k:Int)+1:=aN _ (by omega);obtain⟨t,ht⟩:∃ r,kM e.p p'=r:=⟨_,rfl⟩;have HV:=J (show cE p' e=(y7 && t) by unfold cE; rw [<- hin.2.2.2.1,ht]);have HE:=J he;have BF:=J (BE.out.trans (NB.out.mono BE.out.size));have CV:=J (Nv (K yo yn yc) (K pa pn pc) e.p p' _ (hin.2.2.2.2.on BF.out) (HP.out.on BF.out) (OK.out _ (aA he)) OP.out);rw [ht] at CV;clear px hy ht he hin;cases y7
   ·clear CV;go_wp2
    go_roundw
    case rel=>exact⟨k+1,by omega,by go_num,BF.out,fun j y' hj h1=>by
     rcases aK j k with h3|h3
     ·exact AL.out j y' h3 h1
     ·obtain rfl:j=k:=by omega
      have e1:=HE.out;rw [h1] at e1;rw [aB e1];exact HV.out.trans (by simp)⟩
    case measure=>simp [intOf]; omega
   ·go_wp2_with fail;refine CV.out.mono ?_;rintro e3 w3 ⟨rfl,hb⟩;have BG:=J (BF.out.trans (hb.mono BF.out.size));clear CV hb p0 p1 p2 p3 p4 p5 p6 ix;cases t
    ·go_wp2
     go_roundw
     case rel=>exact⟨k+1,by omega,by go_num,BG.out,fun j y' hj h1=>by
      rcases aK j k with h3|h3
      ·exact AL.out j y' h3 h1
      ·obtain rfl:j=k:=by omega
       have e1:=HE.out;rw [h1] at e1;rw [aB e1];exact HV.out.trans (by simp)⟩
     case measure=>simp [intOf]; omega
    ·have hd:Cj m p'=aR:=Vz (cE p') HE.out (HV.out.trans (by simp));go_wp2;go_ret;exact⟨by rw [hd]; rfl,BG.out⟩
  ·obtain rfl:k=n:=by omega
   have hd:Cj m p'=ay:=Vy (cE p') fun j y hj h=>AL.out j y (by rw [<- HN.out,HU.out.len]; exact hj) h;go_wp2;go_ret;exact⟨by rw [hd]; rfl,BE.out⟩
theorem Nw {α:Type} (f:α->Bool) {l:List α} (h:∀ (j:Nat) (y:α),j<l.length->l[j]?=aG y->f y=aR):l.all f=aR:=by
 rw [List.all_eq_true];intro e he;obtain⟨j,hj,Yk⟩:=aU he;exact h j e hj (by rw [ak hj,Yk])
theorem Ny {α:Type} (f:α->Bool) {l:List α} {k:Nat} {y:α} (h:l[k]?=aG y) (hf:f y=ay):l.all f=ay:=by
 rw [List.all_eq_false];exact⟨y,aA h,by rw [hf]; simp⟩
abbrev tE (r:List En) (e:En):Bool:=e.up || Cj r e.p
theorem J6 (v:Sl) (l:List gW) (m:List En) (w:aJ) (hs:kr w (dO v) l) (hu:eZ (jQ w) l m) (hok:∀ e∈m,dW e.p) :
  aX aD 72 #[dO v] w fun e w'=>e=aI (aj (qC m))/\Below w.heap.size w w':=by
 have HU:=J hu;have OK:=J hok;have HS:=J hs;obtain⟨so,n,sc⟩:=v;have hn:=jT hs;have lm:=hs.most;unfold maxLen at lm;rw [hn] at lm;have HN:=J hn;clear hu hok hs hn;go_enter Tryz.func72,Tryz.ntmps72;go_wp2
 go_loopw [7] (fun i wr=>∃ k:Nat,k<=n/\i=L O k/\Below w.heap.size w wr/\∀ (j:Nat) (y:En),j<k->m[j]?=aG y->tE m y=aR) (fun i _=>n-(intOf i).toNat)
 case atStart=>exact⟨0,aO _,rfl,aH _ _,fun j y h=>by omega⟩
 case round =>
  obtain⟨k,hk,rfl,hbe,hall⟩:=hrel;have BE:=J hbe;have AL:=J hall;clear hbe hall;by_cases hlt:k<n
  ·obtain⟨y,hy⟩:∃ y,l[k]?=aG y:=⟨_,ak (by rw [HN.out]; exact hlt)⟩;obtain⟨q,ix,px⟩:=KA HS.out rfl HN.out hy;obtain⟨p0,p1,p2,p3,p4,p5,p6⟩:=px wr BE.out;obtain⟨e,he,_,hin⟩:=jL HU.out hy;obtain⟨y1,y2,y3,y4,⟨yo,yn,yc⟩,y6,y7⟩:=y;simp only at p0 p1 p2 p3 p4 p5 p6;have NB:=J (gM wr (aC #[L O y1,L O y2,L O y3,L O y4,K yo yn yc,L O y6,aj y7] 66));have hw3:IntKind.i64.wrap ((k:Int)+1)=(k:Int)+1:=aN _ (by omega);obtain⟨t,ht⟩:∃ r,Cj m e.p=r:=⟨_,rfl⟩;have HV:=J (show tE m e=(y7 || t) by unfold tE; rw [<- hin.2.2.2.1,ht]);have HE:=J he;have BF:=J (BE.out.trans (NB.out.mono BE.out.size));have CV:=J (tJ (so,n,sc) (K yo yn yc) l m e.p _ (HS.out.on BF.out) (HU.out.mono fun _ _ q=>q.on BF.out) (hin.2.2.2.2.on BF.out) OK.out (OK.out _ (aA he)));rw [ht] at CV;clear px hy ht he hin;cases y7
   ·go_wp2_with fail;refine CV.out.mono ?_;rintro e3 w3 ⟨rfl,hb⟩;have BG:=J (BF.out.trans (hb.mono BF.out.size));clear CV hb p0 p1 p2 p3 p4 p5 p6 ix;cases t
    ·have hd:qC m=ay:=Ny (tE m) HE.out (HV.out.trans (by simp));go_wp2;go_ret;exact⟨by rw [hd]; rfl,BG.out⟩
    ·go_wp2
     go_roundw
     case rel=>exact⟨k+1,by omega,by go_num,BG.out,fun j y' hj h1=>by
      rcases aK j k with h3|h3
      ·exact AL.out j y' h3 h1
      ·obtain rfl:j=k:=by omega
       have e1:=HE.out;rw [h1] at e1;rw [aB e1];exact HV.out.trans (by simp)⟩
     case measure=>simp [intOf]; omega
   ·clear CV;go_wp2
    go_roundw
    case rel=>exact⟨k+1,by omega,by go_num,BF.out,fun j y' hj h1=>by
     rcases aK j k with h3|h3
     ·exact AL.out j y' h3 h1
     ·obtain rfl:j=k:=by omega
      have e1:=HE.out;rw [h1] at e1;rw [aB e1];exact HV.out.trans (by simp)⟩
    case measure=>simp [intOf]; omega
  ·obtain rfl:k=n:=by omega
   have hd:qC m=aR:=Nw (tE m) fun j y hj h=>AL.out j y (by rw [<- HN.out,HU.out.len]; exact hj) h;go_wp2;go_ret;exact⟨by rw [hd]; rfl,BE.out⟩
theorem Fb {W:aJ} {v:Sl} {l:List gW} {m:List En} (hv:kr W (dO v) l) (hA:eZ (jQ W) l m) (t:fB):kr W (dO (cutV v (iR m t) (nP m t).length)) ((l.drop (iR m t)).take (nP m t).length)/\eZ (jQ W) ((l.drop (iR m t)).take (nP m t).length) (nP m t):=by
 refine⟨(Ho hv _ _ (by rw [hA.len]; exact sU m t)).2,?_⟩;have h:=(hA.drop (iR m t)).take (nP m t).length;have e:(m.drop (iR m t)).take (nP m t).length=nP m t:=by
  unfold nP
  conv=>lhs; arg 2; rw [<- List.takeWhile_append_dropWhile (p:=fun e:En=>decide (e.tree=t)) (l:=m.drop (iR m t))]
  rw [List.take_left]
 rw [e] at h;exact h
theorem Fe (m:List En) (t:fB):∀ e∈nP m t,e∈m:=fun _ he=>List.mem_of_mem_drop ((List.takeWhile_sublist _).subset he)
theorem Nz (me:Int) (nv av sv ov:aS) (ev:Sl) (l:List gW) (m:List En) (t:fB) (pv:aS) (p':List C5) (w:aJ) (hs:kr w (dO ev) l) (hu:eZ (jQ w) l m) (hr:iX m) (hl:l.length<=1000) (hp:eY w pv p') (hok:∀ e∈m,dW e.p) (hop:dW p') :
  aX aD 146 #[aZ #[L O me,nv,av,sv,dO ev,ov],nU t,pv] w fun e w'=>e=aI (aj (fH m t p'))/\Below w.heap.size w w':=by
 obtain⟨pa,pc,rfl⟩:=hp.len;obtain⟨so,n,sc⟩:=ev;obtain⟨c,d⟩:=t;obtain⟨h0,X,Y⟩:=gT w #[L O me,nv,av,sv,K so n sc,ov] #[L O c,L O d] 28 31;have B:=J h0;have x4:=X.cell 4;obtain⟨y0,y1⟩:=Y.cs2;simp only [ah,Q,U] at x4;have BR:=J (qD (so,n,sc) l m (c,d) _ (hs.on h0) (hu.mono fun _ _ q=>q.on h0) hr hl);obtain⟨q1,q2⟩:=Fb (hs.on h0) (hu.mono fun _ _ q=>q.on h0) (c,d);have Q1:=J q1;have Q2:=J q2;have HP:=J (hp.on h0);have OK:=J (fun e he=>hok e (Fe m (c,d) e he));have CB:=J (E8 hr (c,d) p');generalize p'.length=pn at *;generalize fH m (c,d) p'=r at *;generalize cutV (so,n,sc) (iR m (c,d)) (nP m (c,d)).length=z at *;obtain⟨z1,z2,z3⟩:=z;clear h0 X Y hs hu hr hl hp hok q1 q2;go_enter Tryz.func146,Tryz.ntmps146;go_wp2_with fail;generalize (w.alloc (aC #[L O me,nv,av,sv,K so n sc,ov] 28)).alloc (aC #[L O c,L O d] 31)=W at *;refine BR.out.mono ?_;rintro e1 w1 ⟨rfl,hb⟩;have HB:=J hb;have CV:=J (tJ (z1,z2,z3) (K pa pn pc) _ (nP m (c,d)) p' w1 (Q1.out.on hb) (Q2.out.mono fun _ _ q=>q.on hb) (HP.out.on hb) OK.out hop);clear x4 y0 y1 hb BR;go_wp2_with fail;refine CV.out.mono ?_;rintro e2 w2 ⟨rfl,hb2⟩;go_wp2;go_ret;exact⟨by rw [<- CB.out]; rfl,B.out.trans ((HB.out.trans (hb2.mono HB.out.size)).mono B.out.size)⟩
def ru (m:List En) (t s:fB):Option En:=match m[dX (m.map fA) (t,s)]? with
 | none=>au
 | some e=>if fA e=(t,s) then aG e else au
def FiQ (w:aJ) (o:Option En) (e:Ending) (w':aJ):Prop:=(match o with
 | none=>e=aI (.tuple #[nY (0,0,0,0,(au,0,0),0,ay),aj ay])
 | some a=>∃ r:gW,e=aI (.tuple #[nY r,aj aR])/\jQ w' r a)/\Below w.heap.size w w'
theorem yY {m:List En} {t s:fB} (h:iT m t s=aR):∃ e,m[dX (m.map fA) (t,s)]?=aG e/\fA e=(t,s)/\ru m t s=aG e:=by
 unfold iT at h;cases hm:m[dX (m.map fA) (t,s)]? with
 | none=>rw [hm] at h; cases h
 | some e =>
  rw [hm] at h;have hk:=of_decide_eq_true h;exact⟨e,rfl,hk,by unfold ru; rw [hm]; simp only; rw [if_pos hk]⟩
theorem ND {m:List En} {t s:fB} (h:iT m t s=ay):ru m t s=au:=by
 unfold iT at h;unfold ru;cases hm:m[dX (m.map fA) (t,s)]? with
 | none=>rfl
 | some e =>
  rw [hm] at h;simp only;rw [if_neg (of_decide_eq_false h)]
theorem J7 (me:Int) (nv av sv ov:aS) (ev:Sl) (l:List gW) (m:List En) (t s:fB) (w:aJ) (hs:kr w (dO ev) l) (hu:eZ (jQ w) l m) (hr:iX m) (hl:l.length<=1000) (hf:∀ e∈m,e.p.length<=900) :
  aX aD 26 #[aZ #[L O me,nv,av,sv,dO ev,ov],nU t,nU s] w (FiQ w (ru m t s)):=by
 obtain⟨so,n,sc⟩:=ev;obtain⟨c,d⟩:=t;obtain⟨g,h⟩:=s;obtain⟨h0,X,Y,Z,V⟩:=MF w #[L O me,nv,av,sv,K so n sc,ov] #[L O c,L O d] #[L O g,L O h] #[L O 0,L O 0,L O 0,L O 0,K au 0 0,L O 0,aj ay] 28 31 31 66;have B:=J h0;have x4:=X.cell 4;obtain⟨y0,y1⟩:=Y.cs2;obtain⟨z0,z1⟩:=Z.cs2;simp only [ah,Q,U] at x4;have HS:=J (hs.on h0);have HU:=J (hu.mono fun _ _ q=>q.on h0);have PL:=J (yX (so,n,sc) l m (c,d) (g,h) _ HS.out HU.out hr hl);have X1:=J X;have V1:=J V;have HF:=J hf;have hn:=jT hs;have HN:=J hn;obtain⟨th,hth⟩:∃ k,iT m (c,d) (g,h)=k:=⟨_,rfl⟩;rw [hth] at PL;obtain⟨k,hk⟩:∃ k,dX (m.map fA) ((c,d),(g,h))=k:=⟨_,rfl⟩;rw [hk] at PL;have HK:=J hk;obtain⟨fo,hfo⟩:∃ o,ru m (c,d) (g,h)=o:=⟨_,rfl⟩;rw [hfo];have FO:=J hfo;have SV:=J V.lt;clear h0 X Y Z V hs hu hr hl hf hn hk hfo;go_enter Tryz.func26,Tryz.ntmps26;go_wp2_with fail;generalize (((w.alloc (aC #[L O me,nv,av,sv,K so n sc,ov] 28)).alloc (aC #[L O c,L O d] 31)).alloc (aC #[L O g,L O h] 31)).alloc (aC #[L O 0,L O 0,L O 0,L O 0,K au 0 0,L O 0,aj ay] 66)=W at *;refine PL.out.mono ?_;rintro e1 w1 ⟨rfl,hb⟩;have HB:=J hb;have X2:=J (X1.out.on hb);have V2:=V1.out.on hb;have BB:=J (B.out.trans (hb.mono B.out.size));clear x4 y0 y1 z0 z1 PL hb;have x4:=X2.out.cell 4;simp only [ah,Q,U] at x4;cases th
 ·have FN:=J (show fo=au by rw [<- FO.out]; exact ND hth);obtain⟨v0,v1,v2,v3,v4,v5,v6⟩:=V2.mE;obtain⟨f0,f1,f2,f3,f4,f5,f6⟩:=V2.RA;have zz:=V2.lt;have FB:=J (oD V2 (L O 0) (L O 0) (L O 0) (L O 0) (K au 0 0) (L O 0) (aj ay));have BL:=J (lG (b:=w.heap.size+1+1+1) BB.out (by omega) (L O 0) (L O 0) (L O 0) (L O 0) (K au 0 0) (L O 0) (aj ay));clear V2 hth;go_wp2_with fail;clear v0 v1 v2 v3 v4 v5 v6;obtain⟨v0,v1,v2,v3,v4,v5,v6⟩:=FB.out.mE;refine bodyPost_ret (v:=.tuple #[aZ #[L O 0,L O 0,L O 0,L O 0,K au 0 0,L O 0,aj ay],aj ay]) (by simp [results,aY,go_sem,v0,v1,v2,v3,v4,v5,v6]) rfl ?_;rw [FN.out];exact⟨rfl,BL.out⟩
 ·obtain⟨e,he,hke,hfe⟩:=yY hth;have FE:=J (show fo=aG e by rw [<- FO.out]; exact hfe);rw [HK.out] at he;have hkm:=(aF.1 he).1;have hkn:k<n:=by rw [<- HN.out,HU.out.len]; exact hkm
  obtain⟨y,hy,hx⟩:=HU.out.at k e he;obtain⟨p,ix,px⟩:=KA HS.out rfl HN.out hy;obtain⟨p0,p1,p2,p3,p4,p5,p6⟩:=px w1 HB.out;obtain⟨y1,y2,y3,y4,⟨yo,yn,yc⟩,y6,y7⟩:=y;simp only at p0 p1 p2 p3 p4 p5 p6;have CP:=J (uQ (y1,y2,y3,y4,(yo,yn,yc),y6,y7) e.p w1 (hx.2.2.2.2.on HB.out) (HF.out e (aA he)));have HX:=J hx;have V3:=J V2;clear px hy hx he hke hfe hth V2 hkm;go_wp2_with fail;refine CP.out.mono ?_;rintro e2 w2 ⟨⟨⟨u1,u2,u3⟩,rfl,ho⟩,hb⟩;have Y1:=V3.out.on hb;have SZ:=J (show w.heap.size+1+1+1<w1.heap.size from V3.out.lt);have B2:=J (BB.out.trans (hb.mono BB.out.size));clear CP hb p0 p1 p2 p3 p4 p5 p6 ix x4;obtain⟨v0,v1,v2,v3,v4,v5,v6⟩:=Y1.mE;obtain⟨f0,f1,f2,f3,f4,f5,f6⟩:=Y1.RA;have zz:=Y1.lt;have FB:=J (oD Y1 (L O y1) (L O y2) (L O y3) (L O y4) (K u1 u2 u3) (L O y6) (aj y7));have BL:=J (lG (b:=w.heap.size+1+1+1) B2.out (by omega) (L O y1) (L O y2) (L O y3) (L O y4) (K u1 u2 u3) (L O y6) (aj y7));have FW:=J (Bw ho (w.heap.size+1+1+1) SZ.out (L O y1) (L O y2) (L O y3) (L O y4) (K u1 u2 u3) (L O y6) (aj y7));clear Y1 ho;go_wp2_with fail;clear v0 v1 v2 v3 v4 v5 v6;obtain⟨v0,v1,v2,v3,v4,v5,v6⟩:=FB.out.mE;refine bodyPost_ret (v:=.tuple #[aZ #[L O y1,L O y2,L O y3,L O y4,K u1 u2 u3,L O y6,aj y7],aj aR]) (by simp [results,aY,go_sem,v0,v1,v2,v3,v4,v5,v6]) rfl ?_;rw [FE.out];exact⟨⟨(y1,y2,y3,y4,(u1,u2,u3),y6,y7),rfl,HX.out.1,HX.out.2.1,HX.out.2.2.1,HX.out.2.2.2.1,Row.dG FW.out⟩,BL.out⟩
theorem yZ {w w':aJ} {row:Option Nat} (h:w.grownBy w' row):Off row w w':=⟨h.block,h.size⟩
theorem VA {wr w0:aJ} {B:Nat} {v:aS} {lu:List gW} {mu:List En} (x:gW) (e:En) (o:jZ wr B v lu) (hA:eZ (vK w0 B wr) lu mu) (hx:vK w0 B wr x e) (hn:lu.length<=1000) (hB:B<=wr.heap.size) :
  ∃ v' w',(Builtin.append_ #[25,25] 25 #[v,K (aG ⟨wr.heap.size,0,au⟩) 1 1]).run aD (wr.alloc (aC (gX x).toArray 66))=.ok v' w'/\jZ w' B v' (lu++[x])/\eZ (vK w0 B w') (lu++[x]) (mu++[e]) /\
   (∀ B' W,B'<=B->Below B' W wr->Below B' W w')/\Off v.ownBlock (wr.alloc (aC (gX x).toArray 66)) w':=by
 have NB:=gM wr (aC (gX x).toArray 66);have hlit:=kK nH wr [x] 1 rfl (by simp) (gX x).toArray rfl;have o2:jZ _ B v lu:=Bk.dJ o NB;have hB2:B<=(wr.alloc (aC (gX x).toArray 66)).heap.size:=aL hB NB.size;obtain⟨v',w',r',o',gr⟩:=ji nH B o2 (Row.dG hlit) hn (by simp) hB2 25;refine⟨v',w',by simpa [EN] using r',o',?_,fun B' W hB' hb=>?_,yZ gr⟩
 ·have hf:=yZ gr;have hg:=iO o2;have g:∀ y z,vK w0 B wr y z->vK w0 B w' y z:=fun y z q=>(q.grow NB).off hf hg (by decide);exact (hA.mono g).append (.cons (g _ _ hx) .nil)
 ·exact (hb.trans (NB.mono (by have:=hb.size; omega))).grown gr (aL hB' hB2) fun j hj=>aL hB' (o2.lt j hj).1
theorem VB {w0 wr:aJ} {B:Nat} {x:gW} {e:En} (h:vK w0 B wr x e) (hl:Below w0.heap.size w0 wr):jQ wr x e:=⟨h.1,h.2.1,h.2.2.1,h.2.2.2.1,h.2.2.2.2.row hl⟩
theorem vU (me:Int) (nv av sv ov:aS) (ev:Sl) (l:List gW) (m:List En) (t:fB) (w:aJ) (hs:kr w (dO ev) l) (hu:eZ (jQ w) l m) (hr:iX m) (hl:l.length<=900) (hf:∀ e∈m,e.p.length<=900) :
  aX aD 25 #[aZ #[L O me,nv,av,sv,dO ev,ov],nU t] w fun e w'=>(∃ (v':Sl) (lu:List gW),e=aI (dO v')/\kr w' (dO v') lu/\eZ (jQ w') lu (nP m t))/\Below w.heap.size w w':=by
 obtain⟨so,n,sc⟩:=ev;obtain⟨c,d⟩:=t;obtain⟨h0,X,Y⟩:=gT w #[L O me,nv,av,sv,K so n sc,ov] #[L O c,L O d] 28 31;have B:=J h0;have x4:=X.cell 4;obtain⟨y0,y1⟩:=Y.cs2;simp only [ah,Q,U] at x4;have BR:=J (qD (so,n,sc) l m (c,d) _ (hs.on h0) (hu.mono fun _ _ q=>q.on h0) hr (by omega));obtain⟨q1,q2⟩:=Fb (hs.on h0) (hu.mono fun _ _ q=>q.on h0) (c,d);have hbl:(nP m (c,d)).length<=900:=by have:=sU m (c,d); have:=hu.len; omega
 have HF:=J (fun e he=>hf e (Fe m (c,d) e he));generalize (l.drop (iR m (c,d))).take (nP m (c,d)).length=lb at *;generalize cutV (so,n,sc) (iR m (c,d)) (nP m (c,d)).length=z at *;obtain⟨z1,z2,z3⟩:=z;generalize nP m (c,d)=mb at *;have hn:lb.length=z2:=jT q1;have HN:=J hn;have hz:z2<=900:=by have:=q2.len; omega
 have Q1:=J q1;have Q2:=J q2;clear h0 X Y hs hu hr hl hf q1 q2 hn hbl;go_enter Tryz.func25,Tryz.ntmps25;go_wp2_with fail;generalize (w.alloc (aC #[L O me,nv,av,sv,K so n sc,ov] 28)).alloc (aC #[L O c,L O d] 31)=W at *;refine BR.out.mono ?_;rintro e1 w1 ⟨rfl,hb⟩;have HB:=J hb;have R1:=J (Q1.out.on hb);have R2:=J (Q2.out.mono fun _ _ q=>q.on hb);clear x4 y0 y1 BR hb Q1 Q2;go_wp2
 go_loopw [5,13] (fun v i wr=>∃ (k:Nat) (lu:List gW),k<=z2/\i=L O k/\Below w1.heap.size w1 wr/\jZ wr w1.heap.size v lu/\eZ (vK w1 w1.heap.size wr) lu (mb.take k)) (fun _ i _=>z2-(intOf i).toNat)
 case atStart=>exact⟨0,[],aO _,rfl,aH _ _,jg _ _,by simpa using eZ.nil⟩
 case round =>
  obtain⟨k,lu,hk,rfl,hbe,hown,hall⟩:=hrel;have BE:=J hbe;have OE:=J hown;have AE:=J hall;clear hbe hown hall;by_cases hlt:k<z2
  ·obtain⟨y,hy⟩:∃ y,lb[k]?=aG y:=⟨_,ak (by rw [HN.out]; exact hlt)⟩;obtain⟨q,ix,px⟩:=KA R1.out rfl HN.out hy;obtain⟨p0,p1,p2,p3,p4,p5,p6⟩:=px wr BE.out;obtain⟨e,he,_,hin⟩:=jL R2.out hy;obtain⟨y1,y2,y3,y4,⟨yo,yn,yc⟩,y6,y7⟩:=y;simp only at p0 p1 p2 p3 p4 p5 p6;have NB:=J (gM wr (aC #[L O y1,L O y2,L O y3,L O y4,K yo yn yc,L O y6,aj y7] 66));have BF:=J (BE.out.trans (NB.out.mono BE.out.size));have hx:=dL wr #[L O y1,L O y2,L O y3,L O y4,K yo yn yc,L O y6,aj y7] 66;obtain⟨v0,v1,v2,v3,v4,v5,v6⟩:=hx.mE;have hw3:IntKind.i64.wrap ((k:Int)+1)=(k:Int)+1:=aN _ (by omega);have CP:=J (uQ (y1,y2,y3,y4,(yo,yn,yc),y6,y7) e.p _ (hin.2.2.2.2.on BF.out) (HF.out e (aA he)));have HI:=J hin;have HE:=J he;clear px hy he hin hx;go_wp2_with fail;refine CP.out.mono ?_;rintro e3 w3 ⟨⟨⟨u1,u2,u3⟩,rfl,ho⟩,hb⟩;have BG:=BF.out.trans (hb.mono BF.out.size);have hl:lu.length=k:=by rw [AE.out.len,List.length_take]; have:=HN.out; have:=R2.out.len; omega
   obtain⟨v',w',r',o',a',bl,_⟩:=VA (w0:=w1) (y1,y2,y3,y4,(u1,u2,u3),y6,y7) e (Bk.dJ (Bk.dJ OE.out NB.out) hb) (AE.out.mono fun _ _ q=>(q.grow NB.out).grow hb) ⟨HI.out.1,HI.out.2.1,HI.out.2.2.1,HI.out.2.2.2.1,Or.inr (dK ho BF.out.size)⟩ (by omega) (by have:=BG.size; omega);have O2:=J o';have A2:=J a';have B2:=J (bl _ w1 (aP _) BG);have E2:=J (show mb.take (k+1)=mb.take k++[e] from List.take_succ_eq_append_getElem (aF.1 HE.out).1 ▸ by rw [(aF.1 HE.out).2]);clear CP hb ho BG hl o' a' bl v0 v1 v2 v3 v4 v5 v6 p0 p1 p2 p3 p4 p5 p6 ix NB BF;go_wp2_with (first | (at_builtin; refine wpList_append_run rfl _ _ 25 rfl rfl rfl r' ?_) | fail)
   go_roundw
   case rel=>exact⟨k+1,_,by omega,by go_num,B2.out,O2.out,by rw [E2.out]; exact A2.out⟩
   case measure=>simp [intOf]; omega
  ·obtain rfl:z2=k:=by omega
   have e:mb.take z2=mb:=List.take_of_length_le (by have:=HN.out; have:=R2.out.len; omega);rw [e] at AE;obtain⟨vo1,vo2,hv⟩:=(Row.dG OE.out).len;subst hv;clear e;go_wp2;go_ret;exact⟨⟨(vo1,_,vo2),lu,rfl,Row.dG OE.out,AE.out.mono fun _ _ q=>VB q BE.out⟩,B.out.trans ((HB.out.trans (BE.out.mono HB.out.size)).mono B.out.size)⟩
theorem iC {p:List C5} (h:dW p):p.length<=900:=by
 obtain⟨a,na,rfl⟩:=h;rw [List.length_map];have:=na.five;omega
theorem Hq {α:Type} {E:Ek α} {W:aJ} {B:Nat} {v:aS} {l:List α} (h:Own E W B v l):∀ b,v.ownBlock=aG b->B<=b:=by
 intro b hb;rcases gq h with⟨rfl,_⟩|⟨g',cap',cur,rfl,h2,_⟩
 ·cases hb
 ·obtain rfl:g'=b:=by simpa [Value.ownBlock] using hb
  exact h2
theorem PM.less {w0 wr:aJ} {B B':Nat} {v:aS} {p:List C5} (h:PM w0 B wr v p) (hB:B'<=B):PM w0 B' wr v p:=h.imp id fun h=>dK h hB
theorem Cp.less {w0 wr:aJ} {B B':Nat} {b:Br} {nv av sv ev ov:Sl} (h:Cp w0 B wr b nv av sv ev ov) (hB:B'<=B):Cp w0 B' wr b nv av sv ev ov where
 near:=dK h.near hB
 seen:=dK h.seen hB
 dV:=by obtain⟨l,h1,h2⟩:=h.dV; exact⟨l,dK h1 hB,h2.mono fun _ _ q=>⟨q.1,q.2.1,PM.less q.2.2 hB⟩⟩
 ent:=by obtain⟨l,h1,h2⟩:=h.ent; exact⟨l,dK h1 hB,h2.mono fun _ _ q=>⟨q.1,q.2.1,q.2.2.1,q.2.2.2.1,PM.less q.2.2.2.2 hB⟩⟩
 own:=by obtain⟨l,h1,h2⟩:=h.own; exact⟨l,dK h1 hB,h2.mono fun _ _ q=>⟨q.1,PM.less q.2 hB⟩⟩
def Co (b:Br) (e:En):Br×Bool:=match fT b.dV e.tree with
 | none=>(b,ay)
 | some a=>if iT b.ent e.tree e.sub=aR then (b,ay) else if e.from_=a.par/\a.par≠-1 then (b,ay) else
  ({ b with ent:=fC b.ent (dX (b.ent.map fA) (e.tree,e.sub)) { e with up:=!(a.par == -1) && !fH b.ent e.tree e.p } },!(a.par == -1) && !fH b.ent e.tree e.p)
theorem pI {b:Br} (hr:iX b.ent) {e:En}:Co b e=iB b e:=by
 unfold Co iB;have ft:=wh hr e.tree e.sub;have ek:fA e=(e.tree,e.sub):=rfl;rw [ek,ft];by_cases h:fE (b.dV.map Ad.id) e.tree=-1
 ·have hn:fT b.dV e.tree=au:=qB fun j a hj=>pE (key:=Ad.id) h j a hj;rw [hn];cases b.dV[(fE (b.dV.map Ad.id) e.tree).toNat]? with
  | none=>rfl
  | some a=>simp only; rw [if_pos h]
 ·obtain⟨k,hk⟩:∃ k:Nat,fE (b.dV.map Ad.id) e.tree=k:=⟨(fE (b.dV.map Ad.id) e.tree).toNat,by have:=lC (b.dV.map Ad.id) e.tree; omega⟩;obtain⟨g1,g2⟩:=mP hk;rw [aV] at g1;cases ha:b.dV[k]? with
  | none=>rw [ha] at g1; cases g1
  | some a =>
   rw [ha] at g1;have hx:a.id=e.tree:=aB g1;have hf:fT b.dV e.tree=aG a:=oq ha hx fun j z hj hz=>g2 j z.id hj (by rw [aV,hz]; rfl);rw [hf,hk,Int.toNat_natCast,ha];simp only;rw [if_neg (show ¬ ((k:Int)=-1) by omega)];have e1:(!(a.par == -1))=decide (a.par≠-1):=by by_cases hp:a.par=-1 <;> simp [hp]
   rw [e1];by_cases ht:iT b.ent e.tree e.sub=aR
   ·rw [if_pos ht,if_pos ht,if_pos (by omega)]
   ·rw [if_neg ht,if_neg ht,if_neg (show ¬ ((-1:Int)≠-1) by simp)];by_cases hp:e.from_=a.par/\a.par≠-1
    ·rw [if_pos hp,if_pos ⟨by rw [hp.1]; exact hp.2,hp.1⟩]
    ·rw [if_neg hp,if_neg fun q=>hp ⟨q.2,by rw [<- q.2]; exact q.1⟩]
theorem NG (b:Br) (e:En) (nv av sv ev ov:Sl) (x:gW) (w:aJ) (h:lS w b nv av sv ev ov) (he:jQ w x e) (hf:Kn b) (hp:uF b) (hr:iX b.ent) (hok:∀ e∈b.ent,dW e.p) (hoe:dW e.p) :
  aX aD 94 #[lN b.me nv av sv ev ov,nY x] w (zQ w (kX w nv b.near) (lY w b nv av sv ev ov) (iB b e)):=by
 obtain⟨no,nn,nc⟩:=nv;obtain⟨ao,an,ac⟩:=av;obtain⟨so,sn,sc⟩:=sv;obtain⟨eo,en,ec⟩:=ev;obtain⟨oo,gI,oc⟩:=ov;obtain⟨y1,y2,y3,y4,⟨yo,yn,yc⟩,y6,y7⟩:=x;obtain⟨h0,h1,h2,h3⟩:=je w #[L O b.me,K no nn nc,K ao an ac,K so sn sc,K eo en ec,K oo gI oc] #[L O y1,L O y2,L O y3,L O y4,K yo yn yc,L O y6,aj y7] #[L O 0,K au 0 0,K au 0 0,K au 0 0,K au 0 0,K au 0 0] 28 66 28;have BB:=J h0;have X1:=J h1;have X2:=J h2;have X3:=J h3;have HH:=J h;have EE:=J he;have HF:=J hf;have HP:=J hp;have HR:=J hr;have OK:=J hok;have OE:=J hoe;obtain⟨la,ha1,ha2⟩:=h.dV;have SW:=J (Bh b.me (K no nn nc) (K so sn sc) (K eo en ec) (K oo gI oc) (ao,an,ac) la b.dV (y1,y2) _ (ha1.on BB.out) (ha2.mono fun _ _ q=>q.on BB.out) hp.dV);have ET:=J (show e.tree=(y1,y2) from he.1.symm);have ES:=J (show e.sub=(y3,y4) from he.2.1.symm);have EF:=J (show e.from_=y6 from he.2.2.1.symm);obtain⟨x0,x1,x2,x3,x4,x5⟩:=X1.out.gP;obtain⟨d0,d1,d2,d3,d4,d5,d6⟩:=X2.out.mE;clear h0 h1 h2 h3 h he hf hp hr hok hoe ha1 ha2 la;go_enter Tryz.func94,Tryz.ntmps94;go_wp2_with fail;generalize ((w.alloc (aC #[L O b.me,K no nn nc,K ao an ac,K so sn sc,K eo en ec,K oo gI oc] 28)).alloc (aC #[L O y1,L O y2,L O y3,L O y4,K yo yn yc,L O y6,aj y7] 66)).alloc (aC #[L O 0,K au 0 0,K au 0 0,K au 0 0,K au 0 0,K au 0 0] 28)=W at *;refine SW.out.mono ?_;rintro e1 w1 ⟨hq,hb⟩;have B1:=J (BB.out.trans (hb.mono BB.out.size));have Z1:=J (X1.out.on hb);have Z2:=J (X2.out.on hb);have Z3:=J (X3.out.on hb);clear hb SW X1 X2 X3;clear x0 x1 x2 x3 x4 x5;clear d0 d1 d2 d3 d4 d5 d6;obtain⟨⟨r1,r2,⟨ro,rn,rc⟩,r4⟩,kn,rfl,hin⟩:∃ (r:jk) (kn:Bool),e1=aI (.tuple #[lQ r,aj kn])/\((kn=ay/\fT b.dV (y1,y2)=au)\/(kn=aR/\∃ a,fT b.dV (y1,y2)=aG a/\r.2.2.2=a.par)):=by
  cases hfa:fT b.dV (y1,y2) with
  | none =>
   rw [hfa] at hq;exact⟨_,ay,hq,Or.inl ⟨rfl,rfl⟩⟩
  | some a =>
   rw [hfa] at hq;obtain⟨r,h1,h2⟩:=hq;exact⟨r,aR,h1,Or.inr ⟨rfl,a,rfl,h2.2.1⟩⟩
 have HI:=J hin;have nb:=gM w1 (aC #[L O r1,L O r2,K ro rn rc,L O r4] 74);have AB:=J (dL w1 #[L O r1,L O r2,K ro rn rc,L O r4] 74);have B2:=J (B1.out.trans (nb.mono B1.out.size));have Y1:=J (Z1.out.on nb);have Y2:=J (Z2.out.on nb);have Y3:=J (Z3.out.on nb);obtain⟨les,hs1,hs2⟩:=HH.out.ent;have PL:=J (yX (eo,en,ec) les b.ent (y1,y2) (y3,y4) _ (hs1.on B2.out) (hs2.mono fun _ _ q=>q.on B2.out) HR.out (by rw [hs2.len]; have:=HF.out.ent; omega));have abA:=J hs1;have YD:=J hs2;obtain⟨k,hk⟩:∃ k,dX (b.ent.map fA) ((y1,y2),(y3,y4))=k:=⟨_,rfl⟩;obtain⟨th,hth⟩:∃ k,iT b.ent (y1,y2) (y3,y4)=k:=⟨_,rfl⟩;rw [hk,hth] at PL;have HK:=J hk;have TH:=J hth;have KL:=J (show k<=b.ent.length by rw [<- hk]; simpa using lF (b.ent.map fA) ((y1,y2),(y3,y4)));have x4:=Y1.out.cell 4;simp only [ah,Q,U] at x4;have d1:=Y2.out.cell 1;have d0:=Y2.out.cell 0;have d2:=Y2.out.cell 2;have d3:=Y2.out.cell 3;simp only [ah,Q,U] at d0 d1 d2 d3;clear hin hq nb hs1 hs2 hk hth Z1 Z2 Z3;go_wp2_with fail;generalize hw2:w1.alloc (aC #[L O r1,L O r2,K ro rn rc,L O r4] 74)=w2 at *;refine PL.out.mono ?_;rintro e2 w3 ⟨rfl,hb⟩;have BW:=J (B2.out.trans (hb.mono B2.out.size));have T1:=J (Y1.out.on hb);have T2:=J (Y2.out.on hb);have T3:=J (Y3.out.on hb);have TA:=AB.out.on hb;clear x4;clear d0 d1 d2 d3;have a3:=TA.cell 3;have d5:=T2.out.cell 5;simp only [ah,Q,U] at a3 d5;obtain⟨fq,hfq⟩:∃ q,(y6 == r4)=q:=⟨_,rfl⟩;obtain⟨rt,hrt⟩:∃ q,(r4 == -1)=q:=⟨_,rfl⟩;have FQ:=J hfq;have RT:=J hrt;clear hb PL TA Y1 Y2 Y3 AB hw2;cases kn
 ·have LQ:=J (show iB b e=(b,ay) from by
   rw [<- pI HR.out];unfold Co;have h0:fT b.dV e.tree=au:=by
    rw [ET.out];rcases HI.out with⟨_,h⟩|⟨h,_⟩
    ·exact h
    ·cases h
   rw [h0])
  have Q1:=T1.out;have Q3:=T3.out;obtain⟨x0,x1,x2,x3,x4,x5⟩:=Q1.gP;obtain⟨z0,z1,z2,z3,z4,z5⟩:=Q3.gP;obtain⟨WY,WZ,Xa,Xb,Xc,Xd⟩:=Q3.pO;have Xe:=Q3.lt;have FB:=J (dZ Q3 (L O b.me) (K no nn nc) (K ao an ac) (K so sn sc) (K eo en ec) (K oo gI oc));have FL:=J (dN (b:=w.heap.size+1+1) BW.out (by omega) (L O b.me) (K no nn nc) (K ao an ac) (K so sn sc) (K eo en ec) (K oo gI oc));clear Q1 Q3;go_wp2_with fail;clear z0 z1 z2 z3 z4 z5;obtain⟨v0,v1,v2,v3,v4,v5⟩:=FB.out.gP;refine bodyPost_ret (v:=.tuple #[aZ #[L O b.me,K no nn nc,K ao an ac,K so sn sc,K eo en ec,K oo gI oc],aj ay]) (by simp [results,aM,go_sem,v0,v1,v2,v3,v4,v5]) rfl ?_;rw [LQ.out];exact⟨⟨(no,nn,nc),(ao,an,ac),(so,sn,sc),(eo,en,ec),(oo,gI,oc),rfl,HH.out.on FL.out,fun h=>h.on FL.out,fun h=>(h.resolve_right (by simp)).on FL.out⟩,FL.out⟩
 ·cases th
  ·cases rt
   ·cases fq
    ·have x1:=T2.out.cell 1;have x0:=T2.out.cell 0;have x2:=T2.out.cell 2;have x3:=T2.out.cell 3;have x4:=T2.out.cell 4;have x6:=T2.out.cell 6;simp only [ah,Q,U] at x0 x1 x2 x3 x4 x6;have PE:=J (show eY w3 (K yo yn yc) e.p from (EE.out.2.2.2.2).on BW.out);have CP:=J (uQ (y1,y2,y3,y4,(yo,yn,yc),y6,y7) e.p w3 PE.out (iC OE.out));go_wp2_with fail;refine CP.out.mono ?_;rintro e4 VD ⟨⟨⟨u1,u2,u3⟩,rfl,ho⟩,hb⟩;clear x0 x1 x2 x3 x4 x6;clear a3 d5;have V2:=T2.out.on hb;obtain⟨x0,x1,x2,x3,x4,x5,x6⟩:=V2.mE;obtain⟨xf0,xf1,VE,VF,NH,VH,VI⟩:=V2.RA;have xlt:=V2.lt;have bs:=Bz VD (w.heap.size+1) (L O y1) (L O y2) (L O y3) (L O y4) (K u1 u2 u3) (L O y6) (aj y7);have E2:=J (oD V2 (L O y1) (L O y2) (L O y3) (L O y4) (K u1 u2 u3) (L O y6) (aj y7));have E1:=J (bs.box (T1.out.on hb) (by omega));have E3:=J (bs.box (T3.out.on hb) (by omega));have EO:=J (bs.own ho V2 (by decide));have EL:=J (lG (b:=w.heap.size+1) (BW.out.trans (hb.mono BW.out.size)) (by omega) (L O y1) (L O y2) (L O y3) (L O y4) (K u1 u2 u3) (L O y6) (aj y7));have Rm:=J (show w3.heap.size<=(Bv VD (w.heap.size+1) (L O y1) (L O y2) (L O y3) (L O y4) (K u1 u2 u3) (L O y6) (aj y7)).heap.size by have:=hb.size; simp; omega);have L4:=J (show w.heap.size+1+1<w3.heap.size from T3.out.lt);clear V2 ho hb CP T1 T2 T3 BW bs;go_upto_region 7 with fail;clear x0 x1 x2 x3 x4 x5 x6 xf0 xf1 VE VF NH VH VI xlt;unfold Bv at E2 E1 E3 EO EL Rm;generalize (((((((VD).setCell ⟨w.heap.size+1,0,au⟩ (L O y1)).setCell ⟨w.heap.size+1,1,au⟩ (L O y2)).setCell ⟨w.heap.size+1,2,au⟩ (L O y3)).setCell ⟨w.heap.size+1,3,au⟩ (L O y4)).setCell ⟨w.heap.size+1,4,au⟩ (K u1 u2 u3)).setCell ⟨w.heap.size+1,5,au⟩ (L O y6)).setCell ⟨w.heap.size+1,6,au⟩ (aj y7)=Xf at *;have x1:=E2.out.cell 1;have x0:=E2.out.cell 0;have x4:=E2.out.cell 4;simp only [ah,Q,U] at x0 x1 x4;obtain⟨z0,z1,z2,z3,z4,z5⟩:=E1.out.gP;have CV:=J (Nz b.me (K no nn nc) (K ao an ac) (K so sn sc) (K oo gI oc) (eo,en,ec) les b.ent (y1,y2) (K u1 u2 u3) e.p Xf (abA.out.on EL.out) (YD.out.mono fun _ _ q=>q.on EL.out) HR.out (by rw [YD.out.len]; have:=HF.out.ent; omega) (Row.dG EO.out) OK.out OE.out);obtain⟨cv,hcv⟩:∃ c,fH b.ent (y1,y2) e.p=c:=⟨_,rfl⟩;rw [hcv] at CV;have CVQ:=J hcv;clear hcv;go_wp2_with fail;refine CV.out.mono ?_;rintro e5 w4c ⟨rfl,hb⟩;clear x0 x1 x4;clear z0 z1 z2 z3 z4 z5
     replace E2:=J (E2.out.on hb)
     replace E1:=J (E1.out.on hb)
     replace E3:=J (E3.out.on hb)
     replace EO:=J (Bk.dJ EO.out hb)
     replace Rm:=J (aL Rm.out hb.size)
     replace EL:=J (EL.out.trans (hb.mono EL.out.size))
     clear CV hb;have x6:=E2.out.cell 6;have VI:=E2.out.fr 6;have xlt:=E2.out.lt;simp only [ah,Q,U] at x6;have bs:=dM w4c (w.heap.size+1) 6 (aj (!cv));have T2:=J (show dI (w4c.setCell ⟨w.heap.size+1,6,au⟩ (aj (!cv))) (w.heap.size+1) #[L O y1,L O y2,L O y3,L O y4,K u1 u2 u3,L O y6,aj (!cv)] 66 by simpa using eD (k:=6) E2.out (aj (!cv)));have T1:=J (bs.box E1.out (by omega));have T3:=J (bs.box E3.out (by omega));have OC:=J (bs.own EO.out E2.out (by decide));have BW:=J (EL.out.setCell (p:=⟨w.heap.size+1,6,au⟩) (by simp) (aj (!cv)));have YF:=J (show w3.heap.size<=(w4c.setCell ⟨w.heap.size+1,6,au⟩ (aj (!cv))).heap.size by have:=Rm.out; simp; omega);clear bs E1 E2 E3 EO EL Rm;go_upto_region 8 with fail;clear x6 VI xlt;generalize w4c.setCell ⟨w.heap.size+1,6,au⟩ (aj (!cv))=w5 at *;have LQ:=J (show iB b e=({ b with ent:=fC b.ent k { e with up:=(!cv) } },(!cv)) from by
      rw [<- pI HR.out];unfold Co;obtain⟨a,h0,h1⟩:∃ a,fT b.dV e.tree=aG a/\r4=a.par:=by
       rw [ET.out];rcases HI.out with⟨h,_⟩|⟨_,h⟩
       ·cases h
       ·exact h
      rw [h0];simp only;rw [if_neg (by rw [ET.out,ES.out,TH.out]; simp),if_neg ?_,show dX (b.ent.map fA) (e.tree,e.sub)=k by rw [ET.out,ES.out]; exact HK.out,<- h1,RT.out]
      ·rw [ET.out,CVQ.out]
       rfl
      ·rintro⟨g,_⟩;rw [EF.out,<- h1] at g;have:=FQ.out;simp at this;exact this g)
     have Q1:=T1.out;obtain⟨x0,x1,x2,x3,x4,x5⟩:=Q1.gP;clear Q1;go_wp2_with fail;refine (pz b (no,nn,nc) (ao,an,ac) (so,sn,sc) (eo,en,ec) (oo,gI,oc) w w5 BW.out HH.out HF.out HP.out).mono ?_;rintro e6 w6 ⟨⟨⟨p1,q1,s1⟩,⟨p2,q2,s2⟩,⟨p3,q3,s3⟩,⟨p4,q4,s4⟩,⟨p5,q5,s5⟩,rfl,cp⟩,hb6⟩;clear x0 x1 x2 x3 x4 x5;have V1:=T1.out.on hb6;have V2:=J (T2.out.on hb6);have V3:=J (T3.out.on hb6);obtain⟨x0,x1,x2,x3,x4,x5⟩:=V1.gP;obtain⟨xf0,xf1,VE,VF,NH,VH⟩:=V1.pO;have xlt:=V1.lt;have bs:=fu w6 w.heap.size (L O b.me) (K p1 q1 s1) (K p2 q2 s2) (K p3 q3 s3) (K p4 q4 s4) (K p5 q5 s5);have FB:=J (dZ V1 (L O b.me) (K p1 q1 s1) (K p2 q2 s2) (K p3 q3 s3) (K p4 q4 s4) (K p5 q5 s5));have FC:=J (Sb.Cp.less (cp.but bs V1) (show w3.heap.size<=w5.heap.size from YF.out));have FO:=J (bs.own (Bk.dJ OC.out hb6) V1 (by decide));have FL:=J (dN (b:=w.heap.size) (BW.out.trans (hb6.mono BW.out.size)) (aP _) (L O b.me) (K p1 q1 s1) (K p2 q2 s2) (K p3 q3 s3) (K p4 q4 s4) (K p5 q5 s5));have F2:=J (bs.box V2.out (by omega));have F3:=J (bs.box V3.out (by omega));have SZ:=J (show w3.heap.size<=(iF w6 w.heap.size (L O b.me) (K p1 q1 s1) (K p2 q2 s2) (K p3 q3 s3) (K p4 q4 s4) (K p5 q5 s5)).heap.size by have:=hb6.size; have:=YF.out; simp; omega);clear V1 V2 V3 cp hb6 bs T1 T2 T3 OC BW;go_upto_region 9 with fail;clear x0 x1 x2 x3 x4 x5 xf0 xf1 VE VF NH VH xlt;unfold iF at FB FC FL F2 F3 SZ FO;generalize ((((((w6).setCell ⟨w.heap.size,0,au⟩ (L O b.me)).setCell ⟨w.heap.size,1,au⟩ (K p1 q1 s1)).setCell ⟨w.heap.size,2,au⟩ (K p2 q2 s2)).setCell ⟨w.heap.size,3,au⟩ (K p3 q3 s3)).setCell ⟨w.heap.size,4,au⟩ (K p4 q4 s4)).setCell ⟨w.heap.size,5,au⟩ (K p5 q5 s5)=w7 at *;obtain⟨le,hle1,hle2⟩:=FC.out.ent;have uO:=J hle1;have HL2:=J hle2;clear hle1 hle2;have nb:=gM w7 (aC #[L O y1,L O y2,L O y3,L O y4,K u1 u2 u3,L O y6,aj (!cv)] 66);have bx:=dL w7 #[L O y1,L O y2,L O y3,L O y4,K u1 u2 u3,L O y6,aj (!cv)] 66;have IN:=J (tF w3.heap.size (K p4 q4 s4) le k (y1,y2,y3,y4,(u1,u2,u3),y6,(!cv)) w7.heap.size _ (Bk.dJ uO.out nb) bx (fun e=>by
      obtain⟨d,hd⟩:=iO uO.out _ e;have:=hd.lt;omega) (by rw [HL2.out.len]; exact KL.out) (by rw [HL2.out.len]; exact HF.out.ent) (aL SZ.out nb.size))
     have YG:=J (FB.out.on nb);have VJ:=J (F2.out.on nb);have YH:=J (F3.out.on nb);have YI:=J (Bk.dJ FO.out nb);have YJ:=J (FC.out.grow nb);have YK:=J (FL.out.trans (nb.mono FL.out.size));have HA2:=J (HL2.out.mono fun _ _ q=>q.grow nb);have NI:=J (iO (Bk.dJ uO.out nb));have x4:=FB.out.cell 4;simp only [ah,Q,U] at x4;obtain⟨d0,d1,d2,d3,d4,d5,d6⟩:=F2.out.mE;clear nb bx;go_wp2_with fail;refine IN.out.mono ?_;rintro e8 w8 ⟨v8,rfl,hown,hbel,hoth⟩;clear x4;clear d0 d1 d2 d3 d4 d5 d6;generalize w7.alloc (aC #[L O y1,L O y2,L O y3,L O y4,K u1 u2 u3,L O y6,aj (!cv)] 66)=w7a at *;obtain⟨t1,t2,hv8⟩:=(Row.dG hown).len;subst hv8;generalize (le.take k++(y1,y2,y3,y4,(u1,u2,u3),y6,(!cv))::le.drop k).length=tn at *;have hoff:Off (K p4 q4 s4).ownBlock w7a w8:=⟨hoth,hbel.size⟩;have CP:=J (YJ.out.Vh (ev':=(t1,tn,t2)) (el:=fC b.ent k { e with up:=(!cv) }) hoff ⟨fC le k (y1,y2,y3,y4,(u1,u2,u3),y6,(!cv)),by unfold fC; rw [aW]; exact hown,vR (HA2.out.mono fun _ _ q=>q.off hoff NI.out (by decide)) k ⟨EE.out.1,EE.out.2.1,EE.out.2.2.1,rfl,Or.inr (hoff.own YI.out NI.out (by decide))⟩⟩);have G1:=hoff.box YG.out NI.out (by decide);have G3:=hoff.box YH.out NI.out (by decide);have G2:=J (show dI w8 (w.heap.size+1) #[L O y1,L O y2,L O y3,L O y4,K u1 u2 u3,L O y6,aj (!cv)] 66 from (hoth _ VJ.out.lt (fun e=>by
      have:=Hq uO.out _ e.symm;have:=L4.out;omega)).trans VJ.out)
     have NC:=J (show dI (w8.setCell ⟨w.heap.size,4,au⟩ (K t1 tn t2)) w.heap.size #[L O b.me,K p1 q1 s1,K p2 q2 s2,K p3 q3 s3,K t1 tn t2,K p5 q5 s5] 28 by simpa using eD (k:=4) G1 (K t1 tn t2));have MC:=J (CP.out.but (dM w8 w.heap.size 4 (K t1 tn t2)) G1);have M3:=J ((dM w8 w.heap.size 4 (K t1 tn t2)).box G3 (by omega));have M2:=J ((dM w8 w.heap.size 4 (K t1 tn t2)).box G2.out (by omega));have ML:=J (show Below w.heap.size w (w8.setCell ⟨w.heap.size,4,au⟩ (K t1 tn t2)) from (YK.out.trans (hbel.mono (by have:=L4.out; omega))).setCell (p:=⟨w.heap.size,4,au⟩) (aP _) _);have x4:=G1.cell 4;have NH:=G1.fr 4;have xlt:=G1.lt;simp only [ah,Q,U] at x4;clear hown hbel hoth hoff G1 G2 G3 CP FB YG FC YJ FO YI F2 VJ F3 YH FL YK uO HL2 HA2 NI IN SZ;go_upto_region 10 with fail;clear x4 NH xlt;generalize w8.setCell ⟨w.heap.size,4,au⟩ (K t1 tn t2)=w9 at *;have Q1:=NC.out;have Q2:=M2.out;have Q3:=M3.out;obtain⟨x0,x1,x2,x3,x4,x5⟩:=Q1.gP;have d6:=Q2.cell 6;simp only [ah,Q,U] at d6;obtain⟨z0,z1,z2,z3,z4,z5⟩:=Q3.gP;obtain⟨WY,WZ,Xa,Xb,Xc,Xd⟩:=Q3.pO;have Xe:=Q3.lt;have FB:=J ((dZ Q3 (L O b.me) (K p1 q1 s1) (K p2 q2 s2) (K p3 q3 s3) (K t1 tn t2) (K p5 q5 s5)).on (aH _ _).drew);have FC:=J ((MC.out.but (fu w9 (w.heap.size+1+1) (L O b.me) (K p1 q1 s1) (K p2 q2 s2) (K p3 q3 s3) (K t1 tn t2) (K p5 q5 s5)) Q3).grow (aH _ _).drew);have FL:=J (dN (b:=w.heap.size+1+1) ML.out (by omega) (L O b.me) (K p1 q1 s1) (K p2 q2 s2) (K p3 q3 s3) (K t1 tn t2) (K p5 q5 s5)).drew;clear Q1 Q2 Q3 NC MC M2 M3 ML;go_wp2
     go_region
     all_goals simp only [Exit.then]
     all_goals apply_assumption
     all_goals
      clear x0 x1 x2 x3 x4 x5;clear z0 z1 z2 z3 z4 z5 WY WZ Xa Xb Xc Xd Xe;clear d6;unfold iF at FB FC FL;generalize (((((((w9).setCell ⟨w.heap.size+1+1,0,au⟩ (L O b.me)).setCell ⟨w.heap.size+1+1,1,au⟩ (K p1 q1 s1)).setCell ⟨w.heap.size+1+1,2,au⟩ (K p2 q2 s2)).setCell ⟨w.heap.size+1+1,3,au⟩ (K p3 q3 s3)).setCell ⟨w.heap.size+1+1,4,au⟩ (K t1 tn t2)).setCell ⟨w.heap.size+1+1,5,au⟩ (K p5 q5 s5)).drew=wz at *;obtain⟨v0,v1,v2,v3,v4,v5⟩:=FB.out.gP;go_wp2;refine bodyPost_ret (v:=.tuple #[aZ #[L O b.me,K p1 q1 s1,K p2 q2 s2,K p3 q3 s3,K t1 tn t2,K p5 q5 s5],aj (!cv)]) (by simp [results,aM,go_sem,v0,v1,v2,v3,v4,v5]) rfl ?_;rw [LQ.out];exact⟨⟨(p1,q1,s1),(p2,q2,s2),(p3,q3,s3),(t1,tn,t2),(p5,q5,s5),rfl,FC.out.X7,fun _=>⟨_,FC.out.near⟩,fun _=>⟨_,_,FC.out⟩⟩,FL.out⟩
    ·have LQ:=J (show iB b e=(b,ay) from by
      rw [<- pI HR.out];unfold Co;obtain⟨a,h0,h1⟩:∃ a,fT b.dV e.tree=aG a/\r4=a.par:=by
       rw [ET.out];rcases HI.out with⟨h,_⟩|⟨_,h⟩
       ·cases h
       ·exact h
      rw [h0];simp only;rw [if_neg (by rw [ET.out,ES.out,TH.out]; simp),if_pos ?_];refine⟨?_,?_⟩
      ·rw [EF.out,<- h1];have:=FQ.out;simpa using this
      ·rw [<- h1];have:=RT.out;simpa using this)
     have Q1:=T1.out;have Q3:=T3.out;obtain⟨x0,x1,x2,x3,x4,x5⟩:=Q1.gP;obtain⟨z0,z1,z2,z3,z4,z5⟩:=Q3.gP;obtain⟨WY,WZ,Xa,Xb,Xc,Xd⟩:=Q3.pO;have Xe:=Q3.lt;have FB:=J (dZ Q3 (L O b.me) (K no nn nc) (K ao an ac) (K so sn sc) (K eo en ec) (K oo gI oc));have FL:=J (dN (b:=w.heap.size+1+1) BW.out (by omega) (L O b.me) (K no nn nc) (K ao an ac) (K so sn sc) (K eo en ec) (K oo gI oc));clear Q1 Q3;go_wp2_with fail;clear z0 z1 z2 z3 z4 z5;obtain⟨v0,v1,v2,v3,v4,v5⟩:=FB.out.gP;refine bodyPost_ret (v:=.tuple #[aZ #[L O b.me,K no nn nc,K ao an ac,K so sn sc,K eo en ec,K oo gI oc],aj ay]) (by simp [results,aM,go_sem,v0,v1,v2,v3,v4,v5]) rfl ?_;rw [LQ.out];exact⟨⟨(no,nn,nc),(ao,an,ac),(so,sn,sc),(eo,en,ec),(oo,gI,oc),rfl,HH.out.on FL.out,fun h=>h.on FL.out,fun h=>(h.resolve_right (by simp)).on FL.out⟩,FL.out⟩
   ·cases fq
    all_goals
     have x1:=T2.out.cell 1;have x0:=T2.out.cell 0;have x2:=T2.out.cell 2;have x3:=T2.out.cell 3;have x4:=T2.out.cell 4;have x6:=T2.out.cell 6;simp only [ah,Q,U] at x0 x1 x2 x3 x4 x6;have PE:=J (show eY w3 (K yo yn yc) e.p from (EE.out.2.2.2.2).on BW.out);have CP:=J (uQ (y1,y2,y3,y4,(yo,yn,yc),y6,y7) e.p w3 PE.out (iC OE.out));go_wp2_with fail;refine CP.out.mono ?_;rintro e4 VD ⟨⟨⟨u1,u2,u3⟩,rfl,ho⟩,hb⟩;clear x0 x1 x2 x3 x4 x6;clear a3 d5;have V2:=T2.out.on hb;obtain⟨x0,x1,x2,x3,x4,x5,x6⟩:=V2.mE;obtain⟨xf0,xf1,VE,VF,NH,VH,VI⟩:=V2.RA;have xlt:=V2.lt;have bs:=Bz VD (w.heap.size+1) (L O y1) (L O y2) (L O y3) (L O y4) (K u1 u2 u3) (L O y6) (aj y7);have E2:=J (oD V2 (L O y1) (L O y2) (L O y3) (L O y4) (K u1 u2 u3) (L O y6) (aj y7));have E1:=J (bs.box (T1.out.on hb) (by omega));have E3:=J (bs.box (T3.out.on hb) (by omega));have EO:=J (bs.own ho V2 (by decide));have EL:=J (lG (b:=w.heap.size+1) (BW.out.trans (hb.mono BW.out.size)) (by omega) (L O y1) (L O y2) (L O y3) (L O y4) (K u1 u2 u3) (L O y6) (aj y7));have Rm:=J (show w3.heap.size<=(Bv VD (w.heap.size+1) (L O y1) (L O y2) (L O y3) (L O y4) (K u1 u2 u3) (L O y6) (aj y7)).heap.size by have:=hb.size; simp; omega);have L4:=J (show w.heap.size+1+1<w3.heap.size from T3.out.lt);clear V2 ho hb CP T1 T2 T3 BW bs;go_upto_region 7 with fail;clear x0 x1 x2 x3 x4 x5 x6 xf0 xf1 VE VF NH VH VI xlt;unfold Bv at E2 E1 E3 EO EL Rm;generalize (((((((VD).setCell ⟨w.heap.size+1,0,au⟩ (L O y1)).setCell ⟨w.heap.size+1,1,au⟩ (L O y2)).setCell ⟨w.heap.size+1,2,au⟩ (L O y3)).setCell ⟨w.heap.size+1,3,au⟩ (L O y4)).setCell ⟨w.heap.size+1,4,au⟩ (K u1 u2 u3)).setCell ⟨w.heap.size+1,5,au⟩ (L O y6)).setCell ⟨w.heap.size+1,6,au⟩ (aj y7)=Xf at *;have x6:=E2.out.cell 6;have VI:=E2.out.fr 6;have xlt:=E2.out.lt;simp only [ah,Q,U] at x6;have bs:=dM Xf (w.heap.size+1) 6 (aj ay);have T2:=J (show dI (Xf.setCell ⟨w.heap.size+1,6,au⟩ (aj ay)) (w.heap.size+1) #[L O y1,L O y2,L O y3,L O y4,K u1 u2 u3,L O y6,aj ay] 66 by simpa using eD (k:=6) E2.out (aj ay));have T1:=J (bs.box E1.out (by omega));have T3:=J (bs.box E3.out (by omega));have OC:=J (bs.own EO.out E2.out (by decide));have BW:=J (EL.out.setCell (p:=⟨w.heap.size+1,6,au⟩) (by simp) (aj ay));have YF:=J (show w3.heap.size<=(Xf.setCell ⟨w.heap.size+1,6,au⟩ (aj ay)).heap.size by have:=Rm.out; simp; omega);clear bs E1 E2 E3 EO EL Rm;go_upto_region 8 with fail;clear x6 VI xlt;generalize Xf.setCell ⟨w.heap.size+1,6,au⟩ (aj ay)=w5 at *;have LQ:=J (show iB b e=({ b with ent:=fC b.ent k { e with up:=ay } },ay) from by
      rw [<- pI HR.out];unfold Co;obtain⟨a,h0,h1⟩:∃ a,fT b.dV e.tree=aG a/\r4=a.par:=by
       rw [ET.out];rcases HI.out with⟨h,_⟩|⟨_,h⟩
       ·cases h
       ·exact h
      rw [h0];simp only;rw [if_neg (by rw [ET.out,ES.out,TH.out]; simp),if_neg ?_,show dX (b.ent.map fA) (e.tree,e.sub)=k by rw [ET.out,ES.out]; exact HK.out,<- h1,RT.out]
      ·rfl
      ·rintro⟨_,g⟩;rw [<- h1] at g;have:=RT.out;simp at this;exact g this)
     have Q1:=T1.out;obtain⟨x0,x1,x2,x3,x4,x5⟩:=Q1.gP;clear Q1;go_wp2_with fail;refine (pz b (no,nn,nc) (ao,an,ac) (so,sn,sc) (eo,en,ec) (oo,gI,oc) w w5 BW.out HH.out HF.out HP.out).mono ?_;rintro e6 w6 ⟨⟨⟨p1,q1,s1⟩,⟨p2,q2,s2⟩,⟨p3,q3,s3⟩,⟨p4,q4,s4⟩,⟨p5,q5,s5⟩,rfl,cp⟩,hb6⟩;clear x0 x1 x2 x3 x4 x5;have V1:=T1.out.on hb6;have V2:=J (T2.out.on hb6);have V3:=J (T3.out.on hb6);obtain⟨x0,x1,x2,x3,x4,x5⟩:=V1.gP;obtain⟨xf0,xf1,VE,VF,NH,VH⟩:=V1.pO;have xlt:=V1.lt;have bs:=fu w6 w.heap.size (L O b.me) (K p1 q1 s1) (K p2 q2 s2) (K p3 q3 s3) (K p4 q4 s4) (K p5 q5 s5);have FB:=J (dZ V1 (L O b.me) (K p1 q1 s1) (K p2 q2 s2) (K p3 q3 s3) (K p4 q4 s4) (K p5 q5 s5));have FC:=J (Sb.Cp.less (cp.but bs V1) (show w3.heap.size<=w5.heap.size from YF.out));have FO:=J (bs.own (Bk.dJ OC.out hb6) V1 (by decide));have FL:=J (dN (b:=w.heap.size) (BW.out.trans (hb6.mono BW.out.size)) (aP _) (L O b.me) (K p1 q1 s1) (K p2 q2 s2) (K p3 q3 s3) (K p4 q4 s4) (K p5 q5 s5));have F2:=J (bs.box V2.out (by omega));have F3:=J (bs.box V3.out (by omega));have SZ:=J (show w3.heap.size<=(iF w6 w.heap.size (L O b.me) (K p1 q1 s1) (K p2 q2 s2) (K p3 q3 s3) (K p4 q4 s4) (K p5 q5 s5)).heap.size by have:=hb6.size; have:=YF.out; simp; omega);clear V1 V2 V3 cp hb6 bs T1 T2 T3 OC BW;go_upto_region 9 with fail;clear x0 x1 x2 x3 x4 x5 xf0 xf1 VE VF NH VH xlt;unfold iF at FB FC FL F2 F3 SZ FO;generalize ((((((w6).setCell ⟨w.heap.size,0,au⟩ (L O b.me)).setCell ⟨w.heap.size,1,au⟩ (K p1 q1 s1)).setCell ⟨w.heap.size,2,au⟩ (K p2 q2 s2)).setCell ⟨w.heap.size,3,au⟩ (K p3 q3 s3)).setCell ⟨w.heap.size,4,au⟩ (K p4 q4 s4)).setCell ⟨w.heap.size,5,au⟩ (K p5 q5 s5)=w7 at *;obtain⟨le,hle1,hle2⟩:=FC.out.ent;have uO:=J hle1;have HL2:=J hle2;clear hle1 hle2;have nb:=gM w7 (aC #[L O y1,L O y2,L O y3,L O y4,K u1 u2 u3,L O y6,aj ay] 66);have bx:=dL w7 #[L O y1,L O y2,L O y3,L O y4,K u1 u2 u3,L O y6,aj ay] 66;have IN:=J (tF w3.heap.size (K p4 q4 s4) le k (y1,y2,y3,y4,(u1,u2,u3),y6,ay) w7.heap.size _ (Bk.dJ uO.out nb) bx (fun e=>by
      obtain⟨d,hd⟩:=iO uO.out _ e;have:=hd.lt;omega) (by rw [HL2.out.len]; exact KL.out) (by rw [HL2.out.len]; exact HF.out.ent) (aL SZ.out nb.size))
     have YG:=J (FB.out.on nb);have VJ:=J (F2.out.on nb);have YH:=J (F3.out.on nb);have YI:=J (Bk.dJ FO.out nb);have YJ:=J (FC.out.grow nb);have YK:=J (FL.out.trans (nb.mono FL.out.size));have HA2:=J (HL2.out.mono fun _ _ q=>q.grow nb);have NI:=J (iO (Bk.dJ uO.out nb));have x4:=FB.out.cell 4;simp only [ah,Q,U] at x4;obtain⟨d0,d1,d2,d3,d4,d5,d6⟩:=F2.out.mE;clear nb bx;go_wp2_with fail;refine IN.out.mono ?_;rintro e8 w8 ⟨v8,rfl,hown,hbel,hoth⟩;clear x4;clear d0 d1 d2 d3 d4 d5 d6;generalize w7.alloc (aC #[L O y1,L O y2,L O y3,L O y4,K u1 u2 u3,L O y6,aj ay] 66)=w7a at *;obtain⟨t1,t2,hv8⟩:=(Row.dG hown).len;subst hv8;generalize (le.take k++(y1,y2,y3,y4,(u1,u2,u3),y6,ay)::le.drop k).length=tn at *;have hoff:Off (K p4 q4 s4).ownBlock w7a w8:=⟨hoth,hbel.size⟩;have CP:=J (YJ.out.Vh (ev':=(t1,tn,t2)) (el:=fC b.ent k { e with up:=ay }) hoff ⟨fC le k (y1,y2,y3,y4,(u1,u2,u3),y6,ay),by unfold fC; rw [aW]; exact hown,vR (HA2.out.mono fun _ _ q=>q.off hoff NI.out (by decide)) k ⟨EE.out.1,EE.out.2.1,EE.out.2.2.1,rfl,Or.inr (hoff.own YI.out NI.out (by decide))⟩⟩);have G1:=hoff.box YG.out NI.out (by decide);have G3:=hoff.box YH.out NI.out (by decide);have G2:=J (show dI w8 (w.heap.size+1) #[L O y1,L O y2,L O y3,L O y4,K u1 u2 u3,L O y6,aj ay] 66 from (hoth _ VJ.out.lt (fun e=>by
      have:=Hq uO.out _ e.symm;have:=L4.out;omega)).trans VJ.out)
     have NC:=J (show dI (w8.setCell ⟨w.heap.size,4,au⟩ (K t1 tn t2)) w.heap.size #[L O b.me,K p1 q1 s1,K p2 q2 s2,K p3 q3 s3,K t1 tn t2,K p5 q5 s5] 28 by simpa using eD (k:=4) G1 (K t1 tn t2));have MC:=J (CP.out.but (dM w8 w.heap.size 4 (K t1 tn t2)) G1);have M3:=J ((dM w8 w.heap.size 4 (K t1 tn t2)).box G3 (by omega));have M2:=J ((dM w8 w.heap.size 4 (K t1 tn t2)).box G2.out (by omega));have ML:=J (show Below w.heap.size w (w8.setCell ⟨w.heap.size,4,au⟩ (K t1 tn t2)) from (YK.out.trans (hbel.mono (by have:=L4.out; omega))).setCell (p:=⟨w.heap.size,4,au⟩) (aP _) _);have x4:=G1.cell 4;have NH:=G1.fr 4;have xlt:=G1.lt;simp only [ah,Q,U] at x4;clear hown hbel hoth hoff G1 G2 G3 CP FB YG FC YJ FO YI F2 VJ F3 YH FL YK uO HL2 HA2 NI IN SZ;go_upto_region 10 with fail;clear x4 NH xlt;generalize w8.setCell ⟨w.heap.size,4,au⟩ (K t1 tn t2)=w9 at *;have Q1:=NC.out;have Q2:=M2.out;have Q3:=M3.out;obtain⟨x0,x1,x2,x3,x4,x5⟩:=Q1.gP;have d6:=Q2.cell 6;simp only [ah,Q,U] at d6;obtain⟨z0,z1,z2,z3,z4,z5⟩:=Q3.gP;obtain⟨WY,WZ,Xa,Xb,Xc,Xd⟩:=Q3.pO;have Xe:=Q3.lt;have FB:=J ((dZ Q3 (L O b.me) (K p1 q1 s1) (K p2 q2 s2) (K p3 q3 s3) (K t1 tn t2) (K p5 q5 s5)).on (aH _ _).drew);have FC:=J ((MC.out.but (fu w9 (w.heap.size+1+1) (L O b.me) (K p1 q1 s1) (K p2 q2 s2) (K p3 q3 s3) (K t1 tn t2) (K p5 q5 s5)) Q3).grow (aH _ _).drew);have FL:=J (dN (b:=w.heap.size+1+1) ML.out (by omega) (L O b.me) (K p1 q1 s1) (K p2 q2 s2) (K p3 q3 s3) (K t1 tn t2) (K p5 q5 s5)).drew;clear Q1 Q2 Q3 NC MC M2 M3 ML;go_wp2
     go_region
     all_goals simp only [Exit.then]
     all_goals apply_assumption
     all_goals
      clear x0 x1 x2 x3 x4 x5;clear z0 z1 z2 z3 z4 z5 WY WZ Xa Xb Xc Xd Xe;clear d6;unfold iF at FB FC FL;generalize (((((((w9).setCell ⟨w.heap.size+1+1,0,au⟩ (L O b.me)).setCell ⟨w.heap.size+1+1,1,au⟩ (K p1 q1 s1)).setCell ⟨w.heap.size+1+1,2,au⟩ (K p2 q2 s2)).setCell ⟨w.heap.size+1+1,3,au⟩ (K p3 q3 s3)).setCell ⟨w.heap.size+1+1,4,au⟩ (K t1 tn t2)).setCell ⟨w.heap.size+1+1,5,au⟩ (K p5 q5 s5)).drew=wz at *;obtain⟨v0,v1,v2,v3,v4,v5⟩:=FB.out.gP;go_wp2;refine bodyPost_ret (v:=.tuple #[aZ #[L O b.me,K p1 q1 s1,K p2 q2 s2,K p3 q3 s3,K t1 tn t2,K p5 q5 s5],aj ay]) (by simp [results,aM,go_sem,v0,v1,v2,v3,v4,v5]) rfl ?_;rw [LQ.out];exact⟨⟨(p1,q1,s1),(p2,q2,s2),(p3,q3,s3),(t1,tn,t2),(p5,q5,s5),rfl,FC.out.X7,fun _=>⟨_,FC.out.near⟩,fun _=>⟨_,_,FC.out⟩⟩,FL.out⟩
  ·have LQ:=J (show iB b e=(b,ay) from by
    rw [<- pI HR.out];unfold Co;obtain⟨a,h0,h1⟩:∃ a,fT b.dV e.tree=aG a/\r4=a.par:=by
     rw [ET.out];rcases HI.out with⟨h,_⟩|⟨_,h⟩
     ·cases h
     ·exact h
    rw [h0];simp only;rw [if_pos (by rw [ET.out,ES.out,TH.out])])
   have Q1:=T1.out;have Q3:=T3.out;obtain⟨x0,x1,x2,x3,x4,x5⟩:=Q1.gP;obtain⟨z0,z1,z2,z3,z4,z5⟩:=Q3.gP;obtain⟨WY,WZ,Xa,Xb,Xc,Xd⟩:=Q3.pO;have Xe:=Q3.lt;have FB:=J (dZ Q3 (L O b.me) (K no nn nc) (K ao an ac) (K so sn sc) (K eo en ec) (K oo gI oc));have FL:=J (dN (b:=w.heap.size+1+1) BW.out (by omega) (L O b.me) (K no nn nc) (K ao an ac) (K so sn sc) (K eo en ec) (K oo gI oc));clear Q1 Q3;go_wp2_with fail;clear z0 z1 z2 z3 z4 z5;obtain⟨v0,v1,v2,v3,v4,v5⟩:=FB.out.gP;refine bodyPost_ret (v:=.tuple #[aZ #[L O b.me,K no nn nc,K ao an ac,K so sn sc,K eo en ec,K oo gI oc],aj ay]) (by simp [results,aM,go_sem,v0,v1,v2,v3,v4,v5]) rfl ?_;rw [LQ.out];exact⟨⟨(no,nn,nc),(ao,an,ac),(so,sn,sc),(eo,en,ec),(oo,gI,oc),rfl,HH.out.on FL.out,fun h=>h.on FL.out,fun h=>(h.resolve_right (by simp)).on FL.out⟩,FL.out⟩
theorem NJ {m:List En} (hr:iX m) {i j:Nat} {x y:En} (hx:m[i]?=aG x) (hy:m[j]?=aG y) (h:fA x=fA y):i=j:=by
 rcases Nat.lt_trichotomy i j with q|q|q
 ·have:=(kI x y).2 (sS hr q hx hy);rw [h,mW] at this;cases this
 ·exact q
 ·have:=(kI y x).2 (sS hr q hy hx);rw [h,mW] at this;cases this
theorem J8 {m:List En} (hr:iX m) {e:En} (he:e∈m):ru m e.tree e.sub=aG e/\iT m e.tree e.sub=aR:=by
 have ft:=wh hr e.tree e.sub;have hk:fA e∈m.map fA:=List.mem_map.2 ⟨e,he,rfl⟩;have ht:iT m e.tree e.sub=aR:=by
  cases h:iT m e.tree e.sub with
  | true=>rfl
  | false =>
   rw [h,if_neg (by simp)] at ft;rcases mK (m.map fA) (fA e) with q|⟨k,q,r⟩
   ·exfalso;obtain⟨j,hj⟩:=aT.1 hk;have:∀ l:List (fB×fB),jo l (fA e)=-1->fA e ∉ l:=by
     intro l
     induction l with
     | nil=>intro _ h; simp at h
     | cons a l ih =>
      intro h2 h3;rw [jo] at h2
      split at h2
      ·cases h2
      ·rename_i hne
       split at h2
       ·rename_i h4
        rcases List.mem_cons.1 h3 with h5|h5
        ·exact hne h5.symm
        ·exact ih h4 h5
       ·rename_i h4
        rcases mK l (fA e) with h5|⟨k,h5,_⟩
        ·exact h4 h5
        ·rw [h5] at h2; omega
    exact this _ q hk
   ·rw [show jo (m.map fA) (e.tree,e.sub)=jo (m.map fA) (fA e) from rfl,q] at ft;omega
 obtain⟨e',h1,h2,h3⟩:=yY ht;obtain⟨j,hj⟩:=aT.1 he;have hij:=NJ hr h1 hj h2;rw [hij,hj] at h1;obtain rfl:=aB h1;exact⟨h3,ht⟩
theorem Fg {m:List En} {t s:fB} (h:∀ e∈m,fA e≠(t,s)):iT m t s=ay:=by
 unfold iT;cases hm:m[dX (m.map fA) (t,s)]? with
 | none=>rfl
 | some e=>exact decide_eq_false (h e (aA hm))
theorem J9 {b:Br} (hr:iX b.ent) (e:En) (hn:∀ y∈b.ent,fA y≠fA e) :
  (fT b.dV e.tree=au/\iB b e=(b,ay))\/(∃ a,fT b.dV e.tree=aG a/\e.from_=a.par/\a.par≠-1/\iB b e=(b,ay)) \/
  (∃ a u,fT b.dV e.tree=aG a/\(e.from_=-1\/e.from_≠a.par)/\(u=aR->a.par≠-1)/\iB b e=({ b with ent:=fC b.ent (dX (b.ent.map fA) (fA e)) { e with up:=u } },u)/\u=(!(a.par == -1) && !fH b.ent e.tree e.p)):=by
 have ht:iT b.ent e.tree e.sub=ay:=Fg hn;rw [<- pI hr];unfold Co;cases hf:fT b.dV e.tree with
 | none=>exact Or.inl ⟨rfl,rfl⟩
 | some a =>
  right;simp only;rw [if_neg (by rw [ht]; simp)];by_cases hp:e.from_=a.par/\a.par≠-1
  ·rw [if_pos hp];exact Or.inl ⟨a,rfl,hp.1,hp.2,rfl⟩
  ·rw [if_neg hp];refine Or.inr ⟨a,_,rfl,?_,fun h=>?_,rfl,rfl⟩
   ·by_cases h1:e.from_=a.par
    ·left;rw [h1];exact Decidable.byContradiction fun q=>hp ⟨h1,q⟩
    ·exact Or.inr h1
   ·intro q;rw [q] at h;simp at h
abbrev tA (m:List En) (a:Ad):Bool:=a.par == -1 || qC (nP m a.id)
theorem Fh (b:Br) (nv av sv ev ov:Sl) (w:aJ) (h:lS w b nv av sv ev ov) (hr:iX b.ent) (hl:b.ent.length<=1000) (hok:∀ e∈b.ent,dW e.p) :
  aX aD 21 #[lN b.me nv av sv ev ov] w fun e w'=>e=aI (aj (zV b))/\Below w.heap.size w w':=by
 obtain⟨no,nn,nc⟩:=nv;obtain⟨ao,an,ac⟩:=av;obtain⟨so,sn,sc⟩:=sv;obtain⟨eo,en,ec⟩:=ev;obtain⟨oo,gI,oc⟩:=ov;obtain⟨la,ha1,ha2⟩:=h.dV;obtain⟨le,he1,he2⟩:=h.ent;have h0:=gM w (aC #[L O b.me,K no nn nc,K ao an ac,K so sn sc,K eo en ec,K oo gI oc] 28);have X:=dL w #[L O b.me,K no nn nc,K ao an ac,K so sn sc,K eo en ec,K oo gI oc] 28;have B:=J h0;have A1:=J (ha1.on h0);have A2:=J (ha2.mono fun _ _ q=>q.on h0);have E1:=J (he1.on h0);have E2:=J (he2.mono fun _ _ q=>q.on h0);have X1:=J X;have x2:=X.cell 2;simp only [ah,Q,U] at x2;have hn:=jT ha1;have lm:=ha1.most;unfold maxLen at lm;rw [hn] at lm;have HN:=J hn;have HR:=J hr;have HL:=J (show le.length<=1000 by rw [he2.len]; exact hl);have OK:=J hok;obtain⟨tb,htb⟩:∃ r,zV b=r:=⟨_,rfl⟩;rw [htb];have TB:=J htb;clear h0 X ha1 ha2 he1 he2 h hn hr hl hok htb;go_enter Tryz.func21,Tryz.ntmps21;go_upto_region 1 with fail;generalize w.alloc (aC #[L O b.me,K no nn nc,K ao an ac,K so sn sc,K eo en ec,K oo gI oc] 28)=W at *;go_wp2
 go_loopw [8] (fun i wr=>∃ k:Nat,k<=an/\i=L O k/\Below W.heap.size W wr/\∀ (j:Nat) (y:Ad),j<k->b.dV[j]?=aG y->tA b.ent y=aR) (fun i _=>an-(intOf i).toNat)
 case atStart=>exact⟨0,aO _,rfl,aH _ _,fun j y h=>by omega⟩
 case round =>
  obtain⟨k,hk,rfl,hbe,hall⟩:=hrel;have BE:=J hbe;have AL:=J hall;clear hbe hall;by_cases hlt:k<an
  ·obtain⟨y,hy⟩:∃ y,la[k]?=aG y:=⟨_,ak (by rw [HN.out]; exact hlt)⟩;obtain⟨q,ix,px⟩:=Qq A1.out rfl HN.out hy;obtain⟨p0,p1,p2,p3⟩:=px wr BE.out;obtain⟨a,ha⟩:∃ a,b.dV[k]?=aG a:=⟨_,ak (by rw [<- A2.out.len,HN.out]; exact hlt)⟩;obtain⟨y',hy',hx⟩:=A2.out.at k a ha;rw [hy] at hy';obtain rfl:=aB hy';obtain⟨y1,y2,⟨yo,yn,yc⟩,y4⟩:=y;simp only at p0 p1 p2 p3;have NB:=J (gM wr (aC #[L O y1,L O y2,K yo yn yc,L O y4] 74));have BF:=J (BE.out.trans (NB.out.mono BE.out.size));have x4:=(X1.out.on BF.out).cell 4;simp only [ah,Q,U] at x4;have hw3:IntKind.i64.wrap ((k:Int)+1)=(k:Int)+1:=aN _ (by omega);have HA:=J ha;have HX:=J (show ((y1,y2):fB)=a.id/\y4=a.par from ⟨hx.1,hx.2.1⟩);clear px hy ha hx x2;by_cases hp:y4=-1
   ·have hne:(y4 != -1)=ay:=by simp [hp]
    have HV:=J (show tA b.ent a=aR by unfold tA; rw [<- HX.out.2,hp]; rfl);clear hp;go_wp2
    go_roundw
    case rel=>exact⟨k+1,by omega,by go_num,BF.out,fun j y' hj h1=>by
     rcases aK j k with h3|h3
     ·exact AL.out j y' h3 h1
     ·obtain rfl:j=k:=by omega
      have e1:=HA.out;rw [h1] at e1;rw [aB e1];exact HV.out⟩
    case measure=>simp [intOf]; omega
   ·have hne:(y4 != -1)=aR:=by simp [hp]
    obtain⟨t,ht⟩:∃ r,qC (nP b.ent (y1,y2))=r:=⟨_,rfl⟩;have HV:=J (show tA b.ent a=t by
     unfold tA;rw [<- HX.out.2,<- HX.out.1,ht,show (y4 == -1)=ay by simpa using hp,Bool.false_or])
    have BR:=J (qD (eo,en,ec) le b.ent (y1,y2) _ (E1.out.on BF.out) (E2.out.mono fun _ _ q=>q.on BF.out) HR.out HL.out);obtain⟨c1,c2⟩:=Fb E1.out E2.out (y1,y2);have C1:=J c1;have C2:=J c2;generalize cutV (eo,en,ec) (iR b.ent (y1,y2)) (nP b.ent (y1,y2)).length=z at *;obtain⟨z1,z2,z3⟩:=z;have HT:=J ht;clear hp c1 c2 ht;go_wp2_with fail;refine BR.out.mono ?_;rintro e1 w1 ⟨rfl,hb⟩;have BG:=J (BF.out.trans (hb.mono BF.out.size));have TC:=J (J6 (z1,z2,z3) _ (nP b.ent (y1,y2)) w1 (C1.out.on BG.out) (C2.out.mono fun _ _ q=>q.on BG.out) (fun e he=>OK.out e (Fe _ _ e he)));rw [HT.out] at TC;clear hb BR x4 p0 p1 p2 p3 ix;go_wp2_with fail;refine TC.out.mono ?_;rintro e2 w2 ⟨rfl,hb⟩;have BH:=J (BG.out.trans (hb.mono BG.out.size));clear hb TC;cases t
    ·have hd:=J (show tb=ay by rw [<- TB.out]; exact Ny (tA b.ent) HA.out HV.out);go_wp2;go_ret;exact⟨by rw [hd.out]; rfl,B.out.trans (BH.out.mono B.out.size)⟩
    ·go_wp2
     go_roundw
     case rel=>exact⟨k+1,by omega,by go_num,BH.out,fun j y' hj h1=>by
      rcases aK j k with h3|h3
      ·exact AL.out j y' h3 h1
      ·obtain rfl:j=k:=by omega
       have e1:=HA.out;rw [h1] at e1;rw [aB e1];exact HV.out⟩
     case measure=>simp [intOf]; omega
  ·obtain rfl:an=k:=by omega
   have hd:=J (show tb=aR by rw [<- TB.out]; exact Nw (tA b.ent) fun j y hj h=>AL.out j y (by rw [<- HN.out,A2.out.len]; exact hj) h);clear x2;go_wp2;go_ret;exact⟨by rw [hd.out]; rfl,B.out.trans (BE.out.mono B.out.size)⟩
end Sb
namespace Rg
open Go.RowKit
end Rg
namespace Av
open Go.RowKit Go.ChangeShapes Go.WideShapes Bk
theorem Rn (a:Addr) (m len cap:Nat) (h:m<len) (w:aJ):(Instr.indexAt 61 (K (aG a) len cap) (L O m)).run aD w=.ok (.pointer (aG (a.add (m * 2)))) w:=by
 have h1:(m:Int)<len:=by omega
 simp [go_sem,aQ,h1]
structure VL (W:aJ) (v:aS) (n:Nat):Prop where
 shape:∃ ao cap,v=K ao n cap
 at_:∀ i:Nat,i<n->∃ (p:Addr) (h1:Option Addr) (h2 h3:Nat) (g1:Option Addr) (g2 g3:Nat) (has vals:List Int),p.block<W.heap.size/\(∀ w,(Instr.indexAt 61 v (L O i)).run aD w=.ok (.pointer (aG p)) w)/\(∀ j u,([K h1 h2 h3,K g1 g2 g3]:List aS)[j]?=aG u->W.cell? (p.add j)=aG u)/\In.gy W (K h1 h2 h3) has/\In.gy W (K g1 g2 g3) vals/\has.length<=maxLen/\vals.length<=maxLen
theorem UH {H:Type} {enc:TypeId×aS->H} {W:aJ} {r:Reach} {b0:Nat} {sp:Nat->Bool} {held:Bool} {v:aS} {d:DataW H} {ps:List MemPlace}
  (hval:Value.okWide aD W r b0 61 v) (hd:DataW.Trod enc aD W 0 sp held 61 v d ps):∃ n:Nat,n<=maxLen/\VL W v n:=by
 obtain⟨ao,al,ac,rfl⟩:=okWide_slice aQ hval;obtain⟨fuel,hf⟩:=hd;rcases Deep.open_slice aQ hf with⟨h1,_⟩|⟨a,len,cap,m,n,D,Pl,h1,_,h3,h4,h5,_,hx⟩
 ·have e:K ao al ac=K au 0 0:=by simpa [bf] using h1
  exact⟨0,aO _,⟨au,0,e⟩,fun i hi=>by omega⟩
 ·have e:K ao al ac=K (aG a) len cap:=by simpa [bf] using h1
  rw [e];have hle:len<=m:=by rw [h5]; split <;> omega
  refine⟨len,by omega,⟨aG a,cap,rfl⟩,fun i hi=>?_⟩;obtain⟨cs',k1,k2⟩:=hx i (by omega);obtain⟨ys,n2,_,_,hcl,hyl,hp⟩:=DataW.trod_struct Tryz.underlying49 k2;rw [Pr.Mr] at hcl k1
  match cs',hcl with
  | [c0,d1],_ =>
   have aey:ys.length=2:=hyl;have q0:DataW.trod enc aD W 0 sp held n2 22 (([c0,d1].drop 0).take (Tryz.prog.cellsOf 22))=ys[0]?:=hp 0 _ rfl;have q1:DataW.trod enc aD W 0 sp held n2 22 (([c0,d1].drop 1).take (Tryz.prog.cellsOf 22))=ys[1]?:=hp 1 _ rfl;simp only [Pr.Gz,List.drop_zero,List.drop_succ_cons,List.take_succ_cons,List.take_zero] at q0 q1;rw [ak (by omega)] at q0 q1;obtain⟨has,l1,i1⟩:=In.uI q0;obtain⟨vals,l2,i2⟩:=In.uI q1;obtain⟨x1,y1,rfl⟩:=i1.shape;obtain⟨x2,y2,rfl⟩:=i2.shape;obtain⟨_,_,k3⟩:=World.cells?_some k1;have k0:=k3 0 (by decide);rw [Rw.add_zero] at k0;refine⟨a.add (i * 2),x1,_,y1,x2,_,y2,has,vals,World.block_lt_of_cell? W _ k0,fun w=>Rn a i len cap hi w,fun j u hu=>?_,i1,i2,l1,l2⟩;have hj:j<2:=(aF.1 hu).1;rw [<- hu];exact k3 j hj
end Av
end Go.Proofs.YtmklifheakemeaaGreat
