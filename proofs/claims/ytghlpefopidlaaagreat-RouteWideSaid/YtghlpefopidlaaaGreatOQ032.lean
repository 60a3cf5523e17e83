/-
  covered and tight of. Conditions as told.
-/
import Derived.Test.YtghlpefopidlaaaGreatOQ030
import Derived.Test.YtghlpefopidlaaaGreatOQ031
set_option maxRecDepth 100000
set_option maxHeartbeats 64000000
open _root_.Bool renaming true->aO,false->aQ,and_eq_true->bS
open _root_.Go renaming World->aG,Value->aR,Calls->bF,Addr->cO
open Go.Builtin renaming copy_->bf,append_->bC
open Go.Ending renaming returned->aN
open Go.Instr renaming sliceAt->aI,indexAt->cK
open Go.IntKind renaming i64->ah,wrap_i64->bU
open Go.Lib renaming hid->J
open Go.Obj renaming cells->aK
open Go.Operand renaming tmp->aW
open Go.Proofs.Tryz renaming prog->ak,ntmps43->bP,func43->bY,results29->bZ
open Go.RowKit.Below renaming refl->aD
open Go.Value renaming slice->O,int->U,pointer->aF,bool->aL,agg->bO,ownBlock->cB
open _root_.List renaming mem_of_getElem?->ay,getElem?_toArray->aA,getElem?_cons_zero->aB,getElem?_cons_succ->aC,getElem?_eq_getElem->aH,append_assoc->aJ,getElem?_eq_some_iff->aP,take_append_drop->aV,getElem?_append_right->aX,getElem?_append_left->aY,getElem?_map->aZ,getElem?_set_self->bq,singleton_append->bD,mem_cons_of_mem->bG,getElem_of_mem->bH,takeWhile_cons->bI,map_cons->bJ,mem_cons->bK,pairwise_cons->bM,length_take->bR,length_cons->bT
open _root_.Nat renaming add_sub_cancel_left->aS,lt_or_ge->aT,le_trans->bg,lt_of_lt_of_le->bL,zero_le->bV,le_refl->bX
open _root_.Option renaming none->aj,some->au
open Option.some renaming inj->aM
open _root_.Or renaming inr->aU,inl->cu
namespace Go.Proofs.YtghlpefopidlaaaGreat
namespace Sb
open Go.RowKit Go.Sort Rw YtghlpefopidlaaaGreat.Nm Pr Bk Av Rl
theorem K5 (xX bv:aR) (p q:List C5) (w:aG) (ha:gq w xX p) (hb:gq w bv q) (hp:dU p) (hq:dU q) :
  bF ak 27 #[xX,bv] w fun e w'=>e=aN (aL (lT p q))/\Below w.heap.size w w':=by
 obtain⟨a,na,rfl⟩:=hp;obtain⟨b,nb,rfl⟩:=hq;unfold lT;rw [qJ,qJ];exact DU xX bv a b w ha hb na nb
theorem RO {α:Type} (f:α->Bool) {l:List α} (h:∀ (j:Nat) (y:α),j<l.length->l[j]?=au y->f y=aQ):l.any f=aQ:=by
 rw [List.any_eq_false];intro e he;obtain⟨j,hj,Yj⟩:=bH he;simpa using h j e hj (by rw [aH hj,Yj])
theorem RP {α:Type} (f:α->Bool) {l:List α} {k:Nat} {y:α} (h:l[k]?=au y) (hf:f y=aO):l.any f=aO:=by
 rw [List.any_eq_true];exact⟨y,ay h,hf⟩
abbrev cE (p:List C5) (e:En):Bool:=e.up && lT e.p p
theorem oI (v:Sl) (pv:aR) (l:List iT) (m:List En) (p':List C5) (w:aG) (hs:nk w (dN v) l) (hu:eG (lH w) l m) (hp:gq w pv p') (hok:∀ e∈m,dU e.p) (hop:dU p') :
  bF ak 131 #[dN v,pv] w fun e w'=>e=aN (aL (rR m p'))/\Below w.heap.size w w':=by
 have HU:=J hu;have HP:=J hp;have OK:=J hok;have OP:=J hop;obtain⟨pa,pc,rfl⟩:=hp.len;generalize p'.length=pn at *;obtain⟨so,n,sc⟩:=v;have hn:=gL hs;have HS:=J hs;have lm:=hs.most;unfold maxLen at lm;rw [hn] at lm;have HN:=J hn;clear hu hp hok hop hs hn;go_enter Tryz.func131,Tryz.ntmps131;go_wp2
 go_loopw [9] (fun i wr=>∃ k:Nat,k<=n/\i=U ah k/\Below w.heap.size w wr/\∀ (j:Nat) (y:En),j<k->m[j]?=au y->cE p' y=aQ) (fun i _=>n-(intOf i).toNat)
 case atStart=>exact⟨0,bV _,rfl,aD _ _,fun j y h=>by omega⟩
 case round =>
  obtain⟨k,hk,rfl,hbe,hall⟩:=hrel;have BE:=J hbe;have AL:=J hall;clear hbe hall;by_cases hlt:k<n
  ·obtain⟨y,hy⟩:∃ y,l[k]?=au y:=⟨_,aH (by rw [HN.out]; exact hlt)⟩;obtain⟨q,ix,px⟩:=Tx HS.out rfl HN.out hy;obtain⟨p0,p1,p2,p3,p4,p5,p6⟩:=px wr BE.out;obtain⟨e,he,_,hin⟩:=jC HU.out hy;obtain⟨y1,y2,y3,y4,⟨yo,yn,yc⟩,y6,y7⟩:=y;simp only at p0 p1 p2 p3 p4 p5 p6;have NB:=J (iM wr (aK #[U ah y1,U ah y2,U ah y3,U ah y4,O yo yn yc,U ah y6,aL y7] 67));have hw3:IntKind.i64.wrap ((k:Int)+1)=(k:Int)+1:=IntWalk.i64_in _ (by omega);obtain⟨t,ht⟩:∃ r,lT e.p p'=r:=⟨_,rfl⟩;have HV:=J (show cE p' e=(y7 && t) by unfold cE; rw [<- hin.2.2.2.1,ht]);have HE:=J he;have BF:=J (BE.out.trans (NB.out.mono BE.out.size));have CV:=J (K5 (O yo yn yc) (O pa pn pc) e.p p' _ (hin.2.2.2.2.on BF.out) (HP.out.on BF.out) (OK.out _ (ay he)) OP.out);rw [ht] at CV;clear px hy ht he hin;cases y7
   ·clear CV;go_wp2
    go_roundw
    case rel=>exact⟨k+1,by omega,by go_num,BF.out,fun j y' hj h1=>by
     rcases aT j k with h3|h3
     ·exact AL.out j y' h3 h1
     ·obtain rfl:j=k:=by omega
      have e1:=HE.out;rw [h1] at e1;rw [aM e1];exact HV.out.trans (by simp)⟩
    case measure=>simp [intOf]; omega
   ·go_wp2_with fail;refine CV.out.mono ?_;rintro e3 w3 ⟨rfl,hb⟩;have BG:=J (BF.out.trans (hb.mono BF.out.size));clear CV hb p0 p1 p2 p3 p4 p5 p6 ix;cases t
    ·go_wp2
     go_roundw
     case rel=>exact⟨k+1,by omega,by go_num,BG.out,fun j y' hj h1=>by
      rcases aT j k with h3|h3
      ·exact AL.out j y' h3 h1
      ·obtain rfl:j=k:=by omega
       have e1:=HE.out;rw [h1] at e1;rw [aM e1];exact HV.out.trans (by simp)⟩
     case measure=>simp [intOf]; omega
    ·have hd:rR m p'=aO:=RP (cE p') HE.out (HV.out.trans (by simp));go_wp2;go_ret;exact⟨by rw [hd]; rfl,BG.out⟩
  ·obtain rfl:k=n:=by omega
   have hd:rR m p'=aQ:=RO (cE p') fun j y hj h=>AL.out j y (by rw [<- HN.out,HU.out.len]; exact hj) h;go_wp2;go_ret;exact⟨by rw [hd]; rfl,BE.out⟩
theorem K6 {α:Type} (f:α->Bool) {l:List α} (h:∀ (j:Nat) (y:α),j<l.length->l[j]?=au y->f y=aO):l.all f=aO:=by
 rw [List.all_eq_true];intro e he;obtain⟨j,hj,Yj⟩:=bH he;exact h j e hj (by rw [aH hj,Yj])
theorem K7 {α:Type} (f:α->Bool) {l:List α} {k:Nat} {y:α} (h:l[k]?=au y) (hf:f y=aQ):l.all f=aQ:=by
 rw [List.all_eq_false];exact⟨y,ay h,by rw [hf]; simp⟩
abbrev tE (r:List En) (e:En):Bool:=e.up || rR r e.p
theorem Iw (v:Sl) (l:List iT) (m:List En) (w:aG) (hs:nk w (dN v) l) (hu:eG (lH w) l m) (hok:∀ e∈m,dU e.p) :
  bF ak 83 #[dN v] w fun e w'=>e=aN (aL (qc m))/\Below w.heap.size w w':=by
 have HU:=J hu;have OK:=J hok;have HS:=J hs;obtain⟨so,n,sc⟩:=v;have hn:=gL hs;have lm:=hs.most;unfold maxLen at lm;rw [hn] at lm;have HN:=J hn;clear hu hok hs hn;go_enter Tryz.func83,Tryz.ntmps83;go_wp2
 go_loopw [7] (fun i wr=>∃ k:Nat,k<=n/\i=U ah k/\Below w.heap.size w wr/\∀ (j:Nat) (y:En),j<k->m[j]?=au y->tE m y=aO) (fun i _=>n-(intOf i).toNat)
 case atStart=>exact⟨0,bV _,rfl,aD _ _,fun j y h=>by omega⟩
 case round =>
  obtain⟨k,hk,rfl,hbe,hall⟩:=hrel;have BE:=J hbe;have AL:=J hall;clear hbe hall;by_cases hlt:k<n
  ·obtain⟨y,hy⟩:∃ y,l[k]?=au y:=⟨_,aH (by rw [HN.out]; exact hlt)⟩;obtain⟨q,ix,px⟩:=Tx HS.out rfl HN.out hy;obtain⟨p0,p1,p2,p3,p4,p5,p6⟩:=px wr BE.out;obtain⟨e,he,_,hin⟩:=jC HU.out hy;obtain⟨y1,y2,y3,y4,⟨yo,yn,yc⟩,y6,y7⟩:=y;simp only at p0 p1 p2 p3 p4 p5 p6;have NB:=J (iM wr (aK #[U ah y1,U ah y2,U ah y3,U ah y4,O yo yn yc,U ah y6,aL y7] 67));have hw3:IntKind.i64.wrap ((k:Int)+1)=(k:Int)+1:=IntWalk.i64_in _ (by omega);obtain⟨t,ht⟩:∃ r,rR m e.p=r:=⟨_,rfl⟩;have HV:=J (show tE m e=(y7 || t) by unfold tE; rw [<- hin.2.2.2.1,ht]);have HE:=J he;have BF:=J (BE.out.trans (NB.out.mono BE.out.size));have CV:=J (oI (so,n,sc) (O yo yn yc) l m e.p _ (HS.out.on BF.out) (HU.out.mono fun _ _ q=>q.on BF.out) (hin.2.2.2.2.on BF.out) OK.out (OK.out _ (ay he)));rw [ht] at CV;clear px hy ht he hin;cases y7
   ·go_wp2_with fail;refine CV.out.mono ?_;rintro e3 w3 ⟨rfl,hb⟩;have BG:=J (BF.out.trans (hb.mono BF.out.size));clear CV hb p0 p1 p2 p3 p4 p5 p6 ix;cases t
    ·have hd:qc m=aQ:=K7 (tE m) HE.out (HV.out.trans (by simp));go_wp2;go_ret;exact⟨by rw [hd]; rfl,BG.out⟩
    ·go_wp2
     go_roundw
     case rel=>exact⟨k+1,by omega,by go_num,BG.out,fun j y' hj h1=>by
      rcases aT j k with h3|h3
      ·exact AL.out j y' h3 h1
      ·obtain rfl:j=k:=by omega
       have e1:=HE.out;rw [h1] at e1;rw [aM e1];exact HV.out.trans (by simp)⟩
     case measure=>simp [intOf]; omega
   ·clear CV;go_wp2
    go_roundw
    case rel=>exact⟨k+1,by omega,by go_num,BF.out,fun j y' hj h1=>by
     rcases aT j k with h3|h3
     ·exact AL.out j y' h3 h1
     ·obtain rfl:j=k:=by omega
      have e1:=HE.out;rw [h1] at e1;rw [aM e1];exact HV.out.trans (by simp)⟩
    case measure=>simp [intOf]; omega
  ·obtain rfl:k=n:=by omega
   have hd:qc m=aO:=K6 (tE m) fun j y hj h=>AL.out j y (by rw [<- HN.out,HU.out.len]; exact hj) h;go_wp2;go_ret;exact⟨by rw [hd]; rfl,BE.out⟩
theorem K8 {W:aG} {v:Sl} {l:List iT} {m:List En} (hv:nk W (dN v) l) (hA:eG (lH W) l m) (t:dO):nk W (dN (cutV v (gy m t) (jW m t).length)) ((l.drop (gy m t)).take (jW m t).length)/\eG (lH W) ((l.drop (gy m t)).take (jW m t).length) (jW m t):=by
 refine⟨(zA hv _ _ (by rw [hA.len]; exact r9 m t)).2,?_⟩;have h:=(hA.drop (gy m t)).take (jW m t).length;have e:(m.drop (gy m t)).take (jW m t).length=jW m t:=by
  unfold jW
  conv=>lhs; arg 2; rw [<- List.takeWhile_append_dropWhile (p:=fun e:En=>decide (e.tree=t)) (l:=m.drop (gy m t))]
  rw [List.take_left]
 rw [e] at h;exact h
theorem K9 (m:List En) (t:dO):∀ e∈jW m t,e∈m:=fun _ he=>List.mem_of_mem_drop ((List.takeWhile_sublist _).subset he)
theorem La (me:Int) (nv av sv ov:aR) (ev:Sl) (l:List iT) (m:List En) (t:dO) (pv:aR) (p':List C5) (w:aG) (hs:nk w (dN ev) l) (hu:eG (lH w) l m) (hr:fV m) (hl:l.length<=1000) (hp:gq w pv p') (hok:∀ e∈m,dU e.p) (hop:dU p') :
  bF ak 156 #[bO #[U ah me,nv,av,sv,dN ev,ov],pK t,pv] w fun e w'=>e=aN (aL (dV m t p'))/\Below w.heap.size w w':=by
 obtain⟨pa,pc,rfl⟩:=hp.len;obtain⟨so,n,sc⟩:=ev;obtain⟨c,d⟩:=t;obtain⟨h0,X,Y⟩:=iO w #[U ah me,nv,av,sv,O so n sc,ov] #[U ah c,U ah d] 30 23;have B:=J h0;have x4:=X.cell 4;obtain⟨y0,y1⟩:=Y.cs2;simp only [aA,aB,aC] at x4;have BR:=J (qh (so,n,sc) l m (c,d) _ (hs.on h0) (hu.mono fun _ _ q=>q.on h0) hr hl);obtain⟨q1,q2⟩:=K8 (hs.on h0) (hu.mono fun _ _ q=>q.on h0) (c,d);have Q1:=J q1;have Q2:=J q2;have HP:=J (hp.on h0);have OK:=J (fun e he=>hok e (K9 m (c,d) e he));have CB:=J (DF hr (c,d) p');generalize p'.length=pn at *;generalize dV m (c,d) p'=r at *;generalize cutV (so,n,sc) (gy m (c,d)) (jW m (c,d)).length=z at *;obtain⟨z1,z2,z3⟩:=z;clear h0 X Y hs hu hr hl hp hok q1 q2;go_enter Tryz.func156,Tryz.ntmps156;go_wp2_with fail;generalize (w.alloc (aK #[U ah me,nv,av,sv,O so n sc,ov] 30)).alloc (aK #[U ah c,U ah d] 23)=W at *;refine BR.out.mono ?_;rintro e1 w1 ⟨rfl,hb⟩;have HB:=J hb;have CV:=J (oI (z1,z2,z3) (O pa pn pc) _ (jW m (c,d)) p' w1 (Q1.out.on hb) (Q2.out.mono fun _ _ q=>q.on hb) (HP.out.on hb) OK.out hop);clear x4 y0 y1 hb BR;go_wp2_with fail;refine CV.out.mono ?_;rintro e2 w2 ⟨rfl,hb2⟩;go_wp2;go_ret;exact⟨by rw [<- CB.out]; rfl,B.out.trans ((HB.out.trans (hb2.mono HB.out.size)).mono B.out.size)⟩
def qO (m:List En) (t s:dO):Option En:=match m[dR (m.map dF) (t,s)]? with
 | none=>aj
 | some e=>if dF e=(t,s) then au e else aj
def FiQ (w:aG) (o:Option En) (e:Ending) (w':aG):Prop:=(match o with
 | none=>e=aN (.tuple #[tF (0,0,0,0,(aj,0,0),0,aQ),aL aQ])
 | some a=>∃ r:iT,e=aN (.tuple #[tF r,aL aO])/\lH w' r a)/\Below w.heap.size w w'
theorem mH {m:List En} {t s:dO} (h:gW m t s=aO):∃ e,m[dR (m.map dF) (t,s)]?=au e/\dF e=(t,s)/\qO m t s=au e:=by
 unfold gW at h;cases hm:m[dR (m.map dF) (t,s)]? with
 | none=>rw [hm] at h; cases h
 | some e =>
  rw [hm] at h;have hk:=of_decide_eq_true h;exact⟨e,rfl,hk,by unfold qO; rw [hm]; simp only; rw [if_pos hk]⟩
theorem vg {m:List En} {t s:dO} (h:gW m t s=aQ):qO m t s=aj:=by
 unfold gW at h;unfold qO;cases hm:m[dR (m.map dF) (t,s)]? with
 | none=>rfl
 | some e =>
  rw [hm] at h;simp only;rw [if_neg (of_decide_eq_false h)]
theorem Iy (me:Int) (nv av sv ov:aR) (ev:Sl) (l:List iT) (m:List En) (t s:dO) (w:aG) (hs:nk w (dN ev) l) (hu:eG (lH w) l m) (hr:fV m) (hl:l.length<=1000) (hf:∀ e∈m,e.p.length<=900) :
  bF ak 29 #[bO #[U ah me,nv,av,sv,dN ev,ov],pK t,pK s] w (FiQ w (qO m t s)):=by
 obtain⟨so,n,sc⟩:=ev;obtain⟨c,d⟩:=t;obtain⟨g,h⟩:=s;obtain⟨h0,X,Y,Z,V⟩:=uR w #[U ah me,nv,av,sv,O so n sc,ov] #[U ah c,U ah d] #[U ah g,U ah h] #[U ah 0,U ah 0,U ah 0,U ah 0,O aj 0 0,U ah 0,aL aQ] 30 23 23 67;have B:=J h0;have x4:=X.cell 4;obtain⟨y0,y1⟩:=Y.cs2;obtain⟨z0,z1⟩:=Z.cs2;simp only [aA,aB,aC] at x4;have HS:=J (hs.on h0);have HU:=J (hu.mono fun _ _ q=>q.on h0);have PL:=J (rZ (so,n,sc) l m (c,d) (g,h) _ HS.out HU.out hr hl);have X1:=J X;have V1:=J V;have HF:=J hf;have hn:=gL hs;have HN:=J hn;obtain⟨th,hth⟩:∃ k,gW m (c,d) (g,h)=k:=⟨_,rfl⟩;rw [hth] at PL;obtain⟨k,hk⟩:∃ k,dR (m.map dF) ((c,d),(g,h))=k:=⟨_,rfl⟩;rw [hk] at PL;have HK:=J hk;obtain⟨fo,hfo⟩:∃ o,qO m (c,d) (g,h)=o:=⟨_,rfl⟩;rw [hfo];have FO:=J hfo;have SV:=J V.lt;clear h0 X Y Z V hs hu hr hl hf hn hk hfo;go_enter Tryz.func29,Tryz.ntmps29;go_wp2_with fail;generalize (((w.alloc (aK #[U ah me,nv,av,sv,O so n sc,ov] 30)).alloc (aK #[U ah c,U ah d] 23)).alloc (aK #[U ah g,U ah h] 23)).alloc (aK #[U ah 0,U ah 0,U ah 0,U ah 0,O aj 0 0,U ah 0,aL aQ] 67)=W at *;refine PL.out.mono ?_;rintro e1 w1 ⟨rfl,hb⟩;have HB:=J hb;have X2:=J (X1.out.on hb);have V2:=V1.out.on hb;have BB:=J (B.out.trans (hb.mono B.out.size));clear x4 y0 y1 z0 z1 PL hb;have x4:=X2.out.cell 4;simp only [aA,aB,aC] at x4;cases th
 ·have FN:=J (show fo=aj by rw [<- FO.out]; exact vg hth);obtain⟨v0,v1,v2,v3,v4,v5,v6⟩:=V2.zT;obtain⟨f0,f1,f2,f3,f4,f5,f6⟩:=V2.Tv;have zz:=V2.lt;have FB:=J (oF V2 (U ah 0) (U ah 0) (U ah 0) (U ah 0) (O aj 0 0) (U ah 0) (aL aQ));have BL:=J (kS (b:=w.heap.size+1+1+1) BB.out (by omega) (U ah 0) (U ah 0) (U ah 0) (U ah 0) (O aj 0 0) (U ah 0) (aL aQ));clear V2 hth;go_wp2_with fail;clear v0 v1 v2 v3 v4 v5 v6;obtain⟨v0,v1,v2,v3,v4,v5,v6⟩:=FB.out.zT;refine bodyPost_ret (v:=.tuple #[bO #[U ah 0,U ah 0,U ah 0,U ah 0,O aj 0 0,U ah 0,aL aQ],aL aQ]) (by simp [results,bZ,go_sem,v0,v1,v2,v3,v4,v5,v6]) rfl ?_;rw [FN.out];exact⟨rfl,BL.out⟩
 ·obtain⟨e,he,hke,hfe⟩:=mH hth;have FE:=J (show fo=au e by rw [<- FO.out]; exact hfe);rw [HK.out] at he;have hkm:=(aP.1 he).1;have hkn:k<n:=by rw [<- HN.out,HU.out.len]; exact hkm
  obtain⟨y,hy,hx⟩:=HU.out.at k e he;obtain⟨p,ix,px⟩:=Tx HS.out rfl HN.out hy;obtain⟨p0,p1,p2,p3,p4,p5,p6⟩:=px w1 HB.out;obtain⟨y1,y2,y3,y4,⟨yo,yn,yc⟩,y6,y7⟩:=y;simp only at p0 p1 p2 p3 p4 p5 p6;have CP:=J (tT (y1,y2,y3,y4,(yo,yn,yc),y6,y7) e.p w1 (hx.2.2.2.2.on HB.out) (HF.out e (ay he)));have HX:=J hx;have V3:=J V2;clear px hy hx he hke hfe hth V2 hkm;go_wp2_with fail;refine CP.out.mono ?_;rintro e2 w2 ⟨⟨⟨u1,u2,u3⟩,rfl,ho⟩,hb⟩;have Y1:=V3.out.on hb;have SZ:=J (show w.heap.size+1+1+1<w1.heap.size from V3.out.lt);have B2:=J (BB.out.trans (hb.mono BB.out.size));clear CP hb p0 p1 p2 p3 p4 p5 p6 ix x4;obtain⟨v0,v1,v2,v3,v4,v5,v6⟩:=Y1.zT;obtain⟨f0,f1,f2,f3,f4,f5,f6⟩:=Y1.Tv;have zz:=Y1.lt;have FB:=J (oF Y1 (U ah y1) (U ah y2) (U ah y3) (U ah y4) (O u1 u2 u3) (U ah y6) (aL y7));have BL:=J (kS (b:=w.heap.size+1+1+1) B2.out (by omega) (U ah y1) (U ah y2) (U ah y3) (U ah y4) (O u1 u2 u3) (U ah y6) (aL y7));have FW:=J (AZ ho (w.heap.size+1+1+1) SZ.out (U ah y1) (U ah y2) (U ah y3) (U ah y4) (O u1 u2 u3) (U ah y6) (aL y7));clear Y1 ho;go_wp2_with fail;clear v0 v1 v2 v3 v4 v5 v6;obtain⟨v0,v1,v2,v3,v4,v5,v6⟩:=FB.out.zT;refine bodyPost_ret (v:=.tuple #[bO #[U ah y1,U ah y2,U ah y3,U ah y4,O u1 u2 u3,U ah y6,aL y7],aL aO]) (by simp [results,bZ,go_sem,v0,v1,v2,v3,v4,v5,v6]) rfl ?_;rw [FE.out];exact⟨⟨(y1,y2,y3,y4,(u1,u2,u3),y6,y7),rfl,HX.out.1,HX.out.2.1,HX.out.2.2.1,HX.out.2.2.2.1,Row.dB FW.out⟩,BL.out⟩
theorem xZ {w w':aG} {row:Option Nat} (h:w.grownBy w' row):Off row w w':=⟨h.block,h.size⟩
theorem RV {wr w0:aG} {B:Nat} {v:aR} {lu:List iT} {mu:List En} (x:iT) (e:En) (o:jy wr B v lu) (hA:eG (nC w0 B wr) lu mu) (hx:nC w0 B wr x e) (hn:lu.length<=1000) (hB:B<=wr.heap.size) :
  ∃ v' w',(bC #[27,27] 27 #[v,O (au ⟨wr.heap.size,0,aj⟩) 1 1]).run ak (wr.alloc (aK (iD x).toArray 67))=.ok v' w'/\jy w' B v' (lu++[x])/\eG (nC w0 B w') (lu++[x]) (mu++[e]) /\
   (∀ B' W,B'<=B->Below B' W wr->Below B' W w')/\Off v.ownBlock (wr.alloc (aK (iD x).toArray 67)) w':=by
 have NB:=iM wr (aK (iD x).toArray 67);have hlit:=mX lF wr [x] 1 rfl (by simp) (iD x).toArray rfl;have o2:jy _ B v lu:=Bk.dI o NB;have hB2:B<=(wr.alloc (aK (iD x).toArray 67)).heap.size:=bg hB NB.size;obtain⟨v',w',r',o',gr⟩:=jO lF B o2 (Row.dB hlit) hn (by simp) hB2 27;refine⟨v',w',by simpa [EN] using r',o',?_,fun B' W hB' hb=>?_,xZ gr⟩
 ·have hf:=xZ gr;have hg:=gI o2;have g:∀ y z,nC w0 B wr y z->nC w0 B w' y z:=fun y z q=>(q.grow NB).off hf hg (by decide);exact (hA.mono g).append (.cons (g _ _ hx) .nil)
 ·exact (hb.trans (NB.mono (by have:=hb.size; omega))).grown gr (bg hB' hB2) fun j hj=>bg hB' (o2.lt j hj).1
theorem vk {w0 wr:aG} {B:Nat} {x:iT} {e:En} (h:nC w0 B wr x e) (hl:Below w0.heap.size w0 wr):lH wr x e:=⟨h.1,h.2.1,h.2.2.1,h.2.2.2.1,h.2.2.2.2.row hl⟩
theorem gM {p:List C5} (h:dU p):p.length<=900:=by
 obtain⟨a,na,rfl⟩:=h;rw [List.length_map];have:=na.five;omega
theorem Oh {α:Type} {E:Ek α} {ob:Option Nat} {W x:aG} {B g n cap:Nat} {l:List α} (h:Off ob W x) (ho:Own E W B (O (au ⟨g,0,aj⟩) n cap) l) (hne:au g≠ob):Own E x B (O (au ⟨g,0,aj⟩) n cap) l:=by
 refine⟨ho.1,?_⟩;rcases ho.2 with h2|⟨g',cap',cur,h1,h2,h3,h4⟩
 ·exact cu h2
 ·obtain⟨rfl,_⟩:g=g'/\True:=by simp at h1; exact⟨h1.1,trivial⟩
  exact aU ⟨g,cap',cur,h1,h2,by rw [h.1 g (lt_of_heap h3) hne]; exact h3,h4⟩
theorem Iz (g f k K C:Nat) (h:k<K) (w:aG):(cK 27 (O (au ⟨g,f * 7,aj⟩) K C) (U ah k)).run ak w=.ok (aF (au ⟨g,(f+k) * 7,aj⟩)) w:=by
 have h1:(cK 27 (O (au ⟨g,f * 7,aj⟩) K C) (U ah k)).run ak w=.ok (aF (au ((⟨g,f * 7,aj⟩:cO).add (k * 7)))) w:=rz lF ⟨g,f * 7,aj⟩ k K C h w;rw [h1];have e:(⟨g,f * 7,aj⟩:cO).add (k * 7)=⟨g,(f+k) * 7,aj⟩:=by
  rw [Nat.add_mul];by_cases hk:k * 7=0
  ·rw [hk,add_zero,Nat.add_zero]
  ·rw [add_pos _ _ hk]
 rw [e]
theorem Oi {α:Type} {E:Ek α} {W:aG} {B g n cap:Nat} {l:List α} (h:Own E W B (O (au ⟨g,0,aj⟩) n cap) l):B<=g:=by
 rcases eT h with⟨h1,_⟩|⟨g',cap',cur,h1,h2,_⟩
 ·cases h1
 ·obtain⟨rfl,_⟩:g=g'/\True:=by simp at h1; exact⟨h1.1,trivial⟩
  exact h2
theorem But.off {g:Nat} {ob:Option Nat} {w W x:aG} (h:But g w W) (ho:Off ob W x) (hb:∀ b,ob=au b->w.heap.size<=b):But g w x :=
 ⟨fun j hj hne=>(ho.1 j (bL hj h.2) fun e=>by have:=hb j e.symm; omega).trans (h.1 j hj hne),bg h.2 ho.2⟩
theorem zC {α:Type} {E:Ek α} {W:aG} {B:Nat} {v:aR} {l:List α} (h:Own E W B v l):∀ b,v.ownBlock=au b->B<=b:=by
 intro b hb;rcases eT h with⟨rfl,_⟩|⟨g',cap',cur,rfl,h2,_⟩
 ·cases hb
 ·obtain rfl:g'=b:=by simpa [cB] using hb
  exact h2
theorem zD {W:aG} {B g n cap f K:Nat} {l:List iT} (ho:jy W B (O (au ⟨g,0,aj⟩) n cap) l) (hK:f+K<=n) (h0:0<K):nk W (O (au ⟨g,f * 7,aj⟩) K (cap-f)) ((l.drop f).take K):=by
 have hl:l.length=n:=eU ho;have hnc:n<=cap:=by
  rcases eT ho with⟨h1,_⟩|⟨g',cap',cur,h1,_,_,h4,_⟩
  ·cases h1
  ·obtain⟨_,_,rfl⟩:g=g'/\n=l.length/\cap=cap':=by simpa using h1
   rw [hl] at h4;exact h4
 have h:=(zA (v:=(au ⟨g,0,aj⟩,n,cap)) (Row.dB ho) f K (by omega)).2;unfold cutV at h;simp only at h;rw [if_neg (by omega),lM] at h;exact h
structure Ra (w0 w wr:aG) (B g n cap:Nat) (a c:List En) (s:List En×List En) (v:aR):Prop where
 row:∃ l,jy wr B (O (au ⟨g,0,aj⟩) n cap) l/\eG (nC w0 B wr) l (a++s.1++c)
 up:∃ lu,jy wr w.heap.size v lu/\eG (nC w0 w.heap.size wr) lu s.2
 but:But g w wr
 low:∀ B' W,B'<=g->Below B' W w->Below B' W wr
theorem IB (w0:aG) (B g n cap f K:Nat) (ra:Option cO) (rc:Nat) (l:List iT) (m:List En) (w:aG) (hw0:Below w0.heap.size w0 w) (hB0:w0.heap.size<=B) (ho:jy w B (O (au ⟨g,0,aj⟩) n cap) l) (hA:eG (nC w0 B w) l m) (hfK:f+K<=n) (hn:n<=900)
  (hra:0<K->ra=au ⟨g,f * 7,aj⟩/\rc=cap-f) (hok:∀ e∈m,dU e.p) :
  bF ak 159 #[O ra K rc] w fun e w'=>∃ v':Sl,e=aN (dN v')/\Ra w0 w w' B g n cap (m.take f) (m.drop (f+K)) (fI ((m.drop f).take K) K) (dN v'):=by
 obtain⟨a,ha⟩:∃ a,m.take f=a:=⟨_,rfl⟩;obtain⟨r,hr⟩:∃ r,(m.drop f).take K=r:=⟨_,rfl⟩;obtain⟨c,hc⟩:∃ c,m.drop (f+K)=c:=⟨_,rfl⟩;have hmn:m.length=n:=by rw [<- hA.len]; exact eU ho
 have hm:m=a++r++c:=by
  rw [<- ha,<- hr,<- hc,aJ,show m.drop (f+K)=(m.drop f).drop K by rw [List.drop_drop],aV,aV]
 have hal:a.length=f:=by rw [<- ha,bR]; omega
 have hrl:r.length=K:=by rw [<- hr,bR,List.length_drop]; omega
 have hrr:∀ k,(fI r k).1.length=K:=fun k=>by rw [qd,hrl]
 have hokr:∀ k,∀ e∈(fI r k).1,dU e.p:=fun k=>by
  induction k with
  | zero=>intro e he; exact hok e (by rw [hm]; exact List.mem_append_left _ (List.mem_append_right _ he))
  | succ k ih =>
   rw [jU];unfold jr
   split
   ·exact ih
   ·rename_i e0 he0
    split
    ·exact ih
    ·intro e he;rcases List.mem_or_eq_of_mem_set he with h1|h1
     ·exact ih e h1
     ·rw [h1]; exact ih e0 (ay he0)
 rw [ha,hr,hc];have hgw:g<w.heap.size:=by
  obtain⟨cur,hg⟩:=gX ho;exact hg.lt
 have hBg:B<=g:=Oi ho;have R0:Ra w0 w w B g n cap a c (fI r 0) (O aj 0 0):=⟨⟨l,ho,by rw [show a++(fI r 0).1++c=m from hm.symm]; exact hA⟩,⟨[],iH _ _,.nil⟩,But.of_below (aD _ _),fun _ _ _ h=>h⟩;have W0:=J hw0;have OKR:=J hokr;have RR:=J hrr;have RA:=J hra;have RL:=J hrl;have RY:=J hal;have R0:=J R0;have HB:=J (show w0.heap.size<=g from by omega);clear hw0 ho hA hra hok hm ha hr hc hmn hokr hrr l m hrl hal;go_enter Tryz.func159,Tryz.ntmps159;go_wp2
 go_loopw [3,7] (fun v i wr=>∃ k:Nat,k<=K/\i=U ah k/\Ra w0 w wr B g n cap a c (fI r k) v) (fun _ i _=>K-(intOf i).toNat)
 case atStart=>exact⟨0,bV _,rfl,R0.out⟩
 case round =>
  obtain⟨k,hk,rfl,UU⟩:=hrel;have RX:=J UU;have hwr:Below w0.heap.size w0 wr:=UU.low _ _ HB.out W0.out;have WR:=J hwr;clear UU hwr R0;by_cases hlt:k<K
  ·obtain⟨Yk,Yl⟩:=RA.out (by omega);subst Yk;subst Yl;obtain⟨L,hL,TR⟩:=RX.out.row;have hRk:=RR.out k;obtain⟨s,hs⟩:∃ s,fI r k=s:=⟨_,rfl⟩;have RS:=J (jU r k);have UW:=J (OKR.out k);rw [hs] at TR hRk RX RS UW;obtain⟨r',us⟩:=s;simp only at TR hRk UW;obtain⟨e,he⟩:∃ e,r'[k]?=au e:=⟨_,aH (by omega)⟩;have hM:(a++r'++c)[f+k]?=au e:=by
    rw [aJ,aX (by rw [RY.out]; omega),RY.out,aS,aY (by omega)];exact he
   obtain⟨y,hy,hx⟩:=TR.at (f+k) e hM;have ix:=Iz g f k K (cap-f) hlt;have cc:=iJ lF hL hy wr (aD _ _);obtain⟨cur,hbx⟩:=gX hL;have fr:=hbx.fr ((f+k) * 7+6);have zl:=hbx.lt;obtain⟨y1,y2,y3,y4,⟨yo,yn,yc⟩,y6,y7⟩:=y;have c0:=cc 0 _ rfl;have c1:=cc 1 _ rfl;have c2:=cc 2 _ rfl;have c3:=cc 3 _ rfl;have c4:=cc 4 _ rfl;have c5:=cc 5 _ rfl;have c6:=cc 6 _ rfl;simp [Addr.add,EN] at c0 c1 c2 c3 c4 c5 c6;have CUT:=zD (f:=f) (K:=K) hL hfK (by omega);have ZQ:eG (lH wr) ((L.drop f).take K) r':=by
    have h:=((TR.drop f).take K).mono fun _ _ q=>vk q WR.out;rw [aJ,List.drop_left' RY.out,List.take_left' hRk] at h;exact h
   obtain⟨t,ht⟩:∃ t,rR r' e.p=t:=⟨_,rfl⟩;have CV:=J (oI (au ⟨g,f * 7,aj⟩,K,cap-f) (O yo yn yc) _ r' e.p wr CUT ZQ (vk hx WR.out).2.2.2.2 UW.out (UW.out e (ay he)));rw [ht] at CV;have HX:=J hx;have HL:=J hL;have HLA:=J TR;have HY:=J hy;have HM:=J hM;have RE:=J (show fI r (k+1)=if y7=aO\/t=aO then (r',us) else (r'.set k (tV e),us++[tV e]) by
    rw [RS.out];unfold jr;simp only [he];rw [ht,<- hx.2.2.2.1])
   have hw3:IntKind.i64.wrap ((k:Int)+1)=(k:Int)+1:=IntWalk.i64_in _ (by omega);have SS:=J hs;have RK:=J hRk;clear cc hbx CUT ZQ ht hx hL TR hy hM he RS hs hRk;cases y7
   ·go_wp2_with fail;refine CV.out.mono ?_;rintro e3 w3 ⟨rfl,hb⟩;clear CV;cases t
    ·have d6:=(hb.cell (p:=⟨g,(f+k) * 7+6,aj⟩) zl).trans c6;have f6:w3.frozen? ⟨g,(f+k) * 7+6,aj⟩=aQ:=(hb.frozen (p:=⟨g,(f+k) * 7+6,aj⟩) zl).trans fr;have z3:g<w3.heap.size:=bL zl hb.size;obtain⟨lu,hu1,hu2⟩:=RX.out.up;obtain⟨o4,_,_⟩:=NV (Bk.dI HL.out hb) HY.out;have bt:=dM w3 g ((f+k) * 7+6) (aL aO);obtain⟨abd,hg3⟩:=gX (Bk.dI HL.out hb);have G1:∀ x z,nC w0 B wr x z->nC w0 B (w3.setCell ⟨g,(f+k) * 7+6,aj⟩ (aL aO)) x z:=fun x z q=>(q.grow hb).but bt hg3 (by decide);have G2:∀ x z,nC w0 w.heap.size wr x z->nC w0 w.heap.size (w3.setCell ⟨g,(f+k) * 7+6,aj⟩ (aL aO)) x z:=fun x z q=>(q.grow hb).but bt hg3 (by decide);have O4:=J o4;have A4:=J (eG.set2 (f+k) (HLA.out.mono G1) (show nC w0 B (w3.setCell ⟨g,(f+k) * 7+6,aj⟩ (aL aO)) (y1,y2,y3,y4,(yo,yn,yc),y6,aO) (tV e) from ⟨(G1 _ _ HX.out).1,(G1 _ _ HX.out).2.1,(G1 _ _ HX.out).2.2.1,rfl,(G1 _ _ HX.out).2.2.2.2⟩));have U4:=J (dZ (Bk.dI hu1 hb) g ((f+k) * 7+6) (aL aO) hgw);have V4:=J (hu2.mono G2);have B4:=J ((RX.out.but.trans (But.of_below hb)).trans bt);have L4:=J (show ∀ B' W,B'<=g->Below B' W w->Below B' W (w3.setCell ⟨g,(f+k) * 7+6,aj⟩ (aL aO)) from fun B' W h1 h2=>((RX.out.low B' W h1 h2).trans (hb.mono (by have:=zl; omega))).setCell (p:=⟨g,(f+k) * 7+6,aj⟩) h1 _);have ZR:=J (show (L.set (f+k) (y1,y2,y3,y4,(yo,yn,yc),y6,aO))[f+k]?=au (y1,y2,y3,y4,(yo,yn,yc),y6,aO) from bq (aP.1 HY.out).1);have US:=J (show lu.length<=1000 by
      have h1:lu.length=us.length:=hu2.len;have h2:=xU r k;rw [SS.out] at h2;simp only at h2;omega)
     have PO:=J (gM (UW.out e (by
      have h:=HM.out;rw [aJ,aX (by rw [RY.out]; omega),RY.out,aS,aY (by rw [RK.out]; exact hlt)] at h;exact ay h)))
     have AS:=J (show (a++r'++c).set (f+k) (tV e)=a++r'.set k (tV e)++c by
      rw [aJ,List.set_append_right _ _ (by rw [RY.out]; omega),RY.out,aS,List.set_append_left _ _ (by rw [RK.out]; exact hlt),aJ])
     clear hu1 hu2 o4 bt hg3 G1 G2 c0 c1 c2 c3 c4 c5 c6 fr;go_upto_region 7 with fail;clear d6 f6 z3 hb;generalize w3.setCell ⟨g,(f+k) * 7+6,aj⟩ (aL aO)=w4 at *;have cc:=iJ lF O4.out ZR.out w4 (aD _ _);have c0:=cc 0 _ rfl;have c1:=cc 1 _ rfl;have c2:=cc 2 _ rfl;have c3:=cc 3 _ rfl;have c4:=cc 4 _ rfl;have c5:=cc 5 _ rfl;have c6:=cc 6 _ rfl;simp [Addr.add,EN] at c0 c1 c2 c3 c4 c5 c6;have X4:=J (show nC w0 B w4 (y1,y2,y3,y4,(yo,yn,yc),y6,aO) (tV e) from by
      obtain⟨y',h1,h2⟩:=A4.out.at (f+k) (tV e) (bq (aP.1 HM.out).1);rw [ZR.out] at h1;rw [aM h1];exact h2)
     have CP:=J (tT (y1,y2,y3,y4,(yo,yn,yc),y6,aO) e.p w4 (vk X4.out (L4.out _ _ HB.out W0.out)).2.2.2.2 PO.out);clear cc;go_wp2_with fail;refine CP.out.mono ?_;rintro e5 w5 ⟨⟨⟨u1,u2,u3⟩,rfl,ho⟩,hb⟩;have ZU:=B4.out.2;obtain⟨v',w',r7,o',a',bl,hof⟩:=RV (w0:=w0) (B:=w.heap.size) (y1,y2,y3,y4,(u1,u2,u3),y6,aO) (tV e) (Bk.dI U4.out hb) (V4.out.mono fun _ _ q=>q.grow hb) ⟨X4.out.1,X4.out.2.1,X4.out.2.2.1,X4.out.2.2.2.1,aU (dH ho ZU)⟩ US.out (by have:=hb.size; omega);have nb:=iM w5 (aK (iD (y1,y2,y3,y4,(u1,u2,u3),y6,aO)).toArray 67);have hbk:=zC U4.out;have UY:=J (show Ra w0 w w' B g n cap a c (fI r (k+1)) v' from by
      rw [RE.out,if_neg (by simp)];have hg5:=gX (Bk.dI (Bk.dI O4.out hb) nb);refine⟨⟨_,Oh hof (Bk.dI (Bk.dI O4.out hb) nb) fun e=>?_,?_⟩,⟨_,o',a'⟩,But.off ((B4.out.trans (But.of_below hb)).trans (But.of_below nb)) hof hbk,fun B' W h1 h2=>bl B' W (by omega) ((L4.out B' W h1 h2).trans (hb.mono (by omega)))⟩
      ·have:=hbk g e.symm;omega
      ·rw [<- AS.out];have tg:=gI (Bk.dI (Bk.dI U4.out hb) nb);exact A4.out.mono fun _ _ q=>(((q.grow hb).grow nb).off hof tg (by decide)))
     clear CP hb ho o' a' bl hof nb hbk c0 c1 c2 c3 c4 c5 c6 ix ZU;go_wp2_with (first | (at_builtin; refine wpList_append_run rfl _ _ 27 rfl rfl rfl r7 ?_) | fail)
     go_roundw
     case rel=>exact⟨k+1,by omega,by go_num,UY.out⟩
     case measure=>simp [intOf]; omega
    ·have UY:=J (show Ra w0 w w3 B g n cap a c (fI r (k+1)) _ from by
      rw [RE.out,if_pos (aU rfl)];obtain⟨q1,q2,q3,q4⟩:=RX.out;exact⟨by obtain⟨l,h1,h2⟩:=q1; exact⟨l,Bk.dI h1 hb,h2.mono fun _ _ q=>q.grow hb⟩,by obtain⟨l,h1,h2⟩:=q2; exact⟨l,Bk.dI h1 hb,h2.mono fun _ _ q=>q.grow hb⟩,q3.trans (But.of_below hb),fun B' W h1 h2=>(q4 B' W h1 h2).trans (hb.mono (by have:=zl; omega))⟩)
     clear hb c0 c1 c2 c3 c4 c5 c6 fr ix;go_wp2
     go_roundw
     case rel=>exact⟨k+1,by omega,by go_num,UY.out⟩
     case measure=>simp [intOf]; omega
   ·clear CV;have UY:=J (show Ra w0 w wr B g n cap a c (fI r (k+1)) _ from by
     rw [RE.out,if_pos (cu rfl)];exact RX.out)
    go_wp2
    go_roundw
    case rel=>exact⟨k+1,by omega,by go_num,UY.out⟩
    case measure=>simp [intOf]; omega
  ·obtain rfl:K=k:=by omega
   obtain⟨lu,hu,_⟩:=RX.out.up;obtain⟨Xp,Xq,hv⟩:=(Row.dB hu).len;subst hv;clear hu;go_wp2;go_ret;exact⟨(Xp,_,Xq),rfl,RX.out⟩
end Sb
namespace Av
open Go.RowKit Go.Sort Rw YtghlpefopidlaaaGreat.Nm Pr Bk
end Av
namespace Av
open Go.RowKit Go.Sort Rw YtghlpefopidlaaaGreat.Nm Pr Bk
theorem oZ (x y:En):iF (dF x) (dF y)=aO↔qK x y<0:=by
 rw [lU];unfold iF dF;simp only [Bool.or_eq_true,bS,tN]
theorem IC (x y:En) (h:dF x≠dF y):qK x y<0\/qK y x<0:=by
 rw [lU,lU];rcases jq x.tree y.tree with q|q|q
 ·exact cu (cu q)
 ·rcases jq x.sub y.sub with r|r|r
  ·exact cu (aU ⟨q,r⟩)
  ·exact absurd (Prod.ext q r) h
  ·exact aU (aU ⟨q.symm,r⟩)
 ·exact aU (cu q)
theorem x9:∀ (l:List En) (x:En),∀ y∈l.take (dR (l.map dF) (dF x)),qK y x<0
 | [],_,y,h=>by simp at h
 | a::l,x,y,h=>by
  unfold dR at h;by_cases ha:iF (dF a) (dF x)=aO
  ·simp only [bJ,bI,ha,if_true,bT,List.take_succ_cons,bK] at h;rcases h with rfl|h
   ·exact (oZ _ _).1 ha
   ·exact x9 l x y h
  ·simp [ha] at h
theorem yg:∀ {l:List En} (_:l.Pairwise fun x y=>qK x y<0) (x:En) (_:∀ y∈l,dF y≠dF x),∀ y∈l.drop (dR (l.map dF) (dF x)),qK x y<0
 | [],_,_,_,y,h=>by simp at h
 | a::l,hr,x,hn,y,h=>by
  unfold dR at h;have hr':=bM.1 hr;by_cases ha:iF (dF a) (dF x)=aO
  ·simp only [bJ,bI,ha,if_true,bT,List.drop_succ_cons] at h;exact yg hr'.2 x (fun y hy=>hn y (bG _ hy)) y h
  ·simp [ha] at h;have hax:qK x a<0:=by
    rcases IC a x (hn a (by simp)) with q|q
    ·exact absurd ((oZ _ _).2 q) ha
    ·exact q
   rcases h with rfl|h
   ·exact hax
   ·exact uS _ _ _ hax (hr'.1 y h)
theorem IE {l:List En} (hr:l.Pairwise fun x y=>qK x y<0) (x:En) (hn:∀ y∈l,dF y≠dF x):(eZ l (dR (l.map dF) (dF x)) x).Pairwise fun x y=>qK x y<0:=by
 unfold eZ;have h1:=hr.sublist (List.take_sublist (dR (l.map dF) (dF x)) l);have h2:=hr.sublist (List.drop_sublist (dR (l.map dF) (dF x)) l);have lo:=x9 l x;have hi:=yg hr x hn;rw [aJ,List.pairwise_append];refine⟨h1,?_,fun a ha b hb=>?_⟩
 ·rw [bD,bM];exact⟨fun b hb=>hi b hb,h2⟩
 ·rw [bD,bK] at hb;rcases hb with rfl|hb
  ·exact lo a ha
  ·exact uS _ _ _ (lo a ha) (hi b hb)
theorem yh:∀ (l:List dO) (x:dO),x ∉ l->fC l x=-1
 | [],_,_=>rfl
 | a::l,x,h=>by
  rw [fC,if_neg fun e=>h (by rw [e]; simp),yh l x fun q=>h (bG _ q),if_pos rfl]
theorem Lb {κ:Type} [DecidableEq κ] {l:List κ} {x:κ} (h:gT l x=-1):x ∉ l:=by
 rcases jS l x with _|⟨k,h1,_⟩
 ·intro hm
  induction l with
  | nil=>simp at hm
  | cons a l ih =>
   rw [gT] at h
   split at h
   ·cases h
   ·rename_i hne
    split at h
    ·rename_i h2
     rcases bK.1 hm with e|e
     ·exact hne e.symm
     ·exact ih h2 h2 e
    ·rename_i h2
     have:=jS l x;rcases this with q|⟨k,q,_⟩
     ·exact h2 q
     ·omega
 ·omega
theorem DX {b:Br} (h:fQ b) {l:List En} (hp:l.Pairwise fun x y=>qK x y<0) (ho:∀ e∈l,wN b e=aO):fQ { b with ent:=l } :=
 ⟨h.near,h.seen,h.dG,hp,h.own,h.oks,fun e he=>qM (b:=b) rfl rfl (ho e he),h.UQ⟩
theorem RZ {b:Br} (h:fQ b) (e:En) (hc:oC b.near e.from_=aO) (hq:Wr.gV e.p=aO):fQ (iA b e).1:=by
 unfold iA
 split
 ·exact h
 ·rename_i a ha
  split
  ·exact h
  ·rename_i h1
   split
   ·exact h
   ·rename_i h2
    split
    ·exact h
    ·rename_i h3
     have hid:a.id=e.tree:=by
      have hm:e.tree∈b.dG.map Ad.id:=Decidable.byContradiction fun q=>h1 (yh _ _ q);obtain⟨k2,h5,h6⟩:=Io _ _ hm;rw [h5,Int.toNat_natCast] at ha;rw [aZ,ha] at h6;exact aM h6
     have hf:fH b.dG e.tree=au a:=by
      rw [<- hid];exact kU h.dG (ay ha)
     have hins:=IE h.ent { e with up:=decide (a.par≠-1) && !dV b.ent e.tree e.p } fun y hy hk=>by
      have hm:dF e∈b.ent.map dF:=List.mem_map.2 ⟨y,hy,hk⟩;have h9:gT (b.ent.map dF) (dF e)=-1:=Decidable.not_not.1 h2;exact Lb h9 hm
     refine DX h hins fun q hq2=>?_;rcases (jQ _ _ _ _).1 hq2 with rfl|hq2
     ·unfold wN;simp only [hf];have h4:¬ (e.from_≠-1/\e.from_=a.par):=h3;rw [hc,hq];by_cases g1:e.from_=a.par
      ·have g2:a.par=-1:=by
        rw [<- g1];exact Decidable.byContradiction fun q=>h4 ⟨q,g1⟩
       simp [g1,g2]
      ·by_cases g2:a.par=-1 <;> simp [g1,g2]
     ·exact h.NZ q hq2
theorem wP (t:dO) (s:List En×List En) (k:Nat):(fM t s k).1.map dF=s.1.map dF:=by
 unfold fM
 split
 ·rfl
 ·rename_i e he
  split
  ·rw [List.map_set];refine List.ext_getElem? fun j=>?_;rw [List.getElem?_set]
   split
   ·rename_i hj
    subst hj
    split
    ·rw [aZ,he]
     rfl
    ·rename_i hl
     rw [List.getElem?_eq_none (by simpa using hl)]
   ·rfl
  ·rfl
theorem vB (t:dO) (m:List En):∀ k,(gJ t m k).1.map dF=m.map dF
 | 0=>rfl
 | k+1=>by rw [iK,wP,vB t m k]
theorem IG {l m:List En} (h:l.map dF=m.map dF) (hp:m.Pairwise fun x y=>qK x y<0):l.Pairwise fun x y=>qK x y<0:=by
 have h1:∀ l:List En,(l.Pairwise fun x y=>qK x y<0)↔(l.map dF).Pairwise fun x y=>iF x y=aO:=fun l=>by
  rw [List.pairwise_map];exact⟨fun q=>q.imp fun {a b} r=>(oZ a b).2 r,fun q=>q.imp fun {a b} r=>(oZ a b).1 r⟩
 rw [h1,h,<- h1];exact hp
theorem o7 {α:Type} (l:List α) (k:Nat):(cutAt l k).Sublist l:=by
 unfold cutAt
 conv=>rhs; rw [<- aV k l]
 exact (List.Sublist.refl _).append (List.drop_sublist_drop_left l (Nat.le_succ k))
theorem Oj {b:Br} (h:fQ b) (t x:dO) (f:Int):fQ (takeB b t x f).1:=by
 unfold takeB
 split
 ·exact h
 ·rename_i e0 he0
  split
  ·exact h
  ·rename_i h1
   split
   ·exact h
   ·split
    ·exact DX h (h.ent.sublist (o7 _ _)) fun q hq=>h.NZ q (oU hq)
    ·rename_i hup
     have Ym:e0.up=aO:=by simpa using hup
     have ht:e0.tree=t:=by
      rcases jS (b.ent.map dF) (t,x) with q|⟨k,q,r⟩
      ·exact absurd q h1
      ·rw [q,Int.toNat_natCast] at he0;rw [aZ,he0] at r;exact congrArg Prod.fst (aM r)
     have ho0:=h.NZ e0 (ay he0);refine DX h (IG (vB _ _ _) (h.ent.sublist (o7 _ _))) ?_;refine (rV (fun e=>wN b e=aO) (fun e he hr=>?_) (fun q hq=>h.NZ q (oU hq)) _).1;unfold wN at hr ho0 ⊢;rw [ht] at ho0;show (match fH b.dG e.tree with | none=>aQ | some a=>_)=aO;rw [he] at hr ⊢;cases hfa:fH b.dG t with
     | none=>rw [hfa] at hr; cases hr
     | some a =>
      rw [hfa] at hr ho0;simp only [bS] at hr ho0 ⊢;refine⟨hr.1,hr.2.1,?_,hr.2.2.2⟩;have h9:=ho0.2.2.1;rw [Ym] at h9;exact h9
end Av
namespace Fl
open Go.RowKit Go.Sort Rw YtghlpefopidlaaaGreat.Nm Pr Bk Av
theorem Ol {W:aG} {b:Nat} {z0 z1 z2 z3 z4 z5 z6:aR} (h:dx W b #[z0,z1,z2,z3,z4,z5,z6] 43) (a0 a1 a2 a3 a4:Int) (o5:Option cO) (n5 c5:Nat) (o6:Option cO) (n6 c6:Nat) :
  (Instr.storeAt 43 (aF (au ⟨b,0,aj⟩)) (bO #[U ah a0,U ah a1,U ah a2,U ah a3,U ah a4,O o5 n5 c5,O o6 n6 c6])).run ak W=.ok () (Ay W b (U ah a0) (U ah a1) (U ah a2) (U ah a3) (U ah a4) (O o5 n5 c5) (O o6 n6 c6)):=by
 obtain⟨x0,x1,x2,x3,x4,x5,x6⟩:=h.zT;obtain⟨f0,f1,f2,f3,f4,f5,f6⟩:=h.Tv;simp [go_sem,x0,x1,x2,x3,x4,x5,x6,f0,f1,f2,f3,f4,f5,f6]
theorem Lc (w:aG) (b:Nat) (a0 a1 a2 a3 a4 a5 a6:aR):But b w (Ay w b a0 a1 a2 a3 a4 a5 a6) :=
 (((dM _ b _ _).trans (dM _ b _ _)).trans ((dM _ b _ _).trans (dM _ b _ _))).trans (((dM _ b _ _).trans (dM _ b _ _)).trans (dM _ b _ _))
theorem Bq {w W:aG} {B b:Nat} (h:Below B w W) (hb:B<=b) (a0 a1 a2 a3 a4 a5 a6:aR):Below B w (Ay W b a0 a1 a2 a3 a4 a5 a6) :=
 ((((((h.setCell (p:=⟨b,0,aj⟩) hb a0).setCell (p:=⟨b,1,aj⟩) hb a1).setCell (p:=⟨b,2,aj⟩) hb a2).setCell (p:=⟨b,3,aj⟩) hb a3).setCell (p:=⟨b,4,aj⟩) hb a4).setCell (p:=⟨b,5,aj⟩) hb a5).setCell (p:=⟨b,6,aj⟩) hb a6
def FX (B:Nat) (b1 _b2:Nat) (y1 y2 y3 y4:Int) (po:Option cO) (pn pc:Nat) (_y6:Int) (_y7:Bool) (p:List C5) (i:Nat) (v:aR) (x:aG):Prop :=
 match i with
 | 0=>v=aF (au ⟨b1,0,aj⟩)
 | 1=>v=bO #[U ah y1,U ah y2]
 | 2=>v=aF (au ⟨b1,2,aj⟩)
 | 3=>v=bO #[U ah y3,U ah y4]
 | 4=>v=aF (au ⟨b1,4,aj⟩)
 | 5=>v=O po pn pc
 | 6=>∃ s:Sl,v=dN s/\ig x B (dN s) p
 | 7=>∃ s:Sl,v=bO #[U ah 3,U ah y1,U ah y2,U ah y3,U ah y4,dN s,O aj 0 0]/\ig x B (dN s) p
 | _=>True
noncomputable def PY:Code:=((Tryz.f115.body.bind (eP 1)).getD .skip)
theorem Ld (B:Nat) (b1 b2:Nat) (y1 y2 y3 y4:Int) (po:Option cO) (pn pc:Nat) (y6:Int) (y7:Bool) (p:List C5) (i:Nat) (v:aR) (x x':aG) (h:FX B b1 b2 y1 y2 y3 y4 po pn pc y6 y7 p i v x) (hb:Below x.heap.size x x'):FX B b1 b2 y1 y2 y3 y4 po pn pc y6 y7 p i v x':=by
 by_cases hi:i<8
 ·rcases (by omega:i=0\/i=1\/i=2\/i=3\/i=4\/i=5\/i=6\/i=7) with rfl|rfl|rfl|rfl|rfl|rfl|rfl|rfl
  ·exact h
  ·exact h
  ·exact h
  ·exact h
  ·exact h
  ·exact h
  ·obtain⟨s,h1,h2⟩:=h; exact⟨s,h1,Bk.dI h2 hb⟩
  ·obtain⟨s,h1,h2⟩:=h; exact⟨s,h1,Bk.dI h2 hb⟩
 ·unfold FX
  split <;> first | omega | trivial
theorem Yn (Q:Exit->Act->aG->Prop) (W:aG) (b1 b2:Nat) (y1 y2 y3 y4:Int) (po:Option cO) (pn pc:Nat) (y6:Int) (y7:Bool) (p:List C5) (u0 u3 u4 u5 u6 u7 u8 u9 u10:aR)
  (h1:dx W b1 #[U ah y1,U ah y2,U ah y3,U ah y4,O po pn pc,U ah y6,aL y7] 67) (h2:dx W b2 #[U ah 0,U ah 0,U ah 0,U ah 0,U ah 0,O aj 0 0,O aj 0 0] 43) (r5:gq W (O po pn pc) p) (l5:p.length<=900)
  (hQ:∀ (x:aG) (v3 v4 v5 v6 v7 v8 v9 v10:aR) (q1:Option cO) (q2 q3:Nat),dx x b2 #[U ah 3,U ah y1,U ah y2,U ah y3,U ah y4,O q1 q2 q3,O aj 0 0] 43->ig x W.heap.size (O q1 q2 q3) p->(∀ B,B<=b2->Below B W x)->Q .normal ⟨(u0::aF (au ⟨b1,0,aj⟩)::aF (au ⟨b2,0,aj⟩)::v3::v4::v5::v6::v7::v8::v9::v10::[]).toArray,[]⟩ x) :
  Code.wp ak PY Q ⟨(u0::aF (au ⟨b1,0,aj⟩)::aF (au ⟨b2,0,aj⟩)::u3::u4::u5::u6::u7::u8::u9::u10::[]).toArray,[]⟩ W:=by
 have HQ:=J hQ;have H1:=J h1;have H2:=J h2;have R5:=J r5;have L5:=J l5;clear hQ h1 h2 r5 l5;have o9:=Ld W.heap.size b1 b2 y1 y2 y3 y4 po pn pc y6 y7 p;unfold PY
 conv=>arg 2; whnf
 have nd:∀ j,(j<3\/11<=j)->∀ i,i<8->(fun i=>3+i) i≠j:=by
  intro j hj i hi h;simp only at h;omega
 refine Rg.iV 9 8 (fun i=>3+i) (fun _=>8) (FX W.heap.size b1 b2 y1 y2 y3 y4 po pn pc y6 y7 p) (by kernel_rfl) (by kernel_rfl) rfl (by decide) (fun i j _ _ h=>by have h2:3+i=3+j:=h; omega) (fun i hi=>by show 3+i<11; omega) ?_ (fun _=>Rg.nu 14 (by kernel_rfl)) ?_ ?_
 ·intro i o hi ho a x D hnd hc hD hb seen K hK;clear HQ;rcases (by omega:i=0\/i=1\/i=2\/i=3\/i=4\/i=5\/i=6\/i=7) with rfl|rfl|rfl|rfl|rfl|rfl|rfl|rfl
  ·cases ho;have e1:a.eval (aW 1)=aF (au ⟨b1,0,aj⟩):=seen.kp 1 _ (nd 1 (by omega)) rfl;exact Rg.dw rfl rfl (Rg.eD a.eval _ 67 (aW 1) 0 rfl (by rw [e1]; simp [go_sem])) (hK _ _ rfl (aD _ _) fun _ _ _ _ _ _ _ h=>h)
  ·cases ho;have e3:a.eval (aW 3)=aF (au ⟨b1,0,aj⟩):=seen.at_ ⟨0,.data⟩ (by simp) rfl (aU (by decide));have y1:=(H1.out.on hb).cell 1;have y0:=(H1.out.on hb).cell 0;simp only [aA,aB,aC] at y0 y1;exact Rg.dw rfl rfl (Rg.eH a.eval _ 23 (aW 3) rfl (by rw [e3]; simp [go_sem,y0,y1])) (hK _ _ rfl (aD _ _) fun _ _ _ _ _ _ _ h=>h)
  ·cases ho;have e1:a.eval (aW 1)=aF (au ⟨b1,0,aj⟩):=seen.kp 1 _ (nd 1 (by omega)) rfl;exact Rg.dw rfl rfl (Rg.eD a.eval _ 67 (aW 1) 1 rfl (by rw [e1]; simp [go_sem])) (hK _ _ rfl (aD _ _) fun _ _ _ _ _ _ _ h=>h)
  ·cases ho;have e5:a.eval (aW 5)=aF (au ⟨b1,2,aj⟩):=seen.at_ ⟨2,.data⟩ (by simp) rfl (aU (by decide));have y2:=(H1.out.on hb).cell 2;have y3:=(H1.out.on hb).cell 3;simp only [aA,aB,aC] at y2 y3;exact Rg.dw rfl rfl (Rg.eH a.eval _ 23 (aW 5) rfl (by rw [e5]; simp [go_sem,y2,y3])) (hK _ _ rfl (aD _ _) fun _ _ _ _ _ _ _ h=>h)
  ·cases ho;have e1:a.eval (aW 1)=aF (au ⟨b1,0,aj⟩):=seen.kp 1 _ (nd 1 (by omega)) rfl;exact Rg.dw rfl rfl (Rg.eD a.eval _ 67 (aW 1) 2 rfl (by rw [e1]; simp [go_sem])) (hK _ _ rfl (aD _ _) fun _ _ _ _ _ _ _ h=>h)
  ·cases ho;have e7:a.eval (aW 7)=aF (au ⟨b1,4,aj⟩):=seen.at_ ⟨4,.data⟩ (by simp) rfl (aU (by decide));have y4:=(H1.out.on hb).cell 4;simp only [aA,aB,aC] at y4;exact Rg.dw rfl rfl (Rg.eH a.eval _ 34 (aW 7) rfl (by rw [e7]; simp [go_sem,y4])) (hK _ _ rfl (aD _ _) fun _ _ _ _ _ _ _ h=>h)
  ·cases ho;have e8:a.eval (aW 8)=O po pn pc:=seen.at_ ⟨5,.data⟩ (by simp) rfl (aU (by decide));exact Rg.gG rfl rfl (Rw.iq a.eval _ (aW 8) 34 44 rfl e8 rfl _ (fG Tryz.func44 rfl rfl _ _)) (jJ (po,pn,pc) p x (R5.out.on hb) L5.out) fun e w1 h=>by
    obtain⟨⟨s,rfl,h1⟩,h3⟩:=h;exact⟨_,rfl,hK _ _ ⟨s,rfl,dH h1 hb.size⟩ (h3.mono hb.size) fun j u hj _ _ _ hne h=>o9 j u _ _ h h3⟩
  ·cases ho;have e4:a.eval (aW 4)=bO #[U ah y1,U ah y2]:=seen.at_ ⟨1,.data⟩ (by simp) rfl (aU (by decide));have e6:a.eval (aW 6)=bO #[U ah y3,U ah y4]:=seen.at_ ⟨3,.data⟩ (by simp) rfl (aU (by decide));have E9:=seen.at_ ⟨6,.data⟩ (by simp) rfl (aU (by decide));obtain⟨s,q0,q1⟩:=E9;have q0:a.eval (aW 9)=dN s:=q0;exact Rg.dw rfl rfl (Rg.jo a.eval _ 43 #[(0,.const (U ah 3)),(1,aW 4),(2,aW 6),(3,aW 9)] rfl (by simp only [List.map_toArray,bJ,List.map_nil,e4,e6,q0]; rfl) (v:=bO #[U ah 3,U ah y1,U ah y2,U ah y3,U ah y4,dN s,O aj 0 0]) (by simp [go_sem])) (hK _ _ ⟨s,rfl,q1⟩ (aD _ _) fun _ _ _ _ _ _ _ h=>h)
 ·intro kk o h1 h2 ho;omega
 ·intro a w' df sz kp ⟨vs,hv⟩ hb;have sz':a.tmps.size=11:=sz;have g2:a.tmps[2]?=au (aF (au ⟨b2,0,aj⟩)):=(kp 2 (nd 2 (by omega))).trans rfl;obtain⟨⟨q1,q2,q3⟩,hs,ho⟩:=(hv 7 (by omega)).2 (by decide);have g10:a.tmps[10]?=au (bO #[U ah 3,U ah y1,U ah y2,U ah y3,U ah y4,O q1 q2 q3,O aj 0 0]):=((hv 7 (by omega)).1).trans (congrArg au hs);have hB:=H2.out.on hb;have hlt:=H2.out.lt;show Rg.iy _ _ _ 1 8 a w';simp only [Rg.iy];refine Rg.gN 43 (aW 2) (aW 10) rfl rfl rfl rfl (Rg.dL g2) (Rg.dL g10) (w':=Ay w' b2 (U ah 3) (U ah y1) (U ah y2) (U ah y3) (U ah y4) (O q1 q2 q3) (O aj 0 0)) (Ol hB _ _ _ _ _ _ _ _ _ _ _) ?_;have hbx:=Hr hB (U ah 3) (U ah y1) (U ah y2) (U ah y3) (U ah y4) (O q1 q2 q3) (O aj 0 0);have hbt:=Lc w' b2 (U ah 3) (U ah y1) (U ah y2) (U ah y3) (U ah y4) (O q1 q2 q3) (O aj 0 0);have wL:∀ j,(j<3\/11<=j)->(a).tmps[j]?=(u0::aF (au ⟨b1,0,aj⟩)::aF (au ⟨b2,0,aj⟩)::u3::u4::u5::u6::u7::u8::u9::u10::[])[j]?:=fun j hj=>(kp j (nd j (by omega))).trans aA;obtain⟨mid,hmid,hfr⟩:=Rg.iC (a:=a) 3 8 df (by simp [sz']) (by simp) wL;show Q .normal (a) _;rw [hfr]
  match mid,hmid with
  | [v3,v4,v5,v6,v7,v8,v9,v10],_ =>
   exact HQ.out _ _ _ _ _ _ _ _ _ q1 q2 q3 hbx (hbt.own ho hB (by decide)) (fun B hBl=>Bq (hb.mono (Nat.le_of_lt (Nat.lt_of_le_of_lt hBl hlt))) hBl _ _ _ _ _ _ _)
theorem yj (z:iT) (p:List C5) (w:aG) (hp:gq w (dN z.2.2.2.2.1) p) (hl:p.length<=900) :
  bF ak 115 #[tF z] w fun e w'=>(∃ s:Sl,e=aN (bO #[U ah 3,U ah z.1,U ah z.2.1,U ah z.2.2.1,U ah z.2.2.2.1,dN s,O aj 0 0])/\ig w' w.heap.size (dN s) p)/\Below w.heap.size w w':=by
 obtain⟨y1,y2,y3,y4,⟨po,pn,pc⟩,y6,y7⟩:=z;obtain⟨h0,h1,h2⟩:=iO w #[U ah y1,U ah y2,U ah y3,U ah y4,O po pn pc,U ah y6,aL y7] #[U ah 0,U ah 0,U ah 0,U ah 0,U ah 0,O aj 0 0,O aj 0 0] 67 43;have GB:=J h0;have X1:=J h1;have X2:=J h2;have HP:=J (hp.on h0);clear h0 h1 h2 hp;show bF ak 115 #[bO #[U ah y1,U ah y2,U ah y3,U ah y4,O po pn pc,U ah y6,aL y7]] w _;go_enter Tryz.func115,Tryz.ntmps115;go_upto_region 1 with fail;generalize (w.alloc (aK #[U ah y1,U ah y2,U ah y3,U ah y4,O po pn pc,U ah y6,aL y7] 67)).alloc (aK #[U ah 0,U ah 0,U ah 0,U ah 0,U ah 0,O aj 0 0,O aj 0 0] 43)=W at *;refine Yn _ W w.heap.size (w.heap.size+1) y1 y2 y3 y4 po pn pc y6 y7 p _ _ _ _ _ _ _ _ _ X1.out X2.out HP.out hl ?_;intro x v3 v4 v5 v6 v7 v8 v9 v10 q1 q2 q3 hbx ho hbl;have FB:=J hbx;have OO:=J (dH ho GB.out.size);have G2:=J (GB.out.trans (hbl w.heap.size (by omega)));clear hbx ho hbl GB X1 X2 HP;go_wp2_with fail;obtain⟨v0,v1,v2,v3,v4,v5,v6⟩:=FB.out.zT;refine bodyPost_ret (v:=bO #[U ah 3,U ah y1,U ah y2,U ah y3,U ah y4,O q1 q2 q3,O aj 0 0]) (by simp [results,Tryz.results115,go_sem,v0,v1,v2,v3,v4,v5,v6]) rfl ?_;exact⟨⟨(q1,q2,q3),rfl,OO.out⟩,G2.out⟩
end Fl
namespace Rt
open Go.RowKit Rw YtghlpefopidlaaaGreat.Nm Pr Bk
theorem Le {W:aG} {b:Nat} {c:lG} (h:dx W b (je c).toArray 88):C8 W (O (au ⟨b,0,aj⟩) 1 1) [c] :=
 aU ⟨⟨b,0,aj⟩,1,rfl,by simp,by decide,mY h (by simp [EW])⟩
def vD (B:Nat) (l:List lG) (k:Nat) (c:lG) (vv:aR) (W:aG) (e:Ending) (w':aG):Prop:=∃ v',e=aN v'/\nW w' B v' (l.take k++c::l.drop k)/\Below B W w'/\(∀ j,j<W.heap.size->au j≠vv.ownBlock->w'.heap[j]?=W.heap[j]?)
theorem Bt (B:Nat) (v:aR) (l:List lG) (c:lG) (b:Nat) (W:aG) (ho:nW W B v l) (hx:dx W b (je c).toArray 88) (hl:l.length<=900) (hB:B<=W.heap.size) :
  bF ak 43 #[v,U ah (l.length:Nat),O (au ⟨b,0,aj⟩) 1 1] W (vD B l l.length c v W):=by
 obtain⟨v',w',hr,ho2,hg⟩:=jO okW B ho (Le hx) (by omega) (by simp) hB 28;have hr:(bC #[28,28] 28 #[v,O (au ⟨b,0,aj⟩) 1 1]).run ak W=.ok v' w':=hr;have Q:=J (show vD B l l.length c v W (aN v') w' from ⟨v',rfl,by rw [List.take_of_length_le (bX _),List.drop_of_length_le (bX _)]; exact ho2,(aD B W).grown hg hB (fun j hj=>(ho.lt j hj).1),fun j hj hne=>hg.block j hj hne⟩);obtain⟨sx,hs,_⟩:=tZ okW (Row.dB ho) l.length (bX _);have hs:∀ w,(aI 28 v (au (U ah l.length)) aj aj).run ak w=.ok sx w:=hs;obtain⟨ao,ac,rfl⟩:=(Row.dB ho).len;clear ho ho2 hg;generalize hn:l.length=n at *;clear hn;go_enter bY,bP;go_wp2_with (first | (at_builtin; refine wpList_append_run rfl _ _ 28 rfl rfl rfl hr ?_) | fail);go_ret;exact Q.out
theorem Lf (w:aG) (g b k la lb cb:Nat) (cur cs:Array aR) (hb:dx w b cs 88) (hg:dx w g cur 88) (hne:b≠g) (h0:0<cur.size):(callFunc 112 #[O (au ⟨b,0,aj⟩) la 1,O (au ⟨g,k,aj⟩) lb cb]).run ak w=.ok (.value (aL aQ)) w:=by
 rw [run_callFunc_extern Tryz.func112 (by kernel_rfl) (by kernel_rfl) (by kernel_rfl) (e:=Extern.SlicesOverlaps.overlaps #[28,28] #[4]) (by kernel_rfl),
  Lib.run_overlaps_apart w 28 4 88 Tryz.underlying28 3 Tryz.sizeOf88 ⟨b,0,aj⟩ ⟨g,k,aj⟩ la 1 lb cb hne 88 88 cs.size cur.size hb.shape hg.shape (by omega) (hb.fr 0) (hb.fr _)]
 rfl
theorem wQ (B g n cap:Nat) (cur:Array aR) (l:List lG) (k:Nat) (c:lG) (b:Nat) (W:aG) (hn:n=l.length) (hBg:B<=g) (hg:dx W g cur 88) (hcm:cap<=maxLen) (hsz:cur.size=cap * 3) (ht:cur.toList.take (n * 3)=flat EW l) (hx:dx W b (je c).toArray 88) (hne:b≠g) (hk:k<n) (hroom:n+1<=cap) (hl:n<=900) :
  bF ak 43 #[O (au ⟨g,0,aj⟩) n cap,U ah k,O (au ⟨b,0,aj⟩) 1 1] W (vD B l k c (O (au ⟨g,0,aj⟩) n cap) W):=by
 obtain⟨R1,R2,r1,r2,ow⟩:=mh (E:=EW) (l:=l) (k:=k) (cap:=cap) (cur:=cur) (cs:=(je c).toArray) (c:=c) okW (by omega) (by omega) hsz (by rw [<- hn]; exact ht) g b hne;have hov:=fun lb cb=>Lf W g b ((k+1) * 3) 1 lb cb cur (je c).toArray hx hg hne (by omega);have s0:=fu (E:=EW) okW g k n cap (by omega) (by omega);have s1:=iB (E:=EW) okW ⟨g,0,aj⟩ (n+1) n cap (by omega);have s2:=fu (E:=EW) okW g (k+1) (n+1) cap (by omega) (by omega);have s3:=fu (E:=EW) okW g k (n+1) cap (by omega) (by omega);have q1:=r1 W.drew 3 (n+1-(k+1)) (cap-(k+1)) (n+1-k) (cap-k) hg (by omega);have q2:=r2 (W.drew.setRow g R1) 3 (n+1-k) (cap-k) (dx.set (show dx W.drew g cur 88 from hg) R1) (dx.other (show dx W.drew b _ 88 from hx) hne R1) rfl (by omega);have Q:=J (show vD B l k c (O (au ⟨g,0,aj⟩) n cap) W (aN (O (au ⟨g,0,aj⟩) (n+1) cap)) ((W.drew.setRow g R1).setRow g R2) from ⟨_,rfl,by rw [hn]; exact ow _ B hBg hcm (dx.set (dx.set (show dx W.drew g cur 88 from hg) R1) R2),below_setRow (below_setRow (aD B W).drew hBg _) hBg _,fun j hj hne=>(setRow_other _ g j _ (fun e=>hne (by rw [e]; rfl))).trans (setRow_other _ g j _ (fun e=>hne (by rw [e]; rfl)))⟩);clear r1 r2 ow hg ht hx hsz hBg hcm;change ∀ w,(aI 28 (O (au ⟨g,0,aj⟩) n cap) (au (U ah k)) aj aj).run ak w=.ok (O (au ⟨g,k * 3,aj⟩) (n-k) (cap-k)) w at s0;change ∀ w,(aI 28 (O (au ⟨g,0,aj⟩) n cap) aj (au (U ah ((n:Int)+1))) aj).run ak w=.ok (O (au ⟨g,0,aj⟩) (n+1) cap) w at s1;change ∀ w,(aI 28 (O (au ⟨g,0,aj⟩) (n+1) cap) (au (U ah ((k:Int)+1))) aj aj).run ak w=.ok (O (au ⟨g,(k+1) * 3,aj⟩) (n+1-(k+1)) (cap-(k+1))) w at s2;change ∀ w,(aI 28 (O (au ⟨g,0,aj⟩) (n+1) cap) (au (U ah k)) aj aj).run ak w=.ok (O (au ⟨g,k * 3,aj⟩) (n+1-k) (cap-k)) w at s3;have e1:((k:Int) == (n:Int))=aQ:=by rw [beq_eq_false_iff_ne]; omega
 have e2:decide ((cap:Int)<(n:Int)+1)=aQ:=by simp; omega
 change (bf #[28,28] 3 #[O (au ⟨g,(k+1) * 3,aj⟩) (n+1-(k+1)) (cap-(k+1)),O (au ⟨g,k * 3,aj⟩) (n+1-k) (cap-k)]).run ak W.drew=.ok (U ah ((l.length-k:Nat):Int)) (W.drew.setRow g R1) at q1;change (bf #[28,28] 3 #[O (au ⟨g,k * 3,aj⟩) (n+1-k) (cap-k),O (au ⟨b,0,aj⟩) 1 1]).run ak (W.drew.setRow g R1)=.ok (U ah 1) ((W.drew.setRow g R1).setRow g R2) at q2;clear hn;go_enter bY,bP;go_wp2_with (first | (simp only [hov]) | fail);clear hov s0 s1 s2 s3;have hw1:IntKind.i64.wrap ((k:Int)+1)=(k:Int)+1:=by rw [bU]; omega
 have hb1:(0:Int)<=(k:Int)+1:=by omega
 have hb0:(k:Int)+1<=(n:Int)+1:=by omega
 have htn:((k:Int)+1).toNat=k+1:=by omega
 have hb2:¬ (cap=k+1):=by omega
 have hb3:(k:Int)<=(n:Int)+1:=by omega
 have hb4:¬ (cap=k):=by omega
 have h81:n+1-(k+1)=n-k:=by omega
 rw [h81] at q1;clear h81
 go_region_law (refine fO rfl (aW 73) (aW 76) 28 rfl (v:=O (au ⟨g,(k+1) * 3,aj⟩) (n-k) (cap-(k+1))) (xv:=O (au ⟨g,k * 3,aj⟩) (n+1-k) (cap-k)) (by simp [Act.eval,Act.put]) (by simp [Act.eval,Act.put]) q1 ?_)
 all_goals simp only [Exit.then]
 all_goals apply_assumption
 clear q1 hw1 hb1 hb0 htn hb2 hb3 hb4;have s3:=fu (E:=EW) okW g k (n+1) cap (by omega) (by omega);change ∀ w,(aI 28 (O (au ⟨g,0,aj⟩) (n+1) cap) (au (U ah k)) aj aj).run ak w=.ok (O (au ⟨g,k * 3,aj⟩) (n+1-k) (cap-k)) w at s3;go_wp2_with (first | (at_builtin; refine wpList_copy_run rfl _ _ 28 rfl rfl rfl q2 ?_) | fail);go_ret;exact Q.out
theorem zF (B g n cap:Nat) (cur:Array aR) (l:List lG) (k:Nat) (c:lG) (b:Nat) (W:aG) (hn:n=l.length) (hg:dx W g cur 88) (hcm:cap<=maxLen) (hnc:n<=cap) (ht:cur.toList.take (n * 3)=flat EW l) (hx:dx W b (je c).toArray 88) (hk:k<n) (hroom:cap<n+1) (hl:n<=900) (hB:B<=W.heap.size) :
  bF ak 43 #[O (au ⟨g,0,aj⟩) n cap,U ah k,O (au ⟨b,0,aj⟩) 1 1] W (vD B l k c (O (au ⟨g,0,aj⟩) n cap) W):=by
 have hgw:=hg.lt;have hbw:=hx.lt;obtain⟨G,R1,R2,R3,hG1,hG2,r1,r2,r3,ow⟩:=nU (E:=EW) (l:=l) (k:=k) (cap:=cap) (cur:=cur) (cs:=(je c).toArray) (c:=c) okW 3 Tryz.underlying3 (by omega) (by omega) (by omega) (by omega) (by rw [<- hn]; exact ht) W g b hg hbw;unfold maxLen at hcm hG2;have s0:=fu (E:=EW) okW g k n cap (by omega) (by omega);have s1:=iB (E:=EW) okW ⟨g,0,aj⟩ k n cap (by omega);have s2:=fu (E:=EW) okW W.heap.size k (n+1) G (by omega) (by omega);have s3:=fu (E:=EW) okW W.heap.size (k+1) (n+1) G (by omega) (by omega);have a1:=r1 28;have n1:=dK W.drew R1 88;have bl:W.drew.heap.size=W.heap.size:=rfl;rw [bl] at n1;have g1:dx (W.drew.alloc (aK R1 88)) g cur 88:=dx.more (show dx W.drew g cur 88 from hg) _;have x1:dx (W.drew.alloc (aK R1 88)) b (je c).toArray 88:=dx.more (show dx W.drew b _ 88 from hx) _;have q2:=r2 (W.drew.alloc (aK R1 88)) 3 (n+1-k) (G-k) n1 x1 rfl (by omega);have q3:=r3 ((W.drew.alloc (aK R1 88)).setRow W.heap.size R2).drew 3 (n+1-(k+1)) (G-(k+1)) (n-k) (cap-k) (dx.set n1 R2) (dx.other g1 (by omega) R2) (by omega);have Q:=J (show vD B l k c (O (au ⟨g,0,aj⟩) n cap) W (aN (O (au ⟨W.heap.size,0,aj⟩) (n+1) G)) (((W.drew.alloc (aK R1 88)).setRow W.heap.size R2).drew.setRow W.heap.size R3) from ⟨_,rfl,by rw [hn]; exact ow _ B hB (dx.set (dx.set n1 R2) R3),below_setRow (below_setRow ((aD B W).drew.alloc hB _) hB _).drew hB _,fun j hj _=>(setRow_other _ W.heap.size j _ (by omega)).trans ((setRow_other _ W.heap.size j _ (by omega)).trans (Array.getElem?_push_lt hj |>.trans (Array.getElem?_eq_getElem hj).symm))⟩);have l1:l.length+1=n+1:=by rw [hn]
 rw [l1,<- hn] at a1;clear r1 r2 r3 ow hg ht hx g1 x1 n1 bl l1;change ∀ w,(aI 28 (O (au ⟨g,0,aj⟩) n cap) (au (U ah k)) aj aj).run ak w=.ok (O (au ⟨g,k * 3,aj⟩) (n-k) (cap-k)) w at s0;change ∀ w,(aI 28 (O (au ⟨g,0,aj⟩) n cap) aj (au (U ah k)) aj).run ak w=.ok (O (au ⟨g,0,aj⟩) k cap) w at s1;change ∀ w,(aI 28 (O (au ⟨W.heap.size,0,aj⟩) (n+1) G) (au (U ah k)) aj aj).run ak w=.ok (O (au ⟨W.heap.size,k * 3,aj⟩) (n+1-k) (G-k)) w at s2;change ∀ w,(aI 28 (O (au ⟨W.heap.size,0,aj⟩) (n+1) G) (au (U ah ((k:Int)+1))) aj aj).run ak w=.ok (O (au ⟨W.heap.size,(k+1) * 3,aj⟩) (n+1-(k+1)) (G-(k+1))) w at s3;change (bC #[28,3] 28 #[O (au ⟨g,0,aj⟩) k cap,U ah ((n:Int)+1-k)]).run ak W=.ok (O (au ⟨W.heap.size,0,aj⟩) (n+1) G) (W.drew.alloc (aK R1 88)) at a1;change (bf #[28,28] 3 #[O (au ⟨W.heap.size,k * 3,aj⟩) (n+1-k) (G-k),O (au ⟨b,0,aj⟩) 1 1]).run ak (W.drew.alloc (aK R1 88))=.ok (U ah 1) ((W.drew.alloc (aK R1 88)).setRow W.heap.size R2) at q2;change (bf #[28,28] 3 #[O (au ⟨W.heap.size,(k+1) * 3,aj⟩) (n+1-(k+1)) (G-(k+1)),O (au ⟨g,k * 3,aj⟩) (n-k) (cap-k)]).run ak ((W.drew.alloc (aK R1 88)).setRow W.heap.size R2).drew=.ok (U ah ((l.length-k:Nat):Int)) (((W.drew.alloc (aK R1 88)).setRow W.heap.size R2).drew.setRow W.heap.size R3) at q3;have e1:((k:Int) == (n:Int))=aQ:=by rw [beq_eq_false_iff_ne]; omega
 have e2:decide ((cap:Int)<(n:Int)+1)=aO:=by simp; omega
 have hGn:n+1<=G:=by omega
 clear hn;generalize W.heap.size=N at *;generalize W.drew.alloc (aK R1 88)=W1 at *;generalize W1.setRow N R2=W2 at *;go_enter bY,bP;go_wp2_with (first | (at_builtin; refine fZ rfl _ _ 28 3 rfl rfl rfl a1 ?_) | (at_builtin; refine wpList_copy_run rfl _ _ 28 rfl rfl rfl q2 ?_) | fail);clear a1 q2 s0 s1 s2 s3;have hw1:IntKind.i64.wrap ((k:Int)+1)=(k:Int)+1:=by rw [bU]; omega
 have hb1:(0:Int)<=(k:Int)+1:=by omega
 have hb0:(k:Int)+1<=(n:Int)+1:=by omega
 have htn:((k:Int)+1).toNat=k+1:=by omega
 have hb2:¬ (G=k+1):=by omega
 have hb3:(k:Int)<=(n:Int):=by omega
 have hb4:¬ (cap=k):=by omega
 have h81:n+1-(k+1)=n-k:=by omega
 rw [h81] at q3;clear h81
 go_region_law (refine fO rfl (aW 50) (aW 53) 28 rfl (v:=O (au ⟨N,(k+1) * 3,aj⟩) (n-k) (G-(k+1))) (xv:=O (au ⟨g,k * 3,aj⟩) (n-k) (cap-k)) (by simp [Act.eval,Act.put]) (by simp [Act.eval,Act.put]) q3 ?_)
 all_goals simp only [Exit.then]
 all_goals apply_assumption
 go_wp2;go_ret;exact Q.out
theorem Bu (B:Nat) (v:aR) (l:List lG) (k:Nat) (c:lG) (b:Nat) (W:aG) (ho:nW W B v l) (hx:dx W b (je c).toArray 88) (hne:v.ownBlock≠au b) (hk:k<=l.length) (hl:l.length<=900) (hB:B<=W.heap.size) :
  bF ak 43 #[v,U ah k,O (au ⟨b,0,aj⟩) 1 1] W (vD B l k c v W):=by
 rcases aT k l.length with h|h
 ·rcases eT ho with⟨_,h2⟩|⟨g,cap,cur,rfl,h1,h2,h3,h4,h5,h6⟩
  ·rw [h2] at h; simp at h
  ·rcases aT cap (l.length+1) with h7|h7
   ·exact zF B g _ cap cur l k c b W rfl h2 h4 h3 h6 hx h h7 hl hB
   ·exact wQ B g _ cap cur l k c b W rfl h1 h2 h4 h5 h6 hx (fun e=>hne (by simp [cB,e])) h h7 hl
 ·obtain rfl:k=l.length:=by omega
  exact Bt B v l c b W ho hx hl hB
end Rt
end Go.Proofs.YtghlpefopidlaaaGreat
