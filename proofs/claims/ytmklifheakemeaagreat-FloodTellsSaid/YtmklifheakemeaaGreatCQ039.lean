/-
  covered and tight of. Conditions as told.
-/
import Derived.Test.YtmklifheakemeaaGreatCQ037
import Derived.Test.YtmklifheakemeaaGreatCQ038
set_option maxRecDepth 100000
set_option maxHeartbeats 64000000
open _root_.Bool renaming false->ah,true->aL
open Go.IntKind renaming i64->L
open Go.Lib renaming hid->J
open Go.Obj renaming cells->aA
open Go.Proofs.Tryz renaming results94->ay,prog->aF
open Go.RowKit.Below renaming refl->aB
open Go.Value renaming slice->D,int->K,bool->V,agg->aN
open _root_.List renaming getElem?_cons_zero->O,getElem?_cons_succ->Q,getElem?_toArray->U,getElem?_eq_getElem->aj,mem_of_getElem?->ak,getElem_of_mem->aG,getElem?_map->aI,append_assoc->aK
open _root_.Nat renaming lt_or_ge->aC,le_refl->aD,le_trans->aJ,zero_le->aM
open _root_.Option renaming none->Z,some->aH
open Option.some renaming inj->au
namespace Go.Proofs.YtmklifheakemeaaGreat.Sb
open Go.RowKit Go.Sort Rw YtmklifheakemeaaGreat.Nm Pr Bk Av Rl
theorem Xu (nU bv:Value) (p q:List C5) (w:World) (ha:fK w nU p) (hb:fK w bv q) (hp:eD p) (hq:eD q) :
  Calls aF 156 #[nU,bv] w fun e w'=>e=.returned (V (nH p q))/\Below w.heap.size w w':=by
 obtain⟨a,na,rfl⟩:=hp;obtain⟨b,nb,rfl⟩:=hq;unfold nH;rw [qw,qw];exact NH nU bv a b w ha hb na nb
theorem agC {α:Type} (f:α->Bool) {l:List α} (h:∀ (j:Nat) (y:α),j<l.length->l[j]?=aH y->f y=ah):l.any f=ah:=by
 rw [List.any_eq_false];intro e he;obtain⟨j,hj,hje⟩:=aG he;simpa using h j e hj (by rw [aj hj,hje])
theorem agD {α:Type} (f:α->Bool) {l:List α} {k:Nat} {y:α} (h:l[k]?=aH y) (hf:f y=aL):l.any f=aL:=by
 rw [List.any_eq_true];exact⟨y,ak h,hf⟩
abbrev cE (p:List C5) (e:En):Bool:=e.up && nH e.p p
theorem zP (v:Sl) (pv:Value) (l:List iH) (m:List En) (p':List C5) (w:World) (hs:lS w (dY v) l) (hu:eY (jD w) l m) (hp:fK w pv p') (hok:∀ e∈m,eD e.p) (hop:eD p') :
  Calls aF 117 #[dY v,pv] w fun e w'=>e=.returned (V (Kv m p'))/\Below w.heap.size w w':=by
 have HU:=J hu;have HP:=J hp;have OK:=J hok;have OP:=J hop;obtain⟨pa,pc,rfl⟩:=hp.len;generalize p'.length=pn at *;obtain⟨so,n,sc⟩:=v;have hn:=uw hs;have HS:=J hs;have lm:=hs.most;unfold maxLen at lm;rw [hn] at lm;have HN:=J hn;clear hu hp hok hop hs hn;go_enter Tryz.func117,Tryz.ntmps117;go_wp2
 go_loopw [9] (fun i wr=>∃ k:Nat,k<=n/\i=K L k/\Below w.heap.size w wr/\∀ (j:Nat) (y:En),j<k->m[j]?=aH y->cE p' y=ah) (fun i _=>n-(intOf i).toNat)
 case atStart=>exact⟨0,aM _,rfl,aB _ _,fun j y h=>by omega⟩
 case round =>
  obtain⟨k,hk,rfl,hbe,hall⟩:=hrel;have BE:=J hbe;have AL:=J hall;clear hbe hall;by_cases hlt:k<n
  ·obtain⟨y,hy⟩:∃ y,l[k]?=aH y:=⟨_,aj (by rw [HN.out]; exact hlt)⟩;obtain⟨q,ix,px⟩:=LK HS.out rfl HN.out hy;obtain⟨p0,p1,p2,p3,p4,p5,p6⟩:=px wr BE.out;obtain⟨e,he,_,hin⟩:=mJ HU.out hy;obtain⟨y1,y2,y3,y4,⟨yo,yn,yc⟩,y6,y7⟩:=y;simp only at p0 p1 p2 p3 p4 p5 p6;have NB:=J (fF wr (aA #[K L y1,K L y2,K L y3,K L y4,D yo yn yc,K L y6,V y7] 66));have hw3:IntKind.i64.wrap ((k:Int)+1)=(k:Int)+1:=IntWalk.i64_in _ (by omega);obtain⟨t,ht⟩:∃ r,nH e.p p'=r:=⟨_,rfl⟩;have HV:=J (show cE p' e=(y7 && t) by unfold cE; rw [<- hin.2.2.2.1,ht]);have HE:=J he;have BF:=J (BE.out.trans (NB.out.mono BE.out.size));have CV:=J (Xu (D yo yn yc) (D pa pn pc) e.p p' _ (hin.2.2.2.2.on BF.out) (HP.out.on BF.out) (OK.out _ (ak he)) OP.out);rw [ht] at CV;clear px hy ht he hin;cases y7
   ·clear CV;go_wp2
    go_roundw
    case rel=>exact⟨k+1,by omega,by go_num,BF.out,fun j y' hj h1=>by
     rcases aC j k with h3|h3
     ·exact AL.out j y' h3 h1
     ·obtain rfl:j=k:=by omega
      have e1:=HE.out;rw [h1] at e1;rw [au e1];exact HV.out.trans (by simp)⟩
    case measure=>simp [intOf]; omega
   ·go_wp2_with fail;refine CV.out.mono ?_;rintro e3 w3 ⟨rfl,hb⟩;have BG:=J (BF.out.trans (hb.mono BF.out.size));clear CV hb p0 p1 p2 p3 p4 p5 p6 ix;cases t
    ·go_wp2
     go_roundw
     case rel=>exact⟨k+1,by omega,by go_num,BG.out,fun j y' hj h1=>by
      rcases aC j k with h3|h3
      ·exact AL.out j y' h3 h1
      ·obtain rfl:j=k:=by omega
       have e1:=HE.out;rw [h1] at e1;rw [au e1];exact HV.out.trans (by simp)⟩
     case measure=>simp [intOf]; omega
    ·have hd:Kv m p'=aL:=agD (cE p') HE.out (HV.out.trans (by simp));go_wp2;go_ret;exact⟨by rw [hd]; rfl,BG.out⟩
  ·obtain rfl:k=n:=by omega
   have hd:Kv m p'=ah:=agC (cE p') fun j y hj h=>AL.out j y (by rw [<- HN.out,HU.out.len]; exact hj) h;go_wp2;go_ret;exact⟨by rw [hd]; rfl,BE.out⟩
theorem Xv {α:Type} (f:α->Bool) {l:List α} (h:∀ (j:Nat) (y:α),j<l.length->l[j]?=aH y->f y=aL):l.all f=aL:=by
 rw [List.all_eq_true];intro e he;obtain⟨j,hj,hje⟩:=aG he;exact h j e hj (by rw [aj hj,hje])
theorem Xw {α:Type} (f:α->Bool) {l:List α} {k:Nat} {y:α} (h:l[k]?=aH y) (hf:f y=ah):l.all f=ah:=by
 rw [List.all_eq_false];exact⟨y,ak h,by rw [hf]; simp⟩
abbrev tE (r:List En) (e:En):Bool:=e.up || Kv r e.p
theorem SV (v:Sl) (l:List iH) (m:List En) (w:World) (hs:lS w (dY v) l) (hu:eY (jD w) l m) (hok:∀ e∈m,eD e.p) :
  Calls aF 72 #[dY v] w fun e w'=>e=.returned (V (wR m))/\Below w.heap.size w w':=by
 have HU:=J hu;have OK:=J hok;have HS:=J hs;obtain⟨so,n,sc⟩:=v;have hn:=uw hs;have lm:=hs.most;unfold maxLen at lm;rw [hn] at lm;have HN:=J hn;clear hu hok hs hn;go_enter Tryz.func72,Tryz.ntmps72;go_wp2
 go_loopw [7] (fun i wr=>∃ k:Nat,k<=n/\i=K L k/\Below w.heap.size w wr/\∀ (j:Nat) (y:En),j<k->m[j]?=aH y->tE m y=aL) (fun i _=>n-(intOf i).toNat)
 case atStart=>exact⟨0,aM _,rfl,aB _ _,fun j y h=>by omega⟩
 case round =>
  obtain⟨k,hk,rfl,hbe,hall⟩:=hrel;have BE:=J hbe;have AL:=J hall;clear hbe hall;by_cases hlt:k<n
  ·obtain⟨y,hy⟩:∃ y,l[k]?=aH y:=⟨_,aj (by rw [HN.out]; exact hlt)⟩;obtain⟨q,ix,px⟩:=LK HS.out rfl HN.out hy;obtain⟨p0,p1,p2,p3,p4,p5,p6⟩:=px wr BE.out;obtain⟨e,he,_,hin⟩:=mJ HU.out hy;obtain⟨y1,y2,y3,y4,⟨yo,yn,yc⟩,y6,y7⟩:=y;simp only at p0 p1 p2 p3 p4 p5 p6;have NB:=J (fF wr (aA #[K L y1,K L y2,K L y3,K L y4,D yo yn yc,K L y6,V y7] 66));have hw3:IntKind.i64.wrap ((k:Int)+1)=(k:Int)+1:=IntWalk.i64_in _ (by omega);obtain⟨t,ht⟩:∃ r,Kv m e.p=r:=⟨_,rfl⟩;have HV:=J (show tE m e=(y7 || t) by unfold tE; rw [<- hin.2.2.2.1,ht]);have HE:=J he;have BF:=J (BE.out.trans (NB.out.mono BE.out.size));have CV:=J (zP (so,n,sc) (D yo yn yc) l m e.p _ (HS.out.on BF.out) (HU.out.mono fun _ _ q=>q.on BF.out) (hin.2.2.2.2.on BF.out) OK.out (OK.out _ (ak he)));rw [ht] at CV;clear px hy ht he hin;cases y7
   ·go_wp2_with fail;refine CV.out.mono ?_;rintro e3 w3 ⟨rfl,hb⟩;have BG:=J (BF.out.trans (hb.mono BF.out.size));clear CV hb p0 p1 p2 p3 p4 p5 p6 ix;cases t
    ·have hd:wR m=ah:=Xw (tE m) HE.out (HV.out.trans (by simp));go_wp2;go_ret;exact⟨by rw [hd]; rfl,BG.out⟩
    ·go_wp2
     go_roundw
     case rel=>exact⟨k+1,by omega,by go_num,BG.out,fun j y' hj h1=>by
      rcases aC j k with h3|h3
      ·exact AL.out j y' h3 h1
      ·obtain rfl:j=k:=by omega
       have e1:=HE.out;rw [h1] at e1;rw [au e1];exact HV.out.trans (by simp)⟩
     case measure=>simp [intOf]; omega
   ·clear CV;go_wp2
    go_roundw
    case rel=>exact⟨k+1,by omega,by go_num,BF.out,fun j y' hj h1=>by
     rcases aC j k with h3|h3
     ·exact AL.out j y' h3 h1
     ·obtain rfl:j=k:=by omega
      have e1:=HE.out;rw [h1] at e1;rw [au e1];exact HV.out.trans (by simp)⟩
    case measure=>simp [intOf]; omega
  ·obtain rfl:k=n:=by omega
   have hd:wR m=aL:=Xv (tE m) fun j y hj h=>AL.out j y (by rw [<- HN.out,HU.out.len]; exact hj) h;go_wp2;go_ret;exact⟨by rw [hd]; rfl,BE.out⟩
theorem Xx {W:World} {v:Sl} {l:List iH} {m:List En} (hv:lS W (dY v) l) (hA:eY (jD W) l m) (t:fD):lS W (dY (cutV v (kV m t) (wQ m t).length)) ((l.drop (kV m t)).take (wQ m t).length)/\eY (jD W) ((l.drop (kV m t)).take (wQ m t).length) (wQ m t):=by
 refine⟨(Qd hv _ _ (by rw [hA.len]; exact Gh m t)).2,?_⟩;have h:=(hA.drop (kV m t)).take (wQ m t).length;have e:(m.drop (kV m t)).take (wQ m t).length=wQ m t:=by
  unfold wQ
  conv=>lhs; arg 2; rw [<- List.takeWhile_append_dropWhile (p:=fun e:En=>decide (e.tree=t)) (l:=m.drop (kV m t))]
  rw [List.take_left]
 rw [e] at h;exact h
theorem Xy (m:List En) (t:fD):∀ e∈wQ m t,e∈m:=fun _ he=>List.mem_of_mem_drop ((List.takeWhile_sublist _).subset he)
theorem Xz (me:Int) (nv av sv ov:Value) (ev:Sl) (l:List iH) (m:List En) (t:fD) (pv:Value) (p':List C5) (w:World) (hs:lS w (dY ev) l) (hu:eY (jD w) l m) (hr:nQ m) (hl:l.length<=1000) (hp:fK w pv p') (hok:∀ e∈m,eD e.p) (hop:eD p') :
  Calls aF 146 #[aN #[K L me,nv,av,sv,dY ev,ov],mW t,pv] w fun e w'=>e=.returned (V (fE m t p'))/\Below w.heap.size w w':=by
 obtain⟨pa,pc,rfl⟩:=hp.len;obtain⟨so,n,sc⟩:=ev;obtain⟨c,d⟩:=t;obtain⟨h0,X,Y⟩:=gM w #[K L me,nv,av,sv,D so n sc,ov] #[K L c,K L d] 28 31;have B:=J h0;have x4:=X.cell 4;obtain⟨y0,y1⟩:=Y.cs2;simp only [U,O,Q] at x4;have BR:=J (C9 (so,n,sc) l m (c,d) _ (hs.on h0) (hu.mono fun _ _ q=>q.on h0) hr hl);obtain⟨q1,q2⟩:=Xx (hs.on h0) (hu.mono fun _ _ q=>q.on h0) (c,d);have Q1:=J q1;have Q2:=J q2;have HP:=J (hp.on h0);have OK:=J (fun e he=>hok e (Xy m (c,d) e he));have CB:=J (NG hr (c,d) p');generalize p'.length=pn at *;generalize fE m (c,d) p'=r at *;generalize cutV (so,n,sc) (kV m (c,d)) (wQ m (c,d)).length=z at *;obtain⟨z1,z2,z3⟩:=z;clear h0 X Y hs hu hr hl hp hok q1 q2;go_enter Tryz.func146,Tryz.ntmps146;go_wp2_with fail;generalize (w.alloc (aA #[K L me,nv,av,sv,D so n sc,ov] 28)).alloc (aA #[K L c,K L d] 31)=W at *;refine BR.out.mono ?_;rintro e1 w1 ⟨rfl,hb⟩;have HB:=J hb;have CV:=J (zP (z1,z2,z3) (D pa pn pc) _ (wQ m (c,d)) p' w1 (Q1.out.on hb) (Q2.out.mono fun _ _ q=>q.on hb) (HP.out.on hb) OK.out hop);clear x4 y0 y1 hb BR;go_wp2_with fail;refine CV.out.mono ?_;rintro e2 w2 ⟨rfl,hb2⟩;go_wp2;go_ret;exact⟨by rw [<- CB.out]; rfl,B.out.trans ((HB.out.trans (hb2.mono HB.out.size)).mono B.out.size)⟩
theorem iQ {p:List C5} (h:eD p):p.length<=900:=by
 obtain⟨a,na,rfl⟩:=h;rw [List.length_map];have:=na.five;omega
theorem Qg {α:Type} {E:Ek α} {W:World} {B:Nat} {v:Value} {l:List α} (h:Own E W B v l):∀ b,v.ownBlock=aH b->B<=b:=by
 intro b hb;rcases gX h with⟨rfl,_⟩|⟨g',cap',cur,rfl,h2,_⟩
 ·cases hb
 ·obtain rfl:g'=b:=by simpa [Value.ownBlock] using hb
  exact h2
theorem PM.less {w0 wr:World} {B B':Nat} {v:Value} {p:List C5} (h:PM w0 B wr v p) (hB:B'<=B):PM w0 B' wr v p:=h.imp id fun h=>dM h hB
theorem Cp.less {w0 wr:World} {B B':Nat} {b:Br} {nv av sv ev ov:Sl} (h:Cp w0 B wr b nv av sv ev ov) (hB:B'<=B):Cp w0 B' wr b nv av sv ev ov where
 near:=dM h.near hB
 seen:=dM h.seen hB
 dP:=by obtain⟨l,h1,h2⟩:=h.dP; exact⟨l,dM h1 hB,h2.mono fun _ _ q=>⟨q.1,q.2.1,PM.less q.2.2 hB⟩⟩
 ent:=by obtain⟨l,h1,h2⟩:=h.ent; exact⟨l,dM h1 hB,h2.mono fun _ _ q=>⟨q.1,q.2.1,q.2.2.1,q.2.2.2.1,PM.less q.2.2.2.2 hB⟩⟩
 own:=by obtain⟨l,h1,h2⟩:=h.own; exact⟨l,dM h1 hB,h2.mono fun _ _ q=>⟨q.1,PM.less q.2 hB⟩⟩
def NQ (b:Br) (e:En):Br×Bool:=match gG b.dP e.tree with
 | none=>(b,ah)
 | some a=>if sO b.ent e.tree e.sub=aL then (b,ah) else if e.from_=a.par/\a.par≠-1 then (b,ah) else
  ({ b with ent:=gT b.ent (fB (b.ent.map fO) (e.tree,e.sub)) { e with up:=!(a.par == -1) && !fE b.ent e.tree e.p } },!(a.par == -1) && !fE b.ent e.tree e.p)
theorem yg {b:Br} (hr:nQ b.ent) {e:En}:NQ b e=iK b e:=by
 unfold NQ iK;have ft:=Nz hr e.tree e.sub;have ek:fO e=(e.tree,e.sub):=rfl;rw [ek,ft];by_cases h:fM (b.dP.map Ad.id) e.tree=-1
 ·have hn:gG b.dP e.tree=Z:=pR fun j a hj=>uX (key:=Ad.id) h j a hj;rw [hn];cases b.dP[(fM (b.dP.map Ad.id) e.tree).toNat]? with
  | none=>rfl
  | some a=>simp only; rw [if_pos h]
 ·obtain⟨k,hk⟩:∃ k:Nat,fM (b.dP.map Ad.id) e.tree=k:=⟨(fM (b.dP.map Ad.id) e.tree).toNat,by have:=nK (b.dP.map Ad.id) e.tree; omega⟩;obtain⟨g1,g2⟩:=qZ hk;rw [aI] at g1;cases ha:b.dP[k]? with
  | none=>rw [ha] at g1; cases g1
  | some a =>
   rw [ha] at g1;have hx:a.id=e.tree:=au g1;have hf:gG b.dP e.tree=aH a:=qY ha hx fun j z hj hz=>g2 j z.id hj (by rw [aI,hz]; rfl);rw [hf,hk,Int.toNat_natCast,ha];simp only;rw [if_neg (show ¬ ((k:Int)=-1) by omega)];have e1:(!(a.par == -1))=decide (a.par≠-1):=by by_cases hp:a.par=-1 <;> simp [hp]
   rw [e1];by_cases ht:sO b.ent e.tree e.sub=aL
   ·rw [if_pos ht,if_pos ht,if_pos (by omega)]
   ·rw [if_neg ht,if_neg ht,if_neg (show ¬ ((-1:Int)≠-1) by simp)];by_cases hp:e.from_=a.par/\a.par≠-1
    ·rw [if_pos hp,if_pos ⟨by rw [hp.1]; exact hp.2,hp.1⟩]
    ·rw [if_neg hp,if_neg fun q=>hp ⟨q.2,by rw [<- q.2]; exact q.1⟩]
theorem XA (b:Br) (e:En) (nv av sv ev ov:Sl) (x:iH) (w:World) (h:iN w b nv av sv ev ov) (he:jD w x e) (hf:Hq b) (hp:Af b) (hr:nQ b.ent) (hok:∀ e∈b.ent,eD e.p) (hoe:eD e.p) :
  Calls aF 94 #[mo b.me nv av sv ev ov,nW x] w (Ib w (oD w nv b.near) (qm w b nv av sv ev ov) (iK b e)):=by
 obtain⟨no,nn,nc⟩:=nv;obtain⟨ao,an,ac⟩:=av;obtain⟨so,sn,sc⟩:=sv;obtain⟨eo,en,ec⟩:=ev;obtain⟨oo,dU,oc⟩:=ov;obtain⟨y1,y2,y3,y4,⟨yo,yn,yc⟩,y6,y7⟩:=x;obtain⟨h0,h1,h2,h3⟩:=gV w #[K L b.me,D no nn nc,D ao an ac,D so sn sc,D eo en ec,D oo dU oc] #[K L y1,K L y2,K L y3,K L y4,D yo yn yc,K L y6,V y7] #[K L 0,D Z 0 0,D Z 0 0,D Z 0 0,D Z 0 0,D Z 0 0] 28 66 28;have BB:=J h0;have X1:=J h1;have X2:=J h2;have X3:=J h3;have HH:=J h;have EE:=J he;have HF:=J hf;have HP:=J hp;have HR:=J hr;have OK:=J hok;have OE:=J hoe;obtain⟨la,ha1,ha2⟩:=h.dP;have SW:=J (JO b.me (D no nn nc) (D so sn sc) (D eo en ec) (D oo dU oc) (ao,an,ac) la b.dP (y1,y2) _ (ha1.on BB.out) (ha2.mono fun _ _ q=>q.on BB.out) hp.dP);have ET:=J (show e.tree=(y1,y2) from he.1.symm);have ES:=J (show e.sub=(y3,y4) from he.2.1.symm);have EF:=J (show e.from_=y6 from he.2.2.1.symm);obtain⟨x0,x1,x2,x3,x4,x5⟩:=X1.out.eX;obtain⟨d0,d1,d2,d3,d4,d5,d6⟩:=X2.out.nJ;clear h0 h1 h2 h3 h he hf hp hr hok hoe ha1 ha2 la;go_enter Tryz.func94,Tryz.ntmps94;go_wp2_with fail;generalize ((w.alloc (aA #[K L b.me,D no nn nc,D ao an ac,D so sn sc,D eo en ec,D oo dU oc] 28)).alloc (aA #[K L y1,K L y2,K L y3,K L y4,D yo yn yc,K L y6,V y7] 66)).alloc (aA #[K L 0,D Z 0 0,D Z 0 0,D Z 0 0,D Z 0 0,D Z 0 0] 28)=W at *;refine SW.out.mono ?_;rintro e1 w1 ⟨hq,hb⟩;have B1:=J (BB.out.trans (hb.mono BB.out.size));have Z1:=J (X1.out.on hb);have Z2:=J (X2.out.on hb);have Z3:=J (X3.out.on hb);clear hb SW X1 X2 X3;clear x0 x1 x2 x3 x4 x5;clear d0 d1 d2 d3 d4 d5 d6;obtain⟨⟨r1,r2,⟨ro,rn,rc⟩,r4⟩,kn,rfl,hin⟩:∃ (r:jv) (kn:Bool),e1=.returned (.tuple #[lX r,V kn])/\((kn=ah/\gG b.dP (y1,y2)=Z)\/(kn=aL/\∃ a,gG b.dP (y1,y2)=aH a/\r.2.2.2=a.par)):=by
  cases hfa:gG b.dP (y1,y2) with
  | none =>
   rw [hfa] at hq;exact⟨_,ah,hq,Or.inl ⟨rfl,rfl⟩⟩
  | some a =>
   rw [hfa] at hq;obtain⟨r,h1,h2⟩:=hq;exact⟨r,aL,h1,Or.inr ⟨rfl,a,rfl,h2.2.1⟩⟩
 have HI:=J hin;have nb:=fF w1 (aA #[K L r1,K L r2,D ro rn rc,K L r4] 74);have AB:=J (dO w1 #[K L r1,K L r2,D ro rn rc,K L r4] 74);have B2:=J (B1.out.trans (nb.mono B1.out.size));have Y1:=J (Z1.out.on nb);have Y2:=J (Z2.out.on nb);have Y3:=J (Z3.out.on nb);obtain⟨les,hs1,hs2⟩:=HH.out.ent;have PL:=J (SF (eo,en,ec) les b.ent (y1,y2) (y3,y4) _ (hs1.on B2.out) (hs2.mono fun _ _ q=>q.on B2.out) HR.out (by rw [hs2.len]; have:=HF.out.ent; omega));have alU:=J hs1;have ajf:=J hs2;obtain⟨k,hk⟩:∃ k,fB (b.ent.map fO) ((y1,y2),(y3,y4))=k:=⟨_,rfl⟩;obtain⟨th,hth⟩:∃ k,sO b.ent (y1,y2) (y3,y4)=k:=⟨_,rfl⟩;rw [hk,hth] at PL;have HK:=J hk;have TH:=J hth;have KL:=J (show k<=b.ent.length by rw [<- hk]; simpa using mq (b.ent.map fO) ((y1,y2),(y3,y4)));have x4:=Y1.out.cell 4;simp only [U,O,Q] at x4;have d1:=Y2.out.cell 1;have d0:=Y2.out.cell 0;have d2:=Y2.out.cell 2;have d3:=Y2.out.cell 3;simp only [U,O,Q] at d0 d1 d2 d3;clear hin hq nb hs1 hs2 hk hth Z1 Z2 Z3;go_wp2_with fail;generalize hw2:w1.alloc (aA #[K L r1,K L r2,D ro rn rc,K L r4] 74)=w2 at *;refine PL.out.mono ?_;rintro e2 w3 ⟨rfl,hb⟩;have BW:=J (B2.out.trans (hb.mono B2.out.size));have T1:=J (Y1.out.on hb);have T2:=J (Y2.out.on hb);have T3:=J (Y3.out.on hb);have TA:=AB.out.on hb;clear x4;clear d0 d1 d2 d3;have a3:=TA.cell 3;have d5:=T2.out.cell 5;simp only [U,O,Q] at a3 d5;obtain⟨fq,hfq⟩:∃ q,(y6 == r4)=q:=⟨_,rfl⟩;obtain⟨rt,hrt⟩:∃ q,(r4 == -1)=q:=⟨_,rfl⟩;have FQ:=J hfq;have RT:=J hrt;clear hb PL TA Y1 Y2 Y3 AB hw2;cases kn
 ·have LQ:=J (show iK b e=(b,ah) from by
   rw [<- yg HR.out];unfold NQ;have h0:gG b.dP e.tree=Z:=by
    rw [ET.out];rcases HI.out with⟨_,h⟩|⟨h,_⟩
    ·exact h
    ·cases h
   rw [h0])
  have Q1:=T1.out;have Q3:=T3.out;obtain⟨x0,x1,x2,x3,x4,x5⟩:=Q1.eX;obtain⟨z0,z1,z2,z3,z4,z5⟩:=Q3.eX;obtain⟨zf0,zf1,zf2,zf3,zf4,zf5⟩:=Q3.kI;have zlt:=Q3.lt;have FB:=J (dK Q3 (K L b.me) (D no nn nc) (D ao an ac) (D so sn sc) (D eo en ec) (D oo dU oc));have FL:=J (dG (b:=w.heap.size+1+1) BW.out (by omega) (K L b.me) (D no nn nc) (D ao an ac) (D so sn sc) (D eo en ec) (D oo dU oc));clear Q1 Q3;go_wp2_with fail;clear z0 z1 z2 z3 z4 z5;obtain⟨v0,v1,v2,v3,v4,v5⟩:=FB.out.eX;refine bodyPost_ret (v:=.tuple #[aN #[K L b.me,D no nn nc,D ao an ac,D so sn sc,D eo en ec,D oo dU oc],V ah]) (by simp [results,ay,go_sem,v0,v1,v2,v3,v4,v5]) rfl ?_;rw [LQ.out];exact⟨⟨(no,nn,nc),(ao,an,ac),(so,sn,sc),(eo,en,ec),(oo,dU,oc),rfl,HH.out.on FL.out,fun h=>h.on FL.out,fun h=>(h.resolve_right (by simp)).on FL.out⟩,FL.out⟩
 ·cases th
  ·cases rt
   ·cases fq
    ·have x1:=T2.out.cell 1;have x0:=T2.out.cell 0;have x2:=T2.out.cell 2;have x3:=T2.out.cell 3;have x4:=T2.out.cell 4;have x6:=T2.out.cell 6;simp only [U,O,Q] at x0 x1 x2 x3 x4 x6;have PE:=J (show fK w3 (D yo yn yc) e.p from (EE.out.2.2.2.2).on BW.out);have CP:=J (O7 (y1,y2,y3,y4,(yo,yn,yc),y6,y7) e.p w3 PE.out (iQ OE.out));go_wp2_with fail;refine CP.out.mono ?_;rintro e4 w3b ⟨⟨⟨u1,u2,u3⟩,rfl,ho⟩,hb⟩;clear x0 x1 x2 x3 x4 x6;clear a3 d5;have V2:=T2.out.on hb;obtain⟨x0,x1,x2,x3,x4,x5,x6⟩:=V2.nJ;obtain⟨xf0,xf1,xf2,xf3,Sd,xf5,xf6⟩:=V2.fs7;have xlt:=V2.lt;have bs:=JL w3b (w.heap.size+1) (K L y1) (K L y2) (K L y3) (K L y4) (D u1 u2 u3) (K L y6) (V y7);have E2:=J (Cg V2 (K L y1) (K L y2) (K L y3) (K L y4) (D u1 u2 u3) (K L y6) (V y7));have E1:=J (bs.box (T1.out.on hb) (by omega));have E3:=J (bs.box (T3.out.on hb) (by omega));have EO:=J (bs.own ho V2 (by decide));have EL:=J (wI (b:=w.heap.size+1) (BW.out.trans (hb.mono BW.out.size)) (by omega) (K L y1) (K L y2) (K L y3) (K L y4) (D u1 u2 u3) (K L y6) (V y7));have ES2:=J (show w3.heap.size<=(JK w3b (w.heap.size+1) (K L y1) (K L y2) (K L y3) (K L y4) (D u1 u2 u3) (K L y6) (V y7)).heap.size by have:=hb.size; simp; omega);have L4:=J (show w.heap.size+1+1<w3.heap.size from T3.out.lt);clear V2 ho hb CP T1 T2 T3 BW bs;go_upto_region 7 with fail;clear x0 x1 x2 x3 x4 x5 x6 xf0 xf1 xf2 xf3 Sd xf5 xf6 xlt;unfold JK at E2 E1 E3 EO EL ES2;generalize (((((((w3b).setCell ⟨w.heap.size+1,0,Z⟩ (K L y1)).setCell ⟨w.heap.size+1,1,Z⟩ (K L y2)).setCell ⟨w.heap.size+1,2,Z⟩ (K L y3)).setCell ⟨w.heap.size+1,3,Z⟩ (K L y4)).setCell ⟨w.heap.size+1,4,Z⟩ (D u1 u2 u3)).setCell ⟨w.heap.size+1,5,Z⟩ (K L y6)).setCell ⟨w.heap.size+1,6,Z⟩ (V y7)=w4b at *;have x1:=E2.out.cell 1;have x0:=E2.out.cell 0;have x4:=E2.out.cell 4;simp only [U,O,Q] at x0 x1 x4;obtain⟨z0,z1,z2,z3,z4,z5⟩:=E1.out.eX;have CV:=J (Xz b.me (D no nn nc) (D ao an ac) (D so sn sc) (D oo dU oc) (eo,en,ec) les b.ent (y1,y2) (D u1 u2 u3) e.p w4b (alU.out.on EL.out) (ajf.out.mono fun _ _ q=>q.on EL.out) HR.out (by rw [ajf.out.len]; have:=HF.out.ent; omega) (Row.dH EO.out) OK.out OE.out);obtain⟨cv,hcv⟩:∃ c,fE b.ent (y1,y2) e.p=c:=⟨_,rfl⟩;rw [hcv] at CV;have CVQ:=J hcv;clear hcv;go_wp2_with fail;refine CV.out.mono ?_;rintro e5 w4c ⟨rfl,hb⟩;clear x0 x1 x4;clear z0 z1 z2 z3 z4 z5
     replace E2:=J (E2.out.on hb)
     replace E1:=J (E1.out.on hb)
     replace E3:=J (E3.out.on hb)
     replace EO:=J (Bk.dI EO.out hb)
     replace ES2:=J (aJ ES2.out hb.size)
     replace EL:=J (EL.out.trans (hb.mono EL.out.size))
     clear CV hb;have x6:=E2.out.cell 6;have xf6:=E2.out.fr 6;have xlt:=E2.out.lt;simp only [U,O,Q] at x6;have bs:=dQ w4c (w.heap.size+1) 6 (V (!cv));have T2:=J (show dJ (w4c.setCell ⟨w.heap.size+1,6,Z⟩ (V (!cv))) (w.heap.size+1) #[K L y1,K L y2,K L y3,K L y4,D u1 u2 u3,K L y6,V (!cv)] 66 by simpa using dZ (k:=6) E2.out (V (!cv)));have T1:=J (bs.box E1.out (by omega));have T3:=J (bs.box E3.out (by omega));have OC:=J (bs.own EO.out E2.out (by decide));have BW:=J (EL.out.setCell (p:=⟨w.heap.size+1,6,Z⟩) (by simp) (V (!cv)));have S45:=J (show w3.heap.size<=(w4c.setCell ⟨w.heap.size+1,6,Z⟩ (V (!cv))).heap.size by have:=ES2.out; simp; omega);clear bs E1 E2 E3 EO EL ES2;go_upto_region 8 with fail;clear x6 xf6 xlt;generalize w4c.setCell ⟨w.heap.size+1,6,Z⟩ (V (!cv))=w5 at *;have LQ:=J (show iK b e=({ b with ent:=gT b.ent k { e with up:=(!cv) } },(!cv)) from by
      rw [<- yg HR.out];unfold NQ;obtain⟨a,h0,h1⟩:∃ a,gG b.dP e.tree=aH a/\r4=a.par:=by
       rw [ET.out];rcases HI.out with⟨h,_⟩|⟨_,h⟩
       ·cases h
       ·exact h
      rw [h0];simp only;rw [if_neg (by rw [ET.out,ES.out,TH.out]; simp),if_neg ?_,show fB (b.ent.map fO) (e.tree,e.sub)=k by rw [ET.out,ES.out]; exact HK.out,<- h1,RT.out]
      ·rw [ET.out,CVQ.out]
       rfl
      ·rintro⟨g,_⟩;rw [EF.out,<- h1] at g;have:=FQ.out;simp at this;exact this g)
     have Q1:=T1.out;obtain⟨x0,x1,x2,x3,x4,x5⟩:=Q1.eX;clear Q1;go_wp2_with fail;refine (uU b (no,nn,nc) (ao,an,ac) (so,sn,sc) (eo,en,ec) (oo,dU,oc) w w5 BW.out HH.out HF.out HP.out).mono ?_;rintro e6 w6 ⟨⟨⟨p1,q1,s1⟩,⟨p2,q2,s2⟩,⟨p3,q3,s3⟩,⟨p4,q4,s4⟩,⟨p5,q5,s5⟩,rfl,cp⟩,hb6⟩;clear x0 x1 x2 x3 x4 x5;have V1:=T1.out.on hb6;have V2:=J (T2.out.on hb6);have V3:=J (T3.out.on hb6);obtain⟨x0,x1,x2,x3,x4,x5⟩:=V1.eX;obtain⟨xf0,xf1,xf2,xf3,Sd,xf5⟩:=V1.kI;have xlt:=V1.lt;have bs:=eU w6 w.heap.size (K L b.me) (D p1 q1 s1) (D p2 q2 s2) (D p3 q3 s3) (D p4 q4 s4) (D p5 q5 s5);have FB:=J (dK V1 (K L b.me) (D p1 q1 s1) (D p2 q2 s2) (D p3 q3 s3) (D p4 q4 s4) (D p5 q5 s5));have FC:=J (Sb.Cp.less (cp.but bs V1) (show w3.heap.size<=w5.heap.size from S45.out));have FO:=J (bs.own (Bk.dI OC.out hb6) V1 (by decide));have FL:=J (dG (b:=w.heap.size) (BW.out.trans (hb6.mono BW.out.size)) (aD _) (K L b.me) (D p1 q1 s1) (D p2 q2 s2) (D p3 q3 s3) (D p4 q4 s4) (D p5 q5 s5));have F2:=J (bs.box V2.out (by omega));have F3:=J (bs.box V3.out (by omega));have SZ:=J (show w3.heap.size<=(gN w6 w.heap.size (K L b.me) (D p1 q1 s1) (D p2 q2 s2) (D p3 q3 s3) (D p4 q4 s4) (D p5 q5 s5)).heap.size by have:=hb6.size; have:=S45.out; simp; omega);clear V1 V2 V3 cp hb6 bs T1 T2 T3 OC BW;go_upto_region 9 with fail;clear x0 x1 x2 x3 x4 x5 xf0 xf1 xf2 xf3 Sd xf5 xlt;unfold gN at FB FC FL F2 F3 SZ FO;generalize ((((((w6).setCell ⟨w.heap.size,0,Z⟩ (K L b.me)).setCell ⟨w.heap.size,1,Z⟩ (D p1 q1 s1)).setCell ⟨w.heap.size,2,Z⟩ (D p2 q2 s2)).setCell ⟨w.heap.size,3,Z⟩ (D p3 q3 s3)).setCell ⟨w.heap.size,4,Z⟩ (D p4 q4 s4)).setCell ⟨w.heap.size,5,Z⟩ (D p5 q5 s5)=w7 at *;obtain⟨le,hle1,hle2⟩:=FC.out.ent;have yF:=J hle1;have HL2:=J hle2;clear hle1 hle2;have nb:=fF w7 (aA #[K L y1,K L y2,K L y3,K L y4,D u1 u2 u3,K L y6,V (!cv)] 66);have bx:=dO w7 #[K L y1,K L y2,K L y3,K L y4,D u1 u2 u3,K L y6,V (!cv)] 66;have IN:=J (zx w3.heap.size (D p4 q4 s4) le k (y1,y2,y3,y4,(u1,u2,u3),y6,(!cv)) w7.heap.size _ (Bk.dI yF.out nb) bx (fun e=>by
      obtain⟨d,hd⟩:=kK yF.out _ e;have:=hd.lt;omega) (by rw [HL2.out.len]; exact KL.out) (by rw [HL2.out.len]; exact HF.out.ent) (aJ SZ.out nb.size))
     have FB2:=J (FB.out.on nb);have F22:=J (F2.out.on nb);have F32:=J (F3.out.on nb);have FO2:=J (Bk.dI FO.out nb);have FC2:=J (FC.out.grow nb);have FL2:=J (FL.out.trans (nb.mono FL.out.size));have HA2:=J (HL2.out.mono fun _ _ q=>q.grow nb);have Iw:=J (kK (Bk.dI yF.out nb));have x4:=FB.out.cell 4;simp only [U,O,Q] at x4;obtain⟨d0,d1,d2,d3,d4,d5,d6⟩:=F2.out.nJ;clear nb bx;go_wp2_with fail;refine IN.out.mono ?_;rintro e8 w8 ⟨v8,rfl,hown,hbel,hoth⟩;clear x4;clear d0 d1 d2 d3 d4 d5 d6;generalize w7.alloc (aA #[K L y1,K L y2,K L y3,K L y4,D u1 u2 u3,K L y6,V (!cv)] 66)=w7a at *;obtain⟨t1,t2,hv8⟩:=(Row.dH hown).len;subst hv8;generalize (le.take k++(y1,y2,y3,y4,(u1,u2,u3),y6,(!cv))::le.drop k).length=tn at *;have hoff:Off (D p4 q4 s4).ownBlock w7a w8:=⟨hoth,hbel.size⟩;have CP:=J (FC2.out.af7 (ev':=(t1,tn,t2)) (el:=gT b.ent k { e with up:=(!cv) }) hoff ⟨gT le k (y1,y2,y3,y4,(u1,u2,u3),y6,(!cv)),by unfold gT; rw [aK]; exact hown,Ck (HA2.out.mono fun _ _ q=>q.off hoff Iw.out (by decide)) k ⟨EE.out.1,EE.out.2.1,EE.out.2.2.1,rfl,Or.inr (hoff.own FO2.out Iw.out (by decide))⟩⟩);have G1:=hoff.box FB2.out Iw.out (by decide);have G3:=hoff.box F32.out Iw.out (by decide);have G2:=J (show dJ w8 (w.heap.size+1) #[K L y1,K L y2,K L y3,K L y4,D u1 u2 u3,K L y6,V (!cv)] 66 from (hoth _ F22.out.lt (fun e=>by
      have:=Qg yF.out _ e.symm;have:=L4.out;omega)).trans F22.out)
     have NC:=J (show dJ (w8.setCell ⟨w.heap.size,4,Z⟩ (D t1 tn t2)) w.heap.size #[K L b.me,D p1 q1 s1,D p2 q2 s2,D p3 q3 s3,D t1 tn t2,D p5 q5 s5] 28 by simpa using dZ (k:=4) G1 (D t1 tn t2));have MC:=J (CP.out.but (dQ w8 w.heap.size 4 (D t1 tn t2)) G1);have M3:=J ((dQ w8 w.heap.size 4 (D t1 tn t2)).box G3 (by omega));have M2:=J ((dQ w8 w.heap.size 4 (D t1 tn t2)).box G2.out (by omega));have ML:=J (show Below w.heap.size w (w8.setCell ⟨w.heap.size,4,Z⟩ (D t1 tn t2)) from (FL2.out.trans (hbel.mono (by have:=L4.out; omega))).setCell (p:=⟨w.heap.size,4,Z⟩) (aD _) _);have x4:=G1.cell 4;have Sd:=G1.fr 4;have xlt:=G1.lt;simp only [U,O,Q] at x4;clear hown hbel hoth hoff G1 G2 G3 CP FB FB2 FC FC2 FO FO2 F2 F22 F3 F32 FL FL2 yF HL2 HA2 Iw IN SZ;go_upto_region 10 with fail;clear x4 Sd xlt;generalize w8.setCell ⟨w.heap.size,4,Z⟩ (D t1 tn t2)=w9 at *;have Q1:=NC.out;have Q2:=M2.out;have Q3:=M3.out;obtain⟨x0,x1,x2,x3,x4,x5⟩:=Q1.eX;have d6:=Q2.cell 6;simp only [U,O,Q] at d6;obtain⟨z0,z1,z2,z3,z4,z5⟩:=Q3.eX;obtain⟨zf0,zf1,zf2,zf3,zf4,zf5⟩:=Q3.kI;have zlt:=Q3.lt;have FB:=J ((dK Q3 (K L b.me) (D p1 q1 s1) (D p2 q2 s2) (D p3 q3 s3) (D t1 tn t2) (D p5 q5 s5)).on (aB _ _).drew);have FC:=J ((MC.out.but (eU w9 (w.heap.size+1+1) (K L b.me) (D p1 q1 s1) (D p2 q2 s2) (D p3 q3 s3) (D t1 tn t2) (D p5 q5 s5)) Q3).grow (aB _ _).drew);have FL:=J (dG (b:=w.heap.size+1+1) ML.out (by omega) (K L b.me) (D p1 q1 s1) (D p2 q2 s2) (D p3 q3 s3) (D t1 tn t2) (D p5 q5 s5)).drew;clear Q1 Q2 Q3 NC MC M2 M3 ML;go_wp2
     go_region
     all_goals simp only [Exit.then]
     all_goals apply_assumption
     all_goals
      clear x0 x1 x2 x3 x4 x5;clear z0 z1 z2 z3 z4 z5 zf0 zf1 zf2 zf3 zf4 zf5 zlt;clear d6;unfold gN at FB FC FL;generalize (((((((w9).setCell ⟨w.heap.size+1+1,0,Z⟩ (K L b.me)).setCell ⟨w.heap.size+1+1,1,Z⟩ (D p1 q1 s1)).setCell ⟨w.heap.size+1+1,2,Z⟩ (D p2 q2 s2)).setCell ⟨w.heap.size+1+1,3,Z⟩ (D p3 q3 s3)).setCell ⟨w.heap.size+1+1,4,Z⟩ (D t1 tn t2)).setCell ⟨w.heap.size+1+1,5,Z⟩ (D p5 q5 s5)).drew=wz at *;obtain⟨v0,v1,v2,v3,v4,v5⟩:=FB.out.eX;go_wp2;refine bodyPost_ret (v:=.tuple #[aN #[K L b.me,D p1 q1 s1,D p2 q2 s2,D p3 q3 s3,D t1 tn t2,D p5 q5 s5],V (!cv)]) (by simp [results,ay,go_sem,v0,v1,v2,v3,v4,v5]) rfl ?_;rw [LQ.out];exact⟨⟨(p1,q1,s1),(p2,q2,s2),(p3,q3,s3),(t1,tn,t2),(p5,q5,s5),rfl,FC.out.vbr,fun _=>⟨_,FC.out.near⟩,fun _=>⟨_,_,FC.out⟩⟩,FL.out⟩
    ·have LQ:=J (show iK b e=(b,ah) from by
      rw [<- yg HR.out];unfold NQ;obtain⟨a,h0,h1⟩:∃ a,gG b.dP e.tree=aH a/\r4=a.par:=by
       rw [ET.out];rcases HI.out with⟨h,_⟩|⟨_,h⟩
       ·cases h
       ·exact h
      rw [h0];simp only;rw [if_neg (by rw [ET.out,ES.out,TH.out]; simp),if_pos ?_];refine⟨?_,?_⟩
      ·rw [EF.out,<- h1];have:=FQ.out;simpa using this
      ·rw [<- h1];have:=RT.out;simpa using this)
     have Q1:=T1.out;have Q3:=T3.out;obtain⟨x0,x1,x2,x3,x4,x5⟩:=Q1.eX;obtain⟨z0,z1,z2,z3,z4,z5⟩:=Q3.eX;obtain⟨zf0,zf1,zf2,zf3,zf4,zf5⟩:=Q3.kI;have zlt:=Q3.lt;have FB:=J (dK Q3 (K L b.me) (D no nn nc) (D ao an ac) (D so sn sc) (D eo en ec) (D oo dU oc));have FL:=J (dG (b:=w.heap.size+1+1) BW.out (by omega) (K L b.me) (D no nn nc) (D ao an ac) (D so sn sc) (D eo en ec) (D oo dU oc));clear Q1 Q3;go_wp2_with fail;clear z0 z1 z2 z3 z4 z5;obtain⟨v0,v1,v2,v3,v4,v5⟩:=FB.out.eX;refine bodyPost_ret (v:=.tuple #[aN #[K L b.me,D no nn nc,D ao an ac,D so sn sc,D eo en ec,D oo dU oc],V ah]) (by simp [results,ay,go_sem,v0,v1,v2,v3,v4,v5]) rfl ?_;rw [LQ.out];exact⟨⟨(no,nn,nc),(ao,an,ac),(so,sn,sc),(eo,en,ec),(oo,dU,oc),rfl,HH.out.on FL.out,fun h=>h.on FL.out,fun h=>(h.resolve_right (by simp)).on FL.out⟩,FL.out⟩
   ·cases fq
    all_goals
     have x1:=T2.out.cell 1;have x0:=T2.out.cell 0;have x2:=T2.out.cell 2;have x3:=T2.out.cell 3;have x4:=T2.out.cell 4;have x6:=T2.out.cell 6;simp only [U,O,Q] at x0 x1 x2 x3 x4 x6;have PE:=J (show fK w3 (D yo yn yc) e.p from (EE.out.2.2.2.2).on BW.out);have CP:=J (O7 (y1,y2,y3,y4,(yo,yn,yc),y6,y7) e.p w3 PE.out (iQ OE.out));go_wp2_with fail;refine CP.out.mono ?_;rintro e4 w3b ⟨⟨⟨u1,u2,u3⟩,rfl,ho⟩,hb⟩;clear x0 x1 x2 x3 x4 x6;clear a3 d5;have V2:=T2.out.on hb;obtain⟨x0,x1,x2,x3,x4,x5,x6⟩:=V2.nJ;obtain⟨xf0,xf1,xf2,xf3,Sd,xf5,xf6⟩:=V2.fs7;have xlt:=V2.lt;have bs:=JL w3b (w.heap.size+1) (K L y1) (K L y2) (K L y3) (K L y4) (D u1 u2 u3) (K L y6) (V y7);have E2:=J (Cg V2 (K L y1) (K L y2) (K L y3) (K L y4) (D u1 u2 u3) (K L y6) (V y7));have E1:=J (bs.box (T1.out.on hb) (by omega));have E3:=J (bs.box (T3.out.on hb) (by omega));have EO:=J (bs.own ho V2 (by decide));have EL:=J (wI (b:=w.heap.size+1) (BW.out.trans (hb.mono BW.out.size)) (by omega) (K L y1) (K L y2) (K L y3) (K L y4) (D u1 u2 u3) (K L y6) (V y7));have ES2:=J (show w3.heap.size<=(JK w3b (w.heap.size+1) (K L y1) (K L y2) (K L y3) (K L y4) (D u1 u2 u3) (K L y6) (V y7)).heap.size by have:=hb.size; simp; omega);have L4:=J (show w.heap.size+1+1<w3.heap.size from T3.out.lt);clear V2 ho hb CP T1 T2 T3 BW bs;go_upto_region 7 with fail;clear x0 x1 x2 x3 x4 x5 x6 xf0 xf1 xf2 xf3 Sd xf5 xf6 xlt;unfold JK at E2 E1 E3 EO EL ES2;generalize (((((((w3b).setCell ⟨w.heap.size+1,0,Z⟩ (K L y1)).setCell ⟨w.heap.size+1,1,Z⟩ (K L y2)).setCell ⟨w.heap.size+1,2,Z⟩ (K L y3)).setCell ⟨w.heap.size+1,3,Z⟩ (K L y4)).setCell ⟨w.heap.size+1,4,Z⟩ (D u1 u2 u3)).setCell ⟨w.heap.size+1,5,Z⟩ (K L y6)).setCell ⟨w.heap.size+1,6,Z⟩ (V y7)=w4b at *;have x6:=E2.out.cell 6;have xf6:=E2.out.fr 6;have xlt:=E2.out.lt;simp only [U,O,Q] at x6;have bs:=dQ w4b (w.heap.size+1) 6 (V ah);have T2:=J (show dJ (w4b.setCell ⟨w.heap.size+1,6,Z⟩ (V ah)) (w.heap.size+1) #[K L y1,K L y2,K L y3,K L y4,D u1 u2 u3,K L y6,V ah] 66 by simpa using dZ (k:=6) E2.out (V ah));have T1:=J (bs.box E1.out (by omega));have T3:=J (bs.box E3.out (by omega));have OC:=J (bs.own EO.out E2.out (by decide));have BW:=J (EL.out.setCell (p:=⟨w.heap.size+1,6,Z⟩) (by simp) (V ah));have S45:=J (show w3.heap.size<=(w4b.setCell ⟨w.heap.size+1,6,Z⟩ (V ah)).heap.size by have:=ES2.out; simp; omega);clear bs E1 E2 E3 EO EL ES2;go_upto_region 8 with fail;clear x6 xf6 xlt;generalize w4b.setCell ⟨w.heap.size+1,6,Z⟩ (V ah)=w5 at *;have LQ:=J (show iK b e=({ b with ent:=gT b.ent k { e with up:=ah } },ah) from by
      rw [<- yg HR.out];unfold NQ;obtain⟨a,h0,h1⟩:∃ a,gG b.dP e.tree=aH a/\r4=a.par:=by
       rw [ET.out];rcases HI.out with⟨h,_⟩|⟨_,h⟩
       ·cases h
       ·exact h
      rw [h0];simp only;rw [if_neg (by rw [ET.out,ES.out,TH.out]; simp),if_neg ?_,show fB (b.ent.map fO) (e.tree,e.sub)=k by rw [ET.out,ES.out]; exact HK.out,<- h1,RT.out]
      ·rfl
      ·rintro⟨_,g⟩;rw [<- h1] at g;have:=RT.out;simp at this;exact g this)
     have Q1:=T1.out;obtain⟨x0,x1,x2,x3,x4,x5⟩:=Q1.eX;clear Q1;go_wp2_with fail;refine (uU b (no,nn,nc) (ao,an,ac) (so,sn,sc) (eo,en,ec) (oo,dU,oc) w w5 BW.out HH.out HF.out HP.out).mono ?_;rintro e6 w6 ⟨⟨⟨p1,q1,s1⟩,⟨p2,q2,s2⟩,⟨p3,q3,s3⟩,⟨p4,q4,s4⟩,⟨p5,q5,s5⟩,rfl,cp⟩,hb6⟩;clear x0 x1 x2 x3 x4 x5;have V1:=T1.out.on hb6;have V2:=J (T2.out.on hb6);have V3:=J (T3.out.on hb6);obtain⟨x0,x1,x2,x3,x4,x5⟩:=V1.eX;obtain⟨xf0,xf1,xf2,xf3,Sd,xf5⟩:=V1.kI;have xlt:=V1.lt;have bs:=eU w6 w.heap.size (K L b.me) (D p1 q1 s1) (D p2 q2 s2) (D p3 q3 s3) (D p4 q4 s4) (D p5 q5 s5);have FB:=J (dK V1 (K L b.me) (D p1 q1 s1) (D p2 q2 s2) (D p3 q3 s3) (D p4 q4 s4) (D p5 q5 s5));have FC:=J (Sb.Cp.less (cp.but bs V1) (show w3.heap.size<=w5.heap.size from S45.out));have FO:=J (bs.own (Bk.dI OC.out hb6) V1 (by decide));have FL:=J (dG (b:=w.heap.size) (BW.out.trans (hb6.mono BW.out.size)) (aD _) (K L b.me) (D p1 q1 s1) (D p2 q2 s2) (D p3 q3 s3) (D p4 q4 s4) (D p5 q5 s5));have F2:=J (bs.box V2.out (by omega));have F3:=J (bs.box V3.out (by omega));have SZ:=J (show w3.heap.size<=(gN w6 w.heap.size (K L b.me) (D p1 q1 s1) (D p2 q2 s2) (D p3 q3 s3) (D p4 q4 s4) (D p5 q5 s5)).heap.size by have:=hb6.size; have:=S45.out; simp; omega);clear V1 V2 V3 cp hb6 bs T1 T2 T3 OC BW;go_upto_region 9 with fail;clear x0 x1 x2 x3 x4 x5 xf0 xf1 xf2 xf3 Sd xf5 xlt;unfold gN at FB FC FL F2 F3 SZ FO;generalize ((((((w6).setCell ⟨w.heap.size,0,Z⟩ (K L b.me)).setCell ⟨w.heap.size,1,Z⟩ (D p1 q1 s1)).setCell ⟨w.heap.size,2,Z⟩ (D p2 q2 s2)).setCell ⟨w.heap.size,3,Z⟩ (D p3 q3 s3)).setCell ⟨w.heap.size,4,Z⟩ (D p4 q4 s4)).setCell ⟨w.heap.size,5,Z⟩ (D p5 q5 s5)=w7 at *;obtain⟨le,hle1,hle2⟩:=FC.out.ent;have yF:=J hle1;have HL2:=J hle2;clear hle1 hle2;have nb:=fF w7 (aA #[K L y1,K L y2,K L y3,K L y4,D u1 u2 u3,K L y6,V ah] 66);have bx:=dO w7 #[K L y1,K L y2,K L y3,K L y4,D u1 u2 u3,K L y6,V ah] 66;have IN:=J (zx w3.heap.size (D p4 q4 s4) le k (y1,y2,y3,y4,(u1,u2,u3),y6,ah) w7.heap.size _ (Bk.dI yF.out nb) bx (fun e=>by
      obtain⟨d,hd⟩:=kK yF.out _ e;have:=hd.lt;omega) (by rw [HL2.out.len]; exact KL.out) (by rw [HL2.out.len]; exact HF.out.ent) (aJ SZ.out nb.size))
     have FB2:=J (FB.out.on nb);have F22:=J (F2.out.on nb);have F32:=J (F3.out.on nb);have FO2:=J (Bk.dI FO.out nb);have FC2:=J (FC.out.grow nb);have FL2:=J (FL.out.trans (nb.mono FL.out.size));have HA2:=J (HL2.out.mono fun _ _ q=>q.grow nb);have Iw:=J (kK (Bk.dI yF.out nb));have x4:=FB.out.cell 4;simp only [U,O,Q] at x4;obtain⟨d0,d1,d2,d3,d4,d5,d6⟩:=F2.out.nJ;clear nb bx;go_wp2_with fail;refine IN.out.mono ?_;rintro e8 w8 ⟨v8,rfl,hown,hbel,hoth⟩;clear x4;clear d0 d1 d2 d3 d4 d5 d6;generalize w7.alloc (aA #[K L y1,K L y2,K L y3,K L y4,D u1 u2 u3,K L y6,V ah] 66)=w7a at *;obtain⟨t1,t2,hv8⟩:=(Row.dH hown).len;subst hv8;generalize (le.take k++(y1,y2,y3,y4,(u1,u2,u3),y6,ah)::le.drop k).length=tn at *;have hoff:Off (D p4 q4 s4).ownBlock w7a w8:=⟨hoth,hbel.size⟩;have CP:=J (FC2.out.af7 (ev':=(t1,tn,t2)) (el:=gT b.ent k { e with up:=ah }) hoff ⟨gT le k (y1,y2,y3,y4,(u1,u2,u3),y6,ah),by unfold gT; rw [aK]; exact hown,Ck (HA2.out.mono fun _ _ q=>q.off hoff Iw.out (by decide)) k ⟨EE.out.1,EE.out.2.1,EE.out.2.2.1,rfl,Or.inr (hoff.own FO2.out Iw.out (by decide))⟩⟩);have G1:=hoff.box FB2.out Iw.out (by decide);have G3:=hoff.box F32.out Iw.out (by decide);have G2:=J (show dJ w8 (w.heap.size+1) #[K L y1,K L y2,K L y3,K L y4,D u1 u2 u3,K L y6,V ah] 66 from (hoth _ F22.out.lt (fun e=>by
      have:=Qg yF.out _ e.symm;have:=L4.out;omega)).trans F22.out)
     have NC:=J (show dJ (w8.setCell ⟨w.heap.size,4,Z⟩ (D t1 tn t2)) w.heap.size #[K L b.me,D p1 q1 s1,D p2 q2 s2,D p3 q3 s3,D t1 tn t2,D p5 q5 s5] 28 by simpa using dZ (k:=4) G1 (D t1 tn t2));have MC:=J (CP.out.but (dQ w8 w.heap.size 4 (D t1 tn t2)) G1);have M3:=J ((dQ w8 w.heap.size 4 (D t1 tn t2)).box G3 (by omega));have M2:=J ((dQ w8 w.heap.size 4 (D t1 tn t2)).box G2.out (by omega));have ML:=J (show Below w.heap.size w (w8.setCell ⟨w.heap.size,4,Z⟩ (D t1 tn t2)) from (FL2.out.trans (hbel.mono (by have:=L4.out; omega))).setCell (p:=⟨w.heap.size,4,Z⟩) (aD _) _);have x4:=G1.cell 4;have Sd:=G1.fr 4;have xlt:=G1.lt;simp only [U,O,Q] at x4;clear hown hbel hoth hoff G1 G2 G3 CP FB FB2 FC FC2 FO FO2 F2 F22 F3 F32 FL FL2 yF HL2 HA2 Iw IN SZ;go_upto_region 10 with fail;clear x4 Sd xlt;generalize w8.setCell ⟨w.heap.size,4,Z⟩ (D t1 tn t2)=w9 at *;have Q1:=NC.out;have Q2:=M2.out;have Q3:=M3.out;obtain⟨x0,x1,x2,x3,x4,x5⟩:=Q1.eX;have d6:=Q2.cell 6;simp only [U,O,Q] at d6;obtain⟨z0,z1,z2,z3,z4,z5⟩:=Q3.eX;obtain⟨zf0,zf1,zf2,zf3,zf4,zf5⟩:=Q3.kI;have zlt:=Q3.lt;have FB:=J ((dK Q3 (K L b.me) (D p1 q1 s1) (D p2 q2 s2) (D p3 q3 s3) (D t1 tn t2) (D p5 q5 s5)).on (aB _ _).drew);have FC:=J ((MC.out.but (eU w9 (w.heap.size+1+1) (K L b.me) (D p1 q1 s1) (D p2 q2 s2) (D p3 q3 s3) (D t1 tn t2) (D p5 q5 s5)) Q3).grow (aB _ _).drew);have FL:=J (dG (b:=w.heap.size+1+1) ML.out (by omega) (K L b.me) (D p1 q1 s1) (D p2 q2 s2) (D p3 q3 s3) (D t1 tn t2) (D p5 q5 s5)).drew;clear Q1 Q2 Q3 NC MC M2 M3 ML;go_wp2
     go_region
     all_goals simp only [Exit.then]
     all_goals apply_assumption
     all_goals
      clear x0 x1 x2 x3 x4 x5;clear z0 z1 z2 z3 z4 z5 zf0 zf1 zf2 zf3 zf4 zf5 zlt;clear d6;unfold gN at FB FC FL;generalize (((((((w9).setCell ⟨w.heap.size+1+1,0,Z⟩ (K L b.me)).setCell ⟨w.heap.size+1+1,1,Z⟩ (D p1 q1 s1)).setCell ⟨w.heap.size+1+1,2,Z⟩ (D p2 q2 s2)).setCell ⟨w.heap.size+1+1,3,Z⟩ (D p3 q3 s3)).setCell ⟨w.heap.size+1+1,4,Z⟩ (D t1 tn t2)).setCell ⟨w.heap.size+1+1,5,Z⟩ (D p5 q5 s5)).drew=wz at *;obtain⟨v0,v1,v2,v3,v4,v5⟩:=FB.out.eX;go_wp2;refine bodyPost_ret (v:=.tuple #[aN #[K L b.me,D p1 q1 s1,D p2 q2 s2,D p3 q3 s3,D t1 tn t2,D p5 q5 s5],V ah]) (by simp [results,ay,go_sem,v0,v1,v2,v3,v4,v5]) rfl ?_;rw [LQ.out];exact⟨⟨(p1,q1,s1),(p2,q2,s2),(p3,q3,s3),(t1,tn,t2),(p5,q5,s5),rfl,FC.out.vbr,fun _=>⟨_,FC.out.near⟩,fun _=>⟨_,_,FC.out⟩⟩,FL.out⟩
  ·have LQ:=J (show iK b e=(b,ah) from by
    rw [<- yg HR.out];unfold NQ;obtain⟨a,h0,h1⟩:∃ a,gG b.dP e.tree=aH a/\r4=a.par:=by
     rw [ET.out];rcases HI.out with⟨h,_⟩|⟨_,h⟩
     ·cases h
     ·exact h
    rw [h0];simp only;rw [if_pos (by rw [ET.out,ES.out,TH.out])])
   have Q1:=T1.out;have Q3:=T3.out;obtain⟨x0,x1,x2,x3,x4,x5⟩:=Q1.eX;obtain⟨z0,z1,z2,z3,z4,z5⟩:=Q3.eX;obtain⟨zf0,zf1,zf2,zf3,zf4,zf5⟩:=Q3.kI;have zlt:=Q3.lt;have FB:=J (dK Q3 (K L b.me) (D no nn nc) (D ao an ac) (D so sn sc) (D eo en ec) (D oo dU oc));have FL:=J (dG (b:=w.heap.size+1+1) BW.out (by omega) (K L b.me) (D no nn nc) (D ao an ac) (D so sn sc) (D eo en ec) (D oo dU oc));clear Q1 Q3;go_wp2_with fail;clear z0 z1 z2 z3 z4 z5;obtain⟨v0,v1,v2,v3,v4,v5⟩:=FB.out.eX;refine bodyPost_ret (v:=.tuple #[aN #[K L b.me,D no nn nc,D ao an ac,D so sn sc,D eo en ec,D oo dU oc],V ah]) (by simp [results,ay,go_sem,v0,v1,v2,v3,v4,v5]) rfl ?_;rw [LQ.out];exact⟨⟨(no,nn,nc),(ao,an,ac),(so,sn,sc),(eo,en,ec),(oo,dU,oc),rfl,HH.out.on FL.out,fun h=>h.on FL.out,fun h=>(h.resolve_right (by simp)).on FL.out⟩,FL.out⟩
end Go.Proofs.YtmklifheakemeaaGreat.Sb
