/-
  Small things for Adv. Conditions as told.
-/
import Derived.Test.YtkcfgbddlpomgaaGreatDQ037
set_option maxRecDepth 100000
set_option maxHeartbeats 64000000
open _root_.Bool renaming true->aC,false->aD,and_eq_true->bG
open _root_.Go renaming bodyPost_ret->au,cell_regrown->ay,Addr->bg,below_regrown->bD,World->bN,Calls->bO,redrawn->bP
open Go.IntKind renaming i64->L
open Go.IntWalk renaming i64_in->aK
open Go.Lib renaming hid->J
open Go.Obj renaming cells->aj
open Go.Proofs.Tryz renaming prog->aH,results30->aP,results27->aY,results29->bL
open Go.Proofs.YtkcfgbddlpomgaaGreat.Bk.But renaming below->O
open Go.RowKit.Below renaming refl->aO
open Go.Value renaming slice->D,int->K,agg->bf,bool->bI
open _root_.List renaming getElem?_eq_getElem->X,getElem?_cons_zero->Y,getElem?_cons_succ->Z,getElem?_toArray->ah,mem_of_getElem?->ak,mem_filter->aG,mem_map->aJ,length_filter_le->aM,getElem?_map->aQ,map_cons->aR,length_map->aT,singleton_append->aU,getElem?_eq_none->aV,mem_cons_of_mem->aW,pairwise_append->aX,takeWhile_cons->aZ,mem_cons->bn,pairwise_cons->bF,length_cons->bH,length_nil->bJ
open List.Pairwise renaming nil->aB
open _root_.Nat renaming le_trans->U,le_refl->V,le_succ_of_le->aA,le_of_lt->aL,zero_le->aN
open _root_.Option renaming none->Q,some->aF,map_some->bK
open Option.some renaming inj->aS
open _root_.Or renaming inl->aI,inr->bE
namespace Go.Proofs.YtkcfgbddlpomgaaGreat
namespace Av
open Go.RowKit Go.Sort Rw YtkcfgbddlpomgaaGreat.Nm Pr Bk
theorem sS (x y:En):je (fB x) (fB y)=aC↔xS x y<0:=by
 rw [sP];unfold je fB;simp only [Bool.or_eq_true,bG,xY]
theorem O6 (x y:En) (h:fB x≠fB y):xS x y<0\/xS y x<0:=by
 rw [sP,sP];rcases oC x.tree y.tree with q|q|q
 ·exact aI (aI q)
 ·rcases oC x.sub y.sub with r|r|r
  ·exact aI (bE ⟨q,r⟩)
  ·exact absurd (Prod.ext q r) h
  ·exact bE (bE ⟨q.symm,r⟩)
 ·exact bE (aI q)
theorem Dv:∀ (l:List En) (x:En),∀ y∈l.take (eP (l.map fB) (fB x)),xS y x<0
 | [],_,y,h=>by simp at h
 | a::l,x,y,h=>by
  unfold eP at h;by_cases ha:je (fB a) (fB x)=aC
  ·simp only [aR,aZ,ha,if_true,bH,List.take_succ_cons,bn] at h;rcases h with rfl|h
   ·exact (sS _ _).1 ha
   ·exact Dv l x y h
  ·simp [ha] at h
theorem Dw:∀ {l:List En} (_:l.Pairwise fun x y=>xS x y<0) (x:En) (_:∀ y∈l,fB y≠fB x),∀ y∈l.drop (eP (l.map fB) (fB x)),xS x y<0
 | [],_,_,_,y,h=>by simp at h
 | a::l,hr,x,hn,y,h=>by
  unfold eP at h;have hr':=bF.1 hr;by_cases ha:je (fB a) (fB x)=aC
  ·simp only [aR,aZ,ha,if_true,bH,List.drop_succ_cons] at h;exact Dw hr'.2 x (fun y hy=>hn y (aW _ hy)) y h
  ·simp [ha] at h;have hax:xS x a<0:=by
    rcases O6 a x (hn a (by simp)) with q|q
    ·exact absurd ((sS _ _).2 q) ha
    ·exact q
   rcases h with rfl|h
   ·exact hax
   ·exact E5 _ _ _ hax (hr'.1 y h)
theorem O7 {l:List En} (hr:l.Pairwise fun x y=>xS x y<0) (x:En) (hn:∀ y∈l,fB y≠fB x):(fP l (eP (l.map fB) (fB x)) x).Pairwise fun x y=>xS x y<0:=by
 unfold fP;have h1:=hr.sublist (List.take_sublist (eP (l.map fB) (fB x)) l);have h2:=hr.sublist (List.drop_sublist (eP (l.map fB) (fB x)) l);have lo:=Dv l x;have hi:=Dw hr x hn;rw [List.append_assoc,aX];refine⟨h1,?_,fun a ha b hb=>?_⟩
 ·rw [aU,bF];exact⟨fun b hb=>hi b hb,h2⟩
 ·rw [aU,bn] at hb;rcases hb with rfl|hb
  ·exact lo a ha
  ·exact E5 _ _ _ (lo a ha) (hi b hb)
theorem Dx:∀ (l:List eO) (x:eO),x ∉ l->fG l x=-1
 | [],_,_=>rfl
 | a::l,x,h=>by
  rw [fG,if_neg fun e=>h (by rw [e]; simp),Dx l x fun q=>h (aW _ q),if_pos rfl]
theorem Tq {κ:Type} [DecidableEq κ] {l:List κ} {x:κ} (h:iL l x=-1):x ∉ l:=by
 rcases mI l x with _|⟨k,h1,_⟩
 ·intro hm
  induction l with
  | nil=>simp at hm
  | cons a l ih =>
   rw [iL] at h
   split at h
   ·cases h
   ·rename_i hne
    split at h
    ·rename_i h2
     rcases bn.1 hm with e|e
     ·exact hne e.symm
     ·exact ih h2 h2 e
    ·rename_i h2
     have:=mI l x;rcases this with q|⟨k,q,_⟩
     ·exact h2 q
     ·omega
 ·omega
theorem J7 {b:Br} (h:jC b) {l:List En} (hp:l.Pairwise fun x y=>xS x y<0) (ho:∀ e∈l,wS b e=aC):jC { b with ent:=l } :=
 ⟨h.near,h.seen,h.dO,hp,h.own,h.oks,fun e he=>qK (b:=b) rfl rfl (ho e he),h.Xi⟩
theorem Tt {b:Br} (h:jC b) (e:En) (hc:jR b.near e.from_=aC) (hq:Wr.iX e.p=aC):jC (gQ b e).1:=by
 unfold gQ
 split
 ·exact h
 ·rename_i a ha
  split
  ·exact h
  ·rename_i h1
   split
   ·exact h
   ·rename_i h2
    split
    ·exact h
    ·rename_i h3
     have hid:a.id=e.tree:=by
      have hm:e.tree∈b.dO.map Ad.id:=Decidable.byContradiction fun q=>h1 (Dx _ _ q);obtain⟨k2,h5,h6⟩:=Cw _ _ hm;rw [h5,Int.toNat_natCast] at ha;rw [aQ,ha] at h6;exact aS h6
     have hf:fV b.dO e.tree=aF a:=by
      rw [<- hid];exact nX h.dO (ak ha)
     have hins:=O7 h.ent { e with up:=decide (a.par≠-1) && !eX b.ent e.tree e.p } fun y hy hk=>by
      have hm:fB e∈b.ent.map fB:=aJ.2 ⟨y,hy,hk⟩;have h9:iL (b.ent.map fB) (fB e)=-1:=Decidable.not_not.1 h2;exact Tq h9 hm
     refine J7 h hins fun q hq2=>?_;rcases (jK _ _ _ _).1 hq2 with rfl|hq2
     ·unfold wS;simp only [hf];have h4:¬ (e.from_≠-1/\e.from_=a.par):=h3;rw [hc,hq];by_cases g1:e.from_=a.par
      ·have g2:a.par=-1:=by
        rw [<- g1];exact Decidable.byContradiction fun q=>h4 ⟨q,g1⟩
       simp [g1,g2]
      ·by_cases g2:a.par=-1 <;> simp [g1,g2]
     ·exact h.LK q hq2
theorem Bd (t:eO) (s:List En×List En) (k:Nat):(iC t s k).1.map fB=s.1.map fB:=by
 unfold iC
 split
 ·rfl
 ·rename_i e he
  split
  ·rw [List.map_set];refine List.ext_getElem? fun j=>?_;rw [List.getElem?_set]
   split
   ·rename_i hj
    subst hj
    split
    ·rw [aQ,he]
     rfl
    ·rename_i hl
     rw [aV (by simpa using hl)]
   ·rfl
  ·rfl
theorem uD (t:eO) (m:List En):∀ k,(iM t m k).1.map fB=m.map fB
 | 0=>rfl
 | k+1=>by rw [lZ,Bd,uD t m k]
theorem O8 {l m:List En} (h:l.map fB=m.map fB) (hp:m.Pairwise fun x y=>xS x y<0):l.Pairwise fun x y=>xS x y<0:=by
 have h1:∀ l:List En,(l.Pairwise fun x y=>xS x y<0)↔(l.map fB).Pairwise fun x y=>je x y=aC:=fun l=>by
  rw [List.pairwise_map];exact⟨fun q=>q.imp fun {a b} r=>(sS a b).2 r,fun q=>q.imp fun {a b} r=>(sS a b).1 r⟩
 rw [h1,h,<- h1];exact hp
theorem Fb {α:Type} (l:List α) (k:Nat):(cutAt l k).Sublist l:=by
 unfold cutAt
 conv=>rhs; rw [<- List.take_append_drop k l]
 exact (List.Sublist.refl _).append (List.drop_sublist_drop_left l (Nat.le_succ k))
theorem Xn {b:Br} (h:jC b) (t x:eO) (f:Int):jC (takeB b t x f).1:=by
 unfold takeB
 split
 ·exact h
 ·rename_i e0 he0
  split
  ·exact h
  ·rename_i h1
   split
   ·exact h
   ·split
    ·exact J7 h (h.ent.sublist (Fb _ _)) fun q hq=>h.LK q (qG hq)
    ·rename_i hup
     have agB:e0.up=aC:=by simpa using hup
     have ht:e0.tree=t:=by
      rcases mI (b.ent.map fB) (t,x) with q|⟨k,q,r⟩
      ·exact absurd q h1
      ·rw [q,Int.toNat_natCast] at he0;rw [aQ,he0] at r;exact congrArg Prod.fst (aS r)
     have ho0:=h.LK e0 (ak he0);refine J7 h (O8 (uD _ _ _) (h.ent.sublist (Fb _ _))) ?_;refine (wL (fun e=>wS b e=aC) (fun e he hr=>?_) (fun q hq=>h.LK q (qG hq)) _).1;unfold wS at hr ho0 ⊢;rw [ht] at ho0;show (match fV b.dO e.tree with | none=>aD | some a=>_)=aC;rw [he] at hr ⊢;cases hfa:fV b.dO t with
     | none=>rw [hfa] at hr; cases hr
     | some a =>
      rw [hfa] at hr ho0;simp only [bG] at hr ho0 ⊢;refine⟨hr.1,hr.2.1,?_,hr.2.2.2⟩;have h9:=ho0.2.2.1;rw [agB] at h9;exact h9
end Av
namespace Bk
open Go.RowKit Go.Sort Rw YtkcfgbddlpomgaaGreat.Nm Pr
open Av
theorem Ib (b:Br) (nv av sv ev ov:Sl) (f:Int) (x:Id) (pv:Sl) (p:List C5) (w:bN) (h:gZ w b nv av sv ev ov) (hp:fK w (dR pv) p) (l0:b.near.length<=900) (l1:b.seen.length<=899) (l2:b.dO.length<=899) (l3:b.ent.length+b.own.length<=900) (hok:∀ e∈b.ent,dW e.p) (hoo:∀ o∈b.own,dW o.p) (hop:dW p) :
  bO aH 29 #[ny b.me nv av sv ev ov,K L f,mD x,dR pv] w fun e w'=>(∃ xX Fw ev' lo:Sl,e=.returned (.tuple #[ny b.me nv xX Fw ev' ov,dR lo])/\gZ w' (kF b f x p).1 nv xX Fw ev' ov/\kS w' lo (kF b f x p).2)/\Below w.heap.size w w':=by
 obtain⟨no,nn,nc⟩:=nv;obtain⟨ao,an,ac⟩:=av;obtain⟨so,sn,sc⟩:=sv;obtain⟨eo,en,ec⟩:=ev;obtain⟨oo,dU,oc⟩:=ov;obtain⟨c,d⟩:=x;obtain⟨po,pn,pc⟩:=pv;have LE:=J (fun W hb'=>Jq b (no,nn,nc) (ao,an,ac) (so,sn,sc) (eo,en,ec) (oo,dU,oc) (c,d,(po,pn,pc),f) ⟨(c,d),p,f⟩ W (h.on (show Below w.heap.size w W from hb')) ⟨rfl,rfl,hp.on hb'⟩ (by omega) (by omega));have vO:=J h.near;have HP:=J hp;have L0:=J l0;have L2:=J (show b.dO.length<=899 from l2);have L3:=J l3;have OK:=J hok;have OO:=J hoo;have OP:=J hop;obtain⟨h0,h1,h2,h3⟩:=gN w #[K L b.me,D no nn nc,D ao an ac,D so sn sc,D eo en ec,D oo dU oc] #[K L c,K L d] #[K L 0,D Q 0 0,D Q 0 0,D Q 0 0,D Q 0 0,D Q 0 0] 33 38 33;obtain⟨me,hme⟩:∃ me,me=b.me:=⟨_,rfl⟩;simp only [<- hme] at h0 h1 h2 h3 LE ⊢;have gH:=J (h0);have tq:=J (h1);have abB:=J (h2);have ad6:=J (h3);have ME:=J hme;clear h0 h1 h2 h3 h l0 l1 l2 l3 hme hok hoo hop hp;show bO aH 29 #[bf #[K L me,D no nn nc,D ao an ac,D so sn sc,D eo en ec,D oo dU oc],K L f,bf #[K L c,K L d],D po pn pc] w _;go_enter Tryz.func29,Tryz.ntmps29;go_upto_region 1 with fail;generalize (((w.alloc (aj #[K L me,D no nn nc,D ao an ac,D so sn sc,D eo en ec,D oo dU oc] 33)).alloc (aj #[K L c,K L d] 38)).alloc (aj #[K L 0,D Q 0 0,D Q 0 0,D Q 0 0,D Q 0 0,D Q 0 0] 33))=W at *;have SW:=J (LE.out W gH.out);clear LE;obtain⟨x0,x1,x2,x3,x4,x5⟩:=tq.out.fA;obtain⟨y0,y1⟩:=abB.out.cs2;go_wp2_with fail;refine SW.out.mono ?_;rintro e1 w1 ⟨⟨⟨aa,kC,kD⟩,⟨sa,p9,iD⟩,rfl,hbr⟩,hb⟩;clear SW;clear x0 x1 x2 x3 x4 x5 y0 y1;have oQ:=J (gH.out.trans (hb.mono gH.out.size));have O9:=J (tq.out.on hb);have nG:=J (abB.out.on hb);have AZ:=J (ad6.out.on hb);clear gH tq abB ad6;obtain⟨fb,JI⟩:∃ r,(fF b ⟨(c,d),p,f⟩).2=r:=⟨_,rfl⟩;have LB:=J JI;rw [JI];obtain⟨k0,k1,k2,k3,k4,k5⟩:=O9.out.fA;obtain⟨pG,pI,pJ,pK,pO,pQ⟩:=O9.out.kg;have zz:=O9.out.lt;have FB:=J (dK O9.out (K L me) (D no nn nc) (D aa kC kD) (D sa p9 iD) (D eo en ec) (D oo dU oc));have B2:=J (dD (b:=w.heap.size) oQ.out (V _) (K L me) (D no nn nc) (D aa kC kD) (D sa p9 iD) (D eo en ec) (D oo dU oc));have Bc:=J (fun j (_:j<w1.heap.size) (hj:j≠w.heap.size)=>dH w1 (w.heap.size) (K L me) (D no nn nc) (D aa kC kD) (D sa p9 iD) (D eo en ec) (D oo dU oc) j hj);have zA:=J (show dJ _ _ _ _ from (dH w1 (w.heap.size) (K L me) (D no nn nc) (D aa kC kD) (D sa p9 iD) (D eo en ec) (D oo dU oc) (w.heap.size+1) (by omega)).trans nG.out);have FX8:=J (show dJ _ _ _ _ from (dH w1 (w.heap.size) (K L me) (D no nn nc) (D aa kC kD) (D sa p9 iD) (D eo en ec) (D oo dU oc) (w.heap.size+1+1) (by omega)).trans AZ.out);have HB:=J (eZ (s1:=(no,nn,nc)) (s2:=(ao,an,ac)) (s3:=(so,sn,sc)) (s4:=(eo,en,ec)) (s5:=(oo,dU,oc)) hbr O9.out Bc.out (by rw [(jJ b ⟨(c,d),p,f⟩).2.1]; exact vO.out.on B2.out));clear JI hbr hb oQ O9 nG AZ;go_upto_region 2 with fail;clear zz Bc k0 k1 k2 k3 k4 k5 pG pI pJ pK pO pQ;unfold gP at FB B2 HB zA FX8;generalize ((((((w1.setCell ⟨w.heap.size,0,Q⟩ (K L me)).setCell ⟨w.heap.size,1,Q⟩ (D no nn nc)).setCell ⟨w.heap.size,2,Q⟩ (D aa kC kD)).setCell ⟨w.heap.size,3,Q⟩ (D sa p9 iD)).setCell ⟨w.heap.size,4,Q⟩ (D eo en ec)).setCell ⟨w.heap.size,5,Q⟩ (D oo dU oc))=w2 at *;have iR:=J (B2.out);have mg:=J (FB.out);have kH:=J (zA.out);have Ic:=J (FX8.out);clear B2 FB zA FX8;cases fb
 ·have x0:=mg.out.cell 0;have x1:=mg.out.cell 1;have x2:=mg.out.cell 2;have x3:=mg.out.cell 3;have x4:=mg.out.cell 4;have x5:=mg.out.cell 5;simp only [ah,Y,Z] at x0 x1 x2 x3 x4 x5;obtain⟨r0,r1,r2,r3,r4,r5⟩:=Ic.out.fA;obtain⟨Cx,Cy,Cz,CF,CG,CJ⟩:=Ic.out.kg;have zz:=Ic.out.lt;have GG:=J (dK Ic.out (K L me) (D no nn nc) (D aa kC kD) (D sa p9 iD) (D eo en ec) (D oo dU oc));have BL:=J (dD (b:=w.heap.size+1+1) iR.out (by omega) (K L me) (D no nn nc) (D aa kC kD) (D sa p9 iD) (D eo en ec) (D oo dU oc));have HK:=J (fun j (_:j<w2.heap.size) (hj:j≠w.heap.size+1+1)=>dH w2 (w.heap.size+1+1) (K L me) (D no nn nc) (D aa kC kD) (D sa p9 iD) (D eo en ec) (D oo dU oc) j hj);have HC:=J (eZ (s1:=(Q,0,0)) (s2:=(Q,0,0)) (s3:=(Q,0,0)) (s4:=(Q,0,0)) (s5:=(Q,0,0)) HB.out Ic.out HK.out (by rw [(jJ b ⟨(c,d),p,f⟩).2.1]; exact vO.out.on BL.out));go_wp2_with fail;obtain⟨v0,v1,v2,v3,v4,v5⟩:=GG.out.fA;refine au (v:=.tuple #[bf #[K L me,D no nn nc,D aa kC kD,D sa p9 iD,D eo en ec,D oo dU oc],D Q 0 0]) (by simp [results,bL,go_sem,v0,v1,v2,v3,v4,v5]) rfl ?_;have hd:kF b f (c,d) p=((fF b ⟨(c,d),p,f⟩).1,[]):=by unfold kF; rw [if_pos LB.out]
  rw [hd];exact⟨⟨(aa,kC,kD),(sa,p9,iD),(eo,en,ec),(Q,0,0),rfl,HC.out,pF _⟩,BL.out⟩
 ·have DB:=J (show kF b f (c,d) p=eU (fF b ⟨(c,d),p,f⟩).1.own (mO f (c,d) p) ((fF b ⟨(c,d),p,f⟩).1,gB b.near f 1 (c,d) (0,0) p) (fF b ⟨(c,d),p,f⟩).1.own.length from by unfold kF; rw [if_neg (by rw [LB.out]; simp)]);obtain⟨m1,m2,m3,m4⟩:=jJ b ⟨(c,d),p,f⟩;have m5:=(Dn b ⟨(c,d),p,f⟩).1;have NR:=J m2;have EN3:=J m3;have ON:=J m4;have AL:=J (show (fF b ⟨(c,d),p,f⟩).1.dO.length<=900 from U m5 (by have:=L2.out; omega));have M1:=J m1;clear m1 m2 m3 m4 m5;generalize (fF b ⟨(c,d),p,f⟩).1=b1 at *;have LO3:=J (show b1.ent.length+b1.own.length<=900 from by rw [EN3.out,ON.out]; exact L3.out);have OK1:=J (show ∀ e∈b1.ent,dW e.p from by rw [EN3.out]; exact OK.out);have OO1:=J (show ∀ o∈b1.own,dW o.p from by rw [ON.out]; exact OO.out);have Tv:=J (show ∀ W,Below w.heap.size w W->q8 W (D no nn nc) b1.near from fun W hb=>by rw [NR.out]; exact vO.out.on hb);have FO:=J (show ∀ k,k<=b1.own.length->Lv b1 (eU b1.own (mO f (c,d) p) (b1,gB b.near f 1 (c,d) (0,0) p) k).1 k/\(∀ q∈(eU b1.own (mO f (c,d) p) (b1,gB b.near f 1 (c,d) (0,0) p) k).1.ent,dW q.p)/\(eU b1.own (mO f (c,d) p) (b1,gB b.near f 1 (c,d) (0,0) p) k).2.length<=(gB b.near f 1 (c,d) (0,0) p).length+k from fun k hk=>lG (l:=b1.own) (b0:=b1) (o0:=gB b.near f 1 (c,d) (0,0) p) (fun o=>jX o.p p) (fun o=>zB (c,d) o) (fun _=>f) (fun e=>dW e.p) OK1.out (fun a ha _=>OO1.out a ha) k hk);obtain⟨ws,hw1,hw2⟩:=HB.out.own;obtain⟨q1,q2,hq⟩:=hw1.len;obtain⟨rfl,rfl,rfl⟩:oo=q1/\dU=ws.length/\oc=q2:=by
   have:D oo dU oc=D q1 ws.length q2:=hq;simpa using this
  obtain⟨vQ,hl1,hl2⟩:=HB.out.ent;obtain⟨n5,hn5⟩:∃ n,n=ws.length:=⟨_,rfl⟩;simp only [<- hn5] at HB hw1 mg ⊢;have HW1:=J hw1;have HW2:=J hw2;have vP:=J hl1;have HL2:=J hl2;have N5:=J hn5;have L6:=J kH.out.lt;have L8:=J Ic.out.lt;have B4:=J (show dJ w2 w.heap.size (iw me (no,nn,nc) (aa,kC,kD) (sa,p9,iD) (eo,en,ec) (oo,n5,oc)) 33 from mg.out);have NO:=J (show b1.own.length=n5 from by rw [N5.out,HW2.out.len]);clear hw1 hw2 hl1 hl2 hn5 hq;have OT:=J (yT me f 1 c d 0 0 (no,nn,nc) (D aa kC kD) (D sa p9 iD) (D eo en ec) (D oo n5 oc) (po,pn,pc) (Q,0,0) b.near w2 (vO.out.on iR.out) L0.out);obtain⟨x0,x1,x2,x3,x4,x5⟩:=mg.out.fA;obtain⟨y0,y1⟩:=kH.out.cs2;go_wp2_with fail;refine OT.out.mono ?_;rintro e3 w3 ⟨⟨⟨oa,o8,oc3⟩,rfl,ho⟩,hb⟩;clear OT;clear x0 x1 x2 x3 x4 x5 y0 y1;have BK:=J (show But w.heap.size w2 w3 from But.of_below hb);have OT:=J ho;have PW2:=J (HP.out.on iR.out);have kX:=J (iR.out.trans (hb.mono iR.out.size));have oG:=J (mg.out.on hb);have GH:=J (kH.out.on hb);have YN:=J (Ic.out.on hb);clear iR mg kH Ic;clear hb ho;obtain⟨x0,x1,x2,x3,x4,x5⟩:=oG.out.fA;go_wp2_with fail;clear x0 x1 x2 x3 x4 x5
  go_loopw [11,37] (fun v i wr=>∃ (k:Nat) (ea:Option bg) (qp qw:Nat) (lx:List iA) (lo:List nC),k<=n5/\i=K L k/\Below w.heap.size w wr/\But w.heap.size w2 wr/\dJ wr w.heap.size #[K L me,D no nn nc,D aa kC kD,D sa p9 iD,D ea qp qw,D oo n5 oc] 33/\dJ wr (w.heap.size+1) #[K L c,K L d] 38/\dJ wr (w.heap.size+1+1) #[K L 0,D Q 0 0,D Q 0 0,D Q 0 0,D Q 0 0,D Q 0 0] 33/\rQ w2 wr (eo,en,ec) (ea,qp,qw) vQ lx/\jd wr w2.heap.size v lo/\eB (iW w2) lx (eU b1.own (mO f (c,d) p) (b1,gB b.near f 1 (c,d) (0,0) p) k).1.ent/\eB (rJ w2) lo (eU b1.own (mO f (c,d) p) (b1,gB b.near f 1 (c,d) (0,0) p) k).2) (fun _ i _=>n5-(intOf i).toNat)
  case atStart=>exact⟨0,eo,en,ec,vQ,_,aN _,rfl,kX.out,BK.out,oG.out,GH.out,YN.out,aI ⟨rfl,rfl⟩,OT.out,HL2.out,Dp (near:=b.near) (f:=f) (k:=1) (t:=(c,d)) (x:=(0,0)) PW2.out⟩
  case round =>
   clear BK OT kX oG GH YN;obtain⟨k,ea,qp,qw,lx,lo,hk,rfl,hgb,hbk,hx4,hx6,Rp,her,hoe,hen,hlo⟩:=hrel;have Ie:=J (hgb);have Ig:=J (hbk);have Tw:=J (hx4);have YO:=J (hx6);have xH:=J (Rp);have Tx:=J (her);have Mf:=J (hoe);have EN:=J hen;have LO:=J hlo;clear hgb hbk hx4 hx6 Rp her hoe hen hlo;have FK:=J (FO.out k (by rw [NO.out]; exact hk));have l9:n5<=900:=by have h1:=LO3.out; rw [NO.out] at h1; omega
   by_cases hlt:k<n5
   ·have hlt':(k:Int)<(n5:Int):=by omega
    have hw:IntKind.i64.wrap ((k:Int)+1)=(k:Int)+1:=aK _ (by omega);obtain⟨o,Xo⟩:∃ o,b1.own[k]?=aF o:=⟨_,X (by rw [NO.out]; exact hlt)⟩;have US:=J (nV (mO f (c,d) p) (b1,gB b.near f 1 (c,d) (0,0) p) Xo);have OKO:=J (OO1.out o (ak Xo));obtain⟨z,hz1,hz2⟩:=HW2.out.at k o Xo;have YP:=fQ okW HW1.out Ig.out.1 (jq B4.out (fun c=>⟨_,_,rfl,rfl⟩) (j5 me (no,nn,nc) (aa,kC,kD) (sa,p9,iD) (eo,en,ec) (oo,n5,oc)));obtain⟨pa,ix,px⟩:=elW YP rfl N5.out.symm hz1;obtain⟨p0,p1,p2⟩:=px wr (aO _ _);obtain⟨y1,y2,⟨yo,yn,yc⟩⟩:=z;have ZI:=J (show o.id=(y1,y2) from hz2.1.symm);have ZP:=J (show fK w2 (D yo yn yc) o.p from hz2.2);simp only at p0 p1 p2;clear px hz1 hz2 YP Xo;go_upto_region 8 with fail;clear p0 p1 p2 ix;have NN:=fE wr (aj #[K L y1,K L y2,D yo yn yc] 61);have Mg:=J (Ie.out.trans (NN.mono Ie.out.size));have Tz:=J (O Ig.out NN);have YQ:=J (Tw.out.on NN);have TD:=J (YO.out.on NN);have YR:=J (xH.out.on NN);have YS:=J (Tx.out.on NN);have mJ:=J (Bk.dB Mf.out NN);clear Ie Ig Tw YO xH Tx Mf;have TF:=J (dL wr #[K L y1,K L y2,D yo yn yc] 61);clear NN;generalize wr.alloc (aj #[K L y1,K L y2,D yo yn yc] 61)=wa at *;obtain⟨mt,hmt⟩:∃ r,jX o.p p=r:=⟨_,rfl⟩;have MT:=J (EP (D yo yn yc) (D po pn pc) o.p p wa (rR B4.out Tz.out ZP.out) (HP.out.on Mg.out) OKO.out OP.out);rw [hmt] at MT;have Mh:=J (show (eU b1.own (mO f (c,d) p) (b1,gB b.near f 1 (c,d) (0,0) p) (k+1))=gI (eU b1.own (mO f (c,d) p) (b1,gB b.near f 1 (c,d) (0,0) p) k) mt (zB (c,d) o) f from by rw [<- hmt]; exact US.out);clear hmt US;obtain⟨z0,z1,z2⟩:=TF.out.cs3;obtain⟨Es,y_1⟩:=TD.out.cs2;go_wp2_with fail;refine MT.out.mono ?_;rintro e4 wb ⟨rfl,hb⟩;clear MT;clear z0 z1 z2 Es y_1;have mZ:=J (Mg.out.trans (hb.mono Mg.out.size));have TG:=J (O Tz.out hb);have uS:=J (YQ.out.on hb);have Mi:=J (TD.out.on hb);have xC:=J (YR.out.on hb);have TJ:=J (YS.out.on hb);have uT:=J (Bk.dB mJ.out hb);have qb:=J (TF.out.on hb);clear Mg Tz YQ TD YR YS mJ TF;clear hb;cases mt
    ·go_wp2_with fail
     go_roundw
     case rel=>exact⟨k+1,ea,qp,qw,lx,lo,hlt,by go_num,mZ.out,TG.out,uS.out,Mi.out,xC.out,TJ.out,uT.out,by rw [Mh.out]; exact EN.out,by rw [Mh.out]; exact LO.out⟩
     case measure=>simp [intOf]; omega
    ·have z0:=qb.out.cell 0;have z1:=qb.out.cell 1;have z2:=qb.out.cell 2;simp only [ah,Y,Z] at z0 z1 z2;obtain⟨Es,y_1⟩:=Mi.out.cs2;go_upto_region 11 with fail;clear z0 z1 z2 Es y_1;have NN:=fE wb (aj #[K L c,K L d,K L y1,K L y2,D yo yn yc,K L (-1),bI aD] 68);have oH:=J (mZ.out.trans (NN.mono mZ.out.size));have nY:=J (O TG.out NN);have qd:=J (uS.out.on NN);have oI:=J (Mi.out.on NN);have YT:=J (xC.out.on NN);have qg:=J (TJ.out.on NN);have tO:=J (Bk.dB uT.out NN);have nk:=J (qb.out.on NN);clear mZ TG uS Mi xC TJ uT qb;have CQ:=J (dL wb #[K L c,K L d,K L y1,K L y2,D yo yn yc,K L (-1),bI aD] 68);clear NN;generalize wb.alloc (aj #[K L c,K L d,K L y1,K L y2,D yo yn yc,K L (-1),bI aD] 68)=wc at *;have AD:=J (sK (eU b1.own (mO f (c,d) p) (b1,gB b.near f 1 (c,d) (0,0) p) k).1 (no,nn,nc) (aa,kC,kD) (sa,p9,iD) (ea,qp,qw) (oo,n5,oc) (c,d,y1,y2,(yo,yn,yc),-1,aD) (zB (c,d) o) wc lx (iW w2) (p8 B4.out nY.out HB.out (Tv.out _ oH.out) vP.out qg.out EN.out FK.out.1) (qg.out.row B4.out nY.out vP.out) (vk B4.out nY.out EN.out) EN.out (fun u=>⟨rfl,ZI.out.symm,rfl,rfl,ZP.out⟩) ⟨rfl,ZI.out.symm,rfl,rfl,rR B4.out nY.out ZP.out⟩ (by rw [FK.out.1.dO]; exact AL.out) (by have h1:=FK.out.1.len; have h2:=LO3.out; rw [NO.out] at h2; omega) FK.out.2.1 OKO.out);rw [FK.out.1.me,M1.out,<- ME.out] at AD;obtain⟨x0,x1,x2,x3,x4,x5⟩:=qd.out.fA;obtain⟨z0,z1,z2,z3,z4,z5,z6⟩:=CQ.out.mU;go_wp2_with fail;refine AD.out.mono ?_;rintro e5 wd ⟨⟨⟨mV,oU,oW⟩,xs,rfl,hr,hx⟩,hb⟩;clear AD;clear x0 x1 x2 x3 x4 x5 z0 z1 z2 z3 z4 z5 z6;have EX:=J hx;have YU:=J (show rQ w2 wd (eo,en,ec) (mV,oU,oW) vQ xs from by
      rcases hr with⟨h1,h2,_⟩|hr
      ·rw [h1,h2];exact qg.out.on hb
      ·exact bE (dG hr nY.out.2))
     clear hr hx;have Gx:=J (oH.out.trans (hb.mono oH.out.size));have YV:=J (O nY.out hb);have qN:=J (qd.out.on hb);have YW:=J (oI.out.on hb);have Gy:=J (YT.out.on hb);have ad7:=J (qg.out.on hb);have La:=J (Bk.dB tO.out hb);have ad8:=J (nk.out.on hb);have pE:=J (CQ.out.on hb);clear oH nY qd oI YT qg tO nk CQ;clear hb ad7;obtain⟨up,hup⟩:∃ r,(gQ (eU b1.own (mO f (c,d) p) (b1,gB b.near f 1 (c,d) (0,0) p) k).1 (zB (c,d) o)).2=r:=⟨_,rfl⟩;rw [hup];have Mj:=J (show (eU b1.own (mO f (c,d) p) (b1,gB b.near f 1 (c,d) (0,0) p) (k+1))=((gQ (eU b1.own (mO f (c,d) p) (b1,gB b.near f 1 (c,d) (0,0) p) k).1 (zB (c,d) o)).1,if up=aC then (eU b1.own (mO f (c,d) p) (b1,gB b.near f 1 (c,d) (0,0) p) k).2++[A9 f (zB (c,d) o)] else (eU b1.own (mO f (c,d) p) (b1,gB b.near f 1 (c,d) (0,0) p) k).2) from by rw [Mh.out]; unfold gI; rw [if_neg (by simp),hup]);clear hup Mh;obtain⟨k0,k1,k2,k3,k4,k5⟩:=qN.out.fA;obtain⟨pG,pI,pJ,pK,pO,pQ⟩:=qN.out.kg;have zz:=qN.out.lt;have NEB:=J (show wb.heap.size≠w.heap.size from fun e=>by have h1:=pE.out; have h2:=qN.out; unfold dJ at h1 h2; rw [e] at h1; rw [h1] at h2; injection h2 with h2; injection h2 with h2; simp at h2);have G1:=J (dD (b:=w.heap.size) Gx.out (V _) (K L me) (D no nn nc) (D aa kC kD) (D sa p9 iD) (D mV oU oW) (D oo n5 oc));have G2:=J (YV.out.trans (wW wd w.heap.size (K L me) (D no nn nc) (D aa kC kD) (D sa p9 iD) (D mV oU oW) (D oo n5 oc)));have G4:=J (dK qN.out (K L me) (D no nn nc) (D aa kC kD) (D sa p9 iD) (D mV oU oW) (D oo n5 oc));have G6:=J (show dJ _ _ _ _ from (dH wd w.heap.size (K L me) (D no nn nc) (D aa kC kD) (D sa p9 iD) (D mV oU oW) (D oo n5 oc) (w.heap.size+1) (by omega)).trans YW.out);have G8:=J (show dJ _ _ _ _ from (dH wd w.heap.size (K L me) (D no nn nc) (D aa kC kD) (D sa p9 iD) (D mV oU oW) (D oo n5 oc) (w.heap.size+1+1) (by omega)).trans Gy.out);have GE:=J (show dJ _ _ _ _ from (dH wd w.heap.size (K L me) (D no nn nc) (D aa kC kD) (D sa p9 iD) (D mV oU oW) (D oo n5 oc) wb.heap.size NEB.out).trans pE.out);have GO:=J (eY La.out w.heap.size B4.out.lt (K L me) (D no nn nc) (D aa kC kD) (D sa p9 iD) (D mV oU oW) (D oo n5 oc));have GR:=J (show rQ w2 _ (eo,en,ec) (mV,oU,oW) vQ xs from YU.out.imp id fun h=>eY h w.heap.size B4.out.lt (K L me) (D no nn nc) (D aa kC kD) (D sa p9 iD) (D mV oU oW) (D oo n5 oc));clear YU Gx YV qN YW Gy pE La ad8;go_upto_region 12 with fail;clear zz k0 k1 k2 k3 k4 k5 pG pI pJ pK pO pQ;unfold gP at G1 G2 G4 G6 G8 GE GO GR;generalize ((((((wd.setCell ⟨w.heap.size,0,Q⟩ (K L me)).setCell ⟨w.heap.size,1,Q⟩ (D no nn nc)).setCell ⟨w.heap.size,2,Q⟩ (D aa kC kD)).setCell ⟨w.heap.size,3,Q⟩ (D sa p9 iD)).setCell ⟨w.heap.size,4,Q⟩ (D mV oU oW)).setCell ⟨w.heap.size,5,Q⟩ (D oo n5 oc))=we at *;have oJ:=J (G1.out);have TL:=J (G2.out);have TM:=J (G4.out);have qh:=J (G6.out);have TN:=J (G8.out);have TP:=J (GE.out);have TQ:=J (GO.out);have TR:=J (GR.out);clear G1 G2 G4 G6 G8 GE GO GR;cases up
     ·go_wp2_with fail
      go_roundw
      case rel=>exact⟨k+1,mV,oU,oW,xs,lo,hlt,by go_num,oJ.out,TL.out,TM.out,qh.out,TN.out,TR.out,TQ.out,by rw [Mj.out]; exact EX.out,by rw [Mj.out]; exact LO.out⟩
      case measure=>simp [intOf]; omega
     ·have SB:=xZ (c,d,y1,y2,(yo,yn,yc),-1,aD) we;obtain⟨z0,z1,z2,z3,z4,z5,z6⟩:=TP.out.mU;go_wp2_with fail;refine SB.mono ?_;rintro e6 wf ⟨rfl,hb⟩;clear SB;clear z0 z1 z2 z3 z4 z5 z6;have TS:=J (oJ.out.trans (hb.mono oJ.out.size));have YX:=J (O TL.out hb);have YZ:=J (TM.out.on hb);have Y0:=J (qh.out.on hb);have Y7:=J (TN.out.on hb);have Y9:=J (TP.out.on hb);have qP:=J (Bk.dB TQ.out hb);have Za:=J (TR.out.on hb);clear oJ TL TM qh TN TP TQ TR;clear hb;have hl:=gT Fx wf [((f,3,c,d,y1,y2,(yo,yn,yc),(Q,0,0)):nC)] 1 rfl (by simp) #[K L f,K L 3,K L c,K L d,K L y1,K L y2,D yo yn yc,D Q 0 0] (by rfl);have NB:=fE wf (aj #[K L f,K L 3,K L c,K L d,K L y1,K L y2,D yo yn yc,D Q 0 0] 58);have Zb:=J (TS.out.trans (NB.mono TS.out.size));have Mk:=J (O YX.out NB);have Zc:=J (YZ.out.on NB);have Zd:=J (Y0.out.on NB);have Ze:=J (Y7.out.on NB);have aea:=J (Y9.out.on NB);have Ml:=J (Bk.dB qP.out NB);have tQ:=J (Za.out.on NB);clear TS YX YZ Y0 Y7 Y9 qP Za;have LL:lo.length<=1000000:=by
       have h1:=FK.out.2.2;have h2:=L0.out;have h3:(gB b.near f 1 (c,d) (0,0) p).length<=b.near.length:=by
        unfold gB;rw [aT];exact aM _ _
       rw [LO.out.len];omega
      obtain⟨v',x5,q2,o2,g2⟩:=uX Fx w2.heap.size Ml.out (Row.dx hl) LL (by simp) Mk.out.2 44;have q2:(Builtin.append_ #[44,44] 44 #[u11,D (aF ⟨wf.heap.size,0,Q⟩) 1 1]).run aH (wf.alloc (aj #[K L f,K L 3,K L c,K L d,K L y1,K L y2,D yo yn yc,D Q 0 0] 58))=.ok v' x5:=q2;obtain⟨m1,m2,m3⟩:=Fa rfl Ml.out g2 Mk.out tQ.out;have V4:=J (m3 _ _ _ B4.out.lt Zc.out);have V6:=J (m3 _ _ _ L6.out Zd.out);have V8:=J (m3 _ _ _ L8.out Ze.out);have VG:=J (Zb.out.grown g2 (U (aL B4.out.lt) Mk.out.2) fun j hj=>U (aL B4.out.lt) (Ml.out.lt j hj).1);have VK:=J m1;have VR:=J m2;have VO:=J o2;clear m1 m2 m3 hl NB o2 g2 LL Zb Mk Zc Zd Ze tQ Ml aea;go_wp2_with (first | (at_builtin; refine wpList_append_run rfl _ _ 44 rfl rfl rfl q2 ?_) | fail)
      go_roundw
      case rel=>exact⟨k+1,mV,oU,oW,xs,_,hlt,by go_num,VG.out,VK.out,V4.out,V6.out,V8.out,VR.out,VO.out,by rw [Mj.out]; exact EX.out,by rw [Mj.out]; exact LO.out.append (.cons ⟨rfl,rfl,rfl,ZI.out.symm,ZP.out,rfl⟩ .nil)⟩
      case measure=>simp [intOf]; omega
   ·obtain rfl:k=n5:=by omega
    obtain⟨x0,x1,x2,x3,x4,x5⟩:=Tw.out.fA;have HI:=J (p8 B4.out Ig.out HB.out (Tv.out _ Ie.out) vP.out Tx.out EN.out FK.out.1);have HU:=J (show eB (rJ wr) lo _ from zL B4.out Ig.out LO.out);obtain⟨va,vc,hv⟩:=(Row.dx Mf.out).len;obtain⟨vn,J8⟩:∃ n,n=lo.length:=⟨_,rfl⟩;rw [<- J8] at hv;have RU:=J (Row.dx Mf.out);subst hv;clear J8;obtain⟨r0,r1,r2,r3,r4,r5⟩:=xH.out.fA;obtain⟨Cx,Cy,Cz,CF,CG,CJ⟩:=xH.out.kg;have zz:=xH.out.lt;have GG:=J (dK xH.out (K L me) (D no nn nc) (D aa kC kD) (D sa p9 iD) (D ea qp qw) (D oo k oc));have BL:=J (dD (b:=w.heap.size+1+1) Ie.out (by omega) (K L me) (D no nn nc) (D aa kC kD) (D sa p9 iD) (D ea qp qw) (D oo k oc));have HK:=J (fun j (_:j<wr.heap.size) (hj:j≠w.heap.size+1+1)=>dH wr (w.heap.size+1+1) (K L me) (D no nn nc) (D aa kC kD) (D sa p9 iD) (D ea qp qw) (D oo k oc) j hj);have HC:=J (eZ (s1:=(Q,0,0)) (s2:=(Q,0,0)) (s3:=(Q,0,0)) (s4:=(Q,0,0)) (s5:=(Q,0,0)) HI.out xH.out HK.out (by rw [FK.out.1.near]; exact Tv.out _ BL.out));have HO:=J (iQ (s1:=(Q,0,0)) (s2:=(Q,0,0)) (s3:=(Q,0,0)) (s4:=(Q,0,0)) (s5:=(Q,0,0)) (s:=(va,vn,vc)) ⟨lo,RU.out,HU.out⟩ xH.out HK.out);go_wp2_with fail;obtain⟨v0,v1,v2,v3,v4,v5⟩:=GG.out.fA;refine au (v:=.tuple #[bf #[K L me,D no nn nc,D aa kC kD,D sa p9 iD,D ea qp qw,D oo k oc],D va vn vc]) (by simp [results,bL,go_sem,v0,v1,v2,v3,v4,v5]) rfl ?_;have NO2:=NO.out;have h9:=N5.out;rw [DB.out,NO2];subst h9;exact⟨⟨(aa,kC,kD),(sa,p9,iD),(ea,qp,qw),(va,vn,vc),rfl,HC.out,HO.out⟩,BL.out⟩
def zM (b:Br) (f:Int) (x:Id):Br×List Ou:=((gM b x f).1,if (gM b x f).2=aC then gB b.near f 2 x (0,0) [] else [])
theorem TU {W:bN} {b:Br} {f:Int} {x:Id} {s:Sl} (h:AX W (dR s) (zI b f x)):kS W s (zM b f x).2:=by
 refine⟨_,h,?_⟩;unfold zI zM
 split
 ·exact Dp (p:=[]) (x:=(0,0)) (ji _)
 ·exact .nil
def jF (b:Br) (f mk:Int) (t x:Id) (p:List C5):Br×List Ou:=if mk=1 then kF b f t p else if mk=2 then zM b f t else if mk=3 then mW b f t x p else jM b t x f
theorem Pb (b:Br) (f:Int) (x:Id) (p:List C5) (_:∀ o∈b.own,dW o.p) (_:∀ e∈b.ent,dW e.p):(kF b f x p).1.near=b.near:=by
 unfold kF
 split
 ·exact (jJ b ⟨x,p,f⟩).2.1
 ·have h4:=jJ b ⟨x,p,f⟩;have hk:=(lG (l:=(fF b ⟨x,p,f⟩).1.own) (b0:=(fF b ⟨x,p,f⟩).1) (o0:=gB b.near f 1 x (0,0) p) (fun o=>jX o.p p) (fun o=>zB x o) (fun _=>f) (fun _=>True) (fun _ _=>trivial) (fun _ _ _=>trivial) _ (V _)).1.near;exact hk.trans h4.2.1
theorem xI (b:Br) (f:Int) (t x:Id) (p:List C5):(mW b f t x p).1.near=b.near:=by
 rw [pV];exact (jr b _).2.1
theorem xJ (b:Br) (t x:Id) (f:Int):(jM b t x f).1.near=b.near:=by
 rw [iU];exact (jv b t x f).2.1
theorem Pf (b:Br) (nv av sv ev ov:Sl) (f mk:Int) (t x:Id) (pv qv:Sl) (p:List C5) (w:bN) (h:gZ w b nv av sv ev ov) (hp:fK w (dR pv) p) (hmk:1<=mk/\mk<=4) (l0:b.near.length<=900) (l1:b.seen.length<=899) (l2:b.dO.length<=899) (l3:b.ent.length+b.own.length<=900) (hok:∀ e∈b.ent,dW e.p) (hoo:∀ o∈b.own,dW o.p) (hop:dW p) (hkn:∀ e∈b.ent,e.tree∈b.dO.map Ad.id) :
  bO aH 30 #[ny b.me nv av sv ev ov,K L f,mgv mk t x pv qv] w fun e w'=>(∃ xX Fw ev' lo:Sl,e=.returned (.tuple #[ny b.me nv xX Fw ev' ov,dR lo,D Q 0 0])/\gZ w' (jF b f mk t x p).1 nv xX Fw ev' ov/\kS w' lo (jF b f mk t x p).2)/\Below w.heap.size w w':=by
 obtain⟨no,nn,nc⟩:=nv;obtain⟨ao,an,ac⟩:=av;obtain⟨so,sn,sc⟩:=sv;obtain⟨eo,en,ec⟩:=ev;obtain⟨oo,dU,oc⟩:=ov;obtain⟨po,pn,pc⟩:=pv;obtain⟨qo,qn,qc⟩:=qv;obtain⟨c,d⟩:=t;obtain⟨c2,d2⟩:=x;have C1:=J (fun W hb'=>Ib b (no,nn,nc) (ao,an,ac) (so,sn,sc) (eo,en,ec) (oo,dU,oc) f (c,d) (po,pn,pc) p W (h.on (show Below w.heap.size w W from hb')) (hp.on hb') l0 l1 l2 l3 hok hoo hop);have C2:=J (fun W hb'=>J5 b (no,nn,nc) (ao,an,ac) (so,sn,sc) (eo,en,ec) (oo,dU,oc) (c,d) f W (h.on (show Below w.heap.size w W from hb')) l0 (by omega) (by omega));have C3:=J (fun W hb'=>JW b (no,nn,nc) (ao,an,ac) (so,sn,sc) (eo,en,ec) (oo,dU,oc) f mk (c,d) (c2,d2) (po,pn,pc) (qo,qn,qc) p W (h.on (show Below w.heap.size w W from hb')) (hp.on hb') (by omega) (by omega) hok hop);have C4:=J (fun W hb'=>ER b (no,nn,nc) (ao,an,ac) (so,sn,sc) (eo,en,ec) (oo,dU,oc) f mk (c,d) (c2,d2) (po,pn,pc) (qo,qn,qc) W (h.on (show Below w.heap.size w W from hb')) (by omega) (by omega) hok hkn);have vO:=J h.near;have AN:=J (Pb b f (c,d) p hoo hok);obtain⟨h0,h1,h2,h3⟩:=gN w #[K L b.me,D no nn nc,D ao an ac,D so sn sc,D eo en ec,D oo dU oc] #[K L mk,K L c,K L d,K L c2,K L d2,D po pn pc,D qo qn qc] #[K L 0,D Q 0 0,D Q 0 0,D Q 0 0,D Q 0 0,D Q 0 0] 33 43 33;obtain⟨me,hme⟩:∃ me,me=b.me:=⟨_,rfl⟩;simp only [<- hme] at h0 h1 h2 h3 C1 C2 C3 C4 ⊢;have gH:=J (h0);have nE:=J (h1);have kR:=J (h2);have lC:=J (h3);clear h0 h1 h2 h3 h hp l0 l1 l2 l3 hme hok hoo hop hkn;show bO aH 30 #[bf #[K L me,D no nn nc,D ao an ac,D so sn sc,D eo en ec,D oo dU oc],K L f,bf #[K L mk,K L c,K L d,K L c2,K L d2,D po pn pc,D qo qn qc]] w _;go_enter Tryz.func30,Tryz.ntmps30;go_upto_region 1 with fail;generalize (((w.alloc (aj #[K L me,D no nn nc,D ao an ac,D so sn sc,D eo en ec,D oo dU oc] 33)).alloc (aj #[K L mk,K L c,K L d,K L c2,K L d2,D po pn pc,D qo qn qc] 43)).alloc (aj #[K L 0,D Q 0 0,D Q 0 0,D Q 0 0,D Q 0 0,D Q 0 0] 33))=W at *;have K1:=C1.out W gH.out;have K2:=C2.out W gH.out;have K3:=C3.out W gH.out;have K4:=C4.out W gH.out;have D1:=J K1;have D2:=J K2;have D3:=J K3;have D4:=J K4;clear K1 K2 K3 K4 C1 C2 C3 C4;obtain⟨x0,x1,x2,x3,x4,x5⟩:=nE.out.fA;obtain⟨y0,y1,y2,y3,y4,y5,y6⟩:=kR.out.mU;rcases (by omega:mk=1\/mk=2\/mk=3\/mk=4) with rfl|rfl|rfl|rfl
 ·go_wp2_with fail;refine D1.out.mono ?_;rintro e1 w1 ⟨⟨⟨aa,kC,kD⟩,⟨sa,p9,iD⟩,⟨ea,gW,gX⟩,⟨la,ln,lc⟩,rfl,hbr,hou⟩,hb⟩;clear D1 D2 D3 D4;clear x0 x1 x2 x3 x4 x5 y0 y1 y2 y3 y4 y5 y6;have oQ:=J (gH.out.trans (hb.mono gH.out.size));have jT:=J (nE.out.on hb);have JV:=J (kR.out.on hb);have nG:=J (lC.out.on hb);clear gH nE kR lC;obtain⟨k0,k1,k2,k3,k4,k5⟩:=jT.out.fA;obtain⟨pG,pI,pJ,pK,pO,pQ⟩:=jT.out.kg;have zz:=jT.out.lt;have FB:=J (dK jT.out (K L me) (D no nn nc) (D aa kC kD) (D sa p9 iD) (D ea gW gX) (D oo dU oc));have B2:=J (dD (b:=w.heap.size) oQ.out (V _) (K L me) (D no nn nc) (D aa kC kD) (D sa p9 iD) (D ea gW gX) (D oo dU oc));have Bc:=J (fun j (_:j<w1.heap.size) (hj:j≠w.heap.size)=>dH w1 (w.heap.size) (K L me) (D no nn nc) (D aa kC kD) (D sa p9 iD) (D ea gW gX) (D oo dU oc) j hj);have zA:=J (show dJ _ _ _ _ from (dH w1 (w.heap.size) (K L me) (D no nn nc) (D aa kC kD) (D sa p9 iD) (D ea gW gX) (D oo dU oc) (w.heap.size+1+1) (by omega)).trans nG.out);have HB:=J (eZ (s1:=(no,nn,nc)) (s2:=(ao,an,ac)) (s3:=(so,sn,sc)) (s4:=(eo,en,ec)) (s5:=(oo,dU,oc)) hbr jT.out Bc.out (by rw [AN.out]; exact vO.out.on B2.out));have HO:=J (iQ (s1:=(no,nn,nc)) (s2:=(ao,an,ac)) (s3:=(so,sn,sc)) (s4:=(eo,en,ec)) (s5:=(oo,dU,oc)) hou jT.out Bc.out);clear hbr hou hb oQ jT nG;go_upto_region 14 with fail;clear zz Bc k0 k1 k2 k3 k4 k5 pG pI pJ pK pO pQ;unfold gP at FB B2 HB zA HO;generalize ((((((w1.setCell ⟨w.heap.size,0,Q⟩ (K L me)).setCell ⟨w.heap.size,1,Q⟩ (D no nn nc)).setCell ⟨w.heap.size,2,Q⟩ (D aa kC kD)).setCell ⟨w.heap.size,3,Q⟩ (D sa p9 iD)).setCell ⟨w.heap.size,4,Q⟩ (D ea gW gX)).setCell ⟨w.heap.size,5,Q⟩ (D oo dU oc))=w2 at *;have iR:=J (B2.out);have mM:=J (FB.out);have kH:=J (zA.out);clear B2 FB zA;obtain⟨x0,x1,x2,x3,x4,x5⟩:=mM.out.fA;obtain⟨r0,r1,r2,r3,r4,r5⟩:=kH.out.fA;obtain⟨Cx,Cy,Cz,CF,CG,CJ⟩:=kH.out.kg;have zz:=kH.out.lt;have GG:=J (dK kH.out (K L me) (D no nn nc) (D aa kC kD) (D sa p9 iD) (D ea gW gX) (D oo dU oc));have BL:=J (dD (b:=w.heap.size+1+1) iR.out (by omega) (K L me) (D no nn nc) (D aa kC kD) (D sa p9 iD) (D ea gW gX) (D oo dU oc));have HK:=J (fun j (_:j<w2.heap.size) (hj:j≠w.heap.size+1+1)=>dH w2 (w.heap.size+1+1) (K L me) (D no nn nc) (D aa kC kD) (D sa p9 iD) (D ea gW gX) (D oo dU oc) j hj);have HC:=J (eZ (s1:=(Q,0,0)) (s2:=(Q,0,0)) (s3:=(Q,0,0)) (s4:=(Q,0,0)) (s5:=(Q,0,0)) HB.out kH.out HK.out (by rw [AN.out]; exact vO.out.on BL.out));have Fe:=J (iQ (s1:=(Q,0,0)) (s2:=(Q,0,0)) (s3:=(Q,0,0)) (s4:=(Q,0,0)) (s5:=(Q,0,0)) HO.out kH.out HK.out);go_wp2_with fail;obtain⟨v0,v1,v2,v3,v4,v5⟩:=GG.out.fA;refine au (v:=.tuple #[bf #[K L me,D no nn nc,D aa kC kD,D sa p9 iD,D ea gW gX,D oo dU oc],D la ln lc,D Q 0 0]) (by simp [results,aP,go_sem,v0,v1,v2,v3,v4,v5]) rfl ?_;exact⟨⟨(aa,kC,kD),(sa,p9,iD),(ea,gW,gX),(la,ln,lc),rfl,HC.out,Fe.out⟩,BL.out⟩
 ·go_wp2_with fail;refine D2.out.mono ?_;rintro e1 w1 ⟨⟨⟨aa,kC,kD⟩,⟨ea,gW,gX⟩,⟨la,ln,lc⟩,rfl,hbr,aec⟩,hb⟩;have hou:=TU aec;clear aec;clear D1 D2 D3 D4;clear x0 x1 x2 x3 x4 x5 y0 y1 y2 y3 y4 y5 y6;have oQ:=J (gH.out.trans (hb.mono gH.out.size));have jT:=J (nE.out.on hb);have JV:=J (kR.out.on hb);have nG:=J (lC.out.on hb);clear gH nE kR lC;obtain⟨k0,k1,k2,k3,k4,k5⟩:=jT.out.fA;obtain⟨pG,pI,pJ,pK,pO,pQ⟩:=jT.out.kg;have zz:=jT.out.lt;have FB:=J (dK jT.out (K L me) (D no nn nc) (D aa kC kD) (D so sn sc) (D ea gW gX) (D oo dU oc));have B2:=J (dD (b:=w.heap.size) oQ.out (V _) (K L me) (D no nn nc) (D aa kC kD) (D so sn sc) (D ea gW gX) (D oo dU oc));have Bc:=J (fun j (_:j<w1.heap.size) (hj:j≠w.heap.size)=>dH w1 (w.heap.size) (K L me) (D no nn nc) (D aa kC kD) (D so sn sc) (D ea gW gX) (D oo dU oc) j hj);have zA:=J (show dJ _ _ _ _ from (dH w1 (w.heap.size) (K L me) (D no nn nc) (D aa kC kD) (D so sn sc) (D ea gW gX) (D oo dU oc) (w.heap.size+1+1) (by omega)).trans nG.out);have HB:=J (eZ (s1:=(no,nn,nc)) (s2:=(ao,an,ac)) (s3:=(so,sn,sc)) (s4:=(eo,en,ec)) (s5:=(oo,dU,oc)) hbr jT.out Bc.out (by rw [(jY b (c,d) f).1]; exact vO.out.on B2.out));have HO:=J (iQ (s1:=(no,nn,nc)) (s2:=(ao,an,ac)) (s3:=(so,sn,sc)) (s4:=(eo,en,ec)) (s5:=(oo,dU,oc)) hou jT.out Bc.out);clear hbr hou hb oQ jT nG;go_upto_region 14 with fail;clear zz Bc k0 k1 k2 k3 k4 k5 pG pI pJ pK pO pQ;unfold gP at FB B2 HB zA HO;generalize ((((((w1.setCell ⟨w.heap.size,0,Q⟩ (K L me)).setCell ⟨w.heap.size,1,Q⟩ (D no nn nc)).setCell ⟨w.heap.size,2,Q⟩ (D aa kC kD)).setCell ⟨w.heap.size,3,Q⟩ (D so sn sc)).setCell ⟨w.heap.size,4,Q⟩ (D ea gW gX)).setCell ⟨w.heap.size,5,Q⟩ (D oo dU oc))=w2 at *;have iR:=J (B2.out);have mM:=J (FB.out);have kH:=J (zA.out);clear B2 FB zA;obtain⟨x0,x1,x2,x3,x4,x5⟩:=mM.out.fA;obtain⟨r0,r1,r2,r3,r4,r5⟩:=kH.out.fA;obtain⟨Cx,Cy,Cz,CF,CG,CJ⟩:=kH.out.kg;have zz:=kH.out.lt;have GG:=J (dK kH.out (K L me) (D no nn nc) (D aa kC kD) (D so sn sc) (D ea gW gX) (D oo dU oc));have BL:=J (dD (b:=w.heap.size+1+1) iR.out (by omega) (K L me) (D no nn nc) (D aa kC kD) (D so sn sc) (D ea gW gX) (D oo dU oc));have HK:=J (fun j (_:j<w2.heap.size) (hj:j≠w.heap.size+1+1)=>dH w2 (w.heap.size+1+1) (K L me) (D no nn nc) (D aa kC kD) (D so sn sc) (D ea gW gX) (D oo dU oc) j hj);have HC:=J (eZ (s1:=(Q,0,0)) (s2:=(Q,0,0)) (s3:=(Q,0,0)) (s4:=(Q,0,0)) (s5:=(Q,0,0)) HB.out kH.out HK.out (by rw [(jY b (c,d) f).1]; exact vO.out.on BL.out));have Fe:=J (iQ (s1:=(Q,0,0)) (s2:=(Q,0,0)) (s3:=(Q,0,0)) (s4:=(Q,0,0)) (s5:=(Q,0,0)) HO.out kH.out HK.out);go_wp2_with fail;obtain⟨v0,v1,v2,v3,v4,v5⟩:=GG.out.fA;refine au (v:=.tuple #[bf #[K L me,D no nn nc,D aa kC kD,D so sn sc,D ea gW gX,D oo dU oc],D la ln lc,D Q 0 0]) (by simp [results,aP,go_sem,v0,v1,v2,v3,v4,v5]) rfl ?_;exact⟨⟨(aa,kC,kD),(so,sn,sc),(ea,gW,gX),(la,ln,lc),rfl,HC.out,Fe.out⟩,BL.out⟩
 ·go_wp2_with fail;refine D3.out.mono ?_;rintro e1 w1 ⟨⟨⟨ea,gW,gX⟩,⟨la,ln,lc⟩,rfl,hbr,hou⟩,hb⟩;clear D1 D2 D3 D4;clear x0 x1 x2 x3 x4 x5 y0 y1 y2 y3 y4 y5 y6;have oQ:=J (gH.out.trans (hb.mono gH.out.size));have jT:=J (nE.out.on hb);have JV:=J (kR.out.on hb);have nG:=J (lC.out.on hb);clear gH nE kR lC;obtain⟨k0,k1,k2,k3,k4,k5⟩:=jT.out.fA;obtain⟨pG,pI,pJ,pK,pO,pQ⟩:=jT.out.kg;have zz:=jT.out.lt;have FB:=J (dK jT.out (K L me) (D no nn nc) (D ao an ac) (D so sn sc) (D ea gW gX) (D oo dU oc));have B2:=J (dD (b:=w.heap.size) oQ.out (V _) (K L me) (D no nn nc) (D ao an ac) (D so sn sc) (D ea gW gX) (D oo dU oc));have Bc:=J (fun j (_:j<w1.heap.size) (hj:j≠w.heap.size)=>dH w1 (w.heap.size) (K L me) (D no nn nc) (D ao an ac) (D so sn sc) (D ea gW gX) (D oo dU oc) j hj);have zA:=J (show dJ _ _ _ _ from (dH w1 (w.heap.size) (K L me) (D no nn nc) (D ao an ac) (D so sn sc) (D ea gW gX) (D oo dU oc) (w.heap.size+1+1) (by omega)).trans nG.out);have HB:=J (eZ (s1:=(no,nn,nc)) (s2:=(ao,an,ac)) (s3:=(so,sn,sc)) (s4:=(eo,en,ec)) (s5:=(oo,dU,oc)) hbr jT.out Bc.out (by rw [xI b f (c,d) (c2,d2) p]; exact vO.out.on B2.out));have HO:=J (iQ (s1:=(no,nn,nc)) (s2:=(ao,an,ac)) (s3:=(so,sn,sc)) (s4:=(eo,en,ec)) (s5:=(oo,dU,oc)) hou jT.out Bc.out);clear hbr hou hb oQ jT nG;go_upto_region 14 with fail;clear zz Bc k0 k1 k2 k3 k4 k5 pG pI pJ pK pO pQ;unfold gP at FB B2 HB zA HO;generalize ((((((w1.setCell ⟨w.heap.size,0,Q⟩ (K L me)).setCell ⟨w.heap.size,1,Q⟩ (D no nn nc)).setCell ⟨w.heap.size,2,Q⟩ (D ao an ac)).setCell ⟨w.heap.size,3,Q⟩ (D so sn sc)).setCell ⟨w.heap.size,4,Q⟩ (D ea gW gX)).setCell ⟨w.heap.size,5,Q⟩ (D oo dU oc))=w2 at *;have iR:=J (B2.out);have mM:=J (FB.out);have kH:=J (zA.out);clear B2 FB zA;obtain⟨x0,x1,x2,x3,x4,x5⟩:=mM.out.fA;obtain⟨r0,r1,r2,r3,r4,r5⟩:=kH.out.fA;obtain⟨Cx,Cy,Cz,CF,CG,CJ⟩:=kH.out.kg;have zz:=kH.out.lt;have GG:=J (dK kH.out (K L me) (D no nn nc) (D ao an ac) (D so sn sc) (D ea gW gX) (D oo dU oc));have BL:=J (dD (b:=w.heap.size+1+1) iR.out (by omega) (K L me) (D no nn nc) (D ao an ac) (D so sn sc) (D ea gW gX) (D oo dU oc));have HK:=J (fun j (_:j<w2.heap.size) (hj:j≠w.heap.size+1+1)=>dH w2 (w.heap.size+1+1) (K L me) (D no nn nc) (D ao an ac) (D so sn sc) (D ea gW gX) (D oo dU oc) j hj);have HC:=J (eZ (s1:=(Q,0,0)) (s2:=(Q,0,0)) (s3:=(Q,0,0)) (s4:=(Q,0,0)) (s5:=(Q,0,0)) HB.out kH.out HK.out (by rw [xI b f (c,d) (c2,d2) p]; exact vO.out.on BL.out));have Fe:=J (iQ (s1:=(Q,0,0)) (s2:=(Q,0,0)) (s3:=(Q,0,0)) (s4:=(Q,0,0)) (s5:=(Q,0,0)) HO.out kH.out HK.out);go_wp2_with fail;obtain⟨v0,v1,v2,v3,v4,v5⟩:=GG.out.fA;refine au (v:=.tuple #[bf #[K L me,D no nn nc,D ao an ac,D so sn sc,D ea gW gX,D oo dU oc],D la ln lc,D Q 0 0]) (by simp [results,aP,go_sem,v0,v1,v2,v3,v4,v5]) rfl ?_;exact⟨⟨(ao,an,ac),(so,sn,sc),(ea,gW,gX),(la,ln,lc),rfl,HC.out,Fe.out⟩,BL.out⟩
 ·go_wp2_with fail;refine D4.out.mono ?_;rintro e1 w1 ⟨⟨⟨ea,gW,gX⟩,⟨la,ln,lc⟩,rfl,hbr,hou⟩,hb⟩;clear D1 D2 D3 D4;clear x0 x1 x2 x3 x4 x5 y0 y1 y2 y3 y4 y5 y6;have oQ:=J (gH.out.trans (hb.mono gH.out.size));have jT:=J (nE.out.on hb);have JV:=J (kR.out.on hb);have nG:=J (lC.out.on hb);clear gH nE kR lC;obtain⟨k0,k1,k2,k3,k4,k5⟩:=jT.out.fA;obtain⟨pG,pI,pJ,pK,pO,pQ⟩:=jT.out.kg;have zz:=jT.out.lt;have FB:=J (dK jT.out (K L me) (D no nn nc) (D ao an ac) (D so sn sc) (D ea gW gX) (D oo dU oc));have B2:=J (dD (b:=w.heap.size) oQ.out (V _) (K L me) (D no nn nc) (D ao an ac) (D so sn sc) (D ea gW gX) (D oo dU oc));have Bc:=J (fun j (_:j<w1.heap.size) (hj:j≠w.heap.size)=>dH w1 (w.heap.size) (K L me) (D no nn nc) (D ao an ac) (D so sn sc) (D ea gW gX) (D oo dU oc) j hj);have zA:=J (show dJ _ _ _ _ from (dH w1 (w.heap.size) (K L me) (D no nn nc) (D ao an ac) (D so sn sc) (D ea gW gX) (D oo dU oc) (w.heap.size+1+1) (by omega)).trans nG.out);have HB:=J (eZ (s1:=(no,nn,nc)) (s2:=(ao,an,ac)) (s3:=(so,sn,sc)) (s4:=(eo,en,ec)) (s5:=(oo,dU,oc)) hbr jT.out Bc.out (by rw [xJ b (c,d) (c2,d2) f]; exact vO.out.on B2.out));have HO:=J (iQ (s1:=(no,nn,nc)) (s2:=(ao,an,ac)) (s3:=(so,sn,sc)) (s4:=(eo,en,ec)) (s5:=(oo,dU,oc)) hou jT.out Bc.out);clear hbr hou hb oQ jT nG;go_upto_region 14 with fail;clear zz Bc k0 k1 k2 k3 k4 k5 pG pI pJ pK pO pQ;unfold gP at FB B2 HB zA HO;generalize ((((((w1.setCell ⟨w.heap.size,0,Q⟩ (K L me)).setCell ⟨w.heap.size,1,Q⟩ (D no nn nc)).setCell ⟨w.heap.size,2,Q⟩ (D ao an ac)).setCell ⟨w.heap.size,3,Q⟩ (D so sn sc)).setCell ⟨w.heap.size,4,Q⟩ (D ea gW gX)).setCell ⟨w.heap.size,5,Q⟩ (D oo dU oc))=w2 at *;have iR:=J (B2.out);have mM:=J (FB.out);have kH:=J (zA.out);clear B2 FB zA;obtain⟨x0,x1,x2,x3,x4,x5⟩:=mM.out.fA;obtain⟨r0,r1,r2,r3,r4,r5⟩:=kH.out.fA;obtain⟨Cx,Cy,Cz,CF,CG,CJ⟩:=kH.out.kg;have zz:=kH.out.lt;have GG:=J (dK kH.out (K L me) (D no nn nc) (D ao an ac) (D so sn sc) (D ea gW gX) (D oo dU oc));have BL:=J (dD (b:=w.heap.size+1+1) iR.out (by omega) (K L me) (D no nn nc) (D ao an ac) (D so sn sc) (D ea gW gX) (D oo dU oc));have HK:=J (fun j (_:j<w2.heap.size) (hj:j≠w.heap.size+1+1)=>dH w2 (w.heap.size+1+1) (K L me) (D no nn nc) (D ao an ac) (D so sn sc) (D ea gW gX) (D oo dU oc) j hj);have HC:=J (eZ (s1:=(Q,0,0)) (s2:=(Q,0,0)) (s3:=(Q,0,0)) (s4:=(Q,0,0)) (s5:=(Q,0,0)) HB.out kH.out HK.out (by rw [xJ b (c,d) (c2,d2) f]; exact vO.out.on BL.out));have Fe:=J (iQ (s1:=(Q,0,0)) (s2:=(Q,0,0)) (s3:=(Q,0,0)) (s4:=(Q,0,0)) (s5:=(Q,0,0)) HO.out kH.out HK.out);go_wp2_with fail;obtain⟨v0,v1,v2,v3,v4,v5⟩:=GG.out.fA;refine au (v:=.tuple #[bf #[K L me,D no nn nc,D ao an ac,D so sn sc,D ea gW gX,D oo dU oc],D la ln lc,D Q 0 0]) (by simp [results,aP,go_sem,v0,v1,v2,v3,v4,v5]) rfl ?_;exact⟨⟨(ao,an,ac),(so,sn,sc),(ea,gW,gX),(la,ln,lc),rfl,HC.out,Fe.out⟩,BL.out⟩
theorem abD {W:bN} {l:List qM} {m:List Ow} (h:eB (D8 W) l m):(l.map fun y=>(y.1,y.2.1))=m.map Ow.id:=by
 induction h with
 | nil=>rfl
 | cons x t ih=>rw [aR,aR,ih]; exact congrArg (·::_) x.1
theorem Mq {W:bN} {b:Nat} {c d:Int} (h:dJ W b #[K L c,K L d] 38):∀ x,Below W.heap.size W x->∀ j u,(jm (c,d))[j]?=aF u->x.cell? ((⟨b,0,Q⟩:bg).add j)=aF u:=fun _ hb=>Ky (h.on hb)
theorem Pg (b:Br) (nv av sv ev ov:Sl) (x:Id) (pv:Sl) (p:List C5) (w:bN) (h:gZ w b nv av sv ev ov) (hp:fK w (dR pv) p) (l2:b.dO.length<=900) (l3:b.ent.length+b.dO.length<=900) (l4:b.own.length<=899) (hok:∀ e∈b.ent,dW e.p) (hoa:∀ a∈b.dO,dW a.p) (hop:dW p) :
  bO aH 27 #[ny b.me nv av sv ev ov,mD x,dR pv] w fun e w'=>(∃ ev' RD lo:Sl,e=.returned (.tuple #[ny b.me nv av sv ev' RD,dR lo])/\gZ w' (kr b x p).1 nv av sv ev' RD/\kS w' lo (kr b x p).2)/\Below w.heap.size w w':=by
 obtain⟨no,nn,nc⟩:=nv;obtain⟨ao,an,ac⟩:=av;obtain⟨so,sn,sc⟩:=sv;obtain⟨eo,en,ec⟩:=ev;obtain⟨oo,dU,oc⟩:=ov;obtain⟨c,d⟩:=x;obtain⟨po,pn,pc⟩:=pv;obtain⟨ws,hw1,hw2⟩:=h.own;obtain⟨q1,q2,hq⟩:=hw1.len;obtain⟨rfl,rfl,rfl⟩:oo=q1/\dU=ws.length/\oc=q2:=by
  have:D oo dU oc=D q1 ws.length q2:=hq;simpa using this
 have HH:=J h;have HP:=J hp;have L2:=J l2;have L3:=J l3;have WL:=J (show ws.length<=899 from by rw [hw2.len]; exact l4);have HW2:=J hw2;have KY:=J (abD hw2);have OK:=J hok;have OA:=J hoa;have OP:=J hop;obtain⟨dU,hon⟩:∃ n,n=ws.length:=⟨_,rfl⟩;simp only [<- hon] at HH hw1 ⊢;have N5:=J hon;obtain⟨h0,h1,h2,h3⟩:=gN w #[K L b.me,D no nn nc,D ao an ac,D so sn sc,D eo en ec,D oo dU oc] #[K L c,K L d] #[K L 0,D Q 0 0,D Q 0 0,D Q 0 0,D Q 0 0,D Q 0 0] 33 38 33;obtain⟨me,hme⟩:∃ me,me=b.me:=⟨_,rfl⟩;simp only [<- hme] at h0 h1 h2 h3 ⊢;have gH:=J (h0);have nE:=J (h1);have abE:=J (h2);have lC:=J (h3);have JJ:=J (hw1.on h0);have ME:=J hme;clear h0 h1 h2 h3 h l2 l3 l4 hme hok hoa hop hp hw1 hw2 hq hon;show bO aH 27 #[bf #[K L me,D no nn nc,D ao an ac,D so sn sc,D eo en ec,D oo dU oc],bf #[K L c,K L d],D po pn pc] w _;go_enter Tryz.func27,Tryz.ntmps27;go_upto_region 1 with fail;generalize (((w.alloc (aj #[K L me,D no nn nc,D ao an ac,D so sn sc,D eo en ec,D oo dU oc] 33)).alloc (aj #[K L c,K L d] 38)).alloc (aj #[K L 0,D Q 0 0,D Q 0 0,D Q 0 0,D Q 0 0,D Q 0 0] 33))=W at *;have W4:=J (show w.heap.size+3<=W.heap.size from by have:=lC.out.lt; omega)
 go_upto_block 0 with (fail)
 refine Xe _ W w.heap.size (w.heap.size+1) me c d _ _ _ _ oo dU oc ws _ _ _ _ _ _ _ _ _ _ _ _ _ _ _ _ _ _ _ _ _ _ _ _ _ _ _ _ _ _ _ _ _ _ _ _ _ _ _ _ _ _ _ _ _ _ _ _ _ _ _ _ _ _ _ _ _ _ _ _ _ _ _ _ _ _ _ _ _ _ _ _ _ _ _ _ _ _ _ _ _ _ _ _ _ _ _ _ _ _ _ _ _ _ _ _ nE.out abE.out JJ.out N5.out (by rw [N5.out]; exact U WL.out (by decide)) ?_;intro wr v14 v15 v16 v17 v18 v19 v20 v21 v22 v23 v24 v25 v26 v27 v28 v29 v30 hbe;have iR:=J (gH.out.trans (hbe.mono gH.out.size));have qX:=J (nE.out.on hbe);have nD:=J (abE.out.on hbe);have Et:=J (lC.out.on hbe);have Ev:=J (JJ.out.on hbe);clear gH nE abE lC JJ;clear hbe;have PLN:=J (show (fH (ws.map fun y=>(y.1,y.2.1)) (c,d))<=ws.length from by have h1:=kZ (ws.map fun y=>(y.1,y.2.1)) (c,d); rw [aT] at h1; exact h1);have PKY:=J (show (fH (ws.map fun y=>(y.1,y.2.1)) (c,d))=fH (b.own.map Ow.id) (c,d) from by rw [KY.out]);generalize (fH (ws.map fun y=>(y.1,y.2.1)) (c,d))=at_ at *;have a0:=ay (show wr.cell? ⟨w.heap.size,0,Q⟩=aF (K L me) from qX.out.cell 0);have a1:=ay (show wr.cell? ⟨w.heap.size,1,Q⟩=aF (D no nn nc) from qX.out.cell 1);have a2:=ay (show wr.cell? ⟨w.heap.size,2,Q⟩=aF (D ao an ac) from qX.out.cell 2);have a3:=ay (show wr.cell? ⟨w.heap.size,3,Q⟩=aF (D so sn sc) from qX.out.cell 3);have a4:=ay (show wr.cell? ⟨w.heap.size,4,Q⟩=aF (D eo en ec) from qX.out.cell 4);have a5:=ay (show wr.cell? ⟨w.heap.size,5,Q⟩=aF (D oo dU oc) from qX.out.cell 5);have b0:=ay (show wr.cell? ⟨w.heap.size+1,0,Q⟩=aF (K L c) from nD.out.cell 0);have b1:=ay (show wr.cell? ⟨w.heap.size+1,1,Q⟩=aF (K L d) from nD.out.cell 1);have on9:dU<=899:=by rw [N5.out]; exact WL.out
 rcases hin:decide (at_<dU) with _|_
 ·have hin2:¬ at_<dU:=of_decide_eq_false hin;have he:at_=dU:=by have:=PLN.out; rw [<- N5.out] at this; omega
  have NF:=J (show ¬ (b.own[fH (b.own.map Ow.id) (c,d)]?).map Ow.id=aF (c,d) from by
   rw [<- PKY.out,aV (by rw [<- HW2.out.len,<- N5.out]; omega)];simp)
  have xg:decide ((at_:Int)<(dU:Int))=aD:=decide_eq_false (by omega);clear hin2 he;go_upto_region 4 with fail;refine wp_region_quiet_below (by kernel_rfl) (by kernel_rfl) ?_
  repeat (go_big_quiet_step (fail))
  refine wpQuiet_nil ?_;intro _ hw';obtain⟨⟨dq,osq⟩,hw''⟩:=hw';subst hw'';have Z6:=bD wr dq osq;have lD:=J (iR.out.trans (Z6.mono iR.out.size));have mM:=J (qX.out.on Z6);have mg:=J (nD.out.on Z6);have qV:=J (Et.out.on Z6);have Ph:=J (Ev.out.on Z6);clear iR qX nD Et Ev;clear Z6 a0 a1 a2 a3 a4 a5 b0 b1;generalize grow (bP wr dq) osq=wx at *;clear xg hin;have DB:=J (show kr b (c,d) p=eU b.dO (jy (c,d) p) (ownIn b (c,d) p,[]) b.dO.length from by unfold kr; rw [if_neg NF.out]);have PL2:at_<=ws.length:=PLN.out;go_upto_region 6 with fail;refine YH _ wx w.heap.size (w.heap.size+1) me _ _ _ _ oo dU oc at_ ws ((c,d,(po,pn,pc)):qM) _ _ _ _ _ _ _ _ _ _ _ _ _ _ _ _ _ _ _ _ _ _ _ _ _ _ _ _ _ _ _ _ _ _ _ _ _ _ _ _ _ _ _ _ _ _ _ _ _ _ _ _ _ _ _ _ _ _ _ _ _ _ _ _ _ _ _ _ _ _ _ _ _ _ _ _ _ _ _ _ _ _ _ _ _ _ _ _ _ _ _ _ _ _ _ mM.out (Mq mg.out) Ph.out PL2 (U WL.out (by decide)) ?_;intro w2 v47 v48 v49 v50 v51 v52 v53 v54 v55 v56 v57 v58 v59 v60 v61 v62 v63 hbx ho hbl hoth hblk;obtain⟨oa,o8,hov⟩:=(Row.dx ho).len;obtain⟨lH,TV⟩:∃ n,n=(ws.take at_++[((c,d,(po,pn,pc)):qM)]++ws.drop at_).length:=⟨_,rfl⟩;rw [<- TV] at hov;subst hov;clear TV PL2;have G2:=J (lD.out.trans (hbl _ (V _)));have Y3:=J hbx;have Y4:=J (hoth _ _ _ (by omega) mg.out);have Y6:=J (hoth _ _ _ (by omega) qV.out);have HB:=J (show gZ w2 (ownIn b (c,d) p) (no,nn,nc) (ao,an,ac) (so,sn,sc) (eo,en,ec) (oa,lH,o8) from by
   have hI:=HH.out.on G2.out;refine⟨hI.near,hI.dO,hI.seen,hI.ent,⟨_,Row.dx ho,?_⟩⟩;have hW:=HW2.out.mono fun _ _ h=>D8.on h G2.out;show eB _ _ (fP b.own (fH (b.own.map Ow.id) (c,d)) ⟨(c,d),p⟩);rw [<- PKY.out];exact ((hW.take _).append (.cons ⟨rfl,HP.out.on G2.out⟩ .nil)).append (hW.drop _))
  clear hbx ho hbl hoth hblk lD mM mg qV Ph;have lM:=J (G2.out);have om:=J (Y3.out);have oG:=J (Y4.out);have lQ:=J (Y6.out);clear G2 Y3 Y4 Y6;have FO:=J (show ∀ k,k<=b.dO.length->Lv (ownIn b (c,d) p) (eU b.dO (jy (c,d) p) (ownIn b (c,d) p,[]) k).1 k/\(∀ q∈(eU b.dO (jy (c,d) p) (ownIn b (c,d) p,[]) k).1.ent,dW q.p)/\(eU b.dO (jy (c,d) p) (ownIn b (c,d) p,[]) k).2.length<=([]:List Ou).length+k from fun k hk=>lG (l:=b.dO) (b0:=ownIn b (c,d) p) (o0:=[]) (fun a=>jX p a.p) (fun a=>ng (c,d) p a) (fun a=>a.par) (fun e=>dW e.p) OK.out (fun _ _ _=>OP.out) k hk);obtain⟨ad,hd1,hd2⟩:=HB.out.dO;obtain⟨q1,q2,hq⟩:=hd1.len;obtain⟨rfl,rfl,rfl⟩:ao=q1/\an=ad.length/\ac=q2:=by
   have:D ao an ac=D q1 ad.length q2:=hq;simpa using this
  obtain⟨vQ,hl1,hl2⟩:=HB.out.ent;obtain⟨n2,hn2⟩:∃ n,n=ad.length:=⟨_,rfl⟩;simp only [<- hn2] at HB hd1 om ⊢;have HD1:=J hd1;have HD2:=J (show eB (uJ w2) ad b.dO from hd2);have vP:=J hl1;have HL2:=J hl2;have N2:=J hn2;have B4:=J (show dJ w2 w.heap.size (iw me (no,nn,nc) (ao,n2,ac) (so,sn,sc) (eo,en,ec) (oa,lH,o8)) 33 from om.out);have L4:=J oG.out.lt;have L6:=J lQ.out.lt;have NO:=J (show b.dO.length=n2 from by rw [N2.out,HD2.out.len]);clear hd1 hd2 hl1 hl2 hn2 hq;have Tv:=J (show ∀ W,Below w.heap.size w W->q8 W (D no nn nc) (ownIn b (c,d) p).near from fun W hb=>HH.out.near.on hb);have PW2:=J (HP.out.on lM.out);obtain⟨x0,x1,x2,x3,x4,x5⟩:=om.out.fA;go_wp2_with fail;clear x0 x1 x2 x3 x4 x5
  go_loopw [9,67] (fun v i wr=>∃ (k:Nat) (ea:Option bg) (qp qw:Nat) (lx:List iA) (lo:List nC),k<=n2/\i=K L k/\Below w.heap.size w wr/\But w.heap.size w2 wr/\dJ wr w.heap.size #[K L me,D no nn nc,D ao n2 ac,D so sn sc,D ea qp qw,D oa lH o8] 33/\dJ wr (w.heap.size+1) #[K L c,K L d] 38/\dJ wr (w.heap.size+1+1) #[K L 0,D Q 0 0,D Q 0 0,D Q 0 0,D Q 0 0,D Q 0 0] 33/\rQ w2 wr (eo,en,ec) (ea,qp,qw) vQ lx/\jd wr w2.heap.size v lo/\eB (iW w2) lx (eU b.dO (jy (c,d) p) (ownIn b (c,d) p,[]) k).1.ent/\eB (rJ w2) lo (eU b.dO (jy (c,d) p) (ownIn b (c,d) p,[]) k).2) (fun _ i _=>n2-(intOf i).toNat)
  case atStart=>exact⟨0,eo,en,ec,vQ,[],aN _,rfl,lM.out,But.of_below (aO _ _),om.out,oG.out,lQ.out,aI ⟨rfl,rfl⟩,fZ _ _,HL2.out,.nil⟩
  case round =>
   clear lM om oG lQ;obtain⟨k,ea,qp,qw,lx,lo,hk,rfl,hgb,hbk,hx4,hx6,Rp,her,hoe,hen,hlo⟩:=hrel;have rT:=J (hgb);have rU:=J (hbk);have zN:=J (hx4);have tK:=J (hx6);have mP:=J (Rp);have zO:=J (her);have mJ:=J (hoe);have EN:=J hen;have LO:=J hlo;clear hgb hbk hx4 hx6 Rp her hoe hen hlo;have FK:=J (FO.out k (by rw [NO.out]; exact hk));have l9:n2<=900:=by have h1:=L2.out; rw [NO.out] at h1; exact h1
   by_cases hlt:k<n2
   ·have hlt':(k:Int)<(n2:Int):=by omega
    have hw:IntKind.i64.wrap ((k:Int)+1)=(k:Int)+1:=aK _ (by omega);obtain⟨a,hak⟩:∃ a,b.dO[k]?=aF a:=⟨_,X (by rw [NO.out]; exact hlt)⟩;have US:=J (nV (jy (c,d) p) (ownIn b (c,d) p,[]) hak);have OKO:=J (OA.out a (ak hak));obtain⟨z,hz1,hz2⟩:=HD2.out.at k a hak;have YP:=fQ okD HD1.out rU.out.1 (jq B4.out (fun c=>⟨_,_,rfl,rfl⟩) (j5 me (no,nn,nc) (ao,n2,ac) (so,sn,sc) (eo,en,ec) (oa,lH,o8)));obtain⟨pa,ix,px⟩:=VQ YP rfl N2.out.symm hz1;obtain⟨p0,p1,p2,p3⟩:=px wr (aO _ _);obtain⟨z1,z2,⟨z3,z4,z5⟩,z6⟩:=z;have ZI:=J (show a.id=(z1,z2) from hz2.1.symm);have ZQ:=J (show a.par=z6 from hz2.2.1.symm);have ZP:=J (show fK w2 (D z3 z4 z5) a.p from hz2.2.2);simp only at p0 p1 p2 p3;clear px hz1 hz2 YP hak;go_upto_region 11 with fail;clear p0 p1 p2 p3 ix;have NN:=fE wr (aj #[K L z1,K L z2,D z3 z4 z5,K L z6] 53);have vB:=J (rT.out.trans (NN.mono rT.out.size));have zP:=J (O rU.out NN);have Ih:=J (zN.out.on NN);have Ii:=J (tK.out.on NN);have Ij:=J (mP.out.on NN);have Ik:=J (zO.out.on NN);have Il:=J (Bk.dB mJ.out NN);clear rT rU zN tK mP zO mJ;have qb:=J (dL wr #[K L z1,K L z2,D z3 z4 z5,K L z6] 53);clear NN;generalize wr.alloc (aj #[K L z1,K L z2,D z3 z4 z5,K L z6] 53)=wa at *;obtain⟨mt,hmt⟩:∃ r,jX p a.p=r:=⟨_,rfl⟩;have MT:=J (EP (D po pn pc) (D z3 z4 z5) p a.p wa (HP.out.on vB.out) (rR B4.out zP.out ZP.out) OP.out OKO.out);rw [hmt] at MT;have Mh:=J (show (eU b.dO (jy (c,d) p) (ownIn b (c,d) p,[]) (k+1))=gI (eU b.dO (jy (c,d) p) (ownIn b (c,d) p,[]) k) mt (ng (c,d) p a) a.par from by rw [<- hmt]; exact US.out);clear hmt US;obtain⟨z0,z1,z2,z3⟩:=qb.out.I8;go_wp2_with fail;refine MT.out.mono ?_;rintro e4 wb ⟨rfl,hb⟩;clear MT;clear z0 z1 z2 z3;have oH:=J (vB.out.trans (hb.mono vB.out.size));have nY:=J (O zP.out hb);have zQ:=J (Ih.out.on hb);have qd:=J (Ii.out.on hb);have oI:=J (Ij.out.on hb);have qg:=J (Ik.out.on hb);have tO:=J (Bk.dB Il.out hb);have nk:=J (qb.out.on hb);clear vB zP Ih Ii Ij Ik Il qb;clear hb;cases mt
    ·go_wp2_with fail
     go_roundw
     case rel=>exact⟨k+1,ea,qp,qw,lx,lo,hlt,by go_num,oH.out,nY.out,zQ.out,qd.out,oI.out,qg.out,tO.out,by rw [Mh.out]; exact EN.out,by rw [Mh.out]; exact LO.out⟩
     case measure=>simp [intOf]; omega
    ·have z0:=nk.out.cell 0;have z1:=nk.out.cell 1;have z2:=nk.out.cell 2;have z3:=nk.out.cell 3;simp only [ah,Y,Z] at z0 z1 z2 z3;obtain⟨Es,y_1⟩:=qd.out.cs2;go_upto_region 14 with fail;clear z0 z1 z2 z3 Es y_1;have NN:=fE wb (aj #[K L z1,K L z2,K L c,K L d,D po pn pc,K L (-1),bI aD] 68);have kV:=J (oH.out.trans (NN.mono oH.out.size));have qj:=J (O nY.out NN);have tT:=J (zQ.out.on NN);have tL:=J (qd.out.on NN);have vD:=J (oI.out.on NN);have rV:=J (qg.out.on NN);have tN:=J (Bk.dB tO.out NN);have Im:=J (nk.out.on NN);clear oH nY zQ qd oI qg tO nk;have pE:=J (dL wb #[K L z1,K L z2,K L c,K L d,D po pn pc,K L (-1),bI aD] 68);clear NN;generalize wb.alloc (aj #[K L z1,K L z2,K L c,K L d,D po pn pc,K L (-1),bI aD] 68)=wc at *;have AD:=J (sK (eU b.dO (jy (c,d) p) (ownIn b (c,d) p,[]) k).1 (no,nn,nc) (ao,n2,ac) (so,sn,sc) (ea,qp,qw) (oa,lH,o8) (z1,z2,c,d,(po,pn,pc),-1,aD) (ng (c,d) p a) wc lx (iW w2) (p8 B4.out qj.out HB.out (Tv.out _ kV.out) vP.out rV.out EN.out FK.out.1) (rV.out.row B4.out qj.out vP.out) (vk B4.out qj.out EN.out) EN.out (fun u=>⟨ZI.out.symm,rfl,rfl,rfl,PW2.out⟩) ⟨ZI.out.symm,rfl,rfl,rfl,HP.out.on kV.out⟩ (by rw [FK.out.1.dO]; exact L2.out) (by have h1:=FK.out.1.len; have h2:=L3.out; rw [NO.out] at h2; have h3:(ownIn b (c,d) p).ent.length=b.ent.length:=rfl; omega) FK.out.2.1 OP.out);rw [FK.out.1.me,show (ownIn b (c,d) p).me=b.me from rfl,<- ME.out] at AD;obtain⟨x0,x1,x2,x3,x4,x5⟩:=tT.out.fA;obtain⟨z0,z1,z2,z3,z4,z5,z6⟩:=pE.out.mU;go_wp2_with fail;refine AD.out.mono ?_;rintro e5 wd ⟨⟨⟨mV,oU,oW⟩,xs,rfl,hr,hx⟩,hb⟩;clear AD;clear x0 x1 x2 x3 x4 x5 z0 z1 z2 z3 z4 z5 z6;have EX:=J hx;have YU:=J (show rQ w2 wd (eo,en,ec) (mV,oU,oW) vQ xs from by
      rcases hr with⟨h1,h2,_⟩|hr
      ·rw [h1,h2];exact rV.out.on hb
      ·exact bE (dG hr qj.out.2))
     clear hr hx;have oJ:=J (kV.out.trans (hb.mono kV.out.size));have Io:=J (O qj.out hb);have lI:=J (tT.out.on hb);have Ip:=J (tL.out.on hb);have vE:=J (vD.out.on hb);have TW:=J (rV.out.on hb);have Iq:=J (Bk.dB tN.out hb);have zR:=J (Im.out.on hb);have zS:=J (pE.out.on hb);clear kV qj tT tL vD rV tN Im pE;clear hb TW;obtain⟨up,hup⟩:∃ r,(gQ (eU b.dO (jy (c,d) p) (ownIn b (c,d) p,[]) k).1 (ng (c,d) p a)).2=r:=⟨_,rfl⟩;rw [hup];have Mj:=J (show (eU b.dO (jy (c,d) p) (ownIn b (c,d) p,[]) (k+1))=((gQ (eU b.dO (jy (c,d) p) (ownIn b (c,d) p,[]) k).1 (ng (c,d) p a)).1,if up=aC then (eU b.dO (jy (c,d) p) (ownIn b (c,d) p,[]) k).2++[A9 a.par (ng (c,d) p a)] else (eU b.dO (jy (c,d) p) (ownIn b (c,d) p,[]) k).2) from by rw [Mh.out]; unfold gI; rw [if_neg (by simp),hup]);clear hup Mh;obtain⟨k0,k1,k2,k3,k4,k5⟩:=lI.out.fA;obtain⟨pG,pI,pJ,pK,pO,pQ⟩:=lI.out.kg;have zz:=lI.out.lt;have NEB:=J (show wb.heap.size≠w.heap.size from fun e=>by have h1:=zS.out; have h2:=lI.out; unfold dJ at h1 h2; rw [e] at h1; rw [h1] at h2; injection h2 with h2; injection h2 with h2; simp at h2);have NEA:=J (show wr.heap.size≠w.heap.size from fun e=>by have h1:=zR.out; have h2:=lI.out; unfold dJ at h1 h2; rw [e] at h1; rw [h1] at h2; injection h2 with h2; injection h2 with h2; simp at h2);have G1:=J (dD (b:=w.heap.size) oJ.out (V _) (K L me) (D no nn nc) (D ao n2 ac) (D so sn sc) (D mV oU oW) (D oa lH o8));have G2:=J (Io.out.trans (wW wd w.heap.size (K L me) (D no nn nc) (D ao n2 ac) (D so sn sc) (D mV oU oW) (D oa lH o8)));have G4:=J (dK lI.out (K L me) (D no nn nc) (D ao n2 ac) (D so sn sc) (D mV oU oW) (D oa lH o8));have G6:=J (show dJ _ _ _ _ from (dH wd w.heap.size (K L me) (D no nn nc) (D ao n2 ac) (D so sn sc) (D mV oU oW) (D oa lH o8) (w.heap.size+1) (by omega)).trans Ip.out);have G8:=J (show dJ _ _ _ _ from (dH wd w.heap.size (K L me) (D no nn nc) (D ao n2 ac) (D so sn sc) (D mV oU oW) (D oa lH o8) (w.heap.size+1+1) (by omega)).trans vE.out);have GE:=J (show dJ _ _ _ _ from (dH wd w.heap.size (K L me) (D no nn nc) (D ao n2 ac) (D so sn sc) (D mV oU oW) (D oa lH o8) wb.heap.size NEB.out).trans zS.out);have GA:=J (show dJ _ _ _ _ from (dH wd w.heap.size (K L me) (D no nn nc) (D ao n2 ac) (D so sn sc) (D mV oU oW) (D oa lH o8) wr.heap.size NEA.out).trans zR.out);have GO:=J (eY Iq.out w.heap.size B4.out.lt (K L me) (D no nn nc) (D ao n2 ac) (D so sn sc) (D mV oU oW) (D oa lH o8));have GR:=J (show rQ w2 _ (eo,en,ec) (mV,oU,oW) vQ xs from YU.out.imp id fun h=>eY h w.heap.size B4.out.lt (K L me) (D no nn nc) (D ao n2 ac) (D so sn sc) (D mV oU oW) (D oa lH o8));clear YU oJ Io lI Ip vE zS Iq zR;go_upto_region 15 with fail;clear zz k0 k1 k2 k3 k4 k5 pG pI pJ pK pO pQ;unfold gP at G1 G2 G4 G6 G8 GE GA GO GR;generalize ((((((wd.setCell ⟨w.heap.size,0,Q⟩ (K L me)).setCell ⟨w.heap.size,1,Q⟩ (D no nn nc)).setCell ⟨w.heap.size,2,Q⟩ (D ao n2 ac)).setCell ⟨w.heap.size,3,Q⟩ (D so sn sc)).setCell ⟨w.heap.size,4,Q⟩ (D mV oU oW)).setCell ⟨w.heap.size,5,Q⟩ (D oa lH o8))=we at *;have vF:=J (G1.out);have vG:=J (G2.out);have jA:=J (G4.out);have zT:=J (G6.out);have zU:=J (G8.out);have zV:=J (GE.out);have zW:=J (GA.out);have qP:=J (GO.out);have tQ:=J (GR.out);clear G1 G2 G4 G6 G8 GE GA GO GR;cases up
     ·go_wp2_with fail
      go_roundw
      case rel=>exact⟨k+1,mV,oU,oW,xs,lo,hlt,by go_num,vF.out,vG.out,jA.out,zT.out,zU.out,tQ.out,qP.out,by rw [Mj.out]; exact EX.out,by rw [Mj.out]; exact LO.out⟩
      case measure=>simp [intOf]; omega
     ·have LL:lo.length<=1000000:=by
       have h1:=FK.out.2.2;rw [LO.out.len];rw [bJ] at h1;omega
      go_upto_region 16 with fail;refine Ta _ we wr.heap.size wb.heap.size w2.heap.size z1 z2 z6 z1 z2 c d (-1) aD z3 po z4 z5 pn pc u9 lo _ _ _ _ _ _ _ _ _ _ _ _ _ _ _ _ _ _ _ _ _ _ _ _ _ _ _ _ _ _ _ _ _ _ _ _ _ _ _ _ _ _ _ _ _ _ _ _ _ _ _ _ _ _ _ _ _ _ _ _ _ _ _ _ _ _ _ _ _ _ _ _ _ _ _ _ _ _ _ _ _ _ _ _ _ _ _ _ _ _ _ _ _ _ _ _ zW.out zV.out vG.out.2 qP.out LL ?_;intro x0 x5 w9 v88 v89 v90 v91 v92 v93 v94 v95 hb0 g2 o2;have Ir:=J (vF.out.trans (hb0.mono vF.out.size));have zX:=J (O vG.out hb0);have Iu:=J (jA.out.on hb0);have Iw:=J (zT.out.on hb0);have Iy:=J (zU.out.on hb0);have TY:=J (zV.out.on hb0);have T9:=J (zW.out.on hb0);have zY:=J (Bk.dB qP.out hb0);have Iz:=J (tQ.out.on hb0);clear vF vG jA zT zU zV zW qP tQ;obtain⟨m1,m2,m3⟩:=Fa rfl zY.out g2 zX.out Iz.out;have V3:=J (m3 _ _ _ B4.out.lt Iu.out);have V4:=J (m3 _ _ _ L4.out Iw.out);have V6:=J (m3 _ _ _ L6.out Iy.out);have VG:=J (Ir.out.grown g2 (U (aL B4.out.lt) zX.out.2) fun j hj=>U (aL B4.out.lt) (zY.out.lt j hj).1);have VK:=J m1;have VR:=J m2;have VO:=J o2;clear m1 m2 m3 hb0 g2 o2 LL Ir zX Iu Iw Iy Iz zY TY T9;go_wp2_with fail
      go_roundw
      case rel=>exact⟨k+1,mV,oU,oW,xs,_,hlt,by go_num,VG.out,VK.out,V3.out,V4.out,V6.out,VR.out,VO.out,by rw [Mj.out]; exact EX.out,by rw [Mj.out]; exact LO.out.append (.cons ⟨ZQ.out.symm,rfl,ZI.out.symm,rfl,PW2.out,rfl⟩ .nil)⟩
      case measure=>simp [intOf]; omega
   ·obtain rfl:k=n2:=by omega
    obtain⟨x0,x1,x2,x3,x4,x5⟩:=zN.out.fA;have HI:=J (p8 B4.out rU.out HB.out (Tv.out _ rT.out) vP.out zO.out EN.out FK.out.1);have HU:=J (show eB (rJ wr) lo _ from zL B4.out rU.out LO.out);obtain⟨va,vc,hv⟩:=(Row.dx mJ.out).len;obtain⟨vn,J8⟩:∃ n,n=lo.length:=⟨_,rfl⟩;rw [<- J8] at hv;have RU:=J (Row.dx mJ.out);subst hv;clear J8;obtain⟨r0,r1,r2,r3,r4,r5⟩:=mP.out.fA;obtain⟨Cx,Cy,Cz,CF,CG,CJ⟩:=mP.out.kg;have zz:=mP.out.lt;have GG:=J (dK mP.out (K L me) (D no nn nc) (D ao k ac) (D so sn sc) (D ea qp qw) (D oa lH o8));have BL:=J (dD (b:=w.heap.size+1+1) rT.out (by omega) (K L me) (D no nn nc) (D ao k ac) (D so sn sc) (D ea qp qw) (D oa lH o8));have HK:=J (fun j (_:j<wr.heap.size) (hj:j≠w.heap.size+1+1)=>dH wr (w.heap.size+1+1) (K L me) (D no nn nc) (D ao k ac) (D so sn sc) (D ea qp qw) (D oa lH o8) j hj);have HC:=J (eZ (s1:=(Q,0,0)) (s2:=(Q,0,0)) (s3:=(Q,0,0)) (s4:=(Q,0,0)) (s5:=(Q,0,0)) HI.out mP.out HK.out (by rw [FK.out.1.near]; exact Tv.out _ BL.out));have HO:=J (iQ (s1:=(Q,0,0)) (s2:=(Q,0,0)) (s3:=(Q,0,0)) (s4:=(Q,0,0)) (s5:=(Q,0,0)) (s:=(va,vn,vc)) ⟨lo,RU.out,HU.out⟩ mP.out HK.out);go_wp2_with fail;obtain⟨v0,v1,v2,v3,v4,v5⟩:=GG.out.fA;refine au (v:=.tuple #[bf #[K L me,D no nn nc,D ao k ac,D so sn sc,D ea qp qw,D oa lH o8],D va vn vc]) (by simp [results,aY,go_sem,v0,v1,v2,v3,v4,v5]) rfl ?_;have NO2:=NO.out;have h9:=N2.out;rw [DB.out,NO2];subst h9;exact⟨⟨(ea,qp,qw),(oa,lH,o8),(va,vn,vc),rfl,HC.out,HO.out⟩,BL.out⟩
 ·have hin2:at_<dU:=of_decide_eq_true hin;obtain⟨z,hz⟩:∃ z,ws[at_]?=aF z:=⟨_,X (by rw [<- N5.out]; exact hin2)⟩;obtain⟨ob,hob⟩:∃ o,b.own[at_]?=aF o:=⟨_,X (by rw [<- HW2.out.len,<- N5.out]; exact hin2)⟩;obtain⟨z_,hz_,hzo⟩:=HW2.out.at at_ ob hob;obtain rfl:z=z_:=aS (hz.symm.trans hz_);obtain⟨pa,ix,px⟩:=elW Ev.out rfl N5.out.symm hz;obtain⟨p0,p1,p2⟩:=px wr (aO _ _);obtain⟨y1,y2,⟨yo,yn,yc⟩⟩:=z;simp only at p0 p1 p2;have s0:=ay p0;have s1:=ay p1;have OI:=J (show ob.id=(y1,y2) from hzo.1.symm);obtain⟨r,hr⟩:∃ r,(y1 == c && y2 == d)=r:=⟨_,rfl⟩;have heq:=rz y1 y2 c d r hr;have xg:decide ((at_:Int)<(dU:Int))=aC:=decide_eq_true (by omega);have FD:=J (show ((b.own[fH (b.own.map Ow.id) (c,d)]?).map Ow.id=aF (c,d))=(r=aC) from by
   rw [<- PKY.out,hob,bK,OI.out,<- hr];simp)
  clear px p0 p1 p2 hz_ hz hob hzo hr;cases r
  ·have NF:=J (show ¬ (b.own[fH (b.own.map Ow.id) (c,d)]?).map Ow.id=aF (c,d) from by rw [FD.out]; simp);go_upto_region 4 with fail;refine wp_region_quiet_below (by kernel_rfl) (by kernel_rfl) ?_
   repeat (go_big_quiet_step (fail))
   refine wpQuiet_nil ?_;intro _ hw';obtain⟨⟨dq,osq⟩,hw''⟩:=hw';subst hw'';have Z6:=bD wr dq osq;have lD:=J (iR.out.trans (Z6.mono iR.out.size));have mM:=J (qX.out.on Z6);have mg:=J (nD.out.on Z6);have qV:=J (Et.out.on Z6);have Ph:=J (Ev.out.on Z6);clear iR qX nD Et Ev;clear Z6 a0 a1 a2 a3 a4 a5 b0 b1;generalize grow (bP wr dq) osq=wx at *;clear xg hin ix s0 s1 heq hin2;have DB:=J (show kr b (c,d) p=eU b.dO (jy (c,d) p) (ownIn b (c,d) p,[]) b.dO.length from by unfold kr; rw [if_neg NF.out]);have PL2:at_<=ws.length:=PLN.out;go_upto_region 6 with fail;refine YH _ wx w.heap.size (w.heap.size+1) me _ _ _ _ oo dU oc at_ ws ((c,d,(po,pn,pc)):qM) _ _ _ _ _ _ _ _ _ _ _ _ _ _ _ _ _ _ _ _ _ _ _ _ _ _ _ _ _ _ _ _ _ _ _ _ _ _ _ _ _ _ _ _ _ _ _ _ _ _ _ _ _ _ _ _ _ _ _ _ _ _ _ _ _ _ _ _ _ _ _ _ _ _ _ _ _ _ _ _ _ _ _ _ _ _ _ _ _ _ _ _ _ _ _ mM.out (Mq mg.out) Ph.out PL2 (U WL.out (by decide)) ?_;intro w2 v47 v48 v49 v50 v51 v52 v53 v54 v55 v56 v57 v58 v59 v60 v61 v62 v63 hbx ho hbl hoth hblk;obtain⟨oa,o8,hov⟩:=(Row.dx ho).len;obtain⟨lH,TV⟩:∃ n,n=(ws.take at_++[((c,d,(po,pn,pc)):qM)]++ws.drop at_).length:=⟨_,rfl⟩;rw [<- TV] at hov;subst hov;clear TV PL2;have G2:=J (lD.out.trans (hbl _ (V _)));have Y3:=J hbx;have Y4:=J (hoth _ _ _ (by omega) mg.out);have Y6:=J (hoth _ _ _ (by omega) qV.out);have HB:=J (show gZ w2 (ownIn b (c,d) p) (no,nn,nc) (ao,an,ac) (so,sn,sc) (eo,en,ec) (oa,lH,o8) from by
    have hI:=HH.out.on G2.out;refine⟨hI.near,hI.dO,hI.seen,hI.ent,⟨_,Row.dx ho,?_⟩⟩;have hW:=HW2.out.mono fun _ _ h=>D8.on h G2.out;show eB _ _ (fP b.own (fH (b.own.map Ow.id) (c,d)) ⟨(c,d),p⟩);rw [<- PKY.out];exact ((hW.take _).append (.cons ⟨rfl,HP.out.on G2.out⟩ .nil)).append (hW.drop _))
   clear hbx ho hbl hoth hblk lD mM mg qV Ph;have lM:=J (G2.out);have om:=J (Y3.out);have oG:=J (Y4.out);have lQ:=J (Y6.out);clear G2 Y3 Y4 Y6;have FO:=J (show ∀ k,k<=b.dO.length->Lv (ownIn b (c,d) p) (eU b.dO (jy (c,d) p) (ownIn b (c,d) p,[]) k).1 k/\(∀ q∈(eU b.dO (jy (c,d) p) (ownIn b (c,d) p,[]) k).1.ent,dW q.p)/\(eU b.dO (jy (c,d) p) (ownIn b (c,d) p,[]) k).2.length<=([]:List Ou).length+k from fun k hk=>lG (l:=b.dO) (b0:=ownIn b (c,d) p) (o0:=[]) (fun a=>jX p a.p) (fun a=>ng (c,d) p a) (fun a=>a.par) (fun e=>dW e.p) OK.out (fun _ _ _=>OP.out) k hk);obtain⟨ad,hd1,hd2⟩:=HB.out.dO;obtain⟨q1,q2,hq⟩:=hd1.len;obtain⟨rfl,rfl,rfl⟩:ao=q1/\an=ad.length/\ac=q2:=by
    have:D ao an ac=D q1 ad.length q2:=hq;simpa using this
   obtain⟨vQ,hl1,hl2⟩:=HB.out.ent;obtain⟨n2,hn2⟩:∃ n,n=ad.length:=⟨_,rfl⟩;simp only [<- hn2] at HB hd1 om ⊢;have HD1:=J hd1;have HD2:=J (show eB (uJ w2) ad b.dO from hd2);have vP:=J hl1;have HL2:=J hl2;have N2:=J hn2;have B4:=J (show dJ w2 w.heap.size (iw me (no,nn,nc) (ao,n2,ac) (so,sn,sc) (eo,en,ec) (oa,lH,o8)) 33 from om.out);have L4:=J oG.out.lt;have L6:=J lQ.out.lt;have NO:=J (show b.dO.length=n2 from by rw [N2.out,HD2.out.len]);clear hd1 hd2 hl1 hl2 hn2 hq;have Tv:=J (show ∀ W,Below w.heap.size w W->q8 W (D no nn nc) (ownIn b (c,d) p).near from fun W hb=>HH.out.near.on hb);have PW2:=J (HP.out.on lM.out);obtain⟨x0,x1,x2,x3,x4,x5⟩:=om.out.fA;go_wp2_with fail;clear x0 x1 x2 x3 x4 x5
   go_loopw [9,67] (fun v i wr=>∃ (k:Nat) (ea:Option bg) (qp qw:Nat) (lx:List iA) (lo:List nC),k<=n2/\i=K L k/\Below w.heap.size w wr/\But w.heap.size w2 wr/\dJ wr w.heap.size #[K L me,D no nn nc,D ao n2 ac,D so sn sc,D ea qp qw,D oa lH o8] 33/\dJ wr (w.heap.size+1) #[K L c,K L d] 38/\dJ wr (w.heap.size+1+1) #[K L 0,D Q 0 0,D Q 0 0,D Q 0 0,D Q 0 0,D Q 0 0] 33/\rQ w2 wr (eo,en,ec) (ea,qp,qw) vQ lx/\jd wr w2.heap.size v lo/\eB (iW w2) lx (eU b.dO (jy (c,d) p) (ownIn b (c,d) p,[]) k).1.ent/\eB (rJ w2) lo (eU b.dO (jy (c,d) p) (ownIn b (c,d) p,[]) k).2) (fun _ i _=>n2-(intOf i).toNat)
   case atStart=>exact⟨0,eo,en,ec,vQ,[],aN _,rfl,lM.out,But.of_below (aO _ _),om.out,oG.out,lQ.out,aI ⟨rfl,rfl⟩,fZ _ _,HL2.out,.nil⟩
   case round =>
    clear lM om oG lQ;obtain⟨k,ea,qp,qw,lx,lo,hk,rfl,hgb,hbk,hx4,hx6,Rp,her,hoe,hen,hlo⟩:=hrel;have rT:=J (hgb);have rU:=J (hbk);have zN:=J (hx4);have tK:=J (hx6);have mP:=J (Rp);have zO:=J (her);have mJ:=J (hoe);have EN:=J hen;have LO:=J hlo;clear hgb hbk hx4 hx6 Rp her hoe hen hlo;have FK:=J (FO.out k (by rw [NO.out]; exact hk));have l9:n2<=900:=by have h1:=L2.out; rw [NO.out] at h1; exact h1
    by_cases hlt:k<n2
    ·have hlt':(k:Int)<(n2:Int):=by omega
     have hw:IntKind.i64.wrap ((k:Int)+1)=(k:Int)+1:=aK _ (by omega);obtain⟨a,hak⟩:∃ a,b.dO[k]?=aF a:=⟨_,X (by rw [NO.out]; exact hlt)⟩;have US:=J (nV (jy (c,d) p) (ownIn b (c,d) p,[]) hak);have OKO:=J (OA.out a (ak hak));obtain⟨z,hz1,hz2⟩:=HD2.out.at k a hak;have YP:=fQ okD HD1.out rU.out.1 (jq B4.out (fun c=>⟨_,_,rfl,rfl⟩) (j5 me (no,nn,nc) (ao,n2,ac) (so,sn,sc) (eo,en,ec) (oa,lH,o8)));obtain⟨pa,ix,px⟩:=VQ YP rfl N2.out.symm hz1;obtain⟨p0,p1,p2,p3⟩:=px wr (aO _ _);obtain⟨z1,z2,⟨z3,z4,z5⟩,z6⟩:=z;have ZI:=J (show a.id=(z1,z2) from hz2.1.symm);have ZQ:=J (show a.par=z6 from hz2.2.1.symm);have ZP:=J (show fK w2 (D z3 z4 z5) a.p from hz2.2.2);simp only at p0 p1 p2 p3;clear px hz1 hz2 YP hak;go_upto_region 11 with fail;clear p0 p1 p2 p3 ix;have NN:=fE wr (aj #[K L z1,K L z2,D z3 z4 z5,K L z6] 53);have vB:=J (rT.out.trans (NN.mono rT.out.size));have zP:=J (O rU.out NN);have Ih:=J (zN.out.on NN);have Ii:=J (tK.out.on NN);have Ij:=J (mP.out.on NN);have Ik:=J (zO.out.on NN);have Il:=J (Bk.dB mJ.out NN);clear rT rU zN tK mP zO mJ;have qb:=J (dL wr #[K L z1,K L z2,D z3 z4 z5,K L z6] 53);clear NN;generalize wr.alloc (aj #[K L z1,K L z2,D z3 z4 z5,K L z6] 53)=wa at *;obtain⟨mt,hmt⟩:∃ r,jX p a.p=r:=⟨_,rfl⟩;have MT:=J (EP (D po pn pc) (D z3 z4 z5) p a.p wa (HP.out.on vB.out) (rR B4.out zP.out ZP.out) OP.out OKO.out);rw [hmt] at MT;have Mh:=J (show (eU b.dO (jy (c,d) p) (ownIn b (c,d) p,[]) (k+1))=gI (eU b.dO (jy (c,d) p) (ownIn b (c,d) p,[]) k) mt (ng (c,d) p a) a.par from by rw [<- hmt]; exact US.out);clear hmt US;obtain⟨z0,z1,z2,z3⟩:=qb.out.I8;go_wp2_with fail;refine MT.out.mono ?_;rintro e4 wb ⟨rfl,hb⟩;clear MT;clear z0 z1 z2 z3;have oH:=J (vB.out.trans (hb.mono vB.out.size));have nY:=J (O zP.out hb);have zQ:=J (Ih.out.on hb);have qd:=J (Ii.out.on hb);have oI:=J (Ij.out.on hb);have qg:=J (Ik.out.on hb);have tO:=J (Bk.dB Il.out hb);have nk:=J (qb.out.on hb);clear vB zP Ih Ii Ij Ik Il qb;clear hb;cases mt
     ·go_wp2_with fail
      go_roundw
      case rel=>exact⟨k+1,ea,qp,qw,lx,lo,hlt,by go_num,oH.out,nY.out,zQ.out,qd.out,oI.out,qg.out,tO.out,by rw [Mh.out]; exact EN.out,by rw [Mh.out]; exact LO.out⟩
      case measure=>simp [intOf]; omega
     ·have z0:=nk.out.cell 0;have z1:=nk.out.cell 1;have z2:=nk.out.cell 2;have z3:=nk.out.cell 3;simp only [ah,Y,Z] at z0 z1 z2 z3;obtain⟨Es,y_1⟩:=qd.out.cs2;go_upto_region 14 with fail;clear z0 z1 z2 z3 Es y_1;have NN:=fE wb (aj #[K L z1,K L z2,K L c,K L d,D po pn pc,K L (-1),bI aD] 68);have kV:=J (oH.out.trans (NN.mono oH.out.size));have qj:=J (O nY.out NN);have tT:=J (zQ.out.on NN);have tL:=J (qd.out.on NN);have vD:=J (oI.out.on NN);have rV:=J (qg.out.on NN);have tN:=J (Bk.dB tO.out NN);have Im:=J (nk.out.on NN);clear oH nY zQ qd oI qg tO nk;have pE:=J (dL wb #[K L z1,K L z2,K L c,K L d,D po pn pc,K L (-1),bI aD] 68);clear NN;generalize wb.alloc (aj #[K L z1,K L z2,K L c,K L d,D po pn pc,K L (-1),bI aD] 68)=wc at *;have AD:=J (sK (eU b.dO (jy (c,d) p) (ownIn b (c,d) p,[]) k).1 (no,nn,nc) (ao,n2,ac) (so,sn,sc) (ea,qp,qw) (oa,lH,o8) (z1,z2,c,d,(po,pn,pc),-1,aD) (ng (c,d) p a) wc lx (iW w2) (p8 B4.out qj.out HB.out (Tv.out _ kV.out) vP.out rV.out EN.out FK.out.1) (rV.out.row B4.out qj.out vP.out) (vk B4.out qj.out EN.out) EN.out (fun u=>⟨ZI.out.symm,rfl,rfl,rfl,PW2.out⟩) ⟨ZI.out.symm,rfl,rfl,rfl,HP.out.on kV.out⟩ (by rw [FK.out.1.dO]; exact L2.out) (by have h1:=FK.out.1.len; have h2:=L3.out; rw [NO.out] at h2; have h3:(ownIn b (c,d) p).ent.length=b.ent.length:=rfl; omega) FK.out.2.1 OP.out);rw [FK.out.1.me,show (ownIn b (c,d) p).me=b.me from rfl,<- ME.out] at AD;obtain⟨x0,x1,x2,x3,x4,x5⟩:=tT.out.fA;obtain⟨z0,z1,z2,z3,z4,z5,z6⟩:=pE.out.mU;go_wp2_with fail;refine AD.out.mono ?_;rintro e5 wd ⟨⟨⟨mV,oU,oW⟩,xs,rfl,hr,hx⟩,hb⟩;clear AD;clear x0 x1 x2 x3 x4 x5 z0 z1 z2 z3 z4 z5 z6;have EX:=J hx;have YU:=J (show rQ w2 wd (eo,en,ec) (mV,oU,oW) vQ xs from by
       rcases hr with⟨h1,h2,_⟩|hr
       ·rw [h1,h2];exact rV.out.on hb
       ·exact bE (dG hr qj.out.2))
      clear hr hx;have oJ:=J (kV.out.trans (hb.mono kV.out.size));have Io:=J (O qj.out hb);have lI:=J (tT.out.on hb);have Ip:=J (tL.out.on hb);have vE:=J (vD.out.on hb);have TW:=J (rV.out.on hb);have Iq:=J (Bk.dB tN.out hb);have zR:=J (Im.out.on hb);have zS:=J (pE.out.on hb);clear kV qj tT tL vD rV tN Im pE;clear hb TW;obtain⟨up,hup⟩:∃ r,(gQ (eU b.dO (jy (c,d) p) (ownIn b (c,d) p,[]) k).1 (ng (c,d) p a)).2=r:=⟨_,rfl⟩;rw [hup];have Mj:=J (show (eU b.dO (jy (c,d) p) (ownIn b (c,d) p,[]) (k+1))=((gQ (eU b.dO (jy (c,d) p) (ownIn b (c,d) p,[]) k).1 (ng (c,d) p a)).1,if up=aC then (eU b.dO (jy (c,d) p) (ownIn b (c,d) p,[]) k).2++[A9 a.par (ng (c,d) p a)] else (eU b.dO (jy (c,d) p) (ownIn b (c,d) p,[]) k).2) from by rw [Mh.out]; unfold gI; rw [if_neg (by simp),hup]);clear hup Mh;obtain⟨k0,k1,k2,k3,k4,k5⟩:=lI.out.fA;obtain⟨pG,pI,pJ,pK,pO,pQ⟩:=lI.out.kg;have zz:=lI.out.lt;have NEB:=J (show wb.heap.size≠w.heap.size from fun e=>by have h1:=zS.out; have h2:=lI.out; unfold dJ at h1 h2; rw [e] at h1; rw [h1] at h2; injection h2 with h2; injection h2 with h2; simp at h2);have NEA:=J (show wr.heap.size≠w.heap.size from fun e=>by have h1:=zR.out; have h2:=lI.out; unfold dJ at h1 h2; rw [e] at h1; rw [h1] at h2; injection h2 with h2; injection h2 with h2; simp at h2);have G1:=J (dD (b:=w.heap.size) oJ.out (V _) (K L me) (D no nn nc) (D ao n2 ac) (D so sn sc) (D mV oU oW) (D oa lH o8));have G2:=J (Io.out.trans (wW wd w.heap.size (K L me) (D no nn nc) (D ao n2 ac) (D so sn sc) (D mV oU oW) (D oa lH o8)));have G4:=J (dK lI.out (K L me) (D no nn nc) (D ao n2 ac) (D so sn sc) (D mV oU oW) (D oa lH o8));have G6:=J (show dJ _ _ _ _ from (dH wd w.heap.size (K L me) (D no nn nc) (D ao n2 ac) (D so sn sc) (D mV oU oW) (D oa lH o8) (w.heap.size+1) (by omega)).trans Ip.out);have G8:=J (show dJ _ _ _ _ from (dH wd w.heap.size (K L me) (D no nn nc) (D ao n2 ac) (D so sn sc) (D mV oU oW) (D oa lH o8) (w.heap.size+1+1) (by omega)).trans vE.out);have GE:=J (show dJ _ _ _ _ from (dH wd w.heap.size (K L me) (D no nn nc) (D ao n2 ac) (D so sn sc) (D mV oU oW) (D oa lH o8) wb.heap.size NEB.out).trans zS.out);have GA:=J (show dJ _ _ _ _ from (dH wd w.heap.size (K L me) (D no nn nc) (D ao n2 ac) (D so sn sc) (D mV oU oW) (D oa lH o8) wr.heap.size NEA.out).trans zR.out);have GO:=J (eY Iq.out w.heap.size B4.out.lt (K L me) (D no nn nc) (D ao n2 ac) (D so sn sc) (D mV oU oW) (D oa lH o8));have GR:=J (show rQ w2 _ (eo,en,ec) (mV,oU,oW) vQ xs from YU.out.imp id fun h=>eY h w.heap.size B4.out.lt (K L me) (D no nn nc) (D ao n2 ac) (D so sn sc) (D mV oU oW) (D oa lH o8));clear YU oJ Io lI Ip vE zS Iq zR;go_upto_region 15 with fail;clear zz k0 k1 k2 k3 k4 k5 pG pI pJ pK pO pQ;unfold gP at G1 G2 G4 G6 G8 GE GA GO GR;generalize ((((((wd.setCell ⟨w.heap.size,0,Q⟩ (K L me)).setCell ⟨w.heap.size,1,Q⟩ (D no nn nc)).setCell ⟨w.heap.size,2,Q⟩ (D ao n2 ac)).setCell ⟨w.heap.size,3,Q⟩ (D so sn sc)).setCell ⟨w.heap.size,4,Q⟩ (D mV oU oW)).setCell ⟨w.heap.size,5,Q⟩ (D oa lH o8))=we at *;have vF:=J (G1.out);have vG:=J (G2.out);have jA:=J (G4.out);have zT:=J (G6.out);have zU:=J (G8.out);have zV:=J (GE.out);have zW:=J (GA.out);have qP:=J (GO.out);have tQ:=J (GR.out);clear G1 G2 G4 G6 G8 GE GA GO GR;cases up
      ·go_wp2_with fail
       go_roundw
       case rel=>exact⟨k+1,mV,oU,oW,xs,lo,hlt,by go_num,vF.out,vG.out,jA.out,zT.out,zU.out,tQ.out,qP.out,by rw [Mj.out]; exact EX.out,by rw [Mj.out]; exact LO.out⟩
       case measure=>simp [intOf]; omega
      ·have LL:lo.length<=1000000:=by
        have h1:=FK.out.2.2;rw [LO.out.len];rw [bJ] at h1;omega
       go_upto_region 16 with fail;refine Ta _ we wr.heap.size wb.heap.size w2.heap.size z1 z2 z6 z1 z2 c d (-1) aD z3 po z4 z5 pn pc u9 lo _ _ _ _ _ _ _ _ _ _ _ _ _ _ _ _ _ _ _ _ _ _ _ _ _ _ _ _ _ _ _ _ _ _ _ _ _ _ _ _ _ _ _ _ _ _ _ _ _ _ _ _ _ _ _ _ _ _ _ _ _ _ _ _ _ _ _ _ _ _ _ _ _ _ _ _ _ _ _ _ _ _ _ _ _ _ _ _ _ _ _ _ _ _ _ _ zW.out zV.out vG.out.2 qP.out LL ?_;intro x0 x5 w9 v88 v89 v90 v91 v92 v93 v94 v95 hb0 g2 o2;have Ir:=J (vF.out.trans (hb0.mono vF.out.size));have zX:=J (O vG.out hb0);have Iu:=J (jA.out.on hb0);have Iw:=J (zT.out.on hb0);have Iy:=J (zU.out.on hb0);have TY:=J (zV.out.on hb0);have T9:=J (zW.out.on hb0);have zY:=J (Bk.dB qP.out hb0);have Iz:=J (tQ.out.on hb0);clear vF vG jA zT zU zV zW qP tQ;obtain⟨m1,m2,m3⟩:=Fa rfl zY.out g2 zX.out Iz.out;have V3:=J (m3 _ _ _ B4.out.lt Iu.out);have V4:=J (m3 _ _ _ L4.out Iw.out);have V6:=J (m3 _ _ _ L6.out Iy.out);have VG:=J (Ir.out.grown g2 (U (aL B4.out.lt) zX.out.2) fun j hj=>U (aL B4.out.lt) (zY.out.lt j hj).1);have VK:=J m1;have VR:=J m2;have VO:=J o2;clear m1 m2 m3 hb0 g2 o2 LL Ir zX Iu Iw Iy Iz zY TY T9;go_wp2_with fail
       go_roundw
       case rel=>exact⟨k+1,mV,oU,oW,xs,_,hlt,by go_num,VG.out,VK.out,V3.out,V4.out,V6.out,VR.out,VO.out,by rw [Mj.out]; exact EX.out,by rw [Mj.out]; exact LO.out.append (.cons ⟨ZQ.out.symm,rfl,ZI.out.symm,rfl,PW2.out,rfl⟩ .nil)⟩
       case measure=>simp [intOf]; omega
    ·obtain rfl:k=n2:=by omega
     obtain⟨x0,x1,x2,x3,x4,x5⟩:=zN.out.fA;have HI:=J (p8 B4.out rU.out HB.out (Tv.out _ rT.out) vP.out zO.out EN.out FK.out.1);have HU:=J (show eB (rJ wr) lo _ from zL B4.out rU.out LO.out);obtain⟨va,vc,hv⟩:=(Row.dx mJ.out).len;obtain⟨vn,J8⟩:∃ n,n=lo.length:=⟨_,rfl⟩;rw [<- J8] at hv;have RU:=J (Row.dx mJ.out);subst hv;clear J8;obtain⟨r0,r1,r2,r3,r4,r5⟩:=mP.out.fA;obtain⟨Cx,Cy,Cz,CF,CG,CJ⟩:=mP.out.kg;have zz:=mP.out.lt;have GG:=J (dK mP.out (K L me) (D no nn nc) (D ao k ac) (D so sn sc) (D ea qp qw) (D oa lH o8));have BL:=J (dD (b:=w.heap.size+1+1) rT.out (by omega) (K L me) (D no nn nc) (D ao k ac) (D so sn sc) (D ea qp qw) (D oa lH o8));have HK:=J (fun j (_:j<wr.heap.size) (hj:j≠w.heap.size+1+1)=>dH wr (w.heap.size+1+1) (K L me) (D no nn nc) (D ao k ac) (D so sn sc) (D ea qp qw) (D oa lH o8) j hj);have HC:=J (eZ (s1:=(Q,0,0)) (s2:=(Q,0,0)) (s3:=(Q,0,0)) (s4:=(Q,0,0)) (s5:=(Q,0,0)) HI.out mP.out HK.out (by rw [FK.out.1.near]; exact Tv.out _ BL.out));have HO:=J (iQ (s1:=(Q,0,0)) (s2:=(Q,0,0)) (s3:=(Q,0,0)) (s4:=(Q,0,0)) (s5:=(Q,0,0)) (s:=(va,vn,vc)) ⟨lo,RU.out,HU.out⟩ mP.out HK.out);go_wp2_with fail;obtain⟨v0,v1,v2,v3,v4,v5⟩:=GG.out.fA;refine au (v:=.tuple #[bf #[K L me,D no nn nc,D ao k ac,D so sn sc,D ea qp qw,D oa lH o8],D va vn vc]) (by simp [results,aY,go_sem,v0,v1,v2,v3,v4,v5]) rfl ?_;have NO2:=NO.out;have h9:=N2.out;rw [DB.out,NO2];subst h9;exact⟨⟨(ea,qp,qw),(oa,lH,o8),(va,vn,vc),rfl,HC.out,HO.out⟩,BL.out⟩
  ·go_upto_region 4 with fail;refine wp_region_quiet_below (by kernel_rfl) (by kernel_rfl) ?_
   repeat (go_big_quiet_step (fail))
   refine wpQuiet_nil ?_;intro _ hw';obtain⟨⟨dq,osq⟩,hw''⟩:=hw';subst hw'';have Z6:=bD wr dq osq;have lD:=J (iR.out.trans (Z6.mono iR.out.size));have mM:=J (qX.out.on Z6);have mg:=J (nD.out.on Z6);have qV:=J (Et.out.on Z6);have Ph:=J (Ev.out.on Z6);clear iR qX nD Et Ev;clear Z6 a0 a1 a2 a3 a4 a5 b0 b1;generalize grow (bP wr dq) osq=wx at *;clear xg hin ix s0 s1 heq hin2;obtain⟨x0,x1,x2,x3,x4,x5⟩:=mM.out.fA;have HI:=J (HH.out.on lD.out);obtain⟨r0,r1,r2,r3,r4,r5⟩:=qV.out.fA;obtain⟨Cx,Cy,Cz,CF,CG,CJ⟩:=qV.out.kg;have zz:=qV.out.lt;have GG:=J (dK qV.out (K L me) (D no nn nc) (D ao an ac) (D so sn sc) (D eo en ec) (D oo dU oc));have BL:=J (dD (b:=w.heap.size+1+1) lD.out (by omega) (K L me) (D no nn nc) (D ao an ac) (D so sn sc) (D eo en ec) (D oo dU oc));have HK:=J (fun j (_:j<wx.heap.size) (hj:j≠w.heap.size+1+1)=>dH wx (w.heap.size+1+1) (K L me) (D no nn nc) (D ao an ac) (D so sn sc) (D eo en ec) (D oo dU oc) j hj);have HC:=J (eZ (s1:=(Q,0,0)) (s2:=(Q,0,0)) (s3:=(Q,0,0)) (s4:=(Q,0,0)) (s5:=(Q,0,0)) HI.out qV.out HK.out (HH.out.near.on BL.out));go_wp2_with fail;obtain⟨v0,v1,v2,v3,v4,v5⟩:=GG.out.fA;refine au (v:=.tuple #[bf #[K L me,D no nn nc,D ao an ac,D so sn sc,D eo en ec,D oo dU oc],D Q 0 0]) (by simp [results,aY,go_sem,v0,v1,v2,v3,v4,v5]) rfl ?_;have hd:kr b (c,d) p=(b,[]):=by unfold kr; rw [if_pos (cast FD.out.symm trivial)]
   rw [hd];exact⟨⟨eo,en,ec,oo,dU,oc,Q,0,0,rfl,HC.out,pF _⟩,BL.out⟩
end Bk
namespace Av
open Go.RowKit Go.Sort Rw YtkcfgbddlpomgaaGreat.Nm Pr Bk
theorem Mr {b:Br} (h:jC b) (t x:eO) (f:Int):jC (jM b t x f).1:=by
 rw [iU];exact Xn h t x f
theorem zZ {b:Br} (h:jC b) (x:eO):∀ k,k<=b.dO.length->jC (jw b x k).1
 | 0,_=>⟨h.near,h.seen,h.dO,h.ent,h.own.sublist List.filter_sublist,h.oks,fun e he=>qK (b:=b) rfl rfl (h.LK e he),fun o ho=>h.Xi o ((aG.1 ho).1)⟩
 | k+1,hk=>by
  obtain⟨a,ha⟩:∃ a,b.dO[k]?=aF a:=⟨_,X hk⟩;rw [kW b x ha];exact Mr (zZ h x k (by omega)) _ _ _
theorem Pj {b:Br} (h:jC b) (x:eO):jC (iF b x).1:=by
 unfold iF
 split
 ·exact h
 ·exact zZ h x _ (V _)
theorem sU {α:Type} {l:List α} {f:Br×List Ou->α->Br×List Ou} {s0:Br×List Ou} (P:Br->Prop) (h0:P s0.1) (hs:∀ s a,a∈l->P s.1->P (f s a).1):∀ k,k<=l.length->P (eU l f s0 k).1
 | 0,_=>h0
 | k+1,hk=>by
  obtain⟨a,ha⟩:∃ a,l[k]?=aF a:=⟨_,X hk⟩;rw [nV f s0 ha];exact hs _ a (ak ha) (sU P h0 hs k (by omega))
theorem step_ok {s:Br×List Ou} (h:jC s.1) (mt:Bool) (e:En) (t:Int) (hc:jR s.1.near e.from_=aC) (hq:Wr.iX e.p=aC):jC (gI s mt e t).1:=by
 unfold gI
 split
 ·exact h
 ·exact Tt h e hc hq
theorem ql (l:List Int):jR l (-1)=aC:=by simp [jR]
theorem abF {b:Br} (h:jC b) (f:Int) (x:eO) (p:List C5) (hc:jR b.near f=aC) (hq:Wr.iX p=aC):jC (kF b f x p).1:=by
 have hl:=Hw h ⟨x,p,f⟩ hc hq;unfold kF
 split
 ·exact hl
 ·refine sU jC hl (fun s o ho hs=>step_ok hs _ _ _ (ql _) ?_) _ (V _);rw [(jJ b ⟨x,p,f⟩).2.2.2] at ho;exact h.Xi o ho
theorem Dy {l:List Ow} (hr:ko Ow.id l) {x:eO} (h:¬ (l[fH (l.map Ow.id) x]?).map Ow.id=aF x):∀ y∈l,y.id≠x:=by
 intro y hy e;apply h;rw [<- iV];have ht:lF Ow.id l x=aC:=by
  rw [Ob hr];exact decide_eq_true (aJ.2 ⟨y,hy,e⟩)
 unfold lF at ht;cases hg:l[gF Ow.id l x]? with
 | none=>rw [hg] at ht; cases ht
 | some z =>
  rw [hg] at ht;rw [bK,of_decide_eq_true ht]
theorem Xp {b:Br} (h:jC b) (x:eO) (p:List C5) (hq:Wr.iX p=aC):jC (kr b x p).1:=by
 unfold kr
 split
 ·exact h
 ·rename_i hn
  have hi:jC (ownIn b x p):=by
   have hr:ko Ow.id (fP b.own (fH (b.own.map Ow.id) x) ⟨x,p⟩):=by
    rw [<- iV];exact jU h.own ⟨x,p⟩ (Dy h.own hn)
   exact⟨h.near,h.seen,h.dO,h.ent,hr,h.oks,fun e he=>qK (b:=b) rfl rfl (h.LK e he),fun o ho=>by
    rcases (jK _ _ _ _).1 ho with rfl|ho
    ·exact hq
    ·exact h.Xi o ho⟩
  exact sU jC hi (fun s a _ hs=>step_ok hs _ _ _ (ql _) hq) _ (V _)
structure KI (i:Nat) (b:Br):Prop where
 ok:jC b
 pa:∀ a∈b.dO,dW a.p
 pe:∀ e∈b.ent,dW e.p
 po:∀ o∈b.own,dW o.p
 ln:b.near.length<=4
 ls:b.seen.length<=i
 la:b.dO.length<=i
 lo:b.own.length<=i
 le:b.ent.length<=i * 12
theorem KI.kn {i:Nat} {b:Br} (h:KI i b):∀ e∈b.ent,e.tree∈b.dO.map Ad.id:=fun e he=>by
 have h1:=h.ok.LK e he;unfold wS at h1;cases hf:fV b.dO e.tree with
 | none=>rw [hf] at h1; cases h1
 | some a =>
  obtain⟨q1,q2⟩:=nW hf;exact aJ.2 ⟨a,q1,q2⟩
theorem KI.more {i:Nat} {b:Br} (h:KI i b):KI (i+1) b:=⟨h.ok,h.pa,h.pe,h.po,h.ln,aA h.ls,aA h.la,aA h.lo,by have:=h.le; omega⟩
theorem Pk (b:Br) (a:Ad):∀ y∈(fF b a).1.dO,y=a\/y∈b.dO:=by
 unfold fF
 split
 ·exact fun y hy=>bE hy
 ·exact fun y hy=>(jK _ _ _ _).1 hy
theorem KI.dO {i:Nat} {b:Br} (h:KI i b) (hi:i<12) (f:Int) (x:eO) (p:List C5) (hc:jR b.near f=aC) (hq:Wr.iX p=aC) (hp:dW p):KI (i+1) (kF b f x p).1:=by
 have hok:=abF h.ok f x p hc hq;obtain⟨m1,m2,m3,m4⟩:=jJ b ⟨x,p,f⟩;obtain⟨n1,n2⟩:=Dn b ⟨x,p,f⟩;have lm:=Pk b ⟨x,p,f⟩;have hpa:∀ a∈(fF b ⟨x,p,f⟩).1.dO,dW a.p:=fun a ha=>by
  rcases lm a ha with rfl|ha
  ·exact hp
  ·exact h.pa a ha
 have h1:=h.ls;have h2:=h.la;have h3:=h.lo;have h4:=h.le;revert hok;unfold kF
 split
 ·intro hok;exact⟨hok,hpa,by rw [m3]; exact h.pe,by rw [m4]; exact h.po,by rw [m2]; exact h.ln,U n2 (by omega),U n1 (by omega),by rw [m4]; omega,by rw [m3]; omega⟩
 ·intro hok;obtain⟨q1,q2,_⟩:=lG (l:=(fF b ⟨x,p,f⟩).1.own) (b0:=(fF b ⟨x,p,f⟩).1) (o0:=gB b.near f 1 x (0,0) p) (fun o=>jX o.p p) (fun o=>zB x o) (fun _=>f) (fun e=>dW e.p) (by rw [m3]; exact h.pe) (fun o ho _=>by rw [m4] at ho; exact h.po o ho) _ (V _);refine⟨hok,?_,q2,?_,?_,?_,?_,?_,?_⟩
  ·intro a ha;rw [show (eU _ (mO f x p) _ _).1.dO=_ from q1.dO] at ha;exact hpa a ha
  ·intro o ho;rw [show (eU _ (mO f x p) _ _).1.own=_ from q1.own,m4] at ho;exact h.po o ho
  ·rw [show (eU _ (mO f x p) _ _).1.near=_ from q1.near,m2];exact h.ln
  ·rw [show (eU _ (mO f x p) _ _).1.seen=_ from q1.seen];omega
  ·rw [show (eU _ (mO f x p) _ _).1.dO=_ from q1.dO];omega
  ·rw [show (eU _ (mO f x p) _ _).1.own=_ from q1.own,m4];omega
  ·have q3:=q1.len;rw [m3,m4] at q3;refine U (show (eU _ (mO f x p) _ _).1.ent.length<=_ from by rw [m4]; exact q3) ?_;omega
theorem KI.subs {i:Nat} {b:Br} (h:KI i b) (hi:i<12) (x:eO) (p:List C5) (hq:Wr.iX p=aC) (hp:dW p):KI (i+1) (kr b x p).1:=by
 have hok:=Xp h.ok x p hq;have h1:=h.ls;have h2:=h.la;have h3:=h.lo;have h4:=h.le;revert hok;unfold kr
 split
 ·intro hok;exact h.more
 ·intro hok;obtain⟨q1,q2,_⟩:=lG (l:=b.dO) (b0:=ownIn b x p) (o0:=[]) (fun a=>jX p a.p) (fun a=>ng x p a) (fun a=>a.par) (fun e=>dW e.p) h.pe (fun o ho _=>hp) _ (V _);refine⟨hok,?_,q2,?_,?_,?_,?_,?_,?_⟩
  ·intro a ha;rw [show (eU _ (jy x p) _ _).1.dO=_ from q1.dO] at ha;exact h.pa a ha
  ·intro o ho;rw [show (eU _ (jy x p) _ _).1.own=_ from q1.own] at ho;rcases (jK _ _ _ _).1 ho with rfl|ho
   ·exact hp
   ·exact h.po o ho
  ·rw [show (eU _ (jy x p) _ _).1.near=_ from q1.near];exact h.ln
  ·rw [show (eU _ (jy x p) _ _).1.seen=_ from q1.seen];show b.seen.length<=_;omega
  ·rw [show (eU _ (jy x p) _ _).1.dO=_ from q1.dO];show b.dO.length<=_;omega
  ·rw [show (eU _ (jy x p) _ _).1.own=_ from q1.own];show (fP _ _ _).length<=_;rw [OZ];omega
  ·have q3:=q1.len;have q4:(ownIn b x p).ent.length=b.ent.length:=rfl;refine U (show (eU _ (jy x p) _ _).1.ent.length<=_ from q3) ?_;omega
theorem KI.abG {i:Nat} {b:Br} (h:KI i b) (x:eO):KI (i+1) (iF b x).1:=by
 have hok:=Pj h.ok x;have h1:=h.ls;have h2:=h.la;have h3:=h.lo;have h4:=h.le;revert hok;unfold iF
 split
 ·intro hok;exact h.more
 ·intro hok;have q1:=(pR b x b.dO.length (V _)).1;refine⟨hok,by rw [q1.dO]; exact h.pa,qH b x (fun e=>dW e.p) (fun _ h=>h) h.pe _ (V _),?_,by rw [q1.near]; exact h.ln,by rw [q1.seen]; omega,by rw [q1.dO]; omega,?_,by have:=q1.len; omega⟩
  ·rw [q1.own];exact fun o ho=>h.po o ((aG.1 ho).1)
  ·rw [q1.own];have h5:=aM (fun o:Ow=>decide (o.id≠x)) b.own;unfold um;omega
theorem KI.drop {i:Nat} {b:Br} (h:KI i b) (t x:eO) (f:Int):KI (i+1) (jM b t x f).1:=by
 have hok:=Mr h.ok t x f;have h1:=h.ls;have h2:=h.la;have h3:=h.lo;have h4:=h.le;rw [iU] at hok ⊢;obtain⟨m1,m2,_,m4,m5⟩:=jv b t x f;exact⟨hok,by rw [m1]; exact h.pa,(Da t x f (fun e=>dW e.p) (fun _ _ h=>h) h.pe).1,by rw [m5]; exact h.po,by rw [m2]; exact h.ln,by rw [m4]; omega,by rw [m1]; omega,by rw [m5]; omega,by have:=(sM b t x f).1; omega⟩
theorem KI.aee {i:Nat} {b:Br} (h:KI i b) (f:Int) (t x:eO) (p:List C5) (hc:jR b.near f=aC) (hq:Wr.iX p=aC) (hp:dW p):KI (i+1) (mW b f t x p).1:=by
 have hok:=Tt h.ok ⟨t,x,p,f,aD⟩ hc hq;have h1:=h.ls;have h2:=h.la;have h3:=h.lo;have h4:=h.le;rw [pV];obtain⟨_,m2,m1,m4,m5⟩:=jr b ⟨t,x,p,f,aD⟩;exact⟨hok,by rw [m1]; exact h.pa,Ho (fun e=>dW e.p) h.pe (fun _=>hp),by rw [m5]; exact h.po,by rw [m2]; exact h.ln,by rw [m4]; omega,by rw [m1]; omega,by rw [m5]; omega,by have:=Hq b ⟨t,x,p,f,aD⟩; omega⟩
theorem KI.forget {i:Nat} {b:Br} (h:KI i b) (x:eO) (f:Int):KI (i+1) (gM b x f).1:=by
 have hok:=OQ h.ok x f;rw [zw h.ok.dO] at hok;have h1:=h.ls;have h2:=h.la;have h3:=h.lo;have h4:=h.le;revert hok;unfold gM
 split
 ·exact fun _=>h.more
 ·split
  ·exact fun _=>h.more
  ·split
   ·intro hok;exact⟨hok,fun a ha=>h.pa a (qG ha),fun e he=>h.pe e ((aG.1 he).1),h.po,h.ln,aA h1,by have h5:=(Fb b.dO (fG (b.dO.map Ad.id) x).toNat).length_le; show (cutAt _ _).length<=_; omega,aA h3,by have h5:=aM (fun e:En=>decide (e.tree≠x)) b.ent; show (List.filter _ _).length<=_; omega⟩
   ·exact fun _=>h.more
theorem J9 (l:List Int) (n:Int):jR l (zJ l n)=aC:=by
 unfold zJ;cases h:l[(Wi.within n 0 l.length).toNat]? with
 | none=>exact ql l
 | some z =>
  have:=ak h;simp [jR,this]
def K4 (n:Int):Prop:=0<=n/\n<=4
abbrev KS (b:Br):Prop:=(∀ e∈b.ent,K4 e.sub.1)/\∀ o∈b.own,K4 o.id.1
theorem Ua {b:Br} (h:KS b) (e:En) (he:K4 e.sub.1):KS (gQ b e).1:=by
 unfold gQ
 split
 ·exact h
 ·split
  ·exact h
  ·split
   ·exact h
   ·split
    ·exact h
    ·refine⟨fun z hz=>?_,h.2⟩;rcases (jK _ _ _ _).1 hz with rfl|hz
     ·exact he
     ·exact h.1 z hz
theorem IC {s:Br×List Ou} (h:KS s.1) (mt:Bool) (e:En) (t:Int) (he:K4 e.sub.1):KS (gI s mt e t).1:=by
 unfold gI
 split
 ·exact h
 ·exact Ua h e he
theorem Fg {b:Br} (h:KS b) (f:Int) (x:eO) (p:List C5):KS (kF b f x p).1:=by
 have hs:=jJ b ⟨x,p,f⟩;have hl:KS (fF b ⟨x,p,f⟩).1:=⟨by rw [hs.2.2.1]; exact h.1,by rw [hs.2.2.2]; exact h.2⟩;unfold kF
 split
 ·exact hl
 ·refine sU KS hl (fun s o ho hs2=>IC hs2 _ _ _ ?_) _ (V _);rw [hs.2.2.2] at ho;exact h.2 o ho
theorem Xq {b:Br} (h:KS b) (x:eO) (p:List C5) (hx:K4 x.1):KS (kr b x p).1:=by
 unfold kr
 split
 ·exact h
 ·have hi:KS (ownIn b x p):=⟨h.1,fun o ho=>by
   rcases (jK _ _ _ _).1 ho with rfl|ho
   ·exact hx
   ·exact h.2 o ho⟩
  exact sU KS hi (fun s a _ hs=>IC hs _ _ _ hx) _ (V _)
theorem Ms {b:Br} (h:KS b) (t x:eO) (f:Int):KS (takeB b t x f).1:=by
 unfold takeB
 split
 ·exact h
 ·split
  ·exact h
  ·split
   ·exact h
   ·split
    ·exact⟨fun e he=>h.1 e (qG he),h.2⟩
    ·refine⟨fun e he=>?_,h.2⟩;have hk:fB e∈(iM t (cutAt b.ent (iL (b.ent.map fB) (t,x)).toNat) (cutAt b.ent (iL (b.ent.map fB) (t,x)).toNat).length).1.map fB:=aJ.2 ⟨e,he,rfl⟩;rw [uD] at hk;obtain⟨z,hz,hk2⟩:=aJ.1 hk;have h3:=h.1 z (qG hz);rw [<- show z.sub=e.sub from congrArg Prod.snd hk2];exact h3
theorem Dz {b:Br} (h:KS b) (x:eO):∀ k,k<=b.dO.length->KS (jw b x k).1
 | 0,_=>⟨h.1,fun o ho=>h.2 o ((aG.1 ho).1)⟩
 | k+1,hk=>by
  obtain⟨a,ha⟩:∃ a,b.dO[k]?=aF a:=⟨_,X hk⟩;rw [kW b x ha];show KS (jM _ _ _ _).1;rw [iU];exact Ms (Dz h x k (by omega)) _ _ _
theorem Pm {b:Br} (h:KS b) (x:eO):KS (iF b x).1:=by
 unfold iF
 split
 ·exact h
 ·exact Dz h x _ (V _)
theorem yt {b:Br} (h:KS b) (f mk:Int) (t x:eO) (p:List C5) (hx:K4 x.1):KS (jF b f mk t x p).1:=by
 unfold jF
 split
 ·exact Fg h f t p
 ·split
  ·show KS (gM b t f).1;unfold gM
   split
   ·exact h
   ·split
    ·exact h
    ·split
     ·exact⟨fun e he=>h.1 e ((aG.1 he).1),h.2⟩
     ·exact h
  ·split
   ·rw [pV]; exact Ua h _ hx
   ·rw [iU]; exact Ms h _ _ _
abbrev SnK (b:Br):Prop:=(∀ x∈b.seen,x.1<=2)/\KS b
end Av
namespace Sb
open Go.RowKit Go.Sort Rw YtkcfgbddlpomgaaGreat.Nm Pr Bk Av
theorem Ka {s:Br×List Ou} (h:jC s.1) (ht:iq s.1) (mt:Bool) (e:En) (t:Int):iq (gI s mt e t).1:=by
 unfold gI
 split
 ·exact ht
 ·exact Dr h e ht
theorem z8 {α:Type} {l:List α} (mt:α->Bool) (e:α->En) (t:α->Int) {s0:Br×List Ou} (h:jC s0.1) (ht:iq s0.1) (hc:∀ s:Br×List Ou,∀ a∈l,jC s.1->jC (gI s (mt a) (e a) (t a)).1) (k:Nat) (hk:k<=l.length):iq (eU l (fun s a=>gI s (mt a) (e a) (t a)) s0 k).1 :=
 (sU (fun b=>jC b/\iq b) ⟨h,ht⟩ (fun s a ha hs=>⟨hc s a ha hs.1,Ka hs.1 hs.2 _ _ _⟩) k hk).2
theorem sV {b:Br} (h:jC b) (ht:iq b) (f:Int) (x:eO) (p:List C5) (hc:jR b.near f=aC) (hq:Wr.iX p=aC):iq (kF b f x p).1:=by
 have hl:=Hw h ⟨x,p,f⟩ hc hq;have hlt:=Hz h ⟨x,p,f⟩ ht;unfold kF
 split
 ·exact hlt
 ·exact z8 (s0:=((fF b ⟨x,p,f⟩).1,gB b.near f 1 x (0,0) p)) (fun o=>jX o.p p) (fun o=>zB x o) (fun _=>f) hl hlt (fun s o ho hs=>step_ok hs _ _ _ (ql _) (hl.Xi o ho)) _ (V _)
theorem Kc {b:Br} (h:jC b) (ht:iq b) (x:eO) (p:List C5) (hq:Wr.iX p=aC):iq (kr b x p).1:=by
 unfold kr
 split
 ·exact ht
 ·rename_i hn
  have hi:jC (ownIn b x p):=by
   have hr:ko Ow.id (fP b.own (fH (b.own.map Ow.id) x) ⟨x,p⟩):=by
    rw [<- iV];exact jU h.own ⟨x,p⟩ (Dy h.own hn)
   exact⟨h.near,h.seen,h.dO,h.ent,hr,h.oks,fun e he=>qK (b:=b) rfl rfl (h.LK e he),fun o ho=>by
    rcases (jK _ _ _ _).1 ho with rfl|ho
    ·exact hq
    ·exact h.Xi o ho⟩
  exact z8 (s0:=(ownIn b x p,[])) (fun a=>jX p a.p) (fun a=>ng x p a) (fun a=>a.par) hi (show iq (ownIn b x p) from ht) (fun s a _ hs=>step_ok hs _ _ _ (ql _) hq) _ (V _)
theorem vH {b:Br} (ht:iq b) (x:eO):∀ k,k<=b.dO.length->iq (jw b x k).1
 | 0,_=>ht
 | k+1,hk=>by
  obtain⟨a,ha⟩:∃ a,b.dO[k]?=aF a:=⟨_,X hk⟩;rw [kW b x ha];show iq (jM _ _ _ _).1;rw [iU];exact zH _ _ _ (vH ht x k (by omega))
theorem Fh {b:Br} (ht:iq b) (x:eO):iq (iF b x).1:=by
 unfold iF
 split
 ·exact ht
 ·exact vH ht x _ (V _)
theorem oK {b:Br} (h:jC b) (ht:iq b) (f mk:Int) (t x:eO) (p:List C5) (hc:jR b.near f=aC) (hq:Wr.iX p=aC):iq (jF b f mk t x p).1:=by
 unfold jF
 split
 ·exact sV h ht f t p hc hq
 ·split
  ·show iq (gM b t f).1;rw [<- zw h.dO];exact E8 t f ht
  ·split
   ·rw [pV]; exact Dr h _ ht
   ·rw [iU]; exact zH _ _ _ ht
end Sb
namespace Av
open Go.RowKit Go.Sort Rw YtkcfgbddlpomgaaGreat.Nm Pr Bk
def KM (t:eO) (b c:Br):Prop:=c.me=b.me/\c.near=b.near/\∀ x∈c.seen,x∈b.seen\/x=t
theorem Ke (b:Br) (a:Ad):∀ y∈(fF b a).1.seen,y∈b.seen\/y=a.id:=by
 unfold fF
 split
 ·exact fun y hy=>aI hy
 ·exact fun y hy=>((jK _ _ _ _).1 hy).symm
theorem Fj (b:Br) (f:Int) (x:eO) (p:List C5):KM x b (kF b f x p).1:=by
 obtain⟨m1,m2,_,_⟩:=jJ b ⟨x,p,f⟩;have m5:=Ke b ⟨x,p,f⟩;unfold kF
 split
 ·exact⟨m1,m2,m5⟩
 ·have q:=(lG (l:=(fF b ⟨x,p,f⟩).1.own) (b0:=(fF b ⟨x,p,f⟩).1) (o0:=gB b.near f 1 x (0,0) p) (fun o=>jX o.p p) (fun o=>zB x o) (fun _=>f) (fun _=>True) (fun _ _=>trivial) (fun _ _ _=>trivial) _ (V _)).1;exact⟨(show (eU _ (mO f x p) _ _).1.me=_ from q.me).trans m1,(show (eU _ (mO f x p) _ _).1.near=_ from q.near).trans m2,by rw [show (eU _ (mO f x p) _ _).1.seen=_ from q.seen]; exact m5⟩
theorem Xr (t:eO) (b:Br) (x:eO) (p:List C5):KM t b (kr b x p).1:=by
 unfold kr
 split
 ·exact⟨rfl,rfl,fun _ h=>aI h⟩
 ·have q:=(lG (l:=b.dO) (b0:=ownIn b x p) (o0:=[]) (fun a=>jX p a.p) (fun a=>ng x p a) (fun a=>a.par) (fun _=>True) (fun _ _=>trivial) (fun _ _ _=>trivial) _ (V _)).1;exact⟨(show (eU _ (jy x p) _ _).1.me=_ from q.me),(show (eU _ (jy x p) _ _).1.near=_ from q.near),by rw [show (eU _ (jy x p) _ _).1.seen=_ from q.seen]; exact fun _ h=>aI h⟩
theorem Pn (t:eO) (b:Br) (x:eO):KM t b (iF b x).1:=by
 unfold iF
 split
 ·exact⟨rfl,rfl,fun _ h=>aI h⟩
 ·have q:=(pR b x _ (V _)).1;exact⟨q.me,q.near,by rw [q.seen]; exact fun _ h=>aI h⟩
theorem Xt (b:Br) (t x:eO) (f:Int):KM t b (jM b t x f).1:=by
 rw [iU];exact⟨(jv b t x f).2.2.1,(jv b t x f).2.1,by rw [(jv b t x f).2.2.2.1]; exact fun _ h=>aI h⟩
theorem Ub (b:Br) (f:Int) (t x:eO) (p:List C5):KM t b (mW b f t x p).1:=by
 rw [pV];exact⟨(jr b _).1,(jr b _).2.1,by rw [(jr b _).2.2.2.1]; exact fun _ h=>aI h⟩
theorem IE (b:Br) (x:eO) (f:Int):(gM b x f).1.seen=b.seen:=by
 unfold gM
 split
 ·rfl
 ·split
  ·rfl
  ·split <;> rfl
theorem yu (b:Br) (f mk:Int) (t x:eO) (p:List C5):KM t b (jF b f mk t x p).1:=by
 unfold jF
 split
 ·exact Fj b f t p
 ·split
  ·exact⟨(jY b t f).2,(jY b t f).1,by rw [show (zM b f t).1.seen=b.seen from IE b t f]; exact fun _ h=>aI h⟩
  ·split
   ·exact Ub b f t x p
   ·exact Xt b t x f
theorem KI.step {i:Nat} {b:Br} (h:KI i b) (hi:i<12) (f mk:Int) (t x:eO) (p:List C5) (hc:jR b.near f=aC) (hq:Wr.iX p=aC) (hp:dW p):KI (i+1) (jF b f mk t x p).1:=by
 unfold jF
 split
 ·exact h.dO hi f t p hc hq hp
 ·split
  ·exact h.forget t f
  ·split
   ·exact h.aee f t x p hc hq hp
   ·exact h.drop t x f
def qQ (k:Nat):List Int:=(List.range k).map fun (j:Nat)=>(j:Int)+1
theorem Aa (k:Nat):qQ (k+1)=qQ k++[(k:Int)+1]:=by simp [qQ,List.range_succ]
theorem qm (k:Nat):(qQ k).length=k:=by simp [qQ]
theorem Ab:∀ k,(qQ k).Pairwise (·<·)
 | 0=>aB
 | k+1=>by
  rw [Aa,aX];refine⟨Ab k,by simp,fun a ha b hb=>?_⟩;rw [List.mem_singleton.1 hb];obtain⟨j,hj,rfl⟩:=aJ.1 ha;have:=List.mem_range.1 hj;omega
theorem abH (k:Nat) (hk:k<=4):KI 0 ⟨0,qQ k,[],[],[],[]⟩ :=
 ⟨⟨Ab k,aB,aB,aB,aB,fun a h=>by simp at h,fun a h=>by simp at h,fun a h=>by simp at h⟩,fun a h=>by simp at h,fun a h=>by simp at h,fun a h=>by simp at h,by rw [qm]; exact hk,V _,V _,V _,V _⟩
theorem Xu (has vals:List Int):dW ((o7 has vals 7).map r5):=⟨_,QH has vals,rfl⟩
abbrev Uc (b:Br):Prop:=SnK b/\Go.Proofs.YtkcfgbddlpomgaaGreat.Sb.iq b/\b.near=qQ b.near.length
theorem Ud (zn:Int) (v:Value) (n:Nat) (w:bN) (h1:-9223372036854775808<=zn) (h2:zn<=9223372036854775807) (hs:J6 w v n) (hn:n<=maxLen) :
  bO aH 7 #[bf #[K L zn,v]] w fun e w'=>(∃ (b:Br) (nv av sv ev ov:Sl),e=.returned (ny b.me nv av sv ev ov)/\xG w' b nv av sv ev ov/\KI 12 b/\1<=b.near.length/\Uc b)/\Below w.heap.size w w':=by
 obtain⟨so,sc,rfl⟩:=hs.shape;obtain⟨h0,g1,g2,g3⟩:=gN w #[K L zn,D so n sc] #[K L 0,D Q 0 0,D Q 0 0,D Q 0 0,D Q 0 0,D Q 0 0] #[K L 0,D Q 0 0,D Q 0 0,D Q 0 0,D Q 0 0,D Q 0 0] 24 33 33;have gH:=J (h0);have Kg:=J (g1);have aef:=J (g2);have abI:=J (g3);have HS:=J hs;have HN:=J hn;clear h0 g1 g2 g3 hs hn;go_enter Tryz.func7,Tryz.ntmps7;go_upto_region 2 with fail;generalize (((w.alloc (aj #[K L zn,D so n sc] 24)).alloc (aj #[K L 0,D Q 0 0,D Q 0 0,D Q 0 0,D Q 0 0,D Q 0 0] 33)).alloc (aj #[K L 0,D Q 0 0,D Q 0 0,D Q 0 0,D Q 0 0,D Q 0 0] 33))=W at *;have WI:=Wi.gY zn 1 4 W (by decide) (by decide) (by decide) h1 h2;have WB:=Wi.iP zn 1 4 (by decide);generalize Wi.within zn 1 4=y at *;obtain⟨m,rfl⟩:∃ m:Nat,y=m:=⟨y.toNat,by omega⟩;have M1:=J (show 1<=m from by omega);have M4:m<=4:=by omega
 clear WB h1 h2;obtain⟨x0,x1⟩:=Kg.out.cs2;go_wp2_with fail;refine WI.mono ?_;rintro e1 w1 ⟨rfl,rfl⟩;clear WI;clear x0 x1;go_wp2_with fail
 go_loopw [15] (fun i wr=>∃ (k:Nat) (a:Option bg) (c:Nat),k<=m/\i=K L k/\Below w.heap.size w wr/\dJ wr w.heap.size #[K L zn,D so n sc] 24/\dJ wr (w.heap.size+1) #[K L 0,D Q 0 0,D Q 0 0,D Q 0 0,D Q 0 0,D Q 0 0] 33/\dJ wr (w.heap.size+1+1) #[K L 0,D a k c,D Q 0 0,D Q 0 0,D Q 0 0,D Q 0 0] 33/\lU wr (w.heap.size+3) (D a k c) (qQ k)/\w.heap.size+3<=wr.heap.size) (fun i _=>m-(intOf i).toNat)
 case atStart=>exact⟨0,Q,0,aN _,rfl,gH.out,Kg.out,aef.out,abI.out,fZ _ _,by have:=abI.out.lt; omega⟩
 case round =>
  clear gH Kg aef abI;obtain⟨k,a,c,hk,rfl,hgb,hx1,hx2,hx3,hoe,hws⟩:=hrel;have kX:=J (hgb);have vI:=J (hx1);have Mt:=J (hx2);have vJ:=J (hx3);have IG:=J (hoe);have WS:=J hws;clear hgb hx1 hx2 hx3 hoe hws;by_cases hlt:k<m
  ·have hlt':(k:Int)<(m:Int):=by omega
   have hw:IntKind.i64.wrap ((k:Int)+1)=(k:Int)+1:=aK _ (by omega);have c1:=vJ.out.cell 1;simp only [ah,Y,Z] at c1;have hl:=gT Nm.Jd wr [(k:Int)+1] 1 rfl (by simp) #[K L ((k:Int)+1)] (by rfl);have NB:=fE wr (aj #[K L ((k:Int)+1)] 3);have d1:=(vJ.out.on NB).cell 1;simp only [ah,Y,Z] at d1;have rW:=J (kX.out.trans (NB.mono kX.out.size));have II:=J (vI.out.on NB);have Zf:=J (Mt.out.on NB);have Ue:=J (vJ.out.on NB);have Mv:=J (Bk.dB IG.out NB);clear kX vI Mt vJ IG;obtain⟨v',x1,q1,oa,ga⟩:=fT Nm.Jd (w.heap.size+3) Mv.out (Row.dx hl) (by rw [qm]; omega) (by simp) (U WS.out NB.size) 25;have q1:(Builtin.append_ #[25,25] 25 #[D a k c,D (aF ⟨wr.heap.size,0,Q⟩) 1 1]).run aH (wr.alloc (aj #[K L ((k:Int)+1)] 3))=.ok v' x1:=q1;rw [<- Aa] at oa;obtain⟨a2,c2,hv⟩:=(Row.dx oa).len;rw [qm] at hv;subst hv;have KX:=fun (bb:Nat) (cs:Array Value) (tt:TypeId) (hbb:bb<w.heap.size+3) (hb:dJ (wr.alloc (aj #[K L ((k:Int)+1)] 3)) bb cs tt)=>show dJ x1 bb cs tt from (ga.block bb hb.lt (fun e=>by have:=(Mv.out.lt bb e.symm).1; omega)).trans hb;have V1:=J (KX _ _ _ (by omega) II.out);have V2:=J (KX _ _ _ (by omega) Zf.out);have V3:=J (KX _ _ _ (by omega) Ue.out);have VG:=J (rW.out.grown ga (by have:=WS.out; have:=NB.size; omega) fun j hj=>by have:=(Mv.out.lt j hj).1; omega);have VO:=J oa;have VS:=J (U (U WS.out NB.size) ga.size);clear KX hl NB oa ga rW II Zf Ue Mv;have e1:=V3.out.cell 1;have f1:=V3.out.fr 1;have zz:=V3.out.lt;simp only [ah,Y,Z] at e1;go_upto_region 6 with (first | (at_builtin; refine wpList_append_run rfl _ _ 25 rfl rfl rfl q1 ?_) | fail)
   clear zz e1 f1 c1 d1 q1;have U3:=dN (k:=1) V3.out (D a2 (k+1) c2);simp only [List.setIfInBounds_toArray,List.set_cons_zero,List.set_cons_succ] at U3;have BK:=dQ x1 (w.heap.size+1+1) 1 (D a2 (k+1) c2);have UG:=J (VG.out.setCell (p:=⟨w.heap.size+1+1,1,Q⟩) (by show w.heap.size<=w.heap.size+1+1; omega) (D a2 (k+1) c2));have U1:=J (BK.box V1.out (by omega));have U2:=J (BK.box V2.out (by omega));have U3:=J U3;have UO:=J (dM VO.out (w.heap.size+1+1) 1 (D a2 (k+1) c2) (by omega));have US:=J (show w.heap.size+3<=(x1.setCell ⟨w.heap.size+1+1,1,Q⟩ (D a2 (k+1) c2)).heap.size from by have:=VS.out; simpa using this);clear BK V1 V2 V3 VG VO VS;generalize x1.setCell ⟨w.heap.size+1+1,1,Q⟩ (D a2 (k+1) c2)=x2 at *;go_wp2_with fail
   go_roundw
   case rel=>exact⟨k+1,a2,c2,hlt,by go_num,UG.out,U1.out,U2.out,U3.out,UO.out,US.out⟩
   case measure=>simp [intOf]; omega
  ·obtain rfl:k=m:=by omega
   have BR:=J (show xG wr ⟨0,qQ k,[],[],[],[]⟩ (a,k,c) (Q,0,0) (Q,0,0) (Q,0,0) (Q,0,0) from ⟨Ti wr 0 (Row.dx IG.out),_,IG.out⟩);have KK:=J (abH k M4);have NL:=J (show 1<=(qQ k).length from by rw [qm]; exact M1.out);go_wp2_with fail
   go_loopw [5] (fun i wr=>∃ (k:Nat) (b:Br) (o1:Option bg) (n1 c1:Nat) (o2:Option bg) (n2 c2:Nat) (o3:Option bg) (n3 c3:Nat) (o4:Option bg) (n4 c4:Nat) (o5:Option bg) (n5 c5:Nat),k<=n/\k<=12/\i=K L k/\Below w.heap.size w wr/\dJ wr w.heap.size #[K L zn,D so n sc] 24/\dJ wr (w.heap.size+1) #[K L 0,D Q 0 0,D Q 0 0,D Q 0 0,D Q 0 0,D Q 0 0] 33/\dJ wr (w.heap.size+1+1) #[K L 0,D o1 n1 c1,D o2 n2 c2,D o3 n3 c3,D o4 n4 c4,D o5 n5 c5] 33/\xG wr b (o1,n1,c1) (o2,n2,c2) (o3,n3,c3) (o4,n4,c4) (o5,n5,c5)/\KI k b/\b.me=0/\1<=b.near.length/\Uc b) (fun i _=>12-(intOf i).toNat)
   case atStart=>exact⟨0,⟨0,qQ k,[],[],[],[]⟩,a,k,c,Q,0,0,Q,0,0,Q,0,0,Q,0,0,aN _,aN _,rfl,kX.out,vI.out,Mt.out,vJ.out,BR.out,KK.out,rfl,NL.out,⟨⟨fun x h=>by simp at h,fun x h=>by simp at h,fun x h=>by simp at h⟩,fun a h=>by simp at h,by rw [qm]⟩⟩
   case round =>
    clear WS BR KK NL kX vI Mt vJ IG;obtain⟨i,b,o1,n1,c1,o2,n2,c2,o3,n3,c3,o4,n4,c4,o5,n5,c5,hin,Xv,rfl,hgb,hx1,hx2,hx3,hbr,hki,hme,hnl,hsn⟩:=hrel;have rX:=J (hgb);have Mw:=J (hx1);have Ac:=J (hx2);have Uf:=J (hx3);have Ug:=J (hbr);have KK:=J hki;have ME:=J hme;have NL:=J hnl;have SN:=J hsn;clear hgb hx1 hx2 hx3 hbr hki hme hnl hsn;by_cases hlt:i<n/\i<12
    ·obtain⟨hc,h12⟩:=hlt;have hc':(i:Int)<(n:Int):=by omega
     have ajW:(i:Int)<12:=by omega
     have hw:IntKind.i64.wrap ((i:Int)+1)=(i:Int)+1:=aK _ (by omega);obtain⟨p,z0,z1,z2,z3,z4,h1,h2,h3,g1,g2,g3,has,vals,hpl,ix,pz,dz,ih,iv,hll⟩:=HS.out.at_ i hc;have p0:=pz 0 _ rfl;have p1:=pz 1 _ rfl;have p2:=pz 2 _ rfl;have p3:=pz 3 _ rfl;have p4:=pz 4 _ rfl;have p5:=pz 5 _ rfl;have p6:=pz 6 _ rfl;simp [Addr.add] at p0 p1 p2 p3 p4 p5 p6;have r0:wr.cell? p=aF (K L z0):=(rX.out.cell (show (p:bg).block<w.heap.size from hpl)).trans p0;have r1:wr.cell? ⟨p.block,p.off+1,Q⟩=aF (K L z1):=(rX.out.cell (show (⟨p.block,p.off+1,Q⟩:bg).block<w.heap.size from hpl)).trans p1;have r2:wr.cell? ⟨p.block,p.off+2,Q⟩=aF (K L z2):=(rX.out.cell (show (⟨p.block,p.off+2,Q⟩:bg).block<w.heap.size from hpl)).trans p2;have r3:wr.cell? ⟨p.block,p.off+3,Q⟩=aF (K L z3):=(rX.out.cell (show (⟨p.block,p.off+3,Q⟩:bg).block<w.heap.size from hpl)).trans p3;have r4:wr.cell? ⟨p.block,p.off+4,Q⟩=aF (K L z4):=(rX.out.cell (show (⟨p.block,p.off+4,Q⟩:bg).block<w.heap.size from hpl)).trans p4;have r5:wr.cell? ⟨p.block,p.off+5,Q⟩=aF (D h1 h2 h3):=(rX.out.cell (show (⟨p.block,p.off+5,Q⟩:bg).block<w.heap.size from hpl)).trans p5;have r6:wr.cell? ⟨p.block,p.off+6,Q⟩=aF (D g1 g2 g3):=(rX.out.cell (show (⟨p.block,p.off+6,Q⟩:bg).block<w.heap.size from hpl)).trans p6;have IH0:=J ih;have IV0:=J iv;have DZ:=J dz;have LL:=J hll;clear p0 p1 p2 p3 p4 p5 p6 pz ih iv dz hll;obtain⟨x0,x1⟩:=Mw.out.cs2;go_upto_region 11 with fail;clear r0 r1 r2 r3 r4 r5 r6 ix hpl;clear x0 x1;have NN:=fE wr (aj #[K L z0,K L z1,K L z2,K L z3,K L z4,D h1 h2 h3,D g1 g2 g3] 83);have mZ:=J (rX.out.trans (NN.mono rX.out.size));have Zg:=J (Mw.out.on NN);have Zh:=J (Ac.out.on NN);have Zi:=J (Uf.out.on NN);have Zj:=J (Ug.out.on NN);clear rX Mw Ac Uf Ug;have oI:=J (dL wr #[K L z0,K L z1,K L z2,K L z3,K L z4,D h1 h2 h3,D g1 g2 g3] 83);clear NN;generalize wr.alloc (aj #[K L z0,K L z1,K L z2,K L z3,K L z4,D h1 h2 h3,D g1 g2 g3] 83)=wa at *;have WI:=Wi.gY z2 0 2 wa (by decide) (by decide) (by decide) DZ.out.2.2.1.1 DZ.out.2.2.1.2;have TB:=J (Wi.iP z2 0 2 (by decide)).2;generalize Wi.within z2 0 2=tt at *;obtain⟨q0,q1,q2,q3,q4,q5,q6⟩:=oI.out.mU;go_wp2_with fail;refine WI.mono ?_;rintro e2 w2 ⟨rfl,rfl⟩;clear WI;go_upto_region 12 with fail;clear q0 q1 q2 q3 q4 q5 q6;have NN:=fE wa (aj #[K L tt,K L 0] 38);have kV:=J (mZ.out.trans (NN.mono mZ.out.size));have Zk:=J (Zg.out.on NN);have Zl:=J (Zh.out.on NN);have tT:=J (Zi.out.on NN);have Zm:=J (Zj.out.on NN);have vD:=J (oI.out.on NN);clear mZ Zg Zh Zi Zj oI;have Zn:=J (dL wa #[K L tt,K L 0] 38);clear NN;generalize wa.alloc (aj #[K L tt,K L 0] 38)=wb at *;refine agz _ wb wr.heap.size z0 z1 z2 z3 z4 h1 h2 h3 g1 g2 g3 _ _ _ _ _ _ _ _ _ _ _ _ _ _ _ _ _ _ _ _ _ _ _ _ _ _ _ _ _ _ _ _ _ _ _ _ _ _ _ _ _ _ _ _ _ _ _ _ _ _ _ _ _ _ _ _ _ _ _ _ _ _ _ _ _ _ _ _ _ _ _ _ _ _ _ _ _ _ _ _ _ _ _ _ _ _ _ _ _ _ _ _ _ _ _ _ _ _ _ _ _ _ _ _ _ _ _ _ _ _ _ _ _ _ _ _ _ _ _ _ _ _ _ vD.out DZ.out.2.2.2.1 DZ.out.2.2.2.2 ?_;intro wc b8 v46 v47 v48 v49 v50 v51 v52 hb8 hbx hbel;have oJ:=J (kV.out.trans (hbel.mono kV.out.size));have Zo:=J (Zk.out.on hbel);have Zp:=J (Zl.out.on hbel);have lI:=J (tT.out.on hbel);have Uh:=J (Zm.out.on hbel);have vE:=J (vD.out.on hbel);have Zq:=J (Zn.out.on hbel);clear kV Zk Zl tT Zm vD Zn;have Zr:=J (hbx);clear hbx hbel;have IB:=J (show K4 (Wi.within z3 0 4) from Wi.iP z3 0 4 (by decide));generalize Wi.within z3 0 4=i1 at *;generalize Wi.within z4 0 2=i2 at *;have SD:=Ia 0 z1 (o1,n1,c1) (D o2 n2 c2) (D o3 n3 c3) (D o4 n4 c4) (D o5 n5 c5) b.near wc Uh.out.br.near (by have:=KK.out.ln; omega) DZ.out.2.1.1 DZ.out.2.1.2;have SC:=J (J9 b.near z1);generalize zJ b.near z1=f at *;obtain⟨x0,x1,x2,x3,x4,x5⟩:=lI.out.fA;obtain⟨q0,q1,q2,q3,q4,q5,q6⟩:=vE.out.mU;go_wp2_with fail;refine SD.mono ?_;rintro e3 wd ⟨rfl,hb⟩;clear SD;clear x0 x1 x2 x3 x4 x5 q0 q1 q2 q3 q4 q5 q6;have IJ:=J (oJ.out.trans (hb.mono oJ.out.size));have Zt:=J (Zo.out.on hb);have Zu:=J (Zp.out.on hb);have Zv:=J (lI.out.on hb);have Zw:=J (Uh.out.on hb);have Ui:=J (vE.out.on hb);have Uj:=J (Zq.out.on hb);have Uk:=J (Zr.out.on hb);clear oJ Zo Zp lI Uh vE Zq Zr;clear hb;go_upto_region 14 with fail;refine agA _ wd wr.heap.size wa.heap.size b8 z0 z1 z2 z3 z4 tt 0 i1 i2 h1 h2 h3 g1 g2 g3 has vals _ _ _ _ _ _ _ _ _ _ _ _ _ _ _ _ _ _ _ _ _ _ _ _ _ _ _ _ _ _ _ _ _ _ _ _ _ _ _ _ _ _ _ _ _ _ _ _ _ _ _ _ _ _ _ _ _ _ _ _ _ _ _ _ _ _ _ _ _ _ _ _ _ _ _ _ _ _ _ _ _ _ _ _ _ _ _ _ _ _ _ _ _ _ _ _ _ _ _ _ _ _ _ _ _ _ _ _ _ _ _ _ _ _ _ _ _ _ _ _ _ Ui.out DZ.out.1 Uj.out Uk.out (IH0.out.on IJ.out) (IV0.out.on IJ.out) LL.out.1 LL.out.2 ?_;intro we b10 v57 v58 v59 v60 v61 v62 v63 v64 v65 m1 m2 m3 ajZ hbx hown hbel;have jB:=J (IJ.out.trans (hbel.mono IJ.out.size));have lS:=J (Zt.out.on hbel);have lT:=J (Zu.out.on hbel);have jA:=J (Zv.out.on hbel);have ku:=J (Zw.out.on hbel);have qh:=J (Ui.out.on hbel);have tV:=J (Uj.out.on hbel);have tX:=J (Uk.out.on hbel);clear IJ Zt Zu Zv Zw Ui Uj Uk;have oZ:=J (hbx);have PR:=J (Row.dx hown);have RP:=J (JR has vals);have OP:=J (Xu has vals);clear hbx hown hbel;have MB:=Wi.iP z0 1 7 (by decide);generalize Wi.within z0 1 7=mk at *;generalize (o7 has vals 7).map r5=pp at *;have KA:=KK.out.ls;have KB:=KK.out.la;have KC:=KK.out.lo;have KD:=KK.out.le;have KE:=KK.out.ln;have CS:=J (fun mk2 h=>Pf b (o1,n1,c1) (o2,n2,c2) (o3,n3,c3) (o4,n4,c4) (o5,n5,c5) f mk2 (tt,0) (i1,i2) (m1,m2,m3) (Q,0,0) pp we ku.out.br PR.out h (by omega) (by omega) (by omega) (by omega) KK.out.pe KK.out.po OP.out KK.out.kn);have CA:=J (Ib b (o1,n1,c1) (o2,n2,c2) (o3,n3,c3) (o4,n4,c4) (o5,n5,c5) f (tt,0) (m1,m2,m3) pp we ku.out.br PR.out (by omega) (by omega) (by omega) (by omega) KK.out.pe KK.out.po OP.out);have CB:=J (Pg b (o1,n1,c1) (o2,n2,c2) (o3,n3,c3) (o4,n4,c4) (o5,n5,c5) (i1,i2) (m1,m2,m3) pp we ku.out.br PR.out (by omega) (by omega) (by omega) KK.out.pe KK.out.pa OP.out);have CU:=J (GI b (o1,n1,c1) (o2,n2,c2) (o3,n3,c3) (o4,n4,c4) (o5,n5,c5) (i1,i2) we ku.out.br (by omega) (by omega) (by omega) KK.out.pe KK.out.kn);rw [ME.out] at CS CA CB CU;clear KA KB KC KD KE;obtain⟨x0,x1,x2,x3,x4,x5⟩:=jA.out.fA;obtain⟨Es,y_1⟩:=tX.out.cs2;obtain⟨z0,z1⟩:=tV.out.cs2;obtain⟨q0,q1,q2,q3,q4,q5,q6⟩:=oZ.out.mU;rcases (by omega:mk=1\/mk=2\/mk=3\/mk=4\/mk=5\/mk=6\/mk=7) with rfl|rfl|rfl|rfl|rfl|rfl|rfl
     ·go_wp2_with fail;refine (CS.out 1 (by decide)).mono ?_;rintro e5 wf ⟨⟨⟨aa,an,ac⟩,⟨sa,sn,iD⟩,⟨ea,en,ec⟩,_,rfl,hbr,_⟩,hb⟩;clear CS CA CB CU;clear x0 x1 x2 x3 x4 x5 Es y_1 z0 z1 q0 q1 q2 q3 q4 q5 q6;have mQ:=J (yu b f 1 (tt,0) (i1,i2) pp);have IK:=J (KK.out.step h12 f 1 (tt,0) (i1,i2) pp SC.out RP.out OP.out);have BN:=J (show xG wf (jF b f 1 (tt,0) (i1,i2) pp).1 (o1,n1,c1) (aa,an,ac) (sa,sn,iD) (ea,en,ec) (o5,n5,c5) from ⟨hbr,by rw [mQ.out.2.1]; exact (ku.out.on hb).no⟩);clear hbr;clear ku qh tV tX oZ;have jG:=J (jB.out.trans (hb.mono jB.out.size));have jH:=J (lS.out.on hb);have jI:=J (lT.out.on hb);have fD:=J (jA.out.on hb);clear jB lS lT jA;clear hb;obtain⟨k0,k1,k2,k3,k4,k5⟩:=fD.out.fA;obtain⟨pG,pI,pJ,pK,pO,pQ⟩:=fD.out.kg;have zz:=fD.out.lt;have G1:=J (dD (b:=w.heap.size+1+1) jG.out (by omega) (K L 0) (D o1 n1 c1) (D aa an ac) (D sa sn iD) (D ea en ec) (D o5 n5 c5));have G3:=J (dK fD.out (K L 0) (D o1 n1 c1) (D aa an ac) (D sa sn iD) (D ea en ec) (D o5 n5 c5));have Ga:=J (show dJ _ _ _ _ from (dH wf (w.heap.size+1+1) (K L 0) (D o1 n1 c1) (D aa an ac) (D sa sn iD) (D ea en ec) (D o5 n5 c5) w.heap.size (by omega)).trans jH.out);have Gb:=J (show dJ _ _ _ _ from (dH wf (w.heap.size+1+1) (K L 0) (D o1 n1 c1) (D aa an ac) (D sa sn iD) (D ea en ec) (D o5 n5 c5) (w.heap.size+1) (by omega)).trans jI.out);have GN:=J (BN.out.keep (s1:=(o1,n1,c1)) (s2:=(o2,n2,c2)) (s3:=(o3,n3,c3)) (s4:=(o4,n4,c4)) (s5:=(o5,n5,c5)) fD.out (gD wf (w.heap.size+1+1) (K L 0) (D o1 n1 c1) (D aa an ac) (D sa sn iD) (D ea en ec) (D o5 n5 c5)));clear BN jG jH jI fD;go_upto_region 9 with fail;clear zz k0 k1 k2 k3 k4 k5 pG pI pJ pK pO pQ;unfold gP at G1 G3 Ga Gb GN;generalize ((((((wf.setCell ⟨w.heap.size+1+1,0,Q⟩ (K L 0)).setCell ⟨w.heap.size+1+1,1,Q⟩ (D o1 n1 c1)).setCell ⟨w.heap.size+1+1,2,Q⟩ (D aa an ac)).setCell ⟨w.heap.size+1+1,3,Q⟩ (D sa sn iD)).setCell ⟨w.heap.size+1+1,4,Q⟩ (D ea en ec)).setCell ⟨w.heap.size+1+1,5,Q⟩ (D o5 n5 c5))=wg at *;have MX:=J (mQ.out.1.trans ME.out);have NX:=J (show 1<=((jF b f 1 (tt,0) (i1,i2) pp).1).near.length from by rw [mQ.out.2.1]; exact NL.out);have SX:=J (show Uc ((jF b f 1 (tt,0) (i1,i2) pp).1) from ⟨⟨fun x hx=>by rcases mQ.out.2.2 x hx with h | h; exact SN.out.1.1 x h; rw [h]; exact TB.out,yt SN.out.1.2 _ _ _ _ _ IB.out⟩,Go.Proofs.YtkcfgbddlpomgaaGreat.Sb.oK KK.out.ok SN.out.2.1 _ _ _ _ _ SC.out RP.out,by rw [mQ.out.2.1]; exact SN.out.2.2⟩);go_wp2_with fail
      go_roundw
      case rel=>exact⟨i+1,(jF b f 1 (tt,0) (i1,i2) pp).1,o1,n1,c1,aa,an,ac,sa,sn,iD,ea,en,ec,o5,n5,c5,hc,h12,by go_num,G1.out,Ga.out,Gb.out,G3.out,GN.out,IK.out,MX.out,NX.out,SX.out⟩
      case measure=>simp [intOf]; omega
     ·go_wp2_with fail;refine (CS.out 2 (by decide)).mono ?_;rintro e5 wf ⟨⟨⟨aa,an,ac⟩,⟨sa,sn,iD⟩,⟨ea,en,ec⟩,_,rfl,hbr,_⟩,hb⟩;clear CS CA CB CU;clear x0 x1 x2 x3 x4 x5 Es y_1 z0 z1 q0 q1 q2 q3 q4 q5 q6;have mQ:=J (yu b f 2 (tt,0) (i1,i2) pp);have IK:=J (KK.out.step h12 f 2 (tt,0) (i1,i2) pp SC.out RP.out OP.out);have BN:=J (show xG wf (jF b f 2 (tt,0) (i1,i2) pp).1 (o1,n1,c1) (aa,an,ac) (sa,sn,iD) (ea,en,ec) (o5,n5,c5) from ⟨hbr,by rw [mQ.out.2.1]; exact (ku.out.on hb).no⟩);clear hbr;clear ku qh tV tX oZ;have jG:=J (jB.out.trans (hb.mono jB.out.size));have jH:=J (lS.out.on hb);have jI:=J (lT.out.on hb);have fD:=J (jA.out.on hb);clear jB lS lT jA;clear hb;obtain⟨k0,k1,k2,k3,k4,k5⟩:=fD.out.fA;obtain⟨pG,pI,pJ,pK,pO,pQ⟩:=fD.out.kg;have zz:=fD.out.lt;have G1:=J (dD (b:=w.heap.size+1+1) jG.out (by omega) (K L 0) (D o1 n1 c1) (D aa an ac) (D sa sn iD) (D ea en ec) (D o5 n5 c5));have G3:=J (dK fD.out (K L 0) (D o1 n1 c1) (D aa an ac) (D sa sn iD) (D ea en ec) (D o5 n5 c5));have Ga:=J (show dJ _ _ _ _ from (dH wf (w.heap.size+1+1) (K L 0) (D o1 n1 c1) (D aa an ac) (D sa sn iD) (D ea en ec) (D o5 n5 c5) w.heap.size (by omega)).trans jH.out);have Gb:=J (show dJ _ _ _ _ from (dH wf (w.heap.size+1+1) (K L 0) (D o1 n1 c1) (D aa an ac) (D sa sn iD) (D ea en ec) (D o5 n5 c5) (w.heap.size+1) (by omega)).trans jI.out);have GN:=J (BN.out.keep (s1:=(o1,n1,c1)) (s2:=(o2,n2,c2)) (s3:=(o3,n3,c3)) (s4:=(o4,n4,c4)) (s5:=(o5,n5,c5)) fD.out (gD wf (w.heap.size+1+1) (K L 0) (D o1 n1 c1) (D aa an ac) (D sa sn iD) (D ea en ec) (D o5 n5 c5)));clear BN jG jH jI fD;go_upto_region 9 with fail;clear zz k0 k1 k2 k3 k4 k5 pG pI pJ pK pO pQ;unfold gP at G1 G3 Ga Gb GN;generalize ((((((wf.setCell ⟨w.heap.size+1+1,0,Q⟩ (K L 0)).setCell ⟨w.heap.size+1+1,1,Q⟩ (D o1 n1 c1)).setCell ⟨w.heap.size+1+1,2,Q⟩ (D aa an ac)).setCell ⟨w.heap.size+1+1,3,Q⟩ (D sa sn iD)).setCell ⟨w.heap.size+1+1,4,Q⟩ (D ea en ec)).setCell ⟨w.heap.size+1+1,5,Q⟩ (D o5 n5 c5))=wg at *;have MX:=J (mQ.out.1.trans ME.out);have NX:=J (show 1<=((jF b f 2 (tt,0) (i1,i2) pp).1).near.length from by rw [mQ.out.2.1]; exact NL.out);have SX:=J (show Uc ((jF b f 2 (tt,0) (i1,i2) pp).1) from ⟨⟨fun x hx=>by rcases mQ.out.2.2 x hx with h | h; exact SN.out.1.1 x h; rw [h]; exact TB.out,yt SN.out.1.2 _ _ _ _ _ IB.out⟩,Go.Proofs.YtkcfgbddlpomgaaGreat.Sb.oK KK.out.ok SN.out.2.1 _ _ _ _ _ SC.out RP.out,by rw [mQ.out.2.1]; exact SN.out.2.2⟩);go_wp2_with fail
      go_roundw
      case rel=>exact⟨i+1,(jF b f 2 (tt,0) (i1,i2) pp).1,o1,n1,c1,aa,an,ac,sa,sn,iD,ea,en,ec,o5,n5,c5,hc,h12,by go_num,G1.out,Ga.out,Gb.out,G3.out,GN.out,IK.out,MX.out,NX.out,SX.out⟩
      case measure=>simp [intOf]; omega
     ·by_cases hf:f=-1
      ·subst hf;go_wp2_with fail;refine CA.out.mono ?_;rintro e5 wf ⟨⟨⟨aa,an,ac⟩,⟨sa,sn,iD⟩,⟨ea,en,ec⟩,_,rfl,hbr,_⟩,hb⟩;clear CS CA CB CU;clear x0 x1 x2 x3 x4 x5 Es y_1 z0 z1 q0 q1 q2 q3 q4 q5 q6;have mQ:=J (Fj b (-1) (tt,0) pp);have IK:=J (KK.out.dO h12 (-1) (tt,0) pp SC.out RP.out OP.out);have BN:=J (show xG wf (kF b (-1) (tt,0) pp).1 (o1,n1,c1) (aa,an,ac) (sa,sn,iD) (ea,en,ec) (o5,n5,c5) from ⟨hbr,by rw [mQ.out.2.1]; exact (ku.out.on hb).no⟩);clear hbr;clear ku qh tV tX oZ;have jG:=J (jB.out.trans (hb.mono jB.out.size));have jH:=J (lS.out.on hb);have jI:=J (lT.out.on hb);have fD:=J (jA.out.on hb);clear jB lS lT jA;clear hb;obtain⟨k0,k1,k2,k3,k4,k5⟩:=fD.out.fA;obtain⟨pG,pI,pJ,pK,pO,pQ⟩:=fD.out.kg;have zz:=fD.out.lt;have G1:=J (dD (b:=w.heap.size+1+1) jG.out (by omega) (K L 0) (D o1 n1 c1) (D aa an ac) (D sa sn iD) (D ea en ec) (D o5 n5 c5));have G3:=J (dK fD.out (K L 0) (D o1 n1 c1) (D aa an ac) (D sa sn iD) (D ea en ec) (D o5 n5 c5));have Ga:=J (show dJ _ _ _ _ from (dH wf (w.heap.size+1+1) (K L 0) (D o1 n1 c1) (D aa an ac) (D sa sn iD) (D ea en ec) (D o5 n5 c5) w.heap.size (by omega)).trans jH.out);have Gb:=J (show dJ _ _ _ _ from (dH wf (w.heap.size+1+1) (K L 0) (D o1 n1 c1) (D aa an ac) (D sa sn iD) (D ea en ec) (D o5 n5 c5) (w.heap.size+1) (by omega)).trans jI.out);have GN:=J (BN.out.keep (s1:=(o1,n1,c1)) (s2:=(o2,n2,c2)) (s3:=(o3,n3,c3)) (s4:=(o4,n4,c4)) (s5:=(o5,n5,c5)) fD.out (gD wf (w.heap.size+1+1) (K L 0) (D o1 n1 c1) (D aa an ac) (D sa sn iD) (D ea en ec) (D o5 n5 c5)));clear BN jG jH jI fD;go_upto_region 9 with fail;clear zz k0 k1 k2 k3 k4 k5 pG pI pJ pK pO pQ;unfold gP at G1 G3 Ga Gb GN;generalize ((((((wf.setCell ⟨w.heap.size+1+1,0,Q⟩ (K L 0)).setCell ⟨w.heap.size+1+1,1,Q⟩ (D o1 n1 c1)).setCell ⟨w.heap.size+1+1,2,Q⟩ (D aa an ac)).setCell ⟨w.heap.size+1+1,3,Q⟩ (D sa sn iD)).setCell ⟨w.heap.size+1+1,4,Q⟩ (D ea en ec)).setCell ⟨w.heap.size+1+1,5,Q⟩ (D o5 n5 c5))=wg at *;have MX:=J (mQ.out.1.trans ME.out);have NX:=J (show 1<=((kF b (-1) (tt,0) pp).1).near.length from by rw [mQ.out.2.1]; exact NL.out);have SX:=J (show Uc ((kF b (-1) (tt,0) pp).1) from ⟨⟨fun x hx=>by rcases mQ.out.2.2 x hx with h | h; exact SN.out.1.1 x h; rw [h]; exact TB.out,Fg SN.out.1.2 _ _ _⟩,Go.Proofs.YtkcfgbddlpomgaaGreat.Sb.sV KK.out.ok SN.out.2.1 _ _ _ SC.out RP.out,by rw [mQ.out.2.1]; exact SN.out.2.2⟩);go_wp2_with fail
       go_roundw
       case rel=>exact⟨i+1,(kF b (-1) (tt,0) pp).1,o1,n1,c1,aa,an,ac,sa,sn,iD,ea,en,ec,o5,n5,c5,hc,h12,by go_num,G1.out,Ga.out,Gb.out,G3.out,GN.out,IK.out,MX.out,NX.out,SX.out⟩
       case measure=>simp [intOf]; omega
      ·have hfm:(f == -1)=aD:=by simp [hf]
       go_wp2_with fail;refine (CS.out 3 (by decide)).mono ?_;rintro e5 wf ⟨⟨⟨aa,an,ac⟩,⟨sa,sn,iD⟩,⟨ea,en,ec⟩,_,rfl,hbr,_⟩,hb⟩;clear CS CA CB CU;clear x0 x1 x2 x3 x4 x5 Es y_1 z0 z1 q0 q1 q2 q3 q4 q5 q6;have mQ:=J (yu b f 3 (tt,0) (i1,i2) pp);have IK:=J (KK.out.step h12 f 3 (tt,0) (i1,i2) pp SC.out RP.out OP.out);have BN:=J (show xG wf (jF b f 3 (tt,0) (i1,i2) pp).1 (o1,n1,c1) (aa,an,ac) (sa,sn,iD) (ea,en,ec) (o5,n5,c5) from ⟨hbr,by rw [mQ.out.2.1]; exact (ku.out.on hb).no⟩);clear hbr;clear ku qh tV tX oZ;have jG:=J (jB.out.trans (hb.mono jB.out.size));have jH:=J (lS.out.on hb);have jI:=J (lT.out.on hb);have fD:=J (jA.out.on hb);clear jB lS lT jA;clear hb;obtain⟨k0,k1,k2,k3,k4,k5⟩:=fD.out.fA;obtain⟨pG,pI,pJ,pK,pO,pQ⟩:=fD.out.kg;have zz:=fD.out.lt;have G1:=J (dD (b:=w.heap.size+1+1) jG.out (by omega) (K L 0) (D o1 n1 c1) (D aa an ac) (D sa sn iD) (D ea en ec) (D o5 n5 c5));have G3:=J (dK fD.out (K L 0) (D o1 n1 c1) (D aa an ac) (D sa sn iD) (D ea en ec) (D o5 n5 c5));have Ga:=J (show dJ _ _ _ _ from (dH wf (w.heap.size+1+1) (K L 0) (D o1 n1 c1) (D aa an ac) (D sa sn iD) (D ea en ec) (D o5 n5 c5) w.heap.size (by omega)).trans jH.out);have Gb:=J (show dJ _ _ _ _ from (dH wf (w.heap.size+1+1) (K L 0) (D o1 n1 c1) (D aa an ac) (D sa sn iD) (D ea en ec) (D o5 n5 c5) (w.heap.size+1) (by omega)).trans jI.out);have GN:=J (BN.out.keep (s1:=(o1,n1,c1)) (s2:=(o2,n2,c2)) (s3:=(o3,n3,c3)) (s4:=(o4,n4,c4)) (s5:=(o5,n5,c5)) fD.out (gD wf (w.heap.size+1+1) (K L 0) (D o1 n1 c1) (D aa an ac) (D sa sn iD) (D ea en ec) (D o5 n5 c5)));clear BN jG jH jI fD;go_upto_region 9 with fail;clear zz k0 k1 k2 k3 k4 k5 pG pI pJ pK pO pQ;unfold gP at G1 G3 Ga Gb GN;generalize ((((((wf.setCell ⟨w.heap.size+1+1,0,Q⟩ (K L 0)).setCell ⟨w.heap.size+1+1,1,Q⟩ (D o1 n1 c1)).setCell ⟨w.heap.size+1+1,2,Q⟩ (D aa an ac)).setCell ⟨w.heap.size+1+1,3,Q⟩ (D sa sn iD)).setCell ⟨w.heap.size+1+1,4,Q⟩ (D ea en ec)).setCell ⟨w.heap.size+1+1,5,Q⟩ (D o5 n5 c5))=wg at *;have MX:=J (mQ.out.1.trans ME.out);have NX:=J (show 1<=((jF b f 3 (tt,0) (i1,i2) pp).1).near.length from by rw [mQ.out.2.1]; exact NL.out);have SX:=J (show Uc ((jF b f 3 (tt,0) (i1,i2) pp).1) from ⟨⟨fun x hx=>by rcases mQ.out.2.2 x hx with h | h; exact SN.out.1.1 x h; rw [h]; exact TB.out,yt SN.out.1.2 _ _ _ _ _ IB.out⟩,Go.Proofs.YtkcfgbddlpomgaaGreat.Sb.oK KK.out.ok SN.out.2.1 _ _ _ _ _ SC.out RP.out,by rw [mQ.out.2.1]; exact SN.out.2.2⟩);go_wp2_with fail
       go_roundw
       case rel=>exact⟨i+1,(jF b f 3 (tt,0) (i1,i2) pp).1,o1,n1,c1,aa,an,ac,sa,sn,iD,ea,en,ec,o5,n5,c5,hc,h12,by go_num,G1.out,Ga.out,Gb.out,G3.out,GN.out,IK.out,MX.out,NX.out,SX.out⟩
       case measure=>simp [intOf]; omega
     ·by_cases hf:f=-1
      ·subst hf;go_wp2_with fail;refine CA.out.mono ?_;rintro e5 wf ⟨⟨⟨aa,an,ac⟩,⟨sa,sn,iD⟩,⟨ea,en,ec⟩,_,rfl,hbr,_⟩,hb⟩;clear CS CA CB CU;clear x0 x1 x2 x3 x4 x5 Es y_1 z0 z1 q0 q1 q2 q3 q4 q5 q6;have mQ:=J (Fj b (-1) (tt,0) pp);have IK:=J (KK.out.dO h12 (-1) (tt,0) pp SC.out RP.out OP.out);have BN:=J (show xG wf (kF b (-1) (tt,0) pp).1 (o1,n1,c1) (aa,an,ac) (sa,sn,iD) (ea,en,ec) (o5,n5,c5) from ⟨hbr,by rw [mQ.out.2.1]; exact (ku.out.on hb).no⟩);clear hbr;clear ku qh tV tX oZ;have jG:=J (jB.out.trans (hb.mono jB.out.size));have jH:=J (lS.out.on hb);have jI:=J (lT.out.on hb);have fD:=J (jA.out.on hb);clear jB lS lT jA;clear hb;obtain⟨k0,k1,k2,k3,k4,k5⟩:=fD.out.fA;obtain⟨pG,pI,pJ,pK,pO,pQ⟩:=fD.out.kg;have zz:=fD.out.lt;have G1:=J (dD (b:=w.heap.size+1+1) jG.out (by omega) (K L 0) (D o1 n1 c1) (D aa an ac) (D sa sn iD) (D ea en ec) (D o5 n5 c5));have G3:=J (dK fD.out (K L 0) (D o1 n1 c1) (D aa an ac) (D sa sn iD) (D ea en ec) (D o5 n5 c5));have Ga:=J (show dJ _ _ _ _ from (dH wf (w.heap.size+1+1) (K L 0) (D o1 n1 c1) (D aa an ac) (D sa sn iD) (D ea en ec) (D o5 n5 c5) w.heap.size (by omega)).trans jH.out);have Gb:=J (show dJ _ _ _ _ from (dH wf (w.heap.size+1+1) (K L 0) (D o1 n1 c1) (D aa an ac) (D sa sn iD) (D ea en ec) (D o5 n5 c5) (w.heap.size+1) (by omega)).trans jI.out);have GN:=J (BN.out.keep (s1:=(o1,n1,c1)) (s2:=(o2,n2,c2)) (s3:=(o3,n3,c3)) (s4:=(o4,n4,c4)) (s5:=(o5,n5,c5)) fD.out (gD wf (w.heap.size+1+1) (K L 0) (D o1 n1 c1) (D aa an ac) (D sa sn iD) (D ea en ec) (D o5 n5 c5)));clear BN jG jH jI fD;go_upto_region 9 with fail;clear zz k0 k1 k2 k3 k4 k5 pG pI pJ pK pO pQ;unfold gP at G1 G3 Ga Gb GN;generalize ((((((wf.setCell ⟨w.heap.size+1+1,0,Q⟩ (K L 0)).setCell ⟨w.heap.size+1+1,1,Q⟩ (D o1 n1 c1)).setCell ⟨w.heap.size+1+1,2,Q⟩ (D aa an ac)).setCell ⟨w.heap.size+1+1,3,Q⟩ (D sa sn iD)).setCell ⟨w.heap.size+1+1,4,Q⟩ (D ea en ec)).setCell ⟨w.heap.size+1+1,5,Q⟩ (D o5 n5 c5))=wg at *;have MX:=J (mQ.out.1.trans ME.out);have NX:=J (show 1<=((kF b (-1) (tt,0) pp).1).near.length from by rw [mQ.out.2.1]; exact NL.out);have SX:=J (show Uc ((kF b (-1) (tt,0) pp).1) from ⟨⟨fun x hx=>by rcases mQ.out.2.2 x hx with h | h; exact SN.out.1.1 x h; rw [h]; exact TB.out,Fg SN.out.1.2 _ _ _⟩,Go.Proofs.YtkcfgbddlpomgaaGreat.Sb.sV KK.out.ok SN.out.2.1 _ _ _ SC.out RP.out,by rw [mQ.out.2.1]; exact SN.out.2.2⟩);go_wp2_with fail
       go_roundw
       case rel=>exact⟨i+1,(kF b (-1) (tt,0) pp).1,o1,n1,c1,aa,an,ac,sa,sn,iD,ea,en,ec,o5,n5,c5,hc,h12,by go_num,G1.out,Ga.out,Gb.out,G3.out,GN.out,IK.out,MX.out,NX.out,SX.out⟩
       case measure=>simp [intOf]; omega
      ·have hfm:(f == -1)=aD:=by simp [hf]
       go_wp2_with fail;refine (CS.out 4 (by decide)).mono ?_;rintro e5 wf ⟨⟨⟨aa,an,ac⟩,⟨sa,sn,iD⟩,⟨ea,en,ec⟩,_,rfl,hbr,_⟩,hb⟩;clear CS CA CB CU;clear x0 x1 x2 x3 x4 x5 Es y_1 z0 z1 q0 q1 q2 q3 q4 q5 q6;have mQ:=J (yu b f 4 (tt,0) (i1,i2) pp);have IK:=J (KK.out.step h12 f 4 (tt,0) (i1,i2) pp SC.out RP.out OP.out);have BN:=J (show xG wf (jF b f 4 (tt,0) (i1,i2) pp).1 (o1,n1,c1) (aa,an,ac) (sa,sn,iD) (ea,en,ec) (o5,n5,c5) from ⟨hbr,by rw [mQ.out.2.1]; exact (ku.out.on hb).no⟩);clear hbr;clear ku qh tV tX oZ;have jG:=J (jB.out.trans (hb.mono jB.out.size));have jH:=J (lS.out.on hb);have jI:=J (lT.out.on hb);have fD:=J (jA.out.on hb);clear jB lS lT jA;clear hb;obtain⟨k0,k1,k2,k3,k4,k5⟩:=fD.out.fA;obtain⟨pG,pI,pJ,pK,pO,pQ⟩:=fD.out.kg;have zz:=fD.out.lt;have G1:=J (dD (b:=w.heap.size+1+1) jG.out (by omega) (K L 0) (D o1 n1 c1) (D aa an ac) (D sa sn iD) (D ea en ec) (D o5 n5 c5));have G3:=J (dK fD.out (K L 0) (D o1 n1 c1) (D aa an ac) (D sa sn iD) (D ea en ec) (D o5 n5 c5));have Ga:=J (show dJ _ _ _ _ from (dH wf (w.heap.size+1+1) (K L 0) (D o1 n1 c1) (D aa an ac) (D sa sn iD) (D ea en ec) (D o5 n5 c5) w.heap.size (by omega)).trans jH.out);have Gb:=J (show dJ _ _ _ _ from (dH wf (w.heap.size+1+1) (K L 0) (D o1 n1 c1) (D aa an ac) (D sa sn iD) (D ea en ec) (D o5 n5 c5) (w.heap.size+1) (by omega)).trans jI.out);have GN:=J (BN.out.keep (s1:=(o1,n1,c1)) (s2:=(o2,n2,c2)) (s3:=(o3,n3,c3)) (s4:=(o4,n4,c4)) (s5:=(o5,n5,c5)) fD.out (gD wf (w.heap.size+1+1) (K L 0) (D o1 n1 c1) (D aa an ac) (D sa sn iD) (D ea en ec) (D o5 n5 c5)));clear BN jG jH jI fD;go_upto_region 9 with fail;clear zz k0 k1 k2 k3 k4 k5 pG pI pJ pK pO pQ;unfold gP at G1 G3 Ga Gb GN;generalize ((((((wf.setCell ⟨w.heap.size+1+1,0,Q⟩ (K L 0)).setCell ⟨w.heap.size+1+1,1,Q⟩ (D o1 n1 c1)).setCell ⟨w.heap.size+1+1,2,Q⟩ (D aa an ac)).setCell ⟨w.heap.size+1+1,3,Q⟩ (D sa sn iD)).setCell ⟨w.heap.size+1+1,4,Q⟩ (D ea en ec)).setCell ⟨w.heap.size+1+1,5,Q⟩ (D o5 n5 c5))=wg at *;have MX:=J (mQ.out.1.trans ME.out);have NX:=J (show 1<=((jF b f 4 (tt,0) (i1,i2) pp).1).near.length from by rw [mQ.out.2.1]; exact NL.out);have SX:=J (show Uc ((jF b f 4 (tt,0) (i1,i2) pp).1) from ⟨⟨fun x hx=>by rcases mQ.out.2.2 x hx with h | h; exact SN.out.1.1 x h; rw [h]; exact TB.out,yt SN.out.1.2 _ _ _ _ _ IB.out⟩,Go.Proofs.YtkcfgbddlpomgaaGreat.Sb.oK KK.out.ok SN.out.2.1 _ _ _ _ _ SC.out RP.out,by rw [mQ.out.2.1]; exact SN.out.2.2⟩);go_wp2_with fail
       go_roundw
       case rel=>exact⟨i+1,(jF b f 4 (tt,0) (i1,i2) pp).1,o1,n1,c1,aa,an,ac,sa,sn,iD,ea,en,ec,o5,n5,c5,hc,h12,by go_num,G1.out,Ga.out,Gb.out,G3.out,GN.out,IK.out,MX.out,NX.out,SX.out⟩
       case measure=>simp [intOf]; omega
     ·go_wp2_with fail;refine CA.out.mono ?_;rintro e5 wf ⟨⟨⟨aa,an,ac⟩,⟨sa,sn,iD⟩,⟨ea,en,ec⟩,_,rfl,hbr,_⟩,hb⟩;clear CS CA CB CU;clear x0 x1 x2 x3 x4 x5 Es y_1 z0 z1 q0 q1 q2 q3 q4 q5 q6;have mQ:=J (Fj b f (tt,0) pp);have IK:=J (KK.out.dO h12 f (tt,0) pp SC.out RP.out OP.out);have BN:=J (show xG wf (kF b f (tt,0) pp).1 (o1,n1,c1) (aa,an,ac) (sa,sn,iD) (ea,en,ec) (o5,n5,c5) from ⟨hbr,by rw [mQ.out.2.1]; exact (ku.out.on hb).no⟩);clear hbr;clear ku qh tV tX oZ;have jG:=J (jB.out.trans (hb.mono jB.out.size));have jH:=J (lS.out.on hb);have jI:=J (lT.out.on hb);have fD:=J (jA.out.on hb);clear jB lS lT jA;clear hb;obtain⟨k0,k1,k2,k3,k4,k5⟩:=fD.out.fA;obtain⟨pG,pI,pJ,pK,pO,pQ⟩:=fD.out.kg;have zz:=fD.out.lt;have G1:=J (dD (b:=w.heap.size+1+1) jG.out (by omega) (K L 0) (D o1 n1 c1) (D aa an ac) (D sa sn iD) (D ea en ec) (D o5 n5 c5));have G3:=J (dK fD.out (K L 0) (D o1 n1 c1) (D aa an ac) (D sa sn iD) (D ea en ec) (D o5 n5 c5));have Ga:=J (show dJ _ _ _ _ from (dH wf (w.heap.size+1+1) (K L 0) (D o1 n1 c1) (D aa an ac) (D sa sn iD) (D ea en ec) (D o5 n5 c5) w.heap.size (by omega)).trans jH.out);have Gb:=J (show dJ _ _ _ _ from (dH wf (w.heap.size+1+1) (K L 0) (D o1 n1 c1) (D aa an ac) (D sa sn iD) (D ea en ec) (D o5 n5 c5) (w.heap.size+1) (by omega)).trans jI.out);have GN:=J (BN.out.keep (s1:=(o1,n1,c1)) (s2:=(o2,n2,c2)) (s3:=(o3,n3,c3)) (s4:=(o4,n4,c4)) (s5:=(o5,n5,c5)) fD.out (gD wf (w.heap.size+1+1) (K L 0) (D o1 n1 c1) (D aa an ac) (D sa sn iD) (D ea en ec) (D o5 n5 c5)));clear BN jG jH jI fD;go_upto_region 9 with fail;clear zz k0 k1 k2 k3 k4 k5 pG pI pJ pK pO pQ;unfold gP at G1 G3 Ga Gb GN;generalize ((((((wf.setCell ⟨w.heap.size+1+1,0,Q⟩ (K L 0)).setCell ⟨w.heap.size+1+1,1,Q⟩ (D o1 n1 c1)).setCell ⟨w.heap.size+1+1,2,Q⟩ (D aa an ac)).setCell ⟨w.heap.size+1+1,3,Q⟩ (D sa sn iD)).setCell ⟨w.heap.size+1+1,4,Q⟩ (D ea en ec)).setCell ⟨w.heap.size+1+1,5,Q⟩ (D o5 n5 c5))=wg at *;have MX:=J (mQ.out.1.trans ME.out);have NX:=J (show 1<=((kF b f (tt,0) pp).1).near.length from by rw [mQ.out.2.1]; exact NL.out);have SX:=J (show Uc ((kF b f (tt,0) pp).1) from ⟨⟨fun x hx=>by rcases mQ.out.2.2 x hx with h | h; exact SN.out.1.1 x h; rw [h]; exact TB.out,Fg SN.out.1.2 _ _ _⟩,Go.Proofs.YtkcfgbddlpomgaaGreat.Sb.sV KK.out.ok SN.out.2.1 _ _ _ SC.out RP.out,by rw [mQ.out.2.1]; exact SN.out.2.2⟩);go_wp2_with fail
      go_roundw
      case rel=>exact⟨i+1,(kF b f (tt,0) pp).1,o1,n1,c1,aa,an,ac,sa,sn,iD,ea,en,ec,o5,n5,c5,hc,h12,by go_num,G1.out,Ga.out,Gb.out,G3.out,GN.out,IK.out,MX.out,NX.out,SX.out⟩
      case measure=>simp [intOf]; omega
     ·go_wp2_with fail;refine CB.out.mono ?_;rintro e5 wf ⟨⟨⟨ea,en,ec⟩,⟨oa,lH,oc⟩,_,rfl,hbr,_⟩,hb⟩;clear CS CA CB CU;clear x0 x1 x2 x3 x4 x5 Es y_1 z0 z1 q0 q1 q2 q3 q4 q5 q6;have mQ:=J (Xr (tt,0) b (i1,i2) pp);have IK:=J (KK.out.subs h12 (i1,i2) pp RP.out OP.out);have BN:=J (show xG wf (kr b (i1,i2) pp).1 (o1,n1,c1) (o2,n2,c2) (o3,n3,c3) (ea,en,ec) (oa,lH,oc) from ⟨hbr,by rw [mQ.out.2.1]; exact (ku.out.on hb).no⟩);clear hbr;clear ku qh tV tX oZ;have jG:=J (jB.out.trans (hb.mono jB.out.size));have jH:=J (lS.out.on hb);have jI:=J (lT.out.on hb);have fD:=J (jA.out.on hb);clear jB lS lT jA;clear hb;obtain⟨k0,k1,k2,k3,k4,k5⟩:=fD.out.fA;obtain⟨pG,pI,pJ,pK,pO,pQ⟩:=fD.out.kg;have zz:=fD.out.lt;have G1:=J (dD (b:=w.heap.size+1+1) jG.out (by omega) (K L 0) (D o1 n1 c1) (D o2 n2 c2) (D o3 n3 c3) (D ea en ec) (D oa lH oc));have G3:=J (dK fD.out (K L 0) (D o1 n1 c1) (D o2 n2 c2) (D o3 n3 c3) (D ea en ec) (D oa lH oc));have Ga:=J (show dJ _ _ _ _ from (dH wf (w.heap.size+1+1) (K L 0) (D o1 n1 c1) (D o2 n2 c2) (D o3 n3 c3) (D ea en ec) (D oa lH oc) w.heap.size (by omega)).trans jH.out);have Gb:=J (show dJ _ _ _ _ from (dH wf (w.heap.size+1+1) (K L 0) (D o1 n1 c1) (D o2 n2 c2) (D o3 n3 c3) (D ea en ec) (D oa lH oc) (w.heap.size+1) (by omega)).trans jI.out);have GN:=J (BN.out.keep (s1:=(o1,n1,c1)) (s2:=(o2,n2,c2)) (s3:=(o3,n3,c3)) (s4:=(o4,n4,c4)) (s5:=(o5,n5,c5)) fD.out (gD wf (w.heap.size+1+1) (K L 0) (D o1 n1 c1) (D o2 n2 c2) (D o3 n3 c3) (D ea en ec) (D oa lH oc)));clear BN jG jH jI fD;go_upto_region 9 with fail;clear zz k0 k1 k2 k3 k4 k5 pG pI pJ pK pO pQ;unfold gP at G1 G3 Ga Gb GN;generalize ((((((wf.setCell ⟨w.heap.size+1+1,0,Q⟩ (K L 0)).setCell ⟨w.heap.size+1+1,1,Q⟩ (D o1 n1 c1)).setCell ⟨w.heap.size+1+1,2,Q⟩ (D o2 n2 c2)).setCell ⟨w.heap.size+1+1,3,Q⟩ (D o3 n3 c3)).setCell ⟨w.heap.size+1+1,4,Q⟩ (D ea en ec)).setCell ⟨w.heap.size+1+1,5,Q⟩ (D oa lH oc))=wg at *;have MX:=J (mQ.out.1.trans ME.out);have NX:=J (show 1<=((kr b (i1,i2) pp).1).near.length from by rw [mQ.out.2.1]; exact NL.out);have SX:=J (show Uc ((kr b (i1,i2) pp).1) from ⟨⟨fun x hx=>by rcases mQ.out.2.2 x hx with h | h; exact SN.out.1.1 x h; rw [h]; exact TB.out,Xq SN.out.1.2 _ _ IB.out⟩,Go.Proofs.YtkcfgbddlpomgaaGreat.Sb.Kc KK.out.ok SN.out.2.1 _ _ RP.out,by rw [mQ.out.2.1]; exact SN.out.2.2⟩);go_wp2_with fail
      go_roundw
      case rel=>exact⟨i+1,(kr b (i1,i2) pp).1,o1,n1,c1,o2,n2,c2,o3,n3,c3,ea,en,ec,oa,lH,oc,hc,h12,by go_num,G1.out,Ga.out,Gb.out,G3.out,GN.out,IK.out,MX.out,NX.out,SX.out⟩
      case measure=>simp [intOf]; omega
     ·go_wp2_with fail;refine CU.out.mono ?_;rintro e5 wf ⟨⟨⟨ea,en,ec⟩,⟨oa,lH,oc⟩,_,rfl,hbr,_⟩,hb⟩;clear CS CA CB CU;clear x0 x1 x2 x3 x4 x5 Es y_1 z0 z1 q0 q1 q2 q3 q4 q5 q6;have mQ:=J (Pn (tt,0) b (i1,i2));have IK:=J (KK.out.abG (i1,i2));have BN:=J (show xG wf (iF b (i1,i2)).1 (o1,n1,c1) (o2,n2,c2) (o3,n3,c3) (ea,en,ec) (oa,lH,oc) from ⟨hbr,by rw [mQ.out.2.1]; exact (ku.out.on hb).no⟩);clear hbr;clear ku qh tV tX oZ;have jG:=J (jB.out.trans (hb.mono jB.out.size));have jH:=J (lS.out.on hb);have jI:=J (lT.out.on hb);have fD:=J (jA.out.on hb);clear jB lS lT jA;clear hb;obtain⟨k0,k1,k2,k3,k4,k5⟩:=fD.out.fA;obtain⟨pG,pI,pJ,pK,pO,pQ⟩:=fD.out.kg;have zz:=fD.out.lt;have G1:=J (dD (b:=w.heap.size+1+1) jG.out (by omega) (K L 0) (D o1 n1 c1) (D o2 n2 c2) (D o3 n3 c3) (D ea en ec) (D oa lH oc));have G3:=J (dK fD.out (K L 0) (D o1 n1 c1) (D o2 n2 c2) (D o3 n3 c3) (D ea en ec) (D oa lH oc));have Ga:=J (show dJ _ _ _ _ from (dH wf (w.heap.size+1+1) (K L 0) (D o1 n1 c1) (D o2 n2 c2) (D o3 n3 c3) (D ea en ec) (D oa lH oc) w.heap.size (by omega)).trans jH.out);have Gb:=J (show dJ _ _ _ _ from (dH wf (w.heap.size+1+1) (K L 0) (D o1 n1 c1) (D o2 n2 c2) (D o3 n3 c3) (D ea en ec) (D oa lH oc) (w.heap.size+1) (by omega)).trans jI.out);have GN:=J (BN.out.keep (s1:=(o1,n1,c1)) (s2:=(o2,n2,c2)) (s3:=(o3,n3,c3)) (s4:=(o4,n4,c4)) (s5:=(o5,n5,c5)) fD.out (gD wf (w.heap.size+1+1) (K L 0) (D o1 n1 c1) (D o2 n2 c2) (D o3 n3 c3) (D ea en ec) (D oa lH oc)));clear BN jG jH jI fD;go_upto_region 9 with fail;clear zz k0 k1 k2 k3 k4 k5 pG pI pJ pK pO pQ;unfold gP at G1 G3 Ga Gb GN;generalize ((((((wf.setCell ⟨w.heap.size+1+1,0,Q⟩ (K L 0)).setCell ⟨w.heap.size+1+1,1,Q⟩ (D o1 n1 c1)).setCell ⟨w.heap.size+1+1,2,Q⟩ (D o2 n2 c2)).setCell ⟨w.heap.size+1+1,3,Q⟩ (D o3 n3 c3)).setCell ⟨w.heap.size+1+1,4,Q⟩ (D ea en ec)).setCell ⟨w.heap.size+1+1,5,Q⟩ (D oa lH oc))=wg at *;have MX:=J (mQ.out.1.trans ME.out);have NX:=J (show 1<=((iF b (i1,i2)).1).near.length from by rw [mQ.out.2.1]; exact NL.out);have SX:=J (show Uc ((iF b (i1,i2)).1) from ⟨⟨fun x hx=>by rcases mQ.out.2.2 x hx with h | h; exact SN.out.1.1 x h; rw [h]; exact TB.out,Pm SN.out.1.2 _⟩,Go.Proofs.YtkcfgbddlpomgaaGreat.Sb.Fh SN.out.2.1 _,by rw [mQ.out.2.1]; exact SN.out.2.2⟩);go_wp2_with fail
      go_roundw
      case rel=>exact⟨i+1,(iF b (i1,i2)).1,o1,n1,c1,o2,n2,c2,o3,n3,c3,ea,en,ec,oa,lH,oc,hc,h12,by go_num,G1.out,Ga.out,Gb.out,G3.out,GN.out,IK.out,MX.out,NX.out,SX.out⟩
      case measure=>simp [intOf]; omega
    ·have hx:n<=i\/(i<n/\12<=i):=by omega
     rcases hx with hx|⟨hx,hy⟩
     all_goals
      first | (have q1:¬ ((i:Int)<(n:Int)):=(by omega)) | (have q1:(i:Int)<(n:Int):=(by omega); have q2:¬ ((i:Int)<12):=(by omega))
      obtain⟨x0,x1⟩:=Mw.out.cs2;obtain⟨k0,k1,k2,k3,k4,k5⟩:=Uf.out.fA;obtain⟨r0,r1,r2,r3,r4,r5⟩:=Ac.out.fA;obtain⟨Cx,Cy,Cz,CF,CG,CJ⟩:=Ac.out.kg;have zz:=Ac.out.lt;have GG:=J (dK Ac.out (K L 0) (D o1 n1 c1) (D o2 n2 c2) (D o3 n3 c3) (D o4 n4 c4) (D o5 n5 c5));have BL:=J (dD (b:=w.heap.size+1) rX.out (by omega) (K L 0) (D o1 n1 c1) (D o2 n2 c2) (D o3 n3 c3) (D o4 n4 c4) (D o5 n5 c5));have GN:=J (Ug.out.keep (s1:=(Q,0,0)) (s2:=(Q,0,0)) (s3:=(Q,0,0)) (s4:=(Q,0,0)) (s5:=(Q,0,0)) Ac.out (gD wr (w.heap.size+1) (K L 0) (D o1 n1 c1) (D o2 n2 c2) (D o3 n3 c3) (D o4 n4 c4) (D o5 n5 c5)));have K12:KI 12 b:=⟨KK.out.ok,KK.out.pa,KK.out.pe,KK.out.po,KK.out.ln,U KK.out.ls Xv,U KK.out.la Xv,U KK.out.lo Xv,U KK.out.le (Nat.mul_le_mul_right 12 Xv)⟩;have KH:=J K12;clear K12;go_wp2_with fail;obtain⟨v0,v1,v2,v3,v4,v5⟩:=GG.out.fA;refine au (v:=bf #[K L 0,D o1 n1 c1,D o2 n2 c2,D o3 n3 c3,D o4 n4 c4,D o5 n5 c5]) (by simp [results,Tryz.results7,go_sem,v0,v1,v2,v3,v4,v5]) rfl ?_;refine⟨⟨b,o1,n1,c1,o2,n2,c2,o3,n3,c3,o4,n4,c4,o5,n5,c5,by rw [ME.out],GN.out,KH.out,NL.out,SN.out⟩,BL.out⟩
theorem mo {p:List C5} (h:dW p):p.length<=5:=by
 obtain⟨a,na,rfl⟩:=h;rw [aT];exact na.five
theorem KI.few {b:Br} (h:KI 12 b):Np b:=⟨U h.ln (by decide),U h.la (by decide),U h.ls (by decide),U h.le (by decide),U h.lo (by decide)⟩
theorem KI.Bf {b:Br} (h:KI 12 b):xQ b:=⟨fun a q=>U (mo (h.pa a q)) (by decide),fun a q=>U (mo (h.pe a q)) (by decide),fun a q=>U (mo (h.po a q)) (by decide)⟩
abbrev z5:C5:=(⟨#[]⟩,0,0,0,⟨#[]⟩)
abbrev c0 (b:Br) (z:Int):Br:={ b with near:=b.near++[z] }
abbrev c1 (b:Br):Br:={ b with dO:=b.dO++[⟨(99,0),[],-1⟩] }
abbrev c2 (b:Br):Br:={ b with ent:=b.ent++[⟨(98,0),(0,0),[],-1,aD⟩] }
abbrev c3 (b:Br):Br:={ b with own:=b.own++[⟨(-1,0),[]⟩,⟨(-1,0),[]⟩] }
abbrev c4 (b:Br):Br:={ b with seen:=b.seen++[(97,0),(97,0)] }
abbrev c5 (b:Br):Br:={ b with own:=[⟨(-5,0),[z5]⟩]++b.own }
end Av
end Go.Proofs.YtkcfgbddlpomgaaGreat
