/-
  What SubsFrom wants,. Conditions as told.
-/
import Derived.Test.YtmklifheakemeaaVQ043
import Derived.Test.YtmklifheakemeaaVQ038
set_option maxRecDepth 100000
set_option maxHeartbeats 64000000
open _root_.Bool renaming true->aI,false->aK
open _root_.Go renaming Addr->aj,Value->aC,World->aF
open Go.Instr renaming sliceAt->aS,indexAt->bF
open Go.IntKind renaming i64->V
open Go.Lib renaming hid->ah
open Go.Operand renaming tmp->Z
open Go.Proofs.Try renaming prog->aJ
open Go.Proofs.Ytmklifheakemeaa.Rg renaming dz->aA,dD->aD,get_put->aO,eH->aX,dV->bf,ig->bJ,dF->bK,fK->bL,fH->bM,mO->bO,fQ->bP,lF->bQ,mI->bS,o9->bU,qx->bV
open Go.RowKit.Below renaming refl->Y
open Go.Value renaming slice->J,pointer->L,int->U,bool->au,agg->aL
open _root_.List renaming mem_iff_getElem?->ay,getElem?_eq_some_iff->aB,getElem?_toArray->aG,getElem?_eq_getElem->aR,pairwise_singleton->aT,getElem?_set_self->aU,mem_of_getElem?->aV,getElem?_set_ne->aW,mem_singleton->aY,mem_map->aZ,length_take->bg,getElem_mem->bq,map_toArray->bA,mem_append->bD,map_cons->bH,map_nil->bI
open List.Pairwise renaming nil->aN
open _root_.Nat renaming le_trans->aM,le_refl->aQ
open _root_.Option renaming none->O,some->X
open Option.some renaming inj->aH
open _root_.Or renaming inr->ak,inl->aP
namespace Go.Proofs.Ytmklifheakemeaa.Sb
open Go.RowKit Go.Sort Rw Ytmklifheakemeaa.Nm Pr Bk Av Rl
theorem qc {m:List En} (hr:fC m) {i j:Nat} {x y:En} (hx:m[i]?=X x) (hy:m[j]?=X y) (h:dI x=dI y):i=j:=by
 rcases Nat.lt_trichotomy i j with q|q|q
 ·have:=(iL x y).2 (qO hr q hx hy);rw [h,lH] at this;cases this
 ·exact q
 ·have:=(iL y x).2 (qO hr q hy hx);rw [h,lH] at this;cases this
theorem qW {m:List En} (hr:fC m) {e:En} (he:e∈m):kU m e.tree e.sub=X e/\gy m e.tree e.sub=aI:=by
 have ft:=jV hr e.tree e.sub;have hk:dI e∈m.map dI:=aZ.2 ⟨e,he,rfl⟩;have ht:gy m e.tree e.sub=aI:=by
  cases h:gy m e.tree e.sub with
  | true=>rfl
  | false =>
   rw [h,if_neg (by simp)] at ft;rcases jS (m.map dI) (dI e) with q|⟨k,q,r⟩
   ·exfalso;obtain⟨j,hj⟩:=ay.1 hk;have:∀ l:List (eu×eu),gG l (dI e)=-1->dI e ∉ l:=by
     intro l
     induction l with
     | nil=>intro _ h; simp at h
     | cons a l ih =>
      intro h2 h3;rw [gG] at h2
      split at h2
      ·cases h2
      ·rename_i hne
       split at h2
       ·rename_i h4
        rcases List.mem_cons.1 h3 with h5|h5
        ·exact hne h5.symm
        ·exact ih h4 h5
       ·rename_i h4
        rcases jS l (dI e) with h5|⟨k,h5,_⟩
        ·exact h4 h5
        ·rw [h5] at h2; omega
    exact this _ q hk
   ·rw [show gG (m.map dI) (e.tree,e.sub)=gG (m.map dI) (dI e) from rfl,q] at ft;omega
 obtain⟨e',h1,h2,h3⟩:=jN ht;obtain⟨j,hj⟩:=ay.1 he;have hij:=qc hr h1 hj h2;rw [hij,hj] at h1;obtain rfl:=aH h1;exact⟨h3,ht⟩
theorem Ba {m:List En} {t s:eu} (h:∀ e∈m,dI e≠(t,s)):gy m t s=aK:=by
 unfold gy;cases hm:m[dN (m.map dI) (t,s)]? with
 | none=>rfl
 | some e=>exact decide_eq_false (h e (aV hm))
theorem Js {m:List En} (hr:fC m) {j:Nat} {x:En} (hx:m[j]?=X x):∀ y∈cutAt m j,dI y≠dI x:=by
 intro y hy h;unfold cutAt at hy;rcases bD.1 hy with q|q
 ·obtain⟨i,hi⟩:=ay.1 q;have hl:=(aB.1 hi).1;rw [bg] at hl;rw [List.getElem?_take_of_lt (by omega)] at hi;have:=qc hr hi hx h;omega
 ·obtain⟨i,hi⟩:=ay.1 q;rw [List.getElem?_drop] at hi;have:=qc hr hi hx h;omega
theorem Bb {c:Br} (hr:fC c.ent) {e1:En} (he:e1∈c.ent):∃ (g:Br) (ups:List En),takeB c e1.tree e1.sub e1.from_=(g,ups,e1.up)/\(∀ e∈g.ent,dI e≠dI e1)/\g.ent.length+1=c.ent.length/\(e1.up=aK->ups=[])/\fC g.ent/\(∀ P:List C5->Prop,(∀ e∈c.ent,P e.p)->∀ e∈g.ent,P e.p):=by
 obtain⟨hf,ht⟩:=qW hr he;obtain⟨e',h1,h2,h3⟩:=jN ht;rw [hf] at h3;obtain rfl:=aH h3;have ft:=jV hr e1.tree e1.sub;rw [ht,if_pos rfl] at ft;have hck:=Js hr h1;have hlt:=(aB.1 h1).1;have hcl:(cutAt c.ent (dN (c.ent.map dI) (e1.tree,e1.sub))).length+1=c.ent.length:=by
  unfold cutAt;rw [List.length_append,bg,List.length_drop];omega
 have hrc:fC (cutAt c.ent (dN (c.ent.map dI) (e1.tree,e1.sub))):=hr.sublist (l7 _ _);unfold takeB;rw [ft,Int.toNat_natCast,h1];simp only;rw [if_neg (show ¬ ((dN (c.ent.map dI) (e1.tree,e1.sub):Int)=-1) by omega),if_neg (by simp)];have hmc:∀ P:List C5->Prop,(∀ e∈c.ent,P e.p)->∀ e∈cutAt c.ent (dN (c.ent.map dI) (e1.tree,e1.sub)),P e.p:=fun P hP e he=>hP e (p9 he);generalize cutAt c.ent (dN (c.ent.map dI) (e1.tree,e1.sub))=m at *;cases hu:e1.up with
 | false =>
  rw [if_pos rfl];exact⟨_,_,rfl,hck,hcl,fun _=>rfl,hrc,hmc⟩
 | true =>
  rw [if_neg (by simp)];have hkk:(fO e1.tree m m.length).1.map dI=m.map dI:=by
   have:∀ k,(fO e1.tree m k).1.map dI=m.map dI:=by
    intro k
    induction k with
    | zero=>rfl
    | succ k ih =>
     rw [gq,<- ih];unfold fA
     split
     ·rfl
     ·rename_i e he
      split
      ·rw [List.map_set];refine List.ext_getElem? fun j=>?_;rw [List.getElem?_set]
       split
       ·rename_i hj
        subst hj
        split
        ·rw [List.getElem?_map,he]; rfl
        ·rename_i hl
         rw [List.getElem?_eq_none (by simpa using hl)]
       ·rfl
      ·rfl
   exact this _
  refine⟨_,_,rfl,fun e he=>?_,?_,fun h=>(by cases h),?_,fun P hP e he=>?_⟩
  ·have hk:dI e∈m.map dI:=by rw [<- hkk]; exact aZ.2 ⟨e,he,rfl⟩
   obtain⟨z,hz,Tx⟩:=aZ.1 hk;rw [<- Tx];exact hck z hz
  ·show (fO e1.tree m m.length).1.length+1=_;rw [(jA e1.tree m _).1];exact hcl
  ·show fC (fO e1.tree m m.length).1;have g:∀ l:List En,fC l↔(l.map dI).Pairwise fun x y=>gL x y=aI:=fun l=>by
    rw [List.pairwise_map];exact⟨fun q=>q.imp fun {a b} r=>(iL a b).2 r,fun q=>q.imp fun {a b} r=>(iL a b).1 r⟩
   rw [g,hkk,<- g];exact hrc
  ·exact (xZ P (hmc P hP) _).1 e he
theorem DW {b:Br} (hr:fC b.ent) (e:En) (hn:∀ y∈b.ent,dI y≠dI e) :
  (fT b.fI e.tree=O/\dU b e=(b,aK))\/(∃ a,fT b.fI e.tree=X a/\e.from_=a.par/\a.par≠-1/\dU b e=(b,aK)) \/
  (∃ a u,fT b.fI e.tree=X a/\(e.from_=-1\/e.from_≠a.par)/\(u=aI->a.par≠-1)/\dU b e=({ b with ent:=fP b.ent (dN (b.ent.map dI) (dI e)) { e with up:=u } },u)/\u=(!(a.par == -1) && !dJ b.ent e.tree e.p)):=by
 have ht:gy b.ent e.tree e.sub=aK:=Ba hn;rw [<- oq hr];unfold yI;cases hf:fT b.fI e.tree with
 | none=>exact aP ⟨rfl,rfl⟩
 | some a =>
  right;simp only;rw [if_neg (by rw [ht]; simp)];by_cases hp:e.from_=a.par/\a.par≠-1
  ·rw [if_pos hp];exact aP ⟨a,rfl,hp.1,hp.2,rfl⟩
  ·rw [if_neg hp];refine ak ⟨a,_,rfl,?_,fun h=>?_,rfl,rfl⟩
   ·by_cases h1:e.from_=a.par
    ·left;rw [h1];exact Decidable.byContradiction fun q=>hp ⟨h1,q⟩
    ·exact ak h1
   ·intro q;rw [q] at h;simp at h
abbrev Qj (t:eu):Br:=⟨4,[0,1],[⟨t,[],0⟩],[t],[],[]⟩
structure One (t:eu) (n:Nat) (b:Br):Prop where
 ok:yD b
 me:b.me=4
 near:b.near=[0,1]
 fI:b.fI=[⟨t,[],0⟩]
 seen:b.seen=[t]
 own:b.own=[]
 tight:oU b
 pe:∀ e∈b.ent,eO e.p
 tr:∀ e∈b.ent,e.tree=t/\e.from_=1
 len:b.ent.length=n
theorem One.few {t:eu} {n:Nat} {b:Br} (h:One t n b) (hn:n<=900):wM b :=
 ⟨by rw [h.near]; decide,by rw [h.fI]; exact (by decide:1<=900),by rw [h.seen]; exact (by decide:1<=900),by rw [h.len]; exact hn,by rw [h.own]; decide⟩
theorem One.tC {t:eu} {n:Nat} {b:Br} (h:One t n b):lW b :=
 ⟨by rw [h.fI]; simp,fun e q=>aM (l8 (h.pe e q)) (by decide),by rw [h.own]; simp⟩
theorem Jt (t:eu):One t 0 (Qj t) :=
 ⟨⟨by simp,aT _ _,aT _ _,aN,aN,fun a h=>(by
   obtain rfl:=aY.1 h;exact⟨by simp,rfl,rfl⟩),fun e h=>by simp at h,fun o h=>by simp at h⟩,rfl,rfl,rfl,rfl,rfl,fun _ _ _ e h=>by simp at h,fun e h=>by simp at h,fun e h=>by simp at h,rfl⟩
theorem GA (p:List C5):jD p p=aI:=xL _
theorem One.find {t:eu} {n:Nat} {b:Br} (h:One t n b):fT b.fI t=X ⟨t,[],0⟩:=by rw [h.fI]; simp [fT]
theorem One.br {t:eu} {n:Nat} {b:Br} (h:One t n b):jv b.ent t=b.ent:=by
 rw [qM h.ok.ent];exact List.filter_eq_self.2 fun e he=>by simpa using (h.tr e he).1
theorem One.there {t:eu} {n:Nat} {b:Br} (h:One t n b) {e:En} (he:e∈b.ent):kU b.ent t e.sub=X e:=by
 have:=(qW h.ok.ent he).1;rw [(h.tr e he).1] at this;exact this
theorem one_add {t s:eu} {n:Nat} {b:Br} (h:One t n b) {p:List C5} (hn:∀ y∈b.ent,y.sub≠s) (hp:eO p) (hr:Wr.jJ p=aI) :
  dU b ⟨t,s,p,1,aK⟩=({ b with ent:=fP b.ent (dN (b.ent.map dI) (t,s)) ⟨t,s,p,1,!dJ b.ent t p⟩ },!dJ b.ent t p)/\One t (n+1) (dU b ⟨t,s,p,1,aK⟩).1/\(∀ z,z∈(dU b ⟨t,s,p,1,aK⟩).1.ent↔z=⟨t,s,p,1,!dJ b.ent t p⟩\/z∈b.ent)/\dJ (dU b ⟨t,s,p,1,aK⟩).1.ent t p=aI:=by
 have H:=KF h.ok ⟨t,s,p,1,aK⟩ (by rw [h.near]; exact (rfl:wN [0,1] 1=aI)) hr;have HT:=Dw h.ok ⟨t,s,p,1,aK⟩ h.tight;rcases DW h.ok.ent ⟨t,s,p,1,aK⟩ (fun y hy e=>hn y hy (congrArg Prod.snd e)) with⟨hf,_⟩|⟨a,hf,h2,_,_⟩|⟨a,u,hf,_,_,he,hu⟩
 ·rw [show fT b.fI (⟨t,s,p,1,aK⟩:En).tree=_ from h.find] at hf; cases hf
 ·rw [show fT b.fI (⟨t,s,p,1,aK⟩:En).tree=_ from h.find] at hf;obtain rfl:=aH hf;exact absurd (show (1:Int)=0 from h2) (by decide)
 ·rw [show fT b.fI (⟨t,s,p,1,aK⟩:En).tree=_ from h.find] at hf;obtain rfl:=aH hf;have hu2:u=!dJ b.ent t p:=by rw [hu]; rfl
  subst hu2;have he2:dU b ⟨t,s,p,1,aK⟩=({ b with ent:=fP b.ent (dN (b.ent.map dI) (t,s)) ⟨t,s,p,1,!dJ b.ent t p⟩ },!dJ b.ent t p):=he;rw [he2] at H HT ⊢;have hm:∀ z,z∈fP b.ent (dN (b.ent.map dI) (t,s)) (⟨t,s,p,1,!dJ b.ent t p⟩:En)↔z=⟨t,s,p,1,!dJ b.ent t p⟩\/z∈b.ent:=fun z=>nZ _ _ _ _;refine⟨rfl,⟨H,h.me,h.near,h.fI,h.seen,h.own,HT,fun e q=>?_,fun e q=>?_,(DC _ _ _).trans (by rw [h.len])⟩,hm,?_⟩
  ·rcases (hm e).1 q with rfl|q
   ·exact hp
   ·exact h.pe e q
  ·rcases (hm e).1 q with rfl|q
   ·exact⟨rfl,rfl⟩
   ·exact h.tr e q
  ·cases hc:dJ b.ent t p with
   | true =>
    obtain⟨z,h1,h2⟩:=(iM _ _ _).1 hc;exact (iM _ _ _).2 ⟨z,(nZ _ _ _ _).2 (ak h1),h2⟩
   | false=>exact (iM _ _ _).2 ⟨_,(nZ _ _ _ _).2 (aP rfl),rfl,rfl,GA p⟩
theorem DX (b:Br) (t s:eu) (f:Int):(takeB b t s f).1.me=b.me/\(takeB b t s f).1.near=b.near/\(takeB b t s f).1.fI=b.fI/\(takeB b t s f).1.seen=b.seen/\(takeB b t s f).1.own=b.own:=by
 unfold takeB
 split
 ·exact⟨rfl,rfl,rfl,rfl,rfl⟩
 ·split
  ·exact⟨rfl,rfl,rfl,rfl,rfl⟩
  ·split
   ·exact⟨rfl,rfl,rfl,rfl,rfl⟩
   ·split <;> exact⟨rfl,rfl,rfl,rfl,rfl⟩
theorem qd (t:eu) (m:List En):∀ (k j:Nat) (z0:En),m[j]?=X z0->∃ z,(fO t m k).1[j]?=X z/\(z=z0\/z=uM z0)
 | 0,_,z0,h=>⟨z0,h,aP rfl⟩
 | k+1,j,z0,h=>by
  obtain⟨z,h1,h2⟩:=qd t m k j z0 h;rw [gq];unfold fA
  split
  ·exact⟨z,h1,h2⟩
  ·rename_i e he
   split
   ·by_cases hk:k=j
    ·subst hk;rw [he] at h1;obtain rfl:=aH h1;have hl:=(aB.1 he).1;refine⟨uM e,by rw [aU hl],?_⟩;rcases h2 with rfl|rfl
     ·exact ak rfl
     ·exact ak rfl
    ·exact⟨z,by rw [aW hk]; exact h1,h2⟩
   ·exact⟨z,h1,h2⟩
theorem Bc (t:eu) (m:List En) (k:Nat) {z:En} (hz:z∈(fO t m k).1):∃ z0∈m,z=z0\/z=uM z0:=by
 obtain⟨j,hj⟩:=ay.1 hz;have hl:=(aB.1 hj).1;rw [(jA t m k).1] at hl;obtain⟨z',h1,h2⟩:=qd t m k j m[j] (aR hl);rw [hj] at h1;obtain rfl:=aH h1;exact⟨_,bq hl,h2⟩
theorem wu (t:eu) (m:List En):∀ k,k<=m.length->∀ y∈(fO t m k).2,y∈(fO t m k).1/\y.up=aI/\∃ z0∈m,y=uM z0/\z0.tree=t/\z0.up=aK/\dJ m t z0.p=aK
 | 0,_,y,h=>by simp [fO] at h
 | k+1,hk,y,h=>by
  have ih:=wu t m k (by omega);obtain⟨_,h2,_⟩:=qN t m k (by omega);obtain⟨e,he,heq⟩:=qd t m k k m[k] (aR (by omega));have hmk:m[k]∈m:=bq _;generalize m[k]=z0 at *;rw [gq] at h ⊢;generalize fO t m k=s at *;unfold fA at h ⊢;rw [he] at h ⊢;simp only at h ⊢;by_cases hc:e.tree=t/\e.up=aK/\dJ s.1 t e.p=aK
  ·rw [if_pos hc] at h ⊢;obtain⟨c1,c2,c3⟩:=hc;obtain rfl:e=z0:=by
    rcases heq with q|q
    ·exact q
    ·rw [q] at c2; cases c2
   rcases bD.1 h with h|h
   ·obtain⟨g1,g2,g3⟩:=ih y h;refine⟨(Ci he g1).resolve_left (fun q=>?_),g2,g3⟩;rw [q,c2] at g2; cases g2
   ·obtain rfl:=aY.1 h;refine⟨ay.2 ⟨k,aU (aB.1 he).1⟩,rfl,e,hmk,rfl,c1,c2,?_⟩;cases hq:dJ m t e.p with
    | false=>rfl
    | true=>rw [h2 t e.p hq] at c3; cases c3
  ·rw [if_neg hc] at h ⊢;exact ih y h
theorem GD {t:eu} {n:Nat} {b:Br} (h:One t (n+1) b) {e:En} (he:e∈b.ent) :
  (takeB b t e.sub 1).2.2=e.up/\(e.up=aK->(takeB b t e.sub 1).2.1=[])/\One t n (takeB b t e.sub 1).1/\(∀ z∈b.ent,z.sub≠e.sub->∃ z'∈(takeB b t e.sub 1).1.ent,z'.sub=z.sub)/\(∀ y∈(takeB b t e.sub 1).2.1,y∈(takeB b t e.sub 1).1.ent/\y.up=aI/\jD e.p y.p=aI)/\(takeB b t e.sub 1).2.1.length<=n:=by
 have H:=Jj h.ok t e.sub 1;have HT:=AV t e.sub 1 h.tight;obtain⟨r1,r2,r3,r4,r5⟩:=DX b t e.sub 1;obtain⟨g,ups,hg,_,hgl,hu0,_,_⟩:=Bb h.ok.ent he;rw [(h.tr e he).1,(h.tr e he).2] at hg;have hent:∃ j,b.ent[j]?=X e/\((e.up=aK/\(takeB b t e.sub 1).1.ent=cutAt b.ent j/\(takeB b t e.sub 1).2.1=[])\/(e.up=aI/\(takeB b t e.sub 1).1.ent=(fO t (cutAt b.ent j) (cutAt b.ent j).length).1/\(takeB b t e.sub 1).2.1=(fO t (cutAt b.ent j) (cutAt b.ent j).length).2)):=by
  obtain⟨_,ht⟩:=qW h.ok.ent he;obtain⟨e',h1,h2,h3⟩:=jN ht;obtain⟨jj,hjj⟩:=ay.1 he;have hij:=qc h.ok.ent h1 hjj h2;rw [hij,hjj] at h1;obtain rfl:=aH h1;have ft:=jV h.ok.ent e.tree e.sub;rw [ht,if_pos rfl,hij,(h.tr e he).1] at ft;refine⟨jj,hjj,?_⟩;unfold takeB;rw [ft,Int.toNat_natCast,hjj];simp only;rw [if_neg (show ¬ ((jj:Int)=-1) by omega),if_neg (by simp [(h.tr e he).2])];cases hu:e.up with
  | false=>exact aP ⟨rfl,rfl,rfl⟩
  | true=>exact ak ⟨rfl,rfl,rfl⟩
 have Nf:(takeB b t e.sub 1).1.ent.length+1=b.ent.length:=by rw [hg]; exact hgl
 have hup:(takeB b t e.sub 1).2.2=e.up:=by rw [hg]
 have hun:e.up=aK->(takeB b t e.sub 1).2.1=[]:=by rw [hg]; exact hu0
 obtain⟨j,hj,hcase⟩:=hent;have hback:∀ z∈(takeB b t e.sub 1).1.ent,∃ z0∈b.ent,z.tree=z0.tree/\z.from_=z0.from_/\z.p=z0.p:=by
  intro z hz;rcases hcase with⟨_,h1,_⟩|⟨_,h1,_⟩
  ·rw [h1] at hz;exact⟨z,p8 hz,rfl,rfl,rfl⟩
  ·rw [h1] at hz;obtain⟨z0,h2,h3⟩:=Bc _ _ _ hz;refine⟨z0,p8 h2,?_⟩;rcases h3 with rfl|rfl <;> exact⟨rfl,rfl,rfl⟩
 refine⟨hup,hun,⟨H,r1.trans h.me,r2.trans h.near,r3.trans h.fI,r4.trans h.seen,r5.trans h.own,HT,fun z hz=>?_,fun z hz=>?_,by rw [h.len] at Nf; omega⟩,fun z hz hne=>?_,?_,?_⟩
 ·obtain⟨z0,h1,_,_,h2⟩:=hback z hz;rw [h2]; exact h.pe z0 h1
 ·obtain⟨z0,h1,h2,h3,_⟩:=hback z hz;rw [h2,h3]; exact h.tr z0 h1
 ·have hzc:z∈cutAt b.ent j:=(lY hj hz).resolve_left fun q=>hne (by rw [q]);rcases hcase with⟨_,h1,_⟩|⟨_,h1,_⟩
  ·rw [h1]; exact⟨z,hzc,rfl⟩
  ·rw [h1];obtain⟨i,hi⟩:=ay.1 hzc;obtain⟨z',q1,q2⟩:=qd t (cutAt b.ent j) (cutAt b.ent j).length i z hi;exact⟨z',aV q1,by rcases q2 with rfl | rfl <;> rfl⟩
 ·intro y hy;rcases hcase with⟨_,_,h2⟩|⟨_,h1,h2⟩
  ·rw [h2] at hy; simp at hy
  ·rw [h2] at hy;obtain⟨g1,g2,z0,g3,g4,g5,g6,g7⟩:=wu _ _ _ (aQ _) y hy;rw [h1];refine⟨g1,g2,?_⟩;have hz0:z0∈b.ent:=p8 g3;have hc:=h.tight ⟨t,[],0⟩ (by rw [h.fI]; simp) (show (0:Int)≠-1 by decide) z0 hz0 g5 g6;obtain⟨q,q1,q2,q3,q4⟩:=(iM _ _ _).1 hc;rcases lY hj q1 with rfl|q5
   ·rw [g4]; exact q4
   ·exact absurd ((iM _ _ _).2 ⟨q,q5,q2,q3,q4⟩) (by rw [show (⟨t,[],0⟩:Ad).id=t from rfl,g7]; simp)
 ·rcases hcase with⟨_,_,h2⟩|⟨_,h1,h2⟩
  ·rw [h2]; exact Nat.zero_le _
  ·rw [h2];refine aM (jA t (cutAt b.ent j) _).2 ?_;rw [<- (jA t (cutAt b.ent j) (cutAt b.ent j).length).1,<- h1];rw [h.len] at Nf;omega
theorem Bd {W:aF} {pp:aj} {v u:aC} (h0:W.cell? (pp.add 0)=X v) (h1:W.cell? (pp.add 1)=X u):(Instr.loadAt 40 (L (X pp))).run aJ W=.ok (aL #[v,u]) W:=by
 rw [Rw.add_zero] at h0;simp [Addr.add] at h1;simp [go_sem,h0,h1]
def lJ (W:aF) (s:Sl) (m:List En):Prop:=∃ l,jR W (dR s) l/\eF (iC W) l m
theorem lJ.on {W W':aF} {s:Sl} {m:List En} (h:lJ W s m) (hb:Below W.heap.size W W'):lJ W' s m:=by
 obtain⟨l,h1,h2⟩:=h;exact⟨l,h1.on hb,h2.mono fun _ _ q=>q.on hb⟩
theorem lJ.keep {W W':aF} {k:Nat} {me:Int} {s1 s2 s3 s4 s5:Sl} {s:Sl} {m:List En} (h:lJ W s m) (hb:dH W k (lT me s1 s2 s3 s4 s5) 31) (hk:But k W W'):lJ W' s m:=by
 obtain⟨l,h1,h2⟩:=h;exact⟨l,iP kK h1 hk.1 (mP hb (fun c=>⟨_,_,rfl,rfl⟩) (pK me s1 s2 s3 s4 s5)),h2.mono fun x a hx=>⟨hx.1,hx.2.1,hx.2.2.1,hx.2.2.2.1,iP Ib hx.2.2.2.2 hk.1 (pJ hb (rC me s1 s2 s3 s4 s5))⟩⟩
theorem lJ.len {W:aF} {o:Option aj} {n c:Nat} {m:List En} (h:lJ W (o,n,c) m):n=m.length:=by
 obtain⟨l,h1,h2⟩:=h;rw [<- h2.len];exact (gX h1).symm
theorem DY {P:Program} (ρ:Operand->aC) (o:Oper) (x y z u:Operand) (t s r q:TypeId) (f:FuncId) (ho:o.op=.call { callee:=.value (.func f),args:=#[x,y,z,u],argTypes:=#[t,s,r,q] }) {v1 v2 v3 v4:aC} (hx:ρ x=v1) (hy:ρ y=v2) (hz:ρ z=v3) (hu:ρ u=v4) (hf:ρ (.func f)=.func (.func f) #[] #[]) (w:aF)
  (hc:(callFunc f #[v1,v2,v3,v4]).run P w=.ok (.enter f #[v1,v2,v3,v4]) w):(execOp ρ o).run P w=.ok (.enter f #[v1,v2,v3,v4]) w:=by
 simp [execOp,ho,resolve,invoke,hx,hy,hz,hu,hf,Deferred.ofValue,hc]
def Ng (_B:Nat) (_bB _bT:Nat) (b:Br) (s1:Option aj) (s2 s3:Nat) (s4:Option aj) (s5 s6:Nat) (s7:Option aj) (s8 s9:Nat) (s10:Option aj) (s11 s12:Nat) (s13:Option aj) (s14 s15:Nat) (rv:aC) (at_:Nat) (pp:aj) (t1 t2 x1 x2:Int) (i:Nat) (v:aC) (x:aF):Prop :=
 match i with
 | 0=>v=iN b.me (s1,s2,s3) (s4,s5,s6) (s7,s8,s9) (s10,s11,s12) (s13,s14,s15)
 | 1=>v=aL #[U V t1,U V t2]
 | 2=>v=rv
 | 3=>v=U V (at_:Int)
 | 4=>v=L (X pp)
 | 5=>v=aL #[U V x1,U V x2]
 | 6=>∃ nv av sv ev ov uv:Sl,v=.tuple #[iN (takeB b (t1,t2) (x1,x2) 1).1.me nv av sv ev ov,dR uv,au (takeB b (t1,t2) (x1,x2) 1).2.2]/\l6 x (takeB b (t1,t2) (x1,x2) 1).1 nv av sv ev ov/\lJ x uv (takeB b (t1,t2) (x1,x2) 1).2.1
 | 7=>∃ nv av sv ev ov uv:Sl,v=.tuple #[iN (takeB b (t1,t2) (x1,x2) 1).1.me nv av sv ev ov,dR uv,au (takeB b (t1,t2) (x1,x2) 1).2.2]/\l6 x (takeB b (t1,t2) (x1,x2) 1).1 nv av sv ev ov/\lJ x uv (takeB b (t1,t2) (x1,x2) 1).2.1
 | 8=>∃ nv av sv ev ov:Sl,v=iN (takeB b (t1,t2) (x1,x2) 1).1.me nv av sv ev ov/\l6 x (takeB b (t1,t2) (x1,x2) 1).1 nv av sv ev ov
 | 9=>∃ uv:Sl,v=dR uv/\lJ x uv (takeB b (t1,t2) (x1,x2) 1).2.1
 | 10=>v=au (takeB b (t1,t2) (x1,x2) 1).2.2
 | 11=>True
 | 12=>True
 | 13=>∃ uv:Sl,v=dR uv/\lJ x uv (takeB b (t1,t2) (x1,x2) 1).2.1
 | 14=>v=au (takeB b (t1,t2) (x1,x2) 1).2.2
 | _=>True
noncomputable def JQ:Code:=((Try.f3.body.bind (dZ 20)).getD .skip)
theorem Nh (Q:Exit->Act->aF->Prop) (W:aF) (bB bT:Nat) (b:Br) (s1:Option aj) (s2 s3:Nat) (s4:Option aj) (s5 s6:Nat) (s7:Option aj) (s8 s9:Nat) (s10:Option aj) (s11 s12:Nat) (s13:Option aj) (s14 s15:Nat) (rv:aC) (at_:Nat) (pp:aj) (t1 t2 x1 x2:Int) (u0 u1 u2 u3 u4 u7 u9 u10 u11 u12 u13 u15 u16 u17 u18 u19 u20 u21 u22 u23 u24 u25 u26 u27 u28 u29 u30 u31 u32 u33 u34 u35 u36 u37 u38 u39 u40 u41 u42 u43 u44 u45 u46 u47 u48 u49 u50 u51 u52 u53 u54 u55 u56 u57 u58 u59 u60 u61 u62 u63 u64 u65 u66 u67 u68 u69 u70 u71 u72 u73 u74 u75 u76 u77 u78 u79 u80 u81 u82 u83 u84 u85 u86 u87 u88 u89 u90 u91 u92 u93 u94 u95 u96 u97 u98 u99 u100 u101 u102 u103 u104 u105 u106 u107 u108 u109 u110 u111 u112 u113 u114 u115 u116 u117 u118 u119 u120 u121 u122 u123 u124 u125 u126 u127 u128 u129 u130 u131 u132 u133 u134 u135 u136 u137 u138 u139 u140 u141 u142 u143 u144 u145 u146 u147 u148 u149 u150 u151 u152 u153 u154 u155 u156 u157 u158 u159 u160 u161 u162 u163 u164 u165 u166 u167 u168 u169 u170 u171 u172 u173 u174 u175 u176 u177 u178 u179 u180 u181 u182 u183 u184 u185 u186 u187 u188 u189 u190 u191 u192 u193 u194 u195 u196 u197 u198 u199 u200 u201 u202 u203 u204 u205:aC)
  (eP:dH W bB #[U V b.me,J s1 s2 s3,J s4 s5 s6,J s7 s8 s9,J s10 s11 s12,J s13 s14 s15] 31) (bn:l6 W b (s1,s2,s3) (s4,s5,s6) (s7,s8,s9) (s10,s11,s12) (s13,s14,s15)) (fw:wM b) (fp:lW b) (re:fC b.ent) (ok:∀ e∈b.ent,eO e.p) (xt:dH W bT #[U V t1,U V t2] 25) (ix:∀ w,(bF 27 rv (U V (at_:Int))).run aJ w=.ok (L (X pp)) w) (px:∀ x,Below W.heap.size W x->∀ j u,(jk (x1,x2))[j]?=X u->x.cell? (pp.add j)=X u)
  (hQ:∀ (x:aF) (bb:Nat) (v105 v106 v107 v108 v109 v110 v111 v112 v113 v114 v115:aC) (m1:Option aj) (m2 m3:Nat) (m4:Option aj) (m5 m6:Nat) (m7:Option aj) (m8 m9:Nat) (m10:Option aj) (m11 m12:Nat) (m13:Option aj) (m14 m15:Nat) (o1:Option aj) (o2 o3:Nat),W.heap.size<=bb->dH x bb #[U V (takeB b (t1,t2) (x1,x2) 1).1.me,J m1 m2 m3,J m4 m5 m6,J m7 m8 m9,J m10 m11 m12,J m13 m14 m15] 31->l6 x (takeB b (t1,t2) (x1,x2) 1).1 (m1,m2,m3) (m4,m5,m6) (m7,m8,m9) (m10,m11,m12) (m13,m14,m15)->lJ x (o1,o2,o3) (takeB b (t1,t2) (x1,x2) 1).2.1->Below W.heap.size W x->Q .normal ⟨(u0::u1::u2::u3::u4::L (X ⟨bT,0,O⟩)::L (X ⟨bB,0,O⟩)::u7::rv::u9::u10::u11::u12::u13::U V (at_:Int)::L (X ⟨bb,0,O⟩)::J o1 o2 o3::au (takeB b (t1,t2) (x1,x2) 1).2.2::u18::u19::u20::u21::u22::u23::u24::u25::u26::u27::u28::u29::u30::u31::u32::u33::u34::u35::u36::u37::u38::u39::u40::u41::u42::u43::u44::u45::u46::u47::u48::u49::u50::u51::u52::u53::u54::u55::u56::u57::u58::u59::u60::u61::u62::u63::u64::u65::u66::u67::u68::u69::u70::u71::u72::u73::u74::u75::u76::u77::u78::u79::u80::u81::u82::u83::u84::u85::u86::u87::u88::u89::u90::u91::u92::u93::u94::u95::u96::u97::u98::u99::u100::u101::u102::u103::u104::v105::v106::v107::v108::v109::v110::v111::v112::v113::v114::v115::u116::u117::u118::u119::u120::u121::u122::u123::u124::u125::u126::u127::u128::u129::u130::u131::u132::u133::u134::u135::u136::u137::u138::u139::u140::u141::u142::u143::u144::u145::u146::u147::u148::u149::u150::u151::u152::u153::u154::u155::u156::u157::u158::u159::u160::u161::u162::u163::u164::u165::u166::u167::u168::u169::u170::u171::u172::u173::u174::u175::u176::u177::u178::u179::u180::u181::u182::u183::u184::u185::u186::u187::u188::u189::u190::u191::u192::u193::u194::u195::u196::u197::u198::u199::u200::u201::u202::u203::u204::u205::[]).toArray,[]⟩ x) :
  Code.wp aJ JQ Q ⟨(u0::u1::u2::u3::u4::L (X ⟨bT,0,O⟩)::L (X ⟨bB,0,O⟩)::u7::rv::u9::u10::u11::u12::u13::U V (at_:Int)::u15::u16::u17::u18::u19::u20::u21::u22::u23::u24::u25::u26::u27::u28::u29::u30::u31::u32::u33::u34::u35::u36::u37::u38::u39::u40::u41::u42::u43::u44::u45::u46::u47::u48::u49::u50::u51::u52::u53::u54::u55::u56::u57::u58::u59::u60::u61::u62::u63::u64::u65::u66::u67::u68::u69::u70::u71::u72::u73::u74::u75::u76::u77::u78::u79::u80::u81::u82::u83::u84::u85::u86::u87::u88::u89::u90::u91::u92::u93::u94::u95::u96::u97::u98::u99::u100::u101::u102::u103::u104::u105::u106::u107::u108::u109::u110::u111::u112::u113::u114::u115::u116::u117::u118::u119::u120::u121::u122::u123::u124::u125::u126::u127::u128::u129::u130::u131::u132::u133::u134::u135::u136::u137::u138::u139::u140::u141::u142::u143::u144::u145::u146::u147::u148::u149::u150::u151::u152::u153::u154::u155::u156::u157::u158::u159::u160::u161::u162::u163::u164::u165::u166::u167::u168::u169::u170::u171::u172::u173::u174::u175::u176::u177::u178::u179::u180::u181::u182::u183::u184::u185::u186::u187::u188::u189::u190::u191::u192::u193::u194::u195::u196::u197::u198::u199::u200::u201::u202::u203::u204::u205::[]).toArray,[]⟩ W:=by
 have HQ:=ah hQ;have HB:=ah eP;have BN:=ah bn;have FW:=ah fw;have FP:=ah fp;have RE:=ah re;have OK:=ah ok;have HT:=ah xt;have IX:=ah ix;have PX:=ah px;clear hQ eP bn fw fp re ok xt ix px;unfold JQ
 conv=>arg 2; whnf
 have KT:∀ i,i<15->[106,107,108,109,110,111,112,105,113,114,115,15,15,16,17].getD i 0≠5:=by decide
 have Ni:∀ i,i<15->[106,107,108,109,110,111,112,105,113,114,115,15,15,16,17].getD i 0≠6:=by decide
 have Qk:∀ i,i<15->[106,107,108,109,110,111,112,105,113,114,115,15,15,16,17].getD i 0≠8:=by decide
 have KU:∀ i,i<15->[106,107,108,109,110,111,112,105,113,114,115,15,15,16,17].getD i 0≠14:=by decide
 refine bQ 15 11 12 8 (fun i=>[106,107,108,109,110,111,112,105,113,114,115,15,15,16,17].getD i 0) (fun i=>15) (Ng W.heap.size bB bT b s1 s2 s3 s4 s5 s6 s7 s8 s9 s10 s11 s12 s13 s14 s15 rv at_ pp t1 t2 x1 x2) 31 #[U V 0,J O 0 0,J O 0 0,J O 0 0,J O 0 0,J O 0 0] (fun v=>match v with | aL c=>c | _=>#[]) (by kernel_rfl) (by kernel_rfl) rfl (by decide) (by decide) (by decide) (by decide) (by decide) (by decide) (by decide) (fun i j hi hj h1 h2 h=>(by decide:∀ i,i<15->∀ j,j<15->i≠12->j≠12->[106,107,108,109,110,111,112,105,113,114,115,15,15,16,17].getD i 0=[106,107,108,109,110,111,112,105,113,114,115,15,15,16,17].getD j 0->i=j) i hi j hj h1 h2 h) (fun i hi=>(by decide:∀ i,i<15->[106,107,108,109,110,111,112,105,113,114,115,15,15,16,17].getD i 0<206) i hi) ?_ ?_ ?_ ?_ ?_ ?_
 ·intro i v x x' hi h hb;rcases (by omega:i=0\/i=1\/i=2\/i=3\/i=4\/i=5\/i=6\/i=7\/i=8\/i=9\/i=10\/i=11\/i=12\/i=13\/i=14) with rfl|rfl|rfl|rfl|rfl|rfl|rfl|rfl|rfl|rfl|rfl|rfl|rfl|rfl|rfl
  ·exact h
  ·exact h
  ·exact h
  ·exact h
  ·exact h
  ·exact h
  ·obtain⟨a1,a2,a3,a4,a5,a6,h1,h2,h3⟩:=h; exact⟨a1,a2,a3,a4,a5,a6,h1,h2.on hb,h3.on hb⟩
  ·obtain⟨a1,a2,a3,a4,a5,a6,h1,h2,h3⟩:=h; exact⟨a1,a2,a3,a4,a5,a6,h1,h2.on hb,h3.on hb⟩
  ·obtain⟨a1,a2,a3,a4,a5,h1,h2⟩:=h; exact⟨a1,a2,a3,a4,a5,h1,h2.on hb⟩
  ·obtain⟨s,h1,h2⟩:=h; exact⟨s,h1,h2.on hb⟩
  ·exact h
  ·exact h
  ·exact h
  ·obtain⟨s,h1,h2⟩:=h; exact⟨s,h1,h2.on hb⟩
  ·exact h
 ·intro o ho;cases ho;exact⟨⟨⟨11,.data⟩,by simp,rfl,rfl⟩,⟨⟨8,.data⟩,by simp,rfl,rfl⟩⟩
 ·intro i o hi Ie qC ho a x hb seen K hK;clear HQ;rcases (by omega:i=0\/i=1\/i=2\/i=3\/i=4\/i=5\/i=6\/i=7\/i=8\/i=9\/i=10\/i=13\/i=14) with rfl|rfl|rfl|rfl|rfl|rfl|rfl|rfl|rfl|rfl|rfl|rfl|rfl
  ·cases ho;have e6:a.eval (Z 6)=L (X ⟨bB,0,O⟩):=seen.kp 6 _ Ni rfl;exact aA rfl rfl (bf a.eval _ 31 (Z 6) rfl (by rw [e6]; exact oN (HB.out.on hb))) (hK _ x rfl (Y _ _))
  ·cases ho;have e5:a.eval (Z 5)=L (X ⟨bT,0,O⟩):=seen.kp 5 _ KT rfl;obtain⟨y0,y1⟩:=(HT.out.on hb).cs2;exact aA rfl rfl (bf a.eval _ 25 (Z 5) rfl (by rw [e5]; simp [go_sem,y0,y1])) (hK _ x rfl (Y _ _))
  ·cases ho;have e8:a.eval (Z 8)=rv:=seen.kp 8 _ Qk rfl;exact aA rfl rfl (aX a.eval _ (Z 8) rfl x) (hK _ x e8 (Y _ _))
  ·cases ho;have e14:a.eval (Z 14)=U V (at_:Int):=seen.kp 14 _ KU rfl;exact aA rfl rfl (aX a.eval _ (Z 14) rfl x) (hK _ x e14 (Y _ _))
  ·cases ho;have e108:a.eval (Z 108)=rv:=seen.at_ ⟨2,.data⟩ (by simp) rfl (by decide) (by decide) (ak (by decide));have e109:a.eval (Z 109)=U V (at_:Int):=seen.at_ ⟨3,.data⟩ (by simp) rfl (by decide) (by decide) (ak (by decide));exact aA rfl rfl (Rg.iE a.eval _ 27 (Z 108) (Z 109) rfl (by rw [e108,e109]; exact IX.out x)) (hK _ x rfl (Y _ _))
  ·cases ho;have e110:a.eval (Z 110)=L (X pp):=seen.at_ ⟨4,.data⟩ (by simp) rfl (by decide) (by decide) (ak (by decide));exact aA rfl rfl (bf a.eval _ 25 (Z 110) rfl (by rw [e110]; exact EM x pp (x1,x2) (PX.out x hb))) (hK _ x rfl (Y _ _))
  ·cases ho;have e106:a.eval (Z 106)=iN b.me (s1,s2,s3) (s4,s5,s6) (s7,s8,s9) (s10,s11,s12) (s13,s14,s15):=seen.at_ ⟨0,.data⟩ (by simp) rfl (by decide) (by decide) (ak (by decide));have e107:a.eval (Z 107)=aL #[U V t1,U V t2]:=seen.at_ ⟨1,.data⟩ (by simp) rfl (by decide) (by decide) (ak (by decide));have e111:a.eval (Z 111)=aL #[U V x1,U V x2]:=seen.at_ ⟨5,.data⟩ (by simp) rfl (by decide) (by decide) (ak (by decide));exact bM rfl rfl (DY a.eval _ (Z 106) (Z 107) (Z 111) (.const (U V 1)) 31 25 25 3 11 rfl e106 e107 e111 rfl rfl _ (eT Try.func11 rfl rfl _ _)) (wo b (s1,s2,s3) (s4,s5,s6) (s7,s8,s9) (s10,s11,s12) (s13,s14,s15) (t1,t2) (x1,x2) 1 x (BN.out.on hb).br FW.out FP.out RE.out OK.out) fun e w1 h=>by
    obtain⟨⟨a1,a2,a3,a4,a5,a6,lu,rfl,h2,h3,h4,h6⟩,h5⟩:=h;exact⟨_,rfl,hK _ _ ⟨a1,a2,a3,a4,a5,a6,rfl,⟨h2,h6 (BN.out.on hb).no⟩,⟨lu,h3,h4⟩⟩ h5⟩
  ·cases ho;have Ql:=seen.at_ ⟨6,.data⟩ (by simp) rfl (by decide) (by decide) (ak (by decide));exact aA rfl rfl (aX a.eval _ (Z 112) rfl x) (hK _ x Ql (Y _ _))
  ·cases ho;have GH:=seen.at_ ⟨7,.data⟩ (by simp) rfl (by decide) (by decide) (ak (by decide));obtain⟨a1,a2,a3,a4,a5,a6,h1,h2,_⟩:=GH;exact aA rfl rfl (fF a.eval _ (Z 105) 0 rfl (c:=#[iN (takeB b (t1,t2) (x1,x2) 1).1.me a1 a2 a3 a4 a5,dR a6,au (takeB b (t1,t2) (x1,x2) 1).2.2]) h1 rfl x) (hK _ x ⟨a1,a2,a3,a4,a5,rfl,h2⟩ (Y _ _))
  ·cases ho;have GH:=seen.at_ ⟨7,.data⟩ (by simp) rfl (by decide) (by decide) (ak (by decide));obtain⟨a1,a2,a3,a4,a5,a6,h1,_,h3⟩:=GH;exact aA rfl rfl (fF a.eval _ (Z 105) 1 rfl (c:=#[iN (takeB b (t1,t2) (x1,x2) 1).1.me a1 a2 a3 a4 a5,dR a6,au (takeB b (t1,t2) (x1,x2) 1).2.2]) h1 rfl x) (hK _ x ⟨a6,rfl,h3⟩ (Y _ _))
  ·cases ho;have GH:=seen.at_ ⟨7,.data⟩ (by simp) rfl (by decide) (by decide) (ak (by decide));obtain⟨a1,a2,a3,a4,a5,a6,h1,_⟩:=GH;exact aA rfl rfl (fF a.eval _ (Z 105) 2 rfl (c:=#[iN (takeB b (t1,t2) (x1,x2) 1).1.me a1 a2 a3 a4 a5,dR a6,au (takeB b (t1,t2) (x1,x2) 1).2.2]) h1 rfl x) (hK _ x rfl (Y _ _))
  ·cases ho;have Qm:=seen.at_ ⟨9,.data⟩ (by simp) rfl (by decide) (by decide) (ak (by decide));exact aA rfl rfl (bJ a.eval _ (Z 114) rfl x) (hK _ x Qm (Y _ _))
  ·cases ho;have e115:a.eval (Z 115)=au (takeB b (t1,t2) (x1,x2) 1).2.2:=seen.at_ ⟨10,.data⟩ (by simp) rfl (by decide) (by decide) (ak (by decide));exact aA rfl rfl (bJ a.eval _ (Z 115) rfl x) (hK _ x e115 (Y _ _))
 ·intro o ho a x K hK;cases ho;exact aA rfl rfl (bS a.eval _ 31 rfl (by simp [go_sem])) hK
 ·intro o ho a x bb v D hc hD hb hA hC qX hbb eP K hK;clear HQ;cases ho;obtain⟨⟨m1,m2,m3⟩,⟨m4,m5,m6⟩,⟨m7,m8,m9⟩,⟨m10,m11,m12⟩,⟨m13,m14,m15⟩,hv1,hv2⟩:=qX;subst hv1;have gK:=eZ x bb (U V (takeB b (t1,t2) (x1,x2) 1).1.me) (J m1 m2 m3) (J m4 m5 m6) (J m7 m8 m9) (J m10 m11 m12) (J m13 m14 m15);refine bL 31 (Z 15) (Z 113) rfl rfl rfl rfl hA hC (w':=iD x bb (U V (takeB b (t1,t2) (x1,x2) 1).1.me) (J m1 m2 m3) (J m4 m5 m6) (J m7 m8 m9) (J m10 m11 m12) (J m13 m14 m15)) (kS eP _ _ _ _ _ _ _ _ _ _ _ _ _ _ _ _) (hK _ (dQ hb hbb _ _ _ _ _ _) (eD eP _ _ _ _ _ _) ?_);exact fun j u hj O7 Mf hdj hnl hls h=>by
   rcases (by omega:j=0\/j=1\/j=2\/j=3\/j=4\/j=5\/j=6\/j=7\/j=8\/j=9\/j=10\/j=13\/j=14) with rfl|rfl|rfl|rfl|rfl|rfl|rfl|rfl|rfl|rfl|rfl|rfl|rfl
   ·have h2:u=iN b.me (s1,s2,s3) (s4,s5,s6) (s7,s8,s9) (s10,s11,s12) (s13,s14,s15):=h; exact h2
   ·have h2:u=aL #[U V t1,U V t2]:=h; exact h2
   ·have h2:u=rv:=h; exact h2
   ·have h2:u=U V (at_:Int):=h; exact h2
   ·have h2:u=L (X pp):=h; exact h2
   ·have h2:u=aL #[U V x1,U V x2]:=h; exact h2
   ·obtain⟨a1,a2,a3,a4,a5,a6,h1,h2,h3⟩:=h; exact⟨a1,a2,a3,a4,a5,a6,h1,h2.keep (s1:=(O,0,0)) (s2:=(O,0,0)) (s3:=(O,0,0)) (s4:=(O,0,0)) (s5:=(O,0,0)) (me:=0) eP gK,h3.keep (s1:=(O,0,0)) (s2:=(O,0,0)) (s3:=(O,0,0)) (s4:=(O,0,0)) (s5:=(O,0,0)) (me:=0) eP gK⟩
   ·obtain⟨a1,a2,a3,a4,a5,a6,h1,h2,h3⟩:=h; exact⟨a1,a2,a3,a4,a5,a6,h1,h2.keep (s1:=(O,0,0)) (s2:=(O,0,0)) (s3:=(O,0,0)) (s4:=(O,0,0)) (s5:=(O,0,0)) (me:=0) eP gK,h3.keep (s1:=(O,0,0)) (s2:=(O,0,0)) (s3:=(O,0,0)) (s4:=(O,0,0)) (s5:=(O,0,0)) (me:=0) eP gK⟩
   ·obtain⟨a1,a2,a3,a4,a5,h1,h2⟩:=h; exact⟨a1,a2,a3,a4,a5,h1,h2.keep (s1:=(O,0,0)) (s2:=(O,0,0)) (s3:=(O,0,0)) (s4:=(O,0,0)) (s5:=(O,0,0)) (me:=0) eP gK⟩
   ·obtain⟨s,h1,h2⟩:=h; exact⟨s,h1,h2.keep (s1:=(O,0,0)) (s2:=(O,0,0)) (s3:=(O,0,0)) (s4:=(O,0,0)) (s5:=(O,0,0)) (me:=0) eP gK⟩
   ·have h2:u=au (takeB b (t1,t2) (x1,x2) 1).2.2:=h; exact h2
   ·obtain⟨s,h1,h2⟩:=h; exact⟨s,h1,h2.keep (s1:=(O,0,0)) (s2:=(O,0,0)) (s3:=(O,0,0)) (s4:=(O,0,0)) (s5:=(O,0,0)) (me:=0) eP gK⟩
   ·have h2:u=au (takeB b (t1,t2) (x1,x2) 1).2.2:=h; exact h2
 ·intro a x bb v df sz kp gA gC hbb eP qX hbel ⟨vs,hv⟩;obtain⟨⟨m1,m2,m3⟩,⟨m4,m5,m6⟩,⟨m7,m8,m9⟩,⟨m10,m11,m12⟩,⟨m13,m14,m15⟩,hv1,hv2⟩:=qX;subst hv1;have g15:a.tmps[15]?=X (L (X ⟨bb,0,O⟩)):=gA;have g17:a.tmps[17]?=X (au (takeB b (t1,t2) (x1,x2) 1).2.2):=by
   have h:vs 14=au (takeB b (t1,t2) (x1,x2) 1).2.2:=(hv 14 (by decide) (by decide) (by decide)).2 (by decide);rw [<- h];exact (hv 14 (by decide) (by decide) (by decide)).1
  obtain⟨⟨o1,o2,o3⟩,ho1,ho2⟩:=(hv 13 (by decide) (by decide) (by decide)).2 (by decide);have g16:a.tmps[16]?=X (J o1 o2 o3):=by
   rw [show (J o1 o2 o3)=vs 13 from ho1.symm];exact (hv 13 (by decide) (by decide) (by decide)).1
  have jG:a.tmps.size=206:=sz;obtain⟨v105,g105⟩:=aD jG 105 (by decide);obtain⟨v106,g106⟩:=aD jG 106 (by decide);obtain⟨v107,g107⟩:=aD jG 107 (by decide);obtain⟨v108,g108⟩:=aD jG 108 (by decide);obtain⟨v109,g109⟩:=aD jG 109 (by decide);obtain⟨v110,g110⟩:=aD jG 110 (by decide);obtain⟨v111,g111⟩:=aD jG 111 (by decide);obtain⟨v112,g112⟩:=aD jG 112 (by decide);obtain⟨v113,g113⟩:=aD jG 113 (by decide);obtain⟨v114,g114⟩:=aD jG 114 (by decide);obtain⟨v115,g115⟩:=aD jG 115 (by decide);have hfr:=bO [15,16,17,105,106,107,108,109,110,111,112,113,114,115] [L (X ⟨bb,0,O⟩),J o1 o2 o3,au (takeB b (t1,t2) (x1,x2) 1).2.2,v105,v106,v107,v108,v109,v110,v111,v112,v113,v114,v115] df sz (fun d hd=>(by decide:∀ d∈[15,16,17,105,106,107,108,109,110,111,112,113,114,115],d<206) d hd) (fun j hj=>(kp j (fun i hi h=>hj (h ▸ (by decide:∀ i,i<15->[106,107,108,109,110,111,112,105,113,114,115,15,15,16,17].getD i 0∈[15,16,17,105,106,107,108,109,110,111,112,113,114,115]) i hi))).trans aG) rfl ⟨g15,g16,g17,g105,g106,g107,g108,g109,g110,g111,g112,g113,g114,g115,trivial⟩;rw [hfr];show Q .normal ⟨(u0::u1::u2::u3::u4::L (X ⟨bT,0,O⟩)::L (X ⟨bB,0,O⟩)::u7::rv::u9::u10::u11::u12::u13::U V (at_:Int)::L (X ⟨bb,0,O⟩)::J o1 o2 o3::au (takeB b (t1,t2) (x1,x2) 1).2.2::u18::u19::u20::u21::u22::u23::u24::u25::u26::u27::u28::u29::u30::u31::u32::u33::u34::u35::u36::u37::u38::u39::u40::u41::u42::u43::u44::u45::u46::u47::u48::u49::u50::u51::u52::u53::u54::u55::u56::u57::u58::u59::u60::u61::u62::u63::u64::u65::u66::u67::u68::u69::u70::u71::u72::u73::u74::u75::u76::u77::u78::u79::u80::u81::u82::u83::u84::u85::u86::u87::u88::u89::u90::u91::u92::u93::u94::u95::u96::u97::u98::u99::u100::u101::u102::u103::u104::v105::v106::v107::v108::v109::v110::v111::v112::v113::v114::v115::u116::u117::u118::u119::u120::u121::u122::u123::u124::u125::u126::u127::u128::u129::u130::u131::u132::u133::u134::u135::u136::u137::u138::u139::u140::u141::u142::u143::u144::u145::u146::u147::u148::u149::u150::u151::u152::u153::u154::u155::u156::u157::u158::u159::u160::u161::u162::u163::u164::u165::u166::u167::u168::u169::u170::u171::u172::u173::u174::u175::u176::u177::u178::u179::u180::u181::u182::u183::u184::u185::u186::u187::u188::u189::u190::u191::u192::u193::u194::u195::u196::u197::u198::u199::u200::u201::u202::u203::u204::u205::[]).toArray,[]⟩ x;exact HQ.out x bb _ _ _ _ _ _ _ _ _ _ _ m1 m2 m3 m4 m5 m6 m7 m8 m9 m10 m11 m12 m13 m14 m15 o1 o2 o3 hbb eP hv2 ho2 hbel
theorem Bf {W W':aF} {k:Nat} {x:gM} {a:En} {cs:Array aC} (h:iC W x a) (hb:dH W k cs 43) (hk:But k W W') (hn:∀ (j:Nat) (s:ByteArray),cs[j]?≠X (.string s)):iC W' x a:=⟨h.1,h.2.1,h.2.2.1,h.2.2.2.1,iP Ib h.2.2.2.2 hk.1 (pJ hb hn)⟩
theorem wY:∀ (j:Nat) (s:ByteArray),(#[U V 0,U V 0,U V 0,U V 0,J O 0 0,U V 0,au aK]:Array aC)[j]?≠X (.string s):=by
 intro j s h
 match j with
 | 0=>simp at h
 | 1=>simp at h
 | 2=>simp at h
 | 3=>simp at h
 | 4=>simp at h
 | 5=>simp at h
 | 6=>simp at h
 | j+7=>simp at h
def Nj (_B:Nat) (_bB _bT:Nat) (b:Br) (e_:En) (s1:Option aj) (s2 s3:Nat) (s4:Option aj) (s5 s6:Nat) (s7:Option aj) (s8 s9:Nat) (s10:Option aj) (s11 s12:Nat) (s13:Option aj) (s14 s15:Nat) (rv:aC) (at_:Nat) (pp:aj) (t1 t2 x1 x2:Int) (i:Nat) (v:aC) (x:aF):Prop :=
 match i with
 | 0=>v=iN b.me (s1,s2,s3) (s4,s5,s6) (s7,s8,s9) (s10,s11,s12) (s13,s14,s15)
 | 1=>v=aL #[U V t1,U V t2]
 | 2=>v=rv
 | 3=>v=U V (at_:Int)
 | 4=>v=L (X pp)
 | 5=>v=aL #[U V x1,U V x2]
 | 6=>∃ z:gM,v=.tuple #[kX z,au aI]/\iC x z e_
 | 7=>∃ z:gM,v=.tuple #[kX z,au aI]/\iC x z e_
 | 8=>∃ z:gM,v=kX z/\iC x z e_
 | 9=>v=au aI
 | 10=>True
 | 11=>True
 | 12=>v=au aI
 | _=>True
noncomputable def JR:Code:=((Try.f3.body.bind (dZ 21)).getD .skip)
theorem Nk (Q:Exit->Act->aF->Prop) (W:aF) (bB bT:Nat) (b:Br) (e_:En) (s1:Option aj) (s2 s3:Nat) (s4:Option aj) (s5 s6:Nat) (s7:Option aj) (s8 s9:Nat) (s10:Option aj) (s11 s12:Nat) (s13:Option aj) (s14 s15:Nat) (rv:aC) (at_:Nat) (pp:aj) (t1 t2 x1 x2:Int) (u0 u1 u2 u3 u4 u7 u9 u10 u11 u12 u13 u15 u16 u17 u18 u19 u20 u21 u22 u23 u24 u25 u26 u27 u28 u29 u30 u31 u32 u33 u34 u35 u36 u37 u38 u39 u40 u41 u42 u43 u44 u45 u46 u47 u48 u49 u50 u51 u52 u53 u54 u55 u56 u57 u58 u59 u60 u61 u62 u63 u64 u65 u66 u67 u68 u69 u70 u71 u72 u73 u74 u75 u76 u77 u78 u79 u80 u81 u82 u83 u84 u85 u86 u87 u88 u89 u90 u91 u92 u93 u94 u95 u96 u97 u98 u99 u100 u101 u102 u103 u104 u105 u106 u107 u108 u109 u110 u111 u112 u113 u114 u115 u116 u117 u118 u119 u120 u121 u122 u123 u124 u125 u126 u127 u128 u129 u130 u131 u132 u133 u134 u135 u136 u137 u138 u139 u140 u141 u142 u143 u144 u145 u146 u147 u148 u149 u150 u151 u152 u153 u154 u155 u156 u157 u158 u159 u160 u161 u162 u163 u164 u165 u166 u167 u168 u169 u170 u171 u172 u173 u174 u175 u176 u177 u178 u179 u180 u181 u182 u183 u184 u185 u186 u187 u188 u189 u190 u191 u192 u193 u194 u195 u196 u197 u198 u199 u200 u201 u202 u203 u204 u205:aC)
  (eP:dH W bB #[U V b.me,J s1 s2 s3,J s4 s5 s6,J s7 s8 s9,J s10 s11 s12,J s13 s14 s15] 31) (bn:l6 W b (s1,s2,s3) (s4,s5,s6) (s7,s8,s9) (s10,s11,s12) (s13,s14,s15)) (fw:wM b) (fp:lW b) (re:fC b.ent) (fe:kU b.ent (t1,t2) (x1,x2)=X e_) (xt:dH W bT #[U V t1,U V t2] 25) (ix:∀ w,(bF 27 rv (U V (at_:Int))).run aJ w=.ok (L (X pp)) w) (px:∀ x,Below W.heap.size W x->∀ j u,(jk (x1,x2))[j]?=X u->x.cell? (pp.add j)=X u)
  (hQ:∀ (x:aF) (bb:Nat) (v116 v117 v118 v119 v120 v121 v122 v123 v124 v125:aC) (z1 z2 z3 z4:Int) (z5:Option aj) (z6 z7:Nat) (z8:Int) (z9:Bool),W.heap.size<=bb->dH x bb #[U V z1,U V z2,U V z3,U V z4,J z5 z6 z7,U V z8,au z9] 43->iC x (z1,z2,z3,z4,(z5,z6,z7),z8,z9) e_->Below W.heap.size W x->Q .normal ⟨(u0::u1::u2::u3::u4::L (X ⟨bT,0,O⟩)::L (X ⟨bB,0,O⟩)::u7::rv::u9::u10::u11::u12::u13::U V (at_:Int)::u15::u16::u17::L (X ⟨bb,0,O⟩)::au aI::u20::u21::u22::u23::u24::u25::u26::u27::u28::u29::u30::u31::u32::u33::u34::u35::u36::u37::u38::u39::u40::u41::u42::u43::u44::u45::u46::u47::u48::u49::u50::u51::u52::u53::u54::u55::u56::u57::u58::u59::u60::u61::u62::u63::u64::u65::u66::u67::u68::u69::u70::u71::u72::u73::u74::u75::u76::u77::u78::u79::u80::u81::u82::u83::u84::u85::u86::u87::u88::u89::u90::u91::u92::u93::u94::u95::u96::u97::u98::u99::u100::u101::u102::u103::u104::u105::u106::u107::u108::u109::u110::u111::u112::u113::u114::u115::v116::v117::v118::v119::v120::v121::v122::v123::v124::v125::u126::u127::u128::u129::u130::u131::u132::u133::u134::u135::u136::u137::u138::u139::u140::u141::u142::u143::u144::u145::u146::u147::u148::u149::u150::u151::u152::u153::u154::u155::u156::u157::u158::u159::u160::u161::u162::u163::u164::u165::u166::u167::u168::u169::u170::u171::u172::u173::u174::u175::u176::u177::u178::u179::u180::u181::u182::u183::u184::u185::u186::u187::u188::u189::u190::u191::u192::u193::u194::u195::u196::u197::u198::u199::u200::u201::u202::u203::u204::u205::[]).toArray,[]⟩ x) :
  Code.wp aJ JR Q ⟨(u0::u1::u2::u3::u4::L (X ⟨bT,0,O⟩)::L (X ⟨bB,0,O⟩)::u7::rv::u9::u10::u11::u12::u13::U V (at_:Int)::u15::u16::u17::u18::u19::u20::u21::u22::u23::u24::u25::u26::u27::u28::u29::u30::u31::u32::u33::u34::u35::u36::u37::u38::u39::u40::u41::u42::u43::u44::u45::u46::u47::u48::u49::u50::u51::u52::u53::u54::u55::u56::u57::u58::u59::u60::u61::u62::u63::u64::u65::u66::u67::u68::u69::u70::u71::u72::u73::u74::u75::u76::u77::u78::u79::u80::u81::u82::u83::u84::u85::u86::u87::u88::u89::u90::u91::u92::u93::u94::u95::u96::u97::u98::u99::u100::u101::u102::u103::u104::u105::u106::u107::u108::u109::u110::u111::u112::u113::u114::u115::u116::u117::u118::u119::u120::u121::u122::u123::u124::u125::u126::u127::u128::u129::u130::u131::u132::u133::u134::u135::u136::u137::u138::u139::u140::u141::u142::u143::u144::u145::u146::u147::u148::u149::u150::u151::u152::u153::u154::u155::u156::u157::u158::u159::u160::u161::u162::u163::u164::u165::u166::u167::u168::u169::u170::u171::u172::u173::u174::u175::u176::u177::u178::u179::u180::u181::u182::u183::u184::u185::u186::u187::u188::u189::u190::u191::u192::u193::u194::u195::u196::u197::u198::u199::u200::u201::u202::u203::u204::u205::[]).toArray,[]⟩ W:=by
 have HQ:=ah hQ;have HB:=ah eP;have BN:=ah bn;have FW:=ah fw;have FP:=ah fp;have RE:=ah re;have FE:=ah fe;have HT:=ah xt;have IX:=ah ix;have PX:=ah px;clear hQ eP bn fw fp re fe xt ix px;unfold JR
 conv=>arg 2; whnf
 have KT:∀ i,i<13->[117,118,119,120,121,122,123,116,124,125,18,18,19].getD i 0≠5:=by decide
 have Ni:∀ i,i<13->[117,118,119,120,121,122,123,116,124,125,18,18,19].getD i 0≠6:=by decide
 have Qk:∀ i,i<13->[117,118,119,120,121,122,123,116,124,125,18,18,19].getD i 0≠8:=by decide
 have KU:∀ i,i<13->[117,118,119,120,121,122,123,116,124,125,18,18,19].getD i 0≠14:=by decide
 refine bQ 13 10 11 8 (fun i=>[117,118,119,120,121,122,123,116,124,125,18,18,19].getD i 0) (fun i=>13) (Nj W.heap.size bB bT b e_ s1 s2 s3 s4 s5 s6 s7 s8 s9 s10 s11 s12 s13 s14 s15 rv at_ pp t1 t2 x1 x2) 43 #[U V 0,U V 0,U V 0,U V 0,J O 0 0,U V 0,au aK] (fun v=>match v with | aL c=>c | _=>#[]) (by kernel_rfl) (by kernel_rfl) rfl (by decide) (by decide) (by decide) (by decide) (by decide) (by decide) (by decide) (fun i j hi hj h1 h2 h=>(by decide:∀ i,i<13->∀ j,j<13->i≠11->j≠11->[117,118,119,120,121,122,123,116,124,125,18,18,19].getD i 0=[117,118,119,120,121,122,123,116,124,125,18,18,19].getD j 0->i=j) i hi j hj h1 h2 h) (fun i hi=>(by decide:∀ i,i<13->[117,118,119,120,121,122,123,116,124,125,18,18,19].getD i 0<206) i hi) ?_ ?_ ?_ ?_ ?_ ?_
 ·intro i v x x' hi h hb;rcases (by omega:i=0\/i=1\/i=2\/i=3\/i=4\/i=5\/i=6\/i=7\/i=8\/i=9\/i=10\/i=11\/i=12) with rfl|rfl|rfl|rfl|rfl|rfl|rfl|rfl|rfl|rfl|rfl|rfl|rfl
  ·exact h
  ·exact h
  ·exact h
  ·exact h
  ·exact h
  ·exact h
  ·obtain⟨z,h1,h2⟩:=h; exact⟨z,h1,h2.on hb⟩
  ·obtain⟨z,h1,h2⟩:=h; exact⟨z,h1,h2.on hb⟩
  ·obtain⟨z,h1,h2⟩:=h; exact⟨z,h1,h2.on hb⟩
  ·exact h
  ·exact h
  ·exact h
  ·exact h
 ·intro o ho;cases ho;exact⟨⟨⟨10,.data⟩,by simp,rfl,rfl⟩,⟨⟨8,.data⟩,by simp,rfl,rfl⟩⟩
 ·intro i o hi Ie qC ho a x hb seen K hK;clear HQ;rcases (by omega:i=0\/i=1\/i=2\/i=3\/i=4\/i=5\/i=6\/i=7\/i=8\/i=9\/i=12) with rfl|rfl|rfl|rfl|rfl|rfl|rfl|rfl|rfl|rfl|rfl
  ·cases ho;have e6:a.eval (Z 6)=L (X ⟨bB,0,O⟩):=seen.kp 6 _ Ni rfl;exact aA rfl rfl (bf a.eval _ 31 (Z 6) rfl (by rw [e6]; exact oN (HB.out.on hb))) (hK _ x rfl (Y _ _))
  ·cases ho;have e5:a.eval (Z 5)=L (X ⟨bT,0,O⟩):=seen.kp 5 _ KT rfl;obtain⟨y0,y1⟩:=(HT.out.on hb).cs2;exact aA rfl rfl (bf a.eval _ 25 (Z 5) rfl (by rw [e5]; simp [go_sem,y0,y1])) (hK _ x rfl (Y _ _))
  ·cases ho;have e8:a.eval (Z 8)=rv:=seen.kp 8 _ Qk rfl;exact aA rfl rfl (aX a.eval _ (Z 8) rfl x) (hK _ x e8 (Y _ _))
  ·cases ho;have e14:a.eval (Z 14)=U V (at_:Int):=seen.kp 14 _ KU rfl;exact aA rfl rfl (aX a.eval _ (Z 14) rfl x) (hK _ x e14 (Y _ _))
  ·cases ho;have e119:a.eval (Z 119)=rv:=seen.at_ ⟨2,.data⟩ (by simp) rfl (by decide) (by decide) (ak (by decide));have e120:a.eval (Z 120)=U V (at_:Int):=seen.at_ ⟨3,.data⟩ (by simp) rfl (by decide) (by decide) (ak (by decide));exact aA rfl rfl (Rg.iE a.eval _ 27 (Z 119) (Z 120) rfl (by rw [e119,e120]; exact IX.out x)) (hK _ x rfl (Y _ _))
  ·cases ho;have e121:a.eval (Z 121)=L (X pp):=seen.at_ ⟨4,.data⟩ (by simp) rfl (by decide) (by decide) (ak (by decide));exact aA rfl rfl (bf a.eval _ 25 (Z 121) rfl (by rw [e121]; exact EM x pp (x1,x2) (PX.out x hb))) (hK _ x rfl (Y _ _))
  ·cases ho;have e117:a.eval (Z 117)=iN b.me (s1,s2,s3) (s4,s5,s6) (s7,s8,s9) (s10,s11,s12) (s13,s14,s15):=seen.at_ ⟨0,.data⟩ (by simp) rfl (by decide) (by decide) (ak (by decide));have e118:a.eval (Z 118)=aL #[U V t1,U V t2]:=seen.at_ ⟨1,.data⟩ (by simp) rfl (by decide) (by decide) (ak (by decide));have e122:a.eval (Z 122)=aL #[U V x1,U V x2]:=seen.at_ ⟨5,.data⟩ (by simp) rfl (by decide) (by decide) (ak (by decide));obtain⟨le,hl,hE⟩:=BN.out.br.ent;exact bM rfl rfl (nU a.eval _ (Z 117) (Z 118) (Z 122) 31 25 25 12 rfl e117 e118 e122 rfl _ (eT Try.func12 rfl rfl _ _)) (qQ b.me _ _ _ _ (s10,s11,s12) le b.ent (t1,t2) (x1,x2) x (hl.on hb) (hE.mono fun _ _ h=>h.on hb) RE.out (by rw [hE.len]; exact aM FW.out.ent (by decide)) FP.out.ent) fun e w1 h=>by
    rw [FE.out] at h;obtain⟨⟨z,rfl,h2⟩,h5⟩:=h;exact⟨_,rfl,hK _ _ ⟨z,rfl,h2⟩ h5⟩
  ·cases ho;have Qn:=seen.at_ ⟨6,.data⟩ (by simp) rfl (by decide) (by decide) (ak (by decide));exact aA rfl rfl (aX a.eval _ (Z 123) rfl x) (hK _ x Qn (Y _ _))
  ·cases ho;have KW:=seen.at_ ⟨7,.data⟩ (by simp) rfl (by decide) (by decide) (ak (by decide));obtain⟨z,h1,h2⟩:=KW;exact aA rfl rfl (fF a.eval _ (Z 116) 0 rfl (c:=#[kX z,au aI]) h1 rfl x) (hK _ x ⟨z,rfl,h2⟩ (Y _ _))
  ·cases ho;have KW:=seen.at_ ⟨7,.data⟩ (by simp) rfl (by decide) (by decide) (ak (by decide));obtain⟨z,h1,h2⟩:=KW;exact aA rfl rfl (fF a.eval _ (Z 116) 1 rfl (c:=#[kX z,au aI]) h1 rfl x) (hK _ x rfl (Y _ _))
  ·cases ho;have e125:a.eval (Z 125)=au aI:=seen.at_ ⟨9,.data⟩ (by simp) rfl (by decide) (by decide) (ak (by decide));exact aA rfl rfl (bJ a.eval _ (Z 125) rfl x) (hK _ x e125 (Y _ _))
 ·intro o ho a x K hK;cases ho;exact aA rfl rfl (bS a.eval _ 43 rfl (by simp [go_sem])) hK
 ·intro o ho a x bb v D hc hD hb hA hC qX hbb eP K hK;clear HQ;cases ho;obtain⟨⟨z1,z2,z3,z4,⟨z5,z6,z7⟩,z8,z9⟩,hv1,hv2⟩:=qX;subst hv1;obtain⟨y0,y1,y2,y3,y4,y5,y6⟩:=eP.qo;obtain⟨f0,f1,f2,f3,f4,f5,f6⟩:=eP.LC;have hst:(Instr.storeAt 43 (L (X ⟨bb,0,O⟩)) (kX (z1,z2,z3,z4,(z5,z6,z7),z8,z9))).run aJ x=.ok () (((((((x.setCell ⟨bb,0,O⟩ (U V z1)).setCell ⟨bb,1,O⟩ (U V z2)).setCell ⟨bb,2,O⟩ (U V z3)).setCell ⟨bb,3,O⟩ (U V z4)).setCell ⟨bb,4,O⟩ (J z5 z6 z7)).setCell ⟨bb,5,O⟩ (U V z8)).setCell ⟨bb,6,O⟩ (au z9)):=by simp [go_sem,y0,y1,y2,y3,y4,y5,y6,f0,f1,f2,f3,f4,f5,f6]
  have Nl:=(dY (k:=6) (dY (k:=5) (dY (k:=4) (dY (k:=3) (dY (k:=2) (dY (k:=1) (dY (k:=0) eP (U V z1)) (U V z2)) (U V z3)) (U V z4)) (J z5 z6 z7)) (U V z8)) (au z9));have Qo:dH (((((((x.setCell ⟨bb,0,O⟩ (U V z1)).setCell ⟨bb,1,O⟩ (U V z2)).setCell ⟨bb,2,O⟩ (U V z3)).setCell ⟨bb,3,O⟩ (U V z4)).setCell ⟨bb,4,O⟩ (J z5 z6 z7)).setCell ⟨bb,5,O⟩ (U V z8)).setCell ⟨bb,6,O⟩ (au z9)) bb #[U V z1,U V z2,U V z3,U V z4,J z5 z6 z7,U V z8,au z9] 43:=by simpa using Nl
  have hbe:=(((((((hb.setCell (p:=⟨bb,0,O⟩) hbb (U V z1)).setCell (p:=⟨bb,1,O⟩) hbb (U V z2)).setCell (p:=⟨bb,2,O⟩) hbb (U V z3)).setCell (p:=⟨bb,3,O⟩) hbb (U V z4)).setCell (p:=⟨bb,4,O⟩) hbb (J z5 z6 z7)).setCell (p:=⟨bb,5,O⟩) hbb (U V z8)).setCell (p:=⟨bb,6,O⟩) hbb (au z9));have gK:But bb x (((((((x.setCell ⟨bb,0,O⟩ (U V z1)).setCell ⟨bb,1,O⟩ (U V z2)).setCell ⟨bb,2,O⟩ (U V z3)).setCell ⟨bb,3,O⟩ (U V z4)).setCell ⟨bb,4,O⟩ (J z5 z6 z7)).setCell ⟨bb,5,O⟩ (U V z8)).setCell ⟨bb,6,O⟩ (au z9)):=((((((dL x bb 0 (U V z1)).trans (dL _ bb 1 (U V z2))).trans (dL _ bb 2 (U V z3))).trans (dL _ bb 3 (U V z4))).trans (dL _ bb 4 (J z5 z6 z7))).trans (dL _ bb 5 (U V z8))).trans (dL _ bb 6 (au z9));clear Nl y0 f0 y1 f1 y2 f2 y3 f3 y4 f4 y5 f5 y6 f6;generalize ((((((x.setCell ⟨bb,0,O⟩ (U V z1)).setCell ⟨bb,1,O⟩ (U V z2)).setCell ⟨bb,2,O⟩ (U V z3)).setCell ⟨bb,3,O⟩ (U V z4)).setCell ⟨bb,4,O⟩ (J z5 z6 z7)).setCell ⟨bb,5,O⟩ (U V z8)).setCell ⟨bb,6,O⟩ (au z9)=xw at *;refine bL 43 (Z 18) (Z 124) rfl rfl rfl rfl hA hC hst (hK _ hbe Qo ?_);exact fun j u hj O7 Mf hdj hnl hls h=>by
   rcases (by omega:j=0\/j=1\/j=2\/j=3\/j=4\/j=5\/j=6\/j=7\/j=8\/j=9\/j=12) with rfl|rfl|rfl|rfl|rfl|rfl|rfl|rfl|rfl|rfl|rfl
   ·have h2:u=iN b.me (s1,s2,s3) (s4,s5,s6) (s7,s8,s9) (s10,s11,s12) (s13,s14,s15):=h; exact h2
   ·have h2:u=aL #[U V t1,U V t2]:=h; exact h2
   ·have h2:u=rv:=h; exact h2
   ·have h2:u=U V (at_:Int):=h; exact h2
   ·have h2:u=L (X pp):=h; exact h2
   ·have h2:u=aL #[U V x1,U V x2]:=h; exact h2
   ·obtain⟨z,h1,h2⟩:=h; exact⟨z,h1,Bf h2 eP gK wY⟩
   ·obtain⟨z,h1,h2⟩:=h; exact⟨z,h1,Bf h2 eP gK wY⟩
   ·obtain⟨z,h1,h2⟩:=h; exact⟨z,h1,Bf h2 eP gK wY⟩
   ·have h2:u=au aI:=h; exact h2
   ·have h2:u=au aI:=h; exact h2
 ·intro a x bb v df sz kp gA gC hbb eP qX hbel ⟨vs,hv⟩;obtain⟨⟨z1,z2,z3,z4,⟨z5,z6,z7⟩,z8,z9⟩,hv1,hv2⟩:=qX;subst hv1;have g18:a.tmps[18]?=X (L (X ⟨bb,0,O⟩)):=gA;have g19:a.tmps[19]?=X (au aI):=by
   have h:vs 12=au aI:=(hv 12 (by decide) (by decide) (by decide)).2 (by decide);rw [<- h];exact (hv 12 (by decide) (by decide) (by decide)).1
  have jG:a.tmps.size=206:=sz;obtain⟨v116,g116⟩:=aD jG 116 (by decide);obtain⟨v117,g117⟩:=aD jG 117 (by decide);obtain⟨v118,g118⟩:=aD jG 118 (by decide);obtain⟨v119,g119⟩:=aD jG 119 (by decide);obtain⟨v120,g120⟩:=aD jG 120 (by decide);obtain⟨v121,g121⟩:=aD jG 121 (by decide);obtain⟨v122,g122⟩:=aD jG 122 (by decide);obtain⟨v123,g123⟩:=aD jG 123 (by decide);obtain⟨v124,g124⟩:=aD jG 124 (by decide);obtain⟨v125,g125⟩:=aD jG 125 (by decide);have hfr:=bO [18,19,116,117,118,119,120,121,122,123,124,125] [L (X ⟨bb,0,O⟩),au aI,v116,v117,v118,v119,v120,v121,v122,v123,v124,v125] df sz (fun d hd=>(by decide:∀ d∈[18,19,116,117,118,119,120,121,122,123,124,125],d<206) d hd) (fun j hj=>(kp j (fun i hi h=>hj (h ▸ (by decide:∀ i,i<13->[117,118,119,120,121,122,123,116,124,125,18,18,19].getD i 0∈[18,19,116,117,118,119,120,121,122,123,124,125]) i hi))).trans aG) rfl ⟨g18,g19,g116,g117,g118,g119,g120,g121,g122,g123,g124,g125,trivial⟩;rw [hfr];show Q .normal ⟨(u0::u1::u2::u3::u4::L (X ⟨bT,0,O⟩)::L (X ⟨bB,0,O⟩)::u7::rv::u9::u10::u11::u12::u13::U V (at_:Int)::u15::u16::u17::L (X ⟨bb,0,O⟩)::au aI::u20::u21::u22::u23::u24::u25::u26::u27::u28::u29::u30::u31::u32::u33::u34::u35::u36::u37::u38::u39::u40::u41::u42::u43::u44::u45::u46::u47::u48::u49::u50::u51::u52::u53::u54::u55::u56::u57::u58::u59::u60::u61::u62::u63::u64::u65::u66::u67::u68::u69::u70::u71::u72::u73::u74::u75::u76::u77::u78::u79::u80::u81::u82::u83::u84::u85::u86::u87::u88::u89::u90::u91::u92::u93::u94::u95::u96::u97::u98::u99::u100::u101::u102::u103::u104::u105::u106::u107::u108::u109::u110::u111::u112::u113::u114::u115::v116::v117::v118::v119::v120::v121::v122::v123::v124::v125::u126::u127::u128::u129::u130::u131::u132::u133::u134::u135::u136::u137::u138::u139::u140::u141::u142::u143::u144::u145::u146::u147::u148::u149::u150::u151::u152::u153::u154::u155::u156::u157::u158::u159::u160::u161::u162::u163::u164::u165::u166::u167::u168::u169::u170::u171::u172::u173::u174::u175::u176::u177::u178::u179::u180::u181::u182::u183::u184::u185::u186::u187::u188::u189::u190::u191::u192::u193::u194::u195::u196::u197::u198::u199::u200::u201::u202::u203::u204::u205::[]).toArray,[]⟩ x;exact HQ.out x bb _ _ _ _ _ _ _ _ _ _ z1 z2 z3 z4 z5 z6 z7 z8 z9 hbb eP hv2 hbel
def Cj (B:Nat) (_bB _bN:Nat) (me _bme:Int) (_s1:Option aj) (_s2 _s3:Nat) (_s4:Option aj) (_s5 _s6:Nat) (_s7:Option aj) (_s8 _s9:Nat) (_s10:Option aj) (_s11 _s12:Nat) (_s13:Option aj) (_s14 _s15:Nat) (m1:Option aj) (m2 m3:Nat) (m4:Option aj) (m5 m6:Nat) (m7:Option aj) (m8 m9:Nat) (m10:Option aj) (m11 m12:Nat) (m13:Option aj) (m14 m15:Nat) (at_:Nat) (rv lo hiv:aC) (lt ld:List eu) (i:Nat) (v:aC) (x:aF):Prop :=
 match i with
 | 0=>v=aL #[U V me,J m1 m2 m3,J m4 m5 m6,J m7 m8 m9,J m10 m11 m12,J m13 m14 m15]
 | 1=>∃ g,v=J (X ⟨g,0,O⟩) 0 0/\B<=g/\dH x g #[] 25
 | 2=>v=rv
 | 3=>v=U V (at_:Int)
 | 4=>v=lo
 | 5=>mG x B v lt
 | 6=>v=rv
 | 7=>v=U V (at_:Int)
 | 8=>v=U V ((at_:Int)+1)
 | 9=>v=hiv
 | 10=>mG x B v (lt++ld)
 | _=>True
noncomputable def JU:Code:=((Try.f3.body.bind (dZ 31)).getD .skip)
theorem GI (B:Nat) (bB bN:Nat) (me DZ:Int) (s1:Option aj) (s2 s3:Nat) (s4:Option aj) (s5 s6:Nat) (s7:Option aj) (s8 s9:Nat) (s10:Option aj) (s11 s12:Nat) (s13:Option aj) (s14 s15:Nat) (m1:Option aj) (m2 m3:Nat) (m4:Option aj) (m5 m6:Nat) (m7:Option aj) (m8 m9:Nat) (m10:Option aj) (m11 m12:Nat) (m13:Option aj) (m14 m15:Nat) (at_:Nat) (rv lo hiv:aC) (lt ld:List eu) (i:Nat) (v:aC) (x x':aF) (h:Cj B bB bN me DZ s1 s2 s3 s4 s5 s6 s7 s8 s9 s10 s11 s12 s13 s14 s15 m1 m2 m3 m4 m5 m6 m7 m8 m9 m10 m11 m12 m13 m14 m15 at_ rv lo hiv lt ld i v x) (hb:Below x.heap.size x x'):Cj B bB bN me DZ s1 s2 s3 s4 s5 s6 s7 s8 s9 s10 s11 s12 s13 s14 s15 m1 m2 m3 m4 m5 m6 m7 m8 m9 m10 m11 m12 m13 m14 m15 at_ rv lo hiv lt ld i v x':=by
 by_cases hi:i<11
 ·rcases (by omega:i=0\/i=1\/i=2\/i=3\/i=4\/i=5\/i=6\/i=7\/i=8\/i=9\/i=10) with rfl|rfl|rfl|rfl|rfl|rfl|rfl|rfl|rfl|rfl|rfl
  ·exact h
  ·obtain⟨g,h1,h2,h3⟩:=h; exact⟨g,h1,h2,h3.on hb⟩
  ·exact h
  ·exact h
  ·exact h
  ·exact Bk.dB h hb
  ·exact h
  ·exact h
  ·exact h
  ·exact h
  ·exact Bk.dB h hb
 ·unfold Cj
  split <;> first | omega | trivial
theorem Ju (Q:Exit->Act->aF->Prop) (W:aF) (bB bN:Nat) (me DZ:Int) (s1:Option aj) (s2 s3:Nat) (s4:Option aj) (s5 s6:Nat) (s7:Option aj) (s8 s9:Nat) (s10:Option aj) (s11 s12:Nat) (s13:Option aj) (s14 s15:Nat) (m1:Option aj) (m2 m3:Nat) (m4:Option aj) (m5 m6:Nat) (m7:Option aj) (m8 m9:Nat) (m10:Option aj) (m11 m12:Nat) (m13:Option aj) (m14 m15:Nat) (at_:Nat) (rv lo hiv:aC) (lt ld:List eu) (u0 u1 u2 u3 u4 u5 u7 u9 u10 u11 u12 u13 u16 u17 u18 u19 u20 u21 u22 u23 u24 u25 u26 u27 u28 u29 u30 u31 u32 u33 u34 u35 u36 u37 u38 u39 u40 u41 u42 u43 u44 u45 u46 u47 u48 u49 u50 u51 u52 u53 u54 u55 u56 u57 u58 u59 u60 u61 u62 u63 u64 u65 u66 u67 u68 u69 u70 u71 u72 u73 u74 u75 u76 u77 u78 u79 u80 u81 u82 u83 u84 u85 u86 u87 u88 u89 u90 u91 u92 u93 u94 u95 u96 u97 u98 u99 u100 u101 u102 u103 u104 u105 u106 u107 u108 u109 u110 u111 u112 u113 u114 u115 u116 u117 u118 u119 u120 u121 u122 u123 u124 u125 u126 u127 u128 u129 u130 u131 u132 u133 u134 u135 u136 u137 u138 u139 u140 u141 u142 u143 u144 u145 u146 u147 u148 u149 u150 u151 u152 u153 u154 u155 u156 u157 u158 u159 u160 u161 u162 u163 u164 u165 u166 u167 u168 u169 u170 u171 u172 u173 u174 u175 u176 u177 u178 u179 u180 u181 u182 u183 u184 u185 u186 u187 u188 u189 u190 u191 u192 u193 u194 u195 u196 u197 u198 u199 u200 u201 u202 u203 u204 u205:aC)
  (hn:dH W bN #[U V me,J m1 m2 m3,J m4 m5 m6,J m7 m8 m9,J m10 m11 m12,J m13 m14 m15] 31) (hx:dH W bB #[U V DZ,J s1 s2 s3,J s4 s5 s6,J s7 s8 s9,J s10 s11 s12,J s13 s14 s15] 31) (JV:∀ w,(aS 27 rv O (X (U V (at_:Int))) O).run aJ w=.ok lo w) (JW:∀ w,(aS 27 rv (X (U V ((at_:Int)+1))) O O).run aJ w=.ok hiv w) (JX:rT W lo lt) (JY:rT W hiv ld) (RZ:lt.length<=900) (R6:ld.length<=900) (a9:at_<=900)
  (hQ:∀ (x:aF) (w8:aC) (v188 v189 v190 v191 v192 v193 v194 v195 v196 v197 v198:aC),mG x W.heap.size w8 (lt++ld)->Below W.heap.size W x->Q .normal ⟨(u0::u1::u2::u3::u4::u5::L (X ⟨bB,0,O⟩)::u7::w8::u9::u10::u11::u12::u13::U V (at_:Int)::L (X ⟨bN,0,O⟩)::u16::u17::u18::u19::u20::u21::u22::u23::u24::u25::u26::u27::u28::u29::u30::u31::u32::u33::u34::u35::u36::u37::u38::u39::u40::u41::u42::u43::u44::u45::u46::u47::u48::u49::u50::u51::u52::u53::u54::u55::u56::u57::u58::u59::u60::u61::u62::u63::u64::u65::u66::u67::u68::u69::u70::u71::u72::u73::u74::u75::u76::u77::u78::u79::u80::u81::u82::u83::u84::u85::u86::u87::u88::u89::u90::u91::u92::u93::u94::u95::u96::u97::u98::u99::u100::u101::u102::u103::u104::u105::u106::u107::u108::u109::u110::u111::u112::u113::u114::u115::u116::u117::u118::u119::u120::u121::u122::u123::u124::u125::u126::u127::u128::u129::u130::u131::u132::u133::u134::u135::u136::u137::u138::u139::u140::u141::u142::u143::u144::u145::u146::u147::u148::u149::u150::u151::u152::u153::u154::u155::u156::u157::u158::u159::u160::u161::u162::u163::u164::u165::u166::u167::u168::u169::u170::u171::u172::u173::u174::u175::u176::u177::u178::u179::u180::u181::u182::u183::u184::u185::u186::u187::v188::v189::v190::v191::v192::v193::v194::v195::v196::v197::v198::u199::u200::u201::u202::u203::u204::u205::[]).toArray,[]⟩ (iD x bB (U V me) (J m1 m2 m3) (J m4 m5 m6) (J m7 m8 m9) (J m10 m11 m12) (J m13 m14 m15))) :
  Code.wp aJ JU Q ⟨(u0::u1::u2::u3::u4::u5::L (X ⟨bB,0,O⟩)::u7::rv::u9::u10::u11::u12::u13::U V (at_:Int)::L (X ⟨bN,0,O⟩)::u16::u17::u18::u19::u20::u21::u22::u23::u24::u25::u26::u27::u28::u29::u30::u31::u32::u33::u34::u35::u36::u37::u38::u39::u40::u41::u42::u43::u44::u45::u46::u47::u48::u49::u50::u51::u52::u53::u54::u55::u56::u57::u58::u59::u60::u61::u62::u63::u64::u65::u66::u67::u68::u69::u70::u71::u72::u73::u74::u75::u76::u77::u78::u79::u80::u81::u82::u83::u84::u85::u86::u87::u88::u89::u90::u91::u92::u93::u94::u95::u96::u97::u98::u99::u100::u101::u102::u103::u104::u105::u106::u107::u108::u109::u110::u111::u112::u113::u114::u115::u116::u117::u118::u119::u120::u121::u122::u123::u124::u125::u126::u127::u128::u129::u130::u131::u132::u133::u134::u135::u136::u137::u138::u139::u140::u141::u142::u143::u144::u145::u146::u147::u148::u149::u150::u151::u152::u153::u154::u155::u156::u157::u158::u159::u160::u161::u162::u163::u164::u165::u166::u167::u168::u169::u170::u171::u172::u173::u174::u175::u176::u177::u178::u179::u180::u181::u182::u183::u184::u185::u186::u187::u188::u189::u190::u191::u192::u193::u194::u195::u196::u197::u198::u199::u200::u201::u202::u203::u204::u205::[]).toArray,[]⟩ W:=by
 have HQ:=ah hQ;have HN:=ah hn;have HXB:=ah hx;have KX:=ah JV;have KY:=ah JW;have Tz:=ah JX;have TD:=ah JY;have LT:=ah RZ;have LD:=ah R6;have TI:=ah a9;clear hQ hn hx JV JW JX JY RZ R6 a9;have mQ:=GI W.heap.size bB bN me DZ s1 s2 s3 s4 s5 s6 s7 s8 s9 s10 s11 s12 s13 s14 s15 m1 m2 m3 m4 m5 m6 m7 m8 m9 m10 m11 m12 m13 m14 m15 at_ rv lo hiv lt ld;unfold JU
 conv=>arg 2; whnf
 have nd:∀ j,(∀ i,i<11->[188,189,190,191,192,193,194,195,196,197,198].getD i 0≠j)->∀ i,i<11->(fun i=>[188,189,190,191,192,193,194,195,196,197,198].getD i 0) i≠j:=fun j h=>h;refine Rg.iF 13 11 (fun i=>[188,189,190,191,192,193,194,195,196,197,198].getD i 0) (fun i=>if i=1 then 5 else if i=5 then 10 else 11) (Cj W.heap.size bB bN me DZ s1 s2 s3 s4 s5 s6 s7 s8 s9 s10 s11 s12 s13 s14 s15 m1 m2 m3 m4 m5 m6 m7 m8 m9 m10 m11 m12 m13 m14 m15 at_ rv lo hiv lt ld) (by kernel_rfl) (by kernel_rfl) rfl (by decide) (fun i j hi hj h=>(by decide:∀ i,i<11->∀ j,j<11->[188,189,190,191,192,193,194,195,196,197,198].getD i 0=[188,189,190,191,192,193,194,195,196,197,198].getD j 0->i=j) i hi j hj h) (fun i hi=>(by decide:∀ i,i<11->[188,189,190,191,192,193,194,195,196,197,198].getD i 0<206) i hi) ?_ (fun _=>Rg.kQ 14 (by kernel_rfl)) ?_ ?_
 ·intro i o hi ho a x D hnd hc hD hb seen K hK;clear HQ;rcases (by omega:i=0\/i=1\/i=2\/i=3\/i=4\/i=5\/i=6\/i=7\/i=8\/i=9\/i=10) with rfl|rfl|rfl|rfl|rfl|rfl|rfl|rfl|rfl|rfl|rfl
  ·cases ho;have e15:a.eval (Z 15)=L (X ⟨bN,0,O⟩):=seen.kp 15 _ (nd 15 (by decide)) rfl;obtain⟨y0,y1,y2,y3,y4,y5⟩:=(HN.out.on hb).jc;exact aA rfl rfl (bf a.eval _ 31 (Z 15) rfl (by rw [e15]; simp [go_sem,y0,y1,y2,y3,y4,y5])) (hK _ _ rfl (Y _ _) fun _ _ _ _ _ _ _ h=>h)
  ·cases ho;exact aA rfl rfl (bU a.eval _ 27 0 #[] rfl rfl (by simp [go_sem])) (hK (J (X ⟨x.heap.size,0,O⟩) 0 0) (x.alloc (.cells #[] 25)) ⟨x.heap.size,rfl,hb.size,dO x #[] 25⟩ ((Y _ _).alloc hb.size _) fun j u _ _ _ _ _ h=>mQ j u _ _ h ((Y _ _).alloc (aQ _) _))
  ·cases ho;have e8:a.eval (Z 8)=rv:=seen.kp 8 _ (nd 8 (by decide)) rfl;exact aA rfl rfl (aX a.eval _ (Z 8) rfl x) (hK _ _ e8 (Y _ _) fun _ _ _ _ _ _ _ h=>h)
  ·cases ho;have e14:a.eval (Z 14)=U V (at_:Int):=seen.kp 14 _ (nd 14 (by decide)) rfl;exact aA rfl rfl (aX a.eval _ (Z 14) rfl x) (hK _ _ e14 (Y _ _) fun _ _ _ _ _ _ _ h=>h)
  ·cases ho;have e190:a.eval (Z 190)=rv:=seen.at_ ⟨2,.data⟩ (by simp) rfl (ak (by decide));have e191:a.eval (Z 191)=U V (at_:Int):=seen.at_ ⟨3,.data⟩ (by simp) rfl (ak (by decide));exact aA rfl rfl (Rg.xC a.eval _ 27 (Z 190) O (X (Z 191)) O rfl (by show (aS 27 (a.eval (Z 190)) O (X (a.eval (Z 191))) O).run aJ x=.ok lo x; rw [e190,e191]; exact KX.out x)) (hK _ _ rfl (Y _ _) fun _ _ _ _ _ _ _ h=>h)
  ·cases ho;have Qp:=seen.at_ ⟨1,.data⟩ (by simp) rfl (aP rfl);have e192:a.eval (Z 192)=lo:=seen.at_ ⟨4,.data⟩ (by simp) rfl (ak (by decide));obtain⟨g,q0,hBg,hbx⟩:=Qp;have q0:a.eval (Z 189)=J (X ⟨g,0,O⟩) 0 0:=q0;obtain⟨v',x',r,o',gr⟩:=jy qY W.heap.size hbx hBg (Tz.out.on hb) (aM LT.out (by decide)) 27;exact aA rfl rfl (bV a.eval _ (Z 189) (Z 192) 27 rfl q0 e192 r) (hK v' x' o' (gr.mono hb.size) fun j u _ _ _ _ _ h=>mQ j u _ _ h gr)
  ·cases ho;have e8:a.eval (Z 8)=rv:=seen.kp 8 _ (nd 8 (by decide)) rfl;exact aA rfl rfl (aX a.eval _ (Z 8) rfl x) (hK _ _ e8 (Y _ _) fun _ _ _ _ _ _ _ h=>h)
  ·cases ho;have e14:a.eval (Z 14)=U V (at_:Int):=seen.kp 14 _ (nd 14 (by decide)) rfl;exact aA rfl rfl (aX a.eval _ (Z 14) rfl x) (hK _ _ e14 (Y _ _) fun _ _ _ _ _ _ _ h=>h)
  ·cases ho;have e195:a.eval (Z 195)=U V (at_:Int):=seen.at_ ⟨7,.data⟩ (by simp) rfl (ak (by decide));exact aA rfl rfl (Rg.EA a.eval _ .add 3 (Z 195) (.const (U V 1)) 3 rfl (by rw [e195]; exact add_one _ _ _ _ at_ TI.out)) (hK _ _ rfl (Y _ _) fun _ _ _ _ _ _ _ h=>h)
  ·cases ho;have e194:a.eval (Z 194)=rv:=seen.at_ ⟨6,.data⟩ (by simp) rfl (ak (by decide));have e196:a.eval (Z 196)=U V ((at_:Int)+1):=seen.at_ ⟨8,.data⟩ (by simp) rfl (ak (by decide));exact aA rfl rfl (Rg.xC a.eval _ 27 (Z 194) (X (Z 196)) O O rfl (by show (aS 27 (a.eval (Z 194)) (X (a.eval (Z 196))) O O).run aJ x=.ok hiv x; rw [e194,e196]; exact KY.out x)) (hK _ _ rfl (Y _ _) fun _ _ _ _ _ _ _ h=>h)
  ·cases ho;have Qq:=seen.at_ ⟨5,.data⟩ (by simp) rfl (aP rfl);have e197:a.eval (Z 197)=hiv:=seen.at_ ⟨9,.data⟩ (by simp) rfl (ak (by decide));have o5:mG x W.heap.size (a.eval (Z 193)) lt:=Qq;have d5:=hD ⟨5,.data⟩ (by simp) rfl;have d1:=hc 5 _ d5 rfl ⟨1,.data⟩ (by simp) rfl;obtain⟨v',x',r,o',gr⟩:=kP qY W.heap.size o5 (TD.out.on hb) (aM LT.out (by decide)) (aM LD.out (by decide)) hb.size 27;exact aA rfl rfl (bV a.eval _ (Z 193) (Z 197) 27 rfl rfl e197 r) (hK v' x' o' ((Y _ x).grown gr hb.size fun j hj=>(o5.lt j hj).1) fun j u hj dj nl nx ni h=>by
    rcases (by omega:j=0\/j=1\/j=2\/j=3\/j=4\/j=5\/j=6\/j=7\/j=8\/j=9\/j=10) with rfl|rfl|rfl|rfl|rfl|rfl|rfl|rfl|rfl|rfl|rfl
    ·exact h
    ·exact absurd d5 nl
    ·exact h
    ·exact h
    ·exact h
    ·exact absurd rfl nx
    ·exact h
    ·exact h
    ·exact h
    ·exact h
    ·exact absurd rfl ni)
 ·intro kk o h1 h2 ho;rcases (by omega:kk=12) with rfl
  ·cases ho;exact⟨⟨11,.chain⟩,by simp,rfl,rfl⟩
 ·intro a w' df sz kp ⟨vs,hv⟩ hb;have sz':a.tmps.size=206:=sz;have g6:a.tmps[6]?=X (L (X ⟨bB,0,O⟩)):=(kp 6 (nd 6 (by decide))).trans rfl;have g188:a.tmps[188]?=X (aL #[U V me,J m1 m2 m3,J m4 m5 m6,J m7 m8 m9,J m10 m11 m12,J m13 m14 m15]):=by
   have h:vs 0=aL #[U V me,J m1 m2 m3,J m4 m5 m6,J m7 m8 m9,J m10 m11 m12,J m13 m14 m15]:=(hv 0 (by omega)).2 (by decide);rw [<- h];exact (hv 0 (by omega)).1
  have g198:a.tmps[198]?=X (vs 10):=(hv 10 (by omega)).1;have Qr:=(hv 10 (by omega)).2 (by decide);have o10:mG w' W.heap.size (vs 10) (lt++ld):=Qr;generalize vs 10=v' at *;show bP _ _ _ 2 11 a w';simp only [bP];have hxw:=HXB.out.on hb;have hs:=kS hxw me m1 m4 m7 m10 m13 m2 m3 m5 m6 m8 m9 m11 m12 m14 m15;have hq:=HQ.out w' v';generalize iD w' bB (U V me) (J m1 m2 m3) (J m4 m5 m6) (J m7 m8 m9) (J m10 m11 m12) (J m13 m14 m15)=y2 at *;refine bL 31 (Z 6) (Z 188) rfl rfl rfl rfl (bK g6) (bK g188) hs ?_;refine aA rfl rfl (bJ _ _ (Z 198) rfl y2) ?_;show Q .normal (a.put (X 8) (a.eval (Z 198))) y2;rw [bK g198];have ka:∀ j,j≠8->(a.put (X 8) v').tmps[j]?=a.tmps[j]?:=fun j h1=>by rw [aO _ _ _ _ (by omega)]
  have kt:(a.put (X 8) v').tmps[8]?=X (v'):=by simp [Act.put,sz']
  have uR:∀ j,(j<188\/199<=j)->(a.put (X 8) v').tmps[j]?=(u0::u1::u2::u3::u4::u5::L (X ⟨bB,0,O⟩)::u7::v'::u9::u10::u11::u12::u13::U V (at_:Int)::L (X ⟨bN,0,O⟩)::u16::u17::u18::u19::u20::u21::u22::u23::u24::u25::u26::u27::u28::u29::u30::u31::u32::u33::u34::u35::u36::u37::u38::u39::u40::u41::u42::u43::u44::u45::u46::u47::u48::u49::u50::u51::u52::u53::u54::u55::u56::u57::u58::u59::u60::u61::u62::u63::u64::u65::u66::u67::u68::u69::u70::u71::u72::u73::u74::u75::u76::u77::u78::u79::u80::u81::u82::u83::u84::u85::u86::u87::u88::u89::u90::u91::u92::u93::u94::u95::u96::u97::u98::u99::u100::u101::u102::u103::u104::u105::u106::u107::u108::u109::u110::u111::u112::u113::u114::u115::u116::u117::u118::u119::u120::u121::u122::u123::u124::u125::u126::u127::u128::u129::u130::u131::u132::u133::u134::u135::u136::u137::u138::u139::u140::u141::u142::u143::u144::u145::u146::u147::u148::u149::u150::u151::u152::u153::u154::u155::u156::u157::u158::u159::u160::u161::u162::u163::u164::u165::u166::u167::u168::u169::u170::u171::u172::u173::u174::u175::u176::u177::u178::u179::u180::u181::u182::u183::u184::u185::u186::u187::u188::u189::u190::u191::u192::u193::u194::u195::u196::u197::u198::u199::u200::u201::u202::u203::u204::u205::[])[j]?:=fun j hj=>by
   by_cases hj2:j=8
   ·subst hj2;exact kt
   ·have hs:(u0::u1::u2::u3::u4::u5::L (X ⟨bB,0,O⟩)::u7::v'::u9::u10::u11::u12::u13::U V (at_:Int)::L (X ⟨bN,0,O⟩)::u16::u17::u18::u19::u20::u21::u22::u23::u24::u25::u26::u27::u28::u29::u30::u31::u32::u33::u34::u35::u36::u37::u38::u39::u40::u41::u42::u43::u44::u45::u46::u47::u48::u49::u50::u51::u52::u53::u54::u55::u56::u57::u58::u59::u60::u61::u62::u63::u64::u65::u66::u67::u68::u69::u70::u71::u72::u73::u74::u75::u76::u77::u78::u79::u80::u81::u82::u83::u84::u85::u86::u87::u88::u89::u90::u91::u92::u93::u94::u95::u96::u97::u98::u99::u100::u101::u102::u103::u104::u105::u106::u107::u108::u109::u110::u111::u112::u113::u114::u115::u116::u117::u118::u119::u120::u121::u122::u123::u124::u125::u126::u127::u128::u129::u130::u131::u132::u133::u134::u135::u136::u137::u138::u139::u140::u141::u142::u143::u144::u145::u146::u147::u148::u149::u150::u151::u152::u153::u154::u155::u156::u157::u158::u159::u160::u161::u162::u163::u164::u165::u166::u167::u168::u169::u170::u171::u172::u173::u174::u175::u176::u177::u178::u179::u180::u181::u182::u183::u184::u185::u186::u187::u188::u189::u190::u191::u192::u193::u194::u195::u196::u197::u198::u199::u200::u201::u202::u203::u204::u205::[]:List aC)=(u0::u1::u2::u3::u4::u5::L (X ⟨bB,0,O⟩)::u7::rv::u9::u10::u11::u12::u13::U V (at_:Int)::L (X ⟨bN,0,O⟩)::u16::u17::u18::u19::u20::u21::u22::u23::u24::u25::u26::u27::u28::u29::u30::u31::u32::u33::u34::u35::u36::u37::u38::u39::u40::u41::u42::u43::u44::u45::u46::u47::u48::u49::u50::u51::u52::u53::u54::u55::u56::u57::u58::u59::u60::u61::u62::u63::u64::u65::u66::u67::u68::u69::u70::u71::u72::u73::u74::u75::u76::u77::u78::u79::u80::u81::u82::u83::u84::u85::u86::u87::u88::u89::u90::u91::u92::u93::u94::u95::u96::u97::u98::u99::u100::u101::u102::u103::u104::u105::u106::u107::u108::u109::u110::u111::u112::u113::u114::u115::u116::u117::u118::u119::u120::u121::u122::u123::u124::u125::u126::u127::u128::u129::u130::u131::u132::u133::u134::u135::u136::u137::u138::u139::u140::u141::u142::u143::u144::u145::u146::u147::u148::u149::u150::u151::u152::u153::u154::u155::u156::u157::u158::u159::u160::u161::u162::u163::u164::u165::u166::u167::u168::u169::u170::u171::u172::u173::u174::u175::u176::u177::u178::u179::u180::u181::u182::u183::u184::u185::u186::u187::u188::u189::u190::u191::u192::u193::u194::u195::u196::u197::u198::u199::u200::u201::u202::u203::u204::u205::[]).set 8 (v'):=rfl;rw [hs,aW (Ne.symm hj2)];exact (ka j hj2).trans ((kp j (nd j fun i hi h=>by have:=(by decide:∀ i,i<11->188<=[188,189,190,191,192,193,194,195,196,197,198].getD i 0/\[188,189,190,191,192,193,194,195,196,197,198].getD i 0<199) i hi; omega)).trans aG)
  obtain⟨mid,hmid,hfr⟩:=Rg.gQ (a:=a.put (X 8) v') 188 11 (by simp [Act.put,df]) (by simp [Act.put,sz']) (by simp) uR;rw [hfr]
  match mid,hmid with
  | [v188,v189,v190,v191,v192,v193,v194,v195,v196,v197,v198],_ =>
   exact hq _ _ _ _ _ _ _ _ _ _ _ o10 hb
abbrev Lp:Br:=⟨4,[0,1],[⟨(1,1),[],0⟩],[(1,1)],[],[]⟩
theorem Ec:mK (mR 4 [0,1]) ⟨(1,1),[],0⟩=(Lp,aI):=rfl
theorem Hu:wM (mR 4 [0,1]):=⟨by simp,by simp,by simp,by simp,by simp⟩
theorem Ed:lW (mR 4 [0,1]):=⟨by simp,by simp,by simp⟩
def QT (_B:Nat) (_b1:Nat) (i:Nat) (v:aC) (x:aF):Prop :=
 match i with
 | 0=>∃ sl:Sl,v=dR sl/\xD x v [0,1]
 | 1=>∃ nv:Sl,v=iN 4 nv (O,0,0) (O,0,0) (O,0,0) (O,0,0)/\l6 x (mR 4 [0,1]) nv (O,0,0) (O,0,0) (O,0,0) (O,0,0)
 | 2=>v=aL #[U V 1,U V 1]
 | 3=>v=aL #[U V 1,U V 1,J O 0 0,U V 0]
 | 4=>∃ nv av sv ev ov:Sl,v=.tuple #[iN 4 nv av sv ev ov,au aI]/\l6 x Lp nv av sv ev ov
 | 5=>∃ nv av sv ev ov:Sl,v=.tuple #[iN 4 nv av sv ev ov,au aI]/\l6 x Lp nv av sv ev ov
 | 6=>∃ nv av sv ev ov:Sl,v=iN 4 nv av sv ev ov/\l6 x Lp nv av sv ev ov
 | 7=>v=au aI
 | 8=>True
 | 9=>True
 | 10=>v=au aI
 | _=>True
noncomputable def Ox:Code:=((Try.f3.body.bind (dZ 2)).getD .skip)
theorem Ul (Q:Exit->Act->aF->Prop) (W:aF) (b1:Nat) (u0 u1 u2 u3 u4 u6 u7 u8 u9 u10 u11 u12 u13 u14 u15 u16 u17 u18 u19 u20 u21 u22 u23 u24 u25 u26 u27 u28 u29 u30 u31 u32 u33 u34 u35 u36 u37 u38 u39 u40 u41 u42 u43 u44 u45 u46 u47 u48 u49 u50 u51 u52 u53 u54 u55 u56 u57 u58 u59 u60 u61 u62 u63 u64 u65 u66 u67 u68 u69 u70 u71 u72 u73 u74 u75 u76 u77 u78 u79 u80 u81 u82 u83 u84 u85 u86 u87 u88 u89 u90 u91 u92 u93 u94 u95 u96 u97 u98 u99 u100 u101 u102 u103 u104 u105 u106 u107 u108 u109 u110 u111 u112 u113 u114 u115 u116 u117 u118 u119 u120 u121 u122 u123 u124 u125 u126 u127 u128 u129 u130 u131 u132 u133 u134 u135 u136 u137 u138 u139 u140 u141 u142 u143 u144 u145 u146 u147 u148 u149 u150 u151 u152 u153 u154 u155 u156 u157 u158 u159 u160 u161 u162 u163 u164 u165 u166 u167 u168 u169 u170 u171 u172 u173 u174 u175 u176 u177 u178 u179 u180 u181 u182 u183 u184 u185 u186 u187 u188 u189 u190 u191 u192 u193 u194 u195 u196 u197 u198 u199 u200 u201 u202 u203 u204 u205:aC)
  (h1:dH W b1 #[U V 1,U V 1] 25)
  (hQ:∀ (x:aF) (bb:Nat) (v25 v26 v27 v28 v29 v30 v31 v32:aC) (m1:Option aj) (m2 m3:Nat) (m4:Option aj) (m5 m6:Nat) (m7:Option aj) (m8 m9:Nat) (m10:Option aj) (m11 m12:Nat) (m13:Option aj) (m14 m15:Nat),W.heap.size<=bb->dH x bb #[U V 4,J m1 m2 m3,J m4 m5 m6,J m7 m8 m9,J m10 m11 m12,J m13 m14 m15] 31->l6 x Lp (m1,m2,m3) (m4,m5,m6) (m7,m8,m9) (m10,m11,m12) (m13,m14,m15)->Below W.heap.size W x->Q .normal ⟨(u0::u1::u2::u3::u4::L (X ⟨b1,0,O⟩)::L (X ⟨bb,0,O⟩)::au aI::u8::u9::u10::u11::u12::u13::u14::u15::u16::u17::u18::u19::u20::u21::u22::u23::u24::v25::v26::v27::v28::v29::v30::v31::v32::u33::u34::u35::u36::u37::u38::u39::u40::u41::u42::u43::u44::u45::u46::u47::u48::u49::u50::u51::u52::u53::u54::u55::u56::u57::u58::u59::u60::u61::u62::u63::u64::u65::u66::u67::u68::u69::u70::u71::u72::u73::u74::u75::u76::u77::u78::u79::u80::u81::u82::u83::u84::u85::u86::u87::u88::u89::u90::u91::u92::u93::u94::u95::u96::u97::u98::u99::u100::u101::u102::u103::u104::u105::u106::u107::u108::u109::u110::u111::u112::u113::u114::u115::u116::u117::u118::u119::u120::u121::u122::u123::u124::u125::u126::u127::u128::u129::u130::u131::u132::u133::u134::u135::u136::u137::u138::u139::u140::u141::u142::u143::u144::u145::u146::u147::u148::u149::u150::u151::u152::u153::u154::u155::u156::u157::u158::u159::u160::u161::u162::u163::u164::u165::u166::u167::u168::u169::u170::u171::u172::u173::u174::u175::u176::u177::u178::u179::u180::u181::u182::u183::u184::u185::u186::u187::u188::u189::u190::u191::u192::u193::u194::u195::u196::u197::u198::u199::u200::u201::u202::u203::u204::u205::[]).toArray,[]⟩ x) :
  Code.wp aJ Ox Q ⟨(u0::u1::u2::u3::u4::L (X ⟨b1,0,O⟩)::u6::u7::u8::u9::u10::u11::u12::u13::u14::u15::u16::u17::u18::u19::u20::u21::u22::u23::u24::u25::u26::u27::u28::u29::u30::u31::u32::u33::u34::u35::u36::u37::u38::u39::u40::u41::u42::u43::u44::u45::u46::u47::u48::u49::u50::u51::u52::u53::u54::u55::u56::u57::u58::u59::u60::u61::u62::u63::u64::u65::u66::u67::u68::u69::u70::u71::u72::u73::u74::u75::u76::u77::u78::u79::u80::u81::u82::u83::u84::u85::u86::u87::u88::u89::u90::u91::u92::u93::u94::u95::u96::u97::u98::u99::u100::u101::u102::u103::u104::u105::u106::u107::u108::u109::u110::u111::u112::u113::u114::u115::u116::u117::u118::u119::u120::u121::u122::u123::u124::u125::u126::u127::u128::u129::u130::u131::u132::u133::u134::u135::u136::u137::u138::u139::u140::u141::u142::u143::u144::u145::u146::u147::u148::u149::u150::u151::u152::u153::u154::u155::u156::u157::u158::u159::u160::u161::u162::u163::u164::u165::u166::u167::u168::u169::u170::u171::u172::u173::u174::u175::u176::u177::u178::u179::u180::u181::u182::u183::u184::u185::u186::u187::u188::u189::u190::u191::u192::u193::u194::u195::u196::u197::u198::u199::u200::u201::u202::u203::u204::u205::[]).toArray,[]⟩ W:=by
 have HQ:=ah hQ;have H1:=ah h1;clear hQ h1;unfold Ox
 conv=>arg 2; whnf
 have KT:∀ i,i<11->[26,27,28,29,30,25,31,32,6,6,7].getD i 0≠5:=by decide
 refine bQ 11 8 9 6 (fun i=>[26,27,28,29,30,25,31,32,6,6,7].getD i 0) (fun i=>if i=0 then 1 else if i=1 then 4 else if i=4 then 5 else 11) (QT W.heap.size b1) 31 #[U V 0,J O 0 0,J O 0 0,J O 0 0,J O 0 0,J O 0 0] (fun v=>match v with | aL c=>c | _=>#[]) (by kernel_rfl) (by kernel_rfl) rfl (by decide) (by decide) (by decide) (by decide) (by decide) (by decide) (by decide) (fun i j hi hj h1 h2 h=>(by decide:∀ i,i<11->∀ j,j<11->i≠9->j≠9->[26,27,28,29,30,25,31,32,6,6,7].getD i 0=[26,27,28,29,30,25,31,32,6,6,7].getD j 0->i=j) i hi j hj h1 h2 h) (fun i hi=>(by decide:∀ i,i<11->[26,27,28,29,30,25,31,32,6,6,7].getD i 0<206) i hi) ?_ ?_ ?_ ?_ ?_ ?_
 ·intro i v x x' hi h hb;rcases (by omega:i=0\/i=1\/i=2\/i=3\/i=4\/i=5\/i=6\/i=7\/i=8\/i=9\/i=10) with rfl|rfl|rfl|rfl|rfl|rfl|rfl|rfl|rfl|rfl|rfl
  ·obtain⟨s,h1,h2⟩:=h; exact⟨s,h1,h2.on hb⟩
  ·obtain⟨s,h1,h2⟩:=h; exact⟨s,h1,h2.on hb⟩
  ·exact h
  ·exact h
  ·obtain⟨a1,a2,a3,a4,a5,h1,h2⟩:=h; exact⟨a1,a2,a3,a4,a5,h1,h2.on hb⟩
  ·obtain⟨a1,a2,a3,a4,a5,h1,h2⟩:=h; exact⟨a1,a2,a3,a4,a5,h1,h2.on hb⟩
  ·obtain⟨a1,a2,a3,a4,a5,h1,h2⟩:=h; exact⟨a1,a2,a3,a4,a5,h1,h2.on hb⟩
  ·exact h
  ·exact h
  ·exact h
  ·exact h
 ·intro o ho;cases ho;exact⟨⟨⟨8,.data⟩,by simp,rfl,rfl⟩,⟨⟨6,.data⟩,by simp,rfl,rfl⟩⟩
 ·intro i o hi Ie qC ho a x hb seen K hK;clear HQ;rcases (by omega:i=0\/i=1\/i=2\/i=3\/i=4\/i=5\/i=6\/i=7\/i=10) with rfl|rfl|rfl|rfl|rfl|rfl|rfl|rfl|rfl
  ·cases ho;have hl:=nR Nm.Il x [0,1] 2 rfl (by simp) #[U V 0,U V 1] (by rfl);exact aA rfl rfl (bU a.eval _ 23 2 #[(0,.const (U V 0)),(1,.const (U V 1))] rfl (ps:=#[(0,U V 0),(1,U V 1)]) (by simp only [bA,bH,bI]; rfl) (by simp [go_sem])) (hK (J (X ⟨x.heap.size,0,O⟩) 2 2) (x.alloc (.cells #[U V 0,U V 1] 3)) ⟨(X ⟨x.heap.size,0,O⟩,2,2),rfl,Row.dM hl⟩ ((Y _ _).alloc (aQ _) _))
  ·cases ho;have Qx:=seen.at_ ⟨0,.data⟩ (by simp) rfl (by decide) (by decide) (aP rfl);obtain⟨sl,q0,q1⟩:=Qx;have q0:a.eval (Z 26)=dR sl:=q0;have q1:xD x (dR sl) [0,1]:=by rw [<- q0]; exact q1
   exact bM rfl rfl (Rw.jh a.eval _ (.const (U V 4)) (Z 26) 3 23 6 rfl rfl q0 rfl _ (eT Try.func6 rfl rfl _ _)) (xQ 4 sl [0,1] x q1 (by decide)) fun e w1 h=>by
    obtain⟨⟨l',nv,rfl,h1,h2,h3,h4⟩,h5⟩:=h;have e1:l'=[0,1]:=qR h3 (by decide) (fun y=>(h4 y).trans (by simp));subst e1;exact⟨_,rfl,hK _ _ ⟨nv,rfl,h1,h2⟩ h5⟩
  ·cases ho;have e5:a.eval (Z 5)=L (X ⟨b1,0,O⟩):=seen.kp 5 _ KT rfl;obtain⟨y0,y1⟩:=(H1.out.on hb).cs2;exact aA rfl rfl (bf a.eval _ 25 (Z 5) rfl (by rw [e5]; simp [go_sem,y0,y1])) (hK _ x rfl (Y _ _))
  ·cases ho;have e28:a.eval (Z 28)=aL #[U V 1,U V 1]:=seen.at_ ⟨2,.data⟩ (by simp) rfl (by decide) (by decide) (ak (by decide));exact aA rfl rfl (Rg.jw a.eval _ 37 #[(0,Z 28),(2,.const (U V 0))] rfl (by simp only [bA,bH,bI,e28]; rfl) (by simp [go_sem])) (hK _ x rfl (Y _ _))
  ·cases ho;have Um:=seen.at_ ⟨1,.data⟩ (by simp) rfl (by decide) (by decide) (aP rfl);have e29:a.eval (Z 29)=aL #[U V 1,U V 1,J O 0 0,U V 0]:=seen.at_ ⟨3,.data⟩ (by simp) rfl (by decide) (by decide) (ak (by decide));obtain⟨nv,q0,q1⟩:=Um;have hx:uO x (1,1,(O,0,0),0) ⟨(1,1),[],0⟩:=⟨rfl,rfl,jL _⟩;exact bM rfl rfl (Rw.jh a.eval _ (Z 27) (Z 29) 31 37 5 rfl q0 e29 rfl _ (eT Try.func5 rfl rfl _ _)) (vR (mR 4 [0,1]) ⟨(1,1),[],0⟩ nv (O,0,0) (O,0,0) (O,0,0) (O,0,0) (1,1,(O,0,0),0) x q1.br hx Hu Ed (by simp) aN aN) fun e w1 h=>by
    rw [Ec] at h;obtain⟨⟨a1,a2,a3,a4,a5,rfl,h2,h3⟩,h5⟩:=h;exact⟨_,rfl,hK _ _ ⟨a1,a2,a3,a4,a5,rfl,h2,h3 q1.no⟩ h5⟩
  ·cases ho;have Un:=seen.at_ ⟨4,.data⟩ (by simp) rfl (by decide) (by decide) (aP rfl);exact aA rfl rfl (aX a.eval _ (Z 30) rfl x) (hK _ x Un (Y _ _))
  ·cases ho;have Nt:=seen.at_ ⟨5,.data⟩ (by simp) rfl (by decide) (by decide) (ak (by decide));obtain⟨a1,a2,a3,a4,a5,h1,h2⟩:=Nt;exact aA rfl rfl (fF a.eval _ (Z 25) 0 rfl (c:=#[iN 4 a1 a2 a3 a4 a5,au aI]) h1 rfl x) (hK _ x ⟨a1,a2,a3,a4,a5,rfl,h2⟩ (Y _ _))
  ·cases ho;have Nt:=seen.at_ ⟨5,.data⟩ (by simp) rfl (by decide) (by decide) (ak (by decide));obtain⟨a1,a2,a3,a4,a5,h1,h2⟩:=Nt;exact aA rfl rfl (fF a.eval _ (Z 25) 1 rfl (c:=#[iN 4 a1 a2 a3 a4 a5,au aI]) h1 rfl x) (hK _ x rfl (Y _ _))
  ·cases ho;have e32:a.eval (Z 32)=au aI:=seen.at_ ⟨7,.data⟩ (by simp) rfl (by decide) (by decide) (ak (by decide));exact aA rfl rfl (bJ a.eval _ (Z 32) rfl x) (hK _ x e32 (Y _ _))
 ·intro o ho a x K hK;cases ho;exact aA rfl rfl (bS a.eval _ 31 rfl (by simp [go_sem])) hK
 ·intro o ho a x bb v D hc hD hb hA hC qX hbb eP K hK;clear HQ;cases ho;obtain⟨⟨m1,m2,m3⟩,⟨m4,m5,m6⟩,⟨m7,m8,m9⟩,⟨m10,m11,m12⟩,⟨m13,m14,m15⟩,hv1,hv2⟩:=qX;subst hv1;have gK:=eZ x bb (U V 4) (J m1 m2 m3) (J m4 m5 m6) (J m7 m8 m9) (J m10 m11 m12) (J m13 m14 m15);refine bL 31 (Z 6) (Z 31) rfl rfl rfl rfl hA hC (w':=iD x bb (U V 4) (J m1 m2 m3) (J m4 m5 m6) (J m7 m8 m9) (J m10 m11 m12) (J m13 m14 m15)) (kS eP _ _ _ _ _ _ _ _ _ _ _ _ _ _ _ _) (hK _ (dQ hb hbb _ _ _ _ _ _) (eD eP _ _ _ _ _ _) ?_);exact fun j u hj O7 Mf hdj hnl hls h=>by
   rcases (by omega:j=0\/j=1\/j=2\/j=3\/j=4\/j=5\/j=6\/j=7\/j=10) with rfl|rfl|rfl|rfl|rfl|rfl|rfl|rfl|rfl
   ·exact absurd (hD ⟨1,.phase⟩ (by simp) rfl) hnl
   ·exact absurd (hD ⟨4,.chain⟩ (by simp) rfl) hnl
   ·have h2:u=aL #[U V 1,U V 1]:=h; exact h2
   ·have h2:u=aL #[U V 1,U V 1,J O 0 0,U V 0]:=h; exact h2
   ·exact absurd (hD ⟨5,.phase⟩ (by simp) rfl) hnl
   ·obtain⟨a1,a2,a3,a4,a5,h1,h2⟩:=h; exact⟨a1,a2,a3,a4,a5,h1,h2.keep (s1:=(O,0,0)) (s2:=(O,0,0)) (s3:=(O,0,0)) (s4:=(O,0,0)) (s5:=(O,0,0)) (me:=0) eP gK⟩
   ·obtain⟨a1,a2,a3,a4,a5,h1,h2⟩:=h; exact⟨a1,a2,a3,a4,a5,h1,h2.keep (s1:=(O,0,0)) (s2:=(O,0,0)) (s3:=(O,0,0)) (s4:=(O,0,0)) (s5:=(O,0,0)) (me:=0) eP gK⟩
   ·have h2:u=au aI:=h; exact h2
   ·have h2:u=au aI:=h; exact h2
 ·intro a x bb v df sz kp gA gC hbb eP qX hbel ⟨vs,hv⟩;obtain⟨⟨m1,m2,m3⟩,⟨m4,m5,m6⟩,⟨m7,m8,m9⟩,⟨m10,m11,m12⟩,⟨m13,m14,m15⟩,hv1,hv2⟩:=qX;subst hv1;have g6:a.tmps[6]?=X (L (X ⟨bb,0,O⟩)):=gA;have g7:a.tmps[7]?=X (au aI):=by
   have h:vs 10=au aI:=(hv 10 (by decide) (by decide) (by decide)).2 (by decide);rw [<- h];exact (hv 10 (by decide) (by decide) (by decide)).1
  have jG:a.tmps.size=206:=sz;obtain⟨v25,g25⟩:=aD jG 25 (by decide);obtain⟨v26,g26⟩:=aD jG 26 (by decide);obtain⟨v27,g27⟩:=aD jG 27 (by decide);obtain⟨v28,g28⟩:=aD jG 28 (by decide);obtain⟨v29,g29⟩:=aD jG 29 (by decide);obtain⟨v30,g30⟩:=aD jG 30 (by decide);obtain⟨v31,g31⟩:=aD jG 31 (by decide);obtain⟨v32,g32⟩:=aD jG 32 (by decide);have hfr:=bO [6,7,25,26,27,28,29,30,31,32] [L (X ⟨bb,0,O⟩),au aI,v25,v26,v27,v28,v29,v30,v31,v32] df sz (fun d hd=>(by decide:∀ d∈[6,7,25,26,27,28,29,30,31,32],d<206) d hd) (fun j hj=>(kp j (fun i hi h=>hj (h ▸ (by decide:∀ i,i<11->[26,27,28,29,30,25,31,32,6,6,7].getD i 0∈[6,7,25,26,27,28,29,30,31,32]) i hi))).trans aG) rfl ⟨g6,g7,g25,g26,g27,g28,g29,g30,g31,g32,trivial⟩;rw [hfr];show Q .normal ⟨(u0::u1::u2::u3::u4::L (X ⟨b1,0,O⟩)::L (X ⟨bb,0,O⟩)::au aI::u8::u9::u10::u11::u12::u13::u14::u15::u16::u17::u18::u19::u20::u21::u22::u23::u24::v25::v26::v27::v28::v29::v30::v31::v32::u33::u34::u35::u36::u37::u38::u39::u40::u41::u42::u43::u44::u45::u46::u47::u48::u49::u50::u51::u52::u53::u54::u55::u56::u57::u58::u59::u60::u61::u62::u63::u64::u65::u66::u67::u68::u69::u70::u71::u72::u73::u74::u75::u76::u77::u78::u79::u80::u81::u82::u83::u84::u85::u86::u87::u88::u89::u90::u91::u92::u93::u94::u95::u96::u97::u98::u99::u100::u101::u102::u103::u104::u105::u106::u107::u108::u109::u110::u111::u112::u113::u114::u115::u116::u117::u118::u119::u120::u121::u122::u123::u124::u125::u126::u127::u128::u129::u130::u131::u132::u133::u134::u135::u136::u137::u138::u139::u140::u141::u142::u143::u144::u145::u146::u147::u148::u149::u150::u151::u152::u153::u154::u155::u156::u157::u158::u159::u160::u161::u162::u163::u164::u165::u166::u167::u168::u169::u170::u171::u172::u173::u174::u175::u176::u177::u178::u179::u180::u181::u182::u183::u184::u185::u186::u187::u188::u189::u190::u191::u192::u193::u194::u195::u196::u197::u198::u199::u200::u201::u202::u203::u204::u205::[]).toArray,[]⟩ x;exact HQ.out x bb _ _ _ _ _ _ _ _ m1 m2 m3 m4 m5 m6 m7 m8 m9 m10 m11 m12 m13 m14 m15 hbb eP hv2 hbel
def OA (_B:Nat) (_bB _bN _bX:Nat) (me _bme:Int) (_s1:Option aj) (_s2 _s3:Nat) (_s4:Option aj) (_s5 _s6:Nat) (_s7:Option aj) (_s8 _s9:Nat) (_s10:Option aj) (_s11 _s12:Nat) (_s13:Option aj) (_s14 _s15:Nat) (m1:Option aj) (m2 m3:Nat) (m4:Option aj) (m5 m6:Nat) (m7:Option aj) (m8 m9:Nat) (m10:Option aj) (m11 m12:Nat) (m13:Option aj) (m14 m15:Nat) (x1 x2:Int) (rv v_:aC) (_X1:aF) (i:Nat) (v:aC) (_x:aF):Prop :=
 match i with
 | 0=>v=aL #[U V me,J m1 m2 m3,J m4 m5 m6,J m7 m8 m9,J m10 m11 m12,J m13 m14 m15]
 | 1=>v=rv
 | 2=>v=aL #[U V x1,U V x2]
 | 3=>v=J (X ⟨ _B ,0,O⟩) 1 1
 | 4=>v=v_
 | _=>True
def Ct (W:aF) (_bB _bN _bX:Nat) (_me _bme:Int) (_s1:Option aj) (_s2 _s3:Nat) (_s4:Option aj) (_s5 _s6:Nat) (_s7:Option aj) (_s8 _s9:Nat) (_s10:Option aj) (_s11 _s12:Nat) (_s13:Option aj) (_s14 _s15:Nat) (_m1:Option aj) (_m2 _m3:Nat) (_m4:Option aj) (_m5 _m6:Nat) (_m7:Option aj) (_m8 _m9:Nat) (_m10:Option aj) (_m11 _m12:Nat) (_m13:Option aj) (_m14 _m15:Nat) (x1 x2:Int) (_rv _v_:aC) (X1:aF) (D:Nat->Prop) (x:aF):Prop:=(¬ D 3->x=W.drew)/\(D 3->¬ D 4->x=(W.drew.alloc (.cells #[U V x1,U V x2] 25)))/\(D 4->x=X1)
noncomputable def J4:Code:=((Try.f3.body.bind (dZ 13)).getD .skip)
theorem QX (Q:Exit->Act->aF->Prop) (W:aF) (bB bN bX:Nat) (me DZ:Int) (s1:Option aj) (s2 s3:Nat) (s4:Option aj) (s5 s6:Nat) (s7:Option aj) (s8 s9:Nat) (s10:Option aj) (s11 s12:Nat) (s13:Option aj) (s14 s15:Nat) (m1:Option aj) (m2 m3:Nat) (m4:Option aj) (m5 m6:Nat) (m7:Option aj) (m8 m9:Nat) (m10:Option aj) (m11 m12:Nat) (m13:Option aj) (m14 m15:Nat) (x1 x2:Int) (rv v_:aC) (X1:aF) (u0 u1 u2 u3 u4 u5 u7 u9 u12 u13 u14 u15 u16 u17 u18 u19 u20 u21 u22 u23 u24 u25 u26 u27 u28 u29 u30 u31 u32 u33 u34 u35 u36 u37 u38 u39 u40 u41 u42 u43 u44 u45 u46 u47 u48 u49 u50 u51 u52 u53 u54 u55 u56 u57 u58 u59 u60 u61 u62 u63 u64 u65 u66 u67 u68 u69 u70 u71 u72 u73 u74 u75 u76 u77 u78 u79 u80 u81 u82 u83 u84 u85 u86 u87 u88 u89 u90 u91 u92 u93 u94 u95 u96 u97 u98 u99 u100 u101 u102 u103 u104 u105 u106 u107 u108 u109 u110 u111 u112 u113 u114 u115 u116 u117 u118 u119 u120 u121 u122 u123 u124 u125 u126 u127 u128 u129 u130 u131 u132 u133 u134 u135 u136 u137 u138 u139 u140 u141 u142 u143 u144 u145 u146 u147 u148 u149 u150 u151 u152 u153 u154 u155 u156 u157 u158 u159 u160 u161 u162 u163 u164 u165 u166 u167 u168 u169 u170 u171 u172 u173 u174 u175 u176 u177 u178 u179 u180 u181 u182 u183 u184 u185 u186 u187 u188 u189 u190 u191 u192 u193 u194 u195 u196 u197 u198 u199 u200 u201 u202 u203 u204 u205:aC)
  (hn:dH W bN #[U V me,J m1 m2 m3,J m4 m5 m6,J m7 m8 m9,J m10 m11 m12,J m13 m14 m15] 31) (hn1:dH X1 bN #[U V me,J m1 m2 m3,J m4 m5 m6,J m7 m8 m9,J m10 m11 m12,J m13 m14 m15] 31) (hx:dH W bX #[U V x1,U V x2] 25) (hx1:dH X1 bX #[U V x1,U V x2] 25) (hb1:dH X1 bB #[U V DZ,J s1 s2 s3,J s4 s5 s6,J s7 s8 s9,J s10 s11 s12,J s13 s14 s15] 31) (nn:bN≠bB) (nx:bX≠bB) (hr:(Builtin.append_ #[27,27] 27 #[rv,J (X ⟨W.heap.size,0,O⟩) 1 1]).run aJ (W.drew.alloc (.cells #[U V x1,U V x2] 25))=.ok v_ X1)
  (hQ:∀ (v83 v84 v85 v86 v87:aC),Q .normal ⟨(u0::u1::u2::u3::u4::u5::L (X ⟨bB,0,O⟩)::u7::v_::u9::L (X ⟨bX,0,O⟩)::L (X ⟨bN,0,O⟩)::u12::u13::u14::u15::u16::u17::u18::u19::u20::u21::u22::u23::u24::u25::u26::u27::u28::u29::u30::u31::u32::u33::u34::u35::u36::u37::u38::u39::u40::u41::u42::u43::u44::u45::u46::u47::u48::u49::u50::u51::u52::u53::u54::u55::u56::u57::u58::u59::u60::u61::u62::u63::u64::u65::u66::u67::u68::u69::u70::u71::u72::u73::u74::u75::u76::u77::u78::u79::u80::u81::u82::v83::v84::v85::v86::v87::u88::u89::u90::u91::u92::u93::u94::u95::u96::u97::u98::u99::u100::u101::u102::u103::u104::u105::u106::u107::u108::u109::u110::u111::u112::u113::u114::u115::u116::u117::u118::u119::u120::u121::u122::u123::u124::u125::u126::u127::u128::u129::u130::u131::u132::u133::u134::u135::u136::u137::u138::u139::u140::u141::u142::u143::u144::u145::u146::u147::u148::u149::u150::u151::u152::u153::u154::u155::u156::u157::u158::u159::u160::u161::u162::u163::u164::u165::u166::u167::u168::u169::u170::u171::u172::u173::u174::u175::u176::u177::u178::u179::u180::u181::u182::u183::u184::u185::u186::u187::u188::u189::u190::u191::u192::u193::u194::u195::u196::u197::u198::u199::u200::u201::u202::u203::u204::u205::[]).toArray,[]⟩ (iD X1 bB (U V me) (J m1 m2 m3) (J m4 m5 m6) (J m7 m8 m9) (J m10 m11 m12) (J m13 m14 m15))) :
  Code.wp aJ J4 Q ⟨(u0::u1::u2::u3::u4::u5::L (X ⟨bB,0,O⟩)::u7::rv::u9::L (X ⟨bX,0,O⟩)::L (X ⟨bN,0,O⟩)::u12::u13::u14::u15::u16::u17::u18::u19::u20::u21::u22::u23::u24::u25::u26::u27::u28::u29::u30::u31::u32::u33::u34::u35::u36::u37::u38::u39::u40::u41::u42::u43::u44::u45::u46::u47::u48::u49::u50::u51::u52::u53::u54::u55::u56::u57::u58::u59::u60::u61::u62::u63::u64::u65::u66::u67::u68::u69::u70::u71::u72::u73::u74::u75::u76::u77::u78::u79::u80::u81::u82::u83::u84::u85::u86::u87::u88::u89::u90::u91::u92::u93::u94::u95::u96::u97::u98::u99::u100::u101::u102::u103::u104::u105::u106::u107::u108::u109::u110::u111::u112::u113::u114::u115::u116::u117::u118::u119::u120::u121::u122::u123::u124::u125::u126::u127::u128::u129::u130::u131::u132::u133::u134::u135::u136::u137::u138::u139::u140::u141::u142::u143::u144::u145::u146::u147::u148::u149::u150::u151::u152::u153::u154::u155::u156::u157::u158::u159::u160::u161::u162::u163::u164::u165::u166::u167::u168::u169::u170::u171::u172::u173::u174::u175::u176::u177::u178::u179::u180::u181::u182::u183::u184::u185::u186::u187::u188::u189::u190::u191::u192::u193::u194::u195::u196::u197::u198::u199::u200::u201::u202::u203::u204::u205::[]).toArray,[]⟩ W:=by
 have HQ:=ah hQ;have HN:=ah hn;have Ut:=ah hn1;have Sj:=ah hx;have Uu:=ah hx1;have HB1:=ah hb1;have NN:=ah nn;have NX:=ah nx;have HR:=ah hr;clear hQ hn hn1 hx hx1 hb1 nn nx hr;have Uv:∀ D x,Ct W bB bN bX me DZ s1 s2 s3 s4 s5 s6 s7 s8 s9 s10 s11 s12 s13 s14 s15 m1 m2 m3 m4 m5 m6 m7 m8 m9 m10 m11 m12 m13 m14 m15 x1 x2 rv v_ X1 D x->dH x bN #[U V me,J m1 m2 m3,J m4 m5 m6,J m7 m8 m9,J m10 m11 m12,J m13 m14 m15] 31:=fun D x hF=>by
  by_cases d4:D 4
  ·rw [hF.2.2 d4]; exact Ut.out
  ·by_cases d3:D 3
   ·rw [hF.2.1 d3 d4]; exact HN.out.on ((Y _ _).drew.alloc (aQ _) _)
   ·rw [hF.1 d3]; exact HN.out.on (Y _ _).drew
 have Uw:∀ D x,Ct W bB bN bX me DZ s1 s2 s3 s4 s5 s6 s7 s8 s9 s10 s11 s12 s13 s14 s15 m1 m2 m3 m4 m5 m6 m7 m8 m9 m10 m11 m12 m13 m14 m15 x1 x2 rv v_ X1 D x->dH x bX #[U V x1,U V x2] 25:=fun D x hF=>by
  by_cases d4:D 4
  ·rw [hF.2.2 d4]; exact Uu.out
  ·by_cases d3:D 3
   ·rw [hF.2.1 d3 d4]; exact Sj.out.on ((Y _ _).drew.alloc (aQ _) _)
   ·rw [hF.1 d3]; exact Sj.out.on (Y _ _).drew
 unfold J4
 conv=>arg 2; whnf
 have nd:∀ j,(∀ i,i<5->[X 83,X 84,X 85,X 86,X 87].getD i O≠X j)->∀ i,i<5->(fun i=>[X 83,X 84,X 85,X 86,X 87].getD i O) i≠X j:=fun j h=>h;refine Rg.wP 7 5 (fun i=>[X 83,X 84,X 85,X 86,X 87].getD i O) (fun _=>5) (OA W.heap.size bB bN bX me DZ s1 s2 s3 s4 s5 s6 s7 s8 s9 s10 s11 s12 s13 s14 s15 m1 m2 m3 m4 m5 m6 m7 m8 m9 m10 m11 m12 m13 m14 m15 x1 x2 rv v_ X1) (Ct W bB bN bX me DZ s1 s2 s3 s4 s5 s6 s7 s8 s9 s10 s11 s12 s13 s14 s15 m1 m2 m3 m4 m5 m6 m7 m8 m9 m10 m11 m12 m13 m14 m15 x1 x2 rv v_ X1) (by kernel_rfl) (by kernel_rfl) rfl (by decide) (fun i j e hi hj h1 h2=>(by decide:∀ i,i<5->∀ j,j<5->([X 83,X 84,X 85,X 86,X 87].getD i O).isSome=aI->[X 83,X 84,X 85,X 86,X 87].getD i O=[X 83,X 84,X 85,X 86,X 87].getD j O->i=j) i hi j hj (by have h1:[X 83,X 84,X 85,X 86,X 87].getD i O=X e:=h1; rw [h1]; rfl) (h1.trans h2.symm)) (fun i e hi h=>(by decide:∀ i,i<5->∀ q∈[X 83,X 84,X 85,X 86,X 87].getD i O,q<206) i hi e h) (⟨fun _=>rfl,fun h=>h.elim,fun h=>h.elim⟩) ?_ (fun _=>Rg.kQ 14 (by kernel_rfl)) ?_ ?_
 ·intro i o hi ho a x D hnd hc hD hF seen K hK;clear HQ;have still:∀ i,i≠3/\i≠4->Ct W bB bN bX me DZ s1 s2 s3 s4 s5 s6 s7 s8 s9 s10 s11 s12 s13 s14 s15 m1 m2 m3 m4 m5 m6 m7 m8 m9 m10 m11 m12 m13 m14 m15 x1 x2 rv v_ X1 (fun j=>j=i\/D j) x:=fun i hns=>⟨fun h=>hF.1 fun h2=>h (ak h2),fun h1 h2=>hF.2.1 (h1.resolve_left (Ne.symm hns.1)) fun h3=>h2 (ak h3),fun h=>hF.2.2 (h.resolve_left (Ne.symm hns.2))⟩;rcases (by omega:i=0\/i=1\/i=2\/i=3\/i=4) with rfl|rfl|rfl|rfl|rfl
  ·cases ho;have e11:a.eval (Z 11)=L (X ⟨bN,0,O⟩):=seen.kp 11 _ (nd 11 (by decide)) rfl;obtain⟨y0,y1,y2,y3,y4,y5⟩:=(Uv D x hF).jc;exact aA rfl rfl (bf a.eval _ 31 (Z 11) rfl (by rw [e11]; simp [go_sem,y0,y1,y2,y3,y4,y5])) (hK _ _ rfl (still 0 (by decide)) fun _ _ _ _ _ _ _ h=>h)
  ·cases ho;have e8:a.eval (Z 8)=rv:=seen.kp 8 _ (nd 8 (by decide)) rfl;exact aA rfl rfl (aX a.eval _ (Z 8) rfl x) (hK _ _ e8 (still 1 (by decide)) fun _ _ _ _ _ _ _ h=>h)
  ·cases ho;have e10:a.eval (Z 10)=L (X ⟨bX,0,O⟩):=seen.kp 10 _ (nd 10 (by decide)) rfl;obtain⟨y0,y1⟩:=(Uw D x hF).cs2;exact aA rfl rfl (bf a.eval _ 25 (Z 10) rfl (by rw [e10]; simp [go_sem,y0,y1])) (hK _ _ rfl (still 2 (by decide)) fun _ _ _ _ _ _ _ h=>h)
  ·cases ho;have e85:a.eval (Z 85)=aL #[U V x1,U V x2]:=seen.at_ ⟨2,.data⟩ (by simp) rfl (ak (by decide)) _ rfl;have n4:¬ D 4:=fun h=>hnd (hc 4 _ h rfl ⟨3,.data⟩ (by simp) rfl);have hx:x=W.drew:=hF.1 hnd;refine aA rfl rfl (bU a.eval _ 27 1 #[(0,Z 85)] rfl (ps:=#[(0,aL #[U V x1,U V x2])]) (v:=J (X ⟨W.heap.size,0,O⟩) 1 1) (w':=(W.drew.alloc (.cells #[U V x1,U V x2] 25))) (by simp [e85]) (by rw [hx]; simp [go_sem])) (hK _ _ rfl ⟨fun h=>absurd (aP rfl) h,fun _ _=>rfl,fun h=>absurd (h.resolve_left (by decide)) n4⟩ (fun j u hj dj nl nx ni h=>by
    rcases (by omega:j=0\/j=1\/j=2\/j=3\/j=4) with rfl|rfl|rfl|rfl|rfl
    ·exact h
    ·exact h
    ·exact h
    ·exact h
    ·exact h))
  ·cases ho;have e84:a.eval (Z 84)=rv:=seen.at_ ⟨1,.data⟩ (by simp) rfl (ak (by decide)) _ rfl;have e86:a.eval (Z 86)=J (X ⟨W.heap.size,0,O⟩) 1 1:=seen.at_ ⟨3,.data⟩ (by simp) rfl (ak (by decide)) _ rfl;have d3:D 3:=hD ⟨3,.data⟩ (by simp) rfl;have hx:x=(W.drew.alloc (.cells #[U V x1,U V x2] 25)):=hF.2.1 d3 hnd;exact aA rfl rfl (bV a.eval _ (Z 84) (Z 86) 27 rfl e84 e86 (w':=X1) (v':=v_) (by rw [hx]; exact HR.out)) (hK _ X1 rfl ⟨fun h=>absurd (ak d3) h,fun _ h=>absurd (aP rfl) h,fun _=>rfl⟩ (fun j u hj dj nl nx ni h=>by
    rcases (by omega:j=0\/j=1\/j=2\/j=3\/j=4) with rfl|rfl|rfl|rfl|rfl
    ·exact h
    ·exact h
    ·exact h
    ·exact h
    ·exact h))
 ·intro kk o h1 h2 ho;rcases (by omega:kk=6) with rfl
  ·cases ho;exact⟨⟨5,.chain⟩,by simp,rfl,rfl⟩
 ·intro a x df sz kp ⟨vs,hv⟩ ⟨D,hall,hF⟩;have jG:a.tmps.size=206:=sz;have Ux:a.tmps[83]?=X (aL #[U V me,J m1 m2 m3,J m4 m5 m6,J m7 m8 m9,J m10 m11 m12,J m13 m14 m15]):=by
   have h:vs 0=aL #[U V me,J m1 m2 m3,J m4 m5 m6,J m7 m8 m9,J m10 m11 m12,J m13 m14 m15]:=(hv 0 (by omega)).2 (by decide);rw [<- h];exact (hv 0 (by omega)).1 83 rfl
  have Uy:a.tmps[87]?=X v_:=by
   have h:vs 4=v_:=(hv 4 (by omega)).2 (by decide);rw [<- h];exact (hv 4 (by omega)).1 87 rfl
  have Uz:a.tmps[6]?=X (L (X ⟨bB,0,O⟩)):=(kp 6 (nd 6 (by decide))).trans rfl;have hx:x=X1:=hF.2.2 (hall 4 (by omega));subst hx;have hs:=kS HB1.out me m1 m4 m7 m10 m13 m2 m3 m5 m6 m8 m9 m11 m12 m14 m15;have hq:=HQ.out;generalize iD x bB (U V me) (J m1 m2 m3) (J m4 m5 m6) (J m7 m8 m9) (J m10 m11 m12) (J m13 m14 m15)=y2 at *;show bP _ _ _ 2 5 a _;simp only [bP];refine bL 31 (Z 6) (Z 83) rfl rfl rfl rfl (bK Uz) (bK Ux) hs ?_;refine aA rfl rfl (bJ _ _ (Z 87) rfl y2) ?_;show Q .normal (a.put (X 8) (a.eval (Z 87))) y2;rw [bK Uy];have g8:(a.put (X 8) v_).tmps[8]?=X v_:=by simp [Act.put,jG]
  obtain⟨v83,h83⟩:=aD jG 83 (by decide);have g83:(a.put (X 8) v_).tmps[83]?=X v83:=(aO _ _ _ _ (by decide)).trans h83;obtain⟨v84,h84⟩:=aD jG 84 (by decide);have g84:(a.put (X 8) v_).tmps[84]?=X v84:=(aO _ _ _ _ (by decide)).trans h84;obtain⟨v85,h85⟩:=aD jG 85 (by decide);have g85:(a.put (X 8) v_).tmps[85]?=X v85:=(aO _ _ _ _ (by decide)).trans h85;obtain⟨v86,h86⟩:=aD jG 86 (by decide);have g86:(a.put (X 8) v_).tmps[86]?=X v86:=(aO _ _ _ _ (by decide)).trans h86;obtain⟨v87,h87⟩:=aD jG 87 (by decide);have g87:(a.put (X 8) v_).tmps[87]?=X v87:=(aO _ _ _ _ (by decide)).trans h87;have hfr:=bO (a:=a.put (X 8) v_) [8,83,84,85,86,87] [v_,v83,v84,v85,v86,v87] (by simp [Act.put,df]) (show (a.put (X 8) v_).tmps.size=(u0::u1::u2::u3::u4::u5::L (X ⟨bB,0,O⟩)::u7::rv::u9::L (X ⟨bX,0,O⟩)::L (X ⟨bN,0,O⟩)::u12::u13::u14::u15::u16::u17::u18::u19::u20::u21::u22::u23::u24::u25::u26::u27::u28::u29::u30::u31::u32::u33::u34::u35::u36::u37::u38::u39::u40::u41::u42::u43::u44::u45::u46::u47::u48::u49::u50::u51::u52::u53::u54::u55::u56::u57::u58::u59::u60::u61::u62::u63::u64::u65::u66::u67::u68::u69::u70::u71::u72::u73::u74::u75::u76::u77::u78::u79::u80::u81::u82::u83::u84::u85::u86::u87::u88::u89::u90::u91::u92::u93::u94::u95::u96::u97::u98::u99::u100::u101::u102::u103::u104::u105::u106::u107::u108::u109::u110::u111::u112::u113::u114::u115::u116::u117::u118::u119::u120::u121::u122::u123::u124::u125::u126::u127::u128::u129::u130::u131::u132::u133::u134::u135::u136::u137::u138::u139::u140::u141::u142::u143::u144::u145::u146::u147::u148::u149::u150::u151::u152::u153::u154::u155::u156::u157::u158::u159::u160::u161::u162::u163::u164::u165::u166::u167::u168::u169::u170::u171::u172::u173::u174::u175::u176::u177::u178::u179::u180::u181::u182::u183::u184::u185::u186::u187::u188::u189::u190::u191::u192::u193::u194::u195::u196::u197::u198::u199::u200::u201::u202::u203::u204::u205::[]:List aC).length from by simp [Act.put,jG]) (fun d hd=>(by decide:∀ d∈[8,83,84,85,86,87],d<206) d hd) (fun j hj=>(aO _ _ _ _ (show j≠8 from fun e=>hj (by rw [e]; decide))).trans ((kp j (fun i hi h=>hj ((by decide:∀ i,i<5->∀ q∈[X 83,X 84,X 85,X 86,X 87].getD i O,q∈[8,83,84,85,86,87]) i hi j h))).trans aG)) rfl ⟨g8,g83,g84,g85,g86,g87,trivial⟩;rw [hfr];show Q .normal ⟨(u0::u1::u2::u3::u4::u5::L (X ⟨bB,0,O⟩)::u7::v_::u9::L (X ⟨bX,0,O⟩)::L (X ⟨bN,0,O⟩)::u12::u13::u14::u15::u16::u17::u18::u19::u20::u21::u22::u23::u24::u25::u26::u27::u28::u29::u30::u31::u32::u33::u34::u35::u36::u37::u38::u39::u40::u41::u42::u43::u44::u45::u46::u47::u48::u49::u50::u51::u52::u53::u54::u55::u56::u57::u58::u59::u60::u61::u62::u63::u64::u65::u66::u67::u68::u69::u70::u71::u72::u73::u74::u75::u76::u77::u78::u79::u80::u81::u82::v83::v84::v85::v86::v87::u88::u89::u90::u91::u92::u93::u94::u95::u96::u97::u98::u99::u100::u101::u102::u103::u104::u105::u106::u107::u108::u109::u110::u111::u112::u113::u114::u115::u116::u117::u118::u119::u120::u121::u122::u123::u124::u125::u126::u127::u128::u129::u130::u131::u132::u133::u134::u135::u136::u137::u138::u139::u140::u141::u142::u143::u144::u145::u146::u147::u148::u149::u150::u151::u152::u153::u154::u155::u156::u157::u158::u159::u160::u161::u162::u163::u164::u165::u166::u167::u168::u169::u170::u171::u172::u173::u174::u175::u176::u177::u178::u179::u180::u181::u182::u183::u184::u185::u186::u187::u188::u189::u190::u191::u192::u193::u194::u195::u196::u197::u198::u199::u200::u201::u202::u203::u204::u205::[]).toArray,[]⟩ _;exact hq _ _ _ _ _
end Go.Proofs.Ytmklifheakemeaa.Sb
