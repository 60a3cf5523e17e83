/-
  A subscription made,. Conditions as told.
-/
import Derived.Test.YtghlpefopidlaaaGreatOQ034
import Derived.Test.YtghlpefopidlaaaGreatOQ042
import Derived.Test.YtghlpefopidlaaaGreatOQ043
set_option maxRecDepth 100000
set_option maxHeartbeats 64000000
open _root_.Bool renaming false->aF,true->aV
open _root_.Go renaming Addr->ay,World->aI,Value->aW,Calls->cK
open Go.IntKind renaming i64->X
open Go.Lib renaming hid->L
open Go.Obj renaming cells->aO
open Go.Operand renaming tmp->ah
open Go.Proofs.Tryz renaming prog->aR,results45->bP,results48->bR,func45->bV,func46->bY
open Go.Proofs.YtghlpefopidlaaaGreat.Av renaming dW->aj
open Go.Proofs.YtghlpefopidlaaaGreat.Bk.Ow renaming id->aP
open Go.Proofs.YtghlpefopidlaaaGreat.Rg renaming dw->aG,eH->bI,iw->bU,eD->bX,jo->bZ,gG->cu,gN->cB,og->cO,qy->cZ,mo->dh,PV->dn
open Go.RowKit.Below renaming refl->aC
open Go.Value renaming slice->J,int->U,pointer->Z,agg->aL,bool->bg
open _root_.List renaming getElem?_toArray->au,getElem?_cons_zero->aA,getElem?_cons_succ->aB,getElem?_eq_some_iff->aD,filter_append->aH,filter_eq_self->aK,filter_cons_of_neg->aN,mem_of_getElem?->aQ,map_toArray->aS,filter_nil->aT,append_nil->aU,take_append_drop->aX,mem_iff_getElem?->aY,map_cons->aZ,map_nil->bq,drop_eq_getElem_cons->bD,getElem?_eq_getElem->bG,length_take->bH,length_append->bJ,take_add_one->bK,getElem?_map->bL,map_append->bM,length_map->bO,any_cons->bS,mem_map->bT
open _root_.Nat renaming le_trans->aM,le_refl->bf,lt_succ_iff_lt_or_eq->bF
open _root_.Option renaming some->O,none->Y
open Option.some renaming inj->aJ
open _root_.Or renaming inr->ak,inl->bC
namespace Go.Proofs.YtghlpefopidlaaaGreat
namespace Rt
open Go.RowKit Go.Sort Rw YtghlpefopidlaaaGreat.Nm Pr Bk Av Rl Sb
theorem Ea {α:Type} (f:α->Bool) (l:List α) (k:Nat) (a:α) (h:f a=aF):(eZ l k a).filter f=l.filter f:=by
 unfold eZ;rw [aH,aH,aN (by rw [h]; simp),aT,aU,<- aH,aX]
def wR (b:Br) (p:List C5) (a:Ad):Bool:=!(a.par == -1) && !dV b.ent a.id p
abbrev newE (b:Br) (x:dO) (p:List C5) (a:Ad):En:=⟨a.id,x,p,-1,wR b p a⟩
def Bz (b:Br) (p:List C5) (k:Nat):List Ad:=(b.dG.take k).filter fun a=>gY p a.p
def TV (b:Br) (p:List C5) (k:Nat):List Ad:=(Bz b p k).filter fun a=>wR b p a
theorem sH {b:Br} {p:List C5} {k:Nat} {a:Ad} (h:b.dG[k]?=O a):Bz b p (k+1)=Bz b p k++(if gY p a.p=aV then [a] else []):=by
 unfold Bz;rw [bK,h,aH];simp only [Option.toList_some,List.filter_cons,aT]
theorem BD {b:Br} {p:List C5} {k:Nat} {a:Ad} (h:b.dG[k]?=O a):TV b p (k+1)=TV b p k++(if gY p a.p=aV/\wR b p a=aV then [a] else []):=by
 unfold TV;rw [sH h,aH];by_cases h1:gY p a.p=aV
 ·by_cases h2:wR b p a=aV
  ·rw [if_pos h1,if_pos ⟨h1,h2⟩,List.filter_cons_of_pos h2,aT]
  ·rw [if_pos h1,if_neg fun q=>h2 q.2,aN h2,aT]
 ·rw [if_neg h1,if_neg fun q=>h1 q.1,aT]
structure Fr (b:Br) (x:dO):Prop where
 ent:∀ e∈b.ent,e.sub≠x
 own:∀ o∈b.own,o.id≠x
theorem tY {b:Br} (h:fQ b) {i k:Nat} {a c:Ad} (hi:b.dG[i]?=O a) (hk:b.dG[k]?=O c) (e:a.id=c.id):i=k:=by
 rcases Nat.lt_trichotomy i k with q|q|q
 ·have:=iN h.dG q hi hk;rw [e,gZ] at this; cases this
 ·exact q
 ·have:=iN h.dG q hk hi;rw [e,gZ] at this; cases this
structure SI (b:Br) (x:dO) (p:List C5) (k:Nat) (s:Br×List Ou):Prop where
 same:JA (ownIn b x p) s.1 k
 rise:fV s.1.ent
 old:s.1.ent.filter (fun e=>decide (e.sub≠x))=b.ent
 new:∀ e∈s.1.ent,e.sub=x->∃ i a,i<k/\b.dG[i]?=O a/\gY p a.p=aV/\e=newE b x p a
 all:∀ i a,i<k->b.dG[i]?=O a->gY p a.p=aV->newE b x p a∈s.1.ent
 len:s.1.ent.length=b.ent.length+(Bz b p k).length
 out:s.2=(TV b p k).map fun a=>⟨a.par,3,a.id,x,p⟩
theorem OI {b:Br} (h:fQ b) {x:dO} (hx:Fr b x) (p:List C5):SI b x p 0 (ownIn b x p,[]):=by
 refine⟨⟨rfl,rfl,rfl,rfl,rfl,bf _⟩,h.ent,aK.2 fun e he=>by simpa using hx.ent e he,fun e he q=>absurd q (hx.ent e he),fun i a hi=>absurd hi (Nat.not_lt_zero _),?_,rfl⟩;unfold Bz;simp [ownIn]
theorem Sk {b:Br} {x:dO} {p:List C5} {k:Nat} {s:Br×List Ou} (hok:fQ b) (h:SI b x p k s) {a:Ad} (ha:b.dG[k]?=O a) (r:List C5):dV s.1.ent a.id r=dV b.ent a.id r:=by
 rw [<- h.old];unfold dV;rw [List.any_filter];have:∀ (l:List En),(∀ e∈l,e.sub=x->e.tree≠a.id)->l.any (Bc a.id r)=l.any fun e=>decide (e.sub≠x) && Bc a.id r e:=by
  intro l
  induction l with
  | nil=>intro _; rfl
  | cons e l ih =>
   intro hl;rw [bS,bS,ih fun y hy=>hl y (List.mem_cons_of_mem _ hy)]
   congr 1
   by_cases hs:e.sub=x
   ·have ht:=hl e (by simp) hs;unfold Bc;rw [decide_eq_false ht];simp
   ·rw [decide_eq_true hs,Bool.true_and]
 refine this _ fun e he hs q=>?_;obtain⟨i,c,hi,hc,_,rfl⟩:=h.new e he hs;have:=tY hok hc ha q;omega
theorem OJ {b:Br} {x:dO} {p:List C5} {k:Nat} {s:Br×List Ou} (hok:fQ b) (h:SI b x p k s) {a:Ad} (ha:b.dG[k]?=O a):SI b x p (k+1) (jE x p s a):=by
 have hs1:=h.same.step (gY p a.p) (iY x p a) a.par;unfold jE;unfold gD at hs1 ⊢;by_cases hm:gY p a.p=aV
 ·rw [if_neg (by rw [hm]; simp)] at hs1 ⊢;have hn:∀ y∈s.1.ent,dF y≠dF (iY x p a):=by
   intro y hy q;have q1:y.tree=a.id:=congrArg Prod.fst q;have q2:y.sub=x:=congrArg Prod.snd q;obtain⟨i,c,hi,hc,_,rfl⟩:=h.new y hy q2;have:=tY hok hc ha q1;omega
  have hfa:fH s.1.dG a.id=O a:=by
   rw [h.same.dG];exact kU hok.dG (aQ ha)
  rcases IW h.rise (iY x p a) hn with⟨hf,_⟩|⟨c,hf,h2,h3,_⟩|⟨c,u,hf,_,_,he,hu⟩
  ·rw [show fH s.1.dG (iY x p a).tree=O a from hfa] at hf; cases hf
  ·rw [show fH s.1.dG (iY x p a).tree=O a from hfa] at hf;obtain rfl:=aJ hf;exact absurd h2.symm h3
  ·rw [show fH s.1.dG (iY x p a).tree=O a from hfa] at hf;obtain rfl:=aJ hf;have hu2:u=wR b p a:=by rw [hu]; unfold wR; rw [show dV s.1.ent (iY x p a).tree (iY x p a).p=dV b.ent a.id p from Sk hok h ha p]
   subst hu2;have hr:=IU h.rise (newE b x p a) (fun y hy=>hn y hy);rw [he] at hs1 ⊢;simp only at hs1 ⊢;have hmem:∀ z,z∈eZ s.1.ent (dR (s.1.ent.map dF) (dF (iY x p a))) (newE b x p a)↔z=newE b x p a\/z∈s.1.ent:=fun z=>jQ _ _ _ _;refine⟨hs1,hr,?_,fun e he2 q=>?_,fun i c hi hc hmc=>?_,?_,?_⟩
   ·exact (Ea _ _ _ _ (by simp)).trans h.old
   ·rcases (hmem e).1 he2 with rfl|he2
    ·exact⟨k,a,by omega,ha,hm,rfl⟩
    ·obtain⟨i,c,hi,h4⟩:=h.new e he2 q;exact⟨i,c,by omega,h4⟩
   ·rcases bF.1 hi with h5|rfl
    ·exact (hmem _).2 (ak (h.all i c h5 hc hmc))
    ·rw [ha] at hc;obtain rfl:=aJ hc;exact (hmem _).2 (bC rfl)
   ·refine (sj _ _ _).trans ?_;rw [h.len,sH ha,if_pos hm,bJ]
    rfl
   ·rw [BD ha,h.out];by_cases hup:wR b p a=aV
    ·rw [if_pos hup,if_pos ⟨hm,hup⟩,bM]
     rfl
    ·rw [if_neg hup,if_neg fun q=>hup q.2,aU]
 ·rw [if_pos (by simpa using hm)] at hs1 ⊢;refine⟨hs1,h.rise,h.old,fun e he q=>?_,fun i c hi hc hmc=>?_,?_,?_⟩
  ·obtain⟨i,c,hi,h4⟩:=h.new e he q;exact⟨i,c,by omega,h4⟩
  ·rcases bF.1 hi with h5|rfl
   ·exact h.all i c h5 hc hmc
   ·rw [ha] at hc;obtain rfl:=aJ hc;exact absurd hmc hm
  ·rw [h.len,sH ha,if_neg hm,aU]
  ·rw [BD ha,if_neg fun q=>hm q.1,aU];exact h.out
theorem F6 {b:Br} (hok:fQ b) {x:dO} (hx:Fr b x) (p:List C5):∀ k,k<=b.dG.length->SI b x p k (gP b.dG (jE x p) (ownIn b x p,[]) k)
 | 0,_=>OI hok hx p
 | k+1,hk=>by
  obtain⟨a,ha⟩:∃ a,b.dG[k]?=O a:=⟨_,bG hk⟩;rw [kY _ _ ha];exact OJ hok (F6 hok hx p k (by omega)) ha
theorem BI {b:Br} (hok:fQ b) {x:dO} (hx:Fr b x) (p:List C5):SI b x p b.dG.length (eF b x p):=by
 unfold eF;rw [if_neg fun e=>by
  cases ho:b.own[gF (b.own.map aP) x]? with
  | none=>rw [ho] at e; cases e
  | some o =>
   rw [ho] at e;exact hx.own o (aQ ho) (aJ e)]
 exact F6 hok hx p _ (bf _)
theorem Eb {m:List En} (hr:fV m) {j:Nat} {x:En} (hx:m[j]?=O x):cutAt m j=m.filter fun y=>decide (dF y≠dF x):=by
 have hlt:=(aD.1 hx).1;have e:m=m.take j++x::m.drop (j+1):=by
  conv=>lhs; rw [<- aX j m]
  rw [bD hlt,(aD.1 hx).2]
 have hk:=Ot hr hx
 conv=>rhs; rw [e]
 rw [aH,aN (by simp)];unfold cutAt at hk ⊢;rw [aK.2 fun y hy=>decide_eq_true (hk y (List.mem_append_left _ hy)),aK.2 fun y hy=>decide_eq_true (hk y (List.mem_append_right _ hy))]
theorem Ec {c:Br} (hr:fV c.ent) (t x:dO) (f:Int):((∀ e∈c.ent,dF e≠(t,x))/\takeB c t x f=(c,[],aF))\/(∃ j e,c.ent[j]?=O e/\dF e=(t,x)/\(e.from_=f->takeB c t x f=if e.up=aF then ({ c with ent:=cutAt c.ent j },[],aF) else ({ c with ent:=(gJ t (cutAt c.ent j) (cutAt c.ent j).length).1 },(gJ t (cutAt c.ent j) (cutAt c.ent j).length).2,aV))):=by
 have ft:=nG hr t x;by_cases ht:gW c.ent t x=aV
 ·right;obtain⟨e,h1,h2,h3⟩:=mH ht;rw [ht,if_pos rfl] at ft;refine⟨_,e,h1,h2,fun hf=>?_⟩;unfold takeB;rw [ft,Int.toNat_natCast,h1];simp only;rw [if_neg (show ¬ ((dR (c.ent.map dF) (t,x):Int)=-1) by omega),if_neg (by simp [hf])]
 ·left;rw [if_neg ht] at ft;refine⟨fun e he q=>ht ?_,?_⟩
  ·have:=(yu hr he).2;rw [show e.tree=t from congrArg Prod.fst q,show e.sub=x from congrArg Prod.snd q] at this;exact this
  ·unfold takeB;rw [ft]
   split
   ·rfl
   ·rw [if_pos rfl]
theorem yA {b:Br} (hok:fQ b) {k:Nat} {a:Ad} (ha:b.dG[k]?=O a):b.dG[(fC (b.dG.map Ad.id) a.id).toNat]?=O a:=by
 rw [qN,Ao (b.dG.map Ad.id) k a.id (by rw [bL,ha]; rfl) fun j z hj hz q=>by
  rw [bL] at hz;cases hc:b.dG[j]? with
  | none=>rw [hc] at hz; cases hz
  | some c =>
   rw [hc] at hz;have:=tY hok hc ha ((aJ hz).trans q);omega,Int.toNat_natCast]
 exact ha
theorem Ed {c:Br} {x:dO} (h:(c.own[gF (c.own.map aP) x]?).map aP=O x) (r:List C5):eF c x r=(c,[]):=by
 unfold eF;rw [if_pos h]
def fJ (b:Br) (par:Int) (e:En):Br×List Ou:=((iA b e).1,if (iA b e).2=aV then [lJ par e] else [])
def lX (b:Br) (par:Int) (t x:dO) (f:Int):Br×List Ou:=((takeB b t x f).1,if (takeB b t x f).2.2=aV then (takeB b t x f).2.1.map (lJ par)++[⟨par,4,t,x,[]⟩] else [])
def jl (b:Br) (t:dO):Int:=match fH b.dG t with | some a=>a.par | none=>0
theorem LD {b:Br} (hok:fQ b) {k:Nat} {a:Ad} (ha:b.dG[k]?=O a):jl b a.id=a.par:=by
 unfold jl;rw [kU hok.dG (aQ ha)]
theorem yB {b:Br} (hok:fQ b) {t:dO} {a:Ad} (h:fH b.dG t=O a):b.dG[(fC (b.dG.map Ad.id) t).toNat]?=O a:=by
 obtain⟨h1,h2⟩:=Dz h;obtain⟨k,hk⟩:=aY.1 h1;subst h2;exact yA hok hk
theorem BJ {b:Br} (hok:fQ b) (f:Int) (t x:dO) (p:List C5):zI b f t x p=fJ b (jl b t) ⟨t,x,p,f,aF⟩:=by
 unfold zI fJ;cases hu:(iA b ⟨t,x,p,f,aF⟩).2 with
 | false=>rfl
 | true =>
  have hf:∃ a,fH b.dG t=O a:=by
   rw [<- nH hok.ent] at hu;unfold zG at hu;cases hq:fH b.dG t with
   | none=>rw [show (En.tree ⟨t,x,p,f,aF⟩)=t from rfl,hq] at hu; cases hu
   | some a=>exact⟨a,rfl⟩
  obtain⟨a,ha⟩:=hf;unfold jl;rw [yB hok ha,ha]
  rfl
theorem Ee {b:Br} (hok:fQ b) (t x:dO) (f:Int):jF b t x f=lX b (jl b t) t x f:=by
 unfold jF lX;cases hu:(takeB b t x f).2.2 with
 | false=>rfl
 | true =>
  obtain⟨e,he,ht⟩:=DV hu;have h1:=hok.NZ e he;unfold wN at h1;rw [ht] at h1;unfold jl;cases hq:fH b.dG t with
  | none=>rw [hq] at h1; cases h1
  | some a =>
   rw [yB hok hq]
   rfl
theorem Ef (x:dO) (p:List C5) (s:Br×List Ou) (a:Ad):jE x p s a=if gY p a.p=aF then s else ((fJ s.1 a.par (iY x p a)).1,s.2++(fJ s.1 a.par (iY x p a)).2):=by
 unfold jE gD fJ
 split
 ·rfl
 ·dsimp only
  split
  ·rfl
  ·rw [aU]
theorem BO {s:Br×List Ou} (hok:fQ s.1) {k:Nat} {a:Ad} (ha:s.1.dG[k]?=O a) (x:dO):kJ x s a.id=((lX s.1 a.par a.id x (-1)).1,s.2++(lX s.1 a.par a.id x (-1)).2):=by
 unfold kJ;rw [Ee hok,LD hok ha]
theorem zD {l:List Ow} (hr:iE aP l) {x:dO} (h:fF aP l x=aV):l.filter (fun o=>decide (o.id≠x))=cutAt l (dX aP l x):=by
 unfold fF at h;cases hy:l[dX aP l x]? with
 | none=>rw [hy] at h; cases h
 | some y =>
  rw [hy] at h;have hyx:y.id=x:=of_decide_eq_true h;generalize dX aP l x=k at *;have hlt:=(aD.1 hy).1;have e:l=l.take k++y::l.drop (k+1):=by
   conv=>lhs; rw [<- aX k l]
   rw [bD hlt,(aD.1 hy).2]
  have hne:∀ j z,j≠k->l[j]?=O z->z.id≠x:=fun j z hj hz q=>by
   rcases Nat.lt_or_gt_of_ne hj with h1|h1
   ·have:=iN hr h1 hz hy;rw [q,hyx,gZ] at this; cases this
   ·have:=iN hr h1 hy hz;rw [q,hyx,gZ] at this; cases this
  unfold cutAt
  conv=>lhs; rw [e]
  rw [aH,aN (by simp [hyx])];rw [aK.2 fun z hz=>?_,aK.2 fun z hz=>?_]
  ·obtain⟨j,hj⟩:=aY.1 hz;rw [List.getElem?_drop] at hj;exact decide_eq_true (hne _ z (by omega) hj)
  ·obtain⟨j,hj⟩:=aY.1 hz;have hjl:=(aD.1 hj).1;rw [bH] at hjl;rw [List.getElem?_take_of_lt (by omega)] at hj;exact decide_eq_true (hne j z (by omega) hj)
theorem LG {l:List Ow} (hr:iE aP l) {x:dO} (h:fF aP l x=aF):l.filter (fun o=>decide (o.id≠x))=l:=by
 rw [rH hr] at h;refine aK.2 fun o ho=>?_;have:=of_decide_eq_false h;exact decide_eq_true fun q=>this (bT.2 ⟨o,ho,q⟩)
theorem Eh {b:Br} {x:dO} (p:List C5) (h:fF aP b.own x=aV):eF b x p=(b,[]):=by
 unfold fF at h;rw [gu] at h;unfold eF;cases hy:b.own[gF (b.own.map aP) x]? with
 | none=>rw [hy] at h; cases h
 | some y =>
  rw [hy] at h;rw [if_pos (show Option.map aP (O y)=O x from congrArg O (of_decide_eq_true h))]
theorem LJ {b:Br} {x:dO} (p:List C5) (h:fF aP b.own x=aF):eF b x p=gP b.dG (jE x p) (ownIn b x p,[]) b.dG.length:=by
 unfold fF at h;rw [gu] at h;unfold eF;rw [if_neg];intro q;cases hy:b.own[gF (b.own.map aP) x]? with
 | none=>rw [hy] at q; cases q
 | some y =>
  rw [hy] at h q;exact absurd (aJ q) (of_decide_eq_false h)
theorem Ei {b:Br} (hok:fQ b) {x:dO} (h:fF aP b.own x=aF):fB b x=(b,[]):=by
 unfold fB;rw [if_pos];unfold kX;rw [LG hok.own h]
theorem qR {l:List Ow} {x:dO} (h:fF aP l x=aV):dX aP l x<l.length:=by
 unfold fF at h;cases hy:l[dX aP l x]? with
 | none=>rw [hy] at h; cases h
 | some y=>exact (aD.1 hy).1
theorem zK {b:Br} (hok:fQ b) {x:dO} (h:fF aP b.own x=aV):fB b x=fA b x b.dG.length/\kX b x=cutAt b.own (dX aP b.own x):=by
 have e:=zD hok.own h;refine⟨?_,e⟩;unfold fB;rw [if_neg];show ¬ (b.own.filter fun o=>decide (o.id≠x)).length=b.own.length;rw [e];have:=qR h;unfold cutAt;rw [bJ,bH,List.length_drop];omega
structure Yz (b0 b:Br) (k:Nat):Prop where
 at_:JA b0 b k
 ok:fQ b
 pe:∀ e∈b.ent,dU e.p
theorem LK {b:Br} (h:fQ b) {x:dO} {p:List C5} (hq:Wr.gV p=aV) (hx:fF aP b.own x=aF):fQ (ownIn b x p):=by
 have hn:∀ y∈b.own,y.id≠x:=fun y hy q=>by
  rw [rH h.own] at hx;exact of_decide_eq_false hx (bT.2 ⟨y,hy,q⟩)
 have hr:iE aP (eZ b.own (gF (b.own.map aP) x) ⟨x,p⟩):=by
  rw [<- gu];exact kL h.own ⟨x,p⟩ hn
 exact⟨h.near,h.seen,h.dG,h.ent,hr,h.oks,fun e he=>qM (b:=b) rfl rfl (h.NZ e he),fun o ho=>by
  rcases (jQ _ _ _ _).1 ho with rfl|ho
  ·exact hq
  ·exact h.UQ o ho⟩
theorem Sm {b:Br} {x:dO} {p:List C5} (hok:fQ (ownIn b x p)) (pe:∀ e∈b.ent,dU e.p) (pp:dU p) (hq:Wr.gV p=aV) (k:Nat) (hk:k<=b.dG.length):Yz (ownIn b x p) (gP b.dG (jE x p) (ownIn b x p,[]) k).1 k/\(gP b.dG (jE x p) (ownIn b x p,[]) k).2.length<=k:=by
 obtain⟨h1,h2,h3⟩:=mI (l:=b.dG) (b0:=ownIn b x p) (o0:=[]) (fun a=>gY p a.p) (fun a=>iY x p a) (fun a=>a.par) (fun e=>dU e.p) pe (fun a _ _=>pp) k hk;exact⟨⟨h1,tX fQ hok (fun s a _ hs=>step_ok hs _ _ _ (sw _) hq) k hk,h2⟩,by simpa using h3⟩
end Rt
namespace Rt
open Go.RowKit Go.Sort Rw YtghlpefopidlaaaGreat.Nm Pr Bk Av Rl Sb Fl
def Vb (_B:Nat) (_b5 _b7 _b8 _b10 n:Nat) (me:Int) (s1:Option ay) (s2 s3:Nat) (s4:Option ay) (s5 s6:Nat) (s7:Option ay) (s8 s9:Nat) (s10:Option ay) (s11 s12:Nat) (s13:Option ay) (s14 s15:Nat) (par t1 t2 x1 x2:Int) (rv:aW) (_lx:List nP) (l:List Ou) (_bb:Br) (_z0 _z1 _z2 _z3 _z4 _z5:aW) (i:Nat) (v:aW) (x:aI):Prop :=
 match i with
 | 0=>v=aL #[U X me,J s1 s2 s3,J s4 s5 s6,J s7 s8 s9,J s10 s11 s12,J s13 s14 s15]
 | 1=>v=rv
 | 2=>v=U X par
 | 3=>v=aL #[U X t1,U X t2]
 | 4=>v=aL #[U X x1,U X x2]
 | 5=>v=aL #[U X 4,U X t1,U X t2,U X x1,U X x2,J Y 0 0,J Y 0 0]
 | 6=>v=Aw (par,4,t1,t2,x1,x2,(Y,0,0),(Y,0,0))
 | 7=>Dr x _B v [(par,4,t1,t2,x1,x2,(Y,0,0),(Y,0,0))]
 | 8=>∃ ly:List nP,nJ x n v ly (l++[⟨par,4,(t1,t2),(x1,x2),[]⟩])
 | 9=>True
 | 10=>∃ ly:List nP,nJ x n v ly (l++[⟨par,4,(t1,t2),(x1,x2),[]⟩])
 | _=>True
def vH (W:aI) (b5 b7 b8 b10 n:Nat) (me:Int) (s1:Option ay) (s2 s3:Nat) (s4:Option ay) (s5 s6:Nat) (s7:Option ay) (s8 s9:Nat) (s10:Option ay) (s11 s12:Nat) (s13:Option ay) (s14 s15:Nat) (_par t1 t2 x1 x2:Int) (_rv:aW) (_lx:List nP) (_l:List Ou) (bb:Br) (z0 z1 z2 z3 z4 z5:aW) (D:Nat->Prop) (x:aI):Prop:=(¬ D 8->Below W.heap.size W x)/\(D 8->¬ D 9->(Below n W x/\jf x bb (s1,s2,s3) (s4,s5,s6) (s7,s8,s9) (s10,s11,s12) (s13,s14,s15)/\dx x b5 #[U X me,J s1 s2 s3,J s4 s5 s6,J s7 s8 s9,J s10 s11 s12,J s13 s14 s15] 30/\dx x b10 #[z0,z1,z2,z3,z4,z5] 30/\dx x b7 #[U X t1,U X t2] 23/\dx x b8 #[U X x1,U X x2] 23))/\(D 9->Below n W x/\jf x bb (s1,s2,s3) (s4,s5,s6) (s7,s8,s9) (s10,s11,s12) (s13,s14,s15)/\dx x b5 #[U X me,J s1 s2 s3,J s4 s5 s6,J s7 s8 s9,J s10 s11 s12,J s13 s14 s15] 30/\dx x b10 #[U X me,J s1 s2 s3,J s4 s5 s6,J s7 s8 s9,J s10 s11 s12,J s13 s14 s15] 30)
noncomputable def P6:Code:=((Tryz.f48.body.bind (eP 10)).getD .skip)
theorem YA (Q:Exit->Act->aI->Prop) (W:aI) (b5 b7 b8 b10 n:Nat) (me:Int) (s1:Option ay) (s2 s3:Nat) (s4:Option ay) (s5 s6:Nat) (s7:Option ay) (s8 s9:Nat) (s10:Option ay) (s11 s12:Nat) (s13:Option ay) (s14 s15:Nat) (par t1 t2 x1 x2:Int) (rv:aW) (lx:List nP) (l:List Ou) (bb:Br) (z0 z1 z2 z3 z4 z5:aW) (u0 u2 u3 u4 u6 u9 u11 u12 u13 u15 u16 u17 u18 u19 u20 u21 u22 u23 u24 u25 u26 u27 u28 u29 u30 u31 u32 u33 u34 u35 u36 u37 u38 u39 u40 u41 u42 u43 u44 u45 u46 u47 u48 u49 u50 u51:aW)
  (h5:dx W b5 #[U X me,J s1 s2 s3,J s4 s5 s6,J s7 s8 s9,J s10 s11 s12,J s13 s14 s15] 30) (h7:dx W b7 #[U X t1,U X t2] 23) (h8:dx W b8 #[U X x1,U X x2] 23) (h10:dx W b10 #[z0,z1,z2,z3,z4,z5] 30) (n5:b5≠b10) (n7:b7≠b10) (n8:b8≠b10) (ar:nJ W n rv lx l) (hn:n<=W.heap.size) (hl:lx.length<=900) (Z5:jf W bb (s1,s2,s3) (s4,s5,s6) (s7,s8,s9) (s10,s11,s12) (s13,s14,s15)) (nb:n<=b10)
  (hQ:∀ (a:Act) (y:aI) (ly:List nP) (ra:Option ay) (rc:Nat),a.defers=[]->a.tmps[10]?=O (Z (O ⟨b10,0,Y⟩))->a.tmps[11]?=O (J ra ly.length rc)->dx y b10 #[U X me,J s1 s2 s3,J s4 s5 s6,J s7 s8 s9,J s10 s11 s12,J s13 s14 s15] 30->Below n W y->jf y bb (s1,s2,s3) (s4,s5,s6) (s7,s8,s9) (s10,s11,s12) (s13,s14,s15)->nJ y n (J ra ly.length rc) ly (l++[⟨par,4,(t1,t2),(x1,x2),[]⟩])->Q .normal a y) :
  Code.wp aR P6 Q ⟨(u0::U X par::u2::u3::u4::Z (O ⟨b5,0,Y⟩)::u6::Z (O ⟨b7,0,Y⟩)::Z (O ⟨b8,0,Y⟩)::u9::Z (O ⟨b10,0,Y⟩)::u11::u12::u13::rv::u15::u16::u17::u18::u19::u20::u21::u22::u23::u24::u25::u26::u27::u28::u29::u30::u31::u32::u33::u34::u35::u36::u37::u38::u39::u40::u41::u42::u43::u44::u45::u46::u47::u48::u49::u50::u51::[]).toArray,[]⟩ W:=by
 have HQ:=L hQ;have H5:=L h5;have H7:=L h7;have H8:=L h8;have H10:=L h10;have N5:=L n5;have N7:=L n7;have N8:=L n8;have AR:=L ar;have HN:=L hn;have HL:=L hl;have BCC:=L Z5;have NB:=L nb;clear hQ h5 h7 h8 h10 n5 n7 n8 ar hn hl Z5 nb;have YC:∀ D x,vH W b5 b7 b8 b10 n me s1 s2 s3 s4 s5 s6 s7 s8 s9 s10 s11 s12 s13 s14 s15 par t1 t2 x1 x2 rv lx l bb z0 z1 z2 z3 z4 z5 D x->dx x b5 #[U X me,J s1 s2 s3,J s4 s5 s6,J s7 s8 s9,J s10 s11 s12,J s13 s14 s15] 30:=fun D x hF=>by
  by_cases d8:D 8
  ·by_cases d9:D 9
   ·exact (hF.2.2 d9).2.2.1
   ·exact (hF.2.1 d8 d9).2.2.1
  ·exact H5.out.on (hF.1 d8)
 have YD:∀ D x,vH W b5 b7 b8 b10 n me s1 s2 s3 s4 s5 s6 s7 s8 s9 s10 s11 s12 s13 s14 s15 par t1 t2 x1 x2 rv lx l bb z0 z1 z2 z3 z4 z5 D x->¬ D 9->dx x b7 #[U X t1,U X t2] 23:=fun D x hF n9=>by
  by_cases d8:D 8
  ·exact (hF.2.1 d8 n9).2.2.2.2.1
  ·exact H7.out.on (hF.1 d8)
 have YE:∀ D x,vH W b5 b7 b8 b10 n me s1 s2 s3 s4 s5 s6 s7 s8 s9 s10 s11 s12 s13 s14 s15 par t1 t2 x1 x2 rv lx l bb z0 z1 z2 z3 z4 z5 D x->¬ D 9->dx x b8 #[U X x1,U X x2] 23:=fun D x hF n9=>by
  by_cases d8:D 8
  ·exact (hF.2.1 d8 n9).2.2.2.2.2
  ·exact H8.out.on (hF.1 d8)
 unfold P6
 conv=>arg 2; whnf
 have nd:∀ j,(∀ i,i<11->[O 43,O 44,O 45,O 46,O 47,O 48,O 49,O 50,O 51,Y,O 11].getD i Y≠O j)->∀ i,i<11->(fun i=>[O 43,O 44,O 45,O 46,O 47,O 48,O 49,O 50,O 51,Y,O 11].getD i Y) i≠O j:=fun j h=>h;refine cO 11 (fun i=>[O 43,O 44,O 45,O 46,O 47,O 48,O 49,O 50,O 51,Y,O 11].getD i Y) (fun i=>if i=7 then 8 else 11) (Vb W.heap.size b5 b7 b8 b10 n me s1 s2 s3 s4 s5 s6 s7 s8 s9 s10 s11 s12 s13 s14 s15 par t1 t2 x1 x2 rv lx l bb z0 z1 z2 z3 z4 z5) (vH W b5 b7 b8 b10 n me s1 s2 s3 s4 s5 s6 s7 s8 s9 s10 s11 s12 s13 s14 s15 par t1 t2 x1 x2 rv lx l bb z0 z1 z2 z3 z4 z5) (by kernel_rfl) (by kernel_rfl) rfl (fun i j e hi hj h1 h2=>(by decide:∀ i,i<11->∀ j,j<11->([O 43,O 44,O 45,O 46,O 47,O 48,O 49,O 50,O 51,Y,O 11].getD i Y).isSome=aV->[O 43,O 44,O 45,O 46,O 47,O 48,O 49,O 50,O 51,Y,O 11].getD i Y=[O 43,O 44,O 45,O 46,O 47,O 48,O 49,O 50,O 51,Y,O 11].getD j Y->i=j) i hi j hj (by have h1:[O 43,O 44,O 45,O 46,O 47,O 48,O 49,O 50,O 51,Y,O 11].getD i Y=O e:=h1; rw [h1]; rfl) (h1.trans h2.symm)) (fun i e hi h=>(by decide:∀ i,i<11->∀ q∈[O 43,O 44,O 45,O 46,O 47,O 48,O 49,O 50,O 51,Y,O 11].getD i Y,q<52) i hi e h) (⟨fun _=>(aC _ _).drew,fun h=>h.elim,fun h=>h.elim⟩) ?_ ?_
 ·intro i o hi ho a x D hnd hc hD hF seen K hK;clear HQ;have still:∀ i,i≠7/\i≠8/\i≠9->vH W b5 b7 b8 b10 n me s1 s2 s3 s4 s5 s6 s7 s8 s9 s10 s11 s12 s13 s14 s15 par t1 t2 x1 x2 rv lx l bb z0 z1 z2 z3 z4 z5 (fun j=>j=i\/D j) x:=fun i hns=>⟨fun h=>hF.1 fun h2=>h (ak h2),fun h1 h2=>hF.2.1 (h1.resolve_left (Ne.symm hns.2.1)) fun h3=>h2 (ak h3),fun h=>hF.2.2 (h.resolve_left (Ne.symm hns.2.2))⟩;rcases (by omega:i=0\/i=1\/i=2\/i=3\/i=4\/i=5\/i=6\/i=7\/i=8\/i=9\/i=10) with rfl|rfl|rfl|rfl|rfl|rfl|rfl|rfl|rfl|rfl|rfl
  ·cases ho;have e5:a.eval (ah 5)=Z (O ⟨b5,0,Y⟩):=seen.kp 5 _ (nd 5 (by decide)) rfl;obtain⟨y0,y1,y2,y3,y4,y5⟩:=(YC D x hF).gQ;exact aG rfl rfl (bI a.eval _ 30 (ah 5) rfl (by rw [e5]; simp [go_sem,y0,y1,y2,y3,y4,y5])) (hK _ _ rfl (still 0 (by decide)) fun _ _ _ _ _ _ _ h=>h)
  ·cases ho;have e14:a.eval (ah 14)=rv:=seen.kp 14 _ (nd 14 (by decide)) rfl;exact aG rfl rfl (bU a.eval _ (ah 14) rfl x) (hK _ _ e14 (still 1 (by decide)) fun _ _ _ _ _ _ _ h=>h)
  ·cases ho;have e1:a.eval (ah 1)=U X par:=seen.kp 1 _ (nd 1 (by decide)) rfl;exact aG rfl rfl (bU a.eval _ (ah 1) rfl x) (hK _ _ e1 (still 2 (by decide)) fun _ _ _ _ _ _ _ h=>h)
  ·cases ho;have n9:¬ D 9:=fun h9=>hnd (hc 5 _ (hc 6 _ (hc 7 _ (hc 8 _ (hc 9 _ h9 rfl ⟨8,.chain⟩ (by simp) rfl) rfl ⟨7,.data⟩ (by simp) rfl) rfl ⟨6,.data⟩ (by simp) rfl) rfl ⟨5,.data⟩ (by simp) rfl) rfl ⟨3,.data⟩ (by simp) rfl);have e7:a.eval (ah 7)=Z (O ⟨b7,0,Y⟩):=seen.kp 7 _ (nd 7 (by decide)) rfl;obtain⟨y0,y1⟩:=(YD D x hF n9).cs2;exact aG rfl rfl (bI a.eval _ 23 (ah 7) rfl (by rw [e7]; simp [go_sem,y0,y1])) (hK _ _ rfl (still 3 (by decide)) fun _ _ _ _ _ _ _ h=>h)
  ·cases ho;have n9:¬ D 9:=fun h9=>hnd (hc 5 _ (hc 6 _ (hc 7 _ (hc 8 _ (hc 9 _ h9 rfl ⟨8,.chain⟩ (by simp) rfl) rfl ⟨7,.data⟩ (by simp) rfl) rfl ⟨6,.data⟩ (by simp) rfl) rfl ⟨5,.data⟩ (by simp) rfl) rfl ⟨4,.data⟩ (by simp) rfl);have e8:a.eval (ah 8)=Z (O ⟨b8,0,Y⟩):=seen.kp 8 _ (nd 8 (by decide)) rfl;obtain⟨y0,y1⟩:=(YE D x hF n9).cs2;exact aG rfl rfl (bI a.eval _ 23 (ah 8) rfl (by rw [e8]; simp [go_sem,y0,y1])) (hK _ _ rfl (still 4 (by decide)) fun _ _ _ _ _ _ _ h=>h)
  ·cases ho;have e46:a.eval (ah 46)=aL #[U X t1,U X t2]:=seen.at_ ⟨3,.data⟩ (by simp) rfl (ak (by decide)) _ rfl;have e47:a.eval (ah 47)=aL #[U X x1,U X x2]:=seen.at_ ⟨4,.data⟩ (by simp) rfl (ak (by decide)) _ rfl;exact aG rfl rfl (bZ a.eval _ 43 #[(0,.const (U X 4)),(1,ah 46),(2,ah 47)] rfl (ps:=#[(0,U X 4),(1,aL #[U X t1,U X t2]),(2,aL #[U X x1,U X x2])]) (by simp only [aS,aZ,bq,e46,e47]; rfl) (by simp [go_sem])) (hK _ _ rfl (still 5 (by decide)) fun _ _ _ _ _ _ _ h=>h)
  ·cases ho;have e45:a.eval (ah 45)=U X par:=seen.at_ ⟨2,.data⟩ (by simp) rfl (ak (by decide)) _ rfl;have e48:a.eval (ah 48)=aL #[U X 4,U X t1,U X t2,U X x1,U X x2,J Y 0 0,J Y 0 0]:=seen.at_ ⟨5,.data⟩ (by simp) rfl (ak (by decide)) _ rfl;exact aG rfl rfl (bZ a.eval _ 46 #[(0,ah 45),(1,ah 48)] rfl (ps:=#[(0,U X par),(1,aL #[U X 4,U X t1,U X t2,U X x1,U X x2,J Y 0 0,J Y 0 0])]) (by simp only [aS,aZ,bq,e45,e48]) (by simp [go_sem])) (hK _ _ rfl (still 6 (by decide)) fun _ _ _ _ _ _ _ h=>h)
  ·cases ho;have e49:a.eval (ah 49)=Aw (par,4,t1,t2,x1,x2,(Y,0,0),(Y,0,0)):=seen.at_ ⟨6,.data⟩ (by simp) rfl (ak (by decide)) _ rfl;have n8:¬ D 8:=fun h=>hnd (hc 8 _ h rfl ⟨7,.data⟩ (by simp) rfl);have n9:¬ D 9:=fun h=>n8 (hc 9 _ h rfl ⟨8,.chain⟩ (by simp) rfl);have hb:=hF.1 n8;have hl:=mX Nw x [((par,4,t1,t2,x1,x2,(Y,0,0),(Y,0,0)):nP)] 1 rfl (by simp) (jL (par,4,t1,t2,x1,x2,(Y,0,0),(Y,0,0))).toArray (by simp [flat,EU]);have nb:=iM x (aO (jL (par,4,t1,t2,x1,x2,(Y,0,0),(Y,0,0))).toArray 46);exact aG rfl rfl (cZ a.eval _ 37 1 #[(0,ah 49)] rfl (ps:=#[(0,Aw (par,4,t1,t2,x1,x2,(Y,0,0),(Y,0,0)))]) (by simp [e49]) (by simp [go_sem])) (hK (J (O ⟨x.heap.size,0,Y⟩) 1 1) (x.alloc (aO (jL (par,4,t1,t2,x1,x2,(Y,0,0),(Y,0,0))).toArray 46)) (dH hl hb.size) ⟨fun _=>hb.trans (nb.mono hb.size),fun h=>absurd (h.resolve_left (by decide)) n8,fun h=>absurd (h.resolve_left (by decide)) n9⟩ (fun j u hj dj nl nx ni h=>by
    rcases (by omega:j=0\/j=1\/j=2\/j=3\/j=4\/j=5\/j=6\/j=7\/j=8\/j=9\/j=10) with rfl|rfl|rfl|rfl|rfl|rfl|rfl|rfl|rfl|rfl|rfl
    ·exact h
    ·exact h
    ·exact h
    ·exact h
    ·exact h
    ·exact h
    ·exact h
    ·exact absurd rfl ni
    ·exact absurd dj n8
    ·exact h
    ·exact absurd (hc 10 _ dj rfl ⟨8,.data⟩ (by simp) rfl) n8))
  ·cases ho;have e44:a.eval (ah 44)=rv:=seen.at_ ⟨1,.data⟩ (by simp) rfl (ak (by decide)) _ rfl;have E50:=seen.at_ ⟨7,.data⟩ (by simp) rfl (bC rfl) _ rfl;have n9:¬ D 9:=fun h=>hnd (hc 9 _ h rfl ⟨8,.chain⟩ (by simp) rfl);have hb:=hF.1 hnd;have ar:=AR.out.on hb;obtain⟨v',x',r,o',gr⟩:=jO Nw n ar.row (Row.dB E50) (by have:=HL.out; omega) (by simp) (aM HN.out hb.size) 37;have hp:=ar.more gr o' (m:=[⟨par,4,(t1,t2),(x1,x2),[]⟩]) (.cons (show OG _ _ _ _ from ⟨rfl,rfl,rfl,rfl,iH _ _,rfl⟩) .nil);have g1:Below n W x':=(hb.mono HN.out).grown gr (aM HN.out hb.size) (fun j hj=>(ar.row.lt j hj).1);have g2:=jf.app ar.row gr (BCC.out.on hb);have g3:=iQ ar.row gr (H5.out.on hb) (by decide);have g4:=iQ ar.row gr (H10.out.on hb) (by decide);have g5:=iQ ar.row gr (H7.out.on hb) (by decide);have g6:=iQ ar.row gr (H8.out.on hb) (by decide);have ff:vH W b5 b7 b8 b10 n me s1 s2 s3 s4 s5 s6 s7 s8 s9 s10 s11 s12 s13 s14 s15 par t1 t2 x1 x2 rv lx l bb z0 z1 z2 z3 z4 z5 (fun j=>j=8\/D j) x':=⟨fun h=>absurd (bC rfl) h,fun _ _=>⟨g1,g2,g3,g4,g5,g6⟩,fun h=>absurd (h.resolve_left (by decide)) n9⟩;have q:=hK v' x' ⟨_,hp⟩ ff (fun j u hj dj nl nx ni h=>by
    rcases (by omega:j=0\/j=1\/j=2\/j=3\/j=4\/j=5\/j=6\/j=7\/j=8\/j=9\/j=10) with rfl|rfl|rfl|rfl|rfl|rfl|rfl|rfl|rfl|rfl|rfl
    ·exact h
    ·exact h
    ·exact h
    ·exact h
    ·exact h
    ·exact h
    ·exact h
    ·exact absurd rfl nx
    ·exact absurd rfl ni
    ·exact h
    ·exact absurd (hc 10 _ dj rfl ⟨8,.data⟩ (by simp) rfl) hnd)
   exact aG rfl rfl (Rg.Gy a.eval _ (ah 44) (ah 50) 37 rfl e44 rfl r) q
  ·cases ho;have e10:a.eval (ah 10)=Z (O ⟨b10,0,Y⟩):=seen.kp 10 _ (nd 10 (by decide)) rfl;have e43:a.eval (ah 43)=aL #[U X me,J s1 s2 s3,J s4 s5 s6,J s7 s8 s9,J s10 s11 s12,J s13 s14 s15]:=seen.at_ ⟨0,.data⟩ (by simp) rfl (ak (by decide)) _ rfl;have d8:D 8:=hD ⟨8,.chain⟩ (by simp) rfl;have n10:¬ D 10:=fun h=>hnd (hc 10 _ h rfl ⟨9,.chain⟩ (by simp) rfl);obtain⟨f1,f2,f3,f4,_⟩:=hF.2.1 d8 hnd;have hs:=qC f4 me s1 s4 s7 s10 s13 s2 s3 s5 s6 s8 s9 s11 s12 s14 s15;have bs:=aj x b10 (U X me) (J s1 s2 s3) (J s4 s5 s6) (J s7 s8 s9) (J s10 s11 s12) (J s13 s14 s15);have g1:=dD (b:=b10) f1 NB.out (U X me) (J s1 s2 s3) (J s4 s5 s6) (J s7 s8 s9) (J s10 s11 s12) (J s13 s14 s15);have g2:=f2.oh bs f4 (by decide) (by decide) (by decide) (by decide) (by decide) (by decide);have g3:=bs.box f3 N5.out;have g4:=dP f4 (U X me) (J s1 s2 s3) (J s4 s5 s6) (J s7 s8 s9) (J s10 s11 s12) (J s13 s14 s15);have ff:vH W b5 b7 b8 b10 n me s1 s2 s3 s4 s5 s6 s7 s8 s9 s10 s11 s12 s13 s14 s15 par t1 t2 x1 x2 rv lx l bb z0 z1 z2 z3 z4 z5 (fun j=>j=9\/D j) (iI x b10 (U X me) (J s1 s2 s3) (J s4 s5 s6) (J s7 s8 s9) (J s10 s11 s12) (J s13 s14 s15)):=⟨fun h=>absurd (ak d8) h,fun _ h=>absurd (bC rfl) h,fun _=>⟨g1,g2,g3,g4⟩⟩;clear g1 g2 g3 g4;generalize iI x b10 (U X me) (J s1 s2 s3) (J s4 s5 s6) (J s7 s8 s9) (J s10 s11 s12) (J s13 s14 s15)=x2 at *;have q:=hK (bg aV) x2 trivial ff (fun j u hj dj nl nx ni h=>by
    rcases (by omega:j=0\/j=1\/j=2\/j=3\/j=4\/j=5\/j=6\/j=7\/j=8\/j=9\/j=10) with rfl|rfl|rfl|rfl|rfl|rfl|rfl|rfl|rfl|rfl|rfl
    ·exact h
    ·exact h
    ·exact h
    ·exact h
    ·exact h
    ·exact h
    ·exact h
    ·exact absurd d8 nl
    ·obtain⟨ly,h⟩:=h; exact⟨ly,h.but bs f4 (by decide) (by decide)⟩
    ·exact h
    ·exact absurd dj n10)
   exact cB 30 (ah 10) (ah 43) rfl rfl rfl rfl e10 e43 hs q
  ·cases ho;have E51:=seen.at_ ⟨8,.data⟩ (by simp) rfl (ak (by decide)) _ rfl;exact aG rfl rfl (dh a.eval _ (ah 51) rfl x) (hK _ _ E51 (still 10 (by decide)) fun _ _ _ _ _ _ _ h=>h)
 ·intro a x df sz kp ⟨vs,hv⟩ ⟨D,hall,hF⟩;obtain⟨ly,q1⟩:=(hv 10 (by omega)).2 (by decide);have g11:=(hv 10 (by omega)).1 11 rfl;obtain⟨f1,f2,_,f4⟩:=hF.2.2 (hall 9 (by omega));obtain⟨ra,rc,hv7⟩:=(Row.dB q1.row).len;rw [hv7] at g11 q1;exact HQ.out a x ly ra rc df ((kp 10 (nd 10 (by decide))).trans rfl) g11 f4 f1 f2 q1
def YG (_B:Nat) (_b3 _b5 _b6:Nat) (me:Int) (s1:Option ay) (s2 s3:Nat) (s4:Option ay) (s5 s6:Nat) (s7:Option ay) (s8 s9:Nat) (s10:Option ay) (s11 s12:Nat) (s13:Option ay) (s14 s15:Nat) (par:Int) (y1 y2 y3 y4:Int) (po:Option ay) (pn pc:Nat) (y6:Int) (y7:Bool) (p:List C5) (i:Nat) (v:aW) (x:aI):Prop :=
 match i with
 | 0=>v=aL #[U X me,J s1 s2 s3,J s4 s5 s6,J s7 s8 s9,J s10 s11 s12,J s13 s14 s15]
 | 1=>v=U X par
 | 2=>v=aL #[U X y1,U X y2,U X y3,U X y4,J po pn pc,U X y6,bg y7]
 | 3=>∃ s:Sl,v=aL #[U X 3,U X y1,U X y2,U X y3,U X y4,dN s,J Y 0 0]/\ig x _B (dN s) p
 | 4=>∃ s:Sl,v=Aw (par,3,y1,y2,y3,y4,s,(Y,0,0))/\ig x _B (dN s) p
 | 5=>∃ s:Sl,Dr x _B v [(par,3,y1,y2,y3,y4,s,(Y,0,0))]/\ig x _B (dN s) p
 | 6=>True
 | 7=>∃ s:Sl,Dr x _B v [(par,3,y1,y2,y3,y4,s,(Y,0,0))]/\ig x _B (dN s) p
 | _=>True
def LU (W:aI) (_b3 _b5 b6:Nat) (me:Int) (s1:Option ay) (s2 s3:Nat) (s4:Option ay) (s5 s6:Nat) (s7:Option ay) (s8 s9:Nat) (s10:Option ay) (s11 s12:Nat) (s13:Option ay) (s14 s15:Nat) (_par:Int) (_y1 _y2 _y3 _y4:Int) (_po:Option ay) (_pn _pc:Nat) (_y6:Int) (_y7:Bool) (_p:List C5) (D:Nat->Prop) (x:aI):Prop:=(¬ D 6->Below W.heap.size W x)/\(D 6->dn b6 W x/\dx x b6 #[U X me,J s1 s2 s3,J s4 s5 s6,J s7 s8 s9,J s10 s11 s12,J s13 s14 s15] 30)
noncomputable def Vd:Code:=((Tryz.f45.body.bind (eP 4)).getD .skip)
theorem en4 (Q:Exit->Act->aI->Prop) (W:aI) (b3 b5 b6:Nat) (me:Int) (s1:Option ay) (s2 s3:Nat) (s4:Option ay) (s5 s6:Nat) (s7:Option ay) (s8 s9:Nat) (s10:Option ay) (s11 s12:Nat) (s13:Option ay) (s14 s15:Nat) (par:Int) (y1 y2 y3 y4:Int) (po:Option ay) (pn pc:Nat) (y6:Int) (y7:Bool) (p:List C5) (z0 z1 z2 z3 z4 z5:aW) (u0 u2 u4 u7 u8 u9 u10 u11 u12 u13 u14 u15 u16 u17 u18 u19 u20 u21 u22 u23:aW)
  (h3:dx W b3 #[U X me,J s1 s2 s3,J s4 s5 s6,J s7 s8 s9,J s10 s11 s12,J s13 s14 s15] 30) (h5:dx W b5 #[U X y1,U X y2,U X y3,U X y4,J po pn pc,U X y6,bg y7] 67) (h6:dx W b6 #[z0,z1,z2,z3,z4,z5] 30) (n3:b3≠b6) (n5:b5≠b6) (hp:gq W (J po pn pc) p) (lp:p.length<=900)
  (hQ:∀ (a:Act) (y:aI) (s:Sl) (ra:Option ay) (rc:Nat),a.defers=[]->a.tmps[6]?=O (Z (O ⟨b6,0,Y⟩))->a.tmps[7]?=O (J ra 1 rc)->dx y b6 #[U X me,J s1 s2 s3,J s4 s5 s6,J s7 s8 s9,J s10 s11 s12,J s13 s14 s15] 30->dn b6 W y->Dr y W.heap.size (J ra 1 rc) [(par,3,y1,y2,y3,y4,s,(Y,0,0))]->ig y W.heap.size (dN s) p->Q .normal a y) :
  Code.wp aR Vd Q ⟨(u0::U X par::u2::Z (O ⟨b3,0,Y⟩)::u4::Z (O ⟨b5,0,Y⟩)::Z (O ⟨b6,0,Y⟩)::u7::u8::u9::u10::u11::u12::u13::u14::u15::u16::u17::u18::u19::u20::u21::u22::u23::[]).toArray,[]⟩ W:=by
 have HQ:=L hQ;have H3:=L h3;have H5:=L h5;have H6:=L h6;have N3:=L n3;have N5:=L n5;have HP:=L hp;have LP:=L lp;clear hQ h3 h5 h6 n3 n5 hp lp;have YH:∀ D x,LU W b3 b5 b6 me s1 s2 s3 s4 s5 s6 s7 s8 s9 s10 s11 s12 s13 s14 s15 par y1 y2 y3 y4 po pn pc y6 y7 p D x->dx x b3 #[U X me,J s1 s2 s3,J s4 s5 s6,J s7 s8 s9,J s10 s11 s12,J s13 s14 s15] 30:=fun D x hF=>by
  by_cases d6:D 6
  ·exact (hF.2 d6).1.1.box H3.out N3.out
  ·exact H3.out.on (hF.1 d6)
 have YC:∀ D x,LU W b3 b5 b6 me s1 s2 s3 s4 s5 s6 s7 s8 s9 s10 s11 s12 s13 s14 s15 par y1 y2 y3 y4 po pn pc y6 y7 p D x->dx x b5 #[U X y1,U X y2,U X y3,U X y4,J po pn pc,U X y6,bg y7] 67:=fun D x hF=>by
  by_cases d6:D 6
  ·exact (hF.2 d6).1.1.box H5.out N5.out
  ·exact H5.out.on (hF.1 d6)
 unfold Vd
 conv=>arg 2; whnf
 have nd:∀ j,(∀ i,i<8->[O 18,O 19,O 20,O 21,O 22,O 23,Y,O 7].getD i Y≠O j)->∀ i,i<8->(fun i=>[O 18,O 19,O 20,O 21,O 22,O 23,Y,O 7].getD i Y) i≠O j:=fun j h=>h;refine cO 8 (fun i=>[O 18,O 19,O 20,O 21,O 22,O 23,Y,O 7].getD i Y) (fun _=>8) (YG W.heap.size b3 b5 b6 me s1 s2 s3 s4 s5 s6 s7 s8 s9 s10 s11 s12 s13 s14 s15 par y1 y2 y3 y4 po pn pc y6 y7 p) (LU W b3 b5 b6 me s1 s2 s3 s4 s5 s6 s7 s8 s9 s10 s11 s12 s13 s14 s15 par y1 y2 y3 y4 po pn pc y6 y7 p) (by kernel_rfl) (by kernel_rfl) rfl (fun i j e hi hj h1 h2=>(by decide:∀ i,i<8->∀ j,j<8->([O 18,O 19,O 20,O 21,O 22,O 23,Y,O 7].getD i Y).isSome=aV->[O 18,O 19,O 20,O 21,O 22,O 23,Y,O 7].getD i Y=[O 18,O 19,O 20,O 21,O 22,O 23,Y,O 7].getD j Y->i=j) i hi j hj (by have h1:[O 18,O 19,O 20,O 21,O 22,O 23,Y,O 7].getD i Y=O e:=h1; rw [h1]; rfl) (h1.trans h2.symm)) (fun i e hi h=>(by decide:∀ i,i<8->∀ q∈[O 18,O 19,O 20,O 21,O 22,O 23,Y,O 7].getD i Y,q<24) i hi e h) (⟨fun _=>(aC _ _).drew,fun h=>h.elim⟩) ?_ ?_
 ·intro i o hi ho a x D hnd hc hD hF seen K hK;clear HQ;have still:∀ i,i≠3/\i≠5/\i≠6->LU W b3 b5 b6 me s1 s2 s3 s4 s5 s6 s7 s8 s9 s10 s11 s12 s13 s14 s15 par y1 y2 y3 y4 po pn pc y6 y7 p (fun j=>j=i\/D j) x:=fun i hns=>⟨fun h=>hF.1 fun h2=>h (ak h2),fun h=>hF.2 (h.resolve_left (Ne.symm hns.2.2))⟩;rcases (by omega:i=0\/i=1\/i=2\/i=3\/i=4\/i=5\/i=6\/i=7) with rfl|rfl|rfl|rfl|rfl|rfl|rfl|rfl
  ·cases ho;have e3:a.eval (ah 3)=Z (O ⟨b3,0,Y⟩):=seen.kp 3 _ (nd 3 (by decide)) rfl;obtain⟨y0,y1,y2,y3,y4,y5⟩:=(YH D x hF).gQ;exact aG rfl rfl (bI a.eval _ 30 (ah 3) rfl (by rw [e3]; simp [go_sem,y0,y1,y2,y3,y4,y5])) (hK _ _ rfl (still 0 (by decide)) fun _ _ _ _ _ _ _ h=>h)
  ·cases ho;have e1:a.eval (ah 1)=U X par:=seen.kp 1 _ (nd 1 (by decide)) rfl;exact aG rfl rfl (bU a.eval _ (ah 1) rfl x) (hK _ _ e1 (still 1 (by decide)) fun _ _ _ _ _ _ _ h=>h)
  ·cases ho;have e5:a.eval (ah 5)=Z (O ⟨b5,0,Y⟩):=seen.kp 5 _ (nd 5 (by decide)) rfl;obtain⟨y0,y1,y2,y3,y4,y5,y6⟩:=(YC D x hF).zT;exact aG rfl rfl (bI a.eval _ 67 (ah 5) rfl (by rw [e5]; simp [go_sem,y0,y1,y2,y3,y4,y5,y6])) (hK _ _ rfl (still 2 (by decide)) fun _ _ _ _ _ _ _ h=>h)
  ·cases ho;have e20:a.eval (ah 20)=aL #[U X y1,U X y2,U X y3,U X y4,J po pn pc,U X y6,bg y7]:=seen.at_ ⟨2,.data⟩ (by simp) rfl (ak (by decide)) _ rfl;have n6:¬ D 6:=fun h=>hnd (hc 6 _ h rfl ⟨3,.chain⟩ (by simp) rfl);have n4:¬ D 4:=fun h=>hnd (hc 4 _ h rfl ⟨3,.data⟩ (by simp) rfl);have n5:¬ D 5:=fun h=>n4 (hc 5 _ h rfl ⟨4,.data⟩ (by simp) rfl);have n7:¬ D 7:=fun h=>n5 (hc 7 _ h rfl ⟨5,.data⟩ (by simp) rfl);have hb:=hF.1 n6;exact cu rfl rfl (Rw.iq a.eval _ (ah 20) 67 115 rfl e20 rfl _ (fG Tryz.func115 rfl rfl _ _)) (yj (y1,y2,y3,y4,(po,pn,pc),y6,y7) p x (HP.out.on hb) LP.out) fun e w1 h=>by
    obtain⟨⟨s,rfl,q1⟩,q2⟩:=h;exact⟨_,rfl,hK _ w1 ⟨s,rfl,dH q1 hb.size⟩ ⟨fun _=>hb.trans (q2.mono hb.size),fun h=>absurd (h.resolve_left (by decide)) n6⟩ (fun j u hj dj nl nx ni h=>by
    rcases (by omega:j=0\/j=1\/j=2\/j=3\/j=4\/j=5\/j=6\/j=7) with rfl|rfl|rfl|rfl|rfl|rfl|rfl|rfl
    ·exact h
    ·exact h
    ·exact h
    ·exact absurd rfl ni
    ·exact absurd dj n4
    ·exact absurd dj n5
    ·exact h
    ·exact absurd dj n7)⟩
  ·cases ho;have e19:a.eval (ah 19)=U X par:=seen.at_ ⟨1,.data⟩ (by simp) rfl (ak (by decide)) _ rfl;have Ve:=seen.at_ ⟨3,.data⟩ (by simp) rfl (ak (by decide)) _ rfl;obtain⟨s,q0,q1⟩:=Ve;have q0:a.eval (ah 21)=aL #[U X 3,U X y1,U X y2,U X y3,U X y4,dN s,J Y 0 0]:=q0;exact aG rfl rfl (bZ a.eval _ 46 #[(0,ah 19),(1,ah 21)] rfl (ps:=#[(0,U X par),(1,aL #[U X 3,U X y1,U X y2,U X y3,U X y4,dN s,J Y 0 0])]) (by simp only [aS,aZ,bq,e19,q0]) (by simp [go_sem])) (hK _ _ ⟨s,rfl,q1⟩ (still 4 (by decide)) fun _ _ _ _ _ _ _ h=>h)
  ·cases ho;have E22:=seen.at_ ⟨4,.data⟩ (by simp) rfl (ak (by decide)) _ rfl;obtain⟨s,q0,q1⟩:=E22;have q0:a.eval (ah 22)=Aw (par,3,y1,y2,y3,y4,s,(Y,0,0)):=q0;have hsz:W.heap.size<=x.heap.size:=by
    by_cases d6:D 6
    ·exact (hF.2 d6).1.1.2
    ·exact (hF.1 d6).size
   have n7:¬ D 7:=fun h=>hnd (hc 7 _ h rfl ⟨5,.data⟩ (by simp) rfl);have hl:=mX Nw x [((par,3,y1,y2,y3,y4,s,(Y,0,0)):nP)] 1 rfl (by simp) (jL (par,3,y1,y2,y3,y4,s,(Y,0,0))).toArray (by simp [flat,EU]);have nb:=iM x (aO (jL (par,3,y1,y2,y3,y4,s,(Y,0,0))).toArray 46);exact aG rfl rfl (cZ a.eval _ 37 1 #[(0,ah 22)] rfl (ps:=#[(0,Aw (par,3,y1,y2,y3,y4,s,(Y,0,0)))]) (by simp [q0]) (by simp [go_sem])) (hK (J (O ⟨x.heap.size,0,Y⟩) 1 1) (x.alloc (aO (jL (par,3,y1,y2,y3,y4,s,(Y,0,0))).toArray 46)) ⟨s,dH hl hsz,Bk.dI q1 nb⟩ ⟨fun h=>(hF.1 fun h2=>h (ak h2)).trans (nb.mono hsz),fun h=>⟨(hF.2 (h.resolve_left (by decide))).1.grow H6.out.lt nb,(hF.2 (h.resolve_left (by decide))).2.on nb⟩⟩ (fun j u hj dj nl nx ni h=>by
    rcases (by omega:j=0\/j=1\/j=2\/j=3\/j=4\/j=5\/j=6\/j=7) with rfl|rfl|rfl|rfl|rfl|rfl|rfl|rfl
    ·exact h
    ·exact h
    ·exact h
    ·obtain⟨s,h1,h2⟩:=h; exact⟨s,h1,Bk.dI h2 nb⟩
    ·obtain⟨s,h1,h2⟩:=h; exact⟨s,h1,Bk.dI h2 nb⟩
    ·exact absurd rfl ni
    ·exact h
    ·exact absurd dj n7))
  ·cases ho;have e6:a.eval (ah 6)=Z (O ⟨b6,0,Y⟩):=seen.kp 6 _ (nd 6 (by decide)) rfl;have e18:a.eval (ah 18)=aL #[U X me,J s1 s2 s3,J s4 s5 s6,J s7 s8 s9,J s10 s11 s12,J s13 s14 s15]:=seen.at_ ⟨0,.data⟩ (by simp) rfl (ak (by decide)) _ rfl;have hb:=hF.1 hnd;have n7:¬ D 7:=fun h=>hnd (hc 7 _ h rfl ⟨6,.chain⟩ (by simp) rfl);have hs:=qC (H6.out.on hb) me s1 s4 s7 s10 s13 s2 s3 s5 s6 s8 s9 s11 s12 s14 s15;have bs:=aj x b6 (U X me) (J s1 s2 s3) (J s4 s5 s6) (J s7 s8 s9) (J s10 s11 s12) (J s13 s14 s15);have Vf:=H6.out.on hb;have ff:LU W b3 b5 b6 me s1 s2 s3 s4 s5 s6 s7 s8 s9 s10 s11 s12 s13 s14 s15 par y1 y2 y3 y4 po pn pc y6 y7 p (fun j=>j=6\/D j) (iI x b6 (U X me) (J s1 s2 s3) (J s4 s5 s6) (J s7 s8 s9) (J s10 s11 s12) (J s13 s14 s15)):=⟨fun h=>absurd (bC rfl) h,fun _=>⟨⟨(But.of_below hb).trans bs,fun B hB=>dD (b:=b6) (hb.mono (aM hB (Nat.le_of_lt H6.out.lt))) hB (U X me) (J s1 s2 s3) (J s4 s5 s6) (J s7 s8 s9) (J s10 s11 s12) (J s13 s14 s15)⟩,dP Vf (U X me) (J s1 s2 s3) (J s4 s5 s6) (J s7 s8 s9) (J s10 s11 s12) (J s13 s14 s15)⟩⟩;generalize iI x b6 (U X me) (J s1 s2 s3) (J s4 s5 s6) (J s7 s8 s9) (J s10 s11 s12) (J s13 s14 s15)=x2 at *;have q:=hK (bg aV) x2 trivial ff (fun j u hj dj nl nx ni h=>by
    rcases (by omega:j=0\/j=1\/j=2\/j=3\/j=4\/j=5\/j=6\/j=7) with rfl|rfl|rfl|rfl|rfl|rfl|rfl|rfl
    ·exact h
    ·exact h
    ·exact h
    ·obtain⟨s,h1,h2⟩:=h; exact⟨s,h1,bs.own h2 Vf (by decide)⟩
    ·obtain⟨s,h1,h2⟩:=h; exact⟨s,h1,bs.own h2 Vf (by decide)⟩
    ·obtain⟨s,h1,h2⟩:=h; exact⟨s,bs.own h1 Vf (by decide),bs.own h2 Vf (by decide)⟩
    ·exact h
    ·exact absurd dj n7)
   exact cB 30 (ah 6) (ah 18) rfl rfl rfl rfl e6 e18 hs q
  ·cases ho;have YI:=seen.at_ ⟨5,.data⟩ (by simp) rfl (ak (by decide)) _ rfl;exact aG rfl rfl (dh a.eval _ (ah 23) rfl x) (hK _ _ YI (still 7 (by decide)) fun _ _ _ _ _ _ _ h=>h)
 ·intro a x df sz kp ⟨vs,hv⟩ ⟨D,hall,hF⟩;obtain⟨s,q1,q2⟩:=(hv 7 (by omega)).2 (by decide);have g7:=(hv 7 (by omega)).1 7 rfl;obtain⟨f1,f2⟩:=hF.2 (hall 6 (by omega));obtain⟨ra,rc,hv7⟩:=(Row.dB q1).len;rw [hv7] at g7 q1;exact HQ.out a x s ra rc df ((kp 6 (nd 6 (by decide))).trans rfl) g7 f2 f1 q1 q2
def Vg (W:aI) (P:Prop) (r:Br×List Ou) (e:Ending) (w':aI):Prop:=(∃ (nv av sv ev ov s:Sl) (lx:List nP),e=.returned (.tuple #[nO r.1.me nv av sv ev ov,dN s])/\pE w' r.1 nv av sv ev ov/\(P->jf w' r.1 nv av sv ev ov)/\nJ w' W.heap.size (dN s) lx r.2)/\Below W.heap.size W w'
theorem yC (b:Br) (s1:Option ay) (s2 s3:Nat) (s4:Option ay) (s5 s6:Nat) (s7:Option ay) (s8 s9:Nat) (s10:Option ay) (s11 s12:Nat) (s13:Option ay) (s14 s15:Nat) (par:Int) (y1 y2 y3 y4:Int) (po:Option ay) (pn pc:Nat) (y6:Int) (y7:Bool) (e:En) (w:aI) (h:pE w b (s1,s2,s3) (s4,s5,s6) (s7,s8,s9) (s10,s11,s12) (s13,s14,s15)) (he:lH w (y1,y2,y3,y4,(po,pn,pc),y6,y7) e) (hf:zh b) (hfp:mE b) (hr:fV b.ent) (pe:∀ e∈b.ent,dU e.p) (pp:dU e.p) :
  cK aR 45 #[aL #[U X b.me,J s1 s2 s3,J s4 s5 s6,J s7 s8 s9,J s10 s11 s12,J s13 s14 s15],U X par,aL #[U X y1,U X y2,U X y3,U X y4,J po pn pc,U X y6,bg y7]] w (Vg w (jf w b (s1,s2,s3) (s4,s5,s6) (s7,s8,s9) (s10,s11,s12) (s13,s14,s15)) (fJ b par e)):=by
 obtain⟨h0,h1,h2,h3⟩:=iZ w #[U X b.me,J s1 s2 s3,J s4 s5 s6,J s7 s8 s9,J s10 s11 s12,J s13 s14 s15] #[U X y1,U X y2,U X y3,U X y4,J po pn pc,U X y6,bg y7] #[U X 0,J Y 0 0,J Y 0 0,J Y 0 0,J Y 0 0,J Y 0 0] 30 67 30;have FG:=L (fun W hb=>Li b e (s1,s2,s3) (s4,s5,s6) (s7,s8,s9) (s10,s11,s12) (s13,s14,s15) (y1,y2,y3,y4,(po,pn,pc),y6,y7) W (h.br.on (show Below w.heap.size w W from hb)) (he.on hb) hf hfp hr pe pp);have NO:=L h.no;have RC:=L (show ∀ W,Below w.heap.size w W->jf w b (s1,s2,s3) (s4,s5,s6) (s7,s8,s9) (s10,s11,s12) (s13,s14,s15)->jf W b (s1,s2,s3) (s4,s5,s6) (s7,s8,s9) (s10,s11,s12) (s13,s14,s15) from fun W hb hc=>hc.on hb);have LP:=L (gM pp);have HE:=L he;have UE:=L (show fJ b par e=((iA b e).1,if (iA b e).2=aV then [lJ par e] else []) from rfl);have FM:=L (rQ b e);obtain⟨me,hme⟩:∃ me,me=b.me:=⟨_,rfl⟩;have ME:=L hme;simp only [<- hme] at h0 h1 h2 h3 FG ⊢;have jg:=L (h0);have Sn:=L (h1);have Sq:=L (h2);have I7:=L (h3);clear h0 h1 h2 h3 h he hf hfp hr pe pp hme;go_enter bV,Tryz.ntmps45;go_upto_region 1 with fail;generalize (((w.alloc (aO #[U X me,J s1 s2 s3,J s4 s5 s6,J s7 s8 s9,J s10 s11 s12,J s13 s14 s15] 30)).alloc (aO #[U X y1,U X y2,U X y3,U X y4,J po pn pc,U X y6,bg y7] 67)).alloc (aO #[U X 0,J Y 0 0,J Y 0 0,J Y 0 0,J Y 0 0,J Y 0 0] 30))=W at *;have SW:=L (FG.out W jg.out);clear FG;have TQ:=L (RC.out W jg.out);have Vh:=L (NO.out.on jg.out);clear RC NO;obtain⟨x0,x1,x2,x3,x4,x5⟩:=Sn.out.gQ;obtain⟨Sr,y_1,y_2,y_3,y_4,y_5,y_6⟩:=Sq.out.zT;go_wp2_with fail;refine SW.out.mono ?_;rintro e1 w1 ⟨⟨⟨m1,m2,m3⟩,⟨m4,m5,m6⟩,⟨m7,m8,m9⟩,⟨m10,m11,m12⟩,⟨m13,m14,m15⟩,rfl,hbr,hno,hbc⟩,hb⟩;clear SW;clear x0 x1 x2 x3 x4 x5 Sr y_1 y_2 y_3 y_4 y_5 y_6;have zL:=L (jg.out.trans (hb.mono jg.out.size));have wS:=L (Sn.out.on hb);have Vi:=L (Sq.out.on hb);have Vj:=L (I7.out.on hb);clear jg Sn Sq I7;generalize hr:(iA b e).2=r at *;have BN:=L (show pE w1 (iA b e).1 (m1,m2,m3) (m4,m5,m6) (m7,m8,m9) (m10,m11,m12) (m13,m14,m15) from ⟨hbr,by rw [FM.out.2.1]; exact (hno Vh.out).elim fun B q=>⟨B,by rw [<- FM.out.2.1]; exact q⟩⟩);have Vk:=L (show (jf w b (s1,s2,s3) (s4,s5,s6) (s7,s8,s9) (s10,s11,s12) (s13,s14,s15)\/r=aV)->jf w1 (iA b e).1 (m1,m2,m3) (m4,m5,m6) (m7,m8,m9) (m10,m11,m12) (m13,m14,m15) from fun h=>hbc (h.imp TQ.out id));clear hbr hno hbc hb hr TQ Vh;rw [show (iA b e).1.me=me from by rw [FM.out.1,ME.out]];obtain⟨k0,k1,k2,k3,k4,k5⟩:=wS.out.gQ;obtain⟨vI,vJ,vK,vL,vM,vN⟩:=wS.out.nS;have zz:=wS.out.lt;have bs:=aj w1 w.heap.size (U X me) (J m1 m2 m3) (J m4 m5 m6) (J m7 m8 m9) (J m10 m11 m12) (J m13 m14 m15);have G0:=L (dD (b:=w.heap.size) zL.out (bf _) (U X me) (J m1 m2 m3) (J m4 m5 m6) (J m7 m8 m9) (J m10 m11 m12) (J m13 m14 m15));have G1:=L (bs.box Vi.out (by omega));have G2:=L (bs.box Vj.out (by omega));have G3:=L (BN.out.keep (s1:=(s1,s2,s3)) (s2:=(s4,s5,s6)) (s3:=(s7,s8,s9)) (s4:=(s10,s11,s12)) (s5:=(s13,s14,s15)) (me:=me) wS.out bs);have G4:=L (fun h=>jf.oh (Vk.out h) bs wS.out (by decide) (by decide) (by decide) (by decide) (by decide) (by decide));have G5:=L (dP wS.out (U X me) (J m1 m2 m3) (J m4 m5 m6) (J m7 m8 m9) (J m10 m11 m12) (J m13 m14 m15));clear bs zL Vi Vj BN Vk wS;go_upto_region 2 with fail;clear zz k0 k1 k2 k3 k4 k5 vI vJ vK vL vM vN;unfold iI at G0 G1 G2 G3 G4 G5;generalize ((((((w1.setCell ⟨w.heap.size,0,Y⟩ (U X me)).setCell ⟨w.heap.size,1,Y⟩ (J m1 m2 m3)).setCell ⟨w.heap.size,2,Y⟩ (J m4 m5 m6)).setCell ⟨w.heap.size,3,Y⟩ (J m7 m8 m9)).setCell ⟨w.heap.size,4,Y⟩ (J m10 m11 m12)).setCell ⟨w.heap.size,5,Y⟩ (J m13 m14 m15))=w2 at *;have lK:=L (G0.out);have YJ:=L (G1.out);have BP:=L (G2.out);have YK:=L (G3.out);have LW:=L (G4.out);have vO:=L (G5.out);clear G0 G1 G2 G3 G4 G5;cases r
 ·have x0:=vO.out.cell 0;have x1:=vO.out.cell 1;have x2:=vO.out.cell 2;have x3:=vO.out.cell 3;have x4:=vO.out.cell 4;have x5:=vO.out.cell 5;simp only [au,aA,aB] at x0 x1 x2 x3 x4 x5;have LZ:=L (fun h=>LW.out (bC h));obtain⟨r0,r1,r2,r3,r4,r5⟩:=BP.out.gQ;obtain⟨Vl,Vm,Vn,Vo,Vp,Vq⟩:=BP.out.nS;have zz:=BP.out.lt;have bs:=aj w2 (w.heap.size+1+1) (U X me) (J m1 m2 m3) (J m4 m5 m6) (J m7 m8 m9) (J m10 m11 m12) (J m13 m14 m15);have GG:=L (dP BP.out (U X me) (J m1 m2 m3) (J m4 m5 m6) (J m7 m8 m9) (J m10 m11 m12) (J m13 m14 m15));have BL:=L (dD (b:=w.heap.size+1+1) lK.out (by omega) (U X me) (J m1 m2 m3) (J m4 m5 m6) (J m7 m8 m9) (J m10 m11 m12) (J m13 m14 m15));have HB:=L (YK.out.keep (s1:=(Y,0,0)) (s2:=(Y,0,0)) (s3:=(Y,0,0)) (s4:=(Y,0,0)) (s5:=(Y,0,0)) (me:=0) BP.out bs);have HB2:=L (fun h=>jf.oh (LZ.out h) bs BP.out (by decide) (by decide) (by decide) (by decide) (by decide) (by decide));clear bs;go_wp2_with fail;obtain⟨v0,v1,v2,v3,v4,v5⟩:=GG.out.gQ;refine bodyPost_ret (v:=.tuple #[aL #[U X me,J m1 m2 m3,J m4 m5 m6,J m7 m8 m9,J m10 m11 m12,J m13 m14 m15],J Y 0 0]) (by simp [results,bP,go_sem,v0,v1,v2,v3,v4,v5]) rfl ?_;rw [UE.out,if_neg (by simp)];exact⟨⟨(m1,m2,m3),(m4,m5,m6),(m7,m8,m9),(m10,m11,m12),(m13,m14,m15),(Y,0,0),[],by rw [FM.out.1,ME.out],HB.out,HB2.out,nJ.nil _ _⟩,BL.out⟩
 ·have BC:=L (LW.out (ak rfl));go_upto_region 4 with fail;refine en4 _ w2 w.heap.size (w.heap.size+1) (w.heap.size+1+1) me m1 m2 m3 m4 m5 m6 m7 m8 m9 m10 m11 m12 m13 m14 m15 par y1 y2 y3 y4 po pn pc y6 y7 e.p _ _ _ _ _ _ _ _ _ _ _ _ _ _ _ _ _ _ _ _ _ _ _ _ _ _ vO.out YJ.out BP.out (by omega) (by omega) (HE.out.2.2.2.2.on lK.out) LP.out ?_;intro a y s ra rc hd h6 h7 hbx hst hou hoc;have HC:=L (BC.out.oh hst.1 BP.out (by decide) (by decide) (by decide) (by decide) (by decide) (by decide));have BL:=L (lK.out.trans (hst.2 w.heap.size (by omega)));have HO:=L (show nJ y w.heap.size (J ra 1 rc) [(par,3,y1,y2,y3,y4,s,(Y,0,0))] [lJ par e] from ⟨dH hou lK.out.size,.cons ⟨rfl,rfl,HE.out.1,HE.out.2.1,dH hoc lK.out.size,rfl⟩ .nil⟩);obtain⟨v0,v1,v2,v3,v4,v5⟩:=hbx.gQ;simp only [Exit.then]
  apply_assumption
  go_wp2_with fail;refine bodyPost_ret (v:=.tuple #[aL #[U X me,J m1 m2 m3,J m4 m5 m6,J m7 m8 m9,J m10 m11 m12,J m13 m14 m15],J ra 1 rc]) (by simp [results,bP,go_sem,h6,h7,v0,v1,v2,v3,v4,v5]) hd ?_;rw [UE.out];simp only [if_true];exact⟨⟨(m1,m2,m3),(m4,m5,m6),(m7,m8,m9),(m10,m11,m12),(m13,m14,m15),(ra,1,rc),_,by rw [FM.out.1,ME.out],⟨HC.out.br,HC.out.no⟩,fun _=>HC.out,HO.out⟩,BL.out⟩
theorem Sv {V wr:aI} {B:Nat} {v:aW} {p:List C5} (h:PM (vw V) B wr v p):gq wr v p:=h.elim zi Row.dB
theorem OQ (b:Br) (t x:dO) (f:Int) (h:b.ent.length<=900):(takeB b t x f).2.1.length<=900:=aM (oV b t x f).2 h
theorem I8 {l:List En} {k:Nat} {e:En} (par:Int) (h:l[k]?=O e):(l.take (k+1)).map (lJ par)=(l.take k).map (lJ par)++[lJ par e]:=by
 rw [bK,h,bM]
 rfl
theorem I9 (b:Br) (s1:Option ay) (s2 s3:Nat) (s4:Option ay) (s5 s6:Nat) (s7:Option ay) (s8 s9:Nat) (s10:Option ay) (s11 s12:Nat) (s13:Option ay) (s14 s15:Nat) (par t1 t2 x1 x2 f:Int) (w:aI) (h:pE w b (s1,s2,s3) (s4,s5,s6) (s7,s8,s9) (s10,s11,s12) (s13,s14,s15)) (hf:zh b) (hfp:mE b) (hr:fV b.ent) (pe:∀ e∈b.ent,dU e.p) :
  cK aR 48 #[aL #[U X b.me,J s1 s2 s3,J s4 s5 s6,J s7 s8 s9,J s10 s11 s12,J s13 s14 s15],U X par,aL #[U X t1,U X t2],aL #[U X x1,U X x2],U X f] w (Vg w (jf w b (s1,s2,s3) (s4,s5,s6) (s7,s8,s9) (s10,s11,s12) (s13,s14,s15)) (lX b par (t1,t2) (x1,x2) f)):=by
 obtain⟨h0,h1,h2,h3,h4⟩:=uR w #[U X b.me,J s1 s2 s3,J s4 s5 s6,J s7 s8 s9,J s10 s11 s12,J s13 s14 s15] #[U X t1,U X t2] #[U X x1,U X x2] #[U X 0,J Y 0 0,J Y 0 0,J Y 0 0,J Y 0 0,J Y 0 0] 30 23 23 30;have FG:=L (fun W hb=>IQ b (s1,s2,s3) (s4,s5,s6) (s7,s8,s9) (s10,s11,s12) (s13,s14,s15) (t1,t2) (x1,x2) f W (h.br.on (show Below w.heap.size w W from hb)) hf hfp hr pe);have NO:=L h.no;have RC:=L (show ∀ W,Below w.heap.size w W->jf w b (s1,s2,s3) (s4,s5,s6) (s7,s8,s9) (s10,s11,s12) (s13,s14,s15)->jf W b (s1,s2,s3) (s4,s5,s6) (s7,s8,s9) (s10,s11,s12) (s13,s14,s15) from fun W hb hc=>hc.on hb);have UE:=L (show lX b par (t1,t2) (x1,x2) f=((takeB b (t1,t2) (x1,x2) f).1,if (takeB b (t1,t2) (x1,x2) f).2.2=aV then (takeB b (t1,t2) (x1,x2) f).2.1.map (lJ par)++[⟨par,4,(t1,t2),(x1,x2),[]⟩] else []) from rfl);have FM:=L (rW b (t1,t2) (x1,x2) f);have UL:=L (OQ b (t1,t2) (x1,x2) f hf.ent);have UP:=L (show ∀ e∈(takeB b (t1,t2) (x1,x2) f).2.1,dU e.p from (rX (t1,t2) (x1,x2) f (fun e=>dU e.p) (fun _ _ q=>q) pe).2);obtain⟨me,hme⟩:∃ me,me=b.me:=⟨_,rfl⟩;have ME:=L hme;simp only [<- hme] at h0 h1 h2 h3 h4 FG ⊢;have jg:=L (h0);have Sw:=L (h1);have Sy:=L (h2);have I7:=L (h3);have P7:=L (h4);clear h0 h1 h2 h3 h4 h hf hfp hr pe hme;go_enter Tryz.func48,Tryz.ntmps48;go_upto_region 1 with fail;generalize hW0:((((w.alloc (aO #[U X me,J s1 s2 s3,J s4 s5 s6,J s7 s8 s9,J s10 s11 s12,J s13 s14 s15] 30)).alloc (aO #[U X t1,U X t2] 23)).alloc (aO #[U X x1,U X x2] 23)).alloc (aO #[U X 0,J Y 0 0,J Y 0 0,J Y 0 0,J Y 0 0,J Y 0 0] 30))=W at *;clear hW0;have SW:=L (FG.out W jg.out);clear FG;have TQ:=L (RC.out W jg.out);have Vh:=L (NO.out.on jg.out);clear RC NO;obtain⟨x0,x1,x2,x3,x4,x5⟩:=Sw.out.gQ;obtain⟨Sr,y_1⟩:=Sy.out.cs2;obtain⟨z_0,z_1⟩:=I7.out.cs2;go_wp2_with fail;refine SW.out.mono ?_;rintro e1 w1 ⟨⟨⟨m1,m2,m3⟩,⟨m4,m5,m6⟩,⟨m7,m8,m9⟩,⟨m10,m11,m12⟩,⟨m13,m14,m15⟩,⟨g1,g2,g3⟩,lu,rfl,hbr,YL,Xu,hno,hbc,P8,⟨V0,YM⟩⟩,hb⟩;clear SW;clear x0 x1 x2 x3 x4 x5 Sr y_1 z_0 z_1;have lK:=L (jg.out.trans (hb.mono jg.out.size));have zM:=L (Sw.out.on hb);have Vr:=L (Sy.out.on hb);have Vs:=L (I7.out.on hb);have L8:=L (P7.out.on hb);clear jg Sw Sy I7 P7;have UN:=L (show lu.length=(takeB b (t1,t2) (x1,x2) f).2.1.length from Xu.len);have UG:=L (show lu.length=g2 from gL YL);obtain⟨ups,Vt⟩:∃ l,l=(takeB b (t1,t2) (x1,x2) f).2.1:=⟨_,rfl⟩;rw [<- Vt] at Xu UN UL UP UE YM;clear Vt;generalize hr:(takeB b (t1,t2) (x1,x2) f).2.2=r at *;have BN:=L (show pE w1 (takeB b (t1,t2) (x1,x2) f).1 (m1,m2,m3) (m4,m5,m6) (m7,m8,m9) (m10,m11,m12) (m13,m14,m15) from ⟨hbr,hno Vh.out⟩);have Vk:=L (show (jf w b (s1,s2,s3) (s4,s5,s6) (s7,s8,s9) (s10,s11,s12) (s13,s14,s15)\/r=aV)->jf w1 (takeB b (t1,t2) (x1,x2) f).1 (m1,m2,m3) (m4,m5,m6) (m7,m8,m9) (m10,m11,m12) (m13,m14,m15) from fun h=>hbc (h.imp TQ.out id));have RU:=L YL;have AU:=L Xu;clear hbr hno hbc hb hr TQ Vh YL Xu;rw [show (takeB b (t1,t2) (x1,x2) f).1.me=me from by rw [FM.out.2.2.1,ME.out]];have HW1:=L (show w.heap.size+1+1+1+1<=w1.heap.size from L8.out.lt);have OV:=L P8;have AV:=L (show eG (nC (vw V0) W.heap.size w1) lu ups from YM);clear P8 YM;obtain⟨k0,k1,k2,k3,k4,k5⟩:=zM.out.gQ;obtain⟨vI,vJ,vK,vL,vM,vN⟩:=zM.out.nS;have zz:=zM.out.lt;have bs:=aj w1 w.heap.size (U X me) (J m1 m2 m3) (J m4 m5 m6) (J m7 m8 m9) (J m10 m11 m12) (J m13 m14 m15);have G0:=L (dD (b:=w.heap.size) lK.out (bf _) (U X me) (J m1 m2 m3) (J m4 m5 m6) (J m7 m8 m9) (J m10 m11 m12) (J m13 m14 m15));have G1:=L (bs.box Vr.out (by omega));have G2:=L (bs.box Vs.out (by omega));have G3:=L (bs.box L8.out (by omega));have G4:=L (BN.out.keep (s1:=(s1,s2,s3)) (s2:=(s4,s5,s6)) (s3:=(s7,s8,s9)) (s4:=(s10,s11,s12)) (s5:=(s13,s14,s15)) (me:=me) zM.out bs);have G5:=L (fun h=>jf.oh (Vk.out h) bs zM.out (by decide) (by decide) (by decide) (by decide) (by decide) (by decide));have G6:=L (bs.own OV.out zM.out (by decide));have G7:=L (AV.out.mono fun _ _ q=>q.but bs zM.out (by decide));have G8:=L (dP zM.out (U X me) (J m1 m2 m3) (J m4 m5 m6) (J m7 m8 m9) (J m10 m11 m12) (J m13 m14 m15));clear bs lK Vr Vs L8 BN Vk OV AV zM;go_upto_region 2 with fail;clear zz k0 k1 k2 k3 k4 k5 vI vJ vK vL vM vN;unfold iI at G0 G1 G2 G3 G4 G5 G6 G7 G8;generalize ((((((w1.setCell ⟨w.heap.size,0,Y⟩ (U X me)).setCell ⟨w.heap.size,1,Y⟩ (J m1 m2 m3)).setCell ⟨w.heap.size,2,Y⟩ (J m4 m5 m6)).setCell ⟨w.heap.size,3,Y⟩ (J m7 m8 m9)).setCell ⟨w.heap.size,4,Y⟩ (J m10 m11 m12)).setCell ⟨w.heap.size,5,Y⟩ (J m13 m14 m15))=w2 at *;have zN:=L (G0.out);have Vu:=L (G1.out);have Vv:=L (G2.out);have nK:=L (G3.out);have P9:=L (G4.out);have Ej:=L (G5.out);have Qa:=L (G6.out);have Qb:=L (G7.out);have sU:=L (G8.out);clear G0 G1 G2 G3 G4 G5 G6 G7 G8;cases r
 ·have x0:=sU.out.cell 0;have x1:=sU.out.cell 1;have x2:=sU.out.cell 2;have x3:=sU.out.cell 3;have x4:=sU.out.cell 4;have x5:=sU.out.cell 5;simp only [au,aA,aB] at x0 x1 x2 x3 x4 x5;have LZ:=L (fun h=>Ej.out (bC h));obtain⟨r0,r1,r2,r3,r4,r5⟩:=nK.out.gQ;obtain⟨Vl,Vm,Vn,Vo,Vp,Vq⟩:=nK.out.nS;have zz:=nK.out.lt;have bs:=aj w2 (w.heap.size+1+1+1) (U X me) (J m1 m2 m3) (J m4 m5 m6) (J m7 m8 m9) (J m10 m11 m12) (J m13 m14 m15);have GG:=L (dP nK.out (U X me) (J m1 m2 m3) (J m4 m5 m6) (J m7 m8 m9) (J m10 m11 m12) (J m13 m14 m15));have BL:=L (dD (b:=w.heap.size+1+1+1) zN.out (by omega) (U X me) (J m1 m2 m3) (J m4 m5 m6) (J m7 m8 m9) (J m10 m11 m12) (J m13 m14 m15));have HB:=L (P9.out.keep (s1:=(Y,0,0)) (s2:=(Y,0,0)) (s3:=(Y,0,0)) (s4:=(Y,0,0)) (s5:=(Y,0,0)) (me:=0) nK.out bs);have HB2:=L (fun h=>jf.oh (LZ.out h) bs nK.out (by decide) (by decide) (by decide) (by decide) (by decide) (by decide));clear bs;go_wp2_with fail;obtain⟨v0,v1,v2,v3,v4,v5⟩:=GG.out.gQ;refine bodyPost_ret (v:=.tuple #[aL #[U X me,J m1 m2 m3,J m4 m5 m6,J m7 m8 m9,J m10 m11 m12,J m13 m14 m15],J Y 0 0]) (by simp [results,bR,go_sem,v0,v1,v2,v3,v4,v5]) rfl ?_;rw [UE.out,if_neg (by simp)];exact⟨⟨(m1,m2,m3),(m4,m5,m6),(m7,m8,m9),(m10,m11,m12),(m13,m14,m15),(Y,0,0),[],by rw [FM.out.2.2.1,ME.out],HB.out,HB2.out,nJ.nil _ _⟩,BL.out⟩
 ·have BC:=L (Ej.out (ak rfl));clear Ej P9;obtain rfl:lu.length=g2:=UG.out;clear UG;generalize hg2:lu.length=g2 at *;have G2:=L hg2;clear hg2;go_wp2_with fail;have HW2:=L (show w.heap.size+1+1+1+1<=w2.heap.size from nK.out.lt)
  go_loopw [14,31] (fun v i wr=>∃ (k:Nat) (lx:List nP),k<=g2/\i=U X k/\Below w.heap.size w wr/\dx wr w.heap.size #[U X me,J m1 m2 m3,J m4 m5 m6,J m7 m8 m9,J m10 m11 m12,J m13 m14 m15] 30/\dx wr (w.heap.size+1) #[U X t1,U X t2] 23/\dx wr (w.heap.size+1+1) #[U X x1,U X x2] 23/\dx wr (w.heap.size+1+1+1) #[U X 0,J Y 0 0,J Y 0 0,J Y 0 0,J Y 0 0,J Y 0 0] 30/\jf wr (takeB b (t1,t2) (x1,x2) f).1 (m1,m2,m3) (m4,m5,m6) (m7,m8,m9) (m10,m11,m12) (m13,m14,m15)/\jy wr W.heap.size (dN (g1,g2,g3)) lu/\eG (nC (vw V0) W.heap.size wr) lu ups/\nJ wr w.heap.size v lx ((ups.take k).map (lJ par))/\w2.heap.size<=wr.heap.size) (fun _ i _=>g2-(intOf i).toNat)
  case atStart=>exact⟨0,[],Nat.zero_le _,rfl,zN.out,sU.out,Vu.out,Vv.out,nK.out,BC.out,Qa.out,Qb.out,nJ.nil _ _,bf _⟩
  case round =>
   clear zN sU Vu Vv nK BC Qa Qb;obtain⟨k,lx,hk,rfl,hgb,hx5,hx7,Z6,Vw,hbc,hov,Z7,hou,hsz⟩:=hrel;have lg:=L (hgb);have L9:=L (hx5);have Ma:=L (hx7);have Mc:=L (Z6);have El:=L (Vw);have Md:=L (hbc);have Me:=L (hov);have Mf:=L (Z7);have mJ:=L (hou);have HSZ:=L hsz;clear hgb hx5 hx7 Z6 Vw hbc hov Z7 hou hsz;by_cases hlt:k<g2
   ·have hlt':(k:Int)<(g2:Int):=by omega
    have hw:IntKind.i64.wrap ((k:Int)+1)=(k:Int)+1:=IntWalk.i64_in _ (by have:=UL.out; have:=UN.out; have:=G2.out; omega);obtain⟨e,he⟩:∃ e,ups[k]?=O e:=⟨_,bG (by rw [<- UN.out]; exact hlt)⟩;have US:=L (I8 par he);have PE:=L (UP.out e (aQ he));obtain⟨z,hz1,hz2⟩:=Mf.out.at k e he;obtain⟨pq,ix,px⟩:=Tx (Row.dB Me.out) rfl G2.out hz1;obtain⟨p0,p1,p2,p3,p4,p5,p6⟩:=px wr (aC _ _);obtain⟨y1,y2,y3,y4,⟨yo,yn,yc⟩,y6,y7⟩:=z;have ZT:=L (show (y1,y2)=e.tree from hz2.1);have ZS:=L (show (y3,y4)=e.sub from hz2.2.1);have PO:=L (show gq wr (J yo yn yc) e.p from Sv hz2.2.2.2.2);simp only at p0 p1 p2 p3 p4 p5 p6;clear px hz1 hz2 he;go_upto_region 8 with fail;clear p0 p1 p2 p3 p4 p5 p6 ix;have NN:=iM wr (aO #[U X y1,U X y2,U X y3,U X y4,J yo yn yc,U X y6,bg y7] 67);have jd:=L (lg.out.trans (NN.mono lg.out.size));have Qc:=L (L9.out.on NN);have Qd:=L (Ma.out.on NN);have Qe:=L (Mc.out.on NN);have Mg:=L (El.out.on NN);have sV:=L (Md.out.on NN);have Qf:=L (Bk.dI Me.out NN);have Qg:=L (Mf.out.mono fun _ _ q=>q.grow NN);have sW:=L (mJ.out.on NN);have Qh:=L (PO.out.on NN);clear lg L9 Ma Mc El Md Me Mf mJ PO;have Mh:=L (dK wr #[U X y1,U X y2,U X y3,U X y4,J yo yn yc,U X y6,bg y7] 67);clear NN;have HS2:=L (show w2.heap.size<=(wr.alloc (aO #[U X y1,U X y2,U X y3,U X y4,J yo yn yc,U X y6,bg y7] 67)).heap.size from by have:=HSZ.out; simp; omega);generalize wr.alloc (aO #[U X y1,U X y2,U X y3,U X y4,J yo yn yc,U X y6,bg y7] 67)=wa at *;generalize wr.heap.size=bE at *;have SB:=L (yj (y1,y2,y3,y4,(yo,yn,yc),y6,y7) e.p wa Qh.out (gM PE.out));obtain⟨e_0,e_1,e_2,e_3,e_4,e_5,e_6⟩:=Mh.out.zT;go_wp2_with fail;refine SB.out.mono ?_;rintro e5 wb ⟨⟨⟨q1,q2,q3⟩,rfl,hoc⟩,hb⟩;clear SB;clear e_0 e_1 e_2 e_3 e_4 e_5 e_6;clear Qh;have kr:=L (jd.out.trans (hb.mono jd.out.size));have Vx:=L (Qc.out.on hb);have Vy:=L (Qd.out.on hb);have Vz:=L (Qe.out.on hb);have Sz:=L (Mg.out.on hb);have sZ:=L (sV.out.on hb);have VA:=L (Bk.dI Qf.out hb);have VB:=L (Qg.out.mono fun _ _ q=>q.grow hb);have tq:=L (sW.out.on hb);have Z8:=L (Mh.out.on hb);clear jd Qc Qd Qe Mg sV Qf Qg sW Mh;have HS3:=L (aM HS2.out hb.size);have OC:=L (dH hoc (show w.heap.size<=wa.heap.size from by have:=HW1.out; have:=HS2.out; have:=HW2.out; omega));clear hoc hb HS2;have F7:=iM wb (aO (jL (par,3,y1,y2,y3,y4,(q1,q2,q3),(Y,0,0))).toArray 46);have hl:=mX Nw wb [((par,3,y1,y2,y3,y4,(q1,q2,q3),(Y,0,0)):nP)] 1 rfl (by simp) (jL (par,3,y1,y2,y3,y4,(q1,q2,q3),(Y,0,0))).toArray (by simp [flat,EU]);have Mi:=tq.out.on F7;have Z9:=Bk.dI OC.out F7;obtain⟨v',x,hrun,ho,gr⟩:=jO Nw w.heap.size Mi.row (Row.dB hl) (by rw [Mi.len,bO,bH]; have h1:=UL.out; omega) (by simp) (kr.out.trans (F7.mono kr.out.size)).size 37;have hp:=Mi.more gr ho (m:=[⟨par,3,(y1,y2),(y3,y4),e.p⟩]) (.cons (show OG _ _ _ _ from ⟨rfl,rfl,rfl,rfl,Z9,rfl⟩) .nil);have V0_:=L ((kr.out.trans (F7.mono kr.out.size)).grown gr (kr.out.trans (F7.mono kr.out.size)).size (fun j hj=>(Mi.row.lt j hj).1));have V1_:=L (iQ Mi.row gr (Vx.out.on F7) (by decide));have V2_:=L (iQ Mi.row gr (Vy.out.on F7) (by decide));have V3_:=L (iQ Mi.row gr (Vz.out.on F7) (by decide));have V4_:=L (iQ Mi.row gr (Sz.out.on F7) (by decide));have TG:=gI Mi.row;have hoff:Off _ (wb.alloc (aO (jL (par,3,y1,y2,y3,y4,(q1,q2,q3),(Y,0,0))).toArray 46)) x:=⟨fun j hj hne=>gr.block j hj hne,gr.size⟩;have V5_:=L (jf.app Mi.row gr (sZ.out.on F7));have V6_:=L (hoff.own (Bk.dI VA.out F7) TG (by decide));have V7_:=L (VB.out.mono fun _ _ q=>(q.grow F7).off hoff TG (by decide));have V8_:=L hp;have V9_:=L (aM HS3.out (aM F7.size hoff.2));have hrun:(Builtin.append_ #[37,37] 37 #[_,J (O ⟨wb.heap.size,0,Y⟩) 1 1]).run aR (wb.alloc (aO (jL (par,3,y1,y2,y3,y4,(q1,q2,q3),(Y,0,0))).toArray 46))=.ok v' x:=hrun;clear hl Mi Z9 ho gr hp hoff TG F7;go_wp2_with (first | (at_builtin; refine wpList_append_run rfl _ _ 37 rfl rfl rfl hrun ?_) | fail)
    go_roundw
    case rel=>exact⟨k+1,_,hlt,by go_num,V0_.out,V1_.out,V2_.out,V3_.out,V4_.out,V5_.out,V6_.out,V7_.out,by rw [US.out,show lJ par e=⟨par,3,(y1,y2),(y3,y4),e.p⟩ from by unfold lJ; rw [ZT.out,ZS.out]]; exact V8_.out,V9_.out⟩
    case measure=>simp [intOf]; omega
   ·obtain rfl:k=g2:=by omega
    have OE:=L (show nJ wr w.heap.size _ lx (ups.map (lJ par)) from by have h:=mJ.out; rw [List.take_of_length_le (by rw [<- UN.out]; exact bf _)] at h; exact h);go_upto_region 10 with fail;refine YA _ wr w.heap.size (w.heap.size+1) (w.heap.size+1+1) (w.heap.size+1+1+1) w.heap.size me m1 m2 m3 m4 m5 m6 m7 m8 m9 m10 m11 m12 m13 m14 m15 par t1 t2 x1 x2 _ lx (ups.map (lJ par)) (takeB b (t1,t2) (x1,x2) f).1 _ _ _ _ _ _ _ _ _ _ _ _ _ _ _ _ _ _ _ _ _ _ _ _ _ _ _ _ _ _ _ _ _ _ _ _ _ _ _ _ _ _ _ _ _ _ _ _ _ _ _ _ L9.out Ma.out Mc.out El.out (by omega) (by omega) (by omega) OE.out lg.out.size (by rw [OE.out.len,bO]; exact UL.out) Md.out (by omega) ?_;intro a y ly ra rc hd h6 h7 hbx hbl hbc hou;have BL:=L (lg.out.trans hbl);have HC:=L hbc;have HO:=L hou;obtain⟨v0,v1,v2,v3,v4,v5⟩:=hbx.gQ;simp only [Exit.then]
    apply_assumption
    go_wp2_with fail;refine bodyPost_ret (v:=.tuple #[aL #[U X me,J m1 m2 m3,J m4 m5 m6,J m7 m8 m9,J m10 m11 m12,J m13 m14 m15],J ra ly.length rc]) (by simp [results,bR,go_sem,h6,h7,v0,v1,v2,v3,v4,v5]) hd ?_;rw [UE.out];simp only [if_true];exact⟨⟨(m1,m2,m3),(m4,m5,m6),(m7,m8,m9),(m10,m11,m12),(m13,m14,m15),(ra,ly.length,rc),ly,by rw [FM.out.2.2.1,ME.out],⟨HC.out.br,HC.out.no⟩,fun _=>HC.out,HO.out⟩,BL.out⟩
theorem F8 {w0 wr x:aI} {B:Nat} {b:Br} {nv av sv ev ov Rv:Sl} {ol:List Ow} (h:Cp w0 B wr b nv av sv ev ov) (hb:Off (dN ov).ownBlock wr x) (hx:∃ l,nW x B (dN Rv) l/\eG (Dm w0 B x) l ol):Cp w0 B x { b with own:=ol } nv av sv ev Rv:=by
 obtain⟨l0,hl0,_⟩:=h.own;have hg:=gI hl0;exact {
  near:=hb.own h.near hg (by decide)
  seen:=hb.own h.seen hg (by decide)
  dG:=by obtain⟨l,h1,h2⟩:=h.dG; exact⟨l,hb.own h1 hg (by decide),h2.mono fun _ _ h=>h.off hb hg (by decide)⟩
  ent:=by obtain⟨l,h1,h2⟩:=h.ent; exact⟨l,hb.own h1 hg (by decide),h2.mono fun _ _ h=>h.off hb hg (by decide)⟩
  own:=hx }
def YN (_B:Nat) (b3 _b4 n k:Nat) (w0:aI) (b:Br) (v1:Option ay) (v2 v3:Nat) (v4:Option ay) (v5 v6:Nat) (v7:Option ay) (v8 v9:Nat) (v10:Option ay) (v11 v12:Nat) (v13:Option ay) (v14 v15:Nat) (x1 x2:Int) (po:Option ay) (pn pc:Nat) (p:List C5) (i:Nat) (v:aW) (x:aI):Prop :=
 match i with
 | 0=>v=Z (O ⟨b3,5,Y⟩)
 | 1=>v=J v13 v14 v15
 | 2=>v=U X k
 | 3=>v=aL #[U X x1,U X x2]
 | 4=>v=J po pn pc
 | 5=>∃ s:Sl,v=dN s/\ig x _B (dN s) p
 | 6=>∃ s:Sl,v=JI (x1,x2,s)/\ig x _B (dN s) p
 | 7=>∃ (s:Sl) (g:Nat),v=J (O ⟨g,0,Y⟩) 1 1/\_B<=g/\dx x g (je (x1,x2,s)).toArray 88/\ig x _B (dN s) p
 | 8=>∃ s:Sl,v=dN s/\Cp (vw w0) n x (ownIn b (x1,x2) p) (v1,v2,v3) (v4,v5,v6) (v7,v8,v9) (v10,v11,v12) s
 | 9=>v=Z (O ⟨b3,5,Y⟩)
 | 10=>True
 | _=>True
def Mj (W:aI) (b3 _b4 n _k:Nat) (w0:aI) (b:Br) (v1:Option ay) (v2 v3:Nat) (v4:Option ay) (v5 v6:Nat) (v7:Option ay) (v8 v9:Nat) (v10:Option ay) (v11 v12:Nat) (v13:Option ay) (v14 v15:Nat) (x1 x2:Int) (_po:Option ay) (_pn _pc:Nat) (p:List C5) (D:Nat->Prop) (x:aI):Prop:=(¬ D 8->Below W.heap.size W x)/\(D 8->¬ D 10->Below n W x/\Off (dN (v13,v14,v15)).ownBlock W x)/\(D 10->Below n W x/\(∀ (g:Nat) (cs:Array aW) (t:TypeId),(t == 88)=aF->g≠b3->dx W g cs t->dx x g cs t)/\∃ s:Sl,dx x b3 #[U X b.me,J v1 v2 v3,J v4 v5 v6,J v7 v8 v9,J v10 v11 v12,dN s] 30/\Cp (vw w0) n x (ownIn b (x1,x2) p) (v1,v2,v3) (v4,v5,v6) (v7,v8,v9) (v10,v11,v12) s)
noncomputable def VD:Code:=((Tryz.f10.body.bind (eP 5)).getD .skip)
theorem su5 (Q:Exit->Act->aI->Prop) (W:aI) (b3 b4 n k:Nat) (w0:aI) (b:Br) (v1:Option ay) (v2 v3:Nat) (v4:Option ay) (v5 v6:Nat) (v7:Option ay) (v8 v9:Nat) (v10:Option ay) (v11 v12:Nat) (v13:Option ay) (v14 v15:Nat) (x1 x2:Int) (po:Option ay) (pn pc:Nat) (p:List C5) (u0 u1 u5 u6 u7 u9 u10 u11 u12 u13 u14 u15 u16 u17 u18 u19 u20 u21 u22 u23 u24 u25 u26 u27 u28 u29 u30 u31 u32 u33 u34 u35 u36 u37 u38 u39 u40 u41 u42 u43 u44 u45 u46 u47 u48 u49 u50 u51 u52 u53 u54 u55 u56 u57 u58 u59 u60 u61 u62 u63:aW)
  (h3:dx W b3 #[U X b.me,J v1 v2 v3,J v4 v5 v6,J v7 v8 v9,J v10 v11 v12,J v13 v14 v15] 30) (h4:dx W b4 #[U X x1,U X x2] 23) (cph:Cp (vw w0) n W b (v1,v2,v3) (v4,v5,v6) (v7,v8,v9) (v10,v11,v12) (v13,v14,v15)) (kk:gF (b.own.map aP) (x1,x2)=k) (kl:k<=b.own.length) (lo:b.own.length<=900) (hn:n<=W.heap.size) (nb:n<=b3) (hp:gq W (J po pn pc) p) (lp:p.length<=900)
  (hQ:∀ (x:aI) (s:Sl) (q25 q26 q27 q28 q29 q30 q31 q32 q33 q34:aW),Below n W x->(∀ (g:Nat) (cs:Array aW) (t:TypeId),(t == 88)=aF->g≠b3->dx W g cs t->dx x g cs t)->dx x b3 #[U X b.me,J v1 v2 v3,J v4 v5 v6,J v7 v8 v9,J v10 v11 v12,dN s] 30->Cp (vw w0) n x (ownIn b (x1,x2) p) (v1,v2,v3) (v4,v5,v6) (v7,v8,v9) (v10,v11,v12) s->Q .normal ⟨(u0::u1::J po pn pc::Z (O ⟨b3,0,Y⟩)::Z (O ⟨b4,0,Y⟩)::u5::u6::u7::U X k::u9::u10::u11::u12::u13::u14::u15::u16::u17::u18::u19::u20::u21::u22::u23::u24::q25::q26::q27::q28::q29::q30::q31::q32::q33::q34::u35::u36::u37::u38::u39::u40::u41::u42::u43::u44::u45::u46::u47::u48::u49::u50::u51::u52::u53::u54::u55::u56::u57::u58::u59::u60::u61::u62::u63::[]).toArray,[]⟩ x) :
  Code.wp aR VD Q ⟨(u0::u1::J po pn pc::Z (O ⟨b3,0,Y⟩)::Z (O ⟨b4,0,Y⟩)::u5::u6::u7::U X k::u9::u10::u11::u12::u13::u14::u15::u16::u17::u18::u19::u20::u21::u22::u23::u24::u25::u26::u27::u28::u29::u30::u31::u32::u33::u34::u35::u36::u37::u38::u39::u40::u41::u42::u43::u44::u45::u46::u47::u48::u49::u50::u51::u52::u53::u54::u55::u56::u57::u58::u59::u60::u61::u62::u63::[]).toArray,[]⟩ W:=by
 have HQ:=L hQ;have H3:=L h3;have H4:=L h4;have OX:=L cph;have KK:=L kk;have KL:=L kl;have LO:=L lo;have HN:=L hn;have NB:=L nb;have HP:=L hp;have LP:=L lp;clear hQ h3 h4 cph kk kl lo hn nb hp lp;have YH:∀ D x,Mj W b3 b4 n k w0 b v1 v2 v3 v4 v5 v6 v7 v8 v9 v10 v11 v12 v13 v14 v15 x1 x2 po pn pc p D x->¬ D 8->dx x b3 #[U X b.me,J v1 v2 v3,J v4 v5 v6,J v7 v8 v9,J v10 v11 v12,J v13 v14 v15] 30:=fun D x hF n8=>H3.out.on (hF.1 n8);have bx4:∀ D x,Mj W b3 b4 n k w0 b v1 v2 v3 v4 v5 v6 v7 v8 v9 v10 v11 v12 v13 v14 v15 x1 x2 po pn pc p D x->¬ D 8->dx x b4 #[U X x1,U X x2] 23:=fun D x hF n8=>H4.out.on (hF.1 n8);unfold VD
 conv=>arg 2; whnf
 have nd:∀ j,(∀ i,i<11->[O 25,O 26,O 27,O 28,O 29,O 30,O 31,O 32,O 33,O 34,Y].getD i Y≠O j)->∀ i,i<11->(fun i=>[O 25,O 26,O 27,O 28,O 29,O 30,O 31,O 32,O 33,O 34,Y].getD i Y) i≠O j:=fun j h=>h;refine cO 11 (fun i=>[O 25,O 26,O 27,O 28,O 29,O 30,O 31,O 32,O 33,O 34,Y].getD i Y) (fun i=>if i=5 then 6 else if i=6 then 7 else if i=7 then 8 else 11) (YN W.heap.size b3 b4 n k w0 b v1 v2 v3 v4 v5 v6 v7 v8 v9 v10 v11 v12 v13 v14 v15 x1 x2 po pn pc p) (Mj W b3 b4 n k w0 b v1 v2 v3 v4 v5 v6 v7 v8 v9 v10 v11 v12 v13 v14 v15 x1 x2 po pn pc p) (by kernel_rfl) (by kernel_rfl) rfl (fun i j e hi hj h1 h2=>(by decide:∀ i,i<11->∀ j,j<11->([O 25,O 26,O 27,O 28,O 29,O 30,O 31,O 32,O 33,O 34,Y].getD i Y).isSome=aV->[O 25,O 26,O 27,O 28,O 29,O 30,O 31,O 32,O 33,O 34,Y].getD i Y=[O 25,O 26,O 27,O 28,O 29,O 30,O 31,O 32,O 33,O 34,Y].getD j Y->i=j) i hi j hj (by have h1:[O 25,O 26,O 27,O 28,O 29,O 30,O 31,O 32,O 33,O 34,Y].getD i Y=O e:=h1; rw [h1]; rfl) (h1.trans h2.symm)) (fun i e hi h=>(by decide:∀ i,i<11->∀ q∈[O 25,O 26,O 27,O 28,O 29,O 30,O 31,O 32,O 33,O 34,Y].getD i Y,q<64) i hi e h) (⟨fun _=>(aC _ _).drew,fun h=>h.elim,fun h=>h.elim⟩) ?_ ?_
 ·intro i o hi ho a x D hnd hc hD hF seen K hK;clear HQ;have still:∀ i,i≠5/\i≠7/\i≠8/\i≠10->Mj W b3 b4 n k w0 b v1 v2 v3 v4 v5 v6 v7 v8 v9 v10 v11 v12 v13 v14 v15 x1 x2 po pn pc p (fun j=>j=i\/D j) x:=fun i hns=>⟨fun h=>hF.1 fun h2=>h (ak h2),fun h1 h2=>hF.2.1 (h1.resolve_left (Ne.symm hns.2.2.1)) fun h3=>h2 (ak h3),fun h=>hF.2.2 (h.resolve_left (Ne.symm hns.2.2.2))⟩;rcases (by omega:i=0\/i=1\/i=2\/i=3\/i=4\/i=5\/i=6\/i=7\/i=8\/i=9\/i=10) with rfl|rfl|rfl|rfl|rfl|rfl|rfl|rfl|rfl|rfl|rfl
  ·cases ho;have e3:a.eval (ah 3)=Z (O ⟨b3,0,Y⟩):=seen.kp 3 _ (nd 3 (by decide)) rfl;exact aG rfl rfl (bX a.eval _ 30 (ah 3) 5 rfl (by rw [e3]; simp [go_sem])) (hK _ _ rfl (still 0 (by decide)) fun _ _ _ _ _ _ _ h=>h)
  ·cases ho;have n8:¬ D 8:=fun h8=>hnd (hc 8 _ h8 rfl ⟨1,.data⟩ (by simp) rfl);have e25:a.eval (ah 25)=Z (O ⟨b3,5,Y⟩):=seen.at_ ⟨0,.data⟩ (by simp) rfl (ak (by decide)) _ rfl;have y5:=(YH D x hF n8).cell 5;simp only [au,aA,aB] at y5;exact aG rfl rfl (bI a.eval _ 28 (ah 25) rfl (by rw [e25]; simp [go_sem,y5])) (hK _ _ rfl (still 1 (by decide)) fun _ _ _ _ _ _ _ h=>h)
  ·cases ho;have e8:a.eval (ah 8)=U X k:=seen.kp 8 _ (nd 8 (by decide)) rfl;exact aG rfl rfl (bU a.eval _ (ah 8) rfl x) (hK _ _ e8 (still 2 (by decide)) fun _ _ _ _ _ _ _ h=>h)
  ·cases ho;have n8:¬ D 8:=fun h8=>hnd (hc 6 _ (hc 7 _ (hc 8 _ h8 rfl ⟨7,.data⟩ (by simp) rfl) rfl ⟨6,.data⟩ (by simp) rfl) rfl ⟨3,.data⟩ (by simp) rfl);have e4:a.eval (ah 4)=Z (O ⟨b4,0,Y⟩):=seen.kp 4 _ (nd 4 (by decide)) rfl;obtain⟨y0,y1⟩:=(bx4 D x hF n8).cs2;exact aG rfl rfl (bI a.eval _ 23 (ah 4) rfl (by rw [e4]; simp [go_sem,y0,y1])) (hK _ _ rfl (still 3 (by decide)) fun _ _ _ _ _ _ _ h=>h)
  ·cases ho;have e2:a.eval (ah 2)=J po pn pc:=seen.kp 2 _ (nd 2 (by decide)) rfl;exact aG rfl rfl (bU a.eval _ (ah 2) rfl x) (hK _ _ e2 (still 4 (by decide)) fun _ _ _ _ _ _ _ h=>h)
  ·cases ho;have e29:a.eval (ah 29)=J po pn pc:=seen.at_ ⟨4,.data⟩ (by simp) rfl (ak (by decide)) _ rfl;have n8:¬ D 8:=fun h=>hnd (hc 8 _ h rfl ⟨5,.chain⟩ (by simp) rfl);have n10:¬ D 10:=fun h=>n8 (hc 10 _ h rfl ⟨8,.chain⟩ (by simp) rfl);have n6:¬ D 6:=fun h=>hnd (hc 6 _ h rfl ⟨5,.data⟩ (by simp) rfl);have n7:¬ D 7:=fun h=>n6 (hc 7 _ h rfl ⟨6,.data⟩ (by simp) rfl);have hb:=hF.1 n8;exact cu rfl rfl (Rw.iq a.eval _ (ah 29) 34 44 rfl e29 rfl _ (fG Tryz.func44 rfl rfl _ _)) (jJ (po,pn,pc) p x (HP.out.on hb) LP.out) fun e w1 h=>by
    obtain⟨⟨s,rfl,q1⟩,q2⟩:=h;exact⟨_,rfl,hK _ w1 ⟨s,rfl,dH q1 hb.size⟩ ⟨fun _=>hb.trans (q2.mono hb.size),fun h=>absurd (h.resolve_left (by decide)) n8,fun h=>absurd (h.resolve_left (by decide)) n10⟩ (fun j u hj dj nl nx ni h=>by
    rcases (by omega:j=0\/j=1\/j=2\/j=3\/j=4\/j=5\/j=6\/j=7\/j=8\/j=9\/j=10) with rfl|rfl|rfl|rfl|rfl|rfl|rfl|rfl|rfl|rfl|rfl
    ·exact h
    ·exact h
    ·exact h
    ·exact h
    ·exact h
    ·exact absurd rfl ni
    ·exact absurd dj n6
    ·exact absurd dj n7
    ·exact absurd dj n8
    ·exact h
    ·exact absurd dj n10)⟩
  ·cases ho;have e28:a.eval (ah 28)=aL #[U X x1,U X x2]:=seen.at_ ⟨3,.data⟩ (by simp) rfl (ak (by decide)) _ rfl;have E30:=seen.at_ ⟨5,.data⟩ (by simp) rfl (bC rfl) _ rfl;obtain⟨s,q0,q1⟩:=E30;have q0:a.eval (ah 30)=dN s:=q0;exact aG rfl rfl (bZ a.eval _ 88 #[(0,ah 28),(1,ah 30)] rfl (ps:=#[(0,aL #[U X x1,U X x2]),(1,dN s)]) (by simp only [aS,aZ,bq,e28,q0]) (by simp [go_sem])) (hK _ _ ⟨s,rfl,q1⟩ (still 6 (by decide)) fun _ _ _ _ _ _ _ h=>h)
  ·cases ho;have E31:=seen.at_ ⟨6,.data⟩ (by simp) rfl (bC rfl) _ rfl;have n8:¬ D 8:=fun h=>hnd (hc 8 _ h rfl ⟨7,.data⟩ (by simp) rfl);have n10:¬ D 10:=fun h=>n8 (hc 10 _ h rfl ⟨8,.chain⟩ (by simp) rfl);have hb:=hF.1 n8;obtain⟨s,q0,q1⟩:=E31;have q0:a.eval (ah 31)=JI (x1,x2,s):=q0;have nb:=iM x (aO (je (x1,x2,s)).toArray 88);exact aG rfl rfl (cZ a.eval _ 28 1 #[(0,ah 31)] rfl (ps:=#[(0,JI (x1,x2,s))]) (by simp [q0]) (by simp [go_sem])) (hK (J (O ⟨x.heap.size,0,Y⟩) 1 1) (x.alloc (aO (je (x1,x2,s)).toArray 88)) ⟨s,x.heap.size,rfl,hb.size,dK x _ _,Bk.dI q1 nb⟩ ⟨fun _=>hb.trans (nb.mono hb.size),fun h=>absurd (h.resolve_left (by decide)) n8,fun h=>absurd (h.resolve_left (by decide)) n10⟩ (fun j u hj dj nl nx ni h=>by
    rcases (by omega:j=0\/j=1\/j=2\/j=3\/j=4\/j=5\/j=6\/j=7\/j=8\/j=9\/j=10) with rfl|rfl|rfl|rfl|rfl|rfl|rfl|rfl|rfl|rfl|rfl
    ·exact h
    ·exact h
    ·exact h
    ·exact h
    ·exact h
    ·obtain⟨s,h1,h2⟩:=h; exact⟨s,h1,Bk.dI h2 nb⟩
    ·obtain⟨s,h1,h2⟩:=h; exact⟨s,h1,Bk.dI h2 nb⟩
    ·exact absurd rfl ni
    ·exact absurd dj n8
    ·exact h
    ·exact absurd dj n10))
  ·cases ho;have e26:a.eval (ah 26)=J v13 v14 v15:=seen.at_ ⟨1,.data⟩ (by simp) rfl (ak (by decide)) _ rfl;have e27:a.eval (ah 27)=U X k:=seen.at_ ⟨2,.data⟩ (by simp) rfl (ak (by decide)) _ rfl;have E32:=seen.at_ ⟨7,.data⟩ (by simp) rfl (bC rfl) _ rfl;have d7:D 7:=hD ⟨7,.data⟩ (by simp) rfl;have d6:D 6:=hc 7 _ d7 rfl ⟨6,.data⟩ (by simp) rfl;have n10:¬ D 10:=fun h=>hnd (hc 10 _ h rfl ⟨8,.chain⟩ (by simp) rfl);have hb:=hF.1 hnd;obtain⟨s,g,q0,q1,q2,q3⟩:=E32;have q0:a.eval (ah 32)=J (O ⟨g,0,Y⟩) 1 1:=q0;have cp:=OX.out.grow hb;obtain⟨l,ho1,ho2⟩:=cp.own;obtain⟨l0,ho0,_⟩:=OX.out.own;have hne:(dN (v13,v14,v15)).ownBlock≠O g:=fun e=>by
    obtain⟨d,hd⟩:=gI ho0 _ e;have:=hd.lt;omega
   have TG:=gI ho1;exact cu rfl rfl (oO a.eval _ (ah 26) (ah 27) (ah 32) 28 3 28 43 rfl e26 e27 q0 rfl _ (fG Tryz.func43 rfl rfl _ _)) (Bu n (dN (v13,v14,v15)) l k (x1,x2,s) g x ho1 q2 hne (by rw [ho2.len]; exact KL.out) (by rw [ho2.len]; exact LO.out) (aM HN.out hb.size)) fun e w1 h=>by
    obtain⟨v',rfl,hown,hbel,hoth⟩:=h;obtain⟨t1,t2,hv'⟩:=(Row.dB hown).len;have hoff:Off (dN (v13,v14,v15)).ownBlock x w1:=⟨hoth,hbel.size⟩;have CP:=F8 cp (Rv:=(t1,(l.take k++(x1,x2,s)::l.drop k).length,t2)) (ol:=eZ b.own k ⟨(x1,x2),p⟩) hoff ⟨eZ l k (x1,x2,s),by unfold eZ; rw [List.append_assoc]; rw [hv'] at hown; exact hown,qF (ho2.mono fun _ _ q=>q.off hoff TG (by decide)) k ⟨rfl,ak (hoff.own (dH q3 HN.out) TG (by decide))⟩⟩;exact⟨_,rfl,hK v' w1 ⟨_,hv',by rw [show ownIn b (x1,x2) p={ b with own:=eZ b.own k ⟨(x1,x2),p⟩ } from by unfold ownIn; rw [KK.out]]; exact CP⟩ ⟨fun h=>absurd (bC rfl) h,fun _ _=>⟨(hb.mono HN.out).trans hbel,fun j hj hne2=>(hoth j (Nat.lt_of_lt_of_le hj hb.size) hne2).trans (hb.block j hj),aM hb.size hbel.size⟩,fun h=>absurd (h.resolve_left (by decide)) n10⟩ (fun j u hj dj nl nx ni h=>by
    rcases (by omega:j=0\/j=1\/j=2\/j=3\/j=4\/j=5\/j=6\/j=7\/j=8\/j=9\/j=10) with rfl|rfl|rfl|rfl|rfl|rfl|rfl|rfl|rfl|rfl|rfl
    ·exact h
    ·exact h
    ·exact h
    ·exact h
    ·exact h
    ·exact absurd d6 nl
    ·exact absurd d7 nl
    ·exact absurd rfl nx
    ·exact absurd rfl ni
    ·exact h
    ·exact absurd dj n10)⟩
  ·cases ho;have e3:a.eval (ah 3)=Z (O ⟨b3,0,Y⟩):=seen.kp 3 _ (nd 3 (by decide)) rfl;exact aG rfl rfl (bX a.eval _ 30 (ah 3) 5 rfl (by rw [e3]; simp [go_sem])) (hK _ _ rfl (still 9 (by decide)) fun _ _ _ _ _ _ _ h=>h)
  ·cases ho;have e34:a.eval (ah 34)=Z (O ⟨b3,5,Y⟩):=seen.at_ ⟨9,.data⟩ (by simp) rfl (ak (by decide)) _ rfl;have E33:=seen.at_ ⟨8,.data⟩ (by simp) rfl (ak (by decide)) _ rfl;have d8:D 8:=hD ⟨8,.chain⟩ (by simp) rfl;obtain⟨f1,f2⟩:=hF.2.1 d8 hnd;obtain⟨⟨s1,s2,s3⟩,q0,q1⟩:=E33;have q0:a.eval (ah 33)=J s1 s2 s3:=q0;obtain⟨l0,ho0,_⟩:=OX.out.own;have TG:=gI ho0;have VE:=f2.box H3.out TG (by decide);have c5:=VE.cell 5;have r5:=VE.fr 5;simp only [au,aA,aB] at c5;have hs:(Instr.storeAt 28 (Z (O ⟨b3,5,Y⟩)) (J s1 s2 s3)).run aR x=.ok () (x.setCell ⟨b3,5,Y⟩ (J s1 s2 s3)):=by simp [go_sem,c5,r5]
   have bs:=dM x b3 5 (J s1 s2 s3);have ff:Mj W b3 b4 n k w0 b v1 v2 v3 v4 v5 v6 v7 v8 v9 v10 v11 v12 v13 v14 v15 x1 x2 po pn pc p (fun j=>j=10\/D j) (x.setCell ⟨b3,5,Y⟩ (J s1 s2 s3)):=⟨fun h=>absurd (ak d8) h,fun _ h=>absurd (bC rfl) h,fun _=>⟨f1.setCell (p:=⟨b3,5,Y⟩) NB.out _,fun g cs t h1 h2 h3=>bs.box (f2.box h3 TG h1) h2,(s1,s2,s3),by simpa using dY (k:=5) VE (J s1 s2 s3),q1.but bs VE⟩⟩;have d7:D 7:=hc 8 _ d8 rfl ⟨7,.data⟩ (by simp) rfl;have d6:D 6:=hc 7 _ d7 rfl ⟨6,.data⟩ (by simp) rfl;have q:=hK (bg aV) (x.setCell ⟨b3,5,Y⟩ (J s1 s2 s3)) trivial ff (fun j u hj dj nl nx ni h=>by
    rcases (by omega:j=0\/j=1\/j=2\/j=3\/j=4\/j=5\/j=6\/j=7\/j=8\/j=9\/j=10) with rfl|rfl|rfl|rfl|rfl|rfl|rfl|rfl|rfl|rfl|rfl
    ·exact h
    ·exact h
    ·exact h
    ·exact h
    ·exact h
    ·exact absurd d6 nl
    ·exact absurd d7 nl
    ·exact absurd d8 nl
    ·obtain⟨s,h1,h2⟩:=h; exact⟨s,h1,h2.but bs VE⟩
    ·exact h
    ·exact absurd rfl ni)
   exact cB 28 (ah 34) (ah 33) rfl rfl rfl rfl e34 q0 hs q
 ·intro a x df sz kp ⟨vs,hv⟩ ⟨D,hall,hF⟩;obtain⟨f1,f2,s,f3,f4⟩:=hF.2.2 (hall 10 (by omega));have wL:∀ j,(j<25\/35<=j)->a.tmps[j]?=(u0::u1::J po pn pc::Z (O ⟨b3,0,Y⟩)::Z (O ⟨b4,0,Y⟩)::u5::u6::u7::U X k::u9::u10::u11::u12::u13::u14::u15::u16::u17::u18::u19::u20::u21::u22::u23::u24::u25::u26::u27::u28::u29::u30::u31::u32::u33::u34::u35::u36::u37::u38::u39::u40::u41::u42::u43::u44::u45::u46::u47::u48::u49::u50::u51::u52::u53::u54::u55::u56::u57::u58::u59::u60::u61::u62::u63::[])[j]?:=fun j hj=>(kp j (nd j fun i hi h=>by
   have:=(by decide:∀ i,i<11->∀ d,[O 25,O 26,O 27,O 28,O 29,O 30,O 31,O 32,O 33,O 34,Y].getD i Y=O d->25<=d/\d<35) i hi j h;omega)).trans au
  obtain⟨mid,hmid,hfr⟩:=Rg.iC (a:=a) 25 10 (by simp [df]) (by simp [sz]) (by simp) wL;rw [hfr]
  match mid,hmid with
  | [q25,q26,q27,q28,q29,q30,q31,q32,q33,q34],_=>exact HQ.out x s _ _ _ _ _ _ _ _ _ _ f1 f2 f3 f4
theorem OY (b:Br) (s1:Option ay) (s2 s3:Nat) (s4:Option ay) (s5 s6:Nat) (s7:Option ay) (s8 s9:Nat) (s10:Option ay) (s11 s12:Nat) (s13:Option ay) (s14 s15:Nat) (t1 t2:Int) (w:aI) (h:lW w b (s1,s2,s3) (s4,s5,s6) (s7,s8,s9) (s10,s11,s12) (s13,s14,s15)) (hfp:mE b) :
  cK aR 46 #[aL #[U X b.me,J s1 s2 s3,J s4 s5 s6,J s7 s8 s9,J s10 s11 s12,J s13 s14 s15],aL #[U X t1,U X t2]] w fun e w'=>e=.returned (U X (jl b (t1,t2)))/\Below w.heap.size w w':=by
 obtain⟨h0,X2,X3⟩:=iO w #[U X b.me,J s1 s2 s3,J s4 s5 s6,J s7 s8 s9,J s10 s11 s12,J s13 s14 s15] #[U X t1,U X t2] 30 23;obtain⟨la,ha1,ha2⟩:=h.dG;have SW:=L (AA b.me (J s1 s2 s3) (J s7 s8 s9) (J s10 s11 s12) (J s13 s14 s15) (s4,s5,s6) la b.dG (t1,t2) _ (ha1.on h0) (ha2.mono fun _ _ q=>q.on h0) hfp.dG);have BB:=L h0;obtain⟨x0,x1,x2,x3,x4,x5⟩:=X2.gQ;obtain⟨y0,y1⟩:=X3.cs2;clear h0 X2 X3 ha1 ha2 h hfp;go_enter bY,Tryz.ntmps46;go_wp2_with fail;generalize (w.alloc (aO #[U X b.me,J s1 s2 s3,J s4 s5 s6,J s7 s8 s9,J s10 s11 s12,J s13 s14 s15] 30)).alloc (aO #[U X t1,U X t2] 23)=W at *;refine SW.out.mono ?_;rintro e1 w1 ⟨hq,hb⟩;obtain⟨⟨r1,r2,⟨ro,rn,rc⟩,r4⟩,kn,rfl,hin⟩:∃ (r:jD) (kn:Bool),e1=.returned (.tuple #[kR r,bg kn])/\r.2.2.2=jl b (t1,t2):=by
  unfold jl;cases hfa:fH b.dG (t1,t2) with
  | none =>
   rw [hfa] at hq;exact⟨_,aF,hq,rfl⟩
  | some a =>
   rw [hfa] at hq;obtain⟨r,h1,h2⟩:=hq;exact⟨r,aV,h1,h2.2.1⟩
 have HI:=L hin;have BW:=L (BB.out.trans (hb.mono BB.out.size));clear hq hin hb SW x0 x1 x2 x3 x4 x5 y0 y1;go_wp2;go_ret;exact⟨by rw [<- HI.out]; rfl,(BW.out.alloc BW.out.size _)⟩
def YO (_B:Nat) (_b3 b5 _bb:Nat) (P:Prop) (b:Br) (s1:Option ay) (s2 s3:Nat) (s4:Option ay) (s5 s6:Nat) (s7:Option ay) (s8 s9:Nat) (s10:Option ay) (s11 s12:Nat) (s13:Option ay) (s14 s15:Nat) (f _kd t1 t2 x1 x2:Int) (po:Option ay) (pn pc:Nat) (p:List C5) (i:Nat) (v:aW) (x:aI):Prop :=
 match i with
 | 0=>v=nO b.me (s1,s2,s3) (s4,s5,s6) (s7,s8,s9) (s10,s11,s12) (s13,s14,s15)
 | 1=>v=nO b.me (s1,s2,s3) (s4,s5,s6) (s7,s8,s9) (s10,s11,s12) (s13,s14,s15)
 | 2=>v=Z (O ⟨b5,1,Y⟩)
 | 3=>v=aL #[U X t1,U X t2]
 | 4=>v=U X (jl b (t1,t2))
 | 5=>v=Z (O ⟨b5,1,Y⟩)
 | 6=>v=aL #[U X t1,U X t2]
 | 7=>v=Z (O ⟨b5,3,Y⟩)
 | 8=>v=aL #[U X x1,U X x2]
 | 9=>v=Z (O ⟨b5,5,Y⟩)
 | 10=>v=J po pn pc
 | 11=>v=U X f
 | 12=>v=aL #[U X t1,U X t2,U X x1,U X x2,J po pn pc,U X f,bg aF]
 | 13=>∃ (nv av sv ev ov s:Sl) (lx:List nP),v=.tuple #[nO (fJ b (jl b (t1,t2)) (⟨(t1,t2),(x1,x2),p,f,aF⟩:En)).1.me nv av sv ev ov,dN s]/\pE x (fJ b (jl b (t1,t2)) (⟨(t1,t2),(x1,x2),p,f,aF⟩:En)).1 nv av sv ev ov/\(P->jf x (fJ b (jl b (t1,t2)) (⟨(t1,t2),(x1,x2),p,f,aF⟩:En)).1 nv av sv ev ov)/\nJ x _B (dN s) lx (fJ b (jl b (t1,t2)) (⟨(t1,t2),(x1,x2),p,f,aF⟩:En)).2
 | 14=>∃ (nv av sv ev ov:Sl),v=nO (fJ b (jl b (t1,t2)) (⟨(t1,t2),(x1,x2),p,f,aF⟩:En)).1.me nv av sv ev ov/\pE x (fJ b (jl b (t1,t2)) (⟨(t1,t2),(x1,x2),p,f,aF⟩:En)).1 nv av sv ev ov/\(P->jf x (fJ b (jl b (t1,t2)) (⟨(t1,t2),(x1,x2),p,f,aF⟩:En)).1 nv av sv ev ov)
 | 15=>∃ (s:Sl) (lx:List nP),v=dN s/\nJ x _B (dN s) lx (fJ b (jl b (t1,t2)) (⟨(t1,t2),(x1,x2),p,f,aF⟩:En)).2
 | 16=>True
 | 17=>∃ (s:Sl) (lx:List nP),v=dN s/\nJ x _B (dN s) lx (fJ b (jl b (t1,t2)) (⟨(t1,t2),(x1,x2),p,f,aF⟩:En)).2
 | _=>True
noncomputable def VF:Code:=((Tryz.f11.body.bind (eP 1)).getD .skip)
theorem os1 (Q:Exit->Act->aI->Prop) (W:aI) (b3 b5 bb:Nat) (P:Prop) (b:Br) (s1:Option ay) (s2 s3:Nat) (s4:Option ay) (s5 s6:Nat) (s7:Option ay) (s8 s9:Nat) (s10:Option ay) (s11 s12:Nat) (s13:Option ay) (s14 s15:Nat) (f kd t1 t2 x1 x2:Int) (po:Option ay) (pn pc:Nat) (p:List C5) (u0 u2 u4 u7 u8 u9 u10 u11 u12 u13 u14 u15 u16 u17 u18 u19 u20 u21 u22 u23:aW)
  (jk:dx W bb #[U X 0,J Y 0 0,J Y 0 0,J Y 0 0,J Y 0 0,J Y 0 0] 30) (hx:dx W b3 #[U X b.me,J s1 s2 s3,J s4 s5 s6,J s7 s8 s9,J s10 s11 s12,J s13 s14 s15] 30) (hm:dx W b5 #[U X kd,U X t1,U X t2,U X x1,U X x2,J po pn pc,J Y 0 0] 43) (bn:pE W b (s1,s2,s3) (s4,s5,s6) (s7,s8,s9) (s10,s11,s12) (s13,s14,s15)) (pcq:P->jf W b (s1,s2,s3) (s4,s5,s6) (s7,s8,s9) (s10,s11,s12) (s13,s14,s15)) (fb:zh b) (fp:mE b) (re:fV b.ent) (pe:∀ e∈b.ent,dU e.p) (hp:gq W (J po pn pc) p) (pp:dU p)
  (hQ:∀ (x:aI) (v8 v9 v10 v11 v12 v13 v14 v15 v16 v17 v18 v19 v20 v21 v22 v23:aW) (m1:Option ay) (m2 m3:Nat) (m4:Option ay) (m5 m6:Nat) (m7:Option ay) (m8 m9:Nat) (m10:Option ay) (m11 m12:Nat) (m13:Option ay) (m14 m15:Nat) (o1:Option ay) (o2 o3:Nat) (lx:List nP),dx x bb #[U X (fJ b (jl b (t1,t2)) (⟨(t1,t2),(x1,x2),p,f,aF⟩:En)).1.me,J m1 m2 m3,J m4 m5 m6,J m7 m8 m9,J m10 m11 m12,J m13 m14 m15] 30->pE x (fJ b (jl b (t1,t2)) (⟨(t1,t2),(x1,x2),p,f,aF⟩:En)).1 (m1,m2,m3) (m4,m5,m6) (m7,m8,m9) (m10,m11,m12) (m13,m14,m15)->(P->jf x (fJ b (jl b (t1,t2)) (⟨(t1,t2),(x1,x2),p,f,aF⟩:En)).1 (m1,m2,m3) (m4,m5,m6) (m7,m8,m9) (m10,m11,m12) (m13,m14,m15))->nJ x W.heap.size (dN (o1,o2,o3)) lx (fJ b (jl b (t1,t2)) (⟨(t1,t2),(x1,x2),p,f,aF⟩:En)).2->dn bb W x->Q .normal ⟨(u0::U X f::u2::Z (O ⟨b3,0,Y⟩)::u4::Z (O ⟨b5,0,Y⟩)::Z (O ⟨bb,0,Y⟩)::dN (o1,o2,o3)::v8::v9::v10::v11::v12::v13::v14::v15::v16::v17::v18::v19::v20::v21::v22::v23::[]).toArray,[]⟩ x) :
  Code.wp aR VF Q ⟨(u0::U X f::u2::Z (O ⟨b3,0,Y⟩)::u4::Z (O ⟨b5,0,Y⟩)::Z (O ⟨bb,0,Y⟩)::u7::u8::u9::u10::u11::u12::u13::u14::u15::u16::u17::u18::u19::u20::u21::u22::u23::[]).toArray,[]⟩ W:=by
 have HQ:=L hQ;have HB:=L jk;have HX:=L hx;have HM:=L hm;have BN:=L bn;have YP:=L pcq;have FB:=L fb;have FP:=L fp;have RE:=L re;have PE:=L pe;have HP:=L hp;have PP:=L pp;clear hQ jk hx hm bn pcq fb fp re pe hp pp;unfold VF
 conv=>arg 2; whnf
 have YQ:∀ i,i<18->[8,9,10,11,12,13,14,15,16,17,18,19,20,21,22,23,22,7].getD i 0≠1:=by decide
 have nb3:∀ i,i<18->[8,9,10,11,12,13,14,15,16,17,18,19,20,21,22,23,22,7].getD i 0≠3:=by decide
 have TW:∀ i,i<18->[8,9,10,11,12,13,14,15,16,17,18,19,20,21,22,23,22,7].getD i 0≠5:=by decide
 have nb6:∀ i,i<18->[8,9,10,11,12,13,14,15,16,17,18,19,20,21,22,23,22,7].getD i 0≠6:=by decide
 refine Rg.Iq 18 16 14 (fun i=>[8,9,10,11,12,13,14,15,16,17,18,19,20,21,22,23,22,7].getD i 0) (fun i=>18) (YO W.heap.size b3 b5 bb P b s1 s2 s3 s4 s5 s6 s7 s8 s9 s10 s11 s12 s13 s14 s15 f kd t1 t2 x1 x2 po pn pc p) (fun i=>i == 15 || i == 17) 30 bb #[U X 0,J Y 0 0,J Y 0 0,J Y 0 0,J Y 0 0,J Y 0 0] (fun v=>match v with | aL c=>c | _=>#[]) (by kernel_rfl) (by kernel_rfl) rfl (by decide) (by decide) (by decide) (by decide) HB.out (fun i j hi hj h1 h2 h=>(by decide:∀ i,i<18->∀ j,j<18->i≠16->j≠16->[8,9,10,11,12,13,14,15,16,17,18,19,20,21,22,23,22,7].getD i 0=[8,9,10,11,12,13,14,15,16,17,18,19,20,21,22,23,22,7].getD j 0->i=j) i hi j hj h1 h2 h) (fun i hi _=>(by decide:∀ i,i<18->[8,9,10,11,12,13,14,15,16,17,18,19,20,21,22,23,22,7].getD i 0<24) i hi) ?_ ?_ (by decide) ?_ ?_ (fun j h1 h2=>(by decide:∀ j,j<18->j≠16->18<=(fun i=>18) j\/((fun i=>18) j<18/\(fun i=>18) j≠16/\(fun i=>i == 15 || i == 17) ((fun i=>18) j)=aF)) j h1 h2) ?_
 ·intro i v x x' hi h hb;rcases (by omega:i=0\/i=1\/i=2\/i=3\/i=4\/i=5\/i=6\/i=7\/i=8\/i=9\/i=10\/i=11\/i=12\/i=13\/i=14\/i=15\/i=16\/i=17) with rfl|rfl|rfl|rfl|rfl|rfl|rfl|rfl|rfl|rfl|rfl|rfl|rfl|rfl|rfl|rfl|rfl|rfl
  ·exact h
  ·exact h
  ·exact h
  ·exact h
  ·exact h
  ·exact h
  ·exact h
  ·exact h
  ·exact h
  ·exact h
  ·exact h
  ·exact h
  ·exact h
  ·obtain⟨a1,a2,a3,a4,a5,a6,lx,h1,h2,h3,h4⟩:=h; exact⟨a1,a2,a3,a4,a5,a6,lx,h1,h2.on hb,fun q=>(h3 q).on hb,h4.on hb⟩
  ·obtain⟨a1,a2,a3,a4,a5,h1,h2,h3⟩:=h; exact⟨a1,a2,a3,a4,a5,h1,h2.on hb,fun q=>(h3 q).on hb⟩
  ·obtain⟨s,lx,h1,h2⟩:=h; exact⟨s,lx,h1,h2.on hb⟩
  ·exact h
  ·obtain⟨s,lx,h1,h2⟩:=h; exact⟨s,lx,h1,h2.on hb⟩
 ·intro o ho i hi wE hfi;cases ho;have h15:i≠15:=fun e=>by rw [e] at hfi; simp at hfi
  have h17:i≠17:=fun e=>by rw [e] at hfi; simp at hfi
  rcases (by omega:i=0\/i=1\/i=2\/i=3\/i=4\/i=5\/i=6\/i=7\/i=8\/i=9\/i=10\/i=11\/i=12\/i=13\/i=14) with rfl|rfl|rfl|rfl|rfl|rfl|rfl|rfl|rfl|rfl|rfl|rfl|rfl|rfl|rfl
  ·exact⟨⟨0,.phase⟩,by simp,rfl,rfl⟩
  ·exact⟨⟨1,.phase⟩,by simp,rfl,rfl⟩
  ·exact⟨⟨2,.phase⟩,by simp,rfl,rfl⟩
  ·exact⟨⟨3,.phase⟩,by simp,rfl,rfl⟩
  ·exact⟨⟨4,.phase⟩,by simp,rfl,rfl⟩
  ·exact⟨⟨5,.phase⟩,by simp,rfl,rfl⟩
  ·exact⟨⟨6,.phase⟩,by simp,rfl,rfl⟩
  ·exact⟨⟨7,.phase⟩,by simp,rfl,rfl⟩
  ·exact⟨⟨8,.phase⟩,by simp,rfl,rfl⟩
  ·exact⟨⟨9,.phase⟩,by simp,rfl,rfl⟩
  ·exact⟨⟨10,.phase⟩,by simp,rfl,rfl⟩
  ·exact⟨⟨11,.phase⟩,by simp,rfl,rfl⟩
  ·exact⟨⟨12,.phase⟩,by simp,rfl,rfl⟩
  ·exact⟨⟨13,.chain⟩,by simp,rfl,rfl⟩
  ·exact⟨⟨14,.data⟩,by simp,rfl,rfl⟩
 ·intro i o hi wE ho a x hpre seen K hK;clear HQ;rcases (by omega:i=0\/i=1\/i=2\/i=3\/i=4\/i=5\/i=6\/i=7\/i=8\/i=9\/i=10\/i=11\/i=12\/i=13\/i=14\/i=15\/i=17) with rfl|rfl|rfl|rfl|rfl|rfl|rfl|rfl|rfl|rfl|rfl|rfl|rfl|rfl|rfl|rfl|rfl
  ·cases ho;obtain⟨hb,hbx⟩:=hpre rfl;have e3:a.eval (ah 3)=Z (O ⟨b3,0,Y⟩):=seen.kp 3 _ nb3 rfl;exact aG rfl rfl (bI a.eval _ 30 (ah 3) rfl (by rw [e3]; exact Dq (HX.out.on hb))) (hK _ x rfl (aC _ _))
  ·cases ho;obtain⟨hb,hbx⟩:=hpre rfl;have e3:a.eval (ah 3)=Z (O ⟨b3,0,Y⟩):=seen.kp 3 _ nb3 rfl;exact aG rfl rfl (bI a.eval _ 30 (ah 3) rfl (by rw [e3]; exact Dq (HX.out.on hb))) (hK _ x rfl (aC _ _))
  ·cases ho;obtain⟨hb,hbx⟩:=hpre rfl;have e5:a.eval (ah 5)=Z (O ⟨b5,0,Y⟩):=seen.kp 5 _ TW rfl;exact aG rfl rfl (bX a.eval _ 43 (ah 5) 1 rfl (by rw [e5]; simp [go_sem])) (hK _ x rfl (aC _ _))
  ·cases ho;obtain⟨hb,hbx⟩:=hpre rfl;have e10:a.eval (ah 10)=Z (O ⟨b5,1,Y⟩):=seen.at_ ⟨2,.data⟩ (by simp) rfl (by decide) (ak (by decide));have y1:=(HM.out.on hb).cell 1;have y2:=(HM.out.on hb).cell 2;simp only [au,aA,aB] at y1 y2;exact aG rfl rfl (bI a.eval _ 23 (ah 10) rfl (by rw [e10]; simp [go_sem,y1,y2])) (hK _ x rfl (aC _ _))
  ·cases ho;obtain⟨hb,hbx⟩:=hpre rfl;have e9:a.eval (ah 9)=nO b.me (s1,s2,s3) (s4,s5,s6) (s7,s8,s9) (s10,s11,s12) (s13,s14,s15):=seen.at_ ⟨1,.data⟩ (by simp) rfl (by decide) (ak (by decide));have e11:a.eval (ah 11)=aL #[U X t1,U X t2]:=seen.at_ ⟨3,.data⟩ (by simp) rfl (by decide) (ak (by decide));exact cu rfl rfl (Rw.nV a.eval _ (ah 9) (ah 11) 30 23 46 rfl e9 e11 rfl _ (fG bY rfl rfl _ _)) (OY b s1 s2 s3 s4 s5 s6 s7 s8 s9 s10 s11 s12 s13 s14 s15 t1 t2 x (BN.out.on hb).br FP.out) fun e w1 h=>by
    obtain⟨rfl,h5⟩:=h;exact⟨_,rfl,hK _ _ rfl h5⟩
  ·cases ho;obtain⟨hb,hbx⟩:=hpre rfl;have e5:a.eval (ah 5)=Z (O ⟨b5,0,Y⟩):=seen.kp 5 _ TW rfl;exact aG rfl rfl (bX a.eval _ 43 (ah 5) 1 rfl (by rw [e5]; simp [go_sem])) (hK _ x rfl (aC _ _))
  ·cases ho;obtain⟨hb,hbx⟩:=hpre rfl;have e13:a.eval (ah 13)=Z (O ⟨b5,1,Y⟩):=seen.at_ ⟨5,.data⟩ (by simp) rfl (by decide) (ak (by decide));have y1:=(HM.out.on hb).cell 1;have y2:=(HM.out.on hb).cell 2;simp only [au,aA,aB] at y1 y2;exact aG rfl rfl (bI a.eval _ 23 (ah 13) rfl (by rw [e13]; simp [go_sem,y1,y2])) (hK _ x rfl (aC _ _))
  ·cases ho;obtain⟨hb,hbx⟩:=hpre rfl;have e5:a.eval (ah 5)=Z (O ⟨b5,0,Y⟩):=seen.kp 5 _ TW rfl;exact aG rfl rfl (bX a.eval _ 43 (ah 5) 2 rfl (by rw [e5]; simp [go_sem])) (hK _ x rfl (aC _ _))
  ·cases ho;obtain⟨hb,hbx⟩:=hpre rfl;have e15:a.eval (ah 15)=Z (O ⟨b5,3,Y⟩):=seen.at_ ⟨7,.data⟩ (by simp) rfl (by decide) (ak (by decide));have y3:=(HM.out.on hb).cell 3;have y4:=(HM.out.on hb).cell 4;simp only [au,aA,aB] at y3 y4;exact aG rfl rfl (bI a.eval _ 23 (ah 15) rfl (by rw [e15]; simp [go_sem,y3,y4])) (hK _ x rfl (aC _ _))
  ·cases ho;obtain⟨hb,hbx⟩:=hpre rfl;have e5:a.eval (ah 5)=Z (O ⟨b5,0,Y⟩):=seen.kp 5 _ TW rfl;exact aG rfl rfl (bX a.eval _ 43 (ah 5) 3 rfl (by rw [e5]; simp [go_sem])) (hK _ x rfl (aC _ _))
  ·cases ho;obtain⟨hb,hbx⟩:=hpre rfl;have e17:a.eval (ah 17)=Z (O ⟨b5,5,Y⟩):=seen.at_ ⟨9,.data⟩ (by simp) rfl (by decide) (ak (by decide));have y5:=(HM.out.on hb).cell 5;simp only [au,aA,aB] at y5;exact aG rfl rfl (bI a.eval _ 34 (ah 17) rfl (by rw [e17]; simp [go_sem,y5])) (hK _ x rfl (aC _ _))
  ·cases ho;obtain⟨hb,hbx⟩:=hpre rfl;have e1:a.eval (ah 1)=U X f:=seen.kp 1 _ YQ rfl;exact aG rfl rfl (bU a.eval _ (ah 1) rfl x) (hK _ x e1 (aC _ _))
  ·cases ho;obtain⟨hb,hbx⟩:=hpre rfl;have e14:a.eval (ah 14)=aL #[U X t1,U X t2]:=seen.at_ ⟨6,.data⟩ (by simp) rfl (by decide) (ak (by decide));have e16:a.eval (ah 16)=aL #[U X x1,U X x2]:=seen.at_ ⟨8,.data⟩ (by simp) rfl (by decide) (ak (by decide));have e18:a.eval (ah 18)=J po pn pc:=seen.at_ ⟨10,.data⟩ (by simp) rfl (by decide) (ak (by decide));have e19:a.eval (ah 19)=U X f:=seen.at_ ⟨11,.data⟩ (by simp) rfl (by decide) (ak (by decide));exact aG rfl rfl (bZ a.eval _ 67 #[(0,ah 14),(1,ah 16),(2,ah 18),(3,ah 19)] rfl (ps:=#[(0,aL #[U X t1,U X t2]),(1,aL #[U X x1,U X x2]),(2,J po pn pc),(3,U X f)]) (by simp only [aS,aZ,bq,e14,e16,e18,e19]) (by simp [go_sem])) (hK _ x rfl (aC _ _))
  ·cases ho;obtain⟨hb,hbx⟩:=hpre rfl;have e8:a.eval (ah 8)=nO b.me (s1,s2,s3) (s4,s5,s6) (s7,s8,s9) (s10,s11,s12) (s13,s14,s15):=seen.at_ ⟨0,.data⟩ (by simp) rfl (by decide) (ak (by decide));have e12:a.eval (ah 12)=U X (jl b (t1,t2)):=seen.at_ ⟨4,.data⟩ (by simp) rfl (by decide) (ak (by decide));have e20:a.eval (ah 20)=aL #[U X t1,U X t2,U X x1,U X x2,J po pn pc,U X f,bg aF]:=seen.at_ ⟨12,.data⟩ (by simp) rfl (by decide) (ak (by decide));exact cu rfl rfl (oO a.eval _ (ah 8) (ah 12) (ah 20) 30 3 67 45 rfl e8 e12 e20 rfl _ (fG bV rfl rfl _ _)) (yC b s1 s2 s3 s4 s5 s6 s7 s8 s9 s10 s11 s12 s13 s14 s15 (jl b (t1,t2)) t1 t2 x1 x2 po pn pc f aF (⟨(t1,t2),(x1,x2),p,f,aF⟩:En) x (BN.out.on hb) ⟨rfl,rfl,rfl,rfl,HP.out.on hb⟩ FB.out FP.out RE.out PE.out PP.out) fun e w1 h=>by
    obtain⟨⟨a1,a2,a3,a4,a5,a6,lx,rfl,h2,h3,h4⟩,h5⟩:=h;exact⟨_,rfl,hK _ _ ⟨a1,a2,a3,a4,a5,a6,lx,rfl,h2,fun q=>h3 (YP.out q |>.on hb),h4.le hb.size⟩ h5⟩
  ·cases ho;obtain⟨hb,hbx⟩:=hpre rfl;have Ve:=seen.at_ ⟨13,.data⟩ (by simp) rfl (by decide) (ak (by decide));obtain⟨a1,a2,a3,a4,a5,a6,_,h1,h2,h3,_⟩:=Ve;exact aG rfl rfl (jN a.eval _ (ah 21) 0 rfl (c:=#[nO (fJ b (jl b (t1,t2)) (⟨(t1,t2),(x1,x2),p,f,aF⟩:En)).1.me a1 a2 a3 a4 a5,dN a6]) h1 rfl x) (hK _ x ⟨a1,a2,a3,a4,a5,rfl,h2,h3⟩ (aC _ _))
  ·cases ho;have Ve:=seen.at_ ⟨13,.data⟩ (by simp) rfl (by decide) (ak (by decide));obtain⟨a1,a2,a3,a4,a5,a6,lx,h1,_,_,h4⟩:=Ve;exact aG rfl rfl (jN a.eval _ (ah 21) 1 rfl (c:=#[nO (fJ b (jl b (t1,t2)) (⟨(t1,t2),(x1,x2),p,f,aF⟩:En)).1.me a1 a2 a3 a4 a5,dN a6]) h1 rfl x) (hK _ x ⟨a6,lx,rfl,h4⟩ (aC _ _))
  ·cases ho;have YI:=seen.at_ ⟨15,.data⟩ (by simp) rfl (by decide) (ak (by decide));exact aG rfl rfl (dh a.eval _ (ah 23) rfl x) (hK _ x YI (aC _ _))
 ·intro o ho a x v hb hbx hC Mk hbase K hK;clear HQ;cases ho;have eB:a.eval (ah 6)=Z (O ⟨bb,0,Y⟩):=hbase 6 _ rfl nb6;obtain⟨⟨m1,m2,m3⟩,⟨m4,m5,m6⟩,⟨m7,m8,m9⟩,⟨m10,m11,m12⟩,⟨m13,m14,m15⟩,hv1,hv2,hv3⟩:=Mk;subst hv1;have iR:=aj x bb (U X (fJ b (jl b (t1,t2)) (⟨(t1,t2),(x1,x2),p,f,aF⟩:En)).1.me) (J m1 m2 m3) (J m4 m5 m6) (J m7 m8 m9) (J m10 m11 m12) (J m13 m14 m15);refine cB 30 (ah 6) (ah 22) rfl rfl rfl rfl eB hC (w':=iI x bb (U X (fJ b (jl b (t1,t2)) (⟨(t1,t2),(x1,x2),p,f,aF⟩:En)).1.me) (J m1 m2 m3) (J m4 m5 m6) (J m7 m8 m9) (J m10 m11 m12) (J m13 m14 m15)) (qC hbx _ _ _ _ _ _ _ _ _ _ _ _ _ _ _ _) (hK _ iR (fun B w hB h=>dD h hB _ _ _ _ _ _) (dP hbx _ _ _ _ _ _) ?_);exact fun j u hj hjS hl h=>by
   rcases (by omega:j=0\/j=1\/j=2\/j=3\/j=4\/j=5\/j=6\/j=7\/j=8\/j=9\/j=10\/j=11\/j=12\/j=13\/j=14\/j=15\/j=17) with rfl|rfl|rfl|rfl|rfl|rfl|rfl|rfl|rfl|rfl|rfl|rfl|rfl|rfl|rfl|rfl|rfl
   ·have h2:u=nO b.me (s1,s2,s3) (s4,s5,s6) (s7,s8,s9) (s10,s11,s12) (s13,s14,s15):=h; exact h2
   ·have h2:u=nO b.me (s1,s2,s3) (s4,s5,s6) (s7,s8,s9) (s10,s11,s12) (s13,s14,s15):=h; exact h2
   ·have h2:u=Z (O ⟨b5,1,Y⟩):=h; exact h2
   ·have h2:u=aL #[U X t1,U X t2]:=h; exact h2
   ·have h2:u=U X (jl b (t1,t2)):=h; exact h2
   ·have h2:u=Z (O ⟨b5,1,Y⟩):=h; exact h2
   ·have h2:u=aL #[U X t1,U X t2]:=h; exact h2
   ·have h2:u=Z (O ⟨b5,3,Y⟩):=h; exact h2
   ·have h2:u=aL #[U X x1,U X x2]:=h; exact h2
   ·have h2:u=Z (O ⟨b5,5,Y⟩):=h; exact h2
   ·have h2:u=J po pn pc:=h; exact h2
   ·have h2:u=U X f:=h; exact h2
   ·have h2:u=aL #[U X t1,U X t2,U X x1,U X x2,J po pn pc,U X f,bg aF]:=h; exact h2
   ·obtain⟨a1,a2,a3,a4,a5,a6,lx,h1,h2,h3,h4⟩:=h; exact⟨a1,a2,a3,a4,a5,a6,lx,h1,h2.keep (s1:=(Y,0,0)) (s2:=(Y,0,0)) (s3:=(Y,0,0)) (s4:=(Y,0,0)) (s5:=(Y,0,0)) (me:=0) hbx iR,fun q=>(h3 q).oh iR hbx (by decide) (by decide) (by decide) (by decide) (by decide) (by decide),h4.but iR hbx (by decide) (by decide)⟩
   ·obtain⟨a1,a2,a3,a4,a5,h1,h2,h3⟩:=h; exact⟨a1,a2,a3,a4,a5,h1,h2.keep (s1:=(Y,0,0)) (s2:=(Y,0,0)) (s3:=(Y,0,0)) (s4:=(Y,0,0)) (s5:=(Y,0,0)) (me:=0) hbx iR,fun q=>(h3 q).oh iR hbx (by decide) (by decide) (by decide) (by decide) (by decide) (by decide)⟩
   ·obtain⟨s,lx,h1,h2⟩:=h; exact⟨s,lx,h1,h2.but iR hbx (by decide) (by decide)⟩
   ·obtain⟨s,lx,h1,h2⟩:=h; exact⟨s,lx,h1,h2.but iR hbx (by decide) (by decide)⟩
 ·intro a x v df sz kp gC hbx Mk YR ⟨vs,hv⟩;obtain⟨⟨m1,m2,m3⟩,⟨m4,m5,m6⟩,⟨m7,m8,m9⟩,⟨m10,m11,m12⟩,⟨m13,m14,m15⟩,hv1,hv2,hv3⟩:=Mk;subst hv1;obtain⟨⟨o1,o2,o3⟩,lx,ho1,ho2⟩:=(hv 17 (by decide) (by decide)).2 (by decide);have g7:a.tmps[7]?=O (dN (o1,o2,o3)):=by
   rw [<- ho1];exact (hv 17 (by decide) (by decide)).1
  have wL:∀ j,(j<7\/24<=j)->a.tmps[j]?=(u0::U X f::u2::Z (O ⟨b3,0,Y⟩)::u4::Z (O ⟨b5,0,Y⟩)::Z (O ⟨bb,0,Y⟩)::u7::u8::u9::u10::u11::u12::u13::u14::u15::u16::u17::u18::u19::u20::u21::u22::u23::[])[j]?:=fun j hj=>(kp j (fun i hi h=>by have:=(by decide:∀ i,i<18->7<=[8,9,10,11,12,13,14,15,16,17,18,19,20,21,22,23,22,7].getD i 0/\[8,9,10,11,12,13,14,15,16,17,18,19,20,21,22,23,22,7].getD i 0<24) i hi; omega)).trans au;obtain⟨mid,hmid,rfl⟩:=Rg.iC 7 17 df (by rw [sz]; rfl) (by simp) wL
  match mid,hmid with
  | [v7,v8,v9,v10,v11,v12,v13,v14,v15,v16,v17,v18,v19,v20,v21,v22,v23],_ =>
   obtain rfl:v7=dN (o1,o2,o3):=aJ g7;exact HQ.out x _ _ _ _ _ _ _ _ _ _ _ _ _ _ _ _ m1 m2 m3 m4 m5 m6 m7 m8 m9 m10 m11 m12 m13 m14 m15 o1 o2 o3 lx hbx hv2 hv3 ho2 YR
theorem Ja (b:Br) (s1:Option ay) (s2 s3:Nat) (s4:Option ay) (s5 s6:Nat) (s7:Option ay) (s8 s9:Nat) (s10:Option ay) (s11 s12:Nat) (s13:Option ay) (s14 s15:Nat) (f kd t1 t2 x1 x2:Int) (po:Option ay) (pn pc:Nat) (p:List C5) (w:aI) (h:pE w b (s1,s2,s3) (s4,s5,s6) (s7,s8,s9) (s10,s11,s12) (s13,s14,s15)) (hf:zh b) (hfp:mE b) (hok:fQ b) (pe:∀ e∈b.ent,dU e.p) (hp:gq w (J po pn pc) p) (pp:dU p) :
  cK aR 11 #[aL #[U X b.me,J s1 s2 s3,J s4 s5 s6,J s7 s8 s9,J s10 s11 s12,J s13 s14 s15],U X f,aL #[U X kd,U X t1,U X t2,U X x1,U X x2,J po pn pc,J Y 0 0]] w (Vg w (jf w b (s1,s2,s3) (s4,s5,s6) (s7,s8,s9) (s10,s11,s12) (s13,s14,s15)) (zI b f (t1,t2) (x1,x2) p)):=by
 rw [BJ hok];obtain⟨h0,h1,h2,h3⟩:=iZ w #[U X b.me,J s1 s2 s3,J s4 s5 s6,J s7 s8 s9,J s10 s11 s12,J s13 s14 s15] #[U X kd,U X t1,U X t2,U X x1,U X x2,J po pn pc,J Y 0 0] #[U X 0,J Y 0 0,J Y 0 0,J Y 0 0,J Y 0 0,J Y 0 0] 30 43 30;obtain⟨P,hP⟩:∃ P:Prop,P=jf w b (s1,s2,s3) (s4,s5,s6) (s7,s8,s9) (s10,s11,s12) (s13,s14,s15):=⟨_,rfl⟩;have HP:=L hP;have GB:=L h0;have RG:=L (fun (Q:Exit->Act->aI->Prop) (W:aI)=>os1 Q W w.heap.size (w.heap.size+1) (w.heap.size+1+1) P b s1 s2 s3 s4 s5 s6 s7 s8 s9 s10 s11 s12 s13 s14 s15 f kd t1 t2 x1 x2 po pn pc p);have A3:=L h3;have A1:=L h1;have A2:=L h2;have A4:=L (h.on h0);have A5:=L (show P->_ from fun q=>(cast hP q:jf w b (s1,s2,s3) (s4,s5,s6) (s7,s8,s9) (s10,s11,s12) (s13,s14,s15)).on h0);have A6:=L hf;have A7:=L hfp;have A8:=L (show fV b.ent from hok.ent);have A9:=L pe;have A10:=L (hp.on h0);have A11:=L pp;clear h h0 h1 h2 h3 hf hfp hok pe hP hp pp;go_enter Tryz.func11,Tryz.ntmps11;go_upto_region 1 with fail;refine RG.out _ _ _ _ _ _ _ _ _ _ _ _ _ _ _ _ _ _ _ _ _ _ A3.out A1.out A2.out A4.out A5.out A6.out A7.out A8.out A9.out A10.out A11.out ?_;intro x v_8 v_9 abZ ab0 ab1 ab2 ab3 ab4 ab5 ab6 ab7 ab8 ab9 acd ace acf m1 m2 m3 m4 m5 m6 m7 m8 m9 m10 m11 m12 m13 m14 m15 o1 o2 o3 lx hbx hbn hbc hou hst;have BL:=L (GB.out.trans (hst.2 w.heap.size (by omega)));have HB:=L hbn;have HC:=L hbc;have HO:=L (hou.le GB.out.size);obtain⟨v0,v1,v2,v3,v4,v5⟩:=hbx.gQ;clear hbx hbn hbc hou hst RG A1 A2 A3 A4 A5 A6 A7 A8 A9 A10 A11;go_wp2_with fail;refine bodyPost_ret (v:=.tuple #[aL #[U X (fJ b (jl b (t1,t2)) (⟨(t1,t2),(x1,x2),p,f,aF⟩:En)).1.me,J m1 m2 m3,J m4 m5 m6,J m7 m8 m9,J m10 m11 m12,J m13 m14 m15],J o1 o2 o3]) (by simp [results,Tryz.results11,go_sem,v0,v1,v2,v3,v4,v5]) rfl ?_;exact⟨⟨(m1,m2,m3),(m4,m5,m6),(m7,m8,m9),(m10,m11,m12),(m13,m14,m15),(o1,o2,o3),lx,rfl,HB.out,fun q=>HC.out (cast HP.out.symm q),HO.out⟩,BL.out⟩
end Rt
end Go.Proofs.YtghlpefopidlaaaGreat
