/-
  A subscription made,. Conditions as told.
-/
import Derived.Test.YtghlpefopidlaaaGreatLQ034
import Derived.Test.YtghlpefopidlaaaGreatLQ042
set_option maxRecDepth 100000
set_option maxHeartbeats 64000000
open _root_.Bool renaming false->aI,true->aZ,true_and->cZ
open _root_.Go renaming Addr->ay,World->aN,Value->bH
open Go.IntKind renaming i64->X
open Go.Lib renaming hid->L
open Go.Obj renaming cells->aT
open Go.Operand renaming tmp->ah
open Go.Proofs.Tryz renaming prog->aX,results45->cB,results48->cK,func45->dw,func46->dB
open Go.Proofs.YtghlpefopidlaaaGreat.Av renaming fu->aj
open Go.Proofs.YtghlpefopidlaaaGreat.Bk.Ow renaming id->aK
open Go.Proofs.YtghlpefopidlaaaGreat.Rg renaming dG->aL,dU->bW,dW->dh,gD->dn,gP->dD
open Go.RowKit.Below renaming refl->aF
open Go.Value renaming slice->J,int->U,pointer->Z,agg->aP,bool->bK
open _root_.List renaming getElem?_toArray->au,getElem?_eq_some_iff->aA,filter_eq_self->aB,getElem?_cons_zero->aC,getElem?_cons_succ->aD,mem_of_getElem?->aG,append_nil->aH,filter_append->aM,filter_cons_of_neg->aR,length_take->aS,map_append->aU,mem_filter->aV,mem_iff_getElem?->aW,map_toArray->aY,getElem?_eq_getElem->bf,map_cons->bg,filter_nil->bF,map_nil->bG,take_append_drop->bI,drop_eq_getElem_cons->bM,take_add_one->bN,append_assoc->bO,getElem?_take_of_lt->bS,mem_map->bU,length_map->bV,length_append->bY,getElem?_map->bZ,filter_congr->cu,any_cons->cO
open _root_.Nat renaming le_trans->aO,le_refl->aQ,lt_succ_iff_lt_or_eq->bR,zero_le->dx
open _root_.Option renaming some->O,none->Y,toList_some->bX
open Option.some renaming inj->aJ
open _root_.Or renaming inr->ak,inl->bL
namespace Go.Proofs.YtghlpefopidlaaaGreat
namespace Rt
open Go.RowKit Go.Sort Rw YtghlpefopidlaaaGreat.Nm Pr Bk Av Rl Sb
theorem D8 {α:Type} (f:α->Bool) (l:List α) (k:Nat) (a:α) (h:f a=aI):(fM l k a).filter f=l.filter f:=by
 unfold fM;rw [aM,aM,aR (by rw [h]; simp),bF,aH,<- aM,bI]
def zQ (b:Br) (p:List C5) (a:Ad):Bool:=!(a.par == -1) && !fA b.ent a.id p
abbrev newE (b:Br) (x:eU) (p:List C5) (a:Ad):En:=⟨a.id,x,p,-1,zQ b p a⟩
def vP (b:Br) (p:List C5) (k:Nat):List Ad:=(b.dO.take k).filter fun a=>fU p a.p
def AX (b:Br) (p:List C5) (k:Nat):List Ad:=(vP b p k).filter fun a=>zQ b p a
theorem wE {b:Br} {p:List C5} {k:Nat} {a:Ad} (h:b.dO[k]?=O a):vP b p (k+1)=vP b p k++(if fU p a.p=aZ then [a] else []):=by
 unfold vP;rw [bN,h,aM];simp only [bX,List.filter_cons,bF]
theorem sQ {b:Br} {p:List C5} {k:Nat} {a:Ad} (h:b.dO[k]?=O a):AX b p (k+1)=AX b p k++(if fU p a.p=aZ/\zQ b p a=aZ then [a] else []):=by
 unfold AX;rw [wE h,aM];by_cases h1:fU p a.p=aZ
 ·by_cases h2:zQ b p a=aZ
  ·rw [if_pos h1,if_pos ⟨h1,h2⟩,List.filter_cons_of_pos h2,bF]
  ·rw [if_pos h1,if_neg fun q=>h2 q.2,aR h2,bF]
 ·rw [if_neg h1,if_neg fun q=>h1 q.1,bF]
structure Fr (b:Br) (x:eU):Prop where
 ent:∀ e∈b.ent,e.sub≠x
 own:∀ o∈b.own,o.id≠x
theorem yN {b:Br} (h:iC b) {i k:Nat} {a c:Ad} (hi:b.dO[i]?=O a) (hk:b.dO[k]?=O c) (e:a.id=c.id):i=k:=by
 rcases Nat.lt_trichotomy i k with q|q|q
 ·have:=kU h.dO q hi hk;rw [e,jD] at this; cases this
 ·exact q
 ·have:=kU h.dO q hk hi;rw [e,jD] at this; cases this
structure SI (b:Br) (x:eU) (p:List C5) (k:Nat) (s:Br×List Ou):Prop where
 same:Nu (ownIn b x p) s.1 k
 rise:jl s.1.ent
 old:s.1.ent.filter (fun e=>decide (e.sub≠x))=b.ent
 new:∀ e∈s.1.ent,e.sub=x->∃ i a,i<k/\b.dO[i]?=O a/\fU p a.p=aZ/\e=newE b x p a
 all:∀ i a,i<k->b.dO[i]?=O a->fU p a.p=aZ->newE b x p a∈s.1.ent
 len:s.1.ent.length=b.ent.length+(vP b p k).length
 out:s.2=(AX b p k).map fun a=>⟨a.par,3,a.id,x,p⟩
theorem ac1 {b:Br} (h:iC b) {x:eU} (hx:Fr b x) (p:List C5):SI b x p 0 (ownIn b x p,[]):=by
 refine⟨⟨rfl,rfl,rfl,rfl,rfl,aQ _⟩,h.ent,aB.2 fun e he=>by simpa using hx.ent e he,fun e he q=>absurd q (hx.ent e he),fun i a hi=>absurd hi (Nat.not_lt_zero _),?_,rfl⟩;unfold vP;simp [ownIn]
theorem aiI {b:Br} {x:eU} {p:List C5} {k:Nat} {s:Br×List Ou} (hok:iC b) (h:SI b x p k s) {a:Ad} (ha:b.dO[k]?=O a) (r:List C5):fA s.1.ent a.id r=fA b.ent a.id r:=by
 rw [<- h.old];unfold fA;rw [List.any_filter];have:∀ (l:List En),(∀ e∈l,e.sub=x->e.tree≠a.id)->l.any (CJ a.id r)=l.any fun e=>decide (e.sub≠x) && CJ a.id r e:=by
  intro l
  induction l with
  | nil=>intro _; rfl
  | cons e l ih =>
   intro hl;rw [cO,cO,ih fun y hy=>hl y (List.mem_cons_of_mem _ hy)]
   congr 1
   by_cases hs:e.sub=x
   ·have ht:=hl e (by simp) hs;unfold CJ;rw [decide_eq_false ht];simp
   ·rw [decide_eq_true hs,cZ]
 refine this _ fun e he hs q=>?_;obtain⟨i,c,hi,hc,_,rfl⟩:=h.new e he hs;have:=yN hok hc ha q;omega
theorem ac3 {b:Br} {x:eU} {p:List C5} {k:Nat} {s:Br×List Ou} (hok:iC b) (h:SI b x p k s) {a:Ad} (ha:b.dO[k]?=O a):SI b x p (k+1) (iA x p s a):=by
 have hs1:=h.same.step (fU p a.p) (jm x p a) a.par;unfold iA;unfold gW at hs1 ⊢;by_cases hm:fU p a.p=aZ
 ·rw [if_neg (by rw [hm]; simp)] at hs1 ⊢;have hn:∀ y∈s.1.ent,dY y≠dY (jm x p a):=by
   intro y hy q;have q1:y.tree=a.id:=congrArg Prod.fst q;have q2:y.sub=x:=congrArg Prod.snd q;obtain⟨i,c,hi,hc,_,rfl⟩:=h.new y hy q2;have:=yN hok hc ha q1;omega
  have hfa:gJ s.1.dO a.id=O a:=by
   rw [h.same.dO];exact mU hok.dO (aG ha)
  rcases U8 h.rise (jm x p a) hn with⟨hf,_⟩|⟨c,hf,h2,h3,_⟩|⟨c,u,hf,_,_,he,hu⟩
  ·rw [show gJ s.1.dO (jm x p a).tree=O a from hfa] at hf; cases hf
  ·rw [show gJ s.1.dO (jm x p a).tree=O a from hfa] at hf;obtain rfl:=aJ hf;exact absurd h2.symm h3
  ·rw [show gJ s.1.dO (jm x p a).tree=O a from hfa] at hf;obtain rfl:=aJ hf;have hu2:u=zQ b p a:=by rw [hu]; unfold zQ; rw [show fA s.1.ent (jm x p a).tree (jm x p a).p=fA b.ent a.id p from aiI hok h ha p]
   subst hu2;have hr:=U7 h.rise (newE b x p a) (fun y hy=>hn y hy);rw [he] at hs1 ⊢;simp only at hs1 ⊢;have hmem:∀ z,z∈fM s.1.ent (dZ (s.1.ent.map dY) (dY (jm x p a))) (newE b x p a)↔z=newE b x p a\/z∈s.1.ent:=fun z=>jM _ _ _ _;refine⟨hs1,hr,?_,fun e he2 q=>?_,fun i c hi hc hmc=>?_,?_,?_⟩
   ·exact (D8 _ _ _ _ (by simp)).trans h.old
   ·rcases (hmem e).1 he2 with rfl|he2
    ·exact⟨k,a,by omega,ha,hm,rfl⟩
    ·obtain⟨i,c,hi,h4⟩:=h.new e he2 q;exact⟨i,c,by omega,h4⟩
   ·rcases bR.1 hi with h5|rfl
    ·exact (hmem _).2 (ak (h.all i c h5 hc hmc))
    ·rw [ha] at hc;obtain rfl:=aJ hc;exact (hmem _).2 (bL rfl)
   ·refine (sF _ _ _).trans ?_;rw [h.len,wE ha,if_pos hm,bY]
    rfl
   ·rw [sQ ha,h.out];by_cases hup:zQ b p a=aZ
    ·rw [if_pos hup,if_pos ⟨hm,hup⟩,aU]
     rfl
    ·rw [if_neg hup,if_neg fun q=>hup q.2,aH]
 ·rw [if_pos (by simpa using hm)] at hs1 ⊢;refine⟨hs1,h.rise,h.old,fun e he q=>?_,fun i c hi hc hmc=>?_,?_,?_⟩
  ·obtain⟨i,c,hi,h4⟩:=h.new e he q;exact⟨i,c,by omega,h4⟩
  ·rcases bR.1 hi with h5|rfl
   ·exact h.all i c h5 hc hmc
   ·rw [ha] at hc;obtain rfl:=aJ hc;exact absurd hmc hm
  ·rw [h.len,wE ha,if_neg hm,aH]
  ·rw [sQ ha,if_neg fun q=>hm q.1,aH];exact h.out
theorem Ro {b:Br} (hok:iC b) {x:eU} (hx:Fr b x) (p:List C5):∀ k,k<=b.dO.length->SI b x p k (eT b.dO (iA x p) (ownIn b x p,[]) k)
 | 0,_=>ac1 hok hx p
 | k+1,hk=>by
  obtain⟨a,ha⟩:∃ a,b.dO[k]?=O a:=⟨_,bf hk⟩;rw [lW _ _ ha];exact ac3 hok (Ro hok hx p k (by omega)) ha
theorem ZY {b:Br} (hok:iC b) {x:eU} (hx:Fr b x) (p:List C5):SI b x p b.dO.length (fF b x p):=by
 unfold fF;rw [if_neg fun e=>by
  cases ho:b.own[fC (b.own.map aK) x]? with
  | none=>rw [ho] at e; cases e
  | some o =>
   rw [ho] at e;exact hx.own o (aG ho) (aJ e)]
 exact Ro hok hx p _ (aQ _)
theorem Po {m:List En} (hr:jl m) {j:Nat} {x:En} (hx:m[j]?=O x):cutAt m j=m.filter fun y=>decide (dY y≠dY x):=by
 have hlt:=(aA.1 hx).1;have e:m=m.take j++x::m.drop (j+1):=by
  conv=>lhs; rw [<- bI j m]
  rw [bM hlt,(aA.1 hx).2]
 have hk:=acU hr hx
 conv=>rhs; rw [e]
 rw [aM,aR (by simp)];unfold cutAt at hk ⊢;rw [aB.2 fun y hy=>decide_eq_true (hk y (List.mem_append_left _ hy)),aB.2 fun y hy=>decide_eq_true (hk y (List.mem_append_right _ hy))]
theorem D9 (t:eU) (m:List En) (h:∀ z∈m,z.tree=t->z.up=aI->fA m t z.p=aZ):∀ k,iN t m k=(m,[])
 | 0=>rfl
 | k+1=>by
  rw [kF,D9 t m h k];unfold iH;cases hk:m[k]? with
  | none=>rfl
  | some e =>
   simp only;rw [if_neg];rintro⟨h1,h2,h3⟩;rw [h e (aG hk) h1 h2] at h3;cases h3
theorem Pp {c:Br} (hr:jl c.ent) (t x:eU) (f:Int):((∀ e∈c.ent,dY e≠(t,x))/\takeB c t x f=(c,[],aI))\/(∃ j e,c.ent[j]?=O e/\dY e=(t,x)/\(e.from_=f->takeB c t x f=if e.up=aI then ({ c with ent:=cutAt c.ent j },[],aI) else ({ c with ent:=(iN t (cutAt c.ent j) (cutAt c.ent j).length).1 },(iN t (cutAt c.ent j) (cutAt c.ent j).length).2,aZ))):=by
 have ft:=tO hr t x;by_cases ht:jQ c.ent t x=aZ
 ·right;obtain⟨e,h1,h2,h3⟩:=sG ht;rw [ht,if_pos rfl] at ft;refine⟨_,e,h1,h2,fun hf=>?_⟩;unfold takeB;rw [ft,Int.toNat_natCast,h1];simp only;rw [if_neg (show ¬ ((dZ (c.ent.map dY) (t,x):Int)=-1) by omega),if_neg (by simp [hf])]
 ·left;rw [if_neg ht] at ft;refine⟨fun e he q=>ht ?_,?_⟩
  ·have:=(Ia hr he).2;rw [show e.tree=t from congrArg Prod.fst q,show e.sub=x from congrArg Prod.snd q] at this;exact this
  ·unfold takeB;rw [ft]
   split
   ·rfl
   ·rw [if_pos rfl]
structure UK (b c:Br) (x:eU) (p:List C5) (k:Nat) (s:Br×List Ou):Prop where
 same:UnI c s.1 b.own
 rise:jl s.1.ent
 ent:s.1.ent=c.ent.filter fun e=>!(decide (e.sub=x) && decide (e.tree∈(b.dO.take k).map Ad.id))
 out:s.2=(AX b p k).map fun a=>⟨a.par,4,a.id,x,[]⟩
theorem Ij {b:Br} (hok:iC b) {k:Nat} {a:Ad} (ha:b.dO[k]?=O a):b.dO[(fO (b.dO.map Ad.id) a.id).toNat]?=O a:=by
 rw [yC,Cr (b.dO.map Ad.id) k a.id (by rw [bZ,ha]; rfl) fun j z hj hz q=>by
  rw [bZ] at hz;cases hc:b.dO[j]? with
  | none=>rw [hc] at hz; cases hz
  | some c =>
   rw [hc] at hz;have:=yN hok hc ha ((aJ hz).trans q);omega,Int.toNat_natCast]
 exact ha
theorem ac4 {b c:Br} {x:eU} {p:List C5} {k:Nat} {s:Br×List Ou} {oo:List Ou} (hok:iC b) (ht:ig b) (hx:Fr b x) (hc:SI b x p b.dO.length (c,oo)) (h:UK b c x p k s) {a:Ad} (ha:b.dO[k]?=O a):UK b c x p (k+1) (oq x s a.id):=by
 have hA:s.1.dO=b.dO:=h.same.dO.trans hc.same.dO;have hsm:=h.same.drop a.id x (-1);have hold:∀ z,z.sub≠x->(z∈s.1.ent↔z∈b.ent):=fun z hz=>by
  rw [h.ent,aV,<- hc.old,aV];simp [hz]
 have hfil:(s.1.ent.filter fun y=>decide (dY y≠(a.id,x)))=c.ent.filter fun e=>!(decide (e.sub=x) && decide (e.tree∈(b.dO.take (k+1)).map Ad.id)):=by
  rw [h.ent,List.filter_filter];refine cu fun e _=>?_;rw [bN,ha,aU];simp only [bX,bg,bG,List.mem_append,List.mem_singleton];by_cases h1:e.sub=x <;> by_cases h2:e.tree∈List.map Ad.id (List.take k b.dO) <;> by_cases h3:e.tree=a.id <;> simp [dY,h1,h3]
 have hid:dY (newE b x p a)=(a.id,x):=rfl;rcases Pp h.rise a.id x (-1) with⟨hn,htk⟩|⟨j,e,hj,hke,htk⟩
 ·have hnm:¬ fU p a.p=aZ:=fun hm=>by
   have hin:=hc.all k a (aA.1 ha).1 ha hm;refine hn (newE b x p a) ?_ rfl;rw [h.ent,aV];refine⟨hin,?_⟩;simp only [decide_true,cZ,Bool.not_eq_true',decide_eq_false_iff_not];intro q;obtain⟨c1,hc1,hq⟩:=bU.1 q;obtain⟨i,hi⟩:=aW.1 hc1;have hlt:=(aA.1 hi).1;rw [aS] at hlt;rw [bS (by omega)] at hi;have:=yN hok hi ha hq;omega
  have hd:jI s.1 a.id x (-1)=(s.1,[]):=by unfold jI; rw [htk]; rfl
  unfold oq;rw [hd] at hsm ⊢;refine⟨hsm,h.rise,?_,?_⟩
  ·show s.1.ent=_;rw [<- hfil];exact (aB.2 fun y hy=>decide_eq_true (hn y hy)).symm
  ·show s.2++[]=_;rw [aH,sQ ha,if_neg fun q=>hnm q.1,aH];exact h.out
 ·have hes:e.sub=x:=congrArg Prod.snd hke;have het:e.tree=a.id:=congrArg Prod.fst hke;have hem:=aG hj;have hec:e∈c.ent:=by rw [h.ent] at hem; exact (aV.1 hem).1
  obtain⟨i,a',hi,ha',hm,rfl⟩:=hc.new e hec hes;obtain rfl:=yN hok ha' ha het;rw [ha] at ha';obtain rfl:=aJ ha';have Z7:=htk rfl;have hcut:cutAt s.1.ent j=s.1.ent.filter fun y=>decide (dY y≠(a.id,x)):=Po h.rise hj;have hrc:jl (cutAt s.1.ent j):=by rw [hcut]; exact h.rise.sublist List.filter_sublist
  unfold oq;by_cases hup:zQ b p a=aZ
  ·rw [if_neg (show ¬ ((newE b x p a).up=aI) by rw [show (newE b x p a).up=zQ b p a from rfl,hup]; simp)] at Z7;have hpar:a.par≠-1:=by
    intro q;unfold zQ at hup;rw [q] at hup;simp at hup
   have hnone:=D9 a.id (cutAt s.1.ent j) (fun z hz hzt hzu=>by
    rw [hcut] at hz ⊢;have hz2:=aV.1 hz;have hzs:z.sub≠x:=fun q=>by
     have:=hz2.2;simp [dY,hzt,q] at this
    have hzb:=(hold z hzs).1 hz2.1;obtain⟨q,q1,q2,q3,q4⟩:=(mO _ _ _).1 (ht a (aG ha) hpar z hzb hzt hzu);have hqs:=hx.ent q q1;exact (mO _ _ _).2 ⟨q,aV.2 ⟨(hold q hqs).2 q1,by simp [dY,hqs]⟩,q2,q3,q4⟩) (cutAt s.1.ent j).length
   rw [hnone] at Z7;have hd:jI s.1 a.id x (-1)=({ s.1 with ent:=cutAt s.1.ent j },[⟨a.par,4,a.id,x,[]⟩]):=by
    have hfi:s.1.dO[(fO (s.1.dO.map Ad.id) a.id).toNat]?=O a:=by rw [hA]; exact Ij hok ha
    unfold jI;rw [Z7];simp only;rw [hfi]
    rfl
   rw [hd] at hsm ⊢;refine⟨hsm,hrc,hcut.trans hfil,?_⟩;show s.2++_=_;rw [sQ ha,if_pos ⟨hm,hup⟩,aU,h.out]
   rfl
  ·rw [if_pos (show (newE b x p a).up=aI by rw [show (newE b x p a).up=zQ b p a from rfl]; simpa using hup)] at Z7;have hd:jI s.1 a.id x (-1)=({ s.1 with ent:=cutAt s.1.ent j },[]):=by
    unfold jI;rw [Z7]
    rfl
   rw [hd] at hsm ⊢;refine⟨hsm,hrc,hcut.trans hfil,?_⟩;show s.2++[]=_;rw [aH,sQ ha,if_neg fun q=>hup q.2,aH];exact h.out
structure akO (b:Br) (x:eU) (p:List C5):Prop where
 si:SI b x p b.dO.length (fF b x p)
 back:(fT (fF b x p).1 x).1=b
 outs:(fT (fF b x p).1 x).2=(AX b p b.dO.length).map fun a=>⟨a.par,4,a.id,x,[]⟩
 none_:fT b x=(b,[])
 again:∀ r,fF (fF b x p).1 x r=((fF b x p).1,[])
theorem Z9 {b:Br} {x:eU} (hx:Fr b x) (p:List C5):(fM b.own (fC (b.own.map aK) x) ⟨x,p⟩).filter (fun o=>decide (o.id≠x))=b.own:=by
 rw [D8 _ _ _ _ (by simp)];exact aB.2 fun o ho=>by simpa using hx.own o ho
theorem Ea {α:Type} (q:α->Bool) (l:List α):l.take (l.takeWhile q).length=l.takeWhile q:=by
 conv=>lhs; arg 2; rw [<- List.takeWhile_append_dropWhile (p:=q) (l:=l)]
 rw [List.take_left]
theorem Pq {c:Br} {x:eU} (h:(c.own[fC (c.own.map aK) x]?).map aK=O x) (r:List C5):fF c x r=(c,[]):=by
 unfold fF;rw [if_pos h]
theorem vU (l:List Ow) (x:eU) (p:List C5):(fM l (fC (l.map aK) x) ⟨x,p⟩)[fC ((fM l (fC (l.map aK) x) ⟨x,p⟩).map aK) x]?=O ⟨x,p⟩:=by
 have hpl:fC (l.map aK) x<=l.length:=by
  unfold fC;refine aO (List.takeWhile_sublist _).length_le ?_;rw [bV];exact aQ _
 have key:∀ (l:List eU),fC (l.take (fC l x)++x::l.drop (fC l x)) x=fC l x:=by
  intro l;unfold fC;rw [Ea,List.takeWhile_append_of_pos fun y hy=>List.all_eq_true.1 List.all_takeWhile y hy,List.takeWhile_cons,if_neg (by rw [jD]; simp),aH]
 have e:(fM l (fC (l.map aK) x) ⟨x,p⟩).map aK=(l.map aK).take (fC (l.map aK) x)++x::(l.map aK).drop (fC (l.map aK) x):=by
  unfold fM;rw [aU,aU,List.map_take,List.map_drop,bO]
  rfl
 rw [e,key];unfold fM;rw [bO,List.getElem?_append_right (by rw [aS]; exact Nat.min_le_left _ _),aS,Nat.min_eq_left hpl,Nat.sub_self]
 rfl
theorem aac {b:Br} (hok:iC b) (ht:ig b) {x:eU} (hx:Fr b x) (p:List C5):akO b x p:=by
 have hc:=ZY hok hx p;have hown:(fF b x p).1.own=fM b.own (fC (b.own.map aK) x) ⟨x,p⟩:=hc.same.own;have akP:(fF b x p).1.dO=b.dO:=hc.same.dO;have kV:lM (fF b x p).1 x=b.own:=by unfold lM; rw [hown]; exact Z9 hx p
 have hne:¬ (lM (fF b x p).1 x).length=(fF b x p).1.own.length:=by
  rw [kV,hown,sF]; omega
 have CG:∀ k,k<=b.dO.length->UK b (fF b x p).1 x p k (gX (fF b x p).1 x k):=by
  intro k
  induction k with
  | zero =>
   intro _;refine⟨⟨rfl,rfl,rfl,rfl,kV,aQ _⟩,hc.rise,?_,rfl⟩;show (fF b x p).1.ent=_;exact (aB.2 fun e _=>by simp).symm
  | succ k ih =>
   intro hk;obtain⟨a,ha⟩:∃ a,b.dO[k]?=O a:=⟨_,bf hk⟩;rw [lg _ x (show (fF b x p).1.dO[k]?=O a by rw [akP]; exact ha)];exact ac4 (oo:=(fF b x p).2) hok ht hx hc (ih (by omega)) ha
 have hU:=CG b.dO.length (aQ _);have hun:fT (fF b x p).1 x=gX (fF b x p).1 x b.dO.length:=by unfold fT; rw [if_neg hne,akP]
 refine⟨hc,?_,by rw [hun]; exact hU.out,?_,fun r=>?_⟩
 ·rw [hun];have hent:(gX (fF b x p).1 x b.dO.length).1.ent=b.ent:=by
   rw [hU.ent,<- hc.old];refine cu fun e he=>?_;by_cases h1:e.sub=x
   ·obtain⟨i,a,hi,ha,_,rfl⟩:=hc.new e he h1;have:a.id∈(b.dO.take b.dO.length).map Ad.id:=by
     rw [List.take_length];exact bU.2 ⟨a,aG ha,rfl⟩
    rw [decide_eq_true this,decide_eq_true h1];simp
   ·simp [h1]
  obtain⟨h1,h2,h3,h4,h5,_⟩:=hU.same;obtain⟨g1,g2,g3,g4,g5,_⟩:=hc.same;generalize (gX (fF b x p).1 x b.dO.length).1=d at *;obtain⟨d1,d2,d3,d4,d5,d6⟩:=d;simp only at h1 h2 h3 h4 h5 hent;rw [h1,h2,h3,h4,h5,hent,g1,g2,g3,g4]
  rfl
 ·unfold fT;rw [if_pos];unfold lM;rw [aB.2 fun o ho=>by simpa using hx.own o ho]
 ·have hin:((fF b x p).1.own[fC ((fF b x p).1.own.map aK) x]?).map aK=O x:=by rw [hown,vU]; rfl
  exact Pq hin r
def iM (b:Br) (par:Int) (e:En):Br×List Ou:=((iB b e).1,if (iB b e).2=aZ then [qJ par e] else [])
def rQ (b:Br) (par:Int) (t x:eU) (f:Int):Br×List Ou:=((takeB b t x f).1,if (takeB b t x f).2.2=aZ then (takeB b t x f).2.1.map (qJ par)++[⟨par,4,t,x,[]⟩] else [])
def mV (b:Br) (t:eU):Int:=match gJ b.dO t with | some a=>a.par | none=>0
theorem aad {b:Br} (hok:iC b) {k:Nat} {a:Ad} (ha:b.dO[k]?=O a):mV b a.id=a.par:=by
 unfold mV;rw [mU hok.dO (aG ha)]
theorem Ik {b:Br} (hok:iC b) {t:eU} {a:Ad} (h:gJ b.dO t=O a):b.dO[(fO (b.dO.map Ad.id) t).toNat]?=O a:=by
 obtain⟨h1,h2⟩:=om h;obtain⟨k,hk⟩:=aW.1 h1;subst h2;exact Ij hok hk
theorem Ms {b:Br} (hok:iC b) (f:Int) (t x:eU) (p:List C5):mE b f t x p=iM b (mV b t) ⟨t,x,p,f,aI⟩:=by
 unfold mE iM;cases hu:(iB b ⟨t,x,p,f,aI⟩).2 with
 | false=>rfl
 | true =>
  have hf:∃ a,gJ b.dO t=O a:=by
   rw [<- tT hok.ent] at hu;unfold Jw at hu;cases hq:gJ b.dO t with
   | none=>rw [show (En.tree ⟨t,x,p,f,aI⟩)=t from rfl,hq] at hu; cases hu
   | some a=>exact⟨a,rfl⟩
  obtain⟨a,ha⟩:=hf;unfold mV;rw [Ik hok ha,ha]
  rfl
theorem Pt {b:Br} (hok:iC b) (t x:eU) (f:Int):jI b t x f=rQ b (mV b t) t x f:=by
 unfold jI rQ;cases hu:(takeB b t x f).2.2 with
 | false=>rfl
 | true =>
  obtain⟨e,he,ht⟩:=Df hu;have h1:=hok.QH e he;unfold zF at h1;rw [ht] at h1;unfold mV;cases hq:gJ b.dO t with
  | none=>rw [hq] at h1; cases h1
  | some a =>
   rw [Ik hok hq]
   rfl
theorem Pv (x:eU) (p:List C5) (s:Br×List Ou) (a:Ad):iA x p s a=if fU p a.p=aI then s else ((iM s.1 a.par (jm x p a)).1,s.2++(iM s.1 a.par (jm x p a)).2):=by
 unfold iA gW iM
 split
 ·rfl
 ·dsimp only
  split
  ·rfl
  ·rw [aH]
theorem Mt {s:Br×List Ou} (hok:iC s.1) {k:Nat} {a:Ad} (ha:s.1.dO[k]?=O a) (x:eU):oq x s a.id=((rQ s.1 a.par a.id x (-1)).1,s.2++(rQ s.1 a.par a.id x (-1)).2):=by
 unfold oq;rw [Pt hok,aad hok ha]
theorem Ju {l:List Ow} (hr:kS aK l) {x:eU} (h:iG aK l x=aZ):l.filter (fun o=>decide (o.id≠x))=cutAt l (fJ aK l x):=by
 unfold iG at h;cases hy:l[fJ aK l x]? with
 | none=>rw [hy] at h; cases h
 | some y =>
  rw [hy] at h;have hyx:y.id=x:=of_decide_eq_true h;generalize fJ aK l x=k at *;have hlt:=(aA.1 hy).1;have e:l=l.take k++y::l.drop (k+1):=by
   conv=>lhs; rw [<- bI k l]
   rw [bM hlt,(aA.1 hy).2]
  have hne:∀ j z,j≠k->l[j]?=O z->z.id≠x:=fun j z hj hz q=>by
   rcases Nat.lt_or_gt_of_ne hj with h1|h1
   ·have:=kU hr h1 hz hy;rw [q,hyx,jD] at this; cases this
   ·have:=kU hr h1 hy hz;rw [q,hyx,jD] at this; cases this
  unfold cutAt
  conv=>lhs; rw [e]
  rw [aM,aR (by simp [hyx])];rw [aB.2 fun z hz=>?_,aB.2 fun z hz=>?_]
  ·obtain⟨j,hj⟩:=aW.1 hz;rw [List.getElem?_drop] at hj;exact decide_eq_true (hne _ z (by omega) hj)
  ·obtain⟨j,hj⟩:=aW.1 hz;have hjl:=(aA.1 hj).1;rw [aS] at hjl;rw [bS (by omega)] at hj;exact decide_eq_true (hne j z (by omega) hj)
theorem aae {l:List Ow} (hr:kS aK l) {x:eU} (h:iG aK l x=aI):l.filter (fun o=>decide (o.id≠x))=l:=by
 rw [ze hr] at h;refine aB.2 fun o ho=>?_;have:=of_decide_eq_false h;exact decide_eq_true fun q=>this (bU.2 ⟨o,ho,q⟩)
theorem Pw {b:Br} {x:eU} (p:List C5) (h:iG aK b.own x=aZ):fF b x p=(b,[]):=by
 unfold iG at h;rw [iK] at h;unfold fF;cases hy:b.own[fC (b.own.map aK) x]? with
 | none=>rw [hy] at h; cases h
 | some y =>
  rw [hy] at h;rw [if_pos (show Option.map aK (O y)=O x from congrArg O (of_decide_eq_true h))]
theorem aaf {b:Br} {x:eU} (p:List C5) (h:iG aK b.own x=aI):fF b x p=eT b.dO (iA x p) (ownIn b x p,[]) b.dO.length:=by
 unfold iG at h;rw [iK] at h;unfold fF;rw [if_neg];intro q;cases hy:b.own[fC (b.own.map aK) x]? with
 | none=>rw [hy] at q; cases q
 | some y =>
  rw [hy] at h q;exact absurd (aJ q) (of_decide_eq_false h)
theorem Px {b:Br} (hok:iC b) {x:eU} (h:iG aK b.own x=aI):fT b x=(b,[]):=by
 unfold fT;rw [if_pos];unfold lM;rw [aae hok.own h]
theorem yO {l:List Ow} {x:eU} (h:iG aK l x=aZ):fJ aK l x<l.length:=by
 unfold iG at h;cases hy:l[fJ aK l x]? with
 | none=>rw [hy] at h; cases h
 | some y=>exact (aA.1 hy).1
theorem JH {b:Br} (hok:iC b) {x:eU} (h:iG aK b.own x=aZ):fT b x=gX b x b.dO.length/\lM b x=cutAt b.own (fJ aK b.own x):=by
 have e:=Ju hok.own h;refine⟨?_,e⟩;unfold fT;rw [if_neg];show ¬ (b.own.filter fun o=>decide (o.id≠x)).length=b.own.length;rw [e];have:=yO h;unfold cutAt;rw [bY,aS,List.length_drop];omega
structure SuI (b0 b:Br) (k:Nat):Prop where
 at_:Nu b0 b k
 ok:iC b
 pe:∀ e∈b.ent,dR e.p
theorem aag {b:Br} (h:iC b) {x:eU} {p:List C5} (hq:Wr.iW p=aZ) (hx:iG aK b.own x=aI):iC (ownIn b x p):=by
 have hn:∀ y∈b.own,y.id≠x:=fun y hy q=>by
  rw [ze h.own] at hx;exact of_decide_eq_false hx (bU.2 ⟨y,hy,q⟩)
 have hr:kS aK (fM b.own (fC (b.own.map aK) x) ⟨x,p⟩):=by
  rw [<- iK];exact kg h.own ⟨x,p⟩ hn
 exact⟨h.near,h.seen,h.dO,h.ent,hr,h.oks,fun e he=>tN (b:=b) rfl rfl (h.QH e he),fun o ho=>by
  rcases (jM _ _ _ _).1 ho with rfl|ho
  ·exact hq
  ·exact h.oko o ho⟩
theorem aiJ {b:Br} {x:eU} {p:List C5} (hok:iC (ownIn b x p)) (pe:∀ e∈b.ent,dR e.p) (pp:dR p) (hq:Wr.iW p=aZ) (k:Nat) (hk:k<=b.dO.length):SuI (ownIn b x p) (eT b.dO (iA x p) (ownIn b x p,[]) k).1 k/\(eT b.dO (iA x p) (ownIn b x p,[]) k).2.length<=k:=by
 obtain⟨h1,h2,h3⟩:=kW (l:=b.dO) (b0:=ownIn b x p) (o0:=[]) (fun a=>fU p a.p) (fun a=>jm x p a) (fun a=>a.par) (fun e=>dR e.p) pe (fun a _ _=>pp) k hk;exact⟨⟨h1,tV iC hok (fun s a _ hs=>step_ok hs _ _ _ (qz _) hq) k hk,h2⟩,by simpa using h3⟩
end Rt
namespace Rt
open Go.RowKit Go.Sort Rw YtghlpefopidlaaaGreat.Nm Pr Bk Av Rl Sb Fl
theorem Rp {w0 wr x:aN} {B:Nat} {b:Br} {nv av sv ev ov Uk:Sl} {ol:List Ow} (h:Cp w0 B wr b nv av sv ev ov) (hb:Off (dX ov).ownBlock wr x) (hx:∃ l,nM x B (dX Uk) l/\eY (Og w0 B x) l ol):Cp w0 B x { b with own:=ol } nv av sv ev Uk:=by
 obtain⟨l0,hl0,_⟩:=h.own;have hg:=jF hl0;exact {
  near:=hb.own h.near hg (by decide)
  seen:=hb.own h.seen hg (by decide)
  dO:=by obtain⟨l,h1,h2⟩:=h.dO; exact⟨l,hb.own h1 hg (by decide),h2.mono fun _ _ h=>h.off hb hg (by decide)⟩
  ent:=by obtain⟨l,h1,h2⟩:=h.ent; exact⟨l,hb.own h1 hg (by decide),h2.mono fun _ _ h=>h.off hb hg (by decide)⟩
  own:=hx }
def aof (_B:Nat) (b3 _b4 n k:Nat) (w0:aN) (b:Br) (T:Option ay) (a0 a3:Nat) (a4:Option ay) (a5 a6:Nat) (a7:Option ay) (a8 aE:Nat) (b9:Option ay) (bJ bQ:Nat) (c7:Option ay) (c8 c9:Nat) (x1 x2:Int) (po:Option ay) (pn pc:Nat) (p:List C5) (i:Nat) (v:bH) (x:aN):Prop :=
 match i with
 | 0=>v=Z (O ⟨b3,5,Y⟩)
 | 1=>v=J c7 c8 c9
 | 2=>v=U X k
 | 3=>v=aP #[U X x1,U X x2]
 | 4=>v=J po pn pc
 | 5=>∃ s:Sl,v=dX s/\iJ x _B (dX s) p
 | 6=>∃ s:Sl,v=EM (x1,x2,s)/\iJ x _B (dX s) p
 | 7=>∃ (s:Sl) (g:Nat),v=J (O ⟨g,0,Y⟩) 1 1/\_B<=g/\dK x g (lH (x1,x2,s)).toArray 88/\iJ x _B (dX s) p
 | 8=>∃ s:Sl,v=dX s/\Cp (vw w0) n x (ownIn b (x1,x2) p) (T,a0,a3) (a4,a5,a6) (a7,a8,aE) (b9,bJ,bQ) s
 | 9=>v=Z (O ⟨b3,5,Y⟩)
 | 10=>True
 | _=>True
def aah (W:aN) (b3 _b4 n _k:Nat) (w0:aN) (b:Br) (T:Option ay) (a0 a3:Nat) (a4:Option ay) (a5 a6:Nat) (a7:Option ay) (a8 aE:Nat) (b9:Option ay) (bJ bQ:Nat) (c7:Option ay) (c8 c9:Nat) (x1 x2:Int) (_po:Option ay) (_pn _pc:Nat) (p:List C5) (D:Nat->Prop) (x:aN):Prop:=(¬ D 8->Below W.heap.size W x)/\(D 8->¬ D 10->Below n W x/\Off (dX (c7,c8,c9)).ownBlock W x)/\(D 10->Below n W x/\(∀ (g:Nat) (cs:Array bH) (t:TypeId),(t == 88)=aI->g≠b3->dK W g cs t->dK x g cs t)/\∃ s:Sl,dK x b3 #[U X b.me,J T a0 a3,J a4 a5 a6,J a7 a8 aE,J b9 bJ bQ,dX s] 30/\Cp (vw w0) n x (ownIn b (x1,x2) p) (T,a0,a3) (a4,a5,a6) (a7,a8,aE) (b9,bJ,bQ) s)
noncomputable def akQ:Code:=((Tryz.f10.body.bind (eO 5)).getD .skip)
theorem su5 (Q:Exit->Act->aN->Prop) (W:aN) (b3 b4 n k:Nat) (w0:aN) (b:Br) (a4:Option ay) (a5 a6:Nat) (a7:Option ay) (a8 aE:Nat) (b9:Option ay) (bJ bQ:Nat) (c7:Option ay) (c8 c9:Nat) (T:Option ay) (a0 a3:Nat) (x1 x2:Int) (po:Option ay) (pn pc:Nat) (p:List C5) (cA cC cD cF cG cH cI cJ cL cM cN cP cQ cR cS cT cU cV cW cX cY f9 fL fN fP fR fS fW fX fY g0 d1 d3 d4 d5 d9 dA dC dE dS dT e7 e9 eA eB eC eE eI eJ eK eL eM eN eQ eS eV eW f0 f7 f8:bH)
  (h3:dK W b3 #[U X b.me,J a4 a5 a6,J a7 a8 aE,J b9 bJ bQ,J c7 c8 c9,J T a0 a3] 30) (h4:dK W b4 #[U X x1,U X x2] 23) (cph:Cp (vw w0) n W b (a4,a5,a6) (a7,a8,aE) (b9,bJ,bQ) (c7,c8,c9) (T,a0,a3)) (kk:fC (b.own.map aK) (x1,x2)=k) (kl:k<=b.own.length) (lo:b.own.length<=900) (hn:n<=W.heap.size) (nb:n<=b3) (hp:fI W (J po pn pc) p) (lp:p.length<=900)
  (hQ:∀ (x:aN) (s:Sl) (q25 q26 q27 q28 q29 q30 q31 q32 q33 q34:bH),Below n W x->(∀ (g:Nat) (cs:Array bH) (t:TypeId),(t == 88)=aI->g≠b3->dK W g cs t->dK x g cs t)->dK x b3 #[U X b.me,J a4 a5 a6,J a7 a8 aE,J b9 bJ bQ,J c7 c8 c9,dX s] 30->Cp (vw w0) n x (ownIn b (x1,x2) p) (a4,a5,a6) (a7,a8,aE) (b9,bJ,bQ) (c7,c8,c9) s->Q .normal ⟨(cA::cC::J po pn pc::Z (O ⟨b3,0,Y⟩)::Z (O ⟨b4,0,Y⟩)::cD::cF::cG::U X k::cH::cI::cJ::cL::cM::cN::cP::cQ::cR::cS::cT::cU::cV::cW::cX::cY::q25::q26::q27::q28::q29::q30::q31::q32::q33::q34::d1::d3::d4::d5::d9::dA::dC::dE::dS::dT::e7::e9::eA::eB::eC::eE::eI::eJ::eK::eL::eM::eN::eQ::eS::eV::eW::f0::f7::f8::[]).toArray,[]⟩ x) :
  Code.wp aX akQ Q ⟨(cA::cC::J po pn pc::Z (O ⟨b3,0,Y⟩)::Z (O ⟨b4,0,Y⟩)::cD::cF::cG::U X k::cH::cI::cJ::cL::cM::cN::cP::cQ::cR::cS::cT::cU::cV::cW::cX::cY::f9::fL::fN::fP::fR::fS::fW::fX::fY::g0::d1::d3::d4::d5::d9::dA::dC::dE::dS::dT::e7::e9::eA::eB::eC::eE::eI::eJ::eK::eL::eM::eN::eQ::eS::eV::eW::f0::f7::f8::[]).toArray,[]⟩ W:=by
 have HQ:=L hQ;have H3:=L h3;have H4:=L h4;have CPH:=L cph;have KK:=L kk;have KL:=L kl;have LO:=L lo;have HN:=L hn;have NB:=L nb;have HP:=L hp;have LP:=L lp;clear hQ h3 h4 cph kk kl lo hn nb hp lp;have bx3:∀ D x,aah W b3 b4 n k w0 b a4 a5 a6 a7 a8 aE b9 bJ bQ c7 c8 c9 T a0 a3 x1 x2 po pn pc p D x->¬ D 8->dK x b3 #[U X b.me,J a4 a5 a6,J a7 a8 aE,J b9 bJ bQ,J c7 c8 c9,J T a0 a3] 30:=fun D x hF n8=>H3.out.on (hF.1 n8);have bx4:∀ D x,aah W b3 b4 n k w0 b a4 a5 a6 a7 a8 aE b9 bJ bQ c7 c8 c9 T a0 a3 x1 x2 po pn pc p D x->¬ D 8->dK x b4 #[U X x1,U X x2] 23:=fun D x hF n8=>H4.out.on (hF.1 n8);unfold akQ
 conv=>arg 2; whnf
 have nd:∀ j,(∀ i,i<11->[O 25,O 26,O 27,O 28,O 29,O 30,O 31,O 32,O 33,O 34,Y].getD i Y≠O j)->∀ i,i<11->(fun i=>[O 25,O 26,O 27,O 28,O 29,O 30,O 31,O 32,O 33,O 34,Y].getD i Y) i≠O j:=fun j h=>h;refine Rg.oJ 11 (fun i=>[O 25,O 26,O 27,O 28,O 29,O 30,O 31,O 32,O 33,O 34,Y].getD i Y) (fun i=>if i=5 then 6 else if i=6 then 7 else if i=7 then 8 else 11) (aof W.heap.size b3 b4 n k w0 b a4 a5 a6 a7 a8 aE b9 bJ bQ c7 c8 c9 T a0 a3 x1 x2 po pn pc p) (aah W b3 b4 n k w0 b a4 a5 a6 a7 a8 aE b9 bJ bQ c7 c8 c9 T a0 a3 x1 x2 po pn pc p) (by kernel_rfl) (by kernel_rfl) rfl (fun i j e hi hj h1 h2=>(by decide:∀ i,i<11->∀ j,j<11->([O 25,O 26,O 27,O 28,O 29,O 30,O 31,O 32,O 33,O 34,Y].getD i Y).isSome=aZ->[O 25,O 26,O 27,O 28,O 29,O 30,O 31,O 32,O 33,O 34,Y].getD i Y=[O 25,O 26,O 27,O 28,O 29,O 30,O 31,O 32,O 33,O 34,Y].getD j Y->i=j) i hi j hj (by have h1:[O 25,O 26,O 27,O 28,O 29,O 30,O 31,O 32,O 33,O 34,Y].getD i Y=O e:=h1; rw [h1]; rfl) (h1.trans h2.symm)) (fun i e hi h=>(by decide:∀ i,i<11->∀ q∈[O 25,O 26,O 27,O 28,O 29,O 30,O 31,O 32,O 33,O 34,Y].getD i Y,q<64) i hi e h) (⟨fun _=>(aF _ _).drew,fun h=>h.elim,fun h=>h.elim⟩) ?_ ?_
 ·intro i o hi ho a x D hnd hc hD hF seen K hK;clear HQ;have still:∀ i,i≠5/\i≠7/\i≠8/\i≠10->aah W b3 b4 n k w0 b a4 a5 a6 a7 a8 aE b9 bJ bQ c7 c8 c9 T a0 a3 x1 x2 po pn pc p (fun j=>j=i\/D j) x:=fun i hns=>⟨fun h=>hF.1 fun h2=>h (ak h2),fun h1 h2=>hF.2.1 (h1.resolve_left (Ne.symm hns.2.2.1)) fun h3=>h2 (ak h3),fun h=>hF.2.2 (h.resolve_left (Ne.symm hns.2.2.2))⟩;rcases (by omega:i=0\/i=1\/i=2\/i=3\/i=4\/i=5\/i=6\/i=7\/i=8\/i=9\/i=10) with rfl|rfl|rfl|rfl|rfl|rfl|rfl|rfl|rfl|rfl|rfl
  ·cases ho;have e3:a.eval (ah 3)=Z (O ⟨b3,0,Y⟩):=seen.kp 3 _ (nd 3 (by decide)) rfl;exact aL rfl rfl (dh a.eval _ 30 (ah 3) 5 rfl (by rw [e3]; simp [go_sem])) (hK _ _ rfl (still 0 (by decide)) fun _ _ _ _ _ _ _ h=>h)
  ·cases ho;have n8:¬ D 8:=fun h8=>hnd (hc 8 _ h8 rfl ⟨1,.data⟩ (by simp) rfl);have e25:a.eval (ah 25)=Z (O ⟨b3,5,Y⟩):=seen.at_ ⟨0,.data⟩ (by simp) rfl (ak (by decide)) _ rfl;have y5:=(bx3 D x hF n8).cell 5;simp only [au,aC,aD] at y5;exact aL rfl rfl (bW a.eval _ 28 (ah 25) rfl (by rw [e25]; simp [go_sem,y5])) (hK _ _ rfl (still 1 (by decide)) fun _ _ _ _ _ _ _ h=>h)
  ·cases ho;have e8:a.eval (ah 8)=U X k:=seen.kp 8 _ (nd 8 (by decide)) rfl;exact aL rfl rfl (dn a.eval _ (ah 8) rfl x) (hK _ _ e8 (still 2 (by decide)) fun _ _ _ _ _ _ _ h=>h)
  ·cases ho;have n8:¬ D 8:=fun h8=>hnd (hc 6 _ (hc 7 _ (hc 8 _ h8 rfl ⟨7,.data⟩ (by simp) rfl) rfl ⟨6,.data⟩ (by simp) rfl) rfl ⟨3,.data⟩ (by simp) rfl);have e4:a.eval (ah 4)=Z (O ⟨b4,0,Y⟩):=seen.kp 4 _ (nd 4 (by decide)) rfl;obtain⟨y0,y1⟩:=(bx4 D x hF n8).cs2;exact aL rfl rfl (bW a.eval _ 23 (ah 4) rfl (by rw [e4]; simp [go_sem,y0,y1])) (hK _ _ rfl (still 3 (by decide)) fun _ _ _ _ _ _ _ h=>h)
  ·cases ho;have e2:a.eval (ah 2)=J po pn pc:=seen.kp 2 _ (nd 2 (by decide)) rfl;exact aL rfl rfl (dn a.eval _ (ah 2) rfl x) (hK _ _ e2 (still 4 (by decide)) fun _ _ _ _ _ _ _ h=>h)
  ·cases ho;have e29:a.eval (ah 29)=J po pn pc:=seen.at_ ⟨4,.data⟩ (by simp) rfl (ak (by decide)) _ rfl;have n8:¬ D 8:=fun h=>hnd (hc 8 _ h rfl ⟨5,.chain⟩ (by simp) rfl);have n10:¬ D 10:=fun h=>n8 (hc 10 _ h rfl ⟨8,.chain⟩ (by simp) rfl);have n6:¬ D 6:=fun h=>hnd (hc 6 _ h rfl ⟨5,.data⟩ (by simp) rfl);have n7:¬ D 7:=fun h=>n6 (hc 7 _ h rfl ⟨6,.data⟩ (by simp) rfl);have hb:=hF.1 n8;exact dD rfl rfl (Rw.iZ a.eval _ (ah 29) 34 44 rfl e29 rfl _ (fV Tryz.func44 rfl rfl _ _)) (nX (po,pn,pc) p x (HP.out.on hb) LP.out) fun e w1 h=>by
    obtain⟨⟨s,rfl,q1⟩,q2⟩:=h;exact⟨_,rfl,hK _ w1 ⟨s,rfl,dM q1 hb.size⟩ ⟨fun _=>hb.trans (q2.mono hb.size),fun h=>absurd (h.resolve_left (by decide)) n8,fun h=>absurd (h.resolve_left (by decide)) n10⟩ (fun j u hj dj nl nx ni h=>by
    rcases (by omega:j=0\/j=1\/j=2\/j=3\/j=4\/j=5\/j=6\/j=7\/j=8\/j=9\/j=10) with rfl|rfl|rfl|rfl|rfl|rfl|rfl|rfl|rfl|rfl|rfl
    ·exact h
    ·exact h
    ·exact h
    ·exact h
    ·exact h
    ·exact absurd rfl ni
    ·exact absurd dj n6
    ·exact absurd dj n7
    ·exact absurd dj n8
    ·exact h
    ·exact absurd dj n10)⟩
  ·cases ho;have e28:a.eval (ah 28)=aP #[U X x1,U X x2]:=seen.at_ ⟨3,.data⟩ (by simp) rfl (ak (by decide)) _ rfl;have E30:=seen.at_ ⟨5,.data⟩ (by simp) rfl (bL rfl) _ rfl;obtain⟨s,q0,q1⟩:=E30;have q0:a.eval (ah 30)=dX s:=q0;exact aL rfl rfl (Rg.jg a.eval _ 88 #[(0,ah 28),(1,ah 30)] rfl (ps:=#[(0,aP #[U X x1,U X x2]),(1,dX s)]) (by simp only [aY,bg,bG,e28,q0]) (by simp [go_sem])) (hK _ _ ⟨s,rfl,q1⟩ (still 6 (by decide)) fun _ _ _ _ _ _ _ h=>h)
  ·cases ho;have E31:=seen.at_ ⟨6,.data⟩ (by simp) rfl (bL rfl) _ rfl;have n8:¬ D 8:=fun h=>hnd (hc 8 _ h rfl ⟨7,.data⟩ (by simp) rfl);have n10:¬ D 10:=fun h=>n8 (hc 10 _ h rfl ⟨8,.chain⟩ (by simp) rfl);have hb:=hF.1 n8;obtain⟨s,q0,q1⟩:=E31;have q0:a.eval (ah 31)=EM (x1,x2,s):=q0;have nb:=gN x (aT (lH (x1,x2,s)).toArray 88);exact aL rfl rfl (Rg.iY a.eval _ 28 1 #[(0,ah 31)] rfl (ps:=#[(0,EM (x1,x2,s))]) (by simp [q0]) (by simp [go_sem])) (hK (J (O ⟨x.heap.size,0,Y⟩) 1 1) (x.alloc (aT (lH (x1,x2,s)).toArray 88)) ⟨s,x.heap.size,rfl,hb.size,dQ x _ _,Bk.dI q1 nb⟩ ⟨fun _=>hb.trans (nb.mono hb.size),fun h=>absurd (h.resolve_left (by decide)) n8,fun h=>absurd (h.resolve_left (by decide)) n10⟩ (fun j u hj dj nl nx ni h=>by
    rcases (by omega:j=0\/j=1\/j=2\/j=3\/j=4\/j=5\/j=6\/j=7\/j=8\/j=9\/j=10) with rfl|rfl|rfl|rfl|rfl|rfl|rfl|rfl|rfl|rfl|rfl
    ·exact h
    ·exact h
    ·exact h
    ·exact h
    ·exact h
    ·obtain⟨s,h1,h2⟩:=h; exact⟨s,h1,Bk.dI h2 nb⟩
    ·obtain⟨s,h1,h2⟩:=h; exact⟨s,h1,Bk.dI h2 nb⟩
    ·exact absurd rfl ni
    ·exact absurd dj n8
    ·exact h
    ·exact absurd dj n10))
  ·cases ho;have e26:a.eval (ah 26)=J T a0 a3:=seen.at_ ⟨1,.data⟩ (by simp) rfl (ak (by decide)) _ rfl;have e27:a.eval (ah 27)=U X k:=seen.at_ ⟨2,.data⟩ (by simp) rfl (ak (by decide)) _ rfl;have E32:=seen.at_ ⟨7,.data⟩ (by simp) rfl (bL rfl) _ rfl;have d7:D 7:=hD ⟨7,.data⟩ (by simp) rfl;have d6:D 6:=hc 7 _ d7 rfl ⟨6,.data⟩ (by simp) rfl;have n10:¬ D 10:=fun h=>hnd (hc 10 _ h rfl ⟨8,.chain⟩ (by simp) rfl);have hb:=hF.1 hnd;obtain⟨s,g,q0,q1,q2,q3⟩:=E32;have q0:a.eval (ah 32)=J (O ⟨g,0,Y⟩) 1 1:=q0;have cp:=CPH.out.grow hb;obtain⟨l,ho1,ho2⟩:=cp.own;obtain⟨l0,ho0,_⟩:=CPH.out.own;have hne:(dX (T,a0,a3)).ownBlock≠O g:=fun e=>by
    obtain⟨d,hd⟩:=jF ho0 _ e;have:=hd.lt;omega
   have TG:=jF ho1;exact dD rfl rfl (rZ a.eval _ (ah 26) (ah 27) (ah 32) 28 3 28 43 rfl e26 e27 q0 rfl _ (fV Tryz.func43 rfl rfl _ _)) (Ll n (dX (T,a0,a3)) l k (x1,x2,s) g x ho1 q2 hne (by rw [ho2.len]; exact KL.out) (by rw [ho2.len]; exact LO.out) (aO HN.out hb.size)) fun e w1 h=>by
    obtain⟨v',rfl,hown,hbel,hoth⟩:=h;obtain⟨t1,t2,hv'⟩:=(Row.dJ hown).len;have hoff:Off (dX (T,a0,a3)).ownBlock x w1:=⟨hoth,hbel.size⟩;have CP:=Rp cp (Uk:=(t1,(l.take k++(x1,x2,s)::l.drop k).length,t2)) (ol:=fM b.own k ⟨(x1,x2),p⟩) hoff ⟨fM l k (x1,x2,s),by unfold fM; rw [bO]; rw [hv'] at hown; exact hown,yg (ho2.mono fun _ _ q=>q.off hoff TG (by decide)) k ⟨rfl,ak (hoff.own (dM q3 HN.out) TG (by decide))⟩⟩;exact⟨_,rfl,hK v' w1 ⟨_,hv',by rw [show ownIn b (x1,x2) p={ b with own:=fM b.own k ⟨(x1,x2),p⟩ } from by unfold ownIn; rw [KK.out]]; exact CP⟩ ⟨fun h=>absurd (bL rfl) h,fun _ _=>⟨(hb.mono HN.out).trans hbel,fun j hj hne2=>(hoth j (Nat.lt_of_lt_of_le hj hb.size) hne2).trans (hb.block j hj),aO hb.size hbel.size⟩,fun h=>absurd (h.resolve_left (by decide)) n10⟩ (fun j u hj dj nl nx ni h=>by
    rcases (by omega:j=0\/j=1\/j=2\/j=3\/j=4\/j=5\/j=6\/j=7\/j=8\/j=9\/j=10) with rfl|rfl|rfl|rfl|rfl|rfl|rfl|rfl|rfl|rfl|rfl
    ·exact h
    ·exact h
    ·exact h
    ·exact h
    ·exact h
    ·exact absurd d6 nl
    ·exact absurd d7 nl
    ·exact absurd rfl nx
    ·exact absurd rfl ni
    ·exact h
    ·exact absurd dj n10)⟩
  ·cases ho;have e3:a.eval (ah 3)=Z (O ⟨b3,0,Y⟩):=seen.kp 3 _ (nd 3 (by decide)) rfl;exact aL rfl rfl (dh a.eval _ 30 (ah 3) 5 rfl (by rw [e3]; simp [go_sem])) (hK _ _ rfl (still 9 (by decide)) fun _ _ _ _ _ _ _ h=>h)
  ·cases ho;have e34:a.eval (ah 34)=Z (O ⟨b3,5,Y⟩):=seen.at_ ⟨9,.data⟩ (by simp) rfl (ak (by decide)) _ rfl;have E33:=seen.at_ ⟨8,.data⟩ (by simp) rfl (ak (by decide)) _ rfl;have d8:D 8:=hD ⟨8,.chain⟩ (by simp) rfl;obtain⟨f1,f2⟩:=hF.2.1 d8 hnd;obtain⟨⟨s1,s2,s3⟩,q0,q1⟩:=E33;have q0:a.eval (ah 33)=J s1 s2 s3:=q0;obtain⟨l0,ho0,_⟩:=CPH.out.own;have TG:=jF ho0;have b3x:=f2.box H3.out TG (by decide);have c5:=b3x.cell 5;have r5:=b3x.fr 5;simp only [au,aC,aD] at c5;have hs:(Instr.storeAt 28 (Z (O ⟨b3,5,Y⟩)) (J s1 s2 s3)).run aX x=.ok () (x.setCell ⟨b3,5,Y⟩ (J s1 s2 s3)):=by simp [go_sem,c5,r5]
   have bs:=eF x b3 5 (J s1 s2 s3);have ff:aah W b3 b4 n k w0 b a4 a5 a6 a7 a8 aE b9 bJ bQ c7 c8 c9 T a0 a3 x1 x2 po pn pc p (fun j=>j=10\/D j) (x.setCell ⟨b3,5,Y⟩ (J s1 s2 s3)):=⟨fun h=>absurd (ak d8) h,fun _ h=>absurd (bL rfl) h,fun _=>⟨f1.setCell (p:=⟨b3,5,Y⟩) NB.out _,fun g cs t h1 h2 h3=>bs.box (f2.box h3 TG h1) h2,(s1,s2,s3),by simpa using eu (k:=5) b3x (J s1 s2 s3),q1.but bs b3x⟩⟩;have d7:D 7:=hc 8 _ d8 rfl ⟨7,.data⟩ (by simp) rfl;have d6:D 6:=hc 7 _ d7 rfl ⟨6,.data⟩ (by simp) rfl;have q:=hK (bK aZ) (x.setCell ⟨b3,5,Y⟩ (J s1 s2 s3)) trivial ff (fun j u hj dj nl nx ni h=>by
    rcases (by omega:j=0\/j=1\/j=2\/j=3\/j=4\/j=5\/j=6\/j=7\/j=8\/j=9\/j=10) with rfl|rfl|rfl|rfl|rfl|rfl|rfl|rfl|rfl|rfl|rfl
    ·exact h
    ·exact h
    ·exact h
    ·exact h
    ·exact h
    ·exact absurd d6 nl
    ·exact absurd d7 nl
    ·exact absurd d8 nl
    ·obtain⟨s,h1,h2⟩:=h; exact⟨s,h1,h2.but bs b3x⟩
    ·exact h
    ·exact absurd rfl ni)
   exact Rg.gu 28 (ah 34) (ah 33) rfl rfl rfl rfl e34 q0 hs q
 ·intro a x df sz kp ⟨vs,hv⟩ ⟨D,hall,hF⟩;obtain⟨f1,f2,s,f3,f4⟩:=hF.2.2 (hall 10 (by omega));have rJ:∀ j,(j<25\/35<=j)->a.tmps[j]?=(cA::cC::J po pn pc::Z (O ⟨b3,0,Y⟩)::Z (O ⟨b4,0,Y⟩)::cD::cF::cG::U X k::cH::cI::cJ::cL::cM::cN::cP::cQ::cR::cS::cT::cU::cV::cW::cX::cY::f9::fL::fN::fP::fR::fS::fW::fX::fY::g0::d1::d3::d4::d5::d9::dA::dC::dE::dS::dT::e7::e9::eA::eB::eC::eE::eI::eJ::eK::eL::eM::eN::eQ::eS::eV::eW::f0::f7::f8::[])[j]?:=fun j hj=>(kp j (nd j fun i hi h=>by
   have:=(by decide:∀ i,i<11->∀ d,[O 25,O 26,O 27,O 28,O 29,O 30,O 31,O 32,O 33,O 34,Y].getD i Y=O d->25<=d/\d<35) i hi j h;omega)).trans au
  obtain⟨mid,hmid,hfr⟩:=Rg.gM (a:=a) 25 10 (by simp [df]) (by simp [sz]) (by simp) rJ;rw [hfr]
  match mid,hmid with
  | [q25,q26,q27,q28,q29,q30,q31,q32,q33,q34],_=>exact HQ.out x s _ _ _ _ _ _ _ _ _ _ f1 f2 f3 f4
def aoj (_B:Nat) (_b3 _b5 _b6:Nat) (me:Int) (s1:Option ay) (s2 s3:Nat) (s4:Option ay) (s5 s6:Nat) (s7:Option ay) (s8 s9:Nat) (s10:Option ay) (s11 s12:Nat) (s13:Option ay) (s14 s15:Nat) (par:Int) (y1 y2 y3 y4:Int) (po:Option ay) (pn pc:Nat) (y6:Int) (y7:Bool) (p:List C5) (i:Nat) (v:bH) (x:aN):Prop :=
 match i with
 | 0=>v=aP #[U X me,J s1 s2 s3,J s4 s5 s6,J s7 s8 s9,J s10 s11 s12,J s13 s14 s15]
 | 1=>v=U X par
 | 2=>v=aP #[U X y1,U X y2,U X y3,U X y4,J po pn pc,U X y6,bK y7]
 | 3=>∃ s:Sl,v=aP #[U X 3,U X y1,U X y2,U X y3,U X y4,dX s,J Y 0 0]/\iJ x _B (dX s) p
 | 4=>∃ s:Sl,v=uZ (par,3,y1,y2,y3,y4,s,(Y,0,0))/\iJ x _B (dX s) p
 | 5=>∃ s:Sl,jX x _B v [(par,3,y1,y2,y3,y4,s,(Y,0,0))]/\iJ x _B (dX s) p
 | 6=>True
 | 7=>∃ s:Sl,jX x _B v [(par,3,y1,y2,y3,y4,s,(Y,0,0))]/\iJ x _B (dX s) p
 | _=>True
def aai (W:aN) (_b3 _b5 b6:Nat) (me:Int) (s1:Option ay) (s2 s3:Nat) (s4:Option ay) (s5 s6:Nat) (s7:Option ay) (s8 s9:Nat) (s10:Option ay) (s11 s12:Nat) (s13:Option ay) (s14 s15:Nat) (_par:Int) (_y1 _y2 _y3 _y4:Int) (_po:Option ay) (_pn _pc:Nat) (_y6:Int) (_y7:Bool) (_p:List C5) (D:Nat->Prop) (x:aN):Prop:=(¬ D 6->Below W.heap.size W x)/\(D 6->Rg.Sto b6 W x/\dK x b6 #[U X me,J s1 s2 s3,J s4 s5 s6,J s7 s8 s9,J s10 s11 s12,J s13 s14 s15] 30)
noncomputable def akS:Code:=((Tryz.f45.body.bind (eO 4)).getD .skip)
theorem qU (Q:Exit->Act->aN->Prop) (W:aN) (b3 b5 b6:Nat) (me:Int) (s1:Option ay) (s2 s3:Nat) (s4:Option ay) (s5 s6:Nat) (s7:Option ay) (s8 s9:Nat) (s10:Option ay) (s11 s12:Nat) (s13:Option ay) (s14 s15:Nat) (par:Int) (y1 y2 y3 y4:Int) (po:Option ay) (pn pc:Nat) (y6:Int) (y7:Bool) (p:List C5) (z0 z1 z2 z3 z4 z5:bH) (T a0 a3 a4 a5 a6 a7 a8 aE b9 bJ bQ c7 c8 c9 cA cC cD cF cG:bH)
  (h3:dK W b3 #[U X me,J s1 s2 s3,J s4 s5 s6,J s7 s8 s9,J s10 s11 s12,J s13 s14 s15] 30) (h5:dK W b5 #[U X y1,U X y2,U X y3,U X y4,J po pn pc,U X y6,bK y7] 67) (h6:dK W b6 #[z0,z1,z2,z3,z4,z5] 30) (n3:b3≠b6) (n5:b5≠b6) (hp:fI W (J po pn pc) p) (lp:p.length<=900)
  (hQ:∀ (a:Act) (y:aN) (s:Sl) (ra:Option ay) (rc:Nat),a.defers=[]->a.tmps[6]?=O (Z (O ⟨b6,0,Y⟩))->a.tmps[7]?=O (J ra 1 rc)->dK y b6 #[U X me,J s1 s2 s3,J s4 s5 s6,J s7 s8 s9,J s10 s11 s12,J s13 s14 s15] 30->Rg.Sto b6 W y->jX y W.heap.size (J ra 1 rc) [(par,3,y1,y2,y3,y4,s,(Y,0,0))]->iJ y W.heap.size (dX s) p->Q .normal a y) :
  Code.wp aX akS Q ⟨(T::U X par::a0::Z (O ⟨b3,0,Y⟩)::a3::Z (O ⟨b5,0,Y⟩)::Z (O ⟨b6,0,Y⟩)::a4::a5::a6::a7::a8::aE::b9::bJ::bQ::c7::c8::c9::cA::cC::cD::cF::cG::[]).toArray,[]⟩ W:=by
 have HQ:=L hQ;have H3:=L h3;have H5:=L h5;have H6:=L h6;have N3:=L n3;have N5:=L n5;have HP:=L hp;have LP:=L lp;clear hQ h3 h5 h6 n3 n5 hp lp;have bx3:∀ D x,aai W b3 b5 b6 me s1 s2 s3 s4 s5 s6 s7 s8 s9 s10 s11 s12 s13 s14 s15 par y1 y2 y3 y4 po pn pc y6 y7 p D x->dK x b3 #[U X me,J s1 s2 s3,J s4 s5 s6,J s7 s8 s9,J s10 s11 s12,J s13 s14 s15] 30:=fun D x hF=>by
  by_cases d6:D 6
  ·exact (hF.2 d6).1.1.box H3.out N3.out
  ·exact H3.out.on (hF.1 d6)
 have bx5:∀ D x,aai W b3 b5 b6 me s1 s2 s3 s4 s5 s6 s7 s8 s9 s10 s11 s12 s13 s14 s15 par y1 y2 y3 y4 po pn pc y6 y7 p D x->dK x b5 #[U X y1,U X y2,U X y3,U X y4,J po pn pc,U X y6,bK y7] 67:=fun D x hF=>by
  by_cases d6:D 6
  ·exact (hF.2 d6).1.1.box H5.out N5.out
  ·exact H5.out.on (hF.1 d6)
 unfold akS
 conv=>arg 2; whnf
 have nd:∀ j,(∀ i,i<8->[O 18,O 19,O 20,O 21,O 22,O 23,Y,O 7].getD i Y≠O j)->∀ i,i<8->(fun i=>[O 18,O 19,O 20,O 21,O 22,O 23,Y,O 7].getD i Y) i≠O j:=fun j h=>h;refine Rg.oJ 8 (fun i=>[O 18,O 19,O 20,O 21,O 22,O 23,Y,O 7].getD i Y) (fun _=>8) (aoj W.heap.size b3 b5 b6 me s1 s2 s3 s4 s5 s6 s7 s8 s9 s10 s11 s12 s13 s14 s15 par y1 y2 y3 y4 po pn pc y6 y7 p) (aai W b3 b5 b6 me s1 s2 s3 s4 s5 s6 s7 s8 s9 s10 s11 s12 s13 s14 s15 par y1 y2 y3 y4 po pn pc y6 y7 p) (by kernel_rfl) (by kernel_rfl) rfl (fun i j e hi hj h1 h2=>(by decide:∀ i,i<8->∀ j,j<8->([O 18,O 19,O 20,O 21,O 22,O 23,Y,O 7].getD i Y).isSome=aZ->[O 18,O 19,O 20,O 21,O 22,O 23,Y,O 7].getD i Y=[O 18,O 19,O 20,O 21,O 22,O 23,Y,O 7].getD j Y->i=j) i hi j hj (by have h1:[O 18,O 19,O 20,O 21,O 22,O 23,Y,O 7].getD i Y=O e:=h1; rw [h1]; rfl) (h1.trans h2.symm)) (fun i e hi h=>(by decide:∀ i,i<8->∀ q∈[O 18,O 19,O 20,O 21,O 22,O 23,Y,O 7].getD i Y,q<24) i hi e h) (⟨fun _=>(aF _ _).drew,fun h=>h.elim⟩) ?_ ?_
 ·intro i o hi ho a x D hnd hc hD hF seen K hK;clear HQ;have still:∀ i,i≠3/\i≠5/\i≠6->aai W b3 b5 b6 me s1 s2 s3 s4 s5 s6 s7 s8 s9 s10 s11 s12 s13 s14 s15 par y1 y2 y3 y4 po pn pc y6 y7 p (fun j=>j=i\/D j) x:=fun i hns=>⟨fun h=>hF.1 fun h2=>h (ak h2),fun h=>hF.2 (h.resolve_left (Ne.symm hns.2.2))⟩;rcases (by omega:i=0\/i=1\/i=2\/i=3\/i=4\/i=5\/i=6\/i=7) with rfl|rfl|rfl|rfl|rfl|rfl|rfl|rfl
  ·cases ho;have e3:a.eval (ah 3)=Z (O ⟨b3,0,Y⟩):=seen.kp 3 _ (nd 3 (by decide)) rfl;obtain⟨y0,y1,y2,y3,y4,y5⟩:=(bx3 D x hF).fD;exact aL rfl rfl (bW a.eval _ 30 (ah 3) rfl (by rw [e3]; simp [go_sem,y0,y1,y2,y3,y4,y5])) (hK _ _ rfl (still 0 (by decide)) fun _ _ _ _ _ _ _ h=>h)
  ·cases ho;have e1:a.eval (ah 1)=U X par:=seen.kp 1 _ (nd 1 (by decide)) rfl;exact aL rfl rfl (dn a.eval _ (ah 1) rfl x) (hK _ _ e1 (still 1 (by decide)) fun _ _ _ _ _ _ _ h=>h)
  ·cases ho;have e5:a.eval (ah 5)=Z (O ⟨b5,0,Y⟩):=seen.kp 5 _ (nd 5 (by decide)) rfl;obtain⟨y0,y1,y2,y3,y4,y5,y6⟩:=(bx5 D x hF).pG;exact aL rfl rfl (bW a.eval _ 67 (ah 5) rfl (by rw [e5]; simp [go_sem,y0,y1,y2,y3,y4,y5,y6])) (hK _ _ rfl (still 2 (by decide)) fun _ _ _ _ _ _ _ h=>h)
  ·cases ho;have e20:a.eval (ah 20)=aP #[U X y1,U X y2,U X y3,U X y4,J po pn pc,U X y6,bK y7]:=seen.at_ ⟨2,.data⟩ (by simp) rfl (ak (by decide)) _ rfl;have n6:¬ D 6:=fun h=>hnd (hc 6 _ h rfl ⟨3,.chain⟩ (by simp) rfl);have n4:¬ D 4:=fun h=>hnd (hc 4 _ h rfl ⟨3,.data⟩ (by simp) rfl);have n5:¬ D 5:=fun h=>n4 (hc 5 _ h rfl ⟨4,.data⟩ (by simp) rfl);have n7:¬ D 7:=fun h=>n5 (hc 7 _ h rfl ⟨5,.data⟩ (by simp) rfl);have hb:=hF.1 n6;exact dD rfl rfl (Rw.iZ a.eval _ (ah 20) 67 115 rfl e20 rfl _ (fV Tryz.func115 rfl rfl _ _)) (Hy (y1,y2,y3,y4,(po,pn,pc),y6,y7) p x (HP.out.on hb) LP.out) fun e w1 h=>by
    obtain⟨⟨s,rfl,q1⟩,q2⟩:=h;exact⟨_,rfl,hK _ w1 ⟨s,rfl,dM q1 hb.size⟩ ⟨fun _=>hb.trans (q2.mono hb.size),fun h=>absurd (h.resolve_left (by decide)) n6⟩ (fun j u hj dj nl nx ni h=>by
    rcases (by omega:j=0\/j=1\/j=2\/j=3\/j=4\/j=5\/j=6\/j=7) with rfl|rfl|rfl|rfl|rfl|rfl|rfl|rfl
    ·exact h
    ·exact h
    ·exact h
    ·exact absurd rfl ni
    ·exact absurd dj n4
    ·exact absurd dj n5
    ·exact h
    ·exact absurd dj n7)⟩
  ·cases ho;have e19:a.eval (ah 19)=U X par:=seen.at_ ⟨1,.data⟩ (by simp) rfl (ak (by decide)) _ rfl;have E21:=seen.at_ ⟨3,.data⟩ (by simp) rfl (ak (by decide)) _ rfl;obtain⟨s,q0,q1⟩:=E21;have q0:a.eval (ah 21)=aP #[U X 3,U X y1,U X y2,U X y3,U X y4,dX s,J Y 0 0]:=q0;exact aL rfl rfl (Rg.jg a.eval _ 46 #[(0,ah 19),(1,ah 21)] rfl (ps:=#[(0,U X par),(1,aP #[U X 3,U X y1,U X y2,U X y3,U X y4,dX s,J Y 0 0])]) (by simp only [aY,bg,bG,e19,q0]) (by simp [go_sem])) (hK _ _ ⟨s,rfl,q1⟩ (still 4 (by decide)) fun _ _ _ _ _ _ _ h=>h)
  ·cases ho;have E22:=seen.at_ ⟨4,.data⟩ (by simp) rfl (ak (by decide)) _ rfl;obtain⟨s,q0,q1⟩:=E22;have q0:a.eval (ah 22)=uZ (par,3,y1,y2,y3,y4,s,(Y,0,0)):=q0;have hsz:W.heap.size<=x.heap.size:=by
    by_cases d6:D 6
    ·exact (hF.2 d6).1.1.2
    ·exact (hF.1 d6).size
   have n7:¬ D 7:=fun h=>hnd (hc 7 _ h rfl ⟨5,.data⟩ (by simp) rfl);have hl:=jC Ew x [((par,3,y1,y2,y3,y4,s,(Y,0,0)):mX)] 1 rfl (by simp) (jK (par,3,y1,y2,y3,y4,s,(Y,0,0))).toArray (by simp [flat,EU]);have nb:=gN x (aT (jK (par,3,y1,y2,y3,y4,s,(Y,0,0))).toArray 46);exact aL rfl rfl (Rg.iY a.eval _ 37 1 #[(0,ah 22)] rfl (ps:=#[(0,uZ (par,3,y1,y2,y3,y4,s,(Y,0,0)))]) (by simp [q0]) (by simp [go_sem])) (hK (J (O ⟨x.heap.size,0,Y⟩) 1 1) (x.alloc (aT (jK (par,3,y1,y2,y3,y4,s,(Y,0,0))).toArray 46)) ⟨s,dM hl hsz,Bk.dI q1 nb⟩ ⟨fun h=>(hF.1 fun h2=>h (ak h2)).trans (nb.mono hsz),fun h=>⟨(hF.2 (h.resolve_left (by decide))).1.grow H6.out.lt nb,(hF.2 (h.resolve_left (by decide))).2.on nb⟩⟩ (fun j u hj dj nl nx ni h=>by
    rcases (by omega:j=0\/j=1\/j=2\/j=3\/j=4\/j=5\/j=6\/j=7) with rfl|rfl|rfl|rfl|rfl|rfl|rfl|rfl
    ·exact h
    ·exact h
    ·exact h
    ·obtain⟨s,h1,h2⟩:=h; exact⟨s,h1,Bk.dI h2 nb⟩
    ·obtain⟨s,h1,h2⟩:=h; exact⟨s,h1,Bk.dI h2 nb⟩
    ·exact absurd rfl ni
    ·exact h
    ·exact absurd dj n7))
  ·cases ho;have e6:a.eval (ah 6)=Z (O ⟨b6,0,Y⟩):=seen.kp 6 _ (nd 6 (by decide)) rfl;have e18:a.eval (ah 18)=aP #[U X me,J s1 s2 s3,J s4 s5 s6,J s7 s8 s9,J s10 s11 s12,J s13 s14 s15]:=seen.at_ ⟨0,.data⟩ (by simp) rfl (ak (by decide)) _ rfl;have hb:=hF.1 hnd;have n7:¬ D 7:=fun h=>hnd (hc 7 _ h rfl ⟨6,.chain⟩ (by simp) rfl);have hs:=oD (H6.out.on hb) me s1 s4 s7 s10 s13 s2 s3 s5 s6 s8 s9 s11 s12 s14 s15;have bs:=aj x b6 (U X me) (J s1 s2 s3) (J s4 s5 s6) (J s7 s8 s9) (J s10 s11 s12) (J s13 s14 s15);have h6x:=H6.out.on hb;have ff:aai W b3 b5 b6 me s1 s2 s3 s4 s5 s6 s7 s8 s9 s10 s11 s12 s13 s14 s15 par y1 y2 y3 y4 po pn pc y6 y7 p (fun j=>j=6\/D j) (gV x b6 (U X me) (J s1 s2 s3) (J s4 s5 s6) (J s7 s8 s9) (J s10 s11 s12) (J s13 s14 s15)):=⟨fun h=>absurd (bL rfl) h,fun _=>⟨⟨(But.of_below hb).trans bs,fun B hB=>dH (b:=b6) (hb.mono (aO hB (Nat.le_of_lt H6.out.lt))) hB (U X me) (J s1 s2 s3) (J s4 s5 s6) (J s7 s8 s9) (J s10 s11 s12) (J s13 s14 s15)⟩,dL h6x (U X me) (J s1 s2 s3) (J s4 s5 s6) (J s7 s8 s9) (J s10 s11 s12) (J s13 s14 s15)⟩⟩;generalize gV x b6 (U X me) (J s1 s2 s3) (J s4 s5 s6) (J s7 s8 s9) (J s10 s11 s12) (J s13 s14 s15)=x2 at *;have q:=hK (bK aZ) x2 trivial ff (fun j u hj dj nl nx ni h=>by
    rcases (by omega:j=0\/j=1\/j=2\/j=3\/j=4\/j=5\/j=6\/j=7) with rfl|rfl|rfl|rfl|rfl|rfl|rfl|rfl
    ·exact h
    ·exact h
    ·exact h
    ·obtain⟨s,h1,h2⟩:=h; exact⟨s,h1,bs.own h2 h6x (by decide)⟩
    ·obtain⟨s,h1,h2⟩:=h; exact⟨s,h1,bs.own h2 h6x (by decide)⟩
    ·obtain⟨s,h1,h2⟩:=h; exact⟨s,bs.own h1 h6x (by decide),bs.own h2 h6x (by decide)⟩
    ·exact h
    ·exact absurd dj n7)
   exact Rg.gu 30 (ah 6) (ah 18) rfl rfl rfl rfl e6 e18 hs q
  ·cases ho;have E23:=seen.at_ ⟨5,.data⟩ (by simp) rfl (ak (by decide)) _ rfl;exact aL rfl rfl (Rg.kP a.eval _ (ah 23) rfl x) (hK _ _ E23 (still 7 (by decide)) fun _ _ _ _ _ _ _ h=>h)
 ·intro a x df sz kp ⟨vs,hv⟩ ⟨D,hall,hF⟩;obtain⟨s,q1,q2⟩:=(hv 7 (by omega)).2 (by decide);have g7:=(hv 7 (by omega)).1 7 rfl;obtain⟨f1,f2⟩:=hF.2 (hall 6 (by omega));obtain⟨ra,rc,hv7⟩:=(Row.dJ q1).len;rw [hv7] at g7 q1;exact HQ.out a x s ra rc df ((kp 6 (nd 6 (by decide))).trans rfl) g7 f2 f1 q1 q2
def RtQ (W:aN) (P:Prop) (r:Br×List Ou) (e:Ending) (w':aN):Prop:=(∃ (nv av sv ev ov s:Sl) (lx:List mX),e=.returned (.tuple #[mG r.1.me nv av sv ev ov,dX s])/\qY w' r.1 nv av sv ev ov/\(P->mo w' r.1 nv av sv ev ov)/\tX w' W.heap.size (dX s) lx r.2)/\Below W.heap.size W w'
theorem Il (b:Br) (s1:Option ay) (s2 s3:Nat) (s4:Option ay) (s5 s6:Nat) (s7:Option ay) (s8 s9:Nat) (s10:Option ay) (s11 s12:Nat) (s13:Option ay) (s14 s15:Nat) (par:Int) (y1 y2 y3 y4:Int) (po:Option ay) (pn pc:Nat) (y6:Int) (y7:Bool) (e:En) (w:aN) (h:qY w b (s1,s2,s3) (s4,s5,s6) (s7,s8,s9) (s10,s11,s12) (s13,s14,s15)) (he:jJ w (y1,y2,y3,y4,(po,pn,pc),y6,y7) e) (hf:Gl b) (hfp:rO b) (hr:jl b.ent) (pe:∀ e∈b.ent,dR e.p) (pp:dR e.p) :
  Calls aX 45 #[aP #[U X b.me,J s1 s2 s3,J s4 s5 s6,J s7 s8 s9,J s10 s11 s12,J s13 s14 s15],U X par,aP #[U X y1,U X y2,U X y3,U X y4,J po pn pc,U X y6,bK y7]] w (RtQ w (mo w b (s1,s2,s3) (s4,s5,s6) (s7,s8,s9) (s10,s11,s12) (s13,s14,s15)) (iM b par e)):=by
 obtain⟨h0,h1,h2,h3⟩:=gT w #[U X b.me,J s1 s2 s3,J s4 s5 s6,J s7 s8 s9,J s10 s11 s12,J s13 s14 s15] #[U X y1,U X y2,U X y3,U X y4,J po pn pc,U X y6,bK y7] #[U X 0,J Y 0 0,J Y 0 0,J Y 0 0,J Y 0 0,J Y 0 0] 30 67 30;have FG:=L (fun W hb=>YW b e (s1,s2,s3) (s4,s5,s6) (s7,s8,s9) (s10,s11,s12) (s13,s14,s15) (y1,y2,y3,y4,(po,pn,pc),y6,y7) W (h.br.on (show Below w.heap.size w W from hb)) (he.on hb) hf hfp hr pe pp);have NO:=L h.no;have RC:=L (show ∀ W,Below w.heap.size w W->mo w b (s1,s2,s3) (s4,s5,s6) (s7,s8,s9) (s10,s11,s12) (s13,s14,s15)->mo W b (s1,s2,s3) (s4,s5,s6) (s7,s8,s9) (s10,s11,s12) (s13,s14,s15) from fun W hb hc=>hc.on hb);have LP:=L (iD pp);have HE:=L he;have UE:=L (show iM b par e=((iB b e).1,if (iB b e).2=aZ then [qJ par e] else []) from rfl);have FM:=L (jO b e);obtain⟨me,hme⟩:∃ me,me=b.me:=⟨_,rfl⟩;have ME:=L hme;simp only [<- hme] at h0 h1 h2 h3 FG ⊢;have gG:=L (h0);have p8:=L (h1);have mQ:=L (h2);have JD:=L (h3);clear h0 h1 h2 h3 h he hf hfp hr pe pp hme;go_enter dw,Tryz.ntmps45;go_upto_region 1 with fail;generalize (((w.alloc (aT #[U X me,J s1 s2 s3,J s4 s5 s6,J s7 s8 s9,J s10 s11 s12,J s13 s14 s15] 30)).alloc (aT #[U X y1,U X y2,U X y3,U X y4,J po pn pc,U X y6,bK y7] 67)).alloc (aT #[U X 0,J Y 0 0,J Y 0 0,J Y 0 0,J Y 0 0,J Y 0 0] 30))=W at *;have SW:=L (FG.out W gG.out);clear FG;have RC2:=L (RC.out W gG.out);have ZA:=L (NO.out.on gG.out);clear RC NO;obtain⟨x0,x1,x2,x3,x4,x5⟩:=p8.out.fD;obtain⟨zD,y_1,y_2,y_3,y_4,y_5,y_6⟩:=mQ.out.pG;go_wp2_with fail;refine SW.out.mono ?_;rintro e1 w1 ⟨⟨⟨m1,m2,m3⟩,⟨m4,m5,m6⟩,⟨m7,m8,m9⟩,⟨m10,m11,m12⟩,⟨m13,m14,m15⟩,rfl,hbr,hno,hbc⟩,hb⟩;clear SW;clear x0 x1 x2 x3 x4 x5 zD y_1 y_2 y_3 y_4 y_5 y_6;have nN:=L (gG.out.trans (hb.mono gG.out.size));have jS:=L (p8.out.on hb);have Fu:=L (mQ.out.on hb);have zC:=L (JD.out.on hb);clear gG p8 mQ JD;generalize hr:(iB b e).2=r at *;have BN:=L (show qY w1 (iB b e).1 (m1,m2,m3) (m4,m5,m6) (m7,m8,m9) (m10,m11,m12) (m13,m14,m15) from ⟨hbr,by rw [FM.out.2.1]; exact (hno ZA.out).elim fun B q=>⟨B,by rw [<- FM.out.2.1]; exact q⟩⟩);have BNC:=L (show (mo w b (s1,s2,s3) (s4,s5,s6) (s7,s8,s9) (s10,s11,s12) (s13,s14,s15)\/r=aZ)->mo w1 (iB b e).1 (m1,m2,m3) (m4,m5,m6) (m7,m8,m9) (m10,m11,m12) (m13,m14,m15) from fun h=>hbc (h.imp RC2.out id));clear hbr hno hbc hb hr RC2 ZA;rw [show (iB b e).1.me=me from by rw [FM.out.1,ME.out]];obtain⟨k0,k1,k2,k3,k4,k5⟩:=jS.out.fD;obtain⟨oP,oQ,oU,oW,oZ,o7⟩:=jS.out.kK;have zz:=jS.out.lt;have bs:=aj w1 w.heap.size (U X me) (J m1 m2 m3) (J m4 m5 m6) (J m7 m8 m9) (J m10 m11 m12) (J m13 m14 m15);have G0:=L (dH (b:=w.heap.size) nN.out (aQ _) (U X me) (J m1 m2 m3) (J m4 m5 m6) (J m7 m8 m9) (J m10 m11 m12) (J m13 m14 m15));have G1:=L (bs.box Fu.out (by omega));have G2:=L (bs.box zC.out (by omega));have G3:=L (BN.out.keep (s1:=(s1,s2,s3)) (s2:=(s4,s5,s6)) (s3:=(s7,s8,s9)) (s4:=(s10,s11,s12)) (s5:=(s13,s14,s15)) (me:=me) jS.out bs);have G4:=L (fun h=>mo.vg (BNC.out h) bs jS.out (by decide) (by decide) (by decide) (by decide) (by decide) (by decide));have G5:=L (dL jS.out (U X me) (J m1 m2 m3) (J m4 m5 m6) (J m7 m8 m9) (J m10 m11 m12) (J m13 m14 m15));clear bs nN Fu zC BN BNC jS;go_upto_region 2 with fail;clear zz k0 k1 k2 k3 k4 k5 oP oQ oU oW oZ o7;unfold gV at G0 G1 G2 G3 G4 G5;generalize ((((((w1.setCell ⟨w.heap.size,0,Y⟩ (U X me)).setCell ⟨w.heap.size,1,Y⟩ (J m1 m2 m3)).setCell ⟨w.heap.size,2,Y⟩ (J m4 m5 m6)).setCell ⟨w.heap.size,3,Y⟩ (J m7 m8 m9)).setCell ⟨w.heap.size,4,Y⟩ (J m10 m11 m12)).setCell ⟨w.heap.size,5,Y⟩ (J m13 m14 m15))=w2 at *;have ji:=L (G0.out);have KJ:=L (G1.out);have Mv:=L (G2.out);have aom:=L (G3.out);have aaj:=L (G4.out);have Eb:=L (G5.out);clear G0 G1 G2 G3 G4 G5;cases r
 ·have x0:=Eb.out.cell 0;have x1:=Eb.out.cell 1;have x2:=Eb.out.cell 2;have x3:=Eb.out.cell 3;have x4:=Eb.out.cell 4;have x5:=Eb.out.cell 5;simp only [au,aC,aD] at x0 x1 x2 x3 x4 x5;have aak:=L (fun h=>aaj.out (bL h));obtain⟨r0,r1,r2,r3,r4,r5⟩:=Mv.out.fD;obtain⟨zW,zX,zY,zZ,z8,Aa⟩:=Mv.out.kK;have zz:=Mv.out.lt;have bs:=aj w2 (w.heap.size+1+1) (U X me) (J m1 m2 m3) (J m4 m5 m6) (J m7 m8 m9) (J m10 m11 m12) (J m13 m14 m15);have GG:=L (dL Mv.out (U X me) (J m1 m2 m3) (J m4 m5 m6) (J m7 m8 m9) (J m10 m11 m12) (J m13 m14 m15));have BL:=L (dH (b:=w.heap.size+1+1) ji.out (by omega) (U X me) (J m1 m2 m3) (J m4 m5 m6) (J m7 m8 m9) (J m10 m11 m12) (J m13 m14 m15));have HB:=L (aom.out.keep (s1:=(Y,0,0)) (s2:=(Y,0,0)) (s3:=(Y,0,0)) (s4:=(Y,0,0)) (s5:=(Y,0,0)) (me:=0) Mv.out bs);have HB2:=L (fun h=>mo.vg (aak.out h) bs Mv.out (by decide) (by decide) (by decide) (by decide) (by decide) (by decide));clear bs;go_wp2_with fail;obtain⟨T,a0,a3,a4,a5,a6⟩:=GG.out.fD;refine bodyPost_ret (v:=.tuple #[aP #[U X me,J m1 m2 m3,J m4 m5 m6,J m7 m8 m9,J m10 m11 m12,J m13 m14 m15],J Y 0 0]) (by simp [results,cB,go_sem,T,a0,a3,a4,a5,a6]) rfl ?_;rw [UE.out,if_neg (by simp)];exact⟨⟨(m1,m2,m3),(m4,m5,m6),(m7,m8,m9),(m10,m11,m12),(m13,m14,m15),(Y,0,0),[],by rw [FM.out.1,ME.out],HB.out,HB2.out,tX.nil _ _⟩,BL.out⟩
 ·have BC:=L (aaj.out (ak rfl));go_upto_region 4 with fail;refine qU _ w2 w.heap.size (w.heap.size+1) (w.heap.size+1+1) me m1 m2 m3 m4 m5 m6 m7 m8 m9 m10 m11 m12 m13 m14 m15 par y1 y2 y3 y4 po pn pc y6 y7 e.p _ _ _ _ _ _ _ _ _ _ _ _ _ _ _ _ _ _ _ _ _ _ _ _ _ _ Eb.out KJ.out Mv.out (by omega) (by omega) (HE.out.2.2.2.2.on ji.out) LP.out ?_;intro a y s ra rc hd h6 h7 hbx hst hou hoc;have HC:=L (BC.out.vg hst.1 Mv.out (by decide) (by decide) (by decide) (by decide) (by decide) (by decide));have BL:=L (ji.out.trans (hst.2 w.heap.size (by omega)));have HO:=L (show tX y w.heap.size (J ra 1 rc) [(par,3,y1,y2,y3,y4,s,(Y,0,0))] [qJ par e] from ⟨dM hou ji.out.size,.cons ⟨rfl,rfl,HE.out.1,HE.out.2.1,dM hoc ji.out.size,rfl⟩ .nil⟩);obtain⟨T,a0,a3,a4,a5,a6⟩:=hbx.fD;simp only [Exit.then]
  apply_assumption
  go_wp2_with fail;refine bodyPost_ret (v:=.tuple #[aP #[U X me,J m1 m2 m3,J m4 m5 m6,J m7 m8 m9,J m10 m11 m12,J m13 m14 m15],J ra 1 rc]) (by simp [results,cB,go_sem,h6,h7,T,a0,a3,a4,a5,a6]) hd ?_;rw [UE.out];simp only [if_true];exact⟨⟨(m1,m2,m3),(m4,m5,m6),(m7,m8,m9),(m10,m11,m12),(m13,m14,m15),(ra,1,rc),_,by rw [FM.out.1,ME.out],⟨HC.out.br,HC.out.no⟩,fun _=>HC.out,HO.out⟩,BL.out⟩
theorem Py {a b:List Cn} (na:NF a) (nb:NF b):pI b a=pI a b:=by
 rw [Bool.eq_iff_iff,BP nb.rise na.rise nb.five,BP na.rise nb.rise na.five];exact⟨fun h=>h.symm nb.rise na.rise nb.iE na.iE,fun h=>h.symm na.rise nb.rise na.iE nb.iE⟩
structure Lens (b:Br) (s:Br×List Ou) (n m:Nat):Prop where
 ent:s.1.ent.length<=b.ent.length+n
 own:s.1.own.length<=b.own.length+1
 out:s.2.length<=m
theorem Mw (b:Br) (x:eU) (p:List C5):Lens b (fF b x p) b.dO.length b.dO.length:=by
 unfold fF
 split
 ·exact⟨Nat.le_add_right _ _,Nat.le_succ _,dx _⟩
 ·obtain⟨h1,_,h3⟩:=kW (b0:=ownIn b x p) (o0:=[]) (fun a=>fU p a.p) (fun a=>jm x p a) (fun a=>a.par) (fun _=>True) (fun _ _=>trivial) (fun _ _ _=>trivial) b.dO.length (aQ _);refine⟨h1.len,?_,by simpa using h3⟩;rw [h1.own];exact Nat.le_of_eq (sF _ _ _)
end Rt
namespace Fl
open Go.RowKit Go.Sort Rw YtghlpefopidlaaaGreat.Nm Pr Bk Av Rl Sb
end Fl
namespace Rt
open Go.RowKit Go.Sort Rw YtghlpefopidlaaaGreat.Nm Pr Bk Av Rl Sb Fl
def akX (_B:Nat) (_b5 _b7 _b8 _b10 n:Nat) (me:Int) (s1:Option ay) (s2 s3:Nat) (s4:Option ay) (s5 s6:Nat) (s7:Option ay) (s8 s9:Nat) (s10:Option ay) (s11 s12:Nat) (s13:Option ay) (s14 s15:Nat) (par t1 t2 x1 x2:Int) (rv:bH) (_lx:List mX) (l:List Ou) (_bb:Br) (_z0 _z1 _z2 _z3 _z4 _z5:bH) (i:Nat) (v:bH) (x:aN):Prop :=
 match i with
 | 0=>v=aP #[U X me,J s1 s2 s3,J s4 s5 s6,J s7 s8 s9,J s10 s11 s12,J s13 s14 s15]
 | 1=>v=rv
 | 2=>v=U X par
 | 3=>v=aP #[U X t1,U X t2]
 | 4=>v=aP #[U X x1,U X x2]
 | 5=>v=aP #[U X 4,U X t1,U X t2,U X x1,U X x2,J Y 0 0,J Y 0 0]
 | 6=>v=uZ (par,4,t1,t2,x1,x2,(Y,0,0),(Y,0,0))
 | 7=>jX x _B v [(par,4,t1,t2,x1,x2,(Y,0,0),(Y,0,0))]
 | 8=>∃ ly:List mX,tX x n v ly (l++[⟨par,4,(t1,t2),(x1,x2),[]⟩])
 | 9=>True
 | 10=>∃ ly:List mX,tX x n v ly (l++[⟨par,4,(t1,t2),(x1,x2),[]⟩])
 | _=>True
def Ec (W:aN) (b5 b7 b8 b10 n:Nat) (me:Int) (s1:Option ay) (s2 s3:Nat) (s4:Option ay) (s5 s6:Nat) (s7:Option ay) (s8 s9:Nat) (s10:Option ay) (s11 s12:Nat) (s13:Option ay) (s14 s15:Nat) (_par t1 t2 x1 x2:Int) (_rv:bH) (_lx:List mX) (_l:List Ou) (bb:Br) (z0 z1 z2 z3 z4 z5:bH) (D:Nat->Prop) (x:aN):Prop:=(¬ D 8->Below W.heap.size W x)/\(D 8->¬ D 9->(Below n W x/\mo x bb (s1,s2,s3) (s4,s5,s6) (s7,s8,s9) (s10,s11,s12) (s13,s14,s15)/\dK x b5 #[U X me,J s1 s2 s3,J s4 s5 s6,J s7 s8 s9,J s10 s11 s12,J s13 s14 s15] 30/\dK x b10 #[z0,z1,z2,z3,z4,z5] 30/\dK x b7 #[U X t1,U X t2] 23/\dK x b8 #[U X x1,U X x2] 23))/\(D 9->Below n W x/\mo x bb (s1,s2,s3) (s4,s5,s6) (s7,s8,s9) (s10,s11,s12) (s13,s14,s15)/\dK x b5 #[U X me,J s1 s2 s3,J s4 s5 s6,J s7 s8 s9,J s10 s11 s12,J s13 s14 s15] 30/\dK x b10 #[U X me,J s1 s2 s3,J s4 s5 s6,J s7 s8 s9,J s10 s11 s12,J s13 s14 s15] 30)
noncomputable def aeE:Code:=((Tryz.f48.body.bind (eO 10)).getD .skip)
theorem aon (Q:Exit->Act->aN->Prop) (W:aN) (b5 b7 b8 b10 n:Nat) (me:Int) (s1:Option ay) (s2 s3:Nat) (s4:Option ay) (s5 s6:Nat) (s7:Option ay) (s8 s9:Nat) (s10:Option ay) (s11 s12:Nat) (s13:Option ay) (s14 s15:Nat) (par t1 t2 x1 x2:Int) (rv:bH) (lx:List mX) (l:List Ou) (bb:Br) (z0 z1 z2 z3 z4 z5:bH) (T a0 a3 a4 a5 a6 a7 a8 aE b9 bJ bQ c7 c8 c9 cA cC cD cF cG cH cI cJ cL cM cN cP cQ cR cS cT cU cV cW cX cY d1 d3 d4 d5 d7 dA dC dE dS dT:bH)
  (h5:dK W b5 #[U X me,J s1 s2 s3,J s4 s5 s6,J s7 s8 s9,J s10 s11 s12,J s13 s14 s15] 30) (h7:dK W b7 #[U X t1,U X t2] 23) (h8:dK W b8 #[U X x1,U X x2] 23) (h10:dK W b10 #[z0,z1,z2,z3,z4,z5] 30) (n5:b5≠b10) (n7:b7≠b10) (n8:b8≠b10) (ar:tX W n rv lx l) (hn:n<=W.heap.size) (hl:lx.length<=900) (bcc:mo W bb (s1,s2,s3) (s4,s5,s6) (s7,s8,s9) (s10,s11,s12) (s13,s14,s15)) (nb:n<=b10)
  (hQ:∀ (a:Act) (y:aN) (ly:List mX) (ra:Option ay) (rc:Nat),a.defers=[]->a.tmps[10]?=O (Z (O ⟨b10,0,Y⟩))->a.tmps[11]?=O (J ra ly.length rc)->dK y b10 #[U X me,J s1 s2 s3,J s4 s5 s6,J s7 s8 s9,J s10 s11 s12,J s13 s14 s15] 30->Below n W y->mo y bb (s1,s2,s3) (s4,s5,s6) (s7,s8,s9) (s10,s11,s12) (s13,s14,s15)->tX y n (J ra ly.length rc) ly (l++[⟨par,4,(t1,t2),(x1,x2),[]⟩])->Q .normal a y) :
  Code.wp aX aeE Q ⟨(T::U X par::a0::a3::a4::Z (O ⟨b5,0,Y⟩)::a5::Z (O ⟨b7,0,Y⟩)::Z (O ⟨b8,0,Y⟩)::a6::Z (O ⟨b10,0,Y⟩)::a7::a8::aE::rv::b9::bJ::bQ::c7::c8::c9::cA::cC::cD::cF::cG::cH::cI::cJ::cL::cM::cN::cP::cQ::cR::cS::cT::cU::cV::cW::cX::cY::d1::d3::d4::d5::d7::dA::dC::dE::dS::dT::[]).toArray,[]⟩ W:=by
 have HQ:=L hQ;have H5:=L h5;have H7:=L h7;have H8:=L h8;have H10:=L h10;have N5:=L n5;have N7:=L n7;have N8:=L n8;have AR:=L ar;have HN:=L hn;have HL:=L hl;have BCC:=L bcc;have NB:=L nb;clear hQ h5 h7 h8 h10 n5 n7 n8 ar hn hl bcc nb;have bx5:∀ D x,Ec W b5 b7 b8 b10 n me s1 s2 s3 s4 s5 s6 s7 s8 s9 s10 s11 s12 s13 s14 s15 par t1 t2 x1 x2 rv lx l bb z0 z1 z2 z3 z4 z5 D x->dK x b5 #[U X me,J s1 s2 s3,J s4 s5 s6,J s7 s8 s9,J s10 s11 s12,J s13 s14 s15] 30:=fun D x hF=>by
  by_cases d8:D 8
  ·by_cases d9:D 9
   ·exact (hF.2.2 d9).2.2.1
   ·exact (hF.2.1 d8 d9).2.2.1
  ·exact H5.out.on (hF.1 d8)
 have aoo:∀ D x,Ec W b5 b7 b8 b10 n me s1 s2 s3 s4 s5 s6 s7 s8 s9 s10 s11 s12 s13 s14 s15 par t1 t2 x1 x2 rv lx l bb z0 z1 z2 z3 z4 z5 D x->¬ D 9->dK x b7 #[U X t1,U X t2] 23:=fun D x hF n9=>by
  by_cases d8:D 8
  ·exact (hF.2.1 d8 n9).2.2.2.2.1
  ·exact H7.out.on (hF.1 d8)
 have aop:∀ D x,Ec W b5 b7 b8 b10 n me s1 s2 s3 s4 s5 s6 s7 s8 s9 s10 s11 s12 s13 s14 s15 par t1 t2 x1 x2 rv lx l bb z0 z1 z2 z3 z4 z5 D x->¬ D 9->dK x b8 #[U X x1,U X x2] 23:=fun D x hF n9=>by
  by_cases d8:D 8
  ·exact (hF.2.1 d8 n9).2.2.2.2.2
  ·exact H8.out.on (hF.1 d8)
 unfold aeE
 conv=>arg 2; whnf
 have nd:∀ j,(∀ i,i<11->[O 43,O 44,O 45,O 46,O 47,O 48,O 49,O 50,O 51,Y,O 11].getD i Y≠O j)->∀ i,i<11->(fun i=>[O 43,O 44,O 45,O 46,O 47,O 48,O 49,O 50,O 51,Y,O 11].getD i Y) i≠O j:=fun j h=>h;refine Rg.oJ 11 (fun i=>[O 43,O 44,O 45,O 46,O 47,O 48,O 49,O 50,O 51,Y,O 11].getD i Y) (fun i=>if i=7 then 8 else 11) (akX W.heap.size b5 b7 b8 b10 n me s1 s2 s3 s4 s5 s6 s7 s8 s9 s10 s11 s12 s13 s14 s15 par t1 t2 x1 x2 rv lx l bb z0 z1 z2 z3 z4 z5) (Ec W b5 b7 b8 b10 n me s1 s2 s3 s4 s5 s6 s7 s8 s9 s10 s11 s12 s13 s14 s15 par t1 t2 x1 x2 rv lx l bb z0 z1 z2 z3 z4 z5) (by kernel_rfl) (by kernel_rfl) rfl (fun i j e hi hj h1 h2=>(by decide:∀ i,i<11->∀ j,j<11->([O 43,O 44,O 45,O 46,O 47,O 48,O 49,O 50,O 51,Y,O 11].getD i Y).isSome=aZ->[O 43,O 44,O 45,O 46,O 47,O 48,O 49,O 50,O 51,Y,O 11].getD i Y=[O 43,O 44,O 45,O 46,O 47,O 48,O 49,O 50,O 51,Y,O 11].getD j Y->i=j) i hi j hj (by have h1:[O 43,O 44,O 45,O 46,O 47,O 48,O 49,O 50,O 51,Y,O 11].getD i Y=O e:=h1; rw [h1]; rfl) (h1.trans h2.symm)) (fun i e hi h=>(by decide:∀ i,i<11->∀ q∈[O 43,O 44,O 45,O 46,O 47,O 48,O 49,O 50,O 51,Y,O 11].getD i Y,q<52) i hi e h) (⟨fun _=>(aF _ _).drew,fun h=>h.elim,fun h=>h.elim⟩) ?_ ?_
 ·intro i o hi ho a x D hnd hc hD hF seen K hK;clear HQ;have still:∀ i,i≠7/\i≠8/\i≠9->Ec W b5 b7 b8 b10 n me s1 s2 s3 s4 s5 s6 s7 s8 s9 s10 s11 s12 s13 s14 s15 par t1 t2 x1 x2 rv lx l bb z0 z1 z2 z3 z4 z5 (fun j=>j=i\/D j) x:=fun i hns=>⟨fun h=>hF.1 fun h2=>h (ak h2),fun h1 h2=>hF.2.1 (h1.resolve_left (Ne.symm hns.2.1)) fun h3=>h2 (ak h3),fun h=>hF.2.2 (h.resolve_left (Ne.symm hns.2.2))⟩;rcases (by omega:i=0\/i=1\/i=2\/i=3\/i=4\/i=5\/i=6\/i=7\/i=8\/i=9\/i=10) with rfl|rfl|rfl|rfl|rfl|rfl|rfl|rfl|rfl|rfl|rfl
  ·cases ho;have e5:a.eval (ah 5)=Z (O ⟨b5,0,Y⟩):=seen.kp 5 _ (nd 5 (by decide)) rfl;obtain⟨y0,y1,y2,y3,y4,y5⟩:=(bx5 D x hF).fD;exact aL rfl rfl (bW a.eval _ 30 (ah 5) rfl (by rw [e5]; simp [go_sem,y0,y1,y2,y3,y4,y5])) (hK _ _ rfl (still 0 (by decide)) fun _ _ _ _ _ _ _ h=>h)
  ·cases ho;have e14:a.eval (ah 14)=rv:=seen.kp 14 _ (nd 14 (by decide)) rfl;exact aL rfl rfl (dn a.eval _ (ah 14) rfl x) (hK _ _ e14 (still 1 (by decide)) fun _ _ _ _ _ _ _ h=>h)
  ·cases ho;have e1:a.eval (ah 1)=U X par:=seen.kp 1 _ (nd 1 (by decide)) rfl;exact aL rfl rfl (dn a.eval _ (ah 1) rfl x) (hK _ _ e1 (still 2 (by decide)) fun _ _ _ _ _ _ _ h=>h)
  ·cases ho;have n9:¬ D 9:=fun h9=>hnd (hc 5 _ (hc 6 _ (hc 7 _ (hc 8 _ (hc 9 _ h9 rfl ⟨8,.chain⟩ (by simp) rfl) rfl ⟨7,.data⟩ (by simp) rfl) rfl ⟨6,.data⟩ (by simp) rfl) rfl ⟨5,.data⟩ (by simp) rfl) rfl ⟨3,.data⟩ (by simp) rfl);have e7:a.eval (ah 7)=Z (O ⟨b7,0,Y⟩):=seen.kp 7 _ (nd 7 (by decide)) rfl;obtain⟨y0,y1⟩:=(aoo D x hF n9).cs2;exact aL rfl rfl (bW a.eval _ 23 (ah 7) rfl (by rw [e7]; simp [go_sem,y0,y1])) (hK _ _ rfl (still 3 (by decide)) fun _ _ _ _ _ _ _ h=>h)
  ·cases ho;have n9:¬ D 9:=fun h9=>hnd (hc 5 _ (hc 6 _ (hc 7 _ (hc 8 _ (hc 9 _ h9 rfl ⟨8,.chain⟩ (by simp) rfl) rfl ⟨7,.data⟩ (by simp) rfl) rfl ⟨6,.data⟩ (by simp) rfl) rfl ⟨5,.data⟩ (by simp) rfl) rfl ⟨4,.data⟩ (by simp) rfl);have e8:a.eval (ah 8)=Z (O ⟨b8,0,Y⟩):=seen.kp 8 _ (nd 8 (by decide)) rfl;obtain⟨y0,y1⟩:=(aop D x hF n9).cs2;exact aL rfl rfl (bW a.eval _ 23 (ah 8) rfl (by rw [e8]; simp [go_sem,y0,y1])) (hK _ _ rfl (still 4 (by decide)) fun _ _ _ _ _ _ _ h=>h)
  ·cases ho;have e46:a.eval (ah 46)=aP #[U X t1,U X t2]:=seen.at_ ⟨3,.data⟩ (by simp) rfl (ak (by decide)) _ rfl;have e47:a.eval (ah 47)=aP #[U X x1,U X x2]:=seen.at_ ⟨4,.data⟩ (by simp) rfl (ak (by decide)) _ rfl;exact aL rfl rfl (Rg.jg a.eval _ 43 #[(0,.const (U X 4)),(1,ah 46),(2,ah 47)] rfl (ps:=#[(0,U X 4),(1,aP #[U X t1,U X t2]),(2,aP #[U X x1,U X x2])]) (by simp only [aY,bg,bG,e46,e47]; rfl) (by simp [go_sem])) (hK _ _ rfl (still 5 (by decide)) fun _ _ _ _ _ _ _ h=>h)
  ·cases ho;have e45:a.eval (ah 45)=U X par:=seen.at_ ⟨2,.data⟩ (by simp) rfl (ak (by decide)) _ rfl;have e48:a.eval (ah 48)=aP #[U X 4,U X t1,U X t2,U X x1,U X x2,J Y 0 0,J Y 0 0]:=seen.at_ ⟨5,.data⟩ (by simp) rfl (ak (by decide)) _ rfl;exact aL rfl rfl (Rg.jg a.eval _ 46 #[(0,ah 45),(1,ah 48)] rfl (ps:=#[(0,U X par),(1,aP #[U X 4,U X t1,U X t2,U X x1,U X x2,J Y 0 0,J Y 0 0])]) (by simp only [aY,bg,bG,e45,e48]) (by simp [go_sem])) (hK _ _ rfl (still 6 (by decide)) fun _ _ _ _ _ _ _ h=>h)
  ·cases ho;have e49:a.eval (ah 49)=uZ (par,4,t1,t2,x1,x2,(Y,0,0),(Y,0,0)):=seen.at_ ⟨6,.data⟩ (by simp) rfl (ak (by decide)) _ rfl;have n8:¬ D 8:=fun h=>hnd (hc 8 _ h rfl ⟨7,.data⟩ (by simp) rfl);have n9:¬ D 9:=fun h=>n8 (hc 9 _ h rfl ⟨8,.chain⟩ (by simp) rfl);have hb:=hF.1 n8;have hl:=jC Ew x [((par,4,t1,t2,x1,x2,(Y,0,0),(Y,0,0)):mX)] 1 rfl (by simp) (jK (par,4,t1,t2,x1,x2,(Y,0,0),(Y,0,0))).toArray (by simp [flat,EU]);have nb:=gN x (aT (jK (par,4,t1,t2,x1,x2,(Y,0,0),(Y,0,0))).toArray 46);exact aL rfl rfl (Rg.iY a.eval _ 37 1 #[(0,ah 49)] rfl (ps:=#[(0,uZ (par,4,t1,t2,x1,x2,(Y,0,0),(Y,0,0)))]) (by simp [e49]) (by simp [go_sem])) (hK (J (O ⟨x.heap.size,0,Y⟩) 1 1) (x.alloc (aT (jK (par,4,t1,t2,x1,x2,(Y,0,0),(Y,0,0))).toArray 46)) (dM hl hb.size) ⟨fun _=>hb.trans (nb.mono hb.size),fun h=>absurd (h.resolve_left (by decide)) n8,fun h=>absurd (h.resolve_left (by decide)) n9⟩ (fun j u hj dj nl nx ni h=>by
    rcases (by omega:j=0\/j=1\/j=2\/j=3\/j=4\/j=5\/j=6\/j=7\/j=8\/j=9\/j=10) with rfl|rfl|rfl|rfl|rfl|rfl|rfl|rfl|rfl|rfl|rfl
    ·exact h
    ·exact h
    ·exact h
    ·exact h
    ·exact h
    ·exact h
    ·exact h
    ·exact absurd rfl ni
    ·exact absurd dj n8
    ·exact h
    ·exact absurd (hc 10 _ dj rfl ⟨8,.data⟩ (by simp) rfl) n8))
  ·cases ho;have e44:a.eval (ah 44)=rv:=seen.at_ ⟨1,.data⟩ (by simp) rfl (ak (by decide)) _ rfl;have E50:=seen.at_ ⟨7,.data⟩ (by simp) rfl (bL rfl) _ rfl;have n9:¬ D 9:=fun h=>hnd (hc 9 _ h rfl ⟨8,.chain⟩ (by simp) rfl);have hb:=hF.1 hnd;have ar:=AR.out.on hb;obtain⟨v',x',r,o',gr⟩:=gZ Ew n ar.row (Row.dJ E50) (by have:=HL.out; omega) (by simp) (aO HN.out hb.size) 37;have hp:=ar.more gr o' (m:=[⟨par,4,(t1,t2),(x1,x2),[]⟩]) (.cons (show OuO _ _ _ _ from ⟨rfl,rfl,rfl,rfl,iO _ _,rfl⟩) .nil);have g1:Below n W x':=(hb.mono HN.out).grown gr (aO HN.out hb.size) (fun j hj=>(ar.row.lt j hj).1);have g2:=mo.app ar.row gr (BCC.out.on hb);have g3:=lQ ar.row gr (H5.out.on hb) (by decide);have g4:=lQ ar.row gr (H10.out.on hb) (by decide);have g5:=lQ ar.row gr (H7.out.on hb) (by decide);have g6:=lQ ar.row gr (H8.out.on hb) (by decide);have ff:Ec W b5 b7 b8 b10 n me s1 s2 s3 s4 s5 s6 s7 s8 s9 s10 s11 s12 s13 s14 s15 par t1 t2 x1 x2 rv lx l bb z0 z1 z2 z3 z4 z5 (fun j=>j=8\/D j) x':=⟨fun h=>absurd (bL rfl) h,fun _ _=>⟨g1,g2,g3,g4,g5,g6⟩,fun h=>absurd (h.resolve_left (by decide)) n9⟩;have q:=hK v' x' ⟨_,hp⟩ ff (fun j u hj dj nl nx ni h=>by
    rcases (by omega:j=0\/j=1\/j=2\/j=3\/j=4\/j=5\/j=6\/j=7\/j=8\/j=9\/j=10) with rfl|rfl|rfl|rfl|rfl|rfl|rfl|rfl|rfl|rfl|rfl
    ·exact h
    ·exact h
    ·exact h
    ·exact h
    ·exact h
    ·exact h
    ·exact h
    ·exact absurd rfl nx
    ·exact absurd rfl ni
    ·exact h
    ·exact absurd (hc 10 _ dj rfl ⟨8,.data⟩ (by simp) rfl) hnd)
   exact aL rfl rfl (Rg.gQ a.eval _ (ah 44) (ah 50) 37 rfl e44 rfl r) q
  ·cases ho;have e10:a.eval (ah 10)=Z (O ⟨b10,0,Y⟩):=seen.kp 10 _ (nd 10 (by decide)) rfl;have e43:a.eval (ah 43)=aP #[U X me,J s1 s2 s3,J s4 s5 s6,J s7 s8 s9,J s10 s11 s12,J s13 s14 s15]:=seen.at_ ⟨0,.data⟩ (by simp) rfl (ak (by decide)) _ rfl;have d8:D 8:=hD ⟨8,.chain⟩ (by simp) rfl;have n10:¬ D 10:=fun h=>hnd (hc 10 _ h rfl ⟨9,.chain⟩ (by simp) rfl);obtain⟨f1,f2,f3,f4,_⟩:=hF.2.1 d8 hnd;have hs:=oD f4 me s1 s4 s7 s10 s13 s2 s3 s5 s6 s8 s9 s11 s12 s14 s15;have bs:=aj x b10 (U X me) (J s1 s2 s3) (J s4 s5 s6) (J s7 s8 s9) (J s10 s11 s12) (J s13 s14 s15);have g1:=dH (b:=b10) f1 NB.out (U X me) (J s1 s2 s3) (J s4 s5 s6) (J s7 s8 s9) (J s10 s11 s12) (J s13 s14 s15);have g2:=f2.vg bs f4 (by decide) (by decide) (by decide) (by decide) (by decide) (by decide);have g3:=bs.box f3 N5.out;have g4:=dL f4 (U X me) (J s1 s2 s3) (J s4 s5 s6) (J s7 s8 s9) (J s10 s11 s12) (J s13 s14 s15);have ff:Ec W b5 b7 b8 b10 n me s1 s2 s3 s4 s5 s6 s7 s8 s9 s10 s11 s12 s13 s14 s15 par t1 t2 x1 x2 rv lx l bb z0 z1 z2 z3 z4 z5 (fun j=>j=9\/D j) (gV x b10 (U X me) (J s1 s2 s3) (J s4 s5 s6) (J s7 s8 s9) (J s10 s11 s12) (J s13 s14 s15)):=⟨fun h=>absurd (ak d8) h,fun _ h=>absurd (bL rfl) h,fun _=>⟨g1,g2,g3,g4⟩⟩;clear g1 g2 g3 g4;generalize gV x b10 (U X me) (J s1 s2 s3) (J s4 s5 s6) (J s7 s8 s9) (J s10 s11 s12) (J s13 s14 s15)=x2 at *;have q:=hK (bK aZ) x2 trivial ff (fun j u hj dj nl nx ni h=>by
    rcases (by omega:j=0\/j=1\/j=2\/j=3\/j=4\/j=5\/j=6\/j=7\/j=8\/j=9\/j=10) with rfl|rfl|rfl|rfl|rfl|rfl|rfl|rfl|rfl|rfl|rfl
    ·exact h
    ·exact h
    ·exact h
    ·exact h
    ·exact h
    ·exact h
    ·exact h
    ·exact absurd d8 nl
    ·obtain⟨ly,h⟩:=h; exact⟨ly,h.but bs f4 (by decide) (by decide)⟩
    ·exact h
    ·exact absurd dj n10)
   exact Rg.gu 30 (ah 10) (ah 43) rfl rfl rfl rfl e10 e43 hs q
  ·cases ho;have E51:=seen.at_ ⟨8,.data⟩ (by simp) rfl (ak (by decide)) _ rfl;exact aL rfl rfl (Rg.kP a.eval _ (ah 51) rfl x) (hK _ _ E51 (still 10 (by decide)) fun _ _ _ _ _ _ _ h=>h)
 ·intro a x df sz kp ⟨vs,hv⟩ ⟨D,hall,hF⟩;obtain⟨ly,q1⟩:=(hv 10 (by omega)).2 (by decide);have g11:=(hv 10 (by omega)).1 11 rfl;obtain⟨f1,f2,_,f4⟩:=hF.2.2 (hall 9 (by omega));obtain⟨ra,rc,hv7⟩:=(Row.dJ q1.row).len;rw [hv7] at g11 q1;exact HQ.out a x ly ra rc df ((kp 10 (nd 10 (by decide))).trans rfl) g11 f4 f1 f2 q1
theorem aiK {V wr:aN} {B:Nat} {v:bH} {p:List C5} (h:PM (vw V) B wr v p):fI wr v p:=h.elim Jd Row.dJ
theorem ac6 (b:Br) (t x:eU) (f:Int) (h:b.ent.length<=900):(takeB b t x f).2.1.length<=900:=aO (qw b t x f).2 h
theorem Vr {l:List En} {k:Nat} {e:En} (par:Int) (h:l[k]?=O e):(l.take (k+1)).map (qJ par)=(l.take k).map (qJ par)++[qJ par e]:=by
 rw [bN,h,aU]
 rfl
theorem Vs (b:Br) (s1:Option ay) (s2 s3:Nat) (s4:Option ay) (s5 s6:Nat) (s7:Option ay) (s8 s9:Nat) (s10:Option ay) (s11 s12:Nat) (s13:Option ay) (s14 s15:Nat) (par t1 t2 x1 x2 f:Int) (w:aN) (h:qY w b (s1,s2,s3) (s4,s5,s6) (s7,s8,s9) (s10,s11,s12) (s13,s14,s15)) (hf:Gl b) (hfp:rO b) (hr:jl b.ent) (pe:∀ e∈b.ent,dR e.p) :
  Calls aX 48 #[aP #[U X b.me,J s1 s2 s3,J s4 s5 s6,J s7 s8 s9,J s10 s11 s12,J s13 s14 s15],U X par,aP #[U X t1,U X t2],aP #[U X x1,U X x2],U X f] w (RtQ w (mo w b (s1,s2,s3) (s4,s5,s6) (s7,s8,s9) (s10,s11,s12) (s13,s14,s15)) (rQ b par (t1,t2) (x1,x2) f)):=by
 obtain⟨h0,h1,h2,h3,h4⟩:=vG w #[U X b.me,J s1 s2 s3,J s4 s5 s6,J s7 s8 s9,J s10 s11 s12,J s13 s14 s15] #[U X t1,U X t2] #[U X x1,U X x2] #[U X 0,J Y 0 0,J Y 0 0,J Y 0 0,J Y 0 0,J Y 0 0] 30 23 23 30;have FG:=L (fun W hb=>U6 b (s1,s2,s3) (s4,s5,s6) (s7,s8,s9) (s10,s11,s12) (s13,s14,s15) (t1,t2) (x1,x2) f W (h.br.on (show Below w.heap.size w W from hb)) hf hfp hr pe);have NO:=L h.no;have RC:=L (show ∀ W,Below w.heap.size w W->mo w b (s1,s2,s3) (s4,s5,s6) (s7,s8,s9) (s10,s11,s12) (s13,s14,s15)->mo W b (s1,s2,s3) (s4,s5,s6) (s7,s8,s9) (s10,s11,s12) (s13,s14,s15) from fun W hb hc=>hc.on hb);have UE:=L (show rQ b par (t1,t2) (x1,x2) f=((takeB b (t1,t2) (x1,x2) f).1,if (takeB b (t1,t2) (x1,x2) f).2.2=aZ then (takeB b (t1,t2) (x1,x2) f).2.1.map (qJ par)++[⟨par,4,(t1,t2),(x1,x2),[]⟩] else []) from rfl);have FM:=L (jP b (t1,t2) (x1,x2) f);have UL:=L (ac6 b (t1,t2) (x1,x2) f hf.ent);have UP:=L (show ∀ e∈(takeB b (t1,t2) (x1,x2) f).2.1,dR e.p from (zL (t1,t2) (x1,x2) f (fun e=>dR e.p) (fun _ _ q=>q) pe).2);obtain⟨me,hme⟩:∃ me,me=b.me:=⟨_,rfl⟩;have ME:=L hme;simp only [<- hme] at h0 h1 h2 h3 h4 FG ⊢;have gG:=L (h0);have aiL:=L (h1);have aiM:=L (h2);have JD:=L (h3);have aeF:=L (h4);clear h0 h1 h2 h3 h4 h hf hfp hr pe hme;go_enter Tryz.func48,Tryz.ntmps48;go_upto_region 1 with fail;generalize hW0:((((w.alloc (aT #[U X me,J s1 s2 s3,J s4 s5 s6,J s7 s8 s9,J s10 s11 s12,J s13 s14 s15] 30)).alloc (aT #[U X t1,U X t2] 23)).alloc (aT #[U X x1,U X x2] 23)).alloc (aT #[U X 0,J Y 0 0,J Y 0 0,J Y 0 0,J Y 0 0,J Y 0 0] 30))=W at *;clear hW0;have SW:=L (FG.out W gG.out);clear FG;have RC2:=L (RC.out W gG.out);have ZA:=L (NO.out.on gG.out);clear RC NO;obtain⟨x0,x1,x2,x3,x4,x5⟩:=aiL.out.fD;obtain⟨zD,y_1⟩:=aiM.out.cs2;obtain⟨z_0,z_1⟩:=JD.out.cs2;go_wp2_with fail;refine SW.out.mono ?_;rintro e1 w1 ⟨⟨⟨m1,m2,m3⟩,⟨m4,m5,m6⟩,⟨m7,m8,m9⟩,⟨m10,m11,m12⟩,⟨m13,m14,m15⟩,⟨g1,g2,g3⟩,lu,rfl,hbr,hru,hau,hno,hbc,aeG,⟨V0,HV0⟩⟩,hb⟩;clear SW;clear x0 x1 x2 x3 x4 x5 zD y_1 z_0 z_1;have ji:=L (gG.out.trans (hb.mono gG.out.size));have AJ:=L (aiL.out.on hb);have akY:=L (aiM.out.on hb);have Jl:=L (JD.out.on hb);have aal:=L (aeF.out.on hb);clear gG aiL aiM JD aeF;have UN:=L (show lu.length=(takeB b (t1,t2) (x1,x2) f).2.1.length from hau.len);have UG:=L (show lu.length=g2 from iX hru);obtain⟨ups,akZ⟩:∃ l,l=(takeB b (t1,t2) (x1,x2) f).2.1:=⟨_,rfl⟩;rw [<- akZ] at hau UN UL UP UE HV0;clear akZ;generalize hr:(takeB b (t1,t2) (x1,x2) f).2.2=r at *;have BN:=L (show qY w1 (takeB b (t1,t2) (x1,x2) f).1 (m1,m2,m3) (m4,m5,m6) (m7,m8,m9) (m10,m11,m12) (m13,m14,m15) from ⟨hbr,hno ZA.out⟩);have BNC:=L (show (mo w b (s1,s2,s3) (s4,s5,s6) (s7,s8,s9) (s10,s11,s12) (s13,s14,s15)\/r=aZ)->mo w1 (takeB b (t1,t2) (x1,x2) f).1 (m1,m2,m3) (m4,m5,m6) (m7,m8,m9) (m10,m11,m12) (m13,m14,m15) from fun h=>hbc (h.imp RC2.out id));have RU:=L hru;have AU:=L hau;clear hbr hno hbc hb hr RC2 ZA hru hau;rw [show (takeB b (t1,t2) (x1,x2) f).1.me=me from by rw [FM.out.2.2.1,ME.out]];have HW1:=L (show w.heap.size+1+1+1+1<=w1.heap.size from aal.out.lt);have OV:=L aeG;have AV:=L (show eY (tK (vw V0) W.heap.size w1) lu ups from HV0);clear aeG HV0;obtain⟨k0,k1,k2,k3,k4,k5⟩:=AJ.out.fD;obtain⟨oP,oQ,oU,oW,oZ,o7⟩:=AJ.out.kK;have zz:=AJ.out.lt;have bs:=aj w1 w.heap.size (U X me) (J m1 m2 m3) (J m4 m5 m6) (J m7 m8 m9) (J m10 m11 m12) (J m13 m14 m15);have G0:=L (dH (b:=w.heap.size) ji.out (aQ _) (U X me) (J m1 m2 m3) (J m4 m5 m6) (J m7 m8 m9) (J m10 m11 m12) (J m13 m14 m15));have G1:=L (bs.box akY.out (by omega));have G2:=L (bs.box Jl.out (by omega));have G3:=L (bs.box aal.out (by omega));have G4:=L (BN.out.keep (s1:=(s1,s2,s3)) (s2:=(s4,s5,s6)) (s3:=(s7,s8,s9)) (s4:=(s10,s11,s12)) (s5:=(s13,s14,s15)) (me:=me) AJ.out bs);have G5:=L (fun h=>mo.vg (BNC.out h) bs AJ.out (by decide) (by decide) (by decide) (by decide) (by decide) (by decide));have G6:=L (bs.own OV.out AJ.out (by decide));have G7:=L (AV.out.mono fun _ _ q=>q.but bs AJ.out (by decide));have G8:=L (dL AJ.out (U X me) (J m1 m2 m3) (J m4 m5 m6) (J m7 m8 m9) (J m10 m11 m12) (J m13 m14 m15));clear bs ji akY Jl aal BN BNC OV AV AJ;go_upto_region 2 with fail;clear zz k0 k1 k2 k3 k4 k5 oP oQ oU oW oZ o7;unfold gV at G0 G1 G2 G3 G4 G5 G6 G7 G8;generalize ((((((w1.setCell ⟨w.heap.size,0,Y⟩ (U X me)).setCell ⟨w.heap.size,1,Y⟩ (J m1 m2 m3)).setCell ⟨w.heap.size,2,Y⟩ (J m4 m5 m6)).setCell ⟨w.heap.size,3,Y⟩ (J m7 m8 m9)).setCell ⟨w.heap.size,4,Y⟩ (J m10 m11 m12)).setCell ⟨w.heap.size,5,Y⟩ (J m13 m14 m15))=w2 at *;have lU:=L (G0.out);have ak0:=L (G1.out);have Dy:=L (G2.out);have tY:=L (G3.out);have Mx:=L (G4.out);have Pz:=L (G5.out);have aeH:=L (G6.out);have aeI:=L (G7.out);have Aj:=L (G8.out);clear G0 G1 G2 G3 G4 G5 G6 G7 G8;cases r
 ·have x0:=Aj.out.cell 0;have x1:=Aj.out.cell 1;have x2:=Aj.out.cell 2;have x3:=Aj.out.cell 3;have x4:=Aj.out.cell 4;have x5:=Aj.out.cell 5;simp only [au,aC,aD] at x0 x1 x2 x3 x4 x5;have aak:=L (fun h=>Pz.out (bL h));obtain⟨r0,r1,r2,r3,r4,r5⟩:=tY.out.fD;obtain⟨zW,zX,zY,zZ,z8,Aa⟩:=tY.out.kK;have zz:=tY.out.lt;have bs:=aj w2 (w.heap.size+1+1+1) (U X me) (J m1 m2 m3) (J m4 m5 m6) (J m7 m8 m9) (J m10 m11 m12) (J m13 m14 m15);have GG:=L (dL tY.out (U X me) (J m1 m2 m3) (J m4 m5 m6) (J m7 m8 m9) (J m10 m11 m12) (J m13 m14 m15));have BL:=L (dH (b:=w.heap.size+1+1+1) lU.out (by omega) (U X me) (J m1 m2 m3) (J m4 m5 m6) (J m7 m8 m9) (J m10 m11 m12) (J m13 m14 m15));have HB:=L (Mx.out.keep (s1:=(Y,0,0)) (s2:=(Y,0,0)) (s3:=(Y,0,0)) (s4:=(Y,0,0)) (s5:=(Y,0,0)) (me:=0) tY.out bs);have HB2:=L (fun h=>mo.vg (aak.out h) bs tY.out (by decide) (by decide) (by decide) (by decide) (by decide) (by decide));clear bs;go_wp2_with fail;obtain⟨T,a0,a3,a4,a5,a6⟩:=GG.out.fD;refine bodyPost_ret (v:=.tuple #[aP #[U X me,J m1 m2 m3,J m4 m5 m6,J m7 m8 m9,J m10 m11 m12,J m13 m14 m15],J Y 0 0]) (by simp [results,cK,go_sem,T,a0,a3,a4,a5,a6]) rfl ?_;rw [UE.out,if_neg (by simp)];exact⟨⟨(m1,m2,m3),(m4,m5,m6),(m7,m8,m9),(m10,m11,m12),(m13,m14,m15),(Y,0,0),[],by rw [FM.out.2.2.1,ME.out],HB.out,HB2.out,tX.nil _ _⟩,BL.out⟩
 ·have BC:=L (Pz.out (ak rfl));clear Pz Mx;obtain rfl:lu.length=g2:=UG.out;clear UG;generalize hg2:lu.length=g2 at *;have G2:=L hg2;clear hg2;go_wp2_with fail;have HW2:=L (show w.heap.size+1+1+1+1<=w2.heap.size from tY.out.lt)
  go_loopw [14,31] (fun v i wr=>∃ (k:Nat) (lx:List mX),k<=g2/\i=U X k/\Below w.heap.size w wr/\dK wr w.heap.size #[U X me,J m1 m2 m3,J m4 m5 m6,J m7 m8 m9,J m10 m11 m12,J m13 m14 m15] 30/\dK wr (w.heap.size+1) #[U X t1,U X t2] 23/\dK wr (w.heap.size+1+1) #[U X x1,U X x2] 23/\dK wr (w.heap.size+1+1+1) #[U X 0,J Y 0 0,J Y 0 0,J Y 0 0,J Y 0 0,J Y 0 0] 30/\mo wr (takeB b (t1,t2) (x1,x2) f).1 (m1,m2,m3) (m4,m5,m6) (m7,m8,m9) (m10,m11,m12) (m13,m14,m15)/\jH wr W.heap.size (dX (g1,g2,g3)) lu/\eY (tK (vw V0) W.heap.size wr) lu ups/\tX wr w.heap.size v lx ((ups.take k).map (qJ par))/\w2.heap.size<=wr.heap.size) (fun _ i _=>g2-(intOf i).toNat)
  case atStart=>exact⟨0,[],dx _,rfl,lU.out,Aj.out,ak0.out,Dy.out,tY.out,BC.out,aeH.out,aeI.out,tX.nil _ _,aQ _⟩
  case round =>
   clear lU Aj ak0 Dy tY BC aeH aeI;obtain⟨k,lx,hk,rfl,hgb,hx5,hx7,QB,ak1,hbc,hov,hav,hou,hsz⟩:=hrel;have MF:=L (hgb);have aam:=L (hx5);have aan:=L (hx7);have aao:=L (QB);have PD:=L (ak1);have aap:=L (hbc);have aaq:=L (hov);have aar:=L (hav);have sS:=L (hou);have HSZ:=L hsz;clear hgb hx5 hx7 QB ak1 hbc hov hav hou hsz;by_cases hlt:k<g2
   ·have hlt':(k:Int)<(g2:Int):=by omega
    have hw:IntKind.i64.wrap ((k:Int)+1)=(k:Int)+1:=IntWalk.i64_in _ (by have:=UL.out; have:=UN.out; have:=G2.out; omega);obtain⟨e,he⟩:∃ e,ups[k]?=O e:=⟨_,bf (by rw [<- UN.out]; exact hlt)⟩;have US:=L (Vr par he);have PE:=L (UP.out e (aG he));obtain⟨z,hz1,hz2⟩:=aar.out.at k e he;obtain⟨pq,ix,px⟩:=P8 (Row.dJ aaq.out) rfl G2.out hz1;obtain⟨p0,p1,p2,p3,p4,p5,p6⟩:=px wr (aF _ _);obtain⟨y1,y2,y3,y4,⟨yo,yn,yc⟩,y6,y7⟩:=z;have ZT:=L (show (y1,y2)=e.tree from hz2.1);have ZS:=L (show (y3,y4)=e.sub from hz2.2.1);have PO:=L (show fI wr (J yo yn yc) e.p from aiK hz2.2.2.2.2);simp only at p0 p1 p2 p3 p4 p5 p6;clear px hz1 hz2 he;go_upto_region 8 with fail;clear p0 p1 p2 p3 p4 p5 p6 ix;have NN:=gN wr (aT #[U X y1,U X y2,U X y3,U X y4,J yo yn yc,U X y6,bK y7] 67);have lX:=L (MF.out.trans (NN.mono MF.out.size));have aeJ:=L (aam.out.on NN);have aeK:=L (aan.out.on NN);have MG:=L (aao.out.on NN);have aas:=L (PD.out.on NN);have Ak:=L (aap.out.on NN);have aeL:=L (Bk.dI aaq.out NN);have aeM:=L (aar.out.mono fun _ _ q=>q.grow NN);have Al:=L (sS.out.on NN);have aeN:=L (PO.out.on NN);clear MF aam aan aao PD aap aaq aar sS PO;have Am:=L (dQ wr #[U X y1,U X y2,U X y3,U X y4,J yo yn yc,U X y6,bK y7] 67);clear NN;have HS2:=L (show w2.heap.size<=(wr.alloc (aT #[U X y1,U X y2,U X y3,U X y4,J yo yn yc,U X y6,bK y7] 67)).heap.size from by have:=HSZ.out; simp; omega);generalize wr.alloc (aT #[U X y1,U X y2,U X y3,U X y4,J yo yn yc,U X y6,bK y7] 67)=wa at *;generalize wr.heap.size=bE at *;have SB:=L (Hy (y1,y2,y3,y4,(yo,yn,yc),y6,y7) e.p wa aeN.out (iD PE.out));obtain⟨e_0,e_1,e_2,e_3,e_4,e_5,e_6⟩:=Am.out.pG;go_wp2_with fail;refine SB.out.mono ?_;rintro e5 wb ⟨⟨⟨q1,q2,q3⟩,rfl,hoc⟩,hb⟩;clear SB;clear e_0 e_1 e_2 e_3 e_4 e_5 e_6;clear aeN;have iF:=L (lX.out.trans (hb.mono lX.out.size));have ak2:=L (aeJ.out.on hb);have uj:=L (aeK.out.on hb);have um:=L (MG.out.on hb);have aiN:=L (aas.out.on hb);have Ao:=L (Ak.out.on hb);have ak3:=L (Bk.dI aeL.out hb);have ak4:=L (aeM.out.mono fun _ _ q=>q.grow hb);have Ap:=L (Al.out.on hb);have aqd:=L (Am.out.on hb);clear lX aeJ aeK MG aas Ak aeL aeM Al Am;have HS3:=L (aO HS2.out hb.size);have OC:=L (dM hoc (show w.heap.size<=wa.heap.size from by have:=HW1.out; have:=HS2.out; have:=HW2.out; omega));clear hoc hb HS2;have Rq:=gN wb (aT (jK (par,3,y1,y2,y3,y4,(q1,q2,q3),(Y,0,0))).toArray 46);have hl:=jC Ew wb [((par,3,y1,y2,y3,y4,(q1,q2,q3),(Y,0,0)):mX)] 1 rfl (by simp) (jK (par,3,y1,y2,y3,y4,(q1,q2,q3),(Y,0,0))).toArray (by simp [flat,EU]);have OUb:=Ap.out.on Rq;have OCb:=Bk.dI OC.out Rq;obtain⟨v',x,hrun,ho,gr⟩:=gZ Ew w.heap.size OUb.row (Row.dJ hl) (by rw [OUb.len,bV,aS]; have h1:=UL.out; omega) (by simp) (iF.out.trans (Rq.mono iF.out.size)).size 37;have hp:=OUb.more gr ho (m:=[⟨par,3,(y1,y2),(y3,y4),e.p⟩]) (.cons (show OuO _ _ _ _ from ⟨rfl,rfl,rfl,rfl,OCb,rfl⟩) .nil);have V0_:=L ((iF.out.trans (Rq.mono iF.out.size)).grown gr (iF.out.trans (Rq.mono iF.out.size)).size (fun j hj=>(OUb.row.lt j hj).1));have V1_:=L (lQ OUb.row gr (ak2.out.on Rq) (by decide));have V2_:=L (lQ OUb.row gr (uj.out.on Rq) (by decide));have V3_:=L (lQ OUb.row gr (um.out.on Rq) (by decide));have V4_:=L (lQ OUb.row gr (aiN.out.on Rq) (by decide));have TG:=jF OUb.row;have hoff:Off _ (wb.alloc (aT (jK (par,3,y1,y2,y3,y4,(q1,q2,q3),(Y,0,0))).toArray 46)) x:=⟨fun j hj hne=>gr.block j hj hne,gr.size⟩;have V5_:=L (mo.app OUb.row gr (Ao.out.on Rq));have V6_:=L (hoff.own (Bk.dI ak3.out Rq) TG (by decide));have V7_:=L (ak4.out.mono fun _ _ q=>(q.grow Rq).off hoff TG (by decide));have V8_:=L hp;have V9_:=L (aO HS3.out (aO Rq.size hoff.2));have hrun:(Builtin.append_ #[37,37] 37 #[_,J (O ⟨wb.heap.size,0,Y⟩) 1 1]).run aX (wb.alloc (aT (jK (par,3,y1,y2,y3,y4,(q1,q2,q3),(Y,0,0))).toArray 46))=.ok v' x:=hrun;clear hl OUb OCb ho gr hp hoff TG Rq;go_wp2_with (first | (at_builtin; refine wpList_append_run rfl _ _ 37 rfl rfl rfl hrun ?_) | fail)
    go_roundw
    case rel=>exact⟨k+1,_,hlt,by go_num,V0_.out,V1_.out,V2_.out,V3_.out,V4_.out,V5_.out,V6_.out,V7_.out,by rw [US.out,show qJ par e=⟨par,3,(y1,y2),(y3,y4),e.p⟩ from by unfold qJ; rw [ZT.out,ZS.out]]; exact V8_.out,V9_.out⟩
    case measure=>simp [intOf]; omega
   ·obtain rfl:k=g2:=by omega
    have OE:=L (show tX wr w.heap.size _ lx (ups.map (qJ par)) from by have h:=sS.out; rw [List.take_of_length_le (by rw [<- UN.out]; exact aQ _)] at h; exact h);go_upto_region 10 with fail;refine aon _ wr w.heap.size (w.heap.size+1) (w.heap.size+1+1) (w.heap.size+1+1+1) w.heap.size me m1 m2 m3 m4 m5 m6 m7 m8 m9 m10 m11 m12 m13 m14 m15 par t1 t2 x1 x2 _ lx (ups.map (qJ par)) (takeB b (t1,t2) (x1,x2) f).1 _ _ _ _ _ _ _ _ _ _ _ _ _ _ _ _ _ _ _ _ _ _ _ _ _ _ _ _ _ _ _ _ _ _ _ _ _ _ _ _ _ _ _ _ _ _ _ _ _ _ _ _ aam.out aan.out aao.out PD.out (by omega) (by omega) (by omega) OE.out MF.out.size (by rw [OE.out.len,bV]; exact UL.out) aap.out (by omega) ?_;intro a y ly ra rc hd h6 h7 hbx hbl hbc hou;have BL:=L (MF.out.trans hbl);have HC:=L hbc;have HO:=L hou;obtain⟨T,a0,a3,a4,a5,a6⟩:=hbx.fD;simp only [Exit.then]
    apply_assumption
    go_wp2_with fail;refine bodyPost_ret (v:=.tuple #[aP #[U X me,J m1 m2 m3,J m4 m5 m6,J m7 m8 m9,J m10 m11 m12,J m13 m14 m15],J ra ly.length rc]) (by simp [results,cK,go_sem,h6,h7,T,a0,a3,a4,a5,a6]) hd ?_;rw [UE.out];simp only [if_true];exact⟨⟨(m1,m2,m3),(m4,m5,m6),(m7,m8,m9),(m10,m11,m12),(m13,m14,m15),(ra,ly.length,rc),ly,by rw [FM.out.2.2.1,ME.out],⟨HC.out.br,HC.out.no⟩,fun _=>HC.out,HO.out⟩,BL.out⟩
theorem ac7 (b:Br) (s1:Option ay) (s2 s3:Nat) (s4:Option ay) (s5 s6:Nat) (s7:Option ay) (s8 s9:Nat) (s10:Option ay) (s11 s12:Nat) (s13:Option ay) (s14 s15:Nat) (t1 t2:Int) (w:aN) (h:jq w b (s1,s2,s3) (s4,s5,s6) (s7,s8,s9) (s10,s11,s12) (s13,s14,s15)) (hfp:rO b) :
  Calls aX 46 #[aP #[U X b.me,J s1 s2 s3,J s4 s5 s6,J s7 s8 s9,J s10 s11 s12,J s13 s14 s15],aP #[U X t1,U X t2]] w fun e w'=>e=.returned (U X (mV b (t1,t2)))/\Below w.heap.size w w':=by
 obtain⟨h0,X2,X3⟩:=iI w #[U X b.me,J s1 s2 s3,J s4 s5 s6,J s7 s8 s9,J s10 s11 s12,J s13 s14 s15] #[U X t1,U X t2] 30 23;obtain⟨la,ha1,ha2⟩:=h.dO;have SW:=L (Kt b.me (J s1 s2 s3) (J s7 s8 s9) (J s10 s11 s12) (J s13 s14 s15) (s4,s5,s6) la b.dO (t1,t2) _ (ha1.on h0) (ha2.mono fun _ _ q=>q.on h0) hfp.dO);have BB:=L h0;obtain⟨x0,x1,x2,x3,x4,x5⟩:=X2.fD;obtain⟨y0,y1⟩:=X3.cs2;clear h0 X2 X3 ha1 ha2 h hfp;go_enter dB,Tryz.ntmps46;go_wp2_with fail;generalize (w.alloc (aT #[U X b.me,J s1 s2 s3,J s4 s5 s6,J s7 s8 s9,J s10 s11 s12,J s13 s14 s15] 30)).alloc (aT #[U X t1,U X t2] 23)=W at *;refine SW.out.mono ?_;rintro e1 w1 ⟨hq,hb⟩;obtain⟨⟨r1,r2,⟨ro,rn,rc⟩,r4⟩,kn,rfl,hin⟩:∃ (r:kY) (kn:Bool),e1=.returned (.tuple #[nD r,bK kn])/\r.2.2.2=mV b (t1,t2):=by
  unfold mV;cases hfa:gJ b.dO (t1,t2) with
  | none =>
   rw [hfa] at hq;exact⟨_,aI,hq,rfl⟩
  | some a =>
   rw [hfa] at hq;obtain⟨r,h1,h2⟩:=hq;exact⟨r,aZ,h1,h2.2.1⟩
 have HI:=L hin;have BW:=L (BB.out.trans (hb.mono BB.out.size));clear hq hin hb SW x0 x1 x2 x3 x4 x5 y0 y1;go_wp2;go_ret;exact⟨by rw [<- HI.out]; rfl,(BW.out.alloc BW.out.size _)⟩
def aos (_B:Nat) (_b3 b5 _bb:Nat) (P:Prop) (b:Br) (s1:Option ay) (s2 s3:Nat) (s4:Option ay) (s5 s6:Nat) (s7:Option ay) (s8 s9:Nat) (s10:Option ay) (s11 s12:Nat) (s13:Option ay) (s14 s15:Nat) (f _kd t1 t2 x1 x2:Int) (po:Option ay) (pn pc:Nat) (p:List C5) (i:Nat) (v:bH) (x:aN):Prop :=
 match i with
 | 0=>v=mG b.me (s1,s2,s3) (s4,s5,s6) (s7,s8,s9) (s10,s11,s12) (s13,s14,s15)
 | 1=>v=mG b.me (s1,s2,s3) (s4,s5,s6) (s7,s8,s9) (s10,s11,s12) (s13,s14,s15)
 | 2=>v=Z (O ⟨b5,1,Y⟩)
 | 3=>v=aP #[U X t1,U X t2]
 | 4=>v=U X (mV b (t1,t2))
 | 5=>v=Z (O ⟨b5,1,Y⟩)
 | 6=>v=aP #[U X t1,U X t2]
 | 7=>v=Z (O ⟨b5,3,Y⟩)
 | 8=>v=aP #[U X x1,U X x2]
 | 9=>v=Z (O ⟨b5,5,Y⟩)
 | 10=>v=J po pn pc
 | 11=>v=U X f
 | 12=>v=aP #[U X t1,U X t2,U X x1,U X x2,J po pn pc,U X f,bK aI]
 | 13=>∃ (nv av sv ev ov s:Sl) (lx:List mX),v=.tuple #[mG (iM b (mV b (t1,t2)) (⟨(t1,t2),(x1,x2),p,f,aI⟩:En)).1.me nv av sv ev ov,dX s]/\qY x (iM b (mV b (t1,t2)) (⟨(t1,t2),(x1,x2),p,f,aI⟩:En)).1 nv av sv ev ov/\(P->mo x (iM b (mV b (t1,t2)) (⟨(t1,t2),(x1,x2),p,f,aI⟩:En)).1 nv av sv ev ov)/\tX x _B (dX s) lx (iM b (mV b (t1,t2)) (⟨(t1,t2),(x1,x2),p,f,aI⟩:En)).2
 | 14=>∃ (nv av sv ev ov:Sl),v=mG (iM b (mV b (t1,t2)) (⟨(t1,t2),(x1,x2),p,f,aI⟩:En)).1.me nv av sv ev ov/\qY x (iM b (mV b (t1,t2)) (⟨(t1,t2),(x1,x2),p,f,aI⟩:En)).1 nv av sv ev ov/\(P->mo x (iM b (mV b (t1,t2)) (⟨(t1,t2),(x1,x2),p,f,aI⟩:En)).1 nv av sv ev ov)
 | 15=>∃ (s:Sl) (lx:List mX),v=dX s/\tX x _B (dX s) lx (iM b (mV b (t1,t2)) (⟨(t1,t2),(x1,x2),p,f,aI⟩:En)).2
 | 16=>True
 | 17=>∃ (s:Sl) (lx:List mX),v=dX s/\tX x _B (dX s) lx (iM b (mV b (t1,t2)) (⟨(t1,t2),(x1,x2),p,f,aI⟩:En)).2
 | _=>True
noncomputable def ak5:Code:=((Tryz.f11.body.bind (eO 1)).getD .skip)
theorem os1 (Q:Exit->Act->aN->Prop) (W:aN) (b3 b5 bb:Nat) (P:Prop) (b:Br) (s1:Option ay) (s2 s3:Nat) (s4:Option ay) (s5 s6:Nat) (s7:Option ay) (s8 s9:Nat) (s10:Option ay) (s11 s12:Nat) (s13:Option ay) (s14 s15:Nat) (f kd t1 t2 x1 x2:Int) (po:Option ay) (pn pc:Nat) (p:List C5) (T a0 a7 a8 aE b9 bJ bQ c7 c8 c9 cA cC cD cF cG cH cI cJ cL:bH)
  (ku:dK W bb #[U X 0,J Y 0 0,J Y 0 0,J Y 0 0,J Y 0 0,J Y 0 0] 30) (hx:dK W b3 #[U X b.me,J s1 s2 s3,J s4 s5 s6,J s7 s8 s9,J s10 s11 s12,J s13 s14 s15] 30) (hm:dK W b5 #[U X kd,U X t1,U X t2,U X x1,U X x2,J po pn pc,J Y 0 0] 43) (bn:qY W b (s1,s2,s3) (s4,s5,s6) (s7,s8,s9) (s10,s11,s12) (s13,s14,s15)) (pcq:P->mo W b (s1,s2,s3) (s4,s5,s6) (s7,s8,s9) (s10,s11,s12) (s13,s14,s15)) (fb:Gl b) (fp:rO b) (re:jl b.ent) (pe:∀ e∈b.ent,dR e.p) (hp:fI W (J po pn pc) p) (pp:dR p)
  (hQ:∀ (x:aN) (cM cN cP cQ cR cS cT cU cV cW cX cY d1 d3 d4 d5:bH) (m1:Option ay) (m2 m3:Nat) (m4:Option ay) (m5 m6:Nat) (m7:Option ay) (m8 m9:Nat) (m10:Option ay) (m11 m12:Nat) (m13:Option ay) (m14 m15:Nat) (o1:Option ay) (o2 o3:Nat) (lx:List mX),dK x bb #[U X (iM b (mV b (t1,t2)) (⟨(t1,t2),(x1,x2),p,f,aI⟩:En)).1.me,J m1 m2 m3,J m4 m5 m6,J m7 m8 m9,J m10 m11 m12,J m13 m14 m15] 30->qY x (iM b (mV b (t1,t2)) (⟨(t1,t2),(x1,x2),p,f,aI⟩:En)).1 (m1,m2,m3) (m4,m5,m6) (m7,m8,m9) (m10,m11,m12) (m13,m14,m15)->(P->mo x (iM b (mV b (t1,t2)) (⟨(t1,t2),(x1,x2),p,f,aI⟩:En)).1 (m1,m2,m3) (m4,m5,m6) (m7,m8,m9) (m10,m11,m12) (m13,m14,m15))->tX x W.heap.size (dX (o1,o2,o3)) lx (iM b (mV b (t1,t2)) (⟨(t1,t2),(x1,x2),p,f,aI⟩:En)).2->Rg.Sto bb W x->Q .normal ⟨(T::U X f::a0::Z (O ⟨b3,0,Y⟩)::a7::Z (O ⟨b5,0,Y⟩)::Z (O ⟨bb,0,Y⟩)::dX (o1,o2,o3)::cM::cN::cP::cQ::cR::cS::cT::cU::cV::cW::cX::cY::d1::d3::d4::d5::[]).toArray,[]⟩ x) :
  Code.wp aX ak5 Q ⟨(T::U X f::a0::Z (O ⟨b3,0,Y⟩)::a7::Z (O ⟨b5,0,Y⟩)::Z (O ⟨bb,0,Y⟩)::a8::aE::b9::bJ::bQ::c7::c8::c9::cA::cC::cD::cF::cG::cH::cI::cJ::cL::[]).toArray,[]⟩ W:=by
 have HQ:=L hQ;have HB:=L ku;have HX:=L hx;have HM:=L hm;have BN:=L bn;have HPC:=L pcq;have FB:=L fb;have FP:=L fp;have RE:=L re;have PE:=L pe;have HP:=L hp;have PP:=L pp;clear hQ ku hx hm bn pcq fb fp re pe hp pp;unfold ak5
 conv=>arg 2; whnf
 have nb1:∀ i,i<18->[8,9,10,11,12,13,14,15,16,17,18,19,20,21,22,23,22,7].getD i 0≠1:=by decide
 have nb3:∀ i,i<18->[8,9,10,11,12,13,14,15,16,17,18,19,20,21,22,23,22,7].getD i 0≠3:=by decide
 have nb5:∀ i,i<18->[8,9,10,11,12,13,14,15,16,17,18,19,20,21,22,23,22,7].getD i 0≠5:=by decide
 have nb6:∀ i,i<18->[8,9,10,11,12,13,14,15,16,17,18,19,20,21,22,23,22,7].getD i 0≠6:=by decide
 refine Rg.UH 18 16 14 (fun i=>[8,9,10,11,12,13,14,15,16,17,18,19,20,21,22,23,22,7].getD i 0) (fun i=>18) (aos W.heap.size b3 b5 bb P b s1 s2 s3 s4 s5 s6 s7 s8 s9 s10 s11 s12 s13 s14 s15 f kd t1 t2 x1 x2 po pn pc p) (fun i=>i == 15 || i == 17) 30 bb #[U X 0,J Y 0 0,J Y 0 0,J Y 0 0,J Y 0 0,J Y 0 0] (fun v=>match v with | aP c=>c | _=>#[]) (by kernel_rfl) (by kernel_rfl) rfl (by decide) (by decide) (by decide) (by decide) HB.out (fun i j hi hj h1 h2 h=>(by decide:∀ i,i<18->∀ j,j<18->i≠16->j≠16->[8,9,10,11,12,13,14,15,16,17,18,19,20,21,22,23,22,7].getD i 0=[8,9,10,11,12,13,14,15,16,17,18,19,20,21,22,23,22,7].getD j 0->i=j) i hi j hj h1 h2 h) (fun i hi _=>(by decide:∀ i,i<18->[8,9,10,11,12,13,14,15,16,17,18,19,20,21,22,23,22,7].getD i 0<24) i hi) ?_ ?_ (by decide) ?_ ?_ (fun j h1 h2=>(by decide:∀ j,j<18->j≠16->18<=(fun i=>18) j\/((fun i=>18) j<18/\(fun i=>18) j≠16/\(fun i=>i == 15 || i == 17) ((fun i=>18) j)=aI)) j h1 h2) ?_
 ·intro i v x x' hi h hb;rcases (by omega:i=0\/i=1\/i=2\/i=3\/i=4\/i=5\/i=6\/i=7\/i=8\/i=9\/i=10\/i=11\/i=12\/i=13\/i=14\/i=15\/i=16\/i=17) with rfl|rfl|rfl|rfl|rfl|rfl|rfl|rfl|rfl|rfl|rfl|rfl|rfl|rfl|rfl|rfl|rfl|rfl
  ·exact h
  ·exact h
  ·exact h
  ·exact h
  ·exact h
  ·exact h
  ·exact h
  ·exact h
  ·exact h
  ·exact h
  ·exact h
  ·exact h
  ·exact h
  ·obtain⟨a1,a2,a3,a4,a5,a6,lx,h1,h2,h3,h4⟩:=h; exact⟨a1,a2,a3,a4,a5,a6,lx,h1,h2.on hb,fun q=>(h3 q).on hb,h4.on hb⟩
  ·obtain⟨a1,a2,a3,a4,a5,h1,h2,h3⟩:=h; exact⟨a1,a2,a3,a4,a5,h1,h2.on hb,fun q=>(h3 q).on hb⟩
  ·obtain⟨s,lx,h1,h2⟩:=h; exact⟨s,lx,h1,h2.on hb⟩
  ·exact h
  ·obtain⟨s,lx,h1,h2⟩:=h; exact⟨s,lx,h1,h2.on hb⟩
 ·intro o ho i hi Bl hfi;cases ho;have h15:i≠15:=fun e=>by rw [e] at hfi; simp at hfi
  have h17:i≠17:=fun e=>by rw [e] at hfi; simp at hfi
  rcases (by omega:i=0\/i=1\/i=2\/i=3\/i=4\/i=5\/i=6\/i=7\/i=8\/i=9\/i=10\/i=11\/i=12\/i=13\/i=14) with rfl|rfl|rfl|rfl|rfl|rfl|rfl|rfl|rfl|rfl|rfl|rfl|rfl|rfl|rfl
  ·exact⟨⟨0,.phase⟩,by simp,rfl,rfl⟩
  ·exact⟨⟨1,.phase⟩,by simp,rfl,rfl⟩
  ·exact⟨⟨2,.phase⟩,by simp,rfl,rfl⟩
  ·exact⟨⟨3,.phase⟩,by simp,rfl,rfl⟩
  ·exact⟨⟨4,.phase⟩,by simp,rfl,rfl⟩
  ·exact⟨⟨5,.phase⟩,by simp,rfl,rfl⟩
  ·exact⟨⟨6,.phase⟩,by simp,rfl,rfl⟩
  ·exact⟨⟨7,.phase⟩,by simp,rfl,rfl⟩
  ·exact⟨⟨8,.phase⟩,by simp,rfl,rfl⟩
  ·exact⟨⟨9,.phase⟩,by simp,rfl,rfl⟩
  ·exact⟨⟨10,.phase⟩,by simp,rfl,rfl⟩
  ·exact⟨⟨11,.phase⟩,by simp,rfl,rfl⟩
  ·exact⟨⟨12,.phase⟩,by simp,rfl,rfl⟩
  ·exact⟨⟨13,.chain⟩,by simp,rfl,rfl⟩
  ·exact⟨⟨14,.data⟩,by simp,rfl,rfl⟩
 ·intro i o hi Bl ho a x hpre seen K hK;clear HQ;rcases (by omega:i=0\/i=1\/i=2\/i=3\/i=4\/i=5\/i=6\/i=7\/i=8\/i=9\/i=10\/i=11\/i=12\/i=13\/i=14\/i=15\/i=17) with rfl|rfl|rfl|rfl|rfl|rfl|rfl|rfl|rfl|rfl|rfl|rfl|rfl|rfl|rfl|rfl|rfl
  ·cases ho;obtain⟨hb,hbx⟩:=hpre rfl;have e3:a.eval (ah 3)=Z (O ⟨b3,0,Y⟩):=seen.kp 3 _ nb3 rfl;exact aL rfl rfl (bW a.eval _ 30 (ah 3) rfl (by rw [e3]; exact tJ (HX.out.on hb))) (hK _ x rfl (aF _ _))
  ·cases ho;obtain⟨hb,hbx⟩:=hpre rfl;have e3:a.eval (ah 3)=Z (O ⟨b3,0,Y⟩):=seen.kp 3 _ nb3 rfl;exact aL rfl rfl (bW a.eval _ 30 (ah 3) rfl (by rw [e3]; exact tJ (HX.out.on hb))) (hK _ x rfl (aF _ _))
  ·cases ho;obtain⟨hb,hbx⟩:=hpre rfl;have e5:a.eval (ah 5)=Z (O ⟨b5,0,Y⟩):=seen.kp 5 _ nb5 rfl;exact aL rfl rfl (dh a.eval _ 43 (ah 5) 1 rfl (by rw [e5]; simp [go_sem])) (hK _ x rfl (aF _ _))
  ·cases ho;obtain⟨hb,hbx⟩:=hpre rfl;have e10:a.eval (ah 10)=Z (O ⟨b5,1,Y⟩):=seen.at_ ⟨2,.data⟩ (by simp) rfl (by decide) (ak (by decide));have y1:=(HM.out.on hb).cell 1;have y2:=(HM.out.on hb).cell 2;simp only [au,aC,aD] at y1 y2;exact aL rfl rfl (bW a.eval _ 23 (ah 10) rfl (by rw [e10]; simp [go_sem,y1,y2])) (hK _ x rfl (aF _ _))
  ·cases ho;obtain⟨hb,hbx⟩:=hpre rfl;have e9:a.eval (ah 9)=mG b.me (s1,s2,s3) (s4,s5,s6) (s7,s8,s9) (s10,s11,s12) (s13,s14,s15):=seen.at_ ⟨1,.data⟩ (by simp) rfl (by decide) (ak (by decide));have e11:a.eval (ah 11)=aP #[U X t1,U X t2]:=seen.at_ ⟨3,.data⟩ (by simp) rfl (by decide) (ak (by decide));exact dD rfl rfl (Rw.qF a.eval _ (ah 9) (ah 11) 30 23 46 rfl e9 e11 rfl _ (fV dB rfl rfl _ _)) (ac7 b s1 s2 s3 s4 s5 s6 s7 s8 s9 s10 s11 s12 s13 s14 s15 t1 t2 x (BN.out.on hb).br FP.out) fun e w1 h=>by
    obtain⟨rfl,h5⟩:=h;exact⟨_,rfl,hK _ _ rfl h5⟩
  ·cases ho;obtain⟨hb,hbx⟩:=hpre rfl;have e5:a.eval (ah 5)=Z (O ⟨b5,0,Y⟩):=seen.kp 5 _ nb5 rfl;exact aL rfl rfl (dh a.eval _ 43 (ah 5) 1 rfl (by rw [e5]; simp [go_sem])) (hK _ x rfl (aF _ _))
  ·cases ho;obtain⟨hb,hbx⟩:=hpre rfl;have e13:a.eval (ah 13)=Z (O ⟨b5,1,Y⟩):=seen.at_ ⟨5,.data⟩ (by simp) rfl (by decide) (ak (by decide));have y1:=(HM.out.on hb).cell 1;have y2:=(HM.out.on hb).cell 2;simp only [au,aC,aD] at y1 y2;exact aL rfl rfl (bW a.eval _ 23 (ah 13) rfl (by rw [e13]; simp [go_sem,y1,y2])) (hK _ x rfl (aF _ _))
  ·cases ho;obtain⟨hb,hbx⟩:=hpre rfl;have e5:a.eval (ah 5)=Z (O ⟨b5,0,Y⟩):=seen.kp 5 _ nb5 rfl;exact aL rfl rfl (dh a.eval _ 43 (ah 5) 2 rfl (by rw [e5]; simp [go_sem])) (hK _ x rfl (aF _ _))
  ·cases ho;obtain⟨hb,hbx⟩:=hpre rfl;have e15:a.eval (ah 15)=Z (O ⟨b5,3,Y⟩):=seen.at_ ⟨7,.data⟩ (by simp) rfl (by decide) (ak (by decide));have y3:=(HM.out.on hb).cell 3;have y4:=(HM.out.on hb).cell 4;simp only [au,aC,aD] at y3 y4;exact aL rfl rfl (bW a.eval _ 23 (ah 15) rfl (by rw [e15]; simp [go_sem,y3,y4])) (hK _ x rfl (aF _ _))
  ·cases ho;obtain⟨hb,hbx⟩:=hpre rfl;have e5:a.eval (ah 5)=Z (O ⟨b5,0,Y⟩):=seen.kp 5 _ nb5 rfl;exact aL rfl rfl (dh a.eval _ 43 (ah 5) 3 rfl (by rw [e5]; simp [go_sem])) (hK _ x rfl (aF _ _))
  ·cases ho;obtain⟨hb,hbx⟩:=hpre rfl;have e17:a.eval (ah 17)=Z (O ⟨b5,5,Y⟩):=seen.at_ ⟨9,.data⟩ (by simp) rfl (by decide) (ak (by decide));have y5:=(HM.out.on hb).cell 5;simp only [au,aC,aD] at y5;exact aL rfl rfl (bW a.eval _ 34 (ah 17) rfl (by rw [e17]; simp [go_sem,y5])) (hK _ x rfl (aF _ _))
  ·cases ho;obtain⟨hb,hbx⟩:=hpre rfl;have e1:a.eval (ah 1)=U X f:=seen.kp 1 _ nb1 rfl;exact aL rfl rfl (dn a.eval _ (ah 1) rfl x) (hK _ x e1 (aF _ _))
  ·cases ho;obtain⟨hb,hbx⟩:=hpre rfl;have e14:a.eval (ah 14)=aP #[U X t1,U X t2]:=seen.at_ ⟨6,.data⟩ (by simp) rfl (by decide) (ak (by decide));have e16:a.eval (ah 16)=aP #[U X x1,U X x2]:=seen.at_ ⟨8,.data⟩ (by simp) rfl (by decide) (ak (by decide));have e18:a.eval (ah 18)=J po pn pc:=seen.at_ ⟨10,.data⟩ (by simp) rfl (by decide) (ak (by decide));have e19:a.eval (ah 19)=U X f:=seen.at_ ⟨11,.data⟩ (by simp) rfl (by decide) (ak (by decide));exact aL rfl rfl (Rg.jg a.eval _ 67 #[(0,ah 14),(1,ah 16),(2,ah 18),(3,ah 19)] rfl (ps:=#[(0,aP #[U X t1,U X t2]),(1,aP #[U X x1,U X x2]),(2,J po pn pc),(3,U X f)]) (by simp only [aY,bg,bG,e14,e16,e18,e19]) (by simp [go_sem])) (hK _ x rfl (aF _ _))
  ·cases ho;obtain⟨hb,hbx⟩:=hpre rfl;have e8:a.eval (ah 8)=mG b.me (s1,s2,s3) (s4,s5,s6) (s7,s8,s9) (s10,s11,s12) (s13,s14,s15):=seen.at_ ⟨0,.data⟩ (by simp) rfl (by decide) (ak (by decide));have e12:a.eval (ah 12)=U X (mV b (t1,t2)):=seen.at_ ⟨4,.data⟩ (by simp) rfl (by decide) (ak (by decide));have e20:a.eval (ah 20)=aP #[U X t1,U X t2,U X x1,U X x2,J po pn pc,U X f,bK aI]:=seen.at_ ⟨12,.data⟩ (by simp) rfl (by decide) (ak (by decide));exact dD rfl rfl (rZ a.eval _ (ah 8) (ah 12) (ah 20) 30 3 67 45 rfl e8 e12 e20 rfl _ (fV dw rfl rfl _ _)) (Il b s1 s2 s3 s4 s5 s6 s7 s8 s9 s10 s11 s12 s13 s14 s15 (mV b (t1,t2)) t1 t2 x1 x2 po pn pc f aI (⟨(t1,t2),(x1,x2),p,f,aI⟩:En) x (BN.out.on hb) ⟨rfl,rfl,rfl,rfl,HP.out.on hb⟩ FB.out FP.out RE.out PE.out PP.out) fun e w1 h=>by
    obtain⟨⟨a1,a2,a3,a4,a5,a6,lx,rfl,h2,h3,h4⟩,h5⟩:=h;exact⟨_,rfl,hK _ _ ⟨a1,a2,a3,a4,a5,a6,lx,rfl,h2,fun q=>h3 (HPC.out q |>.on hb),h4.le hb.size⟩ h5⟩
  ·cases ho;obtain⟨hb,hbx⟩:=hpre rfl;have E21:=seen.at_ ⟨13,.data⟩ (by simp) rfl (by decide) (ak (by decide));obtain⟨a1,a2,a3,a4,a5,a6,_,h1,h2,h3,_⟩:=E21;exact aL rfl rfl (oz a.eval _ (ah 21) 0 rfl (c:=#[mG (iM b (mV b (t1,t2)) (⟨(t1,t2),(x1,x2),p,f,aI⟩:En)).1.me a1 a2 a3 a4 a5,dX a6]) h1 rfl x) (hK _ x ⟨a1,a2,a3,a4,a5,rfl,h2,h3⟩ (aF _ _))
  ·cases ho;have E21:=seen.at_ ⟨13,.data⟩ (by simp) rfl (by decide) (ak (by decide));obtain⟨a1,a2,a3,a4,a5,a6,lx,h1,_,_,h4⟩:=E21;exact aL rfl rfl (oz a.eval _ (ah 21) 1 rfl (c:=#[mG (iM b (mV b (t1,t2)) (⟨(t1,t2),(x1,x2),p,f,aI⟩:En)).1.me a1 a2 a3 a4 a5,dX a6]) h1 rfl x) (hK _ x ⟨a6,lx,rfl,h4⟩ (aF _ _))
  ·cases ho;have E23:=seen.at_ ⟨15,.data⟩ (by simp) rfl (by decide) (ak (by decide));exact aL rfl rfl (Rg.kP a.eval _ (ah 23) rfl x) (hK _ x E23 (aF _ _))
 ·intro o ho a x v hb hbx hC Jr hbase K hK;clear HQ;cases ho;have eB:a.eval (ah 6)=Z (O ⟨bb,0,Y⟩):=hbase 6 _ rfl nb6;obtain⟨⟨m1,m2,m3⟩,⟨m4,m5,m6⟩,⟨m7,m8,m9⟩,⟨m10,m11,m12⟩,⟨m13,m14,m15⟩,hv1,hv2,hv3⟩:=Jr;subst hv1;have kV:=aj x bb (U X (iM b (mV b (t1,t2)) (⟨(t1,t2),(x1,x2),p,f,aI⟩:En)).1.me) (J m1 m2 m3) (J m4 m5 m6) (J m7 m8 m9) (J m10 m11 m12) (J m13 m14 m15);refine Rg.gu 30 (ah 6) (ah 22) rfl rfl rfl rfl eB hC (w':=gV x bb (U X (iM b (mV b (t1,t2)) (⟨(t1,t2),(x1,x2),p,f,aI⟩:En)).1.me) (J m1 m2 m3) (J m4 m5 m6) (J m7 m8 m9) (J m10 m11 m12) (J m13 m14 m15)) (oD hbx _ _ _ _ _ _ _ _ _ _ _ _ _ _ _ _) (hK _ kV (fun B w hB h=>dH h hB _ _ _ _ _ _) (dL hbx _ _ _ _ _ _) ?_);exact fun j u hj hjS hl h=>by
   rcases (by omega:j=0\/j=1\/j=2\/j=3\/j=4\/j=5\/j=6\/j=7\/j=8\/j=9\/j=10\/j=11\/j=12\/j=13\/j=14\/j=15\/j=17) with rfl|rfl|rfl|rfl|rfl|rfl|rfl|rfl|rfl|rfl|rfl|rfl|rfl|rfl|rfl|rfl|rfl
   ·have h2:u=mG b.me (s1,s2,s3) (s4,s5,s6) (s7,s8,s9) (s10,s11,s12) (s13,s14,s15):=h; exact h2
   ·have h2:u=mG b.me (s1,s2,s3) (s4,s5,s6) (s7,s8,s9) (s10,s11,s12) (s13,s14,s15):=h; exact h2
   ·have h2:u=Z (O ⟨b5,1,Y⟩):=h; exact h2
   ·have h2:u=aP #[U X t1,U X t2]:=h; exact h2
   ·have h2:u=U X (mV b (t1,t2)):=h; exact h2
   ·have h2:u=Z (O ⟨b5,1,Y⟩):=h; exact h2
   ·have h2:u=aP #[U X t1,U X t2]:=h; exact h2
   ·have h2:u=Z (O ⟨b5,3,Y⟩):=h; exact h2
   ·have h2:u=aP #[U X x1,U X x2]:=h; exact h2
   ·have h2:u=Z (O ⟨b5,5,Y⟩):=h; exact h2
   ·have h2:u=J po pn pc:=h; exact h2
   ·have h2:u=U X f:=h; exact h2
   ·have h2:u=aP #[U X t1,U X t2,U X x1,U X x2,J po pn pc,U X f,bK aI]:=h; exact h2
   ·obtain⟨a1,a2,a3,a4,a5,a6,lx,h1,h2,h3,h4⟩:=h; exact⟨a1,a2,a3,a4,a5,a6,lx,h1,h2.keep (s1:=(Y,0,0)) (s2:=(Y,0,0)) (s3:=(Y,0,0)) (s4:=(Y,0,0)) (s5:=(Y,0,0)) (me:=0) hbx kV,fun q=>(h3 q).vg kV hbx (by decide) (by decide) (by decide) (by decide) (by decide) (by decide),h4.but kV hbx (by decide) (by decide)⟩
   ·obtain⟨a1,a2,a3,a4,a5,h1,h2,h3⟩:=h; exact⟨a1,a2,a3,a4,a5,h1,h2.keep (s1:=(Y,0,0)) (s2:=(Y,0,0)) (s3:=(Y,0,0)) (s4:=(Y,0,0)) (s5:=(Y,0,0)) (me:=0) hbx kV,fun q=>(h3 q).vg kV hbx (by decide) (by decide) (by decide) (by decide) (by decide) (by decide)⟩
   ·obtain⟨s,lx,h1,h2⟩:=h; exact⟨s,lx,h1,h2.but kV hbx (by decide) (by decide)⟩
   ·obtain⟨s,lx,h1,h2⟩:=h; exact⟨s,lx,h1,h2.but kV hbx (by decide) (by decide)⟩
 ·intro a x v df sz kp gC hbx Jr aov ⟨vs,hv⟩;obtain⟨⟨m1,m2,m3⟩,⟨m4,m5,m6⟩,⟨m7,m8,m9⟩,⟨m10,m11,m12⟩,⟨m13,m14,m15⟩,hv1,hv2,hv3⟩:=Jr;subst hv1;obtain⟨⟨o1,o2,o3⟩,lx,ho1,ho2⟩:=(hv 17 (by decide) (by decide)).2 (by decide);have g7:a.tmps[7]?=O (dX (o1,o2,o3)):=by
   rw [<- ho1];exact (hv 17 (by decide) (by decide)).1
  have rJ:∀ j,(j<7\/24<=j)->a.tmps[j]?=(T::U X f::a0::Z (O ⟨b3,0,Y⟩)::a7::Z (O ⟨b5,0,Y⟩)::Z (O ⟨bb,0,Y⟩)::a8::aE::b9::bJ::bQ::c7::c8::c9::cA::cC::cD::cF::cG::cH::cI::cJ::cL::[])[j]?:=fun j hj=>(kp j (fun i hi h=>by have:=(by decide:∀ i,i<18->7<=[8,9,10,11,12,13,14,15,16,17,18,19,20,21,22,23,22,7].getD i 0/\[8,9,10,11,12,13,14,15,16,17,18,19,20,21,22,23,22,7].getD i 0<24) i hi; omega)).trans au;obtain⟨mid,hmid,rfl⟩:=Rg.gM 7 17 df (by rw [sz]; rfl) (by simp) rJ
  match mid,hmid with
  | [d7,cM,cN,cP,cQ,cR,cS,cT,cU,cV,cW,cX,cY,d1,d3,d4,d5],_ =>
   obtain rfl:d7=dX (o1,o2,o3):=aJ g7;exact HQ.out x _ _ _ _ _ _ _ _ _ _ _ _ _ _ _ _ m1 m2 m3 m4 m5 m6 m7 m8 m9 m10 m11 m12 m13 m14 m15 o1 o2 o3 lx hbx hv2 hv3 ho2 aov
theorem Vt (b:Br) (s1:Option ay) (s2 s3:Nat) (s4:Option ay) (s5 s6:Nat) (s7:Option ay) (s8 s9:Nat) (s10:Option ay) (s11 s12:Nat) (s13:Option ay) (s14 s15:Nat) (f kd t1 t2 x1 x2:Int) (po:Option ay) (pn pc:Nat) (p:List C5) (w:aN) (h:qY w b (s1,s2,s3) (s4,s5,s6) (s7,s8,s9) (s10,s11,s12) (s13,s14,s15)) (hf:Gl b) (hfp:rO b) (hok:iC b) (pe:∀ e∈b.ent,dR e.p) (hp:fI w (J po pn pc) p) (pp:dR p) :
  Calls aX 11 #[aP #[U X b.me,J s1 s2 s3,J s4 s5 s6,J s7 s8 s9,J s10 s11 s12,J s13 s14 s15],U X f,aP #[U X kd,U X t1,U X t2,U X x1,U X x2,J po pn pc,J Y 0 0]] w (RtQ w (mo w b (s1,s2,s3) (s4,s5,s6) (s7,s8,s9) (s10,s11,s12) (s13,s14,s15)) (mE b f (t1,t2) (x1,x2) p)):=by
 rw [Ms hok];obtain⟨h0,h1,h2,h3⟩:=gT w #[U X b.me,J s1 s2 s3,J s4 s5 s6,J s7 s8 s9,J s10 s11 s12,J s13 s14 s15] #[U X kd,U X t1,U X t2,U X x1,U X x2,J po pn pc,J Y 0 0] #[U X 0,J Y 0 0,J Y 0 0,J Y 0 0,J Y 0 0,J Y 0 0] 30 43 30;obtain⟨P,hP⟩:∃ P:Prop,P=mo w b (s1,s2,s3) (s4,s5,s6) (s7,s8,s9) (s10,s11,s12) (s13,s14,s15):=⟨_,rfl⟩;have HP:=L hP;have GB:=L h0;have RG:=L (fun (Q:Exit->Act->aN->Prop) (W:aN)=>os1 Q W w.heap.size (w.heap.size+1) (w.heap.size+1+1) P b s1 s2 s3 s4 s5 s6 s7 s8 s9 s10 s11 s12 s13 s14 s15 f kd t1 t2 x1 x2 po pn pc p);have A3:=L h3;have A1:=L h1;have A2:=L h2;have A4:=L (h.on h0);have A5:=L (show P->_ from fun q=>(cast hP q:mo w b (s1,s2,s3) (s4,s5,s6) (s7,s8,s9) (s10,s11,s12) (s13,s14,s15)).on h0);have A6:=L hf;have A7:=L hfp;have A8:=L (show jl b.ent from hok.ent);have A9:=L pe;have A10:=L (hp.on h0);have A11:=L pp;clear h h0 h1 h2 h3 hf hfp hok pe hP hp pp;go_enter Tryz.func11,Tryz.ntmps11;go_upto_region 1 with fail;refine RG.out _ _ _ _ _ _ _ _ _ _ _ _ _ _ _ _ _ _ _ _ _ _ A3.out A1.out A2.out A4.out A5.out A6.out A7.out A8.out A9.out A10.out A11.out ?_;intro x v_8 v_9 atr att atu atv atw atx aty atz atA atB atC atD atE atF m1 m2 m3 m4 m5 m6 m7 m8 m9 m10 m11 m12 m13 m14 m15 o1 o2 o3 lx hbx hbn hbc hou hst;have BL:=L (GB.out.trans (hst.2 w.heap.size (by omega)));have HB:=L hbn;have HC:=L hbc;have HO:=L (hou.le GB.out.size);obtain⟨T,a0,a3,a4,a5,a6⟩:=hbx.fD;clear hbx hbn hbc hou hst RG A1 A2 A3 A4 A5 A6 A7 A8 A9 A10 A11;go_wp2_with fail;refine bodyPost_ret (v:=.tuple #[aP #[U X (iM b (mV b (t1,t2)) (⟨(t1,t2),(x1,x2),p,f,aI⟩:En)).1.me,J m1 m2 m3,J m4 m5 m6,J m7 m8 m9,J m10 m11 m12,J m13 m14 m15],J o1 o2 o3]) (by simp [results,Tryz.results11,go_sem,T,a0,a3,a4,a5,a6]) rfl ?_;exact⟨⟨(m1,m2,m3),(m4,m5,m6),(m7,m8,m9),(m10,m11,m12),(m13,m14,m15),(o1,o2,o3),lx,rfl,HB.out,fun q=>HC.out (cast HP.out.symm q),HO.out⟩,BL.out⟩
end Rt
end Go.Proofs.YtghlpefopidlaaaGreat
