/-
  Entries of one tree:. Conditions as told.
-/
import Derived.Test.YtghlpefopidlaaaGreatBQ022
import Derived.Shelf.Abstract
import Derived.Test.YtghlpefopidlaaaGreatBQ025
import Derived.Test.YtghlpefopidlaaaGreatBQ026
set_option maxRecDepth 100000
set_option maxHeartbeats 64000000
open _root_.Bool renaming true->aB,false->aJ,eq_false_iff->bC,true_and->bN
open _root_.Go renaming cell_regrown->J,redrawn->aI,World->aQ,below_regrown->bU,Calls->bV,Value->bW
open Go.Ending renaming returned->L
open Go.IntKind renaming i64->aH
open Go.Lib renaming hid->ak
open Go.Proofs.Tryz renaming prog->ah,ntmps137->bQ,func137->cu,func136->cB,func132->cK
open Go.Value renaming int->aG,bool->aU,pointer->aV,slice->bF
open _root_.Int renaming toNat_natCast->aN
open _root_.List renaming getElem?_eq_some_iff->D,length_append->O,getElem?_map->Q,getElem?_eq_getElem->V,append_assoc->aj,takeWhile_cons->au,dropWhile_cons->ay,takeWhile_append_dropWhile->aD,mem_iff_getElem?->aF,getElem?_append_right->aK,getElem?_append_left->aM,length_cons->aO,getElem_mem->aP,take_append_drop->aR,mem_cons_of_mem->aS,mem_of_getElem?->aT,mem_cons->aW,pairwise_cons->aX,all_takeWhile->aY,filter_append->aZ,getElem?_set->bf,all_eq_true->bD,length_take->bG,length_drop->bH,any_append->bI,mem_append->bJ,any_cons->bL,mem_map->bY
open _root_.Nat renaming le_refl->U,add_sub_cancel_left->aA,lt_or_ge->bg,add_assoc->bP,add_zero->bZ
open _root_.Option renaming some->aC,none->bK
open Option.some renaming inj->K
namespace Go.Proofs.YtghlpefopidlaaaGreat
namespace Sb
open Go.RowKit Go.Sort Rw YtghlpefopidlaaaGreat.Nm Pr Bk Av
abbrev gK (m:List En):Prop:=m.Pairwise fun x y=>uK x y<0
def gL (m:List En) (t:dV):Nat:=(m.takeWhile fun e=>dP e.tree t).length
def kK (m:List En) (t:dV):List En:=(m.drop (gL m t)).takeWhile fun e=>decide (e.tree=t)
def xX (r:List En) (p:List C5):Bool:=r.any fun e=>e.up && fG e.p p
def jK (s:List En×List En) (k:Nat):List En×List En:=match s.1[k]? with
 | none=>s
 | some e=>if e.up=aB\/xX s.1 e.p=aB then s else (s.1.set k (sP e),s.2++[sP e])
def fQ (r:List En) (k:Nat):List En×List En:=(List.range k).foldl jK (r,[])
theorem kH (r:List En) (k:Nat):fQ r (k+1)=jK (fQ r k) k:=by
 simp [fQ,List.range_succ]
theorem rQ:∀ (l:List dV) (x:dV),fH l x=iw l x
 | [],_=>rfl
 | a::l,x=>by rw [fH,iw,rQ l x]
theorem kg (x y:En):iW (dM x) (dM y)=aB↔uK x y<0:=by
 rw [p9];unfold iW;simp [uQ]
theorem nE (x:dV×dV):iW x x=aJ:=by simp [iW,iV]
def iF (m:List En) (t s:dV):Bool:=match m[dY (m.map dM) (t,s)]? with
 | none=>aJ
 | some e=>decide (dM e=(t,s))
theorem nG:∀ (l:List (dV×dV)) (x:dV×dV) (j:Nat) (y:dV×dV),j<dY l x->l[j]?=aC y->iW y x=aB
 | [],_,_,_,_,h=>by simp at h
 | a::l,x,j,y,hj,h=>by
  unfold dY at hj;by_cases ha:iW a x=aB
  ·rw [au,if_pos ha,aO] at hj;cases j with
   | zero=>rw [<- K (show aC a=aC y from h)]; exact ha
   | succ j=>exact nG l x j y (by unfold dY; omega) (by simpa using h)
  ·rw [au,if_neg ha] at hj;simp at hj
theorem sU:∀ (l:List (dV×dV)) (x y:dV×dV),l[dY l x]?=aC y->iW y x=aJ
 | [],_,_,h=>by simp [dY] at h
 | a::l,x,y,h=>by
  unfold dY at h;by_cases ha:iW a x=aB
  ·rw [au,if_pos ha,aO] at h;exact sU l x y (by unfold dY; simpa using h)
  ·rw [au,if_neg ha] at h;rw [<- K (show aC a=aC y from h)];simpa using ha
theorem oh {m:List En} (hr:gK m) (t s:dV):iw (m.map dM) (t,s)=if iF m t s=aB then (dY (m.map dM) (t,s):Int) else -1:=by
 unfold iF;cases hp:m[dY (m.map dM) (t,s)]? with
 | none =>
  rw [if_neg (by simp)];refine vO _ _ fun j y hj e=>?_;have hl:m.length<=dY (m.map dM) (t,s):=List.getElem?_eq_none_iff.1 hp;have hj2:=(D.1 hj).1;rw [List.length_map] at hj2;have h:=nG _ (t,s) j y (by omega) hj;rw [e,nE] at h;cases h
 | some e =>
  have hpk:(m.map dM)[dY (m.map dM) (t,s)]?=aC (dM e):=by rw [Q,hp]; rfl
  by_cases he:dM e=(t,s)
  ·simp only [he,decide_true,if_true];rw [he] at hpk;refine Cm _ _ _ hpk fun j z hj hz q=>?_;have h:=nG _ (t,s) j z hj hz;rw [q,nE] at h;cases h
  ·rw [if_neg (by simpa using he)];refine vO _ _ fun j y hj q=>?_;rcases Nat.lt_trichotomy j (dY (m.map dM) (t,s)) with h|h|h
   ·have h:=nG _ (t,s) j y h hj;rw [q,nE] at h;cases h
   ·subst h;rw [hpk] at hj;exact he ((K hj).trans q)
   ·rw [Q] at hj;cases hz:m[j]? with
    | none=>rw [hz] at hj; cases hj
    | some z =>
     rw [hz] at hj;have h1:=List.pairwise_iff_getElem.1 hr _ _ (D.1 hp).1 (D.1 hz).1 h;rw [(D.1 hp).2,(D.1 hz).2,<- kg] at h1;have h2:=sU _ _ _ hpk;rw [show dM z=(t,s) from (K hj).trans q] at h1;rw [h1] at h2;cases h2
theorem Hf {x y:En} (h:uK x y<0):dP x.tree y.tree=aB\/x.tree=y.tree:=by
 rcases (p9 x y).1 h with q|q
 ·exact Or.inl q
 ·exact Or.inr q.1
theorem vY {α:Type} (p:α->Bool):∀ l:List α,l.drop (l.takeWhile p).length=l.dropWhile p
 | []=>rfl
 | a::l=>by
  by_cases h:p a=aB
  ·simp [h,vY p l]
  ·simp [h]
theorem Fg:∀ {m:List En} (t:dV) (_:gK m),∀ e∈m.dropWhile (fun e=>dP e.tree t),dP e.tree t=aJ
 | [],_,_,e,h=>by simp at h
 | a::m,t,hr,e,h=>by
  have hr':=aX.1 hr;by_cases ha:dP a.tree t=aB
  ·rw [ay,if_pos ha] at h;exact Fg t hr'.2 e h
  ·rw [ay,if_neg ha] at h;rcases aW.1 h with rfl|h
   ·simpa using ha
   ·cases hq:dP e.tree t with
    | false=>rfl
    | true =>
     exfalso;rcases Hf (hr'.1 e h) with q|q
     ·exact ha (gF q hq)
     ·exact ha (by rw [q]; exact hq)
theorem Mr:∀ {m:List En} (t:dV) (_:gK m) (_:∀ e∈m,dP e.tree t=aJ),∀ e∈m.dropWhile (fun e=>decide (e.tree=t)),dP t e.tree=aB
 | [],_,_,_,e,h=>by simp at h
 | a::m,t,hr,hl,e,h=>by
  have hr':=aX.1 hr;by_cases ha:a.tree=t
  ·rw [ay,if_pos (by simpa using ha)] at h;exact Mr t hr'.2 (fun e he=>hl e (aS _ he)) e h
  ·rw [ay,if_neg (by simpa using ha)] at h;have hta:dP t a.tree=aB:=by
    rcases mI a.tree t with q|q|q
    ·rw [hl a (by simp)] at q; cases q
    ·exact absurd q ha
    ·exact q
   rcases aW.1 h with rfl|h
   ·exact hta
   ·rcases Hf (hr'.1 e h) with q|q
    ·exact gF hta q
    ·rw [<- q]; exact hta
theorem Hg {x t:dV} (h:dP x t=aB):x≠t:=by rintro rfl; rw [iV] at h; cases h
theorem C8 {m:List En} (hr:gK m) (t:dV):∃ c,m=m.take (gL m t)++kK m t++c/\(m.take (gL m t)).length=gL m t/\(∀ e∈m.take (gL m t),e.tree≠t)/\(∀ e∈kK m t,e.tree=t)/\(∀ e∈c,e.tree≠t):=by
 have e1:m.take (gL m t)=m.takeWhile fun e=>dP e.tree t:=by
  unfold gL
  conv=>lhs; arg 2; rw [<- aD (p:=fun e:En=>dP e.tree t) (l:=m)]
  rw [List.take_left]
 have e2:m.drop (gL m t)=m.dropWhile fun e=>dP e.tree t:=vY _ _;refine⟨(m.drop (gL m t)).dropWhile fun e=>decide (e.tree=t),?_,?_,?_,?_,?_⟩
 ·unfold kK;rw [aj,aD,aR]
 ·rw [e1]; rfl
 ·rw [e1];intro e he;exact Hg (bD.1 aY e he)
 ·intro e he;unfold kK at he;exact of_decide_eq_true (bD.1 (aY (p:=fun e:En=>decide (e.tree=t))) e he)
 ·rw [e2];intro e he;have h1:gK (m.dropWhile fun e=>dP e.tree t):=hr.sublist (List.dropWhile_sublist _);exact (Hg (Mr t h1 (Fg t hr) e he)).symm
theorem C9 {α:Type} {p:α->Bool} {l:List α} (h:∀ e∈l,p e=aJ):l.filter p=[]:=by
 rw [List.filter_eq_nil_iff];intro e he;rw [h e he];simp
theorem yZ {m:List En} (hr:gK m) (t:dV):kK m t=m.filter fun e=>decide (e.tree=t):=by
 obtain⟨c,h1,_,h2,h3,h4⟩:=C8 hr t;generalize kK m t=r at *;generalize m.take (gL m t)=a at *;subst h1;rw [aZ,aZ,C9 (l:=a) fun e he=>by simpa using h2 e he,C9 (l:=c) fun e he=>by simpa using h4 e he,List.nil_append,List.append_nil];exact (List.filter_eq_self.2 fun e he=>by simpa using h3 e he).symm
theorem Uk {m:List En} (hr:gK m) (t:dV) (p:List C5):xX (kK m t) p=eP m t p:=by
 rw [yZ hr,xX,List.any_filter]
 rfl
theorem Qn {a r c:List En} {t:dV} (ha:∀ e∈a,e.tree≠t) (hr:∀ e∈r,e.tree=t) (hc:∀ e∈c,e.tree≠t) (p:List C5):eP (a++r++c) t p=xX r p:=by
 have none_:∀ l:List En,(∀ e∈l,e.tree≠t)->l.any (Mj t p)=aJ:=fun l hl=>by
  rw [List.any_eq_false];intro e he;unfold Mj;rw [decide_eq_false (hl e he)];simp
 unfold eP xX;rw [bI,bI,none_ a ha,none_ c hc,Bool.false_or,Bool.or_false]
 induction r with
 | nil=>rfl
 | cons x r ih =>
  rw [bL,bL,ih fun e he=>hr e (aS _ he)]
  congr 1
  unfold Mj;rw [decide_eq_true (hr x (by simp)),bN]
theorem vZ (s:List En×List En) (k:Nat):(jK s k).1.map dM=s.1.map dM:=by
 unfold jK
 split
 ·rfl
 ·rename_i e he
  split
  ·rfl
  ·rw [List.map_set];refine List.ext_getElem? fun j=>?_;rw [bf]
   split
   ·rename_i hj
    subst hj
    split
    ·rw [Q,he]
     rfl
    ·rename_i hl
     rw [List.getElem?_eq_none (by simpa using hl)]
   ·rfl
theorem pE (r:List En):∀ k,(fQ r k).1.map dM=r.map dM
 | 0=>rfl
 | k+1=>by rw [kH,vZ,pE r k]
theorem qN (r:List En) (k:Nat):(fQ r k).1.length=r.length:=by
 have h:=congrArg List.length (pE r k);simpa using h
theorem y9 (r:List En):∀ k,(fQ r k).2.length<=k
 | 0=>U _
 | k+1=>by
  have ih:=y9 r k;rw [kH];unfold jK
  split
  ·omega
  ·split
   ·omega
   ·simp; omega
theorem Jq {r r':List En} {t:dV} (h:r'.map dM=r.map dM) (hr:∀ e∈r,e.tree=t):∀ e∈r',e.tree=t:=by
 intro e he;have h1:dM e∈r.map dM:=by rw [<- h]; exact bY.2 ⟨e,he,rfl⟩
 obtain⟨z,hz,hk⟩:=bY.1 h1;rw [<- show z.tree=e.tree from congrArg Prod.fst hk];exact hr z hz
theorem Fh {a r c:List En} {t:dV} (ha:∀ e∈a,e.tree≠t) (hr:∀ e∈r,e.tree=t) (hc:∀ e∈c,e.tree≠t):fP t (a++r++c) (a++r++c).length=(a++(fQ r r.length).1++c,(fQ r r.length).2):=by
 have s1:∀ k,k<=a.length->fP t (a++r++c) k=(a++r++c,[]):=by
  intro k
  induction k with
  | zero=>intro _; rfl
  | succ k ih =>
   intro hk;rw [iC,ih (by omega)];unfold fI;have e1:(a++r++c)[k]?=aC a[k]:=by rw [aj,aM (by omega),V (by omega)]
   rw [e1];simp only;rw [if_neg fun h=>ha _ (aP _) h.1]
 have s2:∀ j,j<=r.length->fP t (a++r++c) (a.length+j)=(a++(fQ r j).1++c,(fQ r j).2):=by
  intro j
  induction j with
  | zero=>intro _; rw [bZ,s1 _ (U _)]; rfl
  | succ j ih =>
   intro hj;have hl:=qN r j;have hk:=Jq (pE r j) hr;rw [<- bP,iC,ih (by omega),kH];generalize fQ r j=s at *;obtain⟨r',u⟩:=s;simp only at hl hk ⊢;unfold fI jK;have e1:(a++r'++c)[a.length+j]?=r'[j]?:=by rw [aj,aK (by omega),aA,aM (by omega)]
   simp only [e1];rw [V (show j<r'.length by omega)];simp only;have ht:=hk _ (aP (show j<r'.length by omega));rw [Qn ha hk hc];by_cases h1:(r'[j]'(by omega)).up=aB\/xX r' (r'[j]'(by omega)).p=aB
   ·rw [if_pos h1,if_neg];rintro⟨_,g2,g3⟩;rcases h1 with h1|h1
    ·rw [h1] at g2; cases g2
    ·rw [h1] at g3; cases g3
   ·rw [if_neg h1,if_pos ⟨ht,by simpa using fun q=>h1 (Or.inl q),by simpa using fun q=>h1 (Or.inr q)⟩];have e2:(a++r'++c).set (a.length+j) (sP (r'[j]'(by omega)))=a++r'.set j (sP (r'[j]'(by omega)))++c:=by
     rw [aj,List.set_append_right _ _ (by omega),aA,List.set_append_left _ _ (by omega),aj]
    rw [e2]
 have s3:∀ j,j<=c.length->fP t (a++r++c) (a.length+r.length+j)=(a++(fQ r r.length).1++c,(fQ r r.length).2):=by
  intro j
  induction j with
  | zero=>intro _; rw [bZ,s2 _ (U _)]
  | succ j ih =>
   intro hj;have hl:=qN r r.length;rw [<- bP,iC,ih (by omega)];unfold fI;have e1:(a++(fQ r r.length).1++c)[a.length+r.length+j]?=aC (c[j]'(by omega)):=by
    rw [aK (by rw [O,hl]; omega),O,hl,aA,V (by omega)]
   rw [e1];simp only;rw [if_neg fun h=>hc _ (aP _) h.1]
 have h:=s3 c.length (U _);rw [O,O];exact h
def iL (b:Br):Prop:=∀ a∈b.dW,a.par≠-1->∀ e∈b.ent,e.tree=a.id->e.up=aJ->eP b.ent a.id e.p=aB
theorem kW (m:List En) (t:dV) (p:List C5):eP m t p=aB↔∃ e∈m,e.tree=t/\e.up=aB/\fG e.p p=aB:=by
 unfold eP;rw [List.any_eq_true];simp [Mj]
theorem sV {b:Br} (h:gP b) (e:En) (ht:iL b):iL (gY b e).1:=by
 unfold gY
 split
 ·exact ht
 ·rename_i a ha
  split
  ·exact ht
  ·rename_i h1
   split
   ·exact ht
   ·split
    ·exact ht
    ·have hid:a.id=e.tree:=by
      rcases kF (b.dW.map Ad.id) e.tree with q|⟨k,q,r⟩
      ·exact absurd (rQ _ _ ▸ q) h1
      ·rw [rQ,q,aN] at ha;rw [Q,ha] at r;exact K r
     have hA:a∈b.dW:=aT ha;intro y hy hp z hz hte hu;have more:∀ p,eP b.ent y.id p=aB->eP (eY b.ent (dY (b.ent.map dM) (dM e)) { e with up:=decide (a.par≠-1) && !eP b.ent e.tree e.p }) y.id p=aB:=fun p hp=>by
      obtain⟨q,q1,q2⟩:=(kW _ _ _).1 hp;exact (kW _ _ _).2 ⟨q,(jf _ _ _ _).2 (Or.inr q1),q2⟩
     rcases (jf _ _ _ _).1 hz with rfl|hz
     ·have hya:y=a:=by
       have g1:=og h.dW hA;have g2:=og h.dW hy;rw [show y.id=a.id from hte.symm.trans hid.symm,g1] at g2;exact (K g2).symm
      have hu':(decide (a.par≠-1) && !eP b.ent e.tree e.p)=aJ:=hu;rw [<- hya,decide_eq_true hp,bN] at hu';refine more _ ?_;rw [<- show e.tree=y.id from hte];simpa using hu'
     ·exact more _ (ht y hy hp z hz hte hu)
theorem wh {α:Type} {l:List α} {k:Nat} {x y:α} (hk:l[k]?=aC x) (hy:y∈l):y=x\/y∈cutAt l k:=by
 have hlt:=(D.1 hk).1;have e:l=l.take k++x::l.drop (k+1):=by
  conv=>lhs; rw [<- aR k l]
  rw [List.drop_eq_getElem_cons hlt,(D.1 hk).2]
 rw [e] at hy;unfold cutAt;rcases bJ.1 hy with h|h
 ·exact Or.inr (List.mem_append_left _ h)
 ·rcases aW.1 h with h|h
  ·exact Or.inl h
  ·exact Or.inr (List.mem_append_right _ h)
theorem Hl {α:Type} {l:List α} {k:Nat} {y:α} (h:y∈cutAt l k):y∈l:=by
 unfold cutAt at h;rcases bJ.1 h with h|h
 ·exact List.mem_of_mem_take h
 ·exact List.mem_of_mem_drop h
theorem Ho {α:Type} {l:List α} {k:Nat} {x y z:α} (hk:l[k]?=aC x) (hz:z∈l):z=x\/z∈l.set k y:=by
 obtain⟨j,hj⟩:=aF.1 hz;by_cases hjk:k=j
 ·subst hjk;rw [hk] at hj;exact Or.inl (K hj).symm
 ·right;refine aF.2 ⟨j,?_⟩;rw [List.getElem?_set_ne hjk];exact hj
theorem Da {t:dV} {s:List En×List En} {k:Nat} (u:dV) (p:List C5) (h:eP s.1 u p=aB):eP (fI t s k).1 u p=aB:=by
 unfold fI
 split
 ·exact h
 ·rename_i e he
  split
  ·obtain⟨z,h1,h2,h3,h4⟩:=(kW _ _ _).1 h;rcases Ho (y:=sP e) he h1 with rfl|h5
   ·rename_i hq
    rw [hq.2.1] at h3;cases h3
   ·exact (kW _ _ _).2 ⟨z,h5,h2,h3,h4⟩
  ·exact h
theorem sW (t:dV) (m:List En):∀ k,k<=m.length->(∀ j,j<k->∀ e,(fP t m k).1[j]?=aC e->e.tree=t->e.up=aJ->eP (fP t m k).1 t e.p=aB)/\(∀ u p,eP m u p=aB->eP (fP t m k).1 u p=aB)/\(∀ e,e∈(fP t m k).1->e.tree≠t->e∈m)
 | 0,_=>⟨fun j hj=>absurd hj (Nat.not_lt_zero _),fun _ _ h=>h,fun _ h _=>h⟩
 | k+1,hk=>by
  obtain⟨h1,h2,h3⟩:=sW t m k (by omega);rw [iC];refine⟨fun j hj e he htr hu=>?_,fun u p h=>Da u p (h2 u p h),fun e he hne=>?_⟩
  ·have hl:=(lD t m k).1;generalize fP t m k=s at *;obtain⟨z,hz⟩:∃ z,s.1[k]?=aC z:=⟨_,V (by omega)⟩;by_cases hc:z.tree=t/\z.up=aJ/\eP s.1 t z.p=aJ
   ·have e1:fI t s k=(s.1.set k (sP z),s.2++[sP z]):=by unfold fI; rw [hz]; simp only; rw [if_pos hc]
    have mono:=Da (t:=t) (s:=s) (k:=k) t;rw [e1] at he mono ⊢;rw [bf] at he
    split at he
    ·split at he
     ·rw [<- K he] at hu;cases hu
     ·cases he
    ·exact mono _ (h1 j (by omega) e he htr hu)
   ·have e1:fI t s k=s:=by unfold fI; rw [hz]; simp only; rw [if_neg hc]
    rw [e1] at he ⊢;rcases bg j k with h0|h0
    ·exact h1 j h0 e he htr hu
    ·obtain rfl:j=k:=by omega
     rw [hz] at he;obtain rfl:=K he;cases hv:eP s.1 t z.p with
     | true=>rfl
     | false=>exact absurd ⟨htr,hu,hv⟩ hc
  ·unfold fI at he
   split at he
   ·exact h3 e he hne
   ·rename_i z hz
    split at he
    ·rename_i hq
     rcases List.mem_or_eq_of_mem_set he with h5|h5
     ·exact h3 e h5 hne
     ·rw [h5] at hne;exact absurd hq.1 hne
    ·exact h3 e he hne
theorem qO {b:Br} (t x:dV) (f:Int) (ht:iL b):iL (takeB b t x f).1:=by
 unfold takeB
 split
 ·exact ht
 ·rename_i e0 he0
  split
  ·exact ht
  ·rename_i h1
   split
   ·exact ht
   ·have h5:e0.tree=t:=by
     rcases kF (b.ent.map dM) (t,x) with q|⟨k,q,r⟩
     ·exact absurd q h1
     ·rw [q,aN] at he0;rw [Q,he0] at r;exact congrArg Prod.fst (K r)
    generalize (iw (b.ent.map dM) (t,x)).toNat=k at *
    split
    ·rename_i hup
     intro y hy hp z hz hte hu;obtain⟨q,q1,q2,q3,q4⟩:=(kW _ _ _).1 (ht y hy hp z (Hl hz) hte hu);refine (kW _ _ _).2 ⟨q,(wh he0 q1).resolve_left ?_,q2,q3,q4⟩;rintro rfl;rw [hup] at q3;cases q3
    ·intro y hy hp z hz hte hu;obtain⟨g1,g2,g3⟩:=sW t (cutAt b.ent k) (cutAt b.ent k).length (U _);by_cases hyt:y.id=t
     ·obtain⟨j,hj⟩:=aF.1 hz;have hlt:=(D.1 hj).1;rw [(lD t (cutAt b.ent k) _).1] at hlt;rw [hyt] at hte ⊢;exact g1 j hlt z hj hte hu
     ·have hzt:z.tree≠t:=by rw [hte]; exact hyt
      obtain⟨q,q1,q2,q3,q4⟩:=(kW _ _ _).1 (ht y hy hp z (Hl (g3 z hz hzt)) hte hu);refine g2 _ _ ((kW _ _ _).2 ⟨q,(wh he0 q1).resolve_left ?_,q2,q3,q4⟩);rintro rfl;exact hyt (q2.symm.trans h5)
theorem Jr (x:jl) (t s:dV) (r:Bool) (hr:iW (Co x) (t,s)=r) (w:aQ):bV ah 137 #[xP x,oK t,oK s] w fun e w'=>e=L (aU r)/\Below w.heap.size w w':=by
 obtain⟨y1,y2,y3,y4,⟨yo,yn,yc⟩,y6,y7⟩:=x;obtain⟨c,d⟩:=t;obtain⟨g,h⟩:=s;obtain⟨h0,X,Y,Z⟩:=ji w #[aG aH y1,aG aH y2,aG aH y3,aG aH y4,bF yo yn yc,aG aH y6,aU y7] #[aG aH c,aG aH d] #[aG aH g,aG aH h] 67 23 23;have x1:=X.cell 1;have x0:=X.cell 0;have x2:=X.cell 2;have x3:=X.cell 3;obtain⟨c0,c1⟩:=Y.cs2;obtain⟨d0,d1⟩:=Z.cs2;simp only [List.getElem?_toArray,List.getElem?_cons_zero,List.getElem?_cons_succ] at x0 x1 x2 x3;have C1:=pY (y1,y2) (c,d);have C2:=pY (y3,y4) (g,h);have B:=ak h0;have he:iW ((y1,y2),(y3,y4)) ((c,d),(g,h))=if ((y1,y2):dV)=(c,d) then dP (y3,y4) (g,h) else dP (y1,y2) (c,d):=by
  unfold iW;by_cases q:((y1,y2):dV)=(c,d)
  ·rw [if_pos q,q,iV,(uQ _ _).2 rfl]; rfl
  ·rw [if_neg q,bC.2 fun q2=>q ((uQ _ _).1 q2)]; simp
 clear h0 X Y Z;by_cases q:((y1,y2):dV)=(c,d)
 ·have hr2:=ak (show dP (y3,y4) (g,h)=r by rw [<- hr]; show _=iW ((y1,y2),(y3,y4)) ((c,d),(g,h)); rw [he,if_pos q]);obtain⟨rfl,rfl⟩:y1=c/\y2=d:=by simpa using q
  have hne:=TY y1 y2 y1 y2 aJ (by simp);clear he hr q;go_enter cu,bQ;go_wp2_with fail;refine (C2 _).mono ?_;rintro e w1 ⟨rfl,hb⟩;go_wp2;go_ret;exact⟨congrArg (fun b=>L (aU b)) hr2.out,B.out.trans (hb.mono B.out.size)⟩
 ·have hr2:=ak (show dP (y1,y2) (c,d)=r by rw [<- hr]; show _=iW ((y1,y2),(y3,y4)) ((c,d),(g,h)); rw [he,if_neg q]);have hne:=TY y1 y2 c d aB (by rw [show (y1 == c && y2 == d)=aJ from bC.2 fun h=>q (by simp at h; rw [h.1,h.2])]; rfl);clear he hr q;go_enter cu,bQ;go_wp2_with fail;refine (C1 _).mono ?_;rintro e w1 ⟨rfl,hb⟩;go_wp2;go_ret;exact⟨congrArg (fun b=>L (aU b)) hr2.out,B.out.trans (hb.mono B.out.size)⟩
theorem qP (g:Nat) (cb:Array bW) (eg:∀ args w,(callFunc g args).run ah w=.ok (.enter g args) w) (n k:Nat) (p:Nat->Bool) (w:aQ) (hn:n<=1000000)
  (hf:∀ i,i<n->∀ W,Below w.heap.size w W->bV ah g (#[aG aH i]++cb) W fun e w'=>e=L (aU (p i))/\Below W.heap.size W w')
  (hk:k<=n) (hlo:∀ i,i<k->p i=aJ) (hhi:∀ i,k<=i->i<n->p i=aB) :
  bV ah 110 #[aG aH n,.func (.func g) #[] cb] w fun e w'=>e=L (aG aH k)/\Below w.heap.size w w':=by
 have HF:=ak hf;have LO:=ak hlo;have HI:=ak hhi;clear hf hlo hhi;go_enter Tryz.func110,Tryz.ntmps110;go_wp2
 go_loopg [5,6] n (fun kx s5 s6 wr=>∃ lo hi:Nat,s5=aG aH lo/\s6=aG aH hi/\lo<=k/\k<=hi/\hi<=n/\hi-lo<=kx/\Below w.heap.size w wr)
 case atStart=>exact⟨0,n,rfl,rfl,Nat.zero_le _,hk,U _,by omega,Below.refl _ _⟩
 case round =>
  obtain⟨lo,hi,rfl,rfl,hlk,hkh,hin,hg,hb⟩:=hrel;have B:=ak hb;clear hb;by_cases hlt:lo<hi
  ·have hc:=HF.out ((lo+hi) / 2) (by omega) wr B.out;rw [show (((lo+hi) / 2:Nat):Int)=((lo:Int)+(hi:Int)) / 2 by omega] at hc;cases hp:p ((lo+hi) / 2) <;> rw [hp] at hc
   ·have HP:=ak hp;have HK:=ak (show (lo+hi) / 2+1<=k from by
     rcases bg ((lo+hi) / 2) k with h|h
     ·exact h
     ·have:=HI.out _ h (by omega); rw [hp] at this; cases this)
    clear hp;go_wp2_with (go_at_fn g; refine hc.mono ?_; rintro e w' ⟨rfl,hb2⟩)
    go_roundg (hi-((lo+hi) / 2+1))
    case measure=>omega
    case rel=>exact⟨(lo+hi) / 2+1,hi,by rw [show ((lo:Int)+(hi:Int)) / 2+1=(((lo+hi) / 2+1:Nat):Int) by omega],rfl,HK.out,hkh,hin,U _,B.out.trans (hb2.mono B.out.size)⟩
   ·have HP:=ak hp;have HK:=ak (show k<=(lo+hi) / 2 from by
     rcases bg ((lo+hi) / 2) k with h|h
     ·have:=LO.out _ h; rw [hp] at this; cases this
     ·exact h)
    clear hp;go_wp2_with (go_at_fn g; refine hc.mono ?_; rintro e w' ⟨rfl,hb2⟩)
    go_roundg ((lo+hi) / 2-lo)
    case measure=>omega
    case rel=>exact⟨lo,(lo+hi) / 2,rfl,by rw [show ((lo:Int)+(hi:Int)) / 2=(((lo+hi) / 2:Nat):Int) by omega],hlk,HK.out,by omega,U _,B.out.trans (hb2.mono B.out.size)⟩
  ·obtain rfl:hi=lo:=by omega
   obtain rfl:hi=k:=by omega
   go_wp2;go_ret;exact⟨rfl,B.out⟩
theorem wm {W W1:aQ} {v:bW} {l:List jl} {ao:Option Addr} {n c k:Nat} {x:jl} (h:mP W v l) (hv:v=bF ao n c) (hn:l.length=n) (hk:l[k]?=aC x) (hb:Below W.heap.size W W1) :
  ∃ p:Addr,(∀ w,(Instr.indexAt 27 (bF ao n c) (aG aH k)).run ah w=.ok (aV (aC p)) w) /\
   (∀ d os,(grow (aI W1 d) os).cell? p=aC (aG aH x.1))/\(∀ d os,(grow (aI W1 d) os).cell? ⟨p.block,p.off+1,bK⟩=aC (aG aH x.2.1)) /\
   (∀ d os,(grow (aI W1 d) os).cell? ⟨p.block,p.off+2,bK⟩=aC (aG aH x.2.2.1))/\(∀ d os,(grow (aI W1 d) os).cell? ⟨p.block,p.off+3,bK⟩=aC (aG aH x.2.2.2.1)) /\
   (∀ d os,(grow (aI W1 d) os).cell? ⟨p.block,p.off+4,bK⟩=aC (dQ x.2.2.2.2.1))/\(∀ d os,(grow (aI W1 d) os).cell? ⟨p.block,p.off+5,bK⟩=aC (aG aH x.2.2.2.2.2.1)) /\
   (∀ d os,(grow (aI W1 d) os).cell? ⟨p.block,p.off+6,bK⟩=aC (aU x.2.2.2.2.2.2)):=by
 obtain⟨p,h1,h2⟩:=TT h hv hn hk;obtain⟨c0,c1,c2,c3,c4,c5,c6⟩:=h2 _ hb;exact⟨p,h1,J c0,J c1,J c2,J c3,J c4,J c5,J c6⟩
theorem Qo (args:Array bW) (w:aQ):(callFunc 136 args).run ah w=.ok (.enter 136 args) w:=fD cB rfl rfl args w
theorem Qp (args:Array bW) (w:aQ):(callFunc 132 args).run ah w=.ok (.enter 132 args) w:=fD cK rfl rfl args w
theorem Qq (i:Nat) (b1 b2 b3:Nat) (ao:Option Addr) (n ac:Nat) (l:List jl) (t s:dV) (y:jl) (r:Bool) (w:aQ) (hv:mP w (bF ao n ac) l) (hn:l.length=n) (hy:l[i]?=aC y) (hr:(!iW (Co y) (t,s))=r)
  (h1:dG w b1 #[bF ao n ac] 27) (h2:dG w b2 #[aG aH t.1,aG aH t.2] 23) (h3:dG w b3 #[aG aH s.1,aG aH s.2] 23) :
  bV ah 136 #[aG aH i,aV (aC ⟨b1,0,bK⟩),aV (aC ⟨b2,0,bK⟩),aV (aC ⟨b3,0,bK⟩)] w fun e w'=>e=L (aU r)/\Below w.heap.size w w':=by
 obtain⟨p,ix,p0,p1,p2,p3,p4,p5,p6⟩:=wm hv rfl hn hy (Below.refl _ _);have a0:=J (h1.cell 0);have b0:=J (h2.cell 0);have b1':=J (h2.cell 1);have c0:=J (h3.cell 0);have c1:=J (h3.cell 1);obtain⟨q,hq⟩:∃ q,iW (Co y) (t,s)=q:=⟨_,rfl⟩;have C:∀ k os,bV ah 137 #[xP y,oK t,oK s] (grow (aI w k) os) fun e w''=>e=L (aU q)/\∃ p:Regrown,w''=grow (aI w p.d) p.os:=fun k os=>Calls.regrown_of (Jr y t s q hq _);rw [hq] at hr;have R:=ak hr;have BN:=ak (fun dq osq=>bU w dq osq);obtain⟨y1,y2,y3,y4,⟨yo,yn,yc⟩,y6,y7⟩:=y;obtain⟨c,d⟩:=t;obtain⟨g,h⟩:=s;simp only at p0 p1 p2 p3 p4 p5 p6 b0 b1' c0 c1 C;clear hv hn hy hr hq h1 h2 h3;go_enter cB,Tryz.ntmps136;go_wp2;refine wp_region_quiet_below (by kernel_rfl) (by kernel_rfl) ?_
 repeat (go_big_quiet_step (first | (with_reducible exact C _ _) | exact Ul _ _))
 refine wpQuiet_nil ?_;intro _ hw';obtain⟨⟨dq,osq⟩,hw''⟩:=hw';subst hw'';go_wp2;go_ret;exact⟨congrArg (fun b=>L (aU b)) R.out,BN.out _ _⟩
theorem Qr (i:Nat) (b1 b2:Nat) (ao:Option Addr) (n ac:Nat) (l:List jl) (t:dV) (y:jl) (r:Bool) (w:aQ) (hv:mP w (bF ao n ac) l) (hn:l.length=n) (hy:l[i]?=aC y) (hr:(!dP (y.1,y.2.1) t)=r)
  (h1:dG w b1 #[bF ao n ac] 27) (h2:dG w b2 #[aG aH t.1,aG aH t.2] 23) :
  bV ah 132 #[aG aH i,aV (aC ⟨b1,0,bK⟩),aV (aC ⟨b2,0,bK⟩)] w fun e w'=>e=L (aU r)/\Below w.heap.size w w':=by
 obtain⟨p,ix,p0,p1,p2,p3,p4,p5,p6⟩:=wm hv rfl hn hy (Below.refl _ _);have a0:=J (h1.cell 0);have b0:=J (h2.cell 0);have b1':=J (h2.cell 1);have C:∀ k os,bV ah 31 #[oK (y.1,y.2.1),oK t] (grow (aI w k) os) fun e w''=>e=L (aU (dP (y.1,y.2.1) t))/\∃ p:Regrown,w''=grow (aI w p.d) p.os:=fun k os=>Calls.regrown_of (pY (y.1,y.2.1) t _);generalize dP (y.1,y.2.1) t=q at *;have R:=ak hr;have BN:=ak (fun dq osq=>bU w dq osq);obtain⟨y1,y2,y3,y4,⟨yo,yn,yc⟩,y6,y7⟩:=y;obtain⟨c,d⟩:=t;simp only at p0 p1 p2 p3 p4 p5 p6 b0 b1' C;clear hv hn hy hr h1 h2 p2 p3 p4 p5 p6;go_enter cK,Tryz.ntmps132;go_wp2;refine wp_region_quiet_below (by kernel_rfl) (by kernel_rfl) ?_
 repeat (go_big_quiet_step (first | (with_reducible exact C _ _) | exact Js _ _))
 refine wpQuiet_nil ?_;intro _ hw';obtain⟨⟨dq,osq⟩,hw''⟩:=hw';subst hw'';go_wp2;go_ret;exact⟨congrArg (fun b=>L (aU b)) R.out,BN.out _ _⟩
end Sb
namespace Av
open Go.RowKit Go.Sort Rw YtghlpefopidlaaaGreat.Nm Pr Bk
theorem za {α:Type} (l:List α) (k:Nat) (x:α):(eY l k x).length=l.length+1:=by
 unfold eY;simp only [O,aO,List.length_nil,bG,bH];omega
end Av
namespace Bk
open Go.RowKit Go.Sort Rw YtghlpefopidlaaaGreat.Nm Pr
structure Ou where
 Um:Int
 kind:Int
 tree:Id
 id:Id
 p:List C5
def Ms (W:aQ) (x:mY) (o:Ou):Prop:=x.1=o.Um/\x.2.1=o.kind/\(x.2.2.1,x.2.2.2.1)=o.tree/\(x.2.2.2.2.1,x.2.2.2.2.2.1)=o.id/\fF W (dQ x.2.2.2.2.2.2.1) o.p/\x.2.2.2.2.2.2.2=(bK,0,0)
theorem Ms.on {W W':aQ} {x:mY} {o:Ou} (h:Ms W x o) (hb:Below W.heap.size W W'):Ms W' x o:=⟨h.1,h.2.1,h.2.2.1,h.2.2.2.1,h.2.2.2.2.1.on hb,h.2.2.2.2.2⟩
def lM (W:aQ) (s:Sl) (l:List Ou):Prop:=∃ xs,Wq W (dQ s) xs/\eT (Ms W) xs l
theorem lM.on {W W':aQ} {s:Sl} {l:List Ou} (h:lM W s l) (hb:Below W.heap.size W W'):lM W' s l:=by
 obtain⟨xs,h1,h2⟩:=h;exact⟨xs,h1.on hb,h2.mono fun _ _ h=>h.on hb⟩
def mU (Um:Int) (e:En):Ou:=⟨Um,3,e.tree,e.sub,e.p⟩
def gW (b:Br) (t x:Id) (f:Int):Br×List Ou:=if (takeB b t x f).2.2=aJ then ((takeB b t x f).1,[]) else
 match b.dW[(fH (b.dW.map Ad.id) t).toNat]? with
 | none=>((takeB b t x f).1,[])
 | some a=>((takeB b t x f).1,(takeB b t x f).2.1.map (mU a.par)++[⟨a.par,4,t,x,[]⟩])
theorem lF (b:Br) (t x:Id) (f:Int):(takeB b t x f).1.dW=b.dW/\(takeB b t x f).1.near=b.near/\(takeB b t x f).1.me=b.me/\(takeB b t x f).1.seen=b.seen/\(takeB b t x f).1.own=b.own:=by
 unfold takeB
 split
 ·exact⟨rfl,rfl,rfl,rfl,rfl⟩
 ·split
  ·exact⟨rfl,rfl,rfl,rfl,rfl⟩
  ·split
   ·exact⟨rfl,rfl,rfl,rfl,rfl⟩
   ·split <;> exact⟨rfl,rfl,rfl,rfl,rfl⟩
theorem Fj {b:Br} {t x:Id} {f:Int} (h:(takeB b t x f).2.2=aB):∃ e∈b.ent,e.tree=t:=by
 unfold takeB at h
 split at h
 ·cases h
 ·rename_i e he
  split at h
  ·cases h
  ·rename_i h1
   rcases kF (b.ent.map dM) (t,x) with h2|⟨k,h2,h3⟩
   ·exact absurd h2 h1
   ·rw [h2,aN] at he;refine⟨e,aT he,?_⟩;rw [Q,he] at h3;exact congrArg Prod.fst (K h3)
theorem lG (b:Br) (t x:Id) (f:Int):(takeB b t x f).1.ent.length<=b.ent.length/\(takeB b t x f).2.1.length<=b.ent.length:=by
 unfold takeB
 split
 ·simp
 ·split
  ·simp
  ·split
   ·simp
   ·have hc:(cutAt b.ent (iw (b.ent.map dM) (t,x)).toNat).length<=b.ent.length:=by
     unfold cutAt;rw [O,bG,bH];omega
    split
    ·exact⟨hc,by simp⟩
    ·have h1:=lD t (cutAt b.ent (iw (b.ent.map dM) (t,x)).toNat) (cutAt b.ent (iw (b.ent.map dM) (t,x)).toNat).length;exact⟨by rw [show ((fP t _ _).1.length)=_ from h1.1]; exact hc,Nat.le_trans h1.2 hc⟩
end Bk
namespace Av
open Go.RowKit Go.Sort Rw YtghlpefopidlaaaGreat.Nm Pr Bk
end Av
namespace Av
open Go.RowKit Go.Sort Rw YtghlpefopidlaaaGreat.Nm Pr Bk
theorem Hq {α β:Type} {E:Ek α} {F:Ek β} {W W':aQ} {B B':Nat} {v u:bW} {l:List β} {m:List α} (ho:Own F W B v l) (gr:W.grownBy W' v.ownBlock) (h:Own E W B' u m) (hne:(E.t == F.t)=aJ):Own E W' B' u m:=by
 rcases eZ ho with⟨h1,_⟩|⟨g,c,cur,h1,_,h2,_⟩
 ·rw [h1] at gr;exact Bk.dL h ((Below.refl _ _).grown gr (U _) (fun j hj=>by cases hj))
 ·rw [h1] at gr;exact (jJ (b:=g) gr).own h h2 hne
theorem jq {β:Type} {F:Ek β} {W W':aQ} {B k:Nat} {v:bW} {l:List β} {cs:Array bW} {t:TypeId} (ho:Own F W B v l) (gr:W.grownBy W' v.ownBlock) (h:dG W k cs t) (hne:(t == F.t)=aJ):dG W' k cs t:=by
 rcases eZ ho with⟨h1,_⟩|⟨g,c,cur,h1,_,h2,_⟩
 ·rw [h1] at gr;exact h.on ((Below.refl _ _).grown gr (U _) (fun j hj=>by cases hj))
 ·rw [h1] at gr;exact (jJ (b:=g) gr).box h (jG h h2 hne)
end Av
end Go.Proofs.YtghlpefopidlaaaGreat
