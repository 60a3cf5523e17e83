/-
  Entries of one tree:. Conditions as told.
-/
import Derived.Test.YtmklifheakemeaaVQ031
set_option maxRecDepth 100000
set_option maxHeartbeats 64000000
open _root_.Bool renaming true->ah,false->aC,true_and->aO
open _root_.List renaming getElem?_eq_some_iff->D,getElem?_eq_getElem->K,getElem?_map->L,append_assoc->O,takeWhile_cons->Q,dropWhile_cons->U,length_append->V,takeWhile_append_dropWhile->Y,mem_iff_getElem?->Z,getElem?_append_right->aj,getElem?_append_left->ak,all_eq_true->ay,getElem_mem->aA,take_append_drop->aB,mem_cons_of_mem->aD,mem_cons->aF,pairwise_cons->aG,all_takeWhile->aH,filter_append->aI,getElem?_set->aJ,length_cons->aK,any_append->aL,mem_append->aM,any_cons->aN,mem_map->aQ
open _root_.Nat renaming add_sub_cancel_left->X,le_refl->au,add_assoc->aP,add_zero->aR
open Option.some renaming inj->J
namespace Go.Proofs.Ytmklifheakemeaa.Sb
open Go.RowKit Go.Sort Rw Ytmklifheakemeaa.Nm Pr Bk Av
abbrev fC (m:List En):Prop:=m.Pairwise fun x y=>rF x y<0
def fJ (m:List En) (t:eu):Nat:=(m.takeWhile fun e=>dW e.tree t).length
def jv (m:List En) (t:eu):List En:=(m.drop (fJ m t)).takeWhile fun e=>decide (e.tree=t)
def qK (r:List En) (p:List C5):Bool:=r.any fun e=>e.up && jD e.p p
def oP (r:List En):Bool:=r.all fun e=>e.up || qK r e.p
def sO (b:Br):Bool:=b.fI.all fun a=>a.par == -1 || oP (jv b.ent a.id)
def jf (s:List En×List En) (k:Nat):List En×List En:=match s.1[k]? with
 | none=>s
 | some e=>if e.up=ah\/qK s.1 e.p=ah then s else (s.1.set k (uM e),s.2++[uM e])
def fE (r:List En) (k:Nat):List En×List En:=(List.range k).foldl jf (r,[])
theorem jF (r:List En) (k:Nat):fE r (k+1)=jf (fE r k) k:=by
 simp [fE,List.range_succ]
theorem sP:∀ (l:List eu) (x:eu),fM l x=gG l x
 | [],_=>rfl
 | a::l,x=>by rw [fM,gG,sP l x]
theorem iL (x y:En):gL (dI x) (dI y)=ah↔rF x y<0:=by
 rw [nY];unfold gL;simp [rD]
theorem lH (x:eu×eu):gL x x=aC:=by simp [gL,lG]
def gy (m:List En) (t s:eu):Bool:=match m[dN (m.map dI) (t,s)]? with
 | none=>aC
 | some e=>decide (dI e=(t,s))
theorem lI:∀ (l:List (eu×eu)) (x:eu×eu) (j:Nat) (y:eu×eu),j<dN l x->l[j]?=some y->gL y x=ah
 | [],_,_,_,_,h=>by simp at h
 | a::l,x,j,y,hj,h=>by
  unfold dN at hj;by_cases ha:gL a x=ah
  ·rw [Q,if_pos ha,aK] at hj;cases j with
   | zero=>rw [<- J (show some a=some y from h)]; exact ha
   | succ j=>exact lI l x j y (by unfold dN; omega) (by simpa using h)
  ·rw [Q,if_neg ha] at hj;simp at hj
theorem qL:∀ (l:List (eu×eu)) (x y:eu×eu),l[dN l x]?=some y->gL y x=aC
 | [],_,_,h=>by simp [dN] at h
 | a::l,x,y,h=>by
  unfold dN at h;by_cases ha:gL a x=ah
  ·rw [Q,if_pos ha,aK] at h;exact qL l x y (by unfold dN; simpa using h)
  ·rw [Q,if_neg ha] at h;rw [<- J (show some a=some y from h)];simpa using ha
theorem jV {m:List En} (hr:fC m) (t s:eu):gG (m.map dI) (t,s)=if gy m t s=ah then (dN (m.map dI) (t,s):Int) else -1:=by
 unfold gy;cases hp:m[dN (m.map dI) (t,s)]? with
 | none =>
  rw [if_neg (by simp)];refine su _ _ fun j y hj e=>?_;have hl:m.length<=dN (m.map dI) (t,s):=List.getElem?_eq_none_iff.1 hp;have hj2:=(D.1 hj).1;rw [List.length_map] at hj2;have h:=lI _ (t,s) j y (by omega) hj;rw [e,lH] at h;cases h
 | some e =>
  have hpk:(m.map dI)[dN (m.map dI) (t,s)]?=some (dI e):=by rw [L,hp]; rfl
  by_cases he:dI e=(t,s)
  ·simp only [he,decide_true,if_true];rw [he] at hpk;refine Fz _ _ _ hpk fun j z hj hz q=>?_;have h:=lI _ (t,s) j z hj hz;rw [q,lH] at h;cases h
  ·rw [if_neg (by simpa using he)];refine su _ _ fun j y hj q=>?_;rcases Nat.lt_trichotomy j (dN (m.map dI) (t,s)) with h|h|h
   ·have h:=lI _ (t,s) j y h hj;rw [q,lH] at h;cases h
   ·subst h;rw [hpk] at hj;exact he ((J hj).trans q)
   ·rw [L] at hj;cases hz:m[j]? with
    | none=>rw [hz] at hj; cases hj
    | some z =>
     rw [hz] at hj;have h1:=List.pairwise_iff_getElem.1 hr _ _ (D.1 hp).1 (D.1 hz).1 h;rw [(D.1 hp).2,(D.1 hz).2,<- iL] at h1;have h2:=qL _ _ _ hpk;rw [show dI z=(t,s) from (J hj).trans q] at h1;rw [h1] at h2;cases h2
theorem Cg {x y:En} (h:rF x y<0):dW x.tree y.tree=ah\/x.tree=y.tree:=by
 rcases (nY x y).1 h with q|q
 ·exact Or.inl q
 ·exact Or.inr q.1
theorem sQ {α:Type} (p:α->Bool):∀ l:List α,l.drop (l.takeWhile p).length=l.dropWhile p
 | []=>rfl
 | a::l=>by
  by_cases h:p a=ah
  ·simp [h,sQ p l]
  ·simp [h]
theorem AP:∀ {m:List En} (t:eu) (_:fC m),∀ e∈m.dropWhile (fun e=>dW e.tree t),dW e.tree t=aC
 | [],_,_,e,h=>by simp at h
 | a::m,t,hr,e,h=>by
  have hr':=aG.1 hr;by_cases ha:dW a.tree t=ah
  ·rw [U,if_pos ha] at h;exact AP t hr'.2 e h
  ·rw [U,if_neg ha] at h;rcases aF.1 h with rfl|h
   ·simpa using ha
   ·cases hq:dW e.tree t with
    | false=>rfl
    | true =>
     exfalso;rcases Cg (hr'.1 e h) with q|q
     ·exact ha (gV q hq)
     ·exact ha (by rw [q]; exact hq)
theorem Gn:∀ {m:List En} (t:eu) (_:fC m) (_:∀ e∈m,dW e.tree t=aC),∀ e∈m.dropWhile (fun e=>decide (e.tree=t)),dW t e.tree=ah
 | [],_,_,_,e,h=>by simp at h
 | a::m,t,hr,hl,e,h=>by
  have hr':=aG.1 hr;by_cases ha:a.tree=t
  ·rw [U,if_pos (by simpa using ha)] at h;exact Gn t hr'.2 (fun e he=>hl e (aD _ he)) e h
  ·rw [U,if_neg (by simpa using ha)] at h;have P5:dW t a.tree=ah:=by
    rcases mU a.tree t with q|q|q
    ·rw [hl a (by simp)] at q; cases q
    ·exact absurd q ha
    ·exact q
   rcases aF.1 h with rfl|h
   ·exact P5
   ·rcases Cg (hr'.1 e h) with q|q
    ·exact gV P5 q
    ·rw [<- q]; exact P5
theorem Ch {x t:eu} (h:dW x t=ah):x≠t:=by rintro rfl; rw [lG] at h; cases h
theorem yE {m:List En} (hr:fC m) (t:eu):∃ c,m=m.take (fJ m t)++jv m t++c/\(m.take (fJ m t)).length=fJ m t/\(∀ e∈m.take (fJ m t),e.tree≠t)/\(∀ e∈jv m t,e.tree=t)/\(∀ e∈c,e.tree≠t):=by
 have e1:m.take (fJ m t)=m.takeWhile fun e=>dW e.tree t:=by
  unfold fJ
  conv=>lhs; arg 2; rw [<- Y (p:=fun e:En=>dW e.tree t) (l:=m)]
  rw [List.take_left]
 have e2:m.drop (fJ m t)=m.dropWhile fun e=>dW e.tree t:=sQ _ _;refine⟨(m.drop (fJ m t)).dropWhile fun e=>decide (e.tree=t),?_,?_,?_,?_,?_⟩
 ·unfold jv;rw [O,Y,aB]
 ·rw [e1]; rfl
 ·rw [e1];intro e he;exact Ch (ay.1 aH e he)
 ·intro e he;unfold jv at he;exact of_decide_eq_true (ay.1 (aH (p:=fun e:En=>decide (e.tree=t))) e he)
 ·rw [e2];intro e he;have h1:fC (m.dropWhile fun e=>dW e.tree t):=hr.sublist (List.dropWhile_sublist _);exact (Ch (Gn t h1 (AP t hr) e he)).symm
theorem yF {α:Type} {p:α->Bool} {l:List α} (h:∀ e∈l,p e=aC):l.filter p=[]:=by
 rw [List.filter_eq_nil_iff];intro e he;rw [h e he];simp
theorem qM {m:List En} (hr:fC m) (t:eu):jv m t=m.filter fun e=>decide (e.tree=t):=by
 obtain⟨c,h1,_,h2,h3,h4⟩:=yE hr t;generalize jv m t=r at *;generalize m.take (fJ m t)=a at *;subst h1;rw [aI,aI,yF (l:=a) fun e he=>by simpa using h2 e he,yF (l:=c) fun e he=>by simpa using h4 e he,List.nil_append,List.append_nil];exact (List.filter_eq_self.2 fun e he=>by simpa using h3 e he).symm
theorem AQ {m:List En} (hr:fC m) (t:eu) (p:List C5):qK (jv m t) p=dJ m t p:=by
 rw [qM hr,qK,List.any_filter]
 rfl
theorem Gp {m:List En} (hr:fC m) (t:eu) (e:En):e∈jv m t↔e∈m/\e.tree=t:=by
 rw [qM hr,List.mem_filter,decide_eq_true_eq]
theorem Jd {a r c:List En} {t:eu} (ha:∀ e∈a,e.tree≠t) (hr:∀ e∈r,e.tree=t) (hc:∀ e∈c,e.tree≠t) (p:List C5):dJ (a++r++c) t p=qK r p:=by
 have none_:∀ l:List En,(∀ e∈l,e.tree≠t)->l.any (FY t p)=aC:=fun l hl=>by
  rw [List.any_eq_false];intro e he;unfold FY;rw [decide_eq_false (hl e he)];simp
 unfold dJ qK;rw [aL,aL,none_ a ha,none_ c hc,Bool.false_or,Bool.or_false]
 induction r with
 | nil=>rfl
 | cons x r ih =>
  rw [aN,aN,ih fun e he=>hr e (aD _ he)]
  congr 1
  unfold FY;rw [decide_eq_true (hr x (by simp)),aO]
theorem sS (s:List En×List En) (k:Nat):(jf s k).1.map dI=s.1.map dI:=by
 unfold jf
 split
 ·rfl
 ·rename_i e he
  split
  ·rfl
  ·rw [List.map_set];refine List.ext_getElem? fun j=>?_;rw [aJ]
   split
   ·rename_i hj
    subst hj
    split
    ·rw [L,he]
     rfl
    ·rename_i hl
     rw [List.getElem?_eq_none (by simpa using hl)]
   ·rfl
theorem mY (r:List En):∀ k,(fE r k).1.map dI=r.map dI
 | 0=>rfl
 | k+1=>by rw [jF,sS,mY r k]
theorem oQ (r:List En) (k:Nat):(fE r k).1.length=r.length:=by
 have h:=congrArg List.length (mY r k);simpa using h
theorem vT (r:List En):∀ k,(fE r k).2.length<=k
 | 0=>au _
 | k+1=>by
  have ih:=vT r k;rw [jF];unfold jf
  split
  ·omega
  ·split
   ·omega
   ·simp; omega
theorem Dv {r r':List En} {t:eu} (h:r'.map dI=r.map dI) (hr:∀ e∈r,e.tree=t):∀ e∈r',e.tree=t:=by
 intro e he;have h1:dI e∈r.map dI:=by rw [<- h]; exact aQ.2 ⟨e,he,rfl⟩
 obtain⟨z,hz,hk⟩:=aQ.1 h1;rw [<- show z.tree=e.tree from congrArg Prod.fst hk];exact hr z hz
theorem AU {a r c:List En} {t:eu} (ha:∀ e∈a,e.tree≠t) (hr:∀ e∈r,e.tree=t) (hc:∀ e∈c,e.tree≠t):fO t (a++r++c) (a++r++c).length=(a++(fE r r.length).1++c,(fE r r.length).2):=by
 have s1:∀ k,k<=a.length->fO t (a++r++c) k=(a++r++c,[]):=by
  intro k
  induction k with
  | zero=>intro _; rfl
  | succ k ih =>
   intro hk;rw [gq,ih (by omega)];unfold fA;have e1:(a++r++c)[k]?=some a[k]:=by rw [O,ak (by omega),K (by omega)]
   rw [e1];simp only;rw [if_neg fun h=>ha _ (aA _) h.1]
 have s2:∀ j,j<=r.length->fO t (a++r++c) (a.length+j)=(a++(fE r j).1++c,(fE r j).2):=by
  intro j
  induction j with
  | zero=>intro _; rw [aR,s1 _ (au _)]; rfl
  | succ j ih =>
   intro hj;have hl:=oQ r j;have hk:=Dv (mY r j) hr;rw [<- aP,gq,ih (by omega),jF];generalize fE r j=s at *;obtain⟨r',u⟩:=s;simp only at hl hk ⊢;unfold fA jf;have e1:(a++r'++c)[a.length+j]?=r'[j]?:=by rw [O,aj (by omega),X,ak (by omega)]
   simp only [e1];rw [K (show j<r'.length by omega)];simp only;have ht:=hk _ (aA (show j<r'.length by omega));rw [Jd ha hk hc];by_cases h1:(r'[j]'(by omega)).up=ah\/qK r' (r'[j]'(by omega)).p=ah
   ·rw [if_pos h1,if_neg];rintro⟨_,g2,g3⟩;rcases h1 with h1|h1
    ·rw [h1] at g2; cases g2
    ·rw [h1] at g3; cases g3
   ·rw [if_neg h1,if_pos ⟨ht,by simpa using fun q=>h1 (Or.inl q),by simpa using fun q=>h1 (Or.inr q)⟩];have e2:(a++r'++c).set (a.length+j) (uM (r'[j]'(by omega)))=a++r'.set j (uM (r'[j]'(by omega)))++c:=by
     rw [O,List.set_append_right _ _ (by omega),X,List.set_append_left _ _ (by omega),O]
    rw [e2]
 have s3:∀ j,j<=c.length->fO t (a++r++c) (a.length+r.length+j)=(a++(fE r r.length).1++c,(fE r r.length).2):=by
  intro j
  induction j with
  | zero=>intro _; rw [aR,s2 _ (au _)]
  | succ j ih =>
   intro hj;have hl:=oQ r r.length;rw [<- aP,gq,ih (by omega)];unfold fA;have e1:(a++(fE r r.length).1++c)[a.length+r.length+j]?=some (c[j]'(by omega)):=by
    rw [aj (by rw [V,hl]; omega),V,hl,X,K (by omega)]
   rw [e1];simp only;rw [if_neg fun h=>hc _ (aA _) h.1]
 have h:=s3 c.length (au _);rw [V,V];exact h
def oU (b:Br):Prop:=∀ a∈b.fI,a.par≠-1->∀ e∈b.ent,e.tree=a.id->e.up=aC->dJ b.ent a.id e.p=ah
theorem vU {b:Br} (hr:fC b.ent):sO b=ah↔oU b:=by
 unfold sO oU oP;simp only [ay,Bool.or_eq_true,beq_iff_eq];constructor
 ·intro h a ha hp e he ht hu;have h1:=(h a ha).resolve_left hp e ((Gp hr _ _).2 ⟨he,ht⟩);rw [AQ hr] at h1;exact h1.resolve_left (by rw [hu]; simp)
 ·intro h a ha;by_cases hp:a.par=-1
  ·exact Or.inl hp
  ·refine Or.inr fun e he=>?_;obtain⟨h1,h2⟩:=(Gp hr _ _).1 he;rw [AQ hr];cases hu:e.up with
   | true=>exact Or.inl rfl
   | false=>exact Or.inr (h a ha hp e h1 h2 hu)
theorem iM (m:List En) (t:eu) (p:List C5):dJ m t p=ah↔∃ e∈m,e.tree=t/\e.up=ah/\jD e.p p=ah:=by
 unfold dJ;rw [List.any_eq_true];simp [FY]
theorem Dw {b:Br} (h:yD b) (e:En) (ht:oU b):oU (dU b e).1:=by
 unfold dU
 split
 ·exact ht
 ·rename_i a ha
  split
  ·exact ht
  ·rename_i h1
   split
   ·exact ht
   ·split
    ·exact ht
    ·have hid:a.id=e.tree:=by
      rcases jS (b.fI.map Ad.id) e.tree with q|⟨k,q,r⟩
      ·exact absurd (sP _ _ ▸ q) h1
      ·rw [sP,q,Int.toNat_natCast] at ha;rw [L,ha] at r;exact J r
     have hA:a∈b.fI:=List.mem_of_getElem? ha;intro y hy hp z hz hte hu;have more:∀ p,dJ b.ent y.id p=ah->dJ (fP b.ent (dN (b.ent.map dI) (dI e)) { e with up:=decide (a.par≠-1) && !dJ b.ent e.tree e.p }) y.id p=ah:=fun p hp=>by
      obtain⟨q,q1,q2⟩:=(iM _ _ _).1 hp;exact (iM _ _ _).2 ⟨q,(nZ _ _ _ _).2 (Or.inr q1),q2⟩
     rcases (nZ _ _ _ _).1 hz with rfl|hz
     ·have hya:y=a:=by
       have g1:=oO h.fI hA;have g2:=oO h.fI hy;rw [show y.id=a.id from hte.symm.trans hid.symm,g1] at g2;exact (J g2).symm
      have hu':(decide (a.par≠-1) && !dJ b.ent e.tree e.p)=aC:=hu;rw [<- hya,decide_eq_true hp,aO] at hu';refine more _ ?_;rw [<- show e.tree=y.id from hte];simpa using hu'
     ·exact more _ (ht y hy hp z hz hte hu)
theorem lY {α:Type} {l:List α} {k:Nat} {x y:α} (hk:l[k]?=some x) (hy:y∈l):y=x\/y∈cutAt l k:=by
 have hlt:=(D.1 hk).1;have e:l=l.take k++x::l.drop (k+1):=by
  conv=>lhs; rw [<- aB k l]
  rw [List.drop_eq_getElem_cons hlt,(D.1 hk).2]
 rw [e] at hy;unfold cutAt;rcases aM.1 hy with h|h
 ·exact Or.inr (List.mem_append_left _ h)
 ·rcases aF.1 h with h|h
  ·exact Or.inl h
  ·exact Or.inr (List.mem_append_right _ h)
theorem p8 {α:Type} {l:List α} {k:Nat} {y:α} (h:y∈cutAt l k):y∈l:=by
 unfold cutAt at h;rcases aM.1 h with h|h
 ·exact List.mem_of_mem_take h
 ·exact List.mem_of_mem_drop h
theorem Ci {α:Type} {l:List α} {k:Nat} {x y z:α} (hk:l[k]?=some x) (hz:z∈l):z=x\/z∈l.set k y:=by
 obtain⟨j,hj⟩:=Z.1 hz;by_cases hjk:k=j
 ·subst hjk;rw [hk] at hj;exact Or.inl (J hj).symm
 ·right;refine Z.2 ⟨j,?_⟩;rw [List.getElem?_set_ne hjk];exact hj
theorem yG {t:eu} {s:List En×List En} {k:Nat} (u:eu) (p:List C5) (h:dJ s.1 u p=ah):dJ (fA t s k).1 u p=ah:=by
 unfold fA
 split
 ·exact h
 ·rename_i e he
  split
  ·obtain⟨z,h1,h2,h3,h4⟩:=(iM _ _ _).1 h;rcases Ci (y:=uM e) he h1 with rfl|h5
   ·rename_i hq
    rw [hq.2.1] at h3;cases h3
   ·exact (iM _ _ _).2 ⟨z,h5,h2,h3,h4⟩
  ·exact h
theorem qN (t:eu) (m:List En):∀ k,k<=m.length->(∀ j,j<k->∀ e,(fO t m k).1[j]?=some e->e.tree=t->e.up=aC->dJ (fO t m k).1 t e.p=ah)/\(∀ u p,dJ m u p=ah->dJ (fO t m k).1 u p=ah)/\(∀ e,e∈(fO t m k).1->e.tree≠t->e∈m)
 | 0,_=>⟨fun j hj=>absurd hj (Nat.not_lt_zero _),fun _ _ h=>h,fun _ h _=>h⟩
 | k+1,hk=>by
  obtain⟨h1,h2,h3⟩:=qN t m k (by omega);rw [gq];refine⟨fun j hj e he htr hu=>?_,fun u p h=>yG u p (h2 u p h),fun e he hne=>?_⟩
  ·have hl:=(jA t m k).1;generalize fO t m k=s at *;obtain⟨z,hz⟩:∃ z,s.1[k]?=some z:=⟨_,K (by omega)⟩;by_cases hc:z.tree=t/\z.up=aC/\dJ s.1 t z.p=aC
   ·have e1:fA t s k=(s.1.set k (uM z),s.2++[uM z]):=by unfold fA; rw [hz]; simp only; rw [if_pos hc]
    have mono:=yG (t:=t) (s:=s) (k:=k) t;rw [e1] at he mono ⊢;rw [aJ] at he
    split at he
    ·split at he
     ·rw [<- J he] at hu;cases hu
     ·cases he
    ·exact mono _ (h1 j (by omega) e he htr hu)
   ·have e1:fA t s k=s:=by unfold fA; rw [hz]; simp only; rw [if_neg hc]
    rw [e1] at he ⊢;rcases Nat.lt_or_ge j k with h0|h0
    ·exact h1 j h0 e he htr hu
    ·obtain rfl:j=k:=by omega
     rw [hz] at he;obtain rfl:=J he;cases hv:dJ s.1 t z.p with
     | true=>rfl
     | false=>exact absurd ⟨htr,hu,hv⟩ hc
  ·unfold fA at he
   split at he
   ·exact h3 e he hne
   ·rename_i z hz
    split at he
    ·rename_i hq
     rcases List.mem_or_eq_of_mem_set he with h5|h5
     ·exact h3 e h5 hne
     ·rw [h5] at hne;exact absurd hq.1 hne
    ·exact h3 e he hne
theorem AV {b:Br} (t x:eu) (f:Int) (ht:oU b):oU (takeB b t x f).1:=by
 unfold takeB
 split
 ·exact ht
 ·rename_i e0 he0
  split
  ·exact ht
  ·rename_i h1
   split
   ·exact ht
   ·have h5:e0.tree=t:=by
     rcases jS (b.ent.map dI) (t,x) with q|⟨k,q,r⟩
     ·exact absurd q h1
     ·rw [q,Int.toNat_natCast] at he0;rw [L,he0] at r;exact congrArg Prod.fst (J r)
    generalize (gG (b.ent.map dI) (t,x)).toNat=k at *
    split
    ·rename_i hup
     intro y hy hp z hz hte hu;obtain⟨q,q1,q2,q3,q4⟩:=(iM _ _ _).1 (ht y hy hp z (p8 hz) hte hu);refine (iM _ _ _).2 ⟨q,(lY he0 q1).resolve_left ?_,q2,q3,q4⟩;rintro rfl;rw [hup] at q3;cases q3
    ·intro y hy hp z hz hte hu;obtain⟨g1,g2,g3⟩:=qN t (cutAt b.ent k) (cutAt b.ent k).length (au _);by_cases P6:y.id=t
     ·obtain⟨j,hj⟩:=Z.1 hz;have hlt:=(D.1 hj).1;rw [(jA t (cutAt b.ent k) _).1] at hlt;rw [P6] at hte ⊢;exact g1 j hlt z hj hte hu
     ·have S9:z.tree≠t:=by rw [hte]; exact P6
      obtain⟨q,q1,q2,q3,q4⟩:=(iM _ _ _).1 (ht y hy hp z (p8 (g3 z hz S9)) hte hu);refine g2 _ _ ((iM _ _ _).2 ⟨q,(lY he0 q1).resolve_left ?_,q2,q3,q4⟩);rintro rfl;exact P6 (q2.symm.trans h5)
end Go.Proofs.Ytmklifheakemeaa.Sb
