/-
  Right of package adv. Conditions as told.
-/
import Derived.Test.YtmklifheakemeaaOQ028
set_option maxRecDepth 100000
set_option maxHeartbeats 64000000
open _root_.Bool renaming true->Y,false->aK,true_and->aO
open _root_.List renaming getElem?_eq_some_iff->D,append_assoc->K,takeWhile_cons->L,dropWhile_cons->O,getElem?_eq_getElem->Q,length_append->U,getElem?_map->X,takeWhile_append_dropWhile->Z,getElem?_append_right->ah,getElem?_append_left->aj,getElem_mem->au,mem_append->aA,take_append_drop->aB,mem_cons_of_mem->aC,pairwise_cons->aF,all_takeWhile->aG,filter_append->aH,length_cons->aI,all_eq_true->aJ,any_append->aL,mem_cons->aM,any_cons->aN,mem_map->aQ
open _root_.Nat renaming add_sub_cancel_left->V,le_refl->aD,add_assoc->aP,add_zero->aR
open Option.some renaming inj->J
open _root_.Or renaming inl->ak,inr->ay
namespace Go.Proofs.Ytmklifheakemeaa
namespace Av
open Go.RowKit Go.Sort Rw Ytmklifheakemeaa.Nm Pr Bk
abbrev qF (a b:En):Int:=zZ (jE a.tree b.tree) (jE a.sub b.sub)
theorem lG (a b:En):qF a b<0↔(dP a.tree b.tree=Y\/(a.tree=b.tree/\dP a.sub b.sub=Y)):=by
 unfold qF zZ;by_cases h:jE a.tree b.tree=0
 ·rw [if_pos h,mQ];have e:=(kZ _ _).1 h;constructor
  ·exact fun q=>ay ⟨e,q⟩
  ·rintro (q|⟨_,q⟩)
   ·rw [e,jL] at q; cases q
   ·exact q
 ·rw [if_neg h,mQ];constructor
  ·exact ak
  ·rintro (q|⟨q,_⟩)
   ·exact q
   ·exact absurd ((kZ _ _).2 q) h
theorem wH (x y z:En) (h1:qF x y<0) (h2:qF y z<0):qF x z<0:=by
 rw [lG] at *;rcases h1 with h1|⟨e1,h1⟩ <;> rcases h2 with h2|⟨e2,h2⟩
 ·exact ak (gH h1 h2)
 ·exact ak (by rw [<- e2]; exact h1)
 ·exact ak (by rw [e1]; exact h2)
 ·exact ay ⟨e1.trans e2,gH h1 h2⟩
structure zk (b:Br):Prop where
 near:b.near.Pairwise (·<·)
 seen:BI b.seen
 fB:xQ b.fB
 ent:b.ent.Pairwise fun x y=>qF x y<0
 own:kg Ow.id b.own
 oks:∀ a∈b.fB,a.id∈b.seen/\tC b.near a.par=Y/\Wr.jd a.p=Y
 Rt:∀ e∈b.ent,zi b e=Y
 Ru:∀ o∈b.own,Wr.jd o.p=Y
theorem lH {α:Type} (l:List α) (k:Nat) (x y:α):y∈fF l k x↔y=x\/y∈l:=by
 unfold fF;rw [aA,aA,List.mem_singleton]
 conv=>rhs; rw [<- aB k l,aA]
 constructor
 ·rintro ((h|h)|h)
  ·exact ay (ak h)
  ·exact ak h
  ·exact ay (ay h)
 ·rintro (h|h|h)
  ·exact ak (ay h)
  ·exact ak (ak h)
  ·exact ay h
theorem mF {l:List Ad} (hr:xQ l) {a:Ad} (ha:a∈l):fK l a.id=some a:=by
 obtain⟨k,hk⟩:=List.mem_iff_getElem?.1 ha;refine mV hk rfl fun j z hj hz e=>?_;have:=kK hr hj hz hk;rw [e,jL] at this;cases this
theorem FK {b c:Br} {e:En} (hn:c.near=b.near) (hf:fK c.fB e.tree=fK b.fB e.tree) (h:zi b e=Y):zi c e=Y:=by
 unfold zi at *;rw [hf,hn];exact h
end Av
namespace Sb
open Go.RowKit Go.Sort Rw Ytmklifheakemeaa.Nm Pr Bk Av
abbrev fM (m:List En):Prop:=m.Pairwise fun x y=>qF x y<0
def fA (m:List En) (t:dW):Nat:=(m.takeWhile fun e=>dP e.tree t).length
def iP (m:List En) (t:dW):List En:=(m.drop (fA m t)).takeWhile fun e=>decide (e.tree=t)
def nO (r:List En) (p:List C5):Bool:=r.any fun e=>e.up && ji e.p p
def nP (r:List En):Bool:=r.all fun e=>e.up || nO r e.p
def wI (b:Br):Bool:=b.fB.all fun a=>a.par == -1 || nP (iP b.ent a.id)
def iI (s:List En×List En) (k:Nat):List En×List En:=match s.1[k]? with
 | none=>s
 | some e=>if e.up=Y\/nO s.1 e.p=Y then s else (s.1.set k (xV e),s.2++[xV e])
def eU (r:List En) (k:Nat):List En×List En:=(List.range k).foldl iI (r,[])
theorem iV (r:List En) (k:Nat):eU r (k+1)=iI (eU r k) k:=by
 simp [eU,List.range_succ]
theorem pW:∀ (l:List dW) (x:dW),fC l x=gD l x
 | [],_=>rfl
 | a::l,x=>by rw [fC,gD,pW l x]
theorem iR (x y:En):gJ (dH x) (dH y)=Y↔qF x y<0:=by
 rw [lG];unfold gJ;simp [oC]
theorem jO (x:dW×dW):gJ x x=aK:=by simp [gJ,jL]
def fQ (m:List En) (t s:dW):Bool:=match m[dK (m.map dH) (t,s)]? with
 | none=>aK
 | some e=>decide (dH e=(t,s))
theorem jP:∀ (l:List (dW×dW)) (x:dW×dW) (j:Nat) (y:dW×dW),j<dK l x->l[j]?=some y->gJ y x=Y
 | [],_,_,_,_,h=>by simp at h
 | a::l,x,j,y,hj,h=>by
  unfold dK at hj;by_cases ha:gJ a x=Y
  ·rw [L,if_pos ha,aI] at hj;cases j with
   | zero=>rw [<- J (show some a=some y from h)]; exact ha
   | succ j=>exact jP l x j y (by unfold dK; omega) (by simpa using h)
  ·rw [L,if_neg ha] at hj;simp at hj
theorem nQ:∀ (l:List (dW×dW)) (x y:dW×dW),l[dK l x]?=some y->gJ y x=aK
 | [],_,_,h=>by simp [dK] at h
 | a::l,x,y,h=>by
  unfold dK at h;by_cases ha:gJ a x=Y
  ·rw [L,if_pos ha,aI] at h;exact nQ l x y (by unfold dK; simpa using h)
  ·rw [L,if_neg ha] at h;rw [<- J (show some a=some y from h)];simpa using ha
theorem mG {m:List En} (hr:fM m) (t s:dW):gD (m.map dH) (t,s)=if fQ m t s=Y then (dK (m.map dH) (t,s):Int) else -1:=by
 unfold fQ;cases hp:m[dK (m.map dH) (t,s)]? with
 | none =>
  rw [if_neg (by simp)];refine pE _ _ fun j y hj e=>?_;have hl:m.length<=dK (m.map dH) (t,s):=List.getElem?_eq_none_iff.1 hp;have hj2:=(D.1 hj).1;rw [List.length_map] at hj2;have h:=jP _ (t,s) j y (by omega) hj;rw [e,jO] at h;cases h
 | some e =>
  have hpk:(m.map dH)[dK (m.map dH) (t,s)]?=some (dH e):=by rw [X,hp]; rfl
  by_cases he:dH e=(t,s)
  ·simp only [he,decide_true,if_true];rw [he] at hpk;refine Bb _ _ _ hpk fun j z hj hz q=>?_;have h:=jP _ (t,s) j z hj hz;rw [q,jO] at h;cases h
  ·rw [if_neg (by simpa using he)];refine pE _ _ fun j y hj q=>?_;rcases Nat.lt_trichotomy j (dK (m.map dH) (t,s)) with h|h|h
   ·have h:=jP _ (t,s) j y h hj;rw [q,jO] at h;cases h
   ·subst h;rw [hpk] at hj;exact he ((J hj).trans q)
   ·rw [X] at hj;cases hz:m[j]? with
    | none=>rw [hz] at hj; cases hj
    | some z =>
     rw [hz] at hj;have h1:=List.pairwise_iff_getElem.1 hr _ _ (D.1 hp).1 (D.1 hz).1 h;rw [(D.1 hp).2,(D.1 hz).2,<- iR] at h1;have h2:=nQ _ _ _ hpk;rw [show dH z=(t,s) from (J hj).trans q] at h1;rw [h1] at h2;cases h2
theorem xW {x y:En} (h:qF x y<0):dP x.tree y.tree=Y\/x.tree=y.tree:=by
 rcases (lG x y).1 h with q|q
 ·exact ak q
 ·exact ay q.1
theorem pX {α:Type} (p:α->Bool):∀ l:List α,l.drop (l.takeWhile p).length=l.dropWhile p
 | []=>rfl
 | a::l=>by
  by_cases h:p a=Y
  ·simp [h,pX p l]
  ·simp [h]
theorem wJ:∀ {m:List En} (t:dW) (_:fM m),∀ e∈m.dropWhile (fun e=>dP e.tree t),dP e.tree t=aK
 | [],_,_,e,h=>by simp at h
 | a::m,t,hr,e,h=>by
  have hr':=aF.1 hr;by_cases ha:dP a.tree t=Y
  ·rw [O,if_pos ha] at h;exact wJ t hr'.2 e h
  ·rw [O,if_neg ha] at h;rcases aM.1 h with rfl|h
   ·simpa using ha
   ·cases hq:dP e.tree t with
    | false=>rfl
    | true =>
     exfalso;rcases xW (hr'.1 e h) with q|q
     ·exact ha (gH q hq)
     ·exact ha (by rw [q]; exact hq)
theorem Cc:∀ {m:List En} (t:dW) (_:fM m) (_:∀ e∈m,dP e.tree t=aK),∀ e∈m.dropWhile (fun e=>decide (e.tree=t)),dP t e.tree=Y
 | [],_,_,_,e,h=>by simp at h
 | a::m,t,hr,hl,e,h=>by
  have hr':=aF.1 hr;by_cases ha:a.tree=t
  ·rw [O,if_pos (by simpa using ha)] at h;exact Cc t hr'.2 (fun e he=>hl e (aC _ he)) e h
  ·rw [O,if_neg (by simpa using ha)] at h;have Oi:dP t a.tree=Y:=by
    rcases kF a.tree t with q|q|q
    ·rw [hl a (by simp)] at q; cases q
    ·exact absurd q ha
    ·exact q
   rcases aM.1 h with rfl|h
   ·exact Oi
   ·rcases xW (hr'.1 e h) with q|q
    ·exact gH Oi q
    ·rw [<- q]; exact Oi
theorem xX {x t:dW} (h:dP x t=Y):x≠t:=by rintro rfl; rw [jL] at h; cases h
theorem uW {m:List En} (hr:fM m) (t:dW):∃ c,m=m.take (fA m t)++iP m t++c/\(m.take (fA m t)).length=fA m t/\(∀ e∈m.take (fA m t),e.tree≠t)/\(∀ e∈iP m t,e.tree=t)/\(∀ e∈c,e.tree≠t):=by
 have e1:m.take (fA m t)=m.takeWhile fun e=>dP e.tree t:=by
  unfold fA
  conv=>lhs; arg 2; rw [<- Z (p:=fun e:En=>dP e.tree t) (l:=m)]
  rw [List.take_left]
 have e2:m.drop (fA m t)=m.dropWhile fun e=>dP e.tree t:=pX _ _;refine⟨(m.drop (fA m t)).dropWhile fun e=>decide (e.tree=t),?_,?_,?_,?_,?_⟩
 ·unfold iP;rw [K,Z,aB]
 ·rw [e1]; rfl
 ·rw [e1];intro e he;exact xX (aJ.1 aG e he)
 ·intro e he;unfold iP at he;exact of_decide_eq_true (aJ.1 (aG (p:=fun e:En=>decide (e.tree=t))) e he)
 ·rw [e2];intro e he;have h1:fM (m.dropWhile fun e=>dP e.tree t):=hr.sublist (List.dropWhile_sublist _);exact (xX (Cc t h1 (wJ t hr) e he)).symm
theorem uX {α:Type} {p:α->Bool} {l:List α} (h:∀ e∈l,p e=aK):l.filter p=[]:=by
 rw [List.filter_eq_nil_iff];intro e he;rw [h e he];simp
theorem rE {m:List En} (hr:fM m) (t:dW):iP m t=m.filter fun e=>decide (e.tree=t):=by
 obtain⟨c,h1,_,h2,h3,h4⟩:=uW hr t;generalize iP m t=r at *;generalize m.take (fA m t)=a at *;subst h1;rw [aH,aH,uX (l:=a) fun e he=>by simpa using h2 e he,uX (l:=c) fun e he=>by simpa using h4 e he,List.nil_append,List.append_nil];exact (List.filter_eq_self.2 fun e he=>by simpa using h3 e he).symm
theorem Jq {m:List En} (hr:fM m) (t:dW) (p:List C5):nO (iP m t) p=dR m t p:=by
 rw [rE hr,nO,List.any_filter]
 rfl
theorem FT {a r c:List En} {t:dW} (ha:∀ e∈a,e.tree≠t) (hr:∀ e∈r,e.tree=t) (hc:∀ e∈c,e.tree≠t) (p:List C5):dR (a++r++c) t p=nO r p:=by
 have none_:∀ l:List En,(∀ e∈l,e.tree≠t)->l.any (BU t p)=aK:=fun l hl=>by
  rw [List.any_eq_false];intro e he;unfold BU;rw [decide_eq_false (hl e he)];simp
 unfold dR nO;rw [aL,aL,none_ a ha,none_ c hc,Bool.false_or,Bool.or_false]
 induction r with
 | nil=>rfl
 | cons x r ih =>
  rw [aN,aN,ih fun e he=>hr e (aC _ he)]
  congr 1
  unfold BU;rw [decide_eq_true (hr x (by simp)),aO]
theorem pY (s:List En×List En) (k:Nat):(iI s k).1.map dH=s.1.map dH:=by
 unfold iI
 split
 ·rfl
 ·rename_i e he
  split
  ·rfl
  ·rw [List.map_set];refine List.ext_getElem? fun j=>?_;rw [List.getElem?_set]
   split
   ·rename_i hj
    subst hj
    split
    ·rw [X,he]
     rfl
    ·rename_i hl
     rw [List.getElem?_eq_none (by simpa using hl)]
   ·rfl
theorem kR (r:List En):∀ k,(eU r k).1.map dH=r.map dH
 | 0=>rfl
 | k+1=>by rw [iV,pY,kR r k]
theorem mH (r:List En) (k:Nat):(eU r k).1.length=r.length:=by
 have h:=congrArg List.length (kR r k);simpa using h
theorem rF (r:List En):∀ k,(eU r k).2.length<=k
 | 0=>aD _
 | k+1=>by
  have ih:=rF r k;rw [iV];unfold iI
  split
  ·omega
  ·split
   ·omega
   ·simp; omega
theorem zm {r r':List En} {t:dW} (h:r'.map dH=r.map dH) (hr:∀ e∈r,e.tree=t):∀ e∈r',e.tree=t:=by
 intro e he;have h1:dH e∈r.map dH:=by rw [<- h]; exact aQ.2 ⟨e,he,rfl⟩
 obtain⟨z,hz,hk⟩:=aQ.1 h1;rw [<- show z.tree=e.tree from congrArg Prod.fst hk];exact hr z hz
theorem wK {a r c:List En} {t:dW} (ha:∀ e∈a,e.tree≠t) (hr:∀ e∈r,e.tree=t) (hc:∀ e∈c,e.tree≠t):l6 t (a++r++c) (a++r++c).length=(a++(eU r r.length).1++c,(eU r r.length).2):=by
 have s1:∀ k,k<=a.length->l6 t (a++r++c) k=(a++r++c,[]):=by
  intro k
  induction k with
  | zero=>intro _; rfl
  | succ k ih =>
   intro hk;rw [mE,ih (by omega)];unfold kP;have e1:(a++r++c)[k]?=some a[k]:=by rw [K,aj (by omega),Q (by omega)]
   rw [e1];simp only;rw [if_neg fun h=>ha _ (au _) h.1]
 have s2:∀ j,j<=r.length->l6 t (a++r++c) (a.length+j)=(a++(eU r j).1++c,(eU r j).2):=by
  intro j
  induction j with
  | zero=>intro _; rw [aR,s1 _ (aD _)]; rfl
  | succ j ih =>
   intro hj;have hl:=mH r j;have hk:=zm (kR r j) hr;rw [<- aP,mE,ih (by omega),iV];generalize eU r j=s at *;obtain⟨r',u⟩:=s;simp only at hl hk ⊢;unfold kP iI;have e1:(a++r'++c)[a.length+j]?=r'[j]?:=by rw [K,ah (by omega),V,aj (by omega)]
   simp only [e1];rw [Q (show j<r'.length by omega)];simp only;have ht:=hk _ (au (show j<r'.length by omega));rw [FT ha hk hc];by_cases h1:(r'[j]'(by omega)).up=Y\/nO r' (r'[j]'(by omega)).p=Y
   ·rw [if_pos h1,if_neg];rintro⟨_,g2,g3⟩;rcases h1 with h1|h1
    ·rw [h1] at g2; cases g2
    ·rw [h1] at g3; cases g3
   ·rw [if_neg h1,if_pos ⟨ht,by simpa using fun q=>h1 (ak q),by simpa using fun q=>h1 (ay q)⟩];have e2:(a++r'++c).set (a.length+j) (xV (r'[j]'(by omega)))=a++r'.set j (xV (r'[j]'(by omega)))++c:=by
     rw [K,List.set_append_right _ _ (by omega),V,List.set_append_left _ _ (by omega),K]
    rw [e2]
 have s3:∀ j,j<=c.length->l6 t (a++r++c) (a.length+r.length+j)=(a++(eU r r.length).1++c,(eU r r.length).2):=by
  intro j
  induction j with
  | zero=>intro _; rw [aR,s2 _ (aD _)]
  | succ j ih =>
   intro hj;have hl:=mH r r.length;rw [<- aP,mE,ih (by omega)];unfold kP;have e1:(a++(eU r r.length).1++c)[a.length+r.length+j]?=some (c[j]'(by omega)):=by
    rw [ah (by rw [U,hl]; omega),U,hl,V,Q (by omega)]
   rw [e1];simp only;rw [if_neg fun h=>hc _ (au _) h.1]
 have h:=s3 c.length (aD _);rw [U,U];exact h
def wL (b:Br):Prop:=∀ a∈b.fB,a.par≠-1->∀ e∈b.ent,e.tree=a.id->e.up=aK->dR b.ent a.id e.p=Y
theorem jC (m:List En) (t:dW) (p:List C5):dR m t p=Y↔∃ e∈m,e.tree=t/\e.up=Y/\ji e.p p=Y:=by
 unfold dR;rw [List.any_eq_true];simp [BU]
theorem zn {b:Br} (h:zk b) (e:En) (ht:wL b):wL (dL b e).1:=by
 unfold dL
 split
 ·exact ht
 ·rename_i a ha
  split
  ·exact ht
  ·rename_i h1
   split
   ·exact ht
   ·split
    ·exact ht
    ·have hid:a.id=e.tree:=by
      rcases kJ (b.fB.map Ad.id) e.tree with q|⟨k,q,r⟩
      ·exact absurd (pW _ _ ▸ q) h1
      ·rw [pW,q,Int.toNat_natCast] at ha;rw [X,ha] at r;exact J r
     have hA:a∈b.fB:=List.mem_of_getElem? ha;intro y hy hp z hz hte hu;have more:∀ p,dR b.ent y.id p=Y->dR (fF b.ent (dK (b.ent.map dH) (dH e)) { e with up:=decide (a.par≠-1) && !dR b.ent e.tree e.p }) y.id p=Y:=fun p hp=>by
      obtain⟨q,q1,q2⟩:=(jC _ _ _).1 hp;exact (jC _ _ _).2 ⟨q,(lH _ _ _ _).2 (ay q1),q2⟩
     rcases (lH _ _ _ _).1 hz with rfl|hz
     ·have hya:y=a:=by
       have g1:=mF h.fB hA;have g2:=mF h.fB hy;rw [show y.id=a.id from hte.symm.trans hid.symm,g1] at g2;exact (J g2).symm
      have hu':(decide (a.par≠-1) && !dR b.ent e.tree e.p)=aK:=hu;rw [<- hya,decide_eq_true hp,aO] at hu';refine more _ ?_;rw [<- show e.tree=y.id from hte];simpa using hu'
     ·exact more _ (ht y hy hp z hz hte hu)
end Sb
end Go.Proofs.Ytmklifheakemeaa
