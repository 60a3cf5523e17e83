/-
  Right's closures, an. Conditions as told.
-/
import Derived.Test.YtghlpefopidlaaaGreatOQ023
import Derived.Test.YtghlpefopidlaaaGreatOQ024
import Derived.Test.YtghlpefopidlaaaGreatOQ026
set_option maxRecDepth 100000
set_option maxHeartbeats 64000000
open _root_.Bool renaming true->O,and_eq_true->aB,false->aM,true_and->aN
open _root_.List renaming getElem?_eq_some_iff->D,pairwise_cons->K,takeWhile_cons->L,append_assoc->Q,getElem?_eq_getElem->U,mem_iff_getElem?->V,getElem?_map->X,dropWhile_cons->Y,mem_cons->Z,mem_append->ah,length_append->aj,takeWhile_append_dropWhile->ay,take_append_drop->aA,all_eq_true->aD,length_cons->aF,mem_cons_of_mem->aG,getElem?_append_right->aH,getElem?_append_left->aI,getElem_mem->aK,singleton_append->aL,all_takeWhile->aO,filter_append->aP,getElem?_set->aQ,any_append->aR,any_cons->aS,mem_map->aU
open _root_.Nat renaming add_sub_cancel_left->ak,le_refl->aJ,add_assoc->aT,add_zero->aV
open Option.some renaming inj->J
open _root_.Or renaming inl->au,inr->aC
namespace Go.Proofs.YtghlpefopidlaaaGreat
namespace Av
open Go.RowKit Go.Sort Rw YtghlpefopidlaaaGreat.Nm Pr Bk
abbrev ZM (a b:Ad):Int:=jA a.id b.id
abbrev qK (a b:En):Int:=Jq (jA a.tree b.tree) (jA a.sub b.sub)
abbrev cOw (a b:Ow):Int:=jA a.id b.id
def UO (b:Br):Bool:=nQ lI b.near && (nQ jA b.seen && (nQ ZM b.dG && (nQ qK b.ent && (nQ cOw b.own && (b.dG.all (Ry b) && (b.ent.all (wN b) && b.own.all (fun o=>Wr.gV o.p)))))))
theorem jM {α:Type} {c:α->α->Int} (ht:∀ x y z,c x y<0->c y z<0->c x z<0):∀ {l:List α},nQ c l=O->l.Pairwise fun x y=>c x y<0
 | [],_=>List.Pairwise.nil
 | [x],_=>List.pairwise_singleton _ _
 | x::y::l,h=>by
  unfold nQ at h;rw [aB] at h;have ih:=jM ht h.2;have hxy:c x y<0:=of_decide_eq_true h.1;refine K.2 ⟨fun z hz=>?_,ih⟩;rcases Z.1 hz with rfl|hz
  ·exact hxy
  ·exact ht x y z hxy ((K.1 ih).1 z hz)
theorem kD {x y:dO}:jA x y<0↔dJ x y=O:=nY x y
theorem zu (x y z:dO) (h1:jA x y<0) (h2:jA y z<0):jA x z<0:=kD.2 (fT (kD.1 h1) (kD.1 h2))
theorem Ih {l:List dO} (h:nQ jA l=O):Fz l:=(jM zu h).imp fun {_a _b} q=>kD.1 q
theorem KI {l:List Ad} (h:nQ ZM l=O):AX l:=(jM (fun x y z=>zu x.id y.id z.id) h).imp fun {_a _b} q=>kD.1 q
theorem mF {α:Type} {c:α->α->Int}:∀ {l:List α},(l.Pairwise fun x y=>c x y<0)->nQ c l=O
 | [],_=>rfl
 | [_],_=>rfl
 | x::y::l,h=>by
  have h1:=K.1 h;unfold nQ;rw [decide_eq_true (h1.1 y (by simp)),aN];exact mF h1.2
theorem NY (x y z:Int) (h1:lI x y<0) (h2:lI y z<0):lI x z<0:=by rw [nX] at *; omega
theorem lU (a b:En):qK a b<0↔(dJ a.tree b.tree=O\/(a.tree=b.tree/\dJ a.sub b.sub=O)):=by
 unfold qK Jq;by_cases h:jA a.tree b.tree=0
 ·rw [if_pos h,nY];have e:=(oN _ _).1 h;constructor
  ·exact fun q=>aC ⟨e,q⟩
  ·rintro (q|⟨_,q⟩)
   ·rw [e,gZ] at q; cases q
   ·exact q
 ·rw [if_neg h,nY];constructor
  ·exact au
  ·rintro (q|⟨q,_⟩)
   ·exact q
   ·exact absurd ((oN _ _).2 q) h
theorem uS (x y z:En) (h1:qK x y<0) (h2:qK y z<0):qK x z<0:=by
 rw [lU] at *;rcases h1 with h1|⟨e1,h1⟩ <;> rcases h2 with h2|⟨e2,h2⟩
 ·exact au (fT h1 h2)
 ·exact au (by rw [<- e2]; exact h1)
 ·exact au (by rw [e1]; exact h2)
 ·exact aC ⟨e1.trans e2,fT h1 h2⟩
structure fQ (b:Br):Prop where
 near:b.near.Pairwise (·<·)
 seen:Fz b.seen
 dG:AX b.dG
 ent:b.ent.Pairwise fun x y=>qK x y<0
 own:iE Ow.id b.own
 oks:∀ a∈b.dG,a.id∈b.seen/\oC b.near a.par=O/\Wr.gV a.p=O
 NZ:∀ e∈b.ent,wN b e=O
 UQ:∀ o∈b.own,Wr.gV o.p=O
theorem qL (b:Br):UO b=O↔fQ b:=by
 unfold UO;simp only [aB,aD];constructor
 ·rintro⟨h1,h2,h3,h4,h5,h6,h7,h8⟩;refine⟨(jM NY h1).imp fun {a b} q=>(nX a b).1 q,Ih h2,KI h3,jM uS h4,(jM (fun x y z=>zu x.id y.id z.id) h5).imp fun {a b} q=>kD.1 q,fun a ha=>?_,h7,h8⟩;have:=h6 a ha;unfold Ry at this;simp only [aB,decide_eq_true_eq] at this;exact this
 ·rintro⟨h1,h2,h3,h4,h5,h6,h7,h8⟩;refine⟨mF (h1.imp fun {a b} q=>(nX a b).2 q),mF (h2.imp fun {a b} q=>kD.2 q),mF (h3.imp fun {a b} q=>kD.2 q),mF h4,mF (h5.imp fun {a b} q=>kD.2 q),fun a ha=>?_,h7,h8⟩;unfold Ry;simp only [aB,decide_eq_true_eq];exact h6 a ha
theorem jQ {α:Type} (l:List α) (k:Nat) (x y:α):y∈eZ l k x↔y=x\/y∈l:=by
 unfold eZ;rw [ah,ah,List.mem_singleton]
 conv=>rhs; rw [<- aA k l,ah]
 constructor
 ·rintro ((h|h)|h)
  ·exact aC (au h)
  ·exact au h
  ·exact aC (aC h)
 ·rintro (h|h|h)
  ·exact au (aC h)
  ·exact au (au h)
  ·exact aC h
theorem Bf {α:Type} (key:α->dO):∀ (l:List α) (x:dO),∀ y∈l.take (dX key l x),dJ (key y) x=O
 | [],_,y,h=>by simp at h
 | a::l,x,y,h=>by
  unfold dX at h;by_cases ha:dJ (key a) x=O
  ·simp only [L,ha,if_true,aF,List.take_succ_cons,Z] at h;rcases h with rfl|h
   ·exact ha
   ·exact Bf key l x y h
  ·simp [ha] at h
theorem oG {α:Type} {key:α->dO}:∀ {l:List α} (_:iE key l) (x:dO) (_:∀ y∈l,key y≠x),∀ y∈l.drop (dX key l x),dJ x (key y)=O
 | [],_,_,_,y,h=>by simp at h
 | a::l,hr,x,hn,y,h=>by
  unfold dX at h;have hr':=K.1 hr;by_cases ha:dJ (key a) x=O
  ·simp only [L,ha,if_true,aF,List.drop_succ_cons] at h;exact oG hr'.2 x (fun y hy=>hn y (aG _ hy)) y h
  ·simp [ha] at h;have hax:dJ x (key a)=O:=by
    rcases jq (key a) x with q|q|q
    ·exact absurd q ha
    ·exact absurd q (hn a (by simp))
    ·exact q
   rcases h with rfl|h
   ·exact hax
   ·exact fT hax (hr'.1 y h)
theorem kL {α:Type} {key:α->dO} {l:List α} (hr:iE key l) (x:α) (hn:∀ y∈l,key y≠key x):iE key (eZ l (dX key l (key x)) x):=by
 unfold eZ;have h1:iE key (l.take (dX key l (key x))):=hr.sublist (List.take_sublist _ _);have h2:iE key (l.drop (dX key l (key x))):=hr.sublist (List.drop_sublist _ _);have lo:=Bf key l (key x);have hi:=oG hr (key x) hn;unfold iE at *;rw [Q,List.pairwise_append];refine⟨h1,?_,fun a ha b hb=>?_⟩
 ·rw [aL,K];exact⟨fun b hb=>hi b hb,h2⟩
 ·rw [aL,Z] at hb;rcases hb with rfl|hb
  ·exact lo a ha
  ·exact fT (lo a ha) (hi b hb)
theorem Dz {l:List Ad} {x:dO} {a:Ad} (h:fH l x=some a):a∈l/\a.id=x:=by
 unfold fH at h;exact⟨List.mem_of_find?_eq_some h,by simpa using List.find?_some h⟩
theorem kU {l:List Ad} (hr:AX l) {a:Ad} (ha:a∈l):fH l a.id=some a:=by
 obtain⟨k,hk⟩:=V.1 ha;refine qD hk rfl fun j z hj hz e=>?_;have:=iN hr hj hz hk;rw [e,gZ] at this;cases this
theorem qM {b c:Br} {e:En} (hn:c.near=b.near) (hf:fH c.dG e.tree=fH b.dG e.tree) (h:wN b e=O):wN c e=O:=by
 unfold wN at *;rw [hf,hn];exact h
end Av
namespace Sb
open Go.RowKit Go.Sort Rw YtghlpefopidlaaaGreat.Nm Pr Bk Av
abbrev fV (m:List En):Prop:=m.Pairwise fun x y=>qK x y<0
def gy (m:List En) (t:dO):Nat:=(m.takeWhile fun e=>dJ e.tree t).length
def jW (m:List En) (t:dO):List En:=(m.drop (gy m t)).takeWhile fun e=>decide (e.tree=t)
def rR (r:List En) (p:List C5):Bool:=r.any fun e=>e.up && lT e.p p
def qc (r:List En):Bool:=r.all fun e=>e.up || rR r e.p
def zw (b:Br):Bool:=b.dG.all fun a=>a.par == -1 || qc (jW b.ent a.id)
def jr (s:List En×List En) (k:Nat):List En×List En:=match s.1[k]? with
 | none=>s
 | some e=>if e.up=O\/rR s.1 e.p=O then s else (s.1.set k (tV e),s.2++[tV e])
def fI (r:List En) (k:Nat):List En×List En:=(List.range k).foldl jr (r,[])
theorem jU (r:List En) (k:Nat):fI r (k+1)=jr (fI r k) k:=by
 simp [fI,List.range_succ]
theorem qN:∀ (l:List dO) (x:dO),fC l x=gT l x
 | [],_=>rfl
 | a::l,x=>by rw [fC,gT,qN l x]
theorem jc (x y:En):iF (dF x) (dF y)=O↔qK x y<0:=by
 rw [lU];unfold iF;simp [tN]
theorem mG (x:dO×dO):iF x x=aM:=by simp [iF,gZ]
def gW (m:List En) (t s:dO):Bool:=match m[dR (m.map dF) (t,s)]? with
 | none=>aM
 | some e=>decide (dF e=(t,s))
theorem kI:∀ (l:List (dO×dO)) (x:dO×dO) (j:Nat) (y:dO×dO),j<dR l x->l[j]?=some y->iF y x=O
 | [],_,_,_,_,h=>by simp at h
 | a::l,x,j,y,hj,h=>by
  unfold dR at hj;by_cases ha:iF a x=O
  ·rw [L,if_pos ha,aF] at hj;cases j with
   | zero=>rw [<- J (show some a=some y from h)]; exact ha
   | succ j=>exact kI l x j y (by unfold dR; omega) (by simpa using h)
  ·rw [L,if_neg ha] at hj;simp at hj
theorem rT:∀ (l:List (dO×dO)) (x y:dO×dO),l[dR l x]?=some y->iF y x=aM
 | [],_,_,h=>by simp [dR] at h
 | a::l,x,y,h=>by
  unfold dR at h;by_cases ha:iF a x=O
  ·rw [L,if_pos ha,aF] at h;exact rT l x y (by unfold dR; simpa using h)
  ·rw [L,if_neg ha] at h;rw [<- J (show some a=some y from h)];simpa using ha
theorem nG {m:List En} (hr:fV m) (t s:dO):gT (m.map dF) (t,s)=if gW m t s=O then (dR (m.map dF) (t,s):Int) else -1:=by
 unfold gW;cases hp:m[dR (m.map dF) (t,s)]? with
 | none =>
  rw [if_neg (by simp)];refine uJ _ _ fun j y hj e=>?_;have hl:m.length<=dR (m.map dF) (t,s):=List.getElem?_eq_none_iff.1 hp;have hj2:=(D.1 hj).1;rw [List.length_map] at hj2;have h:=kI _ (t,s) j y (by omega) hj;rw [e,mG] at h;cases h
 | some e =>
  have hpk:(m.map dF)[dR (m.map dF) (t,s)]?=some (dF e):=by rw [X,hp]; rfl
  by_cases he:dF e=(t,s)
  ·simp only [he,decide_true,if_true];rw [he] at hpk;refine Ao _ _ _ hpk fun j z hj hz q=>?_;have h:=kI _ (t,s) j z hj hz;rw [q,mG] at h;cases h
  ·rw [if_neg (by simpa using he)];refine uJ _ _ fun j y hj q=>?_;rcases Nat.lt_trichotomy j (dR (m.map dF) (t,s)) with h|h|h
   ·have h:=kI _ (t,s) j y h hj;rw [q,mG] at h;cases h
   ·subst h;rw [hpk] at hj;exact he ((J hj).trans q)
   ·rw [X] at hj;cases hz:m[j]? with
    | none=>rw [hz] at hj; cases hj
    | some z =>
     rw [hz] at hj;have h1:=List.pairwise_iff_getElem.1 hr _ _ (D.1 hp).1 (D.1 hz).1 h;rw [(D.1 hp).2,(D.1 hz).2,<- jc] at h1;have h2:=rT _ _ _ hpk;rw [show dF z=(t,s) from (J hj).trans q] at h1;rw [h1] at h2;cases h2
theorem FI {x y:En} (h:qK x y<0):dJ x.tree y.tree=O\/x.tree=y.tree:=by
 rcases (lU x y).1 h with q|q
 ·exact au q
 ·exact aC q.1
theorem uT {α:Type} (p:α->Bool):∀ l:List α,l.drop (l.takeWhile p).length=l.dropWhile p
 | []=>rfl
 | a::l=>by
  by_cases h:p a=O
  ·simp [h,uT p l]
  ·simp [h]
theorem DC:∀ {m:List En} (t:dO) (_:fV m),∀ e∈m.dropWhile (fun e=>dJ e.tree t),dJ e.tree t=aM
 | [],_,_,e,h=>by simp at h
 | a::m,t,hr,e,h=>by
  have hr':=K.1 hr;by_cases ha:dJ a.tree t=O
  ·rw [Y,if_pos ha] at h;exact DC t hr'.2 e h
  ·rw [Y,if_neg ha] at h;rcases Z.1 h with rfl|h
   ·simpa using ha
   ·cases hq:dJ e.tree t with
    | false=>rfl
    | true =>
     exfalso;rcases FI (hr'.1 e h) with q|q
     ·exact ha (fT q hq)
     ·exact ha (by rw [q]; exact hq)
theorem KJ:∀ {m:List En} (t:dO) (_:fV m) (_:∀ e∈m,dJ e.tree t=aM),∀ e∈m.dropWhile (fun e=>decide (e.tree=t)),dJ t e.tree=O
 | [],_,_,_,e,h=>by simp at h
 | a::m,t,hr,hl,e,h=>by
  have hr':=K.1 hr;by_cases ha:a.tree=t
  ·rw [Y,if_pos (by simpa using ha)] at h;exact KJ t hr'.2 (fun e he=>hl e (aG _ he)) e h
  ·rw [Y,if_neg (by simpa using ha)] at h;have Ye:dJ t a.tree=O:=by
    rcases jq a.tree t with q|q|q
    ·rw [hl a (by simp)] at q; cases q
    ·exact absurd q ha
    ·exact q
   rcases Z.1 h with rfl|h
   ·exact Ye
   ·rcases FI (hr'.1 e h) with q|q
    ·exact fT Ye q
    ·rw [<- q]; exact Ye
theorem FJ {x t:dO} (h:dJ x t=O):x≠t:=by rintro rfl; rw [gZ] at h; cases h
theorem Bg {m:List En} (hr:fV m) (t:dO):∃ c,m=m.take (gy m t)++jW m t++c/\(m.take (gy m t)).length=gy m t/\(∀ e∈m.take (gy m t),e.tree≠t)/\(∀ e∈jW m t,e.tree=t)/\(∀ e∈c,e.tree≠t):=by
 have e1:m.take (gy m t)=m.takeWhile fun e=>dJ e.tree t:=by
  unfold gy
  conv=>lhs; arg 2; rw [<- ay (p:=fun e:En=>dJ e.tree t) (l:=m)]
  rw [List.take_left]
 have e2:m.drop (gy m t)=m.dropWhile fun e=>dJ e.tree t:=uT _ _;refine⟨(m.drop (gy m t)).dropWhile fun e=>decide (e.tree=t),?_,?_,?_,?_,?_⟩
 ·unfold jW;rw [Q,ay,aA]
 ·rw [e1]; rfl
 ·rw [e1];intro e he;exact FJ (aD.1 aO e he)
 ·intro e he;unfold jW at he;exact of_decide_eq_true (aD.1 (aO (p:=fun e:En=>decide (e.tree=t))) e he)
 ·rw [e2];intro e he;have h1:fV (m.dropWhile fun e=>dJ e.tree t):=hr.sublist (List.dropWhile_sublist _);exact (FJ (KJ t h1 (DC t hr) e he)).symm
theorem Bh {α:Type} {p:α->Bool} {l:List α} (h:∀ e∈l,p e=aM):l.filter p=[]:=by
 rw [List.filter_eq_nil_iff];intro e he;rw [h e he];simp
theorem xS {m:List En} (hr:fV m) (t:dO):jW m t=m.filter fun e=>decide (e.tree=t):=by
 obtain⟨c,h1,_,h2,h3,h4⟩:=Bg hr t;generalize jW m t=r at *;generalize m.take (gy m t)=a at *;subst h1;rw [aP,aP,Bh (l:=a) fun e he=>by simpa using h2 e he,Bh (l:=c) fun e he=>by simpa using h4 e he,List.nil_append,List.append_nil];exact (List.filter_eq_self.2 fun e he=>by simpa using h3 e he).symm
theorem DF {m:List En} (hr:fV m) (t:dO) (p:List C5):rR (jW m t) p=dV m t p:=by
 rw [xS hr,rR,List.any_filter]
 rfl
theorem KM {m:List En} (hr:fV m) (t:dO) (e:En):e∈jW m t↔e∈m/\e.tree=t:=by
 rw [xS hr,List.mem_filter,decide_eq_true_eq]
theorem Oa {a r c:List En} {t:dO} (ha:∀ e∈a,e.tree≠t) (hr:∀ e∈r,e.tree=t) (hc:∀ e∈c,e.tree≠t) (p:List C5):dV (a++r++c) t p=rR r p:=by
 have none_:∀ l:List En,(∀ e∈l,e.tree≠t)->l.any (Bc t p)=aM:=fun l hl=>by
  rw [List.any_eq_false];intro e he;unfold Bc;rw [decide_eq_false (hl e he)];simp
 unfold dV rR;rw [aR,aR,none_ a ha,none_ c hc,Bool.false_or,Bool.or_false]
 induction r with
 | nil=>rfl
 | cons x r ih =>
  rw [aS,aS,ih fun e he=>hr e (aG _ he)]
  congr 1
  unfold Bc;rw [decide_eq_true (hr x (by simp)),aN]
theorem uU (s:List En×List En) (k:Nat):(jr s k).1.map dF=s.1.map dF:=by
 unfold jr
 split
 ·rfl
 ·rename_i e he
  split
  ·rfl
  ·rw [List.map_set];refine List.ext_getElem? fun j=>?_;rw [aQ]
   split
   ·rename_i hj
    subst hj
    split
    ·rw [X,he]
     rfl
    ·rename_i hl
     rw [List.getElem?_eq_none (by simpa using hl)]
   ·rfl
theorem oH (r:List En):∀ k,(fI r k).1.map dF=r.map dF
 | 0=>rfl
 | k+1=>by rw [jU,uU,oH r k]
theorem qd (r:List En) (k:Nat):(fI r k).1.length=r.length:=by
 have h:=congrArg List.length (oH r k);simpa using h
theorem xU (r:List En):∀ k,(fI r k).2.length<=k
 | 0=>aJ _
 | k+1=>by
  have ih:=xU r k;rw [jU];unfold jr
  split
  ·omega
  ·split
   ·omega
   ·simp; omega
theorem Ii {r r':List En} {t:dO} (h:r'.map dF=r.map dF) (hr:∀ e∈r,e.tree=t):∀ e∈r',e.tree=t:=by
 intro e he;have h1:dF e∈r.map dF:=by rw [<- h]; exact aU.2 ⟨e,he,rfl⟩
 obtain⟨z,hz,hk⟩:=aU.1 h1;rw [<- show z.tree=e.tree from congrArg Prod.fst hk];exact hr z hz
theorem DJ {a r c:List En} {t:dO} (ha:∀ e∈a,e.tree≠t) (hr:∀ e∈r,e.tree=t) (hc:∀ e∈c,e.tree≠t):gJ t (a++r++c) (a++r++c).length=(a++(fI r r.length).1++c,(fI r r.length).2):=by
 have s1:∀ k,k<=a.length->gJ t (a++r++c) k=(a++r++c,[]):=by
  intro k
  induction k with
  | zero=>intro _; rfl
  | succ k ih =>
   intro hk;rw [iK,ih (by omega)];unfold fM;have e1:(a++r++c)[k]?=some a[k]:=by rw [Q,aI (by omega),U (by omega)]
   rw [e1];simp only;rw [if_neg fun h=>ha _ (aK _) h.1]
 have s2:∀ j,j<=r.length->gJ t (a++r++c) (a.length+j)=(a++(fI r j).1++c,(fI r j).2):=by
  intro j
  induction j with
  | zero=>intro _; rw [aV,s1 _ (aJ _)]; rfl
  | succ j ih =>
   intro hj;have hl:=qd r j;have hk:=Ii (oH r j) hr;rw [<- aT,iK,ih (by omega),jU];generalize fI r j=s at *;obtain⟨r',u⟩:=s;simp only at hl hk ⊢;unfold fM jr;have e1:(a++r'++c)[a.length+j]?=r'[j]?:=by rw [Q,aH (by omega),ak,aI (by omega)]
   simp only [e1];rw [U (show j<r'.length by omega)];simp only;have ht:=hk _ (aK (show j<r'.length by omega));rw [Oa ha hk hc];by_cases h1:(r'[j]'(by omega)).up=O\/rR r' (r'[j]'(by omega)).p=O
   ·rw [if_pos h1,if_neg];rintro⟨_,g2,g3⟩;rcases h1 with h1|h1
    ·rw [h1] at g2; cases g2
    ·rw [h1] at g3; cases g3
   ·rw [if_neg h1,if_pos ⟨ht,by simpa using fun q=>h1 (au q),by simpa using fun q=>h1 (aC q)⟩];have e2:(a++r'++c).set (a.length+j) (tV (r'[j]'(by omega)))=a++r'.set j (tV (r'[j]'(by omega)))++c:=by
     rw [Q,List.set_append_right _ _ (by omega),ak,List.set_append_left _ _ (by omega),Q]
    rw [e2]
 have s3:∀ j,j<=c.length->gJ t (a++r++c) (a.length+r.length+j)=(a++(fI r r.length).1++c,(fI r r.length).2):=by
  intro j
  induction j with
  | zero=>intro _; rw [aV,s2 _ (aJ _)]
  | succ j ih =>
   intro hj;have hl:=qd r r.length;rw [<- aT,iK,ih (by omega)];unfold fM;have e1:(a++(fI r r.length).1++c)[a.length+r.length+j]?=some (c[j]'(by omega)):=by
    rw [aH (by rw [aj,hl]; omega),aj,hl,ak,U (by omega)]
   rw [e1];simp only;rw [if_neg fun h=>hc _ (aK _) h.1]
 have h:=s3 c.length (aJ _);rw [aj,aj];exact h
def gK (b:Br):Prop:=∀ a∈b.dG,a.par≠-1->∀ e∈b.ent,e.tree=a.id->e.up=aM->dV b.ent a.id e.p=O
theorem Ij {b:Br} (hr:fV b.ent):zw b=O↔gK b:=by
 unfold zw gK qc;simp only [aD,Bool.or_eq_true,beq_iff_eq];constructor
 ·intro h a ha hp e he ht hu;have h1:=(h a ha).resolve_left hp e ((KM hr _ _).2 ⟨he,ht⟩);rw [DF hr] at h1;exact h1.resolve_left (by rw [hu]; simp)
 ·intro h a ha;by_cases hp:a.par=-1
  ·exact au hp
  ·refine aC fun e he=>?_;obtain⟨h1,h2⟩:=(KM hr _ _).1 he;rw [DF hr];cases hu:e.up with
   | true=>exact au rfl
   | false=>exact aC (h a ha hp e h1 h2 hu)
theorem kE (m:List En) (t:dO) (p:List C5):dV m t p=O↔∃ e∈m,e.tree=t/\e.up=O/\lT e.p p=O:=by
 unfold dV;rw [List.any_eq_true];simp [Bc]
theorem Ik {b:Br} (h:fQ b) (e:En) (ht:gK b):gK (iA b e).1:=by
 unfold iA
 split
 ·exact ht
 ·rename_i a ha
  split
  ·exact ht
  ·rename_i h1
   split
   ·exact ht
   ·split
    ·exact ht
    ·have hid:a.id=e.tree:=by
      rcases jS (b.dG.map Ad.id) e.tree with q|⟨k,q,r⟩
      ·exact absurd (qN _ _ ▸ q) h1
      ·rw [qN,q,Int.toNat_natCast] at ha;rw [X,ha] at r;exact J r
     have hA:a∈b.dG:=List.mem_of_getElem? ha;intro y hy hp z hz hte hu;have more:∀ p,dV b.ent y.id p=O->dV (eZ b.ent (dR (b.ent.map dF) (dF e)) { e with up:=decide (a.par≠-1) && !dV b.ent e.tree e.p }) y.id p=O:=fun p hp=>by
      obtain⟨q,q1,q2⟩:=(kE _ _ _).1 hp;exact (kE _ _ _).2 ⟨q,(jQ _ _ _ _).2 (aC q1),q2⟩
     rcases (jQ _ _ _ _).1 hz with rfl|hz
     ·have hya:y=a:=by
       have g1:=kU h.dG hA;have g2:=kU h.dG hy;rw [show y.id=a.id from hte.symm.trans hid.symm,g1] at g2;exact (J g2).symm
      have hu':(decide (a.par≠-1) && !dV b.ent e.tree e.p)=aM:=hu;rw [<- hya,decide_eq_true hp,aN] at hu';refine more _ ?_;rw [<- show e.tree=y.id from hte];simpa using hu'
     ·exact more _ (ht y hy hp z hz hte hu)
theorem uV {α:Type} {l:List α} {k:Nat} {x y:α} (hk:l[k]?=some x) (hy:y∈l):y=x\/y∈cutAt l k:=by
 have hlt:=(D.1 hk).1;have e:l=l.take k++x::l.drop (k+1):=by
  conv=>lhs; rw [<- aA k l]
  rw [List.drop_eq_getElem_cons hlt,(D.1 hk).2]
 rw [e] at hy;unfold cutAt;rcases ah.1 hy with h|h
 ·exact aC (List.mem_append_left _ h)
 ·rcases Z.1 h with h|h
  ·exact au h
  ·exact aC (List.mem_append_right _ h)
theorem FK {α:Type} {l:List α} {k:Nat} {y:α} (h:y∈cutAt l k):y∈l:=by
 unfold cutAt at h;rcases ah.1 h with h|h
 ·exact List.mem_of_mem_take h
 ·exact List.mem_of_mem_drop h
theorem FR {α:Type} {l:List α} {k:Nat} {x y z:α} (hk:l[k]?=some x) (hz:z∈l):z=x\/z∈l.set k y:=by
 obtain⟨j,hj⟩:=V.1 hz;by_cases hjk:k=j
 ·subst hjk;rw [hk] at hj;exact au (J hj).symm
 ·right;refine V.2 ⟨j,?_⟩;rw [List.getElem?_set_ne hjk];exact hj
theorem Bj {t:dO} {s:List En×List En} {k:Nat} (u:dO) (p:List C5) (h:dV s.1 u p=O):dV (fM t s k).1 u p=O:=by
 unfold fM
 split
 ·exact h
 ·rename_i e he
  split
  ·obtain⟨z,h1,h2,h3,h4⟩:=(kE _ _ _).1 h;rcases FR (y:=tV e) he h1 with rfl|h5
   ·rename_i hq
    rw [hq.2.1] at h3;cases h3
   ·exact (kE _ _ _).2 ⟨z,h5,h2,h3,h4⟩
  ·exact h
theorem rU (t:dO) (m:List En):∀ k,k<=m.length->(∀ j,j<k->∀ e,(gJ t m k).1[j]?=some e->e.tree=t->e.up=aM->dV (gJ t m k).1 t e.p=O)/\(∀ u p,dV m u p=O->dV (gJ t m k).1 u p=O)/\(∀ e,e∈(gJ t m k).1->e.tree≠t->e∈m)
 | 0,_=>⟨fun j hj=>absurd hj (Nat.not_lt_zero _),fun _ _ h=>h,fun _ h _=>h⟩
 | k+1,hk=>by
  obtain⟨h1,h2,h3⟩:=rU t m k (by omega);rw [iK];refine⟨fun j hj e he htr hu=>?_,fun u p h=>Bj u p (h2 u p h),fun e he hne=>?_⟩
  ·have hl:=(oQ t m k).1;generalize gJ t m k=s at *;obtain⟨z,hz⟩:∃ z,s.1[k]?=some z:=⟨_,U (by omega)⟩;by_cases hc:z.tree=t/\z.up=aM/\dV s.1 t z.p=aM
   ·have e1:fM t s k=(s.1.set k (tV z),s.2++[tV z]):=by unfold fM; rw [hz]; simp only; rw [if_pos hc]
    have mono:=Bj (t:=t) (s:=s) (k:=k) t;rw [e1] at he mono ⊢;rw [aQ] at he
    split at he
    ·split at he
     ·rw [<- J he] at hu;cases hu
     ·cases he
    ·exact mono _ (h1 j (by omega) e he htr hu)
   ·have e1:fM t s k=s:=by unfold fM; rw [hz]; simp only; rw [if_neg hc]
    rw [e1] at he ⊢;rcases Nat.lt_or_ge j k with h0|h0
    ·exact h1 j h0 e he htr hu
    ·obtain rfl:j=k:=by omega
     rw [hz] at he;obtain rfl:=J he;cases hv:dV s.1 t z.p with
     | true=>rfl
     | false=>exact absurd ⟨htr,hu,hv⟩ hc
  ·unfold fM at he
   split at he
   ·exact h3 e he hne
   ·rename_i z hz
    split at he
    ·rename_i hq
     rcases List.mem_or_eq_of_mem_set he with h5|h5
     ·exact h3 e h5 hne
     ·rw [h5] at hne;exact absurd hq.1 hne
    ·exact h3 e he hne
theorem DL {b:Br} (t x:dO) (f:Int) (ht:gK b):gK (takeB b t x f).1:=by
 unfold takeB
 split
 ·exact ht
 ·rename_i e0 he0
  split
  ·exact ht
  ·rename_i h1
   split
   ·exact ht
   ·have h5:e0.tree=t:=by
     rcases jS (b.ent.map dF) (t,x) with q|⟨k,q,r⟩
     ·exact absurd q h1
     ·rw [q,Int.toNat_natCast] at he0;rw [X,he0] at r;exact congrArg Prod.fst (J r)
    generalize (gT (b.ent.map dF) (t,x)).toNat=k at *
    split
    ·rename_i hup
     intro y hy hp z hz hte hu;obtain⟨q,q1,q2,q3,q4⟩:=(kE _ _ _).1 (ht y hy hp z (FK hz) hte hu);refine (kE _ _ _).2 ⟨q,(uV he0 q1).resolve_left ?_,q2,q3,q4⟩;rintro rfl;rw [hup] at q3;cases q3
    ·intro y hy hp z hz hte hu;obtain⟨g1,g2,g3⟩:=rU t (cutAt b.ent k) (cutAt b.ent k).length (aJ _);by_cases Yf:y.id=t
     ·obtain⟨j,hj⟩:=V.1 hz;have hlt:=(D.1 hj).1;rw [(oQ t (cutAt b.ent k) _).1] at hlt;rw [Yf] at hte ⊢;exact g1 j hlt z hj hte hu
     ·have hzt:z.tree≠t:=by rw [hte]; exact Yf
      obtain⟨q,q1,q2,q3,q4⟩:=(kE _ _ _).1 (ht y hy hp z (FK (g3 z hz hzt)) hte hu);refine g2 _ _ ((kE _ _ _).2 ⟨q,(uV he0 q1).resolve_left ?_,q2,q3,q4⟩);rintro rfl;exact Yf (q2.symm.trans h5)
end Sb
end Go.Proofs.YtghlpefopidlaaaGreat
