/-
  A right broker stays. Conditions as told.
-/
import Derived.Test.YtkcfgbddlpomgaaBQ035
set_option maxRecDepth 100000
set_option maxHeartbeats 64000000
open _root_.Bool renaming and_eq_true->U,true->X,false->au
open _root_.List renaming getElem?_eq_some_iff->D,takeWhile_cons->J,dropWhile_cons->K,takeWhile_append_dropWhile->L,pairwise_cons->Q,all_eq_true->V,all_takeWhile->Y,filter_append->Z,getElem?_map->ah,length_cons->aj,mem_cons->ak
open Option.some renaming inj->O
namespace Go.Proofs.Ytkcfgbddlpomgaa
namespace Av
open Go.RowKit Go.Sort Rw Ytkcfgbddlpomgaa.Nm Pr Bk
theorem iH {α:Type} {c:α->α->Int}:∀ {l:List α},(l.Pairwise fun x y=>c x y<0)->iQ c l=X
 | [],_=>rfl
 | [_],_=>rfl
 | x::y::l,h=>by
  have h1:=Q.1 h;unfold iQ;rw [decide_eq_true (h1.1 y (by simp)),Bool.true_and];exact iH h1.2
theorem zW (x y z:Int) (h1:ig x y<0) (h2:ig y z<0):ig x z<0:=by rw [jd] at *; omega
theorem oU (a b:En):wF a b<0↔(dD a.tree b.tree=X\/(a.tree=b.tree/\dD a.sub b.sub=X)):=by
 unfold wF wE;by_cases h:gB a.tree b.tree=0
 ·rw [if_pos h,je];have e:=(jo _ _).1 h;constructor
  ·exact fun q=>Or.inr ⟨e,q⟩
  ·rintro (q|⟨_,q⟩)
   ·rw [e,jq] at q; cases q
   ·exact q
 ·rw [if_neg h,je];constructor
  ·exact Or.inl
  ·rintro (q|⟨q,_⟩)
   ·exact q
   ·exact absurd ((jo _ _).2 q) h
theorem yw (x y z:En) (h1:wF x y<0) (h2:wF y z<0):wF x z<0:=by
 rw [oU] at *;rcases h1 with h1|⟨e1,h1⟩ <;> rcases h2 with h2|⟨e2,h2⟩
 ·exact Or.inl (eB h1 h2)
 ·exact Or.inl (by rw [<- e2]; exact h1)
 ·exact Or.inl (by rw [e1]; exact h2)
 ·exact Or.inr ⟨e1.trans e2,eB h1 h2⟩
structure Eu (b:Br):Prop where
 near:b.near.Pairwise (·<·)
 seen:sW b.seen
 dU:sV b.dU
 ent:b.ent.Pairwise fun x y=>wF x y<0
 own:iR Ow.id b.own
 oks:∀ a∈b.dU,a.id∈b.seen/\oL b.near a.par=X/\Wr.lV a.p=X
 Jw:∀ e∈b.ent,Ch b e=X
 JZ:∀ o∈b.own,Wr.lV o.p=X
theorem mF (b:Br):Et b=X↔Eu b:=by
 unfold Et;simp only [U,V];constructor
 ·rintro⟨h1,h2,h3,h4,h5,h6,h7,h8⟩;refine⟨(gH zW h1).imp fun {a b} q=>(jd a b).1 q,vH h2,yu h3,gH yw h4,(gH (fun x y z=>oQ x.id y.id z.id) h5).imp fun {a b} q=>gQ.1 q,fun a ha=>?_,h7,h8⟩;have:=h6 a ha;unfold Ce at this;simp only [U,decide_eq_true_eq] at this;exact this
 ·rintro⟨h1,h2,h3,h4,h5,h6,h7,h8⟩;refine⟨iH (h1.imp fun {a b} q=>(jd a b).2 q),iH (h2.imp fun {a b} q=>gQ.2 q),iH (h3.imp fun {a b} q=>gQ.2 q),iH h4,iH (h5.imp fun {a b} q=>gQ.2 q),fun a ha=>?_,h7,h8⟩;unfold Ce;simp only [U,decide_eq_true_eq];exact h6 a ha
end Av
namespace Sb
open Go.RowKit Go.Sort Rw Ytkcfgbddlpomgaa.Nm Pr Bk Av
abbrev fM (m:List En):Prop:=m.Pairwise fun x y=>wF x y<0
def eT (m:List En) (t:dI):Nat:=(m.takeWhile fun e=>dD e.tree t).length
def iV (m:List En) (t:dI):List En:=(m.drop (eT m t)).takeWhile fun e=>decide (e.tree=t)
def yx (r:List En) (p:List C5):Bool:=r.any fun e=>e.up && jm e.p p
theorem iI (x y:En):fI (eY x) (eY y)=X↔wF x y<0:=by
 rw [oU];unfold fI;simp [oG]
theorem kL (x:dI×dI):fI x x=au:=by simp [fI,jq]
def iP (m:List En) (t s:dI):Bool:=match m[dR (m.map eY) (t,s)]? with
 | none=>au
 | some e=>decide (eY e=(t,s))
theorem iJ:∀ (l:List (dI×dI)) (x:dI×dI) (j:Nat) (y:dI×dI),j<dR l x->l[j]?=some y->fI y x=X
 | [],_,_,_,_,h=>by simp at h
 | a::l,x,j,y,hj,h=>by
  unfold dR at hj;by_cases ha:fI a x=X
  ·rw [J,if_pos ha,aj] at hj;cases j with
   | zero=>rw [<- O (show some a=some y from h)]; exact ha
   | succ j=>exact iJ l x j y (by unfold dR; omega) (by simpa using h)
  ·rw [J,if_neg ha] at hj;simp at hj
theorem kM:∀ (l:List (dI×dI)) (x y:dI×dI),l[dR l x]?=some y->fI y x=au
 | [],_,_,h=>by simp [dR] at h
 | a::l,x,y,h=>by
  unfold dR at h;by_cases ha:fI a x=X
  ·rw [J,if_pos ha,aj] at h;exact kM l x y (by unfold dR; simpa using h)
  ·rw [J,if_neg ha] at h;rw [<- O (show some a=some y from h)];simpa using ha
theorem rQ {m:List En} (hr:fM m) (t s:dI):jW (m.map eY) (t,s)=if iP m t s=X then (dR (m.map eY) (t,s):Int) else -1:=by
 unfold iP;cases hp:m[dR (m.map eY) (t,s)]? with
 | none =>
  rw [if_neg (by simp)];refine lT _ _ fun j y hj e=>?_;have hl:m.length<=dR (m.map eY) (t,s):=List.getElem?_eq_none_iff.1 hp;have hj2:=(D.1 hj).1;rw [List.length_map] at hj2;have h:=iJ _ (t,s) j y (by omega) hj;rw [e,kL] at h;cases h
 | some e =>
  have hpk:(m.map eY)[dR (m.map eY) (t,s)]?=some (eY e):=by rw [ah,hp]; rfl
  by_cases he:eY e=(t,s)
  ·simp only [he,decide_true,if_true];rw [he] at hpk;refine xC _ _ _ hpk fun j z hj hz q=>?_;have h:=iJ _ (t,s) j z hj hz;rw [q,kL] at h;cases h
  ·rw [if_neg (by simpa using he)];refine lT _ _ fun j y hj q=>?_;rcases Nat.lt_trichotomy j (dR (m.map eY) (t,s)) with h|h|h
   ·have h:=iJ _ (t,s) j y h hj;rw [q,kL] at h;cases h
   ·subst h;rw [hpk] at hj;exact he ((O hj).trans q)
   ·rw [ah] at hj;cases hz:m[j]? with
    | none=>rw [hz] at hj; cases hj
    | some z =>
     rw [hz] at hj;have h1:=List.pairwise_iff_getElem.1 hr _ _ (D.1 hp).1 (D.1 hz).1 h;rw [(D.1 hp).2,(D.1 hz).2,<- iI] at h1;have h2:=kM _ _ _ hpk;rw [show eY z=(t,s) from (O hj).trans q] at h1;rw [h1] at h2;cases h2
theorem tq {x y:En} (h:wF x y<0):dD x.tree y.tree=X\/x.tree=y.tree:=by
 rcases (oU x y).1 h with q|q
 ·exact Or.inl q
 ·exact Or.inr q.1
theorem mG {α:Type} (p:α->Bool):∀ l:List α,l.drop (l.takeWhile p).length=l.dropWhile p
 | []=>rfl
 | a::l=>by
  by_cases h:p a=X
  ·simp [h,mG p l]
  ·simp [h]
theorem rR:∀ {m:List En} (t:dI) (_:fM m),∀ e∈m.dropWhile (fun e=>dD e.tree t),dD e.tree t=au
 | [],_,_,e,h=>by simp at h
 | a::m,t,hr,e,h=>by
  have hr':=Q.1 hr;by_cases ha:dD a.tree t=X
  ·rw [K,if_pos ha] at h;exact rR t hr'.2 e h
  ·rw [K,if_neg ha] at h;rcases ak.1 h with rfl|h
   ·simpa using ha
   ·cases hq:dD e.tree t with
    | false=>rfl
    | true =>
     exfalso;rcases tq (hr'.1 e h) with q|q
     ·exact ha (eB q hq)
     ·exact ha (by rw [q]; exact hq)
theorem yA:∀ {m:List En} (t:dI) (_:fM m) (_:∀ e∈m,dD e.tree t=au),∀ e∈m.dropWhile (fun e=>decide (e.tree=t)),dD t e.tree=X
 | [],_,_,_,e,h=>by simp at h
 | a::m,t,hr,hl,e,h=>by
  have hr':=Q.1 hr;by_cases ha:a.tree=t
  ·rw [K,if_pos (by simpa using ha)] at h;exact yA t hr'.2 (fun e he=>hl e (List.mem_cons_of_mem _ he)) e h
  ·rw [K,if_neg (by simpa using ha)] at h;have G6:dD t a.tree=X:=by
    rcases qd a.tree t with q|q|q
    ·rw [hl a (by simp)] at q; cases q
    ·exact absurd q ha
    ·exact q
   rcases ak.1 h with rfl|h
   ·exact G6
   ·rcases tq (hr'.1 e h) with q|q
    ·exact eB G6 q
    ·rw [<- q]; exact G6
theorem tu {x t:dI} (h:dD x t=X):x≠t:=by rintro rfl; rw [jq] at h; cases h
theorem yB {m:List En} (hr:fM m) (t:dI):∃ c,m=m.take (eT m t)++iV m t++c/\(m.take (eT m t)).length=eT m t/\(∀ e∈m.take (eT m t),e.tree≠t)/\(∀ e∈iV m t,e.tree=t)/\(∀ e∈c,e.tree≠t):=by
 have e1:m.take (eT m t)=m.takeWhile fun e=>dD e.tree t:=by
  unfold eT
  conv=>lhs; arg 2; rw [<- L (p:=fun e:En=>dD e.tree t) (l:=m)]
  rw [List.take_left]
 have e2:m.drop (eT m t)=m.dropWhile fun e=>dD e.tree t:=mG _ _;refine⟨(m.drop (eT m t)).dropWhile fun e=>decide (e.tree=t),?_,?_,?_,?_,?_⟩
 ·unfold iV;rw [List.append_assoc,L,List.take_append_drop]
 ·rw [e1]; rfl
 ·rw [e1];intro e he;exact tu (V.1 Y e he)
 ·intro e he;unfold iV at he;exact of_decide_eq_true (V.1 (Y (p:=fun e:En=>decide (e.tree=t))) e he)
 ·rw [e2];intro e he;have h1:fM (m.dropWhile fun e=>dD e.tree t):=hr.sublist (List.dropWhile_sublist _);exact (tu (yA t h1 (rR t hr) e he)).symm
theorem qz {α:Type} {p:α->Bool} {l:List α} (h:∀ e∈l,p e=au):l.filter p=[]:=by
 rw [List.filter_eq_nil_iff];intro e he;rw [h e he];simp
theorem kP {m:List En} (hr:fM m) (t:dI):iV m t=m.filter fun e=>decide (e.tree=t):=by
 obtain⟨c,h1,_,h2,h3,h4⟩:=yB hr t;generalize iV m t=r at *;generalize m.take (eT m t)=a at *;subst h1;rw [Z,Z,qz (l:=a) fun e he=>by simpa using h2 e he,qz (l:=c) fun e he=>by simpa using h4 e he,List.nil_append,List.append_nil];exact (List.filter_eq_self.2 fun e he=>by simpa using h3 e he).symm
theorem Ci {m:List En} (hr:fM m) (t:dI) (p:List C5):yx (iV m t) p=gJ m t p:=by
 rw [kP hr,yx,List.any_filter]
 rfl
theorem rT {m:List En} (hr:fM m) (t:dI) (e:En):e∈iV m t↔e∈m/\e.tree=t:=by
 rw [kP hr,List.mem_filter,decide_eq_true_eq]
end Sb
end Go.Proofs.Ytkcfgbddlpomgaa
