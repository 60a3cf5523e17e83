/-
  Rows that rise by an. Conditions as told.
-/
import Derived.Test.YtkcfgbddlpomgaaGreatOQ016
import Derived.Test.YtkcfgbddlpomgaaGreatOQ007
set_option maxRecDepth 100000
set_option maxHeartbeats 64000000
open _root_.List renaming getElem?_eq_some_iff->D,mem_iff_getElem?->J,mem_of_getElem?->K,getElem?_map->L,mem_map->O,length_map->Q
namespace Go.Proofs.YtkcfgbddlpomgaaGreat.Av
open Go.RowKit Go.Sort Rw YtkcfgbddlpomgaaGreat.Nm Pr Bk
def kW {α:Type} (key:α->eT) (l:List α):Prop:=l.Pairwise fun a b=>eO (key a) (key b)=true
def gN {α:Type} (key:α->eT) (l:List α) (x:eT):Nat:=(l.takeWhile fun a=>eO (key a) x).length
def mU {α:Type} (key:α->eT) (l:List α) (x:eT):Bool:=match l[gN key l x]? with
 | some y=>decide (key y=x)
 | none=>false
theorem jm {α:Type} (key:α->eT) (l:List α) (x:eT):gN key l x=fO (l.map key) x:=by
 unfold gN fO;rw [List.takeWhile_map,Q]
 rfl
theorem D9 {α:Type} (key:α->eT) (l:List α) (x:eT) (k:Nat) (hall:∀ (j:Nat) (y:α),j<k->l[j]?=some y->eO (key y) x=true) (hend:k=l.length\/∃ y,l[k]?=some y/\eO (key y) x=false):gN key l x=k:=by
 rw [jm];refine pO _ _ k (fun j y hj h=>?_) ?_
 ·rw [L] at h;cases hy:l[j]? with
  | none=>rw [hy] at h; cases h
  | some z=>rw [hy] at h; rw [<- Option.some.inj h]; exact hall j z hj hy
 ·rcases hend with h|⟨y,h1,h2⟩
  ·exact Or.inl (by rw [Q]; exact h)
  ·exact Or.inr ⟨key y,by rw [L,h1]; rfl,h2⟩
theorem nU {α:Type} {key:α->eT} {l:List α} (h:kW key l) {i j:Nat} {x y:α} (hij:i<j) (hx:l[i]?=some x) (hy:l[j]?=some y):eO (key x) (key y)=true:=by
 obtain⟨h1,rfl⟩:=D.1 hx;obtain⟨h2,rfl⟩:=D.1 hy;exact List.pairwise_iff_getElem.1 h i j h1 h2 hij
theorem Ea (x y:eT):decide (mQ x y<0)=eO x y:=by
 have h:=tX x y;cases hl:eO x y
 ·rw [hl] at h; simp at h; simpa using h
 ·rw [hl] at h; simp at h; simpa using h
theorem Qt {α:Type} {key:α->eT} {l:List α} (h:kW key l) (x:eT):mU key l x=decide (x∈l.map key):=by
 unfold mU;have hp:gN key l x<=l.length:=by rw [jm]; exact Nat.le_trans (mK _ _) (by simp)
 have hlo:∀ (j:Nat) (y:α),j<gN key l x->l[j]?=some y->eO (key y) x=true:=by
  intro j y hj hy;have ht:(l.takeWhile fun a=>eO (key a) x)[j]?=some y:=by
   have:=List.takeWhile_prefix (fun a=>eO (key a) x) (l:=l);obtain⟨t,ht⟩:=this;rw [<- ht,List.getElem?_append_left hj] at hy;exact hy
  exact List.all_eq_true.1 List.all_takeWhile y (K ht)
 have hhi:∀ (y:α),l[gN key l x]?=some y->eO (key y) x=false:=by
  intro y hy;unfold gN at hy;cases hq:eO (key y) x with
  | false=>rfl
  | true =>
   exfalso;have:∀ (m:List α),m[(m.takeWhile fun a=>eO (key a) x).length]?=some y->False:=by
    intro m
    induction m with
    | nil=>intro h; simp at h
    | cons a m ih =>
     intro h;by_cases ha:eO (key a) x=true
     ·exact ih (by simpa [List.takeWhile_cons,ha] using h)
     ·simp [ha] at h;subst h;exact ha hq
   exact this l hy
 cases hy:l[gN key l x]? with
 | none =>
  symm
  rw [decide_eq_false_iff_not];intro hm;obtain⟨z,hz,hzx⟩:=O.1 hm;obtain⟨j,hj⟩:=J.1 hz;have hjl:=(D.1 hj).1;have hpl:l.length<=gN key l x:=by
   rcases Nat.lt_or_ge (gN key l x) l.length with h0|h0
   ·rw [List.getElem?_eq_getElem h0] at hy; cases hy
   ·exact h0
  have:=hlo j z (by omega) hj;rw [hzx,kU] at this;cases this
 | some y =>
  simp only;by_cases hk:key y=x
  ·rw [decide_eq_true hk]
   symm
   rw [decide_eq_true_eq];exact O.2 ⟨y,K hy,hk⟩
  ·rw [decide_eq_false hk]
   symm
   rw [decide_eq_false_iff_not];intro hm;obtain⟨z,hz,hzx⟩:=O.1 hm;obtain⟨j,hj⟩:=J.1 hz;rcases Nat.lt_trichotomy j (gN key l x) with h1|h1|h1
   ·have:=hlo j z h1 hj;rw [hzx,kU] at this;cases this
   ·subst h1;rw [hy] at hj;rw [Option.some.inj hj] at hk;exact hk hzx
   ·have h3:=nU h h1 hy hj;have h4:=hhi y hy;rw [hzx] at h3;rw [h3] at h4;cases h4
end Go.Proofs.YtkcfgbddlpomgaaGreat.Av
