/-
  Rows that rise by an. Conditions as told.
-/
import Derived.Test.YtkcfgbddlpomgaaBQ019
import Derived.Test.YtkcfgbddlpomgaaBQ008
set_option maxRecDepth 100000
set_option maxHeartbeats 64000000
open _root_.List renaming getElem?_eq_some_iff->D,getElem?_map->J,length_map->K
namespace Go.Proofs.Ytkcfgbddlpomgaa.Av
open Go.RowKit Go.Sort Rw Ytkcfgbddlpomgaa.Nm Pr Bk
def iR {α:Type} (key:α->dI) (l:List α):Prop:=l.Pairwise fun a b=>dD (key a) (key b)=true
def fG {α:Type} (key:α->dI) (l:List α) (x:dI):Nat:=(l.takeWhile fun a=>dD (key a) x).length
def iB {α:Type} (key:α->dI) (l:List α) (x:dI):Bool:=match l[fG key l x]? with
 | some y=>decide (key y=x)
 | none=>false
theorem gU {α:Type} (key:α->dI) (l:List α) (x:dI):fG key l x=gu (l.map key) x:=by
 unfold fG gu;rw [List.takeWhile_map,K]
 rfl
theorem nQ {α:Type} (key:α->dI) (l:List α) (x:dI) (k:Nat) (hall:∀ (j:Nat) (y:α),j<k->l[j]?=some y->dD (key y) x=true) (hend:k=l.length\/∃ y,l[k]?=some y/\dD (key y) x=false):fG key l x=k:=by
 rw [gU];refine wR _ _ k (fun j y hj h=>?_) ?_
 ·rw [J] at h;cases hy:l[j]? with
  | none=>rw [hy] at h; cases h
  | some z=>rw [hy] at h; rw [<- Option.some.inj h]; exact hall j z hj hy
 ·rcases hend with h|⟨y,h1,h2⟩
  ·exact Or.inl (by rw [K]; exact h)
  ·exact Or.inr ⟨key y,by rw [J,h1]; rfl,h2⟩
theorem jZ {α:Type} {key:α->dI} {l:List α} (h:iR key l) {i j:Nat} {x y:α} (hij:i<j) (hx:l[i]?=some x) (hy:l[j]?=some y):dD (key x) (key y)=true:=by
 obtain⟨h1,rfl⟩:=D.1 hx;obtain⟨h2,rfl⟩:=D.1 hy;exact List.pairwise_iff_getElem.1 h i j h1 h2 hij
theorem nR (x y:dI):decide (gB x y<0)=dD x y:=by
 have h:=je x y;cases hl:dD x y
 ·rw [hl] at h; simp at h; simpa using h
 ·rw [hl] at h; simp at h; simpa using h
end Go.Proofs.Ytkcfgbddlpomgaa.Av
