/-
  Rows that rise by an. Conditions as told.
-/
import Derived.Test.YtmklifheakemeaaVQ016
import Derived.Test.YtmklifheakemeaaVQ010
set_option maxRecDepth 100000
set_option maxHeartbeats 64000000
open _root_.List renaming getElem?_eq_some_iff->D,getElem?_map->J,length_map->K
namespace Go.Proofs.Ytmklifheakemeaa.Av
open Go.RowKit Go.Sort Rw Ytmklifheakemeaa.Nm Pr Bk
def mo {α:Type} (key:α->eu) (l:List α):Prop:=l.Pairwise fun a b=>dW (key a) (key b)=true
def iH {α:Type} (key:α->eu) (l:List α) (x:eu):Nat:=(l.takeWhile fun a=>dW (key a) x).length
def kZ {α:Type} (key:α->eu) (l:List α) (x:eu):Bool:=match l[iH key l x]? with
 | some y=>decide (key y=x)
 | none=>false
theorem jU {α:Type} (key:α->eu) (l:List α) (x:eu):iH key l x=jm (l.map key) x:=by
 unfold iH jm;rw [List.takeWhile_map,K]
 rfl
theorem vM {α:Type} (key:α->eu) (l:List α) (x:eu) (k:Nat) (hall:∀ (j:Nat) (y:α),j<k->l[j]?=some y->dW (key y) x=true) (hend:k=l.length\/∃ y,l[k]?=some y/\dW (key y) x=false):iH key l x=k:=by
 rw [jU];refine Fe _ _ k (fun j y hj h=>?_) ?_
 ·rw [J] at h;cases hy:l[j]? with
  | none=>rw [hy] at h; cases h
  | some z=>rw [hy] at h; rw [<- Option.some.inj h]; exact hall j z hj hy
 ·rcases hend with h|⟨y,h1,h2⟩
  ·exact Or.inl (by rw [K]; exact h)
  ·exact Or.inr ⟨key y,by rw [J,h1]; rfl,h2⟩
theorem mX {α:Type} {key:α->eu} {l:List α} (h:mo key l) {i j:Nat} {x y:α} (hij:i<j) (hx:l[i]?=some x) (hy:l[j]?=some y):dW (key x) (key y)=true:=by
 obtain⟨h1,rfl⟩:=D.1 hx;obtain⟨h2,rfl⟩:=D.1 hy;exact List.pairwise_iff_getElem.1 h i j h1 h2 hij
theorem vN (x y:eu):decide (kY x y<0)=dW x y:=by
 have h:=pO x y;cases hl:dW x y
 ·rw [hl] at h; simp at h; simpa using h
 ·rw [hl] at h; simp at h; simpa using h
end Go.Proofs.Ytmklifheakemeaa.Av
