/-
  Rows that rise by an. Conditions as told.
-/
import Derived.Test.YtmklifheakemeaaOQ004
import Derived.Test.YtmklifheakemeaaOQ009
set_option maxRecDepth 100000
set_option maxHeartbeats 64000000
open _root_.List renaming getElem?_eq_some_iff->D,getElem?_map->J,length_map->K
namespace Go.Proofs.Ytmklifheakemeaa.Av
open Go.RowKit Go.Sort Rw Ytmklifheakemeaa.Nm Pr Bk
def kg {α:Type} (key:α->dW) (l:List α):Prop:=l.Pairwise fun a b=>dP (key a) (key b)=true
def gV {α:Type} (key:α->dW) (l:List α) (x:dW):Nat:=(l.takeWhile fun a=>dP (key a) x).length
def jF {α:Type} (key:α->dW) (l:List α) (x:dW):Bool:=match l[gV key l x]? with
 | some y=>decide (key y=x)
 | none=>false
theorem jo {α:Type} (key:α->dW) (l:List α) (x:dW):gV key l x=iL (l.map key) x:=by
 unfold gV iL;rw [List.takeWhile_map,K]
 rfl
theorem qZ {α:Type} (key:α->dW) (l:List α) (x:dW) (k:Nat) (hall:∀ (j:Nat) (y:α),j<k->l[j]?=some y->dP (key y) x=true) (hend:k=l.length\/∃ y,l[k]?=some y/\dP (key y) x=false):gV key l x=k:=by
 rw [jo];refine Az _ _ k (fun j y hj h=>?_) ?_
 ·rw [J] at h;cases hy:l[j]? with
  | none=>rw [hy] at h; cases h
  | some z=>rw [hy] at h; rw [<- Option.some.inj h]; exact hall j z hj hy
 ·rcases hend with h|⟨y,h1,h2⟩
  ·exact Or.inl (by rw [K]; exact h)
  ·exact Or.inr ⟨key y,by rw [J,h1]; rfl,h2⟩
theorem kK {α:Type} {key:α->dW} {l:List α} (h:kg key l) {i j:Nat} {x y:α} (hij:i<j) (hx:l[i]?=some x) (hy:l[j]?=some y):dP (key x) (key y)=true:=by
 obtain⟨h1,rfl⟩:=D.1 hx;obtain⟨h2,rfl⟩:=D.1 hy;exact List.pairwise_iff_getElem.1 h i j h1 h2 hij
theorem ru (x y:dW):decide (jE x y<0)=dP x y:=by
 have h:=mQ x y;cases hl:dP x y
 ·rw [hl] at h; simp at h; simpa using h
 ·rw [hl] at h; simp at h; simpa using h
end Go.Proofs.Ytmklifheakemeaa.Av
