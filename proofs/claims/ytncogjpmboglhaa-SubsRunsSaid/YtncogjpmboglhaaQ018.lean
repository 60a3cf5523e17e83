/-
  Rows that rise by an ID: where one stands, is it there. No program's function in it.
-/
import Derived.Test.YtncogjpmboglhaaQ009
import Derived.Test.YtncogjpmboglhaaQ013
namespace Go.Proofs.Ytncogjpmboglhaa.Av
open Go.RowKit Go.Sort Go.Proofs.Ytncogjpmboglhaa Go.Proofs.Ytncogjpmboglhaa.Rw Go.Proofs.Ytncogjpmboglhaa.Nm Go.Proofs.Ytncogjpmboglhaa.Pr Go.Proofs.Ytncogjpmboglhaa.Bk

/-- Rows that rise by a key. -/
def RiseK {α : Type} (key : α → XID) (l : List α) : Prop := l.Pairwise fun a b => lessI (key a) (key b) = true
def placeK {α : Type} (key : α → XID) (l : List α) (x : XID) : Nat := (l.takeWhile fun a => lessI (key a) x).length
def thereK {α : Type} (key : α → XID) (l : List α) (x : XID) : Bool := match l[placeK key l x]? with
  | some y => decide (key y = x)
  | none => false
theorem placeK_map {α : Type} (key : α → XID) (l : List α) (x : XID) : placeK key l x = placeI (l.map key) x := by
  unfold placeK placeI
  rw [List.takeWhile_map, List.length_map]
  rfl
theorem placeK_is {α : Type} (key : α → XID) (l : List α) (x : XID) (k : Nat) (hall : ∀ (j : Nat) (y : α), j < k → l[j]? = some y → lessI (key y) x = true) (hend : k = l.length ∨ ∃ y, l[k]? = some y ∧ lessI (key y) x = false) : placeK key l x = k := by
  rw [placeK_map]
  refine place_is _ _ k (fun j y hj h => ?_) ?_
  · rw [List.getElem?_map] at h
    cases hy : l[j]? with
    | none => rw [hy] at h; cases h
    | some z => rw [hy] at h; rw [← Option.some.inj h]; exact hall j z hj hy
  · rcases hend with h | ⟨y, h1, h2⟩
    · exact Or.inl (by rw [List.length_map]; exact h)
    · exact Or.inr ⟨key y, by rw [List.getElem?_map, h1]; rfl, h2⟩
theorem riseK_lt {α : Type} {key : α → XID} {l : List α} (h : RiseK key l) {i j : Nat} {x y : α} (hij : i < j) (hx : l[i]? = some x) (hy : l[j]? = some y) : lessI (key x) (key y) = true := by
  obtain ⟨h1, rfl⟩ := List.getElem?_eq_some_iff.1 hx
  obtain ⟨h2, rfl⟩ := List.getElem?_eq_some_iff.1 hy
  exact List.pairwise_iff_getElem.1 h i j h1 h2 hij
theorem cmpJ_less (x y : XID) : decide (cmpJ x y < 0) = lessI x y := by
  have h := cmpJ_neg x y
  cases hl : lessI x y
  · rw [hl] at h; simp at h; simpa using h
  · rw [hl] at h; simp at h; simpa using h
end Go.Proofs.Ytncogjpmboglhaa.Av
