/-
  The two loops of Learn that look for a place. Condition: at most a million elements.
  The two loops of Learn that look for a place. Condition: at most a million elements.
-/
import Derived.Test.YtonoadjmglkhaaaQ010
import Derived.Lib.QuietBelow
import Derived.BigQuiet
namespace Go.Proofs.Ytonoadjmglkhaaa.Bk
open Go.RowKit Go.Sort Go.Proofs.Ytonoadjmglkhaaa Go.Proofs.Ytonoadjmglkhaaa.Rw Go.Proofs.Ytonoadjmglkhaaa.Nm Go.Proofs.Ytonoadjmglkhaaa.Pr

theorem place_is (l : List Id) (x : Id) (k : Nat) (hall : ∀ (j : Nat) (y : Id), j < k → l[j]? = some y → lessI y x = true) (hend : k = l.length ∨ ∃ y, l[k]? = some y ∧ lessI y x = false) : placeI l x = k := by
  unfold placeI
  induction l generalizing k with
  | nil =>
    rcases hend with h | ⟨y, h, _⟩
    · rw [h]; rfl
    · simp at h
  | cons a l ih =>
    cases k with
    | zero =>
      rcases hend with h | ⟨y, h, h2⟩
      · simp at h
      · obtain rfl : a = y := by simpa using h
        rw [List.takeWhile_cons, h2]
        rfl
    | succ k =>
      have h0 := hall 0 a (by omega) rfl
      rw [List.takeWhile_cons, h0]
      simp only [if_true, List.length_cons]
      rw [ih k (fun j y hj hy => hall (j + 1) y (by omega) (by simpa using hy)) (by
        rcases hend with h | ⟨y, h, h2⟩
        · exact Or.inl (by simpa using h)
        · exact Or.inr ⟨y, by simpa using h, h2⟩)]
end Go.Proofs.Ytonoadjmglkhaaa.Bk

namespace Go.Proofs.Ytonoadjmglkhaaa.Bk
open Go.RowKit Go.Sort Go.Proofs.Ytonoadjmglkhaaa Go.Proofs.Ytonoadjmglkhaaa.Rw Go.Proofs.Ytonoadjmglkhaaa.Nm Go.Proofs.Ytonoadjmglkhaaa.Pr

end Go.Proofs.Ytonoadjmglkhaaa.Bk
