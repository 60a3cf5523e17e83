/-
  A right broker stays right: one advertisement more, one less. No program's function in it.
-/
import Derived.Test.YtncogjpmboglhaaQ033
namespace Go.Proofs.Ytncogjpmboglhaa.Av
open Go.RowKit Go.Sort Go.Proofs.Ytncogjpmboglhaa Go.Proofs.Ytncogjpmboglhaa.Rw Go.Proofs.Ytncogjpmboglhaa.Nm Go.Proofs.Ytncogjpmboglhaa.Pr Go.Proofs.Ytncogjpmboglhaa.Bk

theorem cEn_neg (a b : En) : cEn a b < 0 ↔ (lessI a.tree b.tree = true ∨ (a.tree = b.tree ∧ lessI a.sub b.sub = true)) := by
  unfold cEn orI
  by_cases h : cmpJ a.tree b.tree = 0
  · rw [if_pos h, cmpJ_neg]
    have e := (cmpJ_zero _ _).1 h
    constructor
    · exact fun q => Or.inr ⟨e, q⟩
    · rintro (q | ⟨_, q⟩)
      · rw [e, lessI_irr] at q; cases q
      · exact q
  · rw [if_neg h, cmpJ_neg]
    constructor
    · exact Or.inl
    · rintro (q | ⟨q, _⟩)
      · exact q
      · exact absurd ((cmpJ_zero _ _).2 q) h
theorem cEn_tr (x y z : En) (h1 : cEn x y < 0) (h2 : cEn y z < 0) : cEn x z < 0 := by
  rw [cEn_neg] at *
  rcases h1 with h1 | ⟨e1, h1⟩ <;> rcases h2 with h2 | ⟨e2, h2⟩
  · exact Or.inl (lessI_trans h1 h2)
  · exact Or.inl (by rw [← e2]; exact h1)
  · exact Or.inl (by rw [e1]; exact h2)
  · exact Or.inr ⟨e1.trans e2, lessI_trans h1 h2⟩
end Go.Proofs.Ytncogjpmboglhaa.Av
