/-
  Plain facts: a constraint more, an attribute more, five names. No program in it.
-/
import Derived.Test.YtdomincmoaahoaaBa
import Derived.Test.YtdomincmoaahoaaBd
namespace Go.Proofs.Ytdomincmoaahoaa.Rl
open Go.RowKit Go.Proofs.Ytdomincmoaahoaa Go.Proofs.Ytdomincmoaahoaa.Pu Go.Proofs.Ytdomincmoaahoaa.Pr Go.Proofs.Ytdomincmoaahoaa.Kp

theorem nf_goodK {p : List Cn} (h : NF p) : ∀ x ∈ p, goodK x.2 = true := fun x hx => by
  have := h.good x hx
  simp only [goodC, Bool.and_eq_true] at this
  exact this.2
theorem nf_tail {c : Cn} {p : List Cn} (h : NF (c :: p)) : NF p :=
  ⟨(List.pairwise_cons.1 h.rise).2, by have := h.five; simp at this; omega, fun x hx => h.good x (List.mem_cons_of_mem _ hx), fun x hx => h.small x (List.mem_cons_of_mem _ hx)⟩
theorem meets_less {p q r : List Cn} (hp : RiseC p) (hr : RiseC r) (hs : ∀ x ∈ p, x ∈ q) (h : Meets q r) : Meets p r := by
  refine ⟨fun x hx y hy e => h.1 x (hs x hx) y hy e, ?_⟩
  have h2 := h.2
  rw [← union_len] at h2 ⊢
  refine Nat.le_trans (nodup_len _ _ (union_nodup hp hr) fun n hn => (union_mem q r n).2 ?_) h2
  rcases (union_mem p r n).1 hn with h3 | h3
  · obtain ⟨x, hx, rfl⟩ := List.mem_map.1 h3
    exact Or.inl (List.mem_map_of_mem (hs x hx))
  · exact Or.inr h3
theorem covers_more (p : List Cn) (c : Cn) : coversL p (p ++ [c]) = true := (covers_iff _ _).2 fun x hx => ⟨x, List.mem_append_left _ hx, rfl, implies_self _⟩
theorem not_covers {p : List Cn} {c : Cn} (h : ∀ x ∈ p, x.1 ≠ c.1) : coversL (p ++ [c]) p = false := by
  rw [Bool.eq_false_iff]
  intro hc
  obtain ⟨y, hy, y1, _⟩ := (covers_iff _ _).1 hc c (List.mem_append_right _ (List.mem_singleton.2 rfl))
  exact h y hy y1
theorem not_match {p : List Cn} {c : Cn} {l : List An} (h : ∀ a ∈ l, a.1 ≠ c.1) : matchL (p ++ [c]) l = false := by
  rw [Bool.eq_false_iff]
  intro hc
  obtain ⟨a, ha, a1, _⟩ := (match_iff _ _).1 hc c (List.mem_append_right _ (List.mem_singleton.2 rfl))
  exact h a ha a1
theorem match_wide {p : List Cn} {l : List An} {a : An} (h : ∀ c ∈ p, a.1 ≠ c.1) : matchL p (l ++ [a]) = matchL p l := by
  rw [Bool.eq_iff_iff, match_iff, match_iff]
  constructor
  · intro hm c hc
    obtain ⟨u, hu, u1, u2⟩ := hm c hc
    rcases List.mem_append.1 hu with hu | hu
    · exact ⟨u, hu, u1, u2⟩
    · obtain rfl := List.mem_singleton.1 hu
      exact absurd u1 (h c hc)
  · intro hm c hc
    obtain ⟨u, hu, u1, u2⟩ := hm c hc
    exact ⟨u, List.mem_append_left _ hu, u1, u2⟩
/-- Five names leave room for no other. -/
theorem five_meets {s p : List Cn} (h5 : s.length = 5) (hd : ∀ x ∈ s, ∀ y ∈ p, x.1 ≠ y.1) : Meets s p ↔ p = [] := by
  have hf : fresh s p = p.length := by
    unfold fresh
    rw [List.countP_eq_length]
    intro y hy
    have : has s y.1 = false := by
      rw [Bool.eq_false_iff]
      intro h
      obtain ⟨x, hx, e⟩ := List.mem_map.1 ((has_iff s y.1).1 h)
      exact hd x hx y hy e
    rw [this]
    rfl
  unfold Meets
  rw [hf, h5]
  constructor
  · rintro ⟨_, h⟩
    exact List.eq_nil_of_length_eq_zero (by omega)
  · rintro rfl
    exact ⟨fun x _ y hy => by simp at hy, by simp⟩
end Go.Proofs.Ytdomincmoaahoaa.Rl
