/-
  Plain facts on a normal form of any length, as the document's own answer makes it. No program in it.
-/
import Derived.Test.YtdomincmoaahoaaRlJoin
namespace Go.Proofs.Ytdomincmoaahoaa.Rl
open Go.RowKit Go.Proofs.Ytdomincmoaahoaa Go.Proofs.Ytdomincmoaahoaa.Pu Go.Proofs.Ytdomincmoaahoaa.Pr

def foldR : List Cn → List Cn → Option (List Cn)
  | m, [] => some m
  | m, c :: r => match insC m c with
    | none => none
    | some n => foldR n r
theorem foldR_len : ∀ (r m p : List Cn), RiseC m → foldR m r = some p → m.length ≤ p.length ∧ RiseC p
  | [], m, p, hm, h => by
    obtain rfl := Option.some.inj h
    exact ⟨Nat.le_refl _, hm⟩
  | c :: r, m, p, hm, h => by
    simp only [foldR] at h
    cases hi : insC m c with
    | none => rw [hi] at h; cases h
    | some n =>
      rw [hi] at h
      have e1 := ins_length m c n hm hi
      obtain ⟨e2, e3⟩ := foldR_len r n p (ins_rise m c n hm hi).1 h
      exact ⟨by omega, e3⟩
theorem foldC_R : ∀ (r m p : List Cn) (at_ : Nat), RiseC m → m.length ≤ 5 → (foldC at_ m r = .ok p ↔ foldR m r = some p ∧ p.length ≤ 5)
  | [], m, p, at_, _, h5 => by
    simp only [foldC, foldR]
    constructor
    · intro h
      injection h with h
      subst h
      exact ⟨rfl, h5⟩
    · rintro ⟨h, _⟩
      rw [Option.some.inj h]
  | c :: r, m, p, at_, hm, h5 => by
    simp only [foldC, foldR]
    cases hi : insC m c with
    | none =>
      constructor
      · intro h; cases h
      · rintro ⟨h, _⟩; cases h
    | some n =>
      simp only
      have hn := (ins_rise m c n hm hi).1
      by_cases h6 : 5 < n.length
      · rw [if_pos h6]
        constructor
        · intro h; cases h
        · rintro ⟨h, h7⟩
          have := (foldR_len r n p hn h).1
          omega
      · rw [if_neg h6]
        exact foldC_R r n p (at_ + 1) hn (by omega)
theorem foldR_append : ∀ (a b m m' : List Cn), foldR m a = some m' → foldR m (a ++ b) = foldR m' b
  | [], b, m, m', h => by
    obtain rfl := Option.some.inj h
    rfl
  | c :: r, b, m, m', h => by
    simp only [List.cons_append, foldR] at h ⊢
    cases hi : insC m c with
    | none => rw [hi] at h; cases h
    | some n =>
      rw [hi] at h
      exact foldR_append r b n m' h
theorem foldR_end : ∀ (p m : List Cn), RiseC (m ++ p) → foldR m p = some (m ++ p)
  | [], m, _ => by simp [foldR]
  | c :: r, m, h => by
    have h1 : ∀ x ∈ m, Op.bytesLess x.1.toList c.1.toList = true := fun x hx => (List.pairwise_append.1 h).2.2 x hx c (List.mem_cons_self ..)
    simp only [foldR]
    rw [ins_end m c h1]
    simp only
    rw [foldR_end r (m ++ [c]) (by simpa using h)]
    simp
/-- The document's own answer, of both together. -/
theorem ref_both {a b : List Cn} (ha : RiseC a) : foldR [] (a ++ b) = foldR a b := foldR_append a b [] a (by simpa using foldR_end a [] (by simpa using ha))
theorem meetsB_R {a b : List Cn} (ha : RiseC a) (h5 : a.length ≤ 5) : meetsB a b = match foldR a b with
    | some p => decide (p.length ≤ 5)
    | none => false := by
  unfold meetsB
  cases h : foldR a b with
  | none =>
    cases h2 : foldC a.length a b with
    | ok p =>
      have := (foldC_R b a p a.length ha h5).1 h2
      rw [h] at this
      cases this.1
    | error e => rfl
  | some p =>
    by_cases h6 : p.length ≤ 5
    · rw [(foldC_R b a p a.length ha h5).2 ⟨h, h6⟩]
      simp [h6]
    · cases h2 : foldC a.length a b with
      | ok q =>
        have h3 := (foldC_R b a q a.length ha h5).1 h2
        rw [h] at h3
        obtain rfl := Option.some.inj h3.1
        exact absurd h3.2 h6
      | error e => simp [h6]
end Go.Proofs.Ytdomincmoaahoaa.Rl
