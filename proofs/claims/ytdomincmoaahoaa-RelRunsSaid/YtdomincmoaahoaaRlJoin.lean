/-
  Plain facts on the normal form of two predicates together: it matches just where both do, and both cover it. No program in it.
-/
import Derived.Test.YtdomincmoaahoaaRlSpec
namespace Go.Proofs.Ytdomincmoaahoaa.Rl
open Go.RowKit Go.Proofs.Ytdomincmoaahoaa Go.Proofs.Ytdomincmoaahoaa.Pu Go.Proofs.Ytdomincmoaahoaa.Pr

theorem match_cons (c : Cn) (p : List Cn) (l : List An) : matchL (c :: p) l = (matchL [c] l && matchL p l) := by simp [matchL]
theorem match_both {n : ByteArray} {a b k : Kd} {l : List An} (hl : (l.map (·.1)).Nodup) (hk : ∀ v, holdsK k v = (holdsK a v && holdsK b v)) : matchL [(n, k)] l = (matchL [(n, a)] l && matchL [(n, b)] l) := by
  rw [Bool.eq_iff_iff, Bool.and_eq_true, match_iff, match_iff, match_iff]
  constructor
  · intro h
    obtain ⟨u, hu, u1, u2⟩ := h (n, k) (List.mem_singleton.2 rfl)
    rw [hk, Bool.and_eq_true] at u2
    refine ⟨fun c hc => ?_, fun c hc => ?_⟩ <;> (obtain rfl := List.mem_singleton.1 hc)
    · exact ⟨u, hu, u1, u2.1⟩
    · exact ⟨u, hu, u1, u2.2⟩
  · rintro ⟨h1, h2⟩ c hc
    obtain rfl := List.mem_singleton.1 hc
    obtain ⟨u, hu, u1, u2⟩ := h1 (n, a) (List.mem_singleton.2 rfl)
    obtain ⟨v, hv, v1, v2⟩ := h2 (n, b) (List.mem_singleton.2 rfl)
    obtain rfl := uniq hl hu hv (u1.trans v1.symm)
    exact ⟨u, hu, u1, by rw [hk, u2, v2]; rfl⟩
theorem ins_match {l : List An} (hl : (l.map (·.1)).Nodup) : ∀ (m : List Cn) (c : Cn) (m' : List Cn), (∀ x ∈ m, goodK x.2 = true) → goodK c.2 = true → insC m c = some m' → matchL m' l = (matchL m l && matchL [c] l) ∧ ∀ x ∈ m', goodK x.2 = true
  | [], c, m', _, gc, h => by
    obtain rfl := Option.some.inj h
    exact ⟨by simp [matchL], fun x hx => by obtain rfl := List.mem_singleton.1 hx; exact gc⟩
  | x :: r, c, m', gm, gc, h => by
    simp only [insC] at h
    split at h
    · cases hi : insC r c with
      | none => rw [hi] at h; cases h
      | some n =>
        rw [hi] at h
        obtain rfl := Option.some.inj h
        obtain ⟨e1, e2⟩ := ins_match hl r c n (fun y hy => gm y (List.mem_cons_of_mem _ hy)) gc hi
        refine ⟨by rw [match_cons, e1, match_cons x r, Bool.and_assoc], fun y hy => ?_⟩
        rcases List.mem_cons.1 hy with rfl | hy
        · exact gm y (List.mem_cons_self ..)
        · exact e2 y hy
    · split at h
      · rename_i he
        cases hb : bothK x.2 c.2 with
        | none => rw [hb] at h; cases h
        | some k =>
          rw [hb] at h
          obtain rfl := Option.some.inj h
          obtain ⟨k1, k2⟩ := both_some _ _ k (gm x (List.mem_cons_self ..)) gc hb
          obtain ⟨xn, xk⟩ := x
          obtain ⟨cn, ck⟩ := c
          obtain rfl : xn = cn := he
          refine ⟨?_, fun y hy => ?_⟩
          · rw [match_cons, match_cons (xn, xk) r, match_both hl k2, Bool.and_assoc, Bool.and_comm (matchL [(xn, ck)] l), ← Bool.and_assoc]
          · rcases List.mem_cons.1 hy with rfl | hy
            · exact k1
            · exact gm y (List.mem_cons_of_mem _ hy)
      · obtain rfl := Option.some.inj h
        refine ⟨by rw [match_cons, Bool.and_comm], fun y hy => ?_⟩
        rcases List.mem_cons.1 hy with rfl | hy
        · exact gc
        · exact gm y hy
theorem fold_match {l : List An} (hl : (l.map (·.1)).Nodup) : ∀ (r m : List Cn) (at_ : Nat) (p : List Cn), (∀ x ∈ m, goodK x.2 = true) → (∀ x ∈ r, goodK x.2 = true) → foldC at_ m r = .ok p → matchL p l = (matchL m l && matchL r l) ∧ ∀ x ∈ p, goodK x.2 = true
  | [], m, at_, p, gm, _, h => by
    simp only [foldC] at h
    injection h with h
    subst h
    exact ⟨by simp [matchL], gm⟩
  | c :: r, m, at_, p, gm, gr, h => by
    simp only [foldC] at h
    cases hi : insC m c with
    | none => rw [hi] at h; cases h
    | some n =>
      rw [hi] at h
      simp only at h
      split at h
      · cases h
      · obtain ⟨e1, e2⟩ := ins_match hl m c n gm (gr c (List.mem_cons_self ..)) hi
        obtain ⟨f1, f2⟩ := fold_match hl r n (at_ + 1) p e2 (fun y hy => gr y (List.mem_cons_of_mem _ hy)) h
        exact ⟨by rw [f1, e1, match_cons c r, Bool.and_assoc], f2⟩
/-- Both cover their normal form. -/
theorem implies_both {a b k : Kd} (ha : goodK a = true) (hb : goodK b = true) (h : bothK a b = some k) : impliesK k a = true ∧ impliesK k b = true := by
  obtain ⟨k1, k2⟩ := both_some a b k ha hb h
  refine ⟨holds_implies k a k1 fun v hv => ?_, holds_implies k b k1 fun v hv => ?_⟩ <;> (rw [k2, Bool.and_eq_true] at hv)
  · exact hv.1
  · exact hv.2
theorem ins_covers : ∀ (m : List Cn) (c : Cn) (m' : List Cn), (∀ x ∈ m, goodK x.2 = true) → goodK c.2 = true → insC m c = some m' → coversL m m' = true ∧ coversL [c] m' = true
  | [], c, m', _, _, h => by
    obtain rfl := Option.some.inj h
    exact ⟨rfl, covers_self _⟩
  | x :: r, c, m', gm, gc, h => by
    simp only [insC] at h
    split at h
    · cases hi : insC r c with
      | none => rw [hi] at h; cases h
      | some n =>
        rw [hi] at h
        obtain rfl := Option.some.inj h
        obtain ⟨e1, e2⟩ := ins_covers r c n (fun y hy => gm y (List.mem_cons_of_mem _ hy)) gc hi
        simp only [covers_iff] at *
        refine ⟨fun y hy => ?_, fun y hy => ?_⟩
        · rcases List.mem_cons.1 hy with rfl | hy
          · exact ⟨y, List.mem_cons_self .., rfl, implies_self _⟩
          · obtain ⟨z, hz, h3⟩ := e1 y hy
            exact ⟨z, List.mem_cons_of_mem _ hz, h3⟩
        · obtain ⟨z, hz, h3⟩ := e2 y hy
          exact ⟨z, List.mem_cons_of_mem _ hz, h3⟩
    · split at h
      · rename_i he
        cases hb : bothK x.2 c.2 with
        | none => rw [hb] at h; cases h
        | some k =>
          rw [hb] at h
          obtain rfl := Option.some.inj h
          obtain ⟨k1, k2⟩ := implies_both (gm x (List.mem_cons_self ..)) gc hb
          rw [covers_iff, covers_iff]
          refine ⟨fun y hy => ?_, fun y hy => ?_⟩
          · rcases List.mem_cons.1 hy with rfl | hy
            · exact ⟨_, List.mem_cons_self .., rfl, k1⟩
            · exact ⟨y, List.mem_cons_of_mem _ hy, rfl, implies_self _⟩
          · obtain rfl := List.mem_singleton.1 hy
            exact ⟨_, List.mem_cons_self .., he, k2⟩
      · obtain rfl := Option.some.inj h
        rw [covers_iff, covers_iff]
        refine ⟨fun y hy => ⟨y, List.mem_cons_of_mem _ hy, rfl, implies_self _⟩, fun y hy => ?_⟩
        obtain rfl := List.mem_singleton.1 hy
        exact ⟨y, List.mem_cons_self .., rfl, implies_self _⟩
theorem ins_good {m : List Cn} {c : Cn} {m' : List Cn} (gm : ∀ x ∈ m, goodK x.2 = true) (gc : goodK c.2 = true) (h : insC m c = some m') : ∀ x ∈ m', goodK x.2 = true := (ins_match (l := []) List.nodup_nil m c m' gm gc h).2
theorem fold_covers : ∀ (r m : List Cn) (at_ : Nat) (p : List Cn), (∀ x ∈ m, goodK x.2 = true) → (∀ x ∈ r, goodK x.2 = true) → foldC at_ m r = .ok p → coversL m p = true ∧ coversL r p = true
  | [], m, at_, p, gm, _, h => by
    simp only [foldC] at h
    injection h with h
    subst h
    exact ⟨covers_self _, rfl⟩
  | c :: r, m, at_, p, gm, gr, h => by
    simp only [foldC] at h
    cases hi : insC m c with
    | none => rw [hi] at h; cases h
    | some n =>
      rw [hi] at h
      simp only at h
      split at h
      · cases h
      · have gc := gr c (List.mem_cons_self ..)
        have gn := ins_good gm gc hi
        have gr2 : ∀ x ∈ r, goodK x.2 = true := fun y hy => gr y (List.mem_cons_of_mem _ hy)
        obtain ⟨e1, e2⟩ := ins_covers m c n gm gc hi
        obtain ⟨f1, f2⟩ := fold_covers r n (at_ + 1) p gn gr2 h
        have gp := (fold_match (l := []) List.nodup_nil r n (at_ + 1) p gn gr2 h).2
        refine ⟨covers_trans gp e1 f1, ?_⟩
        have f3 := covers_trans gp e2 f1
        rw [covers_iff] at *
        intro y hy
        rcases List.mem_cons.1 hy with rfl | hy
        · exact f3 y (List.mem_singleton.2 rfl)
        · exact f2 y hy
theorem fold_rise : ∀ (r m : List Cn) (at_ : Nat) (p : List Cn), RiseC m → m.length ≤ 5 → foldC at_ m r = .ok p → RiseC p ∧ p.length ≤ 5
  | [], m, at_, p, hm, h5, h => by
    simp only [foldC] at h
    injection h with h
    subst h
    exact ⟨hm, h5⟩
  | c :: r, m, at_, p, hm, _, h => by
    simp only [foldC] at h
    cases hi : insC m c with
    | none => rw [hi] at h; cases h
    | some n =>
      rw [hi] at h
      simp only at h
      split at h
      · cases h
      · rename_i h6
        exact fold_rise r n (at_ + 1) p (ins_rise m c n hm hi).1 (by omega) h
/-- Both together, in their normal form, or nothing. -/
theorem make_both {a b : List Cn} (ha : RiseC a) (h5 : a.length ≤ 5) : makeC (a ++ b) = foldC a.length a b := by
  have e := make_self a ha h5
  rw [makeC] at e
  rw [makeC, fold_append a b [] a 0 e, Nat.zero_add]
end Go.Proofs.Ytdomincmoaahoaa.Rl
