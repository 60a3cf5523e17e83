/-
  Plain facts: two constraints on one name, tried over the numbers from -2 to 22 and thirteen texts. No program in it.
-/
import Derived.Test.YtdomincmoaahoaaBd
import Derived.Test.YtdomincmoaahoaaBa
namespace Go.Proofs.Ytdomincmoaahoaa.Rl
open Go.RowKit Go.Proofs.Ytdomincmoaahoaa Go.Proofs.Ytdomincmoaahoaa.Pu Go.Proofs.Ytdomincmoaahoaa.Pr Go.Proofs.Ytdomincmoaahoaa.Va

def numsV : List V3 := (List.range 25).map fun i : Nat => (false, (i : Int) - 2, ⟨#[]⟩)
def txtsV : List V3 := [⟨#[]⟩, ⟨#[120]⟩, ⟨#[120, 121]⟩, ⟨#[120, 121, 122]⟩, ⟨#[120, 122]⟩, ⟨#[121]⟩, ⟨#[121, 121]⟩, ⟨#[121, 121, 121]⟩, ⟨#[120, 121, 122, 122]⟩, ⟨#[120, 120]⟩, ⟨#[121, 120]⟩, ⟨#[122]⟩, ⟨#[120, 122, 113]⟩].map fun s => (true, 0, s)
theorem num_mem (n : Int) (h1 : -2 ≤ n) (h2 : n ≤ 22) : ((false, n, ⟨#[]⟩) : V3) ∈ numsV := by
  unfold numsV
  rw [List.mem_map]
  exact ⟨(n + 2).toNat, List.mem_range.2 (by omega), by rw [show (((n + 2).toNat : Nat) : Int) - 2 = n by omega]⟩
theorem txt_mem (r : Int) : ((true, 0, txtAt r) : V3) ∈ txtsV := by
  unfold txtAt
  generalize r.toNat = k
  match k with
  | 0 => simp [txtsV]
  | 1 => simp [txtsV]
  | 2 => simp [txtsV]
  | 3 => simp [txtsV]
  | 4 => simp [txtsV]
  | 5 => simp [txtsV]
  | 6 => simp [txtsV]
  | k + 7 => simp [txtsV]
/-- Each text has another one that begins with it. -/
theorem txt_more (r : Int) : ∃ u : ByteArray, ((true, 0, u) : V3) ∈ txtsV ∧ pfx (txtAt r) u = true ∧ ¬ u.data.toList = (txtAt r).data.toList := by
  unfold txtAt
  generalize r.toNat = k
  match k with
  | 0 => exact ⟨⟨#[120]⟩, by simp [txtsV], by decide, by decide⟩
  | 1 => exact ⟨⟨#[120, 121]⟩, by simp [txtsV], by decide, by decide⟩
  | 2 => exact ⟨⟨#[120, 121, 122]⟩, by simp [txtsV], by decide, by decide⟩
  | 3 => exact ⟨⟨#[120, 121, 122, 122]⟩, by simp [txtsV], by decide, by decide⟩
  | 4 => exact ⟨⟨#[120, 122, 113]⟩, by simp [txtsV], by decide, by decide⟩
  | 5 => exact ⟨⟨#[121, 121]⟩, by simp [txtsV], by decide, by decide⟩
  | 6 => exact ⟨⟨#[121, 121, 121]⟩, by simp [txtsV], by decide, by decide⟩
  | k + 7 => exact ⟨⟨#[120]⟩, by simp [txtsV], rfl, by simp⟩
/-- What a number's constraint asks, in short. -/
theorem kd_cases (n : Int) : (∃ lo hi, kdOf n = .rg lo hi ∧ 0 ≤ lo ∧ lo ≤ hi ∧ hi ≤ 18) ∨ (∃ r, kdOf n = .tx (txtAt r)) ∨ ∃ r, kdOf n = .pr (txtAt r) := by
  have h1 := Wi.within_bd (n.tdiv 4) 0 9 (by omega)
  have h2 := Wi.within_bd (n.tdiv 40) 0 9 (by omega)
  unfold kdOf
  split
  · exact Or.inl ⟨_, _, rfl, h1.1, by omega, by unfold lo9; omega⟩
  · split
    · exact Or.inr (Or.inl ⟨_, rfl⟩)
    · exact Or.inr (Or.inr ⟨_, rfl⟩)
theorem one_meets (i j : Int) : ((numsV ++ txtsV).any fun v => holdsK (kdOf i) v && holdsK (kdOf j) v) = (bothK (kdOf i) (kdOf j)).isSome := by
  cases hb : bothK (kdOf i) (kdOf j) with
  | none =>
    rw [Option.isSome_none, List.any_eq_false]
    intro v _
    rw [both_none _ _ hb v]
    decide
  | some c =>
    obtain ⟨c1, c2⟩ := both_some _ _ c (kdOf_good i) (kdOf_good j) hb
    rw [Option.isSome_some, List.any_eq_true]
    have fin : ∀ v, v ∈ numsV ++ txtsV → holdsK c v = true → ∃ v, v ∈ numsV ++ txtsV ∧ (holdsK (kdOf i) v && holdsK (kdOf j) v) = true := fun v h1 h2 => ⟨v, h1, by rw [← c2]; exact h2⟩
    rcases kd_cases i with ⟨lo, hi, e, l1, l2, l3⟩ | ⟨r, e⟩ | ⟨r, e⟩ <;> rcases kd_cases j with ⟨lo', hi', e', m1, m2, m3⟩ | ⟨r', e'⟩ | ⟨r', e'⟩ <;> rw [e, e'] at hb <;> simp only [bothK] at hb
    · split at hb
      · rename_i hc
        obtain rfl := Option.some.inj hb
        exact fin (false, max lo lo', ⟨#[]⟩) (List.mem_append_left _ (num_mem _ (by omega) (by omega))) (by rw [hold_n]; simp; omega)
      · cases hb
    · cases hb
    · cases hb
    · cases hb
    · split at hb
      · obtain rfl := Option.some.inj hb
        exact fin (true, 0, txtAt r) (List.mem_append_right _ (txt_mem r)) (by rw [hold_tx]; simp)
      · cases hb
    · split at hb
      · obtain rfl := Option.some.inj hb
        exact fin (true, 0, txtAt r) (List.mem_append_right _ (txt_mem r)) (by rw [hold_tx]; simp)
      · cases hb
    · cases hb
    · split at hb
      · obtain rfl := Option.some.inj hb
        exact fin (true, 0, txtAt r') (List.mem_append_right _ (txt_mem r')) (by rw [hold_tx]; simp)
      · cases hb
    · split at hb
      · obtain rfl := Option.some.inj hb
        exact fin (true, 0, txtAt r') (List.mem_append_right _ (txt_mem r')) (by rw [hold_pr]; exact pfx_self _)
      · split at hb
        · obtain rfl := Option.some.inj hb
          exact fin (true, 0, txtAt r) (List.mem_append_right _ (txt_mem r)) (by rw [hold_pr]; exact pfx_self _)
        · cases hb
theorem one_covers (i j : Int) : ((numsV ++ txtsV).all fun v => holdsK (kdOf i) v || !holdsK (kdOf j) v) = impliesK (kdOf j) (kdOf i) := by
  rw [Bool.eq_iff_iff, List.all_eq_true]
  constructor
  · intro h
    have g : ∀ v, v ∈ numsV ++ txtsV → holdsK (kdOf j) v = true → holdsK (kdOf i) v = true := fun v h1 h2 => by
      have := h v h1
      rw [h2] at this
      simpa using this
    rcases kd_cases j with ⟨lo, hi, e, l1, l2, l3⟩ | ⟨r, e⟩ | ⟨r, e⟩
    · have h1 := g (false, lo, ⟨#[]⟩) (List.mem_append_left _ (num_mem _ (by omega) (by omega))) (by rw [e, hold_n]; simp [l2])
      have h2 := g (false, hi, ⟨#[]⟩) (List.mem_append_left _ (num_mem _ (by omega) (by omega))) (by rw [e, hold_n]; simp [l2])
      rcases kd_cases i with ⟨lo', hi', e', m1, m2, m3⟩ | ⟨r', e'⟩ | ⟨r', e'⟩ <;> rw [e'] at h1 h2
      · rw [hold_n] at h1 h2
        simp only [Bool.and_eq_true, decide_eq_true_eq] at h1 h2
        rw [e, e']
        simp [impliesK, h1.1, h2.2]
      · simp [holdsK] at h1
      · simp [holdsK] at h1
    · have h1 := g (true, 0, txtAt r) (List.mem_append_right _ (txt_mem r)) (by rw [e, hold_tx]; simp)
      rcases kd_cases i with ⟨lo', hi', e', m1, m2, m3⟩ | ⟨r', e'⟩ | ⟨r', e'⟩ <;> rw [e'] at h1 <;> rw [e, e']
      · rw [hold_rg] at h1; cases h1
      · rw [hold_tx] at h1; exact h1
      · rw [hold_pr] at h1; exact h1
    · have h1 := g (true, 0, txtAt r) (List.mem_append_right _ (txt_mem r)) (by rw [e, hold_pr]; exact pfx_self _)
      rcases kd_cases i with ⟨lo', hi', e', m1, m2, m3⟩ | ⟨r', e'⟩ | ⟨r', e'⟩ <;> rw [e'] at h1 <;> rw [e, e']
      · rw [hold_rg] at h1; cases h1
      · obtain ⟨u, u1, u2, u3⟩ := txt_more r
        have h2 := g (true, 0, u) (List.mem_append_right _ u1) (by rw [e, hold_pr]; exact u2)
        rw [e', hold_tx, beq_iff_eq] at h2
        rw [hold_tx, beq_iff_eq] at h1
        exact absurd (h2.trans h1.symm) u3
      · rw [hold_pr] at h1; exact h1
  · intro h v _
    cases hv : holdsK (kdOf j) v
    · simp
    · rw [implies_holds _ _ h v hv]
      rfl
end Go.Proofs.Ytdomincmoaahoaa.Rl
