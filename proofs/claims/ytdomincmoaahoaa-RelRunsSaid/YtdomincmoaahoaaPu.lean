/-
  Plain facts on bytes and texts: runs of one kind, quoted texts, digits, names. No program in it.
-/
import Derived.Test.YtdomincmoaahoaaVaPure
import Derived.RowKit
namespace Go.Proofs.Ytdomincmoaahoaa.Pu
open Go.RowKit Go.Proofs.Ytdomincmoaahoaa

/-- Two lists, each a run of one kind and what is not of that kind behind it. -/
theorem run_inj {p : UInt8 → Bool} : ∀ (a b r s : List UInt8), (∀ c ∈ a, p c = true) → (∀ c ∈ b, p c = true) → (∀ c t, r = c :: t → p c = false) → (∀ c t, s = c :: t → p c = false) → a ++ r = b ++ s → a = b ∧ r = s
  | [], [], r, s, _, _, _, _, h => ⟨rfl, h⟩
  | [], d :: b, r, s, _, hb, hr, _, h => by
    have h1 := hr d (b ++ s) (by simpa using h)
    rw [hb d (List.mem_cons_self ..)] at h1; cases h1
  | c :: a, [], r, s, ha, _, _, hs, h => by
    have h1 := hs c (a ++ r) (by simpa using h.symm)
    rw [ha c (List.mem_cons_self ..)] at h1; cases h1
  | c :: a, d :: b, r, s, ha, hb, hr, hs, h => by
    simp only [List.cons_append, List.cons.injEq] at h
    obtain ⟨h1, h2⟩ := run_inj a b r s (fun x hx => ha x (List.mem_cons_of_mem _ hx)) (fun x hx => hb x (List.mem_cons_of_mem _ hx)) hr hs h.2
    exact ⟨by rw [h.1, h1], h2⟩
/-- A quoted text ends where it ends. -/
theorem esc_inj2 : ∀ (a b r s : List UInt8), VaP.esc a ++ 34 :: r = VaP.esc b ++ 34 :: s → a = b ∧ r = s
  | [], [], r, s, h => by simpa [VaP.esc] using h
  | [], d :: b, r, s, h => by
    simp only [VaP.esc] at h
    split at h
    · simp at h
    · rename_i hd
      simp only [List.nil_append, List.cons_append, List.cons.injEq] at h
      exact absurd (Or.inl h.1.symm) hd
  | c :: a, [], r, s, h => by
    simp only [VaP.esc] at h
    split at h
    · simp at h
    · rename_i hd
      simp only [List.nil_append, List.cons_append, List.cons.injEq] at h
      exact absurd (Or.inl h.1) hd
  | c :: a, d :: b, r, s, h => by
    simp only [VaP.esc] at h
    split at h <;> rename_i hc <;> split at h <;> rename_i hd
    · simp only [List.cons_append, List.cons.injEq, true_and] at h
      obtain ⟨h1, h2⟩ := esc_inj2 a b r s h.2
      exact ⟨by rw [h.1, h1], h2⟩
    · simp only [List.cons_append, List.cons.injEq] at h
      exact absurd (Or.inr h.1.symm) hd
    · simp only [List.cons_append, List.cons.injEq] at h
      exact absurd (Or.inr h.1) hc
    · simp only [List.cons_append, List.cons.injEq] at h
      obtain ⟨h1, h2⟩ := esc_inj2 a b r s h.2
      exact ⟨by rw [h.1, h1], h2⟩
def digB (c : UInt8) : Bool := c == 45 || (decide (48 ≤ c.toNat) && decide (c.toNat ≤ 57))
theorem dig_dec (u : Nat) : ∀ c ∈ Lib.decDigits u, digB c = true := by
  induction u using Nat.strongRecOn with
  | _ u ih =>
    intro c hc
    rw [Lib.decDigits] at hc
    by_cases hu : u < 10
    · rw [dif_pos hu] at hc
      simp at hc
      subst hc
      simp [digB]
      omega
    · rw [dif_neg hu] at hc
      rcases List.mem_append.1 hc with h | h
      · exact ih (u / 10) (by omega) c h
      · simp at h
        subst h
        simp [digB]
        omega
theorem dig_itoa (n : Int) : ∀ c ∈ Lib.itoa n, digB c = true := by
  unfold Lib.itoa
  split
  · intro c hc
    rcases List.mem_cons.1 hc with rfl | h
    · rfl
    · exact dig_dec _ c h
  · exact dig_dec _
theorem itoa_nil (n : Int) : Lib.itoa n ≠ [] := VaP.say_ne false n []
/-- What is behind a value: nothing, or a comma. -/
def Tail (r : List UInt8) : Prop := ∀ c t, r = c :: t → c = 44
/-- Is it a small letter? -/
def letB (c : UInt8) : Bool := decide (97 ≤ c.toNat) && decide (c.toNat ≤ 122)
/-- Is it a name? -/
def nameB (s : ByteArray) : Bool := s.data.toList.all letB && (decide (1 ≤ s.size) && decide (s.size ≤ 12))
theorem nameB_not (s : ByteArray) (k : Nat) (h : k < s.size) (hc : letB s[k] = false) : nameB s = false := by
  have : s.data.toList.all letB = false := by
    rw [List.all_eq_false]
    exact ⟨s[k], by rw [Array.mem_toList_iff]; exact Array.getElem_mem h, by rw [hc]; decide⟩
  simp [nameB, this]
theorem nameB_end (s : ByteArray) (h : ∀ (j : Nat) (hj : j < s.size), letB s[j] = true) : nameB s = (decide (1 ≤ s.size) && decide (s.size ≤ 12)) := by
  have : s.data.toList.all letB = true := by
    rw [List.all_eq_true]
    intro c hc
    obtain ⟨j, hj, rfl⟩ := List.getElem_of_mem hc
    exact h j (by rw [Array.length_toList] at hj; exact hj)
  simp [nameB, this]

theorem name_inj {a b : ByteArray} (h : a.toList = b.toList) : a = b := by
  rw [ByteArray.toList_eq, ByteArray.toList_eq] at h
  exact WideShapes.bytes_inj h
theorem less_ne {a b : ByteArray} (h : Op.bytesLess a.toList b.toList = true) : a ≠ b := by
  rintro rfl
  rw [VaP.bl_irrefl] at h; cases h
theorem less_or {a b : ByteArray} (h1 : ¬ Op.bytesLess a.toList b.toList = true) (h2 : a ≠ b) : Op.bytesLess b.toList a.toList = true := by
  rcases VaP.bl_total a.toList b.toList with h | h | h
  · exact absurd h h1
  · exact absurd (name_inj h) h2
  · exact h

end Go.Proofs.Ytdomincmoaahoaa.Pu
