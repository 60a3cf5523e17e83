/-
  Plain facts on what values say: no program in it. A number's decimals, a text between quotes: two values that say the same are the same.
  Plain facts on bytes and texts: runs of one kind, quoted texts, digits, names. No program in it.
  Plain facts on predicates: constraints on one name, both of two, normal forms, what they say. No program in it.
  Plain facts on how predicates are to each other: match, meet, cover. No program in it.
  Plain facts on the normal form of two predicates together: it matches just where both do, and both cover it. No program in it.
  Plain facts on a normal form of any length, as the document's own answer makes it. No program in it.
  Plain facts: a constraint put into a normal form by its place; the order of names told by -1, 0, 1. No program in it.
-/
import Derived.Lib.ItoaNum
import GoSem.Claim
import Derived.Laws.Strings
import Derived.RowKit
import Derived.Lib.Bytealg
namespace Go.Proofs.Ytdomincmoaahoaa.VaP

/-- A text's bytes, each quote and backslash with a backslash ahead. -/
def esc : List UInt8 → List UInt8
  | [] => []
  | c :: r => if c = 34 ∨ c = 92 then 92 :: c :: esc r else c :: esc r
theorem esc_inj : ∀ (a b : List UInt8), esc a = esc b → a = b
  | [], [], _ => rfl
  | [], d :: s, h => by simp only [esc] at h; split at h <;> cases h
  | c :: r, [], h => by simp only [esc] at h; split at h <;> cases h
  | c :: r, d :: s, h => by
    simp only [esc] at h
    split at h <;> rename_i hc <;> split at h <;> rename_i hd
    · simp only [List.cons.injEq, true_and] at h
      rw [h.1, esc_inj r s h.2]
    · simp only [List.cons.injEq] at h
      exact absurd (Or.inr h.1.symm) hd
    · simp only [List.cons.injEq] at h
      exact absurd (Or.inr h.1) hc
    · simp only [List.cons.injEq] at h
      rw [h.1, esc_inj r s h.2]

theorem digit_val (a b : Nat) (ha : a < 10) (hb : b < 10) (h : UInt8.ofNat (48 + a) = UInt8.ofNat (48 + b)) : a = b := by
  have h2 := congrArg UInt8.toNat h
  simp at h2
  omega
theorem decDigits_ne (u : Nat) : Lib.decDigits u ≠ [] := by
  intro h
  have h2 := Lib.decDigits_length u
  rw [h] at h2
  have := Lib.nDigits_pos u
  simp at h2
  omega
theorem decDigits_inj (u : Nat) : ∀ v, Lib.decDigits u = Lib.decDigits v → u = v := by
  induction u using Nat.strongRecOn with
  | _ u ih =>
    intro v h
    rw [Lib.decDigits, Lib.decDigits.eq_1 v] at h
    by_cases hu : u < 10 <;> by_cases hv : v < 10
    · rw [dif_pos hu, dif_pos hv] at h
      exact digit_val u v hu hv (List.cons.inj h).1
    · rw [dif_pos hu, dif_neg hv] at h
      have h3 := congrArg List.length h
      have h4 := decDigits_ne (v / 10)
      simp at h3
      exact absurd h3 h4
    · rw [dif_neg hu, dif_pos hv] at h
      have h3 := congrArg List.length h
      have h4 := decDigits_ne (u / 10)
      simp at h3
      exact absurd h3 h4
    · rw [dif_neg hu, dif_neg hv] at h
      have h5 := List.append_inj' h rfl
      have h6 := ih (u / 10) (by omega) (v / 10) h5.1
      have h7 := digit_val (u % 10) (v % 10) (by omega) (by omega) (List.cons.inj h5.2).1
      omega
theorem decDigits_head (u : Nat) : ∀ c r, Lib.decDigits u = c :: r → c ≠ 45 ∧ c ≠ 34 := by
  induction u using Nat.strongRecOn with
  | _ u ih =>
    intro c r h
    rw [Lib.decDigits] at h
    by_cases hu : u < 10
    · rw [dif_pos hu] at h
      have e := (List.cons.inj h).1
      subst e
      constructor <;> intro h2 <;> (have h3 := congrArg UInt8.toNat h2; simp at h3; omega)
    · rw [dif_neg hu] at h
      cases hd : Lib.decDigits (u / 10) with
      | nil => exact absurd hd (decDigits_ne _)
      | cons c2 r2 =>
        rw [hd] at h
        have e := (List.cons.inj h).1
        subst e
        exact ih (u / 10) (by omega) _ _ hd
theorem itoa_inj (a b : Int) (h : Lib.itoa a = Lib.itoa b) : a = b := by
  unfold Lib.itoa at h
  split at h <;> rename_i ha <;> split at h <;> rename_i hb
  · have := decDigits_inj _ _ (List.cons.inj h).2
    omega
  · exact absurd rfl (decDigits_head _ _ _ h.symm).1
  · exact absurd rfl (decDigits_head _ _ _ h).1
  · have := decDigits_inj _ _ h
    omega
theorem itoa_head (a : Int) : ∀ c r, Lib.itoa a = c :: r → c ≠ 34 := by
  intro c r h
  unfold Lib.itoa at h
  split at h
  · have e := (List.cons.inj h).1
    subst e
    decide
  · exact (decDigits_head _ _ _ h).2
/-- What a value says. -/
def say (t : Bool) (n : Int) (s : List UInt8) : List UInt8 := if t then 34 :: (esc s ++ [34]) else Lib.itoa n
theorem say_ne (t : Bool) (n : Int) (s : List UInt8) : say t n s ≠ [] := by
  unfold say
  split
  · simp
  · unfold Lib.itoa; split
    · simp
    · exact decDigits_ne _
/-- Two right values that say the same are the same. -/
theorem say_inj (t1 t2 : Bool) (n1 n2 : Int) (s1 s2 : List UInt8) (h1 : if t1 then n1 = 0 else s1 = []) (h2 : if t2 then n2 = 0 else s2 = []) (h : say t1 n1 s1 = say t2 n2 s2) : t1 = t2 ∧ n1 = n2 ∧ s1 = s2 := by
  cases t1 <;> cases t2 <;> simp [say] at h h1 h2
  · exact ⟨rfl, itoa_inj _ _ h, by rw [h1, h2]⟩
  · exact absurd rfl (itoa_head _ _ _ h)
  · exact absurd rfl (itoa_head _ _ _ h.symm)
  · exact ⟨rfl, by rw [h1, h2], esc_inj _ _ h⟩

/-! ### the order of texts -/
theorem bl_irrefl : ∀ x : List UInt8, Op.bytesLess x x = false
  | [] => rfl
  | a :: x => by simp [Op.bytesLess, bl_irrefl x]
theorem bl_cons (a b : UInt8) (x y : List UInt8) : Op.bytesLess (a :: x) (b :: y) = true ↔ a.toNat < b.toNat ∨ (a.toNat = b.toNat ∧ Op.bytesLess x y = true) := by
  simp only [Op.bytesLess, Bool.or_eq_true, decide_eq_true_eq, Bool.and_eq_true, beq_iff_eq, UInt8.lt_iff_toNat_lt]
  constructor
  · rintro (h | ⟨h, k⟩)
    · exact Or.inl h
    · exact Or.inr ⟨by rw [h], k⟩
  · rintro (h | ⟨h, k⟩)
    · exact Or.inl h
    · exact Or.inr ⟨UInt8.toNat_inj.1 h, k⟩
theorem bl_trans : ∀ x y z : List UInt8, Op.bytesLess x y = true → Op.bytesLess y z = true → Op.bytesLess x z = true
  | _, [], _, h, _ => by cases ‹List UInt8› <;> simp [Op.bytesLess] at h
  | _, _ :: _, [], _, k => by simp [Op.bytesLess] at k
  | [], _ :: _, _ :: _, _, _ => rfl
  | a :: x, b :: y, c :: z, h, k => by
    rw [bl_cons] at h k ⊢
    rcases h with h | ⟨h, h2⟩ <;> rcases k with k | ⟨k, k2⟩
    · exact Or.inl (by omega)
    · exact Or.inl (by omega)
    · exact Or.inl (by omega)
    · exact Or.inr ⟨by omega, bl_trans x y z h2 k2⟩
theorem bl_total : ∀ x y : List UInt8, Op.bytesLess x y = true ∨ x = y ∨ Op.bytesLess y x = true
  | [], [] => Or.inr (Or.inl rfl)
  | [], _ :: _ => Or.inl rfl
  | _ :: _, [] => Or.inr (Or.inr rfl)
  | a :: x, b :: y => by
    rw [bl_cons, bl_cons]
    rcases Nat.lt_trichotomy a.toNat b.toNat with h | h | h
    · exact Or.inl (Or.inl h)
    · rcases bl_total x y with k | k | k
      · exact Or.inl (Or.inr ⟨h, k⟩)
      · exact Or.inr (Or.inl (by rw [k, UInt8.toNat_inj.1 h]))
      · exact Or.inr (Or.inr (Or.inr ⟨h.symm, k⟩))
    · exact Or.inr (Or.inr (Or.inl h))
theorem bl_asymm (x y : List UInt8) (h : Op.bytesLess x y = true) : Op.bytesLess y x = false := by
  cases k : Op.bytesLess y x
  · rfl
  · have := bl_trans x y x h k
    rw [bl_irrefl] at this
    cases this

/-- Is one value ahead of another one? -/
def lessV (t1 : Bool) (n1 : Int) (s1 : List UInt8) (t2 : Bool) (n2 : Int) (s2 : List UInt8) : Bool :=
  if t1 then t2 && Op.bytesLess s1 s2 else t2 || decide (n1 < n2)
theorem lessV_irrefl (t : Bool) (n : Int) (s : List UInt8) : lessV t n s t n s = false := by
  cases t <;> simp [lessV, bl_irrefl]
theorem lessV_asymm (t1 : Bool) (n1 : Int) (s1 : List UInt8) (t2 : Bool) (n2 : Int) (s2 : List UInt8) (h : lessV t1 n1 s1 t2 n2 s2 = true) : lessV t2 n2 s2 t1 n1 s1 = false := by
  cases t1 <;> cases t2 <;> simp [lessV] at h ⊢
  · omega
  · exact bl_asymm _ _ h
theorem lessV_trans (t1 : Bool) (n1 : Int) (s1 : List UInt8) (t2 : Bool) (n2 : Int) (s2 : List UInt8) (t3 : Bool) (n3 : Int) (s3 : List UInt8) (h : lessV t1 n1 s1 t2 n2 s2 = true) (k : lessV t2 n2 s2 t3 n3 s3 = true) : lessV t1 n1 s1 t3 n3 s3 = true := by
  cases t1 <;> cases t2 <;> cases t3 <;> simp [lessV] at h k ⊢
  · omega
  · exact bl_trans _ _ _ h k
/-- Of two right values that are not the same one is ahead. -/
theorem lessV_total (t1 t2 : Bool) (n1 n2 : Int) (s1 s2 : List UInt8) (h1 : if t1 then n1 = 0 else s1 = []) (h2 : if t2 then n2 = 0 else s2 = []) :
    lessV t1 n1 s1 t2 n2 s2 = true ∨ (t1 = t2 ∧ n1 = n2 ∧ s1 = s2) ∨ lessV t2 n2 s2 t1 n1 s1 = true := by
  cases t1 <;> cases t2 <;> simp [lessV] at h1 h2 ⊢
  · rcases Int.lt_trichotomy n1 n2 with h | h | h
    · exact Or.inl h
    · exact Or.inr (Or.inl ⟨h, by rw [h1, h2]⟩)
    · exact Or.inr (Or.inr h)
  · rcases bl_total s1 s2 with h | h | h
    · exact Or.inl h
    · exact Or.inr (Or.inl ⟨by rw [h1, h2], h⟩)
    · exact Or.inr (Or.inr h)
end Go.Proofs.Ytdomincmoaahoaa.VaP

namespace Go.Proofs.Ytdomincmoaahoaa.Pu
open Go.RowKit Go.Proofs.Ytdomincmoaahoaa

/-- Two lists, each a run of one kind and what is not of that kind behind it. -/
theorem run_inj {p : UInt8 → Bool} : ∀ (a b r s : List UInt8), (∀ c ∈ a, p c = true) → (∀ c ∈ b, p c = true) → (∀ c t, r = c :: t → p c = false) → (∀ c t, s = c :: t → p c = false) → a ++ r = b ++ s → a = b ∧ r = s
  | [], [], r, s, _, _, _, _, h => ⟨rfl, h⟩
  | [], d :: b, r, s, _, hb, hr, _, h => by
    have h1 := hr d (b ++ s) (by simpa using h)
    rw [hb d (List.mem_cons_self ..)] at h1; cases h1
  | c :: a, [], r, s, ha, _, _, hs, h => by
    have h1 := hs c (a ++ r) (by simpa using h.symm)
    rw [ha c (List.mem_cons_self ..)] at h1; cases h1
  | c :: a, d :: b, r, s, ha, hb, hr, hs, h => by
    simp only [List.cons_append, List.cons.injEq] at h
    obtain ⟨h1, h2⟩ := run_inj a b r s (fun x hx => ha x (List.mem_cons_of_mem _ hx)) (fun x hx => hb x (List.mem_cons_of_mem _ hx)) hr hs h.2
    exact ⟨by rw [h.1, h1], h2⟩
/-- A quoted text ends where it ends. -/
theorem esc_inj2 : ∀ (a b r s : List UInt8), VaP.esc a ++ 34 :: r = VaP.esc b ++ 34 :: s → a = b ∧ r = s
  | [], [], r, s, h => by simpa [VaP.esc] using h
  | [], d :: b, r, s, h => by
    simp only [VaP.esc] at h
    split at h
    · simp at h
    · rename_i hd
      simp only [List.nil_append, List.cons_append, List.cons.injEq] at h
      exact absurd (Or.inl h.1.symm) hd
  | c :: a, [], r, s, h => by
    simp only [VaP.esc] at h
    split at h
    · simp at h
    · rename_i hd
      simp only [List.nil_append, List.cons_append, List.cons.injEq] at h
      exact absurd (Or.inl h.1) hd
  | c :: a, d :: b, r, s, h => by
    simp only [VaP.esc] at h
    split at h <;> rename_i hc <;> split at h <;> rename_i hd
    · simp only [List.cons_append, List.cons.injEq, true_and] at h
      obtain ⟨h1, h2⟩ := esc_inj2 a b r s h.2
      exact ⟨by rw [h.1, h1], h2⟩
    · simp only [List.cons_append, List.cons.injEq] at h
      exact absurd (Or.inr h.1.symm) hd
    · simp only [List.cons_append, List.cons.injEq] at h
      exact absurd (Or.inr h.1) hc
    · simp only [List.cons_append, List.cons.injEq] at h
      obtain ⟨h1, h2⟩ := esc_inj2 a b r s h.2
      exact ⟨by rw [h.1, h1], h2⟩
def digB (c : UInt8) : Bool := c == 45 || (decide (48 ≤ c.toNat) && decide (c.toNat ≤ 57))
theorem dig_dec (u : Nat) : ∀ c ∈ Lib.decDigits u, digB c = true := by
  induction u using Nat.strongRecOn with
  | _ u ih =>
    intro c hc
    rw [Lib.decDigits] at hc
    by_cases hu : u < 10
    · rw [dif_pos hu] at hc
      simp at hc
      subst hc
      simp [digB]
      omega
    · rw [dif_neg hu] at hc
      rcases List.mem_append.1 hc with h | h
      · exact ih (u / 10) (by omega) c h
      · simp at h
        subst h
        simp [digB]
        omega
theorem dig_itoa (n : Int) : ∀ c ∈ Lib.itoa n, digB c = true := by
  unfold Lib.itoa
  split
  · intro c hc
    rcases List.mem_cons.1 hc with rfl | h
    · rfl
    · exact dig_dec _ c h
  · exact dig_dec _
theorem itoa_nil (n : Int) : Lib.itoa n ≠ [] := VaP.say_ne false n []
/-- What is behind a value: nothing, or a comma. -/
def Tail (r : List UInt8) : Prop := ∀ c t, r = c :: t → c = 44
/-- Is it a small letter? -/
def letB (c : UInt8) : Bool := decide (97 ≤ c.toNat) && decide (c.toNat ≤ 122)
/-- Is it a name? -/
def nameB (s : ByteArray) : Bool := s.data.toList.all letB && (decide (1 ≤ s.size) && decide (s.size ≤ 12))
theorem nameB_not (s : ByteArray) (k : Nat) (h : k < s.size) (hc : letB s[k] = false) : nameB s = false := by
  have : s.data.toList.all letB = false := by
    rw [List.all_eq_false]
    exact ⟨s[k], by rw [Array.mem_toList_iff]; exact Array.getElem_mem h, by rw [hc]; decide⟩
  simp [nameB, this]
theorem nameB_end (s : ByteArray) (h : ∀ (j : Nat) (hj : j < s.size), letB s[j] = true) : nameB s = (decide (1 ≤ s.size) && decide (s.size ≤ 12)) := by
  have : s.data.toList.all letB = true := by
    rw [List.all_eq_true]
    intro c hc
    obtain ⟨j, hj, rfl⟩ := List.getElem_of_mem hc
    exact h j (by rw [Array.length_toList] at hj; exact hj)
  simp [nameB, this]

theorem name_inj {a b : ByteArray} (h : a.toList = b.toList) : a = b := by
  rw [ByteArray.toList_eq, ByteArray.toList_eq] at h
  exact WideShapes.bytes_inj h
theorem less_ne {a b : ByteArray} (h : Op.bytesLess a.toList b.toList = true) : a ≠ b := by
  rintro rfl
  rw [VaP.bl_irrefl] at h; cases h
theorem less_or {a b : ByteArray} (h1 : ¬ Op.bytesLess a.toList b.toList = true) (h2 : a ≠ b) : Op.bytesLess b.toList a.toList = true := by
  rcases VaP.bl_total a.toList b.toList with h | h | h
  · exact absurd h h1
  · exact absurd (name_inj h) h2
  · exact h

end Go.Proofs.Ytdomincmoaahoaa.Pu

namespace Go.Proofs.Ytdomincmoaahoaa.Pr
open Go.RowKit Go.Proofs.Ytdomincmoaahoaa Go.Proofs.Ytdomincmoaahoaa.Pu

/-- What a constraint asks: a number in a range, a text, a text's beginning. -/
inductive Kd where
  | rg (lo hi : Int)
  | tx (t : ByteArray)
  | pr (t : ByteArray)
abbrev Cn := ByteArray × Kd
abbrev V3 := Bool × Int × ByteArray
def kN : Kd → Int
  | .rg _ _ => 1
  | .tx _ => 2
  | .pr _ => 3
def kLo : Kd → Int
  | .rg lo _ => lo
  | _ => 0
def kHi : Kd → Int
  | .rg _ hi => hi
  | _ => 0
def kT : Kd → ByteArray
  | .rg _ _ => ⟨#[]⟩
  | .tx t => t
  | .pr t => t
/-- Does the one begin with the other? -/
def pfx (s t : ByteArray) : Bool := s.data.toList.isPrefixOf t.data.toList
theorem pfx_iff (s t : ByteArray) : pfx s t = true ↔ s.data.toList <+: t.data.toList := List.isPrefixOf_iff_prefix
theorem pfx_self (s : ByteArray) : pfx s s = true := (pfx_iff s s).2 (List.prefix_refl _)
def goodK : Kd → Bool
  | .rg lo hi => decide (lo ≤ hi)
  | .tx t => decide (t.size ≤ 12)
  | .pr t => decide (t.size < 12)
def goodC (c : Cn) : Bool := nameB c.1 && goodK c.2
def holdsK : Kd → V3 → Bool
  | .rg lo hi, v => !v.1 && (decide (lo ≤ v.2.1) && decide (v.2.1 ≤ hi))
  | .tx t, v => v.1 && (v.2.2.data.toList == t.data.toList)
  | .pr t, v => v.1 && pfx t v.2.2
def bothK : Kd → Kd → Option Kd
  | .rg a b, .rg c d => if max a c ≤ min b d then some (.rg (max a c) (min b d)) else none
  | .tx s, .tx t => if s.data.toList = t.data.toList then some (.tx s) else none
  | .tx s, .pr t => if pfx t s then some (.tx s) else none
  | .pr s, .tx t => if pfx s t then some (.tx t) else none
  | .pr s, .pr t => if pfx s t then some (.pr t) else if pfx t s then some (.pr s) else none
  | _, _ => none
theorem both_self (k : Kd) (h : goodK k = true) : bothK k k = some k := by
  cases k with
  | rg lo hi =>
    simp only [goodK, decide_eq_true_eq] at h
    simp only [bothK]
    rw [Int.max_self, Int.min_self, if_pos h]
  | tx t => simp [bothK]
  | pr t => simp only [bothK]; rw [if_pos (pfx_self t)]
theorem bytes_eq {s t : ByteArray} (h : s.data.toList = t.data.toList) : s = t := WideShapes.bytes_inj h
/-- Both hold just where each does. -/
theorem both_some (a b c : Kd) (ha : goodK a = true) (hb : goodK b = true) (h : bothK a b = some c) : goodK c = true ∧ ∀ v, holdsK c v = (holdsK a v && holdsK b v) := by
  cases a with
  | rg p q => cases b with
    | rg r s =>
      simp only [bothK] at h
      split at h
      · rename_i hc
        obtain rfl := Option.some.inj h
        refine ⟨by simpa [goodK] using hc, fun v => ?_⟩
        obtain ⟨t, n, u⟩ := v
        cases t <;> simp only [holdsK, Bool.not_true, Bool.not_false, Bool.false_and, Bool.true_and]
        rw [Bool.eq_iff_iff]
        simp only [Bool.and_eq_true, decide_eq_true_eq]
        omega
      · cases h
    | tx t => simp [bothK] at h
    | pr t => simp [bothK] at h
  | tx p => cases b with
    | rg r s => simp [bothK] at h
    | tx t =>
      simp only [bothK] at h
      split at h
      · rename_i hc
        obtain rfl := Option.some.inj h
        exact ⟨ha, fun v => by simp [holdsK, hc]⟩
      · cases h
    | pr t =>
      simp only [bothK] at h
      split at h
      · rename_i hc
        obtain rfl := Option.some.inj h
        refine ⟨ha, fun v => ?_⟩
        rw [Bool.eq_iff_iff]
        simp only [holdsK, Bool.and_eq_true, beq_iff_eq]
        constructor
        · rintro ⟨h1, h2⟩
          exact ⟨⟨h1, h2⟩, h1, by rw [pfx_iff, h2, ← pfx_iff]; exact hc⟩
        · rintro ⟨h1, _⟩
          exact h1
      · cases h
  | pr p => cases b with
    | rg r s => simp [bothK] at h
    | tx t =>
      simp only [bothK] at h
      split at h
      · rename_i hc
        obtain rfl := Option.some.inj h
        refine ⟨hb, fun v => ?_⟩
        rw [Bool.eq_iff_iff]
        simp only [holdsK, Bool.and_eq_true, beq_iff_eq]
        constructor
        · rintro ⟨h1, h2⟩
          exact ⟨⟨h1, by rw [pfx_iff, h2, ← pfx_iff]; exact hc⟩, h1, h2⟩
        · rintro ⟨_, h1⟩
          exact h1
      · cases h
    | pr t =>
      simp only [bothK] at h
      split at h
      · rename_i hc
        obtain rfl := Option.some.inj h
        refine ⟨hb, fun v => ?_⟩
        rw [Bool.eq_iff_iff]
        simp only [holdsK, Bool.and_eq_true]
        constructor
        · rintro ⟨h1, h2⟩
          exact ⟨⟨h1, (pfx_iff _ _).2 (((pfx_iff _ _).1 hc).trans ((pfx_iff _ _).1 h2))⟩, h1, h2⟩
        · rintro ⟨_, h1⟩
          exact h1
      · split at h
        · rename_i _ hc
          obtain rfl := Option.some.inj h
          refine ⟨ha, fun v => ?_⟩
          rw [Bool.eq_iff_iff]
          simp only [holdsK, Bool.and_eq_true]
          constructor
          · rintro ⟨h1, h2⟩
            exact ⟨⟨h1, h2⟩, h1, (pfx_iff _ _).2 (((pfx_iff _ _).1 hc).trans ((pfx_iff _ _).1 h2))⟩
          · rintro ⟨h1, _⟩
            exact h1
        · cases h
theorem both_none (a b : Kd) (h : bothK a b = none) (v : V3) : (holdsK a v && holdsK b v) = false := by
  obtain ⟨w, n, u⟩ := v
  rw [Bool.eq_false_iff]
  intro hv
  rw [Bool.and_eq_true] at hv
  obtain ⟨h1, h2⟩ := hv
  cases a with
  | rg p q => cases b with
    | rg r s =>
      simp only [bothK] at h
      split at h
      · cases h
      · rename_i hc
        simp only [holdsK, Bool.and_eq_true, decide_eq_true_eq] at h1 h2
        omega
    | tx t => simp only [holdsK, Bool.and_eq_true] at h1 h2; rw [h2.1] at h1; cases h1.1
    | pr t => simp only [holdsK, Bool.and_eq_true] at h1 h2; rw [h2.1] at h1; cases h1.1
  | tx p => cases b with
    | rg r s => simp only [holdsK, Bool.and_eq_true] at h1 h2; rw [h1.1] at h2; cases h2.1
    | tx t =>
      simp only [holdsK, Bool.and_eq_true, beq_iff_eq] at h1 h2
      simp only [bothK] at h
      rw [if_pos (h1.2.symm.trans h2.2)] at h
      cases h
    | pr t =>
      simp only [holdsK, Bool.and_eq_true, beq_iff_eq] at h1 h2
      simp only [bothK] at h
      rw [if_pos (by rw [pfx_iff, ← h1.2, ← pfx_iff]; exact h2.2)] at h
      cases h
  | pr p => cases b with
    | rg r s => simp only [holdsK, Bool.and_eq_true] at h1 h2; rw [h1.1] at h2; cases h2.1
    | tx t =>
      simp only [holdsK, Bool.and_eq_true, beq_iff_eq] at h1 h2
      simp only [bothK] at h
      rw [if_pos (by rw [pfx_iff, ← h2.2, ← pfx_iff]; exact h1.2)] at h
      cases h
    | pr t =>
      simp only [holdsK, Bool.and_eq_true] at h1 h2
      have e1 := (pfx_iff _ _).1 h1.2
      have e2 := (pfx_iff _ _).1 h2.2
      simp only [bothK] at h
      rcases Nat.le_total p.data.toList.length t.data.toList.length with hl | hl
      · rw [if_pos ((pfx_iff _ _).2 (List.prefix_of_prefix_length_le e1 e2 hl))] at h
        cases h
      · by_cases hp : pfx p t = true
        · rw [if_pos hp] at h; cases h
        · rw [if_neg hp, if_pos ((pfx_iff _ _).2 (List.prefix_of_prefix_length_le e2 e1 hl))] at h
          cases h
/-- What is good holds somewhere. -/
theorem some_holds (a : Kd) (h : goodK a = true) : ∃ v, holdsK a v = true := by
  cases a with
  | rg lo hi =>
    simp only [goodK, decide_eq_true_eq] at h
    exact ⟨(false, lo, ⟨#[]⟩), by simp [holdsK, h]⟩
  | tx t => exact ⟨(true, 0, t), by simp [holdsK]⟩
  | pr t => exact ⟨(true, 0, t), by simp only [holdsK, Bool.true_and]; exact pfx_self t⟩
theorem hold_pr (t s : ByteArray) : holdsK (.pr t) (true, 0, s) = pfx t s := by simp only [holdsK, Bool.true_and]
theorem hold_tx (t s : ByteArray) : holdsK (.tx t) (true, 0, s) = (s.data.toList == t.data.toList) := by simp only [holdsK, Bool.true_and]
theorem hold_rg (a b : Int) (s : ByteArray) : holdsK (.rg a b) (true, 0, s) = false := by simp only [holdsK, Bool.not_true, Bool.false_and]
theorem hold_n (a b n : Int) : holdsK (.rg a b) (false, n, ⟨#[]⟩) = (decide (a ≤ n) && decide (n ≤ b)) := by simp only [holdsK, Bool.not_false, Bool.true_and]
def more (t : ByteArray) : ByteArray := ⟨(t.data.toList ++ [0]).toArray⟩
theorem pfx_more (t : ByteArray) : pfx t (more t) = true := (pfx_iff _ _).2 (List.prefix_append _ _)
theorem not_tx_pr (p t : ByteArray) (h : ∀ v, holdsK (.tx p) v = holdsK (.pr t) v) : False := by
  have h1 := h (true, 0, more t)
  have h2 := h (true, 0, t)
  rw [hold_tx, hold_pr, pfx_more, beq_iff_eq] at h1
  rw [hold_tx, hold_pr, pfx_self, beq_iff_eq] at h2
  rw [← h2] at h1
  have h3 := congrArg List.length h1
  simp [more] at h3
/-- What holds at the same values is the same. -/
theorem same_holds (a b : Kd) (ha : goodK a = true) (hb : goodK b = true) (h : ∀ v, holdsK a v = holdsK b v) : a = b := by
  cases a with
  | rg p q => cases b with
    | rg r s =>
      simp only [goodK, decide_eq_true_eq] at ha hb
      have le : ∀ n, (p ≤ n ∧ n ≤ q) ↔ (r ≤ n ∧ n ≤ s) := fun n => by
        have h1 := h (false, n, ⟨#[]⟩)
        rw [hold_n, hold_n, Bool.eq_iff_iff, Bool.and_eq_true, Bool.and_eq_true, decide_eq_true_eq, decide_eq_true_eq, decide_eq_true_eq, decide_eq_true_eq] at h1
        exact h1
      have h1 := (le p).1 ⟨Int.le_refl _, ha⟩
      have h2 := (le q).1 ⟨ha, Int.le_refl _⟩
      have h3 := (le r).2 ⟨Int.le_refl _, hb⟩
      have h4 := (le s).2 ⟨hb, Int.le_refl _⟩
      rw [show p = r by omega, show q = s by omega]
    | tx t => have h1 := h (true, 0, t); rw [hold_rg, hold_tx, beq_self_eq_true] at h1; cases h1
    | pr t => have h1 := h (true, 0, t); rw [hold_rg, hold_pr, pfx_self] at h1; cases h1
  | tx p => cases b with
    | rg r s => have h1 := h (true, 0, p); rw [hold_rg, hold_tx, beq_self_eq_true] at h1; cases h1
    | tx t =>
      have h1 := h (true, 0, p)
      rw [hold_tx, hold_tx, beq_self_eq_true] at h1
      rw [bytes_eq (beq_iff_eq.1 h1.symm)]
    | pr t => exact (not_tx_pr p t h).elim
  | pr p => cases b with
    | rg r s => have h1 := h (true, 0, p); rw [hold_rg, hold_pr, pfx_self] at h1; cases h1
    | tx t => exact (not_tx_pr t p fun v => (h v).symm).elim
    | pr t =>
      have h1 := h (true, 0, p)
      have h2 := h (true, 0, t)
      rw [hold_pr, hold_pr, pfx_self] at h1 h2
      have e1 := (pfx_iff _ _).1 h1.symm
      have e2 := (pfx_iff _ _).1 h2
      rw [bytes_eq (e2.eq_of_length_le e1.length_le)]
/-- All of them in one. -/
def allK : Kd → List Kd → Option Kd
  | a, [] => some a
  | a, b :: r => match bothK a b with
    | some c => allK c r
    | none => none
theorem all_some : ∀ (l : List Kd) (a c : Kd), goodK a = true → (∀ b ∈ l, goodK b = true) → allK a l = some c → goodK c = true ∧ ∀ v, holdsK c v = (holdsK a v && l.all fun b => holdsK b v)
  | [], a, c, ha, _, h => by
    obtain rfl := Option.some.inj h
    exact ⟨ha, fun v => by simp⟩
  | b :: r, a, c, ha, hl, h => by
    simp only [allK] at h
    cases hb : bothK a b with
    | none => rw [hb] at h; cases h
    | some d =>
      rw [hb] at h
      obtain ⟨d1, d2⟩ := both_some a b d ha (hl b (List.mem_cons_self ..)) hb
      obtain ⟨c1, c2⟩ := all_some r d c d1 (fun x hx => hl x (List.mem_cons_of_mem _ hx)) h
      exact ⟨c1, fun v => by rw [c2, d2, List.all_cons, Bool.and_assoc]⟩
theorem all_none : ∀ (l : List Kd) (a : Kd), goodK a = true → (∀ b ∈ l, goodK b = true) → allK a l = none → ∀ v, (holdsK a v && l.all fun b => holdsK b v) = false
  | [], a, _, _, h, v => by cases h
  | b :: r, a, ha, hl, h, v => by
    simp only [allK] at h
    cases hb : bothK a b with
    | none => rw [List.all_cons, ← Bool.and_assoc, both_none a b hb v, Bool.false_and]
    | some d =>
      rw [hb] at h
      obtain ⟨d1, d2⟩ := both_some a b d ha (hl b (List.mem_cons_self ..)) hb
      rw [List.all_cons, ← Bool.and_assoc, ← d2]
      exact all_none r d d1 (fun x hx => hl x (List.mem_cons_of_mem _ hx)) h v
/-- In any order the same, or none. -/
theorem all_perm (a b : Kd) (l m : List Kd) (ha : goodK a = true) (hb : goodK b = true) (hl : ∀ x ∈ l, goodK x = true) (hm : ∀ x ∈ m, goodK x = true) (hp : (a :: l).Perm (b :: m)) : allK a l = allK b m := by
  have e : ∀ v, (holdsK a v && l.all fun x => holdsK x v) = (holdsK b v && m.all fun x => holdsK x v) := fun v => by
    have h : ((a :: l).all fun x => holdsK x v) = ((b :: m).all fun x => holdsK x v) := hp.all_eq
    simpa using h
  cases h1 : allK a l with
  | none => cases h2 : allK b m with
    | none => rfl
    | some d =>
      obtain ⟨d1, d2⟩ := all_some m b d hb hm h2
      obtain ⟨v, hv⟩ := some_holds d d1
      rw [d2, ← e, all_none l a ha hl h1 v] at hv
      cases hv
  | some c =>
    obtain ⟨c1, c2⟩ := all_some l a c ha hl h1
    cases h2 : allK b m with
    | none =>
      obtain ⟨v, hv⟩ := some_holds c c1
      rw [c2, e, all_none m b hb hm h2 v] at hv
      cases hv
    | some d =>
      obtain ⟨d1, d2⟩ := all_some m b d hb hm h2
      rw [same_holds c d c1 d1 (fun v => by rw [c2, d2, e])]

/-! ### normal forms -/
def RiseC (l : List Cn) : Prop := l.Pairwise fun x y => Op.bytesLess x.1.toList y.1.toList = true
/-- One constraint more, in its place. -/
def insC : List Cn → Cn → Option (List Cn)
  | [], c => some [c]
  | x :: r, c => if Op.bytesLess x.1.toList c.1.toList = true then (insC r c).map (x :: ·) else if x.1 = c.1 then (bothK x.2 c.2).map (fun k => (x.1, k) :: r) else some (c :: x :: r)
/-- The normal form of a list's rest, where so many are done and m is what they made; or what is wrong, and where. -/
def foldC : Nat → List Cn → List Cn → Except (Int × Nat) (List Cn)
  | _, m, [] => .ok m
  | at_, m, c :: r => match insC m c with
    | none => .error (5, at_)
    | some m' => if 5 < m'.length then .error (7, at_) else foldC (at_ + 1) m' r
def makeC (l : List Cn) : Except (Int × Nat) (List Cn) := foldC 0 [] l
theorem ins_end : ∀ (m : List Cn) (c : Cn), (∀ x ∈ m, Op.bytesLess x.1.toList c.1.toList = true) → insC m c = some (m ++ [c])
  | [], c, _ => rfl
  | x :: r, c, h => by
    simp only [insC]
    rw [if_pos (h x (List.mem_cons_self ..)), ins_end r c (fun y hy => h y (List.mem_cons_of_mem _ hy))]
    rfl
theorem fold_end : ∀ (p m : List Cn) (at_ : Nat), RiseC (m ++ p) → (m ++ p).length ≤ 5 → foldC at_ m p = .ok (m ++ p)
  | [], m, at_, _, _ => by simp [foldC]
  | c :: r, m, at_, h, h5 => by
    have h1 : ∀ x ∈ m, Op.bytesLess x.1.toList c.1.toList = true := fun x hx => (List.pairwise_append.1 h).2.2 x hx c (List.mem_cons_self ..)
    simp only [foldC]
    rw [ins_end m c h1]
    simp only
    rw [if_neg (by simp at h5 ⊢; omega), fold_end r (m ++ [c]) (at_ + 1) (by simpa using h) (by simpa using h5)]
    simp
/-- A normal form is its own. -/
theorem make_self (p : List Cn) (h : RiseC p) (h5 : p.length ≤ 5) : makeC p = .ok p := by
  have := fold_end p [] 0 (by simpa using h) (by simpa using h5)
  simpa [makeC] using this
theorem fold_append : ∀ (a b m m' : List Cn) (at_ : Nat), foldC at_ m a = .ok m' → foldC at_ m (a ++ b) = foldC (at_ + a.length) m' b
  | [], b, m, m', at_, h => by
    simp only [foldC] at h
    injection h with h
    subst h
    simp
  | c :: r, b, m, m', at_, h => by
    simp only [List.cons_append, foldC] at h ⊢
    cases hi : insC m c with
    | none => rw [hi] at h; cases h
    | some n =>
      rw [hi] at h
      simp only at h ⊢
      split at h
      · cases h
      · rename_i hn
        rw [if_neg hn, fold_append r b n m' (at_ + 1) h]
        rw [List.length_cons, show at_ + 1 + r.length = at_ + (r.length + 1) by omega]
theorem ins_new : ∀ (m : List Cn) (c : Cn), (∀ x ∈ m, x.1 ≠ c.1) → ∃ m', insC m c = some m' ∧ m'.Perm (c :: m)
  | [], c, _ => ⟨_, rfl, .refl _⟩
  | x :: r, c, h => by
    simp only [insC]
    by_cases hl : Op.bytesLess x.1.toList c.1.toList = true
    · rw [if_pos hl]
      obtain ⟨m', h1, h2⟩ := ins_new r c (fun y hy => h y (List.mem_cons_of_mem _ hy))
      exact ⟨x :: m', by rw [h1]; rfl, (h2.cons x).trans (List.Perm.swap c x r)⟩
    · rw [if_neg hl, if_neg (h x (List.mem_cons_self ..))]
      exact ⟨_, rfl, .refl _⟩
theorem ins_rise : ∀ (m : List Cn) (c : Cn) (m' : List Cn), RiseC m → insC m c = some m' → RiseC m' ∧ ∀ y ∈ m', y.1 = c.1 ∨ ∃ x ∈ m, x.1 = y.1
  | [], c, m', _, h => by
    obtain rfl := Option.some.inj h
    exact ⟨List.pairwise_singleton _ _, fun y hy => Or.inl (by simp at hy; rw [hy])⟩
  | x :: r, c, m', hr, h => by
    obtain ⟨h1, h2⟩ := List.pairwise_cons.1 hr
    simp only [insC] at h
    split at h
    · rename_i hl
      cases hi : insC r c with
      | none => rw [hi] at h; cases h
      | some n =>
        rw [hi] at h
        obtain rfl := Option.some.inj h
        obtain ⟨k1, k2⟩ := ins_rise r c n h2 hi
        refine ⟨List.pairwise_cons.2 ⟨fun y hy => ?_, k1⟩, fun y hy => ?_⟩
        · rcases k2 y hy with e | ⟨z, hz, e⟩
          · rw [e]; exact hl
          · rw [← e]; exact h1 z hz
        · rcases List.mem_cons.1 hy with rfl | hy
          · exact Or.inr ⟨y, List.mem_cons_self .., rfl⟩
          · rcases k2 y hy with e | ⟨z, hz, e⟩
            · exact Or.inl e
            · exact Or.inr ⟨z, List.mem_cons_of_mem _ hz, e⟩
    · rename_i hl
      split at h
      · rename_i he
        cases hb : bothK x.2 c.2 with
        | none => rw [hb] at h; cases h
        | some k =>
          rw [hb] at h
          obtain rfl := Option.some.inj h
          refine ⟨List.pairwise_cons.2 ⟨fun y hy => h1 y hy, h2⟩, fun y hy => ?_⟩
          rcases List.mem_cons.1 hy with rfl | hy
          · exact Or.inl he
          · exact Or.inr ⟨y, List.mem_cons_of_mem _ hy, rfl⟩
      · rename_i he
        obtain rfl := Option.some.inj h
        have hc : Op.bytesLess c.1.toList x.1.toList = true := less_or hl he
        refine ⟨List.pairwise_cons.2 ⟨fun y hy => ?_, hr⟩, fun y hy => ?_⟩
        · rcases List.mem_cons.1 hy with rfl | hy
          · exact hc
          · exact VaP.bl_trans _ _ _ hc (h1 y hy)
        · rcases List.mem_cons.1 hy with rfl | hy
          · exact Or.inl rfl
          · exact Or.inr ⟨y, hy, rfl⟩
theorem fold_perm : ∀ (l m : List Cn) (at_ : Nat), RiseC m → ((l ++ m).map (·.1)).Nodup → (l ++ m).length ≤ 5 → ∃ m', foldC at_ m l = .ok m' ∧ RiseC m' ∧ m'.Perm (l ++ m)
  | [], m, at_, h, _, _ => ⟨m, rfl, h, .refl _⟩
  | c :: r, m, at_, h, hn, h5 => by
    simp only [List.cons_append, List.map_cons, List.nodup_cons] at hn
    have hc : ∀ x ∈ m, x.1 ≠ c.1 := fun x hx e => hn.1 (by rw [← e]; exact List.mem_map_of_mem (List.mem_append_right _ hx))
    obtain ⟨n, n1, n2⟩ := ins_new m c hc
    have n3 := (ins_rise m c n h n1).1
    have hp : (r ++ n).Perm (c :: (r ++ m)) := (n2.append_left r).trans List.perm_middle
    obtain ⟨m', k1, k2, k3⟩ := fold_perm r n (at_ + 1) n3 (((hp.map (·.1)).nodup_iff).2 (by simp only [List.map_cons, List.nodup_cons]; exact hn)) (by rw [hp.length_eq]; simpa using h5)
    refine ⟨m', ?_, k2, k3.trans hp⟩
    simp only [foldC]
    rw [n1]
    simp only
    rw [if_neg (by rw [n2.length_eq]; simp at h5 ⊢; omega), k1]
theorem riseC_nodup : ∀ {l : List Cn}, RiseC l → (l.map (·.1)).Nodup
  | [], _ => by simp
  | x :: r, h => by
    obtain ⟨h1, h2⟩ := List.pairwise_cons.1 h
    simp only [List.map_cons, List.nodup_cons]
    refine ⟨fun hm => ?_, riseC_nodup h2⟩
    obtain ⟨y, hy, e⟩ := List.mem_map.1 hm
    exact less_ne (h1 y hy) e.symm
theorem riseC_eq : ∀ {l m : List Cn}, RiseC l → RiseC m → l.Perm m → l = m
  | [], m, _, _, hp => hp.nil_eq
  | x :: r, [], _, _, hp => by have := hp.length_eq; simp at this
  | x :: r, y :: s, hl, hm, hp => by
    obtain ⟨l1, l2⟩ := List.pairwise_cons.1 hl
    obtain ⟨m1, m2⟩ := List.pairwise_cons.1 hm
    have hx := hp.mem_iff.1 (List.mem_cons_self (a := x) (l := r))
    have hy := hp.mem_iff.2 (List.mem_cons_self (a := y) (l := s))
    have e : x = y := by
      rcases List.mem_cons.1 hx with e | hx
      · exact e
      · rcases List.mem_cons.1 hy with e | hy
        · exact e.symm
        · have a := m1 x hx
          rw [VaP.bl_asymm _ _ (l1 y hy)] at a
          cases a
    subst e
    rw [riseC_eq l2 m2 ((List.perm_cons x).1 hp)]
/-- Constraints of unlike names, in any order, have the same normal form. -/
theorem make_perm {p l : List Cn} (h : RiseC p) (h5 : p.length ≤ 5) (hp : l.Perm p) : makeC l = .ok p := by
  obtain ⟨m, h1, h2, h3⟩ := fold_perm l [] 0 List.Pairwise.nil (by rw [List.append_nil]; exact ((hp.map (·.1)).nodup_iff).2 (riseC_nodup h)) (by rw [List.append_nil, hp.length_eq]; exact h5)
  rw [List.append_nil] at h3
  rw [makeC, h1, riseC_eq h2 h (h3.trans hp)]
theorem ins_self : ∀ (m : List Cn) (c : Cn), RiseC m → c ∈ m → goodK c.2 = true → insC m c = some m
  | x :: r, c, h, hc, hg => by
    obtain ⟨h1, h2⟩ := List.pairwise_cons.1 h
    simp only [insC]
    rcases List.mem_cons.1 hc with rfl | hc
    · rw [if_neg (by rw [VaP.bl_irrefl]; decide), if_pos rfl, both_self _ hg]
      rfl
    · rw [if_pos (h1 c hc), ins_self r c h2 hc hg]
      rfl
theorem fold_self : ∀ (l m : List Cn) (at_ : Nat), RiseC m → m.length ≤ 5 → (∀ c ∈ l, c ∈ m ∧ goodK c.2 = true) → foldC at_ m l = .ok m
  | [], m, at_, _, _, _ => rfl
  | c :: r, m, at_, h, h5, hl => by
    have hc := hl c (List.mem_cons_self ..)
    simp only [foldC]
    rw [ins_self m c h hc.1 hc.2]
    simp only
    rw [if_neg (by omega), fold_self r m (at_ + 1) h h5 (fun x hx => hl x (List.mem_cons_of_mem _ hx))]
/-- Told twice it is the same. -/
theorem make_twice {p : List Cn} (h : RiseC p) (h5 : p.length ≤ 5) (hg : ∀ c ∈ p, goodK c.2 = true) : makeC (p ++ p) = .ok p := by
  have e := make_self p h h5
  rw [makeC] at e
  rw [makeC, fold_append p p [] p 0 e, fold_self p p _ h h5 (fun c hc => ⟨hc, hg c hc⟩)]
/-- Constraints of one name. -/
theorem fold_one (n : ByteArray) : ∀ (l : List Kd) (a : Kd) (at_ : Nat), foldC at_ [(n, a)] (l.map fun k => (n, k)) = (match allK a l with | some c => .ok [(n, c)] | none => (foldC at_ [(n, a)] (l.map fun k => (n, k)))) ∧ (allK a l = none → ∃ i, foldC at_ [(n, a)] (l.map fun k => (n, k)) = .error (5, i))
  | [], a, at_ => ⟨rfl, fun h => by cases h⟩
  | b :: r, a, at_ => by
    have e : foldC at_ [(n, a)] ((b :: r).map fun k => (n, k)) = (match bothK a b with | some c => foldC (at_ + 1) [(n, c)] (r.map fun k => (n, k)) | none => .error (5, at_)) := by
      simp only [List.map_cons, foldC, insC]
      rw [if_neg (by rw [VaP.bl_irrefl]; decide), if_true]
      cases bothK a b <;> rfl
    rw [e]
    simp only [allK]
    cases bothK a b with
    | none => exact ⟨rfl, fun _ => ⟨at_, rfl⟩⟩
    | some c => exact fold_one n r c (at_ + 1)
theorem make_one (n : ByteArray) (a : Kd) (l : List Kd) : (∀ c, allK a l = some c → makeC ((n, a) :: l.map fun k => (n, k)) = .ok [(n, c)]) ∧ (allK a l = none → ∃ i, makeC ((n, a) :: l.map fun k => (n, k)) = .error (5, i)) := by
  have e : makeC ((n, a) :: l.map fun k => (n, k)) = foldC 1 [(n, a)] (l.map fun k => (n, k)) := rfl
  rw [e]
  obtain ⟨h1, h2⟩ := fold_one n l a 1
  exact ⟨fun c hc => by rw [h1, hc], h2⟩

/-! ### what they say -/
def sayK (c : Cn) : List UInt8 := c.1.data.toList ++ (match c.2 with
  | .rg lo hi => 58 :: (Lib.itoa lo ++ (46 :: 46 :: Lib.itoa hi))
  | .tx t => 61 :: VaP.say true 0 t.data.toList
  | .pr t => 94 :: VaP.say true 0 t.data.toList)
def sayC : List Cn → List UInt8
  | [] => []
  | [x] => sayK x
  | x :: y :: r => sayK x ++ [44] ++ sayC (y :: r)
theorem sayK_inj (x y : Cn) (r1 r2 : List UInt8) (hx : x.1.data.toList.all letB = true) (hy : y.1.data.toList.all letB = true) (k1 : Tail r1) (k2 : Tail r2) (h : sayK x ++ r1 = sayK y ++ r2) : x = y ∧ r1 = r2 := by
  obtain ⟨a, x⟩ := x
  obtain ⟨b, y⟩ := y
  have l1 : ∀ c ∈ a.data.toList, letB c = true := fun c hc => List.all_eq_true.1 hx c hc
  have l2 : ∀ c ∈ b.data.toList, letB c = true := fun c hc => List.all_eq_true.1 hy c hc
  have nd : ∀ r, Tail r → ∀ c t, r = c :: t → digB c = false := fun r hr c t e => by rw [hr c t e]; rfl
  cases x <;> cases y <;> simp only [sayK, List.append_assoc, List.cons_append] at h <;>
    obtain ⟨e1, e2⟩ := run_inj (p := letB) _ _ _ _ l1 l2 (fun c t e => by simp only [List.cons.injEq] at e; rw [← e.1]; decide) (fun c t e => by simp only [List.cons.injEq] at e; rw [← e.1]; decide) h <;>
    have e3 := bytes_eq e1 <;> subst e3 <;> simp only [List.cons.injEq, true_and, VaP.say, if_true, List.cons_append, List.append_assoc, List.nil_append] at e2 <;> try (exact absurd e2.1 (by decide))
  · obtain ⟨e4, e5⟩ := run_inj (p := digB) _ _ _ _ (dig_itoa _) (dig_itoa _) (fun c t e => by simp only [List.cons.injEq] at e; rw [← e.1]; decide) (fun c t e => by simp only [List.cons.injEq] at e; rw [← e.1]; decide) e2
    simp only [List.cons.injEq, true_and] at e5
    obtain ⟨e6, e7⟩ := run_inj (p := digB) _ _ _ _ (dig_itoa _) (dig_itoa _) (nd r1 k1) (nd r2 k2) e5
    rw [VaP.itoa_inj _ _ e4, VaP.itoa_inj _ _ e6]
    exact ⟨rfl, e7⟩
  · obtain ⟨e4, e5⟩ := esc_inj2 _ _ _ _ e2
    rw [bytes_eq e4]
    exact ⟨rfl, e5⟩
  · obtain ⟨e4, e5⟩ := esc_inj2 _ _ _ _ e2
    rw [bytes_eq e4]
    exact ⟨rfl, e5⟩
theorem sayK_ne (x : Cn) : sayK x ≠ [] := by
  obtain ⟨a, k⟩ := x
  cases k <;> simp [sayK]
theorem sayC_cons (x : Cn) (r : List Cn) : sayC (x :: r) = sayK x ++ (if r = [] then [] else 44 :: sayC r) := by
  cases r with
  | nil => simp [sayC]
  | cons y r => simp [sayC]
theorem tailC_if (r : List Cn) : Tail (if r = [] then [] else 44 :: sayC r) := by
  intro c t h
  split at h
  · cases h
  · simp only [List.cons.injEq] at h; exact h.1.symm
/-- Predicates that say the same are the same. -/
theorem sayC_inj : ∀ l m : List Cn, (∀ x ∈ l, x.1.data.toList.all letB = true) → (∀ x ∈ m, x.1.data.toList.all letB = true) → sayC l = sayC m → l = m
  | [], [], _, _, _ => rfl
  | [], y :: m, _, _, h => by rw [sayC_cons] at h; exact absurd (List.append_eq_nil_iff.1 h.symm).1 (sayK_ne y)
  | x :: l, [], _, _, h => by rw [sayC_cons] at h; exact absurd (List.append_eq_nil_iff.1 h).1 (sayK_ne x)
  | x :: l, y :: m, hl, hm, h => by
    rw [sayC_cons, sayC_cons] at h
    obtain ⟨e1, e2⟩ := sayK_inj x y _ _ (hl x (List.mem_cons_self ..)) (hm y (List.mem_cons_self ..)) (tailC_if l) (tailC_if m) h
    have fl := fun z hz => hl z (List.mem_cons_of_mem _ hz)
    have fm := fun z hz => hm z (List.mem_cons_of_mem _ hz)
    rw [e1]
    by_cases h1 : l = [] <;> by_cases h2 : m = []
    · rw [h1, h2]
    · simp [h1, h2] at e2
    · simp [h1, h2] at e2
    · simp only [h1, h2, if_false, List.cons.injEq, true_and] at e2
      rw [sayC_inj l m fl fm e2]
end Go.Proofs.Ytdomincmoaahoaa.Pr

namespace Go.Proofs.Ytdomincmoaahoaa.Rl
open Go.RowKit Go.Proofs.Ytdomincmoaahoaa Go.Proofs.Ytdomincmoaahoaa.Pu Go.Proofs.Ytdomincmoaahoaa.Pr

/-- A publication: names and values. -/
abbrev An := ByteArray × V3
def names (m : List Cn) : List ByteArray := m.map (·.1)
def has (m : List Cn) (n : ByteArray) : Bool := m.any fun x => decide (x.1 = n)
theorem has_iff (m : List Cn) (n : ByteArray) : has m n = true ↔ n ∈ names m := by
  simp only [has, names, List.any_eq_true, decide_eq_true_eq, List.mem_map]
/-- How many of the one's names are new to the other. -/
def fresh (m r : List Cn) : Nat := r.countP fun y => !has m y.1
/-- No name at which nothing is left. -/
def Clear (m r : List Cn) : Prop := ∀ x ∈ m, ∀ y ∈ r, x.1 = y.1 → bothK x.2 y.2 ≠ none
def Meets (m r : List Cn) : Prop := Clear m r ∧ m.length + fresh m r ≤ 5
def meetsB (a b : List Cn) : Bool := match foldC a.length a b with
  | .ok _ => true
  | .error _ => false

theorem rise_head {c : Cn} {r : List Cn} (h : RiseC (c :: r)) : ∀ y ∈ r, y.1 ≠ c.1 := fun y hy e => less_ne ((List.pairwise_cons.1 h).1 y hy) e.symm
theorem ins_length : ∀ (m : List Cn) (c : Cn) (m' : List Cn), RiseC m → insC m c = some m' → m'.length = m.length + (if has m c.1 then 0 else 1)
  | [], c, m', _, h => by
    obtain rfl := Option.some.inj h
    rfl
  | x :: r, c, m', hr, h => by
    obtain ⟨h1, h2⟩ := List.pairwise_cons.1 hr
    simp only [insC] at h
    split at h
    · rename_i hl
      cases hi : insC r c with
      | none => rw [hi] at h; cases h
      | some n =>
        rw [hi] at h
        obtain rfl := Option.some.inj h
        have e := ins_length r c n h2 hi
        have hx : has (x :: r) c.1 = has r c.1 := by simp [has, less_ne hl]
        rw [hx]
        simp only [List.length_cons]
        omega
    · rename_i hl
      split at h
      · rename_i he
        cases hb : bothK x.2 c.2 with
        | none => rw [hb] at h; cases h
        | some k =>
          rw [hb] at h
          obtain rfl := Option.some.inj h
          have hx : has (x :: r) c.1 = true := by simp [has, he]
          rw [hx]
          rfl
      · rename_i he
        obtain rfl := Option.some.inj h
        have hx : has (x :: r) c.1 = false := by
          simp only [has, List.any_cons, Bool.or_eq_false_iff, decide_eq_false_iff_not, List.any_eq_false, decide_eq_true_eq]
          refine ⟨he, fun y hy e => ?_⟩
          have h3 := h1 y hy
          rw [e] at h3
          exact hl h3
        rw [hx]
        rfl
/-- What stands there behind an insertion: what stood there, but at the inserted name. -/
theorem ins_mem : ∀ (m : List Cn) (c : Cn) (m' : List Cn), RiseC m → insC m c = some m' → (∀ x, x.1 ≠ c.1 → (x ∈ m' ↔ x ∈ m)) ∧ (∀ n, n ∈ names m' ↔ n = c.1 ∨ n ∈ names m)
  | [], c, m', _, h => by
    obtain rfl := Option.some.inj h
    exact ⟨fun x hx => by simp; intro e; exact hx (by rw [e]), fun n => by simp [names]⟩
  | x :: r, c, m', hr, h => by
    obtain ⟨h1, h2⟩ := List.pairwise_cons.1 hr
    simp only [insC] at h
    split at h
    · cases hi : insC r c with
      | none => rw [hi] at h; cases h
      | some n =>
        rw [hi] at h
        obtain rfl := Option.some.inj h
        obtain ⟨e1, e2⟩ := ins_mem r c n h2 hi
        refine ⟨fun y hy => by rw [List.mem_cons, List.mem_cons, e1 y hy], fun k => ?_⟩
        have := e2 k
        simp only [names, List.map_cons, List.mem_cons] at this ⊢
        rw [this]
        constructor
        · rintro (h | h | h)
          · exact Or.inr (Or.inl h)
          · exact Or.inl h
          · exact Or.inr (Or.inr h)
        · rintro (h | h | h)
          · exact Or.inr (Or.inl h)
          · exact Or.inl h
          · exact Or.inr (Or.inr h)
    · split at h
      · rename_i he
        cases hb : bothK x.2 c.2 with
        | none => rw [hb] at h; cases h
        | some k =>
          rw [hb] at h
          obtain rfl := Option.some.inj h
          refine ⟨fun y hy => ?_, fun n => ?_⟩
          · simp only [List.mem_cons]
            constructor
            · rintro (h | h)
              · exact absurd (by rw [h]; exact he) hy
              · exact Or.inr h
            · rintro (h | h)
              · exact absurd (by rw [h]; exact he) hy
              · exact Or.inr h
          · simp only [names, List.map_cons, List.mem_cons, he]
            constructor
            · rintro (h | h)
              · exact Or.inl h
              · exact Or.inr (Or.inr h)
            · rintro (h | h | h)
              · exact Or.inl h
              · exact Or.inl h
              · exact Or.inr h
      · obtain rfl := Option.some.inj h
        refine ⟨fun y hy => ?_, fun n => ?_⟩
        · simp only [List.mem_cons]
          constructor
          · rintro (h | h)
            · exact absurd (by rw [h]) hy
            · exact h
          · exact Or.inr
        · simp only [names, List.map_cons, List.mem_cons]
theorem ins_none : ∀ (m : List Cn) (c : Cn), RiseC m → (insC m c = none ↔ ∃ x ∈ m, x.1 = c.1 ∧ bothK x.2 c.2 = none)
  | [], c, _ => by simp [insC]
  | x :: r, c, hr => by
    obtain ⟨h1, h2⟩ := List.pairwise_cons.1 hr
    have e := ins_none r c h2
    simp only [insC]
    split
    · rename_i hl
      rw [Option.map_eq_none_iff, e]
      constructor
      · rintro ⟨y, hy, h3⟩
        exact ⟨y, List.mem_cons_of_mem _ hy, h3⟩
      · rintro ⟨y, hy, h3⟩
        rcases List.mem_cons.1 hy with rfl | hy
        · exact absurd h3.1 (less_ne hl)
        · exact ⟨y, hy, h3⟩
    · rename_i hl
      split
      · rename_i he
        rw [Option.map_eq_none_iff]
        constructor
        · intro h
          exact ⟨x, List.mem_cons_self .., he, h⟩
        · rintro ⟨y, hy, h3, h4⟩
          rcases List.mem_cons.1 hy with rfl | hy
          · exact h4
          · have h5 := h1 y hy
            rw [he, h3, VaP.bl_irrefl] at h5
            cases h5
      · rename_i he
        constructor
        · intro h; cases h
        · rintro ⟨y, hy, h3, h4⟩
          rcases List.mem_cons.1 hy with rfl | hy
          · exact absurd h3 he
          · have h5 := h1 y hy
            rw [h3] at h5
            exact absurd h5 hl
theorem fresh_ins {m m' r : List Cn} {c : Cn} (hm : ∀ n, n ∈ names m' ↔ n = c.1 ∨ n ∈ names m) (hr : ∀ y ∈ r, y.1 ≠ c.1) : fresh m' r = fresh m r := by
  unfold fresh
  refine List.countP_congr fun y hy => ?_
  have h1 : has m' y.1 = has m y.1 := by
    rw [Bool.eq_iff_iff, has_iff, has_iff, hm]
    constructor
    · rintro (h | h)
      · exact absurd h (hr y hy)
      · exact h
    · exact Or.inr
  rw [h1]
theorem clear_ins {m m' r : List Cn} {c : Cn} (hm : ∀ x, x.1 ≠ c.1 → (x ∈ m' ↔ x ∈ m)) (hr : ∀ y ∈ r, y.1 ≠ c.1) : Clear m' r ↔ Clear m r := by
  constructor
  · intro h x hx y hy e
    exact h x ((hm x (by rw [e]; exact hr y hy)).2 hx) y hy e
  · intro h x hx y hy e
    exact h x ((hm x (by rw [e]; exact hr y hy)).1 hx) y hy e
/-- The normal form of both can be made just where they meet. -/
theorem fold_meets : ∀ (r m : List Cn) (at_ : Nat), RiseC m → RiseC r → m.length ≤ 5 → ((∃ p, foldC at_ m r = .ok p) ↔ Meets m r)
  | [], m, at_, _, _, h5 => by
    simp only [foldC]
    exact ⟨fun _ => ⟨fun x _ y hy => by simp at hy, by simpa [fresh] using h5⟩, fun _ => ⟨m, rfl⟩⟩
  | c :: r, m, at_, hm, hr, h5 => by
    have hh := rise_head hr
    have hr2 := (List.pairwise_cons.1 hr).2
    simp only [foldC]
    cases hi : insC m c with
    | none =>
      obtain ⟨x, hx, e1, e2⟩ := (ins_none m c hm).1 hi
      constructor
      · rintro ⟨p, hp⟩; cases hp
      · intro h
        exact absurd e2 (h.1 x hx c (List.mem_cons_self ..) e1)
    | some m' =>
      have e1 := ins_length m c m' hm hi
      obtain ⟨e2, e3⟩ := ins_mem m c m' hm hi
      have e4 := (ins_rise m c m' hm hi).1
      have e5 : fresh m (c :: r) = fresh m r + (if has m c.1 then 0 else 1) := by
        unfold fresh
        rw [List.countP_cons]
        cases has m c.1 <;> rfl
      have e6 : Clear m (c :: r) ↔ Clear m r := by
        constructor
        · exact fun h x hx y hy => h x hx y (List.mem_cons_of_mem _ hy)
        · intro h x hx y hy e
          rcases List.mem_cons.1 hy with rfl | hy
          · intro hn
            have := (ins_none m y hm).2 ⟨x, hx, e, hn⟩
            rw [hi] at this
            cases this
          · exact h x hx y hy e
      simp only
      by_cases h6 : 5 < m'.length
      · rw [if_pos h6]
        constructor
        · rintro ⟨p, hp⟩; cases hp
        · intro h
          have h7 := h.2
          rw [e5] at h7
          omega
      · rw [if_neg h6, fold_meets r m' (at_ + 1) e4 hr2 (by omega)]
        unfold Meets
        rw [clear_ins e2 hh, fresh_ins e3 hh, e6, e5, e1]
        constructor
        · rintro ⟨h7, h8⟩; exact ⟨h7, by omega⟩
        · rintro ⟨h7, h8⟩; exact ⟨h7, by omega⟩
theorem meetsB_iff {a b : List Cn} (ha : RiseC a) (hb : RiseC b) (h5 : a.length ≤ 5) : meetsB a b = true ↔ Meets a b := by
  rw [← fold_meets b a a.length ha hb h5]
  unfold meetsB
  cases h : foldC a.length a b with
  | ok p => exact ⟨fun _ => ⟨p, rfl⟩, fun _ => rfl⟩
  | error e =>
    refine ⟨fun h => ?_, ?_⟩
    · cases h
    · rintro ⟨p, hp⟩
      cases hp
/-- Where nothing is left, nothing is left the other way round. -/
theorem both_sym (a b : Kd) (ha : goodK a = true) (hb : goodK b = true) : bothK a b = none → bothK b a = none := by
  intro h
  cases h2 : bothK b a with
  | none => rfl
  | some c =>
    obtain ⟨c1, c2⟩ := both_some b a c hb ha h2
    obtain ⟨v, hv⟩ := some_holds c c1
    rw [c2, Bool.and_comm, both_none a b h v] at hv
    cases hv
theorem clear_sym {m r : List Cn} (gm : ∀ c ∈ m, goodK c.2 = true) (gr : ∀ c ∈ r, goodK c.2 = true) (h : Clear m r) : Clear r m :=
  fun x hx y hy e hn => h y hy x hx e.symm (both_sym _ _ (gr x hx) (gm y hy) hn)
/-- A list of unlike things, all of them in another list, is no longer. -/
theorem nodup_len {α : Type} [DecidableEq α] : ∀ (l m : List α), l.Nodup → (∀ x ∈ l, x ∈ m) → l.length ≤ m.length
  | [], m, _, _ => Nat.zero_le _
  | x :: r, m, hn, hs => by
    obtain ⟨h1, h2⟩ := List.nodup_cons.1 hn
    have hx := hs x (List.mem_cons_self ..)
    have h3 := nodup_len r (m.erase x) h2 fun y hy => (List.mem_erase_of_ne (by rintro rfl; exact h1 hy)).2 (hs y (List.mem_cons_of_mem _ hy))
    rw [List.length_erase_of_mem hx] at h3
    have := List.length_pos_of_mem hx
    simp only [List.length_cons]
    omega
/-- The names of both. -/
def union (m r : List Cn) : List ByteArray := names m ++ (names r).filter fun n => !has m n
theorem union_len (m r : List Cn) : (union m r).length = m.length + fresh m r := by
  unfold union fresh names
  rw [List.length_append, List.length_map, List.countP_eq_length_filter, List.filter_map, List.length_map]
  rfl
theorem union_mem (m r : List Cn) (n : ByteArray) : n ∈ union m r ↔ n ∈ names m ∨ n ∈ names r := by
  unfold union
  rw [List.mem_append, List.mem_filter]
  by_cases h : n ∈ names m
  · exact ⟨fun _ => Or.inl h, fun _ => Or.inl h⟩
  · have h2 : has m n = false := by
      cases h3 : has m n
      · rfl
      · exact absurd ((has_iff m n).1 h3) h
    rw [h2]
    simp
theorem union_nodup {m r : List Cn} (hm : RiseC m) (hr : RiseC r) : (union m r).Nodup := by
  unfold union
  rw [List.nodup_append]
  refine ⟨riseC_nodup hm, (riseC_nodup hr).filter _, fun a ha b hb e => ?_⟩
  have h2 := (List.mem_filter.1 hb).2
  rw [← e, (has_iff m a).2 ha] at h2
  cases h2
theorem Meets.symm {m r : List Cn} (hm : RiseC m) (hr : RiseC r) (gm : ∀ c ∈ m, goodK c.2 = true) (gr : ∀ c ∈ r, goodK c.2 = true) (h : Meets m r) : Meets r m := by
  refine ⟨clear_sym gm gr h.1, ?_⟩
  have h2 := h.2
  rw [← union_len] at h2 ⊢
  exact Nat.le_trans (nodup_len _ _ (union_nodup hr hm) fun n hn => (union_mem m r n).2 ((union_mem r m n).1 hn).symm) h2

/-! ### match -/
def matchL (p : List Cn) (l : List An) : Bool := p.all fun c => l.any fun a => decide (a.1 = c.1) && holdsK c.2 a.2
theorem match_iff (p : List Cn) (l : List An) : matchL p l = true ↔ ∀ c ∈ p, ∃ a ∈ l, a.1 = c.1 ∧ holdsK c.2 a.2 = true := by
  simp only [matchL, List.all_eq_true, List.any_eq_true, Bool.and_eq_true, decide_eq_true_eq]
theorem uniq {l : List An} (h : (l.map (·.1)).Nodup) {x y : An} (hx : x ∈ l) (hy : y ∈ l) (e : x.1 = y.1) : x = y := by
  induction l with
  | nil => cases hx
  | cons z r ih =>
    simp only [List.map_cons, List.nodup_cons] at h
    rcases List.mem_cons.1 hx with rfl | hx2 <;> rcases List.mem_cons.1 hy with rfl | hy2
    · rfl
    · exact absurd (by rw [e]; exact List.mem_map_of_mem hy2) h.1
    · exact absurd (by rw [← e]; exact List.mem_map_of_mem hx2) h.1
    · exact ih h.2 hx2 hy2
theorem uniqC {l : List Cn} (h : RiseC l) {x y : Cn} (hx : x ∈ l) (hy : y ∈ l) (e : x.1 = y.1) : x = y := by
  induction l with
  | nil => cases hx
  | cons z r ih =>
    have h1 := rise_head h
    have h2 := (List.pairwise_cons.1 h).2
    rcases List.mem_cons.1 hx with rfl | hx2 <;> rcases List.mem_cons.1 hy with rfl | hy2
    · rfl
    · exact absurd e.symm (h1 y hy2)
    · exact absurd e (h1 x hx2)
    · exact ih h2 hx2 hy2
/-- What matches both shows that they meet. -/
theorem match_meets {a b : List Cn} {l : List An} (ha : RiseC a) (hb : RiseC b) (hl : (l.map (·.1)).Nodup) (h5 : l.length ≤ 5) (h1 : matchL a l = true) (h2 : matchL b l = true) : Meets a b := by
  rw [match_iff] at h1 h2
  refine ⟨fun x hx y hy e hn => ?_, ?_⟩
  · obtain ⟨u, hu, u1, u2⟩ := h1 x hx
    obtain ⟨v, hv, v1, v2⟩ := h2 y hy
    obtain rfl := uniq hl hu hv (by rw [u1, v1, e])
    have := both_none _ _ hn u.2
    rw [u2, v2] at this
    cases this
  · rw [← union_len]
    have h3 := nodup_len (union a b) (l.map (·.1)) (union_nodup ha hb) fun n hn => by
      rcases (union_mem a b n).1 hn with h | h
      · obtain ⟨c, hc, rfl⟩ := List.mem_map.1 h
        obtain ⟨u, hu, u1, _⟩ := h1 c hc
        rw [← u1]
        exact List.mem_map_of_mem hu
      · obtain ⟨c, hc, rfl⟩ := List.mem_map.1 h
        obtain ⟨u, hu, u1, _⟩ := h2 c hc
        rw [← u1]
        exact List.mem_map_of_mem hu
    rw [List.length_map] at h3
    omega

/-! ### cover -/
/-- Does the one hold only where the other does? -/
def impliesK : Kd → Kd → Bool
  | .rg p q, .rg r s => decide (r ≤ p) && decide (q ≤ s)
  | .tx s, .tx t => s.data.toList == t.data.toList
  | .tx s, .pr t => pfx t s
  | .pr s, .pr t => pfx t s
  | _, _ => false
theorem implies_self (k : Kd) : impliesK k k = true := by
  cases k <;> simp [impliesK, pfx_self]
theorem implies_holds (a b : Kd) (h : impliesK a b = true) (v : V3) (hv : holdsK a v = true) : holdsK b v = true := by
  obtain ⟨t, n, u⟩ := v
  cases a <;> cases b <;> simp only [impliesK, Bool.and_eq_true, decide_eq_true_eq, beq_iff_eq] at h <;> simp only [holdsK, Bool.and_eq_true, decide_eq_true_eq, beq_iff_eq] at hv ⊢
  · exact ⟨hv.1, by omega, by omega⟩
  · cases h
  · cases h
  · cases h
  · exact ⟨hv.1, hv.2.trans h⟩
  · exact ⟨hv.1, by rw [pfx_iff, hv.2, ← pfx_iff]; exact h⟩
  · cases h
  · cases h
  · exact ⟨hv.1, (pfx_iff _ _).2 (((pfx_iff _ _).1 h).trans ((pfx_iff _ _).1 hv.2))⟩
/-- .. and the other way round: what holds only where another one does implies it. -/
theorem holds_implies (a b : Kd) (ha : goodK a = true) (h : ∀ v, holdsK a v = true → holdsK b v = true) : impliesK a b = true := by
  cases a with
  | rg p q =>
    simp only [goodK, decide_eq_true_eq] at ha
    have h1 := h (false, p, ⟨#[]⟩) (by rw [hold_n]; simp [ha])
    have h2 := h (false, q, ⟨#[]⟩) (by rw [hold_n]; simp [ha])
    cases b with
    | rg r s =>
      rw [hold_n] at h1 h2
      simp only [Bool.and_eq_true, decide_eq_true_eq] at h1 h2
      simp [impliesK, h1.1, h2.2]
    | tx t => simp [holdsK] at h1
    | pr t => simp [holdsK] at h1
  | tx s =>
    have h1 := h (true, 0, s) (by rw [hold_tx]; simp)
    cases b with
    | rg r t => rw [hold_rg] at h1; cases h1
    | tx t => rw [hold_tx] at h1; exact h1
    | pr t => rw [hold_pr] at h1; exact h1
  | pr s =>
    have h1 := h (true, 0, s) (by rw [hold_pr]; exact pfx_self s)
    cases b with
    | rg r t => rw [hold_rg] at h1; cases h1
    | tx t =>
      have h2 := h (true, 0, more s) (by rw [hold_pr]; exact pfx_more s)
      rw [hold_tx, beq_iff_eq] at h1 h2
      rw [← h1] at h2
      have h3 := congrArg List.length h2
      simp [more] at h3
    | pr t => rw [hold_pr] at h1; exact h1
theorem implies_trans {a b c : Kd} (ha : goodK a = true) (h1 : impliesK a b = true) (h2 : impliesK b c = true) : impliesK a c = true :=
  holds_implies a c ha fun v hv => implies_holds b c h2 v (implies_holds a b h1 v hv)
theorem implies_anti {a b : Kd} (ha : goodK a = true) (hb : goodK b = true) (h1 : impliesK a b = true) (h2 : impliesK b a = true) : a = b :=
  same_holds a b ha hb fun v => by
    rw [Bool.eq_iff_iff]
    exact ⟨implies_holds a b h1 v, implies_holds b a h2 v⟩
def coversL (a b : List Cn) : Bool := a.all fun x => b.any fun y => decide (y.1 = x.1) && impliesK y.2 x.2
theorem covers_iff (a b : List Cn) : coversL a b = true ↔ ∀ x ∈ a, ∃ y ∈ b, y.1 = x.1 ∧ impliesK y.2 x.2 = true := by
  simp only [coversL, List.all_eq_true, List.any_eq_true, Bool.and_eq_true, decide_eq_true_eq]
theorem covers_self (a : List Cn) : coversL a a = true := (covers_iff a a).2 fun x hx => ⟨x, hx, rfl, implies_self _⟩
theorem covers_nil (a : List Cn) : coversL [] a = true := rfl
theorem covers_trans {a b c : List Cn} (gc : ∀ x ∈ c, goodK x.2 = true) (h1 : coversL a b = true) (h2 : coversL b c = true) : coversL a c = true := by
  rw [covers_iff] at *
  intro x hx
  obtain ⟨y, hy, y1, y2⟩ := h1 x hx
  obtain ⟨z, hz, z1, z2⟩ := h2 y hy
  exact ⟨z, hz, z1.trans y1, implies_trans (gc z hz) z2 y2⟩
theorem covers_match {a b : List Cn} {l : List An} (h : coversL a b = true) (hm : matchL b l = true) : matchL a l = true := by
  rw [covers_iff] at h
  rw [match_iff] at *
  intro x hx
  obtain ⟨y, hy, y1, y2⟩ := h x hx
  obtain ⟨u, hu, u1, u2⟩ := hm y hy
  exact ⟨u, hu, u1.trans y1, implies_holds _ _ y2 _ u2⟩
/-- What covers what meets meets. -/
theorem covers_meets {a b c : List Cn} (ha : RiseC a) (hc : RiseC c) (gb : ∀ x ∈ b, goodK x.2 = true) (gc : ∀ x ∈ c, goodK x.2 = true) (h : coversL a b = true) (hm : Meets b c) : Meets a c := by
  rw [covers_iff] at h
  refine ⟨fun x hx z hz e hn => ?_, ?_⟩
  · obtain ⟨y, hy, y1, y2⟩ := h x hx
    cases hk : bothK y.2 z.2 with
    | none => exact hm.1 y hy z hz (y1.trans e) hk
    | some k =>
      obtain ⟨k1, k2⟩ := both_some _ _ k (gb y hy) (gc z hz) hk
      obtain ⟨v, hv⟩ := some_holds k k1
      rw [k2, Bool.and_eq_true] at hv
      have := both_none _ _ hn v
      rw [implies_holds _ _ y2 v hv.1, hv.2] at this
      cases this
  · have h2 := hm.2
    rw [← union_len] at h2 ⊢
    refine Nat.le_trans (nodup_len _ _ (union_nodup ha hc) fun n hn => (union_mem b c n).2 ?_) h2
    rcases (union_mem a c n).1 hn with h3 | h3
    · obtain ⟨x, hx, rfl⟩ := List.mem_map.1 h3
      obtain ⟨y, hy, y1, _⟩ := h x hx
      exact Or.inl (by rw [← y1]; exact List.mem_map_of_mem hy)
    · exact Or.inr h3
theorem meets_self {a : List Cn} (ha : RiseC a) (ga : ∀ x ∈ a, goodK x.2 = true) (h5 : a.length ≤ 5) : Meets a a := by
  refine ⟨fun x hx y hy e hn => ?_, ?_⟩
  · obtain rfl := uniqC ha hx hy e
    rw [both_self _ (ga x hx)] at hn
    cases hn
  · have : fresh a a = 0 := by
      unfold fresh
      rw [List.countP_eq_zero]
      intro y hy
      rw [(has_iff a y.1).2 (List.mem_map_of_mem hy)]
      decide
    omega
theorem meets_nil (a : List Cn) (h5 : a.length ≤ 5) : Meets [] a := by
  refine ⟨fun x hx => by simp at hx, ?_⟩
  have : fresh [] a ≤ a.length := List.countP_le_length
  simp only [List.length_nil]
  omega
/-- What covers each other is the same. -/
theorem covers_anti {a b : List Cn} (ha : RiseC a) (hb : RiseC b) (ga : ∀ x ∈ a, goodK x.2 = true) (gb : ∀ x ∈ b, goodK x.2 = true) (h1 : coversL a b = true) (h2 : coversL b a = true) : a = b := by
  rw [covers_iff] at h1 h2
  have sub : ∀ {p q : List Cn}, RiseC p → (∀ x ∈ p, goodK x.2 = true) → (∀ x ∈ q, goodK x.2 = true) → (∀ x ∈ p, ∃ y ∈ q, y.1 = x.1 ∧ impliesK y.2 x.2 = true) → (∀ x ∈ q, ∃ y ∈ p, y.1 = x.1 ∧ impliesK y.2 x.2 = true) → ∀ x ∈ p, x ∈ q := by
    intro p q hp gp gq h1 h2 x hx
    obtain ⟨y, hy, y1, y2⟩ := h1 x hx
    obtain ⟨z, hz, z1, z2⟩ := h2 y hy
    obtain rfl := uniqC hp hz hx (z1.trans y1)
    have e := implies_anti (gq y hy) (gp z hz) y2 z2
    have e2 : y = z := Prod.ext y1 e
    rw [← e2]
    exact hy
  have na : a.Nodup := List.Pairwise.imp (R := fun x y : Cn => Op.bytesLess x.1.toList y.1.toList = true) (S := fun x y => x ≠ y) (fun h e => less_ne h (by rw [e])) ha
  have nb : b.Nodup := List.Pairwise.imp (R := fun x y : Cn => Op.bytesLess x.1.toList y.1.toList = true) (S := fun x y => x ≠ y) (fun h e => less_ne h (by rw [e])) hb
  exact riseC_eq ha hb ((List.perm_ext_iff_of_nodup na nb).2 fun x => ⟨sub ha ga gb h1 h2 x, sub hb gb ga h2 h1 x⟩)
end Go.Proofs.Ytdomincmoaahoaa.Rl

namespace Go.Proofs.Ytdomincmoaahoaa.Rl
open Go.RowKit Go.Proofs.Ytdomincmoaahoaa Go.Proofs.Ytdomincmoaahoaa.Pu Go.Proofs.Ytdomincmoaahoaa.Pr

theorem match_cons (c : Cn) (p : List Cn) (l : List An) : matchL (c :: p) l = (matchL [c] l && matchL p l) := by simp [matchL]
theorem match_both {n : ByteArray} {a b k : Kd} {l : List An} (hl : (l.map (·.1)).Nodup) (hk : ∀ v, holdsK k v = (holdsK a v && holdsK b v)) : matchL [(n, k)] l = (matchL [(n, a)] l && matchL [(n, b)] l) := by
  rw [Bool.eq_iff_iff, Bool.and_eq_true, match_iff, match_iff, match_iff]
  constructor
  · intro h
    obtain ⟨u, hu, u1, u2⟩ := h (n, k) (List.mem_singleton.2 rfl)
    rw [hk, Bool.and_eq_true] at u2
    refine ⟨fun c hc => ?_, fun c hc => ?_⟩ <;> (obtain rfl := List.mem_singleton.1 hc)
    · exact ⟨u, hu, u1, u2.1⟩
    · exact ⟨u, hu, u1, u2.2⟩
  · rintro ⟨h1, h2⟩ c hc
    obtain rfl := List.mem_singleton.1 hc
    obtain ⟨u, hu, u1, u2⟩ := h1 (n, a) (List.mem_singleton.2 rfl)
    obtain ⟨v, hv, v1, v2⟩ := h2 (n, b) (List.mem_singleton.2 rfl)
    obtain rfl := uniq hl hu hv (u1.trans v1.symm)
    exact ⟨u, hu, u1, by rw [hk, u2, v2]; rfl⟩
theorem ins_match {l : List An} (hl : (l.map (·.1)).Nodup) : ∀ (m : List Cn) (c : Cn) (m' : List Cn), (∀ x ∈ m, goodK x.2 = true) → goodK c.2 = true → insC m c = some m' → matchL m' l = (matchL m l && matchL [c] l) ∧ ∀ x ∈ m', goodK x.2 = true
  | [], c, m', _, gc, h => by
    obtain rfl := Option.some.inj h
    exact ⟨by simp [matchL], fun x hx => by obtain rfl := List.mem_singleton.1 hx; exact gc⟩
  | x :: r, c, m', gm, gc, h => by
    simp only [insC] at h
    split at h
    · cases hi : insC r c with
      | none => rw [hi] at h; cases h
      | some n =>
        rw [hi] at h
        obtain rfl := Option.some.inj h
        obtain ⟨e1, e2⟩ := ins_match hl r c n (fun y hy => gm y (List.mem_cons_of_mem _ hy)) gc hi
        refine ⟨by rw [match_cons, e1, match_cons x r, Bool.and_assoc], fun y hy => ?_⟩
        rcases List.mem_cons.1 hy with rfl | hy
        · exact gm y (List.mem_cons_self ..)
        · exact e2 y hy
    · split at h
      · rename_i he
        cases hb : bothK x.2 c.2 with
        | none => rw [hb] at h; cases h
        | some k =>
          rw [hb] at h
          obtain rfl := Option.some.inj h
          obtain ⟨k1, k2⟩ := both_some _ _ k (gm x (List.mem_cons_self ..)) gc hb
          obtain ⟨xn, xk⟩ := x
          obtain ⟨cn, ck⟩ := c
          obtain rfl : xn = cn := he
          refine ⟨?_, fun y hy => ?_⟩
          · rw [match_cons, match_cons (xn, xk) r, match_both hl k2, Bool.and_assoc, Bool.and_comm (matchL [(xn, ck)] l), ← Bool.and_assoc]
          · rcases List.mem_cons.1 hy with rfl | hy
            · exact k1
            · exact gm y (List.mem_cons_of_mem _ hy)
      · obtain rfl := Option.some.inj h
        refine ⟨by rw [match_cons, Bool.and_comm], fun y hy => ?_⟩
        rcases List.mem_cons.1 hy with rfl | hy
        · exact gc
        · exact gm y hy
theorem fold_match {l : List An} (hl : (l.map (·.1)).Nodup) : ∀ (r m : List Cn) (at_ : Nat) (p : List Cn), (∀ x ∈ m, goodK x.2 = true) → (∀ x ∈ r, goodK x.2 = true) → foldC at_ m r = .ok p → matchL p l = (matchL m l && matchL r l) ∧ ∀ x ∈ p, goodK x.2 = true
  | [], m, at_, p, gm, _, h => by
    simp only [foldC] at h
    injection h with h
    subst h
    exact ⟨by simp [matchL], gm⟩
  | c :: r, m, at_, p, gm, gr, h => by
    simp only [foldC] at h
    cases hi : insC m c with
    | none => rw [hi] at h; cases h
    | some n =>
      rw [hi] at h
      simp only at h
      split at h
      · cases h
      · obtain ⟨e1, e2⟩ := ins_match hl m c n gm (gr c (List.mem_cons_self ..)) hi
        obtain ⟨f1, f2⟩ := fold_match hl r n (at_ + 1) p e2 (fun y hy => gr y (List.mem_cons_of_mem _ hy)) h
        exact ⟨by rw [f1, e1, match_cons c r, Bool.and_assoc], f2⟩
/-- Both cover their normal form. -/
theorem implies_both {a b k : Kd} (ha : goodK a = true) (hb : goodK b = true) (h : bothK a b = some k) : impliesK k a = true ∧ impliesK k b = true := by
  obtain ⟨k1, k2⟩ := both_some a b k ha hb h
  refine ⟨holds_implies k a k1 fun v hv => ?_, holds_implies k b k1 fun v hv => ?_⟩ <;> (rw [k2, Bool.and_eq_true] at hv)
  · exact hv.1
  · exact hv.2
theorem ins_covers : ∀ (m : List Cn) (c : Cn) (m' : List Cn), (∀ x ∈ m, goodK x.2 = true) → goodK c.2 = true → insC m c = some m' → coversL m m' = true ∧ coversL [c] m' = true
  | [], c, m', _, _, h => by
    obtain rfl := Option.some.inj h
    exact ⟨rfl, covers_self _⟩
  | x :: r, c, m', gm, gc, h => by
    simp only [insC] at h
    split at h
    · cases hi : insC r c with
      | none => rw [hi] at h; cases h
      | some n =>
        rw [hi] at h
        obtain rfl := Option.some.inj h
        obtain ⟨e1, e2⟩ := ins_covers r c n (fun y hy => gm y (List.mem_cons_of_mem _ hy)) gc hi
        simp only [covers_iff] at *
        refine ⟨fun y hy => ?_, fun y hy => ?_⟩
        · rcases List.mem_cons.1 hy with rfl | hy
          · exact ⟨y, List.mem_cons_self .., rfl, implies_self _⟩
          · obtain ⟨z, hz, h3⟩ := e1 y hy
            exact ⟨z, List.mem_cons_of_mem _ hz, h3⟩
        · obtain ⟨z, hz, h3⟩ := e2 y hy
          exact ⟨z, List.mem_cons_of_mem _ hz, h3⟩
    · split at h
      · rename_i he
        cases hb : bothK x.2 c.2 with
        | none => rw [hb] at h; cases h
        | some k =>
          rw [hb] at h
          obtain rfl := Option.some.inj h
          obtain ⟨k1, k2⟩ := implies_both (gm x (List.mem_cons_self ..)) gc hb
          rw [covers_iff, covers_iff]
          refine ⟨fun y hy => ?_, fun y hy => ?_⟩
          · rcases List.mem_cons.1 hy with rfl | hy
            · exact ⟨_, List.mem_cons_self .., rfl, k1⟩
            · exact ⟨y, List.mem_cons_of_mem _ hy, rfl, implies_self _⟩
          · obtain rfl := List.mem_singleton.1 hy
            exact ⟨_, List.mem_cons_self .., he, k2⟩
      · obtain rfl := Option.some.inj h
        rw [covers_iff, covers_iff]
        refine ⟨fun y hy => ⟨y, List.mem_cons_of_mem _ hy, rfl, implies_self _⟩, fun y hy => ?_⟩
        obtain rfl := List.mem_singleton.1 hy
        exact ⟨y, List.mem_cons_self .., rfl, implies_self _⟩
theorem ins_good {m : List Cn} {c : Cn} {m' : List Cn} (gm : ∀ x ∈ m, goodK x.2 = true) (gc : goodK c.2 = true) (h : insC m c = some m') : ∀ x ∈ m', goodK x.2 = true := (ins_match (l := []) List.nodup_nil m c m' gm gc h).2
theorem fold_covers : ∀ (r m : List Cn) (at_ : Nat) (p : List Cn), (∀ x ∈ m, goodK x.2 = true) → (∀ x ∈ r, goodK x.2 = true) → foldC at_ m r = .ok p → coversL m p = true ∧ coversL r p = true
  | [], m, at_, p, gm, _, h => by
    simp only [foldC] at h
    injection h with h
    subst h
    exact ⟨covers_self _, rfl⟩
  | c :: r, m, at_, p, gm, gr, h => by
    simp only [foldC] at h
    cases hi : insC m c with
    | none => rw [hi] at h; cases h
    | some n =>
      rw [hi] at h
      simp only at h
      split at h
      · cases h
      · have gc := gr c (List.mem_cons_self ..)
        have gn := ins_good gm gc hi
        have gr2 : ∀ x ∈ r, goodK x.2 = true := fun y hy => gr y (List.mem_cons_of_mem _ hy)
        obtain ⟨e1, e2⟩ := ins_covers m c n gm gc hi
        obtain ⟨f1, f2⟩ := fold_covers r n (at_ + 1) p gn gr2 h
        have gp := (fold_match (l := []) List.nodup_nil r n (at_ + 1) p gn gr2 h).2
        refine ⟨covers_trans gp e1 f1, ?_⟩
        have f3 := covers_trans gp e2 f1
        rw [covers_iff] at *
        intro y hy
        rcases List.mem_cons.1 hy with rfl | hy
        · exact f3 y (List.mem_singleton.2 rfl)
        · exact f2 y hy
theorem fold_rise : ∀ (r m : List Cn) (at_ : Nat) (p : List Cn), RiseC m → m.length ≤ 5 → foldC at_ m r = .ok p → RiseC p ∧ p.length ≤ 5
  | [], m, at_, p, hm, h5, h => by
    simp only [foldC] at h
    injection h with h
    subst h
    exact ⟨hm, h5⟩
  | c :: r, m, at_, p, hm, _, h => by
    simp only [foldC] at h
    cases hi : insC m c with
    | none => rw [hi] at h; cases h
    | some n =>
      rw [hi] at h
      simp only at h
      split at h
      · cases h
      · rename_i h6
        exact fold_rise r n (at_ + 1) p (ins_rise m c n hm hi).1 (by omega) h
/-- Both together, in their normal form, or nothing. -/
theorem make_both {a b : List Cn} (ha : RiseC a) (h5 : a.length ≤ 5) : makeC (a ++ b) = foldC a.length a b := by
  have e := make_self a ha h5
  rw [makeC] at e
  rw [makeC, fold_append a b [] a 0 e, Nat.zero_add]
end Go.Proofs.Ytdomincmoaahoaa.Rl

namespace Go.Proofs.Ytdomincmoaahoaa.Rl
open Go.RowKit Go.Proofs.Ytdomincmoaahoaa Go.Proofs.Ytdomincmoaahoaa.Pu Go.Proofs.Ytdomincmoaahoaa.Pr

def foldR : List Cn → List Cn → Option (List Cn)
  | m, [] => some m
  | m, c :: r => match insC m c with
    | none => none
    | some n => foldR n r
theorem foldR_len : ∀ (r m p : List Cn), RiseC m → foldR m r = some p → m.length ≤ p.length ∧ RiseC p
  | [], m, p, hm, h => by
    obtain rfl := Option.some.inj h
    exact ⟨Nat.le_refl _, hm⟩
  | c :: r, m, p, hm, h => by
    simp only [foldR] at h
    cases hi : insC m c with
    | none => rw [hi] at h; cases h
    | some n =>
      rw [hi] at h
      have e1 := ins_length m c n hm hi
      obtain ⟨e2, e3⟩ := foldR_len r n p (ins_rise m c n hm hi).1 h
      exact ⟨by omega, e3⟩
theorem foldC_R : ∀ (r m p : List Cn) (at_ : Nat), RiseC m → m.length ≤ 5 → (foldC at_ m r = .ok p ↔ foldR m r = some p ∧ p.length ≤ 5)
  | [], m, p, at_, _, h5 => by
    simp only [foldC, foldR]
    constructor
    · intro h
      injection h with h
      subst h
      exact ⟨rfl, h5⟩
    · rintro ⟨h, _⟩
      rw [Option.some.inj h]
  | c :: r, m, p, at_, hm, h5 => by
    simp only [foldC, foldR]
    cases hi : insC m c with
    | none =>
      constructor
      · intro h; cases h
      · rintro ⟨h, _⟩; cases h
    | some n =>
      simp only
      have hn := (ins_rise m c n hm hi).1
      by_cases h6 : 5 < n.length
      · rw [if_pos h6]
        constructor
        · intro h; cases h
        · rintro ⟨h, h7⟩
          have := (foldR_len r n p hn h).1
          omega
      · rw [if_neg h6]
        exact foldC_R r n p (at_ + 1) hn (by omega)
theorem foldR_append : ∀ (a b m m' : List Cn), foldR m a = some m' → foldR m (a ++ b) = foldR m' b
  | [], b, m, m', h => by
    obtain rfl := Option.some.inj h
    rfl
  | c :: r, b, m, m', h => by
    simp only [List.cons_append, foldR] at h ⊢
    cases hi : insC m c with
    | none => rw [hi] at h; cases h
    | some n =>
      rw [hi] at h
      exact foldR_append r b n m' h
theorem foldR_end : ∀ (p m : List Cn), RiseC (m ++ p) → foldR m p = some (m ++ p)
  | [], m, _ => by simp [foldR]
  | c :: r, m, h => by
    have h1 : ∀ x ∈ m, Op.bytesLess x.1.toList c.1.toList = true := fun x hx => (List.pairwise_append.1 h).2.2 x hx c (List.mem_cons_self ..)
    simp only [foldR]
    rw [ins_end m c h1]
    simp only
    rw [foldR_end r (m ++ [c]) (by simpa using h)]
    simp
/-- The document's own answer, of both together. -/
theorem ref_both {a b : List Cn} (ha : RiseC a) : foldR [] (a ++ b) = foldR a b := foldR_append a b [] a (by simpa using foldR_end a [] (by simpa using ha))
theorem meetsB_R {a b : List Cn} (ha : RiseC a) (h5 : a.length ≤ 5) : meetsB a b = match foldR a b with
    | some p => decide (p.length ≤ 5)
    | none => false := by
  unfold meetsB
  cases h : foldR a b with
  | none =>
    cases h2 : foldC a.length a b with
    | ok p =>
      have := (foldC_R b a p a.length ha h5).1 h2
      rw [h] at this
      cases this.1
    | error e => rfl
  | some p =>
    by_cases h6 : p.length ≤ 5
    · rw [(foldC_R b a p a.length ha h5).2 ⟨h, h6⟩]
      simp [h6]
    · cases h2 : foldC a.length a b with
      | ok q =>
        have h3 := (foldC_R b a q a.length ha h5).1 h2
        rw [h] at h3
        obtain rfl := Option.some.inj h3.1
        exact absurd h3.2 h6
      | error e => simp [h6]
end Go.Proofs.Ytdomincmoaahoaa.Rl

namespace Go.Proofs.Ytdomincmoaahoaa.Pr
open Go.RowKit Go.Proofs.Ytdomincmoaahoaa Go.Proofs.Ytdomincmoaahoaa.Pu

/-- How many names at the head are ahead of that one. -/
def cntC : List Cn → ByteArray → Nat
  | [], _ => 0
  | x :: r, n => if Op.bytesLess x.1.toList n.toList = true then cntC r n + 1 else 0
theorem cntC_le : ∀ l n, cntC l n ≤ l.length
  | [], n => Nat.le_refl _
  | x :: r, n => by
    have := cntC_le r n
    simp only [cntC]
    split <;> simp; omega
theorem cntC_is : ∀ (l : List Cn) (n : ByteArray) (k : Nat), k ≤ l.length → (∀ (j : Nat) (y : Cn), j < k → l[j]? = some y → Op.bytesLess y.1.toList n.toList = true) → (∀ y : Cn, l[k]? = some y → Op.bytesLess y.1.toList n.toList = false) → cntC l n = k
  | [], n, k, hk, _, _ => by simp at hk; simp [cntC, hk]
  | x :: r, n, 0, _, _, h => by simp [cntC, h x rfl]
  | x :: r, n, k + 1, hk, h1, h2 => by
    simp only [cntC]
    rw [if_pos (h1 0 x (by omega) rfl), cntC_is r n k (by simpa using hk) (fun j y hj hy => h1 (j + 1) y (by omega) (by simpa using hy)) (fun y hy => h2 y (by simpa using hy))]
/-- Is there one of that name at its place? -/
def thereC (l : List Cn) (n : ByteArray) : Bool := match l[cntC l n]? with
  | some x => decide (x.1 = n)
  | none => false
/-- One constraint more, by its place. -/
def putC (m : List Cn) (c : Cn) : Option (List Cn) := match m[cntC m c.1]? with
  | some x => if x.1 = c.1 then (bothK x.2 c.2).map fun k => m.set (cntC m c.1) (x.1, k) else some (m.take (cntC m c.1) ++ c :: m.drop (cntC m c.1))
  | none => some (m.take (cntC m c.1) ++ c :: m.drop (cntC m c.1))
theorem insC_at : ∀ (m : List Cn) (c : Cn), insC m c = putC m c
  | [], c => rfl
  | x :: r, c => by
    unfold putC
    simp only [insC, cntC]
    split
    · rw [insC_at r c, putC]
      simp only [List.getElem?_cons_succ, List.take_succ_cons, List.drop_succ_cons, List.set_cons_succ]
      cases h : r[cntC r c.1]? with
      | none => simp
      | some y =>
        simp only
        split
        · simp [Option.map_map, Function.comp_def]
        · simp
    · simp
theorem ins_there {m : List Cn} {c : Cn} (h : thereC m c.1 = true) : ∃ x, m[cntC m c.1]? = some x ∧ x.1 = c.1 ∧ insC m c = (bothK x.2 c.2).map fun k => m.set (cntC m c.1) (x.1, k) := by
  rw [insC_at]
  unfold thereC at h
  unfold putC
  cases hx : m[cntC m c.1]? with
  | none => rw [hx] at h; cases h
  | some x =>
    rw [hx] at h
    have e : x.1 = c.1 := by simpa using h
    exact ⟨x, rfl, e, by simp only; rw [if_pos e]⟩
theorem ins_not {m : List Cn} {c : Cn} (h : thereC m c.1 = false) : insC m c = some (m.take (cntC m c.1) ++ c :: m.drop (cntC m c.1)) := by
  rw [insC_at]
  unfold thereC at h
  unfold putC
  cases hx : m[cntC m c.1]? with
  | none => rfl
  | some x =>
    rw [hx] at h
    have e : ¬ x.1 = c.1 := by simpa using h
    simp only
    rw [if_neg e]
theorem cmp_less : ∀ a b : List UInt8, Lib.compareBytes a b < 0 ↔ Op.bytesLess a b = true
  | [], [] => by simp [Lib.compareBytes, Op.bytesLess]
  | [], _ :: _ => by simp [Lib.compareBytes, Op.bytesLess]
  | _ :: _, [] => by simp [Lib.compareBytes, Op.bytesLess]
  | a :: x, b :: y => by
    simp only [Lib.compareBytes, Op.bytesLess]
    by_cases h1 : a < b
    · rw [if_pos h1]; simp [h1]
    · rw [if_neg h1]
      by_cases h2 : b < a
      · have h3 : a ≠ b := by rintro rfl; exact h1 h2
        rw [if_pos h2]; simp [h1, h3]
      · have h3 : a = b := UInt8.le_antisymm (UInt8.not_lt.1 h2) (UInt8.not_lt.1 h1)
        subst h3
        rw [if_neg h2, cmp_less x y]; simp [h1]
theorem cmp_same : ∀ a b : List UInt8, Lib.compareBytes a b = 0 ↔ a = b
  | [], [] => by simp [Lib.compareBytes]
  | [], _ :: _ => by simp [Lib.compareBytes]
  | _ :: _, [] => by simp [Lib.compareBytes]
  | a :: x, b :: y => by
    simp only [Lib.compareBytes]
    by_cases h1 : a < b
    · rw [if_pos h1]
      have h3 : a ≠ b := by rintro rfl; exact absurd h1 (UInt8.lt_irrefl _)
      simp [h3]
    · rw [if_neg h1]
      by_cases h2 : b < a
      · have h3 : a ≠ b := by rintro rfl; exact h1 h2
        rw [if_pos h2]; simp [h3]
      · have h3 : a = b := UInt8.le_antisymm (UInt8.not_lt.1 h2) (UInt8.not_lt.1 h1)
        subst h3
        rw [if_neg h2, cmp_same x y]; simp
/-- How the one name stands to the other. -/
def cmpC (a b : ByteArray) : Int := Lib.compareBytes a.data.toList b.data.toList
theorem cmpC_less (a b : ByteArray) : decide (cmpC a b < 0) = Op.bytesLess a.toList b.toList := by
  rw [ByteArray.toList_eq, ByteArray.toList_eq, Bool.eq_iff_iff, decide_eq_true_eq]
  exact cmp_less _ _
theorem cmpC_same (a b : ByteArray) : cmpC a b = 0 ↔ a = b := by
  unfold cmpC
  rw [cmp_same]
  exact ⟨bytes_eq, fun h => by rw [h]⟩
theorem cmpC_lo (a b : ByteArray) : -1 ≤ cmpC a b ∧ cmpC a b ≤ 1 := by
  unfold cmpC
  generalize a.data.toList = x
  generalize b.data.toList = y
  induction x generalizing y with
  | nil => cases y <;> simp [Lib.compareBytes]
  | cons c x ih =>
    cases y with
    | nil => simp [Lib.compareBytes]
    | cons d y =>
      simp only [Lib.compareBytes]
      split
      · omega
      · split
        · omega
        · exact ih y
/-- Where names rise, what is ahead of the middle one is ahead, too. -/
theorem rise_down {l : List Cn} (h : RiseC l) {i j : Nat} {x y : Cn} (hij : i ≤ j) (hi : l[i]? = some x) (hj : l[j]? = some y) {n : ByteArray} (hy : Op.bytesLess y.1.toList n.toList = true) : Op.bytesLess x.1.toList n.toList = true := by
  rcases Nat.lt_or_ge i j with h1 | h1
  · obtain ⟨a1, a2⟩ := List.getElem?_eq_some_iff.1 hi
    obtain ⟨b1, b2⟩ := List.getElem?_eq_some_iff.1 hj
    have h2 := List.pairwise_iff_getElem.1 h i j a1 b1 h1
    rw [a2, b2] at h2
    exact VaP.bl_trans _ _ _ h2 hy
  · obtain rfl : i = j := by omega
    rw [hi] at hj
    obtain rfl := Option.some.inj hj
    exact hy
end Go.Proofs.Ytdomincmoaahoaa.Pr
