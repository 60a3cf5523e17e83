/-
  Plain facts on what values say: no program in it. A number's decimals, a text between quotes: two values that say the same are the same.
  Plain facts on bytes and texts: runs of one kind, quoted texts, digits, names. No program in it.
  Plain facts on predicates: constraints on one name, both of two, normal forms, what they say. No program in it.
-/
import Derived.Lib.ItoaNum
import GoSem.Claim
import Derived.Laws.Strings
import Derived.RowKit
namespace Go.Proofs.YtonoadjmglkhaaaGreat.VaP

/-- A text's bytes, each quote and backslash with a backslash ahead. -/
def esc : List UInt8 → List UInt8
  | [] => []
  | c :: r => if c = 34 ∨ c = 92 then 92 :: c :: esc r else c :: esc r
theorem esc_inj : ∀ (a b : List UInt8), esc a = esc b → a = b
  | [], [], _ => rfl
  | [], d :: s, h => by simp only [esc] at h; split at h <;> cases h
  | c :: r, [], h => by simp only [esc] at h; split at h <;> cases h
  | c :: r, d :: s, h => by
    simp only [esc] at h
    split at h <;> rename_i hc <;> split at h <;> rename_i hd
    · simp only [List.cons.injEq, true_and] at h
      rw [h.1, esc_inj r s h.2]
    · simp only [List.cons.injEq] at h
      exact absurd (Or.inr h.1.symm) hd
    · simp only [List.cons.injEq] at h
      exact absurd (Or.inr h.1) hc
    · simp only [List.cons.injEq] at h
      rw [h.1, esc_inj r s h.2]

theorem digit_val (a b : Nat) (ha : a < 10) (hb : b < 10) (h : UInt8.ofNat (48 + a) = UInt8.ofNat (48 + b)) : a = b := by
  have h2 := congrArg UInt8.toNat h
  simp at h2
  omega
theorem decDigits_ne (u : Nat) : Lib.decDigits u ≠ [] := by
  intro h
  have h2 := Lib.decDigits_length u
  rw [h] at h2
  have := Lib.nDigits_pos u
  simp at h2
  omega
theorem decDigits_inj (u : Nat) : ∀ v, Lib.decDigits u = Lib.decDigits v → u = v := by
  induction u using Nat.strongRecOn with
  | _ u ih =>
    intro v h
    rw [Lib.decDigits, Lib.decDigits.eq_1 v] at h
    by_cases hu : u < 10 <;> by_cases hv : v < 10
    · rw [dif_pos hu, dif_pos hv] at h
      exact digit_val u v hu hv (List.cons.inj h).1
    · rw [dif_pos hu, dif_neg hv] at h
      have h3 := congrArg List.length h
      have h4 := decDigits_ne (v / 10)
      simp at h3
      exact absurd h3 h4
    · rw [dif_neg hu, dif_pos hv] at h
      have h3 := congrArg List.length h
      have h4 := decDigits_ne (u / 10)
      simp at h3
      exact absurd h3 h4
    · rw [dif_neg hu, dif_neg hv] at h
      have h5 := List.append_inj' h rfl
      have h6 := ih (u / 10) (by omega) (v / 10) h5.1
      have h7 := digit_val (u % 10) (v % 10) (by omega) (by omega) (List.cons.inj h5.2).1
      omega
theorem decDigits_head (u : Nat) : ∀ c r, Lib.decDigits u = c :: r → c ≠ 45 ∧ c ≠ 34 := by
  induction u using Nat.strongRecOn with
  | _ u ih =>
    intro c r h
    rw [Lib.decDigits] at h
    by_cases hu : u < 10
    · rw [dif_pos hu] at h
      have e := (List.cons.inj h).1
      subst e
      constructor <;> intro h2 <;> (have h3 := congrArg UInt8.toNat h2; simp at h3; omega)
    · rw [dif_neg hu] at h
      cases hd : Lib.decDigits (u / 10) with
      | nil => exact absurd hd (decDigits_ne _)
      | cons c2 r2 =>
        rw [hd] at h
        have e := (List.cons.inj h).1
        subst e
        exact ih (u / 10) (by omega) _ _ hd
theorem itoa_inj (a b : Int) (h : Lib.itoa a = Lib.itoa b) : a = b := by
  unfold Lib.itoa at h
  split at h <;> rename_i ha <;> split at h <;> rename_i hb
  · have := decDigits_inj _ _ (List.cons.inj h).2
    omega
  · exact absurd rfl (decDigits_head _ _ _ h.symm).1
  · exact absurd rfl (decDigits_head _ _ _ h).1
  · have := decDigits_inj _ _ h
    omega
theorem itoa_head (a : Int) : ∀ c r, Lib.itoa a = c :: r → c ≠ 34 := by
  intro c r h
  unfold Lib.itoa at h
  split at h
  · have e := (List.cons.inj h).1
    subst e
    decide
  · exact (decDigits_head _ _ _ h).2
/-- What a value says. -/
def say (t : Bool) (n : Int) (s : List UInt8) : List UInt8 := if t then 34 :: (esc s ++ [34]) else Lib.itoa n
theorem say_ne (t : Bool) (n : Int) (s : List UInt8) : say t n s ≠ [] := by
  unfold say
  split
  · simp
  · unfold Lib.itoa; split
    · simp
    · exact decDigits_ne _
/-- Two right values that say the same are the same. -/
theorem say_inj (t1 t2 : Bool) (n1 n2 : Int) (s1 s2 : List UInt8) (h1 : if t1 then n1 = 0 else s1 = []) (h2 : if t2 then n2 = 0 else s2 = []) (h : say t1 n1 s1 = say t2 n2 s2) : t1 = t2 ∧ n1 = n2 ∧ s1 = s2 := by
  cases t1 <;> cases t2 <;> simp [say] at h h1 h2
  · exact ⟨rfl, itoa_inj _ _ h, by rw [h1, h2]⟩
  · exact absurd rfl (itoa_head _ _ _ h)
  · exact absurd rfl (itoa_head _ _ _ h.symm)
  · exact ⟨rfl, by rw [h1, h2], esc_inj _ _ h⟩

/-! ### the order of texts -/
theorem bl_irrefl : ∀ x : List UInt8, Op.bytesLess x x = false
  | [] => rfl
  | a :: x => by simp [Op.bytesLess, bl_irrefl x]
theorem bl_cons (a b : UInt8) (x y : List UInt8) : Op.bytesLess (a :: x) (b :: y) = true ↔ a.toNat < b.toNat ∨ (a.toNat = b.toNat ∧ Op.bytesLess x y = true) := by
  simp only [Op.bytesLess, Bool.or_eq_true, decide_eq_true_eq, Bool.and_eq_true, beq_iff_eq, UInt8.lt_iff_toNat_lt]
  constructor
  · rintro (h | ⟨h, k⟩)
    · exact Or.inl h
    · exact Or.inr ⟨by rw [h], k⟩
  · rintro (h | ⟨h, k⟩)
    · exact Or.inl h
    · exact Or.inr ⟨UInt8.toNat_inj.1 h, k⟩
theorem bl_trans : ∀ x y z : List UInt8, Op.bytesLess x y = true → Op.bytesLess y z = true → Op.bytesLess x z = true
  | _, [], _, h, _ => by cases ‹List UInt8› <;> simp [Op.bytesLess] at h
  | _, _ :: _, [], _, k => by simp [Op.bytesLess] at k
  | [], _ :: _, _ :: _, _, _ => rfl
  | a :: x, b :: y, c :: z, h, k => by
    rw [bl_cons] at h k ⊢
    rcases h with h | ⟨h, h2⟩ <;> rcases k with k | ⟨k, k2⟩
    · exact Or.inl (by omega)
    · exact Or.inl (by omega)
    · exact Or.inl (by omega)
    · exact Or.inr ⟨by omega, bl_trans x y z h2 k2⟩
theorem bl_total : ∀ x y : List UInt8, Op.bytesLess x y = true ∨ x = y ∨ Op.bytesLess y x = true
  | [], [] => Or.inr (Or.inl rfl)
  | [], _ :: _ => Or.inl rfl
  | _ :: _, [] => Or.inr (Or.inr rfl)
  | a :: x, b :: y => by
    rw [bl_cons, bl_cons]
    rcases Nat.lt_trichotomy a.toNat b.toNat with h | h | h
    · exact Or.inl (Or.inl h)
    · rcases bl_total x y with k | k | k
      · exact Or.inl (Or.inr ⟨h, k⟩)
      · exact Or.inr (Or.inl (by rw [k, UInt8.toNat_inj.1 h]))
      · exact Or.inr (Or.inr (Or.inr ⟨h.symm, k⟩))
    · exact Or.inr (Or.inr (Or.inl h))
theorem bl_asymm (x y : List UInt8) (h : Op.bytesLess x y = true) : Op.bytesLess y x = false := by
  cases k : Op.bytesLess y x
  · rfl
  · have := bl_trans x y x h k
    rw [bl_irrefl] at this
    cases this

/-- Is one value ahead of another one? -/
def lessV (t1 : Bool) (n1 : Int) (s1 : List UInt8) (t2 : Bool) (n2 : Int) (s2 : List UInt8) : Bool :=
  if t1 then t2 && Op.bytesLess s1 s2 else t2 || decide (n1 < n2)
theorem lessV_irrefl (t : Bool) (n : Int) (s : List UInt8) : lessV t n s t n s = false := by
  cases t <;> simp [lessV, bl_irrefl]
theorem lessV_asymm (t1 : Bool) (n1 : Int) (s1 : List UInt8) (t2 : Bool) (n2 : Int) (s2 : List UInt8) (h : lessV t1 n1 s1 t2 n2 s2 = true) : lessV t2 n2 s2 t1 n1 s1 = false := by
  cases t1 <;> cases t2 <;> simp [lessV] at h ⊢
  · omega
  · exact bl_asymm _ _ h
theorem lessV_trans (t1 : Bool) (n1 : Int) (s1 : List UInt8) (t2 : Bool) (n2 : Int) (s2 : List UInt8) (t3 : Bool) (n3 : Int) (s3 : List UInt8) (h : lessV t1 n1 s1 t2 n2 s2 = true) (k : lessV t2 n2 s2 t3 n3 s3 = true) : lessV t1 n1 s1 t3 n3 s3 = true := by
  cases t1 <;> cases t2 <;> cases t3 <;> simp [lessV] at h k ⊢
  · omega
  · exact bl_trans _ _ _ h k
/-- Of two right values that are not the same one is ahead. -/
theorem lessV_total (t1 t2 : Bool) (n1 n2 : Int) (s1 s2 : List UInt8) (h1 : if t1 then n1 = 0 else s1 = []) (h2 : if t2 then n2 = 0 else s2 = []) :
    lessV t1 n1 s1 t2 n2 s2 = true ∨ (t1 = t2 ∧ n1 = n2 ∧ s1 = s2) ∨ lessV t2 n2 s2 t1 n1 s1 = true := by
  cases t1 <;> cases t2 <;> simp [lessV] at h1 h2 ⊢
  · rcases Int.lt_trichotomy n1 n2 with h | h | h
    · exact Or.inl h
    · exact Or.inr (Or.inl ⟨h, by rw [h1, h2]⟩)
    · exact Or.inr (Or.inr h)
  · rcases bl_total s1 s2 with h | h | h
    · exact Or.inl h
    · exact Or.inr (Or.inl ⟨by rw [h1, h2], h⟩)
    · exact Or.inr (Or.inr h)
end Go.Proofs.YtonoadjmglkhaaaGreat.VaP

namespace Go.Proofs.YtonoadjmglkhaaaGreat.Pu
open Go.RowKit Go.Proofs.YtonoadjmglkhaaaGreat

/-- Two lists, each a run of one kind and what is not of that kind behind it. -/
theorem run_inj {p : UInt8 → Bool} : ∀ (a b r s : List UInt8), (∀ c ∈ a, p c = true) → (∀ c ∈ b, p c = true) → (∀ c t, r = c :: t → p c = false) → (∀ c t, s = c :: t → p c = false) → a ++ r = b ++ s → a = b ∧ r = s
  | [], [], r, s, _, _, _, _, h => ⟨rfl, h⟩
  | [], d :: b, r, s, _, hb, hr, _, h => by
    have h1 := hr d (b ++ s) (by simpa using h)
    rw [hb d (List.mem_cons_self ..)] at h1; cases h1
  | c :: a, [], r, s, ha, _, _, hs, h => by
    have h1 := hs c (a ++ r) (by simpa using h.symm)
    rw [ha c (List.mem_cons_self ..)] at h1; cases h1
  | c :: a, d :: b, r, s, ha, hb, hr, hs, h => by
    simp only [List.cons_append, List.cons.injEq] at h
    obtain ⟨h1, h2⟩ := run_inj a b r s (fun x hx => ha x (List.mem_cons_of_mem _ hx)) (fun x hx => hb x (List.mem_cons_of_mem _ hx)) hr hs h.2
    exact ⟨by rw [h.1, h1], h2⟩
/-- A quoted text ends where it ends. -/
theorem esc_inj2 : ∀ (a b r s : List UInt8), VaP.esc a ++ 34 :: r = VaP.esc b ++ 34 :: s → a = b ∧ r = s
  | [], [], r, s, h => by simpa [VaP.esc] using h
  | [], d :: b, r, s, h => by
    simp only [VaP.esc] at h
    split at h
    · simp at h
    · rename_i hd
      simp only [List.nil_append, List.cons_append, List.cons.injEq] at h
      exact absurd (Or.inl h.1.symm) hd
  | c :: a, [], r, s, h => by
    simp only [VaP.esc] at h
    split at h
    · simp at h
    · rename_i hd
      simp only [List.nil_append, List.cons_append, List.cons.injEq] at h
      exact absurd (Or.inl h.1) hd
  | c :: a, d :: b, r, s, h => by
    simp only [VaP.esc] at h
    split at h <;> rename_i hc <;> split at h <;> rename_i hd
    · simp only [List.cons_append, List.cons.injEq, true_and] at h
      obtain ⟨h1, h2⟩ := esc_inj2 a b r s h.2
      exact ⟨by rw [h.1, h1], h2⟩
    · simp only [List.cons_append, List.cons.injEq] at h
      exact absurd (Or.inr h.1.symm) hd
    · simp only [List.cons_append, List.cons.injEq] at h
      exact absurd (Or.inr h.1) hc
    · simp only [List.cons_append, List.cons.injEq] at h
      obtain ⟨h1, h2⟩ := esc_inj2 a b r s h.2
      exact ⟨by rw [h.1, h1], h2⟩
def digB (c : UInt8) : Bool := c == 45 || (decide (48 ≤ c.toNat) && decide (c.toNat ≤ 57))
theorem dig_dec (u : Nat) : ∀ c ∈ Lib.decDigits u, digB c = true := by
  induction u using Nat.strongRecOn with
  | _ u ih =>
    intro c hc
    rw [Lib.decDigits] at hc
    by_cases hu : u < 10
    · rw [dif_pos hu] at hc
      simp at hc
      subst hc
      simp [digB]
      omega
    · rw [dif_neg hu] at hc
      rcases List.mem_append.1 hc with h | h
      · exact ih (u / 10) (by omega) c h
      · simp at h
        subst h
        simp [digB]
        omega
theorem dig_itoa (n : Int) : ∀ c ∈ Lib.itoa n, digB c = true := by
  unfold Lib.itoa
  split
  · intro c hc
    rcases List.mem_cons.1 hc with rfl | h
    · rfl
    · exact dig_dec _ c h
  · exact dig_dec _
theorem itoa_nil (n : Int) : Lib.itoa n ≠ [] := VaP.say_ne false n []
/-- What is behind a value: nothing, or a comma. -/
def Tail (r : List UInt8) : Prop := ∀ c t, r = c :: t → c = 44
/-- Is it a small letter? -/
def letB (c : UInt8) : Bool := decide (97 ≤ c.toNat) && decide (c.toNat ≤ 122)
/-- Is it a name? -/
def nameB (s : ByteArray) : Bool := s.data.toList.all letB && (decide (1 ≤ s.size) && decide (s.size ≤ 12))
theorem nameB_not (s : ByteArray) (k : Nat) (h : k < s.size) (hc : letB s[k] = false) : nameB s = false := by
  have : s.data.toList.all letB = false := by
    rw [List.all_eq_false]
    exact ⟨s[k], by rw [Array.mem_toList_iff]; exact Array.getElem_mem h, by rw [hc]; decide⟩
  simp [nameB, this]
theorem nameB_end (s : ByteArray) (h : ∀ (j : Nat) (hj : j < s.size), letB s[j] = true) : nameB s = (decide (1 ≤ s.size) && decide (s.size ≤ 12)) := by
  have : s.data.toList.all letB = true := by
    rw [List.all_eq_true]
    intro c hc
    obtain ⟨j, hj, rfl⟩ := List.getElem_of_mem hc
    exact h j (by rw [Array.length_toList] at hj; exact hj)
  simp [nameB, this]

theorem name_inj {a b : ByteArray} (h : a.toList = b.toList) : a = b := by
  rw [ByteArray.toList_eq, ByteArray.toList_eq] at h
  exact WideShapes.bytes_inj h
theorem less_ne {a b : ByteArray} (h : Op.bytesLess a.toList b.toList = true) : a ≠ b := by
  rintro rfl
  rw [VaP.bl_irrefl] at h; cases h
theorem less_or {a b : ByteArray} (h1 : ¬ Op.bytesLess a.toList b.toList = true) (h2 : a ≠ b) : Op.bytesLess b.toList a.toList = true := by
  rcases VaP.bl_total a.toList b.toList with h | h | h
  · exact absurd h h1
  · exact absurd (name_inj h) h2
  · exact h

end Go.Proofs.YtonoadjmglkhaaaGreat.Pu

namespace Go.Proofs.YtonoadjmglkhaaaGreat.Pr
open Go.RowKit Go.Proofs.YtonoadjmglkhaaaGreat Go.Proofs.YtonoadjmglkhaaaGreat.Pu

/-- What a constraint asks: a number in a range, a text, a text's beginning. -/
inductive Kd where
  | rg (lo hi : Int)
  | tx (t : ByteArray)
  | pr (t : ByteArray)
abbrev Cn := ByteArray × Kd
abbrev V3 := Bool × Int × ByteArray
def kN : Kd → Int
  | .rg _ _ => 1
  | .tx _ => 2
  | .pr _ => 3
def kLo : Kd → Int
  | .rg lo _ => lo
  | _ => 0
def kHi : Kd → Int
  | .rg _ hi => hi
  | _ => 0
def kT : Kd → ByteArray
  | .rg _ _ => ⟨#[]⟩
  | .tx t => t
  | .pr t => t
/-- Does the one begin with the other? -/
def pfx (s t : ByteArray) : Bool := s.data.toList.isPrefixOf t.data.toList
theorem pfx_iff (s t : ByteArray) : pfx s t = true ↔ s.data.toList <+: t.data.toList := List.isPrefixOf_iff_prefix
theorem pfx_self (s : ByteArray) : pfx s s = true := (pfx_iff s s).2 (List.prefix_refl _)
def goodK : Kd → Bool
  | .rg lo hi => decide (lo ≤ hi)
  | .tx t => decide (t.size ≤ 12)
  | .pr t => decide (t.size < 12)
def goodC (c : Cn) : Bool := nameB c.1 && goodK c.2
def holdsK : Kd → V3 → Bool
  | .rg lo hi, v => !v.1 && (decide (lo ≤ v.2.1) && decide (v.2.1 ≤ hi))
  | .tx t, v => v.1 && (v.2.2.data.toList == t.data.toList)
  | .pr t, v => v.1 && pfx t v.2.2
def bothK : Kd → Kd → Option Kd
  | .rg a b, .rg c d => if max a c ≤ min b d then some (.rg (max a c) (min b d)) else none
  | .tx s, .tx t => if s.data.toList = t.data.toList then some (.tx s) else none
  | .tx s, .pr t => if pfx t s then some (.tx s) else none
  | .pr s, .tx t => if pfx s t then some (.tx t) else none
  | .pr s, .pr t => if pfx s t then some (.pr t) else if pfx t s then some (.pr s) else none
  | _, _ => none
theorem both_self (k : Kd) (h : goodK k = true) : bothK k k = some k := by
  cases k with
  | rg lo hi =>
    simp only [goodK, decide_eq_true_eq] at h
    simp only [bothK]
    rw [Int.max_self, Int.min_self, if_pos h]
  | tx t => simp [bothK]
  | pr t => simp only [bothK]; rw [if_pos (pfx_self t)]
theorem bytes_eq {s t : ByteArray} (h : s.data.toList = t.data.toList) : s = t := WideShapes.bytes_inj h
/-- Both hold just where each does. -/
theorem both_some (a b c : Kd) (ha : goodK a = true) (hb : goodK b = true) (h : bothK a b = some c) : goodK c = true ∧ ∀ v, holdsK c v = (holdsK a v && holdsK b v) := by
  cases a with
  | rg p q => cases b with
    | rg r s =>
      simp only [bothK] at h
      split at h
      · rename_i hc
        obtain rfl := Option.some.inj h
        refine ⟨by simpa [goodK] using hc, fun v => ?_⟩
        obtain ⟨t, n, u⟩ := v
        cases t <;> simp only [holdsK, Bool.not_true, Bool.not_false, Bool.false_and, Bool.true_and]
        rw [Bool.eq_iff_iff]
        simp only [Bool.and_eq_true, decide_eq_true_eq]
        omega
      · cases h
    | tx t => simp [bothK] at h
    | pr t => simp [bothK] at h
  | tx p => cases b with
    | rg r s => simp [bothK] at h
    | tx t =>
      simp only [bothK] at h
      split at h
      · rename_i hc
        obtain rfl := Option.some.inj h
        exact ⟨ha, fun v => by simp [holdsK, hc]⟩
      · cases h
    | pr t =>
      simp only [bothK] at h
      split at h
      · rename_i hc
        obtain rfl := Option.some.inj h
        refine ⟨ha, fun v => ?_⟩
        rw [Bool.eq_iff_iff]
        simp only [holdsK, Bool.and_eq_true, beq_iff_eq]
        constructor
        · rintro ⟨h1, h2⟩
          exact ⟨⟨h1, h2⟩, h1, by rw [pfx_iff, h2, ← pfx_iff]; exact hc⟩
        · rintro ⟨h1, _⟩
          exact h1
      · cases h
  | pr p => cases b with
    | rg r s => simp [bothK] at h
    | tx t =>
      simp only [bothK] at h
      split at h
      · rename_i hc
        obtain rfl := Option.some.inj h
        refine ⟨hb, fun v => ?_⟩
        rw [Bool.eq_iff_iff]
        simp only [holdsK, Bool.and_eq_true, beq_iff_eq]
        constructor
        · rintro ⟨h1, h2⟩
          exact ⟨⟨h1, by rw [pfx_iff, h2, ← pfx_iff]; exact hc⟩, h1, h2⟩
        · rintro ⟨_, h1⟩
          exact h1
      · cases h
    | pr t =>
      simp only [bothK] at h
      split at h
      · rename_i hc
        obtain rfl := Option.some.inj h
        refine ⟨hb, fun v => ?_⟩
        rw [Bool.eq_iff_iff]
        simp only [holdsK, Bool.and_eq_true]
        constructor
        · rintro ⟨h1, h2⟩
          exact ⟨⟨h1, (pfx_iff _ _).2 (((pfx_iff _ _).1 hc).trans ((pfx_iff _ _).1 h2))⟩, h1, h2⟩
        · rintro ⟨_, h1⟩
          exact h1
      · split at h
        · rename_i _ hc
          obtain rfl := Option.some.inj h
          refine ⟨ha, fun v => ?_⟩
          rw [Bool.eq_iff_iff]
          simp only [holdsK, Bool.and_eq_true]
          constructor
          · rintro ⟨h1, h2⟩
            exact ⟨⟨h1, h2⟩, h1, (pfx_iff _ _).2 (((pfx_iff _ _).1 hc).trans ((pfx_iff _ _).1 h2))⟩
          · rintro ⟨h1, _⟩
            exact h1
        · cases h
theorem both_none (a b : Kd) (h : bothK a b = none) (v : V3) : (holdsK a v && holdsK b v) = false := by
  obtain ⟨w, n, u⟩ := v
  rw [Bool.eq_false_iff]
  intro hv
  rw [Bool.and_eq_true] at hv
  obtain ⟨h1, h2⟩ := hv
  cases a with
  | rg p q => cases b with
    | rg r s =>
      simp only [bothK] at h
      split at h
      · cases h
      · rename_i hc
        simp only [holdsK, Bool.and_eq_true, decide_eq_true_eq] at h1 h2
        omega
    | tx t => simp only [holdsK, Bool.and_eq_true] at h1 h2; rw [h2.1] at h1; cases h1.1
    | pr t => simp only [holdsK, Bool.and_eq_true] at h1 h2; rw [h2.1] at h1; cases h1.1
  | tx p => cases b with
    | rg r s => simp only [holdsK, Bool.and_eq_true] at h1 h2; rw [h1.1] at h2; cases h2.1
    | tx t =>
      simp only [holdsK, Bool.and_eq_true, beq_iff_eq] at h1 h2
      simp only [bothK] at h
      rw [if_pos (h1.2.symm.trans h2.2)] at h
      cases h
    | pr t =>
      simp only [holdsK, Bool.and_eq_true, beq_iff_eq] at h1 h2
      simp only [bothK] at h
      rw [if_pos (by rw [pfx_iff, ← h1.2, ← pfx_iff]; exact h2.2)] at h
      cases h
  | pr p => cases b with
    | rg r s => simp only [holdsK, Bool.and_eq_true] at h1 h2; rw [h1.1] at h2; cases h2.1
    | tx t =>
      simp only [holdsK, Bool.and_eq_true, beq_iff_eq] at h1 h2
      simp only [bothK] at h
      rw [if_pos (by rw [pfx_iff, ← h2.2, ← pfx_iff]; exact h1.2)] at h
      cases h
    | pr t =>
      simp only [holdsK, Bool.and_eq_true] at h1 h2
      have e1 := (pfx_iff _ _).1 h1.2
      have e2 := (pfx_iff _ _).1 h2.2
      simp only [bothK] at h
      rcases Nat.le_total p.data.toList.length t.data.toList.length with hl | hl
      · rw [if_pos ((pfx_iff _ _).2 (List.prefix_of_prefix_length_le e1 e2 hl))] at h
        cases h
      · by_cases hp : pfx p t = true
        · rw [if_pos hp] at h; cases h
        · rw [if_neg hp, if_pos ((pfx_iff _ _).2 (List.prefix_of_prefix_length_le e2 e1 hl))] at h
          cases h
/-- What is good holds somewhere. -/
theorem some_holds (a : Kd) (h : goodK a = true) : ∃ v, holdsK a v = true := by
  cases a with
  | rg lo hi =>
    simp only [goodK, decide_eq_true_eq] at h
    exact ⟨(false, lo, ⟨#[]⟩), by simp [holdsK, h]⟩
  | tx t => exact ⟨(true, 0, t), by simp [holdsK]⟩
  | pr t => exact ⟨(true, 0, t), by simp only [holdsK, Bool.true_and]; exact pfx_self t⟩
theorem hold_pr (t s : ByteArray) : holdsK (.pr t) (true, 0, s) = pfx t s := by simp only [holdsK, Bool.true_and]
theorem hold_tx (t s : ByteArray) : holdsK (.tx t) (true, 0, s) = (s.data.toList == t.data.toList) := by simp only [holdsK, Bool.true_and]
theorem hold_rg (a b : Int) (s : ByteArray) : holdsK (.rg a b) (true, 0, s) = false := by simp only [holdsK, Bool.not_true, Bool.false_and]
theorem hold_n (a b n : Int) : holdsK (.rg a b) (false, n, ⟨#[]⟩) = (decide (a ≤ n) && decide (n ≤ b)) := by simp only [holdsK, Bool.not_false, Bool.true_and]
def more (t : ByteArray) : ByteArray := ⟨(t.data.toList ++ [0]).toArray⟩
theorem pfx_more (t : ByteArray) : pfx t (more t) = true := (pfx_iff _ _).2 (List.prefix_append _ _)
theorem not_tx_pr (p t : ByteArray) (h : ∀ v, holdsK (.tx p) v = holdsK (.pr t) v) : False := by
  have h1 := h (true, 0, more t)
  have h2 := h (true, 0, t)
  rw [hold_tx, hold_pr, pfx_more, beq_iff_eq] at h1
  rw [hold_tx, hold_pr, pfx_self, beq_iff_eq] at h2
  rw [← h2] at h1
  have h3 := congrArg List.length h1
  simp [more] at h3
/-- What holds at the same values is the same. -/
theorem same_holds (a b : Kd) (ha : goodK a = true) (hb : goodK b = true) (h : ∀ v, holdsK a v = holdsK b v) : a = b := by
  cases a with
  | rg p q => cases b with
    | rg r s =>
      simp only [goodK, decide_eq_true_eq] at ha hb
      have le : ∀ n, (p ≤ n ∧ n ≤ q) ↔ (r ≤ n ∧ n ≤ s) := fun n => by
        have h1 := h (false, n, ⟨#[]⟩)
        rw [hold_n, hold_n, Bool.eq_iff_iff, Bool.and_eq_true, Bool.and_eq_true, decide_eq_true_eq, decide_eq_true_eq, decide_eq_true_eq, decide_eq_true_eq] at h1
        exact h1
      have h1 := (le p).1 ⟨Int.le_refl _, ha⟩
      have h2 := (le q).1 ⟨ha, Int.le_refl _⟩
      have h3 := (le r).2 ⟨Int.le_refl _, hb⟩
      have h4 := (le s).2 ⟨hb, Int.le_refl _⟩
      rw [show p = r by omega, show q = s by omega]
    | tx t => have h1 := h (true, 0, t); rw [hold_rg, hold_tx, beq_self_eq_true] at h1; cases h1
    | pr t => have h1 := h (true, 0, t); rw [hold_rg, hold_pr, pfx_self] at h1; cases h1
  | tx p => cases b with
    | rg r s => have h1 := h (true, 0, p); rw [hold_rg, hold_tx, beq_self_eq_true] at h1; cases h1
    | tx t =>
      have h1 := h (true, 0, p)
      rw [hold_tx, hold_tx, beq_self_eq_true] at h1
      rw [bytes_eq (beq_iff_eq.1 h1.symm)]
    | pr t => exact (not_tx_pr p t h).elim
  | pr p => cases b with
    | rg r s => have h1 := h (true, 0, p); rw [hold_rg, hold_pr, pfx_self] at h1; cases h1
    | tx t => exact (not_tx_pr t p fun v => (h v).symm).elim
    | pr t =>
      have h1 := h (true, 0, p)
      have h2 := h (true, 0, t)
      rw [hold_pr, hold_pr, pfx_self] at h1 h2
      have e1 := (pfx_iff _ _).1 h1.symm
      have e2 := (pfx_iff _ _).1 h2
      rw [bytes_eq (e2.eq_of_length_le e1.length_le)]
/-- All of them in one. -/
def allK : Kd → List Kd → Option Kd
  | a, [] => some a
  | a, b :: r => match bothK a b with
    | some c => allK c r
    | none => none
theorem all_some : ∀ (l : List Kd) (a c : Kd), goodK a = true → (∀ b ∈ l, goodK b = true) → allK a l = some c → goodK c = true ∧ ∀ v, holdsK c v = (holdsK a v && l.all fun b => holdsK b v)
  | [], a, c, ha, _, h => by
    obtain rfl := Option.some.inj h
    exact ⟨ha, fun v => by simp⟩
  | b :: r, a, c, ha, hl, h => by
    simp only [allK] at h
    cases hb : bothK a b with
    | none => rw [hb] at h; cases h
    | some d =>
      rw [hb] at h
      obtain ⟨d1, d2⟩ := both_some a b d ha (hl b (List.mem_cons_self ..)) hb
      obtain ⟨c1, c2⟩ := all_some r d c d1 (fun x hx => hl x (List.mem_cons_of_mem _ hx)) h
      exact ⟨c1, fun v => by rw [c2, d2, List.all_cons, Bool.and_assoc]⟩
theorem all_none : ∀ (l : List Kd) (a : Kd), goodK a = true → (∀ b ∈ l, goodK b = true) → allK a l = none → ∀ v, (holdsK a v && l.all fun b => holdsK b v) = false
  | [], a, _, _, h, v => by cases h
  | b :: r, a, ha, hl, h, v => by
    simp only [allK] at h
    cases hb : bothK a b with
    | none => rw [List.all_cons, ← Bool.and_assoc, both_none a b hb v, Bool.false_and]
    | some d =>
      rw [hb] at h
      obtain ⟨d1, d2⟩ := both_some a b d ha (hl b (List.mem_cons_self ..)) hb
      rw [List.all_cons, ← Bool.and_assoc, ← d2]
      exact all_none r d d1 (fun x hx => hl x (List.mem_cons_of_mem _ hx)) h v
/-- In any order the same, or none. -/
theorem all_perm (a b : Kd) (l m : List Kd) (ha : goodK a = true) (hb : goodK b = true) (hl : ∀ x ∈ l, goodK x = true) (hm : ∀ x ∈ m, goodK x = true) (hp : (a :: l).Perm (b :: m)) : allK a l = allK b m := by
  have e : ∀ v, (holdsK a v && l.all fun x => holdsK x v) = (holdsK b v && m.all fun x => holdsK x v) := fun v => by
    have h : ((a :: l).all fun x => holdsK x v) = ((b :: m).all fun x => holdsK x v) := hp.all_eq
    simpa using h
  cases h1 : allK a l with
  | none => cases h2 : allK b m with
    | none => rfl
    | some d =>
      obtain ⟨d1, d2⟩ := all_some m b d hb hm h2
      obtain ⟨v, hv⟩ := some_holds d d1
      rw [d2, ← e, all_none l a ha hl h1 v] at hv
      cases hv
  | some c =>
    obtain ⟨c1, c2⟩ := all_some l a c ha hl h1
    cases h2 : allK b m with
    | none =>
      obtain ⟨v, hv⟩ := some_holds c c1
      rw [c2, e, all_none m b hb hm h2 v] at hv
      cases hv
    | some d =>
      obtain ⟨d1, d2⟩ := all_some m b d hb hm h2
      rw [same_holds c d c1 d1 (fun v => by rw [c2, d2, e])]

/-! ### normal forms -/
def RiseC (l : List Cn) : Prop := l.Pairwise fun x y => Op.bytesLess x.1.toList y.1.toList = true
/-- One constraint more, in its place. -/
def insC : List Cn → Cn → Option (List Cn)
  | [], c => some [c]
  | x :: r, c => if Op.bytesLess x.1.toList c.1.toList = true then (insC r c).map (x :: ·) else if x.1 = c.1 then (bothK x.2 c.2).map (fun k => (x.1, k) :: r) else some (c :: x :: r)
/-- The normal form of a list's rest, where so many are done and m is what they made; or what is wrong, and where. -/
def foldC : Nat → List Cn → List Cn → Except (Int × Nat) (List Cn)
  | _, m, [] => .ok m
  | at_, m, c :: r => match insC m c with
    | none => .error (5, at_)
    | some m' => if 5 < m'.length then .error (7, at_) else foldC (at_ + 1) m' r
def makeC (l : List Cn) : Except (Int × Nat) (List Cn) := foldC 0 [] l
theorem ins_end : ∀ (m : List Cn) (c : Cn), (∀ x ∈ m, Op.bytesLess x.1.toList c.1.toList = true) → insC m c = some (m ++ [c])
  | [], c, _ => rfl
  | x :: r, c, h => by
    simp only [insC]
    rw [if_pos (h x (List.mem_cons_self ..)), ins_end r c (fun y hy => h y (List.mem_cons_of_mem _ hy))]
    rfl
theorem fold_end : ∀ (p m : List Cn) (at_ : Nat), RiseC (m ++ p) → (m ++ p).length ≤ 5 → foldC at_ m p = .ok (m ++ p)
  | [], m, at_, _, _ => by simp [foldC]
  | c :: r, m, at_, h, h5 => by
    have h1 : ∀ x ∈ m, Op.bytesLess x.1.toList c.1.toList = true := fun x hx => (List.pairwise_append.1 h).2.2 x hx c (List.mem_cons_self ..)
    simp only [foldC]
    rw [ins_end m c h1]
    simp only
    rw [if_neg (by simp at h5 ⊢; omega), fold_end r (m ++ [c]) (at_ + 1) (by simpa using h) (by simpa using h5)]
    simp
/-- A normal form is its own. -/
theorem make_self (p : List Cn) (h : RiseC p) (h5 : p.length ≤ 5) : makeC p = .ok p := by
  have := fold_end p [] 0 (by simpa using h) (by simpa using h5)
  simpa [makeC] using this
theorem fold_append : ∀ (a b m m' : List Cn) (at_ : Nat), foldC at_ m a = .ok m' → foldC at_ m (a ++ b) = foldC (at_ + a.length) m' b
  | [], b, m, m', at_, h => by
    simp only [foldC] at h
    injection h with h
    subst h
    simp
  | c :: r, b, m, m', at_, h => by
    simp only [List.cons_append, foldC] at h ⊢
    cases hi : insC m c with
    | none => rw [hi] at h; cases h
    | some n =>
      rw [hi] at h
      simp only at h ⊢
      split at h
      · cases h
      · rename_i hn
        rw [if_neg hn, fold_append r b n m' (at_ + 1) h]
        rw [List.length_cons, show at_ + 1 + r.length = at_ + (r.length + 1) by omega]
theorem ins_new : ∀ (m : List Cn) (c : Cn), (∀ x ∈ m, x.1 ≠ c.1) → ∃ m', insC m c = some m' ∧ m'.Perm (c :: m)
  | [], c, _ => ⟨_, rfl, .refl _⟩
  | x :: r, c, h => by
    simp only [insC]
    by_cases hl : Op.bytesLess x.1.toList c.1.toList = true
    · rw [if_pos hl]
      obtain ⟨m', h1, h2⟩ := ins_new r c (fun y hy => h y (List.mem_cons_of_mem _ hy))
      exact ⟨x :: m', by rw [h1]; rfl, (h2.cons x).trans (List.Perm.swap c x r)⟩
    · rw [if_neg hl, if_neg (h x (List.mem_cons_self ..))]
      exact ⟨_, rfl, .refl _⟩
theorem ins_rise : ∀ (m : List Cn) (c : Cn) (m' : List Cn), RiseC m → insC m c = some m' → RiseC m' ∧ ∀ y ∈ m', y.1 = c.1 ∨ ∃ x ∈ m, x.1 = y.1
  | [], c, m', _, h => by
    obtain rfl := Option.some.inj h
    exact ⟨List.pairwise_singleton _ _, fun y hy => Or.inl (by simp at hy; rw [hy])⟩
  | x :: r, c, m', hr, h => by
    obtain ⟨h1, h2⟩ := List.pairwise_cons.1 hr
    simp only [insC] at h
    split at h
    · rename_i hl
      cases hi : insC r c with
      | none => rw [hi] at h; cases h
      | some n =>
        rw [hi] at h
        obtain rfl := Option.some.inj h
        obtain ⟨k1, k2⟩ := ins_rise r c n h2 hi
        refine ⟨List.pairwise_cons.2 ⟨fun y hy => ?_, k1⟩, fun y hy => ?_⟩
        · rcases k2 y hy with e | ⟨z, hz, e⟩
          · rw [e]; exact hl
          · rw [← e]; exact h1 z hz
        · rcases List.mem_cons.1 hy with rfl | hy
          · exact Or.inr ⟨y, List.mem_cons_self .., rfl⟩
          · rcases k2 y hy with e | ⟨z, hz, e⟩
            · exact Or.inl e
            · exact Or.inr ⟨z, List.mem_cons_of_mem _ hz, e⟩
    · rename_i hl
      split at h
      · rename_i he
        cases hb : bothK x.2 c.2 with
        | none => rw [hb] at h; cases h
        | some k =>
          rw [hb] at h
          obtain rfl := Option.some.inj h
          refine ⟨List.pairwise_cons.2 ⟨fun y hy => h1 y hy, h2⟩, fun y hy => ?_⟩
          rcases List.mem_cons.1 hy with rfl | hy
          · exact Or.inl he
          · exact Or.inr ⟨y, List.mem_cons_of_mem _ hy, rfl⟩
      · rename_i he
        obtain rfl := Option.some.inj h
        have hc : Op.bytesLess c.1.toList x.1.toList = true := less_or hl he
        refine ⟨List.pairwise_cons.2 ⟨fun y hy => ?_, hr⟩, fun y hy => ?_⟩
        · rcases List.mem_cons.1 hy with rfl | hy
          · exact hc
          · exact VaP.bl_trans _ _ _ hc (h1 y hy)
        · rcases List.mem_cons.1 hy with rfl | hy
          · exact Or.inl rfl
          · exact Or.inr ⟨y, hy, rfl⟩
theorem fold_perm : ∀ (l m : List Cn) (at_ : Nat), RiseC m → ((l ++ m).map (·.1)).Nodup → (l ++ m).length ≤ 5 → ∃ m', foldC at_ m l = .ok m' ∧ RiseC m' ∧ m'.Perm (l ++ m)
  | [], m, at_, h, _, _ => ⟨m, rfl, h, .refl _⟩
  | c :: r, m, at_, h, hn, h5 => by
    simp only [List.cons_append, List.map_cons, List.nodup_cons] at hn
    have hc : ∀ x ∈ m, x.1 ≠ c.1 := fun x hx e => hn.1 (by rw [← e]; exact List.mem_map_of_mem (List.mem_append_right _ hx))
    obtain ⟨n, n1, n2⟩ := ins_new m c hc
    have n3 := (ins_rise m c n h n1).1
    have hp : (r ++ n).Perm (c :: (r ++ m)) := (n2.append_left r).trans List.perm_middle
    obtain ⟨m', k1, k2, k3⟩ := fold_perm r n (at_ + 1) n3 (((hp.map (·.1)).nodup_iff).2 (by simp only [List.map_cons, List.nodup_cons]; exact hn)) (by rw [hp.length_eq]; simpa using h5)
    refine ⟨m', ?_, k2, k3.trans hp⟩
    simp only [foldC]
    rw [n1]
    simp only
    rw [if_neg (by rw [n2.length_eq]; simp at h5 ⊢; omega), k1]
theorem riseC_nodup : ∀ {l : List Cn}, RiseC l → (l.map (·.1)).Nodup
  | [], _ => by simp
  | x :: r, h => by
    obtain ⟨h1, h2⟩ := List.pairwise_cons.1 h
    simp only [List.map_cons, List.nodup_cons]
    refine ⟨fun hm => ?_, riseC_nodup h2⟩
    obtain ⟨y, hy, e⟩ := List.mem_map.1 hm
    exact less_ne (h1 y hy) e.symm
theorem riseC_eq : ∀ {l m : List Cn}, RiseC l → RiseC m → l.Perm m → l = m
  | [], m, _, _, hp => hp.nil_eq
  | x :: r, [], _, _, hp => by have := hp.length_eq; simp at this
  | x :: r, y :: s, hl, hm, hp => by
    obtain ⟨l1, l2⟩ := List.pairwise_cons.1 hl
    obtain ⟨m1, m2⟩ := List.pairwise_cons.1 hm
    have hx := hp.mem_iff.1 (List.mem_cons_self (a := x) (l := r))
    have hy := hp.mem_iff.2 (List.mem_cons_self (a := y) (l := s))
    have e : x = y := by
      rcases List.mem_cons.1 hx with e | hx
      · exact e
      · rcases List.mem_cons.1 hy with e | hy
        · exact e.symm
        · have a := m1 x hx
          rw [VaP.bl_asymm _ _ (l1 y hy)] at a
          cases a
    subst e
    rw [riseC_eq l2 m2 ((List.perm_cons x).1 hp)]
/-- Constraints of unlike names, in any order, have the same normal form. -/
theorem make_perm {p l : List Cn} (h : RiseC p) (h5 : p.length ≤ 5) (hp : l.Perm p) : makeC l = .ok p := by
  obtain ⟨m, h1, h2, h3⟩ := fold_perm l [] 0 List.Pairwise.nil (by rw [List.append_nil]; exact ((hp.map (·.1)).nodup_iff).2 (riseC_nodup h)) (by rw [List.append_nil, hp.length_eq]; exact h5)
  rw [List.append_nil] at h3
  rw [makeC, h1, riseC_eq h2 h (h3.trans hp)]
theorem ins_self : ∀ (m : List Cn) (c : Cn), RiseC m → c ∈ m → goodK c.2 = true → insC m c = some m
  | x :: r, c, h, hc, hg => by
    obtain ⟨h1, h2⟩ := List.pairwise_cons.1 h
    simp only [insC]
    rcases List.mem_cons.1 hc with rfl | hc
    · rw [if_neg (by rw [VaP.bl_irrefl]; decide), if_pos rfl, both_self _ hg]
      rfl
    · rw [if_pos (h1 c hc), ins_self r c h2 hc hg]
      rfl
theorem fold_self : ∀ (l m : List Cn) (at_ : Nat), RiseC m → m.length ≤ 5 → (∀ c ∈ l, c ∈ m ∧ goodK c.2 = true) → foldC at_ m l = .ok m
  | [], m, at_, _, _, _ => rfl
  | c :: r, m, at_, h, h5, hl => by
    have hc := hl c (List.mem_cons_self ..)
    simp only [foldC]
    rw [ins_self m c h hc.1 hc.2]
    simp only
    rw [if_neg (by omega), fold_self r m (at_ + 1) h h5 (fun x hx => hl x (List.mem_cons_of_mem _ hx))]
/-- Told twice it is the same. -/
theorem make_twice {p : List Cn} (h : RiseC p) (h5 : p.length ≤ 5) (hg : ∀ c ∈ p, goodK c.2 = true) : makeC (p ++ p) = .ok p := by
  have e := make_self p h h5
  rw [makeC] at e
  rw [makeC, fold_append p p [] p 0 e, fold_self p p _ h h5 (fun c hc => ⟨hc, hg c hc⟩)]
/-- Constraints of one name. -/
theorem fold_one (n : ByteArray) : ∀ (l : List Kd) (a : Kd) (at_ : Nat), foldC at_ [(n, a)] (l.map fun k => (n, k)) = (match allK a l with | some c => .ok [(n, c)] | none => (foldC at_ [(n, a)] (l.map fun k => (n, k)))) ∧ (allK a l = none → ∃ i, foldC at_ [(n, a)] (l.map fun k => (n, k)) = .error (5, i))
  | [], a, at_ => ⟨rfl, fun h => by cases h⟩
  | b :: r, a, at_ => by
    have e : foldC at_ [(n, a)] ((b :: r).map fun k => (n, k)) = (match bothK a b with | some c => foldC (at_ + 1) [(n, c)] (r.map fun k => (n, k)) | none => .error (5, at_)) := by
      simp only [List.map_cons, foldC, insC]
      rw [if_neg (by rw [VaP.bl_irrefl]; decide), if_true]
      cases bothK a b <;> rfl
    rw [e]
    simp only [allK]
    cases bothK a b with
    | none => exact ⟨rfl, fun _ => ⟨at_, rfl⟩⟩
    | some c => exact fold_one n r c (at_ + 1)
theorem make_one (n : ByteArray) (a : Kd) (l : List Kd) : (∀ c, allK a l = some c → makeC ((n, a) :: l.map fun k => (n, k)) = .ok [(n, c)]) ∧ (allK a l = none → ∃ i, makeC ((n, a) :: l.map fun k => (n, k)) = .error (5, i)) := by
  have e : makeC ((n, a) :: l.map fun k => (n, k)) = foldC 1 [(n, a)] (l.map fun k => (n, k)) := rfl
  rw [e]
  obtain ⟨h1, h2⟩ := fold_one n l a 1
  exact ⟨fun c hc => by rw [h1, hc], h2⟩

/-! ### what they say -/
def sayK (c : Cn) : List UInt8 := c.1.data.toList ++ (match c.2 with
  | .rg lo hi => 58 :: (Lib.itoa lo ++ (46 :: 46 :: Lib.itoa hi))
  | .tx t => 61 :: VaP.say true 0 t.data.toList
  | .pr t => 94 :: VaP.say true 0 t.data.toList)
def sayC : List Cn → List UInt8
  | [] => []
  | [x] => sayK x
  | x :: y :: r => sayK x ++ [44] ++ sayC (y :: r)
theorem sayK_inj (x y : Cn) (r1 r2 : List UInt8) (hx : x.1.data.toList.all letB = true) (hy : y.1.data.toList.all letB = true) (k1 : Tail r1) (k2 : Tail r2) (h : sayK x ++ r1 = sayK y ++ r2) : x = y ∧ r1 = r2 := by
  obtain ⟨a, x⟩ := x
  obtain ⟨b, y⟩ := y
  have l1 : ∀ c ∈ a.data.toList, letB c = true := fun c hc => List.all_eq_true.1 hx c hc
  have l2 : ∀ c ∈ b.data.toList, letB c = true := fun c hc => List.all_eq_true.1 hy c hc
  have nd : ∀ r, Tail r → ∀ c t, r = c :: t → digB c = false := fun r hr c t e => by rw [hr c t e]; rfl
  cases x <;> cases y <;> simp only [sayK, List.append_assoc, List.cons_append] at h <;>
    obtain ⟨e1, e2⟩ := run_inj (p := letB) _ _ _ _ l1 l2 (fun c t e => by simp only [List.cons.injEq] at e; rw [← e.1]; decide) (fun c t e => by simp only [List.cons.injEq] at e; rw [← e.1]; decide) h <;>
    have e3 := bytes_eq e1 <;> subst e3 <;> simp only [List.cons.injEq, true_and, VaP.say, if_true, List.cons_append, List.append_assoc, List.nil_append] at e2 <;> try (exact absurd e2.1 (by decide))
  · obtain ⟨e4, e5⟩ := run_inj (p := digB) _ _ _ _ (dig_itoa _) (dig_itoa _) (fun c t e => by simp only [List.cons.injEq] at e; rw [← e.1]; decide) (fun c t e => by simp only [List.cons.injEq] at e; rw [← e.1]; decide) e2
    simp only [List.cons.injEq, true_and] at e5
    obtain ⟨e6, e7⟩ := run_inj (p := digB) _ _ _ _ (dig_itoa _) (dig_itoa _) (nd r1 k1) (nd r2 k2) e5
    rw [VaP.itoa_inj _ _ e4, VaP.itoa_inj _ _ e6]
    exact ⟨rfl, e7⟩
  · obtain ⟨e4, e5⟩ := esc_inj2 _ _ _ _ e2
    rw [bytes_eq e4]
    exact ⟨rfl, e5⟩
  · obtain ⟨e4, e5⟩ := esc_inj2 _ _ _ _ e2
    rw [bytes_eq e4]
    exact ⟨rfl, e5⟩
theorem sayK_ne (x : Cn) : sayK x ≠ [] := by
  obtain ⟨a, k⟩ := x
  cases k <;> simp [sayK]
theorem sayC_cons (x : Cn) (r : List Cn) : sayC (x :: r) = sayK x ++ (if r = [] then [] else 44 :: sayC r) := by
  cases r with
  | nil => simp [sayC]
  | cons y r => simp [sayC]
theorem tailC_if (r : List Cn) : Tail (if r = [] then [] else 44 :: sayC r) := by
  intro c t h
  split at h
  · cases h
  · simp only [List.cons.injEq] at h; exact h.1.symm
/-- Predicates that say the same are the same. -/
theorem sayC_inj : ∀ l m : List Cn, (∀ x ∈ l, x.1.data.toList.all letB = true) → (∀ x ∈ m, x.1.data.toList.all letB = true) → sayC l = sayC m → l = m
  | [], [], _, _, _ => rfl
  | [], y :: m, _, _, h => by rw [sayC_cons] at h; exact absurd (List.append_eq_nil_iff.1 h.symm).1 (sayK_ne y)
  | x :: l, [], _, _, h => by rw [sayC_cons] at h; exact absurd (List.append_eq_nil_iff.1 h).1 (sayK_ne x)
  | x :: l, y :: m, hl, hm, h => by
    rw [sayC_cons, sayC_cons] at h
    obtain ⟨e1, e2⟩ := sayK_inj x y _ _ (hl x (List.mem_cons_self ..)) (hm y (List.mem_cons_self ..)) (tailC_if l) (tailC_if m) h
    have fl := fun z hz => hl z (List.mem_cons_of_mem _ hz)
    have fm := fun z hz => hm z (List.mem_cons_of_mem _ hz)
    rw [e1]
    by_cases h1 : l = [] <;> by_cases h2 : m = []
    · rw [h1, h2]
    · simp [h1, h2] at e2
    · simp [h1, h2] at e2
    · simp only [h1, h2, if_false, List.cons.injEq, true_and] at e2
      rw [sayC_inj l m fl fm e2]
end Go.Proofs.YtonoadjmglkhaaaGreat.Pr
