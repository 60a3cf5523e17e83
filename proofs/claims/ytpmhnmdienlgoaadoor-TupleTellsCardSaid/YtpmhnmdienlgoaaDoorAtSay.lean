/-
  Plain facts: publications that say the same are the same; put one by one, in any order, they are the same. No program in it.
-/
import Derived.Test.YtpmhnmdienlgoaaDoorAtLaw
namespace Go.Proofs.YtpmhnmdienlgoaaDoor.At
open Go.RowKit Go.Proofs.YtpmhnmdienlgoaaDoor.Va

/-- Two lists, each a run of one kind and what is not of that kind behind it. -/
theorem run_inj {p : UInt8 → Bool} : ∀ (a b r s : List UInt8), (∀ c ∈ a, p c = true) → (∀ c ∈ b, p c = true) → (∀ c t, r = c :: t → p c = false) → (∀ c t, s = c :: t → p c = false) → a ++ r = b ++ s → a = b ∧ r = s
  | [], [], r, s, _, _, _, _, h => ⟨rfl, h⟩
  | [], d :: b, r, s, _, hb, hr, _, h => by
    have h1 := hr d (b ++ s) (by simpa using h)
    rw [hb d (List.mem_cons_self ..)] at h1; cases h1
  | c :: a, [], r, s, ha, _, _, hs, h => by
    have h1 := hs c (a ++ r) (by simpa using h.symm)
    rw [ha c (List.mem_cons_self ..)] at h1; cases h1
  | c :: a, d :: b, r, s, ha, hb, hr, hs, h => by
    simp only [List.cons_append, List.cons.injEq] at h
    obtain ⟨h1, h2⟩ := run_inj a b r s (fun x hx => ha x (List.mem_cons_of_mem _ hx)) (fun x hx => hb x (List.mem_cons_of_mem _ hx)) hr hs h.2
    exact ⟨by rw [h.1, h1], h2⟩
/-- A quoted text ends where it ends. -/
theorem esc_inj2 : ∀ (a b r s : List UInt8), VaP.esc a ++ 34 :: r = VaP.esc b ++ 34 :: s → a = b ∧ r = s
  | [], [], r, s, h => by simpa [VaP.esc] using h
  | [], d :: b, r, s, h => by
    simp only [VaP.esc] at h
    split at h
    · simp at h
    · rename_i hd
      simp only [List.nil_append, List.cons_append, List.cons.injEq] at h
      exact absurd (Or.inl h.1.symm) hd
  | c :: a, [], r, s, h => by
    simp only [VaP.esc] at h
    split at h
    · simp at h
    · rename_i hd
      simp only [List.nil_append, List.cons_append, List.cons.injEq] at h
      exact absurd (Or.inl h.1) hd
  | c :: a, d :: b, r, s, h => by
    simp only [VaP.esc] at h
    split at h <;> rename_i hc <;> split at h <;> rename_i hd
    · simp only [List.cons_append, List.cons.injEq, true_and] at h
      obtain ⟨h1, h2⟩ := esc_inj2 a b r s h.2
      exact ⟨by rw [h.1, h1], h2⟩
    · simp only [List.cons_append, List.cons.injEq] at h
      exact absurd (Or.inr h.1.symm) hd
    · simp only [List.cons_append, List.cons.injEq] at h
      exact absurd (Or.inr h.1) hc
    · simp only [List.cons_append, List.cons.injEq] at h
      obtain ⟨h1, h2⟩ := esc_inj2 a b r s h.2
      exact ⟨by rw [h.1, h1], h2⟩
def digB (c : UInt8) : Bool := c == 45 || (decide (48 ≤ c.toNat) && decide (c.toNat ≤ 57))
theorem dig_dec (u : Nat) : ∀ c ∈ Lib.decDigits u, digB c = true := by
  induction u using Nat.strongRecOn with
  | _ u ih =>
    intro c hc
    rw [Lib.decDigits] at hc
    by_cases hu : u < 10
    · rw [dif_pos hu] at hc
      simp at hc
      subst hc
      simp [digB]
      omega
    · rw [dif_neg hu] at hc
      rcases List.mem_append.1 hc with h | h
      · exact ih (u / 10) (by omega) c h
      · simp at h
        subst h
        simp [digB]
        omega
theorem dig_itoa (n : Int) : ∀ c ∈ Lib.itoa n, digB c = true := by
  unfold Lib.itoa
  split
  · intro c hc
    rcases List.mem_cons.1 hc with rfl | h
    · rfl
    · exact dig_dec _ c h
  · exact dig_dec _
theorem itoa_nil (n : Int) : Lib.itoa n ≠ [] := VaP.say_ne false n []
/-- What is behind a value: nothing, or a comma. -/
def Tail (r : List UInt8) : Prop := ∀ c t, r = c :: t → c = 44
theorem say_inj2 (t1 t2 : Bool) (n1 n2 : Int) (s1 s2 : ByteArray) (r1 r2 : List UInt8) (h1 : rightV t1 n1 s1 = true) (h2 : rightV t2 n2 s2 = true) (k1 : Tail r1) (k2 : Tail r2)
    (h : VaP.say t1 n1 s1.data.toList ++ r1 = VaP.say t2 n2 s2.data.toList ++ r2) : (t1, n1, s1) = (t2, n2, s2) ∧ r1 = r2 := by
  have a1 := right_iff h1
  have a2 := right_iff h2
  have nd : ∀ r, Tail r → ∀ c t, r = c :: t → digB c = false := fun r hr c t e => by rw [hr c t e]; rfl
  cases t1 <;> cases t2 <;> simp only [VaP.say, if_true, Bool.false_eq_true, if_false] at h a1 a2
  · obtain ⟨e1, e2⟩ := run_inj (p := digB) _ _ _ _ (dig_itoa n1) (dig_itoa n2) (nd r1 k1) (nd r2 k2) h
    rw [VaP.itoa_inj _ _ e1, name_inj (a1.trans a2.symm)]
    exact ⟨rfl, e2⟩
  · cases hi : Lib.itoa n1 with
    | nil => exact absurd hi (itoa_nil n1)
    | cons c l =>
      rw [hi] at h
      simp only [List.cons_append, List.cons.injEq] at h
      exact absurd h.1 (VaP.itoa_head n1 c l hi)
  · cases hi : Lib.itoa n2 with
    | nil => exact absurd hi (itoa_nil n2)
    | cons c l =>
      rw [hi] at h
      simp only [List.cons_append, List.cons.injEq] at h
      exact absurd h.1.symm (VaP.itoa_head n2 c l hi)
  · simp only [List.cons_append, List.append_assoc, List.cons.injEq, true_and, List.nil_append] at h
    obtain ⟨e1, e2⟩ := esc_inj2 _ _ _ _ h
    rw [a1, a2, WideShapes.bytes_inj e1]
    exact ⟨rfl, e2⟩
theorem letB_eq : letB 61 = false := by decide
theorem sayOne_inj (x y : A4) (r1 r2 : List UInt8) (hx : x.1.data.toList.all letB = true) (hy : y.1.data.toList.all letB = true) (vx : rightV x.2.1 x.2.2.1 x.2.2.2 = true) (vy : rightV y.2.1 y.2.2.1 y.2.2.2 = true) (k1 : Tail r1) (k2 : Tail r2)
    (h : sayOne x ++ r1 = sayOne y ++ r2) : x = y ∧ r1 = r2 := by
  obtain ⟨a, b, c, d⟩ := x
  obtain ⟨a', b', c', d'⟩ := y
  simp only [sayOne, List.append_assoc, List.cons_append, List.nil_append] at h
  obtain ⟨e1, e2⟩ := run_inj (p := letB) _ _ _ _ (fun x hx' => List.all_eq_true.1 hx x hx') (fun x hx' => List.all_eq_true.1 hy x hx') (fun c t e => by simp only [List.cons.injEq] at e; rw [← e.1]; exact letB_eq) (fun c t e => by simp only [List.cons.injEq] at e; rw [← e.1]; exact letB_eq) h
  simp only [List.cons.injEq, true_and] at e2
  obtain ⟨e3, e4⟩ := say_inj2 _ _ _ _ _ _ _ _ vx vy k1 k2 e2
  have e5 : a = a' := WideShapes.bytes_inj e1
  simp only [Prod.mk.injEq] at e3
  rw [e5, e3.1, e3.2.1, e3.2.2]
  exact ⟨rfl, e4⟩
/-- Attributes with names of letters and right values. -/
def Fine (l : List A4) : Prop := ∀ x ∈ l, x.1.data.toList.all letB = true ∧ rightV x.2.1 x.2.2.1 x.2.2.2 = true
theorem sayOne_ne (x : A4) : sayOne x ≠ [] := by simp [sayOne]
theorem sayA_cons (x : A4) (r : List A4) : sayA (x :: r) = sayOne x ++ (if r = [] then [] else 44 :: sayA r) := by
  cases r with
  | nil => simp [sayA]
  | cons y r => simp [sayA]
theorem tail_if (r : List A4) : Tail (if r = [] then [] else 44 :: sayA r) := by
  intro c t h
  split at h
  · cases h
  · simp only [List.cons.injEq] at h; exact h.1.symm
/-- Publications that say the same are the same. -/
theorem sayA_inj : ∀ l m, Fine l → Fine m → sayA l = sayA m → l = m
  | [], [], _, _, _ => rfl
  | [], y :: m, _, _, h => by rw [sayA_cons] at h; exact absurd (List.append_eq_nil_iff.1 h.symm).1 (sayOne_ne y)
  | x :: l, [], _, _, h => by rw [sayA_cons] at h; exact absurd (List.append_eq_nil_iff.1 h).1 (sayOne_ne x)
  | x :: l, y :: m, hl, hm, h => by
    rw [sayA_cons, sayA_cons] at h
    have fx := hl x (List.mem_cons_self ..)
    have fy := hm y (List.mem_cons_self ..)
    obtain ⟨e1, e2⟩ := sayOne_inj x y _ _ fx.1 fy.1 fx.2 fy.2 (tail_if l) (tail_if m) h
    have fl : Fine l := fun z hz => hl z (List.mem_cons_of_mem _ hz)
    have fm : Fine m := fun z hz => hm z (List.mem_cons_of_mem _ hz)
    rw [e1]
    by_cases h1 : l = [] <;> by_cases h2 : m = []
    · rw [h1, h2]
    · simp [h1, h2] at e2
    · simp [h1, h2] at e2
    · simp only [h1, h2, if_false, List.cons.injEq, true_and] at e2
      rw [sayA_inj l m fl fm e2]
theorem tup_fine (has vals : List Int) (k : Nat) (hk : k ≤ 7) : Fine (tup has vals k) := fun x hx => by
  obtain ⟨i, h1, h2⟩ := tup_names has vals k x hx
  refine ⟨?_, (tup_right has vals k x hx).1⟩
  rw [h2]
  have h3 := nameB_nm i (by omega)
  simp only [nameB, Bool.and_eq_true] at h3
  exact h3.1

/-! ### put one by one -/
theorem put_perm : ∀ (l : List A4) (n : ByteArray) (v : V3), (∀ x ∈ l, x.1 ≠ n) → (putA l n v).Perm ((n, v) :: l)
  | [], n, v, _ => .refl _
  | x :: r, n, v, h => by
    simp only [putA]
    split
    · exact ((put_perm r n v (fun y hy => h y (List.mem_cons_of_mem _ hy))).cons x).trans (.swap _ _ _)
    · rw [if_neg (h x (List.mem_cons_self ..))]
theorem rise_nodup : ∀ {l : List A4}, Rise l → (l.map (·.1)).Nodup
  | [], _ => List.nodup_nil
  | x :: r, h => by
    obtain ⟨h1, h2⟩ := List.pairwise_cons.1 h
    rw [List.map_cons, List.nodup_cons]
    refine ⟨fun hm => ?_, rise_nodup h2⟩
    obtain ⟨y, hy, e⟩ := List.mem_map.1 hm
    exact less_ne (h1 y hy) e.symm
theorem rise_eq : ∀ {l m : List A4}, Rise l → Rise m → l.Perm m → l = m
  | [], m, _, _, h => (List.nil_perm.1 h).symm
  | x :: l, [], _, _, h => (List.perm_nil.1 h)
  | x :: l, y :: m, h1, h2, h => by
    obtain ⟨a1, a2⟩ := List.pairwise_cons.1 h1
    obtain ⟨b1, b2⟩ := List.pairwise_cons.1 h2
    have e : x = y := by
      have hx : x ∈ y :: m := h.mem_iff.1 (List.mem_cons_self ..)
      have hy : y ∈ x :: l := h.mem_iff.2 (List.mem_cons_self ..)
      rcases List.mem_cons.1 hx with e | hx
      · exact e
      · rcases List.mem_cons.1 hy with e | hy
        · exact e.symm
        · have c1 := b1 x hx
          have c2 := a1 y hy
          rw [VaP.bl_asymm _ _ c1] at c2; cases c2
    subst e
    rw [rise_eq a2 b2 ((List.perm_cons _).1 h)]
theorem fold_put : ∀ (own acc : List A4), Rise acc → ((own ++ acc).map (·.1)).Nodup → Rise (own.foldl (fun x a => putA x a.1 a.2) acc) ∧ (own.foldl (fun x a => putA x a.1 a.2) acc).Perm (own ++ acc)
  | [], acc, h, _ => ⟨h, .refl _⟩
  | a :: own, acc, h, hn => by
    have hno : ∀ x ∈ acc, x.1 ≠ a.1 := fun x hx e => by
      rw [List.cons_append, List.map_cons, List.nodup_cons] at hn
      exact hn.1 (List.mem_map.2 ⟨x, List.mem_append_right _ hx, e⟩)
    have hp := put_perm acc a.1 a.2 hno
    have hp2 : (own ++ putA acc a.1 a.2).Perm (a :: own ++ acc) := (hp.append_left own).trans (List.perm_middle)
    obtain ⟨h1, h2⟩ := fold_put own (putA acc a.1 a.2) (put_rise _ _ _ h) (((hp2.map (·.1)).nodup_iff).2 hn)
    exact ⟨h1, h2.trans hp2⟩
/-- In any order the same. -/
theorem fold_perm {l own : List A4} (h : Rise l) (hp : own.Perm l) : own.foldl (fun x a => putA x a.1 a.2) ([] : List A4) = l := by
  have hn : ((own ++ ([] : List A4)).map (·.1)).Nodup := by
    rw [List.append_nil]
    exact ((hp.map (fun x : A4 => x.1)).nodup_iff).2 (rise_nodup h)
  obtain ⟨h1, h2⟩ := fold_put own ([] : List A4) List.Pairwise.nil hn
  rw [List.append_nil] at h2
  exact rise_eq h1 h (h2.trans hp)
end Go.Proofs.YtpmhnmdienlgoaaDoor.At
