/-
  Numbers in memory, as lists. No program's function in it.
  Plain facts on what values say: no program in it. A number's decimals, a text between quotes: two values that say the same are the same.
-/
import Derived.Test.YtonoadjmglkhaaaQ001
import Derived.Lib.ItoaNum
import GoSem.Claim
import Derived.Laws.Strings
namespace Go.Proofs.Ytonoadjmglkhaaa.Nm
open Go.RowKit Go.Proofs.Ytonoadjmglkhaaa Go.Proofs.Ytonoadjmglkhaaa.Rw

def EI : Ek Int := ⟨3, 27, 1, 8, .int .i64 0, fun n => .int .i64 n, fun n => [.int .i64 n]⟩
theorem infoI0 : (Try.prog.info? 3).map (fun i => (i.zero, i.size, i.bytes)) = some (some (.int .i64 0), 1, 8) := by kernel_rfl
theorem okI : EI.Ok where
  hu := Try.underlying27
  info := by
    have h := infoI0
    cases hi : Try.prog.info? 3 with
    | none => rw [hi] at h; cases h
    | some i =>
      rw [hi] at h
      simp only [Option.map_some, Option.some.injEq, Prod.mk.injEq] at h
      exact ⟨i, hi, h.1, h.2.1, h.2.2⟩
  zs := rfl
  len := fun _ => rfl
  one := fun x u hu => by
    simp only [EI, List.mem_cons, List.not_mem_nil, or_false] at hu
    rw [hu]
    rfl
  pos := by decide
  few := by decide
  load := fun w p x h => by
    have h0 := h 0 _ rfl
    rw [add_zero] at h0
    show (Instr.loadAt 3 (.pointer (some p))).run Try.prog w = .ok (.int .i64 x) w
    simp [go_sem, h0]
abbrev RowI (W : World) (v : Value) (l : List Int) : Prop := Row EI W v l
abbrev OwnI (W : World) (B : Nat) (v : Value) (l : List Int) : Prop := Own EI W B v l
theorem elI {W : World} {v : Value} {l : List Int} {ao : Option Addr} {n c k : Nat} {x : Int} (h : RowI W v l) (hv : v = .slice ao n c) (hn : l.length = n) (hk : l[k]? = some x) :
    ∃ p : Addr, (∀ w, (Instr.indexAt 27 (.slice ao n c) (.int .i64 k)).run Try.prog w = .ok (.pointer (some p)) w) ∧ p.block < W.heap.size ∧ ∀ w, Below W.heap.size W w → w.cell? p = some (.int .i64 x) := by
  obtain ⟨p, h1, h3, h2⟩ := row_el okI h hv hn hk
  exact ⟨p, h1, h3, fun w hw => by
    have h0 := h2 w hw 0 _ rfl
    rwa [add_zero] at h0⟩
theorem appI {w : World} (B : Nat) {v x : Value} {l m : List Int} (hown : OwnI w B v l) (hx : RowI w x m) (hn : l.length ≤ 1000) (hm : m.length ≤ 1000) (hB : B ≤ w.heap.size) :
    ∃ v' w', (Builtin.append_ #[27, 27] 27 #[v, x]).run Try.prog w = .ok v' w' ∧ OwnI w' B v' (l ++ m) ∧ w.grownBy w' v.ownBlock := app_row okI B hown hx hn hm hB 27
theorem row_oneI (w : World) (c : Int) : RowI (w.alloc (.cells #[.int .i64 c] 3)) (.slice (some ⟨w.heap.size, 0, none⟩) 1 1) [c] :=
  Row.of_own (row_lit okI w [c] 1 rfl (by simp) _ rfl)
theorem own_oneI (w : World) (c : Int) : OwnI (w.alloc (.cells #[.int .i64 c] 3)) w.heap.size (.slice (some ⟨w.heap.size, 0, none⟩) 1 1) [c] := row_lit okI w [c] 1 rfl (by simp) _ rfl
theorem flatI : ∀ l : List Int, flat EI l = l.map (fun n => .int .i64 n)
  | [] => rfl
  | x :: r => by
    show EI.cells x ++ flat EI r = _
    rw [flatI r]
    rfl
end Go.Proofs.Ytonoadjmglkhaaa.Nm

namespace Go.Proofs.Ytonoadjmglkhaaa.VaP

/-- A text's bytes, each quote and backslash with a backslash ahead. -/
def esc : List UInt8 → List UInt8
  | [] => []
  | c :: r => if c = 34 ∨ c = 92 then 92 :: c :: esc r else c :: esc r
theorem esc_inj : ∀ (a b : List UInt8), esc a = esc b → a = b
  | [], [], _ => rfl
  | [], d :: s, h => by simp only [esc] at h; split at h <;> cases h
  | c :: r, [], h => by simp only [esc] at h; split at h <;> cases h
  | c :: r, d :: s, h => by
    simp only [esc] at h
    split at h <;> rename_i hc <;> split at h <;> rename_i hd
    · simp only [List.cons.injEq, true_and] at h
      rw [h.1, esc_inj r s h.2]
    · simp only [List.cons.injEq] at h
      exact absurd (Or.inr h.1.symm) hd
    · simp only [List.cons.injEq] at h
      exact absurd (Or.inr h.1) hc
    · simp only [List.cons.injEq] at h
      rw [h.1, esc_inj r s h.2]

theorem digit_val (a b : Nat) (ha : a < 10) (hb : b < 10) (h : UInt8.ofNat (48 + a) = UInt8.ofNat (48 + b)) : a = b := by
  have h2 := congrArg UInt8.toNat h
  simp at h2
  omega
theorem decDigits_ne (u : Nat) : Lib.decDigits u ≠ [] := by
  intro h
  have h2 := Lib.decDigits_length u
  rw [h] at h2
  have := Lib.nDigits_pos u
  simp at h2
  omega
theorem decDigits_inj (u : Nat) : ∀ v, Lib.decDigits u = Lib.decDigits v → u = v := by
  induction u using Nat.strongRecOn with
  | _ u ih =>
    intro v h
    rw [Lib.decDigits, Lib.decDigits.eq_1 v] at h
    by_cases hu : u < 10 <;> by_cases hv : v < 10
    · rw [dif_pos hu, dif_pos hv] at h
      exact digit_val u v hu hv (List.cons.inj h).1
    · rw [dif_pos hu, dif_neg hv] at h
      have h3 := congrArg List.length h
      have h4 := decDigits_ne (v / 10)
      simp at h3
      exact absurd h3 h4
    · rw [dif_neg hu, dif_pos hv] at h
      have h3 := congrArg List.length h
      have h4 := decDigits_ne (u / 10)
      simp at h3
      exact absurd h3 h4
    · rw [dif_neg hu, dif_neg hv] at h
      have h5 := List.append_inj' h rfl
      have h6 := ih (u / 10) (by omega) (v / 10) h5.1
      have h7 := digit_val (u % 10) (v % 10) (by omega) (by omega) (List.cons.inj h5.2).1
      omega
theorem decDigits_head (u : Nat) : ∀ c r, Lib.decDigits u = c :: r → c ≠ 45 ∧ c ≠ 34 := by
  induction u using Nat.strongRecOn with
  | _ u ih =>
    intro c r h
    rw [Lib.decDigits] at h
    by_cases hu : u < 10
    · rw [dif_pos hu] at h
      have e := (List.cons.inj h).1
      subst e
      constructor <;> intro h2 <;> (have h3 := congrArg UInt8.toNat h2; simp at h3; omega)
    · rw [dif_neg hu] at h
      cases hd : Lib.decDigits (u / 10) with
      | nil => exact absurd hd (decDigits_ne _)
      | cons c2 r2 =>
        rw [hd] at h
        have e := (List.cons.inj h).1
        subst e
        exact ih (u / 10) (by omega) _ _ hd
theorem itoa_inj (a b : Int) (h : Lib.itoa a = Lib.itoa b) : a = b := by
  unfold Lib.itoa at h
  split at h <;> rename_i ha <;> split at h <;> rename_i hb
  · have := decDigits_inj _ _ (List.cons.inj h).2
    omega
  · exact absurd rfl (decDigits_head _ _ _ h.symm).1
  · exact absurd rfl (decDigits_head _ _ _ h).1
  · have := decDigits_inj _ _ h
    omega
theorem itoa_head (a : Int) : ∀ c r, Lib.itoa a = c :: r → c ≠ 34 := by
  intro c r h
  unfold Lib.itoa at h
  split at h
  · have e := (List.cons.inj h).1
    subst e
    decide
  · exact (decDigits_head _ _ _ h).2
/-- What a value says. -/
def say (t : Bool) (n : Int) (s : List UInt8) : List UInt8 := if t then 34 :: (esc s ++ [34]) else Lib.itoa n
theorem say_ne (t : Bool) (n : Int) (s : List UInt8) : say t n s ≠ [] := by
  unfold say
  split
  · simp
  · unfold Lib.itoa; split
    · simp
    · exact decDigits_ne _
/-- Two right values that say the same are the same. -/
theorem say_inj (t1 t2 : Bool) (n1 n2 : Int) (s1 s2 : List UInt8) (h1 : if t1 then n1 = 0 else s1 = []) (h2 : if t2 then n2 = 0 else s2 = []) (h : say t1 n1 s1 = say t2 n2 s2) : t1 = t2 ∧ n1 = n2 ∧ s1 = s2 := by
  cases t1 <;> cases t2 <;> simp [say] at h h1 h2
  · exact ⟨rfl, itoa_inj _ _ h, by rw [h1, h2]⟩
  · exact absurd rfl (itoa_head _ _ _ h)
  · exact absurd rfl (itoa_head _ _ _ h.symm)
  · exact ⟨rfl, by rw [h1, h2], esc_inj _ _ h⟩

/-! ### the order of texts -/
theorem bl_irrefl : ∀ x : List UInt8, Op.bytesLess x x = false
  | [] => rfl
  | a :: x => by simp [Op.bytesLess, bl_irrefl x]
theorem bl_cons (a b : UInt8) (x y : List UInt8) : Op.bytesLess (a :: x) (b :: y) = true ↔ a.toNat < b.toNat ∨ (a.toNat = b.toNat ∧ Op.bytesLess x y = true) := by
  simp only [Op.bytesLess, Bool.or_eq_true, decide_eq_true_eq, Bool.and_eq_true, beq_iff_eq, UInt8.lt_iff_toNat_lt]
  constructor
  · rintro (h | ⟨h, k⟩)
    · exact Or.inl h
    · exact Or.inr ⟨by rw [h], k⟩
  · rintro (h | ⟨h, k⟩)
    · exact Or.inl h
    · exact Or.inr ⟨UInt8.toNat_inj.1 h, k⟩
theorem bl_trans : ∀ x y z : List UInt8, Op.bytesLess x y = true → Op.bytesLess y z = true → Op.bytesLess x z = true
  | _, [], _, h, _ => by cases ‹List UInt8› <;> simp [Op.bytesLess] at h
  | _, _ :: _, [], _, k => by simp [Op.bytesLess] at k
  | [], _ :: _, _ :: _, _, _ => rfl
  | a :: x, b :: y, c :: z, h, k => by
    rw [bl_cons] at h k ⊢
    rcases h with h | ⟨h, h2⟩ <;> rcases k with k | ⟨k, k2⟩
    · exact Or.inl (by omega)
    · exact Or.inl (by omega)
    · exact Or.inl (by omega)
    · exact Or.inr ⟨by omega, bl_trans x y z h2 k2⟩
theorem bl_total : ∀ x y : List UInt8, Op.bytesLess x y = true ∨ x = y ∨ Op.bytesLess y x = true
  | [], [] => Or.inr (Or.inl rfl)
  | [], _ :: _ => Or.inl rfl
  | _ :: _, [] => Or.inr (Or.inr rfl)
  | a :: x, b :: y => by
    rw [bl_cons, bl_cons]
    rcases Nat.lt_trichotomy a.toNat b.toNat with h | h | h
    · exact Or.inl (Or.inl h)
    · rcases bl_total x y with k | k | k
      · exact Or.inl (Or.inr ⟨h, k⟩)
      · exact Or.inr (Or.inl (by rw [k, UInt8.toNat_inj.1 h]))
      · exact Or.inr (Or.inr (Or.inr ⟨h.symm, k⟩))
    · exact Or.inr (Or.inr (Or.inl h))
theorem bl_asymm (x y : List UInt8) (h : Op.bytesLess x y = true) : Op.bytesLess y x = false := by
  cases k : Op.bytesLess y x
  · rfl
  · have := bl_trans x y x h k
    rw [bl_irrefl] at this
    cases this

/-- Is one value ahead of another one? -/
def lessV (t1 : Bool) (n1 : Int) (s1 : List UInt8) (t2 : Bool) (n2 : Int) (s2 : List UInt8) : Bool :=
  if t1 then t2 && Op.bytesLess s1 s2 else t2 || decide (n1 < n2)
theorem lessV_irrefl (t : Bool) (n : Int) (s : List UInt8) : lessV t n s t n s = false := by
  cases t <;> simp [lessV, bl_irrefl]
theorem lessV_asymm (t1 : Bool) (n1 : Int) (s1 : List UInt8) (t2 : Bool) (n2 : Int) (s2 : List UInt8) (h : lessV t1 n1 s1 t2 n2 s2 = true) : lessV t2 n2 s2 t1 n1 s1 = false := by
  cases t1 <;> cases t2 <;> simp [lessV] at h ⊢
  · omega
  · exact bl_asymm _ _ h
theorem lessV_trans (t1 : Bool) (n1 : Int) (s1 : List UInt8) (t2 : Bool) (n2 : Int) (s2 : List UInt8) (t3 : Bool) (n3 : Int) (s3 : List UInt8) (h : lessV t1 n1 s1 t2 n2 s2 = true) (k : lessV t2 n2 s2 t3 n3 s3 = true) : lessV t1 n1 s1 t3 n3 s3 = true := by
  cases t1 <;> cases t2 <;> cases t3 <;> simp [lessV] at h k ⊢
  · omega
  · exact bl_trans _ _ _ h k
/-- Of two right values that are not the same one is ahead. -/
theorem lessV_total (t1 t2 : Bool) (n1 n2 : Int) (s1 s2 : List UInt8) (h1 : if t1 then n1 = 0 else s1 = []) (h2 : if t2 then n2 = 0 else s2 = []) :
    lessV t1 n1 s1 t2 n2 s2 = true ∨ (t1 = t2 ∧ n1 = n2 ∧ s1 = s2) ∨ lessV t2 n2 s2 t1 n1 s1 = true := by
  cases t1 <;> cases t2 <;> simp [lessV] at h1 h2 ⊢
  · rcases Int.lt_trichotomy n1 n2 with h | h | h
    · exact Or.inl h
    · exact Or.inr (Or.inl ⟨h, by rw [h1, h2]⟩)
    · exact Or.inr (Or.inr h)
  · rcases bl_total s1 s2 with h | h | h
    · exact Or.inl h
    · exact Or.inr (Or.inl ⟨by rw [h1, h2], h⟩)
    · exact Or.inr (Or.inr h)
end Go.Proofs.Ytonoadjmglkhaaa.VaP
