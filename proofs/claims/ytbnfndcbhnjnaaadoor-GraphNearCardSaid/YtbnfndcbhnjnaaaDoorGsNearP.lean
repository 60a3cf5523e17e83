/-
  Links told in another order, or the other way round: the same graph. How many are near whom, all together. Pure facts; no program's function in it.
-/
import Derived.Test.YtbnfndcbhnjnaaaDoorBl
namespace Go.Proofs.YtbnfndcbhnjnaaaDoor.Gr
open Go.RowKit Go.Sort Go.Proofs.YtbnfndcbhnjnaaaDoor Go.Proofs.YtbnfndcbhnjnaaaDoor.Rw

theorem Wk.adj {ls ms : List Lk} (h : ∀ a b, Adj ls a b → Adj ms a b) : ∀ {k : Nat} {a b : Int}, Wk ls k a b → Wk ms k a b
  | 0, _a, _b, h1 => h1
  | _k + 1, _a, _b, ⟨c, h1, h2⟩ => ⟨c, h1.adj h, h _ _ h2⟩
/-- The same graph, told otherwise. -/
structure SameG (n : Int) (l ls : List Lk) : Prop where
  len : ls.length = l.length
  right : RightG n ls
  adj : ∀ a b, Adj ls a b ↔ Adj l a b
theorem SameG.refl {n : Int} {l : List Lk} (h : RightG n l) : SameG n l l := ⟨rfl, h, fun _ _ => Iff.rfl⟩
/-- One link put ahead, the other way round. -/
def turnL (ls : List Lk) (j : Nat) (x : Lk) : List Lk := (x.2, x.1) :: (ls.take j ++ ls.drop (j + 1))
theorem split_at {ls : List Lk} {j : Nat} {x : Lk} (hx : ls[j]? = some x) : ls = ls.take j ++ x :: ls.drop (j + 1) := by
  obtain ⟨h1, h2⟩ := List.getElem?_eq_some_iff.1 hx
  rw [← h2]
  simp
theorem turn_mem {ls : List Lk} {j : Nat} {x : Lk} (hx : ls[j]? = some x) (p : Lk) : p ∈ ls ↔ p = x ∨ p ∈ ls.take j ++ ls.drop (j + 1) := by
  conv => lhs; rw [split_at hx]
  simp only [List.mem_append, List.mem_cons]
  constructor
  · rintro (h | h | h)
    · exact Or.inr (Or.inl h)
    · exact Or.inl h
    · exact Or.inr (Or.inr h)
  · rintro (h | h | h)
    · exact Or.inr (Or.inl h)
    · exact Or.inl h
    · exact Or.inr (Or.inr h)
theorem turn_adj {ls : List Lk} {j : Nat} {x : Lk} (hx : ls[j]? = some x) (a b : Int) : Adj (turnL ls j x) a b ↔ Adj ls a b := by
  unfold Adj turnL
  rw [turn_mem hx, turn_mem hx]
  simp only [List.mem_cons]
  obtain ⟨x1, x2⟩ := x
  simp only [Prod.mk.injEq]
  constructor
  · rintro ((h | h) | (h | h))
    · exact Or.inr (Or.inl ⟨h.2, h.1⟩)
    · exact Or.inl (Or.inr h)
    · exact Or.inl (Or.inl ⟨h.2, h.1⟩)
    · exact Or.inr (Or.inr h)
  · rintro ((h | h) | (h | h))
    · exact Or.inr (Or.inl ⟨h.2, h.1⟩)
    · exact Or.inl (Or.inr h)
    · exact Or.inl (Or.inl ⟨h.2, h.1⟩)
    · exact Or.inr (Or.inr h)
theorem swap_ne {l m : Lk} (h : m ≠ l ∧ m ≠ (l.2, l.1)) : l ≠ m ∧ l ≠ (m.2, m.1) := ⟨fun e => h.1 e.symm, fun e => h.2 (by rw [e])⟩
theorem turn_simp {ls : List Lk} {j : Nat} {x : Lk} (hx : ls[j]? = some x) (h : Simp ls) : Simp (turnL ls j x) := by
  have hp : ls.Perm (x :: (ls.take j ++ ls.drop (j + 1))) := by
    conv => lhs; rw [split_at hx]
    exact List.perm_middle
  have h1 := (hp.pairwise_iff (R := fun l m : Lk => m ≠ l ∧ m ≠ (l.2, l.1)) (fun h => swap_ne h)).1 h.1
  obtain ⟨h2, h3⟩ := List.pairwise_cons.1 h1
  refine ⟨List.pairwise_cons.2 ⟨fun m hm => ?_, h3⟩, fun l hl => ?_⟩
  · have h4 := h2 m hm
    exact ⟨h4.2, h4.1⟩
  · rcases List.mem_cons.1 hl with rfl | hl
    · exact (h.2 x (List.mem_of_getElem? hx)).symm
    · exact h.2 l ((turn_mem hx l).2 (Or.inr hl))
theorem SameG.turn {n : Int} {l ls : List Lk} (h : SameG n l ls) {j : Nat} {x : Lk} (hx : ls[j]? = some x) : SameG n l (turnL ls j x) := by
  have hj := (List.getElem?_eq_some_iff.1 hx).1
  have hlen : (turnL ls j x).length = ls.length := by
    unfold turnL
    simp
    omega
  refine ⟨hlen.trans h.len, ⟨h.right.lo, h.right.hi, by rw [hlen]; exact h.right.few, fun p hp => ?_, turn_simp hx h.right.simp, fun v h1 h2 => ?_⟩, fun a b => (turn_adj hx a b).trans (h.adj a b)⟩
  · rcases List.mem_cons.1 hp with rfl | hp
    · exact (h.right.ok x (List.mem_of_getElem? hx)).symm
    · exact h.right.ok p ((turn_mem hx p).2 (Or.inr hp))
  · obtain ⟨k, hk⟩ := h.right.all v h1 h2
    exact ⟨k, hk.adj fun a b hab => (turn_adj hx a b).2 hab⟩
theorem NearIs.same {l ls : List Lk} {b : Int} {r : List Int} (h : ∀ a b, Adj ls a b ↔ Adj l a b) (hr : NearIs ls b r) : NearIs l b r := ⟨hr.1, fun x => (hr.2 x).trans (h b x)⟩
/-- How many are near those ahead of b, all together. -/
def sumN (l : List Lk) : Nat → Nat
  | 0 => 0
  | b + 1 => sumN l b + (nearL b l).length
theorem near_size {l : List Lk} {b : Int} {r : List Int} (h : NearIs l b r) (hs : Simp l) : r.length = (nearL b l).length :=
  ((List.perm_ext_iff_of_nodup (nodup_of_rise (fun x => by omega) h.1) (near_nodup hs)).2 fun x => (h.2 x).trans mem_near.symm).length_eq
theorem sum_nil : ∀ b, sumN [] b = 0
  | 0 => rfl
  | b + 1 => by simp [sumN, sum_nil b, nearL]
theorem sum_cons (x : Lk) (l : List Lk) : ∀ b : Nat, sumN (x :: l) b = sumN l b + ((if 0 ≤ x.1 ∧ x.1 < (b : Int) then 1 else 0) + (if 0 ≤ x.2 ∧ x.2 < (b : Int) then 1 else 0))
  | 0 => by
    rw [if_neg (by omega), if_neg (by omega)]
    rfl
  | b + 1 => by
    simp only [sumN, sum_cons x l b, nearL, List.length_append, ends]
    by_cases h1 : x.1 = (b : Int) <;> by_cases h2 : x.2 = (b : Int) <;> simp only [h1, h2, if_true, if_false, List.length_cons, List.length_nil] <;> (repeat' split) <;> omega
theorem sum_all {n : Nat} : ∀ {l : List Lk}, Lok n l → sumN l n = 2 * l.length
  | [], _ => sum_nil n
  | x :: l, h => by
    have h1 := h x (List.mem_cons_self ..)
    rw [sum_cons, sum_all (l := l) (fun y hy => h y (List.mem_cons_of_mem _ hy)), if_pos h1.1, if_pos h1.2]
    simp
    omega
end Go.Proofs.YtbnfndcbhnjnaaaDoor.Gr
