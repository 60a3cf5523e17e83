/-
  The graphs that broadsidekeep's numbers make: they are right. Pure facts; no program's function in it.
-/
import Derived.Test.YtbnfndcbhnjnaaaDoorGrKeep
import Derived.Test.YtbnfndcbhnjnaaaDoorBl
namespace Go.Proofs.YtbnfndcbhnjnaaaDoor.Gr
open Go.RowKit Go.Proofs.YtbnfndcbhnjnaaaDoor Go.Proofs.YtbnfndcbhnjnaaaDoor.Rw Go.Proofs.YtbnfndcbhnjnaaaDoor.Kp Go.Proofs.YtbnfndcbhnjnaaaDoor.In Go.Proofs.YtbnfndcbhnjnaaaDoor.Wi

theorem put_good {n : Int} {s : List Lk} {a b : Int} (h : Good n s) (ha : 0 ≤ a ∧ a < n) (hb : 0 ≤ b ∧ b < n) : Good n (putL s a b) := by
  unfold putL
  split
  · exact h
  · rename_i hno
    refine good_snoc.2 ⟨h, ?_⟩
    rw [← Bool.not_eq_true, badB_iff]
    rintro (h1 | h1 | h1 | h1)
    · exact h1 ⟨ha, hb⟩
    · exact hno (Or.inl h1)
    · exact hno (Or.inr (Or.inl h1))
    · exact hno (Or.inr (Or.inr h1))
theorem put_sub (s : List Lk) (a b : Int) : ∀ l, l ∈ s → l ∈ putL s a b := fun l hl => by
  unfold putL
  split
  · exact hl
  · exact List.mem_append_left _ hl
theorem put_adj (s : List Lk) {a b : Int} (h : a ≠ b) : Adj (putL s a b) a b := by
  unfold putL
  split
  · rename_i h1
    rcases h1 with h1 | h1 | h1
    · exact absurd h1 h
    · exact Or.inl h1
    · exact Or.inr h1
  · exact Or.inl (by simp)
theorem under_good (us : List Int) (n : Int) : ∀ k : Nat, (k : Int) + 1 ≤ n → Good n (underL us k)
  | 0, _ => good_nil n
  | k + 1, hk => by
    have hb := within_bd (pickZ us (k + 1)) 0 k (by omega)
    exact put_good (under_good us n k (by omega)) ⟨by omega, by omega⟩ ⟨by omega, by omega⟩
theorem under_all (us : List Int) : ∀ (k : Nat) (v : Int), 0 ≤ v → v ≤ k → ∃ j, Wk (underL us k) j 0 v
  | 0, v, h1, h2 => ⟨0, show (0 : Int) = v by omega⟩
  | k + 1, v, h1, h2 => by
    have hb := within_bd (pickZ us (k + 1)) 0 k (by omega)
    by_cases e : v ≤ k
    · obtain ⟨j, hj⟩ := under_all us k v h1 e
      exact ⟨j, hj.more (put_sub _ _ _)⟩
    · obtain rfl : v = (k : Int) + 1 := by omega
      obtain ⟨j, hj⟩ := under_all us k (within (pickZ us (k + 1)) 0 k) hb.1 hb.2
      exact ⟨j + 1, _, hj.more (put_sub _ _ _), (put_adj _ (by omega)).symm⟩
theorem more_good {n : Int} (h1 : 1 ≤ n) {s : List Lk} (h : Good n s) (ms : List Int) : ∀ k, Good n (moreL s n ms k)
  | 0 => h
  | k + 1 => by
    have ha := within_bd (ms.getD k 0) 0 (n - 1) (by omega)
    have hb := within_bd ((ms.getD k 0).tdiv 8) 0 (n - 1) (by omega)
    exact put_good (more_good h1 h ms k) ⟨by omega, by omega⟩ ⟨by omega, by omega⟩
theorem more_sub (s : List Lk) (n : Int) (ms : List Int) : ∀ k l, l ∈ s → l ∈ moreL s n ms k
  | 0, _l, h => h
  | k + 1, l, h => put_sub _ _ _ l (more_sub s n ms k l h)
theorem brokers_bd (n : Int) : 1 ≤ brokersK n ∧ brokersK n ≤ 7 := within_bd n 1 7 (by omega)
theorem links_len (n : Int) (us ms : List Int) : (linksK n us ms).length ≤ 14 := by
  have h1 := brokers_bd n
  have h2 := more_len (underL us (brokersK n - 1).toNat) (brokersK n) ms (min ms.length 8)
  have h3 := under_len us (brokersK n - 1).toNat
  unfold linksK
  omega
theorem links_right (n : Int) (us ms : List Int) : RightG (brokersK n) (linksK n us ms) := by
  have h1 := brokers_bd n
  have hg := more_good h1.1 (under_good us (brokersK n) (brokersK n - 1).toNat (by omega)) ms (min ms.length 8)
  refine right_iff.2 ⟨⟨h1.1, by omega, by have := links_len n us ms; omega⟩, hg, fun v h2 h3 => ?_⟩
  obtain ⟨j, hj⟩ := under_all us (brokersK n - 1).toNat v h2 (by omega)
  exact ⟨j, hj.more (more_sub _ _ _ _)⟩
end Go.Proofs.YtbnfndcbhnjnaaaDoor.Gr
