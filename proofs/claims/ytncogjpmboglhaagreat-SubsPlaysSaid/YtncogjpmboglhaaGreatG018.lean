/-
  What a predicate of numbers is; what lists of constraints are small. Conditions as told.
-/
import Derived.Test.YtncogjpmboglhaaGreatG017
import Derived.Test.YtncogjpmboglhaaGreatG007
set_option maxRecDepth 100000
set_option maxHeartbeats 64000000
namespace Go.Proofs.YtncogjpmboglhaaGreat.Pr
open Go.RowKit Pu Rw Va Kp
def smallC (c : Cn) : Prop := c.1.size ≤ 100 ∧ (kT c.2).size ≤ 100 ∧ (-9223372036854775808 ≤ kLo c.2 ∧ kLo c.2 ≤ 9223372036854775807) ∧ (-9223372036854775808 ≤ kHi c.2 ∧ kHi c.2 ≤ 9223372036854775807)
structure NF (l : List Cn) : Prop where
 rise : RiseC l
 five : l.length ≤ 5
 good : ∀ c ∈ l,goodC c = true
 small : ∀ c ∈ l,smallC c
theorem NF.goodK {l : List Cn} (h : NF l) : ∀ c ∈ l,Pr.goodK c.2 = true := fun c hc => by
 have := h.good c hc
 simp only [goodC,Bool.and_eq_true] at this
 exact this.2
theorem nameB_nm (i : Nat) (h : i < 7) : nameB (nm i) = true := by
 match i,h with
 | 0,_ => decide
 | 1,_ => decide
 | 2,_ => decide
 | 3,_ => decide
 | 4,_ => decide
 | 5,_ => decide
 | 6,_ => decide
theorem nm_size (i : Nat) : (nm i).size = 1 := rfl
theorem kd_small (n : Int) : (kT (kdOf n)).size ≤ 100 ∧ (-9223372036854775808 ≤ kLo (kdOf n) ∧ kLo (kdOf n) ≤ 9223372036854775807) ∧ (-9223372036854775808 ≤ kHi (kdOf n) ∧ kHi (kdOf n) ≤ 9223372036854775807) := by
 have h1 := Wi.within_bd (n.tdiv 4) 0 9 (by omega)
 have h2 := Wi.within_bd (n.tdiv 40) 0 9 (by omega)
 have ht : (tx6 n).size ≤ 3 := txt_size _
 unfold kdOf lo9
 split
 ·refine ⟨by show (0 : Nat) ≤ 100; omega,?_,?_⟩ <;> simp only [kLo,kHi] <;> omega
 ·split
  ·refine ⟨by show (tx6 n).size ≤ 100; omega,?_,?_⟩ <;> simp only [kLo,kHi] <;> omega
  ·refine ⟨by show (tx6 n).size ≤ 100; omega,?_,?_⟩ <;> simp only [kLo,kHi] <;> omega
theorem prd_small (has vals : List Int) : ∀ k,∀ x ∈ prd has vals k,smallC x
 | 0,x,h => by simp [prd] at h
 | k + 1,x,h => by
  simp only [prd] at h
  split at h
  ·rcases List.mem_append.1 h with h | h
   ·exact prd_small has vals k x h
   ·simp at h
    rw [h]
    exact ⟨by show (nm k).size ≤ 100; rw [nm_size]; omega,kd_small _⟩
  ·exact prd_small has vals k x h
theorem prd_nf (has vals : List Int) : NF (prd has vals 7) :=
 ⟨prd_rise has vals 7 (Nat.le_refl _),prd_five has vals 7,fun c hc => by
  obtain ⟨i,h1,h2⟩ := prd_names has vals 7 c hc
  simp only [goodC,Bool.and_eq_true]
  exact ⟨by rw [h2]; exact nameB_nm i h1,prd_good has vals 7 c hc⟩,prd_small has vals 7⟩
theorem r5_inj {a b : Cn} (h : r5 a = r5 b) : a = b := by
 obtain ⟨n,a⟩ := a
 obtain ⟨m,b⟩ := b
 simp only [r5,Prod.mk.injEq] at h
 obtain ⟨rfl,h1,h2,h3,h4⟩ := h
 cases a <;> cases b <;> simp [kN,kLo,kHi,kT] at h1 h2 h3 h4 <;> simp [*]
end Go.Proofs.YtncogjpmboglhaaGreat.Pr
