/-
  Plain facts on how predicates are to each other: match, meet, cover. Conditions as told.
-/
import Derived.Test.YtmklifheakemeaaGreatfr004
import Derived.Test.YtmklifheakemeaaGreatfr005
import Derived.Test.YtmklifheakemeaaGreatfr007
import Derived.Lib.Strings
import Derived.Lib.Hide
set_option maxRecDepth 100000
set_option maxHeartbeats 64000000
namespace Go.Proofs.YtmklifheakemeaaGreat.Rl
open Go.RowKit Pu Pr
def meetsB (a b : List Cn) : Bool := match foldC a.length a b with
 | .ok _ => true
 | .error _ => false
theorem rise_head {c : Cn} {r : List Cn} (h : RiseC (c :: r)) : ∀ y ∈ r,y.1 ≠ c.1 := fun y hy e => less_ne ((List.pairwise_cons.1 h).1 y hy) e.symm
/-! ### match -/
theorem uniqC {l : List Cn} (h : RiseC l) {x y : Cn} (hx : x ∈ l) (hy : y ∈ l) (e : x.1 = y.1) : x = y := by
 induction l with
 | nil => cases hx
 | cons z r ih =>
  have h1 := rise_head h
  have h2 := (List.pairwise_cons.1 h).2
  rcases List.mem_cons.1 hx with rfl | hx2 <;> rcases List.mem_cons.1 hy with rfl | hy2
  ·rfl
  ·exact absurd e.symm (h1 y hy2)
  ·exact absurd e (h1 x hx2)
  ·exact ih h2 hx2 hy2
/-! ### cover -/
def impliesK : Kd → Kd → Bool
 | .rg p q,.rg r s => decide (r ≤ p) && decide (q ≤ s)
 | .tx s,.tx t => s.data.toList == t.data.toList
 | .tx s,.pr t => pfx t s
 | .pr s,.pr t => pfx t s
 | _,_ => false
theorem implies_holds (a b : Kd) (h : impliesK a b = true) (v : V3) (hv : holdsK a v = true) : holdsK b v = true := by
 obtain ⟨t,n,u⟩ := v
 cases a <;> cases b <;> simp only [impliesK,Bool.and_eq_true,decide_eq_true_eq,beq_iff_eq] at h <;> simp only [holdsK,Bool.and_eq_true,decide_eq_true_eq,beq_iff_eq] at hv ⊢
 ·exact ⟨hv.1,by omega,by omega⟩
 ·cases h
 ·cases h
 ·cases h
 ·exact ⟨hv.1,hv.2.trans h⟩
 ·exact ⟨hv.1,by rw [pfx_iff,hv.2,← pfx_iff]; exact h⟩
 ·cases h
 ·cases h
 ·exact ⟨hv.1,(pfx_iff _ _).2 (((pfx_iff _ _).1 h).trans ((pfx_iff _ _).1 hv.2))⟩
theorem holds_implies (a b : Kd) (ha : goodK a = true) (h : ∀ v,holdsK a v = true → holdsK b v = true) : impliesK a b = true := by
 cases a with
 | rg p q =>
  simp only [goodK,decide_eq_true_eq] at ha
  have h1 := h (false,p,⟨#[]⟩) (by rw [hold_n]; simp [ha])
  have h2 := h (false,q,⟨#[]⟩) (by rw [hold_n]; simp [ha])
  cases b with
  | rg r s =>
   rw [hold_n] at h1 h2
   simp only [Bool.and_eq_true,decide_eq_true_eq] at h1 h2
   simp [impliesK,h1.1,h2.2]
  | tx t => simp [holdsK] at h1
  | pr t => simp [holdsK] at h1
 | tx s =>
  have h1 := h (true,0,s) (by rw [hold_tx]; simp)
  cases b with
  | rg r t => rw [hold_rg] at h1; cases h1
  | tx t => rw [hold_tx] at h1; exact h1
  | pr t => rw [hold_pr] at h1; exact h1
 | pr s =>
  have h1 := h (true,0,s) (by rw [hold_pr]; exact pfx_self s)
  cases b with
  | rg r t => rw [hold_rg] at h1; cases h1
  | tx t =>
   have h2 := h (true,0,more s) (by rw [hold_pr]; exact pfx_more s)
   rw [hold_tx,beq_iff_eq] at h1 h2
   rw [← h1] at h2
   have h3 := congrArg List.length h2
   simp [more] at h3
  | pr t => rw [hold_pr] at h1; exact h1
def coversL (a b : List Cn) : Bool := a.all fun x => b.any fun y => decide (y.1 = x.1) && impliesK y.2 x.2
end Go.Proofs.YtmklifheakemeaaGreat.Rl
namespace Go.Proofs.YtmklifheakemeaaGreat.Rl
open Go.RowKit Pu Rw Pr Va
end Go.Proofs.YtmklifheakemeaaGreat.Rl
namespace Go.Proofs.YtmklifheakemeaaGreat.Rl
open Go.RowKit Pu Rw Pr Va
end Go.Proofs.YtmklifheakemeaaGreat.Rl
