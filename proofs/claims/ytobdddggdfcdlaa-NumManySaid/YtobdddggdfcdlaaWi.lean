/-
  Within of the statements' own package: a number brought into bounds. Condition: bounds up to a million; numbers of 64 bits.
-/
import Derived.Test.YtobdddggdfcdlaaProg
import Derived.WalkKit
import Derived.Lib.Hide
namespace Go.Proofs.Ytobdddggdfcdlaa.Wi
open Go.RowKit

/-- n brought into lo .. hi. -/
def within (n lo hi : Int) : Int := lo + n % (hi - lo + 1)
theorem within_bd (n lo hi : Int) (h : lo ≤ hi) : lo ≤ within n lo hi ∧ within n lo hi ≤ hi := by
  unfold within
  have h1 := Int.emod_nonneg n (show hi - lo + 1 ≠ 0 by omega)
  have h2 := Int.emod_lt_of_pos n (show 0 < hi - lo + 1 by omega)
  omega
theorem within_pos (n lo hi : Int) (h : lo ≤ hi) (hn : ¬ n.tmod (hi - lo + 1) < 0) : lo + n.tmod (hi - lo + 1) = within n lo hi := by
  unfold within
  rw [Int.tmod_eq_emod] at hn ⊢
  split at hn
  · rename_i h0; rw [if_pos h0]; omega
  · rename_i h0
    rw [if_neg h0] at *
    have h2 := Int.emod_lt_of_pos n (show 0 < hi - lo + 1 by omega)
    have : ((hi - lo + 1).natAbs : Int) = hi - lo + 1 := by omega
    omega
theorem within_neg (n lo hi : Int) (h : lo ≤ hi) (hn : n.tmod (hi - lo + 1) < 0) : lo + (n.tmod (hi - lo + 1) + hi - lo + 1) = within n lo hi := by
  unfold within
  rw [Int.tmod_eq_emod] at hn ⊢
  split at hn
  · have h1 := Int.emod_nonneg n (show hi - lo + 1 ≠ 0 by omega)
    omega
  · rename_i h0
    rw [if_neg h0] at *
    have : ((hi - lo + 1).natAbs : Int) = hi - lo + 1 := by omega
    omega
theorem tmod_bd (n m : Int) (h : 0 < m) : -m < n.tmod m ∧ n.tmod m < m := by
  rw [Int.tmod_eq_emod]
  have h1 := Int.emod_nonneg n (show m ≠ 0 by omega)
  have h2 := Int.emod_lt_of_pos n h
  split <;> omega
theorem ret_int {k : IntKind} {a b : Int} (h : a = b) : Ending.returned (.int k a) = .returned (.int k b) := by rw [h]

set_option maxHeartbeats 1000000 in
theorem within_any (n lo hi : Int) (w : World) (h : lo ≤ hi) (h1 : -1000000 ≤ lo) (h2 : hi ≤ 1000000) (_hn1 : -9223372036854775808 ≤ n) (_hn2 : n ≤ 9223372036854775807) :
    Calls Try.prog 19 #[.int .i64 n, .int .i64 lo, .int .i64 hi] w fun e w' => e = .returned (.int .i64 (within n lo hi)) ∧ w = w' := by
  have hm : 0 < hi - lo + 1 := by omega
  have hm2 : hi - lo + 1 ≤ 2000001 := by omega
  have hb := tmod_bd n (hi - lo + 1) hm
  have P := Lib.hid (within_pos n lo hi h)
  have Q := Lib.hid (within_neg n lo hi h)
  go_enter Try.func19, Try.ntmps19
  go_wp2
  · go_ret
    exact ⟨ret_int (Q.out (by omega)), rfl⟩
  · go_ret
    exact ⟨ret_int (P.out (by omega)), rfl⟩

end Go.Proofs.Ytobdddggdfcdlaa.Wi
