/-
  The document's own Implies (package broadsideref1). No condition.
-/
import Derived.Test.YtdomincmoaahoaaRlRefH
namespace Go.Proofs.Ytdomincmoaahoaa.Rl
open Go.RowKit Go.Proofs.Ytdomincmoaahoaa Go.Proofs.Ytdomincmoaahoaa.Pu Go.Proofs.Ytdomincmoaahoaa.Rw Go.Proofs.Ytdomincmoaahoaa.Pr Go.Proofs.Ytdomincmoaahoaa.Va

set_option maxRecDepth 100000 in
set_option maxHeartbeats 4000000 in
theorem imp_rr (n1 n2 : ByteArray) (lo1 hi1 : Int) (lo2 hi2 : Int) (w : World) : Calls Try.prog 33 #[cv (r5 (n1, (.rg lo1 hi1))), cv (r5 (n2, (.rg lo2 hi2)))] w fun e w' => e = .returned (.bool (impliesK (.rg lo1 hi1) (.rg lo2 hi2))) ∧ Below w.heap.size w w' := by
  simp only [r5, kN, kLo, kHi, kT]
  have B := Lib.hid (rC w n1 1 lo1 hi1 ⟨#[]⟩ n2 1 lo2 hi2 ⟨#[]⟩)
  have R := Lib.hid (show impliesK (.rg lo1 hi1) (.rg lo2 hi2) = (decide (lo2 ≤ lo1) && decide (hi1 ≤ hi2)) from rfl)
  generalize impliesK (.rg lo1 hi1) (.rg lo2 hi2) = r at *
  by_cases h1 : lo2 ≤ lo1 <;> have H1 := Lib.hid h1 <;> go_enter Try.func33, Try.ntmps33 <;> go_wp2 <;> go_ret <;> exact ⟨ret_bool (by rw [R.out]; have h := H1.out; simp [h] <;> omega), B.out⟩
set_option maxRecDepth 100000 in
set_option maxHeartbeats 4000000 in
theorem imp_rt (n1 n2 : ByteArray) (lo1 hi1 : Int) (u2 : ByteArray) (w : World) : Calls Try.prog 33 #[cv (r5 (n1, (.rg lo1 hi1))), cv (r5 (n2, (.tx u2)))] w fun e w' => e = .returned (.bool (impliesK (.rg lo1 hi1) (.tx u2))) ∧ Below w.heap.size w w' := by
  simp only [r5, kN, kLo, kHi, kT]
  have B := Lib.hid (rC w n1 1 lo1 hi1 ⟨#[]⟩ n2 2 0 0 u2)
  have R := Lib.hid (show impliesK (.rg lo1 hi1) (.tx u2) = (false) from rfl)
  generalize impliesK (.rg lo1 hi1) (.tx u2) = r at *
  go_enter Try.func33, Try.ntmps33 <;> go_wp2 <;> go_ret <;> exact ⟨ret_bool (by rw [R.out]), B.out⟩
set_option maxRecDepth 100000 in
set_option maxHeartbeats 4000000 in
theorem imp_rp (n1 n2 : ByteArray) (lo1 hi1 : Int) (u2 : ByteArray) (w : World) : Calls Try.prog 33 #[cv (r5 (n1, (.rg lo1 hi1))), cv (r5 (n2, (.pr u2)))] w fun e w' => e = .returned (.bool (impliesK (.rg lo1 hi1) (.pr u2))) ∧ Below w.heap.size w w' := by
  simp only [r5, kN, kLo, kHi, kT]
  have B := Lib.hid (rC w n1 1 lo1 hi1 ⟨#[]⟩ n2 3 0 0 u2)
  have R := Lib.hid (show impliesK (.rg lo1 hi1) (.pr u2) = (false) from rfl)
  generalize impliesK (.rg lo1 hi1) (.pr u2) = r at *
  go_enter Try.func33, Try.ntmps33 <;> go_wp2 <;> go_ret <;> exact ⟨ret_bool (by rw [R.out]), B.out⟩
set_option maxRecDepth 100000 in
set_option maxHeartbeats 4000000 in
theorem imp_tr (n1 n2 : ByteArray) (u1 : ByteArray) (lo2 hi2 : Int) (w : World) : Calls Try.prog 33 #[cv (r5 (n1, (.tx u1))), cv (r5 (n2, (.rg lo2 hi2)))] w fun e w' => e = .returned (.bool (impliesK (.tx u1) (.rg lo2 hi2))) ∧ Below w.heap.size w w' := by
  simp only [r5, kN, kLo, kHi, kT]
  have B := Lib.hid (rC w n1 2 0 0 u1 n2 1 lo2 hi2 ⟨#[]⟩)
  have R := Lib.hid (show impliesK (.tx u1) (.rg lo2 hi2) = (false) from rfl)
  generalize impliesK (.tx u1) (.rg lo2 hi2) = r at *
  go_enter Try.func33, Try.ntmps33 <;> go_wp2 <;> go_ret <;> exact ⟨ret_bool (by rw [R.out]), B.out⟩
set_option maxRecDepth 100000 in
set_option maxHeartbeats 4000000 in
theorem imp_tt (n1 n2 : ByteArray) (u1 : ByteArray) (u2 : ByteArray) (w : World) : Calls Try.prog 33 #[cv (r5 (n1, (.tx u1))), cv (r5 (n2, (.tx u2)))] w fun e w' => e = .returned (.bool (impliesK (.tx u1) (.tx u2))) ∧ Below w.heap.size w w' := by
  simp only [r5, kN, kLo, kHi, kT]
  have B := Lib.hid (rC w n1 2 0 0 u1 n2 2 0 0 u2)
  have R := Lib.hid (show impliesK (.tx u1) (.tx u2) = (u1.data.toList == u2.data.toList) from rfl)
  generalize impliesK (.tx u1) (.tx u2) = r at *
  go_enter Try.func33, Try.ntmps33 <;> go_wp2 <;> go_ret <;> exact ⟨ret_bool (by rw [R.out]; simp [Lib.toList_data]), B.out⟩
set_option maxRecDepth 100000 in
set_option maxHeartbeats 4000000 in
theorem imp_tp (n1 n2 : ByteArray) (u1 : ByteArray) (u2 : ByteArray) (w : World) : Calls Try.prog 33 #[cv (r5 (n1, (.tx u1))), cv (r5 (n2, (.pr u2)))] w fun e w' => e = .returned (.bool (impliesK (.tx u1) (.pr u2))) ∧ Below w.heap.size w w' := by
  simp only [r5, kN, kLo, kHi, kT]
  have B := Lib.hid (rC w n1 2 0 0 u1 n2 3 0 0 u2)
  have R := Lib.hid (show impliesK (.tx u1) (.pr u2) = (pfx u2 u1) from rfl)
  generalize impliesK (.tx u1) (.pr u2) = r at *
  go_enter Try.func33, Try.ntmps33
  go_wp2_with fail
  refine (begins_any u1 u2 _).mono ?_
  rintro e w' ⟨rfl, rfl⟩
  go_wp2
  go_ret
  exact ⟨ret_bool (by rw [R.out]), B.out⟩
set_option maxRecDepth 100000 in
set_option maxHeartbeats 4000000 in
theorem imp_pr (n1 n2 : ByteArray) (u1 : ByteArray) (lo2 hi2 : Int) (w : World) : Calls Try.prog 33 #[cv (r5 (n1, (.pr u1))), cv (r5 (n2, (.rg lo2 hi2)))] w fun e w' => e = .returned (.bool (impliesK (.pr u1) (.rg lo2 hi2))) ∧ Below w.heap.size w w' := by
  simp only [r5, kN, kLo, kHi, kT]
  have B := Lib.hid (rC w n1 3 0 0 u1 n2 1 lo2 hi2 ⟨#[]⟩)
  have R := Lib.hid (show impliesK (.pr u1) (.rg lo2 hi2) = (false) from rfl)
  generalize impliesK (.pr u1) (.rg lo2 hi2) = r at *
  go_enter Try.func33, Try.ntmps33 <;> go_wp2 <;> go_ret <;> exact ⟨ret_bool (by rw [R.out]), B.out⟩
set_option maxRecDepth 100000 in
set_option maxHeartbeats 4000000 in
theorem imp_pt (n1 n2 : ByteArray) (u1 : ByteArray) (u2 : ByteArray) (w : World) : Calls Try.prog 33 #[cv (r5 (n1, (.pr u1))), cv (r5 (n2, (.tx u2)))] w fun e w' => e = .returned (.bool (impliesK (.pr u1) (.tx u2))) ∧ Below w.heap.size w w' := by
  simp only [r5, kN, kLo, kHi, kT]
  have B := Lib.hid (rC w n1 3 0 0 u1 n2 2 0 0 u2)
  have R := Lib.hid (show impliesK (.pr u1) (.tx u2) = (false) from rfl)
  generalize impliesK (.pr u1) (.tx u2) = r at *
  go_enter Try.func33, Try.ntmps33 <;> go_wp2 <;> go_ret <;> exact ⟨ret_bool (by rw [R.out]), B.out⟩
set_option maxRecDepth 100000 in
set_option maxHeartbeats 4000000 in
theorem imp_pp (n1 n2 : ByteArray) (u1 : ByteArray) (u2 : ByteArray) (w : World) : Calls Try.prog 33 #[cv (r5 (n1, (.pr u1))), cv (r5 (n2, (.pr u2)))] w fun e w' => e = .returned (.bool (impliesK (.pr u1) (.pr u2))) ∧ Below w.heap.size w w' := by
  simp only [r5, kN, kLo, kHi, kT]
  have B := Lib.hid (rC w n1 3 0 0 u1 n2 3 0 0 u2)
  have R := Lib.hid (show impliesK (.pr u1) (.pr u2) = (pfx u2 u1) from rfl)
  generalize impliesK (.pr u1) (.pr u2) = r at *
  go_enter Try.func33, Try.ntmps33
  go_wp2_with fail
  refine (begins_any u1 u2 _).mono ?_
  rintro e w' ⟨rfl, rfl⟩
  go_wp2
  go_ret
  exact ⟨ret_bool (by rw [R.out]), B.out⟩
theorem implies_any (c d : Cn) (w : World) : Calls Try.prog 33 #[cv (r5 c), cv (r5 d)] w fun e w' => e = .returned (.bool (impliesK c.2 d.2)) ∧ Below w.heap.size w w' := by
  obtain ⟨n1, k1⟩ := c
  obtain ⟨n2, k2⟩ := d
  cases k1 <;> cases k2
  · exact imp_rr _ _ _ _ _ _ _
  · exact imp_rt _ _ _ _ _ _
  · exact imp_rp _ _ _ _ _ _
  · exact imp_tr _ _ _ _ _ _
  · exact imp_tt _ _ _ _ _
  · exact imp_tp _ _ _ _ _
  · exact imp_pr _ _ _ _ _ _
  · exact imp_pt _ _ _ _ _
  · exact imp_pp _ _ _ _ _
end Go.Proofs.Ytdomincmoaahoaa.Rl
