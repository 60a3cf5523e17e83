/-
  The document's own Holds and Implies (package broadsideref1). Conditions as told.
-/
import Derived.Test.YtncogjpmboglhaaGreatG005
import Derived.Test.YtncogjpmboglhaaGreatG006
import Derived.Test.YtncogjpmboglhaaGreatG007
import Derived.Lib.Strings
import Derived.Lib.Hide
import Derived.Test.YtncogjpmboglhaaGreatG011
import Derived.Test.YtncogjpmboglhaaGreatG004
import Derived.Deep.LoopGhost
import Derived.Laws.Externs
import Derived.Lib.QuietBelow
import Derived.BigQuiet
set_option maxRecDepth 100000
set_option maxHeartbeats 64000000
namespace Go.Proofs.YtncogjpmboglhaaGreat.Rl
open Go.RowKit Pu Rw Pr Va
theorem begins_any (s p : ByteArray) (w : World) : Calls Tryz.prog 151 #[.string s,.string p] w fun e w' => e = .returned (.bool (pfx p s)) ∧ w' = w := by
 show Calls Tryz.prog _ _ _ fun e w' => e = .returned (.bool (Lib.hasPrefix s.data.toList p.data.toList)) ∧ w' = w
 rw [← Lib.hasPrefix_of_take,← Lib.size_eq,← Lib.size_eq]
 by_cases h : p.size ≤ s.size
 ·have e1 : (((s.size : Nat) : Int) ≥ ((p.size : Nat) : Int)) := by omega
  have H := Lib.hid h
  go_enter Tryz.func151,Tryz.ntmps151
  go_wp2
  all_goals (go_ret; refine ⟨?_,rfl⟩; show Ending.returned (Value.bool ((s.extract 0 p.size).toList == p.toList)) = _; rw [Lib.extract_toList,Lib.toList_data]; simp [h])
 ·have H := Lib.hid h
  go_enter Tryz.func151,Tryz.ntmps151
  go_wp2
  all_goals (go_ret; refine ⟨?_,rfl⟩; show Ending.returned (Value.bool false) = _; simp [H.out])
theorem rC (w : World) (nm : ByteArray) (k lo hi : Int) (u : ByteArray) (nm' : ByteArray) (k' lo' hi' : Int) (u' : ByteArray) : Below w.heap.size w ((w.alloc (.cells #[.string nm,.int .i64 k,.int .i64 lo,.int .i64 hi,.string u] 47)).alloc (.cells #[.string nm',.int .i64 k',.int .i64 lo',.int .i64 hi',.string u'] 47)) :=
 ((Below.refl w.heap.size w).alloc (Nat.le_refl _) _).alloc (by simp) _
theorem imp_rr (n1 n2 : ByteArray) (lo1 hi1 : Int) (lo2 hi2 : Int) (w : World) : Calls Tryz.prog 118 #[cv (r5 (n1,(.rg lo1 hi1))),cv (r5 (n2,(.rg lo2 hi2)))] w fun e w' => e = .returned (.bool (impliesK (.rg lo1 hi1) (.rg lo2 hi2))) ∧ Below w.heap.size w w' := by
 simp only [r5,kN,kLo,kHi,kT]
 have B := Lib.hid (rC w n1 1 lo1 hi1 ⟨#[]⟩ n2 1 lo2 hi2 ⟨#[]⟩)
 have R := Lib.hid (show impliesK (.rg lo1 hi1) (.rg lo2 hi2) = (decide (lo2 ≤ lo1) && decide (hi1 ≤ hi2)) from rfl)
 generalize impliesK (.rg lo1 hi1) (.rg lo2 hi2) = r at *
 by_cases h1 : lo2 ≤ lo1 <;> have H1 := Lib.hid h1 <;> go_enter Tryz.func118,Tryz.ntmps118 <;> go_wp2 <;> go_ret <;> exact ⟨ret_bool (by rw [R.out]; have h := H1.out; simp [h] <;> omega),B.out⟩
theorem imp_rt (n1 n2 : ByteArray) (lo1 hi1 : Int) (u2 : ByteArray) (w : World) : Calls Tryz.prog 118 #[cv (r5 (n1,(.rg lo1 hi1))),cv (r5 (n2,(.tx u2)))] w fun e w' => e = .returned (.bool (impliesK (.rg lo1 hi1) (.tx u2))) ∧ Below w.heap.size w w' := by
 simp only [r5,kN,kLo,kHi,kT]
 have B := Lib.hid (rC w n1 1 lo1 hi1 ⟨#[]⟩ n2 2 0 0 u2)
 have R := Lib.hid (show impliesK (.rg lo1 hi1) (.tx u2) = (false) from rfl)
 generalize impliesK (.rg lo1 hi1) (.tx u2) = r at *
 go_enter Tryz.func118,Tryz.ntmps118 <;> go_wp2 <;> go_ret <;> exact ⟨ret_bool (by rw [R.out]),B.out⟩
theorem imp_rp (n1 n2 : ByteArray) (lo1 hi1 : Int) (u2 : ByteArray) (w : World) : Calls Tryz.prog 118 #[cv (r5 (n1,(.rg lo1 hi1))),cv (r5 (n2,(.pr u2)))] w fun e w' => e = .returned (.bool (impliesK (.rg lo1 hi1) (.pr u2))) ∧ Below w.heap.size w w' := by
 simp only [r5,kN,kLo,kHi,kT]
 have B := Lib.hid (rC w n1 1 lo1 hi1 ⟨#[]⟩ n2 3 0 0 u2)
 have R := Lib.hid (show impliesK (.rg lo1 hi1) (.pr u2) = (false) from rfl)
 generalize impliesK (.rg lo1 hi1) (.pr u2) = r at *
 go_enter Tryz.func118,Tryz.ntmps118 <;> go_wp2 <;> go_ret <;> exact ⟨ret_bool (by rw [R.out]),B.out⟩
theorem imp_tr (n1 n2 : ByteArray) (u1 : ByteArray) (lo2 hi2 : Int) (w : World) : Calls Tryz.prog 118 #[cv (r5 (n1,(.tx u1))),cv (r5 (n2,(.rg lo2 hi2)))] w fun e w' => e = .returned (.bool (impliesK (.tx u1) (.rg lo2 hi2))) ∧ Below w.heap.size w w' := by
 simp only [r5,kN,kLo,kHi,kT]
 have B := Lib.hid (rC w n1 2 0 0 u1 n2 1 lo2 hi2 ⟨#[]⟩)
 have R := Lib.hid (show impliesK (.tx u1) (.rg lo2 hi2) = (false) from rfl)
 generalize impliesK (.tx u1) (.rg lo2 hi2) = r at *
 go_enter Tryz.func118,Tryz.ntmps118 <;> go_wp2 <;> go_ret <;> exact ⟨ret_bool (by rw [R.out]),B.out⟩
theorem imp_tt (n1 n2 : ByteArray) (u1 : ByteArray) (u2 : ByteArray) (w : World) : Calls Tryz.prog 118 #[cv (r5 (n1,(.tx u1))),cv (r5 (n2,(.tx u2)))] w fun e w' => e = .returned (.bool (impliesK (.tx u1) (.tx u2))) ∧ Below w.heap.size w w' := by
 simp only [r5,kN,kLo,kHi,kT]
 have B := Lib.hid (rC w n1 2 0 0 u1 n2 2 0 0 u2)
 have R := Lib.hid (show impliesK (.tx u1) (.tx u2) = (u1.data.toList == u2.data.toList) from rfl)
 generalize impliesK (.tx u1) (.tx u2) = r at *
 go_enter Tryz.func118,Tryz.ntmps118 <;> go_wp2 <;> go_ret <;> exact ⟨ret_bool (by rw [R.out]; simp [Lib.toList_data]),B.out⟩
theorem imp_tp (n1 n2 : ByteArray) (u1 : ByteArray) (u2 : ByteArray) (w : World) : Calls Tryz.prog 118 #[cv (r5 (n1,(.tx u1))),cv (r5 (n2,(.pr u2)))] w fun e w' => e = .returned (.bool (impliesK (.tx u1) (.pr u2))) ∧ Below w.heap.size w w' := by
 simp only [r5,kN,kLo,kHi,kT]
 have B := Lib.hid (rC w n1 2 0 0 u1 n2 3 0 0 u2)
 have R := Lib.hid (show impliesK (.tx u1) (.pr u2) = (pfx u2 u1) from rfl)
 generalize impliesK (.tx u1) (.pr u2) = r at *
 go_enter Tryz.func118,Tryz.ntmps118
 go_wp2_with fail
 refine (begins_any u1 u2 _).mono ?_
 rintro e w' ⟨rfl,rfl⟩
 go_wp2
 go_ret
 exact ⟨ret_bool (by rw [R.out]),B.out⟩
theorem imp_pr (n1 n2 : ByteArray) (u1 : ByteArray) (lo2 hi2 : Int) (w : World) : Calls Tryz.prog 118 #[cv (r5 (n1,(.pr u1))),cv (r5 (n2,(.rg lo2 hi2)))] w fun e w' => e = .returned (.bool (impliesK (.pr u1) (.rg lo2 hi2))) ∧ Below w.heap.size w w' := by
 simp only [r5,kN,kLo,kHi,kT]
 have B := Lib.hid (rC w n1 3 0 0 u1 n2 1 lo2 hi2 ⟨#[]⟩)
 have R := Lib.hid (show impliesK (.pr u1) (.rg lo2 hi2) = (false) from rfl)
 generalize impliesK (.pr u1) (.rg lo2 hi2) = r at *
 go_enter Tryz.func118,Tryz.ntmps118 <;> go_wp2 <;> go_ret <;> exact ⟨ret_bool (by rw [R.out]),B.out⟩
theorem imp_pt (n1 n2 : ByteArray) (u1 : ByteArray) (u2 : ByteArray) (w : World) : Calls Tryz.prog 118 #[cv (r5 (n1,(.pr u1))),cv (r5 (n2,(.tx u2)))] w fun e w' => e = .returned (.bool (impliesK (.pr u1) (.tx u2))) ∧ Below w.heap.size w w' := by
 simp only [r5,kN,kLo,kHi,kT]
 have B := Lib.hid (rC w n1 3 0 0 u1 n2 2 0 0 u2)
 have R := Lib.hid (show impliesK (.pr u1) (.tx u2) = (false) from rfl)
 generalize impliesK (.pr u1) (.tx u2) = r at *
 go_enter Tryz.func118,Tryz.ntmps118 <;> go_wp2 <;> go_ret <;> exact ⟨ret_bool (by rw [R.out]),B.out⟩
theorem imp_pp (n1 n2 : ByteArray) (u1 : ByteArray) (u2 : ByteArray) (w : World) : Calls Tryz.prog 118 #[cv (r5 (n1,(.pr u1))),cv (r5 (n2,(.pr u2)))] w fun e w' => e = .returned (.bool (impliesK (.pr u1) (.pr u2))) ∧ Below w.heap.size w w' := by
 simp only [r5,kN,kLo,kHi,kT]
 have B := Lib.hid (rC w n1 3 0 0 u1 n2 3 0 0 u2)
 have R := Lib.hid (show impliesK (.pr u1) (.pr u2) = (pfx u2 u1) from rfl)
 generalize impliesK (.pr u1) (.pr u2) = r at *
 go_enter Tryz.func118,Tryz.ntmps118
 go_wp2_with fail
 refine (begins_any u1 u2 _).mono ?_
 rintro e w' ⟨rfl,rfl⟩
 go_wp2
 go_ret
 exact ⟨ret_bool (by rw [R.out]),B.out⟩
theorem implies_any (c d : Cn) (w : World) : Calls Tryz.prog 118 #[cv (r5 c),cv (r5 d)] w fun e w' => e = .returned (.bool (impliesK c.2 d.2)) ∧ Below w.heap.size w w' := by
 obtain ⟨n1,k1⟩ := c
 obtain ⟨n2,k2⟩ := d
 cases k1 <;> cases k2
 ·exact imp_rr _ _ _ _ _ _ _
 ·exact imp_rt _ _ _ _ _ _
 ·exact imp_rp _ _ _ _ _ _
 ·exact imp_tr _ _ _ _ _ _
 ·exact imp_tt _ _ _ _ _
 ·exact imp_tp _ _ _ _ _
 ·exact imp_pr _ _ _ _ _ _
 ·exact imp_pt _ _ _ _ _
 ·exact imp_pp _ _ _ _ _
end Go.Proofs.YtncogjpmboglhaaGreat.Rl
namespace Go.Proofs.YtncogjpmboglhaaGreat.Pr
open Go.RowKit Go.Sort Pu Rw Va
end Go.Proofs.YtncogjpmboglhaaGreat.Pr
namespace Go.Proofs.YtncogjpmboglhaaGreat.Rl
open Go.RowKit Pu Rw Pr Va
end Go.Proofs.YtncogjpmboglhaaGreat.Rl
