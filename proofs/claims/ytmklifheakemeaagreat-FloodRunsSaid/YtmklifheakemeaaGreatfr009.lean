/-
  Holds of package pred: does a constraint allow a value. Conditions as told.
-/
import Derived.Test.YtmklifheakemeaaGreatfr005
import Derived.Test.YtmklifheakemeaaGreatfr007
import Derived.Lib.Strings
import Derived.Lib.Hide
import Derived.Lib.QuietBelow
import Derived.BigQuiet
set_option maxRecDepth 100000
set_option maxHeartbeats 64000000
namespace Go.Proofs.YtmklifheakemeaaGreat.Pr
open Go.RowKit Go.Sort Pu Rw Va
theorem slite_any (s p : ByteArray) (w : World) : Calls Tryz.prog 201 #[.string s,.string p] w fun e w' => e = .returned (.bool (pfx p s)) ∧ w' = w := by
 show Calls Tryz.prog _ _ _ fun e w' => e = .returned (.bool (Lib.hasPrefix s.data.toList p.data.toList)) ∧ w' = w
 rw [← Lib.hasPrefix_of_take,← Lib.size_eq,← Lib.size_eq]
 go_enter Tryz.func201,Tryz.ntmps201
 go_wp2
 ·rename_i h
  go_ret
  refine ⟨?_,rfl⟩
  show Ending.returned (Value.bool ((s.extract 0 p.size).toList == p.toList)) = _
  rw [Lib.extract_toList,Lib.toList_data]
  simp [h]
 ·rename_i h
  go_ret
  refine ⟨?_,rfl⟩
  show Ending.returned (Value.bool false) = _
  simp [h]
theorem hasPrefix_any (s p : ByteArray) (w : World) : Calls Tryz.prog 200 #[.string s,.string p] w fun e w' => e = .returned (.bool (pfx p s)) ∧ w' = w := by
 go_enter Tryz.func200,Tryz.ntmps200
 go_wp2_with fail
 refine (slite_any s p w).mono ?_
 rintro e w' ⟨rfl,rfl⟩
 go_wp2
 go_ret
 exact ⟨rfl,rfl⟩
theorem pfx_len (s u : ByteArray) (h : s.size = u.size) : pfx u s = (s.data.toList == u.data.toList) := by
 have hl : u.data.toList.length = s.data.toList.length := by rw [Array.length_toList,Array.length_toList]; exact h.symm
 rw [Bool.eq_iff_iff,beq_iff_eq,pfx_iff]
 exact ⟨fun h1 => (h1.eq_of_length hl).symm,fun h1 => by rw [h1]; exact List.prefix_refl _⟩
theorem size_not (s u : ByteArray) (h : ¬ s.size = u.size) : (s.data.toList == u.data.toList) = false := by
 rw [beq_eq_false_iff_ne]
 intro e
 have := congrArg List.length e
 rw [Array.length_toList,Array.length_toList] at this
 exact h this
theorem hB (w : World) (nm : ByteArray) (k lo hi : Int) (u : ByteArray) (t : Bool) (n : Int) (s : ByteArray) : Below w.heap.size w ((w.alloc (.cells #[.string nm,.int .i64 k,.int .i64 lo,.int .i64 hi,.string u] 70)).alloc (.cells #[.bool t,.int .i64 n,.string s] 154)) :=
 ((Below.refl w.heap.size w).alloc (Nat.le_refl _) _).alloc (by simp) _
theorem holds_rg (nm : ByteArray) (lo hi : Int) (t : Bool) (n : Int) (s : ByteArray) (w : World) : Calls Tryz.prog 196 #[cv (r5 (nm,.rg lo hi)),vl t n s] w fun e w' => e = .returned (.bool (holdsK (.rg lo hi) (t,n,s))) ∧ Below w.heap.size w w' := by
 simp only [r5,kN,kLo,kHi,kT]
 have R := Lib.hid (show holdsK (.rg lo hi) (t,n,s) = (!t && (decide (lo ≤ n) && decide (n ≤ hi))) from rfl)
 have B := Lib.hid (hB w nm 1 lo hi ⟨#[]⟩ t n s)
 generalize holdsK (.rg lo hi) (t,n,s) = r at *
 by_cases h1 : lo ≤ n <;> have H1 := Lib.hid h1 <;> cases t <;> go_enter Tryz.func196,Tryz.ntmps196 <;> go_wp2 <;> go_ret <;> exact ⟨ret_bool (by rw [R.out]; have h := H1.out; simp [h] <;> omega),B.out⟩
theorem holds_tx (nm u : ByteArray) (t : Bool) (n : Int) (s : ByteArray) (w : World) : Calls Tryz.prog 196 #[cv (r5 (nm,.tx u)),vl t n s] w fun e w' => e = .returned (.bool (holdsK (.tx u) (t,n,s))) ∧ Below w.heap.size w w' := by
 simp only [r5,kN,kLo,kHi,kT]
 have R := Lib.hid (show holdsK (.tx u) (t,n,s) = (t && (s.data.toList == u.data.toList)) from rfl)
 have B := Lib.hid (hB w nm 2 0 0 u t n s)
 generalize holdsK (.tx u) (t,n,s) = r at *
 by_cases h1 : s.size = u.size
 ·have e1 : (((s.size : Nat) : Int) != ((u.size : Nat) : Int)) = false := by simp [h1]
  have E := Lib.hid (pfx_len s u h1)
  clear h1
  cases t
  ·go_enter Tryz.func196,Tryz.ntmps196
   go_wp2
   go_ret
   exact ⟨ret_bool (by rw [R.out]; simp),B.out⟩
  ·go_enter Tryz.func196,Tryz.ntmps196
   go_wp2_with fail
   refine (hasPrefix_any s u _).mono ?_
   rintro e w' ⟨rfl,rfl⟩
   go_wp2
   go_ret
   exact ⟨ret_bool (by rw [R.out,E.out]; simp),B.out⟩
 ·have e1 : (((s.size : Nat) : Int) != ((u.size : Nat) : Int)) = true := by simp; omega
  have E := Lib.hid (size_not s u h1)
  clear h1
  go_enter Tryz.func196,Tryz.ntmps196
  go_wp2
  go_ret
  exact ⟨ret_bool (by rw [R.out,E.out]; simp),B.out⟩
theorem holds_pr (nm u : ByteArray) (t : Bool) (n : Int) (s : ByteArray) (w : World) : Calls Tryz.prog 196 #[cv (r5 (nm,.pr u)),vl t n s] w fun e w' => e = .returned (.bool (holdsK (.pr u) (t,n,s))) ∧ Below w.heap.size w w' := by
 simp only [r5,kN,kLo,kHi,kT]
 have R := Lib.hid (show holdsK (.pr u) (t,n,s) = (t && pfx u s) from rfl)
 have B := Lib.hid (hB w nm 3 0 0 u t n s)
 generalize holdsK (.pr u) (t,n,s) = r at *
 cases t
 ·go_enter Tryz.func196,Tryz.ntmps196
  go_wp2
  go_ret
  exact ⟨ret_bool (by rw [R.out]; simp),B.out⟩
 ·go_enter Tryz.func196,Tryz.ntmps196
  go_wp2_with fail
  refine (hasPrefix_any s u _).mono ?_
  rintro e w' ⟨rfl,rfl⟩
  go_wp2
  go_ret
  exact ⟨ret_bool (by rw [R.out]; simp),B.out⟩
theorem holds_any (c : Cn) (t : Bool) (n : Int) (s : ByteArray) (w : World) : Calls Tryz.prog 196 #[cv (r5 c),vl t n s] w fun e w' => e = .returned (.bool (holdsK c.2 (t,n,s))) ∧ Below w.heap.size w w' := by
 obtain ⟨nm,k⟩ := c
 cases k with
 | rg lo hi => exact holds_rg nm lo hi t n s w
 | tx u => exact holds_tx nm u t n s w
 | pr u => exact holds_pr nm u t n s w
end Go.Proofs.YtmklifheakemeaaGreat.Pr
