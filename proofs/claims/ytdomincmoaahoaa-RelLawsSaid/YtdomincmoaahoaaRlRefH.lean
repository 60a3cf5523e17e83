/-
  The document's own Holds and Implies (package broadsideref1). No condition.
-/
import Derived.Test.YtdomincmoaahoaaBd
import Derived.Test.YtdomincmoaahoaaBc
import Derived.Test.YtdomincmoaahoaaBa
import Derived.Lib.Strings
import Derived.Lib.Hide
namespace Go.Proofs.Ytdomincmoaahoaa.Rl
open Go.RowKit Go.Proofs.Ytdomincmoaahoaa Go.Proofs.Ytdomincmoaahoaa.Pu Go.Proofs.Ytdomincmoaahoaa.Rw Go.Proofs.Ytdomincmoaahoaa.Pr Go.Proofs.Ytdomincmoaahoaa.Va

theorem begins_any (s p : ByteArray) (w : World) : Calls Try.prog 39 #[.string s, .string p] w fun e w' => e = .returned (.bool (pfx p s)) ∧ w' = w := by
  show Calls Try.prog _ _ _ fun e w' => e = .returned (.bool (Lib.hasPrefix s.data.toList p.data.toList)) ∧ w' = w
  rw [← Lib.hasPrefix_of_take, ← Lib.size_eq, ← Lib.size_eq]
  by_cases h : p.size ≤ s.size
  · have e1 : (((s.size : Nat) : Int) ≥ ((p.size : Nat) : Int)) := by omega
    have H := Lib.hid h
    go_enter Try.func39, Try.ntmps39
    go_wp2
    all_goals (go_ret; refine ⟨?_, rfl⟩; show Ending.returned (Value.bool ((s.extract 0 p.size).toList == p.toList)) = _; rw [Lib.extract_toList, Lib.toList_data]; simp [h])
  · have H := Lib.hid h
    go_enter Try.func39, Try.ntmps39
    go_wp2
    all_goals (go_ret; refine ⟨?_, rfl⟩; show Ending.returned (Value.bool false) = _; simp [H.out])
theorem rB (w : World) (nm : ByteArray) (k lo hi : Int) (u : ByteArray) (t : Bool) (n : Int) (s : ByteArray) : Below w.heap.size w ((w.alloc (.cells #[.string nm, .int .i64 k, .int .i64 lo, .int .i64 hi, .string u] 23)).alloc (.cells #[.bool t, .int .i64 n, .string s] 45)) :=
  ((Below.refl w.heap.size w).alloc (Nat.le_refl _) _).alloc (by simp) _
theorem rC (w : World) (nm : ByteArray) (k lo hi : Int) (u : ByteArray) (nm' : ByteArray) (k' lo' hi' : Int) (u' : ByteArray) : Below w.heap.size w ((w.alloc (.cells #[.string nm, .int .i64 k, .int .i64 lo, .int .i64 hi, .string u] 23)).alloc (.cells #[.string nm', .int .i64 k', .int .i64 lo', .int .i64 hi', .string u'] 23)) :=
  ((Below.refl w.heap.size w).alloc (Nat.le_refl _) _).alloc (by simp) _
theorem list_eq (a b : ByteArray) : (a.data.toList == b.data.toList) = decide (a = b) := by
  rw [Bool.eq_iff_iff, beq_iff_eq, decide_eq_true_iff]
  exact ⟨fun h => bytes_eq h, fun h => by rw [h]⟩
set_option maxRecDepth 100000 in
set_option maxHeartbeats 4000000 in
theorem rholds_rg (nm : ByteArray) (lo hi : Int) (t : Bool) (n : Int) (s : ByteArray) (w : World) : Calls Try.prog 23 #[cv (r5 (nm, .rg lo hi)), vl t n s] w fun e w' => e = .returned (.bool (holdsK (.rg lo hi) (t, n, s))) ∧ Below w.heap.size w w' := by
  simp only [r5, kN, kLo, kHi, kT]
  have R := Lib.hid (show holdsK (.rg lo hi) (t, n, s) = (!t && (decide (lo ≤ n) && decide (n ≤ hi))) from rfl)
  have B := Lib.hid (rB w nm 1 lo hi ⟨#[]⟩ t n s)
  generalize holdsK (.rg lo hi) (t, n, s) = r at *
  by_cases h1 : lo ≤ n <;> have H1 := Lib.hid h1 <;> cases t <;> go_enter Try.func23, Try.ntmps23 <;> go_wp2 <;> go_ret <;> exact ⟨ret_bool (by rw [R.out]; have h := H1.out; simp [h] <;> omega), B.out⟩
set_option maxRecDepth 100000 in
set_option maxHeartbeats 4000000 in
theorem rholds_tx (nm u : ByteArray) (t : Bool) (n : Int) (s : ByteArray) (w : World) : Calls Try.prog 23 #[cv (r5 (nm, .tx u)), vl t n s] w fun e w' => e = .returned (.bool (holdsK (.tx u) (t, n, s))) ∧ Below w.heap.size w w' := by
  simp only [r5, kN, kLo, kHi, kT]
  have R := Lib.hid (show holdsK (.tx u) (t, n, s) = (t && (s.data.toList == u.data.toList)) from rfl)
  have B := Lib.hid (rB w nm 2 0 0 u t n s)
  generalize holdsK (.tx u) (t, n, s) = r at *
  cases t <;> go_enter Try.func23, Try.ntmps23 <;> go_wp2 <;> go_ret <;> exact ⟨ret_bool (by rw [R.out]; simp [Lib.toList_data]), B.out⟩
set_option maxRecDepth 100000 in
set_option maxHeartbeats 4000000 in
theorem rholds_pr (nm u : ByteArray) (t : Bool) (n : Int) (s : ByteArray) (w : World) : Calls Try.prog 23 #[cv (r5 (nm, .pr u)), vl t n s] w fun e w' => e = .returned (.bool (holdsK (.pr u) (t, n, s))) ∧ Below w.heap.size w w' := by
  simp only [r5, kN, kLo, kHi, kT]
  have R := Lib.hid (show holdsK (.pr u) (t, n, s) = (t && pfx u s) from rfl)
  have B := Lib.hid (rB w nm 3 0 0 u t n s)
  generalize holdsK (.pr u) (t, n, s) = r at *
  cases t
  · go_enter Try.func23, Try.ntmps23
    go_wp2
    go_ret
    exact ⟨ret_bool (by rw [R.out]; simp), B.out⟩
  · go_enter Try.func23, Try.ntmps23
    go_wp2_with fail
    refine (begins_any s u _).mono ?_
    rintro e w' ⟨rfl, rfl⟩
    go_wp2
    go_ret
    exact ⟨ret_bool (by rw [R.out]; simp), B.out⟩
theorem rholds_any (c : Cn) (t : Bool) (n : Int) (s : ByteArray) (w : World) : Calls Try.prog 23 #[cv (r5 c), vl t n s] w fun e w' => e = .returned (.bool (holdsK c.2 (t, n, s))) ∧ Below w.heap.size w w' := by
  obtain ⟨nm, k⟩ := c
  cases k with
  | rg lo hi => exact rholds_rg nm lo hi t n s w
  | tx u => exact rholds_tx nm u t n s w
  | pr u => exact rholds_pr nm u t n s w
end Go.Proofs.Ytdomincmoaahoaa.Rl
