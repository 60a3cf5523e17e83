/-
  Attributes of package api: as values, as cells, as lists in memory. No program's call in it.
  Names, pick, Tuple of the statements' own packages. Condition: numbers of 64 bits; lists no longer than a machine holds.
  Same of two lists of attributes, of the statements' own package. Condition: lists far below a machine's length.
  Name and RightTuple of the statements' own package. Condition: lists and texts below a machine's length.
  Messages: which are right, their bytes, and how they are read again. Mostly plain mathematics. No condition beyond what each theorem states.
  Holds of package pred: does a constraint allow a value. No condition.
  Plain facts on the normal form of two predicates together: it matches just where both do, and both cover it. No program in it.
  Plain facts on a normal form of any length, as the document's own answer makes it. No program in it.
  Lists of attributes, as rows of any kind of element. No program's function in it.
  Plain facts: a constraint put into a normal form by its place; the order of names told by -1, 0, 1. No program in it.
  Plain facts on publications: what is got, put, said. No program in it.
  A variable that holds a value of package api, in memory: read and written. No program's call in it.
-/
import Derived.Test.YtncogjpmboglhaaQ008
import Derived.Laws.AppendOwn
import Derived.Laws.OwnMore
import Derived.Deep.Slices
import Derived.WalkKit
import Derived.Maps.AppendAt
import Derived.Lib.QuietBelow
import Derived.BigQuiet
import Derived.Test.YtncogjpmboglhaaQ005
import Derived.Test.YtncogjpmboglhaaQ012
import Derived.Lib.Strings
import Derived.Lib.Hide
import Derived.Test.YtncogjpmboglhaaQ000
import Derived.Test.YtncogjpmboglhaaQ004
import Derived.Lib.Bytealg
import Derived.Test.YtncogjpmboglhaaQ002
namespace Go.Proofs.Ytncogjpmboglhaa.At
open Go.RowKit Go.Proofs.Ytncogjpmboglhaa.Va

end Go.Proofs.Ytncogjpmboglhaa.At

namespace Go.Proofs.Ytncogjpmboglhaa.At
open Go.RowKit Go.Proofs.Ytncogjpmboglhaa.Va Go.Proofs.Ytncogjpmboglhaa.In

end Go.Proofs.Ytncogjpmboglhaa.At

namespace Go.Proofs.Ytncogjpmboglhaa.At
open Go.RowKit Go.Sort Go.Proofs.Ytncogjpmboglhaa.Va Go.Proofs.Ytncogjpmboglhaa.In

end Go.Proofs.Ytncogjpmboglhaa.At

namespace Go.Proofs.Ytncogjpmboglhaa.At
open Go.RowKit Go.Sort Go.Proofs.Ytncogjpmboglhaa.Va Go.Proofs.Ytncogjpmboglhaa.In

end Go.Proofs.Ytncogjpmboglhaa.At

namespace Go.Proofs.Ytncogjpmboglhaa.Wr
open Go.Proofs.Ytncogjpmboglhaa Go.Proofs.Ytncogjpmboglhaa.Nm Go.Proofs.Ytncogjpmboglhaa.At Go.Proofs.Ytncogjpmboglhaa.Pr

end Go.Proofs.Ytncogjpmboglhaa.Wr

namespace Go.Proofs.Ytncogjpmboglhaa.Pr
open Go.RowKit Go.Sort Go.Proofs.Ytncogjpmboglhaa Go.Proofs.Ytncogjpmboglhaa.Pu Go.Proofs.Ytncogjpmboglhaa.Rw Go.Proofs.Ytncogjpmboglhaa.Va

theorem slite_any (s p : ByteArray) (w : World) : Calls Try.prog 100 #[.string s, .string p] w fun e w' => e = .returned (.bool (pfx p s)) ∧ w' = w := by
  show Calls Try.prog _ _ _ fun e w' => e = .returned (.bool (Lib.hasPrefix s.data.toList p.data.toList)) ∧ w' = w
  rw [← Lib.hasPrefix_of_take, ← Lib.size_eq, ← Lib.size_eq]
  go_enter Try.func100, Try.ntmps100
  go_wp2
  · rename_i h
    go_ret
    refine ⟨?_, rfl⟩
    show Ending.returned (Value.bool ((s.extract 0 p.size).toList == p.toList)) = _
    rw [Lib.extract_toList, Lib.toList_data]
    simp [h]
  · rename_i h
    go_ret
    refine ⟨?_, rfl⟩
    show Ending.returned (Value.bool false) = _
    simp [h]
theorem hasPrefix_any (s p : ByteArray) (w : World) : Calls Try.prog 99 #[.string s, .string p] w fun e w' => e = .returned (.bool (pfx p s)) ∧ w' = w := by
  go_enter Try.func99, Try.ntmps99
  go_wp2_with fail
  refine (slite_any s p w).mono ?_
  rintro e w' ⟨rfl, rfl⟩
  go_wp2
  go_ret
  exact ⟨rfl, rfl⟩
theorem pfx_len (s u : ByteArray) (h : s.size = u.size) : pfx u s = (s.data.toList == u.data.toList) := by
  have hl : u.data.toList.length = s.data.toList.length := by rw [Array.length_toList, Array.length_toList]; exact h.symm
  rw [Bool.eq_iff_iff, beq_iff_eq, pfx_iff]
  exact ⟨fun h1 => (h1.eq_of_length hl).symm, fun h1 => by rw [h1]; exact List.prefix_refl _⟩
theorem size_not (s u : ByteArray) (h : ¬ s.size = u.size) : (s.data.toList == u.data.toList) = false := by
  rw [beq_eq_false_iff_ne]
  intro e
  have := congrArg List.length e
  rw [Array.length_toList, Array.length_toList] at this
  exact h this
theorem hB (w : World) (nm : ByteArray) (k lo hi : Int) (u : ByteArray) (t : Bool) (n : Int) (s : ByteArray) : Below w.heap.size w ((w.alloc (.cells #[.string nm, .int .i64 k, .int .i64 lo, .int .i64 hi, .string u] 26)).alloc (.cells #[.bool t, .int .i64 n, .string s] 134)) :=
  ((Below.refl w.heap.size w).alloc (Nat.le_refl _) _).alloc (by simp) _
set_option maxRecDepth 100000 in
set_option maxHeartbeats 4000000 in
theorem holds_rg (nm : ByteArray) (lo hi : Int) (t : Bool) (n : Int) (s : ByteArray) (w : World) : Calls Try.prog 94 #[cv (r5 (nm, .rg lo hi)), vl t n s] w fun e w' => e = .returned (.bool (holdsK (.rg lo hi) (t, n, s))) ∧ Below w.heap.size w w' := by
  simp only [r5, kN, kLo, kHi, kT]
  have R := Lib.hid (show holdsK (.rg lo hi) (t, n, s) = (!t && (decide (lo ≤ n) && decide (n ≤ hi))) from rfl)
  have B := Lib.hid (hB w nm 1 lo hi ⟨#[]⟩ t n s)
  generalize holdsK (.rg lo hi) (t, n, s) = r at *
  by_cases h1 : lo ≤ n <;> have H1 := Lib.hid h1 <;> cases t <;> go_enter Try.func94, Try.ntmps94 <;> go_wp2 <;> go_ret <;> exact ⟨ret_bool (by rw [R.out]; have h := H1.out; simp [h] <;> omega), B.out⟩
set_option maxRecDepth 100000 in
set_option maxHeartbeats 4000000 in
theorem holds_tx (nm u : ByteArray) (t : Bool) (n : Int) (s : ByteArray) (w : World) : Calls Try.prog 94 #[cv (r5 (nm, .tx u)), vl t n s] w fun e w' => e = .returned (.bool (holdsK (.tx u) (t, n, s))) ∧ Below w.heap.size w w' := by
  simp only [r5, kN, kLo, kHi, kT]
  have R := Lib.hid (show holdsK (.tx u) (t, n, s) = (t && (s.data.toList == u.data.toList)) from rfl)
  have B := Lib.hid (hB w nm 2 0 0 u t n s)
  generalize holdsK (.tx u) (t, n, s) = r at *
  by_cases h1 : s.size = u.size
  · have e1 : (((s.size : Nat) : Int) != ((u.size : Nat) : Int)) = false := by simp [h1]
    have E := Lib.hid (pfx_len s u h1)
    clear h1
    cases t
    · go_enter Try.func94, Try.ntmps94
      go_wp2
      go_ret
      exact ⟨ret_bool (by rw [R.out]; simp), B.out⟩
    · go_enter Try.func94, Try.ntmps94
      go_wp2_with fail
      refine (hasPrefix_any s u _).mono ?_
      rintro e w' ⟨rfl, rfl⟩
      go_wp2
      go_ret
      exact ⟨ret_bool (by rw [R.out, E.out]; simp), B.out⟩
  · have e1 : (((s.size : Nat) : Int) != ((u.size : Nat) : Int)) = true := by simp; omega
    have E := Lib.hid (size_not s u h1)
    clear h1
    go_enter Try.func94, Try.ntmps94
    go_wp2
    go_ret
    exact ⟨ret_bool (by rw [R.out, E.out]; simp), B.out⟩
set_option maxRecDepth 100000 in
set_option maxHeartbeats 4000000 in
theorem holds_pr (nm u : ByteArray) (t : Bool) (n : Int) (s : ByteArray) (w : World) : Calls Try.prog 94 #[cv (r5 (nm, .pr u)), vl t n s] w fun e w' => e = .returned (.bool (holdsK (.pr u) (t, n, s))) ∧ Below w.heap.size w w' := by
  simp only [r5, kN, kLo, kHi, kT]
  have R := Lib.hid (show holdsK (.pr u) (t, n, s) = (t && pfx u s) from rfl)
  have B := Lib.hid (hB w nm 3 0 0 u t n s)
  generalize holdsK (.pr u) (t, n, s) = r at *
  cases t
  · go_enter Try.func94, Try.ntmps94
    go_wp2
    go_ret
    exact ⟨ret_bool (by rw [R.out]; simp), B.out⟩
  · go_enter Try.func94, Try.ntmps94
    go_wp2_with fail
    refine (hasPrefix_any s u _).mono ?_
    rintro e w' ⟨rfl, rfl⟩
    go_wp2
    go_ret
    exact ⟨ret_bool (by rw [R.out]; simp), B.out⟩
theorem holds_any (c : Cn) (t : Bool) (n : Int) (s : ByteArray) (w : World) : Calls Try.prog 94 #[cv (r5 c), vl t n s] w fun e w' => e = .returned (.bool (holdsK c.2 (t, n, s))) ∧ Below w.heap.size w w' := by
  obtain ⟨nm, k⟩ := c
  cases k with
  | rg lo hi => exact holds_rg nm lo hi t n s w
  | tx u => exact holds_tx nm u t n s w
  | pr u => exact holds_pr nm u t n s w
end Go.Proofs.Ytncogjpmboglhaa.Pr

namespace Go.Proofs.Ytncogjpmboglhaa.Rl
open Go.RowKit Go.Proofs.Ytncogjpmboglhaa Go.Proofs.Ytncogjpmboglhaa.Pu Go.Proofs.Ytncogjpmboglhaa.Pr

end Go.Proofs.Ytncogjpmboglhaa.Rl

namespace Go.Proofs.Ytncogjpmboglhaa.Rl
open Go.RowKit Go.Proofs.Ytncogjpmboglhaa Go.Proofs.Ytncogjpmboglhaa.Pu Go.Proofs.Ytncogjpmboglhaa.Pr

end Go.Proofs.Ytncogjpmboglhaa.Rl

namespace Go.Proofs.Ytncogjpmboglhaa.Rl
open Go.RowKit Go.Proofs.Ytncogjpmboglhaa Go.Proofs.Ytncogjpmboglhaa.Pu Go.Proofs.Ytncogjpmboglhaa.Rw Go.Proofs.Ytncogjpmboglhaa.Pr

end Go.Proofs.Ytncogjpmboglhaa.Rl

namespace Go.Proofs.Ytncogjpmboglhaa.Pr
open Go.RowKit Go.Proofs.Ytncogjpmboglhaa Go.Proofs.Ytncogjpmboglhaa.Pu

end Go.Proofs.Ytncogjpmboglhaa.Pr

namespace Go.Proofs.Ytncogjpmboglhaa.At
open Go.RowKit Go.Proofs.Ytncogjpmboglhaa.Va

/-! ### the publications that numbers make -/
end Go.Proofs.Ytncogjpmboglhaa.At

namespace Go.Proofs.Ytncogjpmboglhaa.At
open Go.RowKit Go.Sort Go.Proofs.Ytncogjpmboglhaa.Va Go.Proofs.Ytncogjpmboglhaa.In

end Go.Proofs.Ytncogjpmboglhaa.At
