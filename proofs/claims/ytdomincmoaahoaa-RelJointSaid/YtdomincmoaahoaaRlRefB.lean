/-
  The document's own Both (package broadsideref1). Condition: constraints of one name.
-/
import Derived.Test.YtdomincmoaahoaaRlRefI
namespace Go.Proofs.Ytdomincmoaahoaa.Rl
open Go.RowKit Go.Proofs.Ytdomincmoaahoaa Go.Proofs.Ytdomincmoaahoaa.Pu Go.Proofs.Ytdomincmoaahoaa.Rw Go.Proofs.Ytdomincmoaahoaa.Pr Go.Proofs.Ytdomincmoaahoaa.Va

def RBQ (n : ByteArray) (r : Option Kd) (w : World) (e : Ending) (w' : World) : Prop := (∃ c, e = .returned (.tuple #[cv c, .bool r.isSome]) ∧ ∀ k, r = some k → c = r5 (n, k)) ∧ Below w.heap.size w w'
theorem rbq_no {n : ByteArray} {w w' : World} (c : C5) (h : Below w.heap.size w w') : RBQ n none w (.returned (.tuple #[cv c, .bool false])) w' := ⟨⟨c, rfl, fun _ h => by cases h⟩, h⟩
theorem rbq_if {n : ByteArray} {w w' : World} (b : Bool) (k : Kd) (h : Below w.heap.size w w') : RBQ n (if b = true then some k else none) w (.returned (.tuple #[cv (r5 (n, k)), .bool b])) w' := by
  cases b
  · exact ⟨⟨_, rfl, fun _ h => by cases h⟩, h⟩
  · exact ⟨⟨_, rfl, fun _ h => by rw [← Option.some.inj h]⟩, h⟩
set_option maxRecDepth 100000 in
set_option maxHeartbeats 4000000 in
theorem rboth_rt (n : ByteArray) (lo1 hi1 : Int) (u2 : ByteArray) (w : World) : Calls Try.prog 40 #[cv (r5 (n, (.rg lo1 hi1))), cv (r5 (n, (.tx u2)))] w (RBQ n (bothK (.rg lo1 hi1) (.tx u2)) w) := by
  have R := Lib.hid (show bothK (.rg lo1 hi1) (.tx u2) = none from rfl)
  rw [R.out]
  clear R
  simp only [r5, kN, kLo, kHi, kT]
  have B := Lib.hid (rC w n 1 lo1 hi1 ⟨#[]⟩ n 2 0 0 u2)
  go_enter Try.func40, Try.ntmps40
  go_wp2
  exact bodyPost_ret (v := .tuple #[cv (n, 1, lo1, hi1, ⟨#[]⟩), .bool false]) (by simp [results, Try.results40, go_sem]) rfl (rbq_no (n, 1, lo1, hi1, ⟨#[]⟩) (by first | exact B.out.alloc B.out.size _ | exact (((((B.out.alloc B.out.size _).setCell (by simp) _).setCell (by simp) _).setCell (by simp) _).setCell (by simp) _).setCell (by simp) _))
set_option maxRecDepth 100000 in
set_option maxHeartbeats 4000000 in
theorem rboth_rp (n : ByteArray) (lo1 hi1 : Int) (u2 : ByteArray) (w : World) : Calls Try.prog 40 #[cv (r5 (n, (.rg lo1 hi1))), cv (r5 (n, (.pr u2)))] w (RBQ n (bothK (.rg lo1 hi1) (.pr u2)) w) := by
  have R := Lib.hid (show bothK (.rg lo1 hi1) (.pr u2) = none from rfl)
  rw [R.out]
  clear R
  simp only [r5, kN, kLo, kHi, kT]
  have B := Lib.hid (rC w n 1 lo1 hi1 ⟨#[]⟩ n 3 0 0 u2)
  go_enter Try.func40, Try.ntmps40
  go_wp2
  exact bodyPost_ret (v := .tuple #[cv (n, 1, lo1, hi1, ⟨#[]⟩), .bool false]) (by simp [results, Try.results40, go_sem]) rfl (rbq_no (n, 1, lo1, hi1, ⟨#[]⟩) (by first | exact B.out.alloc B.out.size _ | exact (((((B.out.alloc B.out.size _).setCell (by simp) _).setCell (by simp) _).setCell (by simp) _).setCell (by simp) _).setCell (by simp) _))
set_option maxRecDepth 100000 in
set_option maxHeartbeats 4000000 in
theorem rboth_tr (n : ByteArray) (u1 : ByteArray) (lo2 hi2 : Int) (w : World) : Calls Try.prog 40 #[cv (r5 (n, (.tx u1))), cv (r5 (n, (.rg lo2 hi2)))] w (RBQ n (bothK (.tx u1) (.rg lo2 hi2)) w) := by
  have R := Lib.hid (show bothK (.tx u1) (.rg lo2 hi2) = none from rfl)
  rw [R.out]
  clear R
  simp only [r5, kN, kLo, kHi, kT]
  have B := Lib.hid (rC w n 2 0 0 u1 n 1 lo2 hi2 ⟨#[]⟩)
  go_enter Try.func40, Try.ntmps40
  go_wp2
  exact bodyPost_ret (v := .tuple #[cv (n, 2, 0, 0, u1), .bool false]) (by simp [results, Try.results40, go_sem]) rfl (rbq_no (n, 2, 0, 0, u1) (by first | exact B.out.alloc B.out.size _ | exact (((((B.out.alloc B.out.size _).setCell (by simp) _).setCell (by simp) _).setCell (by simp) _).setCell (by simp) _).setCell (by simp) _))
set_option maxRecDepth 100000 in
set_option maxHeartbeats 4000000 in
theorem rboth_pr (n : ByteArray) (u1 : ByteArray) (lo2 hi2 : Int) (w : World) : Calls Try.prog 40 #[cv (r5 (n, (.pr u1))), cv (r5 (n, (.rg lo2 hi2)))] w (RBQ n (bothK (.pr u1) (.rg lo2 hi2)) w) := by
  have R := Lib.hid (show bothK (.pr u1) (.rg lo2 hi2) = none from rfl)
  rw [R.out]
  clear R
  simp only [r5, kN, kLo, kHi, kT]
  have B := Lib.hid (rC w n 3 0 0 u1 n 1 lo2 hi2 ⟨#[]⟩)
  go_enter Try.func40, Try.ntmps40
  go_wp2
  exact bodyPost_ret (v := .tuple #[cv (n, 3, 0, 0, u1), .bool false]) (by simp [results, Try.results40, go_sem]) rfl (rbq_no (n, 3, 0, 0, u1) (by first | exact B.out.alloc B.out.size _ | exact (((((B.out.alloc B.out.size _).setCell (by simp) _).setCell (by simp) _).setCell (by simp) _).setCell (by simp) _).setCell (by simp) _))
end Go.Proofs.Ytdomincmoaahoaa.Rl
