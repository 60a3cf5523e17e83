/-
  slices.BinarySearchFunc over constraints in the order of their names, as package pred calls it. Condition: at most 100 constraints, their names rising.
-/
import Derived.Test.YtdomincmoaahoaaPnHolds
import Derived.Test.YtdomincmoaahoaaPrIns
import Derived.Deep.LoopGhost
import Derived.Laws.Externs
namespace Go.Proofs.Ytdomincmoaahoaa.Pr
open Go.RowKit Go.Sort Go.Proofs.Ytdomincmoaahoaa Go.Proofs.Ytdomincmoaahoaa.Pu Go.Proofs.Ytdomincmoaahoaa.Rw Go.Proofs.Ytdomincmoaahoaa.Va

set_option maxRecDepth 100000 in
set_option maxHeartbeats 1000000 in
theorem cmpStr_any (a b : ByteArray) (w : World) : Calls Try.prog 59 #[.string a, .string b] w fun e w' => e = .returned (.int .i64 (cmpC a b)) ∧ w' = w := by
  go_enter Try.func59, Try.ntmps59
  go_wp2_with fail
  rw [run_callFunc_extern Try.func61 (by kernel_rfl) (by kernel_rfl) (by kernel_rfl) (e := Extern.BytealgCompare.compare) (by kernel_rfl), Lib.run_compareString]
  simp only [Result.andThen]
  rw [Oper.upon_value]
  go_wp2
  go_ret
  exact ⟨rfl, rfl⟩
theorem compare_any (a b : ByteArray) (w : World) : Calls Try.prog 56 #[.string a, .string b] w fun e w' => e = .returned (.int .i64 (cmpC a b)) ∧ w' = w := by
  go_enter Try.func56, Try.ntmps56
  go_wp2_with fail
  refine (cmpStr_any a b w).mono ?_
  rintro e w' ⟨rfl, rfl⟩
  go_wp2
  go_ret
  exact ⟨rfl, rfl⟩
theorem byName_any (c d : C5) (w : World) : Calls Try.prog 53 #[cv c, cv d] w fun e w' => e = .returned (.int .i64 (cmpC c.1 d.1)) ∧ Below w.heap.size w w' := by
  go_enter Try.func53, Try.ntmps53
  go_wp2_with fail
  refine (compare_any c.1 d.1 _).mono ?_
  rintro e w' ⟨rfl, rfl⟩
  go_wp2
  go_ret
  exact ⟨rfl, ((Below.refl w.heap.size w).alloc (Nat.le_refl _) _).alloc (by simp) _⟩
theorem byName_re (c d : C5) (r : Int) (hr : cmpC c.1 d.1 = r) (w : World) (k : Nat) (os : Array Obj) :
    Calls Try.prog 53 #[cv c, cv d] (grow (redrawn w k) os) fun e w'' => e = .returned (.int .i64 r) ∧ ∃ p : Regrown, w'' = grow (redrawn w p.d) p.os := by
  subst hr
  exact Calls.regrown_of (byName_any c d _)
theorem call_byName (args : Array Value) (w : World) : (callFunc 53 args).run Try.prog w = .ok (.enter 53 args) w := by
  have h : ∀ {P : Program} {f : FuncId} {fn : Func} {c : Code} (hf : P.funcs[f]? = some fn) (hname : (fn.name == "runtime.NumGoroutine") = false) (hb : fn.body = some c) (args : Array Value) (w : World), (callFunc f args).run P w = .ok (.enter f args) w := by
    intro P f fn c hf hname hb args w
    have h1 : fn.name ≠ "runtime.NumGoroutine" := by simpa using hname
    simp [callFunc, hf, h1, hb]
  exact h Try.func53 (by kernel_rfl) rfl _ _
end Go.Proofs.Ytdomincmoaahoaa.Pr
