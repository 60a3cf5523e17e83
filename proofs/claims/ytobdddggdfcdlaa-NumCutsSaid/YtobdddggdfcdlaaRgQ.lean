/-
  Operations of a region that draws whose guard is not met. No condition beyond what the theorems state.
-/
import Derived.Test.YtobdddggdfcdlaaRgR
namespace Go.Proofs.Ytobdddggdfcdlaa.Rg
open Go.RowKit

/-- An operation whose guard is not met. -/
theorem op_unwanted {P : Program} {ops : Array Oper} {Q : Exit → Act → World → Prop} {K : Act → World → Prop} {a : Act} {w : World} {i : Nat} {o : Oper}
    (ho : ops[i]? = some o) (hw : Region.wanted o (yielded ops a.tmps) = false) (h : K (a.put o.dst undef) w) : wpOp P ops Q i K a w := by
  unfold wpOp
  rw [ho]
  simp only [hw]
  exact h
/-- A guard that is not met. -/
theorem unwanted_of {ops : Array Oper} {o og : Oper} {g : Nat} {b c : Bool} {d : Nat} {tmps : Array Value} (ho : o.guard = some (g, b)) (hg : ops[g]? = some og) (hd : og.dst = some d) (ht : tmps[d]? = some (.bool c)) (hne : c ≠ b) : Region.wanted o (yielded ops tmps) = false := by
  unfold Region.wanted yielded
  rw [ho]
  cases b <;> cases c <;> simp_all
end Go.Proofs.Ytobdddggdfcdlaa.Rg
