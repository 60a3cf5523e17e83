/-
  Operations of a region that draws whose guard is not met. No condition beyond what the theorems state.
  More operations of a region that draws: a struct built, a store, a conversion, a negation, a pick. No condition beyond what the theorems state.
-/
import Derived.Test.YtfcgfnmokbbcaaaDoorU002
namespace Go.Proofs.YtfcgfnmokbbcaaaDoor.Rg
open Go.RowKit

/-- An operation whose guard is not met. -/
theorem op_unwanted {P : Program} {ops : Array Oper} {Q : Exit → Act → World → Prop} {K : Act → World → Prop} {a : Act} {w : World} {i : Nat} {o : Oper}
    (ho : ops[i]? = some o) (hw : Region.wanted o (yielded ops a.tmps) = false) (h : K (a.put o.dst undef) w) : wpOp P ops Q i K a w := by
  unfold wpOp
  rw [ho]
  simp only [hw]
  exact h
/-- A guard that is not met. -/
theorem unwanted_of {ops : Array Oper} {o og : Oper} {g : Nat} {b c : Bool} {d : Nat} {tmps : Array Value} (ho : o.guard = some (g, b)) (hg : ops[g]? = some og) (hd : og.dst = some d) (ht : tmps[d]? = some (.bool c)) (hne : c ≠ b) : Region.wanted o (yielded ops tmps) = false := by
  unfold Region.wanted yielded
  rw [ho]
  cases b <;> cases c <;> simp_all
end Go.Proofs.YtfcgfnmokbbcaaaDoor.Rg

namespace Go.Proofs.YtfcgfnmokbbcaaaDoor.Rg
open Go.RowKit

theorem ex_buildS {P : Program} (ρ : Operand → Value) (o : Oper) (t : TypeId) (parts : Array (Nat × Operand)) (ho : o.op = .build t parts) {ps : Array (Nat × Value)} (hp : parts.map (fun x => (x.1, ρ x.2)) = ps) {v : Value} {w : World} (hr : (Instr.build t ps).run P w = .ok v w) :
    (execOp ρ o).run P w = .ok (.value v) w := by
  subst hp
  simp [execOp, ho, hr, Result.andThen]
theorem ex_store {P : Program} (ρ : Operand → Value) (o : Oper) (t : TypeId) (x y : Operand) (ho : o.op = .store t x y) {w w' : World} (hr : (Instr.storeAt t (ρ x) (ρ y)).run P w = .ok () w') :
    (execOp ρ o).run P w = .ok .skip w' := by
  simp [execOp, ho, hr, Result.andThen]
theorem ex_conv {P : Program} (ρ : Operand → Value) (o : Oper) (s t : TypeId) (x : Operand) (ho : o.op = .convert s t x) {v : Value} {w w' : World} (hr : (convert s t (ρ x)).run P w = .ok v w') :
    (execOp ρ o).run P w = .ok (.value v) w' := by
  simp [execOp, ho, hr, Result.andThen]
theorem ex_not {P : Program} (ρ : Operand → Value) (o : Oper) (t : TypeId) (x : Operand) (ho : o.op = .unOp .not t x) {b : Bool} (hx : ρ x = .bool b) (w : World) : (execOp ρ o).run P w = .ok (.value (.bool (!b))) w := by
  unfold execOp
  rw [ho]
  simp [hx, go_sem]
theorem ex_pick_f {P : Program} (ρ : Operand → Value) (o : Oper) (c x y : Operand) (ho : o.op = .pick c x y) (hc : ρ c = .bool false) {v : Value} (hy : ρ y = v) (w : World) : (execOp ρ o).run P w = .ok (.value v) w := by
  have h := ex_pick (P := P) ρ o c x y ho hc w
  rw [hy] at h
  exact h
end Go.Proofs.YtfcgfnmokbbcaaaDoor.Rg
