/-
  An append and a call, each as one step of a region that draws its order, met by its run. No program's function in it.
  Within of the statements' own package: a number brought into bounds. Condition: bounds up to a million; numbers of 64 bits.
  texts, Value and the document's own RightValue, of the statements' packages. Condition: numbers of 64 bits.
  A list of numbers that came in, opened. No condition beyond its reading.
  Names and pick of the statements' own packages. Condition: numbers of 64 bits; lists no longer than a machine holds.
-/
import Derived.Test.YtncogjpmboglhaaQ000
import Derived.Deep.RegionLaw
import Derived.Test.YtncogjpmboglhaaProg
import Derived.WalkKit
import Derived.Lib.Hide
import Derived.WalkLawsBesides
import Derived.IntWalk
import Derived.ChangeSlices
import Derived.ProofKit
import Derived.Below
namespace Go.Proofs.Ytncogjpmboglhaa.Rw
open Go.RowKit

/-- An append, as one step of a region that draws, met by its run. -/
theorem step_append_run {P : Program} {ops : Array Oper} {o : Oper} {a : Act} {w w' : World} {K : Act → World → Prop} {Q : Exit → Act → World → Prop} {E : Prop}
    (hg : o.guard = none) (s x : Operand) (t : TypeId) (hop : o.op = .call { callee := .builtin .append, args := #[s, x], argTypes := #[t, t] }) {v xv v' : Value} (hs : a.eval s = v) (hx : a.eval x = xv)
    (hr : (Builtin.append_ #[t, t] o.type #[v, xv]).run P w = .ok v' w') (hK : K (a.put o.dst v') w') :
    if Region.wanted o (yielded ops a.tmps) = true then Oper.wp P o a w K Q else E := by
  have hw : Region.wanted o (yielded ops a.tmps) = true := by simp [Region.wanted, hg]
  rw [if_pos hw]
  unfold Oper.wp execOp
  simp only [hop, resolve, invoke, builtin, Sem.run_bind, Sem.run_pure, Result.andThen_ok, List.map_toArray, List.map_cons, List.map_nil, hs, hx, hr]
  exact hK
/-- A call, as one step of a region that draws, met by its contract. -/
theorem step_call_run {P : Program} {ops : Array Oper} {o : Oper} {a : Act} {w : World} {K : Act → World → Prop} {Q : Exit → Act → World → Prop} {E : Prop} {f : FuncId} {args : Array Value} {R : Ending → World → Prop}
    (hg : o.guard = none) (hr : (execOp a.eval o).run P w = .ok (.enter f args) w) (hc : Calls P f args w R) (hR : ∀ e w', R e w' → ∃ v, e = .returned v ∧ K (a.put o.dst v) w') :
    if Region.wanted o (yielded ops a.tmps) = true then Oper.wp P o a w K Q else E := by
  have hw : Region.wanted o (yielded ops a.tmps) = true := by simp [Region.wanted, hg]
  rw [if_pos hw]
  unfold Oper.wp
  rw [hr, Oper.upon_enter]
  refine hc.mono ?_
  intro e w' h
  obtain ⟨v, rfl, hk⟩ := hR e w' h
  exact hk
theorem call_fn {P : Program} {f : FuncId} {fn : Func} {c : Code} (hf : P.funcs[f]? = some fn) (hname : (fn.name == "runtime.NumGoroutine") = false) (hb : fn.body = some c) (args : Array Value) (w : World) : (callFunc f args).run P w = .ok (.enter f args) w := by
  have h1 : fn.name ≠ "runtime.NumGoroutine" := by simpa using hname
  simp [callFunc, hf, h1, hb]
theorem ex_call1 {P : Program} (ρ : Operand → Value) (o : Oper) (x : Operand) (t : TypeId) (f : FuncId) (ho : o.op = .call { callee := .value (.func f), args := #[x], argTypes := #[t] }) {v : Value} (hx : ρ x = v) (hf : ρ (.func f) = .func (.func f) #[] #[]) (w : World)
    (hc : (callFunc f #[v]).run P w = .ok (.enter f #[v]) w) : (execOp ρ o).run P w = .ok (.enter f #[v]) w := by
  simp [execOp, ho, resolve, invoke, hx, hf, Deferred.ofValue, hc]
theorem ex_call2 {P : Program} (ρ : Operand → Value) (o : Oper) (x y : Operand) (t s : TypeId) (f : FuncId) (ho : o.op = .call { callee := .value (.func f), args := #[x, y], argTypes := #[t, s] }) {v u : Value} (hx : ρ x = v) (hy : ρ y = u) (hf : ρ (.func f) = .func (.func f) #[] #[]) (w : World)
    (hc : (callFunc f #[v, u]).run P w = .ok (.enter f #[v, u]) w) : (execOp ρ o).run P w = .ok (.enter f #[v, u]) w := by
  simp [execOp, ho, resolve, invoke, hx, hy, hf, Deferred.ofValue, hc]
end Go.Proofs.Ytncogjpmboglhaa.Rw

namespace Go.Proofs.Ytncogjpmboglhaa.Wi
open Go.RowKit

end Go.Proofs.Ytncogjpmboglhaa.Wi

namespace Go.Proofs.Ytncogjpmboglhaa.Va
open Go.RowKit

/-- A value, as the model has it. -/
abbrev vl (t : Bool) (n : Int) (s : ByteArray) : Value := .agg #[.bool t, .int .i64 n, .string s]
theorem ret_bool {a b : Bool} (h : a = b) : Ending.returned (.bool a) = .returned (.bool b) := by rw [h]

end Go.Proofs.Ytncogjpmboglhaa.Va

namespace Go.Proofs.Ytncogjpmboglhaa.In
open Go.RowKit Go.ChangeShapes Go.WideShapes

end Go.Proofs.Ytncogjpmboglhaa.In

namespace Go.Proofs.Ytncogjpmboglhaa.Kp
open Go.RowKit Go.Proofs.Ytncogjpmboglhaa.Va Go.Proofs.Ytncogjpmboglhaa.In

end Go.Proofs.Ytncogjpmboglhaa.Kp
