/-
  An append and a call, each as one step of a region that draws its order, met by its run. No program's function in it.
  Calls inside a region that draws. No condition beyond what the theorems state.
-/
import Derived.Test.YtonoadjmglkhaaaQ001
import Derived.Deep.RegionLaw
import Derived.Test.YtonoadjmglkhaaaQ000
namespace Go.Proofs.Ytonoadjmglkhaaa.Rw
open Go.RowKit

/-- An append, as one step of a region that draws, met by its run. -/
theorem step_append_run {P : Program} {ops : Array Oper} {o : Oper} {a : Act} {w w' : World} {K : Act → World → Prop} {Q : Exit → Act → World → Prop} {E : Prop}
    (hg : o.guard = none) (s x : Operand) (t : TypeId) (hop : o.op = .call { callee := .builtin .append, args := #[s, x], argTypes := #[t, t] }) {v xv v' : Value} (hs : a.eval s = v) (hx : a.eval x = xv)
    (hr : (Builtin.append_ #[t, t] o.type #[v, xv]).run P w = .ok v' w') (hK : K (a.put o.dst v') w') :
    if Region.wanted o (yielded ops a.tmps) = true then Oper.wp P o a w K Q else E := by
  have hw : Region.wanted o (yielded ops a.tmps) = true := by simp [Region.wanted, hg]
  rw [if_pos hw]
  unfold Oper.wp execOp
  simp only [hop, resolve, invoke, builtin, Sem.run_bind, Sem.run_pure, Result.andThen_ok, List.map_toArray, List.map_cons, List.map_nil, hs, hx, hr]
  exact hK
/-- A call, as one step of a region that draws, met by its contract. -/
theorem step_call_run {P : Program} {ops : Array Oper} {o : Oper} {a : Act} {w : World} {K : Act → World → Prop} {Q : Exit → Act → World → Prop} {E : Prop} {f : FuncId} {args : Array Value} {R : Ending → World → Prop}
    (hg : o.guard = none) (hr : (execOp a.eval o).run P w = .ok (.enter f args) w) (hc : Calls P f args w R) (hR : ∀ e w', R e w' → ∃ v, e = .returned v ∧ K (a.put o.dst v) w') :
    if Region.wanted o (yielded ops a.tmps) = true then Oper.wp P o a w K Q else E := by
  have hw : Region.wanted o (yielded ops a.tmps) = true := by simp [Region.wanted, hg]
  rw [if_pos hw]
  unfold Oper.wp
  rw [hr, Oper.upon_enter]
  refine hc.mono ?_
  intro e w' h
  obtain ⟨v, rfl, hk⟩ := hR e w' h
  exact hk
theorem call_fn {P : Program} {f : FuncId} {fn : Func} {c : Code} (hf : P.funcs[f]? = some fn) (hname : (fn.name == "runtime.NumGoroutine") = false) (hb : fn.body = some c) (args : Array Value) (w : World) : (callFunc f args).run P w = .ok (.enter f args) w := by
  have h1 : fn.name ≠ "runtime.NumGoroutine" := by simpa using hname
  simp [callFunc, hf, h1, hb]
theorem ex_call1 {P : Program} (ρ : Operand → Value) (o : Oper) (x : Operand) (t : TypeId) (f : FuncId) (ho : o.op = .call { callee := .value (.func f), args := #[x], argTypes := #[t] }) {v : Value} (hx : ρ x = v) (hf : ρ (.func f) = .func (.func f) #[] #[]) (w : World)
    (hc : (callFunc f #[v]).run P w = .ok (.enter f #[v]) w) : (execOp ρ o).run P w = .ok (.enter f #[v]) w := by
  simp [execOp, ho, resolve, invoke, hx, hf, Deferred.ofValue, hc]
theorem ex_call2 {P : Program} (ρ : Operand → Value) (o : Oper) (x y : Operand) (t s : TypeId) (f : FuncId) (ho : o.op = .call { callee := .value (.func f), args := #[x, y], argTypes := #[t, s] }) {v u : Value} (hx : ρ x = v) (hy : ρ y = u) (hf : ρ (.func f) = .func (.func f) #[] #[]) (w : World)
    (hc : (callFunc f #[v, u]).run P w = .ok (.enter f #[v, u]) w) : (execOp ρ o).run P w = .ok (.enter f #[v, u]) w := by
  simp [execOp, ho, resolve, invoke, hx, hy, hf, Deferred.ofValue, hc]
end Go.Proofs.Ytonoadjmglkhaaa.Rw

namespace Go.Proofs.Ytonoadjmglkhaaa.Rg
open Go.RowKit

theorem op_call {P : Program} {ops : Array Oper} {Q : Exit → Act → World → Prop} {K : Act → World → Prop} {a : Act} {w : World} {i : Nat} {o : Oper} {f : FuncId} {args : Array Value} {R : Ending → World → Prop}
    (ho : ops[i]? = some o) (hg : o.guard = none) (hr : (execOp a.eval o).run P w = .ok (.enter f args) w) (hc : Calls P f args w R) (hR : ∀ e w', R e w' → ∃ v, e = .returned v ∧ K (a.put o.dst v) w') : wpOp P ops Q i K a w := by
  unfold wpOp
  rw [ho]
  have hw : Region.wanted o (yielded ops a.tmps) = true := by simp [Region.wanted, hg]
  simp only [hw, if_true]
  refine Or.inl ?_
  unfold Oper.wp
  rw [hr, Oper.upon_enter]
  refine hc.mono ?_
  intro e w' h
  obtain ⟨v, rfl, hk⟩ := hR e w' h
  exact hk
theorem ex_call3 {P : Program} (ρ : Operand → Value) (o : Oper) (x y z : Operand) (t : TypeId) (f : FuncId) (ho : o.op = .call { callee := .value (.func f), args := #[x, y, z], argTypes := #[t, t, t] }) {v u s : Value} (hx : ρ x = v) (hy : ρ y = u) (hz : ρ z = s) (hf : ρ (.func f) = .func (.func f) #[] #[]) (w : World)
    (hc : (callFunc f #[v, u, s]).run P w = .ok (.enter f #[v, u, s]) w) : (execOp ρ o).run P w = .ok (.enter f #[v, u, s]) w := by
  simp [execOp, ho, resolve, invoke, hx, hy, hz, hf, Deferred.ofValue, hc]
theorem ex_callv2 {P : Program} (ρ : Operand → Value) (o : Oper) (g x y : Operand) (t s : TypeId) (f : FuncId) (p q : Value) (ho : o.op = .call { callee := .value g, args := #[x, y], argTypes := #[t, s] }) {v u : Value} (hx : ρ x = v) (hy : ρ y = u) (hf : ρ g = .func (.func f) #[] #[p, q]) (w : World)
    (hc : (callFunc f #[v, u, p, q]).run P w = .ok (.enter f #[v, u, p, q]) w) : (execOp ρ o).run P w = .ok (.enter f #[v, u, p, q]) w := by
  simp [execOp, ho, resolve, invoke, hx, hy, hf, Deferred.ofValue, hc]
theorem ex_field {P : Program} (ρ : Operand → Value) (o : Oper) (s : TypeId) (x : Operand) (f : Nat) (ho : o.op = .fieldAddr s x f) {v : Value} {w : World} (hr : (Instr.fieldAt s (ρ x) f).run P w = .ok v w) : (execOp ρ o).run P w = .ok (.value v) w := by
  unfold execOp
  rw [ho]
  exact v_run hr
theorem ex_bin {P : Program} (ρ : Operand → Value) (o : Oper) (op : BinOp) (t : TypeId) (x y : Operand) (r : TypeId) (ho : o.op = .binOp op t x y r) {v : Value} {w : World} (hr : (do eqGuard op t x y (ρ x) (ρ y); binOp op t (ρ x) (ρ y) : Sem Value).run P w = .ok v w) : (execOp ρ o).run P w = .ok (.value v) w := by
  unfold execOp
  rw [ho]
  exact v_run hr
end Go.Proofs.Ytonoadjmglkhaaa.Rg
