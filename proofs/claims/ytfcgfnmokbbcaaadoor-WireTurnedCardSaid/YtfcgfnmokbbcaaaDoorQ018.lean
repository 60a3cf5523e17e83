/-
  Calls inside a region that draws. No condition beyond what the theorems state.
  A region that draws its order, each of whose operations hands back a value of which something is known that holds on as memory grows; what was there stays. No condition beyond what the theorem states.
-/
import Derived.Test.YtfcgfnmokbbcaaaDoorQ017
namespace Go.Proofs.YtfcgfnmokbbcaaaDoor.Rg
open Go.RowKit

theorem op_call {P : Program} {ops : Array Oper} {Q : Exit → Act → World → Prop} {K : Act → World → Prop} {a : Act} {w : World} {i : Nat} {o : Oper} {f : FuncId} {args : Array Value} {R : Ending → World → Prop}
    (ho : ops[i]? = some o) (hg : o.guard = none) (hr : (execOp a.eval o).run P w = .ok (.enter f args) w) (hc : Calls P f args w R) (hR : ∀ e w', R e w' → ∃ v, e = .returned v ∧ K (a.put o.dst v) w') : wpOp P ops Q i K a w := by
  unfold wpOp
  rw [ho]
  have hw : Region.wanted o (yielded ops a.tmps) = true := by simp [Region.wanted, hg]
  simp only [hw, if_true]
  refine Or.inl ?_
  unfold Oper.wp
  rw [hr, Oper.upon_enter]
  refine hc.mono ?_
  intro e w' h
  obtain ⟨v, rfl, hk⟩ := hR e w' h
  exact hk
theorem ex_call3 {P : Program} (ρ : Operand → Value) (o : Oper) (x y z : Operand) (t : TypeId) (f : FuncId) (ho : o.op = .call { callee := .value (.func f), args := #[x, y, z], argTypes := #[t, t, t] }) {v u s : Value} (hx : ρ x = v) (hy : ρ y = u) (hz : ρ z = s) (hf : ρ (.func f) = .func (.func f) #[] #[]) (w : World)
    (hc : (callFunc f #[v, u, s]).run P w = .ok (.enter f #[v, u, s]) w) : (execOp ρ o).run P w = .ok (.enter f #[v, u, s]) w := by
  simp [execOp, ho, resolve, invoke, hx, hy, hz, hf, Deferred.ofValue, hc]
theorem ex_callv2 {P : Program} (ρ : Operand → Value) (o : Oper) (g x y : Operand) (t s : TypeId) (f : FuncId) (p q : Value) (ho : o.op = .call { callee := .value g, args := #[x, y], argTypes := #[t, s] }) {v u : Value} (hx : ρ x = v) (hy : ρ y = u) (hf : ρ g = .func (.func f) #[] #[p, q]) (w : World)
    (hc : (callFunc f #[v, u, p, q]).run P w = .ok (.enter f #[v, u, p, q]) w) : (execOp ρ o).run P w = .ok (.enter f #[v, u, p, q]) w := by
  simp [execOp, ho, resolve, invoke, hx, hy, hf, Deferred.ofValue, hc]
theorem ex_field {P : Program} (ρ : Operand → Value) (o : Oper) (s : TypeId) (x : Operand) (f : Nat) (ho : o.op = .fieldAddr s x f) {v : Value} {w : World} (hr : (Instr.fieldAt s (ρ x) f).run P w = .ok v w) : (execOp ρ o).run P w = .ok (.value v) w := by
  unfold execOp
  rw [ho]
  exact v_run hr
theorem ex_bin {P : Program} (ρ : Operand → Value) (o : Oper) (op : BinOp) (t : TypeId) (x y : Operand) (r : TypeId) (ho : o.op = .binOp op t x y r) {v : Value} {w : World} (hr : (do eqGuard op t x y (ρ x) (ρ y); binOp op t (ρ x) (ρ y) : Sem Value).run P w = .ok v w) : (execOp ρ o).run P w = .ok (.value v) w := by
  unfold execOp
  rw [ho]
  exact v_run hr
end Go.Proofs.YtfcgfnmokbbcaaaDoor.Rg

namespace Go.Proofs.YtfcgfnmokbbcaaaDoor.Rg
open Go.RowKit

/-- What an operation may rely on: the slots that the region does not write, and what is known of those of the operations that it waits for. -/
structure SeenR (N : Nat) (dst : Nat → Nat) (V : Nat → Value → World → Prop) (base : Act) (o : Oper) (a : Act) (w : World) : Prop where
  kp : ∀ j u, (∀ i, i < N → dst i ≠ j) → base.tmps[j]? = some u → a.eval (.tmp j) = u
  at_ : ∀ e ∈ o.after, Region.binds .any e = true → V e.on (a.eval (.tmp (dst e.on))) w
  got : ∀ e ∈ o.after, Region.binds .any e = true → a.tmps[dst e.on]? = some (a.eval (.tmp (dst e.on)))
theorem region_rel {P : Program} {Q : Exit → Act → World → Prop} {id : Nat} {base : Act} {w : World} {l : List Oper} (N : Nat) (dst : Nat → Nat) (V : Nat → Value → World → Prop)
    (hm : P.follows .mixedOrders = true) (hf : fore l.toArray = true) (hN : l.length = N) (_hdst : ∀ i o, l[i]? = some o → o.dst = some (dst i)) (hinj : ∀ i j, i < N → j < N → dst i = dst j → i = j) (hs : ∀ i, i < N → dst i < base.tmps.size)
    (hst : ∀ i v w' w'', V i v w' → Below w'.heap.size w' w'' → V i v w'')
    (hop : ∀ i o, i < N → l[i]? = some o → ∀ a w', Below w.heap.size w w' → SeenR N dst V base o a w' → ∀ K : Act → World → Prop, (∀ v w'', V i v w'' → Below w'.heap.size w' w'' → K (a.put (some (dst i)) v) w'') → wpOp P l.toArray Q i K a w')
    (hend : ∀ a w', a.defers = base.defers → a.tmps.size = base.tmps.size → (∀ j, (∀ i, i < N → dst i ≠ j) → a.tmps[j]? = base.tmps[j]?) → (∀ i, i < N → ∃ v, a.tmps[dst i]? = some v ∧ V i v w') → Below w.heap.size w w' → Q .normal a w') : (Code.region id l.toArray true).wp P Q base w := by
  refine region_inv (fun L a x => (a.defers = base.defers ∧ a.tmps.size = base.tmps.size ∧ ∀ j, (∀ i, i < N → dst i ≠ j) → a.tmps[j]? = base.tmps[j]?) ∧ (∀ i, done L i → i < N → ∃ v, a.tmps[dst i]? = some v ∧ V i v x) ∧ Below w.heap.size w x) hm hf ?_ ?_ ?_
  · exact ⟨⟨rfl, rfl, fun _ _ => rfl⟩, fun i h => absurd h (none_done _ _), (Below.refl _ _).drew⟩
  · intro L a x i o hsz ⟨⟨h1, h2, h3⟩, hv, hb⟩ ho hnd hdep
    have hi : i < l.length := (List.getElem?_eq_some_iff.1 ho).1
    have hiL : i < L.size := by omega
    have hon : ∀ e ∈ o.after, Region.binds .any e = true → e.on < N := fun e he hb => by
      have h7 := List.all_eq_true.1 hf i (List.mem_range.2 (by simpa using hi))
      have ho' : (l.toArray)[i]? = some o := by simpa using ho
      rw [ho'] at h7
      have h8 := Array.all_eq_true'.1 h7 e he
      rw [hb] at h8
      have : e.on < i := by simpa using h8
      omega
    have seen : SeenR N dst V base o a x := ⟨fun j u hj hu => eval_some (by rw [h3 j hj]; exact hu), fun e he hbd => by
      obtain ⟨v, q1, q2⟩ := hv e.on (hdep e he hbd) (hon e he hbd)
      rw [eval_some q1]
      exact q2, fun e he hbd => by
      obtain ⟨v, q1, q2⟩ := hv e.on (hdep e he hbd) (hon e he hbd)
      rw [eval_some q1]
      exact q1⟩
    refine hop i o (by omega) ho a x hb seen _ fun v w'' hvw hbw => ?_
    refine ⟨⟨h1, by rw [size_put]; exact h2, fun j hj => ?_⟩, fun k hk hkN => ?_, hb.trans (hbw.mono hb.size)⟩
    · rw [get_put _ _ _ _ (fun e => hj i (by omega) e.symm)]
      exact h3 j hj
    · by_cases e : k = i
      · subst e
        have : dst k < a.tmps.size := by rw [h2]; exact hs k hkN
        exact ⟨v, by simp [Act.put, this], hvw⟩
      · rw [get_put _ _ _ _ (fun e2 => e (hinj k i hkN (by omega) e2))]
        rcases (done_set hiL k).1 hk with h9 | h9
        · exact absurd h9 e
        · obtain ⟨u, q1, q2⟩ := hv k h9 hkN
          exact ⟨u, q1, hst k u _ _ q2 hbw⟩
  · intro L a x ⟨⟨h1, h2, h3⟩, hv, hb⟩ hd
    exact hend a x h1 h2 h3 (fun i hi => hv i (hd i (by omega)) hi) hb
/-- A guard that is met. -/
theorem wanted_of {ops : Array Oper} {o og : Oper} {g : Nat} {b : Bool} {d : Nat} {tmps : Array Value} (ho : o.guard = some (g, b)) (hg : ops[g]? = some og) (hd : og.dst = some d) (ht : tmps[d]? = some (.bool b)) : Region.wanted o (yielded ops tmps) = true := by
  unfold Region.wanted yielded
  rw [ho]
  simp [hg, hd, ht]
theorem wanted_none {o : Oper} {y : Nat → Option Bool} (ho : o.guard = none) : Region.wanted o y = true := by
  unfold Region.wanted
  rw [ho]
theorem op_value_w {P : Program} {ops : Array Oper} {Q : Exit → Act → World → Prop} {K : Act → World → Prop} {a : Act} {w w' : World} {i : Nat} {o : Oper} {v : Value}
    (ho : ops[i]? = some o) (hw : Region.wanted o (yielded ops a.tmps) = true) (hr : (execOp a.eval o).run P w = .ok (.value v) w') (h : K (a.put o.dst v) w') : wpOp P ops Q i K a w := by
  unfold wpOp
  rw [ho]
  simp only [hw, if_true]
  refine Or.inl ?_
  unfold Oper.wp
  rw [hr]
  exact h
theorem op_call_w {P : Program} {ops : Array Oper} {Q : Exit → Act → World → Prop} {K : Act → World → Prop} {a : Act} {w : World} {i : Nat} {o : Oper} {f : FuncId} {args : Array Value} {R : Ending → World → Prop}
    (ho : ops[i]? = some o) (hw : Region.wanted o (yielded ops a.tmps) = true) (hr : (execOp a.eval o).run P w = .ok (.enter f args) w) (hc : Calls P f args w R) (hR : ∀ e w', R e w' → ∃ v, e = .returned v ∧ K (a.put o.dst v) w') : wpOp P ops Q i K a w := by
  unfold wpOp
  rw [ho]
  simp only [hw, if_true]
  refine Or.inl ?_
  unfold Oper.wp
  rw [hr, Oper.upon_enter]
  refine hc.mono ?_
  intro e w' h
  obtain ⟨v, rfl, hk⟩ := hR e w' h
  exact hk
theorem ex_pick {P : Program} (ρ : Operand → Value) (o : Oper) (c x y : Operand) (ho : o.op = .pick c x y) {b : Bool} (hc : ρ c = .bool b) (w : World) : (execOp ρ o).run P w = .ok (.value (if b then ρ x else ρ y)) w := by
  unfold execOp
  rw [ho]
  cases b <;> simp [hc, go_sem, asBool]
theorem ex_pick_t {P : Program} (ρ : Operand → Value) (o : Oper) (c x y : Operand) (ho : o.op = .pick c x y) (hc : ρ c = .bool true) {v : Value} (hx : ρ x = v) (w : World) : (execOp ρ o).run P w = .ok (.value v) w := by
  have h := ex_pick (P := P) ρ o c x y ho hc w
  rw [hx] at h
  exact h
theorem ex_call0 {P : Program} (ρ : Operand → Value) (o : Oper) (f : FuncId) (ho : o.op = .call { callee := .value (.func f), args := #[], argTypes := #[] }) (hf : ρ (.func f) = .func (.func f) #[] #[]) (w : World)
    (hc : (callFunc f #[]).run P w = .ok (.enter f #[]) w) : (execOp ρ o).run P w = .ok (.enter f #[]) w := by
  simp [execOp, ho, resolve, invoke, hf, Deferred.ofValue, hc]
theorem ex_len {P : Program} (ρ : Operand → Value) (o : Oper) (x : Operand) (t : TypeId) (ho : o.op = .call { callee := .builtin .len, args := #[x], argTypes := #[t] }) {v r : Value} {w : World} (hx : ρ x = v) (hr : (Builtin.len_ #[t] o.type #[v]).run P w = .ok r w) : (execOp ρ o).run P w = .ok (.value r) w := by
  simp [execOp, ho, resolve, invoke, builtin, hx, hr, Result.andThen]
end Go.Proofs.YtfcgfnmokbbcaaaDoor.Rg
