/-
  More operations of a region that draws: a struct built, a store, a conversion, a negation, a pick. No condition beyond what the theorems state.
  Small things for regions that draw: stores, min, new variables; on what all operations wait, by computation; an append onto an empty literal. No condition beyond what each theorem states.
  Rows of one's own, while memory grows and one cell is written. No program's function in it.
-/
import Derived.Test.YtonoadjmglkhaaaGreatU007
import Derived.Test.YtonoadjmglkhaaaGreatU002
namespace Go.Proofs.YtonoadjmglkhaaaGreat.Rg
open Go.RowKit

theorem ex_buildS {P : Program} (ρ : Operand → Value) (o : Oper) (t : TypeId) (parts : Array (Nat × Operand)) (ho : o.op = .build t parts) {ps : Array (Nat × Value)} (hp : parts.map (fun x => (x.1, ρ x.2)) = ps) {v : Value} {w : World} (hr : (Instr.build t ps).run P w = .ok v w) :
    (execOp ρ o).run P w = .ok (.value v) w := by
  subst hp
  simp [execOp, ho, hr, Result.andThen]
theorem ex_store {P : Program} (ρ : Operand → Value) (o : Oper) (t : TypeId) (x y : Operand) (ho : o.op = .store t x y) {w w' : World} (hr : (Instr.storeAt t (ρ x) (ρ y)).run P w = .ok () w') :
    (execOp ρ o).run P w = .ok .skip w' := by
  simp [execOp, ho, hr, Result.andThen]
theorem ex_conv {P : Program} (ρ : Operand → Value) (o : Oper) (s t : TypeId) (x : Operand) (ho : o.op = .convert s t x) {v : Value} {w w' : World} (hr : (convert s t (ρ x)).run P w = .ok v w') :
    (execOp ρ o).run P w = .ok (.value v) w' := by
  simp [execOp, ho, hr, Result.andThen]
theorem ex_not {P : Program} (ρ : Operand → Value) (o : Oper) (t : TypeId) (x : Operand) (ho : o.op = .unOp .not t x) {b : Bool} (hx : ρ x = .bool b) (w : World) : (execOp ρ o).run P w = .ok (.value (.bool (!b))) w := by
  unfold execOp
  rw [ho]
  simp [hx, go_sem]
theorem ex_pick_f {P : Program} (ρ : Operand → Value) (o : Oper) (c x y : Operand) (ho : o.op = .pick c x y) (hc : ρ c = .bool false) {v : Value} (hy : ρ y = v) (w : World) : (execOp ρ o).run P w = .ok (.value v) w := by
  have h := ex_pick (P := P) ρ o c x y ho hc w
  rw [hy] at h
  exact h
end Go.Proofs.YtonoadjmglkhaaaGreat.Rg

namespace Go.Proofs.YtonoadjmglkhaaaGreat.Rg
open Go.RowKit

theorem op_store {P : Program} {ops : Array Oper} {Q : Exit → Act → World → Prop} {K : Act → World → Prop} {a : Act} {w w' : World} {i : Nat} {o : Oper} (t : TypeId) (x y : Operand) {p v : Value}
    (ho : ops[i]? = some o) (hg : o.guard = none) (hop : o.op = .store t x y) (hd : o.dst = none) (hx : a.eval x = p) (hy : a.eval y = v) (hr : (Instr.storeAt t p v).run P w = .ok () w') (h : K a w') : wpOp P ops Q i K a w := by
  refine op_skip ho hg (ex_store a.eval o t x y hop (by rw [hx, hy]; exact hr)) ?_
  rw [hd]
  exact h
theorem ex_min {P : Program} (ρ : Operand → Value) (o : Oper) (x y : Operand) (s t : TypeId) (ho : o.op = .call { callee := .builtin .min, args := #[x, y], argTypes := #[s, t] }) {v u r : Value} {w : World} (hx : ρ x = v) (hy : ρ y = u) (hr : (Builtin.min_ #[s, t] o.type #[v, u]).run P w = .ok r w) : (execOp ρ o).run P w = .ok (.value r) w := by
  simp [execOp, ho, resolve, invoke, builtin, hx, hy, hr, Result.andThen]
/-- On what an operation waits, and on what those wait, so many times. -/
def depsOf (l : List Oper) (i : Nat) : List Nat := match l[i]? with
  | some o => (o.after.toList.filter fun e => Region.binds .any e).map fun e => e.on
  | none => []
def reachL (l : List Oper) : Nat → List Nat → List Nat
  | 0, s => s
  | n + 1, s => reachL l n (s ++ s.flatMap (depsOf l))
theorem deps_in {l : List Oper} {D : Nat → Prop} {i : Nat} (h : ∀ o, l[i]? = some o → ∀ e ∈ o.after, Region.binds .any e = true → D e.on) : ∀ j ∈ depsOf l i, D j := by
  intro j hj
  unfold depsOf at hj
  cases ho : l[i]? with
  | none => rw [ho] at hj; cases hj
  | some o =>
    rw [ho] at hj
    obtain ⟨e, he, rfl⟩ := List.mem_map.1 hj
    obtain ⟨h1, h2⟩ := List.mem_filter.1 he
    exact h o ho e (Array.mem_toList_iff.1 h1) h2
theorem reach_in {l : List Oper} {D : Nat → Prop} (hc : ∀ j o, D j → l[j]? = some o → ∀ e ∈ o.after, Region.binds .any e = true → D e.on) : ∀ n s, (∀ j ∈ s, D j) → ∀ j ∈ reachL l n s, D j
  | 0, _, hs => hs
  | n + 1, s, hs => reach_in hc n _ fun j hj => by
    rcases List.mem_append.1 hj with h | h
    · exact hs j h
    · obtain ⟨i, hi, hd⟩ := List.mem_flatMap.1 h
      exact deps_in (fun o ho => hc i o (hs i hi) ho) j hd
theorem hall_of {l : List Oper} {M : Nat} (n : Nat) (h : (List.range M).all (fun i => (reachL l n (depsOf l M)).contains i) = true) (D : Nat → Prop) (hc : ∀ j o, D j → l[j]? = some o → ∀ e ∈ o.after, Region.binds .any e = true → D e.on) (hm : ∀ o, l[M]? = some o → ∀ e ∈ o.after, Region.binds .any e = true → D e.on) : ∀ i, i < M → D i := by
  intro i hi
  have h2 := List.all_eq_true.1 h i (List.mem_range.2 hi)
  exact reach_in hc n _ (deps_in hm) i (List.contains_iff_mem.1 h2)
theorem ex_alloc {P : Program} (ρ : Operand → Value) (o : Oper) (t : TypeId) (ho : o.op = .alloc t) {v : Value} {w w' : World} (hr : (Instr.alloc t true (.tuple #[])).run P w = .ok v w') : (execOp ρ o).run P w = .ok (.value v) w' := by
  simp [execOp, ho, hr, Result.andThen]
end Go.Proofs.YtonoadjmglkhaaaGreat.Rg
namespace Go.Proofs.YtonoadjmglkhaaaGreat.Rw
open Go.RowKit Go.Proofs.YtonoadjmglkhaaaGreat

theorem app_fresh {α : Type} {E : Ek α} (K : E.Ok) {w : World} (B : Nat) {g : Nat} {x : Value} {m : List α} (hbox : Box w g #[] E.t) (hBg : B ≤ g) (hx : Row E w x m) (hm : m.length ≤ 1000) (ty : TypeId) :
    ∃ v' w', (Builtin.append_ #[E.ts, E.ts] ty #[.slice (some ⟨g, 0, none⟩) 0 0, x]).run Tryz.prog w = .ok v' w' ∧ Own E w' B v' m ∧ Below w.heap.size w w' := by
  have ho : Own E w B (.slice (some ⟨g, 0, none⟩) 0 0) ([] : List α) := own_shut K rfl hBg hbox (Nat.le_refl _) (Nat.zero_le _) (by simp) (by simp [flat])
  have hl := hbox.lt
  obtain ⟨v', w', r, o', gr⟩ := app_row K B ho hx (by simp) hm (by omega) ty
  refine ⟨v', w', r, by simpa using o', ?_⟩
  obtain ⟨i, i1, i2, i3, i4⟩ := K.info
  rcases hx with ⟨rfl, rfl⟩ | ⟨ad, c, rfl, h2, h3, h4⟩
  · have r2 := run_append_owned_none (P := Tryz.prog) (w := w) B E.ts ty E.t i E.n K.hu i1 _ _ _ ho
    rw [r2] at r
    injection r with _ e
    rw [← e]
    exact Below.refl _ _
  · rcases Nat.eq_zero_or_pos m.length with h0 | h0
    · have r2 := run_append_room (P := Tryz.prog) (w := w) E.ts ty E.t i K.hu i1 g 0 0 #[] hbox ad m.length c (flat E m) (by rw [flat_length K, i3]) h4 (flat_cell K m) (by omega) (by rw [flat_length K, h0]; simp)
      rw [r2] at r
      injection r with _ e
      rw [← e]
      have hf : flat E m = [] := List.eq_nil_of_length_eq_zero (by rw [flat_length K, h0]; simp)
      have hs := Box.set hbox ((#[] : Array Value).toList.take (0 * i.size) ++ flat E m ++ (#[] : Array Value).toList.drop (0 * i.size + (flat E m).length)).toArray
      refine ⟨rfl, rfl, rfl, by simp [World.setRow], fun k hk => ?_⟩
      by_cases hkg : k = g
      · subst hkg
        refine hs.trans ?_
        rw [hf]
        simpa using hbox.symm
      · exact setRow_other w g k _ hkg
    · have r2 := run_append_grow (P := Tryz.prog) (w := w) E.ts ty E.t i E.z K.hu i1 i2 ⟨g, 0, none⟩ 0 0 [] (by simp) (fun j v h => by simp at h) ad m.length c (flat E m) (by rw [flat_length K, i3]) h4 (by omega) (by omega) (by
        rw [Nat.zero_add, nextslicecap_zero h0, i4]
        exact Nat.le_trans (Nat.mul_le_mul hm K.few) (by decide))
      rw [r2] at r
      injection r with _ e
      rw [← e]
      exact (Below.refl _ _).drew.alloc (Nat.le_refl _) _
end Go.Proofs.YtonoadjmglkhaaaGreat.Rw

namespace Go.Proofs.YtonoadjmglkhaaaGreat.Bk
open Go.RowKit Go.Proofs.YtonoadjmglkhaaaGreat Go.Proofs.YtonoadjmglkhaaaGreat.Rw

theorem own_fewer {α : Type} {E : Ek α} {W : World} {B C : Nat} {v : Value} {l : List α} (h : Own E W B v l) (hc : C ≤ B) : Own E W C v l := by
  refine ⟨h.1, ?_⟩
  rcases h.2 with h2 | ⟨g, cap, cur, h1, h2, h3⟩
  · exact Or.inl h2
  · exact Or.inr ⟨g, cap, cur, h1, Nat.le_trans hc h2, h3⟩
theorem own_on {α : Type} {E : Ek α} {W W' : World} {B : Nat} {v : Value} {l : List α} (h : Own E W B v l) (hb : Below W.heap.size W W') : Own E W' B v l :=
  h.kept (w' := W') (row := none) ⟨hb.os, hb.tape, hb.output, hb.size, fun k hk _ => hb.block k hk⟩ (by cases v.ownBlock <;> simp)
theorem own_cell {α : Type} {E : Ek α} {W : World} {B : Nat} {v : Value} {l : List α} (h : Own E W B v l) (b k : Nat) (x : Value) (hb : b < B) : Own E (W.setCell ⟨b, k, none⟩ x) B v l :=
  h.kept (w' := W.setCell ⟨b, k, none⟩ x) (row := some b) ⟨rfl, rfl, rfl, by simp [World.setCell], fun j _ hne => RowKit.Below.heap_setCell _ _ _ _ (fun e => hne (by rw [e]))⟩ (by
    cases hv : v.ownBlock with
    | none => exact Or.inl rfl
    | some j =>
      refine Or.inr fun e => ?_
      injection e with e
      have h1 := (h.lt j hv).1
      omega)
theorem add_one (x y : Operand) (t : TypeId) (w : World) (k : Nat) (hk : k ≤ 900) : (do eqGuard .add t x y (.int .i64 k) (.int .i64 1); binOp .add t (.int .i64 k) (.int .i64 1) : Sem Value).run Tryz.prog w = .ok (.int .i64 ((k : Int) + 1)) w := by
  have h : IntKind.i64.wrap ((k : Int) + 1) = (k : Int) + 1 := IntWalk.i64_in _ (by omega)
  simp [eqGuard, binOp, Op.intArith, go_sem, h]
theorem box_set {W : World} {rb k : Nat} {cs : Array Value} {t : TypeId} (h : Box W rb cs t) (x : Value) : Box (W.setCell ⟨rb, k, none⟩ x) rb (cs.setIfInBounds k x) t := heap_setCell_same W rb k cs t x h
end Go.Proofs.YtonoadjmglkhaaaGreat.Bk
