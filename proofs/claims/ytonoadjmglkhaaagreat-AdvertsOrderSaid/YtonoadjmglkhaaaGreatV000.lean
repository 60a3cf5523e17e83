/-
  A region that draws its order, by a relation that every operation keeps, whichever is taken next. No condition beyond what each theorem states.
  A region that draws its order, whose values are known ahead and whose last operation alone may write. No condition beyond what the theorem states.
  A region that draws its order, whose values are known ahead and some of whose operations, each waiting for the one before it, alone turn the world. No condition beyond what the theorem states.
-/
import Derived.Test.YtonoadjmglkhaaaGreatProg
import Derived.WalkKit
import Derived.Orders
import Derived.Laws.AppendOwn
import Derived.Laws.OwnMore
namespace Go.Proofs.YtonoadjmglkhaaaGreat.Rg
open Go.RowKit

def left (L : Array Bool) : Nat := L.toList.countP (fun b => !b)
theorem left_set (L : Array Bool) (i : Nat) (h : L.getD i true = false) : left (L.setIfInBounds i true) + 1 = left L := by
  obtain ⟨l⟩ := L
  have hi : i < l.length := by
    rcases Nat.lt_or_ge i l.length with h0 | h0
    · exact h0
    · exact absurd h (by simp [Array.getD, Nat.not_lt.2 h0])
  have hv : l[i] = false := by simpa [Array.getD, hi] using h
  unfold left
  simp only [List.setIfInBounds_toArray]
  rw [List.countP_set hi, hv]
  have hp : 0 < l.countP (fun b => !b) := List.countP_pos_iff.2 ⟨l[i], List.getElem_mem hi, by rw [hv]; rfl⟩
  simp
  omega
theorem left_zero (L : Array Bool) (h : left L = 0) (i : Nat) : L.getD i true = true := by
  obtain ⟨l⟩ := L
  unfold left at h
  rw [List.countP_eq_zero] at h
  rcases Nat.lt_or_ge i l.length with h0 | h0
  · have := h l[i] (List.getElem_mem h0)
    simp [Array.getD, h0]
    simpa using this
  · simp [Array.getD, Nat.not_lt.2 h0]

/-- Is each operation's wait for one that stands ahead of it? -/
def fore (ops : Array Oper) : Bool := (List.range ops.size).all fun i => match ops[i]? with
  | some o => o.after.all fun e => !Region.binds .any e || decide (e.on < i)
  | none => true
/-- Is the operation done? -/
def done (L : Array Bool) (i : Nat) : Prop := L.getD i false = true

theorem all_done {ops : Array Oper} (hf : fore ops = true) {L : Array Bool} (hs : L.size = ops.size) (h : Region.ready .any ops L = []) : ∀ n, n ≤ ops.size → ∀ i, i < n → done L i := by
  intro n
  induction n with
  | zero => intro _ i hi; omega
  | succ n ih =>
    intro hn i hi
    rcases Nat.lt_or_ge i n with h1 | h1
    · exact ih (by omega) i h1
    · obtain rfl : i = n := by omega
      cases hd : L.getD i true
      · exfalso
        have hm : i ∈ Region.ready .any ops L := by
          rw [mem_ready]
          refine ⟨hd, ops[i], Array.getElem?_eq_getElem (by omega), fun e he hbd => ?_⟩
          have h2 := List.all_eq_true.1 hf i (List.mem_range.2 (by omega))
          rw [Array.getElem?_eq_getElem (by omega)] at h2
          have h3 := Array.all_eq_true'.1 h2 e he
          rw [hbd] at h3
          exact ih (by omega) e.on (by simpa using h3)
        rw [h] at hm
        cases hm
      · unfold done
        have hi2 : i < L.size := by omega
        simp [Array.getD, hi2] at hd ⊢
        exact hd

section
variable {P : Program} {ops : Array Oper} {Q : Exit → Act → World → Prop}
theorem any_of_inv (I : Array Bool → Act → World → Prop) (hf : fore ops = true)
    (hstep : ∀ L a w i o, L.size = ops.size → I L a w → ops[i]? = some o → ¬ done L i → (∀ e ∈ o.after, Region.binds .any e = true → done L e.on) → wpOp P ops Q i (I (L.setIfInBounds i true)) a w)
    (hend : ∀ L a w, I L a w → (∀ i, i < ops.size → done L i) → Q .normal a w) :
    ∀ (fuel : Nat) (L : Array Bool) (a : Act) (w : World), L.size = ops.size → left L ≤ fuel → I L a w → wpAny P .any ops Q fuel L a w := by
  intro fuel
  induction fuel with
  | zero =>
    intro L a w hs hl hI
    have hr : Region.ready .any ops L = [] := by
      rw [List.eq_nil_iff_forall_not_mem]
      intro i hi
      have h1 := (mem_ready.1 hi).1
      rw [left_zero L (by omega) i] at h1
      cases h1
    exact ⟨hr, hend L a w hI (all_done hf hs hr ops.size (Nat.le_refl _))⟩
  | succ fuel ih =>
    intro L a w hs hl hI
    refine ⟨fun hr => hend L a w hI (all_done hf hs hr ops.size (Nat.le_refl _)), fun i hi => ?_⟩
    obtain ⟨h1, o, h2, h3⟩ := mem_ready.1 hi
    have hlt : i < ops.size := (Array.getElem?_eq_some_iff.1 h2).1
    have hnd : ¬ done L i := by
      unfold done
      have : i < L.size := by omega
      simp [Array.getD, this] at h1 ⊢
      exact h1
    have hst := hstep L a w i o hs hI h2 hnd (fun e he hb => h3 e he hb)
    have hmono : ∀ a' w', I (L.setIfInBounds i true) a' w' → wpAny P .any ops Q fuel (L.setIfInBounds i true) a' w' := fun a' w' h =>
      ih _ a' w' (by simpa using hs) (by have := left_set L i h1; omega) h
    unfold wpOp at hst ⊢
    rw [h2] at hst ⊢
    simp only at hst ⊢
    split at hst
    · rename_i hw
      rw [if_pos hw]
      rcases hst with hst | hst
      · exact Or.inl (Oper.wp_mono hmono hst)
      · exact Or.inr hst
    · rename_i hw
      rw [if_neg hw]
      exact hmono _ _ hst

theorem region_inv (I : Array Bool → Act → World → Prop) {id : Nat} {a : Act} {w : World} {l : List Oper} (hm : P.follows .mixedOrders = true) (hf : fore l.toArray = true)
    (h0 : I (Array.replicate l.length false) a { w with drawn := w.drawn + 1 })
    (hstep : ∀ L a w i o, L.size = l.length → I L a w → l[i]? = some o → ¬ done L i → (∀ e ∈ o.after, Region.binds .any e = true → done L e.on) → wpOp P l.toArray Q i (I (L.setIfInBounds i true)) a w)
    (hend : ∀ L a w, I L a w → (∀ i, i < l.length → done L i) → Q .normal a w) : (Code.region id l.toArray true).wp P Q a w := by
  refine wp_region_any hm (any_of_inv (ops := l.toArray) I hf (fun L a w i o hs hI ho => hstep L a w i o (by simpa using hs) hI (by simpa using ho)) (fun L a w hI hd => hend L a w hI (by simpa using hd)) _ _ _ _ (by simp) ?_ (by simpa using h0))
  unfold left
  have h2 := List.countP_le_length (p := fun b : Bool => !b) (l := List.replicate l.length false)
  simpa using h2
end

theorem done_set {L : Array Bool} {i : Nat} (h : i < L.size) (j : Nat) : done (L.setIfInBounds i true) j ↔ j = i ∨ done L j := by
  unfold done
  by_cases e : j = i
  · subst e; simp [Array.getD, h]
  · by_cases hj : j < L.size
    · have h2 : i ≠ j := fun x => e x.symm
      simp [Array.getD, hj, e, h2]
    · simp [Array.getD, hj, e]
theorem none_done (n j : Nat) : ¬ done (Array.replicate n false) j := by
  unfold done
  by_cases hj : j < n <;> simp [Array.getD, hj]

/-- One plain operation: it hands back a value. -/
theorem op_value {P : Program} {ops : Array Oper} {Q : Exit → Act → World → Prop} {K : Act → World → Prop} {a : Act} {w w' : World} {i : Nat} {o : Oper} {v : Value}
    (ho : ops[i]? = some o) (hg : o.guard = none) (hr : (execOp a.eval o).run P w = .ok (.value v) w') (h : K (a.put o.dst v) w') : wpOp P ops Q i K a w := by
  unfold wpOp
  rw [ho]
  have hw : Region.wanted o (yielded ops a.tmps) = true := by simp [Region.wanted, hg]
  simp only [hw, if_true]
  refine Or.inl ?_
  unfold Oper.wp
  rw [hr]
  exact h
/-- What a plain operation runs, by its make. -/
theorem v_run {P : Program} {s : Sem Value} {w w' : World} {v : Value} (h : s.run P w = .ok v w') : (do pure (Next.value (← s)) : Sem Next).run P w = .ok (.value v) w' := by
  simp [go_sem, h]
theorem ex_append {P : Program} (ρ : Operand → Value) (o : Oper) (s x : Operand) (t : TypeId) (ho : o.op = .call { callee := .builtin .append, args := #[s, x], argTypes := #[t, t] }) {v x' v' : Value} {w w' : World}
    (hs : ρ s = v) (hx : ρ x = x') (hrun : (Builtin.append_ #[t, t] o.type #[v, x']).run P w = .ok v' w') : (execOp ρ o).run P w = .ok (.value v') w' := by
  simp [execOp, ho, resolve, invoke, builtin, hs, hx, hrun, Result.andThen]
theorem ex_slice {P : Program} (ρ : Operand → Value) (o : Oper) (t : TypeId) (x : Operand) (l h m : Option Operand) (ho : o.op = .slice t x l h m) {v : Value} {w : World} (hr : (Instr.sliceAt t (ρ x) (l.map ρ) (h.map ρ) (m.map ρ)).run P w = .ok v w) :
    (execOp ρ o).run P w = .ok (.value v) w := by
  simp [execOp, ho, hr, Result.andThen]
theorem ex_index {P : Program} (ρ : Operand → Value) (o : Oper) (t : TypeId) (x i : Operand) (ho : o.op = .indexAddr t x i) {v : Value} {w : World} (hr : (Instr.indexAt t (ρ x) (ρ i)).run P w = .ok v w) :
    (execOp ρ o).run P w = .ok (.value v) w := by
  simp [execOp, ho, hr, Result.andThen]
theorem ex_load {P : Program} (ρ : Operand → Value) (o : Oper) (t : TypeId) (x : Operand) (ho : o.op = .load t x) {v : Value} {w : World} (hr : (Instr.loadAt t (ρ x)).run P w = .ok v w) :
    (execOp ρ o).run P w = .ok (.value v) w := by
  simp [execOp, ho, hr, Result.andThen]
theorem ex_build {P : Program} (ρ : Operand → Value) (o : Oper) (t : TypeId) (n : Nat) (parts : Array (Nat × Operand)) (ho : o.op = .buildSlice t n parts) {ps : Array (Nat × Value)} (hp : parts.map (fun x => (x.1, ρ x.2)) = ps) {v : Value} {w w' : World} (hr : (Instr.buildSlice t n ps).run P w = .ok v w') :
    (execOp ρ o).run P w = .ok (.value v) w' := by
  subst hp
  simp [execOp, ho, hr, Result.andThen]
theorem ex_move {P : Program} (ρ : Operand → Value) (o : Oper) (x : Operand) (ho : o.op = .move x) (w : World) : (execOp ρ o).run P w = .ok (.value (ρ x)) w := by
  simp [execOp, ho]
theorem ex_assign {P : Program} (ρ : Operand → Value) (o : Oper) (x : Operand) (ho : o.op = .assign x) (w : World) : (execOp ρ o).run P w = .ok (.value (ρ x)) w := by
  simp [execOp, ho]
theorem eval_put (a : Act) (d : Nat) (v : Value) (j : Nat) (hd : d < a.tmps.size) : (a.put (some d) v).eval (.tmp j) = if j = d then v else a.eval (.tmp j) := by
  by_cases e : j = d
  · subst e; simp [Act.put, Act.eval, Array.getD, hd]
  · have h2 : d ≠ j := fun x => e x.symm
    by_cases hj : j < a.tmps.size
    · simp [Act.put, Act.eval, Array.getD, hj, e, h2]
    · simp [Act.put, Act.eval, Array.getD, hj, e]
theorem size_put (a : Act) (d : Nat) (v : Value) : (a.put (some d) v).tmps.size = a.tmps.size := by simp [Act.put]
theorem get_put (a : Act) (d : Nat) (v : Value) (j : Nat) (hd : j ≠ d) : (a.put (some d) v).tmps[j]? = a.tmps[j]? := by
  have h2 : d ≠ j := fun x => hd x.symm
  simp [Act.put, h2]
theorem lt_of_heap {w : World} {b : Nat} {o : Obj} (h : w.heap[b]? = some o) : b < w.heap.size := by
  rcases Nat.lt_or_ge b w.heap.size with h0 | h0
  · exact h0
  · simp [Array.getElem?_eq_none h0] at h
theorem heapLast (w : World) (o : Obj) : (w.alloc o).heap[w.heap.size]? = some o := by show (w.heap.push _)[w.heap.size]? = _; simp
theorem eval_get {a : Act} {base : Array Value} {j : Nat} {x : Value} (hk : a.tmps[j]? = base[j]?) (h : base[j]? = some x) : a.eval (.tmp j) = x := by
  rw [h] at hk
  unfold Act.eval
  have hlt : j < a.tmps.size := (Array.getElem?_eq_some_iff.1 hk).1
  simp only [Array.getD, hlt, dif_pos]
  have h2 := (Array.getElem?_eq_some_iff.1 hk).2
  simpa using h2
theorem grown_refl (w : World) (row : Option Nat) : w.grownBy w row := ⟨rfl, rfl, rfl, Nat.le_refl _, fun _ _ _ => rfl⟩
end Go.Proofs.YtonoadjmglkhaaaGreat.Rg

namespace Go.Proofs.YtonoadjmglkhaaaGreat.Rg
open Go.RowKit

/-- Is each operation but the last one's that another, behind it, waits for? -/
def used (ops : Array Oper) : Bool := (List.range (ops.size - 1)).all fun i => (List.range ops.size).any fun j => decide (i < j) && match ops[j]? with
  | some o => o.after.any fun e => Region.binds .any e && e.on == i
  | none => false
theorem used_of {ops : Array Oper} (hu : used ops = true) {i : Nat} (hi : i + 1 < ops.size) : ∃ j o e, i < j ∧ ops[j]? = some o ∧ e ∈ o.after ∧ Region.binds .any e = true ∧ e.on = i := by
  have h := List.all_eq_true.1 hu i (List.mem_range.2 (by omega))
  obtain ⟨j, _, h2⟩ := List.any_eq_true.1 h
  rw [Bool.and_eq_true] at h2
  obtain ⟨h3, h4⟩ := h2
  cases ho : ops[j]? with
  | none => rw [ho] at h4; cases h4
  | some o =>
    rw [ho] at h4
    obtain ⟨e, he, h5⟩ := Array.any_eq_true'.1 h4
    rw [Bool.and_eq_true] at h5
    exact ⟨j, o, e, of_decide_eq_true h3, ho, he, h5.1, by simpa using h5.2⟩
/-- The slots as they stand behind some of the operations. -/
structure Stood (d0 : Nat) (vals : List Value) (base : Act) (L : Array Bool) (a : Act) : Prop where
  df : a.defers = base.defers
  sz : a.tmps.size = base.tmps.size
  kp : ∀ j, (j < d0 ∨ d0 + vals.length ≤ j) → a.tmps[j]? = base.tmps[j]?
  at_ : ∀ i v, done L i → vals[i]? = some v → a.tmps[d0 + i]? = some v
theorem Stood.more {d0 : Nat} {vals : List Value} {base : Act} {L : Array Bool} {a : Act} (h : Stood d0 vals base L a) {i : Nat} {v : Value} (hv : vals[i]? = some v) (hL : i < L.size) (hs : d0 + vals.length ≤ base.tmps.size) : Stood d0 vals base (L.setIfInBounds i true) (a.put (some (d0 + i)) v) := by
  have hi : i < vals.length := (List.getElem?_eq_some_iff.1 hv).1
  refine ⟨h.df, by rw [size_put]; exact h.sz, fun j hj => ?_, fun k u hk hu => ?_⟩
  · rw [get_put _ _ _ _ (by omega)]
    exact h.kp j hj
  · by_cases e : k = i
    · subst e
      have : some u = some v := by rw [← hu, hv]
      cases this
      have : d0 + k < a.tmps.size := by rw [h.sz]; omega
      simp [Act.put, this]
    · rw [get_put _ _ _ _ (by omega)]
      rcases (done_set hL k).1 hk with h1 | h1
      · exact absurd h1 e
      · exact h.at_ k u h1 hu
theorem eval_some {a : Act} {j : Nat} {v : Value} (h : a.tmps[j]? = some v) : a.eval (.tmp j) = v := by
  have h1 := (Array.getElem?_eq_some_iff.1 h).1
  have h2 := (Array.getElem?_eq_some_iff.1 h).2
  simp [Act.eval, Array.getD, h1, h2]
/-- What an operation may rely on: the slots ahead of the region, and those of the operations that it waits for. -/
structure Seen (d0 : Nat) (vals : List Value) (base : Act) (o : Oper) (a : Act) : Prop where
  kp : ∀ j u, j < d0 → base.tmps[j]? = some u → a.eval (.tmp j) = u
  at_ : ∀ e ∈ o.after, Region.binds .any e = true → ∀ v, vals[e.on]? = some v → a.eval (.tmp (d0 + e.on)) = v
theorem region_vals {P : Program} {Q : Exit → Act → World → Prop} {id : Nat} {base : Act} {w : World} {l : List Oper} (d0 N : Nat) (vals : List Value) (R : World → Prop)
    (hm : P.follows .mixedOrders = true) (hf : fore l.toArray = true) (hu : used l.toArray = true) (hN : l.length = N + 1) (hV : vals.length = N + 1) (hs : d0 + (N + 1) ≤ base.tmps.size)
    (hop : ∀ i o v, i < N → l[i]? = some o → vals[i]? = some v → ∀ a, Seen d0 vals base o a → ∀ K : Act → World → Prop, K (a.put (some (d0 + i)) v) w.drew → wpOp P l.toArray Q i K a w.drew)
    (hlast : ∀ o v, l[N]? = some o → vals[N]? = some v → ∀ a, Seen d0 vals base o a → ∀ K : Act → World → Prop, (∀ w', R w' → K (a.put (some (d0 + N)) v) w') → wpOp P l.toArray Q N K a w.drew)
    (hend : ∀ a w', a.defers = base.defers → a.tmps.size = base.tmps.size → (∀ j, (j < d0 ∨ d0 + (N + 1) ≤ j) → a.tmps[j]? = base.tmps[j]?) → (∀ i v, vals[i]? = some v → a.tmps[d0 + i]? = some v) → R w' → Q .normal a w') : (Code.region id l.toArray true).wp P Q base w := by
  refine region_inv (fun L a x => Stood d0 vals base L a ∧ (∀ i o, done L i → l[i]? = some o → ∀ e ∈ o.after, Region.binds .any e = true → done L e.on) ∧ (¬ done L N → x = w.drew) ∧ (done L N → R x)) hm hf ?_ ?_ ?_
  · refine ⟨⟨rfl, rfl, fun _ _ => rfl, fun i v h => absurd h (none_done _ _)⟩, fun i o h => absurd h (none_done _ _), fun _ => rfl, fun h => absurd h (none_done _ _)⟩
  · intro L a x i o hsz ⟨hst, hcl, hw, hR⟩ ho hnd hdep
    have hi : i < l.length := (List.getElem?_eq_some_iff.1 ho).1
    have hiL : i < L.size := by omega
    obtain ⟨v, hv⟩ : ∃ v, vals[i]? = some v := ⟨_, List.getElem?_eq_getElem (by omega)⟩
    have seen : Seen d0 vals base o a := ⟨fun j u hj hu => eval_some (by rw [hst.kp j (Or.inl hj)]; exact hu), fun e he hb v hv => eval_some (hst.at_ _ _ (hdep e he hb) hv)⟩
    have hcl2 : ∀ k q, done (L.setIfInBounds i true) k → l[k]? = some q → ∀ e ∈ q.after, Region.binds .any e = true → done (L.setIfInBounds i true) e.on := by
      intro k q hk hq e he hb
      rw [done_set hiL] at hk ⊢
      rcases hk with rfl | hk
      · rw [hq] at ho
        cases ho
        exact Or.inr (hdep e he hb)
      · exact Or.inr (hcl k q hk hq e he hb)
    have nN : ¬ done L N := by
      intro hN'
      have hall : ∀ m k, k + m = N → done L k := by
        intro m
        induction m using Nat.strongRecOn with
        | _ m ih =>
          intro k hk
          rcases Nat.eq_zero_or_pos m with rfl | hm0
          · obtain rfl : k = N := by omega
            exact hN'
          · obtain ⟨j, q, e, h1, h2, h3, h4, h5⟩ := used_of hu (i := k) (by simp; omega)
            have h2' : l[j]? = some q := by simpa using h2
            have hj : j < l.length := (List.getElem?_eq_some_iff.1 h2').1
            have hd := ih (N - j) (by omega) j (by omega)
            have := hcl j q hd h2' e h3 h4
            rwa [h5] at this
      exact hnd (hall (N - i) i (by omega))
    obtain rfl := hw nN
    rcases Nat.lt_or_ge i N with h1 | h1
    · refine hop i o v h1 ho hv a seen _ ⟨hst.more hv hiL (by omega), hcl2, fun _ => rfl, fun h => ?_⟩
      rw [done_set hiL] at h
      rcases h with h | h
      · omega
      · exact absurd h nN
    · obtain rfl : i = N := by omega
      refine hlast o v ho hv a seen _ fun w' hw' => ⟨hst.more hv hiL (by omega), hcl2, fun h => ?_, fun _ => hw'⟩
      exact absurd ((done_set hiL i).2 (Or.inl rfl)) h
  · intro L a x ⟨hst, hcl, hw, hR⟩ hd
    exact hend a x hst.df hst.sz (fun j hj => hst.kp j (by omega)) (fun i v hv => hst.at_ i v (hd i (by have := (List.getElem?_eq_some_iff.1 hv).1; omega)) hv) (hR (hd N (by omega)))
end Go.Proofs.YtonoadjmglkhaaaGreat.Rg

namespace Go.Proofs.YtonoadjmglkhaaaGreat.Rg
open Go.RowKit

/-- So many of the marked operations are done. -/
def St (mk : Nat → Nat) (R : Nat) (L : Array Bool) (s : Nat) : Prop := s ≤ R ∧ (∀ j, j < s → done L (mk j)) ∧ ∀ j, s ≤ j → j < R → ¬ done L (mk j)
theorem region_marks {P : Program} {Q : Exit → Act → World → Prop} {id : Nat} {base : Act} {w : World} {l : List Oper} (d0 N : Nat) (vals : List Value) (mk : Nat → Nat) (R : Nat) (wof : Nat → World)
    (hm : P.follows .mixedOrders = true) (hf : fore l.toArray = true) (hN : l.length = N + 1) (hV : vals.length = N + 1) (hs : d0 + (N + 1) ≤ base.tmps.size) (hw : wof 0 = w.drew)
    (hinj : ∀ i j, i < R → j < R → mk i = mk j → i = j) (hlt : ∀ j, j < R → mk j ≤ N)
    (hch : ∀ j o, j + 1 < R → l[mk (j + 1)]? = some o → ∃ e ∈ o.after, Region.binds .any e = true ∧ e.on = mk j)
    (hop : ∀ i o v, i ≤ N → l[i]? = some o → vals[i]? = some v → (∀ j, j < R → i ≠ mk j) → ∀ s, s ≤ R → (∀ j o', j < s → l[mk j]? = some o' → ∀ e ∈ o'.after, Region.binds .any e = true → e.on ≠ i) → ∀ a, Seen d0 vals base o a → ∀ K : Act → World → Prop, K (a.put (some (d0 + i)) v) (wof s) → wpOp P l.toArray Q i K a (wof s))
    (hmk : ∀ j o v, j < R → l[mk j]? = some o → vals[mk j]? = some v → ∀ a, Seen d0 vals base o a → ∀ K : Act → World → Prop, ((mk j < N → K (a.put (some (d0 + mk j)) v) (wof (j + 1))) ∧ (mk j = N → K a (wof (j + 1)) ∧ K (a.put (some (d0 + mk j)) v) (wof (j + 1)))) → wpOp P l.toArray Q (mk j) K a (wof j))
    (hend : ∀ a, a.defers = base.defers → a.tmps.size = base.tmps.size → (∀ j, (j < d0 ∨ d0 + (N + 1) ≤ j) → a.tmps[j]? = base.tmps[j]?) → (∀ i v, i < N → vals[i]? = some v → a.tmps[d0 + i]? = some v) → Q .normal a (wof R)) : (Code.region id l.toArray true).wp P Q base w := by
  have hst0 : ∀ i v, vals[i]? = some v → i ≤ N := fun i v hv => by
    have := (List.getElem?_eq_some_iff.1 hv).1
    omega
  refine region_inv (fun L a x => (a.defers = base.defers ∧ a.tmps.size = base.tmps.size ∧ (∀ j, (j < d0 ∨ d0 + (N + 1) ≤ j) → a.tmps[j]? = base.tmps[j]?) ∧ ∀ i v, done L i → i < N → vals[i]? = some v → a.tmps[d0 + i]? = some v) ∧ (∀ i o, done L i → l[i]? = some o → ∀ e ∈ o.after, Region.binds .any e = true → done L e.on) ∧ ∃ s, St mk R L s ∧ x = wof s) hm hf ?_ ?_ ?_
  · exact ⟨⟨rfl, rfl, fun _ _ => rfl, fun i v h => absurd h (none_done _ _)⟩, fun i o h => absurd h (none_done _ _), 0, ⟨Nat.zero_le _, fun j h => by omega, fun j _ _ => none_done _ _⟩, hw.symm⟩
  · intro L a x i o hsz ⟨⟨h1, h2, h3, h4⟩, hcl, s, hS, hx⟩ ho hnd hdep
    subst hx
    have hi : i < l.length := (List.getElem?_eq_some_iff.1 ho).1
    have hiL : i < L.size := by omega
    obtain ⟨v, hv⟩ : ∃ v, vals[i]? = some v := ⟨_, List.getElem?_eq_getElem (by omega)⟩
    have hon : ∀ e ∈ o.after, Region.binds .any e = true → e.on < N := fun e he hb => by
      have h7 := List.all_eq_true.1 hf i (List.mem_range.2 (by simpa using hi))
      have ho' : (l.toArray)[i]? = some o := by simpa using ho
      rw [ho'] at h7
      have h8 := Array.all_eq_true'.1 h7 e he
      rw [hb] at h8
      have : e.on < i := by simpa using h8
      omega
    have seen : Seen d0 vals base o a := ⟨fun j u hj hu => eval_some (by rw [h3 j (Or.inl hj)]; exact hu), fun e he hb v hv => eval_some (h4 _ _ (hdep e he hb) (hon e he hb) hv)⟩
    have put_ok : ∀ u, vals[i]? = some u → (a.put (some (d0 + i)) u).defers = base.defers ∧ (a.put (some (d0 + i)) u).tmps.size = base.tmps.size ∧ (∀ j, (j < d0 ∨ d0 + (N + 1) ≤ j) → (a.put (some (d0 + i)) u).tmps[j]? = base.tmps[j]?) ∧ ∀ k v, done (L.setIfInBounds i true) k → k < N → vals[k]? = some v → (a.put (some (d0 + i)) u).tmps[d0 + k]? = some v := fun u hu => by
      refine ⟨h1, by rw [size_put]; exact h2, fun j hj => ?_, fun k y hk hkN hy => ?_⟩
      · rw [get_put _ _ _ _ (by omega)]
        exact h3 j hj
      · by_cases e : k = i
        · subst e
          have : some y = some u := by rw [← hy, hu]
          cases this
          have : d0 + k < a.tmps.size := by rw [h2]; omega
          simp [Act.put, this]
        · rw [get_put _ _ _ _ (by omega)]
          rcases (done_set hiL k).1 hk with h9 | h9
          · exact absurd h9 e
          · exact h4 k y h9 hkN hy
    have same_ok : i = N → a.defers = base.defers ∧ a.tmps.size = base.tmps.size ∧ (∀ j, (j < d0 ∨ d0 + (N + 1) ≤ j) → a.tmps[j]? = base.tmps[j]?) ∧ ∀ k v, done (L.setIfInBounds i true) k → k < N → vals[k]? = some v → a.tmps[d0 + k]? = some v := fun hiN => by
      refine ⟨h1, h2, h3, fun k y hk hkN hy => ?_⟩
      rcases (done_set hiL k).1 hk with h9 | h9
      · omega
      · exact h4 k y h9 hkN hy
    have hcl2 : ∀ k q, done (L.setIfInBounds i true) k → l[k]? = some q → ∀ e ∈ q.after, Region.binds .any e = true → done (L.setIfInBounds i true) e.on := by
      intro k q hk hq e he hb
      rw [done_set hiL] at hk ⊢
      rcases hk with rfl | hk
      · rw [hq] at ho
        cases ho
        exact Or.inr (hdep e he hb)
      · exact Or.inr (hcl k q hk hq e he hb)
    by_cases hmark : ∃ j, j < R ∧ i = mk j
    · obtain ⟨j, hj, rfl⟩ := hmark
      have hsj : s = j := by
        obtain ⟨q1, q2, q3⟩ := hS
        rcases Nat.lt_trichotomy s j with h | h | h
        · exfalso
          obtain ⟨k, rfl⟩ : ∃ k, j = k + 1 := ⟨j - 1, by omega⟩
          obtain ⟨e, he, hb, hon2⟩ := hch k o hj ho
          have := hdep e he hb
          rw [hon2] at this
          exact q3 k (by omega) (by omega) this
        · exact h
        · exact absurd (q2 j h) hnd
      subst hsj
      have hS' : St mk R (L.setIfInBounds (mk s) true) (s + 1) := by
        obtain ⟨q1, q2, q3⟩ := hS
        refine ⟨hj, fun j hj2 => (done_set hiL _).2 ?_, fun j h5 h6 h7 => ?_⟩
        · by_cases e : j = s
          · exact Or.inl (by rw [e])
          · exact Or.inr (q2 j (by omega))
        · rcases (done_set hiL _).1 h7 with h8 | h8
          · have := hinj _ _ h6 hj h8
            omega
          · exact q3 j (by omega) h6 h8
      exact hmk s o v hj ho hv a seen _ ⟨fun _ => ⟨put_ok v hv, hcl2, s + 1, hS', rfl⟩, fun hN' => ⟨⟨same_ok hN', hcl2, s + 1, hS', rfl⟩, ⟨put_ok v hv, hcl2, s + 1, hS', rfl⟩⟩⟩
    · refine hop i o v (by omega) ho hv (fun j hj e => hmark ⟨j, hj, e⟩) s hS.1 (fun j o' hj ho' e he hb e2 => hnd (by rw [← e2]; exact hcl _ o' (hS.2.1 j hj) ho' e he hb)) a seen _ ⟨put_ok v hv, hcl2, s, ⟨hS.1, fun j hj => (done_set hiL _).2 (Or.inr (hS.2.1 j hj)), fun j h5 h6 h7 => ?_⟩, rfl⟩
      rcases (done_set hiL _).1 h7 with h8 | h8
      · exact hmark ⟨j, h6, h8.symm⟩
      · exact hS.2.2 j h5 h6 h8
  · intro L a x ⟨⟨h1, h2, h3, h4⟩, _, s, hS, hx⟩ hd
    have hsR : s = R := by
      rcases Nat.lt_or_ge s R with h | h
      · exact absurd (hd (mk s) (by have := hlt s h; omega)) (hS.2.2 s (Nat.le_refl _) h)
      · have := hS.1; omega
    subst hsR
    subst hx
    exact hend a h1 h2 h3 fun i v hi hv => h4 i v (hd i (by omega)) hi hv
theorem ex_lookup {P : Program} (ρ : Operand → Value) (o : Oper) (t : TypeId) (m k : Operand) (c : Bool) (ho : o.op = .lookup t m k c) {v : Value} {w : World} (hr : (Instr.lookup t (ρ m) (ρ k) c).run P w = .ok v w) :
    (execOp ρ o).run P w = .ok (.value v) w := by
  simp [execOp, ho, hr, Result.andThen]
/-- One plain operation that hands back nothing. -/
theorem op_skip {P : Program} {ops : Array Oper} {Q : Exit → Act → World → Prop} {K : Act → World → Prop} {a : Act} {w w' : World} {i : Nat} {o : Oper}
    (ho : ops[i]? = some o) (hg : o.guard = none) (hr : (execOp a.eval o).run P w = .ok .skip w') (h : K (a.put o.dst undef) w') : wpOp P ops Q i K a w := by
  unfold wpOp
  rw [ho]
  have hw : Region.wanted o (yielded ops a.tmps) = true := by simp [Region.wanted, hg]
  simp only [hw, if_true]
  refine Or.inl ?_
  unfold Oper.wp
  rw [hr]
  exact h
theorem ex_update {P : Program} (ρ : Operand → Value) (o : Oper) (t : TypeId) (m k x : Operand) (ho : o.op = .mapUpdate t m k x) {w w' : World} (hr : (Instr.mapUpdate t (ρ m) (ρ k) (ρ x)).run P w = .ok () w') :
    (execOp ρ o).run P w = .ok .skip w' := by
  simp [execOp, ho, hr, Result.andThen]
/-- The slots behind such a region, as a list. -/
theorem frame_mid {a : Act} {bl : List Value} (d0 m : Nat) (df : a.defers = []) (sz : a.tmps.size = bl.length) (hle : d0 + m ≤ bl.length) (kp : ∀ j, (j < d0 ∨ d0 + m ≤ j) → a.tmps[j]? = bl[j]?) :
    ∃ mid : List Value, mid.length = m ∧ a = ⟨(bl.take d0 ++ (mid ++ bl.drop (d0 + m))).toArray, []⟩ := by
  obtain ⟨tmps, defers⟩ := a
  have hd : defers = [] := df
  have hs : tmps.size = bl.length := sz
  have hk : ∀ j, (j < d0 ∨ d0 + m ≤ j) → tmps[j]? = bl[j]? := kp
  subst hd
  have hl : ((tmps.toList.drop d0).take m).length = m := by simp; omega
  refine ⟨(tmps.toList.drop d0).take m, hl, congrArg (fun x => (⟨x, []⟩ : Act)) ?_⟩
  apply Array.ext_getElem?
  intro j
  conv => rhs; rw [List.getElem?_toArray]
  by_cases h1 : j < d0
  · rw [hk j (Or.inl h1), List.getElem?_append_left (by simp; omega), List.getElem?_take, if_pos h1]
  · have ht : (bl.take d0).length = d0 := by simp; omega
    rw [List.getElem?_append_right (by omega), ht]
    by_cases h2 : j < d0 + m
    · rw [List.getElem?_append_left (by omega), List.getElem?_take, if_pos (by omega), List.getElem?_drop, Array.getElem?_toList, show d0 + (j - d0) = j by omega]
    · rw [hk j (Or.inr (by omega)), List.getElem?_append_right (by omega), hl, List.getElem?_drop, show d0 + m + (j - d0 - m) = j by omega]
end Go.Proofs.YtonoadjmglkhaaaGreat.Rg
