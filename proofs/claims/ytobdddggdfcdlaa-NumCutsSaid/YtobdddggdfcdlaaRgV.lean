/-
  A region that draws its order, whose values are known ahead and whose last operation alone may write. No condition beyond what the theorem states.
-/
import Derived.Test.YtobdddggdfcdlaaRg
namespace Go.Proofs.Ytobdddggdfcdlaa.Rg
open Go.RowKit

/-- Is each operation but the last one's that another, behind it, waits for? -/
def used (ops : Array Oper) : Bool := (List.range (ops.size - 1)).all fun i => (List.range ops.size).any fun j => decide (i < j) && match ops[j]? with
  | some o => o.after.any fun e => Region.binds .any e && e.on == i
  | none => false
theorem used_of {ops : Array Oper} (hu : used ops = true) {i : Nat} (hi : i + 1 < ops.size) : ∃ j o e, i < j ∧ ops[j]? = some o ∧ e ∈ o.after ∧ Region.binds .any e = true ∧ e.on = i := by
  have h := List.all_eq_true.1 hu i (List.mem_range.2 (by omega))
  obtain ⟨j, _, h2⟩ := List.any_eq_true.1 h
  rw [Bool.and_eq_true] at h2
  obtain ⟨h3, h4⟩ := h2
  cases ho : ops[j]? with
  | none => rw [ho] at h4; cases h4
  | some o =>
    rw [ho] at h4
    obtain ⟨e, he, h5⟩ := Array.any_eq_true'.1 h4
    rw [Bool.and_eq_true] at h5
    exact ⟨j, o, e, of_decide_eq_true h3, ho, he, h5.1, by simpa using h5.2⟩
/-- The slots as they stand behind some of the operations. -/
structure Stood (d0 : Nat) (vals : List Value) (base : Act) (L : Array Bool) (a : Act) : Prop where
  df : a.defers = base.defers
  sz : a.tmps.size = base.tmps.size
  kp : ∀ j, (j < d0 ∨ d0 + vals.length ≤ j) → a.tmps[j]? = base.tmps[j]?
  at_ : ∀ i v, done L i → vals[i]? = some v → a.tmps[d0 + i]? = some v
theorem Stood.more {d0 : Nat} {vals : List Value} {base : Act} {L : Array Bool} {a : Act} (h : Stood d0 vals base L a) {i : Nat} {v : Value} (hv : vals[i]? = some v) (hL : i < L.size) (hs : d0 + vals.length ≤ base.tmps.size) : Stood d0 vals base (L.setIfInBounds i true) (a.put (some (d0 + i)) v) := by
  have hi : i < vals.length := (List.getElem?_eq_some_iff.1 hv).1
  refine ⟨h.df, by rw [size_put]; exact h.sz, fun j hj => ?_, fun k u hk hu => ?_⟩
  · rw [get_put _ _ _ _ (by omega)]
    exact h.kp j hj
  · by_cases e : k = i
    · subst e
      have : some u = some v := by rw [← hu, hv]
      cases this
      have : d0 + k < a.tmps.size := by rw [h.sz]; omega
      simp [Act.put, this]
    · rw [get_put _ _ _ _ (by omega)]
      rcases (done_set hL k).1 hk with h1 | h1
      · exact absurd h1 e
      · exact h.at_ k u h1 hu
theorem eval_some {a : Act} {j : Nat} {v : Value} (h : a.tmps[j]? = some v) : a.eval (.tmp j) = v := by
  have h1 := (Array.getElem?_eq_some_iff.1 h).1
  have h2 := (Array.getElem?_eq_some_iff.1 h).2
  simp [Act.eval, Array.getD, h1, h2]
/-- What an operation may rely on: the slots ahead of the region, and those of the operations that it waits for. -/
structure Seen (d0 : Nat) (vals : List Value) (base : Act) (o : Oper) (a : Act) : Prop where
  kp : ∀ j u, j < d0 → base.tmps[j]? = some u → a.eval (.tmp j) = u
  at_ : ∀ e ∈ o.after, Region.binds .any e = true → ∀ v, vals[e.on]? = some v → a.eval (.tmp (d0 + e.on)) = v
theorem region_vals {P : Program} {Q : Exit → Act → World → Prop} {id : Nat} {base : Act} {w : World} {l : List Oper} (d0 N : Nat) (vals : List Value) (R : World → Prop)
    (hm : P.follows .mixedOrders = true) (hf : fore l.toArray = true) (hu : used l.toArray = true) (hN : l.length = N + 1) (hV : vals.length = N + 1) (hs : d0 + (N + 1) ≤ base.tmps.size)
    (hop : ∀ i o v, i < N → l[i]? = some o → vals[i]? = some v → ∀ a, Seen d0 vals base o a → ∀ K : Act → World → Prop, K (a.put (some (d0 + i)) v) w.drew → wpOp P l.toArray Q i K a w.drew)
    (hlast : ∀ o v, l[N]? = some o → vals[N]? = some v → ∀ a, Seen d0 vals base o a → ∀ K : Act → World → Prop, (∀ w', R w' → K (a.put (some (d0 + N)) v) w') → wpOp P l.toArray Q N K a w.drew)
    (hend : ∀ a w', a.defers = base.defers → a.tmps.size = base.tmps.size → (∀ j, (j < d0 ∨ d0 + (N + 1) ≤ j) → a.tmps[j]? = base.tmps[j]?) → (∀ i v, vals[i]? = some v → a.tmps[d0 + i]? = some v) → R w' → Q .normal a w') : (Code.region id l.toArray true).wp P Q base w := by
  refine region_inv (fun L a x => Stood d0 vals base L a ∧ (∀ i o, done L i → l[i]? = some o → ∀ e ∈ o.after, Region.binds .any e = true → done L e.on) ∧ (¬ done L N → x = w.drew) ∧ (done L N → R x)) hm hf ?_ ?_ ?_
  · refine ⟨⟨rfl, rfl, fun _ _ => rfl, fun i v h => absurd h (none_done _ _)⟩, fun i o h => absurd h (none_done _ _), fun _ => rfl, fun h => absurd h (none_done _ _)⟩
  · intro L a x i o hsz ⟨hst, hcl, hw, hR⟩ ho hnd hdep
    have hi : i < l.length := (List.getElem?_eq_some_iff.1 ho).1
    have hiL : i < L.size := by omega
    obtain ⟨v, hv⟩ : ∃ v, vals[i]? = some v := ⟨_, List.getElem?_eq_getElem (by omega)⟩
    have seen : Seen d0 vals base o a := ⟨fun j u hj hu => eval_some (by rw [hst.kp j (Or.inl hj)]; exact hu), fun e he hb v hv => eval_some (hst.at_ _ _ (hdep e he hb) hv)⟩
    have hcl2 : ∀ k q, done (L.setIfInBounds i true) k → l[k]? = some q → ∀ e ∈ q.after, Region.binds .any e = true → done (L.setIfInBounds i true) e.on := by
      intro k q hk hq e he hb
      rw [done_set hiL] at hk ⊢
      rcases hk with rfl | hk
      · rw [hq] at ho
        cases ho
        exact Or.inr (hdep e he hb)
      · exact Or.inr (hcl k q hk hq e he hb)
    have nN : ¬ done L N := by
      intro hN'
      have hall : ∀ m k, k + m = N → done L k := by
        intro m
        induction m using Nat.strongRecOn with
        | _ m ih =>
          intro k hk
          rcases Nat.eq_zero_or_pos m with rfl | hm0
          · obtain rfl : k = N := by omega
            exact hN'
          · obtain ⟨j, q, e, h1, h2, h3, h4, h5⟩ := used_of hu (i := k) (by simp; omega)
            have h2' : l[j]? = some q := by simpa using h2
            have hj : j < l.length := (List.getElem?_eq_some_iff.1 h2').1
            have hd := ih (N - j) (by omega) j (by omega)
            have := hcl j q hd h2' e h3 h4
            rwa [h5] at this
      exact hnd (hall (N - i) i (by omega))
    obtain rfl := hw nN
    rcases Nat.lt_or_ge i N with h1 | h1
    · refine hop i o v h1 ho hv a seen _ ⟨hst.more hv hiL (by omega), hcl2, fun _ => rfl, fun h => ?_⟩
      rw [done_set hiL] at h
      rcases h with h | h
      · omega
      · exact absurd h nN
    · obtain rfl : i = N := by omega
      refine hlast o v ho hv a seen _ fun w' hw' => ⟨hst.more hv hiL (by omega), hcl2, fun h => ?_, fun _ => hw'⟩
      exact absurd ((done_set hiL i).2 (Or.inl rfl)) h
  · intro L a x ⟨hst, hcl, hw, hR⟩ hd
    exact hend a x hst.df hst.sz (fun j hj => hst.kp j (by omega)) (fun i v hv => hst.at_ i v (hd i (by have := (List.getElem?_eq_some_iff.1 hv).1; omega)) hv) (hR (hd N (by omega)))
end Go.Proofs.Ytobdddggdfcdlaa.Rg
