/-
  Calls inside a region that draws. No condition beyond what the theorems state.
  A region that draws its order, in which a variable is made, one value is come by (by a call that may make memory), and the value is stored into the variable; all else is known ahead. No condition beyond what the theorem states.
  A region that draws its order, each of whose operations hands back a value of which something is known that holds on as memory grows; what was there stays. No condition beyond what the theorem states.
-/
import Derived.Test.YtonoadjmglkhaaaGreatV000
import Derived.Test.YtonoadjmglkhaaaGreatV001
namespace Go.Proofs.YtonoadjmglkhaaaGreat.Rg
open Go.RowKit

theorem op_call {P : Program} {ops : Array Oper} {Q : Exit → Act → World → Prop} {K : Act → World → Prop} {a : Act} {w : World} {i : Nat} {o : Oper} {f : FuncId} {args : Array Value} {R : Ending → World → Prop}
    (ho : ops[i]? = some o) (hg : o.guard = none) (hr : (execOp a.eval o).run P w = .ok (.enter f args) w) (hc : Calls P f args w R) (hR : ∀ e w', R e w' → ∃ v, e = .returned v ∧ K (a.put o.dst v) w') : wpOp P ops Q i K a w := by
  unfold wpOp
  rw [ho]
  have hw : Region.wanted o (yielded ops a.tmps) = true := by simp [Region.wanted, hg]
  simp only [hw, if_true]
  refine Or.inl ?_
  unfold Oper.wp
  rw [hr, Oper.upon_enter]
  refine hc.mono ?_
  intro e w' h
  obtain ⟨v, rfl, hk⟩ := hR e w' h
  exact hk
theorem ex_call3 {P : Program} (ρ : Operand → Value) (o : Oper) (x y z : Operand) (t : TypeId) (f : FuncId) (ho : o.op = .call { callee := .value (.func f), args := #[x, y, z], argTypes := #[t, t, t] }) {v u s : Value} (hx : ρ x = v) (hy : ρ y = u) (hz : ρ z = s) (hf : ρ (.func f) = .func (.func f) #[] #[]) (w : World)
    (hc : (callFunc f #[v, u, s]).run P w = .ok (.enter f #[v, u, s]) w) : (execOp ρ o).run P w = .ok (.enter f #[v, u, s]) w := by
  simp [execOp, ho, resolve, invoke, hx, hy, hz, hf, Deferred.ofValue, hc]
theorem ex_callv2 {P : Program} (ρ : Operand → Value) (o : Oper) (g x y : Operand) (t s : TypeId) (f : FuncId) (p q : Value) (ho : o.op = .call { callee := .value g, args := #[x, y], argTypes := #[t, s] }) {v u : Value} (hx : ρ x = v) (hy : ρ y = u) (hf : ρ g = .func (.func f) #[] #[p, q]) (w : World)
    (hc : (callFunc f #[v, u, p, q]).run P w = .ok (.enter f #[v, u, p, q]) w) : (execOp ρ o).run P w = .ok (.enter f #[v, u, p, q]) w := by
  simp [execOp, ho, resolve, invoke, hx, hy, hf, Deferred.ofValue, hc]
theorem ex_field {P : Program} (ρ : Operand → Value) (o : Oper) (s : TypeId) (x : Operand) (f : Nat) (ho : o.op = .fieldAddr s x f) {v : Value} {w : World} (hr : (Instr.fieldAt s (ρ x) f).run P w = .ok v w) : (execOp ρ o).run P w = .ok (.value v) w := by
  unfold execOp
  rw [ho]
  exact v_run hr
theorem ex_bin {P : Program} (ρ : Operand → Value) (o : Oper) (op : BinOp) (t : TypeId) (x y : Operand) (r : TypeId) (ho : o.op = .binOp op t x y r) {v : Value} {w : World} (hr : (do eqGuard op t x y (ρ x) (ρ y); binOp op t (ρ x) (ρ y) : Sem Value).run P w = .ok v w) : (execOp ρ o).run P w = .ok (.value v) w := by
  unfold execOp
  rw [ho]
  exact v_run hr
end Go.Proofs.YtonoadjmglkhaaaGreat.Rg

namespace Go.Proofs.YtonoadjmglkhaaaGreat.Rg
open Go.RowKit Go.Proofs.YtonoadjmglkhaaaGreat.Rw

/-- What an operation may rely on. -/
structure SeenB (N : Nat) (d : Nat → Nat) (cv : Nat → Option Value) (base : Act) (o : Oper) (a : Act) : Prop where
  kp : ∀ j u, (∀ i, i < N → d i ≠ j) → base.tmps[j]? = some u → a.eval (.tmp j) = u
  at_ : ∀ e ∈ o.after, Region.binds .any e = true → ∀ v, cv e.on = some v → a.eval (.tmp (d e.on)) = v
structure InB (N A S C : Nat) (d : Nat → Nat) (cv : Nat → Option Value) (PV : Value → World → Prop) (t : TypeId) (zero : Array Value) (cof : Value → Array Value) (base : Act) (W : World) (L : Array Bool) (a : Act) (x : World) : Prop where
  df : a.defers = base.defers
  sz : a.tmps.size = base.tmps.size
  kp : ∀ j, (∀ i, i < N → d i ≠ j) → a.tmps[j]? = base.tmps[j]?
  bel : Below W.heap.size W x
  con : ∀ i v, i < N → i ≠ S → done L i → cv i = some v → a.tmps[d i]? = some v
  val : done L C → ¬ done L S → ∃ v, a.tmps[d C]? = some v ∧ PV v x
  box : done L A → ¬ done L S → ∃ bb, a.tmps[d A]? = some (.pointer (some ⟨bb, 0, none⟩)) ∧ W.heap.size ≤ bb ∧ Box x bb zero t
  fin : done L S → done L A ∧ done L C ∧ ∃ bb v, a.tmps[d A]? = some (.pointer (some ⟨bb, 0, none⟩)) ∧ W.heap.size ≤ bb ∧ Box x bb (cof v) t ∧ PV v x
theorem region_box {P : Program} {Q : Exit → Act → World → Prop} {id : Nat} {base : Act} {W : World} {l : List Oper} (N A S C : Nat) (d : Nat → Nat) (cv : Nat → Option Value) (PV : Value → World → Prop) (t : TypeId) (zero : Array Value) (cof : Value → Array Value)
    (hm : P.follows .mixedOrders = true) (hf : fore l.toArray = true) (hN : l.length = N) (hA : A < N) (hS : S < N) (hC : C < N) (hAS : A ≠ S) (hCS : C ≠ S) (hAC : A ≠ C) (cA : cv A = none) (cC : cv C = none) (cS : cv S = none)
    (hinj : ∀ i j, i < N → j < N → i ≠ S → j ≠ S → d i = d j → i = j) (hs : ∀ i, i < N → d i < base.tmps.size)
    (hcv : ∀ i, i < N → i ≠ A → i ≠ S → i ≠ C → ∃ v, cv i = some v)
    (hPV : ∀ v x x', PV v x → Below x.heap.size x x' → PV v x')
    (hw : ∀ o, l[S]? = some o → (∃ e ∈ o.after, Region.binds .any e = true ∧ e.on = A) ∧ ∃ e ∈ o.after, Region.binds .any e = true ∧ e.on = C)
    (hop : ∀ i o v, i < N → i ≠ A → i ≠ S → i ≠ C → l[i]? = some o → cv i = some v → ∀ a x, Below W.heap.size W x → SeenB N d cv base o a → ∀ K : Act → World → Prop, K (a.put (some (d i)) v) x → wpOp P l.toArray Q i K a x)
    (hoC : ∀ o, l[C]? = some o → ∀ a x, Below W.heap.size W x → SeenB N d cv base o a → ∀ K : Act → World → Prop, (∀ v x', PV v x' → Below x.heap.size x x' → K (a.put (some (d C)) v) x') → wpOp P l.toArray Q C K a x)
    (hoA : ∀ o, l[A]? = some o → ∀ a x, ∀ K : Act → World → Prop, K (a.put (some (d A)) (.pointer (some ⟨x.heap.size, 0, none⟩))) (x.alloc (.cells zero t)) → wpOp P l.toArray Q A K a x)
    (hoS : ∀ o, l[S]? = some o → ∀ a x bb v, Below W.heap.size W x → a.eval (.tmp (d A)) = .pointer (some ⟨bb, 0, none⟩) → a.eval (.tmp (d C)) = v → PV v x → W.heap.size ≤ bb → Box x bb zero t → ∀ K : Act → World → Prop, (∀ x', Below W.heap.size W x' → Box x' bb (cof v) t → PV v x' → K a x') → wpOp P l.toArray Q S K a x)
    (hend : ∀ a x bb v, a.defers = base.defers → a.tmps.size = base.tmps.size → (∀ j, (∀ i, i < N → d i ≠ j) → a.tmps[j]? = base.tmps[j]?) → a.tmps[d A]? = some (.pointer (some ⟨bb, 0, none⟩)) → W.heap.size ≤ bb → Box x bb (cof v) t → PV v x → Below W.heap.size W x → (∀ i v, i < N → i ≠ S → cv i = some v → a.tmps[d i]? = some v) → Q .normal a x) : (Code.region id l.toArray true).wp P Q base W := by
  refine region_inv (fun L a x => InB N A S C d cv PV t zero cof base W L a x) hm hf ?_ ?_ ?_
  · exact ⟨rfl, rfl, fun _ _ => rfl, (Below.refl _ _).drew, fun i v _ _ h => absurd h (none_done _ _), fun h => absurd h (none_done _ _), fun h => absurd h (none_done _ _), fun h => absurd h (none_done _ _)⟩
  · intro L a x i o hsz I ho hnd hdep
    have hi : i < l.length := (List.getElem?_eq_some_iff.1 ho).1
    have hiN : i < N := by omega
    have hiL : i < L.size := by omega
    have hon : ∀ e ∈ o.after, Region.binds .any e = true → e.on < i := fun e he hb => by
      have h7 := List.all_eq_true.1 hf i (List.mem_range.2 (by simpa using hi))
      have ho' : (l.toArray)[i]? = some o := by simpa using ho
      rw [ho'] at h7
      have h8 := Array.all_eq_true'.1 h7 e he
      rw [hb] at h8
      simpa using h8
    have dd : ∀ {k}, k ≠ i → done (L.setIfInBounds i true) k → done L k := fun {k} h h5 => ((done_set hiL k).1 h5).resolve_left h
    have du : ∀ {k}, done L k → done (L.setIfInBounds i true) k := fun {k} h => (done_set hiL k).2 (Or.inr h)
    have seen : SeenB N d cv base o a := ⟨fun j u hj hu => eval_some (by rw [I.kp j hj]; exact hu), fun e he hb v hv => by
      by_cases hes : e.on = S
      · rw [hes, cS] at hv
        cases hv
      · exact eval_some (I.con _ _ (by have := hon e he hb; omega) hes (hdep e he hb) hv)⟩
    have putI : i ≠ S → ∀ v x', Below x.heap.size x x' → (∀ u, cv i = some u → v = u) → (i = C → PV v x') → (i = A → ∃ bb, v = .pointer (some ⟨bb, 0, none⟩) ∧ W.heap.size ≤ bb ∧ Box x' bb zero t) → InB N A S C d cv PV t zero cof base W (L.setIfInBounds i true) (a.put (some (d i)) v) x' := by
      intro hiS v x' hb hcu hpc hpa
      have self : (a.put (some (d i)) v).tmps[d i]? = some v := by
        have h5 : d i < a.tmps.size := by rw [I.sz]; exact hs i hiN
        simp [Act.put, h5]
      have keep : ∀ k, k < N → k ≠ S → k ≠ i → (a.put (some (d i)) v).tmps[d k]? = a.tmps[d k]? := fun k hk hkS hki => get_put _ _ _ _ (fun e => hki (hinj _ _ hk hiN hkS hiS e))
      refine ⟨I.df, by rw [size_put]; exact I.sz, fun j hj => ?_, I.bel.trans (hb.mono I.bel.size), fun k u hk hkS hdn hcu' => ?_, fun h1 h2 => ?_, fun h1 h2 => ?_, fun h1 => ?_⟩
      · rw [get_put _ _ _ _ (fun e => hj i hiN e.symm)]
        exact I.kp j hj
      · by_cases e : k = i
        · subst e
          rw [self, hcu u hcu']
        · rw [keep k hk hkS e]
          exact I.con k u hk hkS (dd e hdn) hcu'
      · by_cases e : C = i
        · subst e
          exact ⟨v, self, hpc rfl⟩
        · obtain ⟨u, h3, h4⟩ := I.val (dd e h1) (fun h => h2 (du h))
          exact ⟨u, by rw [keep C hC hCS e]; exact h3, hPV _ _ _ h4 hb⟩
      · by_cases e : A = i
        · subst e
          obtain ⟨bb, rfl, h4, h5⟩ := hpa rfl
          exact ⟨bb, self, h4, h5⟩
        · obtain ⟨bb, h3, h4, h5⟩ := I.box (dd e h1) (fun h => h2 (du h))
          exact ⟨bb, by rw [keep A hA hAS e]; exact h3, h4, h5.on hb⟩
      · have h2 := dd (Ne.symm hiS) h1
        obtain ⟨h3, h4, bb, u, h5, h6, h7, h8⟩ := I.fin h2
        have eA : A ≠ i := fun e => hnd (e ▸ h3)
        exact ⟨du h3, du h4, bb, u, by rw [keep A hA hAS eA]; exact h5, h6, h7.on hb, hPV _ _ _ h8 hb⟩
    by_cases hiS : i = S
    · subst hiS
      obtain ⟨⟨ea, h1, h2, h3⟩, ec, h4, h5, h6⟩ := hw o ho
      have dA := hdep ea h1 h2
      have dC := hdep ec h4 h5
      rw [h3] at dA
      rw [h6] at dC
      obtain ⟨v, v1, v2⟩ := I.val dC hnd
      obtain ⟨bb, b1, b2, b3⟩ := I.box dA hnd
      refine hoS o ho a x bb v I.bel (eval_some b1) (eval_some v1) v2 b2 b3 _ (fun x' q1 q2 q3 => ⟨I.df, I.sz, I.kp, q1, fun k u hk hkS hdn hcu => I.con k u hk hkS (dd hkS hdn) hcu, fun _ hn => absurd ((done_set hiL _).2 (Or.inl rfl)) hn, fun _ hn => absurd ((done_set hiL _).2 (Or.inl rfl)) hn, fun _ => ⟨du dA, du dC, bb, v, b1, b2, q2, q3⟩⟩)
    · by_cases hiA : i = A
      · subst hiA
        refine hoA o ho a x _ (putI hiS _ _ ((Below.refl _ _).alloc (Nat.le_refl _) _) (fun u hu => by rw [cA] at hu; cases hu) (fun e => absurd e hAC) (fun _ => ⟨x.heap.size, rfl, I.bel.size, box_new x zero t⟩))
      · by_cases hiC : i = C
        · subst hiC
          refine hoC o ho a x I.bel seen _ (fun v x' q1 q2 => putI hiS v x' q2 (fun u hu => by rw [cC] at hu; cases hu) (fun _ => q1) (fun e => absurd e hiA))
        · obtain ⟨v, hv⟩ := hcv i hiN hiA hiS hiC
          exact hop i o v hiN hiA hiS hiC ho hv a x I.bel seen _ (putI hiS v x (Below.refl _ _) (fun u hu => by rw [hv] at hu; cases hu; rfl) (fun e => absurd e hiC) (fun e => absurd e hiA))
  · intro L a x I hd
    have dS := hd S (by omega)
    obtain ⟨_, _, bb, v, h1, h2, h3, h4⟩ := I.fin dS
    exact hend a x bb v I.df I.sz I.kp h1 h2 h3 h4 I.bel (fun i v hi hiS hv => I.con i v hi hiS (hd i (by omega)) hv)
end Go.Proofs.YtonoadjmglkhaaaGreat.Rg

namespace Go.Proofs.YtonoadjmglkhaaaGreat.Rg
open Go.RowKit

/-- What an operation may rely on: the slots that the region does not write, and what is known of those of the operations that it waits for. -/
structure SeenR (N : Nat) (dst : Nat → Nat) (V : Nat → Value → World → Prop) (base : Act) (o : Oper) (a : Act) (w : World) : Prop where
  kp : ∀ j u, (∀ i, i < N → dst i ≠ j) → base.tmps[j]? = some u → a.eval (.tmp j) = u
  at_ : ∀ e ∈ o.after, Region.binds .any e = true → V e.on (a.eval (.tmp (dst e.on))) w
  got : ∀ e ∈ o.after, Region.binds .any e = true → a.tmps[dst e.on]? = some (a.eval (.tmp (dst e.on)))
theorem region_rel {P : Program} {Q : Exit → Act → World → Prop} {id : Nat} {base : Act} {w : World} {l : List Oper} (N : Nat) (dst : Nat → Nat) (V : Nat → Value → World → Prop)
    (hm : P.follows .mixedOrders = true) (hf : fore l.toArray = true) (hN : l.length = N) (_hdst : ∀ i o, l[i]? = some o → o.dst = some (dst i)) (hinj : ∀ i j, i < N → j < N → dst i = dst j → i = j) (hs : ∀ i, i < N → dst i < base.tmps.size)
    (hst : ∀ i v w' w'', V i v w' → Below w'.heap.size w' w'' → V i v w'')
    (hop : ∀ i o, i < N → l[i]? = some o → ∀ a w', Below w.heap.size w w' → SeenR N dst V base o a w' → ∀ K : Act → World → Prop, (∀ v w'', V i v w'' → Below w'.heap.size w' w'' → K (a.put (some (dst i)) v) w'') → wpOp P l.toArray Q i K a w')
    (hend : ∀ a w', a.defers = base.defers → a.tmps.size = base.tmps.size → (∀ j, (∀ i, i < N → dst i ≠ j) → a.tmps[j]? = base.tmps[j]?) → (∀ i, i < N → ∃ v, a.tmps[dst i]? = some v ∧ V i v w') → Below w.heap.size w w' → Q .normal a w') : (Code.region id l.toArray true).wp P Q base w := by
  refine region_inv (fun L a x => (a.defers = base.defers ∧ a.tmps.size = base.tmps.size ∧ ∀ j, (∀ i, i < N → dst i ≠ j) → a.tmps[j]? = base.tmps[j]?) ∧ (∀ i, done L i → i < N → ∃ v, a.tmps[dst i]? = some v ∧ V i v x) ∧ Below w.heap.size w x) hm hf ?_ ?_ ?_
  · exact ⟨⟨rfl, rfl, fun _ _ => rfl⟩, fun i h => absurd h (none_done _ _), (Below.refl _ _).drew⟩
  · intro L a x i o hsz ⟨⟨h1, h2, h3⟩, hv, hb⟩ ho hnd hdep
    have hi : i < l.length := (List.getElem?_eq_some_iff.1 ho).1
    have hiL : i < L.size := by omega
    have hon : ∀ e ∈ o.after, Region.binds .any e = true → e.on < N := fun e he hb => by
      have h7 := List.all_eq_true.1 hf i (List.mem_range.2 (by simpa using hi))
      have ho' : (l.toArray)[i]? = some o := by simpa using ho
      rw [ho'] at h7
      have h8 := Array.all_eq_true'.1 h7 e he
      rw [hb] at h8
      have : e.on < i := by simpa using h8
      omega
    have seen : SeenR N dst V base o a x := ⟨fun j u hj hu => eval_some (by rw [h3 j hj]; exact hu), fun e he hbd => by
      obtain ⟨v, q1, q2⟩ := hv e.on (hdep e he hbd) (hon e he hbd)
      rw [eval_some q1]
      exact q2, fun e he hbd => by
      obtain ⟨v, q1, q2⟩ := hv e.on (hdep e he hbd) (hon e he hbd)
      rw [eval_some q1]
      exact q1⟩
    refine hop i o (by omega) ho a x hb seen _ fun v w'' hvw hbw => ?_
    refine ⟨⟨h1, by rw [size_put]; exact h2, fun j hj => ?_⟩, fun k hk hkN => ?_, hb.trans (hbw.mono hb.size)⟩
    · rw [get_put _ _ _ _ (fun e => hj i (by omega) e.symm)]
      exact h3 j hj
    · by_cases e : k = i
      · subst e
        have : dst k < a.tmps.size := by rw [h2]; exact hs k hkN
        exact ⟨v, by simp [Act.put, this], hvw⟩
      · rw [get_put _ _ _ _ (fun e2 => e (hinj k i hkN (by omega) e2))]
        rcases (done_set hiL k).1 hk with h9 | h9
        · exact absurd h9 e
        · obtain ⟨u, q1, q2⟩ := hv k h9 hkN
          exact ⟨u, q1, hst k u _ _ q2 hbw⟩
  · intro L a x ⟨⟨h1, h2, h3⟩, hv, hb⟩ hd
    exact hend a x h1 h2 h3 (fun i hi => hv i (hd i (by omega)) hi) hb
/-- A guard that is met. -/
theorem wanted_of {ops : Array Oper} {o og : Oper} {g : Nat} {b : Bool} {d : Nat} {tmps : Array Value} (ho : o.guard = some (g, b)) (hg : ops[g]? = some og) (hd : og.dst = some d) (ht : tmps[d]? = some (.bool b)) : Region.wanted o (yielded ops tmps) = true := by
  unfold Region.wanted yielded
  rw [ho]
  simp [hg, hd, ht]
theorem wanted_none {o : Oper} {y : Nat → Option Bool} (ho : o.guard = none) : Region.wanted o y = true := by
  unfold Region.wanted
  rw [ho]
theorem op_value_w {P : Program} {ops : Array Oper} {Q : Exit → Act → World → Prop} {K : Act → World → Prop} {a : Act} {w w' : World} {i : Nat} {o : Oper} {v : Value}
    (ho : ops[i]? = some o) (hw : Region.wanted o (yielded ops a.tmps) = true) (hr : (execOp a.eval o).run P w = .ok (.value v) w') (h : K (a.put o.dst v) w') : wpOp P ops Q i K a w := by
  unfold wpOp
  rw [ho]
  simp only [hw, if_true]
  refine Or.inl ?_
  unfold Oper.wp
  rw [hr]
  exact h
theorem op_call_w {P : Program} {ops : Array Oper} {Q : Exit → Act → World → Prop} {K : Act → World → Prop} {a : Act} {w : World} {i : Nat} {o : Oper} {f : FuncId} {args : Array Value} {R : Ending → World → Prop}
    (ho : ops[i]? = some o) (hw : Region.wanted o (yielded ops a.tmps) = true) (hr : (execOp a.eval o).run P w = .ok (.enter f args) w) (hc : Calls P f args w R) (hR : ∀ e w', R e w' → ∃ v, e = .returned v ∧ K (a.put o.dst v) w') : wpOp P ops Q i K a w := by
  unfold wpOp
  rw [ho]
  simp only [hw, if_true]
  refine Or.inl ?_
  unfold Oper.wp
  rw [hr, Oper.upon_enter]
  refine hc.mono ?_
  intro e w' h
  obtain ⟨v, rfl, hk⟩ := hR e w' h
  exact hk
theorem ex_pick {P : Program} (ρ : Operand → Value) (o : Oper) (c x y : Operand) (ho : o.op = .pick c x y) {b : Bool} (hc : ρ c = .bool b) (w : World) : (execOp ρ o).run P w = .ok (.value (if b then ρ x else ρ y)) w := by
  unfold execOp
  rw [ho]
  cases b <;> simp [hc, go_sem, asBool]
theorem ex_pick_t {P : Program} (ρ : Operand → Value) (o : Oper) (c x y : Operand) (ho : o.op = .pick c x y) (hc : ρ c = .bool true) {v : Value} (hx : ρ x = v) (w : World) : (execOp ρ o).run P w = .ok (.value v) w := by
  have h := ex_pick (P := P) ρ o c x y ho hc w
  rw [hx] at h
  exact h
theorem ex_call0 {P : Program} (ρ : Operand → Value) (o : Oper) (f : FuncId) (ho : o.op = .call { callee := .value (.func f), args := #[], argTypes := #[] }) (hf : ρ (.func f) = .func (.func f) #[] #[]) (w : World)
    (hc : (callFunc f #[]).run P w = .ok (.enter f #[]) w) : (execOp ρ o).run P w = .ok (.enter f #[]) w := by
  simp [execOp, ho, resolve, invoke, hf, Deferred.ofValue, hc]
theorem ex_len {P : Program} (ρ : Operand → Value) (o : Oper) (x : Operand) (t : TypeId) (ho : o.op = .call { callee := .builtin .len, args := #[x], argTypes := #[t] }) {v r : Value} {w : World} (hx : ρ x = v) (hr : (Builtin.len_ #[t] o.type #[v]).run P w = .ok r w) : (execOp ρ o).run P w = .ok (.value r) w := by
  simp [execOp, ho, resolve, invoke, builtin, hx, hr, Result.andThen]
end Go.Proofs.YtonoadjmglkhaaaGreat.Rg
