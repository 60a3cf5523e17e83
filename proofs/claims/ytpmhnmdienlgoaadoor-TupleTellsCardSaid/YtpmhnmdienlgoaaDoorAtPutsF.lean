/-
  The law TuplePuts: its front, two publications made in any order. Condition: the contracts of package tuple; numbers of 64 bits; lists no longer than a machine holds.
-/
import Derived.Test.YtpmhnmdienlgoaaDoorAtPutsC
import Derived.Deep.Cut
import Derived.Deep.CutBlock
namespace Go.Proofs.YtpmhnmdienlgoaaDoor.At
open Go.RowKit Go.Sort Go.Proofs.YtpmhnmdienlgoaaDoor.Va Go.Proofs.YtpmhnmdienlgoaaDoor.In Go.Proofs.YtpmhnmdienlgoaaDoor.Rg

/-- A call of a function, met by its contract. -/
theorem op_call {P : Program} {ops : Array Oper} {Q : Exit → Act → World → Prop} {K : Act → World → Prop} {a : Act} {w : World} {i : Nat} {o : Oper} {f : FuncId} {args : Array Value} {R : Ending → World → Prop}
    (ho : ops[i]? = some o) (hg : o.guard = none) (hr : (execOp a.eval o).run P w = .ok (.enter f args) w) (hc : Calls P f args w R) (hR : ∀ e w', R e w' → ∃ v, e = .returned v ∧ K (a.put o.dst v) w') : wpOp P ops Q i K a w := by
  unfold wpOp
  rw [ho]
  have hw : Region.wanted o (yielded ops a.tmps) = true := by simp [Region.wanted, hg]
  simp only [hw, if_true]
  refine Or.inl ?_
  unfold Oper.wp
  rw [hr, Oper.upon_enter]
  refine hc.mono ?_
  intro e w' h
  obtain ⟨v, rfl, hk⟩ := hR e w' h
  exact hk
theorem call_fn {P : Program} {f : FuncId} {fn : Func} {c : Code} (hf : P.funcs[f]? = some fn) (hname : (fn.name == "runtime.NumGoroutine") = false) (hb : fn.body = some c) (args : Array Value) (w : World) : (callFunc f args).run P w = .ok (.enter f args) w := by
  have h1 : fn.name ≠ "runtime.NumGoroutine" := by simpa using hname
  simp [callFunc, hf, h1, hb]
theorem ex_call1 {P : Program} (ρ : Operand → Value) (o : Oper) (x : Operand) (t : TypeId) (f : FuncId) (ho : o.op = .call { callee := .value (.func f), args := #[x], argTypes := #[t] }) {v : Value} (hx : ρ x = v) (hf : ρ (.func f) = .func (.func f) #[] #[]) (w : World)
    (hc : (callFunc f #[v]).run P w = .ok (.enter f #[v]) w) : (execOp ρ o).run P w = .ok (.enter f #[v]) w := by
  simp [execOp, ho, resolve, invoke, hx, hf, Deferred.ofValue, hc]
theorem call_tuple (v : Value) (w : World) : (callFunc 12 #[v]).run Tryd.prog w = .ok (.enter 12 #[v]) w :=
  call_fn Tryd.func12 (by kernel_rfl) rfl _ _
/-- A list in memory that an append can take. -/
def RowO (W : World) (v : Value) (l : List A4) : Prop := RowA W v l ∧ SrcA W v l.length (flatA l)
theorem RowO.on {W W' : World} {v : Value} {l : List A4} (h : RowO W v l) (hb : Below W.heap.size W W') : RowO W' v l := ⟨h.1.on hb, h.2.on hb⟩
theorem RowO.of_owns {W : World} {B : Nat} {v : Value} {l : List A4} (h : W.ownsRow B 25 4 v l.length (flatA l)) : RowO W v l := by
  refine ⟨RowA.of_owns h, ?_⟩
  rcases h.2 with ⟨h1, h2⟩ | ⟨g, cap, cur, h1, h2, h3, h4, h5, h6, h7⟩
  · obtain rfl := List.eq_nil_of_length_eq_zero h2
    exact Or.inl ⟨h1, rfl, rfl⟩
  · exact Or.inr ⟨⟨g, 0, none⟩, cap, h1, by rw [flatA_length], lt_of_heap h3, fun j u hj => h.cells (g := g) (by rw [h1]; rfl) j u hj⟩
structure Frt (base : Array Value) (W0 : World) (kv ov : Value) (l m : List A4) (L : Array Bool) (a : Act) (w : World) : Prop where
  df : a.defers = []
  sz : a.tmps.size = 142
  kp : ∀ j, j ≠ 9 → j ≠ 10 → (j < 22 ∨ 25 < j) → a.tmps[j]? = base[j]?
  bel : Below W0.heap.size W0 w
  p0 : done L 0 → a.eval (.tmp 22) = kv
  p1 : done L 1 → RowO w (a.eval (.tmp 23)) l
  p2 : done L 2 → a.eval (.tmp 24) = ov
  p3 : done L 3 → RowO w (a.eval (.tmp 25)) m
  p4 : done L 4 → RowO w (a.eval (.tmp 9)) l
  p5 : done L 5 → RowO w (a.eval (.tmp 10)) m
theorem Frt_0 {base : Array Value} {W0 : World} {kv ov : Value} {l m : List A4} {L : Array Bool} {a : Act} {w w2 : World} {v : Value} (h : Frt base W0 kv ov l m L a w) (hL : L.size = 6) (hb : Below w.heap.size w w2) (hv : v = kv) :
    Frt base W0 kv ov l m (L.setIfInBounds 0 true) (a.put (some 22) v) w2 where
  df := h.df
  sz := (size_put a 22 v).trans h.sz
  kp := fun j h1 h2 h3 => (get_put a 22 v j (by omega)).trans (h.kp j h1 h2 h3)
  bel := h.bel.trans (hb.mono h.bel.size)
  p0 := fun _ => by rw [eval_put _ _ _ _ (by rw [h.sz]; decide), if_pos rfl]; exact hv
  p1 := fun hd => by rw [done_set (by rw [hL]; decide)] at hd; rw [eval_put _ _ _ _ (by rw [h.sz]; decide), if_neg (by decide)]; (rcases hd with hd | hd; cases hd); exact (h.p1 hd).on hb
  p2 := fun hd => by rw [done_set (by rw [hL]; decide)] at hd; rw [eval_put _ _ _ _ (by rw [h.sz]; decide), if_neg (by decide)]; (rcases hd with hd | hd; cases hd); exact h.p2 hd
  p3 := fun hd => by rw [done_set (by rw [hL]; decide)] at hd; rw [eval_put _ _ _ _ (by rw [h.sz]; decide), if_neg (by decide)]; (rcases hd with hd | hd; cases hd); exact (h.p3 hd).on hb
  p4 := fun hd => by rw [done_set (by rw [hL]; decide)] at hd; rw [eval_put _ _ _ _ (by rw [h.sz]; decide), if_neg (by decide)]; (rcases hd with hd | hd; cases hd); exact (h.p4 hd).on hb
  p5 := fun hd => by rw [done_set (by rw [hL]; decide)] at hd; rw [eval_put _ _ _ _ (by rw [h.sz]; decide), if_neg (by decide)]; (rcases hd with hd | hd; cases hd); exact (h.p5 hd).on hb
theorem Frt_1 {base : Array Value} {W0 : World} {kv ov : Value} {l m : List A4} {L : Array Bool} {a : Act} {w w2 : World} {v : Value} (h : Frt base W0 kv ov l m L a w) (hL : L.size = 6) (hb : Below w.heap.size w w2) (hv : RowO w2 v l) :
    Frt base W0 kv ov l m (L.setIfInBounds 1 true) (a.put (some 23) v) w2 where
  df := h.df
  sz := (size_put a 23 v).trans h.sz
  kp := fun j h1 h2 h3 => (get_put a 23 v j (by omega)).trans (h.kp j h1 h2 h3)
  bel := h.bel.trans (hb.mono h.bel.size)
  p0 := fun hd => by rw [done_set (by rw [hL]; decide)] at hd; rw [eval_put _ _ _ _ (by rw [h.sz]; decide), if_neg (by decide)]; (rcases hd with hd | hd; cases hd); exact h.p0 hd
  p1 := fun _ => by rw [eval_put _ _ _ _ (by rw [h.sz]; decide), if_pos rfl]; exact hv
  p2 := fun hd => by rw [done_set (by rw [hL]; decide)] at hd; rw [eval_put _ _ _ _ (by rw [h.sz]; decide), if_neg (by decide)]; (rcases hd with hd | hd; cases hd); exact h.p2 hd
  p3 := fun hd => by rw [done_set (by rw [hL]; decide)] at hd; rw [eval_put _ _ _ _ (by rw [h.sz]; decide), if_neg (by decide)]; (rcases hd with hd | hd; cases hd); exact (h.p3 hd).on hb
  p4 := fun hd => by rw [done_set (by rw [hL]; decide)] at hd; rw [eval_put _ _ _ _ (by rw [h.sz]; decide), if_neg (by decide)]; (rcases hd with hd | hd; cases hd); exact (h.p4 hd).on hb
  p5 := fun hd => by rw [done_set (by rw [hL]; decide)] at hd; rw [eval_put _ _ _ _ (by rw [h.sz]; decide), if_neg (by decide)]; (rcases hd with hd | hd; cases hd); exact (h.p5 hd).on hb
theorem Frt_2 {base : Array Value} {W0 : World} {kv ov : Value} {l m : List A4} {L : Array Bool} {a : Act} {w w2 : World} {v : Value} (h : Frt base W0 kv ov l m L a w) (hL : L.size = 6) (hb : Below w.heap.size w w2) (hv : v = ov) :
    Frt base W0 kv ov l m (L.setIfInBounds 2 true) (a.put (some 24) v) w2 where
  df := h.df
  sz := (size_put a 24 v).trans h.sz
  kp := fun j h1 h2 h3 => (get_put a 24 v j (by omega)).trans (h.kp j h1 h2 h3)
  bel := h.bel.trans (hb.mono h.bel.size)
  p0 := fun hd => by rw [done_set (by rw [hL]; decide)] at hd; rw [eval_put _ _ _ _ (by rw [h.sz]; decide), if_neg (by decide)]; (rcases hd with hd | hd; cases hd); exact h.p0 hd
  p1 := fun hd => by rw [done_set (by rw [hL]; decide)] at hd; rw [eval_put _ _ _ _ (by rw [h.sz]; decide), if_neg (by decide)]; (rcases hd with hd | hd; cases hd); exact (h.p1 hd).on hb
  p2 := fun _ => by rw [eval_put _ _ _ _ (by rw [h.sz]; decide), if_pos rfl]; exact hv
  p3 := fun hd => by rw [done_set (by rw [hL]; decide)] at hd; rw [eval_put _ _ _ _ (by rw [h.sz]; decide), if_neg (by decide)]; (rcases hd with hd | hd; cases hd); exact (h.p3 hd).on hb
  p4 := fun hd => by rw [done_set (by rw [hL]; decide)] at hd; rw [eval_put _ _ _ _ (by rw [h.sz]; decide), if_neg (by decide)]; (rcases hd with hd | hd; cases hd); exact (h.p4 hd).on hb
  p5 := fun hd => by rw [done_set (by rw [hL]; decide)] at hd; rw [eval_put _ _ _ _ (by rw [h.sz]; decide), if_neg (by decide)]; (rcases hd with hd | hd; cases hd); exact (h.p5 hd).on hb
theorem Frt_3 {base : Array Value} {W0 : World} {kv ov : Value} {l m : List A4} {L : Array Bool} {a : Act} {w w2 : World} {v : Value} (h : Frt base W0 kv ov l m L a w) (hL : L.size = 6) (hb : Below w.heap.size w w2) (hv : RowO w2 v m) :
    Frt base W0 kv ov l m (L.setIfInBounds 3 true) (a.put (some 25) v) w2 where
  df := h.df
  sz := (size_put a 25 v).trans h.sz
  kp := fun j h1 h2 h3 => (get_put a 25 v j (by omega)).trans (h.kp j h1 h2 h3)
  bel := h.bel.trans (hb.mono h.bel.size)
  p0 := fun hd => by rw [done_set (by rw [hL]; decide)] at hd; rw [eval_put _ _ _ _ (by rw [h.sz]; decide), if_neg (by decide)]; (rcases hd with hd | hd; cases hd); exact h.p0 hd
  p1 := fun hd => by rw [done_set (by rw [hL]; decide)] at hd; rw [eval_put _ _ _ _ (by rw [h.sz]; decide), if_neg (by decide)]; (rcases hd with hd | hd; cases hd); exact (h.p1 hd).on hb
  p2 := fun hd => by rw [done_set (by rw [hL]; decide)] at hd; rw [eval_put _ _ _ _ (by rw [h.sz]; decide), if_neg (by decide)]; (rcases hd with hd | hd; cases hd); exact h.p2 hd
  p3 := fun _ => by rw [eval_put _ _ _ _ (by rw [h.sz]; decide), if_pos rfl]; exact hv
  p4 := fun hd => by rw [done_set (by rw [hL]; decide)] at hd; rw [eval_put _ _ _ _ (by rw [h.sz]; decide), if_neg (by decide)]; (rcases hd with hd | hd; cases hd); exact (h.p4 hd).on hb
  p5 := fun hd => by rw [done_set (by rw [hL]; decide)] at hd; rw [eval_put _ _ _ _ (by rw [h.sz]; decide), if_neg (by decide)]; (rcases hd with hd | hd; cases hd); exact (h.p5 hd).on hb
theorem Frt_4 {base : Array Value} {W0 : World} {kv ov : Value} {l m : List A4} {L : Array Bool} {a : Act} {w w2 : World} {v : Value} (h : Frt base W0 kv ov l m L a w) (hL : L.size = 6) (hb : Below w.heap.size w w2) (hv : RowO w2 v l) :
    Frt base W0 kv ov l m (L.setIfInBounds 4 true) (a.put (some 9) v) w2 where
  df := h.df
  sz := (size_put a 9 v).trans h.sz
  kp := fun j h1 h2 h3 => (get_put a 9 v j (by omega)).trans (h.kp j h1 h2 h3)
  bel := h.bel.trans (hb.mono h.bel.size)
  p0 := fun hd => by rw [done_set (by rw [hL]; decide)] at hd; rw [eval_put _ _ _ _ (by rw [h.sz]; decide), if_neg (by decide)]; (rcases hd with hd | hd; cases hd); exact h.p0 hd
  p1 := fun hd => by rw [done_set (by rw [hL]; decide)] at hd; rw [eval_put _ _ _ _ (by rw [h.sz]; decide), if_neg (by decide)]; (rcases hd with hd | hd; cases hd); exact (h.p1 hd).on hb
  p2 := fun hd => by rw [done_set (by rw [hL]; decide)] at hd; rw [eval_put _ _ _ _ (by rw [h.sz]; decide), if_neg (by decide)]; (rcases hd with hd | hd; cases hd); exact h.p2 hd
  p3 := fun hd => by rw [done_set (by rw [hL]; decide)] at hd; rw [eval_put _ _ _ _ (by rw [h.sz]; decide), if_neg (by decide)]; (rcases hd with hd | hd; cases hd); exact (h.p3 hd).on hb
  p4 := fun _ => by rw [eval_put _ _ _ _ (by rw [h.sz]; decide), if_pos rfl]; exact hv
  p5 := fun hd => by rw [done_set (by rw [hL]; decide)] at hd; rw [eval_put _ _ _ _ (by rw [h.sz]; decide), if_neg (by decide)]; (rcases hd with hd | hd; cases hd); exact (h.p5 hd).on hb
theorem Frt_5 {base : Array Value} {W0 : World} {kv ov : Value} {l m : List A4} {L : Array Bool} {a : Act} {w w2 : World} {v : Value} (h : Frt base W0 kv ov l m L a w) (hL : L.size = 6) (hb : Below w.heap.size w w2) (hv : RowO w2 v m) :
    Frt base W0 kv ov l m (L.setIfInBounds 5 true) (a.put (some 10) v) w2 where
  df := h.df
  sz := (size_put a 10 v).trans h.sz
  kp := fun j h1 h2 h3 => (get_put a 10 v j (by omega)).trans (h.kp j h1 h2 h3)
  bel := h.bel.trans (hb.mono h.bel.size)
  p0 := fun hd => by rw [done_set (by rw [hL]; decide)] at hd; rw [eval_put _ _ _ _ (by rw [h.sz]; decide), if_neg (by decide)]; (rcases hd with hd | hd; cases hd); exact h.p0 hd
  p1 := fun hd => by rw [done_set (by rw [hL]; decide)] at hd; rw [eval_put _ _ _ _ (by rw [h.sz]; decide), if_neg (by decide)]; (rcases hd with hd | hd; cases hd); exact (h.p1 hd).on hb
  p2 := fun hd => by rw [done_set (by rw [hL]; decide)] at hd; rw [eval_put _ _ _ _ (by rw [h.sz]; decide), if_neg (by decide)]; (rcases hd with hd | hd; cases hd); exact h.p2 hd
  p3 := fun hd => by rw [done_set (by rw [hL]; decide)] at hd; rw [eval_put _ _ _ _ (by rw [h.sz]; decide), if_neg (by decide)]; (rcases hd with hd | hd; cases hd); exact (h.p3 hd).on hb
  p4 := fun hd => by rw [done_set (by rw [hL]; decide)] at hd; rw [eval_put _ _ _ _ (by rw [h.sz]; decide), if_neg (by decide)]; (rcases hd with hd | hd; cases hd); exact (h.p4 hd).on hb
  p5 := fun _ => by rw [eval_put _ _ _ _ (by rw [h.sz]; decide), if_pos rfl]; exact hv
noncomputable def puts1 : Code := ((Tryd.f5.body.bind (findRegion 1)).getD .skip)
set_option maxRecDepth 100000 in
set_option maxHeartbeats 4000000 in
theorem Frt_any (Q : Exit → Act → World → Prop) (base : Array Value) (W0 : World) (kv ov x4 x5 : Value) (l m : List A4) (hb : base.size = 142) (b4 : base[4]? = some x4) (b5 : base[5]? = some x5)
    (h4 : ∀ w, Below W0.heap.size W0 w → (Instr.loadAt 35 x4).run Tryd.prog w = .ok kv w) (h5 : ∀ w, Below W0.heap.size W0 w → (Instr.loadAt 35 x5).run Tryd.prog w = .ok ov w)
    (hk : ∀ w, Below W0.heap.size W0 w → Calls Tryd.prog 12 #[kv] w fun e w' => ∃ v, e = .returned v ∧ RowO w' v l ∧ Below w.heap.size w w') (ho_ : ∀ w, Below W0.heap.size W0 w → Calls Tryd.prog 12 #[ov] w fun e w' => ∃ v, e = .returned v ∧ RowO w' v m ∧ Below w.heap.size w w')
    (hQ : ∀ a w', a.defers = [] → a.tmps.size = 142 → (∀ j, j ≠ 9 → j ≠ 10 → (j < 22 ∨ 25 < j) → a.tmps[j]? = base[j]?) → Below W0.heap.size W0 w' → RowO w' (a.eval (.tmp 9)) l → RowO w' (a.eval (.tmp 10)) m → Q .normal a w') :
    Code.wp Tryd.prog puts1 Q ⟨base, []⟩ W0 := by
  conv => arg 2; whnf
  refine region_inv (fun L a w => Frt base W0 kv ov l m L a w) (by kernel_rfl) (by kernel_rfl) ?_ ?_ ?_
  · have nd := fun j => none_done 6 j
    exact {
      df := rfl
      sz := hb
      kp := fun j _ _ _ => rfl
      bel := (Below.refl _ _).drew
      p0 := fun h => absurd h (nd _)
      p1 := fun h => absurd h (nd _)
      p2 := fun h => absurd h (nd _)
      p3 := fun h => absurd h (nd _)
      p4 := fun h => absurd h (nd _)
      p5 := fun h => absurd h (nd _) }
  · intro L a w i o hL h ho hnd hdep
    have hL2 : L.size = 6 := hL
    have hlt : i < 6 := (List.getElem?_eq_some_iff.1 ho).1
    match i, hlt, ho, hnd, hdep with
    | 0, _, ho, hnd, hdep =>
      obtain rfl := Option.some.inj ho
      have e : a.eval (.tmp 4) = x4 := eval_get (h.kp 4 (by decide) (by decide) (by decide)) b4
      exact op_value ho rfl (v := kv) (w' := w) (ex_load _ _ 35 (.tmp 4) rfl (by rw [e]; exact h4 w h.bel)) (Frt_0 h hL2 (Below.refl _ _) rfl)
    | 1, _, ho, hnd, hdep =>
      obtain rfl := Option.some.inj ho
      have e := h.p0 (hdep ⟨0, .data⟩ (by simp) rfl)
      exact op_call ho rfl (ex_call1 _ _ (.tmp 22) 35 12 rfl e rfl w (call_tuple _ _)) (hk w h.bel) (fun e w' ⟨v, h1, h2, h3⟩ => ⟨v, h1, Frt_1 h hL2 h3 h2⟩)
    | 2, _, ho, hnd, hdep =>
      obtain rfl := Option.some.inj ho
      have e : a.eval (.tmp 5) = x5 := eval_get (h.kp 5 (by decide) (by decide) (by decide)) b5
      exact op_value ho rfl (v := ov) (w' := w) (ex_load _ _ 35 (.tmp 5) rfl (by rw [e]; exact h5 w h.bel)) (Frt_2 h hL2 (Below.refl _ _) rfl)
    | 3, _, ho, hnd, hdep =>
      obtain rfl := Option.some.inj ho
      have e := h.p2 (hdep ⟨2, .data⟩ (by simp) rfl)
      exact op_call ho rfl (ex_call1 _ _ (.tmp 24) 35 12 rfl e rfl w (call_tuple _ _)) (ho_ w h.bel) (fun e w' ⟨v, h1, h2, h3⟩ => ⟨v, h1, Frt_3 h hL2 h3 h2⟩)
    | 4, _, ho, hnd, hdep =>
      obtain rfl := Option.some.inj ho
      have e := h.p1 (hdep ⟨1, .data⟩ (by simp) rfl)
      exact op_value ho rfl (v := a.eval (.tmp 23)) (w' := w) (ex_assign _ _ (.tmp 23) rfl w) (Frt_4 h hL2 (Below.refl _ _) e)
    | 5, _, ho, hnd, hdep =>
      obtain rfl := Option.some.inj ho
      have e := h.p3 (hdep ⟨3, .data⟩ (by simp) rfl)
      exact op_value ho rfl (v := a.eval (.tmp 25)) (w' := w) (ex_assign _ _ (.tmp 25) rfl w) (Frt_5 h hL2 (Below.refl _ _) e)
  · intro L a w h hd
    exact hQ a w h.df h.sz h.kp h.bel (h.p4 (hd 4 (by decide))) (h.p5 (hd 5 (by decide)))
set_option maxHeartbeats 1000000 in
theorem front_frame {a : Act} {base : Array Value} (df : a.defers = []) (sz : a.tmps.size = 142) (hb : base.size = 142) (kp : ∀ j, j ≠ 9 → j ≠ 10 → (j < 22 ∨ 25 < j) → a.tmps[j]? = base[j]?) :
    ∃ u9 u10 u22 u23 u24 u25 : Value, a.eval (.tmp 9) = u9 ∧ a.eval (.tmp 10) = u10 ∧ a = ⟨((((((base.setIfInBounds 9 u9).setIfInBounds 10 u10).setIfInBounds 22 u22).setIfInBounds 23 u23).setIfInBounds 24 u24).setIfInBounds 25 u25), []⟩ := by
  obtain ⟨tmps, defers⟩ := a
  have hd : defers = [] := df
  have hs : tmps.size = 142 := sz
  subst hd
  refine ⟨(⟨tmps, []⟩ : Act).eval (.tmp 9), (⟨tmps, []⟩ : Act).eval (.tmp 10), (⟨tmps, []⟩ : Act).eval (.tmp 22), (⟨tmps, []⟩ : Act).eval (.tmp 23), (⟨tmps, []⟩ : Act).eval (.tmp 24), (⟨tmps, []⟩ : Act).eval (.tmp 25), rfl, rfl, ?_⟩
  refine congrArg (fun x => (⟨x, []⟩ : Act)) ?_
  apply Array.ext_getElem?
  intro j
  have kj : j ≠ 9 → j ≠ 10 → (j < 22 ∨ 25 < j) → tmps[j]? = base[j]? := kp j
  simp only [Array.getElem?_setIfInBounds, Array.size_setIfInBounds, hb]
  by_cases h25 : j = 25
  · subst h25
    simp only [if_true, if_pos (show 25 < 142 by decide)]
    exact get_evalA (by omega)
  rw [if_neg (fun x => h25 x.symm)]
  by_cases h24 : j = 24
  · subst h24
    simp only [if_true, if_pos (show 24 < 142 by decide)]
    exact get_evalA (by omega)
  rw [if_neg (fun x => h24 x.symm)]
  by_cases h23 : j = 23
  · subst h23
    simp only [if_true, if_pos (show 23 < 142 by decide)]
    exact get_evalA (by omega)
  rw [if_neg (fun x => h23 x.symm)]
  by_cases h22 : j = 22
  · subst h22
    simp only [if_true, if_pos (show 22 < 142 by decide)]
    exact get_evalA (by omega)
  rw [if_neg (fun x => h22 x.symm)]
  by_cases h10 : j = 10
  · subst h10
    simp only [if_true, if_pos (show 10 < 142 by decide)]
    exact get_evalA (by omega)
  rw [if_neg (fun x => h10 x.symm)]
  by_cases h9 : j = 9
  · subst h9
    simp only [if_true, if_pos (show 9 < 142 by decide)]
    exact get_evalA (by omega)
  rw [if_neg (fun x => h9 x.symm)]
  exact kj h9 h10 (by omega)
end Go.Proofs.YtpmhnmdienlgoaaDoor.At
