/-
  Small things for regions that draw: stores, min, new variables; on what all operations wait, by computation; an append onto an empty literal. No condition beyond what each theorem states.
  A region that draws its order, in which a variable is made and one value is stored into it; of each other value something is known till its last use, which holds on as memory grows. No condition beyond what the theorem states.
  Numbers in memory, as lists. No program's function in it.
-/
import Derived.Test.YtonoadjmglkhaaaGreatV003
import Derived.Test.YtonoadjmglkhaaaGreatV004
import Derived.Test.YtonoadjmglkhaaaGreatV002
import Derived.Test.YtonoadjmglkhaaaGreatV001
namespace Go.Proofs.YtonoadjmglkhaaaGreat.Rg
open Go.RowKit

theorem op_store {P : Program} {ops : Array Oper} {Q : Exit → Act → World → Prop} {K : Act → World → Prop} {a : Act} {w w' : World} {i : Nat} {o : Oper} (t : TypeId) (x y : Operand) {p v : Value}
    (ho : ops[i]? = some o) (hg : o.guard = none) (hop : o.op = .store t x y) (hd : o.dst = none) (hx : a.eval x = p) (hy : a.eval y = v) (hr : (Instr.storeAt t p v).run P w = .ok () w') (h : K a w') : wpOp P ops Q i K a w := by
  refine op_skip ho hg (ex_store a.eval o t x y hop (by rw [hx, hy]; exact hr)) ?_
  rw [hd]
  exact h
theorem ex_min {P : Program} (ρ : Operand → Value) (o : Oper) (x y : Operand) (s t : TypeId) (ho : o.op = .call { callee := .builtin .min, args := #[x, y], argTypes := #[s, t] }) {v u r : Value} {w : World} (hx : ρ x = v) (hy : ρ y = u) (hr : (Builtin.min_ #[s, t] o.type #[v, u]).run P w = .ok r w) : (execOp ρ o).run P w = .ok (.value r) w := by
  simp [execOp, ho, resolve, invoke, builtin, hx, hy, hr, Result.andThen]
/-- On what an operation waits, and on what those wait, so many times. -/
def depsOf (l : List Oper) (i : Nat) : List Nat := match l[i]? with
  | some o => (o.after.toList.filter fun e => Region.binds .any e).map fun e => e.on
  | none => []
def reachL (l : List Oper) : Nat → List Nat → List Nat
  | 0, s => s
  | n + 1, s => reachL l n (s ++ s.flatMap (depsOf l))
theorem deps_in {l : List Oper} {D : Nat → Prop} {i : Nat} (h : ∀ o, l[i]? = some o → ∀ e ∈ o.after, Region.binds .any e = true → D e.on) : ∀ j ∈ depsOf l i, D j := by
  intro j hj
  unfold depsOf at hj
  cases ho : l[i]? with
  | none => rw [ho] at hj; cases hj
  | some o =>
    rw [ho] at hj
    obtain ⟨e, he, rfl⟩ := List.mem_map.1 hj
    obtain ⟨h1, h2⟩ := List.mem_filter.1 he
    exact h o ho e (Array.mem_toList_iff.1 h1) h2
theorem reach_in {l : List Oper} {D : Nat → Prop} (hc : ∀ j o, D j → l[j]? = some o → ∀ e ∈ o.after, Region.binds .any e = true → D e.on) : ∀ n s, (∀ j ∈ s, D j) → ∀ j ∈ reachL l n s, D j
  | 0, _, hs => hs
  | n + 1, s, hs => reach_in hc n _ fun j hj => by
    rcases List.mem_append.1 hj with h | h
    · exact hs j h
    · obtain ⟨i, hi, hd⟩ := List.mem_flatMap.1 h
      exact deps_in (fun o ho => hc i o (hs i hi) ho) j hd
theorem hall_of {l : List Oper} {M : Nat} (n : Nat) (h : (List.range M).all (fun i => (reachL l n (depsOf l M)).contains i) = true) (D : Nat → Prop) (hc : ∀ j o, D j → l[j]? = some o → ∀ e ∈ o.after, Region.binds .any e = true → D e.on) (hm : ∀ o, l[M]? = some o → ∀ e ∈ o.after, Region.binds .any e = true → D e.on) : ∀ i, i < M → D i := by
  intro i hi
  have h2 := List.all_eq_true.1 h i (List.mem_range.2 hi)
  exact reach_in hc n _ (deps_in hm) i (List.contains_iff_mem.1 h2)
theorem ex_alloc {P : Program} (ρ : Operand → Value) (o : Oper) (t : TypeId) (ho : o.op = .alloc t) {v : Value} {w w' : World} (hr : (Instr.alloc t true (.tuple #[])).run P w = .ok v w') : (execOp ρ o).run P w = .ok (.value v) w' := by
  simp [execOp, ho, hr, Result.andThen]
end Go.Proofs.YtonoadjmglkhaaaGreat.Rg
namespace Go.Proofs.YtonoadjmglkhaaaGreat.Rw
open Go.RowKit Go.Proofs.YtonoadjmglkhaaaGreat

theorem app_fresh {α : Type} {E : Ek α} (K : E.Ok) {w : World} (B : Nat) {g : Nat} {x : Value} {m : List α} (hbox : Box w g #[] E.t) (hBg : B ≤ g) (hx : Row E w x m) (hm : m.length ≤ 1000) (ty : TypeId) :
    ∃ v' w', (Builtin.append_ #[E.ts, E.ts] ty #[.slice (some ⟨g, 0, none⟩) 0 0, x]).run Tryz.prog w = .ok v' w' ∧ Own E w' B v' m ∧ Below w.heap.size w w' := by
  have ho : Own E w B (.slice (some ⟨g, 0, none⟩) 0 0) ([] : List α) := own_shut K rfl hBg hbox (Nat.le_refl _) (Nat.zero_le _) (by simp) (by simp [flat])
  have hl := hbox.lt
  obtain ⟨v', w', r, o', gr⟩ := app_row K B ho hx (by simp) hm (by omega) ty
  refine ⟨v', w', r, by simpa using o', ?_⟩
  obtain ⟨i, i1, i2, i3, i4⟩ := K.info
  rcases hx with ⟨rfl, rfl⟩ | ⟨ad, c, rfl, h2, h3, h4⟩
  · have r2 := run_append_owned_none (P := Tryz.prog) (w := w) B E.ts ty E.t i E.n K.hu i1 _ _ _ ho
    rw [r2] at r
    injection r with _ e
    rw [← e]
    exact Below.refl _ _
  · rcases Nat.eq_zero_or_pos m.length with h0 | h0
    · have r2 := run_append_room (P := Tryz.prog) (w := w) E.ts ty E.t i K.hu i1 g 0 0 #[] hbox ad m.length c (flat E m) (by rw [flat_length K, i3]) h4 (flat_cell K m) (by omega) (by rw [flat_length K, h0]; simp)
      rw [r2] at r
      injection r with _ e
      rw [← e]
      have hf : flat E m = [] := List.eq_nil_of_length_eq_zero (by rw [flat_length K, h0]; simp)
      have hs := Box.set hbox ((#[] : Array Value).toList.take (0 * i.size) ++ flat E m ++ (#[] : Array Value).toList.drop (0 * i.size + (flat E m).length)).toArray
      refine ⟨rfl, rfl, rfl, by simp [World.setRow], fun k hk => ?_⟩
      by_cases hkg : k = g
      · subst hkg
        refine hs.trans ?_
        rw [hf]
        simpa using hbox.symm
      · exact setRow_other w g k _ hkg
    · have r2 := run_append_grow (P := Tryz.prog) (w := w) E.ts ty E.t i E.z K.hu i1 i2 ⟨g, 0, none⟩ 0 0 [] (by simp) (fun j v h => by simp at h) ad m.length c (flat E m) (by rw [flat_length K, i3]) h4 (by omega) (by omega) (by
        rw [Nat.zero_add, nextslicecap_zero h0, i4]
        exact Nat.le_trans (Nat.mul_le_mul hm K.few) (by decide))
      rw [r2] at r
      injection r with _ e
      rw [← e]
      exact (Below.refl _ _).drew.alloc (Nat.le_refl _) _
end Go.Proofs.YtonoadjmglkhaaaGreat.Rw

namespace Go.Proofs.YtonoadjmglkhaaaGreat.Rg
open Go.RowKit Go.Proofs.YtonoadjmglkhaaaGreat.Rw

/-- What an operation may rely on. -/
structure SeenX (i N A S : Nat) (d last : Nat → Nat) (V : Nat → Value → World → Prop) (base : Act) (o : Oper) (a : Act) (x : World) : Prop where
  kp : ∀ j u, (∀ i, i < N → d i ≠ j) → base.tmps[j]? = some u → a.eval (.tmp j) = u
  at_ : ∀ e ∈ o.after, Region.binds .any e = true → e.on ≠ A → e.on ≠ S → (last e.on = i ∨ N ≤ last e.on) → V e.on (a.eval (.tmp (d e.on))) x
structure InX (l : List Oper) (N A S C : Nat) (d last : Nat → Nat) (V : Nat → Value → World → Prop) (t : TypeId) (zero : Array Value) (cof : Value → Array Value) (base : Act) (W : World) (L : Array Bool) (a : Act) (x : World) : Prop where
  cl : ∀ i o, done L i → l[i]? = some o → ∀ e ∈ o.after, Region.binds .any e = true → done L e.on
  no : ∀ i, N ≤ i → ¬ done L i
  df : a.defers = base.defers
  sz : a.tmps.size = base.tmps.size
  kp : ∀ j, (∀ i, i < N → d i ≠ j) → a.tmps[j]? = base.tmps[j]?
  bel : Below W.heap.size W x
  val : ∃ vs : Nat → Value, ∀ i, i < N → i ≠ S → done L i → a.tmps[d i]? = some (vs i) ∧ (i ≠ A → ¬ done L (last i) → V i (vs i) x)
  box : done L A → ¬ done L S → ∃ bb, a.tmps[d A]? = some (.pointer (some ⟨bb, 0, none⟩)) ∧ W.heap.size ≤ bb ∧ Box x bb zero t
  fin : done L S → ∃ bb v, a.tmps[d A]? = some (.pointer (some ⟨bb, 0, none⟩)) ∧ a.tmps[d C]? = some v ∧ W.heap.size ≤ bb ∧ Box x bb (cof v) t ∧ V C v x
theorem region_mk {P : Program} {Q : Exit → Act → World → Prop} {id : Nat} {base : Act} {W : World} {l : List Oper} (N A S C : Nat) (d last : Nat → Nat) (V : Nat → Value → World → Prop) (t : TypeId) (zero : Array Value) (cof : Value → Array Value)
    (hm : P.follows .mixedOrders = true) (hf : fore l.toArray = true) (hN : l.length = N) (hA : A < N) (hS : S < N) (hC : C < N) (hAS : A ≠ S) (hCS : C ≠ S) (hAC : A ≠ C) (hlC : N ≤ last C)
    (hinj : ∀ i j, i < N → j < N → i ≠ S → j ≠ S → d i = d j → i = j) (hs : ∀ i, i < N → d i < base.tmps.size)
    (hV : ∀ i v x x', i < N → V i v x → Below x.heap.size x x' → V i v x')
    (hw : ∀ o, l[S]? = some o → (∃ e ∈ o.after, Region.binds .any e = true ∧ e.on = A) ∧ ∃ e ∈ o.after, Region.binds .any e = true ∧ e.on = C)
    (hop : ∀ i o, i < N → i ≠ A → i ≠ S → l[i]? = some o → ∀ a x, Below W.heap.size W x → SeenX i N A S d last V base o a x → ∀ K : Act → World → Prop, (∀ v x', V i v x' → Below x.heap.size x x' → K (a.put (some (d i)) v) x') → wpOp P l.toArray Q i K a x)
    (hoA : ∀ o, l[A]? = some o → ∀ a x, ∀ K : Act → World → Prop, K (a.put (some (d A)) (.pointer (some ⟨x.heap.size, 0, none⟩))) (x.alloc (.cells zero t)) → wpOp P l.toArray Q A K a x)
    (hoS : ∀ o, l[S]? = some o → ∀ a x bb v (D : Nat → Prop), (∀ j oj, D j → l[j]? = some oj → ∀ e ∈ oj.after, Region.binds .any e = true → D e.on) → (∀ e ∈ o.after, Region.binds .any e = true → D e.on) → Below W.heap.size W x → a.eval (.tmp (d A)) = .pointer (some ⟨bb, 0, none⟩) → a.eval (.tmp (d C)) = v → V C v x → W.heap.size ≤ bb → Box x bb zero t → ∀ K : Act → World → Prop, (∀ x', Below W.heap.size W x' → Box x' bb (cof v) t → (∀ j u, j < N → j ≠ A → j ≠ S → D j → ¬ D (last j) → last j ≠ S → V j u x → V j u x') → K a x') → wpOp P l.toArray Q S K a x)
    (hend : ∀ a x bb v, a.defers = base.defers → a.tmps.size = base.tmps.size → (∀ j, (∀ i, i < N → d i ≠ j) → a.tmps[j]? = base.tmps[j]?) → a.tmps[d A]? = some (.pointer (some ⟨bb, 0, none⟩)) → a.tmps[d C]? = some v → W.heap.size ≤ bb → Box x bb (cof v) t → V C v x → Below W.heap.size W x → (∃ vs : Nat → Value, ∀ i, i < N → i ≠ S → i ≠ A → a.tmps[d i]? = some (vs i) ∧ (N ≤ last i → V i (vs i) x)) → Q .normal a x) : (Code.region id l.toArray true).wp P Q base W := by
  refine region_inv (fun L a x => InX l N A S C d last V t zero cof base W L a x) hm hf ?_ ?_ ?_
  · exact ⟨fun i o h => absurd h (none_done _ _), fun i _ => none_done _ _, rfl, rfl, fun _ _ => rfl, (Below.refl _ _).drew, ⟨fun _ => .bool true, fun i _ _ h => absurd h (none_done _ _)⟩, fun h => absurd h (none_done _ _), fun h => absurd h (none_done _ _)⟩
  · intro L a x i o hsz I ho hnd hdep
    have hi : i < l.length := (List.getElem?_eq_some_iff.1 ho).1
    have hiN : i < N := by omega
    have hiL : i < L.size := by omega
    obtain ⟨vs, hvs⟩ := I.val
    have hon : ∀ e ∈ o.after, Region.binds .any e = true → e.on < i := fun e he hb => by
      have h7 := List.all_eq_true.1 hf i (List.mem_range.2 (by simpa using hi))
      have ho' : (l.toArray)[i]? = some o := by simpa using ho
      rw [ho'] at h7
      have h8 := Array.all_eq_true'.1 h7 e he
      rw [hb] at h8
      simpa using h8
    have dd : ∀ {k}, k ≠ i → done (L.setIfInBounds i true) k → done L k := fun {k} h h5 => ((done_set hiL k).1 h5).resolve_left h
    have du : ∀ {k}, done L k → done (L.setIfInBounds i true) k := fun {k} h => (done_set hiL k).2 (Or.inr h)
    have cl' : ∀ k q, done (L.setIfInBounds i true) k → l[k]? = some q → ∀ e ∈ q.after, Region.binds .any e = true → done (L.setIfInBounds i true) e.on := fun k q hk hq e he hb => by
      by_cases e2 : k = i
      · subst e2
        rw [hq] at ho
        cases ho
        exact du (hdep e he hb)
      · exact du (I.cl k q (dd e2 hk) hq e he hb)
    have no' : ∀ k, N ≤ k → ¬ done (L.setIfInBounds i true) k := fun k hk h => I.no k hk (dd (by omega) h)
    have seen : SeenX i N A S d last V base o a x := ⟨fun j u hj hu => eval_some (by rw [I.kp j hj]; exact hu), fun e he hb hA' hS' hl => by
      obtain ⟨h1, h2⟩ := hvs e.on (by have := hon e he hb; omega) hS' (hdep e he hb)
      rw [eval_some h1]
      refine h2 hA' ?_
      rcases hl with hl | hl
      · rw [hl]; exact hnd
      · exact I.no _ hl⟩
    have putI : i ≠ S → ∀ v x', Below x.heap.size x x' → (i ≠ A → V i v x') → (i = A → ∃ bb, v = .pointer (some ⟨bb, 0, none⟩) ∧ W.heap.size ≤ bb ∧ Box x' bb zero t) → InX l N A S C d last V t zero cof base W (L.setIfInBounds i true) (a.put (some (d i)) v) x' := by
      intro hiS v x' hb hpv hpa
      have self : (a.put (some (d i)) v).tmps[d i]? = some v := by
        have h5 : d i < a.tmps.size := by rw [I.sz]; exact hs i hiN
        simp [Act.put, h5]
      have keep : ∀ k, k < N → k ≠ S → k ≠ i → (a.put (some (d i)) v).tmps[d k]? = a.tmps[d k]? := fun k hk hkS hki => get_put _ _ _ _ (fun e => hki (hinj _ _ hk hiN hkS hiS e))
      refine ⟨cl', no', I.df, by rw [size_put]; exact I.sz, fun j hj => ?_, I.bel.trans (hb.mono I.bel.size), ⟨fun k => if k = i then v else vs k, fun k hk hkS hdn => ?_⟩, fun h1 h2 => ?_, fun h1 => ?_⟩
      · rw [get_put _ _ _ _ (fun e => hj i hiN e.symm)]
        exact I.kp j hj
      · by_cases e : k = i
        · subst e
          simp only [if_true]
          exact ⟨self, fun h3 _ => hpv h3⟩
        · simp only [if_neg e]
          obtain ⟨h3, h4⟩ := hvs k hk hkS (dd e hdn)
          exact ⟨by rw [keep k hk hkS e]; exact h3, fun h5 h6 => hV k _ _ _ hk (h4 h5 (fun h => h6 (du h))) hb⟩
      · by_cases e : A = i
        · subst e
          obtain ⟨bb, rfl, h4, h5⟩ := hpa rfl
          exact ⟨bb, self, h4, h5⟩
        · obtain ⟨bb, h3, h4, h5⟩ := I.box (dd e h1) (fun h => h2 (du h))
          exact ⟨bb, by rw [keep A hA hAS e]; exact h3, h4, h5.on hb⟩
      · have h2 := dd (Ne.symm hiS) h1
        obtain ⟨bb, u, h5, h6, h7, h8, h9⟩ := I.fin h2
        obtain ⟨oS, hoS'⟩ : ∃ oS, l[S]? = some oS := ⟨_, List.getElem?_eq_getElem (by omega)⟩
        obtain ⟨⟨ea, k1, k2, k3⟩, ec, k4, k5, k6⟩ := hw oS hoS'
        have dA := I.cl S oS h2 hoS' ea k1 k2
        have dC := I.cl S oS h2 hoS' ec k4 k5
        rw [k3] at dA
        rw [k6] at dC
        have eA : A ≠ i := fun e => hnd (e ▸ dA)
        have eC : C ≠ i := fun e => hnd (e ▸ dC)
        exact ⟨bb, u, by rw [keep A hA hAS eA]; exact h5, by rw [keep C hC hCS eC]; exact h6, h7, h8.on hb, hV C _ _ _ hC h9 hb⟩
    by_cases hiS : i = S
    · subst hiS
      obtain ⟨⟨ea, h1, h2, h3⟩, ec, h4, h5, h6⟩ := hw o ho
      have dA := hdep ea h1 h2
      have dC := hdep ec h4 h5
      rw [h3] at dA
      rw [h6] at dC
      obtain ⟨v1, v2⟩ := hvs C hC hCS dC
      obtain ⟨bb, b1, b2, b3⟩ := I.box dA hnd
      have vC := v2 (Ne.symm hAC) (I.no _ hlC)
      refine hoS o ho a x bb (vs C) (done L) I.cl hdep I.bel (eval_some b1) (eval_some v1) vC b2 b3 _ (fun x' q1 q2 q3 => ⟨cl', no', I.df, I.sz, I.kp, q1, ⟨vs, fun k hk hkS hdn => ?_⟩, fun _ hn => absurd ((done_set hiL _).2 (Or.inl rfl)) hn, fun _ => ⟨bb, vs C, b1, v1, b2, q2, ?_⟩⟩)
      · obtain ⟨w1, w2⟩ := hvs k hk hkS (dd hkS hdn)
        refine ⟨w1, fun hkA hnl => ?_⟩
        have n1 : last k ≠ i := fun e => hnl ((done_set hiL _).2 (Or.inl e))
        have n2 : ¬ done L (last k) := fun e => hnl (du e)
        exact q3 k _ hk hkA hkS (dd hkS hdn) n2 n1 (w2 hkA n2)
      · exact q3 C _ hC (Ne.symm hAC) hCS dC (I.no _ hlC) (by omega) vC
    · by_cases hiA : i = A
      · subst hiA
        refine hoA o ho a x _ (putI hiS _ _ ((Below.refl _ _).alloc (Nat.le_refl _) _) (fun h => absurd rfl h) (fun _ => ⟨x.heap.size, rfl, I.bel.size, box_new x zero t⟩))
      · refine hop i o hiN hiA hiS ho a x I.bel seen _ (fun v x' q1 q2 => putI hiS v x' q2 (fun _ => q1) (fun e => absurd e hiA))
  · intro L a x I hd
    have dS := hd S (by omega)
    obtain ⟨bb, v, h1, h2, h3, h4, h5⟩ := I.fin dS
    obtain ⟨vs, hvs⟩ := I.val
    exact hend a x bb v I.df I.sz I.kp h1 h2 h3 h4 h5 I.bel ⟨vs, fun i hi hiS hiA => by
      obtain ⟨k1, k2⟩ := hvs i hi hiS (hd i (by omega))
      exact ⟨k1, fun hl => k2 hiA (I.no _ hl)⟩⟩
end Go.Proofs.YtonoadjmglkhaaaGreat.Rg

namespace Go.Proofs.YtonoadjmglkhaaaGreat.Nm
open Go.RowKit Go.Proofs.YtonoadjmglkhaaaGreat Go.Proofs.YtonoadjmglkhaaaGreat.Rw

def EI : Ek Int := ⟨3, 23, 1, 8, .int .i64 0, fun n => .int .i64 n, fun n => [.int .i64 n]⟩
theorem infoI0 : (Tryz.prog.info? 3).map (fun i => (i.zero, i.size, i.bytes)) = some (some (.int .i64 0), 1, 8) := by kernel_rfl
theorem okI : EI.Ok where
  hu := Tryz.underlying23
  info := by
    have h := infoI0
    cases hi : Tryz.prog.info? 3 with
    | none => rw [hi] at h; cases h
    | some i =>
      rw [hi] at h
      simp only [Option.map_some, Option.some.injEq, Prod.mk.injEq] at h
      exact ⟨i, hi, h.1, h.2.1, h.2.2⟩
  zs := rfl
  len := fun _ => rfl
  one := fun x u hu => by
    simp only [EI, List.mem_cons, List.not_mem_nil, or_false] at hu
    rw [hu]
    rfl
  pos := by decide
  few := by decide
  load := fun w p x h => by
    have h0 := h 0 _ rfl
    rw [add_zero] at h0
    show (Instr.loadAt 3 (.pointer (some p))).run Tryz.prog w = .ok (.int .i64 x) w
    simp [go_sem, h0]
abbrev RowI (W : World) (v : Value) (l : List Int) : Prop := Row EI W v l
abbrev OwnI (W : World) (B : Nat) (v : Value) (l : List Int) : Prop := Own EI W B v l
theorem elI {W : World} {v : Value} {l : List Int} {ao : Option Addr} {n c k : Nat} {x : Int} (h : RowI W v l) (hv : v = .slice ao n c) (hn : l.length = n) (hk : l[k]? = some x) :
    ∃ p : Addr, (∀ w, (Instr.indexAt 23 (.slice ao n c) (.int .i64 k)).run Tryz.prog w = .ok (.pointer (some p)) w) ∧ p.block < W.heap.size ∧ ∀ w, Below W.heap.size W w → w.cell? p = some (.int .i64 x) := by
  obtain ⟨p, h1, h3, h2⟩ := row_el okI h hv hn hk
  exact ⟨p, h1, h3, fun w hw => by
    have h0 := h2 w hw 0 _ rfl
    rwa [add_zero] at h0⟩
theorem appI {w : World} (B : Nat) {v x : Value} {l m : List Int} (hown : OwnI w B v l) (hx : RowI w x m) (hn : l.length ≤ 1000) (hm : m.length ≤ 1000) (hB : B ≤ w.heap.size) :
    ∃ v' w', (Builtin.append_ #[23, 23] 23 #[v, x]).run Tryz.prog w = .ok v' w' ∧ OwnI w' B v' (l ++ m) ∧ w.grownBy w' v.ownBlock := app_row okI B hown hx hn hm hB 23
theorem row_oneI (w : World) (c : Int) : RowI (w.alloc (.cells #[.int .i64 c] 3)) (.slice (some ⟨w.heap.size, 0, none⟩) 1 1) [c] :=
  Row.of_own (row_lit okI w [c] 1 rfl (by simp) _ rfl)
theorem own_oneI (w : World) (c : Int) : OwnI (w.alloc (.cells #[.int .i64 c] 3)) w.heap.size (.slice (some ⟨w.heap.size, 0, none⟩) 1 1) [c] := row_lit okI w [c] 1 rfl (by simp) _ rfl
theorem flatI : ∀ l : List Int, flat EI l = l.map (fun n => .int .i64 n)
  | [] => rfl
  | x :: r => by
    show EI.cells x ++ flat EI r = _
    rw [flatI r]
    rfl
end Go.Proofs.YtonoadjmglkhaaaGreat.Nm
