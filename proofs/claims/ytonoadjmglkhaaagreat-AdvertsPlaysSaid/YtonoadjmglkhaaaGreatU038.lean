/-
  A region that draws its order by marks, as in RgM, whose last operation stores and writes no slot. No condition beyond what the theorem states.
  A region that draws its order, in which a variable is made, one value is come by (by a call that may make memory), and the value is stored into the variable; all else is known ahead. No condition beyond what the theorem states.
  A region that draws its order, in which a variable is made and one value is stored into it; of each other value something is known till its last use, which holds on as memory grows. No condition beyond what the theorem states.
-/
import Derived.Test.YtonoadjmglkhaaaGreatU005
import Derived.Test.YtonoadjmglkhaaaGreatU006
import Derived.Test.YtonoadjmglkhaaaGreatU000
import Derived.Test.YtonoadjmglkhaaaGreatU008
namespace Go.Proofs.YtonoadjmglkhaaaGreat.Rg
open Go.RowKit

theorem region_marks_s {P : Program} {Q : Exit → Act → World → Prop} {id : Nat} {base : Act} {w : World} {l : List Oper} (d0 N : Nat) (vals : List Value) (mk : Nat → Nat) (R : Nat) (wof : Nat → World)
    (hm : P.follows .mixedOrders = true) (hf : fore l.toArray = true) (hN : l.length = N + 1) (hV : vals.length = N + 1) (hs : d0 + N ≤ base.tmps.size) (hlast : ∃ j, j < R ∧ mk j = N) (hw : wof 0 = w.drew)
    (hinj : ∀ i j, i < R → j < R → mk i = mk j → i = j) (hlt : ∀ j, j < R → mk j ≤ N)
    (hch : ∀ j o, j + 1 < R → l[mk (j + 1)]? = some o → ∃ e ∈ o.after, Region.binds .any e = true ∧ e.on = mk j)
    (hop : ∀ i o v, i ≤ N → l[i]? = some o → vals[i]? = some v → (∀ j, j < R → i ≠ mk j) → ∀ s, s ≤ R → (∀ j o', j < s → l[mk j]? = some o' → ∀ e ∈ o'.after, Region.binds .any e = true → e.on ≠ i) → ∀ a, Seen d0 vals base o a → ∀ K : Act → World → Prop, K (a.put (some (d0 + i)) v) (wof s) → wpOp P l.toArray Q i K a (wof s))
    (hmk : ∀ j o v, j < R → l[mk j]? = some o → vals[mk j]? = some v → ∀ a, Seen d0 vals base o a → ∀ K : Act → World → Prop, ((mk j < N → K (a.put (some (d0 + mk j)) v) (wof (j + 1))) ∧ (mk j = N → K a (wof (j + 1)))) → wpOp P l.toArray Q (mk j) K a (wof j))
    (hend : ∀ a, a.defers = base.defers → a.tmps.size = base.tmps.size → (∀ j, (j < d0 ∨ d0 + N ≤ j) → a.tmps[j]? = base.tmps[j]?) → (∀ i v, i < N → vals[i]? = some v → a.tmps[d0 + i]? = some v) → Q .normal a (wof R)) : (Code.region id l.toArray true).wp P Q base w := by
  have hst0 : ∀ i v, vals[i]? = some v → i ≤ N := fun i v hv => by
    have := (List.getElem?_eq_some_iff.1 hv).1
    omega
  refine region_inv (fun L a x => (a.defers = base.defers ∧ a.tmps.size = base.tmps.size ∧ (∀ j, (j < d0 ∨ d0 + N ≤ j) → a.tmps[j]? = base.tmps[j]?) ∧ ∀ i v, done L i → i < N → vals[i]? = some v → a.tmps[d0 + i]? = some v) ∧ (∀ i o, done L i → l[i]? = some o → ∀ e ∈ o.after, Region.binds .any e = true → done L e.on) ∧ ∃ s, St mk R L s ∧ x = wof s) hm hf ?_ ?_ ?_
  · exact ⟨⟨rfl, rfl, fun _ _ => rfl, fun i v h => absurd h (none_done _ _)⟩, fun i o h => absurd h (none_done _ _), 0, ⟨Nat.zero_le _, fun j h => by omega, fun j _ _ => none_done _ _⟩, hw.symm⟩
  · intro L a x i o hsz ⟨⟨h1, h2, h3, h4⟩, hcl, s, hS, hx⟩ ho hnd hdep
    subst hx
    have hi : i < l.length := (List.getElem?_eq_some_iff.1 ho).1
    have hiL : i < L.size := by omega
    obtain ⟨v, hv⟩ : ∃ v, vals[i]? = some v := ⟨_, List.getElem?_eq_getElem (by omega)⟩
    have hon : ∀ e ∈ o.after, Region.binds .any e = true → e.on < N := fun e he hb => by
      have h7 := List.all_eq_true.1 hf i (List.mem_range.2 (by simpa using hi))
      have ho' : (l.toArray)[i]? = some o := by simpa using ho
      rw [ho'] at h7
      have h8 := Array.all_eq_true'.1 h7 e he
      rw [hb] at h8
      have : e.on < i := by simpa using h8
      omega
    have seen : Seen d0 vals base o a := ⟨fun j u hj hu => eval_some (by rw [h3 j (Or.inl hj)]; exact hu), fun e he hb v hv => eval_some (h4 _ _ (hdep e he hb) (hon e he hb) hv)⟩
    have put_ok : i < N → ∀ u, vals[i]? = some u → (a.put (some (d0 + i)) u).defers = base.defers ∧ (a.put (some (d0 + i)) u).tmps.size = base.tmps.size ∧ (∀ j, (j < d0 ∨ d0 + N ≤ j) → (a.put (some (d0 + i)) u).tmps[j]? = base.tmps[j]?) ∧ ∀ k v, done (L.setIfInBounds i true) k → k < N → vals[k]? = some v → (a.put (some (d0 + i)) u).tmps[d0 + k]? = some v := fun hiN u hu => by
      refine ⟨h1, by rw [size_put]; exact h2, fun j hj => ?_, fun k y hk hkN hy => ?_⟩
      · rw [get_put _ _ _ _ (by omega)]
        exact h3 j hj
      · by_cases e : k = i
        · subst e
          have : some y = some u := by rw [← hy, hu]
          cases this
          have : d0 + k < a.tmps.size := by rw [h2]; omega
          simp [Act.put, this]
        · rw [get_put _ _ _ _ (by omega)]
          rcases (done_set hiL k).1 hk with h9 | h9
          · exact absurd h9 e
          · exact h4 k y h9 hkN hy
    have same_ok : i = N → a.defers = base.defers ∧ a.tmps.size = base.tmps.size ∧ (∀ j, (j < d0 ∨ d0 + N ≤ j) → a.tmps[j]? = base.tmps[j]?) ∧ ∀ k v, done (L.setIfInBounds i true) k → k < N → vals[k]? = some v → a.tmps[d0 + k]? = some v := fun hiN => by
      refine ⟨h1, h2, h3, fun k y hk hkN hy => ?_⟩
      rcases (done_set hiL k).1 hk with h9 | h9
      · omega
      · exact h4 k y h9 hkN hy
    have hcl2 : ∀ k q, done (L.setIfInBounds i true) k → l[k]? = some q → ∀ e ∈ q.after, Region.binds .any e = true → done (L.setIfInBounds i true) e.on := by
      intro k q hk hq e he hb
      rw [done_set hiL] at hk ⊢
      rcases hk with rfl | hk
      · rw [hq] at ho
        cases ho
        exact Or.inr (hdep e he hb)
      · exact Or.inr (hcl k q hk hq e he hb)
    by_cases hmark : ∃ j, j < R ∧ i = mk j
    · obtain ⟨j, hj, rfl⟩ := hmark
      have hsj : s = j := by
        obtain ⟨q1, q2, q3⟩ := hS
        rcases Nat.lt_trichotomy s j with h | h | h
        · exfalso
          obtain ⟨k, rfl⟩ : ∃ k, j = k + 1 := ⟨j - 1, by omega⟩
          obtain ⟨e, he, hb, hon2⟩ := hch k o hj ho
          have := hdep e he hb
          rw [hon2] at this
          exact q3 k (by omega) (by omega) this
        · exact h
        · exact absurd (q2 j h) hnd
      subst hsj
      have hS' : St mk R (L.setIfInBounds (mk s) true) (s + 1) := by
        obtain ⟨q1, q2, q3⟩ := hS
        refine ⟨hj, fun j hj2 => (done_set hiL _).2 ?_, fun j h5 h6 h7 => ?_⟩
        · by_cases e : j = s
          · exact Or.inl (by rw [e])
          · exact Or.inr (q2 j (by omega))
        · rcases (done_set hiL _).1 h7 with h8 | h8
          · have := hinj _ _ h6 hj h8
            omega
          · exact q3 j (by omega) h6 h8
      exact hmk s o v hj ho hv a seen _ ⟨fun h => ⟨put_ok h v hv, hcl2, s + 1, hS', rfl⟩, fun hN' => ⟨same_ok hN', hcl2, s + 1, hS', rfl⟩⟩
    · refine hop i o v (by omega) ho hv (fun j hj e => hmark ⟨j, hj, e⟩) s hS.1 (fun j o' hj ho' e he hb e2 => hnd (by rw [← e2]; exact hcl _ o' (hS.2.1 j hj) ho' e he hb)) a seen _ ⟨put_ok (by
        obtain ⟨jl, hjl, ejl⟩ := hlast
        have : i ≠ N := fun e => hmark ⟨jl, hjl, e.trans ejl.symm⟩
        omega) v hv, hcl2, s, ⟨hS.1, fun j hj => (done_set hiL _).2 (Or.inr (hS.2.1 j hj)), fun j h5 h6 h7 => ?_⟩, rfl⟩
      rcases (done_set hiL _).1 h7 with h8 | h8
      · exact hmark ⟨j, h6, h8.symm⟩
      · exact hS.2.2 j h5 h6 h8
  · intro L a x ⟨⟨h1, h2, h3, h4⟩, _, s, hS, hx⟩ hd
    have hsR : s = R := by
      rcases Nat.lt_or_ge s R with h | h
      · exact absurd (hd (mk s) (by have := hlt s h; omega)) (hS.2.2 s (Nat.le_refl _) h)
      · have := hS.1; omega
    subst hsR
    subst hx
    exact hend a h1 h2 h3 fun i v hi hv => h4 i v (hd i (by omega)) hi hv
end Go.Proofs.YtonoadjmglkhaaaGreat.Rg

namespace Go.Proofs.YtonoadjmglkhaaaGreat.Rg
open Go.RowKit Go.Proofs.YtonoadjmglkhaaaGreat.Rw

/-- What an operation may rely on. -/
structure SeenB (N : Nat) (d : Nat → Nat) (cv : Nat → Option Value) (base : Act) (o : Oper) (a : Act) : Prop where
  kp : ∀ j u, (∀ i, i < N → d i ≠ j) → base.tmps[j]? = some u → a.eval (.tmp j) = u
  at_ : ∀ e ∈ o.after, Region.binds .any e = true → ∀ v, cv e.on = some v → a.eval (.tmp (d e.on)) = v
structure InB (N A S C : Nat) (d : Nat → Nat) (cv : Nat → Option Value) (PV : Value → World → Prop) (t : TypeId) (zero : Array Value) (cof : Value → Array Value) (base : Act) (W : World) (L : Array Bool) (a : Act) (x : World) : Prop where
  df : a.defers = base.defers
  sz : a.tmps.size = base.tmps.size
  kp : ∀ j, (∀ i, i < N → d i ≠ j) → a.tmps[j]? = base.tmps[j]?
  bel : Below W.heap.size W x
  con : ∀ i v, i < N → i ≠ S → done L i → cv i = some v → a.tmps[d i]? = some v
  val : done L C → ¬ done L S → ∃ v, a.tmps[d C]? = some v ∧ PV v x
  box : done L A → ¬ done L S → ∃ bb, a.tmps[d A]? = some (.pointer (some ⟨bb, 0, none⟩)) ∧ W.heap.size ≤ bb ∧ Box x bb zero t
  fin : done L S → done L A ∧ done L C ∧ ∃ bb v, a.tmps[d A]? = some (.pointer (some ⟨bb, 0, none⟩)) ∧ W.heap.size ≤ bb ∧ Box x bb (cof v) t ∧ PV v x
theorem region_box {P : Program} {Q : Exit → Act → World → Prop} {id : Nat} {base : Act} {W : World} {l : List Oper} (N A S C : Nat) (d : Nat → Nat) (cv : Nat → Option Value) (PV : Value → World → Prop) (t : TypeId) (zero : Array Value) (cof : Value → Array Value)
    (hm : P.follows .mixedOrders = true) (hf : fore l.toArray = true) (hN : l.length = N) (hA : A < N) (hS : S < N) (hC : C < N) (hAS : A ≠ S) (hCS : C ≠ S) (hAC : A ≠ C) (cA : cv A = none) (cC : cv C = none) (cS : cv S = none)
    (hinj : ∀ i j, i < N → j < N → i ≠ S → j ≠ S → d i = d j → i = j) (hs : ∀ i, i < N → d i < base.tmps.size)
    (hcv : ∀ i, i < N → i ≠ A → i ≠ S → i ≠ C → ∃ v, cv i = some v)
    (hPV : ∀ v x x', PV v x → Below x.heap.size x x' → PV v x')
    (hw : ∀ o, l[S]? = some o → (∃ e ∈ o.after, Region.binds .any e = true ∧ e.on = A) ∧ ∃ e ∈ o.after, Region.binds .any e = true ∧ e.on = C)
    (hop : ∀ i o v, i < N → i ≠ A → i ≠ S → i ≠ C → l[i]? = some o → cv i = some v → ∀ a x, Below W.heap.size W x → SeenB N d cv base o a → ∀ K : Act → World → Prop, K (a.put (some (d i)) v) x → wpOp P l.toArray Q i K a x)
    (hoC : ∀ o, l[C]? = some o → ∀ a x, Below W.heap.size W x → SeenB N d cv base o a → ∀ K : Act → World → Prop, (∀ v x', PV v x' → Below x.heap.size x x' → K (a.put (some (d C)) v) x') → wpOp P l.toArray Q C K a x)
    (hoA : ∀ o, l[A]? = some o → ∀ a x, ∀ K : Act → World → Prop, K (a.put (some (d A)) (.pointer (some ⟨x.heap.size, 0, none⟩))) (x.alloc (.cells zero t)) → wpOp P l.toArray Q A K a x)
    (hoS : ∀ o, l[S]? = some o → ∀ a x bb v, Below W.heap.size W x → a.eval (.tmp (d A)) = .pointer (some ⟨bb, 0, none⟩) → a.eval (.tmp (d C)) = v → PV v x → W.heap.size ≤ bb → Box x bb zero t → ∀ K : Act → World → Prop, (∀ x', Below W.heap.size W x' → Box x' bb (cof v) t → PV v x' → K a x') → wpOp P l.toArray Q S K a x)
    (hend : ∀ a x bb v, a.defers = base.defers → a.tmps.size = base.tmps.size → (∀ j, (∀ i, i < N → d i ≠ j) → a.tmps[j]? = base.tmps[j]?) → a.tmps[d A]? = some (.pointer (some ⟨bb, 0, none⟩)) → W.heap.size ≤ bb → Box x bb (cof v) t → PV v x → Below W.heap.size W x → (∀ i v, i < N → i ≠ S → cv i = some v → a.tmps[d i]? = some v) → Q .normal a x) : (Code.region id l.toArray true).wp P Q base W := by
  refine region_inv (fun L a x => InB N A S C d cv PV t zero cof base W L a x) hm hf ?_ ?_ ?_
  · exact ⟨rfl, rfl, fun _ _ => rfl, (Below.refl _ _).drew, fun i v _ _ h => absurd h (none_done _ _), fun h => absurd h (none_done _ _), fun h => absurd h (none_done _ _), fun h => absurd h (none_done _ _)⟩
  · intro L a x i o hsz I ho hnd hdep
    have hi : i < l.length := (List.getElem?_eq_some_iff.1 ho).1
    have hiN : i < N := by omega
    have hiL : i < L.size := by omega
    have hon : ∀ e ∈ o.after, Region.binds .any e = true → e.on < i := fun e he hb => by
      have h7 := List.all_eq_true.1 hf i (List.mem_range.2 (by simpa using hi))
      have ho' : (l.toArray)[i]? = some o := by simpa using ho
      rw [ho'] at h7
      have h8 := Array.all_eq_true'.1 h7 e he
      rw [hb] at h8
      simpa using h8
    have dd : ∀ {k}, k ≠ i → done (L.setIfInBounds i true) k → done L k := fun {k} h h5 => ((done_set hiL k).1 h5).resolve_left h
    have du : ∀ {k}, done L k → done (L.setIfInBounds i true) k := fun {k} h => (done_set hiL k).2 (Or.inr h)
    have seen : SeenB N d cv base o a := ⟨fun j u hj hu => eval_some (by rw [I.kp j hj]; exact hu), fun e he hb v hv => by
      by_cases hes : e.on = S
      · rw [hes, cS] at hv
        cases hv
      · exact eval_some (I.con _ _ (by have := hon e he hb; omega) hes (hdep e he hb) hv)⟩
    have putI : i ≠ S → ∀ v x', Below x.heap.size x x' → (∀ u, cv i = some u → v = u) → (i = C → PV v x') → (i = A → ∃ bb, v = .pointer (some ⟨bb, 0, none⟩) ∧ W.heap.size ≤ bb ∧ Box x' bb zero t) → InB N A S C d cv PV t zero cof base W (L.setIfInBounds i true) (a.put (some (d i)) v) x' := by
      intro hiS v x' hb hcu hpc hpa
      have self : (a.put (some (d i)) v).tmps[d i]? = some v := by
        have h5 : d i < a.tmps.size := by rw [I.sz]; exact hs i hiN
        simp [Act.put, h5]
      have keep : ∀ k, k < N → k ≠ S → k ≠ i → (a.put (some (d i)) v).tmps[d k]? = a.tmps[d k]? := fun k hk hkS hki => get_put _ _ _ _ (fun e => hki (hinj _ _ hk hiN hkS hiS e))
      refine ⟨I.df, by rw [size_put]; exact I.sz, fun j hj => ?_, I.bel.trans (hb.mono I.bel.size), fun k u hk hkS hdn hcu' => ?_, fun h1 h2 => ?_, fun h1 h2 => ?_, fun h1 => ?_⟩
      · rw [get_put _ _ _ _ (fun e => hj i hiN e.symm)]
        exact I.kp j hj
      · by_cases e : k = i
        · subst e
          rw [self, hcu u hcu']
        · rw [keep k hk hkS e]
          exact I.con k u hk hkS (dd e hdn) hcu'
      · by_cases e : C = i
        · subst e
          exact ⟨v, self, hpc rfl⟩
        · obtain ⟨u, h3, h4⟩ := I.val (dd e h1) (fun h => h2 (du h))
          exact ⟨u, by rw [keep C hC hCS e]; exact h3, hPV _ _ _ h4 hb⟩
      · by_cases e : A = i
        · subst e
          obtain ⟨bb, rfl, h4, h5⟩ := hpa rfl
          exact ⟨bb, self, h4, h5⟩
        · obtain ⟨bb, h3, h4, h5⟩ := I.box (dd e h1) (fun h => h2 (du h))
          exact ⟨bb, by rw [keep A hA hAS e]; exact h3, h4, h5.on hb⟩
      · have h2 := dd (Ne.symm hiS) h1
        obtain ⟨h3, h4, bb, u, h5, h6, h7, h8⟩ := I.fin h2
        have eA : A ≠ i := fun e => hnd (e ▸ h3)
        exact ⟨du h3, du h4, bb, u, by rw [keep A hA hAS eA]; exact h5, h6, h7.on hb, hPV _ _ _ h8 hb⟩
    by_cases hiS : i = S
    · subst hiS
      obtain ⟨⟨ea, h1, h2, h3⟩, ec, h4, h5, h6⟩ := hw o ho
      have dA := hdep ea h1 h2
      have dC := hdep ec h4 h5
      rw [h3] at dA
      rw [h6] at dC
      obtain ⟨v, v1, v2⟩ := I.val dC hnd
      obtain ⟨bb, b1, b2, b3⟩ := I.box dA hnd
      refine hoS o ho a x bb v I.bel (eval_some b1) (eval_some v1) v2 b2 b3 _ (fun x' q1 q2 q3 => ⟨I.df, I.sz, I.kp, q1, fun k u hk hkS hdn hcu => I.con k u hk hkS (dd hkS hdn) hcu, fun _ hn => absurd ((done_set hiL _).2 (Or.inl rfl)) hn, fun _ hn => absurd ((done_set hiL _).2 (Or.inl rfl)) hn, fun _ => ⟨du dA, du dC, bb, v, b1, b2, q2, q3⟩⟩)
    · by_cases hiA : i = A
      · subst hiA
        refine hoA o ho a x _ (putI hiS _ _ ((Below.refl _ _).alloc (Nat.le_refl _) _) (fun u hu => by rw [cA] at hu; cases hu) (fun e => absurd e hAC) (fun _ => ⟨x.heap.size, rfl, I.bel.size, box_new x zero t⟩))
      · by_cases hiC : i = C
        · subst hiC
          refine hoC o ho a x I.bel seen _ (fun v x' q1 q2 => putI hiS v x' q2 (fun u hu => by rw [cC] at hu; cases hu) (fun _ => q1) (fun e => absurd e hiA))
        · obtain ⟨v, hv⟩ := hcv i hiN hiA hiS hiC
          exact hop i o v hiN hiA hiS hiC ho hv a x I.bel seen _ (putI hiS v x (Below.refl _ _) (fun u hu => by rw [hv] at hu; cases hu; rfl) (fun e => absurd e hiC) (fun e => absurd e hiA))
  · intro L a x I hd
    have dS := hd S (by omega)
    obtain ⟨_, _, bb, v, h1, h2, h3, h4⟩ := I.fin dS
    exact hend a x bb v I.df I.sz I.kp h1 h2 h3 h4 I.bel (fun i v hi hiS hv => I.con i v hi hiS (hd i (by omega)) hv)
end Go.Proofs.YtonoadjmglkhaaaGreat.Rg

namespace Go.Proofs.YtonoadjmglkhaaaGreat.Rg
open Go.RowKit Go.Proofs.YtonoadjmglkhaaaGreat.Rw

/-- What an operation may rely on. -/
structure SeenX (i N A S : Nat) (d last : Nat → Nat) (V : Nat → Value → World → Prop) (base : Act) (o : Oper) (a : Act) (x : World) : Prop where
  kp : ∀ j u, (∀ i, i < N → d i ≠ j) → base.tmps[j]? = some u → a.eval (.tmp j) = u
  at_ : ∀ e ∈ o.after, Region.binds .any e = true → e.on ≠ A → e.on ≠ S → (last e.on = i ∨ N ≤ last e.on) → V e.on (a.eval (.tmp (d e.on))) x
structure InX (l : List Oper) (N A S C : Nat) (d last : Nat → Nat) (V : Nat → Value → World → Prop) (t : TypeId) (zero : Array Value) (cof : Value → Array Value) (base : Act) (W : World) (L : Array Bool) (a : Act) (x : World) : Prop where
  cl : ∀ i o, done L i → l[i]? = some o → ∀ e ∈ o.after, Region.binds .any e = true → done L e.on
  no : ∀ i, N ≤ i → ¬ done L i
  df : a.defers = base.defers
  sz : a.tmps.size = base.tmps.size
  kp : ∀ j, (∀ i, i < N → d i ≠ j) → a.tmps[j]? = base.tmps[j]?
  bel : Below W.heap.size W x
  val : ∃ vs : Nat → Value, ∀ i, i < N → i ≠ S → done L i → a.tmps[d i]? = some (vs i) ∧ (i ≠ A → ¬ done L (last i) → V i (vs i) x)
  box : done L A → ¬ done L S → ∃ bb, a.tmps[d A]? = some (.pointer (some ⟨bb, 0, none⟩)) ∧ W.heap.size ≤ bb ∧ Box x bb zero t
  fin : done L S → ∃ bb v, a.tmps[d A]? = some (.pointer (some ⟨bb, 0, none⟩)) ∧ a.tmps[d C]? = some v ∧ W.heap.size ≤ bb ∧ Box x bb (cof v) t ∧ V C v x
theorem region_mk {P : Program} {Q : Exit → Act → World → Prop} {id : Nat} {base : Act} {W : World} {l : List Oper} (N A S C : Nat) (d last : Nat → Nat) (V : Nat → Value → World → Prop) (t : TypeId) (zero : Array Value) (cof : Value → Array Value)
    (hm : P.follows .mixedOrders = true) (hf : fore l.toArray = true) (hN : l.length = N) (hA : A < N) (hS : S < N) (hC : C < N) (hAS : A ≠ S) (hCS : C ≠ S) (hAC : A ≠ C) (hlC : N ≤ last C)
    (hinj : ∀ i j, i < N → j < N → i ≠ S → j ≠ S → d i = d j → i = j) (hs : ∀ i, i < N → d i < base.tmps.size)
    (hV : ∀ i v x x', i < N → V i v x → Below x.heap.size x x' → V i v x')
    (hw : ∀ o, l[S]? = some o → (∃ e ∈ o.after, Region.binds .any e = true ∧ e.on = A) ∧ ∃ e ∈ o.after, Region.binds .any e = true ∧ e.on = C)
    (hop : ∀ i o, i < N → i ≠ A → i ≠ S → l[i]? = some o → ∀ a x, Below W.heap.size W x → SeenX i N A S d last V base o a x → ∀ K : Act → World → Prop, (∀ v x', V i v x' → Below x.heap.size x x' → K (a.put (some (d i)) v) x') → wpOp P l.toArray Q i K a x)
    (hoA : ∀ o, l[A]? = some o → ∀ a x, ∀ K : Act → World → Prop, K (a.put (some (d A)) (.pointer (some ⟨x.heap.size, 0, none⟩))) (x.alloc (.cells zero t)) → wpOp P l.toArray Q A K a x)
    (hoS : ∀ o, l[S]? = some o → ∀ a x bb v (D : Nat → Prop), (∀ j oj, D j → l[j]? = some oj → ∀ e ∈ oj.after, Region.binds .any e = true → D e.on) → (∀ e ∈ o.after, Region.binds .any e = true → D e.on) → Below W.heap.size W x → a.eval (.tmp (d A)) = .pointer (some ⟨bb, 0, none⟩) → a.eval (.tmp (d C)) = v → V C v x → W.heap.size ≤ bb → Box x bb zero t → ∀ K : Act → World → Prop, (∀ x', Below W.heap.size W x' → Box x' bb (cof v) t → (∀ j u, j < N → j ≠ A → j ≠ S → D j → ¬ D (last j) → last j ≠ S → V j u x → V j u x') → K a x') → wpOp P l.toArray Q S K a x)
    (hend : ∀ a x bb v, a.defers = base.defers → a.tmps.size = base.tmps.size → (∀ j, (∀ i, i < N → d i ≠ j) → a.tmps[j]? = base.tmps[j]?) → a.tmps[d A]? = some (.pointer (some ⟨bb, 0, none⟩)) → a.tmps[d C]? = some v → W.heap.size ≤ bb → Box x bb (cof v) t → V C v x → Below W.heap.size W x → (∃ vs : Nat → Value, ∀ i, i < N → i ≠ S → i ≠ A → a.tmps[d i]? = some (vs i) ∧ (N ≤ last i → V i (vs i) x)) → Q .normal a x) : (Code.region id l.toArray true).wp P Q base W := by
  refine region_inv (fun L a x => InX l N A S C d last V t zero cof base W L a x) hm hf ?_ ?_ ?_
  · exact ⟨fun i o h => absurd h (none_done _ _), fun i _ => none_done _ _, rfl, rfl, fun _ _ => rfl, (Below.refl _ _).drew, ⟨fun _ => .bool true, fun i _ _ h => absurd h (none_done _ _)⟩, fun h => absurd h (none_done _ _), fun h => absurd h (none_done _ _)⟩
  · intro L a x i o hsz I ho hnd hdep
    have hi : i < l.length := (List.getElem?_eq_some_iff.1 ho).1
    have hiN : i < N := by omega
    have hiL : i < L.size := by omega
    obtain ⟨vs, hvs⟩ := I.val
    have hon : ∀ e ∈ o.after, Region.binds .any e = true → e.on < i := fun e he hb => by
      have h7 := List.all_eq_true.1 hf i (List.mem_range.2 (by simpa using hi))
      have ho' : (l.toArray)[i]? = some o := by simpa using ho
      rw [ho'] at h7
      have h8 := Array.all_eq_true'.1 h7 e he
      rw [hb] at h8
      simpa using h8
    have dd : ∀ {k}, k ≠ i → done (L.setIfInBounds i true) k → done L k := fun {k} h h5 => ((done_set hiL k).1 h5).resolve_left h
    have du : ∀ {k}, done L k → done (L.setIfInBounds i true) k := fun {k} h => (done_set hiL k).2 (Or.inr h)
    have cl' : ∀ k q, done (L.setIfInBounds i true) k → l[k]? = some q → ∀ e ∈ q.after, Region.binds .any e = true → done (L.setIfInBounds i true) e.on := fun k q hk hq e he hb => by
      by_cases e2 : k = i
      · subst e2
        rw [hq] at ho
        cases ho
        exact du (hdep e he hb)
      · exact du (I.cl k q (dd e2 hk) hq e he hb)
    have no' : ∀ k, N ≤ k → ¬ done (L.setIfInBounds i true) k := fun k hk h => I.no k hk (dd (by omega) h)
    have seen : SeenX i N A S d last V base o a x := ⟨fun j u hj hu => eval_some (by rw [I.kp j hj]; exact hu), fun e he hb hA' hS' hl => by
      obtain ⟨h1, h2⟩ := hvs e.on (by have := hon e he hb; omega) hS' (hdep e he hb)
      rw [eval_some h1]
      refine h2 hA' ?_
      rcases hl with hl | hl
      · rw [hl]; exact hnd
      · exact I.no _ hl⟩
    have putI : i ≠ S → ∀ v x', Below x.heap.size x x' → (i ≠ A → V i v x') → (i = A → ∃ bb, v = .pointer (some ⟨bb, 0, none⟩) ∧ W.heap.size ≤ bb ∧ Box x' bb zero t) → InX l N A S C d last V t zero cof base W (L.setIfInBounds i true) (a.put (some (d i)) v) x' := by
      intro hiS v x' hb hpv hpa
      have self : (a.put (some (d i)) v).tmps[d i]? = some v := by
        have h5 : d i < a.tmps.size := by rw [I.sz]; exact hs i hiN
        simp [Act.put, h5]
      have keep : ∀ k, k < N → k ≠ S → k ≠ i → (a.put (some (d i)) v).tmps[d k]? = a.tmps[d k]? := fun k hk hkS hki => get_put _ _ _ _ (fun e => hki (hinj _ _ hk hiN hkS hiS e))
      refine ⟨cl', no', I.df, by rw [size_put]; exact I.sz, fun j hj => ?_, I.bel.trans (hb.mono I.bel.size), ⟨fun k => if k = i then v else vs k, fun k hk hkS hdn => ?_⟩, fun h1 h2 => ?_, fun h1 => ?_⟩
      · rw [get_put _ _ _ _ (fun e => hj i hiN e.symm)]
        exact I.kp j hj
      · by_cases e : k = i
        · subst e
          simp only [if_true]
          exact ⟨self, fun h3 _ => hpv h3⟩
        · simp only [if_neg e]
          obtain ⟨h3, h4⟩ := hvs k hk hkS (dd e hdn)
          exact ⟨by rw [keep k hk hkS e]; exact h3, fun h5 h6 => hV k _ _ _ hk (h4 h5 (fun h => h6 (du h))) hb⟩
      · by_cases e : A = i
        · subst e
          obtain ⟨bb, rfl, h4, h5⟩ := hpa rfl
          exact ⟨bb, self, h4, h5⟩
        · obtain ⟨bb, h3, h4, h5⟩ := I.box (dd e h1) (fun h => h2 (du h))
          exact ⟨bb, by rw [keep A hA hAS e]; exact h3, h4, h5.on hb⟩
      · have h2 := dd (Ne.symm hiS) h1
        obtain ⟨bb, u, h5, h6, h7, h8, h9⟩ := I.fin h2
        obtain ⟨oS, hoS'⟩ : ∃ oS, l[S]? = some oS := ⟨_, List.getElem?_eq_getElem (by omega)⟩
        obtain ⟨⟨ea, k1, k2, k3⟩, ec, k4, k5, k6⟩ := hw oS hoS'
        have dA := I.cl S oS h2 hoS' ea k1 k2
        have dC := I.cl S oS h2 hoS' ec k4 k5
        rw [k3] at dA
        rw [k6] at dC
        have eA : A ≠ i := fun e => hnd (e ▸ dA)
        have eC : C ≠ i := fun e => hnd (e ▸ dC)
        exact ⟨bb, u, by rw [keep A hA hAS eA]; exact h5, by rw [keep C hC hCS eC]; exact h6, h7, h8.on hb, hV C _ _ _ hC h9 hb⟩
    by_cases hiS : i = S
    · subst hiS
      obtain ⟨⟨ea, h1, h2, h3⟩, ec, h4, h5, h6⟩ := hw o ho
      have dA := hdep ea h1 h2
      have dC := hdep ec h4 h5
      rw [h3] at dA
      rw [h6] at dC
      obtain ⟨v1, v2⟩ := hvs C hC hCS dC
      obtain ⟨bb, b1, b2, b3⟩ := I.box dA hnd
      have vC := v2 (Ne.symm hAC) (I.no _ hlC)
      refine hoS o ho a x bb (vs C) (done L) I.cl hdep I.bel (eval_some b1) (eval_some v1) vC b2 b3 _ (fun x' q1 q2 q3 => ⟨cl', no', I.df, I.sz, I.kp, q1, ⟨vs, fun k hk hkS hdn => ?_⟩, fun _ hn => absurd ((done_set hiL _).2 (Or.inl rfl)) hn, fun _ => ⟨bb, vs C, b1, v1, b2, q2, ?_⟩⟩)
      · obtain ⟨w1, w2⟩ := hvs k hk hkS (dd hkS hdn)
        refine ⟨w1, fun hkA hnl => ?_⟩
        have n1 : last k ≠ i := fun e => hnl ((done_set hiL _).2 (Or.inl e))
        have n2 : ¬ done L (last k) := fun e => hnl (du e)
        exact q3 k _ hk hkA hkS (dd hkS hdn) n2 n1 (w2 hkA n2)
      · exact q3 C _ hC (Ne.symm hAC) hCS dC (I.no _ hlC) (by omega) vC
    · by_cases hiA : i = A
      · subst hiA
        refine hoA o ho a x _ (putI hiS _ _ ((Below.refl _ _).alloc (Nat.le_refl _) _) (fun h => absurd rfl h) (fun _ => ⟨x.heap.size, rfl, I.bel.size, box_new x zero t⟩))
      · refine hop i o hiN hiA hiS ho a x I.bel seen _ (fun v x' q1 q2 => putI hiS v x' q2 (fun _ => q1) (fun e => absurd e hiA))
  · intro L a x I hd
    have dS := hd S (by omega)
    obtain ⟨bb, v, h1, h2, h3, h4, h5⟩ := I.fin dS
    obtain ⟨vs, hvs⟩ := I.val
    exact hend a x bb v I.df I.sz I.kp h1 h2 h3 h4 h5 I.bel ⟨vs, fun i hi hiS hiA => by
      obtain ⟨k1, k2⟩ := hvs i hi hiS (hd i (by omega))
      exact ⟨k1, fun hl => k2 hiA (I.no _ hl)⟩⟩
end Go.Proofs.YtonoadjmglkhaaaGreat.Rg
