/-
  Entries of one tree: where they stand, which are covered, which are put up; a broker whose entries are tight stays so. No program's function in it.
-/
import Derived.Test.YtncogjpmboglhaaQ034
import Derived.Test.YtncogjpmboglhaaQ017
namespace Go.Proofs.Ytncogjpmboglhaa.Sb
open Go.RowKit Go.Sort Go.Proofs.Ytncogjpmboglhaa Go.Proofs.Ytncogjpmboglhaa.Rw Go.Proofs.Ytncogjpmboglhaa.Nm Go.Proofs.Ytncogjpmboglhaa.Pr Go.Proofs.Ytncogjpmboglhaa.Bk Go.Proofs.Ytncogjpmboglhaa.Av

abbrev RiseE (m : List En) : Prop := m.Pairwise fun x y => cEn x y < 0
/-- Where a tree's entries begin, and which they are. -/
def fromT (m : List En) (t : XID) : Nat := (m.takeWhile fun e => lessI e.tree t).length
def brE (m : List En) (t : XID) : List En := (m.drop (fromT m t)).takeWhile fun e => decide (e.tree = t)
def covB (r : List En) (p : List C5) : Bool := r.any fun e => e.up && coversC e.p p
def tightR (r : List En) : Bool := r.all fun e => e.up || covB r e.p
def tightB (b : Br) : Bool := b.adv.all fun a => a.par == -1 || tightR (brE b.ent a.id)
def raiseStep (s : List En × List En) (k : Nat) : List En × List En := match s.1[k]? with
  | none => s
  | some e => if e.up = true ∨ covB s.1 e.p = true then s else (s.1.set k (upE e), s.2 ++ [upE e])
def raiseK (r : List En) (k : Nat) : List En × List En := (List.range k).foldl raiseStep (r, [])
theorem raiseK_succ (r : List En) (k : Nat) : raiseK r (k + 1) = raiseStep (raiseK r k) k := by
  simp [raiseK, List.range_succ]
theorem lessP_iff (x y : En) : lessP (keyE x) (keyE y) = true ↔ cEn x y < 0 := by
  rw [cEn_neg]
  unfold lessP
  simp [eqI_iff]
theorem lessP_irr (x : XID × XID) : lessP x x = false := by simp [lessP, lessI_irr]
def thereE (m : List En) (t s : XID) : Bool := match m[placeP (m.map keyE) (t, s)]? with
  | none => false
  | some e => decide (keyE e = (t, s))
theorem take_less : ∀ (l : List (XID × XID)) (x : XID × XID) (j : Nat) (y : XID × XID), j < placeP l x → l[j]? = some y → lessP y x = true
  | [], _, _, _, _, h => by simp at h
  | a :: l, x, j, y, hj, h => by
    unfold placeP at hj
    by_cases ha : lessP a x = true
    · rw [List.takeWhile_cons, if_pos ha, List.length_cons] at hj
      cases j with
      | zero => rw [← Option.some.inj (show some a = some y from h)]; exact ha
      | succ j => exact take_less l x j y (by unfold placeP; omega) (by simpa using h)
    · rw [List.takeWhile_cons, if_neg ha] at hj
      simp at hj
theorem place_not : ∀ (l : List (XID × XID)) (x y : XID × XID), l[placeP l x]? = some y → lessP y x = false
  | [], _, _, h => by simp [placeP] at h
  | a :: l, x, y, h => by
    unfold placeP at h
    by_cases ha : lessP a x = true
    · rw [List.takeWhile_cons, if_pos ha, List.length_cons] at h
      exact place_not l x y (by unfold placeP; simpa using h)
    · rw [List.takeWhile_cons, if_neg ha] at h
      rw [← Option.some.inj (show some a = some y from h)]
      simpa using ha
/-- Where they rise, the place tells the first one. -/
theorem find_there {m : List En} (hr : RiseE m) (t s : XID) : findK (m.map keyE) (t, s) = if thereE m t s = true then (placeP (m.map keyE) (t, s) : Int) else -1 := by
  unfold thereE
  cases hp : m[placeP (m.map keyE) (t, s)]? with
  | none =>
    rw [if_neg (by simp)]
    refine findK_none _ _ fun j y hj e => ?_
    have hl : m.length ≤ placeP (m.map keyE) (t, s) := List.getElem?_eq_none_iff.1 hp
    have hj2 := (List.getElem?_eq_some_iff.1 hj).1
    rw [List.length_map] at hj2
    have h := take_less _ (t, s) j y (by omega) hj
    rw [e, lessP_irr] at h
    cases h
  | some e =>
    have hpk : (m.map keyE)[placeP (m.map keyE) (t, s)]? = some (keyE e) := by rw [List.getElem?_map, hp]; rfl
    by_cases he : keyE e = (t, s)
    · simp only [he, decide_true, if_true]
      rw [he] at hpk
      refine findK_at _ _ _ hpk fun j z hj hz q => ?_
      have h := take_less _ (t, s) j z hj hz
      rw [q, lessP_irr] at h
      cases h
    · rw [if_neg (by simpa using he)]
      refine findK_none _ _ fun j y hj q => ?_
      rcases Nat.lt_trichotomy j (placeP (m.map keyE) (t, s)) with h | h | h
      · have h := take_less _ (t, s) j y h hj
        rw [q, lessP_irr] at h
        cases h
      · subst h
        rw [hpk] at hj
        exact he ((Option.some.inj hj).trans q)
      · rw [List.getElem?_map] at hj
        cases hz : m[j]? with
        | none => rw [hz] at hj; cases hj
        | some z =>
          rw [hz] at hj
          have h1 := List.pairwise_iff_getElem.1 hr _ _ (List.getElem?_eq_some_iff.1 hp).1 (List.getElem?_eq_some_iff.1 hz).1 h
          rw [(List.getElem?_eq_some_iff.1 hp).2, (List.getElem?_eq_some_iff.1 hz).2, ← lessP_iff] at h1
          have h2 := place_not _ _ _ hpk
          rw [show keyE z = (t, s) from (Option.some.inj hj).trans q] at h1
          rw [h1] at h2
          cases h2
theorem tree_le {x y : En} (h : cEn x y < 0) : lessI x.tree y.tree = true ∨ x.tree = y.tree := by
  rcases (cEn_neg x y).1 h with q | q
  · exact Or.inl q
  · exact Or.inr q.1
theorem drop_len {α : Type} (p : α → Bool) : ∀ l : List α, l.drop (l.takeWhile p).length = l.dropWhile p
  | [] => rfl
  | a :: l => by
    by_cases h : p a = true
    · simp [h, drop_len p l]
    · simp [h]
theorem lo_out : ∀ {m : List En} (t : XID) (_ : RiseE m), ∀ e ∈ m.dropWhile (fun e => lessI e.tree t), lessI e.tree t = false
  | [], _, _, e, h => by simp at h
  | a :: m, t, hr, e, h => by
    have hr' := List.pairwise_cons.1 hr
    by_cases ha : lessI a.tree t = true
    · rw [List.dropWhile_cons, if_pos ha] at h
      exact lo_out t hr'.2 e h
    · rw [List.dropWhile_cons, if_neg ha] at h
      rcases List.mem_cons.1 h with rfl | h
      · simpa using ha
      · cases hq : lessI e.tree t with
        | false => rfl
        | true =>
          exfalso
          rcases tree_le (hr'.1 e h) with q | q
          · exact ha (lessI_trans q hq)
          · exact ha (by rw [q]; exact hq)
theorem hi_out : ∀ {m : List En} (t : XID) (_ : RiseE m) (_ : ∀ e ∈ m, lessI e.tree t = false), ∀ e ∈ m.dropWhile (fun e => decide (e.tree = t)), lessI t e.tree = true
  | [], _, _, _, e, h => by simp at h
  | a :: m, t, hr, hl, e, h => by
    have hr' := List.pairwise_cons.1 hr
    by_cases ha : a.tree = t
    · rw [List.dropWhile_cons, if_pos (by simpa using ha)] at h
      exact hi_out t hr'.2 (fun e he => hl e (List.mem_cons_of_mem _ he)) e h
    · rw [List.dropWhile_cons, if_neg (by simpa using ha)] at h
      have hta : lessI t a.tree = true := by
        rcases lessI_total a.tree t with q | q | q
        · rw [hl a (by simp)] at q; cases q
        · exact absurd q ha
        · exact q
      rcases List.mem_cons.1 h with rfl | h
      · exact hta
      · rcases tree_le (hr'.1 e h) with q | q
        · exact lessI_trans hta q
        · rw [← q]; exact hta
theorem ne_less {x t : XID} (h : lessI x t = true) : x ≠ t := by rintro rfl; rw [lessI_irr] at h; cases h
/-- The entries of a tree stand together. -/
theorem br_split {m : List En} (hr : RiseE m) (t : XID) : ∃ c, m = m.take (fromT m t) ++ brE m t ++ c ∧ (m.take (fromT m t)).length = fromT m t ∧ (∀ e ∈ m.take (fromT m t), e.tree ≠ t) ∧ (∀ e ∈ brE m t, e.tree = t) ∧ (∀ e ∈ c, e.tree ≠ t) := by
  have e1 : m.take (fromT m t) = m.takeWhile fun e => lessI e.tree t := by
    unfold fromT
    conv => lhs; arg 2; rw [← List.takeWhile_append_dropWhile (p := fun e : En => lessI e.tree t) (l := m)]
    rw [List.take_left]
  have e2 : m.drop (fromT m t) = m.dropWhile fun e => lessI e.tree t := drop_len _ _
  refine ⟨(m.drop (fromT m t)).dropWhile fun e => decide (e.tree = t), ?_, ?_, ?_, ?_, ?_⟩
  · unfold brE
    rw [List.append_assoc, List.takeWhile_append_dropWhile, List.take_append_drop]
  · rw [e1]; rfl
  · rw [e1]
    intro e he
    exact ne_less (List.all_eq_true.1 List.all_takeWhile e he)
  · intro e he
    unfold brE at he
    exact of_decide_eq_true (List.all_eq_true.1 (List.all_takeWhile (p := fun e : En => decide (e.tree = t))) e he)
  · rw [e2]
    intro e he
    have h1 : RiseE (m.dropWhile fun e => lessI e.tree t) := hr.sublist (List.dropWhile_sublist _)
    exact (ne_less (hi_out t h1 (lo_out t hr) e he)).symm
theorem fil_none {α : Type} {p : α → Bool} {l : List α} (h : ∀ e ∈ l, p e = false) : l.filter p = [] := by
  rw [List.filter_eq_nil_iff]
  intro e he
  rw [h e he]
  simp
theorem br_filter {m : List En} (hr : RiseE m) (t : XID) : brE m t = m.filter fun e => decide (e.tree = t) := by
  obtain ⟨c, h1, _, h2, h3, h4⟩ := br_split hr t
  generalize brE m t = r at *
  generalize m.take (fromT m t) = a at *
  subst h1
  rw [List.filter_append, List.filter_append, fil_none (l := a) fun e he => by simpa using h2 e he, fil_none (l := c) fun e he => by simpa using h4 e he, List.nil_append, List.append_nil]
  exact (List.filter_eq_self.2 fun e he => by simpa using h3 e he).symm
theorem cov_br {m : List En} (hr : RiseE m) (t : XID) (p : List C5) : covB (brE m t) p = coveredE m t p := by
  rw [br_filter hr, covB, List.any_filter]
  rfl
theorem cov_mid {a r c : List En} {t : XID} (ha : ∀ e ∈ a, e.tree ≠ t) (hr : ∀ e ∈ r, e.tree = t) (hc : ∀ e ∈ c, e.tree ≠ t) (p : List C5) : coveredE (a ++ r ++ c) t p = covB r p := by
  have none_ : ∀ l : List En, (∀ e ∈ l, e.tree ≠ t) → l.any (covE t p) = false := fun l hl => by
    rw [List.any_eq_false]
    intro e he
    unfold covE
    rw [decide_eq_false (hl e he)]
    simp
  unfold coveredE covB
  rw [List.any_append, List.any_append, none_ a ha, none_ c hc, Bool.false_or, Bool.or_false]
  induction r with
  | nil => rfl
  | cons x r ih =>
    rw [List.any_cons, List.any_cons, ih fun e he => hr e (List.mem_cons_of_mem _ he)]
    congr 1
    unfold covE
    rw [decide_eq_true (hr x (by simp)), Bool.true_and]
theorem raiseStep_keys (s : List En × List En) (k : Nat) : (raiseStep s k).1.map keyE = s.1.map keyE := by
  unfold raiseStep
  split
  · rfl
  · rename_i e he
    split
    · rfl
    · rw [List.map_set]
      refine List.ext_getElem? fun j => ?_
      rw [List.getElem?_set]
      split
      · rename_i hj
        subst hj
        split
        · rw [List.getElem?_map, he]
          rfl
        · rename_i hl
          rw [List.getElem?_eq_none (by simpa using hl)]
      · rfl
theorem raiseK_keys (r : List En) : ∀ k, (raiseK r k).1.map keyE = r.map keyE
  | 0 => rfl
  | k + 1 => by rw [raiseK_succ, raiseStep_keys, raiseK_keys r k]
theorem raiseK_len (r : List En) (k : Nat) : (raiseK r k).1.length = r.length := by
  have h := congrArg List.length (raiseK_keys r k)
  simpa using h
theorem raiseK_up (r : List En) : ∀ k, (raiseK r k).2.length ≤ k
  | 0 => Nat.le_refl _
  | k + 1 => by
    have ih := raiseK_up r k
    rw [raiseK_succ]
    unfold raiseStep
    split
    · omega
    · split
      · omega
      · simp; omega
theorem keys_tree {r r' : List En} {t : XID} (h : r'.map keyE = r.map keyE) (hr : ∀ e ∈ r, e.tree = t) : ∀ e ∈ r', e.tree = t := by
  intro e he
  have h1 : keyE e ∈ r.map keyE := by rw [← h]; exact List.mem_map.2 ⟨e, he, rfl⟩
  obtain ⟨z, hz, hk⟩ := List.mem_map.1 h1
  rw [← show z.tree = e.tree from congrArg Prod.fst hk]
  exact hr z hz
/-- Those of a tree put up, one by one: of all entries, and of its own alone. -/
theorem take_raise {a r c : List En} {t : XID} (ha : ∀ e ∈ a, e.tree ≠ t) (hr : ∀ e ∈ r, e.tree = t) (hc : ∀ e ∈ c, e.tree ≠ t) : takeK t (a ++ r ++ c) (a ++ r ++ c).length = (a ++ (raiseK r r.length).1 ++ c, (raiseK r r.length).2) := by
  have s1 : ∀ k, k ≤ a.length → takeK t (a ++ r ++ c) k = (a ++ r ++ c, []) := by
    intro k
    induction k with
    | zero => intro _; rfl
    | succ k ih =>
      intro hk
      rw [takeK_succ, ih (by omega)]
      unfold takeStep
      have e1 : (a ++ r ++ c)[k]? = some a[k] := by rw [List.append_assoc, List.getElem?_append_left (by omega), List.getElem?_eq_getElem (by omega)]
      rw [e1]
      simp only
      rw [if_neg fun h => ha _ (List.getElem_mem _) h.1]
  have s2 : ∀ j, j ≤ r.length → takeK t (a ++ r ++ c) (a.length + j) = (a ++ (raiseK r j).1 ++ c, (raiseK r j).2) := by
    intro j
    induction j with
    | zero => intro _; rw [Nat.add_zero, s1 _ (Nat.le_refl _)]; rfl
    | succ j ih =>
      intro hj
      have hl := raiseK_len r j
      have hk := keys_tree (raiseK_keys r j) hr
      rw [← Nat.add_assoc, takeK_succ, ih (by omega), raiseK_succ]
      generalize raiseK r j = s at *
      obtain ⟨r', u⟩ := s
      simp only at hl hk ⊢
      unfold takeStep raiseStep
      have e1 : (a ++ r' ++ c)[a.length + j]? = r'[j]? := by rw [List.append_assoc, List.getElem?_append_right (by omega), Nat.add_sub_cancel_left, List.getElem?_append_left (by omega)]
      simp only [e1]
      rw [List.getElem?_eq_getElem (show j < r'.length by omega)]
      simp only
      have ht := hk _ (List.getElem_mem (show j < r'.length by omega))
      rw [cov_mid ha hk hc]
      by_cases h1 : (r'[j]'(by omega)).up = true ∨ covB r' (r'[j]'(by omega)).p = true
      · rw [if_pos h1, if_neg]
        rintro ⟨_, g2, g3⟩
        rcases h1 with h1 | h1
        · rw [h1] at g2; cases g2
        · rw [h1] at g3; cases g3
      · rw [if_neg h1, if_pos ⟨ht, by simpa using fun q => h1 (Or.inl q), by simpa using fun q => h1 (Or.inr q)⟩]
        have e2 : (a ++ r' ++ c).set (a.length + j) (upE (r'[j]'(by omega))) = a ++ r'.set j (upE (r'[j]'(by omega))) ++ c := by
          rw [List.append_assoc, List.set_append_right _ _ (by omega), Nat.add_sub_cancel_left, List.set_append_left _ _ (by omega), List.append_assoc]
        rw [e2]
  have s3 : ∀ j, j ≤ c.length → takeK t (a ++ r ++ c) (a.length + r.length + j) = (a ++ (raiseK r r.length).1 ++ c, (raiseK r r.length).2) := by
    intro j
    induction j with
    | zero => intro _; rw [Nat.add_zero, s2 _ (Nat.le_refl _)]
    | succ j ih =>
      intro hj
      have hl := raiseK_len r r.length
      rw [← Nat.add_assoc, takeK_succ, ih (by omega)]
      unfold takeStep
      have e1 : (a ++ (raiseK r r.length).1 ++ c)[a.length + r.length + j]? = some (c[j]'(by omega)) := by
        rw [List.getElem?_append_right (by rw [List.length_append, hl]; omega), List.length_append, hl, Nat.add_sub_cancel_left, List.getElem?_eq_getElem (by omega)]
      rw [e1]
      simp only
      rw [if_neg fun h => hc _ (List.getElem_mem _) h.1]
  have h := s3 c.length (Nat.le_refl _)
  rw [List.length_append, List.length_append]
  exact h
end Go.Proofs.Ytncogjpmboglhaa.Sb
