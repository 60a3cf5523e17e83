/-
  Plain facts on how predicates are to each other: match, meet, cover. No program in it.
  What a predicate of numbers is; what lists of constraints are small. No program's function in it.
  Predicates of numbers are right. Plain mathematics.
-/
import Derived.Test.YtonoadjmglkhaaaGreatV006
import Derived.Test.YtonoadjmglkhaaaGreatV032
import Derived.Test.YtonoadjmglkhaaaGreatV025
import Derived.Test.YtonoadjmglkhaaaGreatV029
namespace Go.Proofs.YtonoadjmglkhaaaGreat.Rl
open Go.RowKit Go.Proofs.YtonoadjmglkhaaaGreat Go.Proofs.YtonoadjmglkhaaaGreat.Pu Go.Proofs.YtonoadjmglkhaaaGreat.Pr

/-- A publication: names and values. -/
abbrev An := ByteArray × V3
def names (m : List Cn) : List ByteArray := m.map (·.1)
def has (m : List Cn) (n : ByteArray) : Bool := m.any fun x => decide (x.1 = n)
theorem has_iff (m : List Cn) (n : ByteArray) : has m n = true ↔ n ∈ names m := by
  simp only [has, names, List.any_eq_true, decide_eq_true_eq, List.mem_map]
/-- How many of the one's names are new to the other. -/
def fresh (m r : List Cn) : Nat := r.countP fun y => !has m y.1
/-- No name at which nothing is left. -/
def Clear (m r : List Cn) : Prop := ∀ x ∈ m, ∀ y ∈ r, x.1 = y.1 → bothK x.2 y.2 ≠ none
def Meets (m r : List Cn) : Prop := Clear m r ∧ m.length + fresh m r ≤ 5
def meetsB (a b : List Cn) : Bool := match foldC a.length a b with
  | .ok _ => true
  | .error _ => false

theorem rise_head {c : Cn} {r : List Cn} (h : RiseC (c :: r)) : ∀ y ∈ r, y.1 ≠ c.1 := fun y hy e => less_ne ((List.pairwise_cons.1 h).1 y hy) e.symm
theorem ins_length : ∀ (m : List Cn) (c : Cn) (m' : List Cn), RiseC m → insC m c = some m' → m'.length = m.length + (if has m c.1 then 0 else 1)
  | [], c, m', _, h => by
    obtain rfl := Option.some.inj h
    rfl
  | x :: r, c, m', hr, h => by
    obtain ⟨h1, h2⟩ := List.pairwise_cons.1 hr
    simp only [insC] at h
    split at h
    · rename_i hl
      cases hi : insC r c with
      | none => rw [hi] at h; cases h
      | some n =>
        rw [hi] at h
        obtain rfl := Option.some.inj h
        have e := ins_length r c n h2 hi
        have hx : has (x :: r) c.1 = has r c.1 := by simp [has, less_ne hl]
        rw [hx]
        simp only [List.length_cons]
        omega
    · rename_i hl
      split at h
      · rename_i he
        cases hb : bothK x.2 c.2 with
        | none => rw [hb] at h; cases h
        | some k =>
          rw [hb] at h
          obtain rfl := Option.some.inj h
          have hx : has (x :: r) c.1 = true := by simp [has, he]
          rw [hx]
          rfl
      · rename_i he
        obtain rfl := Option.some.inj h
        have hx : has (x :: r) c.1 = false := by
          simp only [has, List.any_cons, Bool.or_eq_false_iff, decide_eq_false_iff_not, List.any_eq_false, decide_eq_true_eq]
          refine ⟨he, fun y hy e => ?_⟩
          have h3 := h1 y hy
          rw [e] at h3
          exact hl h3
        rw [hx]
        rfl
/-- What stands there behind an insertion: what stood there, but at the inserted name. -/
theorem ins_mem : ∀ (m : List Cn) (c : Cn) (m' : List Cn), RiseC m → insC m c = some m' → (∀ x, x.1 ≠ c.1 → (x ∈ m' ↔ x ∈ m)) ∧ (∀ n, n ∈ names m' ↔ n = c.1 ∨ n ∈ names m)
  | [], c, m', _, h => by
    obtain rfl := Option.some.inj h
    exact ⟨fun x hx => by simp; intro e; exact hx (by rw [e]), fun n => by simp [names]⟩
  | x :: r, c, m', hr, h => by
    obtain ⟨h1, h2⟩ := List.pairwise_cons.1 hr
    simp only [insC] at h
    split at h
    · cases hi : insC r c with
      | none => rw [hi] at h; cases h
      | some n =>
        rw [hi] at h
        obtain rfl := Option.some.inj h
        obtain ⟨e1, e2⟩ := ins_mem r c n h2 hi
        refine ⟨fun y hy => by rw [List.mem_cons, List.mem_cons, e1 y hy], fun k => ?_⟩
        have := e2 k
        simp only [names, List.map_cons, List.mem_cons] at this ⊢
        rw [this]
        constructor
        · rintro (h | h | h)
          · exact Or.inr (Or.inl h)
          · exact Or.inl h
          · exact Or.inr (Or.inr h)
        · rintro (h | h | h)
          · exact Or.inr (Or.inl h)
          · exact Or.inl h
          · exact Or.inr (Or.inr h)
    · split at h
      · rename_i he
        cases hb : bothK x.2 c.2 with
        | none => rw [hb] at h; cases h
        | some k =>
          rw [hb] at h
          obtain rfl := Option.some.inj h
          refine ⟨fun y hy => ?_, fun n => ?_⟩
          · simp only [List.mem_cons]
            constructor
            · rintro (h | h)
              · exact absurd (by rw [h]; exact he) hy
              · exact Or.inr h
            · rintro (h | h)
              · exact absurd (by rw [h]; exact he) hy
              · exact Or.inr h
          · simp only [names, List.map_cons, List.mem_cons, he]
            constructor
            · rintro (h | h)
              · exact Or.inl h
              · exact Or.inr (Or.inr h)
            · rintro (h | h | h)
              · exact Or.inl h
              · exact Or.inl h
              · exact Or.inr h
      · obtain rfl := Option.some.inj h
        refine ⟨fun y hy => ?_, fun n => ?_⟩
        · simp only [List.mem_cons]
          constructor
          · rintro (h | h)
            · exact absurd (by rw [h]) hy
            · exact h
          · exact Or.inr
        · simp only [names, List.map_cons, List.mem_cons]
theorem ins_none : ∀ (m : List Cn) (c : Cn), RiseC m → (insC m c = none ↔ ∃ x ∈ m, x.1 = c.1 ∧ bothK x.2 c.2 = none)
  | [], c, _ => by simp [insC]
  | x :: r, c, hr => by
    obtain ⟨h1, h2⟩ := List.pairwise_cons.1 hr
    have e := ins_none r c h2
    simp only [insC]
    split
    · rename_i hl
      rw [Option.map_eq_none_iff, e]
      constructor
      · rintro ⟨y, hy, h3⟩
        exact ⟨y, List.mem_cons_of_mem _ hy, h3⟩
      · rintro ⟨y, hy, h3⟩
        rcases List.mem_cons.1 hy with rfl | hy
        · exact absurd h3.1 (less_ne hl)
        · exact ⟨y, hy, h3⟩
    · rename_i hl
      split
      · rename_i he
        rw [Option.map_eq_none_iff]
        constructor
        · intro h
          exact ⟨x, List.mem_cons_self .., he, h⟩
        · rintro ⟨y, hy, h3, h4⟩
          rcases List.mem_cons.1 hy with rfl | hy
          · exact h4
          · have h5 := h1 y hy
            rw [he, h3, VaP.bl_irrefl] at h5
            cases h5
      · rename_i he
        constructor
        · intro h; cases h
        · rintro ⟨y, hy, h3, h4⟩
          rcases List.mem_cons.1 hy with rfl | hy
          · exact absurd h3 he
          · have h5 := h1 y hy
            rw [h3] at h5
            exact absurd h5 hl
theorem fresh_ins {m m' r : List Cn} {c : Cn} (hm : ∀ n, n ∈ names m' ↔ n = c.1 ∨ n ∈ names m) (hr : ∀ y ∈ r, y.1 ≠ c.1) : fresh m' r = fresh m r := by
  unfold fresh
  refine List.countP_congr fun y hy => ?_
  have h1 : has m' y.1 = has m y.1 := by
    rw [Bool.eq_iff_iff, has_iff, has_iff, hm]
    constructor
    · rintro (h | h)
      · exact absurd h (hr y hy)
      · exact h
    · exact Or.inr
  rw [h1]
theorem clear_ins {m m' r : List Cn} {c : Cn} (hm : ∀ x, x.1 ≠ c.1 → (x ∈ m' ↔ x ∈ m)) (hr : ∀ y ∈ r, y.1 ≠ c.1) : Clear m' r ↔ Clear m r := by
  constructor
  · intro h x hx y hy e
    exact h x ((hm x (by rw [e]; exact hr y hy)).2 hx) y hy e
  · intro h x hx y hy e
    exact h x ((hm x (by rw [e]; exact hr y hy)).1 hx) y hy e
/-- The normal form of both can be made just where they meet. -/
theorem fold_meets : ∀ (r m : List Cn) (at_ : Nat), RiseC m → RiseC r → m.length ≤ 5 → ((∃ p, foldC at_ m r = .ok p) ↔ Meets m r)
  | [], m, at_, _, _, h5 => by
    simp only [foldC]
    exact ⟨fun _ => ⟨fun x _ y hy => by simp at hy, by simpa [fresh] using h5⟩, fun _ => ⟨m, rfl⟩⟩
  | c :: r, m, at_, hm, hr, h5 => by
    have hh := rise_head hr
    have hr2 := (List.pairwise_cons.1 hr).2
    simp only [foldC]
    cases hi : insC m c with
    | none =>
      obtain ⟨x, hx, e1, e2⟩ := (ins_none m c hm).1 hi
      constructor
      · rintro ⟨p, hp⟩; cases hp
      · intro h
        exact absurd e2 (h.1 x hx c (List.mem_cons_self ..) e1)
    | some m' =>
      have e1 := ins_length m c m' hm hi
      obtain ⟨e2, e3⟩ := ins_mem m c m' hm hi
      have e4 := (ins_rise m c m' hm hi).1
      have e5 : fresh m (c :: r) = fresh m r + (if has m c.1 then 0 else 1) := by
        unfold fresh
        rw [List.countP_cons]
        cases has m c.1 <;> rfl
      have e6 : Clear m (c :: r) ↔ Clear m r := by
        constructor
        · exact fun h x hx y hy => h x hx y (List.mem_cons_of_mem _ hy)
        · intro h x hx y hy e
          rcases List.mem_cons.1 hy with rfl | hy
          · intro hn
            have := (ins_none m y hm).2 ⟨x, hx, e, hn⟩
            rw [hi] at this
            cases this
          · exact h x hx y hy e
      simp only
      by_cases h6 : 5 < m'.length
      · rw [if_pos h6]
        constructor
        · rintro ⟨p, hp⟩; cases hp
        · intro h
          have h7 := h.2
          rw [e5] at h7
          omega
      · rw [if_neg h6, fold_meets r m' (at_ + 1) e4 hr2 (by omega)]
        unfold Meets
        rw [clear_ins e2 hh, fresh_ins e3 hh, e6, e5, e1]
        constructor
        · rintro ⟨h7, h8⟩; exact ⟨h7, by omega⟩
        · rintro ⟨h7, h8⟩; exact ⟨h7, by omega⟩
theorem meetsB_iff {a b : List Cn} (ha : RiseC a) (hb : RiseC b) (h5 : a.length ≤ 5) : meetsB a b = true ↔ Meets a b := by
  rw [← fold_meets b a a.length ha hb h5]
  unfold meetsB
  cases h : foldC a.length a b with
  | ok p => exact ⟨fun _ => ⟨p, rfl⟩, fun _ => rfl⟩
  | error e =>
    refine ⟨fun h => ?_, ?_⟩
    · cases h
    · rintro ⟨p, hp⟩
      cases hp
/-- Where nothing is left, nothing is left the other way round. -/
theorem both_sym (a b : Kd) (ha : goodK a = true) (hb : goodK b = true) : bothK a b = none → bothK b a = none := by
  intro h
  cases h2 : bothK b a with
  | none => rfl
  | some c =>
    obtain ⟨c1, c2⟩ := both_some b a c hb ha h2
    obtain ⟨v, hv⟩ := some_holds c c1
    rw [c2, Bool.and_comm, both_none a b h v] at hv
    cases hv
theorem clear_sym {m r : List Cn} (gm : ∀ c ∈ m, goodK c.2 = true) (gr : ∀ c ∈ r, goodK c.2 = true) (h : Clear m r) : Clear r m :=
  fun x hx y hy e hn => h y hy x hx e.symm (both_sym _ _ (gr x hx) (gm y hy) hn)
/-- A list of unlike things, all of them in another list, is no longer. -/
theorem nodup_len {α : Type} [DecidableEq α] : ∀ (l m : List α), l.Nodup → (∀ x ∈ l, x ∈ m) → l.length ≤ m.length
  | [], m, _, _ => Nat.zero_le _
  | x :: r, m, hn, hs => by
    obtain ⟨h1, h2⟩ := List.nodup_cons.1 hn
    have hx := hs x (List.mem_cons_self ..)
    have h3 := nodup_len r (m.erase x) h2 fun y hy => (List.mem_erase_of_ne (by rintro rfl; exact h1 hy)).2 (hs y (List.mem_cons_of_mem _ hy))
    rw [List.length_erase_of_mem hx] at h3
    have := List.length_pos_of_mem hx
    simp only [List.length_cons]
    omega
/-- The names of both. -/
def union (m r : List Cn) : List ByteArray := names m ++ (names r).filter fun n => !has m n
theorem union_len (m r : List Cn) : (union m r).length = m.length + fresh m r := by
  unfold union fresh names
  rw [List.length_append, List.length_map, List.countP_eq_length_filter, List.filter_map, List.length_map]
  rfl
theorem union_mem (m r : List Cn) (n : ByteArray) : n ∈ union m r ↔ n ∈ names m ∨ n ∈ names r := by
  unfold union
  rw [List.mem_append, List.mem_filter]
  by_cases h : n ∈ names m
  · exact ⟨fun _ => Or.inl h, fun _ => Or.inl h⟩
  · have h2 : has m n = false := by
      cases h3 : has m n
      · rfl
      · exact absurd ((has_iff m n).1 h3) h
    rw [h2]
    simp
theorem union_nodup {m r : List Cn} (hm : RiseC m) (hr : RiseC r) : (union m r).Nodup := by
  unfold union
  rw [List.nodup_append]
  refine ⟨riseC_nodup hm, (riseC_nodup hr).filter _, fun a ha b hb e => ?_⟩
  have h2 := (List.mem_filter.1 hb).2
  rw [← e, (has_iff m a).2 ha] at h2
  cases h2
theorem Meets.symm {m r : List Cn} (hm : RiseC m) (hr : RiseC r) (gm : ∀ c ∈ m, goodK c.2 = true) (gr : ∀ c ∈ r, goodK c.2 = true) (h : Meets m r) : Meets r m := by
  refine ⟨clear_sym gm gr h.1, ?_⟩
  have h2 := h.2
  rw [← union_len] at h2 ⊢
  exact Nat.le_trans (nodup_len _ _ (union_nodup hr hm) fun n hn => (union_mem m r n).2 ((union_mem r m n).1 hn).symm) h2

/-! ### match -/
def matchL (p : List Cn) (l : List An) : Bool := p.all fun c => l.any fun a => decide (a.1 = c.1) && holdsK c.2 a.2
theorem match_iff (p : List Cn) (l : List An) : matchL p l = true ↔ ∀ c ∈ p, ∃ a ∈ l, a.1 = c.1 ∧ holdsK c.2 a.2 = true := by
  simp only [matchL, List.all_eq_true, List.any_eq_true, Bool.and_eq_true, decide_eq_true_eq]
theorem uniq {l : List An} (h : (l.map (·.1)).Nodup) {x y : An} (hx : x ∈ l) (hy : y ∈ l) (e : x.1 = y.1) : x = y := by
  induction l with
  | nil => cases hx
  | cons z r ih =>
    simp only [List.map_cons, List.nodup_cons] at h
    rcases List.mem_cons.1 hx with rfl | hx2 <;> rcases List.mem_cons.1 hy with rfl | hy2
    · rfl
    · exact absurd (by rw [e]; exact List.mem_map_of_mem hy2) h.1
    · exact absurd (by rw [← e]; exact List.mem_map_of_mem hx2) h.1
    · exact ih h.2 hx2 hy2
theorem uniqC {l : List Cn} (h : RiseC l) {x y : Cn} (hx : x ∈ l) (hy : y ∈ l) (e : x.1 = y.1) : x = y := by
  induction l with
  | nil => cases hx
  | cons z r ih =>
    have h1 := rise_head h
    have h2 := (List.pairwise_cons.1 h).2
    rcases List.mem_cons.1 hx with rfl | hx2 <;> rcases List.mem_cons.1 hy with rfl | hy2
    · rfl
    · exact absurd e.symm (h1 y hy2)
    · exact absurd e (h1 x hx2)
    · exact ih h2 hx2 hy2
/-- What matches both shows that they meet. -/
theorem match_meets {a b : List Cn} {l : List An} (ha : RiseC a) (hb : RiseC b) (hl : (l.map (·.1)).Nodup) (h5 : l.length ≤ 5) (h1 : matchL a l = true) (h2 : matchL b l = true) : Meets a b := by
  rw [match_iff] at h1 h2
  refine ⟨fun x hx y hy e hn => ?_, ?_⟩
  · obtain ⟨u, hu, u1, u2⟩ := h1 x hx
    obtain ⟨v, hv, v1, v2⟩ := h2 y hy
    obtain rfl := uniq hl hu hv (by rw [u1, v1, e])
    have := both_none _ _ hn u.2
    rw [u2, v2] at this
    cases this
  · rw [← union_len]
    have h3 := nodup_len (union a b) (l.map (·.1)) (union_nodup ha hb) fun n hn => by
      rcases (union_mem a b n).1 hn with h | h
      · obtain ⟨c, hc, rfl⟩ := List.mem_map.1 h
        obtain ⟨u, hu, u1, _⟩ := h1 c hc
        rw [← u1]
        exact List.mem_map_of_mem hu
      · obtain ⟨c, hc, rfl⟩ := List.mem_map.1 h
        obtain ⟨u, hu, u1, _⟩ := h2 c hc
        rw [← u1]
        exact List.mem_map_of_mem hu
    rw [List.length_map] at h3
    omega

/-! ### cover -/
/-- Does the one hold only where the other does? -/
def impliesK : Kd → Kd → Bool
  | .rg p q, .rg r s => decide (r ≤ p) && decide (q ≤ s)
  | .tx s, .tx t => s.data.toList == t.data.toList
  | .tx s, .pr t => pfx t s
  | .pr s, .pr t => pfx t s
  | _, _ => false
theorem implies_self (k : Kd) : impliesK k k = true := by
  cases k <;> simp [impliesK, pfx_self]
theorem implies_holds (a b : Kd) (h : impliesK a b = true) (v : V3) (hv : holdsK a v = true) : holdsK b v = true := by
  obtain ⟨t, n, u⟩ := v
  cases a <;> cases b <;> simp only [impliesK, Bool.and_eq_true, decide_eq_true_eq, beq_iff_eq] at h <;> simp only [holdsK, Bool.and_eq_true, decide_eq_true_eq, beq_iff_eq] at hv ⊢
  · exact ⟨hv.1, by omega, by omega⟩
  · cases h
  · cases h
  · cases h
  · exact ⟨hv.1, hv.2.trans h⟩
  · exact ⟨hv.1, by rw [pfx_iff, hv.2, ← pfx_iff]; exact h⟩
  · cases h
  · cases h
  · exact ⟨hv.1, (pfx_iff _ _).2 (((pfx_iff _ _).1 h).trans ((pfx_iff _ _).1 hv.2))⟩
/-- .. and the other way round: what holds only where another one does implies it. -/
theorem holds_implies (a b : Kd) (ha : goodK a = true) (h : ∀ v, holdsK a v = true → holdsK b v = true) : impliesK a b = true := by
  cases a with
  | rg p q =>
    simp only [goodK, decide_eq_true_eq] at ha
    have h1 := h (false, p, ⟨#[]⟩) (by rw [hold_n]; simp [ha])
    have h2 := h (false, q, ⟨#[]⟩) (by rw [hold_n]; simp [ha])
    cases b with
    | rg r s =>
      rw [hold_n] at h1 h2
      simp only [Bool.and_eq_true, decide_eq_true_eq] at h1 h2
      simp [impliesK, h1.1, h2.2]
    | tx t => simp [holdsK] at h1
    | pr t => simp [holdsK] at h1
  | tx s =>
    have h1 := h (true, 0, s) (by rw [hold_tx]; simp)
    cases b with
    | rg r t => rw [hold_rg] at h1; cases h1
    | tx t => rw [hold_tx] at h1; exact h1
    | pr t => rw [hold_pr] at h1; exact h1
  | pr s =>
    have h1 := h (true, 0, s) (by rw [hold_pr]; exact pfx_self s)
    cases b with
    | rg r t => rw [hold_rg] at h1; cases h1
    | tx t =>
      have h2 := h (true, 0, more s) (by rw [hold_pr]; exact pfx_more s)
      rw [hold_tx, beq_iff_eq] at h1 h2
      rw [← h1] at h2
      have h3 := congrArg List.length h2
      simp [more] at h3
    | pr t => rw [hold_pr] at h1; exact h1
theorem implies_trans {a b c : Kd} (ha : goodK a = true) (h1 : impliesK a b = true) (h2 : impliesK b c = true) : impliesK a c = true :=
  holds_implies a c ha fun v hv => implies_holds b c h2 v (implies_holds a b h1 v hv)
theorem implies_anti {a b : Kd} (ha : goodK a = true) (hb : goodK b = true) (h1 : impliesK a b = true) (h2 : impliesK b a = true) : a = b :=
  same_holds a b ha hb fun v => by
    rw [Bool.eq_iff_iff]
    exact ⟨implies_holds a b h1 v, implies_holds b a h2 v⟩
def coversL (a b : List Cn) : Bool := a.all fun x => b.any fun y => decide (y.1 = x.1) && impliesK y.2 x.2
theorem covers_iff (a b : List Cn) : coversL a b = true ↔ ∀ x ∈ a, ∃ y ∈ b, y.1 = x.1 ∧ impliesK y.2 x.2 = true := by
  simp only [coversL, List.all_eq_true, List.any_eq_true, Bool.and_eq_true, decide_eq_true_eq]
theorem covers_self (a : List Cn) : coversL a a = true := (covers_iff a a).2 fun x hx => ⟨x, hx, rfl, implies_self _⟩
theorem covers_nil (a : List Cn) : coversL [] a = true := rfl
theorem covers_trans {a b c : List Cn} (gc : ∀ x ∈ c, goodK x.2 = true) (h1 : coversL a b = true) (h2 : coversL b c = true) : coversL a c = true := by
  rw [covers_iff] at *
  intro x hx
  obtain ⟨y, hy, y1, y2⟩ := h1 x hx
  obtain ⟨z, hz, z1, z2⟩ := h2 y hy
  exact ⟨z, hz, z1.trans y1, implies_trans (gc z hz) z2 y2⟩
theorem covers_match {a b : List Cn} {l : List An} (h : coversL a b = true) (hm : matchL b l = true) : matchL a l = true := by
  rw [covers_iff] at h
  rw [match_iff] at *
  intro x hx
  obtain ⟨y, hy, y1, y2⟩ := h x hx
  obtain ⟨u, hu, u1, u2⟩ := hm y hy
  exact ⟨u, hu, u1.trans y1, implies_holds _ _ y2 _ u2⟩
/-- What covers what meets meets. -/
theorem covers_meets {a b c : List Cn} (ha : RiseC a) (hc : RiseC c) (gb : ∀ x ∈ b, goodK x.2 = true) (gc : ∀ x ∈ c, goodK x.2 = true) (h : coversL a b = true) (hm : Meets b c) : Meets a c := by
  rw [covers_iff] at h
  refine ⟨fun x hx z hz e hn => ?_, ?_⟩
  · obtain ⟨y, hy, y1, y2⟩ := h x hx
    cases hk : bothK y.2 z.2 with
    | none => exact hm.1 y hy z hz (y1.trans e) hk
    | some k =>
      obtain ⟨k1, k2⟩ := both_some _ _ k (gb y hy) (gc z hz) hk
      obtain ⟨v, hv⟩ := some_holds k k1
      rw [k2, Bool.and_eq_true] at hv
      have := both_none _ _ hn v
      rw [implies_holds _ _ y2 v hv.1, hv.2] at this
      cases this
  · have h2 := hm.2
    rw [← union_len] at h2 ⊢
    refine Nat.le_trans (nodup_len _ _ (union_nodup ha hc) fun n hn => (union_mem b c n).2 ?_) h2
    rcases (union_mem a c n).1 hn with h3 | h3
    · obtain ⟨x, hx, rfl⟩ := List.mem_map.1 h3
      obtain ⟨y, hy, y1, _⟩ := h x hx
      exact Or.inl (by rw [← y1]; exact List.mem_map_of_mem hy)
    · exact Or.inr h3
theorem meets_self {a : List Cn} (ha : RiseC a) (ga : ∀ x ∈ a, goodK x.2 = true) (h5 : a.length ≤ 5) : Meets a a := by
  refine ⟨fun x hx y hy e hn => ?_, ?_⟩
  · obtain rfl := uniqC ha hx hy e
    rw [both_self _ (ga x hx)] at hn
    cases hn
  · have : fresh a a = 0 := by
      unfold fresh
      rw [List.countP_eq_zero]
      intro y hy
      rw [(has_iff a y.1).2 (List.mem_map_of_mem hy)]
      decide
    omega
theorem meets_nil (a : List Cn) (h5 : a.length ≤ 5) : Meets [] a := by
  refine ⟨fun x hx => by simp at hx, ?_⟩
  have : fresh [] a ≤ a.length := List.countP_le_length
  simp only [List.length_nil]
  omega
/-- What covers each other is the same. -/
theorem covers_anti {a b : List Cn} (ha : RiseC a) (hb : RiseC b) (ga : ∀ x ∈ a, goodK x.2 = true) (gb : ∀ x ∈ b, goodK x.2 = true) (h1 : coversL a b = true) (h2 : coversL b a = true) : a = b := by
  rw [covers_iff] at h1 h2
  have sub : ∀ {p q : List Cn}, RiseC p → (∀ x ∈ p, goodK x.2 = true) → (∀ x ∈ q, goodK x.2 = true) → (∀ x ∈ p, ∃ y ∈ q, y.1 = x.1 ∧ impliesK y.2 x.2 = true) → (∀ x ∈ q, ∃ y ∈ p, y.1 = x.1 ∧ impliesK y.2 x.2 = true) → ∀ x ∈ p, x ∈ q := by
    intro p q hp gp gq h1 h2 x hx
    obtain ⟨y, hy, y1, y2⟩ := h1 x hx
    obtain ⟨z, hz, z1, z2⟩ := h2 y hy
    obtain rfl := uniqC hp hz hx (z1.trans y1)
    have e := implies_anti (gq y hy) (gp z hz) y2 z2
    have e2 : y = z := Prod.ext y1 e
    rw [← e2]
    exact hy
  have na : a.Nodup := List.Pairwise.imp (R := fun x y : Cn => Op.bytesLess x.1.toList y.1.toList = true) (S := fun x y => x ≠ y) (fun h e => less_ne h (by rw [e])) ha
  have nb : b.Nodup := List.Pairwise.imp (R := fun x y : Cn => Op.bytesLess x.1.toList y.1.toList = true) (S := fun x y => x ≠ y) (fun h e => less_ne h (by rw [e])) hb
  exact riseC_eq ha hb ((List.perm_ext_iff_of_nodup na nb).2 fun x => ⟨sub ha ga gb h1 h2 x, sub hb gb ga h2 h1 x⟩)
end Go.Proofs.YtonoadjmglkhaaaGreat.Rl

namespace Go.Proofs.YtonoadjmglkhaaaGreat.Pr
open Go.RowKit Go.Proofs.YtonoadjmglkhaaaGreat Go.Proofs.YtonoadjmglkhaaaGreat.Pu Go.Proofs.YtonoadjmglkhaaaGreat.Rw Go.Proofs.YtonoadjmglkhaaaGreat.Va Go.Proofs.YtonoadjmglkhaaaGreat.Kp

/-- Sizes that every law keeps to. -/
def smallC (c : Cn) : Prop := c.1.size ≤ 100 ∧ (kT c.2).size ≤ 100 ∧ (-9223372036854775808 ≤ kLo c.2 ∧ kLo c.2 ≤ 9223372036854775807) ∧ (-9223372036854775808 ≤ kHi c.2 ∧ kHi c.2 ≤ 9223372036854775807)
def SmallP (l : List Cn) : Prop := l.length ≤ 100 ∧ ∀ c ∈ l, smallC c
/-- What a right predicate of numbers is. -/
structure NF (l : List Cn) : Prop where
  rise : RiseC l
  five : l.length ≤ 5
  good : ∀ c ∈ l, goodC c = true
  small : ∀ c ∈ l, smallC c
theorem NF.goodK {l : List Cn} (h : NF l) : ∀ c ∈ l, Pr.goodK c.2 = true := fun c hc => by
  have := h.good c hc
  simp only [goodC, Bool.and_eq_true] at this
  exact this.2
theorem NF.names {l : List Cn} (h : NF l) : ∀ c ∈ l, c.1.data.toList.all letB = true := fun c hc => by
  have := h.good c hc
  simp only [goodC, nameB, Bool.and_eq_true] at this
  exact this.1.1
theorem NF.smallP {l : List Cn} (h : NF l) : SmallP l := ⟨by have := h.five; omega, h.small⟩
theorem nameB_nm (i : Nat) (h : i < 7) : nameB (nm i) = true := by
  match i, h with
  | 0, _ => decide
  | 1, _ => decide
  | 2, _ => decide
  | 3, _ => decide
  | 4, _ => decide
  | 5, _ => decide
  | 6, _ => decide
theorem nm_size (i : Nat) : (nm i).size = 1 := rfl
theorem kd_small (n : Int) : (kT (kdOf n)).size ≤ 100 ∧ (-9223372036854775808 ≤ kLo (kdOf n) ∧ kLo (kdOf n) ≤ 9223372036854775807) ∧ (-9223372036854775808 ≤ kHi (kdOf n) ∧ kHi (kdOf n) ≤ 9223372036854775807) := by
  have h1 := Wi.within_bd (n.tdiv 4) 0 9 (by omega)
  have h2 := Wi.within_bd (n.tdiv 40) 0 9 (by omega)
  have ht : (tx6 n).size ≤ 3 := txt_size _
  unfold kdOf lo9
  split
  · refine ⟨by show (0 : Nat) ≤ 100; omega, ?_, ?_⟩ <;> simp only [kLo, kHi] <;> omega
  · split
    · refine ⟨by show (tx6 n).size ≤ 100; omega, ?_, ?_⟩ <;> simp only [kLo, kHi] <;> omega
    · refine ⟨by show (tx6 n).size ≤ 100; omega, ?_, ?_⟩ <;> simp only [kLo, kHi] <;> omega
theorem prd_small (has vals : List Int) : ∀ k, ∀ x ∈ prd has vals k, smallC x
  | 0, x, h => by simp [prd] at h
  | k + 1, x, h => by
    simp only [prd] at h
    split at h
    · rcases List.mem_append.1 h with h | h
      · exact prd_small has vals k x h
      · simp at h
        rw [h]
        exact ⟨by show (nm k).size ≤ 100; rw [nm_size]; omega, kd_small _⟩
    · exact prd_small has vals k x h
theorem prd_nf (has vals : List Int) : NF (prd has vals 7) :=
  ⟨prd_rise has vals 7 (Nat.le_refl _), prd_five has vals 7, fun c hc => by
    obtain ⟨i, h1, h2⟩ := prd_names has vals 7 c hc
    simp only [goodC, Bool.and_eq_true]
    exact ⟨by rw [h2]; exact nameB_nm i h1, prd_good has vals 7 c hc⟩, prd_small has vals 7⟩
theorem r5_inj {a b : Cn} (h : r5 a = r5 b) : a = b := by
  obtain ⟨n, a⟩ := a
  obtain ⟨m, b⟩ := b
  simp only [r5, Prod.mk.injEq] at h
  obtain ⟨rfl, h1, h2, h3, h4⟩ := h
  cases a <;> cases b <;> simp [kN, kLo, kHi, kT] at h1 h2 h3 h4 <;> simp [*]
theorem map_r5_inj : ∀ {l m : List Cn}, l.map r5 = m.map r5 → l = m
  | [], [], _ => rfl
  | [], y :: m, h => by simp at h
  | x :: l, [], h => by simp at h
  | x :: l, y :: m, h => by
    simp only [List.map_cons, List.cons.injEq] at h
    rw [r5_inj h.1, map_r5_inj h.2]
end Go.Proofs.YtonoadjmglkhaaaGreat.Pr

namespace Go.Proofs.YtonoadjmglkhaaaGreat.Av
open Go.RowKit Go.Proofs.YtonoadjmglkhaaaGreat Go.Proofs.YtonoadjmglkhaaaGreat.Rw Go.Proofs.YtonoadjmglkhaaaGreat.Nm Go.Proofs.YtonoadjmglkhaaaGreat.Pr Go.Proofs.YtonoadjmglkhaaaGreat.Wr

theorem name_pu (s : ByteArray) : At.nameB s = Pu.nameB s := rfl
theorem one_r5 (c : Cn) (h : goodC c = true) : oneB (r5 c) = true := by
  obtain ⟨n, k⟩ := c
  unfold goodC at h
  rw [Bool.and_eq_true] at h
  obtain ⟨h1, h2⟩ := h
  have h1' : At.nameB n = true := h1
  cases k with
  | rg lo hi =>
    have h3 : lo ≤ hi := by simpa [goodK] using h2
    have h0 : (⟨#[]⟩ : ByteArray).size = 0 := rfl
    simp [r5, oneB, kN, kLo, kHi, kT, h1', h3, h0]
  | tx t =>
    have h3 : t.size ≤ 12 := by simpa [goodK] using h2
    simp [r5, oneB, kN, kLo, kHi, kT, h1', h3]
  | pr t =>
    have h3 : t.size < 12 := by simpa [goodK] using h2
    have h4 : t.size ≤ 11 := by omega
    simp [r5, oneB, kN, kLo, kHi, kT, h1', h4]
theorem rightP_rise (l : List C5) (h1 : l.Pairwise fun x y => Op.bytesLess x.1.toList y.1.toList = true) (h2 : l.length ≤ 5) (h3 : ∀ c ∈ l, oneB c = true) : rightP l = true := by
  rw [rightP_end l fun j hj => ?_]
  · simpa using h2
  unfold goodP
  rw [List.getElem?_eq_getElem hj]
  simp only [Bool.and_eq_true]
  refine ⟨h3 _ (List.getElem_mem hj), ?_⟩
  cases j with
  | zero => rfl
  | succ j =>
    rw [Bool.or_eq_true]
    right
    rw [Nat.add_sub_cancel, List.getElem?_eq_getElem (by omega)]
    exact List.pairwise_iff_getElem.1 h1 j (j + 1) (by omega) hj (by omega)
theorem prd_right5 (has vals : List Int) : rightP ((prd has vals 7).map r5) = true := by
  have h := prd_nf has vals
  refine rightP_rise _ ?_ (by rw [List.length_map]; exact h.five) fun c hc => ?_
  · rw [List.pairwise_map]
    exact h.rise
  · obtain ⟨x, hx, rfl⟩ := List.mem_map.1 hc
    exact one_r5 x (h.good x hx)
theorem prd_len5 (has vals : List Int) : ((prd has vals 7).map r5).length ≤ 5 := by
  rw [List.length_map]; exact (prd_nf has vals).five
theorem one_size {c : C5} (h : oneB c = true) : c.1.size ≤ 12 ∧ c.2.2.2.2.size ≤ 12 := by
  unfold oneB At.nameB at h
  simp only [Bool.and_eq_true, decide_eq_true_eq] at h
  refine ⟨h.1.2.2, ?_⟩
  have h2 := h.2
  split at h2
  · simp only [Bool.and_eq_true, decide_eq_true_eq] at h2; omega
  · split at h2
    · simp only [Bool.and_eq_true, decide_eq_true_eq] at h2; omega
    · split at h2
      · simp only [Bool.and_eq_true, decide_eq_true_eq] at h2; omega
      · cases h2
theorem tame_right {l : List C5} (h : rightP l = true) : Tame l := fun x hx => by
  unfold rightP at h
  rw [Bool.and_eq_true, List.all_eq_true] at h
  obtain ⟨j, hj, rfl⟩ := List.getElem_of_mem hx
  have h1 := h.1 j (List.mem_range.2 hj)
  unfold goodP at h1
  rw [List.getElem?_eq_getElem hj] at h1
  simp only [Bool.and_eq_true] at h1
  have h2 := one_size h1.1
  have h3 : 12 ≤ maxLen := by decide
  exact ⟨Nat.le_trans h2.1 h3, Nat.le_trans h2.2 h3⟩
end Go.Proofs.YtonoadjmglkhaaaGreat.Av
