/-
  Plain facts on one constraint held against another by both of them, on samples, and on what is kept when two predicates are put together. No program in it.
  The contracts wanted of package rel.
  The predicates of numbers in a region that draws. Condition: lists no longer than a machine holds.
-/
import Derived.Test.YtdomincmoaahoaaBa
import Derived.Test.YtdomincmoaahoaaBd
import Derived.Test.YtdomincmoaahoaaBe
import Derived.Test.YtdomincmoaahoaaBb
import Derived.Deep.RegionLaw
import Derived.Deep.Cut
import Derived.Deep.CutBlock
namespace Go.Proofs.Ytdomincmoaahoaa.Rl
open Go.RowKit Go.Proofs.Ytdomincmoaahoaa Go.Proofs.Ytdomincmoaahoaa.Pu Go.Proofs.Ytdomincmoaahoaa.Pr

/-- The constraint of that name. -/
def ofC (p : List Cn) (n : ByteArray) : Option Cn := p.find? fun c => decide (c.1 = n)
theorem of_mem {p : List Cn} {n : ByteArray} {y : Cn} (h : ofC p n = some y) : y ∈ p ∧ y.1 = n := ⟨List.mem_of_find?_eq_some h, by simpa using List.find?_some h⟩
theorem of_at {p : List Cn} {n : ByteArray} {k : Nat} {y : Cn} (hk : p[k]? = some y) (he : y.1 = n) (hn : ∀ (j : Nat) (z : Cn), j < k → p[j]? = some z → z.1 ≠ n) : ofC p n = some y := by
  unfold ofC
  rw [List.find?_eq_some_iff_getElem]
  obtain ⟨hlt, hy⟩ := List.getElem?_eq_some_iff.1 hk
  refine ⟨by simpa using he, k, hlt, hy, fun j hj => ?_⟩
  have := hn j p[j] hj (List.getElem?_eq_getElem (by omega))
  simpa using this
theorem of_none {p : List Cn} {n : ByteArray} (hn : ∀ (j : Nat) (z : Cn), j < p.length → p[j]? = some z → z.1 ≠ n) : ofC p n = none := by
  unfold ofC
  rw [List.find?_eq_none]
  intro x hx
  obtain ⟨j, hj, e⟩ := List.getElem_of_mem hx
  have := hn j x hj (by rw [List.getElem?_eq_getElem hj, e])
  simpa using this
def covO (b : List Cn) (x : Cn) : Bool := match ofC b x.1 with
  | some y => impliesK y.2 x.2
  | none => false
/-- Covers, name by name. -/
theorem covers_of {a b : List Cn} (hb : RiseC b) : coversL a b = a.all (covO b) := by
  unfold coversL
  congr 1
  funext x
  unfold covO
  cases hf : ofC b x.1 with
  | none =>
    rw [List.any_eq_false]
    intro y hy
    have := List.find?_eq_none.1 hf y hy
    simp only [decide_eq_true_eq] at this
    simp [this]
  | some y =>
    obtain ⟨h1, h2⟩ := of_mem hf
    rw [Bool.eq_iff_iff, List.any_eq_true]
    constructor
    · rintro ⟨z, hz, h3⟩
      simp only [Bool.and_eq_true, decide_eq_true_eq] at h3
      rw [uniqC hb h1 hz (h2.trans h3.1.symm)]
      exact h3.2
    · intro h3
      exact ⟨y, h1, by simp [h2, h3]⟩
/-- The one is wider where both of them are the other. -/
theorem wider_some {n : ByteArray} {c d k : Kd} (hc : goodK c = true) (hd : goodK d = true) (h : bothK c d = some k) : eqlC (r5 (n, k)) (r5 (n, d)) = impliesK d c := by
  obtain ⟨k1, k2⟩ := both_some c d k hc hd h
  rw [Bool.eq_iff_iff, eqlC_iff]
  constructor
  · intro e
    have e2 := r5_inj e
    obtain rfl : k = d := congrArg Prod.snd e2
    exact holds_implies k c hd fun v hv => by rw [k2, Bool.and_eq_true] at hv; exact hv.1
  · intro hi
    have : k = d := same_holds k d k1 hd fun v => by
      rw [k2, Bool.eq_iff_iff, Bool.and_eq_true]
      exact ⟨fun h => h.2, fun h => ⟨implies_holds d c hi v h, h⟩⟩
    rw [this]
theorem wider_none {c d : Kd} (hd : goodK d = true) (h : bothK c d = none) : impliesK d c = false := by
  rw [Bool.eq_false_iff]
  intro hi
  obtain ⟨v, hv⟩ := some_holds d hd
  have := both_none c d h v
  rw [hv, implies_holds d c hi v hv] at this
  cases this

/-! ### samples -/
def oneK : Kd → V3
  | .rg lo _ => (false, lo, ⟨#[]⟩)
  | .tx t => (true, 0, t)
  | .pr t => (true, 0, t)
def oneA (c : Cn) : An := (c.1, oneK c.2)
theorem one_holds (k : Kd) (h : goodK k = true) : holdsK k (oneK k) = true := by
  cases k with
  | rg lo hi =>
    simp only [goodK, decide_eq_true_eq] at h
    simp [oneK, holdsK, h]
  | tx t => simp [oneK, holdsK]
  | pr t => simp only [oneK, holdsK, Bool.true_and]; exact pfx_self t
theorem sample_match {p : List Cn} (h : ∀ c ∈ p, goodK c.2 = true) : matchL p (p.map oneA) = true :=
  (match_iff _ _).2 fun c hc => ⟨oneA c, List.mem_map_of_mem hc, rfl, one_holds _ (h c hc)⟩
theorem sample_nl {p : List Cn} (h : NF p) : NL (p.map oneA) := by
  refine ⟨?_, by rw [List.length_map]; exact h.five, fun x hx => ?_⟩
  · rw [List.pairwise_map]
    exact h.rise
  · obtain ⟨c, hc, rfl⟩ := List.mem_map.1 hx
    obtain ⟨n, k⟩ := c
    have hs := h.small _ hc
    refine ⟨hs.1, ?_⟩
    cases k with
    | rg lo hi => show (0 : Nat) ≤ 100; omega
    | tx t => exact hs.2.1
    | pr t => exact hs.2.1
theorem at_name (s : ByteArray) : At.nameB s = nameB s := rfl
theorem rightT_nl {l : List An} (h : NL l) (hf : ∀ x ∈ l, nameB x.1 = true ∧ Va.rightV x.2.1 x.2.2.1 x.2.2.2 = true) : At.rightT l = true := by
  rw [At.rightT_end l (fun j hj => ?_)]
  · simpa using h.five
  · have hx := hf l[j] (List.getElem_mem hj)
    unfold At.goodB
    rw [List.getElem?_eq_getElem hj]
    simp only [at_name, hx.1, hx.2, Bool.true_and, Bool.or_eq_true, beq_iff_eq]
    rcases Nat.eq_zero_or_pos j with h0 | h0
    · exact Or.inl h0
    · refine Or.inr ?_
      rw [List.getElem?_eq_getElem (by omega)]
      exact List.pairwise_iff_getElem.1 h.rise (j - 1) j (by omega) hj (by omega)
theorem one_right (k : Kd) (h : goodK k = true) : Va.rightV (oneK k).1 (oneK k).2.1 (oneK k).2.2 = true := by
  cases k with
  | rg lo hi => rw [show oneK (.rg lo hi) = (false, lo, ⟨#[]⟩) from rfl]; simp [Va.rightV]
  | tx t =>
    simp only [goodK, decide_eq_true_eq] at h
    simp [oneK, Va.rightV, h]
  | pr t =>
    simp only [goodK, decide_eq_true_eq] at h
    simp [oneK, Va.rightV, show t.size ≤ 12 by omega]
theorem sample_right {p : List Cn} (h : NF p) : At.rightT (p.map oneA) = true := by
  refine rightT_nl (sample_nl h) fun x hx => ?_
  obtain ⟨c, hc, rfl⟩ := List.mem_map.1 hx
  have hg := h.good c hc
  simp only [goodC, Bool.and_eq_true] at hg
  exact ⟨hg.1, one_right _ hg.2⟩

/-! ### both together -/
theorem ins_all (P : Cn → Prop) (hP : ∀ n a b k, P (n, a) → P (n, b) → bothK a b = some k → P (n, k)) : ∀ (m : List Cn) (c : Cn) (m' : List Cn), (∀ x ∈ m, P x) → P c → insC m c = some m' → ∀ x ∈ m', P x
  | [], c, m', _, hc, h => by
    obtain rfl := Option.some.inj h
    intro x hx
    obtain rfl := List.mem_singleton.1 hx
    exact hc
  | x :: r, c, m', hm, hc, h => by
    simp only [insC] at h
    split at h
    · cases hi : insC r c with
      | none => rw [hi] at h; cases h
      | some n =>
        rw [hi] at h
        obtain rfl := Option.some.inj h
        intro y hy
        rcases List.mem_cons.1 hy with rfl | hy
        · exact hm y (List.mem_cons_self ..)
        · exact ins_all P hP r c n (fun z hz => hm z (List.mem_cons_of_mem _ hz)) hc hi y hy
    · split at h
      · rename_i he
        cases hb : bothK x.2 c.2 with
        | none => rw [hb] at h; cases h
        | some k =>
          rw [hb] at h
          obtain rfl := Option.some.inj h
          intro y hy
          rcases List.mem_cons.1 hy with rfl | hy
          · have h1 := hm x (List.mem_cons_self ..)
            obtain ⟨xn, xk⟩ := x
            obtain ⟨cn, ck⟩ := c
            obtain rfl : xn = cn := he
            exact hP _ _ _ _ h1 hc hb
          · exact hm y (List.mem_cons_of_mem _ hy)
      · obtain rfl := Option.some.inj h
        intro y hy
        rcases List.mem_cons.1 hy with rfl | hy
        · exact hc
        · exact hm y hy
theorem foldC_all (P : Cn → Prop) (hP : ∀ n a b k, P (n, a) → P (n, b) → bothK a b = some k → P (n, k)) : ∀ (r m : List Cn) (at_ : Nat) (p : List Cn), (∀ x ∈ m, P x) → (∀ x ∈ r, P x) → foldC at_ m r = .ok p → ∀ x ∈ p, P x
  | [], m, at_, p, hm, _, h => by
    simp only [foldC] at h
    injection h with h
    subst h
    exact hm
  | c :: r, m, at_, p, hm, hr, h => by
    simp only [foldC] at h
    cases hi : insC m c with
    | none => rw [hi] at h; cases h
    | some n =>
      rw [hi] at h
      simp only at h
      split at h
      · cases h
      · exact foldC_all P hP r n (at_ + 1) p (ins_all P hP m c n hm (hr c (List.mem_cons_self ..)) hi) (fun y hy => hr y (List.mem_cons_of_mem _ hy)) h
theorem foldR_all (P : Cn → Prop) (hP : ∀ n a b k, P (n, a) → P (n, b) → bothK a b = some k → P (n, k)) : ∀ (r m p : List Cn), (∀ x ∈ m, P x) → (∀ x ∈ r, P x) → foldR m r = some p → ∀ x ∈ p, P x
  | [], m, p, hm, _, h => by
    obtain rfl := Option.some.inj h
    exact hm
  | c :: r, m, p, hm, hr, h => by
    simp only [foldR] at h
    cases hi : insC m c with
    | none => rw [hi] at h; cases h
    | some n =>
      rw [hi] at h
      exact foldR_all P hP r n p (ins_all P hP m c n hm (hr c (List.mem_cons_self ..)) hi) (fun y hy => hr y (List.mem_cons_of_mem _ hy)) h
def okP (c : Cn) : Prop := goodC c = true ∧ smallC c
theorem okP_both (n : ByteArray) (a b k : Kd) (ha : okP (n, a)) (hb : okP (n, b)) (h : bothK a b = some k) : okP (n, k) := by
  obtain ⟨a1, a2⟩ := ha
  obtain ⟨b1, b2⟩ := hb
  simp only [goodC, Bool.and_eq_true] at a1 b1
  have hk := (both_some a b k a1.2 b1.2 h).1
  refine ⟨by simp only [goodC, Bool.and_eq_true]; exact ⟨a1.1, hk⟩, ?_⟩
  cases a <;> cases b <;> simp only [bothK] at h
  · split at h
    · obtain rfl := Option.some.inj h
      obtain ⟨p1, p2, p3, p4⟩ := a2
      obtain ⟨q1, q2, q3, q4⟩ := b2
      simp only [kLo, kHi] at p3 p4 q3 q4
      refine ⟨p1, by show (0 : Nat) ≤ 100; omega, ?_, ?_⟩ <;> simp only [kLo, kHi] <;> omega
    · cases h
  · cases h
  · cases h
  · cases h
  · split at h
    · obtain rfl := Option.some.inj h; exact a2
    · cases h
  · split at h
    · obtain rfl := Option.some.inj h; exact a2
    · cases h
  · cases h
  · split at h
    · obtain rfl := Option.some.inj h; exact b2
    · cases h
  · split at h
    · obtain rfl := Option.some.inj h; exact b2
    · split at h
      · obtain rfl := Option.some.inj h; exact a2
      · cases h
theorem nf_ok {p : List Cn} (h : NF p) : ∀ c ∈ p, okP c := fun c hc => ⟨h.good c hc, h.small c hc⟩
theorem nf_of {p : List Cn} (hr : RiseC p) (h5 : p.length ≤ 5) (h : ∀ c ∈ p, okP c) : NF p := ⟨hr, h5, fun c hc => (h c hc).1, fun c hc => (h c hc).2⟩
/-- Both together in normal form. -/
theorem nf_joint {a b p : List Cn} (ha : NF a) (hb : NF b) (h : foldC a.length a b = .ok p) : NF p := by
  obtain ⟨h1, h2⟩ := fold_rise b a a.length p ha.rise ha.five h
  exact nf_of h1 h2 (foldC_all okP okP_both b a a.length p (nf_ok ha) (nf_ok hb) h)
/-- What matches both in one matches each. -/
theorem joint_match {a b p : List Cn} {l : List An} (ha : NF a) (hb : NF b) (h : foldC a.length a b = .ok p) (hl : (l.map (·.1)).Nodup) (hm : matchL p l = true) : matchL a l = true ∧ matchL b l = true := by
  have e := (fold_match hl b a a.length p ha.goodK hb.goodK h).1
  rw [hm] at e
  simpa using e.symm
end Go.Proofs.Ytdomincmoaahoaa.Rl

namespace Go.Proofs.Ytdomincmoaahoaa.Rl
open Go.RowKit Go.Proofs.Ytdomincmoaahoaa Go.Proofs.Ytdomincmoaahoaa.Pu Go.Proofs.Ytdomincmoaahoaa.Rw Go.Proofs.Ytdomincmoaahoaa.Pr

def MatchOk (G : World → Prop) : Prop := ∀ (pv lv : Value) (p : List Cn) (l : List An) (w : World), G w → RowC w pv (p.map r5) → RowL w lv l → NF p → NL l → Calls Try.prog 14 #[pv, lv] w fun e w' => e = .returned (.bool (matchL p l)) ∧ Below w.heap.size w w'
def MeetsOk (G : World → Prop) : Prop := ∀ (av bv : Value) (a b : List Cn) (w : World), G w → RowC w av (a.map r5) → RowC w bv (b.map r5) → NF a → NF b → Calls Try.prog 10 #[av, bv] w fun e w' => e = .returned (.bool (meetsB a b)) ∧ Below w.heap.size w w'
def CoversOk (G : World → Prop) : Prop := ∀ (av bv : Value) (a b : List Cn) (w : World), G w → RowC w av (a.map r5) → RowC w bv (b.map r5) → NF a → NF b → Calls Try.prog 11 #[av, bv] w fun e w' => e = .returned (.bool (coversL a b)) ∧ Below w.heap.size w w'
def SampleQ (a : List Cn) (w : World) (e : Ending) (w' : World) : Prop := ∃ lv s, e = .returned lv ∧ RowL w' lv s ∧ NL s ∧ At.rightT s = true ∧ matchL a s = true ∧ s.length = a.length ∧ Below w.heap.size w w'
def SampleOk (G : World → Prop) : Prop := ∀ (av : Value) (a : List Cn) (w : World), G w → RowC w av (a.map r5) → NF a → Calls Try.prog 18 #[av] w (SampleQ a w)
def JointQ (a b : List Cn) (w : World) (e : Ending) (w' : World) : Prop := ∃ lv j, e = .returned (.tuple #[lv, .bool (meetsB a b)]) ∧ RowL w' lv j ∧ (meetsB a b = false → j = []) ∧ (meetsB a b = true → NL j ∧ At.rightT j = true ∧ matchL a j = true ∧ matchL b j = true) ∧ Below w.heap.size w w'
def JointOk (G : World → Prop) : Prop := ∀ (av bv : Value) (a b : List Cn) (w : World), G w → RowC w av (a.map r5) → RowC w bv (b.map r5) → NF a → NF b → Calls Try.prog 19 #[av, bv] w (JointQ a b w)
structure ROks (G : World → Prop) : Prop where
  bel : ∀ w w', G w → Below w.heap.size w w' → G w'
  match_ : MatchOk G
  meets : MeetsOk G
  covers : CoversOk G
  sample : SampleOk G
  joint : JointOk G
end Go.Proofs.Ytdomincmoaahoaa.Rl

namespace Go.Proofs.Ytdomincmoaahoaa.Pr
open Go.RowKit Go.Proofs.Ytdomincmoaahoaa Go.Proofs.Ytdomincmoaahoaa.Pu Go.Proofs.Ytdomincmoaahoaa.Rw Go.Proofs.Ytdomincmoaahoaa.Va Go.Proofs.Ytdomincmoaahoaa.Kp Go.Proofs.Ytdomincmoaahoaa.In

theorem call_make (v : Value) (w : World) : (callFunc 41 #[v]).run Try.prog w = .ok (.enter 41 #[v]) w := call_fn Try.func41 (by kernel_rfl) rfl _ _
theorem call_pred (v : Value) (w : World) : (callFunc 12 #[v]).run Try.prog w = .ok (.enter 12 #[v]) w := call_fn Try.func12 (by kernel_rfl) rfl _ _
theorem pred_row (hv vv : Value) (has vals : List Int) (W w : World) (hw : Below W.heap.size W w) (hh : InInts W hv has) (hw2 : InInts W vv vals) (lh : has.length ≤ maxLen) (lv : vals.length ≤ maxLen) :
    Calls Try.prog 12 #[.agg #[hv, vv]] w fun e w' => ∃ v, e = .returned v ∧ RowC w' v ((prd has vals 7).map r5) ∧ Below w.heap.size w w' :=
  (pred_any hv vv has vals w (hh.on hw) (hw2.on hw) lh lv).mono (fun _ _ ⟨v, h1, h2, h3⟩ => ⟨v, h1, Row.of_own h2, h3⟩)
theorem load_runP (w : World) (b : Nat) (x y : Value) (h0 : w.cell? ⟨b, 0, none⟩ = some x) (h1 : w.cell? ⟨b, 1, none⟩ = some y) : (Instr.loadAt 29 (.pointer (some ⟨b, 0, none⟩))).run Try.prog w = .ok (.agg #[x, y]) w := by
  simp [go_sem, h0, h1]
end Go.Proofs.Ytdomincmoaahoaa.Pr
