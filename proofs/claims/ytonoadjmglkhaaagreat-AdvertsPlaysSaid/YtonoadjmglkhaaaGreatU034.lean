/-
  What a predicate of numbers is; what lists of constraints are small. No program's function in it.
  Predicates of numbers are right. Plain mathematics.
  What a round of AdvertsOnce leaves: a right broker that has seen just what was met. No program here.
-/
import Derived.Test.YtonoadjmglkhaaaGreatU033
import Derived.Test.YtonoadjmglkhaaaGreatU012
import Derived.Test.YtonoadjmglkhaaaGreatU028
import Derived.Test.YtonoadjmglkhaaaGreatU030
import Derived.Test.YtonoadjmglkhaaaGreatU032
namespace Go.Proofs.YtonoadjmglkhaaaGreat.Pr
open Go.RowKit Go.Proofs.YtonoadjmglkhaaaGreat Go.Proofs.YtonoadjmglkhaaaGreat.Pu Go.Proofs.YtonoadjmglkhaaaGreat.Rw Go.Proofs.YtonoadjmglkhaaaGreat.Va Go.Proofs.YtonoadjmglkhaaaGreat.Kp

/-- Sizes that every law keeps to. -/
def smallC (c : Cn) : Prop := c.1.size ≤ 100 ∧ (kT c.2).size ≤ 100 ∧ (-9223372036854775808 ≤ kLo c.2 ∧ kLo c.2 ≤ 9223372036854775807) ∧ (-9223372036854775808 ≤ kHi c.2 ∧ kHi c.2 ≤ 9223372036854775807)
def SmallP (l : List Cn) : Prop := l.length ≤ 100 ∧ ∀ c ∈ l, smallC c
/-- What a right predicate of numbers is. -/
structure NF (l : List Cn) : Prop where
  rise : RiseC l
  five : l.length ≤ 5
  good : ∀ c ∈ l, goodC c = true
  small : ∀ c ∈ l, smallC c
theorem NF.goodK {l : List Cn} (h : NF l) : ∀ c ∈ l, Pr.goodK c.2 = true := fun c hc => by
  have := h.good c hc
  simp only [goodC, Bool.and_eq_true] at this
  exact this.2
theorem NF.names {l : List Cn} (h : NF l) : ∀ c ∈ l, c.1.data.toList.all letB = true := fun c hc => by
  have := h.good c hc
  simp only [goodC, nameB, Bool.and_eq_true] at this
  exact this.1.1
theorem NF.smallP {l : List Cn} (h : NF l) : SmallP l := ⟨by have := h.five; omega, h.small⟩
theorem nameB_nm (i : Nat) (h : i < 7) : nameB (nm i) = true := by
  match i, h with
  | 0, _ => decide
  | 1, _ => decide
  | 2, _ => decide
  | 3, _ => decide
  | 4, _ => decide
  | 5, _ => decide
  | 6, _ => decide
theorem nm_size (i : Nat) : (nm i).size = 1 := rfl
theorem kd_small (n : Int) : (kT (kdOf n)).size ≤ 100 ∧ (-9223372036854775808 ≤ kLo (kdOf n) ∧ kLo (kdOf n) ≤ 9223372036854775807) ∧ (-9223372036854775808 ≤ kHi (kdOf n) ∧ kHi (kdOf n) ≤ 9223372036854775807) := by
  have h1 := Wi.within_bd (n.tdiv 4) 0 9 (by omega)
  have h2 := Wi.within_bd (n.tdiv 40) 0 9 (by omega)
  have ht : (tx6 n).size ≤ 3 := txt_size _
  unfold kdOf lo9
  split
  · refine ⟨by show (0 : Nat) ≤ 100; omega, ?_, ?_⟩ <;> simp only [kLo, kHi] <;> omega
  · split
    · refine ⟨by show (tx6 n).size ≤ 100; omega, ?_, ?_⟩ <;> simp only [kLo, kHi] <;> omega
    · refine ⟨by show (tx6 n).size ≤ 100; omega, ?_, ?_⟩ <;> simp only [kLo, kHi] <;> omega
theorem prd_small (has vals : List Int) : ∀ k, ∀ x ∈ prd has vals k, smallC x
  | 0, x, h => by simp [prd] at h
  | k + 1, x, h => by
    simp only [prd] at h
    split at h
    · rcases List.mem_append.1 h with h | h
      · exact prd_small has vals k x h
      · simp at h
        rw [h]
        exact ⟨by show (nm k).size ≤ 100; rw [nm_size]; omega, kd_small _⟩
    · exact prd_small has vals k x h
theorem prd_nf (has vals : List Int) : NF (prd has vals 7) :=
  ⟨prd_rise has vals 7 (Nat.le_refl _), prd_five has vals 7, fun c hc => by
    obtain ⟨i, h1, h2⟩ := prd_names has vals 7 c hc
    simp only [goodC, Bool.and_eq_true]
    exact ⟨by rw [h2]; exact nameB_nm i h1, prd_good has vals 7 c hc⟩, prd_small has vals 7⟩
theorem r5_inj {a b : Cn} (h : r5 a = r5 b) : a = b := by
  obtain ⟨n, a⟩ := a
  obtain ⟨m, b⟩ := b
  simp only [r5, Prod.mk.injEq] at h
  obtain ⟨rfl, h1, h2, h3, h4⟩ := h
  cases a <;> cases b <;> simp [kN, kLo, kHi, kT] at h1 h2 h3 h4 <;> simp [*]
theorem map_r5_inj : ∀ {l m : List Cn}, l.map r5 = m.map r5 → l = m
  | [], [], _ => rfl
  | [], y :: m, h => by simp at h
  | x :: l, [], h => by simp at h
  | x :: l, y :: m, h => by
    simp only [List.map_cons, List.cons.injEq] at h
    rw [r5_inj h.1, map_r5_inj h.2]
end Go.Proofs.YtonoadjmglkhaaaGreat.Pr

namespace Go.Proofs.YtonoadjmglkhaaaGreat.Av
open Go.RowKit Go.Proofs.YtonoadjmglkhaaaGreat Go.Proofs.YtonoadjmglkhaaaGreat.Rw Go.Proofs.YtonoadjmglkhaaaGreat.Nm Go.Proofs.YtonoadjmglkhaaaGreat.Pr Go.Proofs.YtonoadjmglkhaaaGreat.Wr

theorem name_pu (s : ByteArray) : At.nameB s = Pu.nameB s := rfl
theorem one_r5 (c : Cn) (h : goodC c = true) : oneB (r5 c) = true := by
  obtain ⟨n, k⟩ := c
  unfold goodC at h
  rw [Bool.and_eq_true] at h
  obtain ⟨h1, h2⟩ := h
  have h1' : At.nameB n = true := h1
  cases k with
  | rg lo hi =>
    have h3 : lo ≤ hi := by simpa [goodK] using h2
    have h0 : (⟨#[]⟩ : ByteArray).size = 0 := rfl
    simp [r5, oneB, kN, kLo, kHi, kT, h1', h3, h0]
  | tx t =>
    have h3 : t.size ≤ 12 := by simpa [goodK] using h2
    simp [r5, oneB, kN, kLo, kHi, kT, h1', h3]
  | pr t =>
    have h3 : t.size < 12 := by simpa [goodK] using h2
    have h4 : t.size ≤ 11 := by omega
    simp [r5, oneB, kN, kLo, kHi, kT, h1', h4]
theorem rightP_rise (l : List C5) (h1 : l.Pairwise fun x y => Op.bytesLess x.1.toList y.1.toList = true) (h2 : l.length ≤ 5) (h3 : ∀ c ∈ l, oneB c = true) : rightP l = true := by
  rw [rightP_end l fun j hj => ?_]
  · simpa using h2
  unfold goodP
  rw [List.getElem?_eq_getElem hj]
  simp only [Bool.and_eq_true]
  refine ⟨h3 _ (List.getElem_mem hj), ?_⟩
  cases j with
  | zero => rfl
  | succ j =>
    rw [Bool.or_eq_true]
    right
    rw [Nat.add_sub_cancel, List.getElem?_eq_getElem (by omega)]
    exact List.pairwise_iff_getElem.1 h1 j (j + 1) (by omega) hj (by omega)
theorem prd_right5 (has vals : List Int) : rightP ((prd has vals 7).map r5) = true := by
  have h := prd_nf has vals
  refine rightP_rise _ ?_ (by rw [List.length_map]; exact h.five) fun c hc => ?_
  · rw [List.pairwise_map]
    exact h.rise
  · obtain ⟨x, hx, rfl⟩ := List.mem_map.1 hc
    exact one_r5 x (h.good x hx)
theorem prd_len5 (has vals : List Int) : ((prd has vals 7).map r5).length ≤ 5 := by
  rw [List.length_map]; exact (prd_nf has vals).five
theorem one_size {c : C5} (h : oneB c = true) : c.1.size ≤ 12 ∧ c.2.2.2.2.size ≤ 12 := by
  unfold oneB At.nameB at h
  simp only [Bool.and_eq_true, decide_eq_true_eq] at h
  refine ⟨h.1.2.2, ?_⟩
  have h2 := h.2
  split at h2
  · simp only [Bool.and_eq_true, decide_eq_true_eq] at h2; omega
  · split at h2
    · simp only [Bool.and_eq_true, decide_eq_true_eq] at h2; omega
    · split at h2
      · simp only [Bool.and_eq_true, decide_eq_true_eq] at h2; omega
      · cases h2
theorem tame_right {l : List C5} (h : rightP l = true) : Tame l := fun x hx => by
  unfold rightP at h
  rw [Bool.and_eq_true, List.all_eq_true] at h
  obtain ⟨j, hj, rfl⟩ := List.getElem_of_mem hx
  have h1 := h.1 j (List.mem_range.2 hj)
  unfold goodP at h1
  rw [List.getElem?_eq_getElem hj] at h1
  simp only [Bool.and_eq_true] at h1
  have h2 := one_size h1.1
  have h3 : 12 ≤ maxLen := by decide
  exact ⟨Nat.le_trans h2.1 h3, Nat.le_trans h2.2 h3⟩
end Go.Proofs.YtonoadjmglkhaaaGreat.Av

namespace Go.Proofs.YtonoadjmglkhaaaGreat.Av
open Go.RowKit Go.Sort Go.Proofs.YtonoadjmglkhaaaGreat Go.Proofs.YtonoadjmglkhaaaGreat.Rw Go.Proofs.YtonoadjmglkhaaaGreat.Nm Go.Proofs.YtonoadjmglkhaaaGreat.Pr Go.Proofs.YtonoadjmglkhaaaGreat.Bk

structure OnceI (b : Br) (s : List XID) (n : Nat) : Prop where
  ok : OkBr b
  near : b.near = [1, 2]
  ent : b.ent = []
  own : b.own = []
  mem : ∀ l, l ∈ s ↔ l ∈ b.seen
  len : s.length = b.seen.length
  sn : b.seen.length ≤ n
  an : b.adv.length ≤ n
  fp : ∀ a ∈ b.adv, a.p.length ≤ 900
theorem once_new : OnceI (newB0 5 [1, 2]) [] 0 :=
  ⟨⟨by simp, List.Pairwise.nil, List.Pairwise.nil, List.Pairwise.nil, List.Pairwise.nil, fun a h => by simp at h, fun a h => by simp at h, fun a h => by simp at h⟩, rfl, rfl, rfl, fun l => by simp, rfl, Nat.le_refl _, Nat.le_refl _, fun a h => by simp at h⟩
theorem insAt_len {α : Type} (l : List α) (k : Nat) (x : α) : (insAt l k x).length = l.length + 1 := by
  unfold insAt
  simp only [List.length_append, List.length_cons, List.length_nil, List.length_take, List.length_drop]
  omega
theorem once_learn {b : Br} {s : List XID} {n : Nat} (h : OnceI b s n) (x : XID) (p : List C5) (par : Int) (hp : par = 1 ∨ par = 2) (hq : Wr.rightP p = true) (hl : p.length ≤ 900) :
    OnceI (learnB b ⟨x, p, par⟩).1 (putS s x) (n + 1) ∧ (learnB b ⟨x, p, par⟩).2 = !decide (x ∈ s) ∧ x ∈ (learnB b ⟨x, p, par⟩).1.seen := by
  have hc : comesB b.near par = true := by
    rw [h.near]
    rcases hp with rfl | rfl <;> decide
  have H := learn_ok h.ok ⟨x, p, par⟩ hc hq
  by_cases hin : x ∈ b.seen
  · rw [learnB_in (a := ⟨x, p, par⟩) hin] at H ⊢
    have hs : x ∈ s := (h.mem x).2 hin
    refine ⟨⟨H, h.near, h.ent, h.own, fun l => ?_, ?_, Nat.le_succ_of_le h.sn, Nat.le_succ_of_le h.an, h.fp⟩, by simp [hs], hin⟩
    · rw [putS, if_pos hs]; exact h.mem l
    · rw [putS, if_pos hs]; exact h.len
  · rw [learnB_out (a := ⟨x, p, par⟩) hin] at H ⊢
    have hs : x ∉ s := fun q => hin ((h.mem x).1 q)
    refine ⟨⟨H, h.near, h.ent, h.own, fun l => ?_, ?_, ?_, ?_, fun a ha => ?_⟩, by simp [hs], (mem_ins _ _ _ _).2 (Or.inl rfl)⟩
    · rw [putS, if_neg hs, List.mem_append, List.mem_singleton, h.mem l]
      exact ⟨fun q => (mem_ins _ _ _ _).2 q.symm, fun q => ((mem_ins _ _ _ _).1 q).symm⟩
    · rw [putS, if_neg hs, List.length_append, h.len]
      show _ = (insAt _ _ _).length
      rw [insAt_len]
      rfl
    · exact Nat.le_trans (Nat.le_of_eq (insAt_len _ _ _)) (Nat.succ_le_succ h.sn)
    · exact Nat.le_trans (Nat.le_of_eq (insAt_len _ _ _)) (Nat.succ_le_succ h.an)
    · rcases (mem_ins _ _ _ _).1 ha with rfl | ha
      · exact hl
      · exact h.fp a ha
theorem once_forget {b : Br} {s : List XID} {n : Nat} (h : OnceI b s n) (x : XID) {a : Ad} (ha : findA b.adv x = some a) :
    OnceI (forgetF b x a.par).1 s n ∧ (forgetF b x a.par).2 = true ∧ findA (forgetF b x a.par).1.adv x = none ∧ (forgetF b x a.par).1.seen = b.seen := by
  have H := forget_ok h.ok x a.par
  have hf : forgetF b x a.par = ({ b with adv := b.adv.filter fun e => decide (e.id ≠ x), ent := b.ent.filter fun e => decide (e.tree ≠ x) }, true) := by
    unfold forgetF
    rw [ha]
    exact if_pos rfl
  rw [hf] at H ⊢
  refine ⟨⟨H, h.near, by simp [h.ent], h.own, h.mem, h.len, h.sn, Nat.le_trans (List.length_filter_le _ _) h.an, fun e he => h.fp e (List.mem_filter.1 he).1⟩, rfl, ?_, rfl⟩
  cases hg : findA (b.adv.filter fun e => decide (e.id ≠ x)) x with
  | none => rfl
  | some z =>
    obtain ⟨z1, z2⟩ := findA_some hg
    exact absurd z2 (of_decide_eq_true (List.mem_filter.1 z1).2)
theorem OnceI.few {b : Br} {s : List XID} {n : Nat} (h : OnceI b s n) (hn : n ≤ 900) : Few b :=
  ⟨by rw [h.near]; decide, Nat.le_trans h.an hn, Nat.le_trans h.sn hn, by rw [h.ent]; decide, by rw [h.own]; decide⟩
theorem OnceI.fewp {b : Br} {s : List XID} {n : Nat} (h : OnceI b s n) : FewP b :=
  ⟨h.fp, by rw [h.ent]; simp, by rw [h.own]; simp⟩
theorem OnceI.tame {b : Br} {s : List XID} {n : Nat} (h : OnceI b s n) : TameB b :=
  ⟨fun a ha => tame_right (h.ok.oks a ha).2.2, by rw [h.ent]; simp, by rw [h.own]; simp⟩
end Go.Proofs.YtonoadjmglkhaaaGreat.Av
