/-
  What a call of AdvertsPlays leaves: a right broker of three neighbours. No program here.
  Small things for AdvertsPlays. No program's function in it.
-/
import Derived.Test.YtonoadjmglkhaaaGreatU034
import Derived.Test.YtonoadjmglkhaaaGreatU027
import Derived.Test.YtonoadjmglkhaaaGreatU036
namespace Go.Proofs.YtonoadjmglkhaaaGreat.Av
open Go.RowKit Go.Sort Go.Proofs.YtonoadjmglkhaaaGreat Go.Proofs.YtonoadjmglkhaaaGreat.Rw Go.Proofs.YtonoadjmglkhaaaGreat.Nm Go.Proofs.YtonoadjmglkhaaaGreat.Pr Go.Proofs.YtonoadjmglkhaaaGreat.Bk

structure PlayI (b : Br) (n : Nat) : Prop where
  ok : OkBr b
  near : b.near = [1, 2, 3]
  ent : b.ent = []
  own : b.own = []
  sn : b.seen.length ≤ n
  an : b.adv.length ≤ n
  fp : ∀ a ∈ b.adv, a.p.length ≤ 900
theorem play_new : PlayI (newB0 0 [1, 2, 3]) 0 :=
  ⟨⟨by simp, List.Pairwise.nil, List.Pairwise.nil, List.Pairwise.nil, List.Pairwise.nil, fun a h => by simp at h, fun a h => by simp at h, fun a h => by simp at h⟩, rfl, rfl, rfl, Nat.le_refl _, Nat.le_refl _, fun a h => by simp at h⟩
theorem play_learn {b : Br} {n : Nat} (h : PlayI b n) (x : XID) (p : List C5) (par : Int) (hp : par = -1 ∨ par = 1 ∨ par = 2 ∨ par = 3) (hq : Wr.rightP p = true) (hl : p.length ≤ 900) : PlayI (learnB b ⟨x, p, par⟩).1 (n + 1) := by
  have hc : comesB b.near par = true := by
    rw [h.near]
    rcases hp with rfl | rfl | rfl | rfl <;> decide
  have H := learn_ok h.ok ⟨x, p, par⟩ hc hq
  by_cases hin : x ∈ b.seen
  · rw [learnB_in (a := ⟨x, p, par⟩) hin] at H ⊢
    exact ⟨H, h.near, h.ent, h.own, Nat.le_succ_of_le h.sn, Nat.le_succ_of_le h.an, h.fp⟩
  · rw [learnB_out (a := ⟨x, p, par⟩) hin] at H ⊢
    refine ⟨H, h.near, h.ent, h.own, Nat.le_trans (Nat.le_of_eq (insAt_len _ _ _)) (Nat.succ_le_succ h.sn), Nat.le_trans (Nat.le_of_eq (insAt_len _ _ _)) (Nat.succ_le_succ h.an), fun a ha => ?_⟩
    rcases (mem_ins _ _ _ _).1 ha with rfl | ha
    · exact hl
    · exact h.fp a ha
theorem play_forget {b : Br} {n : Nat} (h : PlayI b n) (x : XID) (f : Int) : PlayI (forgetF b x f).1 (n + 1) := by
  have H := forget_ok h.ok x f
  have K : PlayI b (n + 1) := ⟨h.ok, h.near, h.ent, h.own, Nat.le_succ_of_le h.sn, Nat.le_succ_of_le h.an, h.fp⟩
  unfold forgetF at H ⊢
  cases hf : findA b.adv x with
  | none => exact K
  | some a =>
    rw [hf] at H
    by_cases hp : a.par = f
    · simp only [hp, if_true] at H ⊢
      exact ⟨H, h.near, by simp [h.ent], h.own, Nat.le_succ_of_le h.sn, Nat.le_succ_of_le (Nat.le_trans (List.length_filter_le _ _) h.an), fun e he => h.fp e (List.mem_filter.1 he).1⟩
    · simp only [hp, if_false] at H ⊢
      exact K
theorem PlayI.few {b : Br} {n : Nat} (h : PlayI b n) (hn : n ≤ 900) : Few b :=
  ⟨by rw [h.near]; decide, Nat.le_trans h.an hn, Nat.le_trans h.sn hn, by rw [h.ent]; decide, by rw [h.own]; decide⟩
theorem PlayI.fewp {b : Br} {n : Nat} (h : PlayI b n) : FewP b :=
  ⟨h.fp, by rw [h.ent]; simp, by rw [h.own]; simp⟩
theorem PlayI.tame {b : Br} {n : Nat} (h : PlayI b n) : TameB b :=
  ⟨fun a ha => tame_right (h.ok.oks a ha).2.2, by rw [h.ent]; simp, by rw [h.own]; simp⟩
theorem FewP.shr {b : Br} (h : FewP b) : Shr b :=
  ⟨fun k a hk => Nat.le_trans (h.adv a (List.mem_of_getElem? hk)) (by decide), fun k a hk => Nat.le_trans (h.ent a (List.mem_of_getElem? hk)) (by decide), fun k a hk => Nat.le_trans (h.own a (List.mem_of_getElem? hk)) (by decide)⟩
theorem FewP.pa {b : Br} (h : FewP b) : ∀ p, (∃ x ∈ b.adv, x.p = p) ∨ (∃ x ∈ b.ent, x.p = p) ∨ (∃ x ∈ b.own, x.p = p) → p.length ≤ 1000000 := by
  rintro p (⟨x, hx, rfl⟩ | ⟨x, hx, rfl⟩ | ⟨x, hx, rfl⟩)
  · exact Nat.le_trans (h.adv x hx) (by decide)
  · exact Nat.le_trans (h.ent x hx) (by decide)
  · exact Nat.le_trans (h.own x hx) (by decide)
theorem same_self (b : Br) : sameBr b b = true := (sameBr_iff b b).2 rfl
/-- The two ways to find agree. -/
theorem find_both {W : World} {l : List XAd} {al : List Ad} (hA : All2 (AdIn W) l al) (x : XID) :
    (findA al x = none ∧ findI (l.map fun y => (y.1, y.2.1)) x = -1) ∨ ∃ (k : Nat) (y : XAd) (a : Ad), findA al x = some a ∧ findI (l.map fun y => (y.1, y.2.1)) x = k ∧ l[k]? = some y ∧ al[k]? = some a ∧ AdIn W y a ∧ a.id = x := by
  rcases find_or l x with h | ⟨k, y, h1, h2⟩
  · refine Or.inl ⟨findA_none fun j a hj => ?_, h⟩
    obtain ⟨z, hz1, hz2⟩ := hA.at j a hj
    rw [← hz2.1]
    exact findI_neg (key := fun y : XAd => (y.1, y.2.1)) h j z hz1
  · have hk : k < al.length := by rw [← hA.len]; exact (List.getElem?_eq_some_iff.1 h2).1
    obtain ⟨z, hz1, hz2⟩ := hA.at k al[k] (List.getElem?_eq_getElem hk)
    obtain rfl : y = z := Option.some.inj (h2.symm.trans hz1)
    obtain ⟨g1, g2⟩ := findI_get h1
    have hy : (y.1, y.2.1) = x := by
      rw [List.getElem?_map, h2] at g1
      exact Option.some.inj g1
    refine Or.inr ⟨k, y, al[k], findA_at (List.getElem?_eq_getElem hk) (by rw [← hz2.1]; exact hy) (fun j a hj ha => ?_), h1, h2, List.getElem?_eq_getElem hk, hz2, by rw [← hz2.1]; exact hy⟩
    obtain ⟨u, hu1, hu2⟩ := hA.at j a ha
    rw [← hu2.1]
    exact g2 j (u.1, u.2.1) hj (by rw [List.getElem?_map, hu1]; rfl)
end Go.Proofs.YtonoadjmglkhaaaGreat.Av

namespace Go.Proofs.YtonoadjmglkhaaaGreat.Av
open Go.RowKit Go.Sort Go.Proofs.YtonoadjmglkhaaaGreat Go.Proofs.YtonoadjmglkhaaaGreat.Rw Go.Proofs.YtonoadjmglkhaaaGreat.Nm Go.Proofs.YtonoadjmglkhaaaGreat.Pr Go.Proofs.YtonoadjmglkhaaaGreat.Bk

theorem more_one (w : World) (o : Obj) : w.heap.size + 1 = (w.alloc o).heap.size := by simp
theorem learn_me (b : Br) (a : Ad) : (learnB b a).1.me = b.me ∧ (learnB b a).1.near = b.near := by
  unfold learnB
  split <;> exact ⟨rfl, rfl⟩
theorem forgetF_me (b : Br) (x : XID) (f : Int) : (forgetF b x f).1.me = b.me ∧ (forgetF b x f).1.near = b.near := by
  unfold forgetF
  split
  · exact ⟨rfl, rfl⟩
  · split <;> exact ⟨rfl, rfl⟩
end Go.Proofs.YtonoadjmglkhaaaGreat.Av
