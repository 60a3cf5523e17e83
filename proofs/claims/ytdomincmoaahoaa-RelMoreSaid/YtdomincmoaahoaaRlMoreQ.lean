/-
  Plain facts on the law RelMore: names below z, five names from u to y, one constraint more, one attribute more. No program's function in it.
-/
import Derived.Test.YtdomincmoaahoaaRlMoreP
import Derived.Test.YtdomincmoaahoaaRlTup
namespace Go.Proofs.Ytdomincmoaahoaa.Rl
open Go.RowKit Go.Proofs.Ytdomincmoaahoaa Go.Proofs.Ytdomincmoaahoaa.Pu Go.Proofs.Ytdomincmoaahoaa.Pr Go.Proofs.Ytdomincmoaahoaa.Kp

abbrev nZ : ByteArray := ⟨#[122]⟩
abbrev nZZ : ByteArray := ⟨#[122, 122]⟩
/-- One of the names of numbers. -/
def Low (n : ByteArray) : Prop := ∃ i, i < 7 ∧ n = nm i
theorem low_z {n : ByteArray} (h : Low n) : Op.bytesLess n.toList nZ.toList = true ∧ Op.bytesLess n.toList nZZ.toList = true := by
  obtain ⟨i, hi, rfl⟩ := h
  rw [ByteArray.toList_eq, ByteArray.toList_eq, ByteArray.toList_eq]
  match i, hi with
  | 0, _ => exact ⟨by decide, by decide⟩
  | 1, _ => exact ⟨by decide, by decide⟩
  | 2, _ => exact ⟨by decide, by decide⟩
  | 3, _ => exact ⟨by decide, by decide⟩
  | 4, _ => exact ⟨by decide, by decide⟩
  | 5, _ => exact ⟨by decide, by decide⟩
  | 6, _ => exact ⟨by decide, by decide⟩
/-- The five names. -/
def sn (k : Nat) : ByteArray := ⟨#[UInt8.ofNat (117 + k)]⟩
def sixC : Array Value := #[.string ⟨#[117]⟩, .string ⟨#[118]⟩, .string ⟨#[119]⟩, .string ⟨#[120]⟩, .string ⟨#[121]⟩]
theorem sn_at (k : Nat) (h : k < 5) : sixC[k]? = some (.string (sn k)) := by
  match k, h with
  | 0, _ => rfl
  | 1, _ => rfl
  | 2, _ => rfl
  | 3, _ => rfl
  | 4, _ => rfl
def sixL : List Cn := (List.range 5).map fun k => (sn k, .pr ⟨#[]⟩)
theorem six_more (k : Nat) (h : k < 5) : sixL.take (k + 1) = sixL.take k ++ [(sn k, .pr ⟨#[]⟩)] := by
  match k, h with
  | 0, _ => rfl
  | 1, _ => rfl
  | 2, _ => rfl
  | 3, _ => rfl
  | 4, _ => rfl
theorem six_mem {x : Cn} (h : x ∈ sixL) : ∃ k, k < 5 ∧ x = (sn k, .pr ⟨#[]⟩) := by
  obtain ⟨k, hk, rfl⟩ := List.mem_map.1 h
  exact ⟨k, List.mem_range.1 hk, rfl⟩
theorem sn_less (i j : Nat) (h : i < j) (hj : j < 5) : Op.bytesLess (sn i).toList (sn j).toList = true := by
  rw [ByteArray.toList_eq, ByteArray.toList_eq]
  match i, j, h, hj with
  | 0, 1, _, _ => decide
  | 0, 2, _, _ => decide
  | 0, 3, _, _ => decide
  | 0, 4, _, _ => decide
  | 1, 2, _, _ => decide
  | 1, 3, _, _ => decide
  | 1, 4, _, _ => decide
  | 2, 3, _, _ => decide
  | 2, 4, _, _ => decide
  | 3, 4, _, _ => decide
  | i + 4, j, h, hj => exact absurd h (by omega)
theorem sn_good (k : Nat) (h : k < 5) : nameB (sn k) = true := by
  match k, h with
  | 0, _ => decide
  | 1, _ => decide
  | 2, _ => decide
  | 3, _ => decide
  | 4, _ => decide
theorem sn_low {k : Nat} (h : k < 5) {n : ByteArray} (hn : Low n) : sn k ≠ n := by
  obtain ⟨i, hi, rfl⟩ := hn
  intro e
  have e2 := congrArg (fun b : ByteArray => b.data[0]?.map UInt8.toNat) e
  simp [sn, nm] at e2
  omega
theorem nf_six : NF sixL := by
  refine ⟨?_, by decide, fun x hx => ?_, fun x hx => ?_⟩
  · unfold RiseC sixL
    rw [List.pairwise_map]
    exact List.Pairwise.imp_of_mem (fun ha hb h => sn_less _ _ h (List.mem_range.1 hb)) (List.pairwise_lt_range)
  · obtain ⟨k, hk, rfl⟩ := six_mem hx
    simp only [goodC, sn_good k hk, Bool.true_and]
    decide
  · obtain ⟨k, hk, rfl⟩ := six_mem hx
    exact ⟨by show (1 : Nat) ≤ 100; omega, by show (0 : Nat) ≤ 100; omega, ⟨by simp [kLo], by simp [kLo]⟩, ⟨by simp [kHi], by simp [kHi]⟩⟩
theorem meets_sub {a b : List Cn} (ha : RiseC a) (ga : ∀ x ∈ a, goodK x.2 = true) (h5 : a.length ≤ 5) (hs : ∀ y ∈ b, y ∈ a) : Meets a b := by
  refine ⟨fun x hx y hy e hn => ?_, ?_⟩
  · obtain rfl := uniqC ha hx (hs y hy) e
    rw [both_self _ (ga x hx)] at hn
    cases hn
  · have : fresh a b = 0 := by
      unfold fresh
      rw [List.countP_eq_zero]
      intro y hy
      rw [(has_iff a y.1).2 (List.mem_map_of_mem (hs y hy))]
      decide
    omega
theorem nf_take {p : List Cn} (h : NF p) (k : Nat) : NF (p.take k) :=
  ⟨h.rise.sublist (List.take_sublist ..), by have := h.five; rw [List.length_take]; omega, fun x hx => h.good x (List.mem_of_mem_take hx), fun x hx => h.small x (List.mem_of_mem_take hx)⟩
theorem nf_drop {p : List Cn} (h : NF p) (k : Nat) : NF (p.drop k) :=
  ⟨h.rise.sublist (List.drop_sublist ..), by have := h.five; rw [List.length_drop]; omega, fun x hx => h.good x (List.mem_of_mem_drop hx), fun x hx => h.small x (List.mem_of_mem_drop hx)⟩
theorem nl_drop {l : List An} (h : NL l) (k : Nat) : NL (l.drop k) :=
  ⟨h.rise.sublist (List.drop_sublist ..), by have := h.five; rw [List.length_drop]; omega, fun x hx => h.small x (List.mem_of_mem_drop hx)⟩
theorem six_three : meetsB sixL (sixL.take 3) = true := (meetsB_iff nf_six.rise (nf_take nf_six 3).rise nf_six.five).2 (meets_sub nf_six.rise nf_six.goodK nf_six.five fun _ hy => List.mem_of_mem_take hy)
theorem six_meets {p : List Cn} (np : NF p) (hl : ∀ x ∈ p, Low x.1) : meetsB sixL p = ((p.length : Int) == 0) := by
  have h := five_meets (s := sixL) (p := p) rfl fun x hx y hy e => by
    obtain ⟨k, hk, rfl⟩ := six_mem hx
    exact sn_low hk (hl y hy) e
  rw [Bool.eq_iff_iff, meetsB_iff nf_six.rise np.rise nf_six.five, h, beq_iff_eq]
  constructor
  · rintro rfl; rfl
  · intro e
    exact List.eq_nil_of_length_eq_zero (by omega)
theorem nf_z {p : List Cn} (np : NF p) (hl : ∀ x ∈ p, Low x.1) (h4 : p.length ≤ 4) (n : Int) : NF (p ++ [(nZ, kdOf n)]) := by
  refine ⟨List.pairwise_append.2 ⟨np.rise, List.pairwise_singleton _ _, fun x hx y hy => ?_⟩, by simp; omega, fun x hx => ?_, fun x hx => ?_⟩
  · obtain rfl := List.mem_singleton.1 hy
    exact (low_z (hl x hx)).1
  · rcases List.mem_append.1 hx with h | h
    · exact np.good x h
    · obtain rfl := List.mem_singleton.1 h
      simp only [goodC, kdOf_good, Bool.and_true]
      decide
  · rcases List.mem_append.1 hx with h | h
    · exact np.small x h
    · obtain rfl := List.mem_singleton.1 h
      exact ⟨by show (1 : Nat) ≤ 100; omega, kd_small n⟩
theorem nl_z {l : List An} (nl : NL l) (hl : ∀ x ∈ l, Low x.1) (h4 : l.length ≤ 4) : NL (l ++ [(nZZ, false, 1, ⟨#[]⟩)]) := by
  refine ⟨List.pairwise_append.2 ⟨nl.rise, List.pairwise_singleton _ _, fun x hx y hy => ?_⟩, by simp; omega, fun x hx => ?_⟩
  · obtain rfl := List.mem_singleton.1 hy
    exact (low_z (hl x hx)).2
  · rcases List.mem_append.1 hx with h | h
    · exact nl.small x h
    · obtain rfl := List.mem_singleton.1 h
      exact ⟨by show (2 : Nat) ≤ 100; omega, by show (0 : Nat) ≤ 100; omega⟩
theorem z_cover {p : List Cn} (hl : ∀ x ∈ p, Low x.1) (n : Int) : coversL (p ++ [(nZ, kdOf n)]) p = false := not_covers fun x hx => less_ne (low_z (hl x hx)).1
theorem z_match {p : List Cn} {l : List An} (hl : ∀ x ∈ l, Low x.1) (n : Int) : matchL (p ++ [(nZ, kdOf n)]) l = false := not_match fun x hx => less_ne (low_z (hl x hx)).1
theorem z_wide {p : List Cn} {l : List An} (hp : ∀ x ∈ p, Low x.1) : matchL p (l ++ [(nZZ, false, 1, ⟨#[]⟩)]) = matchL p l := match_wide fun x hx e => less_ne (low_z (hp x hx)).2 e.symm
theorem z_meets {p q : List Cn} {c : Cn} (np : NF p) (nq : NF q) (nm_ : NF (p ++ [c])) (h : meetsB (p ++ [c]) q = true) : meetsB p q = true :=
  (meetsB_iff np.rise nq.rise np.five).2 (meets_less np.rise nq.rise (fun _ hx => List.mem_append_left _ hx) ((meetsB_iff nm_.rise nq.rise nm_.five).1 h))
theorem prd_low (has vals : List Int) : ∀ x ∈ prd has vals 7, Low x.1 := fun x hx => prd_names has vals 7 x hx
theorem tup_low (has vals : List Int) : ∀ x ∈ At.tup has vals 7, Low x.1 := fun x hx => At.tup_names has vals 7 x hx
end Go.Proofs.Ytdomincmoaahoaa.Rl
