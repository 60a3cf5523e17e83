/-
  The law TuplePuts: the loop that makes another order. Condition: the contracts of package tuple; numbers of 64 bits; lists no longer than a machine holds.
-/
import Derived.Test.YtpmhnmdienlgoaaDoorAtSay
import Derived.Test.YtpmhnmdienlgoaaDoorAtGets
import Derived.Test.YtpmhnmdienlgoaaDoorAtRot
import Derived.Test.YtpmhnmdienlgoaaDoorAtIntact
import Derived.Test.YtpmhnmdienlgoaaDoorAtPutsA
import Derived.Test.YtpmhnmdienlgoaaDoorWi
import Derived.Deep.Cut
import Derived.Deep.CutBlock
namespace Go.Proofs.YtpmhnmdienlgoaaDoor.At
open Go.RowKit Go.Sort Go.Proofs.YtpmhnmdienlgoaaDoor.Va Go.Proofs.YtpmhnmdienlgoaaDoor.In Go.Proofs.YtpmhnmdienlgoaaDoor.Rg

open Go.Proofs.YtpmhnmdienlgoaaDoor.Wi
theorem get_evalA {tmps : Array Value} {j : Nat} (h : j < tmps.size) : tmps[j]? = some ((⟨tmps, []⟩ : Act).eval (.tmp j)) := by
  simp [Act.eval, Array.getD, h]
set_option maxHeartbeats 1000000 in
theorem puts_frame {a : Act} {base : Array Value} (df : a.defers = []) (sz : a.tmps.size = 142) (hb : base.size = 142) (kp : ∀ j, j ≠ 11 → (j < 48 ∨ 63 < j) → a.tmps[j]? = base[j]?) :
    ∃ u11 u48 u49 u50 u51 u52 u53 u54 u55 u56 u57 u58 u59 u60 u61 u62 u63 : Value, a.eval (.tmp 11) = u11 ∧ a = ⟨(((((((((((((((((base.setIfInBounds 11 u11).setIfInBounds 48 u48).setIfInBounds 49 u49).setIfInBounds 50 u50).setIfInBounds 51 u51).setIfInBounds 52 u52).setIfInBounds 53 u53).setIfInBounds 54 u54).setIfInBounds 55 u55).setIfInBounds 56 u56).setIfInBounds 57 u57).setIfInBounds 58 u58).setIfInBounds 59 u59).setIfInBounds 60 u60).setIfInBounds 61 u61).setIfInBounds 62 u62).setIfInBounds 63 u63), []⟩ := by
  obtain ⟨tmps, defers⟩ := a
  have hd : defers = [] := df
  have hs : tmps.size = 142 := sz
  subst hd
  refine ⟨(⟨tmps, []⟩ : Act).eval (.tmp 11), (⟨tmps, []⟩ : Act).eval (.tmp 48), (⟨tmps, []⟩ : Act).eval (.tmp 49), (⟨tmps, []⟩ : Act).eval (.tmp 50), (⟨tmps, []⟩ : Act).eval (.tmp 51), (⟨tmps, []⟩ : Act).eval (.tmp 52), (⟨tmps, []⟩ : Act).eval (.tmp 53), (⟨tmps, []⟩ : Act).eval (.tmp 54), (⟨tmps, []⟩ : Act).eval (.tmp 55), (⟨tmps, []⟩ : Act).eval (.tmp 56), (⟨tmps, []⟩ : Act).eval (.tmp 57), (⟨tmps, []⟩ : Act).eval (.tmp 58), (⟨tmps, []⟩ : Act).eval (.tmp 59), (⟨tmps, []⟩ : Act).eval (.tmp 60), (⟨tmps, []⟩ : Act).eval (.tmp 61), (⟨tmps, []⟩ : Act).eval (.tmp 62), (⟨tmps, []⟩ : Act).eval (.tmp 63), rfl, ?_⟩
  refine congrArg (fun x => (⟨x, []⟩ : Act)) ?_
  apply Array.ext_getElem?
  intro j
  have kj : j ≠ 11 → (j < 48 ∨ 63 < j) → tmps[j]? = base[j]? := kp j
  simp only [Array.getElem?_setIfInBounds, Array.size_setIfInBounds, hb]
  by_cases h63 : j = 63
  · subst h63
    simp only [if_true, if_pos (show 63 < 142 by decide)]
    exact get_evalA (by omega)
  rw [if_neg (fun x => h63 x.symm)]
  by_cases h62 : j = 62
  · subst h62
    simp only [if_true, if_pos (show 62 < 142 by decide)]
    exact get_evalA (by omega)
  rw [if_neg (fun x => h62 x.symm)]
  by_cases h61 : j = 61
  · subst h61
    simp only [if_true, if_pos (show 61 < 142 by decide)]
    exact get_evalA (by omega)
  rw [if_neg (fun x => h61 x.symm)]
  by_cases h60 : j = 60
  · subst h60
    simp only [if_true, if_pos (show 60 < 142 by decide)]
    exact get_evalA (by omega)
  rw [if_neg (fun x => h60 x.symm)]
  by_cases h59 : j = 59
  · subst h59
    simp only [if_true, if_pos (show 59 < 142 by decide)]
    exact get_evalA (by omega)
  rw [if_neg (fun x => h59 x.symm)]
  by_cases h58 : j = 58
  · subst h58
    simp only [if_true, if_pos (show 58 < 142 by decide)]
    exact get_evalA (by omega)
  rw [if_neg (fun x => h58 x.symm)]
  by_cases h57 : j = 57
  · subst h57
    simp only [if_true, if_pos (show 57 < 142 by decide)]
    exact get_evalA (by omega)
  rw [if_neg (fun x => h57 x.symm)]
  by_cases h56 : j = 56
  · subst h56
    simp only [if_true, if_pos (show 56 < 142 by decide)]
    exact get_evalA (by omega)
  rw [if_neg (fun x => h56 x.symm)]
  by_cases h55 : j = 55
  · subst h55
    simp only [if_true, if_pos (show 55 < 142 by decide)]
    exact get_evalA (by omega)
  rw [if_neg (fun x => h55 x.symm)]
  by_cases h54 : j = 54
  · subst h54
    simp only [if_true, if_pos (show 54 < 142 by decide)]
    exact get_evalA (by omega)
  rw [if_neg (fun x => h54 x.symm)]
  by_cases h53 : j = 53
  · subst h53
    simp only [if_true, if_pos (show 53 < 142 by decide)]
    exact get_evalA (by omega)
  rw [if_neg (fun x => h53 x.symm)]
  by_cases h52 : j = 52
  · subst h52
    simp only [if_true, if_pos (show 52 < 142 by decide)]
    exact get_evalA (by omega)
  rw [if_neg (fun x => h52 x.symm)]
  by_cases h51 : j = 51
  · subst h51
    simp only [if_true, if_pos (show 51 < 142 by decide)]
    exact get_evalA (by omega)
  rw [if_neg (fun x => h51 x.symm)]
  by_cases h50 : j = 50
  · subst h50
    simp only [if_true, if_pos (show 50 < 142 by decide)]
    exact get_evalA (by omega)
  rw [if_neg (fun x => h50 x.symm)]
  by_cases h49 : j = 49
  · subst h49
    simp only [if_true, if_pos (show 49 < 142 by decide)]
    exact get_evalA (by omega)
  rw [if_neg (fun x => h49 x.symm)]
  by_cases h48 : j = 48
  · subst h48
    simp only [if_true, if_pos (show 48 < 142 by decide)]
    exact get_evalA (by omega)
  rw [if_neg (fun x => h48 x.symm)]
  by_cases h11 : j = 11
  · subst h11
    simp only [if_true, if_pos (show 11 < 142 by decide)]
    exact get_evalA (by omega)
  rw [if_neg (fun x => h11 x.symm)]
  exact kj h11 (by omega)
theorem srcA_lo {W : World} {ao : Option Addr} {n c : Nat} {l : List A4} (h : RowA W (.slice ao n c) l) (h0 : 0 < l.length) (k : Nat) (hk : k ≤ l.length) : ∃ lo, (∀ w, (Instr.sliceAt 26 (.slice ao n c) none (some (.int .i64 k)) none).run Tryd.prog w = .ok lo w) ∧ SrcA W lo k (flatA (l.take k)) := by
  rcases h with ⟨rfl, _⟩ | ⟨a, cap, h1, h2, h3, h4⟩
  · simp at h0
  · obtain ⟨rfl, rfl, rfl⟩ : ao = some a ∧ n = l.length ∧ c = cap := by simpa using h1
    have hc : a.block < W.heap.size := World.block_lt_of_cell? W _ (h4 0 _ (flatA_at l 0 l[0] (List.getElem?_eq_getElem h0)).1)
    refine ⟨_, slice_loA a k _ _ hk h2, Or.inr ⟨a, c, rfl, by rw [flatA_length]; simp; omega, hc, fun j u hj => h4 j u ?_⟩⟩
    conv => lhs; rw [← List.take_append_drop k l, flatA_append]
    exact List.getElem?_append_left (List.getElem?_eq_some_iff.1 hj).1 ▸ hj
theorem slice_hiA (a : Addr) (k len cap : Nat) (h : k ≤ len) (_hc : len ≤ cap) (w : World) : (Instr.sliceAt 26 (.slice (some a) len cap) (some (.int .i64 k)) none none).run Tryd.prog w = .ok (.slice (some (if cap = k then a else a.add (k * 4))) (len - k) (cap - k)) w := by
  have h1 : (k : Int) ≤ len := by omega
  by_cases he : cap = k
  · subst he
    simp [go_sem, Tryd.underlying26, h1]
  · simp [go_sem, Tryd.underlying26, h1, he]
theorem srcA_hi {W : World} {ao : Option Addr} {n c : Nat} {l : List A4} (h : RowA W (.slice ao n c) l) (h0 : 0 < l.length) (k : Nat) (hk : k ≤ l.length) : ∃ hi, (∀ w, (Instr.sliceAt 26 (.slice ao n c) (some (.int .i64 k)) none none).run Tryd.prog w = .ok hi w) ∧ SrcA W hi (l.length - k) (flatA (l.drop k)) := by
  rcases h with ⟨rfl, _⟩ | ⟨a, cap, h1, h2, h3, h4⟩
  · simp at h0
  · obtain ⟨rfl, rfl, rfl⟩ : ao = some a ∧ n = l.length ∧ c = cap := by simpa using h1
    have hc : a.block < W.heap.size := World.block_lt_of_cell? W _ (h4 0 _ (flatA_at l 0 l[0] (List.getElem?_eq_getElem h0)).1)
    refine ⟨_, slice_hiA a k _ _ hk h2, Or.inr ⟨_, _, rfl, by rw [flatA_length]; simp, ?_, fun j u hj => ?_⟩⟩
    · split
      · exact hc
      · unfold Addr.add; split <;> exact hc
    · have hlt := (List.getElem?_eq_some_iff.1 hj).1
      rw [flatA_length] at hlt
      simp at hlt
      rw [if_neg (by omega), add_add]
      refine h4 _ u ?_
      conv => lhs; rw [← List.take_append_drop k l, flatA_append]
      rw [List.getElem?_append_right (by rw [flatA_length]; simp; omega), flatA_length]
      rw [show k * 4 + j - (List.take k l).length * 4 = j by simp; omega]
      exact hj
theorem load_run4 (w : World) (p : Addr) (xn : ByteArray) (xt : Bool) (xi : Int) (xs : ByteArray) (h : w.cell? p = some (.string xn) ∧ w.cell? ⟨p.block, p.off + 1, none⟩ = some (.bool xt) ∧ w.cell? ⟨p.block, p.off + 2, none⟩ = some (.int .i64 xi) ∧ w.cell? ⟨p.block, p.off + 3, none⟩ = some (.string xs)) :
    (Instr.loadAt 25 (.pointer (some p))).run Tryd.prog w = .ok (av (xn, xt, xi, xs)) w := by
  obtain ⟨h0, h1, h2, h3⟩ := h
  simp [go_sem, h0, h1, h2, h3]
theorem rot_perm {own : List A4} {n : Nat} {x : A4} (h : own[n]? = some x) : (x :: (own.take n ++ own.drop (n + 1))).Perm own := by
  have h1 := (List.getElem?_eq_some_iff.1 h).1
  have e : own = own.take n ++ x :: own.drop (n + 1) := by
    conv => lhs; rw [← List.take_append_drop n own, List.drop_eq_getElem_cons h1, (List.getElem?_eq_some_iff.1 h).2]
  conv => rhs; rw [e]
  exact List.perm_middle.symm
end Go.Proofs.YtpmhnmdienlgoaaDoor.At
