/-
  The law TupleNames: what may be published of its lists; a value stored into an element. Condition: the contracts of package tuple; numbers of 64 bits; lists no longer than a machine holds.
-/
import Derived.Test.YtpmhnmdienlgoaaDoorAtNamesA
import Derived.Test.YtpmhnmdienlgoaaDoorAtNamesB
import Derived.Test.YtpmhnmdienlgoaaDoorAtNamesC
import Derived.Deep.Cut
import Derived.Deep.CutBlock
namespace Go.Proofs.YtpmhnmdienlgoaaDoor.At
open Go.RowKit Go.Sort Go.Proofs.YtpmhnmdienlgoaaDoor.Va Go.Proofs.YtpmhnmdienlgoaaDoor.In Go.Proofs.YtpmhnmdienlgoaaDoor.Rg

theorem flatA_setV : ∀ (l : List A4) (k : Nat) (y : A4) (t : Bool) (n : Int) (s : ByteArray), l[k]? = some y → flatA (l.set k (y.1, t, n, s)) = (((flatA l).set (k * 4 + 1) (.bool t)).set (k * 4 + 2) (.int .i64 n)).set (k * 4 + 3) (.string s)
  | [], k, y, t, n, s, h => by simp at h
  | z :: r, 0, y, t, n, s, h => by
    obtain rfl : z = y := by simpa using h
    rfl
  | z :: r, k + 1, y, t, n, s, h => by
    have ih := flatA_setV r k y t n s (by simpa using h)
    rw [show (k + 1) * 4 + 3 = (k * 4 + 3) + 1 + 1 + 1 + 1 by omega, show (k + 1) * 4 + 2 = (k * 4 + 2) + 1 + 1 + 1 + 1 by omega, show (k + 1) * 4 + 1 = (k * 4 + 1) + 1 + 1 + 1 + 1 by omega]
    simp only [flatA, List.set_cons_succ, ih]
theorem infoV : ∃ i, Tryd.prog.info? 23 = some i ∧ i.size = 3 := by
  have h : (Tryd.prog.info? 23).map (fun i => i.size) = some 3 := by kernel_rfl
  cases hi : Tryd.prog.info? 23 with
  | none => rw [hi] at h; cases h
  | some i => rw [hi] at h; exact ⟨i, rfl, by simpa using h⟩
theorem store_val {w : World} {B g cap n k : Nat} {l : List A4} (y : A4) (t : Bool) (m : Int) (s : ByteArray) (hn : n = l.length) (h : w.ownsRow B 25 4 (.slice (some ⟨g, 0, none⟩) n cap) n (flatA l)) (hy : l[k]? = some y) (hB : B ≤ g) :
    ∃ w', (Instr.storeAt 23 (.pointer (some ⟨g, k * 4 + 1, none⟩)) (vl t m s)).run Tryd.prog w = .ok () w' ∧ w'.ownsRow B 25 4 (.slice (some ⟨g, 0, none⟩) n cap) n (flatA (l.set k (y.1, t, m, s))) ∧ ∀ W, Below B W w → Below B W w' := by
  subst hn
  have c := cell_el h hy
  have f := fun j => h.frozenAt j
  have s1 := (h.stored (k * 4 + 1) (.bool t)).1
  have s2 := (s1.stored (k * 4 + 2) (.int .i64 m)).1
  have s3 := (s2.stored (k * 4 + 3) (.string s)).1
  refine ⟨_, ?_, by rw [flatA_setV l k y t m s hy]; exact s3, fun W hb => ((hb.setCell hB _).setCell hB _).setCell hB _⟩
  simp [go_sem, c, f]
theorem val_set {w : World} {B g cap n k : Nat} {l : List A4} (y : A4) (t : Bool) (m : Int) (s : ByteArray) (hn : n = l.length) (h : w.ownsRow B 25 4 (.slice (some ⟨g, 0, none⟩) n cap) n (flatA l)) (hy : l[k]? = some y) (hB : B ≤ g) :
    (((w.setCell ⟨g, k * 4 + 1, none⟩ (.bool t)).setCell ⟨g, k * 4 + 1 + 1, none⟩ (.int .i64 m)).setCell ⟨g, k * 4 + 1 + 2, none⟩ (.string s)).ownsRow B 25 4 (.slice (some ⟨g, 0, none⟩) n cap) n (flatA (l.set k (y.1, t, m, s))) ∧
    ∀ W, Below B W w → Below B W (((w.setCell ⟨g, k * 4 + 1, none⟩ (.bool t)).setCell ⟨g, k * 4 + 1 + 1, none⟩ (.int .i64 m)).setCell ⟨g, k * 4 + 1 + 2, none⟩ (.string s)) := by
  subst hn
  have s1 := (h.stored (k * 4 + 1) (.bool t)).1
  have s2 := (s1.stored (k * 4 + 2) (.int .i64 m)).1
  have s3 := (s2.stored (k * 4 + 3) (.string s)).1
  exact ⟨by rw [flatA_setV l k y t m s hy]; exact s3, fun W hb => ((hb.setCell hB _).setCell hB _).setCell hB _⟩
theorem good_pair {m : List A4} (h : rightT m = true) (j : Nat) (hj : j + 1 < m.length) : Op.bytesLess (m[j]'(by omega)).1.toList (m[j + 1]).1.toList = true := by
  rcases hg : goodB m (j + 1) with _ | _
  · rw [rightT_not m (j + 1) hj hg] at h; cases h
  · unfold goodB at hg
    rw [List.getElem?_eq_getElem hj] at hg
    simp only [Bool.and_eq_true, Bool.or_eq_true, beq_iff_eq, Nat.add_sub_cancel] at hg
    rcases hg.2 with h0 | h0
    · omega
    · rw [List.getElem?_eq_getElem (by omega)] at h0
      exact h0
theorem rise_right {m : List A4} (h : rightT m = true) : Rise m := by
  refine List.pairwise_iff_getElem.2 fun i j hi hj hij => ?_
  obtain ⟨d, rfl⟩ : ∃ d, j = i + 1 + d := ⟨j - (i + 1), by omega⟩
  clear hij
  induction d with
  | zero => exact good_pair h i hj
  | succ d ih => exact VaP.bl_trans _ _ _ (ih (by omega)) (good_pair h (i + 1 + d) hj)
theorem swap_right {l : List A4} (hr : Rise l) (hf : ∀ x ∈ l, nameB x.1 = true ∧ rightV x.2.1 x.2.2.1 x.2.2.2 = true) (h5 : l.length ≤ 5) (ka kb : Nat) (x y : A4) (hx : l[ka]? = some x) (hy : l[kb]? = some y) : rightT ((l.set ka y).set kb x) = decide (ka = kb) := by
  obtain ⟨la, rfl⟩ := List.getElem?_eq_some_iff.1 hx
  obtain ⟨lb, rfl⟩ := List.getElem?_eq_some_iff.1 hy
  by_cases e : ka = kb
  · subst e
    simp only [List.set_getElem_self, decide_true]
    exact rightT_of hr hf h5
  · rw [decide_eq_false e]
    cases hc : rightT ((l.set ka l[kb]).set kb l[ka]) with
    | false => rfl
    | true =>
      exfalso
      have e2 := rise_eq (rise_right hc) hr (List.set_set_perm la lb)
      have e3 : ((l.set ka l[kb]).set kb l[ka])[kb]? = l[kb]? := by rw [e2]
      rw [List.getElem?_set_self (by simpa using lb), List.getElem?_eq_getElem lb] at e3
      have e4 : l[ka] = l[kb] := Option.some.inj e3
      rcases Nat.lt_or_ge ka kb with hk | hk
      · exact less_ne (List.pairwise_iff_getElem.1 hr ka kb la lb hk) (by rw [e4])
      · exact less_ne (List.pairwise_iff_getElem.1 hr kb ka lb la (by omega)) (by rw [e4])
theorem twice_right {l : List A4} (x : A4) (hx : x ∈ l) : rightT (l ++ [x]) = false := by
  cases hc : rightT (l ++ [x]) with
  | false => rfl
  | true =>
    exfalso
    have h := rise_right hc
    unfold Rise at h
    rw [List.pairwise_append] at h
    exact less_ne (h.2.2 x hx x (by simp)) rfl
theorem bad_right {l : List A4} (k : Nat) (hk : k < l.length) (n : ByteArray) : rightT (l.set k (n, false, 1, ⟨#[120]⟩)) = false := by
  refine rightT_not _ k (by simpa using hk) ?_
  have e : rightV false 1 ⟨#[120]⟩ = false := by simp [rightV, ByteArray.toList_eq]
  unfold goodB
  rw [List.getElem?_set_self hk]
  simp [e]
end Go.Proofs.YtpmhnmdienlgoaaDoor.At
