/-
  Plain facts on lists of values in memory, and in order.
-/
import Derived.Test.YtdcddhckhbjkeaaDoorVaIns
namespace Go.Proofs.YtdcddhckhbjkeaaDoor.Va
open Go.RowKit Go.Sort Go.Proofs.YtdcddhckhbjkeaaDoor.Rg

abbrev V3 := Bool × Int × ByteArray
def ltV (x y : V3) : Bool := VaP.lessV x.1 x.2.1 x.2.2.toList y.1 y.2.1 y.2.2.toList
def okV (x : V3) : Bool := rightV x.1 x.2.1 x.2.2
theorem ltV_trans {x y z : V3} (h : ltV x y = true) (k : ltV y z = true) : ltV x z = true := VaP.lessV_trans _ _ _ _ _ _ _ _ _ h k
theorem ltV_asymm {x y : V3} (h : ltV x y = true) : ltV y x = false := VaP.lessV_asymm _ _ _ _ _ _ h
/-- A list in order: none is ahead of an earlier one. -/
def Ord (l : List V3) : Prop := l.Pairwise fun x y => ltV y x = false
theorem Ord.at {l : List V3} (h : Ord l) {i j : Nat} {x y : V3} (hij : i < j) (hx : l[i]? = some x) (hy : l[j]? = some y) : ltV y x = false := by
  obtain ⟨h1, rfl⟩ := List.getElem?_eq_some_iff.1 hx
  obtain ⟨h2, rfl⟩ := List.getElem?_eq_some_iff.1 hy
  exact List.pairwise_iff_getElem.1 h i j h1 h2 hij
theorem ltV_total {x y : V3} (hx : okV x = true) (hy : okV y = true) : ltV x y = true ∨ x.1 = y.1 ∧ x.2.1 = y.2.1 ∧ x.2.2.toList = y.2.2.toList ∨ ltV y x = true :=
  VaP.lessV_total _ _ _ _ _ _ (right_iff hx) (right_iff hy)
/-- What is not behind z is not behind what is behind z. -/
theorem ltV_not {x y z : V3} (hy : okV y = true) (hz : okV z = true) (h : ltV z y = false) (k : ltV x z = false) (hx : okV x = true) : ltV x y = false := by
  cases h1 : ltV x y
  · rfl
  · rcases ltV_total hx hz with h2 | ⟨e1, e2, e3⟩ | h2
    · rw [h2] at k; cases k
    · have : ltV z y = true := by unfold ltV at h1 ⊢; rw [← e1, ← e2, ← e3]; exact h1
      rw [this] at h; cases h
    · rw [ltV_trans h2 h1] at h; cases h

/-- Put in at its place, a list in order is in order. -/
theorem ord_put {l : List V3} {v : V3} {k : Nat} (h : Ord l) (hok : ∀ x ∈ l, okV x = true) (hv : okV v = true) (h1 : ∀ (m : Nat) (y : V3), k ≤ m → l[m]? = some y → ltV v y = true)
    (h2 : k = 0 ∨ ∃ p, l[k - 1]? = some p ∧ ltV v p = false) : Ord (l.take k ++ v :: l.drop k) := by
  have hs := h
  unfold Ord at hs
  rw [← List.take_append_drop k l, List.pairwise_append] at hs
  obtain ⟨p1, p2, p3⟩ := hs
  have hdrop : ∀ y ∈ l.drop k, ltV v y = true := fun y hy => by
    obtain ⟨m, hm, rfl⟩ := List.mem_iff_getElem.1 hy
    exact h1 (k + m) _ (by omega) (by rw [List.getElem?_eq_getElem (by simp at hm; omega)]; simp)
  unfold Ord
  rw [List.pairwise_append]
  refine ⟨p1, List.pairwise_cons.2 ⟨fun y hy => ltV_asymm (hdrop y hy), p2⟩, fun x hx y hy => ?_⟩
  rcases List.mem_cons.1 hy with rfl | hy
  · rcases h2 with rfl | ⟨p, hp, hvp⟩
    · simp at hx
    · obtain ⟨m, hm, rfl⟩ := List.mem_iff_getElem.1 hx
      have hm2 : m < k ∧ m < l.length := by simp at hm; omega
      have hx2 : l[m]? = some (l.take k)[m] := by simp [hm2.2]
      have hokx := hok _ (List.mem_of_getElem? hx2)
      have hokp := hok _ (List.mem_of_getElem? hp)
      rcases Nat.lt_or_ge m (k - 1) with h3 | h3
      · exact ltV_not hokx hokp (h.at h3 hx2 hp) hvp hv
      · have e : k - 1 = m := by omega
        rw [e, hx2] at hp
        rw [Option.some.inj hp]
        exact hvp
  · exact p3 x hx y hy

theorem flat_at : ∀ (l : List V3) (m : Nat) (t : Bool) (n : Int) (s : ByteArray), l[m]? = some (t, n, s) → (flat l)[m * 3]? = some (.bool t) ∧ (flat l)[m * 3 + 1]? = some (.int .i64 n) ∧ (flat l)[m * 3 + 2]? = some (.string s)
  | [], m, t, n, s, h => by simp at h
  | (t0, n0, s0) :: r, 0, t, n, s, h => by
    simp at h
    obtain ⟨rfl, rfl, rfl⟩ := h
    exact ⟨rfl, rfl, rfl⟩
  | (t0, n0, s0) :: r, m + 1, t, n, s, h => by
    have h2 := flat_at r m t n s (by simpa using h)
    rw [show (m + 1) * 3 = m * 3 + 1 + 1 + 1 by omega, show m * 3 + 1 + 1 + 1 + 1 = m * 3 + 1 + 1 + 1 + 1 from rfl, show m * 3 + 1 + 1 + 1 + 2 = m * 3 + 2 + 1 + 1 + 1 by omega]
    exact h2

/-- A list of values in memory. -/
def RowL (W : World) (lv : Value) (l : List V3) : Prop :=
  (l = [] ∧ lv = .slice none 0 0) ∨ ∃ (g cap : Nat), lv = .slice (some ⟨g, 0, none⟩) l.length cap ∧ l.length ≤ cap ∧ cap ≤ maxLen ∧ g < W.heap.size ∧ ∀ j u, (flat l)[j]? = some u → W.cell? ⟨g, j, none⟩ = some u
theorem RowL.on {W W' : World} {lv : Value} {l : List V3} (h : RowL W lv l) (hb : Below W.heap.size W W') : RowL W' lv l := by
  rcases h with h | ⟨g, cap, h1, h2, h3, h4, h5⟩
  · exact Or.inl h
  · exact Or.inr ⟨g, cap, h1, h2, h3, Nat.lt_of_lt_of_le h4 hb.size, fun j u hj => by rw [← h5 j u hj]; exact hb.cell (p := ⟨g, j, none⟩) h4⟩
theorem RowL.of_owns {W : World} {B : Nat} {lv : Value} {l : List V3} (h : W.ownsRow B 24 3 lv l.length (flat l)) : RowL W lv l := by
  rcases h.2 with ⟨h1, h2⟩ | ⟨g, cap, cur, h1, h2, h3, h4, h5, h6, h7⟩
  · exact Or.inl ⟨List.eq_nil_of_length_eq_zero h2, h1⟩
  · refine Or.inr ⟨g, cap, h1, h4, h5, lt_of_heap h3, fun j u hj => ?_⟩
    have hc := h.cells (g := g) (by rw [h1]; rfl) j u hj
    have e : (⟨g, 0, none⟩ : Addr).add j = ⟨g, j, none⟩ := by unfold Addr.add; split <;> simp_all
    rw [e] at hc
    exact hc
theorem src_nil (W : World) : Src W (.slice none 0 0) 0 [] := Or.inl ⟨rfl, rfl, rfl⟩
theorem slice_lo (g at_ len cap : Nat) (h : at_ ≤ len) (hc : len ≤ cap) (w : World) : (Instr.sliceAt 33 (.slice (some ⟨g, 0, none⟩) len cap) none (some (.int .i64 at_)) none).run Tryd.prog w = .ok (.slice (some ⟨g, 0, none⟩) at_ cap) w := by
  have h1 : (at_ : Int) ≤ cap := by omega
  simp [go_sem, Tryd.underlying33, h1]
theorem slice_hi (g at_ len cap : Nat) (h : at_ ≤ len) (hc : len ≤ cap) (w : World) : (Instr.sliceAt 33 (.slice (some ⟨g, 0, none⟩) len cap) (some (.int .i64 at_)) none none).run Tryd.prog w = .ok (.slice (some ⟨g, if cap = at_ then 0 else at_ * 3, none⟩) (len - at_) (cap - at_)) w := by
  have h1 : (at_ : Int) ≤ len := by omega
  simp [go_sem, Tryd.underlying33, h1]
  split <;> rfl
end Go.Proofs.YtdcddhckhbjkeaaDoor.Va
