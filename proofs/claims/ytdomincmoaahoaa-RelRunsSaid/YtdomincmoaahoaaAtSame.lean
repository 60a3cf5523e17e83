/-
  Same of two lists of attributes, of the statements' own package. Condition: lists far below a machine's length.
-/
import Derived.Test.YtdomincmoaahoaaAtKeep
import Derived.Lib.QuietBelow
import Derived.BigQuiet
namespace Go.Proofs.Ytdomincmoaahoaa.At
open Go.RowKit Go.Sort Go.Proofs.Ytdomincmoaahoaa.Va Go.Proofs.Ytdomincmoaahoaa.In

/-- Are the lists the same? -/
def sameL : List A4 → List A4 → Bool
  | [], [] => true
  | x :: l, y :: m => eqlA x y && sameL l m
  | _, _ => false
theorem sameL_len : ∀ l m, sameL l m = true → l.length = m.length
  | [], [], _ => rfl
  | x :: l, y :: m, h => by
    simp only [sameL, Bool.and_eq_true] at h
    simp [sameL_len l m h.2]
  | [], y :: m, h => by simp [sameL] at h
  | x :: l, [], h => by simp [sameL] at h
theorem sameL_all : ∀ l m, l.length = m.length → (∀ (k : Nat) (x y : A4), l[k]? = some x → m[k]? = some y → eqlA x y = true) → sameL l m = true
  | [], [], _, _ => rfl
  | x :: l, y :: m, hl, h => by
    simp only [sameL, Bool.and_eq_true]
    exact ⟨h 0 x y rfl rfl, sameL_all l m (by simpa using hl) (fun k a b ha hb => h (k + 1) a b (by simpa using ha) (by simpa using hb))⟩
  | [], y :: m, hl, _ => by simp at hl
  | x :: l, [], hl, _ => by simp at hl
theorem sameL_not : ∀ (l m : List A4) (k : Nat) (x y : A4), l[k]? = some x → m[k]? = some y → eqlA x y = false → sameL l m = false
  | [], _, k, x, y, h, _, _ => by simp at h
  | _ :: _, [], k, x, y, _, h, _ => by simp at h
  | a :: l, b :: m, 0, x, y, h1, h2, h3 => by
    simp at h1 h2
    subst h1 h2
    simp [sameL, h3]
  | a :: l, b :: m, k + 1, x, y, h1, h2, h3 => by
    simp only [sameL, sameL_not l m k x y (by simpa using h1) (by simpa using h2) h3, Bool.and_false]
/-- Where an element lies, and its cells, in this world and every later one. -/
theorem row_cells {W : World} {lv : Value} {l : List A4} {ao : Option Addr} {n c k : Nat} {x : A4} (h : RowA W lv l) (hv : lv = .slice ao n c) (hn : l.length = n) (hk : l[k]? = some x) :
    ∃ p : Addr, (∀ w, (Instr.indexAt 32 (.slice ao n c) (.int .i64 k)).run Try.prog w = .ok (.pointer (some p)) w) ∧ ∀ w, Below W.heap.size W w →
      w.cell? p = some (.string x.1) ∧ w.cell? ⟨p.block, p.off + 1, none⟩ = some (.bool x.2.1) ∧ w.cell? ⟨p.block, p.off + 2, none⟩ = some (.int .i64 x.2.2.1) ∧ w.cell? ⟨p.block, p.off + 3, none⟩ = some (.string x.2.2.2) := by
  have hlt := (List.getElem?_eq_some_iff.1 hk).1
  rcases h with ⟨rfl, _⟩ | ⟨a, cap, h1, h2, h3, h4⟩
  · simp at hk
  · rw [hv] at h1
    obtain ⟨rfl, rfl, rfl⟩ : ao = some a ∧ n = l.length ∧ c = cap := by simpa using h1
    refine ⟨a.add (k * 4), fun w => index_runA a k _ _ hlt w, fun w hb => ?_⟩
    have hf := flatA_at l k x hk
    have e1 : ∀ j, j ≠ 0 → (⟨(a.add (k * 4)).block, (a.add (k * 4)).off + j, none⟩ : Addr) = a.add (k * 4 + j) := fun j hj => by
      have h5 : ∀ b : Addr, b.add j = ⟨b.block, b.off + j, none⟩ := fun b => by unfold Addr.add; rw [if_neg hj]
      rw [← add_add, h5]
    have g : ∀ j u, (flatA l)[j]? = some u → w.cell? (a.add j) = some u := fun j u hj => by
      have hc := h4 j u hj
      rw [hb.cell (World.block_lt_of_cell? W _ hc)]; exact hc
    rw [e1 1 (by decide), e1 2 (by decide), e1 3 (by decide)]
    exact ⟨g _ _ hf.1, g _ _ hf.2.1, g _ _ hf.2.2.1, g _ _ hf.2.2.2⟩
theorem row_addr {W : World} {ao : Option Addr} {n c k : Nat} {l : List A4} {x : A4} (h : RowA W (.slice ao n c) l) (hk : l[k]? = some x) : ∃ a, ao = some a := by
  rcases h with ⟨rfl, _⟩ | ⟨a, cap, h1, _⟩
  · simp at hk
  · exact ⟨a, by simp at h1; exact h1.1⟩
end Go.Proofs.Ytdomincmoaahoaa.At
