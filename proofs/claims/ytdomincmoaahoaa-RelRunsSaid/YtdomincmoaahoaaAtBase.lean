/-
  Attributes of package api: as values, as cells, as lists in memory. No program's call in it.
-/
import Derived.Test.YtdomincmoaahoaaVaKeep
import Derived.Test.YtdomincmoaahoaaIn
import Derived.Laws.AppendOwn
import Derived.Laws.OwnMore
import Derived.Deep.Slices
namespace Go.Proofs.Ytdomincmoaahoaa.At
open Go.RowKit Go.Proofs.Ytdomincmoaahoaa.Va

/-- An attribute: its name; is its value a text, its number, its text. -/
abbrev A4 := ByteArray × Bool × Int × ByteArray
abbrev av (x : A4) : Value := .agg #[.string x.1, .bool x.2.1, .int .i64 x.2.2.1, .string x.2.2.2]
def cellsA (x : A4) : List Value := [.string x.1, .bool x.2.1, .int .i64 x.2.2.1, .string x.2.2.2]
def flatA : List A4 → List Value
  | [] => []
  | x :: r => .string x.1 :: .bool x.2.1 :: .int .i64 x.2.2.1 :: .string x.2.2.2 :: flatA r
theorem flatA_length : ∀ l, (flatA l).length = l.length * 4
  | [] => rfl
  | x :: r => by simp [flatA, flatA_length r]; omega
theorem flatA_append : ∀ a b, flatA (a ++ b) = flatA a ++ flatA b
  | [], b => rfl
  | x :: r, b => by simp [flatA, flatA_append r b]
theorem flatA_one : ∀ l, ∀ u ∈ flatA l, u.oneCell' = true
  | [], u, h => by cases h
  | x :: r, u, h => by
    simp only [flatA, List.mem_cons] at h
    rcases h with rfl | rfl | rfl | rfl | h
    · rfl
    · rfl
    · rfl
    · rfl
    · exact flatA_one r u h
theorem flatA_at : ∀ (l : List A4) (m : Nat) (x : A4), l[m]? = some x → (flatA l)[m * 4]? = some (.string x.1) ∧ (flatA l)[m * 4 + 1]? = some (.bool x.2.1) ∧ (flatA l)[m * 4 + 2]? = some (.int .i64 x.2.2.1) ∧ (flatA l)[m * 4 + 3]? = some (.string x.2.2.2)
  | [], m, x, h => by simp at h
  | y :: r, 0, x, h => by
    simp at h
    subst h
    exact ⟨rfl, rfl, rfl, rfl⟩
  | y :: r, m + 1, x, h => by
    have h2 := flatA_at r m x (by simpa using h)
    rw [show (m + 1) * 4 = m * 4 + 1 + 1 + 1 + 1 by omega, show m * 4 + 1 + 1 + 1 + 1 + 2 = m * 4 + 2 + 1 + 1 + 1 + 1 by omega, show m * 4 + 1 + 1 + 1 + 1 + 3 = m * 4 + 3 + 1 + 1 + 1 + 1 by omega]
    exact h2
theorem add_add (a : Addr) (i j : Nat) : (a.add i).add j = a.add (i + j) := by
  unfold Addr.add
  by_cases hi : i = 0 <;> by_cases hj : j = 0 <;> simp [hi, hj, Nat.add_assoc]

/-- A list of attributes in memory, wherever it begins. -/
def RowA (W : World) (lv : Value) (l : List A4) : Prop :=
  (l = [] ∧ lv = .slice none 0 0) ∨ ∃ (a : Addr) (cap : Nat), lv = .slice (some a) l.length cap ∧ l.length ≤ cap ∧ cap ≤ maxLen ∧ ∀ j u, (flatA l)[j]? = some u → W.cell? (a.add j) = some u
theorem RowA.on {W W' : World} {lv : Value} {l : List A4} (h : RowA W lv l) (hb : Below W.heap.size W W') : RowA W' lv l := by
  rcases h with h | ⟨a, cap, h1, h2, h3, h5⟩
  · exact Or.inl h
  · exact Or.inr ⟨a, cap, h1, h2, h3, fun j u hj => by
      have hc := h5 j u hj
      rw [hb.cell (World.block_lt_of_cell? W _ hc)]; exact hc⟩
theorem RowA.len {W : World} {lv : Value} {l : List A4} (h : RowA W lv l) : ∃ ao cap, lv = .slice ao l.length cap := by
  rcases h with ⟨rfl, rfl⟩ | ⟨a, cap, rfl, _⟩
  · exact ⟨none, 0, rfl⟩
  · exact ⟨_, cap, rfl⟩
theorem lt_of_heap {w : World} {b : Nat} {o : Obj} (h : w.heap[b]? = some o) : b < w.heap.size := by
  rcases Nat.lt_or_ge b w.heap.size with h0 | h0
  · exact h0
  · simp [Array.getElem?_eq_none h0] at h
theorem RowA.of_owns {W : World} {B : Nat} {lv : Value} {l : List A4} (h : W.ownsRow B 47 4 lv l.length (flatA l)) : RowA W lv l := by
  rcases h.2 with ⟨h1, h2⟩ | ⟨g, cap, cur, h1, h2, h3, h4, h5, h6, h7⟩
  · exact Or.inl ⟨List.eq_nil_of_length_eq_zero h2, h1⟩
  · exact Or.inr ⟨⟨g, 0, none⟩, cap, h1, h4, h5, fun j u hj => h.cells (g := g) (by rw [h1]; rfl) j u hj⟩
theorem index_runA (a : Addr) (m len cap : Nat) (h : m < len) (w : World) : (Instr.indexAt 32 (.slice (some a) len cap) (.int .i64 m)).run Try.prog w = .ok (.pointer (some (a.add (m * 4)))) w := by
  have h1 : (m : Int) < len := by omega
  simp [go_sem, Try.underlying32, h1]
theorem load_runA (w : World) (p : Addr) (x : A4) (h : ∀ j u, (cellsA x)[j]? = some u → w.cell? (p.add j) = some u) : (Instr.loadAt 47 (.pointer (some p))).run Try.prog w = .ok (av x) w := by
  have h0 := h 0 _ rfl
  have h1 := h 1 _ rfl
  have h2 := h 2 _ rfl
  have h3 := h 3 _ rfl
  simp [Addr.add] at h0 h1 h2 h3
  simp [go_sem, h0, h1, h2, h3]

theorem stoodA : Try.prog.stoodInHeld 47 = false := by kernel_rfl
/-- Are two attributes the same? -/
def eqlA (x y : A4) : Bool := x.1.toList == y.1.toList && (x.2.1 == y.2.1 && x.2.2.1 == y.2.2.1 && x.2.2.2.toList == y.2.2.2.toList)
set_option maxRecDepth 100000 in
theorem neqA (x y : A4) (r : Bool) (hr : eqlA x y = r) (w : World) : (binOp .neq 47 (av x) (av y)).run Try.prog w = .ok (.bool (!r)) w := by
  have st := stoodA
  subst hr
  obtain ⟨a, b, c, d⟩ := x
  obtain ⟨a', b', c', d'⟩ := y
  unfold eqlA
  by_cases h1 : a.toList = a'.toList <;> by_cases h2 : b = b' <;> by_cases h3 : c = c' <;> by_cases h4 : d.toList = d'.toList <;> simp [go_sem, Try.underlying47, Try.underlying45, Try.underlying4, Try.underlying3, Try.underlying9, st, h1, h2, h3, h4]
end Go.Proofs.Ytdomincmoaahoaa.At
