/-
  A list of numbers that came in, opened. No condition beyond its reading.
-/
import Derived.Test.YtdcddhckhbjkeaaDoorVaSorts
import Derived.ChangeSlices
import Derived.ProofKit
namespace Go.Proofs.YtdcddhckhbjkeaaDoor.Va
open Go.RowKit Go.ChangeShapes Go.WideShapes

theorem lits_bd {n : Int} (h : (Lit.int .i64 n).wf = true) : -9223372036854775808 ≤ n ∧ n ≤ 9223372036854775807 := by
  have h2 : (decide (IntKind.i64.min ≤ n) && decide (n ≤ IntKind.i64.max)) = true := h
  rw [Bool.and_eq_true, decide_eq_true_eq, decide_eq_true_eq, show IntKind.i64.min = -9223372036854775808 by decide, show IntKind.i64.max = 9223372036854775807 by decide] at h2
  exact h2
theorem cellsI : Tryd.prog.cellsOf 3 = 1 := by kernel_rfl
theorem index_ints (a : Addr) (m len cap : Nat) (h : m < len) (w : World) : (Instr.indexAt 32 (.slice (some a) len cap) (.int .i64 m)).run Tryd.prog w = .ok (.pointer (some (a.add m))) w := by
  have h1 : (m : Int) < len := by omega
  simp [go_sem, Tryd.underlying32, h1]
theorem in_ints {H : Type} {enc : TypeId × Value → H} {W : World} {r : Reach} {b0 : Nat} {sp : Nat → Bool} {held : Bool} {v : Value} {d : DataW H} {ps : List MemPlace}
    (hval : Value.okWide Tryd.prog W r b0 32 v) (hd : DataW.Trod enc Tryd.prog W 0 sp held 32 v d ps) : ∃ zs, InInts W v zs := by
  obtain ⟨a, len, cap, rfl⟩ := okWide_slice Tryd.underlying32 hval
  obtain ⟨fuel, hf⟩ := hd
  rcases open_ints Tryd.underlying32 Tryd.underlying3 cellsI hf with ⟨h1, _⟩ | ⟨a', len', cap', zs, h1, _, h3, _, h5, _, h7, h8⟩
  · have e : Value.slice a len cap = .slice none 0 0 := by simpa [Value.cells] using h1
    rw [e]
    exact ⟨[], ⟨none, 0, rfl⟩, fun i z h => by simp at h⟩
  · have e : Value.slice a len cap = .slice (some a') len' cap' := by simpa [Value.cells] using h1
    rw [e]
    have hle : len' ≤ zs.length := by rw [h5]; split <;> omega
    have hl : (zs.take len').length = len' := by simp; omega
    refine ⟨zs.take len', ⟨some a', cap', by rw [hl]⟩, fun i z hz => ?_⟩
    obtain ⟨hi, hzi⟩ := List.getElem?_eq_some_iff.1 hz
    have hi2 : i < len' := by omega
    have hz2 : zs[i]'(by omega) = z := by simpa using hzi
    have hc := h7 i (by omega)
    have hg : zs.getD i 0 = z := by rw [← hz2]; simp [List.getD, show i < zs.length by omega]
    rw [hg] at hc
    exact ⟨lits_bd (h8 z (by rw [← hz2]; exact List.getElem_mem _)), a'.add i, World.block_lt_of_cell? W _ hc, fun w => index_ints a' i len' cap' hi2 w, hc⟩
end Go.Proofs.YtdcddhckhbjkeaaDoor.Va
