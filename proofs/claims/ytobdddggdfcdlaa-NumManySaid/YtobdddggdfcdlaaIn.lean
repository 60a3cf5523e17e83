/-
  A list of numbers that came in, opened. No condition beyond its reading.
-/
import Derived.Test.YtobdddggdfcdlaaProg
import Derived.WalkKit
import Derived.ChangeSlices
import Derived.ProofKit
import Derived.Lib.Hide
import Derived.Below
namespace Go.Proofs.Ytobdddggdfcdlaa.In
open Go.RowKit Go.ChangeShapes Go.WideShapes

/-- A list of numbers that came in. -/
structure InInts (W : World) (nv : Value) (zs : List Int) : Prop where
  shape : ∃ ao cap, nv = .slice ao zs.length cap
  at_ : ∀ (i : Nat) (z : Int), zs[i]? = some z → (-9223372036854775808 ≤ z ∧ z ≤ 9223372036854775807) ∧ ∃ p : Addr, p.block < W.heap.size ∧ (∀ w, (Instr.indexAt 39 nv (.int .i64 i)).run Try.prog w = .ok (.pointer (some p)) w) ∧ W.cell? p = some (.int .i64 z)
theorem InInts.on {W W' : World} {nv : Value} {zs : List Int} (h : InInts W nv zs) (hb : Below W.heap.size W W') : InInts W' nv zs :=
  ⟨h.shape, fun i z hz => by
    obtain ⟨h1, p, h2, h3, h4⟩ := h.at_ i z hz
    exact ⟨h1, p, Nat.lt_of_lt_of_le h2 hb.size, h3, by rw [hb.cell h2]; exact h4⟩⟩
theorem lits_bd {n : Int} (h : (Lit.int .i64 n).wf = true) : -9223372036854775808 ≤ n ∧ n ≤ 9223372036854775807 := by
  have h2 : (decide (IntKind.i64.min ≤ n) && decide (n ≤ IntKind.i64.max)) = true := h
  rw [Bool.and_eq_true, decide_eq_true_eq, decide_eq_true_eq, show IntKind.i64.min = -9223372036854775808 by decide, show IntKind.i64.max = 9223372036854775807 by decide] at h2
  exact h2
theorem cellsI : Try.prog.cellsOf 3 = 1 := by kernel_rfl
theorem index_ints (a : Addr) (m len cap : Nat) (h : m < len) (w : World) : (Instr.indexAt 39 (.slice (some a) len cap) (.int .i64 m)).run Try.prog w = .ok (.pointer (some (a.add m))) w := by
  have h1 : (m : Int) < len := by omega
  simp [go_sem, Try.underlying39, h1]
set_option maxRecDepth 100000 in
/-- Out of the row's reading, at a field or a parameter. -/
theorem in_trod {H : Type} {enc : TypeId × Value → H} {W : World} {sp : Nat → Bool} {held : Bool} {fuel : Nat} {v : Value} {x : DataW H × List MemPlace}
    (hf : DataW.trod enc Try.prog W 0 sp held fuel 39 [v] = some x) : ∃ zs, zs.length ≤ maxLen ∧ InInts W v zs := by
  rcases open_ints Try.underlying39 Try.underlying3 cellsI hf with ⟨h1, _⟩ | ⟨a', len', cap', zs, h1, _, h3, h4, h5, _, h7, h8⟩
  · have e : v = .slice none 0 0 := by simpa using h1
    rw [e]
    exact ⟨[], Nat.zero_le _, ⟨none, 0, rfl⟩, fun i z h => by simp at h⟩
  · have e : v = .slice (some a') len' cap' := by simpa using h1
    rw [e]
    have hle : len' ≤ zs.length := by rw [h5]; split <;> omega
    have hl : (zs.take len').length = len' := by simp; omega
    refine ⟨zs.take len', by omega, ⟨some a', cap', by rw [hl]⟩, fun i z hz => ?_⟩
    obtain ⟨hi, hzi⟩ := List.getElem?_eq_some_iff.1 hz
    have hi2 : i < len' := by omega
    have hz2 : zs[i]'(by omega) = z := by simpa using hzi
    have hc := h7 i (by omega)
    have hg : zs.getD i 0 = z := by rw [← hz2]; simp [List.getD, show i < zs.length by omega]
    rw [hg] at hc
    exact ⟨lits_bd (h8 z (by rw [← hz2]; exact List.getElem_mem _)), a'.add i, World.block_lt_of_cell? W _ hc, fun w => index_ints a' i len' cap' hi2 w, hc⟩
set_option maxRecDepth 100000 in
theorem in_ints {H : Type} {enc : TypeId × Value → H} {W : World} {r : Reach} {b0 : Nat} {sp : Nat → Bool} {held : Bool} {v : Value} {d : DataW H} {ps : List MemPlace}
    (hval : Value.okWide Try.prog W r b0 39 v) (hd : DataW.Trod enc Try.prog W 0 sp held 39 v d ps) : ∃ zs, zs.length ≤ maxLen ∧ InInts W v zs := by
  obtain ⟨a, len, cap, rfl⟩ := okWide_slice Try.underlying39 hval
  obtain ⟨fuel, hf⟩ := hd
  exact in_trod (fuel := fuel) hf
end Go.Proofs.Ytobdddggdfcdlaa.In
