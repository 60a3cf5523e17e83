/-
  A list of broadsidekeep.Tuple that came in, opened. No condition beyond its reading.
-/
import Derived.Test.YtdomincmoaahoaaBh
import Derived.Test.YtdomincmoaahoaaRlTup
import Derived.ChangeSlices
import Derived.Deep.Slices
namespace Go.Proofs.Ytdomincmoaahoaa.Rl
open Go.RowKit Go.ChangeShapes Go.WideShapes Go.Proofs.Ytdomincmoaahoaa.In

set_option maxRecDepth 100000 in
theorem open_tup {H : Type} {enc : TypeId × Value → H} {W : World} {sp : Nat → Bool} {held : Bool} {fuel : Nat} {cs : List Value} {x : DataW H × List MemPlace}
    (hf : DataW.trod enc Try.prog W 0 sp held fuel 30 cs = some x) : ∃ (c0 c1 : Value) (has vals : List Int), cs = [c0, c1] ∧ has.length ≤ maxLen ∧ vals.length ≤ maxLen ∧ InInts W c0 has ∧ InInts W c1 vals := by
  obtain ⟨xs, n, _, _, hcl, hxl, hx⟩ := DataW.trod_struct Try.underlying30 hf
  rw [At.cellsK] at hcl
  match cs, hcl with
  | [c0, c1], _ =>
    have f0 : DataW.trod enc Try.prog W 0 sp held n 27 (([c0, c1].drop 0).take (Try.prog.cellsOf 27)) = xs[0]? := hx 0 _ rfl
    have f1 : DataW.trod enc Try.prog W 0 sp held n 27 (([c0, c1].drop 1).take (Try.prog.cellsOf 27)) = xs[1]? := hx 1 _ rfl
    have hxl' : xs.length = 2 := hxl
    simp only [At.cellsIs, List.drop_zero, List.drop_succ_cons, List.take_succ_cons, List.take_zero] at f0 f1
    rw [List.getElem?_eq_getElem (by omega)] at f0 f1
    obtain ⟨has, h1, h2⟩ := in_trod f0
    obtain ⟨vals, h3, h4⟩ := in_trod f1
    exact ⟨c0, c1, has, vals, rfl, h1, h3, h2, h4⟩
theorem index_runT (a : Addr) (m len cap : Nat) (h : m < len) (w : World) : (Instr.indexAt 36 (.slice (some a) len cap) (.int .i64 m)).run Try.prog w = .ok (.pointer (some (a.add (m * 2)))) w := by
  have h1 : (m : Int) < len := by omega
  simp [go_sem, Try.underlying36, h1]
set_option maxRecDepth 100000 in
theorem open_tups {H : Type} {enc : TypeId × Value → H} {W : World} {r : Reach} {b0 : Nat} {sp : Nat → Bool} {held : Bool} {v : Value} {d : DataW H} {ps : List MemPlace}
    (hval : Value.okWide Try.prog W r b0 36 v) (hd : DataW.Trod enc Try.prog W 0 sp held 36 v d ps) : ∃ n : Nat, n ≤ maxLen ∧ InTups W v n := by
  obtain ⟨ao, al, ac, rfl⟩ := okWide_slice Try.underlying36 hval
  obtain ⟨fuel, hf⟩ := hd
  rcases Deep.open_slice Try.underlying36 hf with ⟨h1, _⟩ | ⟨a, len, cap, m, n, D, Pl, h1, _, h3, h4, h5, _, hx⟩
  · have e : Value.slice ao al ac = .slice none 0 0 := by simpa [Value.cells] using h1
    exact ⟨0, Nat.zero_le _, ⟨none, 0, e⟩, fun i hi => by omega⟩
  · have e : Value.slice ao al ac = .slice (some a) len cap := by simpa [Value.cells] using h1
    rw [e]
    have hle : len ≤ m := by rw [h5]; split <;> omega
    refine ⟨len, by omega, ⟨some a, cap, rfl⟩, fun i hi => ?_⟩
    obtain ⟨cs', c1, c2⟩ := hx i (by omega)
    obtain ⟨y0, y1, has, vals, rfl, l1, l2, i1, i2⟩ := open_tup c2
    rw [At.cellsK] at c1
    obtain ⟨_, _, k3⟩ := World.cells?_some c1
    have k0 := k3 0 (by decide)
    have k1 := k3 1 (by decide)
    rw [Rw.add_zero] at k0
    rw [Rw.add_pos _ 1 (by decide)] at k1
    exact ⟨a.add (i * 2), y0, y1, has, vals, World.block_lt_of_cell? W _ k0, fun w => index_runT a i len cap hi w, k0, k1, i1, i2, l1, l2⟩
end Go.Proofs.Ytdomincmoaahoaa.Rl
