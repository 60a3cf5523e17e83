/-
  A broadsidekeep.Pred that came in, opened: two lists of numbers. No condition beyond its reading.
  A broadsidekeep.Tuple that came in, opened: two lists of numbers. No condition beyond its reading.
-/
import Derived.Test.YtdomincmoaahoaaBc
import Derived.ChangeArms
namespace Go.Proofs.Ytdomincmoaahoaa.Pr
open Go.RowKit Go.ChangeShapes Go.WideShapes Go.Proofs.Ytdomincmoaahoaa.In

theorem cellsP : Try.prog.cellsOf 29 = 2 := by kernel_rfl
theorem cellsIs : Try.prog.cellsOf 27 = 1 := by kernel_rfl
set_option maxRecDepth 100000 in
theorem open_pred {H : Type} {enc : TypeId × Value → H} {W : World} {r : Reach} {b0 : Nat} {sp : Nat → Bool} {held : Bool} {v : Value} {d : DataW H} {ps : List MemPlace}
    (hval : Value.okWide Try.prog W r b0 29 v) (hd : DataW.Trod enc Try.prog W 0 sp held 29 v d ps) :
    ∃ (hv vv : Value) (has vals : List Int), v = .agg #[hv, vv] ∧ has.length ≤ maxLen ∧ vals.length ≤ maxLen ∧ InInts W hv has ∧ InInts W vv vals := by
  obtain ⟨cs, rfl, hsz⟩ := okWide_struct Try.underlying29 hval
  obtain ⟨fuel, hf⟩ := hd
  obtain ⟨xs, n, _, _, _, hxl, hx⟩ := DataW.trod_struct Try.underlying29 hf
  rw [cellsP] at hsz
  obtain ⟨l⟩ := cs
  match l, hsz with
  | [c0, c1], _ =>
    have f0 : DataW.trod enc Try.prog W 0 sp held n 27 (([c0, c1].drop 0).take (Try.prog.cellsOf 27)) = xs[0]? := hx 0 _ rfl
    have f1 : DataW.trod enc Try.prog W 0 sp held n 27 (([c0, c1].drop 1).take (Try.prog.cellsOf 27)) = xs[1]? := hx 1 _ rfl
    have hxl' : xs.length = 2 := hxl
    simp only [cellsIs, List.drop_zero, List.drop_succ_cons, List.take_succ_cons, List.take_zero] at f0 f1
    rw [List.getElem?_eq_getElem (by omega)] at f0 f1
    obtain ⟨has, h1, h2⟩ := in_trod f0
    obtain ⟨vals, h3, h4⟩ := in_trod f1
    exact ⟨c0, c1, has, vals, rfl, h1, h3, h2, h4⟩
end Go.Proofs.Ytdomincmoaahoaa.Pr

namespace Go.Proofs.Ytdomincmoaahoaa.At
open Go.RowKit Go.ChangeShapes Go.WideShapes Go.Proofs.Ytdomincmoaahoaa.In

theorem cellsK : Try.prog.cellsOf 30 = 2 := by kernel_rfl
theorem cellsIs : Try.prog.cellsOf 27 = 1 := by kernel_rfl
theorem open_tuple {H : Type} {enc : TypeId × Value → H} {W : World} {r : Reach} {b0 : Nat} {sp : Nat → Bool} {held : Bool} {v : Value} {d : DataW H} {ps : List MemPlace}
    (hval : Value.okWide Try.prog W r b0 30 v) (hd : DataW.Trod enc Try.prog W 0 sp held 30 v d ps) :
    ∃ (hv vv : Value) (has vals : List Int), v = .agg #[hv, vv] ∧ has.length ≤ maxLen ∧ vals.length ≤ maxLen ∧ InInts W hv has ∧ InInts W vv vals := by
  obtain ⟨cs, rfl, hsz⟩ := okWide_struct Try.underlying30 hval
  obtain ⟨fuel, hf⟩ := hd
  obtain ⟨xs, n, _, _, _, hxl, hx⟩ := DataW.trod_struct Try.underlying30 hf
  rw [cellsK] at hsz
  obtain ⟨l⟩ := cs
  match l, hsz with
  | [c0, c1], _ =>
    have f0 : DataW.trod enc Try.prog W 0 sp held n 27 (([c0, c1].drop 0).take (Try.prog.cellsOf 27)) = xs[0]? := hx 0 _ rfl
    have f1 : DataW.trod enc Try.prog W 0 sp held n 27 (([c0, c1].drop 1).take (Try.prog.cellsOf 27)) = xs[1]? := hx 1 _ rfl
    have hxl' : xs.length = 2 := hxl
    simp only [cellsIs, List.drop_zero, List.drop_succ_cons, List.take_succ_cons, List.take_zero] at f0 f1
    rw [List.getElem?_eq_getElem (by omega)] at f0 f1
    obtain ⟨has, h1, h2⟩ := in_trod f0
    obtain ⟨vals, h3, h4⟩ := in_trod f1
    exact ⟨c0, c1, has, vals, rfl, h1, h3, h2, h4⟩
end Go.Proofs.Ytdomincmoaahoaa.At
