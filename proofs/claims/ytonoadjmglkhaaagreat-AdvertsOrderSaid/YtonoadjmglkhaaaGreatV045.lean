/-
  Arguments of a row: a value of package api opened into its three fields; arguments that read as they read before, where a call has only added memory. No other condition.
  A broadsidekeep.Pred that came in, opened: two lists of numbers. No condition beyond its reading.
-/
import Derived.Test.YtonoadjmglkhaaaGreatProg
import Derived.WalkKit
import Derived.ProofKit
import Derived.OpenShut
import Derived.Carry
import Derived.ChangeMaps5
import Derived.ChangeArms
import Derived.Test.YtonoadjmglkhaaaGreatV023
namespace Go.Proofs.YtonoadjmglkhaaaGreat.Ar
open Go.ChangeShapes Go.WideShapes Go.RowKit

/-- Are these types readable rows of the program? -/
def readable (P : Program) (ts : List TypeId) : Bool := ts.all fun t => P.readableRec t && decide (t < P.types.size)
theorem carry {H : Type} {enc : TypeId × Value → H} {P : Program} (hl : laidOutB P = true) {W W' : World} (hb : Below W.heap.size W W') :
    ∀ (ts : List TypeId) (vs : List Value) (ds : List (DataW H)) (ps : List MemPlace), readable P ts = true → DataW.TrodAll enc P W 0 (fun _ => true) true ts vs ds ps → (∀ x ∈ ps, x.block < W.heap.size) →
      DataW.TrodAll enc P W' 0 (fun b => decide (b < W.heap.size)) true ts vs ds ps
  | [], vs, ds, ps, _, h, _ => by
    obtain ⟨rfl, rfl, rfl⟩ := trodAll_nil h
    exact trodAll_mk0
  | t :: ts, vs, ds, ps, hr, h, hlt => by
    obtain ⟨v, vs', d, ds', p, q, rfl, rfl, rfl, h1, h2⟩ := trodAll_cons h
    simp only [readable, List.all_cons, Bool.and_eq_true, decide_eq_true_eq] at hr
    exact trodAll_cons_mk (Below.trod hl hr.1.1 hr.1.2 h1 hb (fun x hx => hlt x (List.mem_append_left _ hx)))
      (carry hl hb ts vs' ds' q hr.2 h2 (fun x hx => hlt x (List.mem_append_right _ hx)))

theorem cellsV : Tryz.prog.cellsOf 188 = 3 := by kernel_rfl
theorem cellsBool : Tryz.prog.cellsOf 4 = 1 := by kernel_rfl
theorem cellsInt : Tryz.prog.cellsOf 3 = 1 := by kernel_rfl
theorem cellsStr : Tryz.prog.cellsOf 9 = 1 := by kernel_rfl
set_option maxRecDepth 100000 in
theorem open_value {H : Type} {enc : TypeId × Value → H} {W : World} {r : Reach} {b0 base : Nat} {sp : Nat → Bool} {held : Bool} {v : Value} {d : DataW H} {ps : List MemPlace}
    (hval : Value.okWide Tryz.prog W r b0 188 v) (hd : DataW.Trod enc Tryz.prog W base sp held 188 v d ps) :
    ∃ (t : Bool) (n : Int) (s : ByteArray), v = .agg #[.bool t, .int .i64 n, .string s] ∧ (Lit.int .i64 n).wf = true ∧ s.size ≤ maxLen := by
  obtain ⟨cs, rfl, hsz⟩ := okWide_struct Tryz.underlying188 hval
  obtain ⟨fuel, hf⟩ := hd
  obtain ⟨xs, n, _, _, _, hxl, hx⟩ := DataW.trod_struct Tryz.underlying188 hf
  rw [cellsV] at hsz
  obtain ⟨l⟩ := cs
  match l, hsz with
  | [c0, c1, c2], _ =>
    have f0 : DataW.trod enc Tryz.prog W base sp held n 4 (([c0, c1, c2].drop 0).take (Tryz.prog.cellsOf 4)) = xs[0]? := hx 0 _ rfl
    have f1 : DataW.trod enc Tryz.prog W base sp held n 3 (([c0, c1, c2].drop 1).take (Tryz.prog.cellsOf 3)) = xs[1]? := hx 1 _ rfl
    have f2 : DataW.trod enc Tryz.prog W base sp held n 9 (([c0, c1, c2].drop 2).take (Tryz.prog.cellsOf 9)) = xs[2]? := hx 2 _ rfl
    have hxl' : xs.length = 3 := hxl
    simp only [cellsBool, cellsInt, cellsStr, List.drop_zero, List.drop_succ_cons, List.take_succ_cons, List.take_zero] at f0 f1 f2
    rw [List.getElem?_eq_getElem (by omega)] at f0 f1 f2
    obtain ⟨b, e0, _⟩ := DataW.trod_bool Tryz.underlying4 f0
    obtain ⟨m, e1, _, hw⟩ := DataW.trod_int Tryz.underlying3 f1
    obtain ⟨s, e2, _, hs⟩ := DataW.trod_string Tryz.underlying9 f2
    simp only [List.cons.injEq, and_true] at e0 e1 e2
    subst e0 e1 e2
    exact ⟨b, m, s, rfl, hw, hs⟩
end Go.Proofs.YtonoadjmglkhaaaGreat.Ar

namespace Go.Proofs.YtonoadjmglkhaaaGreat.Pr
open Go.RowKit Go.ChangeShapes Go.WideShapes Go.Proofs.YtonoadjmglkhaaaGreat.In

theorem cellsP : Tryz.prog.cellsOf 32 = 2 := by kernel_rfl
theorem cellsIs : Tryz.prog.cellsOf 23 = 1 := by kernel_rfl
set_option maxRecDepth 100000 in
theorem open_pred {H : Type} {enc : TypeId × Value → H} {W : World} {r : Reach} {b0 : Nat} {sp : Nat → Bool} {held : Bool} {v : Value} {d : DataW H} {ps : List MemPlace}
    (hval : Value.okWide Tryz.prog W r b0 32 v) (hd : DataW.Trod enc Tryz.prog W 0 sp held 32 v d ps) :
    ∃ (hv vv : Value) (has vals : List Int), v = .agg #[hv, vv] ∧ has.length ≤ maxLen ∧ vals.length ≤ maxLen ∧ InInts W hv has ∧ InInts W vv vals := by
  obtain ⟨cs, rfl, hsz⟩ := okWide_struct Tryz.underlying32 hval
  obtain ⟨fuel, hf⟩ := hd
  obtain ⟨xs, n, _, _, _, hxl, hx⟩ := DataW.trod_struct Tryz.underlying32 hf
  rw [cellsP] at hsz
  obtain ⟨l⟩ := cs
  match l, hsz with
  | [c0, c1], _ =>
    have f0 : DataW.trod enc Tryz.prog W 0 sp held n 23 (([c0, c1].drop 0).take (Tryz.prog.cellsOf 23)) = xs[0]? := hx 0 _ rfl
    have f1 : DataW.trod enc Tryz.prog W 0 sp held n 23 (([c0, c1].drop 1).take (Tryz.prog.cellsOf 23)) = xs[1]? := hx 1 _ rfl
    have hxl' : xs.length = 2 := hxl
    simp only [cellsIs, List.drop_zero, List.drop_succ_cons, List.take_succ_cons, List.take_zero] at f0 f1
    rw [List.getElem?_eq_getElem (by omega)] at f0 f1
    obtain ⟨has, h1, h2⟩ := in_trod f0
    obtain ⟨vals, h3, h4⟩ := in_trod f1
    exact ⟨c0, c1, has, vals, rfl, h1, h3, h2, h4⟩
end Go.Proofs.YtonoadjmglkhaaaGreat.Pr
