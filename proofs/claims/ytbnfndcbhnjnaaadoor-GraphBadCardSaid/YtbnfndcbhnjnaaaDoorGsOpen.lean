/-
  Graphs that came in, opened: of numbers, and raw. No condition beyond its reading.
-/
import Derived.Test.YtbnfndcbhnjnaaaDoorBc
import Derived.Test.YtbnfndcbhnjnaaaDoorBk
import Derived.ChangeSlices
import Derived.ChangeArms
import Derived.OpenShut
import Derived.Deep.Slices
namespace Go.Proofs.YtbnfndcbhnjnaaaDoor.Gr
open Go.RowKit Go.ChangeShapes Go.WideShapes Go.Proofs.YtbnfndcbhnjnaaaDoor.In Go.Proofs.YtbnfndcbhnjnaaaDoor.Rw

theorem cellsGK : Tryd.prog.cellsOf 39 = 3 := by kernel_rfl
theorem cellsG : Tryd.prog.cellsOf 25 = 2 := by kernel_rfl
theorem cellsI2 : Tryd.prog.cellsOf 22 = 2 := by kernel_rfl
theorem cellsI2s : Tryd.prog.cellsOf 23 = 1 := by kernel_rfl
theorem cellsIn : Tryd.prog.cellsOf 3 = 1 := by kernel_rfl
theorem cellsIns : Tryd.prog.cellsOf 30 = 1 := by kernel_rfl
set_option maxRecDepth 100000 in
theorem open_graphK {H : Type} {enc : TypeId × Value → H} {W : World} {r : Reach} {b0 : Nat} {sp : Nat → Bool} {held : Bool} {v : Value} {d : DataW H} {ps : List MemPlace}
    (hval : Value.okWide Tryd.prog W r b0 39 v) (hd : DataW.Trod enc Tryd.prog W 0 sp held 39 v d ps) :
    ∃ (n : Int) (uv mv : Value) (us ms : List Int), v = .agg #[.int .i64 n, uv, mv] ∧ (Lit.int .i64 n).wf = true ∧ us.length ≤ maxLen ∧ ms.length ≤ maxLen ∧ InInts W uv us ∧ InInts W mv ms := by
  obtain ⟨cs, rfl, hsz⟩ := okWide_struct Tryd.underlying39 hval
  obtain ⟨fuel, hf⟩ := hd
  obtain ⟨xs, n, _, _, _, hxl, hx⟩ := DataW.trod_struct Tryd.underlying39 hf
  rw [cellsGK] at hsz
  obtain ⟨l⟩ := cs
  match l, hsz with
  | [c0, c1, c2], _ =>
    have f0 : DataW.trod enc Tryd.prog W 0 sp held n 3 (([c0, c1, c2].drop 0).take (Tryd.prog.cellsOf 3)) = xs[0]? := hx 0 _ rfl
    have f1 : DataW.trod enc Tryd.prog W 0 sp held n 30 (([c0, c1, c2].drop 1).take (Tryd.prog.cellsOf 30)) = xs[1]? := hx 1 _ rfl
    have f2 : DataW.trod enc Tryd.prog W 0 sp held n 30 (([c0, c1, c2].drop 2).take (Tryd.prog.cellsOf 30)) = xs[2]? := hx 2 _ rfl
    have hxl' : xs.length = 3 := hxl
    simp only [cellsIn, cellsIns, List.drop_zero, List.drop_succ_cons, List.take_succ_cons, List.take_zero] at f0 f1 f2
    rw [List.getElem?_eq_getElem (by omega)] at f0 f1 f2
    obtain ⟨m, e2, _, hw⟩ := DataW.trod_int Tryd.underlying3 f0
    obtain ⟨us, h1, h2⟩ := in_trod f1
    obtain ⟨ms, h3, h4⟩ := in_trod f2
    simp only [List.cons.injEq, and_true] at e2
    subst e2
    exact ⟨m, c1, c2, us, ms, rfl, hw, h1, h3, h2, h4⟩
set_option maxRecDepth 100000 in
theorem open_link {H : Type} {enc : TypeId × Value → H} {W : World} {sp : Nat → Bool} {held : Bool} {fuel : Nat} {cs : List Value} {x : DataW H × List MemPlace}
    (hf : DataW.trod enc Tryd.prog W 0 sp held fuel 22 cs = some x) : ∃ y : Lk, cs = cells2 y := by
  obtain ⟨xs, n, _, _, hcl, hxl, hx⟩ := DataW.trod_array Tryd.underlying22 hf
  rw [cellsI2] at hcl
  match cs, hcl with
  | [c0, c1], _ =>
    have f0 := hx 0 (by omega)
    have f1 := hx 1 (by omega)
    simp only [cellsIn, Nat.zero_mul, Nat.one_mul, List.drop_zero, List.drop_succ_cons, List.take_succ_cons, List.take_zero] at f0 f1
    rw [List.getElem?_eq_getElem (by omega)] at f0 f1
    obtain ⟨a, e0, _, _⟩ := DataW.trod_int Tryd.underlying3 f0
    obtain ⟨b, e1, _, _⟩ := DataW.trod_int Tryd.underlying3 f1
    simp only [List.cons.injEq, and_true] at e0 e1
    subst e0 e1
    exact ⟨(a, b), rfl⟩
theorem row_els2 {W : World} {a : Addr} {l : List Lk} (h : ∀ (i : Nat) (x : Lk), l[i]? = some x → ∀ j u, (cells2 x)[j]? = some u → W.cell? ((a.add (i * 2)).add j) = some u) : ∀ j u, (flat EK l)[j]? = some u → W.cell? (a.add j) = some u := by
  intro j u hj
  have hlt := (List.getElem?_eq_some_iff.1 hj).1
  rw [flat_length okK] at hlt
  have hlt : j < l.length * 2 := hlt
  have hx : l[j / 2]? = some l[j / 2] := List.getElem?_eq_getElem (by omega)
  have f := flat_at okK l (j / 2) _ hx (j % 2) (show j % 2 < 2 by omega)
  have f : (flat EK l)[j / 2 * 2 + j % 2]? = (cells2 l[j / 2])[j % 2]? := f
  have g := h (j / 2) _ hx (j % 2) u
  rw [add_add, show j / 2 * 2 + j % 2 = j by omega] at g
  rw [show j / 2 * 2 + j % 2 = j by omega, hj] at f
  exact g f.symm
set_option maxRecDepth 100000 in
theorem trod_links {H : Type} {enc : TypeId × Value → H} {W : World} {sp : Nat → Bool} {held : Bool} {fuel : Nat} {v : Value} {x : DataW H × List MemPlace}
    (hf : DataW.trod enc Tryd.prog W 0 sp held fuel 23 [v] = some x) : ∃ l : List Lk, RowK W v l := by
  rcases Deep.open_slice Tryd.underlying23 hf with ⟨h1, _⟩ | ⟨a, len, cap, m, n, D, Pl, h1, _, h3, h4, h5, _, hx⟩
  · have e : v = .slice none 0 0 := by simpa [Value.cells] using h1
    exact ⟨[], Or.inl ⟨rfl, e⟩⟩
  · have e : v = .slice (some a) len cap := by simpa [Value.cells] using h1
    rw [e]
    have hle : len ≤ m := by rw [h5]; split <;> omega
    obtain ⟨f, hF⟩ := Deep.choose_lt (α := Lk) (n := len) (p := fun i x => ∀ j u, (cells2 x)[j]? = some u → W.cell? ((a.add (i * 2)).add j) = some u) (fun i hi => by
      obtain ⟨cs', c1, c2⟩ := hx i (by omega)
      obtain ⟨y, rfl⟩ := open_link c2
      rw [cellsI2] at c1
      obtain ⟨_, _, k3⟩ := World.cells?_some c1
      exact ⟨y, fun j u hj => by
        have := k3 j (by have := (List.getElem?_eq_some_iff.1 hj).1; simpa [cells2] using this)
        rw [this, hj]⟩)
    refine ⟨(List.range len).map f, Or.inr ⟨a, cap, by simp, by simpa using h3, h4, row_els2 fun i x hi => ?_⟩⟩
    obtain ⟨hlt, rfl⟩ := List.getElem?_eq_some_iff.1 hi
    simp at hlt
    simpa using hF i hlt
set_option maxRecDepth 100000 in
theorem open_graph {H : Type} {enc : TypeId × Value → H} {W : World} {r : Reach} {b0 : Nat} {sp : Nat → Bool} {held : Bool} {v : Value} {d : DataW H} {ps : List MemPlace}
    (hval : Value.okWide Tryd.prog W r b0 25 v) (hd : DataW.Trod enc Tryd.prog W 0 sp held 25 v d ps) :
    ∃ (n : Int) (lv : Value) (l : List Lk), v = .agg #[.int .i64 n, lv] ∧ (Lit.int .i64 n).wf = true ∧ RowK W lv l := by
  obtain ⟨cs, rfl, hsz⟩ := okWide_struct Tryd.underlying25 hval
  obtain ⟨fuel, hf⟩ := hd
  obtain ⟨xs, n, _, _, _, hxl, hx⟩ := DataW.trod_struct Tryd.underlying25 hf
  rw [cellsG] at hsz
  obtain ⟨l⟩ := cs
  match l, hsz with
  | [c0, c1], _ =>
    have f0 : DataW.trod enc Tryd.prog W 0 sp held n 3 (([c0, c1].drop 0).take (Tryd.prog.cellsOf 3)) = xs[0]? := hx 0 _ rfl
    have f1 : DataW.trod enc Tryd.prog W 0 sp held n 23 (([c0, c1].drop 1).take (Tryd.prog.cellsOf 23)) = xs[1]? := hx 1 _ rfl
    have hxl' : xs.length = 2 := hxl
    simp only [cellsIn, cellsI2s, List.drop_zero, List.drop_succ_cons, List.take_succ_cons, List.take_zero] at f0 f1
    rw [List.getElem?_eq_getElem (by omega)] at f0 f1
    obtain ⟨m, e2, _, hw⟩ := DataW.trod_int Tryd.underlying3 f0
    obtain ⟨ls, h1⟩ := trod_links f1
    simp only [List.cons.injEq, and_true] at e2
    subst e2
    exact ⟨m, c1, ls, rfl, hw, h1⟩
end Go.Proofs.YtbnfndcbhnjnaaaDoor.Gr
