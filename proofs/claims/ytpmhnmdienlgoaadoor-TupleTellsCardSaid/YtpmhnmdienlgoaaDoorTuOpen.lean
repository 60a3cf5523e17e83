/-
  A list of attributes that came in, opened. No condition beyond its reading.
-/
import Derived.Test.YtpmhnmdienlgoaaDoorAtBase
import Derived.Test.YtpmhnmdienlgoaaDoorAr
import Derived.ChangeSlices
import Derived.ChangeArms
import Derived.Deep.Slices
namespace Go.Proofs.YtpmhnmdienlgoaaDoor.At
open Go.RowKit Go.ChangeShapes Go.WideShapes Go.Proofs.YtpmhnmdienlgoaaDoor.Va

theorem cellsOfA : Tryd.prog.cellsOf 25 = 4 := by kernel_rfl
theorem row_els {W : World} {a : Addr} {l : List A4} (h : ∀ (i : Nat) (x : A4), l[i]? = some x → ∀ j u, (cellsA x)[j]? = some u → W.cell? ((a.add (i * 4)).add j) = some u) : ∀ j u, (flatA l)[j]? = some u → W.cell? (a.add j) = some u := by
  intro j u hj
  have hlt := (List.getElem?_eq_some_iff.1 hj).1
  rw [flatA_length] at hlt
  have hx : l[j / 4]? = some l[j / 4] := List.getElem?_eq_getElem (by omega)
  have f := flatA_at l (j / 4) _ hx
  have g := h (j / 4) _ hx (j % 4) u
  rw [add_add, show j / 4 * 4 + j % 4 = j by omega] at g
  refine g ?_
  have h4 : j % 4 = 0 ∨ j % 4 = 1 ∨ j % 4 = 2 ∨ j % 4 = 3 := by omega
  rw [← hj]
  rcases h4 with h4 | h4 | h4 | h4
  · rw [h4, show (flatA l)[j]? = (flatA l)[j / 4 * 4]? by rw [show j / 4 * 4 = j by omega], f.1]; rfl
  · rw [h4, show (flatA l)[j]? = (flatA l)[j / 4 * 4 + 1]? by rw [show j / 4 * 4 + 1 = j by omega], f.2.1]; rfl
  · rw [h4, show (flatA l)[j]? = (flatA l)[j / 4 * 4 + 2]? by rw [show j / 4 * 4 + 2 = j by omega], f.2.2.1]; rfl
  · rw [h4, show (flatA l)[j]? = (flatA l)[j / 4 * 4 + 3]? by rw [show j / 4 * 4 + 3 = j by omega], f.2.2.2]; rfl
theorem open_attr {H : Type} {enc : TypeId × Value → H} {W : World} {sp : Nat → Bool} {held : Bool} {fuel : Nat} {cs : List Value} {x : DataW H × List MemPlace}
    (hf : DataW.trod enc Tryd.prog W 0 sp held fuel 25 cs = some x) : ∃ y : A4, cs = cellsA y ∧ y.1.size ≤ maxLen ∧ y.2.2.2.size ≤ maxLen ∧ (Lit.int .i64 y.2.2.1).wf = true := by
  obtain ⟨xs, n, _, _, hcl, hxl, hx⟩ := DataW.trod_struct Tryd.underlying25 hf
  rw [cellsOfA] at hcl
  match cs, hcl with
  | [c0, c1, c2, c3], _ =>
    have f0 : DataW.trod enc Tryd.prog W 0 sp held n 9 (([c0, c1, c2, c3].drop 0).take (Tryd.prog.cellsOf 9)) = xs[0]? := hx 0 _ rfl
    have f1 : DataW.trod enc Tryd.prog W 0 sp held n 23 (([c0, c1, c2, c3].drop 1).take (Tryd.prog.cellsOf 23)) = xs[1]? := hx 1 _ rfl
    have hxl' : xs.length = 2 := hxl
    simp only [Ar.cellsStr, Ar.cellsV, List.drop_zero, List.drop_succ_cons, List.take_succ_cons, List.take_zero] at f0 f1
    rw [List.getElem?_eq_getElem (by omega)] at f0 f1
    obtain ⟨ys, n2, _, _, _, hyl, hy⟩ := DataW.trod_struct Tryd.underlying23 f1
    have g0 : DataW.trod enc Tryd.prog W 0 sp held n2 4 (([c1, c2, c3].drop 0).take (Tryd.prog.cellsOf 4)) = ys[0]? := hy 0 _ rfl
    have g1 : DataW.trod enc Tryd.prog W 0 sp held n2 3 (([c1, c2, c3].drop 1).take (Tryd.prog.cellsOf 3)) = ys[1]? := hy 1 _ rfl
    have g2 : DataW.trod enc Tryd.prog W 0 sp held n2 9 (([c1, c2, c3].drop 2).take (Tryd.prog.cellsOf 9)) = ys[2]? := hy 2 _ rfl
    have hyl' : ys.length = 3 := hyl
    simp only [Ar.cellsBool, Ar.cellsInt, Ar.cellsStr, List.drop_zero, List.drop_succ_cons, List.take_succ_cons, List.take_zero] at g0 g1 g2
    rw [List.getElem?_eq_getElem (by omega)] at g0 g1 g2
    obtain ⟨s0, e0, _, h0⟩ := DataW.trod_string Tryd.underlying9 f0
    obtain ⟨b, e1, _⟩ := DataW.trod_bool Tryd.underlying4 g0
    obtain ⟨m, e2, _, hw⟩ := DataW.trod_int Tryd.underlying3 g1
    obtain ⟨s, e3, _, hs⟩ := DataW.trod_string Tryd.underlying9 g2
    simp only [List.cons.injEq, and_true] at e0 e1 e2 e3
    subst e0 e1 e2 e3
    exact ⟨(s0, b, m, s), rfl, h0, hs, hw⟩
theorem open_attrs {H : Type} {enc : TypeId × Value → H} {W : World} {r : Reach} {b0 : Nat} {sp : Nat → Bool} {held : Bool} {v : Value} {d : DataW H} {ps : List MemPlace}
    (hval : Value.okWide Tryd.prog W r b0 26 v) (hd : DataW.Trod enc Tryd.prog W 0 sp held 26 v d ps) :
    ∃ l : List A4, RowA W v l ∧ l.length ≤ maxLen ∧ ∀ x ∈ l, x.1.size ≤ maxLen ∧ x.2.2.2.size ≤ maxLen := by
  obtain ⟨ao, al, ac, rfl⟩ := okWide_slice Tryd.underlying26 hval
  obtain ⟨fuel, hf⟩ := hd
  rcases Deep.open_slice Tryd.underlying26 hf with ⟨h1, _⟩ | ⟨a, len, cap, m, n, D, Pl, h1, _, h3, h4, h5, _, hx⟩
  · have e : Value.slice ao al ac = .slice none 0 0 := by simpa [Value.cells] using h1
    exact ⟨[], Or.inl ⟨rfl, e⟩, Nat.zero_le _, fun x hx => by cases hx⟩
  · have e : Value.slice ao al ac = .slice (some a) len cap := by simpa [Value.cells] using h1
    rw [e]
    have hle : len ≤ m := by rw [h5]; split <;> omega
    obtain ⟨f, hF⟩ := Deep.choose_lt (α := A4) (n := len) (p := fun i x => (∀ j u, (cellsA x)[j]? = some u → W.cell? ((a.add (i * 4)).add j) = some u) ∧ x.1.size ≤ maxLen ∧ x.2.2.2.size ≤ maxLen) (fun i hi => by
      obtain ⟨cs', c1, c2⟩ := hx i (by omega)
      obtain ⟨y, rfl, y1, y2, _⟩ := open_attr c2
      rw [cellsOfA] at c1
      obtain ⟨_, _, k3⟩ := World.cells?_some c1
      exact ⟨y, fun j u hj => by
        have := k3 j (by have := (List.getElem?_eq_some_iff.1 hj).1; simpa [cellsA] using this)
        rw [this, hj], y1, y2⟩)
    refine ⟨(List.range len).map f, Or.inr ⟨a, cap, by simp, by simpa using h3, h4, row_els fun i x hi => ?_⟩, by simp; omega, fun x hx => ?_⟩
    · obtain ⟨hlt, rfl⟩ := List.getElem?_eq_some_iff.1 hi
      simp at hlt
      simpa using (hF i hlt).1
    · obtain ⟨i, hi, rfl⟩ := List.mem_map.1 hx
      exact (hF i (List.mem_range.1 hi)).2
end Go.Proofs.YtpmhnmdienlgoaaDoor.At
