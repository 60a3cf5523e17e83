/-
  Numbers of which a message is made, and messages, that came in, opened. No condition beyond their reading.
  The region of tame in which both lists are cloned. Condition: lists no longer than a machine holds.
-/
import Derived.Test.YtfcgfnmokbbcaaaDoorU037
import Derived.Test.YtfcgfnmokbbcaaaDoorU020
import Derived.Test.YtfcgfnmokbbcaaaDoorU039
import Derived.ChangeSlices
import Derived.ChangeArms
import Derived.OpenShut
import Derived.Deep.Slices
import Derived.Test.YtfcgfnmokbbcaaaDoorU002
import Derived.Test.YtfcgfnmokbbcaaaDoorU003
namespace Go.Proofs.YtfcgfnmokbbcaaaDoor.Ws
open Go.RowKit Go.ChangeShapes Go.WideShapes Go.Proofs.YtfcgfnmokbbcaaaDoor Go.Proofs.YtfcgfnmokbbcaaaDoor.In Go.Proofs.YtfcgfnmokbbcaaaDoor.Rw Go.Proofs.YtfcgfnmokbbcaaaDoor.Wr Go.Proofs.YtfcgfnmokbbcaaaDoor.At Go.Proofs.YtfcgfnmokbbcaaaDoor.Pr

theorem litBd {n : Int} (h : (Lit.int .i64 n).wf = true) : I64 n := by
  have h2 : (decide (IntKind.i64.min ≤ n) && decide (n ≤ IntKind.i64.max)) = true := h
  rw [Bool.and_eq_true, decide_eq_true_eq, decide_eq_true_eq, show IntKind.i64.min = -9223372036854775808 by decide, show IntKind.i64.max = 9223372036854775807 by decide] at h2
  exact h2
theorem cellsKg : Tryd.prog.cellsOf 42 = 9 := by kernel_rfl
theorem cellsMg : Tryd.prog.cellsOf 32 = 7 := by kernel_rfl
theorem cellsK : Tryd.prog.cellsOf 40 = 2 := by kernel_rfl
theorem cellsP : Tryd.prog.cellsOf 39 = 2 := by kernel_rfl
theorem cellsID : Tryd.prog.cellsOf 28 = 2 := by kernel_rfl
theorem cellsC : Tryd.prog.cellsOf 57 = 5 := by kernel_rfl
theorem cellsA4 : Tryd.prog.cellsOf 61 = 4 := by kernel_rfl
theorem cellsV : Tryd.prog.cellsOf 59 = 3 := by kernel_rfl
theorem cellsIn : Tryd.prog.cellsOf 3 = 1 := by kernel_rfl
theorem cellsIns : Tryd.prog.cellsOf 37 = 1 := by kernel_rfl
theorem cellsCs : Tryd.prog.cellsOf 29 = 1 := by kernel_rfl
theorem cellsAs : Tryd.prog.cellsOf 30 = 1 := by kernel_rfl
theorem cellsStr : Tryd.prog.cellsOf 9 = 1 := by kernel_rfl
theorem cellsBool : Tryd.prog.cellsOf 4 = 1 := by kernel_rfl
set_option maxRecDepth 100000 in
theorem trod_two {H : Type} {enc : TypeId × Value → H} {W : World} {sp : Nat → Bool} {held : Bool} {fuel : Nat} {c0 c1 : Value} {x : DataW H × List MemPlace}
    (hf : DataW.trod enc Tryd.prog W 0 sp held fuel 40 [c0, c1] = some x) :
    ∃ (has vals : List Int), has.length ≤ maxLen ∧ vals.length ≤ maxLen ∧ InInts W c0 has ∧ InInts W c1 vals := by
  obtain ⟨xs, n, _, _, _, hxl, hx⟩ := DataW.trod_struct Tryd.underlying40 hf
  have f0 : DataW.trod enc Tryd.prog W 0 sp held n 37 (([c0, c1].drop 0).take (Tryd.prog.cellsOf 37)) = xs[0]? := hx 0 _ rfl
  have f1 : DataW.trod enc Tryd.prog W 0 sp held n 37 (([c0, c1].drop 1).take (Tryd.prog.cellsOf 37)) = xs[1]? := hx 1 _ rfl
  have hxl' : xs.length = 2 := hxl
  simp only [cellsIns, List.drop_zero, List.drop_succ_cons, List.take_succ_cons, List.take_zero] at f0 f1
  rw [List.getElem?_eq_getElem (by omega)] at f0 f1
  obtain ⟨has, h1, h2⟩ := in_trod f0
  obtain ⟨vals, h3, h4⟩ := in_trod f1
  exact ⟨has, vals, h1, h3, h2, h4⟩
set_option maxRecDepth 100000 in
theorem trod_twoP {H : Type} {enc : TypeId × Value → H} {W : World} {sp : Nat → Bool} {held : Bool} {fuel : Nat} {c0 c1 : Value} {x : DataW H × List MemPlace}
    (hf : DataW.trod enc Tryd.prog W 0 sp held fuel 39 [c0, c1] = some x) :
    ∃ (has vals : List Int), has.length ≤ maxLen ∧ vals.length ≤ maxLen ∧ InInts W c0 has ∧ InInts W c1 vals := by
  obtain ⟨xs, n, _, _, _, hxl, hx⟩ := DataW.trod_struct Tryd.underlying39 hf
  have f0 : DataW.trod enc Tryd.prog W 0 sp held n 37 (([c0, c1].drop 0).take (Tryd.prog.cellsOf 37)) = xs[0]? := hx 0 _ rfl
  have f1 : DataW.trod enc Tryd.prog W 0 sp held n 37 (([c0, c1].drop 1).take (Tryd.prog.cellsOf 37)) = xs[1]? := hx 1 _ rfl
  have hxl' : xs.length = 2 := hxl
  simp only [cellsIns, List.drop_zero, List.drop_succ_cons, List.take_succ_cons, List.take_zero] at f0 f1
  rw [List.getElem?_eq_getElem (by omega)] at f0 f1
  obtain ⟨has, h1, h2⟩ := in_trod f0
  obtain ⟨vals, h3, h4⟩ := in_trod f1
  exact ⟨has, vals, h1, h3, h2, h4⟩
set_option maxRecDepth 100000 in
theorem open_kg {H : Type} {enc : TypeId × Value → H} {W : World} {r : Reach} {b0 : Nat} {sp : Nat → Bool} {held : Bool} {v : Value} {d : DataW H} {ps : List MemPlace}
    (hval : Value.okWide Tryd.prog W r b0 42 v) (hd : DataW.Trod enc Tryd.prog W 0 sp held 42 v d ps) :
    ∃ (g : Kg) (a b c e : Value), v = kgv g a b c e ∧ KgIn W g a b c e := by
  obtain ⟨cs, rfl, hsz⟩ := okWide_struct Tryd.underlying42 hval
  obtain ⟨fuel, hf⟩ := hd
  obtain ⟨xs, n, _, _, _, hxl, hx⟩ := DataW.trod_struct Tryd.underlying42 hf
  rw [cellsKg] at hsz
  obtain ⟨l⟩ := cs
  match l, hsz with
  | [c0, c1, c2, c3, c4, c5, c6, c7, c8], _ =>
    have f0 : DataW.trod enc Tryd.prog W 0 sp held n 3 (([c0, c1, c2, c3, c4, c5, c6, c7, c8].drop 0).take (Tryd.prog.cellsOf 3)) = xs[0]? := hx 0 _ rfl
    have f1 : DataW.trod enc Tryd.prog W 0 sp held n 3 (([c0, c1, c2, c3, c4, c5, c6, c7, c8].drop 1).take (Tryd.prog.cellsOf 3)) = xs[1]? := hx 1 _ rfl
    have f2 : DataW.trod enc Tryd.prog W 0 sp held n 3 (([c0, c1, c2, c3, c4, c5, c6, c7, c8].drop 2).take (Tryd.prog.cellsOf 3)) = xs[2]? := hx 2 _ rfl
    have f3 : DataW.trod enc Tryd.prog W 0 sp held n 3 (([c0, c1, c2, c3, c4, c5, c6, c7, c8].drop 3).take (Tryd.prog.cellsOf 3)) = xs[3]? := hx 3 _ rfl
    have f4 : DataW.trod enc Tryd.prog W 0 sp held n 3 (([c0, c1, c2, c3, c4, c5, c6, c7, c8].drop 4).take (Tryd.prog.cellsOf 3)) = xs[4]? := hx 4 _ rfl
    have f5 : DataW.trod enc Tryd.prog W 0 sp held n 39 (([c0, c1, c2, c3, c4, c5, c6, c7, c8].drop 5).take (Tryd.prog.cellsOf 39)) = xs[5]? := hx 5 _ rfl
    have f6 : DataW.trod enc Tryd.prog W 0 sp held n 40 (([c0, c1, c2, c3, c4, c5, c6, c7, c8].drop 7).take (Tryd.prog.cellsOf 40)) = xs[6]? := hx 6 _ rfl
    have hxl' : xs.length = 7 := hxl
    simp only [cellsIn, cellsK, cellsP, List.drop_zero, List.drop_succ_cons, List.take_succ_cons, List.take_zero] at f0 f1 f2 f3 f4 f5 f6
    rw [List.getElem?_eq_getElem (by omega)] at f0 f1 f2 f3 f4 f5 f6
    obtain ⟨m0, e0, _, w0⟩ := DataW.trod_int Tryd.underlying3 f0
    obtain ⟨m1, e1, _, w1⟩ := DataW.trod_int Tryd.underlying3 f1
    obtain ⟨m2, e2, _, w2⟩ := DataW.trod_int Tryd.underlying3 f2
    obtain ⟨m3, e3, _, w3⟩ := DataW.trod_int Tryd.underlying3 f3
    obtain ⟨m4, e4, _, w4⟩ := DataW.trod_int Tryd.underlying3 f4
    obtain ⟨ph, pv, l1, l2, i1, i2⟩ := trod_twoP f5
    obtain ⟨th, tv, l3, l4, i3, i4⟩ := trod_two f6
    simp only [List.cons.injEq, and_true] at e0 e1 e2 e3 e4
    subst e0 e1 e2 e3 e4
    exact ⟨⟨m0, m1, m2, m3, m4, ph, pv, th, tv⟩, c5, c6, c7, c8, rfl, ⟨litBd w0, litBd w1, litBd w2, litBd w3, litBd w4, i1, i2, i3, i4, l1, l2, l3, l4⟩⟩
/-- The elements of a row, one by one. -/
theorem row_els {α : Type} {E : Ek α} (K : E.Ok) {W : World} {a : Addr} {l : List α} (h : ∀ (i : Nat) (x : α), l[i]? = some x → ∀ j u, (E.cells x)[j]? = some u → W.cell? ((a.add (i * E.n)).add j) = some u) : ∀ j u, (flat E l)[j]? = some u → W.cell? (a.add j) = some u := by
  intro j u hj
  have hlt := (List.getElem?_eq_some_iff.1 hj).1
  rw [flat_length K] at hlt
  have hp := K.pos
  have hq : j / E.n < l.length := Nat.div_lt_of_lt_mul (by rw [Nat.mul_comm]; exact hlt)
  have hm : j / E.n * E.n + j % E.n = j := by rw [Nat.mul_comm]; exact Nat.div_add_mod j E.n
  have hx : l[j / E.n]? = some l[j / E.n] := List.getElem?_eq_getElem hq
  have f := flat_at K l (j / E.n) _ hx (j % E.n) (Nat.mod_lt _ hp)
  have g := h (j / E.n) _ hx (j % E.n) u
  rw [Rw.add_add, hm] at g
  rw [hm, hj] at f
  exact g f.symm
set_option maxRecDepth 100000 in
theorem open_con {H : Type} {enc : TypeId × Value → H} {W : World} {sp : Nat → Bool} {held : Bool} {fuel : Nat} {cs : List Value} {x : DataW H × List MemPlace}
    (hf : DataW.trod enc Tryd.prog W 0 sp held fuel 57 cs = some x) : ∃ y : C5, cs = cells5 y ∧ y.1.size ≤ maxLen ∧ y.2.2.2.2.size ≤ maxLen ∧ I64 y.2.1 ∧ I64 y.2.2.1 ∧ I64 y.2.2.2.1 := by
  obtain ⟨xs, n, _, _, hcl, hxl, hx⟩ := DataW.trod_struct Tryd.underlying57 hf
  rw [cellsC] at hcl
  match cs, hcl with
  | [c0, c1, c2, c3, c4], _ =>
    have f0 : DataW.trod enc Tryd.prog W 0 sp held n 9 (([c0, c1, c2, c3, c4].drop 0).take (Tryd.prog.cellsOf 9)) = xs[0]? := hx 0 _ rfl
    have f1 : DataW.trod enc Tryd.prog W 0 sp held n 3 (([c0, c1, c2, c3, c4].drop 1).take (Tryd.prog.cellsOf 3)) = xs[1]? := hx 1 _ rfl
    have f2 : DataW.trod enc Tryd.prog W 0 sp held n 3 (([c0, c1, c2, c3, c4].drop 2).take (Tryd.prog.cellsOf 3)) = xs[2]? := hx 2 _ rfl
    have f3 : DataW.trod enc Tryd.prog W 0 sp held n 3 (([c0, c1, c2, c3, c4].drop 3).take (Tryd.prog.cellsOf 3)) = xs[3]? := hx 3 _ rfl
    have f4 : DataW.trod enc Tryd.prog W 0 sp held n 9 (([c0, c1, c2, c3, c4].drop 4).take (Tryd.prog.cellsOf 9)) = xs[4]? := hx 4 _ rfl
    have hxl' : xs.length = 5 := hxl
    simp only [cellsStr, cellsIn, List.drop_zero, List.drop_succ_cons, List.take_succ_cons, List.take_zero] at f0 f1 f2 f3 f4
    rw [List.getElem?_eq_getElem (by omega)] at f0 f1 f2 f3 f4
    obtain ⟨s0, e0, _, h0⟩ := DataW.trod_string Tryd.underlying9 f0
    obtain ⟨m1, e1, _, w1⟩ := DataW.trod_int Tryd.underlying3 f1
    obtain ⟨m2, e2, _, w2⟩ := DataW.trod_int Tryd.underlying3 f2
    obtain ⟨m3, e3, _, w3⟩ := DataW.trod_int Tryd.underlying3 f3
    obtain ⟨s4, e4, _, h4⟩ := DataW.trod_string Tryd.underlying9 f4
    simp only [List.cons.injEq, and_true] at e0 e1 e2 e3 e4
    subst e0 e1 e2 e3 e4
    exact ⟨(s0, m1, m2, m3, s4), rfl, h0, h4, litBd w1, litBd w2, litBd w3⟩
set_option maxRecDepth 100000 in
theorem open_att {H : Type} {enc : TypeId × Value → H} {W : World} {sp : Nat → Bool} {held : Bool} {fuel : Nat} {cs : List Value} {x : DataW H × List MemPlace}
    (hf : DataW.trod enc Tryd.prog W 0 sp held fuel 61 cs = some x) : ∃ y : A4, cs = cellsA y ∧ y.1.size ≤ maxLen ∧ y.2.2.2.size ≤ maxLen ∧ I64 y.2.2.1 := by
  obtain ⟨xs, n, _, _, hcl, hxl, hx⟩ := DataW.trod_struct Tryd.underlying61 hf
  rw [cellsA4] at hcl
  match cs, hcl with
  | [c0, c1, c2, c3], _ =>
    have f0 : DataW.trod enc Tryd.prog W 0 sp held n 9 (([c0, c1, c2, c3].drop 0).take (Tryd.prog.cellsOf 9)) = xs[0]? := hx 0 _ rfl
    have f1 : DataW.trod enc Tryd.prog W 0 sp held n 59 (([c0, c1, c2, c3].drop 1).take (Tryd.prog.cellsOf 59)) = xs[1]? := hx 1 _ rfl
    have hxl' : xs.length = 2 := hxl
    simp only [cellsStr, cellsV, List.drop_zero, List.drop_succ_cons, List.take_succ_cons, List.take_zero] at f0 f1
    rw [List.getElem?_eq_getElem (by omega)] at f0 f1
    obtain ⟨ys, n2, _, _, _, hyl, hy⟩ := DataW.trod_struct Tryd.underlying59 f1
    have g0 : DataW.trod enc Tryd.prog W 0 sp held n2 4 (([c1, c2, c3].drop 0).take (Tryd.prog.cellsOf 4)) = ys[0]? := hy 0 _ rfl
    have g1 : DataW.trod enc Tryd.prog W 0 sp held n2 3 (([c1, c2, c3].drop 1).take (Tryd.prog.cellsOf 3)) = ys[1]? := hy 1 _ rfl
    have g2 : DataW.trod enc Tryd.prog W 0 sp held n2 9 (([c1, c2, c3].drop 2).take (Tryd.prog.cellsOf 9)) = ys[2]? := hy 2 _ rfl
    have hyl' : ys.length = 3 := hyl
    simp only [cellsBool, cellsIn, cellsStr, List.drop_zero, List.drop_succ_cons, List.take_succ_cons, List.take_zero] at g0 g1 g2
    rw [List.getElem?_eq_getElem (by omega)] at g0 g1 g2
    obtain ⟨s0, e0, _, h0⟩ := DataW.trod_string Tryd.underlying9 f0
    obtain ⟨b, e1, _⟩ := DataW.trod_bool Tryd.underlying4 g0
    obtain ⟨m, e2, _, hw⟩ := DataW.trod_int Tryd.underlying3 g1
    obtain ⟨s, e3, _, hs⟩ := DataW.trod_string Tryd.underlying9 g2
    simp only [List.cons.injEq, and_true] at e0 e1 e2 e3
    subst e0 e1 e2 e3
    exact ⟨(s0, b, m, s), rfl, h0, hs, litBd hw⟩
set_option maxRecDepth 100000 in
theorem trod_cons {H : Type} {enc : TypeId × Value → H} {W : World} {sp : Nat → Bool} {held : Bool} {fuel : Nat} {v : Value} {x : DataW H × List MemPlace}
    (hf : DataW.trod enc Tryd.prog W 0 sp held fuel 29 [v] = some x) : ∃ l : List C5, RowC W v l ∧ ∀ y ∈ l, y.1.size ≤ maxLen ∧ y.2.2.2.2.size ≤ maxLen ∧ I64 y.2.1 ∧ I64 y.2.2.1 ∧ I64 y.2.2.2.1 := by
  rcases Deep.open_slice Tryd.underlying29 hf with ⟨h1, _⟩ | ⟨a, len, cap, m, n, D, Pl, h1, _, h3, h4, h5, _, hx⟩
  · have e : v = .slice none 0 0 := by simpa [Value.cells] using h1
    exact ⟨[], Or.inl ⟨rfl, e⟩, fun y hy => by cases hy⟩
  · have e : v = .slice (some a) len cap := by simpa [Value.cells] using h1
    rw [e]
    have hle : len ≤ m := by rw [h5]; split <;> omega
    obtain ⟨f, hF⟩ := Deep.choose_lt (α := C5) (n := len) (p := fun i x => (∀ j u, (cells5 x)[j]? = some u → W.cell? ((a.add (i * 5)).add j) = some u) ∧ x.1.size ≤ maxLen ∧ x.2.2.2.2.size ≤ maxLen ∧ I64 x.2.1 ∧ I64 x.2.2.1 ∧ I64 x.2.2.2.1) (fun i hi => by
      obtain ⟨cs', c1, c2⟩ := hx i (by omega)
      obtain ⟨y, rfl, hy⟩ := open_con c2
      rw [cellsC] at c1
      obtain ⟨_, _, k3⟩ := World.cells?_some c1
      exact ⟨y, fun j u hj => by
        have := k3 j (by have := (List.getElem?_eq_some_iff.1 hj).1; simpa [cells5] using this)
        rw [this, hj], hy⟩)
    refine ⟨(List.range len).map f, Or.inr ⟨a, cap, by simp, by simpa using h3, h4, row_els okC fun i x hi => (?_ : ∀ j u, (cells5 x)[j]? = some u → W.cell? ((a.add (i * 5)).add j) = some u)⟩, fun y hy => ?_⟩
    · obtain ⟨hlt, rfl⟩ := List.getElem?_eq_some_iff.1 hi
      simp at hlt
      simpa using (hF i hlt).1
    · obtain ⟨i, hi, rfl⟩ := List.mem_map.1 hy
      exact (hF i (List.mem_range.1 hi)).2
set_option maxRecDepth 100000 in
theorem trod_atts {H : Type} {enc : TypeId × Value → H} {W : World} {sp : Nat → Bool} {held : Bool} {fuel : Nat} {v : Value} {x : DataW H × List MemPlace}
    (hf : DataW.trod enc Tryd.prog W 0 sp held fuel 30 [v] = some x) : ∃ l : List A4, RowL W v l ∧ ∀ y ∈ l, y.1.size ≤ maxLen ∧ y.2.2.2.size ≤ maxLen ∧ I64 y.2.2.1 := by
  rcases Deep.open_slice Tryd.underlying30 hf with ⟨h1, _⟩ | ⟨a, len, cap, m, n, D, Pl, h1, _, h3, h4, h5, _, hx⟩
  · have e : v = .slice none 0 0 := by simpa [Value.cells] using h1
    exact ⟨[], Or.inl ⟨rfl, e⟩, fun y hy => by cases hy⟩
  · have e : v = .slice (some a) len cap := by simpa [Value.cells] using h1
    rw [e]
    have hle : len ≤ m := by rw [h5]; split <;> omega
    obtain ⟨f, hF⟩ := Deep.choose_lt (α := A4) (n := len) (p := fun i x => (∀ j u, (cellsA x)[j]? = some u → W.cell? ((a.add (i * 4)).add j) = some u) ∧ x.1.size ≤ maxLen ∧ x.2.2.2.size ≤ maxLen ∧ I64 x.2.2.1) (fun i hi => by
      obtain ⟨cs', c1, c2⟩ := hx i (by omega)
      obtain ⟨y, rfl, hy⟩ := open_att c2
      rw [cellsA4] at c1
      obtain ⟨_, _, k3⟩ := World.cells?_some c1
      exact ⟨y, fun j u hj => by
        have := k3 j (by have := (List.getElem?_eq_some_iff.1 hj).1; simpa [cellsA] using this)
        rw [this, hj], hy⟩)
    refine ⟨(List.range len).map f, Or.inr ⟨a, cap, by simp, by simpa using h3, h4, row_els okA fun i x hi => (?_ : ∀ j u, (cellsA x)[j]? = some u → W.cell? ((a.add (i * 4)).add j) = some u)⟩, fun y hy => ?_⟩
    · obtain ⟨hlt, rfl⟩ := List.getElem?_eq_some_iff.1 hi
      simp at hlt
      simpa using (hF i hlt).1
    · obtain ⟨i, hi, rfl⟩ := List.mem_map.1 hy
      exact (hF i (List.mem_range.1 hi)).2
theorem trod_id2 {H : Type} {enc : TypeId × Value → H} {W : World} {sp : Nat → Bool} {held : Bool} {fuel : Nat} {c0 c1 : Value} {x : DataW H × List MemPlace}
    (hf : DataW.trod enc Tryd.prog W 0 sp held fuel 28 [c0, c1] = some x) : ∃ a b : Int, c0 = .int .i64 a ∧ c1 = .int .i64 b ∧ I64 a ∧ I64 b := by
  obtain ⟨xs, n, _, _, _, hxl, hx⟩ := DataW.trod_struct Tryd.underlying28 hf
  have f0 : DataW.trod enc Tryd.prog W 0 sp held n 3 (([c0, c1].drop 0).take (Tryd.prog.cellsOf 3)) = xs[0]? := hx 0 _ rfl
  have f1 : DataW.trod enc Tryd.prog W 0 sp held n 3 (([c0, c1].drop 1).take (Tryd.prog.cellsOf 3)) = xs[1]? := hx 1 _ rfl
  have hxl' : xs.length = 2 := hxl
  simp only [cellsIn, List.drop_zero, List.drop_succ_cons, List.take_succ_cons, List.take_zero] at f0 f1
  rw [List.getElem?_eq_getElem (by omega)] at f0 f1
  obtain ⟨m0, e0, _, w0⟩ := DataW.trod_int Tryd.underlying3 f0
  obtain ⟨m1, e1, _, w1⟩ := DataW.trod_int Tryd.underlying3 f1
  simp only [List.cons.injEq, and_true] at e0 e1
  exact ⟨m0, m1, e0, e1, litBd w0, litBd w1⟩
/-- A raw message. -/
structure RawIn (W : World) (m : Mg) (pv lv : Value) : Prop where
  inn : MgIn W m pv lv
  m64 : M64 m
  ps : ∀ x ∈ m.p, x.1.size ≤ maxLen ∧ x.2.2.2.2.size ≤ maxLen
  ls : ∀ x ∈ m.l, x.1.size ≤ maxLen ∧ x.2.2.2.size ≤ maxLen
set_option maxRecDepth 100000 in
theorem open_msg {H : Type} {enc : TypeId × Value → H} {W : World} {r : Reach} {b0 : Nat} {sp : Nat → Bool} {held : Bool} {v : Value} {d : DataW H} {ps : List MemPlace}
    (hval : Value.okWide Tryd.prog W r b0 32 v) (hd : DataW.Trod enc Tryd.prog W 0 sp held 32 v d ps) :
    ∃ (m : Mg) (pv lv : Value), v = mv m pv lv ∧ RawIn W m pv lv := by
  obtain ⟨cs, rfl, hsz⟩ := okWide_struct Tryd.underlying32 hval
  obtain ⟨fuel, hf⟩ := hd
  obtain ⟨xs, n, _, _, _, hxl, hx⟩ := DataW.trod_struct Tryd.underlying32 hf
  rw [cellsMg] at hsz
  obtain ⟨l⟩ := cs
  match l, hsz with
  | [c0, c1, c2, c3, c4, c5, c6], _ =>
    have f0 : DataW.trod enc Tryd.prog W 0 sp held n 3 (([c0, c1, c2, c3, c4, c5, c6].drop 0).take (Tryd.prog.cellsOf 3)) = xs[0]? := hx 0 _ rfl
    have f1 : DataW.trod enc Tryd.prog W 0 sp held n 28 (([c0, c1, c2, c3, c4, c5, c6].drop 1).take (Tryd.prog.cellsOf 28)) = xs[1]? := hx 1 _ rfl
    have f2 : DataW.trod enc Tryd.prog W 0 sp held n 28 (([c0, c1, c2, c3, c4, c5, c6].drop 3).take (Tryd.prog.cellsOf 28)) = xs[2]? := hx 2 _ rfl
    have f3 : DataW.trod enc Tryd.prog W 0 sp held n 29 (([c0, c1, c2, c3, c4, c5, c6].drop 5).take (Tryd.prog.cellsOf 29)) = xs[3]? := hx 3 _ rfl
    have f4 : DataW.trod enc Tryd.prog W 0 sp held n 30 (([c0, c1, c2, c3, c4, c5, c6].drop 6).take (Tryd.prog.cellsOf 30)) = xs[4]? := hx 4 _ rfl
    have hxl' : xs.length = 5 := hxl
    simp only [cellsIn, cellsID, cellsCs, cellsAs, List.drop_zero, List.drop_succ_cons, List.take_succ_cons, List.take_zero] at f0 f1 f2 f3 f4
    rw [List.getElem?_eq_getElem (by omega)] at f0 f1 f2 f3 f4
    obtain ⟨m0, e0, _, w0⟩ := DataW.trod_int Tryd.underlying3 f0
    obtain ⟨tc, ts, rfl, rfl, t1, t2⟩ := trod_id2 f1
    obtain ⟨ic, is, rfl, rfl, i1, i2⟩ := trod_id2 f2
    obtain ⟨p, hp, hp2⟩ := trod_cons f3
    obtain ⟨l, hl, hl2⟩ := trod_atts f4
    simp only [List.cons.injEq, and_true] at e0
    subst e0
    exact ⟨⟨m0, tc, ts, ic, is, p, l⟩, c5, c6, rfl, ⟨⟨hp, row_EA.2 hl⟩, ⟨litBd w0, t1, t2, i1, i2, fun c hc => (hp2 c hc).2.2, fun a ha => (hl2 a ha).2.2⟩, fun x hx => ⟨(hp2 x hx).1, (hp2 x hx).2.1⟩, fun x hx => ⟨(hl2 x hx).1, (hl2 x hx).2.1⟩⟩⟩
end Go.Proofs.YtfcgfnmokbbcaaaDoor.Ws

namespace Go.Proofs.YtfcgfnmokbbcaaaDoor.Rg
open Go.RowKit

theorem op_store {P : Program} {ops : Array Oper} {Q : Exit → Act → World → Prop} {K : Act → World → Prop} {a : Act} {w w' : World} {i : Nat} {o : Oper} (t : TypeId) (x y : Operand) {p v : Value}
    (ho : ops[i]? = some o) (hg : o.guard = none) (hop : o.op = .store t x y) (hd : o.dst = none) (hx : a.eval x = p) (hy : a.eval y = v) (hr : (Instr.storeAt t p v).run P w = .ok () w') (h : K a w') : wpOp P ops Q i K a w := by
  refine op_skip ho hg (ex_store a.eval o t x y hop (by rw [hx, hy]; exact hr)) ?_
  rw [hd]
  exact h
theorem ex_min {P : Program} (ρ : Operand → Value) (o : Oper) (x y : Operand) (s t : TypeId) (ho : o.op = .call { callee := .builtin .min, args := #[x, y], argTypes := #[s, t] }) {v u r : Value} {w : World} (hx : ρ x = v) (hy : ρ y = u) (hr : (Builtin.min_ #[s, t] o.type #[v, u]).run P w = .ok r w) : (execOp ρ o).run P w = .ok (.value r) w := by
  simp [execOp, ho, resolve, invoke, builtin, hx, hy, hr, Result.andThen]
/-- On what an operation waits, and on what those wait, so many times. -/
def depsOf (l : List Oper) (i : Nat) : List Nat := match l[i]? with
  | some o => (o.after.toList.filter fun e => Region.binds .any e).map fun e => e.on
  | none => []
def reachL (l : List Oper) : Nat → List Nat → List Nat
  | 0, s => s
  | n + 1, s => reachL l n (s ++ s.flatMap (depsOf l))
theorem deps_in {l : List Oper} {D : Nat → Prop} {i : Nat} (h : ∀ o, l[i]? = some o → ∀ e ∈ o.after, Region.binds .any e = true → D e.on) : ∀ j ∈ depsOf l i, D j := by
  intro j hj
  unfold depsOf at hj
  cases ho : l[i]? with
  | none => rw [ho] at hj; cases hj
  | some o =>
    rw [ho] at hj
    obtain ⟨e, he, rfl⟩ := List.mem_map.1 hj
    obtain ⟨h1, h2⟩ := List.mem_filter.1 he
    exact h o ho e (Array.mem_toList_iff.1 h1) h2
theorem reach_in {l : List Oper} {D : Nat → Prop} (hc : ∀ j o, D j → l[j]? = some o → ∀ e ∈ o.after, Region.binds .any e = true → D e.on) : ∀ n s, (∀ j ∈ s, D j) → ∀ j ∈ reachL l n s, D j
  | 0, _, hs => hs
  | n + 1, s, hs => reach_in hc n _ fun j hj => by
    rcases List.mem_append.1 hj with h | h
    · exact hs j h
    · obtain ⟨i, hi, hd⟩ := List.mem_flatMap.1 h
      exact deps_in (fun o ho => hc i o (hs i hi) ho) j hd
theorem hall_of {l : List Oper} {M : Nat} (n : Nat) (h : (List.range M).all (fun i => (reachL l n (depsOf l M)).contains i) = true) (D : Nat → Prop) (hc : ∀ j o, D j → l[j]? = some o → ∀ e ∈ o.after, Region.binds .any e = true → D e.on) (hm : ∀ o, l[M]? = some o → ∀ e ∈ o.after, Region.binds .any e = true → D e.on) : ∀ i, i < M → D i := by
  intro i hi
  have h2 := List.all_eq_true.1 h i (List.mem_range.2 hi)
  exact reach_in hc n _ (deps_in hm) i (List.contains_iff_mem.1 h2)
end Go.Proofs.YtfcgfnmokbbcaaaDoor.Rg
namespace Go.Proofs.YtfcgfnmokbbcaaaDoor.Ws
open Go.RowKit Go.Sort Go.Proofs.YtfcgfnmokbbcaaaDoor Go.Proofs.YtfcgfnmokbbcaaaDoor.Rw Go.Proofs.YtfcgfnmokbbcaaaDoor.Nm Go.Proofs.YtfcgfnmokbbcaaaDoor.At Go.Proofs.YtfcgfnmokbbcaaaDoor.Pr Go.Proofs.YtfcgfnmokbbcaaaDoor.Wr Go.Proofs.YtfcgfnmokbbcaaaDoor.Va

theorem app_fresh {α : Type} {E : Ek α} (K : E.Ok) {w : World} (B : Nat) {g : Nat} {x : Value} {m : List α} (hbox : Box w g #[] E.t) (hBg : B ≤ g) (hx : Row E w x m) (hm : m.length ≤ 1000) (ty : TypeId) :
    ∃ v' w', (Builtin.append_ #[E.ts, E.ts] ty #[.slice (some ⟨g, 0, none⟩) 0 0, x]).run Tryd.prog w = .ok v' w' ∧ Own E w' B v' m ∧ Below w.heap.size w w' := by
  have ho : Own E w B (.slice (some ⟨g, 0, none⟩) 0 0) ([] : List α) := own_shut K rfl hBg hbox (Nat.le_refl _) (Nat.zero_le _) (by simp) (by simp [flat])
  have hl := hbox.lt
  obtain ⟨v', w', r, o', gr⟩ := app_row K B ho hx (by simp) hm (by omega) ty
  refine ⟨v', w', r, by simpa using o', ?_⟩
  obtain ⟨i, i1, i2, i3, i4⟩ := K.info
  rcases hx with ⟨rfl, rfl⟩ | ⟨ad, c, rfl, h2, h3, h4⟩
  · have r2 := run_append_owned_none (P := Tryd.prog) (w := w) B E.ts ty E.t i E.n K.hu i1 _ _ _ ho
    rw [r2] at r
    injection r with _ e
    rw [← e]
    exact Below.refl _ _
  · rcases Nat.eq_zero_or_pos m.length with h0 | h0
    · have r2 := run_append_room (P := Tryd.prog) (w := w) E.ts ty E.t i K.hu i1 g 0 0 #[] hbox ad m.length c (flat E m) (by rw [flat_length K, i3]) h4 (flat_cell K m) (by omega) (by rw [flat_length K, h0]; simp)
      rw [r2] at r
      injection r with _ e
      rw [← e]
      have hf : flat E m = [] := List.eq_nil_of_length_eq_zero (by rw [flat_length K, h0]; simp)
      have hs := Box.set hbox ((#[] : Array Value).toList.take (0 * i.size) ++ flat E m ++ (#[] : Array Value).toList.drop (0 * i.size + (flat E m).length)).toArray
      refine ⟨rfl, rfl, rfl, by simp [World.setRow], fun k hk => ?_⟩
      by_cases hkg : k = g
      · subst hkg
        refine hs.trans ?_
        rw [hf]
        simpa using hbox.symm
      · exact setRow_other w g k _ hkg
    · have r2 := run_append_grow (P := Tryd.prog) (w := w) E.ts ty E.t i E.z K.hu i1 i2 ⟨g, 0, none⟩ 0 0 [] (by simp) (fun j v h => by simp at h) ad m.length c (flat E m) (by rw [flat_length K, i3]) h4 (by omega) (by omega) (by
        rw [Nat.zero_add, nextslicecap_zero h0, i4]
        exact Nat.le_trans (Nat.mul_le_mul hm K.few) (by decide))
      rw [r2] at r
      injection r with _ e
      rw [← e]
      exact (Below.refl _ _).drew.alloc (Nat.le_refl _) _
def tV (B b : Nat) (mp ml lo lo2 : Value) (pl ll q q2 : Nat) (p : List C5) (l : List A4) (i : Nat) (v : Value) (x : World) : Prop :=
  match i with
  | 0 => ∃ g, v = .slice (some ⟨g, 0, none⟩) 0 0 ∧ B ≤ g ∧ Box x g #[] 57
  | 1 => v = .pointer (some ⟨b, 5, none⟩)
  | 2 => v = mp
  | 3 => v = .pointer (some ⟨b, 5, none⟩)
  | 4 => v = mp
  | 5 => v = .int .i64 pl
  | 6 => v = .int .i64 q
  | 7 => v = lo
  | 8 => OwnC x B v p
  | 9 => ∃ g, v = .slice (some ⟨g, 0, none⟩) 0 0 ∧ B ≤ g ∧ Box x g #[] 61
  | 10 => v = .pointer (some ⟨b, 6, none⟩)
  | 11 => v = ml
  | 12 => v = .pointer (some ⟨b, 6, none⟩)
  | 13 => v = ml
  | 14 => v = .int .i64 ll
  | 15 => v = .int .i64 q2
  | 16 => v = lo2
  | 17 => OwnL x B v l
  | 18 => v = .pointer (some ⟨b, 5, none⟩)
  | _ => True
theorem min_run (n q : Nat) (hq : q = min n 7) (w : World) : (Builtin.min_ #[3, 3] 3 #[.int .i64 (n : Int), .int .i64 7]).run Tryd.prog w = .ok (.int .i64 (q : Int)) w := by
  have h : (if (7 : Int) < (n : Int) then (7 : Int) else (n : Int)) = (q : Int) := by split <;> omega
  simp [go_sem, h]
noncomputable def tameR1 : Code := ((Tryd.f11.body.bind (findRegion 1)).getD .skip)
set_option maxRecDepth 100000 in
set_option maxHeartbeats 8000000 in
theorem tame_r1 (Q : Exit → Act → World → Prop) (W : World) (b rb : Nat) (k tc ts ic is : Int) (po l0 : Option Addr) (pl pc ll lc : Nat) (p : List C5) (l : List A4) (u0 u3 u4 u5 u6 u7 u8 u9 u10 u11 u12 u13 u14 u15 u16 u17 u18 u19 u20 u21 u22 u23 : Value)
    (hx : Box W b #[.int .i64 k, .int .i64 tc, .int .i64 ts, .int .i64 ic, .int .i64 is, .slice po pl pc, .slice l0 ll lc] 32) (hp : RowC W (.slice po pl pc) p) (hl : RowL W (.slice l0 ll lc) l) (h1 : pl = p.length) (h2 : ll = l.length)
    (hQ : ∀ (x : World) (v3 v4 v5 v6 v7 v8 v9 v10 v11 v12 v13 v14 v15 v16 v17 v18 v19 v20 v21 v22 : Value), Box x b #[.int .i64 k, .int .i64 tc, .int .i64 ts, .int .i64 ic, .int .i64 is, v11, v20] 32 → OwnC x W.heap.size v11 (p.take 7) → OwnL x W.heap.size v20 (l.take 7) → (∀ B, B ≤ b → Below B W x) → (∀ c cs t, c ≠ b → Box W c cs t → Box x c cs t) → Q .normal ⟨(u0 :: .pointer (some ⟨b, 0, none⟩) :: .pointer (some ⟨rb, 0, none⟩) :: v3 :: v4 :: v5 :: v6 :: v7 :: v8 :: v9 :: v10 :: v11 :: v12 :: v13 :: v14 :: v15 :: v16 :: v17 :: v18 :: v19 :: v20 :: v21 :: v22 :: u23 :: []).toArray, []⟩ x) :
    Code.wp Tryd.prog tameR1 Q ⟨(u0 :: .pointer (some ⟨b, 0, none⟩) :: .pointer (some ⟨rb, 0, none⟩) :: u3 :: u4 :: u5 :: u6 :: u7 :: u8 :: u9 :: u10 :: u11 :: u12 :: u13 :: u14 :: u15 :: u16 :: u17 :: u18 :: u19 :: u20 :: u21 :: u22 :: u23 :: []).toArray, []⟩ W := by
  have HQ := Lib.hid hQ
  have HB := Lib.hid hx
  have pm := hp.most
  have lm := hl.most
  rw [← h1] at pm
  rw [← h2] at lm
  obtain ⟨q, hq⟩ : ∃ q, q = min pl 7 := ⟨_, rfl⟩
  obtain ⟨q2, hq2⟩ : ∃ q, q = min ll 7 := ⟨_, rfl⟩
  have MQ := Lib.hid (min_run pl q hq)
  have MQ2 := Lib.hid (min_run ll q2 hq2)
  obtain ⟨lo, slo, rlo⟩ := row_lo okC hp q (by omega)
  obtain ⟨lo2, slo2, rlo2⟩ := row_lo okA hl q2 (by omega)
  have tq : p.take q = p.take 7 := by rw [hq, h1, List.take_eq_take_iff]; omega
  have tq2 : l.take q2 = l.take 7 := by rw [hq2, h2, List.take_eq_take_iff]; omega
  rw [tq] at rlo
  rw [tq2] at rlo2
  have LP := Lib.hid (show (p.take 7).length ≤ 7 by rw [List.length_take]; omega)
  have LL := Lib.hid (show (l.take 7).length ≤ 7 by rw [List.length_take]; omega)
  generalize p.take 7 = p7 at *
  generalize l.take 7 = l7 at *
  have SL1 := Lib.hid slo
  have SL2 := Lib.hid slo2
  have RL1 := Lib.hid rlo
  have RL2 := Lib.hid rlo2
  clear hQ hx hp hl pm lm hq hq2 slo slo2 rlo rlo2 tq tq2 h1 h2
  unfold tameR1
  conv => arg 2; whnf
  have nd : ∀ j, (j < 3 ∨ 22 ≤ j) → ∀ i, i < 19 → (fun i => i + 3) i ≠ j := by
    intro j hj i hi h
    simp only at h
    omega
  refine Rg.region_tail 22 19 (fun i => i + 3) (tV W.heap.size b (.slice po pl pc) (.slice l0 ll lc) lo lo2 pl ll q q2 p7 l7) (fun _ _ _ _ => True) (by kernel_rfl) (by kernel_rfl) rfl (by decide) (fun i j _ _ h => by have h2 : i + 3 = j + 3 := h; omega) (fun i hi => by show i + 3 < 24; omega) ?_ ?_ (Rg.hall_of 3 (by kernel_rfl)) ?_ ?_
  · intro i v x x' hv hb
    by_cases hi : i < 19
    · rcases (by omega : i = 0 ∨ i = 1 ∨ i = 2 ∨ i = 3 ∨ i = 4 ∨ i = 5 ∨ i = 6 ∨ i = 7 ∨ i = 8 ∨ i = 9 ∨ i = 10 ∨ i = 11 ∨ i = 12 ∨ i = 13 ∨ i = 14 ∨ i = 15 ∨ i = 16 ∨ i = 17 ∨ i = 18) with rfl | rfl | rfl | rfl | rfl | rfl | rfl | rfl | rfl | rfl | rfl | rfl | rfl | rfl | rfl | rfl | rfl | rfl | rfl
      · obtain ⟨g, h1, h2, h3⟩ := hv
        exact ⟨g, h1, h2, h3.on hb⟩
      all_goals first | exact hv | skip
      · exact hv.kept (w' := x') (row := none) ⟨hb.os, hb.tape, hb.output, hb.size, fun k hk _ => hb.block k hk⟩ (by cases v.ownBlock <;> simp)
      · obtain ⟨g, h1, h2, h3⟩ := hv
        exact ⟨g, h1, h2, h3.on hb⟩
      · exact hv.kept (w' := x') (row := none) ⟨hb.os, hb.tape, hb.output, hb.size, fun k hk _ => hb.block k hk⟩ (by cases v.ownBlock <;> simp)
    · unfold tV
      split <;> first | omega | trivial
  · intro i o hi ho a w' hb seen K hK
    clear HQ
    rcases (by omega : i = 0 ∨ i = 1 ∨ i = 2 ∨ i = 3 ∨ i = 4 ∨ i = 5 ∨ i = 6 ∨ i = 7 ∨ i = 8 ∨ i = 9 ∨ i = 10 ∨ i = 11 ∨ i = 12 ∨ i = 13 ∨ i = 14 ∨ i = 15 ∨ i = 16 ∨ i = 17 ∨ i = 18) with rfl | rfl | rfl | rfl | rfl | rfl | rfl | rfl | rfl | rfl | rfl | rfl | rfl | rfl | rfl | rfl | rfl | rfl | rfl
    · obtain rfl := Option.some.inj ho
      exact Rg.op_value rfl rfl (Rg.ex_build a.eval _ 29 0 #[] rfl rfl (by simp [go_sem])) (hK (.slice (some ⟨w'.heap.size, 0, none⟩) 0 0) (w'.alloc (.cells #[] 57)) ⟨w'.heap.size, rfl, hb.size, box_new w' #[] 57⟩ ((Below.refl _ _).alloc (Nat.le_refl _) _) fun _ _ _ _ _ => trivial)
    · obtain rfl := Option.some.inj ho
      have e1 : a.eval (.tmp 1) = .pointer (some ⟨b, 0, none⟩) := seen.kp 1 _ (nd 1 (by omega)) rfl
      exact Rg.op_value rfl rfl (Rg.ex_field a.eval _ 32 (.tmp 1) 3 rfl (by rw [e1]; simp [go_sem])) (hK _ _ rfl (Below.refl _ _) fun _ _ _ _ _ => trivial)
    · obtain rfl := Option.some.inj ho
      have e4 : a.eval (.tmp 4) = .pointer (some ⟨b, 5, none⟩) := seen.at_ ⟨1, .data⟩ (by simp) rfl
      have y := (HB.out.on hb).cell 5
      simp only [List.getElem?_toArray, List.getElem?_cons_zero, List.getElem?_cons_succ] at y
      exact Rg.op_value rfl rfl (Rg.ex_load a.eval _ 29 (.tmp 4) rfl (by rw [e4]; simp [go_sem, y])) (hK _ _ rfl (Below.refl _ _) fun _ _ _ _ _ => trivial)
    · obtain rfl := Option.some.inj ho
      have e1 : a.eval (.tmp 1) = .pointer (some ⟨b, 0, none⟩) := seen.kp 1 _ (nd 1 (by omega)) rfl
      exact Rg.op_value rfl rfl (Rg.ex_field a.eval _ 32 (.tmp 1) 3 rfl (by rw [e1]; simp [go_sem])) (hK _ _ rfl (Below.refl _ _) fun _ _ _ _ _ => trivial)
    · obtain rfl := Option.some.inj ho
      have e6 : a.eval (.tmp 6) = .pointer (some ⟨b, 5, none⟩) := seen.at_ ⟨3, .data⟩ (by simp) rfl
      have y := (HB.out.on hb).cell 5
      simp only [List.getElem?_toArray, List.getElem?_cons_zero, List.getElem?_cons_succ] at y
      exact Rg.op_value rfl rfl (Rg.ex_load a.eval _ 29 (.tmp 6) rfl (by rw [e6]; simp [go_sem, y])) (hK _ _ rfl (Below.refl _ _) fun _ _ _ _ _ => trivial)
    · obtain rfl := Option.some.inj ho
      have e7 : a.eval (.tmp 7) = .slice po pl pc := seen.at_ ⟨4, .data⟩ (by simp) rfl
      exact Rg.op_value rfl rfl (Rg.ex_len a.eval _ (.tmp 7) 29 rfl e7 (by simp [go_sem])) (hK _ _ rfl (Below.refl _ _) fun _ _ _ _ _ => trivial)
    · obtain rfl := Option.some.inj ho
      have e8 : a.eval (.tmp 8) = .int .i64 (pl : Int) := seen.at_ ⟨5, .data⟩ (by simp) rfl
      exact Rg.op_value rfl rfl (Rg.ex_min a.eval _ (.tmp 8) (.const (.int .i64 7)) 3 3 rfl e8 rfl (MQ.out _)) (hK _ _ rfl (Below.refl _ _) fun _ _ _ _ _ => trivial)
    · obtain rfl := Option.some.inj ho
      have e5 : a.eval (.tmp 5) = .slice po pl pc := seen.at_ ⟨2, .data⟩ (by simp) rfl
      have e9 : a.eval (.tmp 9) = .int .i64 (q : Int) := seen.at_ ⟨6, .data⟩ (by simp) rfl
      exact Rg.op_value rfl rfl (Rg.ex_slice a.eval _ 29 (.tmp 5) none (some (.tmp 9)) none rfl (by show (Instr.sliceAt 29 (a.eval (.tmp 5)) none (some (a.eval (.tmp 9))) none).run Tryd.prog w' = .ok lo w'; rw [e5, e9]; exact SL1.out _)) (hK _ _ rfl (Below.refl _ _) fun _ _ _ _ _ => trivial)
    · obtain rfl := Option.some.inj ho
      obtain ⟨g, e3, hBg, hbx⟩ := seen.at_ ⟨0, .data⟩ (by simp) rfl
      have e3' : a.eval (.tmp 3) = .slice (some ⟨g, 0, none⟩) 0 0 := e3
      have e10 : a.eval (.tmp 10) = lo := seen.at_ ⟨7, .data⟩ (by simp) rfl
      obtain ⟨v', x', r, o', gr⟩ := app_fresh okC W.heap.size hbx hBg (RL1.out.on hb) (by have := LP.out; omega) 29
      exact Rg.op_value rfl rfl (Rg.ex_append a.eval _ (.tmp 3) (.tmp 10) 29 rfl e3' e10 r) (hK v' x' o' gr fun _ _ _ _ _ => trivial)
    · obtain rfl := Option.some.inj ho
      exact Rg.op_value rfl rfl (Rg.ex_build a.eval _ 30 0 #[] rfl rfl (by simp [go_sem])) (hK (.slice (some ⟨w'.heap.size, 0, none⟩) 0 0) (w'.alloc (.cells #[] 61)) ⟨w'.heap.size, rfl, hb.size, box_new w' #[] 61⟩ ((Below.refl _ _).alloc (Nat.le_refl _) _) fun _ _ _ _ _ => trivial)
    · obtain rfl := Option.some.inj ho
      have e1 : a.eval (.tmp 1) = .pointer (some ⟨b, 0, none⟩) := seen.kp 1 _ (nd 1 (by omega)) rfl
      exact Rg.op_value rfl rfl (Rg.ex_field a.eval _ 32 (.tmp 1) 4 rfl (by rw [e1]; simp [go_sem])) (hK _ _ rfl (Below.refl _ _) fun _ _ _ _ _ => trivial)
    · obtain rfl := Option.some.inj ho
      have e13 : a.eval (.tmp 13) = .pointer (some ⟨b, 6, none⟩) := seen.at_ ⟨10, .data⟩ (by simp) rfl
      have y := (HB.out.on hb).cell 6
      simp only [List.getElem?_toArray, List.getElem?_cons_zero, List.getElem?_cons_succ] at y
      exact Rg.op_value rfl rfl (Rg.ex_load a.eval _ 30 (.tmp 13) rfl (by rw [e13]; simp [go_sem, y])) (hK _ _ rfl (Below.refl _ _) fun _ _ _ _ _ => trivial)
    · obtain rfl := Option.some.inj ho
      have e1 : a.eval (.tmp 1) = .pointer (some ⟨b, 0, none⟩) := seen.kp 1 _ (nd 1 (by omega)) rfl
      exact Rg.op_value rfl rfl (Rg.ex_field a.eval _ 32 (.tmp 1) 4 rfl (by rw [e1]; simp [go_sem])) (hK _ _ rfl (Below.refl _ _) fun _ _ _ _ _ => trivial)
    · obtain rfl := Option.some.inj ho
      have e15 : a.eval (.tmp 15) = .pointer (some ⟨b, 6, none⟩) := seen.at_ ⟨12, .data⟩ (by simp) rfl
      have y := (HB.out.on hb).cell 6
      simp only [List.getElem?_toArray, List.getElem?_cons_zero, List.getElem?_cons_succ] at y
      exact Rg.op_value rfl rfl (Rg.ex_load a.eval _ 30 (.tmp 15) rfl (by rw [e15]; simp [go_sem, y])) (hK _ _ rfl (Below.refl _ _) fun _ _ _ _ _ => trivial)
    · obtain rfl := Option.some.inj ho
      have e16 : a.eval (.tmp 16) = .slice l0 ll lc := seen.at_ ⟨13, .data⟩ (by simp) rfl
      exact Rg.op_value rfl rfl (Rg.ex_len a.eval _ (.tmp 16) 30 rfl e16 (by simp [go_sem])) (hK _ _ rfl (Below.refl _ _) fun _ _ _ _ _ => trivial)
    · obtain rfl := Option.some.inj ho
      have e17 : a.eval (.tmp 17) = .int .i64 (ll : Int) := seen.at_ ⟨14, .data⟩ (by simp) rfl
      exact Rg.op_value rfl rfl (Rg.ex_min a.eval _ (.tmp 17) (.const (.int .i64 7)) 3 3 rfl e17 rfl (MQ2.out _)) (hK _ _ rfl (Below.refl _ _) fun _ _ _ _ _ => trivial)
    · obtain rfl := Option.some.inj ho
      have e14 : a.eval (.tmp 14) = .slice l0 ll lc := seen.at_ ⟨11, .data⟩ (by simp) rfl
      have e18 : a.eval (.tmp 18) = .int .i64 (q2 : Int) := seen.at_ ⟨15, .data⟩ (by simp) rfl
      exact Rg.op_value rfl rfl (Rg.ex_slice a.eval _ 30 (.tmp 14) none (some (.tmp 18)) none rfl (by show (Instr.sliceAt 30 (a.eval (.tmp 14)) none (some (a.eval (.tmp 18))) none).run Tryd.prog w' = .ok lo2 w'; rw [e14, e18]; exact SL2.out _)) (hK _ _ rfl (Below.refl _ _) fun _ _ _ _ _ => trivial)
    · obtain rfl := Option.some.inj ho
      obtain ⟨g, e12, hBg, hbx⟩ := seen.at_ ⟨9, .data⟩ (by simp) rfl
      have e12' : a.eval (.tmp 12) = .slice (some ⟨g, 0, none⟩) 0 0 := e12
      have e19 : a.eval (.tmp 19) = lo2 := seen.at_ ⟨16, .data⟩ (by simp) rfl
      obtain ⟨v', x', r, o', gr⟩ := app_fresh okA W.heap.size hbx hBg (RL2.out.on hb) (by have := LL.out; omega) 30
      exact Rg.op_value rfl rfl (Rg.ex_append a.eval _ (.tmp 12) (.tmp 19) 30 rfl e12' e19 r) (hK v' x' o' gr fun _ _ _ _ _ => trivial)
    · obtain rfl := Option.some.inj ho
      have e1 : a.eval (.tmp 1) = .pointer (some ⟨b, 0, none⟩) := seen.kp 1 _ (nd 1 (by omega)) rfl
      exact Rg.op_value rfl rfl (Rg.ex_field a.eval _ 32 (.tmp 1) 3 rfl (by rw [e1]; simp [go_sem])) (hK _ _ rfl (Below.refl _ _) fun _ _ _ _ _ => trivial)
  · intro kk o h1 h2 ho
    rcases (by omega : kk = 20 ∨ kk = 21) with rfl | rfl
    · obtain rfl := Option.some.inj ho
      exact ⟨⟨19, .phase⟩, by simp, rfl, rfl⟩
    · obtain rfl := Option.some.inj ho
      exact ⟨⟨20, .data⟩, by simp, rfl, rfl⟩
  · intro a w' df sz kp ⟨vs, hv, _⟩ hb
    have g1 : a.tmps[1]? = some (.pointer (some ⟨b, 0, none⟩)) := (kp 1 (nd 1 (by omega))).trans rfl
    have g11 : a.tmps[11]? = some (vs 8) := (hv 8 (by omega)).1
    have g20 : a.tmps[20]? = some (vs 17) := (hv 17 (by omega)).1
    have g21 : a.tmps[21]? = some (.pointer (some ⟨b, 5, none⟩)) := by
      have h := (hv 18 (by omega)).2
      have h' : vs 18 = .pointer (some ⟨b, 5, none⟩) := h
      rw [← h']
      exact (hv 18 (by omega)).1
    have oC : OwnC w' W.heap.size (vs 8) p7 := (hv 8 (by omega)).2
    have oL : OwnL w' W.heap.size (vs 17) l7 := (hv 17 (by omega)).2
    generalize vs 8 = xC at *
    generalize vs 17 = xL at *
    obtain ⟨ca, cp, e8⟩ := (Row.of_own oC).len
    obtain ⟨la, lp, e17⟩ := (Row.of_own oL).len
    have hbx := HB.out.on hb
    have hblt := HB.out.lt
    have c5 := hbx.cell 5
    have f5 := hbx.fr 5
    simp only [List.getElem?_toArray, List.getElem?_cons_zero, List.getElem?_cons_succ] at c5
    have hb1 := box_set (k := 5) hbx xC
    have c6 := hb1.cell 6
    have f6 := hb1.fr 6
    simp only [List.setIfInBounds_toArray, List.set_cons_zero, List.set_cons_succ, List.getElem?_toArray, List.getElem?_cons_zero, List.getElem?_cons_succ] at c6
    show Rg.SeqFrom _ _ _ 3 19 a w'
    simp only [Rg.SeqFrom]
    refine Rg.op_store 29 (.tmp 21) (.tmp 11) rfl rfl rfl rfl (Rg.eval_some g21) (Rg.eval_some g11) (w' := w'.setCell ⟨b, 5, none⟩ xC) (by rw [e8]; simp [go_sem, c5, f5]) ?_
    refine Rg.op_value rfl rfl (Rg.ex_field a.eval _ 32 (.tmp 1) 4 rfl (v := .pointer (some ⟨b, 6, none⟩)) (by rw [Rg.eval_some g1]; simp [go_sem])) ?_
    have sz' : a.tmps.size = 24 := sz
    refine Rg.op_store 30 (.tmp 22) (.tmp 20) rfl rfl rfl rfl ((Rg.eval_put a 22 _ 22 (by rw [sz']; decide)).trans (if_pos rfl)) ((Rg.eval_put a 22 _ 20 (by rw [sz']; decide)).trans ((if_neg (by decide)).trans (Rg.eval_some g20))) (w' := (w'.setCell ⟨b, 5, none⟩ xC).setCell ⟨b, 6, none⟩ xL) (by rw [e17]; simp [go_sem, c6, f6]) ?_
    have kp2 : ∀ j, (j < 3 ∨ 23 ≤ j) → (a.put (some 22) (.pointer (some ⟨b, 6, none⟩))).tmps[j]? = (u0 :: .pointer (some ⟨b, 0, none⟩) :: .pointer (some ⟨rb, 0, none⟩) :: u3 :: u4 :: u5 :: u6 :: u7 :: u8 :: u9 :: u10 :: u11 :: u12 :: u13 :: u14 :: u15 :: u16 :: u17 :: u18 :: u19 :: u20 :: u21 :: u22 :: u23 :: [])[j]? := fun j hj => by
      rw [Rg.get_put _ _ _ _ (by omega)]
      exact (kp j (nd j (by omega))).trans List.getElem?_toArray
    have g11' : (a.put (some 22) (.pointer (some ⟨b, 6, none⟩))).tmps[11]? = some xC := by rw [Rg.get_put _ _ _ _ (by decide)]; exact g11
    have g20' : (a.put (some 22) (.pointer (some ⟨b, 6, none⟩))).tmps[20]? = some xL := by rw [Rg.get_put _ _ _ _ (by decide)]; exact g20
    have df2 : (a.put (some 22) (.pointer (some ⟨b, 6, none⟩))).defers = [] := df
    have sz2 : (a.put (some 22) (.pointer (some ⟨b, 6, none⟩))).tmps.size = 24 := by rw [Rg.size_put]; exact sz
    show Q .normal (a.put (some 22) (.pointer (some ⟨b, 6, none⟩))) _
    generalize a.put (some 22) (.pointer (some ⟨b, 6, none⟩)) = a2 at *
    obtain ⟨mid, hmid, rfl⟩ := Rg.frame_mid (bl := (u0 :: .pointer (some ⟨b, 0, none⟩) :: .pointer (some ⟨rb, 0, none⟩) :: u3 :: u4 :: u5 :: u6 :: u7 :: u8 :: u9 :: u10 :: u11 :: u12 :: u13 :: u14 :: u15 :: u16 :: u17 :: u18 :: u19 :: u20 :: u21 :: u22 :: u23 :: [])) 3 20 df2 sz2 (by simp) kp2
    match mid, hmid with
    | [v3, v4, v5, v6, v7, v8, v9, v10, v11, v12, v13, v14, v15, v16, v17, v18, v19, v20, v21, v22], _ =>
      have e11 : some v11 = some xC := g11'
      have e20 : some v20 = some xL := g20'
      obtain rfl := Option.some.inj e11
      obtain rfl := Option.some.inj e20
      refine HQ.out _ v3 v4 v5 v6 v7 v8 v9 v10 v11 v12 v13 v14 v15 v16 v17 v18 v19 v20 v21 v22 ?_ ?_ ?_ ?_ ?_
      · have h := box_set (k := 6) hb1 v20
        simpa using h
      · exact own_set (own_set oC b 5 _ hblt) b 6 _ hblt
      · exact own_set (own_set oL b 5 _ hblt) b 6 _ hblt
      · exact fun B hB => ((hb.mono (Nat.le_of_lt (Nat.lt_of_le_of_lt hB hblt))).setCell hB _).setCell hB _
      · intro c cs t hc hbc
        exact (RowKit.Below.heap_setCell _ _ _ _ hc).trans ((RowKit.Below.heap_setCell _ _ _ _ hc).trans (hbc.on hb))
end Go.Proofs.YtfcgfnmokbbcaaaDoor.Ws
