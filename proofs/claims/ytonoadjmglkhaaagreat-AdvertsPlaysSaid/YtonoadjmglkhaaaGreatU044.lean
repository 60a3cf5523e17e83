/-
  A broadsidekeep.Pred that came in, opened: two lists of numbers. No condition beyond its reading.
  Lists of calls and of steps that came in, opened. No condition beyond their reading.
  Chapter 9's runs: AdvertsRuns. No condition.
-/
import Derived.Test.YtonoadjmglkhaaaGreatU010
import Derived.Test.YtonoadjmglkhaaaGreatU043
import Derived.ChangeArms
import Derived.Test.YtonoadjmglkhaaaGreatU019
import Derived.ChangeSlices
import Derived.Deep.Slices
import Derived.Test.YtonoadjmglkhaaaGreatU039
import Derived.Test.YtonoadjmglkhaaaGreatU027
import Derived.Test.YtonoadjmglkhaaaGreatU030
import Derived.Test.YtonoadjmglkhaaaGreatU036
namespace Go.Proofs.YtonoadjmglkhaaaGreat.Pr
open Go.RowKit Go.ChangeShapes Go.WideShapes Go.Proofs.YtonoadjmglkhaaaGreat.In

theorem cellsP : Tryz.prog.cellsOf 32 = 2 := by kernel_rfl
theorem cellsIs : Tryz.prog.cellsOf 23 = 1 := by kernel_rfl
set_option maxRecDepth 100000 in
theorem open_pred {H : Type} {enc : TypeId × Value → H} {W : World} {r : Reach} {b0 : Nat} {sp : Nat → Bool} {held : Bool} {v : Value} {d : DataW H} {ps : List MemPlace}
    (hval : Value.okWide Tryz.prog W r b0 32 v) (hd : DataW.Trod enc Tryz.prog W 0 sp held 32 v d ps) :
    ∃ (hv vv : Value) (has vals : List Int), v = .agg #[hv, vv] ∧ has.length ≤ maxLen ∧ vals.length ≤ maxLen ∧ InInts W hv has ∧ InInts W vv vals := by
  obtain ⟨cs, rfl, hsz⟩ := okWide_struct Tryz.underlying32 hval
  obtain ⟨fuel, hf⟩ := hd
  obtain ⟨xs, n, _, _, _, hxl, hx⟩ := DataW.trod_struct Tryz.underlying32 hf
  rw [cellsP] at hsz
  obtain ⟨l⟩ := cs
  match l, hsz with
  | [c0, c1], _ =>
    have f0 : DataW.trod enc Tryz.prog W 0 sp held n 23 (([c0, c1].drop 0).take (Tryz.prog.cellsOf 23)) = xs[0]? := hx 0 _ rfl
    have f1 : DataW.trod enc Tryz.prog W 0 sp held n 23 (([c0, c1].drop 1).take (Tryz.prog.cellsOf 23)) = xs[1]? := hx 1 _ rfl
    have hxl' : xs.length = 2 := hxl
    simp only [cellsIs, List.drop_zero, List.drop_succ_cons, List.take_succ_cons, List.take_zero] at f0 f1
    rw [List.getElem?_eq_getElem (by omega)] at f0 f1
    obtain ⟨has, h1, h2⟩ := in_trod f0
    obtain ⟨vals, h3, h4⟩ := in_trod f1
    exact ⟨c0, c1, has, vals, rfl, h1, h3, h2, h4⟩
end Go.Proofs.YtonoadjmglkhaaaGreat.Pr

namespace Go.Proofs.YtonoadjmglkhaaaGreat.Av
open Go.RowKit Go.ChangeShapes Go.WideShapes Go.Proofs.YtonoadjmglkhaaaGreat Go.Proofs.YtonoadjmglkhaaaGreat.Bk

theorem cellsQ : Tryz.prog.cellsOf 34 = 6 := by kernel_rfl
theorem indexQ (a : Addr) (m len cap : Nat) (h : m < len) (w : World) : (Instr.indexAt 22 (.slice (some a) len cap) (.int .i64 m)).run Tryz.prog w = .ok (.pointer (some (a.add (m * 6)))) w := by
  have h1 : (m : Int) < len := by omega
  simp [go_sem, Tryz.underlying22, h1]
/-- A list of these that came in. -/
structure InQ (W : World) (v : Value) (n : Nat) : Prop where
  shape : ∃ ao cap, v = .slice ao n cap
  at_ : ∀ i : Nat, i < n → ∃ (p : Addr) (z0 z1 z2 z3 : Int) (h1 : Option Addr) (h2 h3 : Nat) (g1 : Option Addr) (g2 g3 : Nat) (has vals : List Int), p.block < W.heap.size ∧ (∀ w, (Instr.indexAt 22 v (.int .i64 i)).run Tryz.prog w = .ok (.pointer (some p)) w) ∧ (∀ j u, ([.int .i64 z0, .int .i64 z1, .int .i64 z2, .int .i64 z3, .slice h1 h2 h3, .slice g1 g2 g3] : List Value)[j]? = some u → W.cell? (p.add j) = some u) ∧ ((-9223372036854775808 ≤ z0 ∧ z0 ≤ 9223372036854775807) ∧ (-9223372036854775808 ≤ z1 ∧ z1 ≤ 9223372036854775807) ∧ (-9223372036854775808 ≤ z2 ∧ z2 ≤ 9223372036854775807) ∧ (-9223372036854775808 ≤ z3 ∧ z3 ≤ 9223372036854775807)) ∧ In.InInts W (.slice h1 h2 h3) has ∧ In.InInts W (.slice g1 g2 g3) vals ∧ has.length ≤ maxLen ∧ vals.length ≤ maxLen
theorem InQ.on {W W' : World} {v : Value} {n : Nat} (h : InQ W v n) (hb : Below W.heap.size W W') : InQ W' v n :=
  ⟨h.shape, fun i hi => by
    obtain ⟨p, z0, z1, z2, z3, x1, x2, x3, y1, y2, y3, has, vals, h1, h2, h3, h4, h5, h6, h7⟩ := h.at_ i hi
    exact ⟨p, z0, z1, z2, z3, x1, x2, x3, y1, y2, y3, has, vals, Nat.lt_of_lt_of_le h1 hb.size, h2, fun j u hu => by rw [hb.cell (by rw [add_blk]; exact h1)]; exact h3 j u hu, h4, h5.on hb, h6.on hb, h7⟩⟩
set_option maxRecDepth 100000 in
theorem openQ {H : Type} {enc : TypeId × Value → H} {W : World} {r : Reach} {b0 : Nat} {sp : Nat → Bool} {held : Bool} {v : Value} {d : DataW H} {ps : List MemPlace}
    (hval : Value.okWide Tryz.prog W r b0 22 v) (hd : DataW.Trod enc Tryz.prog W 0 sp held 22 v d ps) : ∃ n : Nat, n ≤ maxLen ∧ InQ W v n := by
  obtain ⟨ao, al, ac, rfl⟩ := okWide_slice Tryz.underlying22 hval
  obtain ⟨fuel, hf⟩ := hd
  rcases Deep.open_slice Tryz.underlying22 hf with ⟨h1, _⟩ | ⟨a, len, cap, m, n, D, Pl, h1, _, h3, h4, h5, _, hx⟩
  · have e : Value.slice ao al ac = .slice none 0 0 := by simpa [Value.cells] using h1
    exact ⟨0, Nat.zero_le _, ⟨none, 0, e⟩, fun i hi => by omega⟩
  · have e : Value.slice ao al ac = .slice (some a) len cap := by simpa [Value.cells] using h1
    rw [e]
    have hle : len ≤ m := by rw [h5]; split <;> omega
    refine ⟨len, by omega, ⟨some a, cap, rfl⟩, fun i hi => ?_⟩
    obtain ⟨cs', k1, k2⟩ := hx i (by omega)
    obtain ⟨xs, n', _, _, hcl, hxl, hy⟩ := DataW.trod_struct Tryz.underlying34 k2
    rw [cellsQ] at hcl k1
    match cs', hcl with
    | [c0, c1, c2, c3, c4, d1], _ =>
      have f0 : DataW.trod enc Tryz.prog W 0 sp held n' 3 (([c0, c1, c2, c3, c4, d1].drop 0).take (Tryz.prog.cellsOf 3)) = xs[0]? := hy 0 _ rfl
      have f1 : DataW.trod enc Tryz.prog W 0 sp held n' 3 (([c0, c1, c2, c3, c4, d1].drop 1).take (Tryz.prog.cellsOf 3)) = xs[1]? := hy 1 _ rfl
      have f2 : DataW.trod enc Tryz.prog W 0 sp held n' 3 (([c0, c1, c2, c3, c4, d1].drop 2).take (Tryz.prog.cellsOf 3)) = xs[2]? := hy 2 _ rfl
      have f3 : DataW.trod enc Tryz.prog W 0 sp held n' 3 (([c0, c1, c2, c3, c4, d1].drop 3).take (Tryz.prog.cellsOf 3)) = xs[3]? := hy 3 _ rfl
      have fp : DataW.trod enc Tryz.prog W 0 sp held n' 32 (([c0, c1, c2, c3, c4, d1].drop 4).take (Tryz.prog.cellsOf 32)) = xs[4]? := hy 4 _ rfl
      have hxl' : xs.length = 4 + 1 := hxl
      simp only [In.cellsI, Pr.cellsP, List.drop_zero, List.drop_succ_cons, List.take_succ_cons, List.take_zero] at f0 f1 f2 f3 fp
      rw [List.getElem?_eq_getElem (by omega)] at f0 f1 f2 f3 fp
      obtain ⟨m0, e0, _, w0⟩ := DataW.trod_int Tryz.underlying3 f0
      obtain ⟨m1, e1, _, w1⟩ := DataW.trod_int Tryz.underlying3 f1
      obtain ⟨m2, e2, _, w2⟩ := DataW.trod_int Tryz.underlying3 f2
      obtain ⟨m3, e3, _, w3⟩ := DataW.trod_int Tryz.underlying3 f3
      simp only [List.cons.injEq, and_true] at e0 e1 e2 e3
      subst e0 e1 e2 e3
      obtain ⟨ys, n2, _, _, _, hyl, hp⟩ := DataW.trod_struct Tryz.underlying32 fp
      have hyl' : ys.length = 2 := hyl
      have q0 : DataW.trod enc Tryz.prog W 0 sp held n2 23 (([c4, d1].drop 0).take (Tryz.prog.cellsOf 23)) = ys[0]? := hp 0 _ rfl
      have q1 : DataW.trod enc Tryz.prog W 0 sp held n2 23 (([c4, d1].drop 1).take (Tryz.prog.cellsOf 23)) = ys[1]? := hp 1 _ rfl
      simp only [Pr.cellsIs, List.drop_zero, List.drop_succ_cons, List.take_succ_cons, List.take_zero] at q0 q1
      rw [List.getElem?_eq_getElem (by omega)] at q0 q1
      obtain ⟨has, l1, i1⟩ := In.in_trod q0
      obtain ⟨vals, l2, i2⟩ := In.in_trod q1
      obtain ⟨x1, y1, rfl⟩ := i1.shape
      obtain ⟨x2, y2, rfl⟩ := i2.shape
      obtain ⟨_, _, k3⟩ := World.cells?_some k1
      have k0 := k3 0 (by decide)
      rw [Rw.add_zero] at k0
      refine ⟨a.add (i * 6), m0, m1, m2, m3, x1, _, y1, x2, _, y2, has, vals, World.block_lt_of_cell? W _ k0, fun w => indexQ a i len cap hi w, fun j u hu => ?_, ⟨In.lits_bd w0, In.lits_bd w1, In.lits_bd w2, In.lits_bd w3⟩, i1, i2, l1, l2⟩
      have hj : j < 6 := (List.getElem?_eq_some_iff.1 hu).1
      rw [← hu]
      exact k3 j hj
theorem cellsSt : Tryz.prog.cellsOf 109 = 7 := by kernel_rfl
theorem indexSt (a : Addr) (m len cap : Nat) (h : m < len) (w : World) : (Instr.indexAt 53 (.slice (some a) len cap) (.int .i64 m)).run Tryz.prog w = .ok (.pointer (some (a.add (m * 7)))) w := by
  have h1 : (m : Int) < len := by omega
  simp [go_sem, Tryz.underlying53, h1]
/-- A list of these that came in. -/
structure InSt (W : World) (v : Value) (n : Nat) : Prop where
  shape : ∃ ao cap, v = .slice ao n cap
  at_ : ∀ i : Nat, i < n → ∃ (p : Addr) (z0 z1 z2 z3 z4 : Int) (h1 : Option Addr) (h2 h3 : Nat) (g1 : Option Addr) (g2 g3 : Nat) (has vals : List Int), p.block < W.heap.size ∧ (∀ w, (Instr.indexAt 53 v (.int .i64 i)).run Tryz.prog w = .ok (.pointer (some p)) w) ∧ (∀ j u, ([.int .i64 z0, .int .i64 z1, .int .i64 z2, .int .i64 z3, .int .i64 z4, .slice h1 h2 h3, .slice g1 g2 g3] : List Value)[j]? = some u → W.cell? (p.add j) = some u) ∧ ((-9223372036854775808 ≤ z0 ∧ z0 ≤ 9223372036854775807) ∧ (-9223372036854775808 ≤ z1 ∧ z1 ≤ 9223372036854775807) ∧ (-9223372036854775808 ≤ z2 ∧ z2 ≤ 9223372036854775807) ∧ (-9223372036854775808 ≤ z3 ∧ z3 ≤ 9223372036854775807) ∧ (-9223372036854775808 ≤ z4 ∧ z4 ≤ 9223372036854775807)) ∧ In.InInts W (.slice h1 h2 h3) has ∧ In.InInts W (.slice g1 g2 g3) vals ∧ has.length ≤ maxLen ∧ vals.length ≤ maxLen
theorem InSt.on {W W' : World} {v : Value} {n : Nat} (h : InSt W v n) (hb : Below W.heap.size W W') : InSt W' v n :=
  ⟨h.shape, fun i hi => by
    obtain ⟨p, z0, z1, z2, z3, z4, x1, x2, x3, y1, y2, y3, has, vals, h1, h2, h3, h4, h5, h6, h7⟩ := h.at_ i hi
    exact ⟨p, z0, z1, z2, z3, z4, x1, x2, x3, y1, y2, y3, has, vals, Nat.lt_of_lt_of_le h1 hb.size, h2, fun j u hu => by rw [hb.cell (by rw [add_blk]; exact h1)]; exact h3 j u hu, h4, h5.on hb, h6.on hb, h7⟩⟩
set_option maxRecDepth 100000 in
theorem openSt {H : Type} {enc : TypeId × Value → H} {W : World} {r : Reach} {b0 : Nat} {sp : Nat → Bool} {held : Bool} {v : Value} {d : DataW H} {ps : List MemPlace}
    (hval : Value.okWide Tryz.prog W r b0 53 v) (hd : DataW.Trod enc Tryz.prog W 0 sp held 53 v d ps) : ∃ n : Nat, n ≤ maxLen ∧ InSt W v n := by
  obtain ⟨ao, al, ac, rfl⟩ := okWide_slice Tryz.underlying53 hval
  obtain ⟨fuel, hf⟩ := hd
  rcases Deep.open_slice Tryz.underlying53 hf with ⟨h1, _⟩ | ⟨a, len, cap, m, n, D, Pl, h1, _, h3, h4, h5, _, hx⟩
  · have e : Value.slice ao al ac = .slice none 0 0 := by simpa [Value.cells] using h1
    exact ⟨0, Nat.zero_le _, ⟨none, 0, e⟩, fun i hi => by omega⟩
  · have e : Value.slice ao al ac = .slice (some a) len cap := by simpa [Value.cells] using h1
    rw [e]
    have hle : len ≤ m := by rw [h5]; split <;> omega
    refine ⟨len, by omega, ⟨some a, cap, rfl⟩, fun i hi => ?_⟩
    obtain ⟨cs', k1, k2⟩ := hx i (by omega)
    obtain ⟨xs, n', _, _, hcl, hxl, hy⟩ := DataW.trod_struct Tryz.underlying109 k2
    rw [cellsSt] at hcl k1
    match cs', hcl with
    | [c0, c1, c2, c3, c4, c5, d1], _ =>
      have f0 : DataW.trod enc Tryz.prog W 0 sp held n' 3 (([c0, c1, c2, c3, c4, c5, d1].drop 0).take (Tryz.prog.cellsOf 3)) = xs[0]? := hy 0 _ rfl
      have f1 : DataW.trod enc Tryz.prog W 0 sp held n' 3 (([c0, c1, c2, c3, c4, c5, d1].drop 1).take (Tryz.prog.cellsOf 3)) = xs[1]? := hy 1 _ rfl
      have f2 : DataW.trod enc Tryz.prog W 0 sp held n' 3 (([c0, c1, c2, c3, c4, c5, d1].drop 2).take (Tryz.prog.cellsOf 3)) = xs[2]? := hy 2 _ rfl
      have f3 : DataW.trod enc Tryz.prog W 0 sp held n' 3 (([c0, c1, c2, c3, c4, c5, d1].drop 3).take (Tryz.prog.cellsOf 3)) = xs[3]? := hy 3 _ rfl
      have f4 : DataW.trod enc Tryz.prog W 0 sp held n' 3 (([c0, c1, c2, c3, c4, c5, d1].drop 4).take (Tryz.prog.cellsOf 3)) = xs[4]? := hy 4 _ rfl
      have fp : DataW.trod enc Tryz.prog W 0 sp held n' 32 (([c0, c1, c2, c3, c4, c5, d1].drop 5).take (Tryz.prog.cellsOf 32)) = xs[5]? := hy 5 _ rfl
      have hxl' : xs.length = 5 + 1 := hxl
      simp only [In.cellsI, Pr.cellsP, List.drop_zero, List.drop_succ_cons, List.take_succ_cons, List.take_zero] at f0 f1 f2 f3 f4 fp
      rw [List.getElem?_eq_getElem (by omega)] at f0 f1 f2 f3 f4 fp
      obtain ⟨m0, e0, _, w0⟩ := DataW.trod_int Tryz.underlying3 f0
      obtain ⟨m1, e1, _, w1⟩ := DataW.trod_int Tryz.underlying3 f1
      obtain ⟨m2, e2, _, w2⟩ := DataW.trod_int Tryz.underlying3 f2
      obtain ⟨m3, e3, _, w3⟩ := DataW.trod_int Tryz.underlying3 f3
      obtain ⟨m4, e4, _, w4⟩ := DataW.trod_int Tryz.underlying3 f4
      simp only [List.cons.injEq, and_true] at e0 e1 e2 e3 e4
      subst e0 e1 e2 e3 e4
      obtain ⟨ys, n2, _, _, _, hyl, hp⟩ := DataW.trod_struct Tryz.underlying32 fp
      have hyl' : ys.length = 2 := hyl
      have q0 : DataW.trod enc Tryz.prog W 0 sp held n2 23 (([c5, d1].drop 0).take (Tryz.prog.cellsOf 23)) = ys[0]? := hp 0 _ rfl
      have q1 : DataW.trod enc Tryz.prog W 0 sp held n2 23 (([c5, d1].drop 1).take (Tryz.prog.cellsOf 23)) = ys[1]? := hp 1 _ rfl
      simp only [Pr.cellsIs, List.drop_zero, List.drop_succ_cons, List.take_succ_cons, List.take_zero] at q0 q1
      rw [List.getElem?_eq_getElem (by omega)] at q0 q1
      obtain ⟨has, l1, i1⟩ := In.in_trod q0
      obtain ⟨vals, l2, i2⟩ := In.in_trod q1
      obtain ⟨x1, y1, rfl⟩ := i1.shape
      obtain ⟨x2, y2, rfl⟩ := i2.shape
      obtain ⟨_, _, k3⟩ := World.cells?_some k1
      have k0 := k3 0 (by decide)
      rw [Rw.add_zero] at k0
      refine ⟨a.add (i * 7), m0, m1, m2, m3, m4, x1, _, y1, x2, _, y2, has, vals, World.block_lt_of_cell? W _ k0, fun w => indexSt a i len cap hi w, fun j u hu => ?_, ⟨In.lits_bd w0, In.lits_bd w1, In.lits_bd w2, In.lits_bd w3, In.lits_bd w4⟩, i1, i2, l1, l2⟩
      have hj : j < 7 := (List.getElem?_eq_some_iff.1 hu).1
      rw [← hu]
      exact k3 j hj
end Go.Proofs.YtonoadjmglkhaaaGreat.Av

namespace Go.Proofs.YtonoadjmglkhaaaGreat.Av
open Go.RowKit Go.Sort Go.Proofs.YtonoadjmglkhaaaGreat Go.Proofs.YtonoadjmglkhaaaGreat.Rw Go.Proofs.YtonoadjmglkhaaaGreat.Nm Go.Proofs.YtonoadjmglkhaaaGreat.Pr Go.Proofs.YtonoadjmglkhaaaGreat.Bk

theorem run_again : learnB runB ⟨(1, 0), [], 2⟩ = (runB, false) := rfl
theorem run_far : forgetF runB (1, 0) 3 = (runB, false) := rfl
theorem run_ok : okBr runB = true := by decide
theorem runB_few : Few runB := ⟨by simp, by simp, by simp, by simp, by simp⟩
theorem runB_fewp : FewP runB := ⟨by simp, by simp, by simp⟩
theorem runB_tame : TameB runB := ⟨by simp [Tame], by simp, by simp⟩
set_option maxRecDepth 100000 in
set_option maxHeartbeats 16000000 in
theorem runs_any (w : World) : Calls Tryz.prog 19 #[] w fun e w' => e = .returned (.bool true) ∧ Below w.heap.size w w' := by
  have n0 := newB w (.cells #[.int .i64 1, .int .i64 0, .slice none 0 0, .int .i64 2] 42)
  have X := Lib.hid (box_new w #[.int .i64 1, .int .i64 0, .slice none 0 0, .int .i64 2] 42)
  have B0 := Lib.hid n0
  clear n0
  go_enter Tryz.func19, Tryz.ntmps19
  go_upto_region 2 with fail
  generalize w.alloc (.cells #[.int .i64 1, .int .i64 0, .slice none 0 0, .int .i64 2] 42) = W at *
  refine run2 _ W w.heap.size _ _ _ _ _ _ _ _ _ _ _ _ _ _ _ _ _ _ _ _ _ _ _ _ _ _ _ _ _ _ _ _ _ _ _ _ _ _ _ _ _ _ _ _ _ _ _ _ _ _ _ _ _ _ X.out ?_
  intro x bb v4 v5 v6 v7 v8 v9 v10 v11 v12 v13 v14 v15 v16 m1 m2 m3 m4 m5 m6 m7 m8 m9 m10 m11 m12 m13 m14 m15 hbb hbox hbr hbel
  have XB := Lib.hid hbox
  have BR := Lib.hid hbr
  have XA := Lib.hid (X.out.on hbel)
  have B1 := Lib.hid (B0.out.trans (hbel.mono B0.out.size))
  have BBL := Lib.hid (Nat.le_trans B0.out.size hbb)
  clear hbb hbox hbr hbel X
  have cb0 := XB.out.cell 0
  have cb1 := XB.out.cell 1
  have cb2 := XB.out.cell 2
  have cb3 := XB.out.cell 3
  have cb4 := XB.out.cell 4
  have cb5 := XB.out.cell 5
  have ca0 := XA.out.cell 0
  have ca1 := XA.out.cell 1
  have ca2 := XA.out.cell 2
  have ca3 := XA.out.cell 3
  simp only [List.getElem?_toArray, List.getElem?_cons_zero, List.getElem?_cons_succ] at cb0 cb1 cb2 cb3 cb4 cb5 ca0 ca1 ca2 ca3
  go_wp2_with fail
  have C := learn_any runB ⟨(1, 0), [], 2⟩ (m1, m2, m3) (m4, m5, m6) (m7, m8, m9) (m10, m11, m12) (m13, m14, m15) (1, 0, (none, 0, 0), 2) x BR.out.br ⟨rfl, rfl, row_nil _⟩ runB_few runB_fewp (by simp) (List.pairwise_singleton _ _) (List.pairwise_singleton _ _)
  rw [run_again] at C
  refine C.mono ?_
  rintro e2 w2 ⟨⟨⟨q1, q2, q3⟩, ⟨q4, q5, q6⟩, ⟨q7, q8, q9⟩, ⟨q10, q11, q12⟩, ⟨q13, q14, q15⟩, rfl, _, _⟩, hb⟩
  have N2 := newB w2 (.cells #[.int .i64 0, .slice q1 q2 q3, .slice q4 q5 q6, .slice q7 q8 q9, .slice q10 q11 q12, .slice q13 q14 q15] 29)
  have HB := hb.trans (N2.mono hb.size)
  have YB := Lib.hid (XB.out.on HB)
  have YA := Lib.hid (XA.out.on HB)
  have BR2 := Lib.hid (BR.out.on HB)
  have B2 := Lib.hid (B1.out.trans (HB.mono B1.out.size))
  clear hb N2 HB C XB XA BR cb0 cb1 cb2 cb3 cb4 cb5 ca0 ca1 ca2 ca3
  have cb0 := YB.out.cell 0
  have cb1 := YB.out.cell 1
  have cb2 := YB.out.cell 2
  have cb3 := YB.out.cell 3
  have cb4 := YB.out.cell 4
  have cb5 := YB.out.cell 5
  have ca0 := YA.out.cell 0
  have ca1 := YA.out.cell 1
  have ca2 := YA.out.cell 2
  have ca3 := YA.out.cell 3
  simp only [List.getElem?_toArray, List.getElem?_cons_zero, List.getElem?_cons_succ] at cb0 cb1 cb2 cb3 cb4 cb5 ca0 ca1 ca2 ca3
  go_wp2_with fail
  generalize w2.alloc (.cells #[.int .i64 0, .slice q1 q2 q3, .slice q4 q5 q6, .slice q7 q8 q9, .slice q10 q11 q12, .slice q13 q14 q15] 29) = w3 at *
  have C := forget_any runB (1, 0) 3 (m1, m2, m3) (m4, m5, m6) (m7, m8, m9) (m10, m11, m12) (m13, m14, m15) w3 BR2.out.br runB_few runB_fewp
  rw [run_far] at C
  refine C.mono ?_
  rintro e3 w4 ⟨⟨⟨r1, r2, r3⟩, ⟨r4, r5, r6⟩, ⟨r7, r8, r9⟩, ⟨r10, r11, r12⟩, ⟨r13, r14, r15⟩, rfl, _, _⟩, hb⟩
  have N2 := newB w4 (.cells #[.int .i64 0, .slice r1 r2 r3, .slice r4 r5 r6, .slice r7 r8 r9, .slice r10 r11 r12, .slice r13 r14 r15] 29)
  have HB := hb.trans (N2.mono hb.size)
  have ZB := Lib.hid (YB.out.on HB)
  have ZA := Lib.hid (YA.out.on HB)
  have BR3 := Lib.hid (BR2.out.on HB)
  have B3 := Lib.hid (B2.out.trans (HB.mono B2.out.size))
  clear hb N2 HB C YB YA BR2 cb0 cb1 cb2 cb3 cb4 cb5 ca0 ca1 ca2 ca3
  have cb0 := ZB.out.cell 0
  have cb1 := ZB.out.cell 1
  have cb2 := ZB.out.cell 2
  have cb3 := ZB.out.cell 3
  have cb4 := ZB.out.cell 4
  have cb5 := ZB.out.cell 5
  have ca0 := ZA.out.cell 0
  have ca1 := ZA.out.cell 1
  have ca2 := ZA.out.cell 2
  have ca3 := ZA.out.cell 3
  simp only [List.getElem?_toArray, List.getElem?_cons_zero, List.getElem?_cons_succ] at cb0 cb1 cb2 cb3 cb4 cb5 ca0 ca1 ca2 ca3
  have N4 := newB (w4.alloc (.cells #[.int .i64 0, .slice r1 r2 r3, .slice r4 r5 r6, .slice r7 r8 r9, .slice r10 r11 r12, .slice r13 r14 r15] 29)) (.cells #[.int .i64 2, .int .i64 3] 3)
  have hl := Row.of_own (row_lit Nm.okI (w4.alloc (.cells #[.int .i64 0, .slice r1 r2 r3, .slice r4 r5 r6, .slice r7 r8 r9, .slice r10 r11 r12, .slice r13 r14 r15] 29)) [2, 3] 2 rfl (by simp) #[.int .i64 2, .int .i64 3] rfl)
  have hsz : (w4.alloc (.cells #[.int .i64 0, .slice r1 r2 r3, .slice r4 r5 r6, .slice r7 r8 r9, .slice r10 r11 r12, .slice r13 r14 r15] 29)).heap.size = w4.heap.size + 1 := by simp
  rw [hsz] at hl
  have C := Lib.hid (sameI (.slice m1 m2 m3) (.slice (some ⟨w4.heap.size + 1, 0, none⟩) 2 2) [2, 3] [2, 3] _ ((BR3.out.br.near).on N4) hl)
  have B4 := Lib.hid (B3.out.trans (N4.mono B3.out.size))
  have BR4 := Lib.hid (BR3.out.on N4)
  have XB4 := Lib.hid (ZB.out.on N4)
  have XA4 := Lib.hid (ZA.out.on N4)
  clear hl hsz N4 BR3
  go_wp2_with fail
  refine C.out.mono ?_
  rintro e5 w5 ⟨rfl, hb⟩
  have B5 := Lib.hid (B4.out.trans (hb.mono B4.out.size))
  have BR5 := Lib.hid (BR4.out.on hb)
  have XB5 := Lib.hid (XB4.out.on hb)
  have XA5 := Lib.hid (XA4.out.on hb)
  clear hb C BR4 XB4 XA4 ZB ZA cb0 cb1 cb2 cb3 cb4 cb5 ca0 ca1 ca2 ca3
  have e6 : decide (([2, 3] : List Int) = [2, 3]) = true := rfl
  have cb0 := XB5.out.cell 0
  have cb1 := XB5.out.cell 1
  have cb2 := XB5.out.cell 2
  have cb3 := XB5.out.cell 3
  have cb4 := XB5.out.cell 4
  have cb5 := XB5.out.cell 5
  have ca0 := XA5.out.cell 0
  have ca1 := XA5.out.cell 1
  have ca2 := XA5.out.cell 2
  have ca3 := XA5.out.cell 3
  simp only [List.getElem?_toArray, List.getElem?_cons_zero, List.getElem?_cons_succ] at cb0 cb1 cb2 cb3 cb4 cb5 ca0 ca1 ca2 ca3
  go_wp2_with fail
  refine (aseen_any 0 (.slice m1 m2 m3) (.slice m4 m5 m6) (.slice m10 m11 m12) (.slice m13 m14 m15) (m7, m8, m9) [(1, 0)] (1, 0) w5 BR5.out.br.seen).mono ?_
  rintro e7 w7 ⟨rfl, hb⟩
  have B7 := Lib.hid (B5.out.trans (hb.mono B5.out.size))
  have BR7 := Lib.hid (BR5.out.on hb)
  have XB7 := Lib.hid (XB5.out.on hb)
  clear hb BR5 XB5 XA5 e6 cb0 cb1 cb2 cb3 cb4 cb5 ca0 ca1 ca2 ca3
  have e8 : decide (((1, 0) : XID) ∈ [((1, 0) : XID)]) = true := rfl
  have cb0 := XB7.out.cell 0
  have cb1 := XB7.out.cell 1
  have cb2 := XB7.out.cell 2
  have cb3 := XB7.out.cell 3
  have cb4 := XB7.out.cell 4
  have cb5 := XB7.out.cell 5
  simp only [List.getElem?_toArray, List.getElem?_cons_zero, List.getElem?_cons_succ] at cb0 cb1 cb2 cb3 cb4 cb5
  go_wp2_with fail
  have C := aright_any runB (m1, m2, m3) (m4, m5, m6) (m7, m8, m9) (m10, m11, m12) (m13, m14, m15) w7 BR7.out.br runB_few runB_tame
  rw [run_ok] at C
  refine C.mono ?_
  rintro e9 w9 ⟨rfl, hb⟩
  have B9 := Lib.hid (B7.out.trans (hb.mono B7.out.size))
  clear hb C
  go_wp2
  go_ret
  exact ⟨rfl, B9.out⟩
end Go.Proofs.YtonoadjmglkhaaaGreat.Av
