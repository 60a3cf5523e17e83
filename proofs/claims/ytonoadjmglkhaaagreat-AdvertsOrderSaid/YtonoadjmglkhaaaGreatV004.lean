/-
  Operations of a region that draws whose guard is not met. No condition beyond what the theorems state.
  More operations of a region that draws: a struct built, a store, a conversion, a negation, a pick. No condition beyond what the theorems state.
  Rows of elements of any kind: copies within a row and between rows, room made in the middle of one. No program's function in it. Conditions: lists no longer than a machine holds.
-/
import Derived.Test.YtonoadjmglkhaaaGreatV002
import Derived.Test.YtonoadjmglkhaaaGreatV001
import Derived.Lib.AppendZerosOnto
import Derived.Lib.Overlaps
import Derived.Deep.RegionLaw
import Derived.Laws.Externs
namespace Go.Proofs.YtonoadjmglkhaaaGreat.Rg
open Go.RowKit

/-- An operation whose guard is not met. -/
theorem op_unwanted {P : Program} {ops : Array Oper} {Q : Exit → Act → World → Prop} {K : Act → World → Prop} {a : Act} {w : World} {i : Nat} {o : Oper}
    (ho : ops[i]? = some o) (hw : Region.wanted o (yielded ops a.tmps) = false) (h : K (a.put o.dst undef) w) : wpOp P ops Q i K a w := by
  unfold wpOp
  rw [ho]
  simp only [hw]
  exact h
/-- A guard that is not met. -/
theorem unwanted_of {ops : Array Oper} {o og : Oper} {g : Nat} {b c : Bool} {d : Nat} {tmps : Array Value} (ho : o.guard = some (g, b)) (hg : ops[g]? = some og) (hd : og.dst = some d) (ht : tmps[d]? = some (.bool c)) (hne : c ≠ b) : Region.wanted o (yielded ops tmps) = false := by
  unfold Region.wanted yielded
  rw [ho]
  cases b <;> cases c <;> simp_all
end Go.Proofs.YtonoadjmglkhaaaGreat.Rg

namespace Go.Proofs.YtonoadjmglkhaaaGreat.Rg
open Go.RowKit

theorem ex_buildS {P : Program} (ρ : Operand → Value) (o : Oper) (t : TypeId) (parts : Array (Nat × Operand)) (ho : o.op = .build t parts) {ps : Array (Nat × Value)} (hp : parts.map (fun x => (x.1, ρ x.2)) = ps) {v : Value} {w : World} (hr : (Instr.build t ps).run P w = .ok v w) :
    (execOp ρ o).run P w = .ok (.value v) w := by
  subst hp
  simp [execOp, ho, hr, Result.andThen]
theorem ex_store {P : Program} (ρ : Operand → Value) (o : Oper) (t : TypeId) (x y : Operand) (ho : o.op = .store t x y) {w w' : World} (hr : (Instr.storeAt t (ρ x) (ρ y)).run P w = .ok () w') :
    (execOp ρ o).run P w = .ok .skip w' := by
  simp [execOp, ho, hr, Result.andThen]
theorem ex_conv {P : Program} (ρ : Operand → Value) (o : Oper) (s t : TypeId) (x : Operand) (ho : o.op = .convert s t x) {v : Value} {w w' : World} (hr : (convert s t (ρ x)).run P w = .ok v w') :
    (execOp ρ o).run P w = .ok (.value v) w' := by
  simp [execOp, ho, hr, Result.andThen]
theorem ex_not {P : Program} (ρ : Operand → Value) (o : Oper) (t : TypeId) (x : Operand) (ho : o.op = .unOp .not t x) {b : Bool} (hx : ρ x = .bool b) (w : World) : (execOp ρ o).run P w = .ok (.value (.bool (!b))) w := by
  unfold execOp
  rw [ho]
  simp [hx, go_sem]
theorem ex_pick_f {P : Program} (ρ : Operand → Value) (o : Oper) (c x y : Operand) (ho : o.op = .pick c x y) (hc : ρ c = .bool false) {v : Value} (hy : ρ y = v) (w : World) : (execOp ρ o).run P w = .ok (.value v) w := by
  have h := ex_pick (P := P) ρ o c x y ho hc w
  rw [hy] at h
  exact h
end Go.Proofs.YtonoadjmglkhaaaGreat.Rg

namespace Go.Proofs.YtonoadjmglkhaaaGreat.Rw
open Go.RowKit
variable {α : Type} {E : Ek α}

theorem below_setRow {B g : Nat} {W w : World} (h : Below B W w) (hB : B ≤ g) (cs : Array Value) : Below B W (w.setRow g cs) :=
  ⟨h.os, h.tape, h.output, by simp [World.setRow]; exact h.size, fun k hk => by
    have hne : g ≠ k := by omega
    have h2 := h.block k hk
    simp [World.setRow, Array.getElem?_modify, hne, h2]⟩
theorem Box.set {w : World} {g : Nat} {cur : Array Value} {t : TypeId} (h : Box w g cur t) (cs : Array Value) : Box (w.setRow g cs) g cs t := setRow_heap w g cur cs t (0, 0) h
theorem Box.other {w : World} {g b : Nat} {cur : Array Value} {t : TypeId} (h : Box w b cur t) (hne : b ≠ g) (cs : Array Value) : Box (w.setRow g cs) b cur t := (setRow_other w g b cs hne).trans h
theorem Box.drew {w : World} {b : Nat} {cur : Array Value} {t : TypeId} (h : Box w b cur t) : Box w.drew b cur t := h
theorem Box.shape {w : World} {b : Nat} {cur : Array Value} {t : TypeId} (h : Box w b cur t) : w.shape? b = some (t, cur.size) := by
  unfold Box at h
  simp [World.shape?, h]
/-- A row of one's own, opened. -/
theorem own_open {W : World} {B : Nat} {v : Value} {l : List α} (h : Own E W B v l) : (v = .slice none 0 0 ∧ l = []) ∨ ∃ g cap cur, v = .slice (some ⟨g, 0, none⟩) l.length cap ∧ B ≤ g ∧ Box W g cur E.t ∧ l.length ≤ cap ∧ cap ≤ maxLen ∧ cur.size = cap * E.n ∧ cur.toList.take (l.length * E.n) = flat E l := by
  rcases h.2 with ⟨h1, h2⟩ | ⟨g, cap, cur, h1, h2, h3, h4, h5, h6, h7⟩
  · exact Or.inl ⟨h1, List.eq_nil_of_length_eq_zero h2⟩
  · exact Or.inr ⟨g, cap, cur, h1, h2, h3, h4, h5, h6, h7⟩
theorem own_shut (K : E.Ok) {W : World} {B g cap n : Nat} {cur : Array Value} {l : List α} (hn : n = l.length) (hB : B ≤ g) (hb : Box W g cur E.t) (h1 : n ≤ cap) (h2 : cap ≤ maxLen) (h3 : cur.size = cap * E.n) (h4 : cur.toList.take (n * E.n) = flat E l) : Own E W B (.slice (some ⟨g, 0, none⟩) n cap) l := by
  subst hn
  exact ⟨flat_length K l, Or.inr ⟨g, cap, cur, rfl, hB, hb, h1, h2, h3, h4⟩⟩
theorem flat_take (K : E.Ok) (l : List α) (k : Nat) : (flat E l).take (k * E.n) = flat E (l.take k) := by
  rcases Nat.le_total k l.length with h | h
  · conv => lhs; rw [← List.take_append_drop k l, flat_append]
    have e : (flat E (l.take k)).length = k * E.n := by rw [flat_length K, List.length_take, Nat.min_eq_left h]
    rw [← e, List.take_left]
  · rw [List.take_of_length_le h, List.take_of_length_le]
    rw [flat_length K]
    exact Nat.mul_le_mul_right _ h
theorem flat_drop (K : E.Ok) (l : List α) (k : Nat) : (flat E l).drop (k * E.n) = flat E (l.drop k) := by
  rcases Nat.le_total k l.length with h | h
  · conv => lhs; rw [← List.take_append_drop k l, flat_append]
    have e : (flat E (l.take k)).length = k * E.n := by rw [flat_length K, List.length_take, Nat.min_eq_left h]
    rw [← e, List.drop_left]
  · rw [List.drop_of_length_le h, List.drop_of_length_le]
    · rfl
    rw [flat_length K]
    exact Nat.mul_le_mul_right _ h
/-- A list's rest, where a block holds the list. -/
theorem box_rest (K : E.Ok) {W : World} {g : Nat} {cur : Array Value} {t : TypeId} {l : List α} (hb : Box W g cur t) (ht : cur.toList.take (l.length * E.n) = flat E l) (k : Nat) : ∀ j u, (flat E (l.drop k))[j]? = some u → W.cell? ((⟨g, k * E.n, none⟩ : Addr).add j) = some u := by
  intro j u hj
  rw [Addr.add_lit, hb.cell]
  rw [← flat_drop K, List.getElem?_drop, ← ht, List.getElem?_take] at hj
  split at hj
  · simpa using hj
  · cases hj
theorem box_one {W : World} {b : Nat} {cs : Array Value} {t : TypeId} {x : α} (hb : Box W b cs t) (hc : cs.toList = E.cells x) : ∀ j u, (flat E [x])[j]? = some u → W.cell? ((⟨b, 0, none⟩ : Addr).add j) = some u := by
  intro j u hj
  rw [add_own, hb.cell]
  rw [flat_one', ← hc] at hj
  simpa using hj
/-- A part of a row. -/
theorem cut_hi (K : E.Ok) (g k len cap : Nat) (h : k ≤ len) (hc : k < cap) (w : World) : (Instr.sliceAt E.ts (.slice (some ⟨g, 0, none⟩) len cap) (some (.int .i64 k)) none none).run Tryz.prog w = .ok (.slice (some ⟨g, k * E.n, none⟩) (len - k) (cap - k)) w := by
  rw [slice_hi K ⟨g, 0, none⟩ k len cap h w, if_neg (by omega), add_own]
/-- A copy into a block, at a place. -/
theorem copy_box (K : E.Ok) {w : World} {g o nd cd ns sc : Nat} {a : Addr} {cur : Array Value} {m : List α} (hb : Box w g cur E.t) (hm : ∀ j u, (flat E m)[j]? = some u → w.cell? (a.add j) = some u) (hk : min ns nd = m.length) (hr : (o + m.length) * E.n ≤ cur.size) (ty : TypeId) :
    (Builtin.copy_ #[E.ts, E.ts] ty #[.slice (some ⟨g, o * E.n, none⟩) nd cd, .slice (some a) ns sc]).run Tryz.prog w = .ok (.int .i64 m.length) (w.setRow g (cur.toList.take (o * E.n) ++ flat E m ++ cur.toList.drop ((o + m.length) * E.n)).toArray) := by
  obtain ⟨i, i1, i2, i3, i4⟩ := K.info
  have hl := run_loadCells_list (P := Tryz.prog) w a (flat E m) hm
  have hst := run_storeCells_at Tryz.prog g (o * E.n) E.t (flat E m) 0 cur w hb (by rw [flat_length K, Nat.add_zero, ← Nat.add_mul]; exact hr) (flat_cell K m)
  rw [flat_length K] at hl
  have e : o * E.n + 0 + (flat E m).length = (o + m.length) * E.n := by rw [flat_length K, Nat.add_zero, Nat.add_mul]
  rw [e, Nat.add_zero] at hst
  simp [Builtin.copy_, run_underlying K.hu, Builtin.lenOf, Builtin.firstCells, sizeOf, typeInfo, i1, i3, hk, hl, goInt]
  simpa using congrArg (fun r => r.andThen fun _ w => Result.ok (Value.int .i64 m.length) w) hst

/-! ### one element more, in the middle -/
section
variable {l : List α} {k cap : Nat} {cur cs : Array Value} {c : α}
/-- Where there is room: the two copies, and what then lies there. -/
theorem shift_mid (K : E.Ok) (hk : k < l.length) (hcap : l.length + 1 ≤ cap) (hsz : cur.size = cap * E.n) (ht : cur.toList.take (l.length * E.n) = flat E l) (g b : Nat) (_hne : b ≠ g) :
    ∃ R1 R2 : Array Value,
      (∀ (W : World) (ty : TypeId) (nd dc ns sc : Nat), Box W g cur E.t → min ns nd = l.length - k → (Builtin.copy_ #[E.ts, E.ts] ty #[.slice (some ⟨g, (k + 1) * E.n, none⟩) nd dc, .slice (some ⟨g, k * E.n, none⟩) ns sc]).run Tryz.prog W = .ok (.int .i64 ((l.length - k : Nat) : Int)) (W.setRow g R1)) ∧
      (∀ (W : World) (ty : TypeId) (nd dc : Nat), Box W g R1 E.t → Box W b cs E.t → cs.toList = E.cells c → 1 ≤ nd → (Builtin.copy_ #[E.ts, E.ts] ty #[.slice (some ⟨g, k * E.n, none⟩) nd dc, .slice (some ⟨b, 0, none⟩) 1 1]).run Tryz.prog W = .ok (.int .i64 1) (W.setRow g R2)) ∧
      (∀ (W : World) (B : Nat), B ≤ g → cap ≤ maxLen → Box W g R2 E.t → Own E W B (.slice (some ⟨g, 0, none⟩) (l.length + 1) cap) (l.take k ++ c :: l.drop k)) := by
  have hkl : (l.drop k).length = l.length - k := by simp
  have hs1 : (cur.toList.take ((k + 1) * E.n) ++ flat E (l.drop k) ++ cur.toList.drop ((k + 1 + (l.drop k).length) * E.n)).length = cap * E.n := by
    have h1 : (k + 1) * E.n ≤ cap * E.n := Nat.mul_le_mul_right _ (by omega)
    have h2 : (k + 1 + (l.drop k).length) * E.n ≤ cap * E.n := Nat.mul_le_mul_right _ (by omega)
    simp only [List.length_append, List.length_take, List.length_drop, Array.length_toList, flat_length K, hsz]
    rw [Nat.min_eq_left h1]
    have h3 : (k + 1 + (l.drop k).length) * E.n = (k + 1) * E.n + (l.drop k).length * E.n := Nat.add_mul ..
    simp only [List.length_drop] at h2 h3 ⊢
    omega
  refine ⟨(cur.toList.take ((k + 1) * E.n) ++ flat E (l.drop k) ++ cur.toList.drop ((k + 1 + (l.drop k).length) * E.n)).toArray,
    ((cur.toList.take ((k + 1) * E.n) ++ flat E (l.drop k) ++ cur.toList.drop ((k + 1 + (l.drop k).length) * E.n)).take (k * E.n) ++ flat E [c] ++ (cur.toList.take ((k + 1) * E.n) ++ flat E (l.drop k) ++ cur.toList.drop ((k + 1 + (l.drop k).length) * E.n)).drop ((k + 1) * E.n)).toArray, ?_, ?_, ?_⟩
  · intro W ty nd dc ns sc hb hm
    have h := copy_box K (o := k + 1) (m := l.drop k) (nd := nd) (cd := dc) (ns := ns) (sc := sc) hb (box_rest K hb ht k) (by rw [hkl]; exact hm) (by rw [hkl, hsz]; exact Nat.mul_le_mul_right _ (by omega)) ty
    rw [hkl] at h ⊢
    exact h
  · intro W ty nd dc hb hx hc hn
    have h := copy_box K (o := k) (m := [c]) (nd := nd) (cd := dc) (ns := 1) (sc := 1) hb (box_one hx hc) (by simp; omega) (by rw [List.size_toArray, hs1]; exact Nat.mul_le_mul_right _ (by simp; omega)) ty
    simpa using h
  · intro W B hB hm hb
    have p1 : (cur.toList.take ((k + 1) * E.n)).length = (k + 1) * E.n := by
      rw [List.length_take, Array.length_toList, hsz]
      exact Nat.min_eq_left (Nat.mul_le_mul_right _ (by omega))
    have p2 : (cur.toList.take ((k + 1) * E.n) ++ flat E (l.drop k) ++ cur.toList.drop ((k + 1 + (l.drop k).length) * E.n)).take (k * E.n) = flat E (l.take k) := by
      rw [List.append_assoc, List.take_append_of_le_length (by rw [p1]; exact Nat.mul_le_mul_right _ (by omega)), List.take_take, Nat.min_eq_left (Nat.mul_le_mul_right _ (by omega)), ← flat_take K, ← ht, List.take_take, Nat.min_eq_left (Nat.mul_le_mul_right _ (by omega))]
    have p3 : (cur.toList.take ((k + 1) * E.n) ++ flat E (l.drop k) ++ cur.toList.drop ((k + 1 + (l.drop k).length) * E.n)).drop ((k + 1) * E.n) = flat E (l.drop k) ++ cur.toList.drop ((k + 1 + (l.drop k).length) * E.n) := by
      rw [List.append_assoc, List.drop_left' p1]
    have e : flat E (l.take k) ++ flat E [c] ++ flat E (l.drop k) = flat E (l.take k ++ c :: l.drop k) := by
      rw [flat_append, show c :: l.drop k = [c] ++ l.drop k from rfl, flat_append, List.append_assoc]
    have ln : (l.take k ++ c :: l.drop k).length = l.length + 1 := by simp; omega
    have q : (flat E (l.take k) ++ flat E [c] ++ flat E (l.drop k)).length = (l.length + 1) * E.n := by rw [e, flat_length K, ln]
    refine own_shut K ln.symm hB hb hcap hm ?_ ?_
    · rw [List.size_toArray, p2, p3, ← List.append_assoc, List.length_append, q, List.length_drop, show cur.toList.length = cap * E.n from Array.length_toList.trans hsz, hkl]
      have h1 : (l.length + 1) * E.n ≤ cap * E.n := Nat.mul_le_mul_right _ hcap
      rw [show k + 1 + (l.length - k) = l.length + 1 by omega]
      omega
    · rw [p2, p3, ← List.append_assoc]
      exact (List.take_left' q).trans e
/-- Where there is none: a new block, and the two copies into it. -/
theorem grow_mid (K : E.Ok) (tn : TypeId) (htn : Tryz.prog.underlying tn = some (.int .i64)) (hk : k < l.length) (hl : l.length ≤ 1000) (hcap : cap < l.length + 1) (hlc : l.length ≤ cap) (ht : cur.toList.take (l.length * E.n) = flat E l) (W : World) (g b : Nat) (hb : Box W g cur E.t) (_hbW : b < W.heap.size) :
    ∃ (G : Nat) (R1 R2 R3 : Array Value), l.length + 1 ≤ G ∧ G ≤ maxLen ∧
      (∀ ty, (Builtin.append_ #[E.ts, tn] ty #[.slice (some ⟨g, 0, none⟩) k cap, .int .i64 ((l.length : Int) + 1 - k)]).run Tryz.prog W = .ok (.slice (some ⟨W.heap.size, 0, none⟩) (l.length + 1) G) (W.drew.alloc (.cells R1 E.t))) ∧
      (∀ (w : World) (ty : TypeId) (nd dc : Nat), Box w W.heap.size R1 E.t → Box w b cs E.t → cs.toList = E.cells c → 1 ≤ nd → (Builtin.copy_ #[E.ts, E.ts] ty #[.slice (some ⟨W.heap.size, k * E.n, none⟩) nd dc, .slice (some ⟨b, 0, none⟩) 1 1]).run Tryz.prog w = .ok (.int .i64 1) (w.setRow W.heap.size R2)) ∧
      (∀ (w : World) (ty : TypeId) (nd dc ns sc : Nat), Box w W.heap.size R2 E.t → Box w g cur E.t → min ns nd = l.length - k → (Builtin.copy_ #[E.ts, E.ts] ty #[.slice (some ⟨W.heap.size, (k + 1) * E.n, none⟩) nd dc, .slice (some ⟨g, k * E.n, none⟩) ns sc]).run Tryz.prog w = .ok (.int .i64 ((l.length - k : Nat) : Int)) (w.setRow W.heap.size R3)) ∧
      (∀ (w : World) (B : Nat), B ≤ W.heap.size → Box w W.heap.size R3 E.t → Own E w B (.slice (some ⟨W.heap.size, 0, none⟩) (l.length + 1) G) (l.take k ++ c :: l.drop k)) := by
  obtain ⟨i, i1, i2, i3, i4⟩ := K.info
  have hf := K.few
  have hpos := K.pos
  have hkl : (l.drop k).length = l.length - k := by simp
  have hold : (Builtin.firstCells i.size k (.slice (some ⟨g, 0, none⟩) k cap)).run Tryz.prog W.drew = .ok (flat E (l.take k)).toArray W.drew :=
    run_firstCells_some (P := Tryz.prog) (w := W.drew) i.size k ⟨g, 0, none⟩ k cap (flat E (l.take k)) (by rw [flat_length K, List.length_take, Nat.min_eq_left (by omega), i3]) (fun j u hj => by
      rw [add_own]
      show W.cell? _ = _
      rw [hb.cell]
      rw [← flat_take K, ← ht, List.getElem?_take] at hj
      split at hj
      · rw [List.getElem?_take] at hj
        split at hj
        · simpa using hj
        · cases hj
      · cases hj)
  have happ := fun ty => Lib.run_append_grow_zeros (P := Tryz.prog) W E.ts tn ty E.t i _ .i64 .i64 K.hu htn i1 i2 (some ⟨g, 0, none⟩) k cap (flat E (l.take k)) hold (l.length + 1 - k) (by omega) (by rw [i3]; exact hpos) (by omega) (by omega)
    (by rw [i4]; exact Nat.le_trans (Nat.mul_le_mul (show l.length + 1 - k ≤ 2000 by omega) hf) (by decide))
    (growslice_fits (by omega) (by rw [i4]; exact Nat.le_trans (Nat.mul_le_mul (show k + (l.length + 1 - k) ≤ 2000 by omega) hf) (by decide)))
  rw [show k + (l.length + 1 - k) = l.length + 1 by omega] at happ
  have hG1 := grownCap_ge W (l.length + 1) cap E.t
  have hG2 := grownCap_le_maxLen W (l.length + 1) cap E.t (by unfold maxLen; omega)
  generalize grownCap W (l.length + 1) cap E.t = G at happ hG1 hG2
  obtain ⟨R1, hR1⟩ : ∃ R1 : Array Value, R1 = (flat E (l.take k)).toArray ++ Builtin.zeroCells E.z.cells (l.length + 1 - k) ++ Builtin.zeroCells E.z.cells (G - (l.length + 1)) := ⟨_, rfl⟩
  rw [← hR1] at happ
  have hs0 : R1.size = G * E.n := by
    rw [hR1]
    simp only [Array.size_append, List.size_toArray, size_zeroCells, K.zs, flat_length K, List.length_take, Nat.min_eq_left (Nat.le_of_lt hk), ← Nat.add_mul]
    rw [show k + (l.length + 1 - k) + (G - (l.length + 1)) = G by omega]
  have hh : R1.toList.take (k * E.n) = flat E (l.take k) := by
    rw [hR1]
    simp only [Array.toList_append, List.append_assoc]
    have e : (flat E (l.take k)).length = k * E.n := by rw [flat_length K, List.length_take, Nat.min_eq_left (by omega)]
    rw [← e]
    simp
  have q1 : (flat E [c]).length = 1 * E.n := by rw [flat_length K]; rfl
  have q0 : (R1.toList.take (k * E.n)).length = k * E.n := by
    rw [hh, flat_length K, List.length_take, Nat.min_eq_left (by omega)]
  have hs2 : (R1.toList.take (k * E.n) ++ flat E [c] ++ R1.toList.drop ((k + [c].length) * E.n)).length = G * E.n := by
    have h1 : (k + 1) * E.n ≤ G * E.n := Nat.mul_le_mul_right _ (by omega)
    have h2 : (k + 1) * E.n = k * E.n + 1 * E.n := Nat.add_mul ..
    simp only [List.length_append, q0, q1, List.length_drop, Array.length_toList, hs0, List.length_singleton]
    omega
  refine ⟨G, R1, (R1.toList.take (k * E.n) ++ flat E [c] ++ R1.toList.drop ((k + [c].length) * E.n)).toArray,
    ((R1.toList.take (k * E.n) ++ flat E [c] ++ R1.toList.drop ((k + [c].length) * E.n)).take ((k + 1) * E.n) ++ flat E (l.drop k) ++ (R1.toList.take (k * E.n) ++ flat E [c] ++ R1.toList.drop ((k + [c].length) * E.n)).drop ((k + 1 + (l.drop k).length) * E.n)).toArray, hG1, hG2, ?_, ?_, ?_, ?_⟩
  · intro ty
    have h := happ ty
    rw [show ((l.length + 1 - k : Nat) : Int) = (l.length : Int) + 1 - k by omega] at h
    exact h
  · intro w ty nd dc hb' hx hc hn
    have h := copy_box K (o := k) (m := [c]) (nd := nd) (cd := dc) (ns := 1) (sc := 1) hb' (box_one hx hc) (by simp; omega) (by rw [hs0]; exact Nat.mul_le_mul_right _ (by simp; omega)) ty
    simpa using h
  · intro w ty nd dc ns sc hb' hx hm
    have h := copy_box K (o := k + 1) (m := l.drop k) (nd := nd) (cd := dc) (ns := ns) (sc := sc) hb' (box_rest K hx ht k) (by rw [hkl]; exact hm) (by rw [hkl, List.size_toArray, hs2]; exact Nat.mul_le_mul_right _ (by omega)) ty
    rw [hkl] at h ⊢
    exact h
  · intro w B hB hb'
    have p2 : (R1.toList.take (k * E.n) ++ flat E [c] ++ R1.toList.drop ((k + [c].length) * E.n)).take ((k + 1) * E.n) = flat E (l.take k) ++ flat E [c] := by
      have e : (R1.toList.take (k * E.n) ++ flat E [c]).length = (k + 1) * E.n := by rw [List.length_append, q0, q1, ← Nat.add_mul]
      rw [← e, List.take_left, hh]
    have e : flat E (l.take k) ++ flat E [c] ++ flat E (l.drop k) = flat E (l.take k ++ c :: l.drop k) := by
      rw [flat_append, show c :: l.drop k = [c] ++ l.drop k from rfl, flat_append, List.append_assoc]
    have ln : (l.take k ++ c :: l.drop k).length = l.length + 1 := by simp; omega
    have q : (flat E (l.take k) ++ flat E [c] ++ flat E (l.drop k)).length = (l.length + 1) * E.n := by rw [e, flat_length K, ln]
    refine own_shut K ln.symm hB hb' hG1 hG2 ?_ ?_
    · rw [List.size_toArray, p2, List.length_append, q, List.length_drop, hs2, hkl]
      have h1 : (l.length + 1) * E.n ≤ G * E.n := Nat.mul_le_mul_right _ hG1
      rw [show k + 1 + (l.length - k) = l.length + 1 by omega]
      omega
    · rw [p2]
      exact (List.take_left' q).trans e
end
/-- An append of so many zeros, met by its run. -/
theorem wpList_append_run2 {P : Program} {ops : Array Oper} {rest : List Oper} {o : Oper} {a : Act} {Q : Exit → Act → World → Prop} {w w' : World} (hgd : o.guard = none) (s x : Operand) (t t' : TypeId)
    (ho : o.op = .call { callee := .builtin .append, args := #[s, x], argTypes := #[t, t'] }) {v xv v' : Value} (hs : a.eval s = v) (hx : a.eval x = xv) (hr : (Builtin.append_ #[t, t'] o.type #[v, xv]).run P w = .ok v' w')
    (h : wpList P ops Q rest (a.put o.dst v') w') : wpList P ops Q (o :: rest) a w := by
  refine wpList_plain hgd fun K hK => ?_
  unfold Oper.wp execOp
  simp only [ho, resolve, invoke, builtin, Sem.run_bind, Sem.run_pure, Result.andThen_ok, List.map_toArray, List.map_cons, List.map_nil, hs, hx, hr]
  exact hK _ _ h
/-- A copy, as one step of a region that draws, met by its run. -/
theorem step_copy_run {P : Program} {ops : Array Oper} {o : Oper} {a : Act} {w w' : World} {K : Act → World → Prop} {Q : Exit → Act → World → Prop} {E : Prop}
    (hg : o.guard = none) (s x : Operand) (t : TypeId) (hop : o.op = .call { callee := .builtin .copy, args := #[s, x], argTypes := #[t, t] }) {v xv v' : Value} (hs : a.eval s = v) (hx : a.eval x = xv)
    (hr : (Builtin.copy_ #[t, t] o.type #[v, xv]).run P w = .ok v' w') (hK : K (a.put o.dst v') w') :
    if Region.wanted o (yielded ops a.tmps) = true then Oper.wp P o a w K Q else E := by
  have hw : Region.wanted o (yielded ops a.tmps) = true := by simp [Region.wanted, hg]
  rw [if_pos hw]
  unfold Oper.wp execOp
  simp only [hop, resolve, invoke, builtin, Sem.run_bind, Sem.run_pure, Result.andThen_ok, List.map_toArray, List.map_cons, List.map_nil, hs, hx, hr]
  exact hK
end Go.Proofs.YtonoadjmglkhaaaGreat.Rw
