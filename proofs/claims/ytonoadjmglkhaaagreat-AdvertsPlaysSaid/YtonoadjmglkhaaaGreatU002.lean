/-
  Constraints in memory: as values, as cells, as lists. No program's call in it.
  Rows of elements of any kind: copies within a row and between rows, room made in the middle of one. No program's function in it. Conditions: lists no longer than a machine holds.
  Rows of IDs, of advertisements, of entries and of own subscriptions; a broker as a value, and in memory. No program's function in it.
-/
import Derived.Test.YtonoadjmglkhaaaGreatU001
import Derived.Test.YtonoadjmglkhaaaGreatU000
import Derived.Lib.AppendZerosOnto
import Derived.Lib.Overlaps
import Derived.Deep.RegionLaw
import Derived.Laws.Externs
namespace Go.Proofs.YtonoadjmglkhaaaGreat.Pr
open Go.RowKit Go.Proofs.YtonoadjmglkhaaaGreat Go.Proofs.YtonoadjmglkhaaaGreat.Pu Go.Proofs.YtonoadjmglkhaaaGreat.Rw

/-- A constraint as it lies: its name, kind, bounds, text. -/
abbrev C5 := ByteArray × Int × Int × Int × ByteArray
abbrev cv (c : C5) : Value := .agg #[.string c.1, .int .i64 c.2.1, .int .i64 c.2.2.1, .int .i64 c.2.2.2.1, .string c.2.2.2.2]
def cells5 (c : C5) : List Value := [.string c.1, .int .i64 c.2.1, .int .i64 c.2.2.1, .int .i64 c.2.2.2.1, .string c.2.2.2.2]
def r5 (c : Cn) : C5 := (c.1, kN c.2, kLo c.2, kHi c.2, kT c.2)
def EC : Ek C5 := ⟨62, 39, 5, 56, .agg #[.string ⟨#[]⟩, .int .i64 0, .int .i64 0, .int .i64 0, .string ⟨#[]⟩], cv, cells5⟩
theorem infoC0 : (Tryz.prog.info? 62).map (fun i => (i.zero, i.size, i.bytes)) = some (some (.agg #[.string ⟨#[]⟩, .int .i64 0, .int .i64 0, .int .i64 0, .string ⟨#[]⟩]), 5, 56) := by kernel_rfl
theorem load_runC (w : World) (p : Addr) (c : C5) (h : ∀ j u, (cells5 c)[j]? = some u → w.cell? (p.add j) = some u) : (Instr.loadAt 62 (.pointer (some p))).run Tryz.prog w = .ok (cv c) w := by
  have h0 := h 0 _ rfl
  have h1 := h 1 _ rfl
  have h2 := h 2 _ rfl
  have h3 := h 3 _ rfl
  have h4 := h 4 _ rfl
  simp [Addr.add] at h0 h1 h2 h3 h4
  simp [go_sem, h0, h1, h2, h3, h4]
theorem okC : EC.Ok where
  hu := Tryz.underlying39
  info := by
    have h := infoC0
    cases hi : Tryz.prog.info? 62 with
    | none => rw [hi] at h; cases h
    | some i =>
      rw [hi] at h
      simp only [Option.map_some, Option.some.injEq, Prod.mk.injEq] at h
      exact ⟨i, hi, h.1, h.2.1, h.2.2⟩
  zs := rfl
  len := fun _ => rfl
  one := fun x u hu => by
    simp only [EC, cells5, List.mem_cons, List.not_mem_nil, or_false] at hu
    rcases hu with rfl | rfl | rfl | rfl | rfl <;> rfl
  pos := by decide
  few := by decide
  load := fun w p x h => load_runC w p x h
abbrev RowC (W : World) (v : Value) (l : List C5) : Prop := Row EC W v l
abbrev OwnC (W : World) (B : Nat) (v : Value) (l : List C5) : Prop := Own EC W B v l
/-- The cells of an element, one by one. -/
theorem five {w : World} {p : Addr} {c : C5} (h : ∀ j u, (EC.cells c)[j]? = some u → w.cell? (p.add j) = some u) :
    w.cell? p = some (.string c.1) ∧ w.cell? ⟨p.block, p.off + 1, none⟩ = some (.int .i64 c.2.1) ∧ w.cell? ⟨p.block, p.off + 2, none⟩ = some (.int .i64 c.2.2.1) ∧ w.cell? ⟨p.block, p.off + 3, none⟩ = some (.int .i64 c.2.2.2.1) ∧ w.cell? ⟨p.block, p.off + 4, none⟩ = some (.string c.2.2.2.2) := by
  have h0 := h 0 _ rfl
  rw [add_zero] at h0
  have g : ∀ j u, j ≠ 0 → (EC.cells c)[j]? = some u → w.cell? ⟨p.block, p.off + j, none⟩ = some u := fun j u hj hu => by
    rw [← add_pos p j hj]; exact h j u hu
  exact ⟨h0, g 1 _ (by decide) rfl, g 2 _ (by decide) rfl, g 3 _ (by decide) rfl, g 4 _ (by decide) rfl⟩
/-- Where an element lies, and its cells. -/
theorem elC {W : World} {v : Value} {l : List C5} {ao : Option Addr} {n c k : Nat} {x : C5} (h : RowC W v l) (hv : v = .slice ao n c) (hn : l.length = n) (hk : l[k]? = some x) :
    ∃ p : Addr, (∀ w, (Instr.indexAt 39 (.slice ao n c) (.int .i64 k)).run Tryz.prog w = .ok (.pointer (some p)) w) ∧ ∀ w, Below W.heap.size W w →
      w.cell? p = some (.string x.1) ∧ w.cell? ⟨p.block, p.off + 1, none⟩ = some (.int .i64 x.2.1) ∧ w.cell? ⟨p.block, p.off + 2, none⟩ = some (.int .i64 x.2.2.1) ∧ w.cell? ⟨p.block, p.off + 3, none⟩ = some (.int .i64 x.2.2.2.1) ∧ w.cell? ⟨p.block, p.off + 4, none⟩ = some (.string x.2.2.2.2) := by
  obtain ⟨p, h1, _, h2⟩ := row_el okC h hv hn hk
  exact ⟨p, h1, fun w hw => five (h2 w hw)⟩
theorem loC {W : World} {v : Value} {l : List C5} (h : RowC W v l) (k : Nat) (hk : k ≤ l.length) : ∃ lo, (∀ w, (Instr.sliceAt 39 v none (some (.int .i64 k)) none).run Tryz.prog w = .ok lo w) ∧ RowC W lo (l.take k) := row_lo okC h k hk
theorem hiC {W : World} {v : Value} {l : List C5} (h : RowC W v l) (k : Nat) (hk : k ≤ l.length) : ∃ hi, (∀ w, (Instr.sliceAt 39 v (some (.int .i64 k)) none none).run Tryz.prog w = .ok hi w) ∧ RowC W hi (l.drop k) := row_hi okC h k hk
theorem appC {w : World} (B : Nat) {v x : Value} {l m : List C5} (hown : OwnC w B v l) (hx : RowC w x m) (hn : l.length ≤ 1000) (hm : m.length ≤ 1000) (hB : B ≤ w.heap.size) :
    ∃ v' w', (Builtin.append_ #[39, 39] 39 #[v, x]).run Tryz.prog w = .ok v' w' ∧ OwnC w' B v' (l ++ m) ∧ w.grownBy w' v.ownBlock := app_row okC B hown hx hn hm hB 39
theorem ownC_nil (w : World) : OwnC (w.alloc (.cells #[] 62)) w.heap.size (.slice (some ⟨w.heap.size, 0, none⟩) 0 0) [] := own_made w
theorem stoodC : Tryz.prog.stoodInHeld 62 = false := by kernel_rfl
/-- Are two constraints the same? -/
def eqlC (x y : C5) : Bool := x.1.toList == y.1.toList && (x.2.1 == y.2.1 && (x.2.2.1 == y.2.2.1 && (x.2.2.2.1 == y.2.2.2.1 && x.2.2.2.2.toList == y.2.2.2.2.toList)))
set_option maxRecDepth 100000 in
set_option maxHeartbeats 1000000 in
theorem neqC (x y : C5) (r : Bool) (hr : eqlC x y = r) (w : World) : (binOp .neq 62 (cv x) (cv y)).run Tryz.prog w = .ok (.bool (!r)) w := by
  have st := stoodC
  subst hr
  obtain ⟨a, b, c, d, e⟩ := x
  obtain ⟨a', b', c', d', e'⟩ := y
  unfold eqlC
  by_cases h1 : a.toList = a'.toList <;> by_cases h2 : b = b' <;> by_cases h3 : c = c' <;> by_cases h4 : d = d' <;> by_cases h5 : e.toList = e'.toList <;> simp [go_sem, Tryz.underlying62, Tryz.underlying3, Tryz.underlying9, st, h1, h2, h3, h4, h5]
set_option maxRecDepth 100000 in
set_option maxHeartbeats 1000000 in
theorem eqC (x y : C5) (r : Bool) (hr : eqlC x y = r) (w : World) : (binOp .eql 62 (cv x) (cv y)).run Tryz.prog w = .ok (.bool r) w := by
  have st := stoodC
  subst hr
  obtain ⟨a, b, c, d, e⟩ := x
  obtain ⟨a', b', c', d', e'⟩ := y
  unfold eqlC
  by_cases h1 : a.toList = a'.toList <;> by_cases h2 : b = b' <;> by_cases h3 : c = c' <;> by_cases h4 : d = d' <;> by_cases h5 : e.toList = e'.toList <;> simp [go_sem, Tryz.underlying62, Tryz.underlying3, Tryz.underlying9, st, h1, h2, h3, h4, h5]
theorem eqlC_iff (x y : C5) : eqlC x y = true ↔ x = y := by
  obtain ⟨a, b, c, d, e⟩ := x
  obtain ⟨a', b', c', d', e'⟩ := y
  simp only [eqlC, Bool.and_eq_true, beq_iff_eq, Prod.mk.injEq]
  constructor
  · rintro ⟨h1, h2, h3, h4, h5⟩
    exact ⟨name_inj h1, h2, h3, h4, name_inj h5⟩
  · rintro ⟨rfl, rfl, rfl, rfl, rfl⟩
    exact ⟨rfl, rfl, rfl, rfl, rfl⟩
end Go.Proofs.YtonoadjmglkhaaaGreat.Pr

namespace Go.Proofs.YtonoadjmglkhaaaGreat.Rw
open Go.RowKit
variable {α : Type} {E : Ek α}

theorem below_setRow {B g : Nat} {W w : World} (h : Below B W w) (hB : B ≤ g) (cs : Array Value) : Below B W (w.setRow g cs) :=
  ⟨h.os, h.tape, h.output, by simp [World.setRow]; exact h.size, fun k hk => by
    have hne : g ≠ k := by omega
    have h2 := h.block k hk
    simp [World.setRow, Array.getElem?_modify, hne, h2]⟩
theorem Box.set {w : World} {g : Nat} {cur : Array Value} {t : TypeId} (h : Box w g cur t) (cs : Array Value) : Box (w.setRow g cs) g cs t := setRow_heap w g cur cs t (0, 0) h
theorem Box.other {w : World} {g b : Nat} {cur : Array Value} {t : TypeId} (h : Box w b cur t) (hne : b ≠ g) (cs : Array Value) : Box (w.setRow g cs) b cur t := (setRow_other w g b cs hne).trans h
theorem Box.drew {w : World} {b : Nat} {cur : Array Value} {t : TypeId} (h : Box w b cur t) : Box w.drew b cur t := h
theorem Box.shape {w : World} {b : Nat} {cur : Array Value} {t : TypeId} (h : Box w b cur t) : w.shape? b = some (t, cur.size) := by
  unfold Box at h
  simp [World.shape?, h]
/-- A row of one's own, opened. -/
theorem own_open {W : World} {B : Nat} {v : Value} {l : List α} (h : Own E W B v l) : (v = .slice none 0 0 ∧ l = []) ∨ ∃ g cap cur, v = .slice (some ⟨g, 0, none⟩) l.length cap ∧ B ≤ g ∧ Box W g cur E.t ∧ l.length ≤ cap ∧ cap ≤ maxLen ∧ cur.size = cap * E.n ∧ cur.toList.take (l.length * E.n) = flat E l := by
  rcases h.2 with ⟨h1, h2⟩ | ⟨g, cap, cur, h1, h2, h3, h4, h5, h6, h7⟩
  · exact Or.inl ⟨h1, List.eq_nil_of_length_eq_zero h2⟩
  · exact Or.inr ⟨g, cap, cur, h1, h2, h3, h4, h5, h6, h7⟩
theorem own_shut (K : E.Ok) {W : World} {B g cap n : Nat} {cur : Array Value} {l : List α} (hn : n = l.length) (hB : B ≤ g) (hb : Box W g cur E.t) (h1 : n ≤ cap) (h2 : cap ≤ maxLen) (h3 : cur.size = cap * E.n) (h4 : cur.toList.take (n * E.n) = flat E l) : Own E W B (.slice (some ⟨g, 0, none⟩) n cap) l := by
  subst hn
  exact ⟨flat_length K l, Or.inr ⟨g, cap, cur, rfl, hB, hb, h1, h2, h3, h4⟩⟩
theorem flat_take (K : E.Ok) (l : List α) (k : Nat) : (flat E l).take (k * E.n) = flat E (l.take k) := by
  rcases Nat.le_total k l.length with h | h
  · conv => lhs; rw [← List.take_append_drop k l, flat_append]
    have e : (flat E (l.take k)).length = k * E.n := by rw [flat_length K, List.length_take, Nat.min_eq_left h]
    rw [← e, List.take_left]
  · rw [List.take_of_length_le h, List.take_of_length_le]
    rw [flat_length K]
    exact Nat.mul_le_mul_right _ h
theorem flat_drop (K : E.Ok) (l : List α) (k : Nat) : (flat E l).drop (k * E.n) = flat E (l.drop k) := by
  rcases Nat.le_total k l.length with h | h
  · conv => lhs; rw [← List.take_append_drop k l, flat_append]
    have e : (flat E (l.take k)).length = k * E.n := by rw [flat_length K, List.length_take, Nat.min_eq_left h]
    rw [← e, List.drop_left]
  · rw [List.drop_of_length_le h, List.drop_of_length_le]
    · rfl
    rw [flat_length K]
    exact Nat.mul_le_mul_right _ h
/-- A list's rest, where a block holds the list. -/
theorem box_rest (K : E.Ok) {W : World} {g : Nat} {cur : Array Value} {t : TypeId} {l : List α} (hb : Box W g cur t) (ht : cur.toList.take (l.length * E.n) = flat E l) (k : Nat) : ∀ j u, (flat E (l.drop k))[j]? = some u → W.cell? ((⟨g, k * E.n, none⟩ : Addr).add j) = some u := by
  intro j u hj
  rw [Addr.add_lit, hb.cell]
  rw [← flat_drop K, List.getElem?_drop, ← ht, List.getElem?_take] at hj
  split at hj
  · simpa using hj
  · cases hj
theorem box_one {W : World} {b : Nat} {cs : Array Value} {t : TypeId} {x : α} (hb : Box W b cs t) (hc : cs.toList = E.cells x) : ∀ j u, (flat E [x])[j]? = some u → W.cell? ((⟨b, 0, none⟩ : Addr).add j) = some u := by
  intro j u hj
  rw [add_own, hb.cell]
  rw [flat_one', ← hc] at hj
  simpa using hj
/-- A part of a row. -/
theorem cut_hi (K : E.Ok) (g k len cap : Nat) (h : k ≤ len) (hc : k < cap) (w : World) : (Instr.sliceAt E.ts (.slice (some ⟨g, 0, none⟩) len cap) (some (.int .i64 k)) none none).run Tryz.prog w = .ok (.slice (some ⟨g, k * E.n, none⟩) (len - k) (cap - k)) w := by
  rw [slice_hi K ⟨g, 0, none⟩ k len cap h w, if_neg (by omega), add_own]
/-- A copy into a block, at a place. -/
theorem copy_box (K : E.Ok) {w : World} {g o nd cd ns sc : Nat} {a : Addr} {cur : Array Value} {m : List α} (hb : Box w g cur E.t) (hm : ∀ j u, (flat E m)[j]? = some u → w.cell? (a.add j) = some u) (hk : min ns nd = m.length) (hr : (o + m.length) * E.n ≤ cur.size) (ty : TypeId) :
    (Builtin.copy_ #[E.ts, E.ts] ty #[.slice (some ⟨g, o * E.n, none⟩) nd cd, .slice (some a) ns sc]).run Tryz.prog w = .ok (.int .i64 m.length) (w.setRow g (cur.toList.take (o * E.n) ++ flat E m ++ cur.toList.drop ((o + m.length) * E.n)).toArray) := by
  obtain ⟨i, i1, i2, i3, i4⟩ := K.info
  have hl := run_loadCells_list (P := Tryz.prog) w a (flat E m) hm
  have hst := run_storeCells_at Tryz.prog g (o * E.n) E.t (flat E m) 0 cur w hb (by rw [flat_length K, Nat.add_zero, ← Nat.add_mul]; exact hr) (flat_cell K m)
  rw [flat_length K] at hl
  have e : o * E.n + 0 + (flat E m).length = (o + m.length) * E.n := by rw [flat_length K, Nat.add_zero, Nat.add_mul]
  rw [e, Nat.add_zero] at hst
  simp [Builtin.copy_, run_underlying K.hu, Builtin.lenOf, Builtin.firstCells, sizeOf, typeInfo, i1, i3, hk, hl, goInt]
  simpa using congrArg (fun r => r.andThen fun _ w => Result.ok (Value.int .i64 m.length) w) hst

/-! ### one element more, in the middle -/
section
variable {l : List α} {k cap : Nat} {cur cs : Array Value} {c : α}
/-- Where there is room: the two copies, and what then lies there. -/
theorem shift_mid (K : E.Ok) (hk : k < l.length) (hcap : l.length + 1 ≤ cap) (hsz : cur.size = cap * E.n) (ht : cur.toList.take (l.length * E.n) = flat E l) (g b : Nat) (_hne : b ≠ g) :
    ∃ R1 R2 : Array Value,
      (∀ (W : World) (ty : TypeId) (nd dc ns sc : Nat), Box W g cur E.t → min ns nd = l.length - k → (Builtin.copy_ #[E.ts, E.ts] ty #[.slice (some ⟨g, (k + 1) * E.n, none⟩) nd dc, .slice (some ⟨g, k * E.n, none⟩) ns sc]).run Tryz.prog W = .ok (.int .i64 ((l.length - k : Nat) : Int)) (W.setRow g R1)) ∧
      (∀ (W : World) (ty : TypeId) (nd dc : Nat), Box W g R1 E.t → Box W b cs E.t → cs.toList = E.cells c → 1 ≤ nd → (Builtin.copy_ #[E.ts, E.ts] ty #[.slice (some ⟨g, k * E.n, none⟩) nd dc, .slice (some ⟨b, 0, none⟩) 1 1]).run Tryz.prog W = .ok (.int .i64 1) (W.setRow g R2)) ∧
      (∀ (W : World) (B : Nat), B ≤ g → cap ≤ maxLen → Box W g R2 E.t → Own E W B (.slice (some ⟨g, 0, none⟩) (l.length + 1) cap) (l.take k ++ c :: l.drop k)) := by
  have hkl : (l.drop k).length = l.length - k := by simp
  have hs1 : (cur.toList.take ((k + 1) * E.n) ++ flat E (l.drop k) ++ cur.toList.drop ((k + 1 + (l.drop k).length) * E.n)).length = cap * E.n := by
    have h1 : (k + 1) * E.n ≤ cap * E.n := Nat.mul_le_mul_right _ (by omega)
    have h2 : (k + 1 + (l.drop k).length) * E.n ≤ cap * E.n := Nat.mul_le_mul_right _ (by omega)
    simp only [List.length_append, List.length_take, List.length_drop, Array.length_toList, flat_length K, hsz]
    rw [Nat.min_eq_left h1]
    have h3 : (k + 1 + (l.drop k).length) * E.n = (k + 1) * E.n + (l.drop k).length * E.n := Nat.add_mul ..
    simp only [List.length_drop] at h2 h3 ⊢
    omega
  refine ⟨(cur.toList.take ((k + 1) * E.n) ++ flat E (l.drop k) ++ cur.toList.drop ((k + 1 + (l.drop k).length) * E.n)).toArray,
    ((cur.toList.take ((k + 1) * E.n) ++ flat E (l.drop k) ++ cur.toList.drop ((k + 1 + (l.drop k).length) * E.n)).take (k * E.n) ++ flat E [c] ++ (cur.toList.take ((k + 1) * E.n) ++ flat E (l.drop k) ++ cur.toList.drop ((k + 1 + (l.drop k).length) * E.n)).drop ((k + 1) * E.n)).toArray, ?_, ?_, ?_⟩
  · intro W ty nd dc ns sc hb hm
    have h := copy_box K (o := k + 1) (m := l.drop k) (nd := nd) (cd := dc) (ns := ns) (sc := sc) hb (box_rest K hb ht k) (by rw [hkl]; exact hm) (by rw [hkl, hsz]; exact Nat.mul_le_mul_right _ (by omega)) ty
    rw [hkl] at h ⊢
    exact h
  · intro W ty nd dc hb hx hc hn
    have h := copy_box K (o := k) (m := [c]) (nd := nd) (cd := dc) (ns := 1) (sc := 1) hb (box_one hx hc) (by simp; omega) (by rw [List.size_toArray, hs1]; exact Nat.mul_le_mul_right _ (by simp; omega)) ty
    simpa using h
  · intro W B hB hm hb
    have p1 : (cur.toList.take ((k + 1) * E.n)).length = (k + 1) * E.n := by
      rw [List.length_take, Array.length_toList, hsz]
      exact Nat.min_eq_left (Nat.mul_le_mul_right _ (by omega))
    have p2 : (cur.toList.take ((k + 1) * E.n) ++ flat E (l.drop k) ++ cur.toList.drop ((k + 1 + (l.drop k).length) * E.n)).take (k * E.n) = flat E (l.take k) := by
      rw [List.append_assoc, List.take_append_of_le_length (by rw [p1]; exact Nat.mul_le_mul_right _ (by omega)), List.take_take, Nat.min_eq_left (Nat.mul_le_mul_right _ (by omega)), ← flat_take K, ← ht, List.take_take, Nat.min_eq_left (Nat.mul_le_mul_right _ (by omega))]
    have p3 : (cur.toList.take ((k + 1) * E.n) ++ flat E (l.drop k) ++ cur.toList.drop ((k + 1 + (l.drop k).length) * E.n)).drop ((k + 1) * E.n) = flat E (l.drop k) ++ cur.toList.drop ((k + 1 + (l.drop k).length) * E.n) := by
      rw [List.append_assoc, List.drop_left' p1]
    have e : flat E (l.take k) ++ flat E [c] ++ flat E (l.drop k) = flat E (l.take k ++ c :: l.drop k) := by
      rw [flat_append, show c :: l.drop k = [c] ++ l.drop k from rfl, flat_append, List.append_assoc]
    have ln : (l.take k ++ c :: l.drop k).length = l.length + 1 := by simp; omega
    have q : (flat E (l.take k) ++ flat E [c] ++ flat E (l.drop k)).length = (l.length + 1) * E.n := by rw [e, flat_length K, ln]
    refine own_shut K ln.symm hB hb hcap hm ?_ ?_
    · rw [List.size_toArray, p2, p3, ← List.append_assoc, List.length_append, q, List.length_drop, show cur.toList.length = cap * E.n from Array.length_toList.trans hsz, hkl]
      have h1 : (l.length + 1) * E.n ≤ cap * E.n := Nat.mul_le_mul_right _ hcap
      rw [show k + 1 + (l.length - k) = l.length + 1 by omega]
      omega
    · rw [p2, p3, ← List.append_assoc]
      exact (List.take_left' q).trans e
/-- Where there is none: a new block, and the two copies into it. -/
theorem grow_mid (K : E.Ok) (tn : TypeId) (htn : Tryz.prog.underlying tn = some (.int .i64)) (hk : k < l.length) (hl : l.length ≤ 1000) (hcap : cap < l.length + 1) (hlc : l.length ≤ cap) (ht : cur.toList.take (l.length * E.n) = flat E l) (W : World) (g b : Nat) (hb : Box W g cur E.t) (_hbW : b < W.heap.size) :
    ∃ (G : Nat) (R1 R2 R3 : Array Value), l.length + 1 ≤ G ∧ G ≤ maxLen ∧
      (∀ ty, (Builtin.append_ #[E.ts, tn] ty #[.slice (some ⟨g, 0, none⟩) k cap, .int .i64 ((l.length : Int) + 1 - k)]).run Tryz.prog W = .ok (.slice (some ⟨W.heap.size, 0, none⟩) (l.length + 1) G) (W.drew.alloc (.cells R1 E.t))) ∧
      (∀ (w : World) (ty : TypeId) (nd dc : Nat), Box w W.heap.size R1 E.t → Box w b cs E.t → cs.toList = E.cells c → 1 ≤ nd → (Builtin.copy_ #[E.ts, E.ts] ty #[.slice (some ⟨W.heap.size, k * E.n, none⟩) nd dc, .slice (some ⟨b, 0, none⟩) 1 1]).run Tryz.prog w = .ok (.int .i64 1) (w.setRow W.heap.size R2)) ∧
      (∀ (w : World) (ty : TypeId) (nd dc ns sc : Nat), Box w W.heap.size R2 E.t → Box w g cur E.t → min ns nd = l.length - k → (Builtin.copy_ #[E.ts, E.ts] ty #[.slice (some ⟨W.heap.size, (k + 1) * E.n, none⟩) nd dc, .slice (some ⟨g, k * E.n, none⟩) ns sc]).run Tryz.prog w = .ok (.int .i64 ((l.length - k : Nat) : Int)) (w.setRow W.heap.size R3)) ∧
      (∀ (w : World) (B : Nat), B ≤ W.heap.size → Box w W.heap.size R3 E.t → Own E w B (.slice (some ⟨W.heap.size, 0, none⟩) (l.length + 1) G) (l.take k ++ c :: l.drop k)) := by
  obtain ⟨i, i1, i2, i3, i4⟩ := K.info
  have hf := K.few
  have hpos := K.pos
  have hkl : (l.drop k).length = l.length - k := by simp
  have hold : (Builtin.firstCells i.size k (.slice (some ⟨g, 0, none⟩) k cap)).run Tryz.prog W.drew = .ok (flat E (l.take k)).toArray W.drew :=
    run_firstCells_some (P := Tryz.prog) (w := W.drew) i.size k ⟨g, 0, none⟩ k cap (flat E (l.take k)) (by rw [flat_length K, List.length_take, Nat.min_eq_left (by omega), i3]) (fun j u hj => by
      rw [add_own]
      show W.cell? _ = _
      rw [hb.cell]
      rw [← flat_take K, ← ht, List.getElem?_take] at hj
      split at hj
      · rw [List.getElem?_take] at hj
        split at hj
        · simpa using hj
        · cases hj
      · cases hj)
  have happ := fun ty => Lib.run_append_grow_zeros (P := Tryz.prog) W E.ts tn ty E.t i _ .i64 .i64 K.hu htn i1 i2 (some ⟨g, 0, none⟩) k cap (flat E (l.take k)) hold (l.length + 1 - k) (by omega) (by rw [i3]; exact hpos) (by omega) (by omega)
    (by rw [i4]; exact Nat.le_trans (Nat.mul_le_mul (show l.length + 1 - k ≤ 2000 by omega) hf) (by decide))
    (growslice_fits (by omega) (by rw [i4]; exact Nat.le_trans (Nat.mul_le_mul (show k + (l.length + 1 - k) ≤ 2000 by omega) hf) (by decide)))
  rw [show k + (l.length + 1 - k) = l.length + 1 by omega] at happ
  have hG1 := grownCap_ge W (l.length + 1) cap E.t
  have hG2 := grownCap_le_maxLen W (l.length + 1) cap E.t (by unfold maxLen; omega)
  generalize grownCap W (l.length + 1) cap E.t = G at happ hG1 hG2
  obtain ⟨R1, hR1⟩ : ∃ R1 : Array Value, R1 = (flat E (l.take k)).toArray ++ Builtin.zeroCells E.z.cells (l.length + 1 - k) ++ Builtin.zeroCells E.z.cells (G - (l.length + 1)) := ⟨_, rfl⟩
  rw [← hR1] at happ
  have hs0 : R1.size = G * E.n := by
    rw [hR1]
    simp only [Array.size_append, List.size_toArray, size_zeroCells, K.zs, flat_length K, List.length_take, Nat.min_eq_left (Nat.le_of_lt hk), ← Nat.add_mul]
    rw [show k + (l.length + 1 - k) + (G - (l.length + 1)) = G by omega]
  have hh : R1.toList.take (k * E.n) = flat E (l.take k) := by
    rw [hR1]
    simp only [Array.toList_append, List.append_assoc]
    have e : (flat E (l.take k)).length = k * E.n := by rw [flat_length K, List.length_take, Nat.min_eq_left (by omega)]
    rw [← e]
    simp
  have q1 : (flat E [c]).length = 1 * E.n := by rw [flat_length K]; rfl
  have q0 : (R1.toList.take (k * E.n)).length = k * E.n := by
    rw [hh, flat_length K, List.length_take, Nat.min_eq_left (by omega)]
  have hs2 : (R1.toList.take (k * E.n) ++ flat E [c] ++ R1.toList.drop ((k + [c].length) * E.n)).length = G * E.n := by
    have h1 : (k + 1) * E.n ≤ G * E.n := Nat.mul_le_mul_right _ (by omega)
    have h2 : (k + 1) * E.n = k * E.n + 1 * E.n := Nat.add_mul ..
    simp only [List.length_append, q0, q1, List.length_drop, Array.length_toList, hs0, List.length_singleton]
    omega
  refine ⟨G, R1, (R1.toList.take (k * E.n) ++ flat E [c] ++ R1.toList.drop ((k + [c].length) * E.n)).toArray,
    ((R1.toList.take (k * E.n) ++ flat E [c] ++ R1.toList.drop ((k + [c].length) * E.n)).take ((k + 1) * E.n) ++ flat E (l.drop k) ++ (R1.toList.take (k * E.n) ++ flat E [c] ++ R1.toList.drop ((k + [c].length) * E.n)).drop ((k + 1 + (l.drop k).length) * E.n)).toArray, hG1, hG2, ?_, ?_, ?_, ?_⟩
  · intro ty
    have h := happ ty
    rw [show ((l.length + 1 - k : Nat) : Int) = (l.length : Int) + 1 - k by omega] at h
    exact h
  · intro w ty nd dc hb' hx hc hn
    have h := copy_box K (o := k) (m := [c]) (nd := nd) (cd := dc) (ns := 1) (sc := 1) hb' (box_one hx hc) (by simp; omega) (by rw [hs0]; exact Nat.mul_le_mul_right _ (by simp; omega)) ty
    simpa using h
  · intro w ty nd dc ns sc hb' hx hm
    have h := copy_box K (o := k + 1) (m := l.drop k) (nd := nd) (cd := dc) (ns := ns) (sc := sc) hb' (box_rest K hx ht k) (by rw [hkl]; exact hm) (by rw [hkl, List.size_toArray, hs2]; exact Nat.mul_le_mul_right _ (by omega)) ty
    rw [hkl] at h ⊢
    exact h
  · intro w B hB hb'
    have p2 : (R1.toList.take (k * E.n) ++ flat E [c] ++ R1.toList.drop ((k + [c].length) * E.n)).take ((k + 1) * E.n) = flat E (l.take k) ++ flat E [c] := by
      have e : (R1.toList.take (k * E.n) ++ flat E [c]).length = (k + 1) * E.n := by rw [List.length_append, q0, q1, ← Nat.add_mul]
      rw [← e, List.take_left, hh]
    have e : flat E (l.take k) ++ flat E [c] ++ flat E (l.drop k) = flat E (l.take k ++ c :: l.drop k) := by
      rw [flat_append, show c :: l.drop k = [c] ++ l.drop k from rfl, flat_append, List.append_assoc]
    have ln : (l.take k ++ c :: l.drop k).length = l.length + 1 := by simp; omega
    have q : (flat E (l.take k) ++ flat E [c] ++ flat E (l.drop k)).length = (l.length + 1) * E.n := by rw [e, flat_length K, ln]
    refine own_shut K ln.symm hB hb' hG1 hG2 ?_ ?_
    · rw [List.size_toArray, p2, List.length_append, q, List.length_drop, hs2, hkl]
      have h1 : (l.length + 1) * E.n ≤ G * E.n := Nat.mul_le_mul_right _ hG1
      rw [show k + 1 + (l.length - k) = l.length + 1 by omega]
      omega
    · rw [p2]
      exact (List.take_left' q).trans e
end
/-- An append of so many zeros, met by its run. -/
theorem wpList_append_run2 {P : Program} {ops : Array Oper} {rest : List Oper} {o : Oper} {a : Act} {Q : Exit → Act → World → Prop} {w w' : World} (hgd : o.guard = none) (s x : Operand) (t t' : TypeId)
    (ho : o.op = .call { callee := .builtin .append, args := #[s, x], argTypes := #[t, t'] }) {v xv v' : Value} (hs : a.eval s = v) (hx : a.eval x = xv) (hr : (Builtin.append_ #[t, t'] o.type #[v, xv]).run P w = .ok v' w')
    (h : wpList P ops Q rest (a.put o.dst v') w') : wpList P ops Q (o :: rest) a w := by
  refine wpList_plain hgd fun K hK => ?_
  unfold Oper.wp execOp
  simp only [ho, resolve, invoke, builtin, Sem.run_bind, Sem.run_pure, Result.andThen_ok, List.map_toArray, List.map_cons, List.map_nil, hs, hx, hr]
  exact hK _ _ h
/-- A copy, as one step of a region that draws, met by its run. -/
theorem step_copy_run {P : Program} {ops : Array Oper} {o : Oper} {a : Act} {w w' : World} {K : Act → World → Prop} {Q : Exit → Act → World → Prop} {E : Prop}
    (hg : o.guard = none) (s x : Operand) (t : TypeId) (hop : o.op = .call { callee := .builtin .copy, args := #[s, x], argTypes := #[t, t] }) {v xv v' : Value} (hs : a.eval s = v) (hx : a.eval x = xv)
    (hr : (Builtin.copy_ #[t, t] o.type #[v, xv]).run P w = .ok v' w') (hK : K (a.put o.dst v') w') :
    if Region.wanted o (yielded ops a.tmps) = true then Oper.wp P o a w K Q else E := by
  have hw : Region.wanted o (yielded ops a.tmps) = true := by simp [Region.wanted, hg]
  rw [if_pos hw]
  unfold Oper.wp execOp
  simp only [hop, resolve, invoke, builtin, Sem.run_bind, Sem.run_pure, Result.andThen_ok, List.map_toArray, List.map_cons, List.map_nil, hs, hx, hr]
  exact hK
end Go.Proofs.YtonoadjmglkhaaaGreat.Rw

namespace Go.Proofs.YtonoadjmglkhaaaGreat.Bk
open Go.RowKit Go.Proofs.YtonoadjmglkhaaaGreat Go.Proofs.YtonoadjmglkhaaaGreat.Rw Go.Proofs.YtonoadjmglkhaaaGreat.Nm Go.Proofs.YtonoadjmglkhaaaGreat.Pr

/-- A slice. -/
abbrev Sl := Option Addr × Nat × Nat
abbrev slv (s : Sl) : Value := .slice s.1 s.2.1 s.2.2
abbrev Id := Int × Int
abbrev XID := Id
abbrev cellsJ (x : XID) : List Value := [.int .i64 x.1, .int .i64 x.2]
abbrev valJ (x : XID) : Value := .agg #[.int .i64 x.1, .int .i64 x.2]
def EJ : Ek XID := ⟨37, 25, 2, 16, .agg #[.int .i64 0, .int .i64 0], valJ, cellsJ⟩
theorem infoJ : (Tryz.prog.info? 37).map (fun i => (i.zero, i.size, i.bytes)) = some (some (.agg #[.int .i64 0, .int .i64 0]), 2, 16) := by kernel_rfl
theorem loadJ (w : World) (p : Addr) (x : XID) (h : ∀ j u, (cellsJ x)[j]? = some u → w.cell? (p.add j) = some u) : (Instr.loadAt 37 (.pointer (some p))).run Tryz.prog w = .ok (valJ x) w := by
  have h0 := h 0 _ rfl
  have h1 := h 1 _ rfl
  simp [Addr.add] at h0 h1
  simp [go_sem, h0, h1]
theorem okJ : EJ.Ok where
  hu := Tryz.underlying25
  info := by
    have h := infoJ
    cases hi : Tryz.prog.info? 37 with
    | none => rw [hi] at h; cases h
    | some i =>
      rw [hi] at h
      simp only [Option.map_some, Option.some.injEq, Prod.mk.injEq] at h
      exact ⟨i, hi, h.1, h.2.1, h.2.2⟩
  zs := rfl
  len := fun _ => rfl
  one := fun x u hu => by
    simp only [EJ, cellsJ, List.mem_cons, List.not_mem_nil, or_false] at hu
    rcases hu with rfl | rfl <;> rfl
  pos := by decide
  few := by decide
  load := fun w p x h => loadJ w p x h
abbrev RowJ (W : World) (v : Value) (l : List XID) : Prop := Row EJ W v l
abbrev OwnJ (W : World) (B : Nat) (v : Value) (l : List XID) : Prop := Own EJ W B v l
theorem elJ {W : World} {v : Value} {l : List XID} {ao : Option Addr} {n c k : Nat} {x : XID} (h : RowJ W v l) (hv : v = .slice ao n c) (hn : l.length = n) (hk : l[k]? = some x) :
    ∃ p : Addr, (∀ w, (Instr.indexAt 25 (.slice ao n c) (.int .i64 k)).run Tryz.prog w = .ok (.pointer (some p)) w) ∧ ∀ w, Below W.heap.size W w → w.cell? p = some (.int .i64 x.1) ∧ w.cell? ⟨p.block, p.off + 1, none⟩ = some (.int .i64 x.2) := by
  obtain ⟨p, h1, _, h2⟩ := row_el okJ h hv hn hk
  exact ⟨p, h1, fun w hw => ⟨by simpa [Addr.add] using h2 w hw 0 _ rfl, by simpa [Addr.add] using h2 w hw 1 _ rfl⟩⟩
abbrev XAd := Int × Int × Sl × Int
abbrev cellsD (x : XAd) : List Value := [.int .i64 x.1, .int .i64 x.2.1, slv x.2.2.1, .int .i64 x.2.2.2]
abbrev valD (x : XAd) : Value := .agg #[.int .i64 x.1, .int .i64 x.2.1, slv x.2.2.1, .int .i64 x.2.2.2]
def ED : Ek XAd := ⟨42, 24, 4, 48, .agg #[.int .i64 0, .int .i64 0, .slice none 0 0, .int .i64 0], valD, cellsD⟩
theorem infoD : (Tryz.prog.info? 42).map (fun i => (i.zero, i.size, i.bytes)) = some (some (.agg #[.int .i64 0, .int .i64 0, .slice none 0 0, .int .i64 0]), 4, 48) := by kernel_rfl
theorem loadD (w : World) (p : Addr) (x : XAd) (h : ∀ j u, (cellsD x)[j]? = some u → w.cell? (p.add j) = some u) : (Instr.loadAt 42 (.pointer (some p))).run Tryz.prog w = .ok (valD x) w := by
  have h0 := h 0 _ rfl
  have h1 := h 1 _ rfl
  have h2 := h 2 _ rfl
  have h3 := h 3 _ rfl
  simp [Addr.add] at h0 h1 h2 h3
  simp [go_sem, h0, h1, h2, h3]
theorem okD : ED.Ok where
  hu := Tryz.underlying24
  info := by
    have h := infoD
    cases hi : Tryz.prog.info? 42 with
    | none => rw [hi] at h; cases h
    | some i =>
      rw [hi] at h
      simp only [Option.map_some, Option.some.injEq, Prod.mk.injEq] at h
      exact ⟨i, hi, h.1, h.2.1, h.2.2⟩
  zs := rfl
  len := fun _ => rfl
  one := fun x u hu => by
    simp only [ED, cellsD, List.mem_cons, List.not_mem_nil, or_false] at hu
    rcases hu with rfl | rfl | rfl | rfl <;> rfl
  pos := by decide
  few := by decide
  load := fun w p x h => loadD w p x h
abbrev RowD (W : World) (v : Value) (l : List XAd) : Prop := Row ED W v l
abbrev OwnD (W : World) (B : Nat) (v : Value) (l : List XAd) : Prop := Own ED W B v l
theorem elD {W : World} {v : Value} {l : List XAd} {ao : Option Addr} {n c k : Nat} {x : XAd} (h : RowD W v l) (hv : v = .slice ao n c) (hn : l.length = n) (hk : l[k]? = some x) :
    ∃ p : Addr, (∀ w, (Instr.indexAt 24 (.slice ao n c) (.int .i64 k)).run Tryz.prog w = .ok (.pointer (some p)) w) ∧ ∀ w, Below W.heap.size W w → w.cell? p = some (.int .i64 x.1) ∧ w.cell? ⟨p.block, p.off + 1, none⟩ = some (.int .i64 x.2.1) ∧ w.cell? ⟨p.block, p.off + 2, none⟩ = some (slv x.2.2.1) ∧ w.cell? ⟨p.block, p.off + 3, none⟩ = some (.int .i64 x.2.2.2) := by
  obtain ⟨p, h1, _, h2⟩ := row_el okD h hv hn hk
  exact ⟨p, h1, fun w hw => ⟨by simpa [Addr.add] using h2 w hw 0 _ rfl, by simpa [Addr.add] using h2 w hw 1 _ rfl, by simpa [Addr.add] using h2 w hw 2 _ rfl, by simpa [Addr.add] using h2 w hw 3 _ rfl⟩⟩
abbrev XEn := Int × Int × Int × Int × Sl × Int × Bool
abbrev cellsN (x : XEn) : List Value := [.int .i64 x.1, .int .i64 x.2.1, .int .i64 x.2.2.1, .int .i64 x.2.2.2.1, slv x.2.2.2.2.1, .int .i64 x.2.2.2.2.2.1, .bool x.2.2.2.2.2.2]
abbrev valN (x : XEn) : Value := .agg #[.int .i64 x.1, .int .i64 x.2.1, .int .i64 x.2.2.1, .int .i64 x.2.2.2.1, slv x.2.2.2.2.1, .int .i64 x.2.2.2.2.2.1, .bool x.2.2.2.2.2.2]
def EN : Ek XEn := ⟨58, 26, 7, 72, .agg #[.int .i64 0, .int .i64 0, .int .i64 0, .int .i64 0, .slice none 0 0, .int .i64 0, .bool false], valN, cellsN⟩
theorem infoN : (Tryz.prog.info? 58).map (fun i => (i.zero, i.size, i.bytes)) = some (some (.agg #[.int .i64 0, .int .i64 0, .int .i64 0, .int .i64 0, .slice none 0 0, .int .i64 0, .bool false]), 7, 72) := by kernel_rfl
theorem loadN (w : World) (p : Addr) (x : XEn) (h : ∀ j u, (cellsN x)[j]? = some u → w.cell? (p.add j) = some u) : (Instr.loadAt 58 (.pointer (some p))).run Tryz.prog w = .ok (valN x) w := by
  have h0 := h 0 _ rfl
  have h1 := h 1 _ rfl
  have h2 := h 2 _ rfl
  have h3 := h 3 _ rfl
  have h4 := h 4 _ rfl
  have h5 := h 5 _ rfl
  have h6 := h 6 _ rfl
  simp [Addr.add] at h0 h1 h2 h3 h4 h5 h6
  simp [go_sem, h0, h1, h2, h3, h4, h5, h6]
theorem okN : EN.Ok where
  hu := Tryz.underlying26
  info := by
    have h := infoN
    cases hi : Tryz.prog.info? 58 with
    | none => rw [hi] at h; cases h
    | some i =>
      rw [hi] at h
      simp only [Option.map_some, Option.some.injEq, Prod.mk.injEq] at h
      exact ⟨i, hi, h.1, h.2.1, h.2.2⟩
  zs := rfl
  len := fun _ => rfl
  one := fun x u hu => by
    simp only [EN, cellsN, List.mem_cons, List.not_mem_nil, or_false] at hu
    rcases hu with rfl | rfl | rfl | rfl | rfl | rfl | rfl <;> rfl
  pos := by decide
  few := by decide
  load := fun w p x h => loadN w p x h
abbrev RowN (W : World) (v : Value) (l : List XEn) : Prop := Row EN W v l
abbrev OwnN (W : World) (B : Nat) (v : Value) (l : List XEn) : Prop := Own EN W B v l
theorem elN {W : World} {v : Value} {l : List XEn} {ao : Option Addr} {n c k : Nat} {x : XEn} (h : RowN W v l) (hv : v = .slice ao n c) (hn : l.length = n) (hk : l[k]? = some x) :
    ∃ p : Addr, (∀ w, (Instr.indexAt 26 (.slice ao n c) (.int .i64 k)).run Tryz.prog w = .ok (.pointer (some p)) w) ∧ ∀ w, Below W.heap.size W w → w.cell? p = some (.int .i64 x.1) ∧ w.cell? ⟨p.block, p.off + 1, none⟩ = some (.int .i64 x.2.1) ∧ w.cell? ⟨p.block, p.off + 2, none⟩ = some (.int .i64 x.2.2.1) ∧ w.cell? ⟨p.block, p.off + 3, none⟩ = some (.int .i64 x.2.2.2.1) ∧ w.cell? ⟨p.block, p.off + 4, none⟩ = some (slv x.2.2.2.2.1) ∧ w.cell? ⟨p.block, p.off + 5, none⟩ = some (.int .i64 x.2.2.2.2.2.1) ∧ w.cell? ⟨p.block, p.off + 6, none⟩ = some (.bool x.2.2.2.2.2.2) := by
  obtain ⟨p, h1, _, h2⟩ := row_el okN h hv hn hk
  exact ⟨p, h1, fun w hw => ⟨by simpa [Addr.add] using h2 w hw 0 _ rfl, by simpa [Addr.add] using h2 w hw 1 _ rfl, by simpa [Addr.add] using h2 w hw 2 _ rfl, by simpa [Addr.add] using h2 w hw 3 _ rfl, by simpa [Addr.add] using h2 w hw 4 _ rfl, by simpa [Addr.add] using h2 w hw 5 _ rfl, by simpa [Addr.add] using h2 w hw 6 _ rfl⟩⟩
abbrev XOw := Int × Int × Sl
abbrev cellsW (x : XOw) : List Value := [.int .i64 x.1, .int .i64 x.2.1, slv x.2.2]
abbrev valW (x : XOw) : Value := .agg #[.int .i64 x.1, .int .i64 x.2.1, slv x.2.2]
def EW : Ek XOw := ⟨60, 27, 3, 40, .agg #[.int .i64 0, .int .i64 0, .slice none 0 0], valW, cellsW⟩
theorem infoW : (Tryz.prog.info? 60).map (fun i => (i.zero, i.size, i.bytes)) = some (some (.agg #[.int .i64 0, .int .i64 0, .slice none 0 0]), 3, 40) := by kernel_rfl
theorem loadW (w : World) (p : Addr) (x : XOw) (h : ∀ j u, (cellsW x)[j]? = some u → w.cell? (p.add j) = some u) : (Instr.loadAt 60 (.pointer (some p))).run Tryz.prog w = .ok (valW x) w := by
  have h0 := h 0 _ rfl
  have h1 := h 1 _ rfl
  have h2 := h 2 _ rfl
  simp [Addr.add] at h0 h1 h2
  simp [go_sem, h0, h1, h2]
theorem okW : EW.Ok where
  hu := Tryz.underlying27
  info := by
    have h := infoW
    cases hi : Tryz.prog.info? 60 with
    | none => rw [hi] at h; cases h
    | some i =>
      rw [hi] at h
      simp only [Option.map_some, Option.some.injEq, Prod.mk.injEq] at h
      exact ⟨i, hi, h.1, h.2.1, h.2.2⟩
  zs := rfl
  len := fun _ => rfl
  one := fun x u hu => by
    simp only [EW, cellsW, List.mem_cons, List.not_mem_nil, or_false] at hu
    rcases hu with rfl | rfl | rfl <;> rfl
  pos := by decide
  few := by decide
  load := fun w p x h => loadW w p x h
abbrev RowW (W : World) (v : Value) (l : List XOw) : Prop := Row EW W v l
abbrev OwnW (W : World) (B : Nat) (v : Value) (l : List XOw) : Prop := Own EW W B v l
theorem elW {W : World} {v : Value} {l : List XOw} {ao : Option Addr} {n c k : Nat} {x : XOw} (h : RowW W v l) (hv : v = .slice ao n c) (hn : l.length = n) (hk : l[k]? = some x) :
    ∃ p : Addr, (∀ w, (Instr.indexAt 27 (.slice ao n c) (.int .i64 k)).run Tryz.prog w = .ok (.pointer (some p)) w) ∧ ∀ w, Below W.heap.size W w → w.cell? p = some (.int .i64 x.1) ∧ w.cell? ⟨p.block, p.off + 1, none⟩ = some (.int .i64 x.2.1) ∧ w.cell? ⟨p.block, p.off + 2, none⟩ = some (slv x.2.2) := by
  obtain ⟨p, h1, _, h2⟩ := row_el okW h hv hn hk
  exact ⟨p, h1, fun w hw => ⟨by simpa [Addr.add] using h2 w hw 0 _ rfl, by simpa [Addr.add] using h2 w hw 1 _ rfl, by simpa [Addr.add] using h2 w hw 2 _ rfl⟩⟩
/-- An advertisement, an entry, an own subscription, as they are told. -/
structure Ad where
  id : Id
  p : List C5
  par : Int
structure En where
  tree : Id
  sub : Id
  p : List C5
  from_ : Int
  up : Bool
structure Ow where
  id : Id
  p : List C5
/-- All that a broker holds. -/
structure Br where
  me : Int
  near : List Int
  adv : List Ad
  seen : List Id
  ent : List En
  own : List Ow
/-- What lies in memory is what is told. -/
def AdIn (W : World) (x : XAd) (a : Ad) : Prop := (x.1, x.2.1) = a.id ∧ x.2.2.2 = a.par ∧ RowC W (slv x.2.2.1) a.p
def EnIn (W : World) (x : XEn) (a : En) : Prop := (x.1, x.2.1) = a.tree ∧ (x.2.2.1, x.2.2.2.1) = a.sub ∧ x.2.2.2.2.2.1 = a.from_ ∧ x.2.2.2.2.2.2 = a.up ∧ RowC W (slv x.2.2.2.2.1) a.p
def OwIn (W : World) (x : XOw) (a : Ow) : Prop := (x.1, x.2.1) = a.id ∧ RowC W (slv x.2.2) a.p
theorem AdIn.on {W W' : World} {x : XAd} {a : Ad} (h : AdIn W x a) (hb : Below W.heap.size W W') : AdIn W' x a := ⟨h.1, h.2.1, h.2.2.on hb⟩
theorem EnIn.on {W W' : World} {x : XEn} {a : En} (h : EnIn W x a) (hb : Below W.heap.size W W') : EnIn W' x a := ⟨h.1, h.2.1, h.2.2.1, h.2.2.2.1, h.2.2.2.2.on hb⟩
theorem OwIn.on {W W' : World} {x : XOw} {a : Ow} (h : OwIn W x a) (hb : Below W.heap.size W W') : OwIn W' x a := ⟨h.1, h.2.on hb⟩
/-- One by one. -/
inductive All2 {α β : Type} (R : α → β → Prop) : List α → List β → Prop
  | nil : All2 R [] []
  | cons {a b l m} (h : R a b) (t : All2 R l m) : All2 R (a :: l) (b :: m)
theorem All2.mono {α β : Type} {R S : α → β → Prop} (h : ∀ a b, R a b → S a b) : ∀ {l m}, All2 R l m → All2 S l m
  | _, _, .nil => .nil
  | _, _, .cons x t => .cons (h _ _ x) (t.mono h)
theorem All2.len {α β : Type} {R : α → β → Prop} : ∀ {l m}, All2 R l m → l.length = m.length
  | _, _, .nil => rfl
  | _, _, .cons _ t => by rw [List.length_cons, List.length_cons, t.len]
theorem All2.at {α β : Type} {R : α → β → Prop} : ∀ {l m} (_ : All2 R l m) (k : Nat) (b : β), m[k]? = some b → ∃ a, l[k]? = some a ∧ R a b
  | _, _, .nil, k, b, h => by simp at h
  | _, _, .cons x t, 0, b, h => by
    simp at h
    subst h
    exact ⟨_, rfl, x⟩
  | _, _, .cons x t, k + 1, b, h => by
    obtain ⟨a, h1, h2⟩ := t.at k b (by simpa using h)
    exact ⟨a, by simpa using h1, h2⟩
theorem All2.append {α β : Type} {R : α → β → Prop} : ∀ {l m l' m'}, All2 R l m → All2 R l' m' → All2 R (l ++ l') (m ++ m')
  | _, _, _, _, .nil, h => h
  | _, _, _, _, .cons x t, h => .cons x (t.append h)
theorem All2.take {α β : Type} {R : α → β → Prop} : ∀ {l m} (k : Nat), All2 R l m → All2 R (l.take k) (m.take k)
  | _, _, 0, _ => by simp only [List.take_zero]; exact .nil
  | _, _, k + 1, .nil => by simp only [List.take_nil]; exact .nil
  | _, _, k + 1, .cons x t => .cons x (t.take k)
theorem All2.drop {α β : Type} {R : α → β → Prop} : ∀ {l m} (k : Nat), All2 R l m → All2 R (l.drop k) (m.drop k)
  | _, _, 0, h => h
  | _, _, _k + 1, .nil => .nil
  | _, _, k + 1, .cons _ t => t.drop k
/-- A broker's rows in memory. -/
structure BrIn (W : World) (b : Br) (nv av sv ev ov : Sl) : Prop where
  near : RowI W (slv nv) b.near
  adv : ∃ l, RowD W (slv av) l ∧ All2 (AdIn W) l b.adv
  seen : RowJ W (slv sv) b.seen
  ent : ∃ l, RowN W (slv ev) l ∧ All2 (EnIn W) l b.ent
  own : ∃ l, RowW W (slv ov) l ∧ All2 (OwIn W) l b.own
theorem BrIn.on {W W' : World} {b : Br} {nv av sv ev ov : Sl} (h : BrIn W b nv av sv ev ov) (hb : Below W.heap.size W W') : BrIn W' b nv av sv ev ov where
  near := h.near.on hb
  adv := by obtain ⟨l, h1, h2⟩ := h.adv; exact ⟨l, h1.on hb, h2.mono fun _ _ h => h.on hb⟩
  seen := h.seen.on hb
  ent := by obtain ⟨l, h1, h2⟩ := h.ent; exact ⟨l, h1.on hb, h2.mono fun _ _ h => h.on hb⟩
  own := by obtain ⟨l, h1, h2⟩ := h.own; exact ⟨l, h1.on hb, h2.mono fun _ _ h => h.on hb⟩
abbrev brv (me : Int) (nv av sv ev ov : Sl) : Value := .agg #[.int .i64 me, slv nv, slv av, slv sv, slv ev, slv ov]
abbrev brcells (me : Int) (nv av sv ev ov : Sl) : Array Value := #[.int .i64 me, slv nv, slv av, slv sv, slv ev, slv ov]
/-- One ID is ahead of another. -/
def lessI (a b : Id) : Bool := decide (a.1 < b.1) || (a.1 == b.1 && decide (a.2 < b.2))
/-- The place of the first one of them; -1: there is none. -/
def findI : List Id → Id → Int
  | [], _ => -1
  | a :: l, x => if a = x then 0 else if findI l x = -1 then -1 else findI l x + 1
def placeI (l : List Id) (x : Id) : Nat := (l.takeWhile fun a => lessI a x).length
end Go.Proofs.YtonoadjmglkhaaaGreat.Bk
