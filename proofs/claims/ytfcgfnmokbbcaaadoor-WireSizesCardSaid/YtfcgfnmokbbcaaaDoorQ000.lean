/-
  Rows of elements of any kind: how they lie in memory, are read, cut, copied, appended to. No program's function in it. Conditions: lists no longer than a machine holds.
  Rows of elements of any kind: copies within a row and between rows, room made in the middle of one. No program's function in it. Conditions: lists no longer than a machine holds.
  Bytes in memory, as lists: read, cut, appended to, made a text. No program's function in it. Condition: lists no longer than a machine holds.
-/
import Derived.Test.YtfcgfnmokbbcaaaDoorProg
import Derived.WalkKit
import Derived.ProofKit
import Derived.Laws.AppendOwn
import Derived.Laws.OwnMore
import Derived.Laws.MakeOwn
import Derived.Laws.CopyRow
import Derived.Deep.Slices
import Derived.Deep.CutBlock
import Derived.Deep.Cut
import Derived.Lib.AppendZerosOnto
import Derived.Lib.Overlaps
import Derived.Deep.RegionLaw
import Derived.Laws.Externs
import Derived.Deep.AppendSrc
import Derived.Lib.AppendStr
import Derived.Laws.BytesString
namespace Go.Proofs.YtfcgfnmokbbcaaaDoor.Rw
open Go.RowKit

/-- A kind of element: its types, its cells. -/
structure Ek (α : Type) where
  t : TypeId
  ts : TypeId
  n : Nat
  bytes : Nat
  z : Value
  val : α → Value
  cells : α → List Value
structure Ek.Ok {α : Type} (E : Ek α) : Prop where
  hu : Tryd.prog.underlying E.ts = some (.slice E.t)
  info : ∃ i, Tryd.prog.info? E.t = some i ∧ i.zero = some E.z ∧ i.size = E.n ∧ i.bytes = E.bytes
  zs : E.z.cells.size = E.n
  len : ∀ x, (E.cells x).length = E.n
  one : ∀ x, ∀ u ∈ E.cells x, u.oneCell' = true
  pos : 0 < E.n
  few : E.bytes ≤ 100000
  load : ∀ (w : World) (p : Addr) (x : α), (∀ j u, (E.cells x)[j]? = some u → w.cell? (p.add j) = some u) → (Instr.loadAt E.t (.pointer (some p))).run Tryd.prog w = .ok (E.val x) w
variable {α : Type} {E : Ek α}
def flat (E : Ek α) : List α → List Value
  | [] => []
  | x :: r => E.cells x ++ flat E r
theorem flat_append : ∀ a b : List α, flat E (a ++ b) = flat E a ++ flat E b
  | [], b => rfl
  | x :: r, b => by simp [flat, flat_append r b]
theorem flat_one' (x : α) : flat E [x] = E.cells x := by simp [flat]
theorem flat_length (K : E.Ok) : ∀ l : List α, (flat E l).length = l.length * E.n
  | [] => by simp [flat]
  | x :: r => by simp [flat, flat_length K r, K.len x, Nat.add_mul]; omega
theorem flat_cell (K : E.Ok) : ∀ l : List α, ∀ u ∈ flat E l, u.oneCell' = true
  | [], u, h => by cases h
  | x :: r, u, h => by
    simp only [flat, List.mem_append] at h
    rcases h with h | h
    · exact K.one x u h
    · exact flat_cell K r u h
theorem flat_at (K : E.Ok) : ∀ (l : List α) (m : Nat) (x : α), l[m]? = some x → ∀ j, j < E.n → (flat E l)[m * E.n + j]? = (E.cells x)[j]?
  | [], m, x, h, _, _ => by simp at h
  | y :: r, 0, x, h, j, hj => by
    simp at h
    subst h
    simp only [flat]
    rw [Nat.zero_mul, Nat.zero_add, List.getElem?_append_left (by rw [K.len]; exact hj)]
  | y :: r, m + 1, x, h, j, hj => by
    have h2 := flat_at K r m x (by simpa using h) j hj
    simp only [flat]
    rw [List.getElem?_append_right (by rw [K.len, Nat.add_mul]; omega), K.len, show (m + 1) * E.n + j - E.n = m * E.n + j by rw [Nat.add_mul]; omega]
    exact h2
theorem add_add (a : Addr) (i j : Nat) : (a.add i).add j = a.add (i + j) := by
  unfold Addr.add
  by_cases hi : i = 0 <;> by_cases hj : j = 0 <;> simp [hi, hj, Nat.add_assoc]
theorem add_block (a : Addr) (i : Nat) : (a.add i).block = a.block := by unfold Addr.add; split <;> rfl
theorem add_own (g j : Nat) : (⟨g, 0, none⟩ : Addr).add j = ⟨g, j, none⟩ := by unfold Addr.add; split <;> simp_all
theorem add_pos (p : Addr) (j : Nat) (h : j ≠ 0) : p.add j = ⟨p.block, p.off + j, none⟩ := by unfold Addr.add; rw [if_neg h]
theorem add_zero (p : Addr) : p.add 0 = p := by unfold Addr.add; simp
theorem lt_of_heap {w : World} {b : Nat} {o : Obj} (h : w.heap[b]? = some o) : b < w.heap.size := by
  rcases Nat.lt_or_ge b w.heap.size with h0 | h0
  · exact h0
  · simp [Array.getElem?_eq_none h0] at h

theorem grown_refl (w : World) (row : Option Nat) : w.grownBy w row := ⟨rfl, rfl, rfl, Nat.le_refl _, fun _ _ _ => rfl⟩
/-- A list in memory, wherever it begins. -/
def Row (E : Ek α) (W : World) (v : Value) (l : List α) : Prop :=
  (l = [] ∧ v = .slice none 0 0) ∨ ∃ (a : Addr) (cap : Nat), v = .slice (some a) l.length cap ∧ l.length ≤ cap ∧ cap ≤ maxLen ∧ ∀ j u, (flat E l)[j]? = some u → W.cell? (a.add j) = some u
theorem Row.on {W W' : World} {v : Value} {l : List α} (h : Row E W v l) (hb : Below W.heap.size W W') : Row E W' v l := by
  rcases h with h | ⟨a, cap, h1, h2, h3, h5⟩
  · exact Or.inl h
  · exact Or.inr ⟨a, cap, h1, h2, h3, fun j u hj => by
      have hc := h5 j u hj
      rw [hb.cell (World.block_lt_of_cell? W _ hc)]; exact hc⟩
theorem Row.len {W : World} {v : Value} {l : List α} (h : Row E W v l) : ∃ ao cap, v = .slice ao l.length cap := by
  rcases h with ⟨rfl, rfl⟩ | ⟨a, cap, rfl, _⟩
  · exact ⟨none, 0, rfl⟩
  · exact ⟨_, cap, rfl⟩
theorem Row.most {W : World} {v : Value} {l : List α} (h : Row E W v l) : l.length ≤ maxLen := by
  rcases h with ⟨rfl, rfl⟩ | ⟨a, cap, rfl, h1, h2, _⟩
  · exact Nat.zero_le _
  · omega
theorem row_nil (W : World) : Row E W (.slice none 0 0) ([] : List α) := Or.inl ⟨rfl, rfl⟩
theorem row_empty (W : World) (a : Addr) (c : Nat) (hc : c ≤ maxLen) : Row E W (.slice (some a) 0 c) ([] : List α) := Or.inr ⟨a, c, rfl, Nat.zero_le _, hc, fun j u hj => by simp [flat] at hj⟩
/-- A list in memory of one's own. -/
abbrev Own (E : Ek α) (W : World) (B : Nat) (v : Value) (l : List α) : Prop := W.ownsRow B E.t E.n v l.length (flat E l)
theorem Row.of_own {W : World} {B : Nat} {v : Value} {l : List α} (h : Own E W B v l) : Row E W v l := by
  rcases h.2 with ⟨h1, h2⟩ | ⟨g, cap, cur, h1, h2, h3, h4, h5, h6, h7⟩
  · exact Or.inl ⟨List.eq_nil_of_length_eq_zero h2, h1⟩
  · exact Or.inr ⟨⟨g, 0, none⟩, cap, h1, h4, h5, fun j u hj => h.cells (g := g) (by rw [h1]; rfl) j u hj⟩
theorem own_on {W W' : World} {B k : Nat} {e : TypeId} {v : Value} {n : Nat} {xs : List Value} (h : W.ownsRow B e k v n xs) (hb : Below W.heap.size W W') : W'.ownsRow B e k v n xs := by
  refine ⟨h.1, ?_⟩
  rcases h.2 with h2 | ⟨g, cap, cur, h1, h2, h3, h4⟩
  · exact Or.inl h2
  · exact Or.inr ⟨g, cap, cur, h1, h2, by rw [hb.block _ (lt_of_heap h3)]; exact h3, h4⟩
theorem own_less {W : World} {B B' k : Nat} {e : TypeId} {v : Value} {n : Nat} {xs : List Value} (hB : B' ≤ B) (h : W.ownsRow B e k v n xs) : W.ownsRow B' e k v n xs := by
  refine ⟨h.1, ?_⟩
  rcases h.2 with h2 | ⟨g, cap, cur, h1, h2, h3⟩
  · exact Or.inl h2
  · exact Or.inr ⟨g, cap, cur, h1, Nat.le_trans hB h2, h3⟩
theorem own_nil (W : World) (B : Nat) : Own E W B (.slice none 0 0) ([] : List α) := World.ownsRow_nil _ _ _ _
theorem index_run (K : E.Ok) (a : Addr) (m len cap : Nat) (h : m < len) (w : World) : (Instr.indexAt E.ts (.slice (some a) len cap) (.int .i64 m)).run Tryd.prog w = .ok (.pointer (some (a.add (m * E.n)))) w := by
  have h1 : (m : Int) < len := by omega
  obtain ⟨i, i1, i2, i3, i4⟩ := K.info
  simp [go_sem, K.hu, sizeOf, typeInfo, h1, i1, i3]
theorem index_own (K : E.Ok) (g m len cap : Nat) (h : m < len) (w : World) : (Instr.indexAt E.ts (.slice (some ⟨g, 0, none⟩) len cap) (.int .i64 m)).run Tryd.prog w = .ok (.pointer (some ⟨g, m * E.n, none⟩)) w := by
  rw [index_run K ⟨g, 0, none⟩ m len cap h w, add_own]
/-- Where an element lies, and its cells, in this world and every later one. -/
theorem row_el (K : E.Ok) {W : World} {v : Value} {l : List α} {ao : Option Addr} {n c k : Nat} {x : α} (h : Row E W v l) (hv : v = .slice ao n c) (hn : l.length = n) (hk : l[k]? = some x) :
    ∃ p : Addr, (∀ w, (Instr.indexAt E.ts (.slice ao n c) (.int .i64 k)).run Tryd.prog w = .ok (.pointer (some p)) w) ∧ p.block < W.heap.size ∧ ∀ w, Below W.heap.size W w → ∀ j u, (E.cells x)[j]? = some u → w.cell? (p.add j) = some u := by
  have hlt := (List.getElem?_eq_some_iff.1 hk).1
  rcases h with ⟨rfl, _⟩ | ⟨a, cap, h1, h2, h3, h4⟩
  · simp at hk
  · rw [hv] at h1
    obtain ⟨rfl, rfl, rfl⟩ : ao = some a ∧ n = l.length ∧ c = cap := by simpa using h1
    have g : ∀ j u, (E.cells x)[j]? = some u → W.cell? ((a.add (k * E.n)).add j) = some u := fun j u hj => by
      have hjn : j < E.n := by have := (List.getElem?_eq_some_iff.1 hj).1; rw [K.len] at this; exact this
      rw [add_add]
      exact h4 _ u ((flat_at K l k x hk j hjn).trans hj)
    have hp := K.pos
    have hb : (a.add (k * E.n)).block < W.heap.size := by
      obtain ⟨u, hu⟩ : ∃ u, (E.cells x)[0]? = some u := ⟨_, List.getElem?_eq_getElem (by rw [K.len]; exact hp)⟩
      have := World.block_lt_of_cell? W _ (g 0 u hu)
      rwa [add_zero] at this
    exact ⟨a.add (k * E.n), fun w => index_run K a k _ _ hlt w, hb, fun w hw j u hj => by
      rw [hw.cell (by rw [add_block]; exact hb)]
      exact g j u hj⟩
theorem slice_lo (K : E.Ok) (a : Addr) (k len cap : Nat) (h : k ≤ cap) (w : World) : (Instr.sliceAt E.ts (.slice (some a) len cap) none (some (.int .i64 k)) none).run Tryd.prog w = .ok (.slice (some a) k cap) w := by
  have h1 : (k : Int) ≤ cap := by omega
  obtain ⟨i, i1, i2, i3, i4⟩ := K.info
  simp [go_sem, K.hu, sizeOf, typeInfo, h1, i1, i3]
theorem slice_hi (K : E.Ok) (a : Addr) (k len cap : Nat) (h : k ≤ len) (w : World) : (Instr.sliceAt E.ts (.slice (some a) len cap) (some (.int .i64 k)) none none).run Tryd.prog w = .ok (.slice (some (if cap = k then a else a.add (k * E.n))) (len - k) (cap - k)) w := by
  have h1 : (k : Int) ≤ len := by omega
  obtain ⟨i, i1, i2, i3, i4⟩ := K.info
  by_cases he : cap = k
  · subst he
    simp [go_sem, K.hu, sizeOf, typeInfo, h1, i1, i3]
  · simp [go_sem, K.hu, sizeOf, typeInfo, h1, he, i1, i3]
theorem row_lo (K : E.Ok) {W : World} {v : Value} {l : List α} (h : Row E W v l) (k : Nat) (hk : k ≤ l.length) : ∃ lo, (∀ w, (Instr.sliceAt E.ts v none (some (.int .i64 k)) none).run Tryd.prog w = .ok lo w) ∧ Row E W lo (l.take k) := by
  rcases h with ⟨rfl, rfl⟩ | ⟨a, cap, rfl, h2, h3, h4⟩
  · obtain rfl : k = 0 := by simpa using hk
    obtain ⟨i, i1, i2, i3, i4⟩ := K.info
    exact ⟨.slice none 0 0, fun w => by simp [go_sem, K.hu, sizeOf, typeInfo, i1], Or.inl ⟨rfl, rfl⟩⟩
  · refine ⟨_, slice_lo K a k _ _ (by omega), Or.inr ⟨a, cap, by rw [List.length_take, Nat.min_eq_left hk], by simp; omega, h3, fun j u hj => h4 j u ?_⟩⟩
    conv => lhs; rw [← List.take_append_drop k l, flat_append]
    exact List.getElem?_append_left (List.getElem?_eq_some_iff.1 hj).1 ▸ hj
theorem row_hi (K : E.Ok) {W : World} {v : Value} {l : List α} (h : Row E W v l) (k : Nat) (hk : k ≤ l.length) : ∃ hi, (∀ w, (Instr.sliceAt E.ts v (some (.int .i64 k)) none none).run Tryd.prog w = .ok hi w) ∧ Row E W hi (l.drop k) := by
  rcases h with ⟨rfl, rfl⟩ | ⟨a, cap, rfl, h2, h3, h4⟩
  · obtain rfl : k = 0 := by simpa using hk
    obtain ⟨i, i1, i2, i3, i4⟩ := K.info
    exact ⟨.slice none 0 0, fun w => by simp [go_sem, K.hu, sizeOf, typeInfo, i1], Or.inl ⟨rfl, rfl⟩⟩
  · refine ⟨_, slice_hi K a k _ _ hk, Or.inr ⟨_, cap - k, by rw [List.length_drop], by rw [List.length_drop]; omega, by omega, fun j u hj => ?_⟩⟩
    have hlt := (List.getElem?_eq_some_iff.1 hj).1
    have hne : (l.drop k) ≠ [] := by rintro e; rw [e] at hlt; simp [flat] at hlt
    have hlk : k < l.length := by
      rcases Nat.lt_or_ge k l.length with h0 | h0
      · exact h0
      · exact absurd (List.drop_eq_nil_of_le h0) hne
    rw [if_neg (by omega), add_add]
    refine h4 _ u ?_
    conv => lhs; rw [← List.take_append_drop k l, flat_append]
    rw [List.getElem?_append_right (by rw [flat_length K, List.length_take, Nat.min_eq_left hk]; omega), flat_length K, List.length_take, Nat.min_eq_left hk, show k * E.n + j - k * E.n = j by omega]
    exact hj
/-- The end of a list cut off, where its room is its own. -/
theorem row_take (K : E.Ok) {W : World} {a : Addr} {n cap k : Nat} {l : List α} (h : Row E W (.slice (some a) n cap) l) (hk : k ≤ l.length) : Row E W (.slice (some a) k cap) (l.take k) := by
  have _ := K
  rcases h with ⟨_, h⟩ | ⟨a', cap', h1, h2, h3, h4⟩
  · cases h
  · obtain ⟨rfl, rfl, rfl⟩ : a = a' ∧ n = l.length ∧ cap = cap' := by simpa using h1
    refine Or.inr ⟨a, cap, by simp; omega, by simp; omega, h3, fun j u hj => h4 j u ?_⟩
    conv => lhs; rw [← List.take_append_drop k l, flat_append]
    rw [List.getElem?_append_left (List.getElem?_eq_some_iff.1 hj).1]
    exact hj
/-- An append of a list onto a row of one's own. -/
theorem app_row (K : E.Ok) {w : World} (B : Nat) {v x : Value} {l m : List α} (hown : Own E w B v l) (hx : Row E w x m) (hn : l.length ≤ 1000) (hm : m.length ≤ 1000) (hB : B ≤ w.heap.size) (ty : TypeId) :
    ∃ v' w', (Builtin.append_ #[E.ts, E.ts] ty #[v, x]).run Tryd.prog w = .ok v' w' ∧ Own E w' B v' (l ++ m) ∧ w.grownBy w' v.ownBlock := by
  obtain ⟨i, i1, i2, i3, i4⟩ := K.info
  rcases hx with ⟨rfl, rfl⟩ | ⟨ad, c, rfl, h2, h3, h4⟩
  · exact ⟨v, w, run_append_owned_none (P := Tryd.prog) (w := w) B E.ts ty E.t i E.n K.hu i1 v _ _ hown, by simpa using hown, grown_refl _ _⟩
  · have hf := K.few
    obtain ⟨v', w', r1, r2, r3, _⟩ := run_append_own (P := Tryd.prog) w B E.ts ty E.t i E.z E.n E.bytes K.hu i1 i2 i3 i4 K.zs K.pos v _ _ hown ad m.length c (flat E m) (flat_length K m) h4 (flat_cell K m) (by unfold maxLen; omega)
      (Nat.le_trans (Nat.mul_le_mul (show l.length + m.length ≤ 2000 by omega) hf) (by decide)) hB
    exact ⟨v', w', r1, by rw [Own, List.length_append, flat_append]; exact r2, r3⟩
theorem make_own (K : E.Ok) (w : World) (B c : Nat) (hc : c ≤ 1000) (hB : B ≤ w.heap.size) :
    ∃ w', (Instr.makeSlice E.ts (.int .i64 0) (.int .i64 (c : Int))).run Tryd.prog w = .ok (.slice (some ⟨w.heap.size, 0, none⟩) 0 c) w' ∧ Own E w' B (.slice (some ⟨w.heap.size, 0, none⟩) 0 c) ([] : List α) ∧ w.grownBy w' none := by
  obtain ⟨i, i1, i2, i3, i4⟩ := K.info
  have hf := K.few
  exact run_make_own (P := Tryd.prog) w B E.ts E.t i E.z E.n K.hu i1 i2 i3 .i64 .i64 c (by rw [i4]; exact Nat.le_trans (Nat.mul_le_mul hf hc) (by decide)) (by unfold maxLen; omega) hB
/-- A literal's row, made by cells. -/
theorem row_lit (K : E.Ok) (w : World) (l : List α) (n : Nat) (hn : n = l.length) (hl : l.length ≤ 1000) (cs : Array Value) (hcs : cs.toList = flat E l) : Own E (w.alloc (.cells cs E.t)) w.heap.size (.slice (some ⟨w.heap.size, 0, none⟩) n n) l := by
  subst hn
  have hsz : cs.size = l.length * E.n := by rw [← flat_length K, ← hcs, Array.length_toList]
  refine ⟨flat_length K l, Or.inr ⟨w.heap.size, l.length, cs, rfl, Nat.le_refl _, ?_, Nat.le_refl _, by unfold maxLen; omega, hsz, ?_⟩⟩
  · show (w.heap.push _)[w.heap.size]? = _
    simp
  · rw [← hcs, List.take_of_length_le (by rw [Array.length_toList, hsz]; exact Nat.le_refl _)]
theorem own_made (w : World) : Own E (w.alloc (.cells #[] E.t)) w.heap.size (.slice (some ⟨w.heap.size, 0, none⟩) 0 0) ([] : List α) := by
  have h := World.ownsRow_made (base := w.heap.size) (e := E.t) (size := E.n) w #[] 0 (Nat.le_refl _) (by decide) (by simp)
  simpa [Own, flat] using h
/-- Block b holds just these cells. -/
def Box (W : World) (b : Nat) (cs : Array Value) (t : TypeId) : Prop := W.heap[b]? = some (.cells cs t (0, 0))
theorem Box.cell {W : World} {b : Nat} {cs : Array Value} {t : TypeId} (h : Box W b cs t) (k : Nat) : W.cell? ⟨b, k, none⟩ = cs[k]? := by
  unfold Box at h
  simp [World.cell?, h]
theorem Box.fr {W : World} {b : Nat} {cs : Array Value} {t : TypeId} (h : Box W b cs t) (k : Nat) : W.frozen? ⟨b, k, none⟩ = false := by
  unfold Box at h
  simp [World.frozen?, h]
theorem Box.lt {W : World} {b : Nat} {cs : Array Value} {t : TypeId} (h : Box W b cs t) : b < W.heap.size := lt_of_heap h
theorem Box.on {W W' : World} {b : Nat} {cs : Array Value} {t : TypeId} (h : Box W b cs t) (hb : Below W.heap.size W W') : Box W' b cs t := by
  have hl := h.lt
  unfold Box at *
  rw [hb.block _ hl]; exact h
theorem Box.more {W : World} {b : Nat} {cs : Array Value} {t : TypeId} (h : Box W b cs t) (o : Obj) : Box (W.alloc o) b cs t := h.on ((Below.refl _ _).alloc (Nat.le_refl _) _)
theorem box_new (W : World) (cs : Array Value) (t : TypeId) : Box (W.alloc (.cells cs t)) W.heap.size cs t := by
  unfold Box
  show (W.heap.push _)[W.heap.size]? = _
  simp
/-- An append, met by its run. -/
theorem wpList_append_run {P : Program} {ops : Array Oper} {rest : List Oper} {o : Oper} {a : Act} {Q : Exit → Act → World → Prop} {w w' : World} (hgd : o.guard = none) (s x : Operand) (t : TypeId)
    (ho : o.op = .call { callee := .builtin .append, args := #[s, x], argTypes := #[t, t] }) {v xv v' : Value} (hs : a.eval s = v) (hx : a.eval x = xv) (hr : (Builtin.append_ #[t, t] o.type #[v, xv]).run P w = .ok v' w')
    (h : wpList P ops Q rest (a.put o.dst v') w') : wpList P ops Q (o :: rest) a w := by
  refine wpList_plain hgd fun K hK => ?_
  unfold Oper.wp execOp
  simp only [ho, resolve, invoke, builtin, Sem.run_bind, Sem.run_pure, Result.andThen_ok, List.map_toArray, List.map_cons, List.map_nil, hs, hx, hr]
  exact hK _ _ h
/-- A copy, met by its run. -/
theorem wpList_copy_run {P : Program} {ops : Array Oper} {rest : List Oper} {o : Oper} {a : Act} {Q : Exit → Act → World → Prop} {w w' : World} (hgd : o.guard = none) (s x : Operand) (t : TypeId)
    (ho : o.op = .call { callee := .builtin .copy, args := #[s, x], argTypes := #[t, t] }) {v xv v' : Value} (hs : a.eval s = v) (hx : a.eval x = xv) (hr : (Builtin.copy_ #[t, t] o.type #[v, xv]).run P w = .ok v' w')
    (h : wpList P ops Q rest (a.put o.dst v') w') : wpList P ops Q (o :: rest) a w := by
  refine wpList_plain hgd fun K hK => ?_
  unfold Oper.wp execOp
  simp only [ho, resolve, invoke, builtin, Sem.run_bind, Sem.run_pure, Result.andThen_ok, List.map_toArray, List.map_cons, List.map_nil, hs, hx, hr]
  exact hK _ _ h
/-- Parts of a function's code. -/
def afterN : Nat → Code → Code
  | 0, c => c
  | k + 1, .seq _ b => afterN k b
  | _, c => c
def headN (k : Nat) (c : Code) : Code := match afterN k c with
  | .seq a _ => a
  | c => c
def findBlock (k : Nat) : Code → Option Code
  | .block id c => if id = k then some (.block id c) else findBlock k c
  | .seq a b => match findBlock k a with
    | some c => some c
    | none => findBlock k b
  | .cond _ a b => match findBlock k a with
    | some c => some c
    | none => findBlock k b
  | .loop c => findBlock k c
  | .scope c => findBlock k c
  | _ => none
def findRegion (k : Nat) : Code → Option Code
  | .region id ops d => if id = k then some (.region id ops d) else none
  | .seq a b => match findRegion k a with
    | some c => some c
    | none => findRegion k b
  | .cond _ a b => match findRegion k a with
    | some c => some c
    | none => findRegion k b
  | .block _ c => findRegion k c
  | .loop c => findRegion k c
  | .scope c => findRegion k c
  | _ => none
end Go.Proofs.YtfcgfnmokbbcaaaDoor.Rw

namespace Go.Proofs.YtfcgfnmokbbcaaaDoor.Rw
open Go.RowKit
variable {α : Type} {E : Ek α}

theorem below_setRow {B g : Nat} {W w : World} (h : Below B W w) (hB : B ≤ g) (cs : Array Value) : Below B W (w.setRow g cs) :=
  ⟨h.os, h.tape, h.output, by simp [World.setRow]; exact h.size, fun k hk => by
    have hne : g ≠ k := by omega
    have h2 := h.block k hk
    simp [World.setRow, Array.getElem?_modify, hne, h2]⟩
theorem Box.set {w : World} {g : Nat} {cur : Array Value} {t : TypeId} (h : Box w g cur t) (cs : Array Value) : Box (w.setRow g cs) g cs t := setRow_heap w g cur cs t (0, 0) h
theorem Box.other {w : World} {g b : Nat} {cur : Array Value} {t : TypeId} (h : Box w b cur t) (hne : b ≠ g) (cs : Array Value) : Box (w.setRow g cs) b cur t := (setRow_other w g b cs hne).trans h
theorem Box.drew {w : World} {b : Nat} {cur : Array Value} {t : TypeId} (h : Box w b cur t) : Box w.drew b cur t := h
theorem Box.shape {w : World} {b : Nat} {cur : Array Value} {t : TypeId} (h : Box w b cur t) : w.shape? b = some (t, cur.size) := by
  unfold Box at h
  simp [World.shape?, h]
/-- A row of one's own, opened. -/
theorem own_open {W : World} {B : Nat} {v : Value} {l : List α} (h : Own E W B v l) : (v = .slice none 0 0 ∧ l = []) ∨ ∃ g cap cur, v = .slice (some ⟨g, 0, none⟩) l.length cap ∧ B ≤ g ∧ Box W g cur E.t ∧ l.length ≤ cap ∧ cap ≤ maxLen ∧ cur.size = cap * E.n ∧ cur.toList.take (l.length * E.n) = flat E l := by
  rcases h.2 with ⟨h1, h2⟩ | ⟨g, cap, cur, h1, h2, h3, h4, h5, h6, h7⟩
  · exact Or.inl ⟨h1, List.eq_nil_of_length_eq_zero h2⟩
  · exact Or.inr ⟨g, cap, cur, h1, h2, h3, h4, h5, h6, h7⟩
theorem own_shut (K : E.Ok) {W : World} {B g cap n : Nat} {cur : Array Value} {l : List α} (hn : n = l.length) (hB : B ≤ g) (hb : Box W g cur E.t) (h1 : n ≤ cap) (h2 : cap ≤ maxLen) (h3 : cur.size = cap * E.n) (h4 : cur.toList.take (n * E.n) = flat E l) : Own E W B (.slice (some ⟨g, 0, none⟩) n cap) l := by
  subst hn
  exact ⟨flat_length K l, Or.inr ⟨g, cap, cur, rfl, hB, hb, h1, h2, h3, h4⟩⟩
theorem flat_take (K : E.Ok) (l : List α) (k : Nat) : (flat E l).take (k * E.n) = flat E (l.take k) := by
  rcases Nat.le_total k l.length with h | h
  · conv => lhs; rw [← List.take_append_drop k l, flat_append]
    have e : (flat E (l.take k)).length = k * E.n := by rw [flat_length K, List.length_take, Nat.min_eq_left h]
    rw [← e, List.take_left]
  · rw [List.take_of_length_le h, List.take_of_length_le]
    rw [flat_length K]
    exact Nat.mul_le_mul_right _ h
theorem flat_drop (K : E.Ok) (l : List α) (k : Nat) : (flat E l).drop (k * E.n) = flat E (l.drop k) := by
  rcases Nat.le_total k l.length with h | h
  · conv => lhs; rw [← List.take_append_drop k l, flat_append]
    have e : (flat E (l.take k)).length = k * E.n := by rw [flat_length K, List.length_take, Nat.min_eq_left h]
    rw [← e, List.drop_left]
  · rw [List.drop_of_length_le h, List.drop_of_length_le]
    · rfl
    rw [flat_length K]
    exact Nat.mul_le_mul_right _ h
/-- A list's rest, where a block holds the list. -/
theorem box_rest (K : E.Ok) {W : World} {g : Nat} {cur : Array Value} {t : TypeId} {l : List α} (hb : Box W g cur t) (ht : cur.toList.take (l.length * E.n) = flat E l) (k : Nat) : ∀ j u, (flat E (l.drop k))[j]? = some u → W.cell? ((⟨g, k * E.n, none⟩ : Addr).add j) = some u := by
  intro j u hj
  rw [Addr.add_lit, hb.cell]
  rw [← flat_drop K, List.getElem?_drop, ← ht, List.getElem?_take] at hj
  split at hj
  · simpa using hj
  · cases hj
theorem box_one {W : World} {b : Nat} {cs : Array Value} {t : TypeId} {x : α} (hb : Box W b cs t) (hc : cs.toList = E.cells x) : ∀ j u, (flat E [x])[j]? = some u → W.cell? ((⟨b, 0, none⟩ : Addr).add j) = some u := by
  intro j u hj
  rw [add_own, hb.cell]
  rw [flat_one', ← hc] at hj
  simpa using hj
/-- A part of a row. -/
theorem cut_hi (K : E.Ok) (g k len cap : Nat) (h : k ≤ len) (hc : k < cap) (w : World) : (Instr.sliceAt E.ts (.slice (some ⟨g, 0, none⟩) len cap) (some (.int .i64 k)) none none).run Tryd.prog w = .ok (.slice (some ⟨g, k * E.n, none⟩) (len - k) (cap - k)) w := by
  rw [slice_hi K ⟨g, 0, none⟩ k len cap h w, if_neg (by omega), add_own]
/-- A copy into a block, at a place. -/
theorem copy_box (K : E.Ok) {w : World} {g o nd cd ns sc : Nat} {a : Addr} {cur : Array Value} {m : List α} (hb : Box w g cur E.t) (hm : ∀ j u, (flat E m)[j]? = some u → w.cell? (a.add j) = some u) (hk : min ns nd = m.length) (hr : (o + m.length) * E.n ≤ cur.size) (ty : TypeId) :
    (Builtin.copy_ #[E.ts, E.ts] ty #[.slice (some ⟨g, o * E.n, none⟩) nd cd, .slice (some a) ns sc]).run Tryd.prog w = .ok (.int .i64 m.length) (w.setRow g (cur.toList.take (o * E.n) ++ flat E m ++ cur.toList.drop ((o + m.length) * E.n)).toArray) := by
  obtain ⟨i, i1, i2, i3, i4⟩ := K.info
  have hl := run_loadCells_list (P := Tryd.prog) w a (flat E m) hm
  have hst := run_storeCells_at Tryd.prog g (o * E.n) E.t (flat E m) 0 cur w hb (by rw [flat_length K, Nat.add_zero, ← Nat.add_mul]; exact hr) (flat_cell K m)
  rw [flat_length K] at hl
  have e : o * E.n + 0 + (flat E m).length = (o + m.length) * E.n := by rw [flat_length K, Nat.add_zero, Nat.add_mul]
  rw [e, Nat.add_zero] at hst
  simp [Builtin.copy_, run_underlying K.hu, Builtin.lenOf, Builtin.firstCells, sizeOf, typeInfo, i1, i3, hk, hl, goInt]
  simpa using congrArg (fun r => r.andThen fun _ w => Result.ok (Value.int .i64 m.length) w) hst

/-! ### one element more, in the middle -/
section
variable {l : List α} {k cap : Nat} {cur cs : Array Value} {c : α}
/-- Where there is room: the two copies, and what then lies there. -/
theorem shift_mid (K : E.Ok) (hk : k < l.length) (hcap : l.length + 1 ≤ cap) (hsz : cur.size = cap * E.n) (ht : cur.toList.take (l.length * E.n) = flat E l) (g b : Nat) (_hne : b ≠ g) :
    ∃ R1 R2 : Array Value,
      (∀ (W : World) (ty : TypeId) (nd dc ns sc : Nat), Box W g cur E.t → min ns nd = l.length - k → (Builtin.copy_ #[E.ts, E.ts] ty #[.slice (some ⟨g, (k + 1) * E.n, none⟩) nd dc, .slice (some ⟨g, k * E.n, none⟩) ns sc]).run Tryd.prog W = .ok (.int .i64 ((l.length - k : Nat) : Int)) (W.setRow g R1)) ∧
      (∀ (W : World) (ty : TypeId) (nd dc : Nat), Box W g R1 E.t → Box W b cs E.t → cs.toList = E.cells c → 1 ≤ nd → (Builtin.copy_ #[E.ts, E.ts] ty #[.slice (some ⟨g, k * E.n, none⟩) nd dc, .slice (some ⟨b, 0, none⟩) 1 1]).run Tryd.prog W = .ok (.int .i64 1) (W.setRow g R2)) ∧
      (∀ (W : World) (B : Nat), B ≤ g → cap ≤ maxLen → Box W g R2 E.t → Own E W B (.slice (some ⟨g, 0, none⟩) (l.length + 1) cap) (l.take k ++ c :: l.drop k)) := by
  have hkl : (l.drop k).length = l.length - k := by simp
  have hs1 : (cur.toList.take ((k + 1) * E.n) ++ flat E (l.drop k) ++ cur.toList.drop ((k + 1 + (l.drop k).length) * E.n)).length = cap * E.n := by
    have h1 : (k + 1) * E.n ≤ cap * E.n := Nat.mul_le_mul_right _ (by omega)
    have h2 : (k + 1 + (l.drop k).length) * E.n ≤ cap * E.n := Nat.mul_le_mul_right _ (by omega)
    simp only [List.length_append, List.length_take, List.length_drop, Array.length_toList, flat_length K, hsz]
    rw [Nat.min_eq_left h1]
    have h3 : (k + 1 + (l.drop k).length) * E.n = (k + 1) * E.n + (l.drop k).length * E.n := Nat.add_mul ..
    simp only [List.length_drop] at h2 h3 ⊢
    omega
  refine ⟨(cur.toList.take ((k + 1) * E.n) ++ flat E (l.drop k) ++ cur.toList.drop ((k + 1 + (l.drop k).length) * E.n)).toArray,
    ((cur.toList.take ((k + 1) * E.n) ++ flat E (l.drop k) ++ cur.toList.drop ((k + 1 + (l.drop k).length) * E.n)).take (k * E.n) ++ flat E [c] ++ (cur.toList.take ((k + 1) * E.n) ++ flat E (l.drop k) ++ cur.toList.drop ((k + 1 + (l.drop k).length) * E.n)).drop ((k + 1) * E.n)).toArray, ?_, ?_, ?_⟩
  · intro W ty nd dc ns sc hb hm
    have h := copy_box K (o := k + 1) (m := l.drop k) (nd := nd) (cd := dc) (ns := ns) (sc := sc) hb (box_rest K hb ht k) (by rw [hkl]; exact hm) (by rw [hkl, hsz]; exact Nat.mul_le_mul_right _ (by omega)) ty
    rw [hkl] at h ⊢
    exact h
  · intro W ty nd dc hb hx hc hn
    have h := copy_box K (o := k) (m := [c]) (nd := nd) (cd := dc) (ns := 1) (sc := 1) hb (box_one hx hc) (by simp; omega) (by rw [List.size_toArray, hs1]; exact Nat.mul_le_mul_right _ (by simp; omega)) ty
    simpa using h
  · intro W B hB hm hb
    have p1 : (cur.toList.take ((k + 1) * E.n)).length = (k + 1) * E.n := by
      rw [List.length_take, Array.length_toList, hsz]
      exact Nat.min_eq_left (Nat.mul_le_mul_right _ (by omega))
    have p2 : (cur.toList.take ((k + 1) * E.n) ++ flat E (l.drop k) ++ cur.toList.drop ((k + 1 + (l.drop k).length) * E.n)).take (k * E.n) = flat E (l.take k) := by
      rw [List.append_assoc, List.take_append_of_le_length (by rw [p1]; exact Nat.mul_le_mul_right _ (by omega)), List.take_take, Nat.min_eq_left (Nat.mul_le_mul_right _ (by omega)), ← flat_take K, ← ht, List.take_take, Nat.min_eq_left (Nat.mul_le_mul_right _ (by omega))]
    have p3 : (cur.toList.take ((k + 1) * E.n) ++ flat E (l.drop k) ++ cur.toList.drop ((k + 1 + (l.drop k).length) * E.n)).drop ((k + 1) * E.n) = flat E (l.drop k) ++ cur.toList.drop ((k + 1 + (l.drop k).length) * E.n) := by
      rw [List.append_assoc, List.drop_left' p1]
    have e : flat E (l.take k) ++ flat E [c] ++ flat E (l.drop k) = flat E (l.take k ++ c :: l.drop k) := by
      rw [flat_append, show c :: l.drop k = [c] ++ l.drop k from rfl, flat_append, List.append_assoc]
    have ln : (l.take k ++ c :: l.drop k).length = l.length + 1 := by simp; omega
    have q : (flat E (l.take k) ++ flat E [c] ++ flat E (l.drop k)).length = (l.length + 1) * E.n := by rw [e, flat_length K, ln]
    refine own_shut K ln.symm hB hb hcap hm ?_ ?_
    · rw [List.size_toArray, p2, p3, ← List.append_assoc, List.length_append, q, List.length_drop, show cur.toList.length = cap * E.n from Array.length_toList.trans hsz, hkl]
      have h1 : (l.length + 1) * E.n ≤ cap * E.n := Nat.mul_le_mul_right _ hcap
      rw [show k + 1 + (l.length - k) = l.length + 1 by omega]
      omega
    · rw [p2, p3, ← List.append_assoc]
      exact (List.take_left' q).trans e
/-- Where there is none: a new block, and the two copies into it. -/
theorem grow_mid (K : E.Ok) (tn : TypeId) (htn : Tryd.prog.underlying tn = some (.int .i64)) (hk : k < l.length) (hl : l.length ≤ 1000) (hcap : cap < l.length + 1) (hlc : l.length ≤ cap) (ht : cur.toList.take (l.length * E.n) = flat E l) (W : World) (g b : Nat) (hb : Box W g cur E.t) (_hbW : b < W.heap.size) :
    ∃ (G : Nat) (R1 R2 R3 : Array Value), l.length + 1 ≤ G ∧ G ≤ maxLen ∧
      (∀ ty, (Builtin.append_ #[E.ts, tn] ty #[.slice (some ⟨g, 0, none⟩) k cap, .int .i64 ((l.length : Int) + 1 - k)]).run Tryd.prog W = .ok (.slice (some ⟨W.heap.size, 0, none⟩) (l.length + 1) G) (W.drew.alloc (.cells R1 E.t))) ∧
      (∀ (w : World) (ty : TypeId) (nd dc : Nat), Box w W.heap.size R1 E.t → Box w b cs E.t → cs.toList = E.cells c → 1 ≤ nd → (Builtin.copy_ #[E.ts, E.ts] ty #[.slice (some ⟨W.heap.size, k * E.n, none⟩) nd dc, .slice (some ⟨b, 0, none⟩) 1 1]).run Tryd.prog w = .ok (.int .i64 1) (w.setRow W.heap.size R2)) ∧
      (∀ (w : World) (ty : TypeId) (nd dc ns sc : Nat), Box w W.heap.size R2 E.t → Box w g cur E.t → min ns nd = l.length - k → (Builtin.copy_ #[E.ts, E.ts] ty #[.slice (some ⟨W.heap.size, (k + 1) * E.n, none⟩) nd dc, .slice (some ⟨g, k * E.n, none⟩) ns sc]).run Tryd.prog w = .ok (.int .i64 ((l.length - k : Nat) : Int)) (w.setRow W.heap.size R3)) ∧
      (∀ (w : World) (B : Nat), B ≤ W.heap.size → Box w W.heap.size R3 E.t → Own E w B (.slice (some ⟨W.heap.size, 0, none⟩) (l.length + 1) G) (l.take k ++ c :: l.drop k)) := by
  obtain ⟨i, i1, i2, i3, i4⟩ := K.info
  have hf := K.few
  have hpos := K.pos
  have hkl : (l.drop k).length = l.length - k := by simp
  have hold : (Builtin.firstCells i.size k (.slice (some ⟨g, 0, none⟩) k cap)).run Tryd.prog W.drew = .ok (flat E (l.take k)).toArray W.drew :=
    run_firstCells_some (P := Tryd.prog) (w := W.drew) i.size k ⟨g, 0, none⟩ k cap (flat E (l.take k)) (by rw [flat_length K, List.length_take, Nat.min_eq_left (by omega), i3]) (fun j u hj => by
      rw [add_own]
      show W.cell? _ = _
      rw [hb.cell]
      rw [← flat_take K, ← ht, List.getElem?_take] at hj
      split at hj
      · rw [List.getElem?_take] at hj
        split at hj
        · simpa using hj
        · cases hj
      · cases hj)
  have happ := fun ty => Lib.run_append_grow_zeros (P := Tryd.prog) W E.ts tn ty E.t i _ .i64 .i64 K.hu htn i1 i2 (some ⟨g, 0, none⟩) k cap (flat E (l.take k)) hold (l.length + 1 - k) (by omega) (by rw [i3]; exact hpos) (by omega) (by omega)
    (by rw [i4]; exact Nat.le_trans (Nat.mul_le_mul (show l.length + 1 - k ≤ 2000 by omega) hf) (by decide))
    (growslice_fits (by omega) (by rw [i4]; exact Nat.le_trans (Nat.mul_le_mul (show k + (l.length + 1 - k) ≤ 2000 by omega) hf) (by decide)))
  rw [show k + (l.length + 1 - k) = l.length + 1 by omega] at happ
  have hG1 := grownCap_ge W (l.length + 1) cap E.t
  have hG2 := grownCap_le_maxLen W (l.length + 1) cap E.t (by unfold maxLen; omega)
  generalize grownCap W (l.length + 1) cap E.t = G at happ hG1 hG2
  obtain ⟨R1, hR1⟩ : ∃ R1 : Array Value, R1 = (flat E (l.take k)).toArray ++ Builtin.zeroCells E.z.cells (l.length + 1 - k) ++ Builtin.zeroCells E.z.cells (G - (l.length + 1)) := ⟨_, rfl⟩
  rw [← hR1] at happ
  have hs0 : R1.size = G * E.n := by
    rw [hR1]
    simp only [Array.size_append, List.size_toArray, size_zeroCells, K.zs, flat_length K, List.length_take, Nat.min_eq_left (Nat.le_of_lt hk), ← Nat.add_mul]
    rw [show k + (l.length + 1 - k) + (G - (l.length + 1)) = G by omega]
  have hh : R1.toList.take (k * E.n) = flat E (l.take k) := by
    rw [hR1]
    simp only [Array.toList_append, List.append_assoc]
    have e : (flat E (l.take k)).length = k * E.n := by rw [flat_length K, List.length_take, Nat.min_eq_left (by omega)]
    rw [← e]
    simp
  have q1 : (flat E [c]).length = 1 * E.n := by rw [flat_length K]; rfl
  have q0 : (R1.toList.take (k * E.n)).length = k * E.n := by
    rw [hh, flat_length K, List.length_take, Nat.min_eq_left (by omega)]
  have hs2 : (R1.toList.take (k * E.n) ++ flat E [c] ++ R1.toList.drop ((k + [c].length) * E.n)).length = G * E.n := by
    have h1 : (k + 1) * E.n ≤ G * E.n := Nat.mul_le_mul_right _ (by omega)
    have h2 : (k + 1) * E.n = k * E.n + 1 * E.n := Nat.add_mul ..
    simp only [List.length_append, q0, q1, List.length_drop, Array.length_toList, hs0, List.length_singleton]
    omega
  refine ⟨G, R1, (R1.toList.take (k * E.n) ++ flat E [c] ++ R1.toList.drop ((k + [c].length) * E.n)).toArray,
    ((R1.toList.take (k * E.n) ++ flat E [c] ++ R1.toList.drop ((k + [c].length) * E.n)).take ((k + 1) * E.n) ++ flat E (l.drop k) ++ (R1.toList.take (k * E.n) ++ flat E [c] ++ R1.toList.drop ((k + [c].length) * E.n)).drop ((k + 1 + (l.drop k).length) * E.n)).toArray, hG1, hG2, ?_, ?_, ?_, ?_⟩
  · intro ty
    have h := happ ty
    rw [show ((l.length + 1 - k : Nat) : Int) = (l.length : Int) + 1 - k by omega] at h
    exact h
  · intro w ty nd dc hb' hx hc hn
    have h := copy_box K (o := k) (m := [c]) (nd := nd) (cd := dc) (ns := 1) (sc := 1) hb' (box_one hx hc) (by simp; omega) (by rw [hs0]; exact Nat.mul_le_mul_right _ (by simp; omega)) ty
    simpa using h
  · intro w ty nd dc ns sc hb' hx hm
    have h := copy_box K (o := k + 1) (m := l.drop k) (nd := nd) (cd := dc) (ns := ns) (sc := sc) hb' (box_rest K hx ht k) (by rw [hkl]; exact hm) (by rw [hkl, List.size_toArray, hs2]; exact Nat.mul_le_mul_right _ (by omega)) ty
    rw [hkl] at h ⊢
    exact h
  · intro w B hB hb'
    have p2 : (R1.toList.take (k * E.n) ++ flat E [c] ++ R1.toList.drop ((k + [c].length) * E.n)).take ((k + 1) * E.n) = flat E (l.take k) ++ flat E [c] := by
      have e : (R1.toList.take (k * E.n) ++ flat E [c]).length = (k + 1) * E.n := by rw [List.length_append, q0, q1, ← Nat.add_mul]
      rw [← e, List.take_left, hh]
    have e : flat E (l.take k) ++ flat E [c] ++ flat E (l.drop k) = flat E (l.take k ++ c :: l.drop k) := by
      rw [flat_append, show c :: l.drop k = [c] ++ l.drop k from rfl, flat_append, List.append_assoc]
    have ln : (l.take k ++ c :: l.drop k).length = l.length + 1 := by simp; omega
    have q : (flat E (l.take k) ++ flat E [c] ++ flat E (l.drop k)).length = (l.length + 1) * E.n := by rw [e, flat_length K, ln]
    refine own_shut K ln.symm hB hb' hG1 hG2 ?_ ?_
    · rw [List.size_toArray, p2, List.length_append, q, List.length_drop, hs2, hkl]
      have h1 : (l.length + 1) * E.n ≤ G * E.n := Nat.mul_le_mul_right _ hG1
      rw [show k + 1 + (l.length - k) = l.length + 1 by omega]
      omega
    · rw [p2]
      exact (List.take_left' q).trans e
end
/-- An append of so many zeros, met by its run. -/
theorem wpList_append_run2 {P : Program} {ops : Array Oper} {rest : List Oper} {o : Oper} {a : Act} {Q : Exit → Act → World → Prop} {w w' : World} (hgd : o.guard = none) (s x : Operand) (t t' : TypeId)
    (ho : o.op = .call { callee := .builtin .append, args := #[s, x], argTypes := #[t, t'] }) {v xv v' : Value} (hs : a.eval s = v) (hx : a.eval x = xv) (hr : (Builtin.append_ #[t, t'] o.type #[v, xv]).run P w = .ok v' w')
    (h : wpList P ops Q rest (a.put o.dst v') w') : wpList P ops Q (o :: rest) a w := by
  refine wpList_plain hgd fun K hK => ?_
  unfold Oper.wp execOp
  simp only [ho, resolve, invoke, builtin, Sem.run_bind, Sem.run_pure, Result.andThen_ok, List.map_toArray, List.map_cons, List.map_nil, hs, hx, hr]
  exact hK _ _ h
/-- A copy, as one step of a region that draws, met by its run. -/
theorem step_copy_run {P : Program} {ops : Array Oper} {o : Oper} {a : Act} {w w' : World} {K : Act → World → Prop} {Q : Exit → Act → World → Prop} {E : Prop}
    (hg : o.guard = none) (s x : Operand) (t : TypeId) (hop : o.op = .call { callee := .builtin .copy, args := #[s, x], argTypes := #[t, t] }) {v xv v' : Value} (hs : a.eval s = v) (hx : a.eval x = xv)
    (hr : (Builtin.copy_ #[t, t] o.type #[v, xv]).run P w = .ok v' w') (hK : K (a.put o.dst v') w') :
    if Region.wanted o (yielded ops a.tmps) = true then Oper.wp P o a w K Q else E := by
  have hw : Region.wanted o (yielded ops a.tmps) = true := by simp [Region.wanted, hg]
  rw [if_pos hw]
  unfold Oper.wp execOp
  simp only [hop, resolve, invoke, builtin, Sem.run_bind, Sem.run_pure, Result.andThen_ok, List.map_toArray, List.map_cons, List.map_nil, hs, hx, hr]
  exact hK
end Go.Proofs.YtfcgfnmokbbcaaaDoor.Rw

namespace Go.Proofs.YtfcgfnmokbbcaaaDoor.Nm
open Go.RowKit Go.Proofs.YtfcgfnmokbbcaaaDoor Go.Proofs.YtfcgfnmokbbcaaaDoor.Rw

def EB : Ek UInt8 := ⟨5, 22, 1, 1, .int .u8 0, fun n => .int .u8 n.toNat, fun n => [.int .u8 n.toNat]⟩
theorem infoB0 : (Tryd.prog.info? 5).map (fun i => (i.zero, i.size, i.bytes)) = some (some (.int .u8 0), 1, 1) := by kernel_rfl
theorem infoB : ∃ i, Tryd.prog.info? 5 = some i ∧ i.zero = some (.int .u8 0) ∧ i.size = 1 ∧ i.bytes = 1 := by
  have h := infoB0
  cases hi : Tryd.prog.info? 5 with
  | none => rw [hi] at h; cases h
  | some i =>
    rw [hi] at h
    simp only [Option.map_some, Option.some.injEq, Prod.mk.injEq] at h
    exact ⟨i, rfl, h.1, h.2.1, h.2.2⟩
theorem okB : EB.Ok where
  hu := Tryd.underlying22
  info := infoB
  zs := rfl
  len := fun _ => rfl
  one := fun x u hu => by
    simp only [EB, List.mem_cons, List.not_mem_nil, or_false] at hu
    rw [hu]
    rfl
  pos := by decide
  few := by decide
  load := fun w p x h => by
    have h0 := h 0 _ rfl
    rw [add_zero] at h0
    show (Instr.loadAt 5 (.pointer (some p))).run Tryd.prog w = .ok (.int .u8 x.toNat) w
    simp [go_sem, h0]
abbrev RowB (W : World) (v : Value) (l : List UInt8) : Prop := Row EB W v l
abbrev OwnB (W : World) (B : Nat) (v : Value) (l : List UInt8) : Prop := Own EB W B v l
theorem elB {W : World} {v : Value} {l : List UInt8} {ao : Option Addr} {n c k : Nat} {x : UInt8} (h : RowB W v l) (hv : v = .slice ao n c) (hn : l.length = n) (hk : l[k]? = some x) :
    ∃ p : Addr, (∀ w, (Instr.indexAt 22 (.slice ao n c) (.int .i64 k)).run Tryd.prog w = .ok (.pointer (some p)) w) ∧ p.block < W.heap.size ∧ ∀ w, Below W.heap.size W w → w.cell? p = some (.int .u8 x.toNat) := by
  obtain ⟨p, h1, h3, h2⟩ := row_el okB h hv hn hk
  exact ⟨p, h1, h3, fun w hw => by
    have h0 := h2 w hw 0 _ rfl
    rwa [add_zero] at h0⟩
theorem flatB : ∀ l : List UInt8, flat EB l = l.map (fun n => Value.int .u8 n.toNat)
  | [] => rfl
  | x :: r => by
    show EB.cells x ++ flat EB r = _
    rw [flatB r]
    rfl
/-- An append of a list onto a row of one's own, of any size that a machine holds. -/
theorem appB {w : World} (B : Nat) {v x : Value} {l m : List UInt8} (hown : OwnB w B v l) (hx : RowB w x m) (hn : l.length + m.length ≤ 1000000000) (hB : B ≤ w.heap.size) (ty : TypeId) :
    ∃ v' w', (Builtin.append_ #[22, 22] ty #[v, x]).run Tryd.prog w = .ok v' w' ∧ OwnB w' B v' (l ++ m) ∧ w.grownBy w' v.ownBlock := by
  obtain ⟨i, i1, i2, i3, i4⟩ := infoB
  rcases hx with ⟨rfl, rfl⟩ | ⟨ad, c, rfl, h2, h3, h4⟩
  · exact ⟨v, w, run_append_owned_none (P := Tryd.prog) (w := w) B 22 ty 5 i 1 Tryd.underlying22 i1 v _ _ hown, by simpa using hown, grown_refl _ _⟩
  · obtain ⟨v', w', r1, r2, r3, _⟩ := run_append_own (P := Tryd.prog) w B 22 ty 5 i (.int .u8 0) 1 1 Tryd.underlying22 i1 i2 i3 i4 rfl (by decide) v _ _ hown ad m.length c (flat EB m) (flat_length okB m) h4 (flat_cell okB m) (by unfold maxLen; omega)
      (by omega) hB
    exact ⟨v', w', r1, by rw [OwnB, Own, List.length_append, flat_append]; exact r2, r3⟩
/-- An append of a text onto a row of one's own. -/
theorem appS {w : World} (B : Nat) {v : Value} {l : List UInt8} (s : ByteArray) (hown : OwnB w B v l) (hn : l.length + s.size ≤ 1000000000) (hB : B ≤ w.heap.size) (ty : TypeId) :
    ∃ v' w', (Builtin.append_ #[22, 9] ty #[v, .string s]).run Tryd.prog w = .ok v' w' ∧ OwnB w' B v' (l ++ s.data.toList) ∧ w.grownBy w' v.ownBlock := by
  obtain ⟨i, i1, i2, i3, i4⟩ := infoB
  obtain ⟨v', w', r1, r2, r3, _⟩ := Lib.run_append_own_string (P := Tryd.prog) w B 22 9 ty 5 i Tryd.underlying22 Tryd.underlying9 i1 i2 i3 i4 v _ _ hown s (by unfold maxLen; omega) (by omega) hB
  refine ⟨v', w', r1, ?_, r3⟩
  have e : (l ++ s.data.toList).length = l.length + s.size := by rw [List.length_append, Array.length_toList]; rfl
  rw [OwnB, Own, e, flat_append, flatB s.data.toList]
  exact r2
theorem row_lo8 {W : World} {v : Value} {l : List UInt8} (h : RowB W v l) (k : Nat) (hk : k ≤ l.length) : ∃ lo, (∀ w, (Instr.sliceAt 22 v none (some (.int .i64 k)) none).run Tryd.prog w = .ok lo w) ∧ RowB W lo (l.take k) := row_lo okB h k hk
theorem row_hi8 {W : World} {v : Value} {l : List UInt8} (h : RowB W v l) (k : Nat) (hk : k ≤ l.length) : ∃ hi, (∀ w, (Instr.sliceAt 22 v (some (.int .i64 k)) none none).run Tryd.prog w = .ok hi w) ∧ RowB W hi (l.drop k) := row_hi okB h k hk
theorem push_all : ∀ (l : List UInt8) (s : ByteArray), (l.map (fun n => (n.toNat : Int))).foldl (fun r n => r.push (UInt8.ofNat n.toNat)) s = ⟨s.data ++ l.toArray⟩
  | [], s => by simp
  | x :: r, s => by
    rw [List.map_cons, List.foldl_cons, push_all r]
    have h : UInt8.ofNat ((x.toNat : Int)).toNat = x := by simp
    rw [h]
    show (⟨(s.data.push x) ++ r.toArray⟩ : ByteArray) = _
    simp
/-- Bytes made a text. -/
theorem conv_row {W : World} {v : Value} {l : List UInt8} (h : RowB W v l) : (convert 22 9 v).run Tryd.prog W = .ok (.string ⟨l.toArray⟩) W := by
  rcases h with ⟨rfl, rfl⟩ | ⟨a, cap, rfl, h1, h2, h3⟩
  · rw [run_convert_bytes_string _ 22 9 5 _ _ _ Tryd.underlying22 Tryd.underlying5 Tryd.underlying9]
    rfl
  · rw [run_convert_bytes_string _ 22 9 5 _ _ _ Tryd.underlying22 Tryd.underlying5 Tryd.underlying9]
    have hl := run_loadCells_list (P := Tryd.prog) W a (flat EB l) h3
    rw [flat_length okB, flatB, show l.length * EB.n = l.length from Nat.mul_one _] at hl
    rw [run_bytesToString (P := Tryd.prog) W a l.length cap (l.map (fun n => (n.toNat : Int))) (by rw [hl]; simp [List.map_map]), push_all]
    simp
/-- A row of zeros, made. -/
theorem make_full8 (w : World) (n : Nat) (hn : n ≤ 1000000) :
    ∃ w', (Instr.makeSlice 22 (.int .i64 (n : Int)) (.int .i64 (n : Int))).run Tryd.prog w = .ok (.slice (some ⟨w.heap.size, 0, none⟩) n n) w' ∧ OwnB w' w.heap.size (.slice (some ⟨w.heap.size, 0, none⟩) n n) (List.replicate n 0) ∧ w.grownBy w' none := by
  obtain ⟨i, i1, i2, i3, i4⟩ := infoB
  obtain ⟨w', h1, h2, h3⟩ := run_make_full (P := Tryd.prog) w w.heap.size 22 5 i _ 1 Tryd.underlying22 i1 i2 i3 .i64 .i64 n (by rw [i4]; omega) (by unfold maxLen; omega) (Nat.le_refl _)
  refine ⟨w', h1, ?_, h3⟩
  rw [OwnB, Own, flatB, List.length_replicate]
  have e : (List.replicate n (0 : UInt8)).map (fun n => Value.int .u8 n.toNat) = (madeCells #[.int .u8 0] (n * 1)).toList := by
    rw [toList_madeCells_one]
    simp
  rw [e]
  exact h2
end Go.Proofs.YtfcgfnmokbbcaaaDoor.Nm
