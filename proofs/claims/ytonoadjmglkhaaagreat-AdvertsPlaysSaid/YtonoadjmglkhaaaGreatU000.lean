/-
  Rows of elements of any kind: how they lie in memory, are read, cut, copied, appended to. No program's function in it. Conditions: lists no longer than a machine holds.
  Numbers in memory, as lists. No program's function in it.
  Plain facts on what values say: no program in it. A number's decimals, a text between quotes: two values that say the same are the same.
-/
import Derived.Test.YtonoadjmglkhaaaGreatProg
import Derived.WalkKit
import Derived.ProofKit
import Derived.Laws.AppendOwn
import Derived.Laws.OwnMore
import Derived.Laws.MakeOwn
import Derived.Laws.CopyRow
import Derived.Deep.Slices
import Derived.Deep.CutBlock
import Derived.Deep.Cut
import Derived.Lib.ItoaNum
import GoSem.Claim
import Derived.Laws.Strings
namespace Go.Proofs.YtonoadjmglkhaaaGreat.Rw
open Go.RowKit

/-- A kind of element: its types, its cells. -/
structure Ek (α : Type) where
  t : TypeId
  ts : TypeId
  n : Nat
  bytes : Nat
  z : Value
  val : α → Value
  cells : α → List Value
structure Ek.Ok {α : Type} (E : Ek α) : Prop where
  hu : Tryz.prog.underlying E.ts = some (.slice E.t)
  info : ∃ i, Tryz.prog.info? E.t = some i ∧ i.zero = some E.z ∧ i.size = E.n ∧ i.bytes = E.bytes
  zs : E.z.cells.size = E.n
  len : ∀ x, (E.cells x).length = E.n
  one : ∀ x, ∀ u ∈ E.cells x, u.oneCell' = true
  pos : 0 < E.n
  few : E.bytes ≤ 100000
  load : ∀ (w : World) (p : Addr) (x : α), (∀ j u, (E.cells x)[j]? = some u → w.cell? (p.add j) = some u) → (Instr.loadAt E.t (.pointer (some p))).run Tryz.prog w = .ok (E.val x) w
variable {α : Type} {E : Ek α}
def flat (E : Ek α) : List α → List Value
  | [] => []
  | x :: r => E.cells x ++ flat E r
theorem flat_append : ∀ a b : List α, flat E (a ++ b) = flat E a ++ flat E b
  | [], b => rfl
  | x :: r, b => by simp [flat, flat_append r b]
theorem flat_one' (x : α) : flat E [x] = E.cells x := by simp [flat]
theorem flat_length (K : E.Ok) : ∀ l : List α, (flat E l).length = l.length * E.n
  | [] => by simp [flat]
  | x :: r => by simp [flat, flat_length K r, K.len x, Nat.add_mul]; omega
theorem flat_cell (K : E.Ok) : ∀ l : List α, ∀ u ∈ flat E l, u.oneCell' = true
  | [], u, h => by cases h
  | x :: r, u, h => by
    simp only [flat, List.mem_append] at h
    rcases h with h | h
    · exact K.one x u h
    · exact flat_cell K r u h
theorem flat_at (K : E.Ok) : ∀ (l : List α) (m : Nat) (x : α), l[m]? = some x → ∀ j, j < E.n → (flat E l)[m * E.n + j]? = (E.cells x)[j]?
  | [], m, x, h, _, _ => by simp at h
  | y :: r, 0, x, h, j, hj => by
    simp at h
    subst h
    simp only [flat]
    rw [Nat.zero_mul, Nat.zero_add, List.getElem?_append_left (by rw [K.len]; exact hj)]
  | y :: r, m + 1, x, h, j, hj => by
    have h2 := flat_at K r m x (by simpa using h) j hj
    simp only [flat]
    rw [List.getElem?_append_right (by rw [K.len, Nat.add_mul]; omega), K.len, show (m + 1) * E.n + j - E.n = m * E.n + j by rw [Nat.add_mul]; omega]
    exact h2
theorem add_add (a : Addr) (i j : Nat) : (a.add i).add j = a.add (i + j) := by
  unfold Addr.add
  by_cases hi : i = 0 <;> by_cases hj : j = 0 <;> simp [hi, hj, Nat.add_assoc]
theorem add_block (a : Addr) (i : Nat) : (a.add i).block = a.block := by unfold Addr.add; split <;> rfl
theorem add_own (g j : Nat) : (⟨g, 0, none⟩ : Addr).add j = ⟨g, j, none⟩ := by unfold Addr.add; split <;> simp_all
theorem add_pos (p : Addr) (j : Nat) (h : j ≠ 0) : p.add j = ⟨p.block, p.off + j, none⟩ := by unfold Addr.add; rw [if_neg h]
theorem add_zero (p : Addr) : p.add 0 = p := by unfold Addr.add; simp
theorem lt_of_heap {w : World} {b : Nat} {o : Obj} (h : w.heap[b]? = some o) : b < w.heap.size := by
  rcases Nat.lt_or_ge b w.heap.size with h0 | h0
  · exact h0
  · simp [Array.getElem?_eq_none h0] at h

theorem grown_refl (w : World) (row : Option Nat) : w.grownBy w row := ⟨rfl, rfl, rfl, Nat.le_refl _, fun _ _ _ => rfl⟩
/-- A list in memory, wherever it begins. -/
def Row (E : Ek α) (W : World) (v : Value) (l : List α) : Prop :=
  (l = [] ∧ v = .slice none 0 0) ∨ ∃ (a : Addr) (cap : Nat), v = .slice (some a) l.length cap ∧ l.length ≤ cap ∧ cap ≤ maxLen ∧ ∀ j u, (flat E l)[j]? = some u → W.cell? (a.add j) = some u
theorem Row.on {W W' : World} {v : Value} {l : List α} (h : Row E W v l) (hb : Below W.heap.size W W') : Row E W' v l := by
  rcases h with h | ⟨a, cap, h1, h2, h3, h5⟩
  · exact Or.inl h
  · exact Or.inr ⟨a, cap, h1, h2, h3, fun j u hj => by
      have hc := h5 j u hj
      rw [hb.cell (World.block_lt_of_cell? W _ hc)]; exact hc⟩
theorem Row.len {W : World} {v : Value} {l : List α} (h : Row E W v l) : ∃ ao cap, v = .slice ao l.length cap := by
  rcases h with ⟨rfl, rfl⟩ | ⟨a, cap, rfl, _⟩
  · exact ⟨none, 0, rfl⟩
  · exact ⟨_, cap, rfl⟩
theorem Row.most {W : World} {v : Value} {l : List α} (h : Row E W v l) : l.length ≤ maxLen := by
  rcases h with ⟨rfl, rfl⟩ | ⟨a, cap, rfl, h1, h2, _⟩
  · exact Nat.zero_le _
  · omega
theorem row_nil (W : World) : Row E W (.slice none 0 0) ([] : List α) := Or.inl ⟨rfl, rfl⟩
theorem row_empty (W : World) (a : Addr) (c : Nat) (hc : c ≤ maxLen) : Row E W (.slice (some a) 0 c) ([] : List α) := Or.inr ⟨a, c, rfl, Nat.zero_le _, hc, fun j u hj => by simp [flat] at hj⟩
/-- A list in memory of one's own. -/
abbrev Own (E : Ek α) (W : World) (B : Nat) (v : Value) (l : List α) : Prop := W.ownsRow B E.t E.n v l.length (flat E l)
theorem Row.of_own {W : World} {B : Nat} {v : Value} {l : List α} (h : Own E W B v l) : Row E W v l := by
  rcases h.2 with ⟨h1, h2⟩ | ⟨g, cap, cur, h1, h2, h3, h4, h5, h6, h7⟩
  · exact Or.inl ⟨List.eq_nil_of_length_eq_zero h2, h1⟩
  · exact Or.inr ⟨⟨g, 0, none⟩, cap, h1, h4, h5, fun j u hj => h.cells (g := g) (by rw [h1]; rfl) j u hj⟩
theorem own_on {W W' : World} {B k : Nat} {e : TypeId} {v : Value} {n : Nat} {xs : List Value} (h : W.ownsRow B e k v n xs) (hb : Below W.heap.size W W') : W'.ownsRow B e k v n xs := by
  refine ⟨h.1, ?_⟩
  rcases h.2 with h2 | ⟨g, cap, cur, h1, h2, h3, h4⟩
  · exact Or.inl h2
  · exact Or.inr ⟨g, cap, cur, h1, h2, by rw [hb.block _ (lt_of_heap h3)]; exact h3, h4⟩
theorem own_less {W : World} {B B' k : Nat} {e : TypeId} {v : Value} {n : Nat} {xs : List Value} (hB : B' ≤ B) (h : W.ownsRow B e k v n xs) : W.ownsRow B' e k v n xs := by
  refine ⟨h.1, ?_⟩
  rcases h.2 with h2 | ⟨g, cap, cur, h1, h2, h3⟩
  · exact Or.inl h2
  · exact Or.inr ⟨g, cap, cur, h1, Nat.le_trans hB h2, h3⟩
theorem own_nil (W : World) (B : Nat) : Own E W B (.slice none 0 0) ([] : List α) := World.ownsRow_nil _ _ _ _
theorem index_run (K : E.Ok) (a : Addr) (m len cap : Nat) (h : m < len) (w : World) : (Instr.indexAt E.ts (.slice (some a) len cap) (.int .i64 m)).run Tryz.prog w = .ok (.pointer (some (a.add (m * E.n)))) w := by
  have h1 : (m : Int) < len := by omega
  obtain ⟨i, i1, i2, i3, i4⟩ := K.info
  simp [go_sem, K.hu, sizeOf, typeInfo, h1, i1, i3]
theorem index_own (K : E.Ok) (g m len cap : Nat) (h : m < len) (w : World) : (Instr.indexAt E.ts (.slice (some ⟨g, 0, none⟩) len cap) (.int .i64 m)).run Tryz.prog w = .ok (.pointer (some ⟨g, m * E.n, none⟩)) w := by
  rw [index_run K ⟨g, 0, none⟩ m len cap h w, add_own]
/-- Where an element lies, and its cells, in this world and every later one. -/
theorem row_el (K : E.Ok) {W : World} {v : Value} {l : List α} {ao : Option Addr} {n c k : Nat} {x : α} (h : Row E W v l) (hv : v = .slice ao n c) (hn : l.length = n) (hk : l[k]? = some x) :
    ∃ p : Addr, (∀ w, (Instr.indexAt E.ts (.slice ao n c) (.int .i64 k)).run Tryz.prog w = .ok (.pointer (some p)) w) ∧ p.block < W.heap.size ∧ ∀ w, Below W.heap.size W w → ∀ j u, (E.cells x)[j]? = some u → w.cell? (p.add j) = some u := by
  have hlt := (List.getElem?_eq_some_iff.1 hk).1
  rcases h with ⟨rfl, _⟩ | ⟨a, cap, h1, h2, h3, h4⟩
  · simp at hk
  · rw [hv] at h1
    obtain ⟨rfl, rfl, rfl⟩ : ao = some a ∧ n = l.length ∧ c = cap := by simpa using h1
    have g : ∀ j u, (E.cells x)[j]? = some u → W.cell? ((a.add (k * E.n)).add j) = some u := fun j u hj => by
      have hjn : j < E.n := by have := (List.getElem?_eq_some_iff.1 hj).1; rw [K.len] at this; exact this
      rw [add_add]
      exact h4 _ u ((flat_at K l k x hk j hjn).trans hj)
    have hp := K.pos
    have hb : (a.add (k * E.n)).block < W.heap.size := by
      obtain ⟨u, hu⟩ : ∃ u, (E.cells x)[0]? = some u := ⟨_, List.getElem?_eq_getElem (by rw [K.len]; exact hp)⟩
      have := World.block_lt_of_cell? W _ (g 0 u hu)
      rwa [add_zero] at this
    exact ⟨a.add (k * E.n), fun w => index_run K a k _ _ hlt w, hb, fun w hw j u hj => by
      rw [hw.cell (by rw [add_block]; exact hb)]
      exact g j u hj⟩
theorem slice_lo (K : E.Ok) (a : Addr) (k len cap : Nat) (h : k ≤ cap) (w : World) : (Instr.sliceAt E.ts (.slice (some a) len cap) none (some (.int .i64 k)) none).run Tryz.prog w = .ok (.slice (some a) k cap) w := by
  have h1 : (k : Int) ≤ cap := by omega
  obtain ⟨i, i1, i2, i3, i4⟩ := K.info
  simp [go_sem, K.hu, sizeOf, typeInfo, h1, i1, i3]
theorem slice_hi (K : E.Ok) (a : Addr) (k len cap : Nat) (h : k ≤ len) (w : World) : (Instr.sliceAt E.ts (.slice (some a) len cap) (some (.int .i64 k)) none none).run Tryz.prog w = .ok (.slice (some (if cap = k then a else a.add (k * E.n))) (len - k) (cap - k)) w := by
  have h1 : (k : Int) ≤ len := by omega
  obtain ⟨i, i1, i2, i3, i4⟩ := K.info
  by_cases he : cap = k
  · subst he
    simp [go_sem, K.hu, sizeOf, typeInfo, h1, i1, i3]
  · simp [go_sem, K.hu, sizeOf, typeInfo, h1, he, i1, i3]
theorem row_lo (K : E.Ok) {W : World} {v : Value} {l : List α} (h : Row E W v l) (k : Nat) (hk : k ≤ l.length) : ∃ lo, (∀ w, (Instr.sliceAt E.ts v none (some (.int .i64 k)) none).run Tryz.prog w = .ok lo w) ∧ Row E W lo (l.take k) := by
  rcases h with ⟨rfl, rfl⟩ | ⟨a, cap, rfl, h2, h3, h4⟩
  · obtain rfl : k = 0 := by simpa using hk
    obtain ⟨i, i1, i2, i3, i4⟩ := K.info
    exact ⟨.slice none 0 0, fun w => by simp [go_sem, K.hu, sizeOf, typeInfo, i1], Or.inl ⟨rfl, rfl⟩⟩
  · refine ⟨_, slice_lo K a k _ _ (by omega), Or.inr ⟨a, cap, by rw [List.length_take, Nat.min_eq_left hk], by simp; omega, h3, fun j u hj => h4 j u ?_⟩⟩
    conv => lhs; rw [← List.take_append_drop k l, flat_append]
    exact List.getElem?_append_left (List.getElem?_eq_some_iff.1 hj).1 ▸ hj
theorem row_hi (K : E.Ok) {W : World} {v : Value} {l : List α} (h : Row E W v l) (k : Nat) (hk : k ≤ l.length) : ∃ hi, (∀ w, (Instr.sliceAt E.ts v (some (.int .i64 k)) none none).run Tryz.prog w = .ok hi w) ∧ Row E W hi (l.drop k) := by
  rcases h with ⟨rfl, rfl⟩ | ⟨a, cap, rfl, h2, h3, h4⟩
  · obtain rfl : k = 0 := by simpa using hk
    obtain ⟨i, i1, i2, i3, i4⟩ := K.info
    exact ⟨.slice none 0 0, fun w => by simp [go_sem, K.hu, sizeOf, typeInfo, i1], Or.inl ⟨rfl, rfl⟩⟩
  · refine ⟨_, slice_hi K a k _ _ hk, Or.inr ⟨_, cap - k, by rw [List.length_drop], by rw [List.length_drop]; omega, by omega, fun j u hj => ?_⟩⟩
    have hlt := (List.getElem?_eq_some_iff.1 hj).1
    have hne : (l.drop k) ≠ [] := by rintro e; rw [e] at hlt; simp [flat] at hlt
    have hlk : k < l.length := by
      rcases Nat.lt_or_ge k l.length with h0 | h0
      · exact h0
      · exact absurd (List.drop_eq_nil_of_le h0) hne
    rw [if_neg (by omega), add_add]
    refine h4 _ u ?_
    conv => lhs; rw [← List.take_append_drop k l, flat_append]
    rw [List.getElem?_append_right (by rw [flat_length K, List.length_take, Nat.min_eq_left hk]; omega), flat_length K, List.length_take, Nat.min_eq_left hk, show k * E.n + j - k * E.n = j by omega]
    exact hj
/-- The end of a list cut off, where its room is its own. -/
theorem row_take (K : E.Ok) {W : World} {a : Addr} {n cap k : Nat} {l : List α} (h : Row E W (.slice (some a) n cap) l) (hk : k ≤ l.length) : Row E W (.slice (some a) k cap) (l.take k) := by
  have _ := K
  rcases h with ⟨_, h⟩ | ⟨a', cap', h1, h2, h3, h4⟩
  · cases h
  · obtain ⟨rfl, rfl, rfl⟩ : a = a' ∧ n = l.length ∧ cap = cap' := by simpa using h1
    refine Or.inr ⟨a, cap, by simp; omega, by simp; omega, h3, fun j u hj => h4 j u ?_⟩
    conv => lhs; rw [← List.take_append_drop k l, flat_append]
    rw [List.getElem?_append_left (List.getElem?_eq_some_iff.1 hj).1]
    exact hj
/-- An append of a list onto a row of one's own. -/
theorem app_row (K : E.Ok) {w : World} (B : Nat) {v x : Value} {l m : List α} (hown : Own E w B v l) (hx : Row E w x m) (hn : l.length ≤ 1000) (hm : m.length ≤ 1000) (hB : B ≤ w.heap.size) (ty : TypeId) :
    ∃ v' w', (Builtin.append_ #[E.ts, E.ts] ty #[v, x]).run Tryz.prog w = .ok v' w' ∧ Own E w' B v' (l ++ m) ∧ w.grownBy w' v.ownBlock := by
  obtain ⟨i, i1, i2, i3, i4⟩ := K.info
  rcases hx with ⟨rfl, rfl⟩ | ⟨ad, c, rfl, h2, h3, h4⟩
  · exact ⟨v, w, run_append_owned_none (P := Tryz.prog) (w := w) B E.ts ty E.t i E.n K.hu i1 v _ _ hown, by simpa using hown, grown_refl _ _⟩
  · have hf := K.few
    obtain ⟨v', w', r1, r2, r3, _⟩ := run_append_own (P := Tryz.prog) w B E.ts ty E.t i E.z E.n E.bytes K.hu i1 i2 i3 i4 K.zs K.pos v _ _ hown ad m.length c (flat E m) (flat_length K m) h4 (flat_cell K m) (by unfold maxLen; omega)
      (Nat.le_trans (Nat.mul_le_mul (show l.length + m.length ≤ 2000 by omega) hf) (by decide)) hB
    exact ⟨v', w', r1, by rw [Own, List.length_append, flat_append]; exact r2, r3⟩
theorem make_own (K : E.Ok) (w : World) (B c : Nat) (hc : c ≤ 1000) (hB : B ≤ w.heap.size) :
    ∃ w', (Instr.makeSlice E.ts (.int .i64 0) (.int .i64 (c : Int))).run Tryz.prog w = .ok (.slice (some ⟨w.heap.size, 0, none⟩) 0 c) w' ∧ Own E w' B (.slice (some ⟨w.heap.size, 0, none⟩) 0 c) ([] : List α) ∧ w.grownBy w' none := by
  obtain ⟨i, i1, i2, i3, i4⟩ := K.info
  have hf := K.few
  exact run_make_own (P := Tryz.prog) w B E.ts E.t i E.z E.n K.hu i1 i2 i3 .i64 .i64 c (by rw [i4]; exact Nat.le_trans (Nat.mul_le_mul hf hc) (by decide)) (by unfold maxLen; omega) hB
/-- A literal's row, made by cells. -/
theorem row_lit (K : E.Ok) (w : World) (l : List α) (n : Nat) (hn : n = l.length) (hl : l.length ≤ 1000) (cs : Array Value) (hcs : cs.toList = flat E l) : Own E (w.alloc (.cells cs E.t)) w.heap.size (.slice (some ⟨w.heap.size, 0, none⟩) n n) l := by
  subst hn
  have hsz : cs.size = l.length * E.n := by rw [← flat_length K, ← hcs, Array.length_toList]
  refine ⟨flat_length K l, Or.inr ⟨w.heap.size, l.length, cs, rfl, Nat.le_refl _, ?_, Nat.le_refl _, by unfold maxLen; omega, hsz, ?_⟩⟩
  · show (w.heap.push _)[w.heap.size]? = _
    simp
  · rw [← hcs, List.take_of_length_le (by rw [Array.length_toList, hsz]; exact Nat.le_refl _)]
theorem own_made (w : World) : Own E (w.alloc (.cells #[] E.t)) w.heap.size (.slice (some ⟨w.heap.size, 0, none⟩) 0 0) ([] : List α) := by
  have h := World.ownsRow_made (base := w.heap.size) (e := E.t) (size := E.n) w #[] 0 (Nat.le_refl _) (by decide) (by simp)
  simpa [Own, flat] using h
/-- Block b holds just these cells. -/
def Box (W : World) (b : Nat) (cs : Array Value) (t : TypeId) : Prop := W.heap[b]? = some (.cells cs t (0, 0))
theorem Box.cell {W : World} {b : Nat} {cs : Array Value} {t : TypeId} (h : Box W b cs t) (k : Nat) : W.cell? ⟨b, k, none⟩ = cs[k]? := by
  unfold Box at h
  simp [World.cell?, h]
theorem Box.fr {W : World} {b : Nat} {cs : Array Value} {t : TypeId} (h : Box W b cs t) (k : Nat) : W.frozen? ⟨b, k, none⟩ = false := by
  unfold Box at h
  simp [World.frozen?, h]
theorem Box.lt {W : World} {b : Nat} {cs : Array Value} {t : TypeId} (h : Box W b cs t) : b < W.heap.size := lt_of_heap h
theorem Box.on {W W' : World} {b : Nat} {cs : Array Value} {t : TypeId} (h : Box W b cs t) (hb : Below W.heap.size W W') : Box W' b cs t := by
  have hl := h.lt
  unfold Box at *
  rw [hb.block _ hl]; exact h
theorem Box.more {W : World} {b : Nat} {cs : Array Value} {t : TypeId} (h : Box W b cs t) (o : Obj) : Box (W.alloc o) b cs t := h.on ((Below.refl _ _).alloc (Nat.le_refl _) _)
theorem box_new (W : World) (cs : Array Value) (t : TypeId) : Box (W.alloc (.cells cs t)) W.heap.size cs t := by
  unfold Box
  show (W.heap.push _)[W.heap.size]? = _
  simp
/-- An append, met by its run. -/
theorem wpList_append_run {P : Program} {ops : Array Oper} {rest : List Oper} {o : Oper} {a : Act} {Q : Exit → Act → World → Prop} {w w' : World} (hgd : o.guard = none) (s x : Operand) (t : TypeId)
    (ho : o.op = .call { callee := .builtin .append, args := #[s, x], argTypes := #[t, t] }) {v xv v' : Value} (hs : a.eval s = v) (hx : a.eval x = xv) (hr : (Builtin.append_ #[t, t] o.type #[v, xv]).run P w = .ok v' w')
    (h : wpList P ops Q rest (a.put o.dst v') w') : wpList P ops Q (o :: rest) a w := by
  refine wpList_plain hgd fun K hK => ?_
  unfold Oper.wp execOp
  simp only [ho, resolve, invoke, builtin, Sem.run_bind, Sem.run_pure, Result.andThen_ok, List.map_toArray, List.map_cons, List.map_nil, hs, hx, hr]
  exact hK _ _ h
/-- A copy, met by its run. -/
theorem wpList_copy_run {P : Program} {ops : Array Oper} {rest : List Oper} {o : Oper} {a : Act} {Q : Exit → Act → World → Prop} {w w' : World} (hgd : o.guard = none) (s x : Operand) (t : TypeId)
    (ho : o.op = .call { callee := .builtin .copy, args := #[s, x], argTypes := #[t, t] }) {v xv v' : Value} (hs : a.eval s = v) (hx : a.eval x = xv) (hr : (Builtin.copy_ #[t, t] o.type #[v, xv]).run P w = .ok v' w')
    (h : wpList P ops Q rest (a.put o.dst v') w') : wpList P ops Q (o :: rest) a w := by
  refine wpList_plain hgd fun K hK => ?_
  unfold Oper.wp execOp
  simp only [ho, resolve, invoke, builtin, Sem.run_bind, Sem.run_pure, Result.andThen_ok, List.map_toArray, List.map_cons, List.map_nil, hs, hx, hr]
  exact hK _ _ h
/-- Parts of a function's code. -/
def afterN : Nat → Code → Code
  | 0, c => c
  | k + 1, .seq _ b => afterN k b
  | _, c => c
def headN (k : Nat) (c : Code) : Code := match afterN k c with
  | .seq a _ => a
  | c => c
def findBlock (k : Nat) : Code → Option Code
  | .block id c => if id = k then some (.block id c) else findBlock k c
  | .seq a b => match findBlock k a with
    | some c => some c
    | none => findBlock k b
  | .cond _ a b => match findBlock k a with
    | some c => some c
    | none => findBlock k b
  | .loop c => findBlock k c
  | .scope c => findBlock k c
  | _ => none
def findRegion (k : Nat) : Code → Option Code
  | .region id ops d => if id = k then some (.region id ops d) else none
  | .seq a b => match findRegion k a with
    | some c => some c
    | none => findRegion k b
  | .cond _ a b => match findRegion k a with
    | some c => some c
    | none => findRegion k b
  | .block _ c => findRegion k c
  | .loop c => findRegion k c
  | .scope c => findRegion k c
  | _ => none
end Go.Proofs.YtonoadjmglkhaaaGreat.Rw

namespace Go.Proofs.YtonoadjmglkhaaaGreat.Nm
open Go.RowKit Go.Proofs.YtonoadjmglkhaaaGreat Go.Proofs.YtonoadjmglkhaaaGreat.Rw

def EI : Ek Int := ⟨3, 23, 1, 8, .int .i64 0, fun n => .int .i64 n, fun n => [.int .i64 n]⟩
theorem infoI0 : (Tryz.prog.info? 3).map (fun i => (i.zero, i.size, i.bytes)) = some (some (.int .i64 0), 1, 8) := by kernel_rfl
theorem okI : EI.Ok where
  hu := Tryz.underlying23
  info := by
    have h := infoI0
    cases hi : Tryz.prog.info? 3 with
    | none => rw [hi] at h; cases h
    | some i =>
      rw [hi] at h
      simp only [Option.map_some, Option.some.injEq, Prod.mk.injEq] at h
      exact ⟨i, hi, h.1, h.2.1, h.2.2⟩
  zs := rfl
  len := fun _ => rfl
  one := fun x u hu => by
    simp only [EI, List.mem_cons, List.not_mem_nil, or_false] at hu
    rw [hu]
    rfl
  pos := by decide
  few := by decide
  load := fun w p x h => by
    have h0 := h 0 _ rfl
    rw [add_zero] at h0
    show (Instr.loadAt 3 (.pointer (some p))).run Tryz.prog w = .ok (.int .i64 x) w
    simp [go_sem, h0]
abbrev RowI (W : World) (v : Value) (l : List Int) : Prop := Row EI W v l
abbrev OwnI (W : World) (B : Nat) (v : Value) (l : List Int) : Prop := Own EI W B v l
theorem elI {W : World} {v : Value} {l : List Int} {ao : Option Addr} {n c k : Nat} {x : Int} (h : RowI W v l) (hv : v = .slice ao n c) (hn : l.length = n) (hk : l[k]? = some x) :
    ∃ p : Addr, (∀ w, (Instr.indexAt 23 (.slice ao n c) (.int .i64 k)).run Tryz.prog w = .ok (.pointer (some p)) w) ∧ p.block < W.heap.size ∧ ∀ w, Below W.heap.size W w → w.cell? p = some (.int .i64 x) := by
  obtain ⟨p, h1, h3, h2⟩ := row_el okI h hv hn hk
  exact ⟨p, h1, h3, fun w hw => by
    have h0 := h2 w hw 0 _ rfl
    rwa [add_zero] at h0⟩
theorem appI {w : World} (B : Nat) {v x : Value} {l m : List Int} (hown : OwnI w B v l) (hx : RowI w x m) (hn : l.length ≤ 1000) (hm : m.length ≤ 1000) (hB : B ≤ w.heap.size) :
    ∃ v' w', (Builtin.append_ #[23, 23] 23 #[v, x]).run Tryz.prog w = .ok v' w' ∧ OwnI w' B v' (l ++ m) ∧ w.grownBy w' v.ownBlock := app_row okI B hown hx hn hm hB 23
theorem row_oneI (w : World) (c : Int) : RowI (w.alloc (.cells #[.int .i64 c] 3)) (.slice (some ⟨w.heap.size, 0, none⟩) 1 1) [c] :=
  Row.of_own (row_lit okI w [c] 1 rfl (by simp) _ rfl)
theorem own_oneI (w : World) (c : Int) : OwnI (w.alloc (.cells #[.int .i64 c] 3)) w.heap.size (.slice (some ⟨w.heap.size, 0, none⟩) 1 1) [c] := row_lit okI w [c] 1 rfl (by simp) _ rfl
theorem flatI : ∀ l : List Int, flat EI l = l.map (fun n => .int .i64 n)
  | [] => rfl
  | x :: r => by
    show EI.cells x ++ flat EI r = _
    rw [flatI r]
    rfl
end Go.Proofs.YtonoadjmglkhaaaGreat.Nm

namespace Go.Proofs.YtonoadjmglkhaaaGreat.VaP

/-- A text's bytes, each quote and backslash with a backslash ahead. -/
def esc : List UInt8 → List UInt8
  | [] => []
  | c :: r => if c = 34 ∨ c = 92 then 92 :: c :: esc r else c :: esc r
theorem esc_inj : ∀ (a b : List UInt8), esc a = esc b → a = b
  | [], [], _ => rfl
  | [], d :: s, h => by simp only [esc] at h; split at h <;> cases h
  | c :: r, [], h => by simp only [esc] at h; split at h <;> cases h
  | c :: r, d :: s, h => by
    simp only [esc] at h
    split at h <;> rename_i hc <;> split at h <;> rename_i hd
    · simp only [List.cons.injEq, true_and] at h
      rw [h.1, esc_inj r s h.2]
    · simp only [List.cons.injEq] at h
      exact absurd (Or.inr h.1.symm) hd
    · simp only [List.cons.injEq] at h
      exact absurd (Or.inr h.1) hc
    · simp only [List.cons.injEq] at h
      rw [h.1, esc_inj r s h.2]

theorem digit_val (a b : Nat) (ha : a < 10) (hb : b < 10) (h : UInt8.ofNat (48 + a) = UInt8.ofNat (48 + b)) : a = b := by
  have h2 := congrArg UInt8.toNat h
  simp at h2
  omega
theorem decDigits_ne (u : Nat) : Lib.decDigits u ≠ [] := by
  intro h
  have h2 := Lib.decDigits_length u
  rw [h] at h2
  have := Lib.nDigits_pos u
  simp at h2
  omega
theorem decDigits_inj (u : Nat) : ∀ v, Lib.decDigits u = Lib.decDigits v → u = v := by
  induction u using Nat.strongRecOn with
  | _ u ih =>
    intro v h
    rw [Lib.decDigits, Lib.decDigits.eq_1 v] at h
    by_cases hu : u < 10 <;> by_cases hv : v < 10
    · rw [dif_pos hu, dif_pos hv] at h
      exact digit_val u v hu hv (List.cons.inj h).1
    · rw [dif_pos hu, dif_neg hv] at h
      have h3 := congrArg List.length h
      have h4 := decDigits_ne (v / 10)
      simp at h3
      exact absurd h3 h4
    · rw [dif_neg hu, dif_pos hv] at h
      have h3 := congrArg List.length h
      have h4 := decDigits_ne (u / 10)
      simp at h3
      exact absurd h3 h4
    · rw [dif_neg hu, dif_neg hv] at h
      have h5 := List.append_inj' h rfl
      have h6 := ih (u / 10) (by omega) (v / 10) h5.1
      have h7 := digit_val (u % 10) (v % 10) (by omega) (by omega) (List.cons.inj h5.2).1
      omega
theorem decDigits_head (u : Nat) : ∀ c r, Lib.decDigits u = c :: r → c ≠ 45 ∧ c ≠ 34 := by
  induction u using Nat.strongRecOn with
  | _ u ih =>
    intro c r h
    rw [Lib.decDigits] at h
    by_cases hu : u < 10
    · rw [dif_pos hu] at h
      have e := (List.cons.inj h).1
      subst e
      constructor <;> intro h2 <;> (have h3 := congrArg UInt8.toNat h2; simp at h3; omega)
    · rw [dif_neg hu] at h
      cases hd : Lib.decDigits (u / 10) with
      | nil => exact absurd hd (decDigits_ne _)
      | cons c2 r2 =>
        rw [hd] at h
        have e := (List.cons.inj h).1
        subst e
        exact ih (u / 10) (by omega) _ _ hd
theorem itoa_inj (a b : Int) (h : Lib.itoa a = Lib.itoa b) : a = b := by
  unfold Lib.itoa at h
  split at h <;> rename_i ha <;> split at h <;> rename_i hb
  · have := decDigits_inj _ _ (List.cons.inj h).2
    omega
  · exact absurd rfl (decDigits_head _ _ _ h.symm).1
  · exact absurd rfl (decDigits_head _ _ _ h).1
  · have := decDigits_inj _ _ h
    omega
theorem itoa_head (a : Int) : ∀ c r, Lib.itoa a = c :: r → c ≠ 34 := by
  intro c r h
  unfold Lib.itoa at h
  split at h
  · have e := (List.cons.inj h).1
    subst e
    decide
  · exact (decDigits_head _ _ _ h).2
/-- What a value says. -/
def say (t : Bool) (n : Int) (s : List UInt8) : List UInt8 := if t then 34 :: (esc s ++ [34]) else Lib.itoa n
theorem say_ne (t : Bool) (n : Int) (s : List UInt8) : say t n s ≠ [] := by
  unfold say
  split
  · simp
  · unfold Lib.itoa; split
    · simp
    · exact decDigits_ne _
/-- Two right values that say the same are the same. -/
theorem say_inj (t1 t2 : Bool) (n1 n2 : Int) (s1 s2 : List UInt8) (h1 : if t1 then n1 = 0 else s1 = []) (h2 : if t2 then n2 = 0 else s2 = []) (h : say t1 n1 s1 = say t2 n2 s2) : t1 = t2 ∧ n1 = n2 ∧ s1 = s2 := by
  cases t1 <;> cases t2 <;> simp [say] at h h1 h2
  · exact ⟨rfl, itoa_inj _ _ h, by rw [h1, h2]⟩
  · exact absurd rfl (itoa_head _ _ _ h)
  · exact absurd rfl (itoa_head _ _ _ h.symm)
  · exact ⟨rfl, by rw [h1, h2], esc_inj _ _ h⟩

/-! ### the order of texts -/
theorem bl_irrefl : ∀ x : List UInt8, Op.bytesLess x x = false
  | [] => rfl
  | a :: x => by simp [Op.bytesLess, bl_irrefl x]
theorem bl_cons (a b : UInt8) (x y : List UInt8) : Op.bytesLess (a :: x) (b :: y) = true ↔ a.toNat < b.toNat ∨ (a.toNat = b.toNat ∧ Op.bytesLess x y = true) := by
  simp only [Op.bytesLess, Bool.or_eq_true, decide_eq_true_eq, Bool.and_eq_true, beq_iff_eq, UInt8.lt_iff_toNat_lt]
  constructor
  · rintro (h | ⟨h, k⟩)
    · exact Or.inl h
    · exact Or.inr ⟨by rw [h], k⟩
  · rintro (h | ⟨h, k⟩)
    · exact Or.inl h
    · exact Or.inr ⟨UInt8.toNat_inj.1 h, k⟩
theorem bl_trans : ∀ x y z : List UInt8, Op.bytesLess x y = true → Op.bytesLess y z = true → Op.bytesLess x z = true
  | _, [], _, h, _ => by cases ‹List UInt8› <;> simp [Op.bytesLess] at h
  | _, _ :: _, [], _, k => by simp [Op.bytesLess] at k
  | [], _ :: _, _ :: _, _, _ => rfl
  | a :: x, b :: y, c :: z, h, k => by
    rw [bl_cons] at h k ⊢
    rcases h with h | ⟨h, h2⟩ <;> rcases k with k | ⟨k, k2⟩
    · exact Or.inl (by omega)
    · exact Or.inl (by omega)
    · exact Or.inl (by omega)
    · exact Or.inr ⟨by omega, bl_trans x y z h2 k2⟩
theorem bl_total : ∀ x y : List UInt8, Op.bytesLess x y = true ∨ x = y ∨ Op.bytesLess y x = true
  | [], [] => Or.inr (Or.inl rfl)
  | [], _ :: _ => Or.inl rfl
  | _ :: _, [] => Or.inr (Or.inr rfl)
  | a :: x, b :: y => by
    rw [bl_cons, bl_cons]
    rcases Nat.lt_trichotomy a.toNat b.toNat with h | h | h
    · exact Or.inl (Or.inl h)
    · rcases bl_total x y with k | k | k
      · exact Or.inl (Or.inr ⟨h, k⟩)
      · exact Or.inr (Or.inl (by rw [k, UInt8.toNat_inj.1 h]))
      · exact Or.inr (Or.inr (Or.inr ⟨h.symm, k⟩))
    · exact Or.inr (Or.inr (Or.inl h))
theorem bl_asymm (x y : List UInt8) (h : Op.bytesLess x y = true) : Op.bytesLess y x = false := by
  cases k : Op.bytesLess y x
  · rfl
  · have := bl_trans x y x h k
    rw [bl_irrefl] at this
    cases this

/-- Is one value ahead of another one? -/
def lessV (t1 : Bool) (n1 : Int) (s1 : List UInt8) (t2 : Bool) (n2 : Int) (s2 : List UInt8) : Bool :=
  if t1 then t2 && Op.bytesLess s1 s2 else t2 || decide (n1 < n2)
theorem lessV_irrefl (t : Bool) (n : Int) (s : List UInt8) : lessV t n s t n s = false := by
  cases t <;> simp [lessV, bl_irrefl]
theorem lessV_asymm (t1 : Bool) (n1 : Int) (s1 : List UInt8) (t2 : Bool) (n2 : Int) (s2 : List UInt8) (h : lessV t1 n1 s1 t2 n2 s2 = true) : lessV t2 n2 s2 t1 n1 s1 = false := by
  cases t1 <;> cases t2 <;> simp [lessV] at h ⊢
  · omega
  · exact bl_asymm _ _ h
theorem lessV_trans (t1 : Bool) (n1 : Int) (s1 : List UInt8) (t2 : Bool) (n2 : Int) (s2 : List UInt8) (t3 : Bool) (n3 : Int) (s3 : List UInt8) (h : lessV t1 n1 s1 t2 n2 s2 = true) (k : lessV t2 n2 s2 t3 n3 s3 = true) : lessV t1 n1 s1 t3 n3 s3 = true := by
  cases t1 <;> cases t2 <;> cases t3 <;> simp [lessV] at h k ⊢
  · omega
  · exact bl_trans _ _ _ h k
/-- Of two right values that are not the same one is ahead. -/
theorem lessV_total (t1 t2 : Bool) (n1 n2 : Int) (s1 s2 : List UInt8) (h1 : if t1 then n1 = 0 else s1 = []) (h2 : if t2 then n2 = 0 else s2 = []) :
    lessV t1 n1 s1 t2 n2 s2 = true ∨ (t1 = t2 ∧ n1 = n2 ∧ s1 = s2) ∨ lessV t2 n2 s2 t1 n1 s1 = true := by
  cases t1 <;> cases t2 <;> simp [lessV] at h1 h2 ⊢
  · rcases Int.lt_trichotomy n1 n2 with h | h | h
    · exact Or.inl h
    · exact Or.inr (Or.inl ⟨h, by rw [h1, h2]⟩)
    · exact Or.inr (Or.inr h)
  · rcases bl_total s1 s2 with h | h | h
    · exact Or.inl h
    · exact Or.inr (Or.inl ⟨by rw [h1, h2], h⟩)
    · exact Or.inr (Or.inr h)
end Go.Proofs.YtonoadjmglkhaaaGreat.VaP
