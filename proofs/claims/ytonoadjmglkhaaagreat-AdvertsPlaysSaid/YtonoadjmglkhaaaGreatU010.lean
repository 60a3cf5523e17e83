/-
  texts, Value and the document's own RightValue, of the statements' packages. Condition: numbers of 64 bits.
  A list of numbers that came in, opened. No condition beyond its reading.
  Attributes of package api: as values, as cells, as lists in memory. No program's call in it.
-/
import Derived.Test.YtonoadjmglkhaaaGreatU009
import Derived.WalkLawsBesides
import Derived.IntWalk
import Derived.Test.YtonoadjmglkhaaaGreatProg
import Derived.WalkKit
import Derived.ChangeSlices
import Derived.ProofKit
import Derived.Lib.Hide
import Derived.Below
import Derived.Laws.AppendOwn
import Derived.Laws.OwnMore
import Derived.Deep.Slices
namespace Go.Proofs.YtonoadjmglkhaaaGreat.Va
open Go.RowKit

/-- A value, as the model has it. -/
abbrev vl (t : Bool) (n : Int) (s : ByteArray) : Value := .agg #[.bool t, .int .i64 n, .string s]
/-- May a value be? -/
def rightV (t : Bool) (n : Int) (s : ByteArray) : Bool := if t then decide (n = 0) && decide (s.size ≤ 12) else s.toList.isEmpty
theorem ret_val {a b : Value} (h : a = b) : Ending.returned a = .returned b := by rw [h]
theorem ret_bool {a b : Bool} (h : a = b) : Ending.returned (.bool a) = .returned (.bool b) := by rw [h]

/-- The texts of values. -/
def txts : Array Value := #[.string ⟨#[]⟩, .string ⟨#[120]⟩, .string ⟨#[120, 121]⟩, .string ⟨#[120, 121, 122]⟩, .string ⟨#[120, 122]⟩, .string ⟨#[121]⟩, .string ⟨#[121, 121]⟩]
def txtAt (r : Int) : ByteArray := [⟨#[]⟩, ⟨#[120]⟩, ⟨#[120, 121]⟩, ⟨#[120, 121, 122]⟩, ⟨#[120, 122]⟩, ⟨#[121]⟩, ⟨#[121, 121]⟩].getD r.toNat ⟨#[]⟩
theorem txts_at (r : Int) (h0 : 0 ≤ r) (h1 : r ≤ 6) : txts[r.toNat]? = some (.string (txtAt r)) := by
  obtain ⟨n, rfl⟩ := Int.eq_ofNat_of_zero_le h0
  have hn : n ≤ 6 := by omega
  match n, hn with
  | 0, _ => rfl
  | 1, _ => rfl
  | 2, _ => rfl
  | 3, _ => rfl
  | 4, _ => rfl
  | 5, _ => rfl
  | 6, _ => rfl
theorem texts_any (w : World) :
    Calls Tryz.prog 77 #[] w fun e w' => e = .returned (.slice (some ⟨w.heap.size, 0, none⟩) 7 7) ∧ w' = w.alloc (.cells txts 9) := by
  go_enter Tryz.func77, Tryz.ntmps77
  go_wp2
  go_ret
  exact ⟨rfl, rfl⟩

/-- Is the number even, as the program asks it? -/
def evn (n : Int) : Bool := bits BinOp.and IntKind.i64 n 1 == 0
def kvN (n : Int) : Int := if evn n then Wi.within (n.tdiv 2) 0 9 else 0
def kvS (n : Int) : ByteArray := if evn n then ⟨#[]⟩ else txtAt (Wi.within (n.tdiv 2) 0 6)
theorem half_bd (n : Int) (h1 : -9223372036854775808 ≤ n) (h2 : n ≤ 9223372036854775807) : -9223372036854775808 ≤ n.tdiv 2 ∧ n.tdiv 2 ≤ 9223372036854775807 := by
  have hs : Int.sign 2 = 1 := rfl
  rw [Int.tdiv_eq_ediv, hs]
  split <;> omega

theorem txt_size (r : Int) : (txtAt r).size ≤ 3 := by
  unfold txtAt
  rcases Nat.lt_or_ge r.toNat 7 with h | h
  · generalize r.toNat = n at h
    match n, h with
    | 0, _ => decide
    | 1, _ => decide
    | 2, _ => decide
    | 3, _ => decide
    | 4, _ => decide
    | 5, _ => decide
    | 6, _ => decide
  · rw [List.getD_eq_getElem?_getD, List.getElem?_eq_none (by simpa using h)]
    decide
theorem kvS_size (n : Int) : (kvS n).size ≤ 3 := by
  unfold kvS; split
  · decide
  · exact txt_size _
theorem kv_right (n : Int) : rightV (!(evn n)) (kvN n) (kvS n) = true := by
  have hs := kvS_size n
  cases h : evn n
  · have h0 : kvN n = 0 := by simp [kvN, h]
    simp [rightV, h0]; omega
  · have h0 : kvS n = ⟨#[]⟩ := by simp [kvS, h]
    rw [h0]; simp [rightV]
theorem right_iff {t : Bool} {n : Int} {s : ByteArray} (h : rightV t n s = true) : if t then n = 0 else s.toList = [] := by
  cases t
  · simpa [rightV] using h
  · simp [rightV] at h; simp [h.1]

theorem stoodV : Tryz.prog.stoodInHeld 188 = false := by kernel_rfl
/-- Are two values the same? -/
def eqlV (t1 : Bool) (n1 : Int) (s1 : ByteArray) (t2 : Bool) (n2 : Int) (s2 : ByteArray) : Bool := t1 == t2 && n1 == n2 && s1.toList == s2.toList
theorem eqlV_iff (t1 : Bool) (n1 : Int) (s1 : ByteArray) (t2 : Bool) (n2 : Int) (s2 : ByteArray) : eqlV t1 n1 s1 t2 n2 s2 = true ↔ t1 = t2 ∧ n1 = n2 ∧ s1.toList = s2.toList := by
  simp [eqlV, and_assoc]
set_option maxRecDepth 100000 in
theorem neqV (t1 : Bool) (n1 : Int) (s1 : ByteArray) (t2 : Bool) (n2 : Int) (s2 : ByteArray) (r : Bool) (hr : eqlV t1 n1 s1 t2 n2 s2 = r) (w : World) :
    (binOp .neq 188 (vl t1 n1 s1) (vl t2 n2 s2)).run Tryz.prog w = .ok (.bool (!r)) w := by
  have st := stoodV
  subst hr
  unfold eqlV
  by_cases h1 : t1 = t2 <;> by_cases h2 : n1 = n2 <;> by_cases h3 : s1.toList = s2.toList <;> simp [go_sem, Tryz.underlying188, Tryz.underlying4, Tryz.underlying3, Tryz.underlying9, st, h1, h2, h3]
set_option maxRecDepth 100000 in
theorem eqV (t1 : Bool) (n1 : Int) (s1 : ByteArray) (t2 : Bool) (n2 : Int) (s2 : ByteArray) (r : Bool) (hr : eqlV t1 n1 s1 t2 n2 s2 = r) (w : World) :
    (binOp .eql 188 (vl t1 n1 s1) (vl t2 n2 s2)).run Tryz.prog w = .ok (.bool r) w := by
  have st := stoodV
  subst hr
  unfold eqlV
  by_cases h1 : t1 = t2 <;> by_cases h2 : n1 = n2 <;> by_cases h3 : s1.toList = s2.toList <;> simp [go_sem, Tryz.underlying188, Tryz.underlying4, Tryz.underlying3, Tryz.underlying9, st, h1, h2, h3]

end Go.Proofs.YtonoadjmglkhaaaGreat.Va

namespace Go.Proofs.YtonoadjmglkhaaaGreat.In
open Go.RowKit Go.ChangeShapes Go.WideShapes

/-- A list of numbers that came in. -/
structure InInts (W : World) (nv : Value) (zs : List Int) : Prop where
  shape : ∃ ao cap, nv = .slice ao zs.length cap
  at_ : ∀ (i : Nat) (z : Int), zs[i]? = some z → (-9223372036854775808 ≤ z ∧ z ≤ 9223372036854775807) ∧ ∃ p : Addr, p.block < W.heap.size ∧ (∀ w, (Instr.indexAt 23 nv (.int .i64 i)).run Tryz.prog w = .ok (.pointer (some p)) w) ∧ W.cell? p = some (.int .i64 z)
theorem InInts.on {W W' : World} {nv : Value} {zs : List Int} (h : InInts W nv zs) (hb : Below W.heap.size W W') : InInts W' nv zs :=
  ⟨h.shape, fun i z hz => by
    obtain ⟨h1, p, h2, h3, h4⟩ := h.at_ i z hz
    exact ⟨h1, p, Nat.lt_of_lt_of_le h2 hb.size, h3, by rw [hb.cell h2]; exact h4⟩⟩
theorem lits_bd {n : Int} (h : (Lit.int .i64 n).wf = true) : -9223372036854775808 ≤ n ∧ n ≤ 9223372036854775807 := by
  have h2 : (decide (IntKind.i64.min ≤ n) && decide (n ≤ IntKind.i64.max)) = true := h
  rw [Bool.and_eq_true, decide_eq_true_eq, decide_eq_true_eq, show IntKind.i64.min = -9223372036854775808 by decide, show IntKind.i64.max = 9223372036854775807 by decide] at h2
  exact h2
theorem cellsI : Tryz.prog.cellsOf 3 = 1 := by kernel_rfl
theorem index_ints (a : Addr) (m len cap : Nat) (h : m < len) (w : World) : (Instr.indexAt 23 (.slice (some a) len cap) (.int .i64 m)).run Tryz.prog w = .ok (.pointer (some (a.add m))) w := by
  have h1 : (m : Int) < len := by omega
  simp [go_sem, Tryz.underlying23, h1]
set_option maxRecDepth 100000 in
/-- Out of the row's reading, at a field or a parameter. -/
theorem in_trod {H : Type} {enc : TypeId × Value → H} {W : World} {sp : Nat → Bool} {held : Bool} {fuel : Nat} {v : Value} {x : DataW H × List MemPlace}
    (hf : DataW.trod enc Tryz.prog W 0 sp held fuel 23 [v] = some x) : ∃ zs, zs.length ≤ maxLen ∧ InInts W v zs := by
  rcases open_ints Tryz.underlying23 Tryz.underlying3 cellsI hf with ⟨h1, _⟩ | ⟨a', len', cap', zs, h1, _, h3, h4, h5, _, h7, h8⟩
  · have e : v = .slice none 0 0 := by simpa using h1
    rw [e]
    exact ⟨[], Nat.zero_le _, ⟨none, 0, rfl⟩, fun i z h => by simp at h⟩
  · have e : v = .slice (some a') len' cap' := by simpa using h1
    rw [e]
    have hle : len' ≤ zs.length := by rw [h5]; split <;> omega
    have hl : (zs.take len').length = len' := by simp; omega
    refine ⟨zs.take len', by omega, ⟨some a', cap', by rw [hl]⟩, fun i z hz => ?_⟩
    obtain ⟨hi, hzi⟩ := List.getElem?_eq_some_iff.1 hz
    have hi2 : i < len' := by omega
    have hz2 : zs[i]'(by omega) = z := by simpa using hzi
    have hc := h7 i (by omega)
    have hg : zs.getD i 0 = z := by rw [← hz2]; simp [List.getD, show i < zs.length by omega]
    rw [hg] at hc
    exact ⟨lits_bd (h8 z (by rw [← hz2]; exact List.getElem_mem _)), a'.add i, World.block_lt_of_cell? W _ hc, fun w => index_ints a' i len' cap' hi2 w, hc⟩
set_option maxRecDepth 100000 in
theorem in_ints {H : Type} {enc : TypeId × Value → H} {W : World} {r : Reach} {b0 : Nat} {sp : Nat → Bool} {held : Bool} {v : Value} {d : DataW H} {ps : List MemPlace}
    (hval : Value.okWide Tryz.prog W r b0 23 v) (hd : DataW.Trod enc Tryz.prog W 0 sp held 23 v d ps) : ∃ zs, zs.length ≤ maxLen ∧ InInts W v zs := by
  obtain ⟨a, len, cap, rfl⟩ := okWide_slice Tryz.underlying23 hval
  obtain ⟨fuel, hf⟩ := hd
  exact in_trod (fuel := fuel) hf
end Go.Proofs.YtonoadjmglkhaaaGreat.In

namespace Go.Proofs.YtonoadjmglkhaaaGreat.At
open Go.RowKit Go.Proofs.YtonoadjmglkhaaaGreat.Va

/-- An attribute: its name; is its value a text, its number, its text. -/
abbrev A4 := ByteArray × Bool × Int × ByteArray
abbrev av (x : A4) : Value := .agg #[.string x.1, .bool x.2.1, .int .i64 x.2.2.1, .string x.2.2.2]
def cellsA (x : A4) : List Value := [.string x.1, .bool x.2.1, .int .i64 x.2.2.1, .string x.2.2.2]
def flatA : List A4 → List Value
  | [] => []
  | x :: r => .string x.1 :: .bool x.2.1 :: .int .i64 x.2.2.1 :: .string x.2.2.2 :: flatA r
theorem flatA_length : ∀ l, (flatA l).length = l.length * 4
  | [] => rfl
  | x :: r => by simp [flatA, flatA_length r]; omega
theorem flatA_append : ∀ a b, flatA (a ++ b) = flatA a ++ flatA b
  | [], b => rfl
  | x :: r, b => by simp [flatA, flatA_append r b]
theorem flatA_one : ∀ l, ∀ u ∈ flatA l, u.oneCell' = true
  | [], u, h => by cases h
  | x :: r, u, h => by
    simp only [flatA, List.mem_cons] at h
    rcases h with rfl | rfl | rfl | rfl | h
    · rfl
    · rfl
    · rfl
    · rfl
    · exact flatA_one r u h
theorem flatA_at : ∀ (l : List A4) (m : Nat) (x : A4), l[m]? = some x → (flatA l)[m * 4]? = some (.string x.1) ∧ (flatA l)[m * 4 + 1]? = some (.bool x.2.1) ∧ (flatA l)[m * 4 + 2]? = some (.int .i64 x.2.2.1) ∧ (flatA l)[m * 4 + 3]? = some (.string x.2.2.2)
  | [], m, x, h => by simp at h
  | y :: r, 0, x, h => by
    simp at h
    subst h
    exact ⟨rfl, rfl, rfl, rfl⟩
  | y :: r, m + 1, x, h => by
    have h2 := flatA_at r m x (by simpa using h)
    rw [show (m + 1) * 4 = m * 4 + 1 + 1 + 1 + 1 by omega, show m * 4 + 1 + 1 + 1 + 1 + 2 = m * 4 + 2 + 1 + 1 + 1 + 1 by omega, show m * 4 + 1 + 1 + 1 + 1 + 3 = m * 4 + 3 + 1 + 1 + 1 + 1 by omega]
    exact h2
theorem add_add (a : Addr) (i j : Nat) : (a.add i).add j = a.add (i + j) := by
  unfold Addr.add
  by_cases hi : i = 0 <;> by_cases hj : j = 0 <;> simp [hi, hj, Nat.add_assoc]

/-- A list of attributes in memory, wherever it begins. -/
def RowA (W : World) (lv : Value) (l : List A4) : Prop :=
  (l = [] ∧ lv = .slice none 0 0) ∨ ∃ (a : Addr) (cap : Nat), lv = .slice (some a) l.length cap ∧ l.length ≤ cap ∧ cap ≤ maxLen ∧ ∀ j u, (flatA l)[j]? = some u → W.cell? (a.add j) = some u
theorem RowA.on {W W' : World} {lv : Value} {l : List A4} (h : RowA W lv l) (hb : Below W.heap.size W W') : RowA W' lv l := by
  rcases h with h | ⟨a, cap, h1, h2, h3, h5⟩
  · exact Or.inl h
  · exact Or.inr ⟨a, cap, h1, h2, h3, fun j u hj => by
      have hc := h5 j u hj
      rw [hb.cell (World.block_lt_of_cell? W _ hc)]; exact hc⟩
theorem RowA.len {W : World} {lv : Value} {l : List A4} (h : RowA W lv l) : ∃ ao cap, lv = .slice ao l.length cap := by
  rcases h with ⟨rfl, rfl⟩ | ⟨a, cap, rfl, _⟩
  · exact ⟨none, 0, rfl⟩
  · exact ⟨_, cap, rfl⟩
theorem lt_of_heap {w : World} {b : Nat} {o : Obj} (h : w.heap[b]? = some o) : b < w.heap.size := by
  rcases Nat.lt_or_ge b w.heap.size with h0 | h0
  · exact h0
  · simp [Array.getElem?_eq_none h0] at h
theorem RowA.of_owns {W : World} {B : Nat} {lv : Value} {l : List A4} (h : W.ownsRow B 190 4 lv l.length (flatA l)) : RowA W lv l := by
  rcases h.2 with ⟨h1, h2⟩ | ⟨g, cap, cur, h1, h2, h3, h4, h5, h6, h7⟩
  · exact Or.inl ⟨List.eq_nil_of_length_eq_zero h2, h1⟩
  · exact Or.inr ⟨⟨g, 0, none⟩, cap, h1, h4, h5, fun j u hj => h.cells (g := g) (by rw [h1]; rfl) j u hj⟩
theorem index_runA (a : Addr) (m len cap : Nat) (h : m < len) (w : World) : (Instr.indexAt 111 (.slice (some a) len cap) (.int .i64 m)).run Tryz.prog w = .ok (.pointer (some (a.add (m * 4)))) w := by
  have h1 : (m : Int) < len := by omega
  simp [go_sem, Tryz.underlying111, h1]
theorem load_runA (w : World) (p : Addr) (x : A4) (h : ∀ j u, (cellsA x)[j]? = some u → w.cell? (p.add j) = some u) : (Instr.loadAt 190 (.pointer (some p))).run Tryz.prog w = .ok (av x) w := by
  have h0 := h 0 _ rfl
  have h1 := h 1 _ rfl
  have h2 := h 2 _ rfl
  have h3 := h 3 _ rfl
  simp [Addr.add] at h0 h1 h2 h3
  simp [go_sem, h0, h1, h2, h3]

theorem stoodA : Tryz.prog.stoodInHeld 190 = false := by kernel_rfl
/-- Are two attributes the same? -/
def eqlA (x y : A4) : Bool := x.1.toList == y.1.toList && (x.2.1 == y.2.1 && x.2.2.1 == y.2.2.1 && x.2.2.2.toList == y.2.2.2.toList)
set_option maxRecDepth 100000 in
theorem neqA (x y : A4) (r : Bool) (hr : eqlA x y = r) (w : World) : (binOp .neq 190 (av x) (av y)).run Tryz.prog w = .ok (.bool (!r)) w := by
  have st := stoodA
  subst hr
  obtain ⟨a, b, c, d⟩ := x
  obtain ⟨a', b', c', d'⟩ := y
  unfold eqlA
  by_cases h1 : a.toList = a'.toList <;> by_cases h2 : b = b' <;> by_cases h3 : c = c' <;> by_cases h4 : d.toList = d'.toList <;> simp [go_sem, Tryz.underlying190, Tryz.underlying188, Tryz.underlying4, Tryz.underlying3, Tryz.underlying9, st, h1, h2, h3, h4]
end Go.Proofs.YtonoadjmglkhaaaGreat.At
