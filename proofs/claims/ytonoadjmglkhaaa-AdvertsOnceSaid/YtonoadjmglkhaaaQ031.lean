/-
  Attributes of package api: as values, as cells, as lists in memory. No program's call in it.
  Names, pick, Tuple of the statements' own packages. Condition: numbers of 64 bits; lists no longer than a machine holds.
-/
import Derived.Test.YtonoadjmglkhaaaQ030
import Derived.Laws.AppendOwn
import Derived.Laws.OwnMore
import Derived.Deep.Slices
import Derived.WalkKit
import Derived.Maps.AppendAt
namespace Go.Proofs.Ytonoadjmglkhaaa.At
open Go.RowKit Go.Proofs.Ytonoadjmglkhaaa.Va

/-- An attribute: its name; is its value a text, its number, its text. -/
abbrev A4 := ByteArray × Bool × Int × ByteArray
abbrev av (x : A4) : Value := .agg #[.string x.1, .bool x.2.1, .int .i64 x.2.2.1, .string x.2.2.2]
def cellsA (x : A4) : List Value := [.string x.1, .bool x.2.1, .int .i64 x.2.2.1, .string x.2.2.2]
def flatA : List A4 → List Value
  | [] => []
  | x :: r => .string x.1 :: .bool x.2.1 :: .int .i64 x.2.2.1 :: .string x.2.2.2 :: flatA r
theorem flatA_length : ∀ l, (flatA l).length = l.length * 4
  | [] => rfl
  | x :: r => by simp [flatA, flatA_length r]; omega
theorem flatA_append : ∀ a b, flatA (a ++ b) = flatA a ++ flatA b
  | [], b => rfl
  | x :: r, b => by simp [flatA, flatA_append r b]
theorem flatA_one : ∀ l, ∀ u ∈ flatA l, u.oneCell' = true
  | [], u, h => by cases h
  | x :: r, u, h => by
    simp only [flatA, List.mem_cons] at h
    rcases h with rfl | rfl | rfl | rfl | h
    · rfl
    · rfl
    · rfl
    · rfl
    · exact flatA_one r u h
theorem flatA_at : ∀ (l : List A4) (m : Nat) (x : A4), l[m]? = some x → (flatA l)[m * 4]? = some (.string x.1) ∧ (flatA l)[m * 4 + 1]? = some (.bool x.2.1) ∧ (flatA l)[m * 4 + 2]? = some (.int .i64 x.2.2.1) ∧ (flatA l)[m * 4 + 3]? = some (.string x.2.2.2)
  | [], m, x, h => by simp at h
  | y :: r, 0, x, h => by
    simp at h
    subst h
    exact ⟨rfl, rfl, rfl, rfl⟩
  | y :: r, m + 1, x, h => by
    have h2 := flatA_at r m x (by simpa using h)
    rw [show (m + 1) * 4 = m * 4 + 1 + 1 + 1 + 1 by omega, show m * 4 + 1 + 1 + 1 + 1 + 2 = m * 4 + 2 + 1 + 1 + 1 + 1 by omega, show m * 4 + 1 + 1 + 1 + 1 + 3 = m * 4 + 3 + 1 + 1 + 1 + 1 by omega]
    exact h2
theorem add_add (a : Addr) (i j : Nat) : (a.add i).add j = a.add (i + j) := by
  unfold Addr.add
  by_cases hi : i = 0 <;> by_cases hj : j = 0 <;> simp [hi, hj, Nat.add_assoc]

/-- A list of attributes in memory, wherever it begins. -/
def RowA (W : World) (lv : Value) (l : List A4) : Prop :=
  (l = [] ∧ lv = .slice none 0 0) ∨ ∃ (a : Addr) (cap : Nat), lv = .slice (some a) l.length cap ∧ l.length ≤ cap ∧ cap ≤ maxLen ∧ ∀ j u, (flatA l)[j]? = some u → W.cell? (a.add j) = some u
theorem RowA.on {W W' : World} {lv : Value} {l : List A4} (h : RowA W lv l) (hb : Below W.heap.size W W') : RowA W' lv l := by
  rcases h with h | ⟨a, cap, h1, h2, h3, h5⟩
  · exact Or.inl h
  · exact Or.inr ⟨a, cap, h1, h2, h3, fun j u hj => by
      have hc := h5 j u hj
      rw [hb.cell (World.block_lt_of_cell? W _ hc)]; exact hc⟩
theorem RowA.len {W : World} {lv : Value} {l : List A4} (h : RowA W lv l) : ∃ ao cap, lv = .slice ao l.length cap := by
  rcases h with ⟨rfl, rfl⟩ | ⟨a, cap, rfl, _⟩
  · exact ⟨none, 0, rfl⟩
  · exact ⟨_, cap, rfl⟩
theorem lt_of_heap {w : World} {b : Nat} {o : Obj} (h : w.heap[b]? = some o) : b < w.heap.size := by
  rcases Nat.lt_or_ge b w.heap.size with h0 | h0
  · exact h0
  · simp [Array.getElem?_eq_none h0] at h
/-- Are two attributes the same? -/
def eqlA (x y : A4) : Bool := x.1.toList == y.1.toList && (x.2.1 == y.2.1 && x.2.2.1 == y.2.2.1 && x.2.2.2.toList == y.2.2.2.toList)
end Go.Proofs.Ytonoadjmglkhaaa.At

namespace Go.Proofs.Ytonoadjmglkhaaa.At
open Go.RowKit Go.Proofs.Ytonoadjmglkhaaa.Va Go.Proofs.Ytonoadjmglkhaaa.In

/-- The names of attributes. -/
def nm (i : Nat) : ByteArray := ⟨#[UInt8.ofNat (97 + i)]⟩
def nmCells : Array Value := #[.string ⟨#[97]⟩, .string ⟨#[98]⟩, .string ⟨#[99]⟩, .string ⟨#[100]⟩, .string ⟨#[101]⟩, .string ⟨#[102]⟩, .string ⟨#[103]⟩]
theorem nm_at (i : Nat) (h : i < 7) : nmCells[i]? = some (.string (nm i)) := by
  match i, h with
  | 0, _ => rfl
  | 1, _ => rfl
  | 2, _ => rfl
  | 3, _ => rfl
  | 4, _ => rfl
  | 5, _ => rfl
  | 6, _ => rfl
theorem names_any (w : World) : Calls Try.prog 46 #[] w fun e w' => e = .returned (.slice (some ⟨w.heap.size, 0, none⟩) 7 7) ∧ w' = w.alloc (.cells nmCells 9) := by
  go_enter Try.func46, Try.ntmps46
  go_wp2
  go_ret
  exact ⟨rfl, rfl⟩

def pickZ (zs : List Int) (i : Nat) : Int := if zs = [] then 0 else zs.getD (i % zs.length) 0
set_option maxHeartbeats 400000 in
theorem pick_any (nv : Value) (zs : List Int) (i : Nat) (w : World) (hz : InInts w nv zs) (hl : zs.length ≤ maxLen) (hi : i ≤ 100) :
    Calls Try.prog 48 #[nv, .int .i64 i] w fun e w' => e = .returned (.int .i64 (pickZ zs i)) ∧ w = w' := by
  obtain ⟨ao, cap, rfl⟩ := hz.shape
  unfold maxLen at hl
  cases zs with
  | nil =>
    go_enter Try.func48, Try.ntmps48
    go_wp2
    go_ret
    exact ⟨rfl, rfl⟩
  | cons z r =>
    have hm : i % (z :: r).length < (z :: r).length := Nat.mod_lt _ (by simp)
    obtain ⟨y, hy⟩ : ∃ y, (z :: r)[i % (z :: r).length]? = some y := ⟨_, List.getElem?_eq_getElem hm⟩
    obtain ⟨_, p, _, hix, hpc⟩ := hz.at_ _ y hy
    have P := Lib.hid (show pickZ (z :: r) i = y by unfold pickZ; rw [if_neg (by simp), List.getD_eq_getElem?_getD, hy]; rfl)
    have h0 : ((((z :: r).length : Nat) : Int) == 0) = false := by simp; omega
    have hne : (((z :: r).length : Nat) : Int) ≠ 0 := by simp; omega
    have ht : (i : Int) % ((z :: r).length : Nat) = ((i % (z :: r).length : Nat) : Int) := rfl
    have ht2 : (i : Int).tmod ((z :: r).length : Nat) = ((i % (z :: r).length : Nat) : Int) := by
      rw [Int.tmod_eq_emod_of_nonneg (by omega)]; rfl
    have hn0 : 0 < (((z :: r).length : Nat) : Int) := by simp
    generalize (z :: r).length = n at *
    generalize i % n = m at *
    clear hz hy hm
    go_enter Try.func48, Try.ntmps48
    go_wp2
    go_ret
    exact ⟨Wi.ret_int P.out.symm, rfl⟩

/-- Is the attribute of that place there? -/
def odd (z : Int) : Bool := bits BinOp.and IntKind.i64 z 1 == 1
def valOf (n : Int) : Bool × Int × ByteArray := (!(evn n), kvN n, kvS n)
/-- The publication that numbers make, up to place i. -/
def tup (has vals : List Int) : Nat → List A4
  | 0 => []
  | i + 1 => if i < has.length ∧ odd (has.getD i 0) = true ∧ (tup has vals i).length < 5 then tup has vals i ++ [(nm i, valOf (pickZ vals i))] else tup has vals i
theorem pickZ_bd {W : World} {nv : Value} {zs : List Int} (hz : InInts W nv zs) (i : Nat) : -9223372036854775808 ≤ pickZ zs i ∧ pickZ zs i ≤ 9223372036854775807 := by
  unfold pickZ
  split
  · omega
  · rename_i h
    have hm : i % zs.length < zs.length := Nat.mod_lt _ (List.length_pos_iff.2 h)
    have := (hz.at_ _ _ (List.getElem?_eq_getElem hm)).1
    rw [List.getD_eq_getElem?_getD, List.getElem?_eq_getElem hm]
    exact this

theorem tup_len (has vals : List Int) : ∀ k, (tup has vals k).length ≤ k
  | 0 => Nat.le_refl _
  | k + 1 => by
    have h := tup_len has vals k
    simp only [tup]
    split
    · simp; omega
    · omega
theorem own_on {W W' : World} {B k : Nat} {e : TypeId} {v : Value} {n : Nat} {xs : List Value} (h : W.ownsRow B e k v n xs) (hb : Below W.heap.size W W') : W'.ownsRow B e k v n xs := by
  refine ⟨h.1, ?_⟩
  rcases h.2 with h2 | ⟨g, cap, cur, h1, h2, h3, h4⟩
  · exact Or.inl h2
  · exact Or.inr ⟨g, cap, cur, h1, h2, by rw [hb.block _ (lt_of_heap h3)]; exact h3, h4⟩
theorem own_less {W : World} {B B' k : Nat} {e : TypeId} {v : Value} {n : Nat} {xs : List Value} (hB : B' ≤ B) (h : W.ownsRow B e k v n xs) : W.ownsRow B' e k v n xs := by
  refine ⟨h.1, ?_⟩
  rcases h.2 with h2 | ⟨g, cap, cur, h1, h2, h3⟩
  · exact Or.inl h2
  · exact Or.inr ⟨g, cap, cur, h1, Nat.le_trans hB h2, h3⟩
theorem cells4New (w : World) (x0 x1 x2 x3 : Value) (t : TypeId) : ∀ j u, [x0, x1, x2, x3][j]? = some u → (w.alloc (.cells #[x0, x1, x2, x3] t)).cell? ((⟨w.heap.size, 0, none⟩ : Addr).add j) = some u := by
  intro j u hj
  have e : (⟨w.heap.size, 0, none⟩ : Addr).add j = ⟨w.heap.size, j, none⟩ := by unfold Addr.add; split <;> simp_all
  rw [e, World.cell?_alloc_at _ _ _ _ rfl]
  simpa using hj
end Go.Proofs.Ytonoadjmglkhaaa.At
