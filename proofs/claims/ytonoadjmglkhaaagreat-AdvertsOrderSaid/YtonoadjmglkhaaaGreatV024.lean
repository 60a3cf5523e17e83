/-
  Attributes of package api: as values, as cells, as lists in memory. No program's call in it.
  Names, pick, Tuple of the statements' own packages. Condition: numbers of 64 bits; lists no longer than a machine holds.
  Same of two lists of attributes, of the statements' own package. Condition: lists far below a machine's length.
-/
import Derived.Test.YtonoadjmglkhaaaGreatV023
import Derived.Laws.AppendOwn
import Derived.Laws.OwnMore
import Derived.Deep.Slices
import Derived.WalkKit
import Derived.Maps.AppendAt
import Derived.Lib.QuietBelow
import Derived.BigQuiet
namespace Go.Proofs.YtonoadjmglkhaaaGreat.At
open Go.RowKit Go.Proofs.YtonoadjmglkhaaaGreat.Va

/-- An attribute: its name; is its value a text, its number, its text. -/
abbrev A4 := ByteArray × Bool × Int × ByteArray
abbrev av (x : A4) : Value := .agg #[.string x.1, .bool x.2.1, .int .i64 x.2.2.1, .string x.2.2.2]
def cellsA (x : A4) : List Value := [.string x.1, .bool x.2.1, .int .i64 x.2.2.1, .string x.2.2.2]
def flatA : List A4 → List Value
  | [] => []
  | x :: r => .string x.1 :: .bool x.2.1 :: .int .i64 x.2.2.1 :: .string x.2.2.2 :: flatA r
theorem flatA_length : ∀ l, (flatA l).length = l.length * 4
  | [] => rfl
  | x :: r => by simp [flatA, flatA_length r]; omega
theorem flatA_append : ∀ a b, flatA (a ++ b) = flatA a ++ flatA b
  | [], b => rfl
  | x :: r, b => by simp [flatA, flatA_append r b]
theorem flatA_one : ∀ l, ∀ u ∈ flatA l, u.oneCell' = true
  | [], u, h => by cases h
  | x :: r, u, h => by
    simp only [flatA, List.mem_cons] at h
    rcases h with rfl | rfl | rfl | rfl | h
    · rfl
    · rfl
    · rfl
    · rfl
    · exact flatA_one r u h
theorem flatA_at : ∀ (l : List A4) (m : Nat) (x : A4), l[m]? = some x → (flatA l)[m * 4]? = some (.string x.1) ∧ (flatA l)[m * 4 + 1]? = some (.bool x.2.1) ∧ (flatA l)[m * 4 + 2]? = some (.int .i64 x.2.2.1) ∧ (flatA l)[m * 4 + 3]? = some (.string x.2.2.2)
  | [], m, x, h => by simp at h
  | y :: r, 0, x, h => by
    simp at h
    subst h
    exact ⟨rfl, rfl, rfl, rfl⟩
  | y :: r, m + 1, x, h => by
    have h2 := flatA_at r m x (by simpa using h)
    rw [show (m + 1) * 4 = m * 4 + 1 + 1 + 1 + 1 by omega, show m * 4 + 1 + 1 + 1 + 1 + 2 = m * 4 + 2 + 1 + 1 + 1 + 1 by omega, show m * 4 + 1 + 1 + 1 + 1 + 3 = m * 4 + 3 + 1 + 1 + 1 + 1 by omega]
    exact h2
theorem add_add (a : Addr) (i j : Nat) : (a.add i).add j = a.add (i + j) := by
  unfold Addr.add
  by_cases hi : i = 0 <;> by_cases hj : j = 0 <;> simp [hi, hj, Nat.add_assoc]

/-- A list of attributes in memory, wherever it begins. -/
def RowA (W : World) (lv : Value) (l : List A4) : Prop :=
  (l = [] ∧ lv = .slice none 0 0) ∨ ∃ (a : Addr) (cap : Nat), lv = .slice (some a) l.length cap ∧ l.length ≤ cap ∧ cap ≤ maxLen ∧ ∀ j u, (flatA l)[j]? = some u → W.cell? (a.add j) = some u
theorem RowA.on {W W' : World} {lv : Value} {l : List A4} (h : RowA W lv l) (hb : Below W.heap.size W W') : RowA W' lv l := by
  rcases h with h | ⟨a, cap, h1, h2, h3, h5⟩
  · exact Or.inl h
  · exact Or.inr ⟨a, cap, h1, h2, h3, fun j u hj => by
      have hc := h5 j u hj
      rw [hb.cell (World.block_lt_of_cell? W _ hc)]; exact hc⟩
theorem RowA.len {W : World} {lv : Value} {l : List A4} (h : RowA W lv l) : ∃ ao cap, lv = .slice ao l.length cap := by
  rcases h with ⟨rfl, rfl⟩ | ⟨a, cap, rfl, _⟩
  · exact ⟨none, 0, rfl⟩
  · exact ⟨_, cap, rfl⟩
theorem lt_of_heap {w : World} {b : Nat} {o : Obj} (h : w.heap[b]? = some o) : b < w.heap.size := by
  rcases Nat.lt_or_ge b w.heap.size with h0 | h0
  · exact h0
  · simp [Array.getElem?_eq_none h0] at h
theorem RowA.of_owns {W : World} {B : Nat} {lv : Value} {l : List A4} (h : W.ownsRow B 190 4 lv l.length (flatA l)) : RowA W lv l := by
  rcases h.2 with ⟨h1, h2⟩ | ⟨g, cap, cur, h1, h2, h3, h4, h5, h6, h7⟩
  · exact Or.inl ⟨List.eq_nil_of_length_eq_zero h2, h1⟩
  · exact Or.inr ⟨⟨g, 0, none⟩, cap, h1, h4, h5, fun j u hj => h.cells (g := g) (by rw [h1]; rfl) j u hj⟩
theorem index_runA (a : Addr) (m len cap : Nat) (h : m < len) (w : World) : (Instr.indexAt 111 (.slice (some a) len cap) (.int .i64 m)).run Tryz.prog w = .ok (.pointer (some (a.add (m * 4)))) w := by
  have h1 : (m : Int) < len := by omega
  simp [go_sem, Tryz.underlying111, h1]
theorem load_runA (w : World) (p : Addr) (x : A4) (h : ∀ j u, (cellsA x)[j]? = some u → w.cell? (p.add j) = some u) : (Instr.loadAt 190 (.pointer (some p))).run Tryz.prog w = .ok (av x) w := by
  have h0 := h 0 _ rfl
  have h1 := h 1 _ rfl
  have h2 := h 2 _ rfl
  have h3 := h 3 _ rfl
  simp [Addr.add] at h0 h1 h2 h3
  simp [go_sem, h0, h1, h2, h3]

theorem stoodA : Tryz.prog.stoodInHeld 190 = false := by kernel_rfl
/-- Are two attributes the same? -/
def eqlA (x y : A4) : Bool := x.1.toList == y.1.toList && (x.2.1 == y.2.1 && x.2.2.1 == y.2.2.1 && x.2.2.2.toList == y.2.2.2.toList)
set_option maxRecDepth 100000 in
theorem neqA (x y : A4) (r : Bool) (hr : eqlA x y = r) (w : World) : (binOp .neq 190 (av x) (av y)).run Tryz.prog w = .ok (.bool (!r)) w := by
  have st := stoodA
  subst hr
  obtain ⟨a, b, c, d⟩ := x
  obtain ⟨a', b', c', d'⟩ := y
  unfold eqlA
  by_cases h1 : a.toList = a'.toList <;> by_cases h2 : b = b' <;> by_cases h3 : c = c' <;> by_cases h4 : d.toList = d'.toList <;> simp [go_sem, Tryz.underlying190, Tryz.underlying188, Tryz.underlying4, Tryz.underlying3, Tryz.underlying9, st, h1, h2, h3, h4]
end Go.Proofs.YtonoadjmglkhaaaGreat.At

namespace Go.Proofs.YtonoadjmglkhaaaGreat.At
open Go.RowKit Go.Proofs.YtonoadjmglkhaaaGreat.Va Go.Proofs.YtonoadjmglkhaaaGreat.In

/-- The names of attributes. -/
def nm (i : Nat) : ByteArray := ⟨#[UInt8.ofNat (97 + i)]⟩
def nmCells : Array Value := #[.string ⟨#[97]⟩, .string ⟨#[98]⟩, .string ⟨#[99]⟩, .string ⟨#[100]⟩, .string ⟨#[101]⟩, .string ⟨#[102]⟩, .string ⟨#[103]⟩]
theorem nm_at (i : Nat) (h : i < 7) : nmCells[i]? = some (.string (nm i)) := by
  match i, h with
  | 0, _ => rfl
  | 1, _ => rfl
  | 2, _ => rfl
  | 3, _ => rfl
  | 4, _ => rfl
  | 5, _ => rfl
  | 6, _ => rfl
theorem names_any (w : World) : Calls Tryz.prog 25 #[] w fun e w' => e = .returned (.slice (some ⟨w.heap.size, 0, none⟩) 7 7) ∧ w' = w.alloc (.cells nmCells 9) := by
  go_enter Tryz.func25, Tryz.ntmps25
  go_wp2
  go_ret
  exact ⟨rfl, rfl⟩

def pickZ (zs : List Int) (i : Nat) : Int := if zs = [] then 0 else zs.getD (i % zs.length) 0
set_option maxHeartbeats 400000 in
theorem pick_any (nv : Value) (zs : List Int) (i : Nat) (w : World) (hz : InInts w nv zs) (hl : zs.length ≤ maxLen) (hi : i ≤ 100) :
    Calls Tryz.prog 27 #[nv, .int .i64 i] w fun e w' => e = .returned (.int .i64 (pickZ zs i)) ∧ w = w' := by
  obtain ⟨ao, cap, rfl⟩ := hz.shape
  unfold maxLen at hl
  cases zs with
  | nil =>
    go_enter Tryz.func27, Tryz.ntmps27
    go_wp2
    go_ret
    exact ⟨rfl, rfl⟩
  | cons z r =>
    have hm : i % (z :: r).length < (z :: r).length := Nat.mod_lt _ (by simp)
    obtain ⟨y, hy⟩ : ∃ y, (z :: r)[i % (z :: r).length]? = some y := ⟨_, List.getElem?_eq_getElem hm⟩
    obtain ⟨_, p, _, hix, hpc⟩ := hz.at_ _ y hy
    have P := Lib.hid (show pickZ (z :: r) i = y by unfold pickZ; rw [if_neg (by simp), List.getD_eq_getElem?_getD, hy]; rfl)
    have h0 : ((((z :: r).length : Nat) : Int) == 0) = false := by simp; omega
    have hne : (((z :: r).length : Nat) : Int) ≠ 0 := by simp; omega
    have ht : (i : Int) % ((z :: r).length : Nat) = ((i % (z :: r).length : Nat) : Int) := rfl
    have ht2 : (i : Int).tmod ((z :: r).length : Nat) = ((i % (z :: r).length : Nat) : Int) := by
      rw [Int.tmod_eq_emod_of_nonneg (by omega)]; rfl
    have hn0 : 0 < (((z :: r).length : Nat) : Int) := by simp
    generalize (z :: r).length = n at *
    generalize i % n = m at *
    clear hz hy hm
    go_enter Tryz.func27, Tryz.ntmps27
    go_wp2
    go_ret
    exact ⟨Wi.ret_int P.out.symm, rfl⟩

/-- Is the attribute of that place there? -/
def odd (z : Int) : Bool := bits BinOp.and IntKind.i64 z 1 == 1
def valOf (n : Int) : Bool × Int × ByteArray := (!(evn n), kvN n, kvS n)
/-- The publication that numbers make, up to place i. -/
def tup (has vals : List Int) : Nat → List A4
  | 0 => []
  | i + 1 => if i < has.length ∧ odd (has.getD i 0) = true ∧ (tup has vals i).length < 5 then tup has vals i ++ [(nm i, valOf (pickZ vals i))] else tup has vals i
theorem infoPA : (Tryz.prog.info? 190).map (fun i => (i.zero, i.size, i.bytes)) = some (some (.agg #[.string ⟨#[]⟩, .bool false, .int .i64 0, .string ⟨#[]⟩]), 4, 48) := by kernel_rfl
theorem infoA : ∃ i, Tryz.prog.info? 190 = some i ∧ i.zero = some (.agg #[.string ⟨#[]⟩, .bool false, .int .i64 0, .string ⟨#[]⟩]) ∧ i.size = 4 ∧ i.bytes = 48 := by
  have h := infoPA
  cases hi : Tryz.prog.info? 190 with
  | none => rw [hi] at h; cases h
  | some i =>
    rw [hi] at h
    simp only [Option.map_some, Option.some.injEq, Prod.mk.injEq] at h
    exact ⟨i, rfl, h.1, h.2.1, h.2.2⟩
theorem pickZ_bd {W : World} {nv : Value} {zs : List Int} (hz : InInts W nv zs) (i : Nat) : -9223372036854775808 ≤ pickZ zs i ∧ pickZ zs i ≤ 9223372036854775807 := by
  unfold pickZ
  split
  · omega
  · rename_i h
    have hm : i % zs.length < zs.length := Nat.mod_lt _ (List.length_pos_iff.2 h)
    have := (hz.at_ _ _ (List.getElem?_eq_getElem hm)).1
    rw [List.getD_eq_getElem?_getD, List.getElem?_eq_getElem hm]
    exact this

theorem tup_len (has vals : List Int) : ∀ k, (tup has vals k).length ≤ k
  | 0 => Nat.le_refl _
  | k + 1 => by
    have h := tup_len has vals k
    simp only [tup]
    split
    · simp; omega
    · omega
theorem own_on {W W' : World} {B k : Nat} {e : TypeId} {v : Value} {n : Nat} {xs : List Value} (h : W.ownsRow B e k v n xs) (hb : Below W.heap.size W W') : W'.ownsRow B e k v n xs := by
  refine ⟨h.1, ?_⟩
  rcases h.2 with h2 | ⟨g, cap, cur, h1, h2, h3, h4⟩
  · exact Or.inl h2
  · exact Or.inr ⟨g, cap, cur, h1, h2, by rw [hb.block _ (lt_of_heap h3)]; exact h3, h4⟩
theorem own_less {W : World} {B B' k : Nat} {e : TypeId} {v : Value} {n : Nat} {xs : List Value} (hB : B' ≤ B) (h : W.ownsRow B e k v n xs) : W.ownsRow B' e k v n xs := by
  refine ⟨h.1, ?_⟩
  rcases h.2 with h2 | ⟨g, cap, cur, h1, h2, h3⟩
  · exact Or.inl h2
  · exact Or.inr ⟨g, cap, cur, h1, Nat.le_trans hB h2, h3⟩
theorem cells4New (w : World) (x0 x1 x2 x3 : Value) (t : TypeId) : ∀ j u, [x0, x1, x2, x3][j]? = some u → (w.alloc (.cells #[x0, x1, x2, x3] t)).cell? ((⟨w.heap.size, 0, none⟩ : Addr).add j) = some u := by
  intro j u hj
  have e : (⟨w.heap.size, 0, none⟩ : Addr).add j = ⟨w.heap.size, j, none⟩ := by unfold Addr.add; split <;> simp_all
  rw [e, World.cell?_alloc_at _ _ _ _ rfl]
  simpa using hj
end Go.Proofs.YtonoadjmglkhaaaGreat.At

namespace Go.Proofs.YtonoadjmglkhaaaGreat.At
open Go.RowKit Go.Sort Go.Proofs.YtonoadjmglkhaaaGreat.Va Go.Proofs.YtonoadjmglkhaaaGreat.In

/-- Are the lists the same? -/
def sameL : List A4 → List A4 → Bool
  | [], [] => true
  | x :: l, y :: m => eqlA x y && sameL l m
  | _, _ => false
theorem sameL_len : ∀ l m, sameL l m = true → l.length = m.length
  | [], [], _ => rfl
  | x :: l, y :: m, h => by
    simp only [sameL, Bool.and_eq_true] at h
    simp [sameL_len l m h.2]
  | [], y :: m, h => by simp [sameL] at h
  | x :: l, [], h => by simp [sameL] at h
theorem sameL_all : ∀ l m, l.length = m.length → (∀ (k : Nat) (x y : A4), l[k]? = some x → m[k]? = some y → eqlA x y = true) → sameL l m = true
  | [], [], _, _ => rfl
  | x :: l, y :: m, hl, h => by
    simp only [sameL, Bool.and_eq_true]
    exact ⟨h 0 x y rfl rfl, sameL_all l m (by simpa using hl) (fun k a b ha hb => h (k + 1) a b (by simpa using ha) (by simpa using hb))⟩
  | [], y :: m, hl, _ => by simp at hl
  | x :: l, [], hl, _ => by simp at hl
theorem sameL_not : ∀ (l m : List A4) (k : Nat) (x y : A4), l[k]? = some x → m[k]? = some y → eqlA x y = false → sameL l m = false
  | [], _, k, x, y, h, _, _ => by simp at h
  | _ :: _, [], k, x, y, _, h, _ => by simp at h
  | a :: l, b :: m, 0, x, y, h1, h2, h3 => by
    simp at h1 h2
    subst h1 h2
    simp [sameL, h3]
  | a :: l, b :: m, k + 1, x, y, h1, h2, h3 => by
    simp only [sameL, sameL_not l m k x y (by simpa using h1) (by simpa using h2) h3, Bool.and_false]
/-- Where an element lies, and its cells, in this world and every later one. -/
theorem row_cells {W : World} {lv : Value} {l : List A4} {ao : Option Addr} {n c k : Nat} {x : A4} (h : RowA W lv l) (hv : lv = .slice ao n c) (hn : l.length = n) (hk : l[k]? = some x) :
    ∃ p : Addr, (∀ w, (Instr.indexAt 111 (.slice ao n c) (.int .i64 k)).run Tryz.prog w = .ok (.pointer (some p)) w) ∧ ∀ w, Below W.heap.size W w →
      w.cell? p = some (.string x.1) ∧ w.cell? ⟨p.block, p.off + 1, none⟩ = some (.bool x.2.1) ∧ w.cell? ⟨p.block, p.off + 2, none⟩ = some (.int .i64 x.2.2.1) ∧ w.cell? ⟨p.block, p.off + 3, none⟩ = some (.string x.2.2.2) := by
  have hlt := (List.getElem?_eq_some_iff.1 hk).1
  rcases h with ⟨rfl, _⟩ | ⟨a, cap, h1, h2, h3, h4⟩
  · simp at hk
  · rw [hv] at h1
    obtain ⟨rfl, rfl, rfl⟩ : ao = some a ∧ n = l.length ∧ c = cap := by simpa using h1
    refine ⟨a.add (k * 4), fun w => index_runA a k _ _ hlt w, fun w hb => ?_⟩
    have hf := flatA_at l k x hk
    have e1 : ∀ j, j ≠ 0 → (⟨(a.add (k * 4)).block, (a.add (k * 4)).off + j, none⟩ : Addr) = a.add (k * 4 + j) := fun j hj => by
      have h5 : ∀ b : Addr, b.add j = ⟨b.block, b.off + j, none⟩ := fun b => by unfold Addr.add; rw [if_neg hj]
      rw [← add_add, h5]
    have g : ∀ j u, (flatA l)[j]? = some u → w.cell? (a.add j) = some u := fun j u hj => by
      have hc := h4 j u hj
      rw [hb.cell (World.block_lt_of_cell? W _ hc)]; exact hc
    rw [e1 1 (by decide), e1 2 (by decide), e1 3 (by decide)]
    exact ⟨g _ _ hf.1, g _ _ hf.2.1, g _ _ hf.2.2.1, g _ _ hf.2.2.2⟩
theorem row_addr {W : World} {ao : Option Addr} {n c k : Nat} {l : List A4} {x : A4} (h : RowA W (.slice ao n c) l) (hk : l[k]? = some x) : ∃ a, ao = some a := by
  rcases h with ⟨rfl, _⟩ | ⟨a, cap, h1, _⟩
  · simp at hk
  · exact ⟨a, by simp at h1; exact h1.1⟩
end Go.Proofs.YtonoadjmglkhaaaGreat.At
