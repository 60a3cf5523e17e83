/-
  Attributes of package api: as values, as cells, as lists in memory. No program's call in it.
  Lists of attributes, as rows of any kind of element. No program's function in it.
  Names, pick, Tuple of the statements' own packages. Condition: numbers of 64 bits; lists no longer than a machine holds.
  Same of two lists of attributes, of the statements' own package. Condition: lists far below a machine's length.
  Name and RightTuple of the statements' own package. Condition: lists and texts below a machine's length.
  Plain facts on publications: what is got, put, said. No program in it.
  What Get of package tuple hands back; the contracts wanted of Get and Right. No condition.
  A variable that holds a value of package api, in memory: read and written. No program's call in it.
  Get of package tuple: the first value of that name. Condition: at most 100 attributes.
  Right, Number, Text, Less of package value. Condition: a text below a machine's length.
-/
import Derived.Test.YtdomincmoaahoaaBc
import Derived.Laws.AppendOwn
import Derived.Laws.OwnMore
import Derived.Deep.Slices
import Derived.Test.YtdomincmoaahoaaBb
import Derived.Test.YtdomincmoaahoaaBa
import Derived.WalkKit
import Derived.Maps.AppendAt
import Derived.Lib.QuietBelow
import Derived.BigQuiet
import Derived.Lib.Hide
namespace Go.Proofs.Ytdomincmoaahoaa.At
open Go.RowKit Go.Proofs.Ytdomincmoaahoaa.Va

/-- An attribute: its name; is its value a text, its number, its text. -/
abbrev A4 := ByteArray × Bool × Int × ByteArray
abbrev av (x : A4) : Value := .agg #[.string x.1, .bool x.2.1, .int .i64 x.2.2.1, .string x.2.2.2]
def cellsA (x : A4) : List Value := [.string x.1, .bool x.2.1, .int .i64 x.2.2.1, .string x.2.2.2]
def flatA : List A4 → List Value
  | [] => []
  | x :: r => .string x.1 :: .bool x.2.1 :: .int .i64 x.2.2.1 :: .string x.2.2.2 :: flatA r
theorem flatA_length : ∀ l, (flatA l).length = l.length * 4
  | [] => rfl
  | x :: r => by simp [flatA, flatA_length r]; omega
theorem flatA_append : ∀ a b, flatA (a ++ b) = flatA a ++ flatA b
  | [], b => rfl
  | x :: r, b => by simp [flatA, flatA_append r b]
theorem flatA_one : ∀ l, ∀ u ∈ flatA l, u.oneCell' = true
  | [], u, h => by cases h
  | x :: r, u, h => by
    simp only [flatA, List.mem_cons] at h
    rcases h with rfl | rfl | rfl | rfl | h
    · rfl
    · rfl
    · rfl
    · rfl
    · exact flatA_one r u h
theorem flatA_at : ∀ (l : List A4) (m : Nat) (x : A4), l[m]? = some x → (flatA l)[m * 4]? = some (.string x.1) ∧ (flatA l)[m * 4 + 1]? = some (.bool x.2.1) ∧ (flatA l)[m * 4 + 2]? = some (.int .i64 x.2.2.1) ∧ (flatA l)[m * 4 + 3]? = some (.string x.2.2.2)
  | [], m, x, h => by simp at h
  | y :: r, 0, x, h => by
    simp at h
    subst h
    exact ⟨rfl, rfl, rfl, rfl⟩
  | y :: r, m + 1, x, h => by
    have h2 := flatA_at r m x (by simpa using h)
    rw [show (m + 1) * 4 = m * 4 + 1 + 1 + 1 + 1 by omega, show m * 4 + 1 + 1 + 1 + 1 + 2 = m * 4 + 2 + 1 + 1 + 1 + 1 by omega, show m * 4 + 1 + 1 + 1 + 1 + 3 = m * 4 + 3 + 1 + 1 + 1 + 1 by omega]
    exact h2
theorem add_add (a : Addr) (i j : Nat) : (a.add i).add j = a.add (i + j) := by
  unfold Addr.add
  by_cases hi : i = 0 <;> by_cases hj : j = 0 <;> simp [hi, hj, Nat.add_assoc]

/-- A list of attributes in memory, wherever it begins. -/
def RowA (W : World) (lv : Value) (l : List A4) : Prop :=
  (l = [] ∧ lv = .slice none 0 0) ∨ ∃ (a : Addr) (cap : Nat), lv = .slice (some a) l.length cap ∧ l.length ≤ cap ∧ cap ≤ maxLen ∧ ∀ j u, (flatA l)[j]? = some u → W.cell? (a.add j) = some u
theorem RowA.on {W W' : World} {lv : Value} {l : List A4} (h : RowA W lv l) (hb : Below W.heap.size W W') : RowA W' lv l := by
  rcases h with h | ⟨a, cap, h1, h2, h3, h5⟩
  · exact Or.inl h
  · exact Or.inr ⟨a, cap, h1, h2, h3, fun j u hj => by
      have hc := h5 j u hj
      rw [hb.cell (World.block_lt_of_cell? W _ hc)]; exact hc⟩
theorem RowA.len {W : World} {lv : Value} {l : List A4} (h : RowA W lv l) : ∃ ao cap, lv = .slice ao l.length cap := by
  rcases h with ⟨rfl, rfl⟩ | ⟨a, cap, rfl, _⟩
  · exact ⟨none, 0, rfl⟩
  · exact ⟨_, cap, rfl⟩
theorem lt_of_heap {w : World} {b : Nat} {o : Obj} (h : w.heap[b]? = some o) : b < w.heap.size := by
  rcases Nat.lt_or_ge b w.heap.size with h0 | h0
  · exact h0
  · simp [Array.getElem?_eq_none h0] at h
theorem RowA.of_owns {W : World} {B : Nat} {lv : Value} {l : List A4} (h : W.ownsRow B 47 4 lv l.length (flatA l)) : RowA W lv l := by
  rcases h.2 with ⟨h1, h2⟩ | ⟨g, cap, cur, h1, h2, h3, h4, h5, h6, h7⟩
  · exact Or.inl ⟨List.eq_nil_of_length_eq_zero h2, h1⟩
  · exact Or.inr ⟨⟨g, 0, none⟩, cap, h1, h4, h5, fun j u hj => h.cells (g := g) (by rw [h1]; rfl) j u hj⟩
theorem index_runA (a : Addr) (m len cap : Nat) (h : m < len) (w : World) : (Instr.indexAt 32 (.slice (some a) len cap) (.int .i64 m)).run Try.prog w = .ok (.pointer (some (a.add (m * 4)))) w := by
  have h1 : (m : Int) < len := by omega
  simp [go_sem, Try.underlying32, h1]
theorem load_runA (w : World) (p : Addr) (x : A4) (h : ∀ j u, (cellsA x)[j]? = some u → w.cell? (p.add j) = some u) : (Instr.loadAt 47 (.pointer (some p))).run Try.prog w = .ok (av x) w := by
  have h0 := h 0 _ rfl
  have h1 := h 1 _ rfl
  have h2 := h 2 _ rfl
  have h3 := h 3 _ rfl
  simp [Addr.add] at h0 h1 h2 h3
  simp [go_sem, h0, h1, h2, h3]

theorem stoodA : Try.prog.stoodInHeld 47 = false := by kernel_rfl
/-- Are two attributes the same? -/
def eqlA (x y : A4) : Bool := x.1.toList == y.1.toList && (x.2.1 == y.2.1 && x.2.2.1 == y.2.2.1 && x.2.2.2.toList == y.2.2.2.toList)
set_option maxRecDepth 100000 in
theorem neqA (x y : A4) (r : Bool) (hr : eqlA x y = r) (w : World) : (binOp .neq 47 (av x) (av y)).run Try.prog w = .ok (.bool (!r)) w := by
  have st := stoodA
  subst hr
  obtain ⟨a, b, c, d⟩ := x
  obtain ⟨a', b', c', d'⟩ := y
  unfold eqlA
  by_cases h1 : a.toList = a'.toList <;> by_cases h2 : b = b' <;> by_cases h3 : c = c' <;> by_cases h4 : d.toList = d'.toList <;> simp [go_sem, Try.underlying47, Try.underlying45, Try.underlying4, Try.underlying3, Try.underlying9, st, h1, h2, h3, h4]
end Go.Proofs.Ytdomincmoaahoaa.At

namespace Go.Proofs.Ytdomincmoaahoaa.Rl
open Go.RowKit Go.Proofs.Ytdomincmoaahoaa Go.Proofs.Ytdomincmoaahoaa.Pu Go.Proofs.Ytdomincmoaahoaa.Rw Go.Proofs.Ytdomincmoaahoaa.Pr

def EA : Ek An := ⟨47, 32, 4, 48, .agg #[.string ⟨#[]⟩, .bool false, .int .i64 0, .string ⟨#[]⟩], At.av, At.cellsA⟩
theorem infoA0 : (Try.prog.info? 47).map (fun i => (i.zero, i.size, i.bytes)) = some (some (.agg #[.string ⟨#[]⟩, .bool false, .int .i64 0, .string ⟨#[]⟩]), 4, 48) := by kernel_rfl
theorem load_runA (w : World) (p : Addr) (c : An) (h : ∀ j u, (At.cellsA c)[j]? = some u → w.cell? (p.add j) = some u) : (Instr.loadAt 47 (.pointer (some p))).run Try.prog w = .ok (At.av c) w := by
  have h0 := h 0 _ rfl
  have h1 := h 1 _ rfl
  have h2 := h 2 _ rfl
  have h3 := h 3 _ rfl
  simp [Addr.add] at h0 h1 h2 h3
  simp [go_sem, h0, h1, h2, h3]
theorem okA : EA.Ok where
  hu := Try.underlying32
  info := by
    have h := infoA0
    cases hi : Try.prog.info? 47 with
    | none => rw [hi] at h; cases h
    | some i =>
      rw [hi] at h
      simp only [Option.map_some, Option.some.injEq, Prod.mk.injEq] at h
      exact ⟨i, hi, h.1, h.2.1, h.2.2⟩
  zs := rfl
  len := fun _ => rfl
  one := fun x u hu => by
    simp only [EA, At.cellsA, List.mem_cons, List.not_mem_nil, or_false] at hu
    rcases hu with rfl | rfl | rfl | rfl <;> rfl
  pos := by decide
  few := by decide
  load := fun w p x h => load_runA w p x h
abbrev RowL (W : World) (v : Value) (l : List An) : Prop := Row EA W v l
abbrev OwnL (W : World) (B : Nat) (v : Value) (l : List An) : Prop := Own EA W B v l
theorem flat_EA : ∀ l : List An, flat EA l = At.flatA l
  | [] => rfl
  | x :: r => by
    rw [flat, flat_EA r]
    rfl
/-- The two ways to speak of a list of attributes. -/
theorem row_EA {W : World} {v : Value} {l : List An} : At.RowA W v l ↔ RowL W v l := by
  unfold At.RowA RowL Row
  rw [flat_EA]
theorem own_EA {W : World} {B : Nat} {v : Value} {l : List An} (h : W.ownsRow B 47 4 v l.length (At.flatA l)) : OwnL W B v l := by
  show W.ownsRow B 47 4 v l.length (flat EA l)
  rw [flat_EA]
  exact h
/-- What a right publication is. -/
structure NL (l : List An) : Prop where
  rise : l.Pairwise fun x y => Op.bytesLess x.1.toList y.1.toList = true
  five : l.length ≤ 5
  small : ∀ x ∈ l, x.1.size ≤ 100 ∧ x.2.2.2.size ≤ 100
theorem NL.nodup {l : List An} (h : NL l) : (l.map (·.1)).Nodup := by
  rw [List.Nodup, List.pairwise_map]
  exact h.rise.imp fun h => less_ne h
/-- What is asked of a publication by a predicate: the first value of a name is its only one. -/
theorem match_get {p : List Cn} {l : List An} (h : (l.map (·.1)).Nodup) : matchL p l = p.all fun c => match l.find? fun a => decide (a.1 = c.1) with
    | some a => holdsK c.2 a.2
    | none => false := by
  unfold matchL
  congr 1
  funext c
  cases hf : l.find? fun a => decide (a.1 = c.1) with
  | none =>
    rw [List.any_eq_false]
    intro a ha
    have := List.find?_eq_none.1 hf a ha
    simp only [decide_eq_true_eq] at this
    simp [this]
  | some a =>
    have hm := List.mem_of_find?_eq_some hf
    have he : a.1 = c.1 := by simpa using List.find?_some hf
    rw [Bool.eq_iff_iff, List.any_eq_true]
    constructor
    · rintro ⟨b, hb, h2⟩
      simp only [Bool.and_eq_true, decide_eq_true_eq] at h2
      rw [uniq h hm hb (he.trans h2.1.symm)]
      exact h2.2
    · intro h2
      exact ⟨a, hm, by simp [he, h2]⟩
end Go.Proofs.Ytdomincmoaahoaa.Rl

namespace Go.Proofs.Ytdomincmoaahoaa.At
open Go.RowKit Go.Proofs.Ytdomincmoaahoaa.Va Go.Proofs.Ytdomincmoaahoaa.In

/-- The names of attributes. -/
def nm (i : Nat) : ByteArray := ⟨#[UInt8.ofNat (97 + i)]⟩
def nmCells : Array Value := #[.string ⟨#[97]⟩, .string ⟨#[98]⟩, .string ⟨#[99]⟩, .string ⟨#[100]⟩, .string ⟨#[101]⟩, .string ⟨#[102]⟩, .string ⟨#[103]⟩]
theorem nm_at (i : Nat) (h : i < 7) : nmCells[i]? = some (.string (nm i)) := by
  match i, h with
  | 0, _ => rfl
  | 1, _ => rfl
  | 2, _ => rfl
  | 3, _ => rfl
  | 4, _ => rfl
  | 5, _ => rfl
  | 6, _ => rfl
theorem names_any (w : World) : Calls Try.prog 29 #[] w fun e w' => e = .returned (.slice (some ⟨w.heap.size, 0, none⟩) 7 7) ∧ w' = w.alloc (.cells nmCells 9) := by
  go_enter Try.func29, Try.ntmps29
  go_wp2
  go_ret
  exact ⟨rfl, rfl⟩

def pickZ (zs : List Int) (i : Nat) : Int := if zs = [] then 0 else zs.getD (i % zs.length) 0
set_option maxHeartbeats 400000 in
theorem pick_any (nv : Value) (zs : List Int) (i : Nat) (w : World) (hz : InInts w nv zs) (hl : zs.length ≤ maxLen) (hi : i ≤ 100) :
    Calls Try.prog 30 #[nv, .int .i64 i] w fun e w' => e = .returned (.int .i64 (pickZ zs i)) ∧ w = w' := by
  obtain ⟨ao, cap, rfl⟩ := hz.shape
  unfold maxLen at hl
  cases zs with
  | nil =>
    go_enter Try.func30, Try.ntmps30
    go_wp2
    go_ret
    exact ⟨rfl, rfl⟩
  | cons z r =>
    have hm : i % (z :: r).length < (z :: r).length := Nat.mod_lt _ (by simp)
    obtain ⟨y, hy⟩ : ∃ y, (z :: r)[i % (z :: r).length]? = some y := ⟨_, List.getElem?_eq_getElem hm⟩
    obtain ⟨_, p, _, hix, hpc⟩ := hz.at_ _ y hy
    have P := Lib.hid (show pickZ (z :: r) i = y by unfold pickZ; rw [if_neg (by simp), List.getD_eq_getElem?_getD, hy]; rfl)
    have h0 : ((((z :: r).length : Nat) : Int) == 0) = false := by simp; omega
    have hne : (((z :: r).length : Nat) : Int) ≠ 0 := by simp; omega
    have ht : (i : Int) % ((z :: r).length : Nat) = ((i % (z :: r).length : Nat) : Int) := rfl
    have ht2 : (i : Int).tmod ((z :: r).length : Nat) = ((i % (z :: r).length : Nat) : Int) := by
      rw [Int.tmod_eq_emod_of_nonneg (by omega)]; rfl
    have hn0 : 0 < (((z :: r).length : Nat) : Int) := by simp
    generalize (z :: r).length = n at *
    generalize i % n = m at *
    clear hz hy hm
    go_enter Try.func30, Try.ntmps30
    go_wp2
    go_ret
    exact ⟨Wi.ret_int P.out.symm, rfl⟩

/-- Is the attribute of that place there? -/
def odd (z : Int) : Bool := bits BinOp.and IntKind.i64 z 1 == 1
def valOf (n : Int) : Bool × Int × ByteArray := (!(evn n), kvN n, kvS n)
/-- The publication that numbers make, up to place i. -/
def tup (has vals : List Int) : Nat → List A4
  | 0 => []
  | i + 1 => if i < has.length ∧ odd (has.getD i 0) = true ∧ (tup has vals i).length < 5 then tup has vals i ++ [(nm i, valOf (pickZ vals i))] else tup has vals i
theorem infoPA : (Try.prog.info? 47).map (fun i => (i.zero, i.size, i.bytes)) = some (some (.agg #[.string ⟨#[]⟩, .bool false, .int .i64 0, .string ⟨#[]⟩]), 4, 48) := by kernel_rfl
theorem infoA : ∃ i, Try.prog.info? 47 = some i ∧ i.zero = some (.agg #[.string ⟨#[]⟩, .bool false, .int .i64 0, .string ⟨#[]⟩]) ∧ i.size = 4 ∧ i.bytes = 48 := by
  have h := infoPA
  cases hi : Try.prog.info? 47 with
  | none => rw [hi] at h; cases h
  | some i =>
    rw [hi] at h
    simp only [Option.map_some, Option.some.injEq, Prod.mk.injEq] at h
    exact ⟨i, rfl, h.1, h.2.1, h.2.2⟩
theorem pickZ_bd {W : World} {nv : Value} {zs : List Int} (hz : InInts W nv zs) (i : Nat) : -9223372036854775808 ≤ pickZ zs i ∧ pickZ zs i ≤ 9223372036854775807 := by
  unfold pickZ
  split
  · omega
  · rename_i h
    have hm : i % zs.length < zs.length := Nat.mod_lt _ (List.length_pos_iff.2 h)
    have := (hz.at_ _ _ (List.getElem?_eq_getElem hm)).1
    rw [List.getD_eq_getElem?_getD, List.getElem?_eq_getElem hm]
    exact this

theorem tup_len (has vals : List Int) : ∀ k, (tup has vals k).length ≤ k
  | 0 => Nat.le_refl _
  | k + 1 => by
    have h := tup_len has vals k
    simp only [tup]
    split
    · simp; omega
    · omega
theorem own_on {W W' : World} {B k : Nat} {e : TypeId} {v : Value} {n : Nat} {xs : List Value} (h : W.ownsRow B e k v n xs) (hb : Below W.heap.size W W') : W'.ownsRow B e k v n xs := by
  refine ⟨h.1, ?_⟩
  rcases h.2 with h2 | ⟨g, cap, cur, h1, h2, h3, h4⟩
  · exact Or.inl h2
  · exact Or.inr ⟨g, cap, cur, h1, h2, by rw [hb.block _ (lt_of_heap h3)]; exact h3, h4⟩
theorem own_less {W : World} {B B' k : Nat} {e : TypeId} {v : Value} {n : Nat} {xs : List Value} (hB : B' ≤ B) (h : W.ownsRow B e k v n xs) : W.ownsRow B' e k v n xs := by
  refine ⟨h.1, ?_⟩
  rcases h.2 with h2 | ⟨g, cap, cur, h1, h2, h3⟩
  · exact Or.inl h2
  · exact Or.inr ⟨g, cap, cur, h1, Nat.le_trans hB h2, h3⟩
theorem cells4New (w : World) (x0 x1 x2 x3 : Value) (t : TypeId) : ∀ j u, [x0, x1, x2, x3][j]? = some u → (w.alloc (.cells #[x0, x1, x2, x3] t)).cell? ((⟨w.heap.size, 0, none⟩ : Addr).add j) = some u := by
  intro j u hj
  have e : (⟨w.heap.size, 0, none⟩ : Addr).add j = ⟨w.heap.size, j, none⟩ := by unfold Addr.add; split <;> simp_all
  rw [e, World.cell?_alloc_at _ _ _ _ rfl]
  simpa using hj
set_option maxRecDepth 100000 in
set_option maxHeartbeats 4000000 in
theorem tuple_any (hv vv : Value) (has vals : List Int) (w : World) (hh : InInts w hv has) (hw : InInts w vv vals) (lh : has.length ≤ maxLen) (lv : vals.length ≤ maxLen) :
    Calls Try.prog 13 #[.agg #[hv, vv]] w fun e w' => ∃ v, e = .returned v ∧ w'.ownsRow w.heap.size 47 4 v (tup has vals 7).length (flatA (tup has vals 7)) ∧ Below w.heap.size w w' := by
  have HH := Lib.hid hh
  have HW := Lib.hid hw
  have LH := Lib.hid lh
  have LV := Lib.hid lv
  obtain ⟨i0, hi, hz0, hz1, hz2⟩ := infoA
  clear hh hw lh lv
  go_enter Try.func13, Try.ntmps13
  go_wp2_with fail
  refine (names_any _).mono ?_
  rintro e1 w1 ⟨rfl, rfl⟩
  go_wp2
  go_loopw [3, 8] (fun lv i wr => ∃ k : Nat, k ≤ 7 ∧ i = .int .i64 k ∧ wr.ownsRow (w.heap.size + 2) 47 4 lv (tup has vals k).length (flatA (tup has vals k)) ∧
    Below (w.heap.size + 2) ((w.alloc (.cells #[hv, vv] 30)).alloc (.cells nmCells 9)) wr) (fun _ i _ => 7 - (intOf i).toNat)
  case atStart => exact ⟨0, by omega, rfl, World.ownsRow_nil _ _ _ _, Below.refl _ _⟩
  case round =>
    obtain ⟨k, hk, rfl, hown, hb⟩ := hrel
    have HO := Lib.hid hown
    have HB := Lib.hid hb
    have T0 : Below w.heap.size w ((w.alloc (.cells #[hv, vv] 30)).alloc (.cells nmCells 9)) := ((Below.refl _ _).alloc (Nat.le_refl _) _).alloc (by simp) _
    have BW := Lib.hid (T0.trans (hb.mono (by omega)))
    have hsz : w.heap.size + 2 ≤ wr.heap.size := by have := hb.size; simp at this; omega
    clear T0
    obtain ⟨ro, rcap, hrl⟩ := (RowA.of_owns hown).len
    have hl5 := tup_len has vals k
    by_cases h7 : k < 7
    · have n0 : wr.cell? ⟨w.heap.size + 1, k, none⟩ = some (.string (nm k)) := by
        rw [hb.cell (p := ⟨w.heap.size + 1, k, none⟩) (by simp), World.cell?_alloc_at _ _ _ _ (by simp)]; exact nm_at k h7
      have b0 : wr.cell? ⟨w.heap.size, 0, none⟩ = some hv := by
        rw [hb.cell (p := ⟨w.heap.size, 0, none⟩) (by simp), World.cell?_alloc_lt _ _ _ (by simp), World.cell?_alloc_at _ _ _ _ rfl]; rfl
      have b1 : wr.cell? ⟨w.heap.size, 1, none⟩ = some vv := by
        rw [hb.cell (p := ⟨w.heap.size, 1, none⟩) (by simp), World.cell?_alloc_lt _ _ _ (by simp), World.cell?_alloc_at _ _ _ _ rfl]; rfl
      have IH := Lib.hid (HH.out.on BW.out)
      obtain ⟨ao, acap, hsh⟩ := HH.out.shape
      clear hb hown
      subst hsh
      subst hrl
      have hkk : (k : Int) < 7 := by omega
      by_cases h1 : k < has.length
      · obtain ⟨y, hy⟩ : ∃ y, has[k]? = some y := ⟨_, List.getElem?_eq_getElem h1⟩
        have hg : has.getD k 0 = y := by rw [List.getD_eq_getElem?_getD, hy]; rfl
        obtain ⟨_, p, _, hix, hpc⟩ := IH.out.at_ k y hy
        cases ho : odd y
        · have T := Lib.hid (show tup has vals (k + 1) = tup has vals k by simp only [tup]; rw [if_neg]; rintro ⟨_, h2, _⟩; rw [hg, ho] at h2; cases h2)
          have hodd : (bits BinOp.and IntKind.i64 y 1 == 1) = false := ho
          clear ho hy hg
          go_wp2
          go_roundw
          case rel => exact ⟨k + 1, by omega, by go_num, by rw [T.out]; exact HO.out, HB.out⟩
          case measure => simp [intOf]; omega
        · have hodd : (bits BinOp.and IntKind.i64 y 1 == 1) = true := ho
          by_cases h5 : (tup has vals k).length < 5
          · have T := Lib.hid (show tup has vals (k + 1) = tup has vals k ++ [(nm k, valOf (pickZ vals k))] by simp only [tup]; rw [if_pos ⟨h1, by rw [hg, ho], h5⟩])
            have PK := Lib.hid (fun (W : World) (hW : Below w.heap.size w W) => pick_any vv vals k W (HW.out.on hW) LV.out (by omega))
            have bd := pickZ_bd HW.out k
            have KV := Lib.hid (fun W => kvalue_any (pickZ vals k) W bd.1 bd.2)
            clear ho hy hg bd
            go_wp2_with fail
            refine (PK.out _ BW.out).mono ?_
            rintro e1 w1 ⟨rfl, rfl⟩
            go_wp2_with fail
            refine (KV.out _).mono ?_
            rintro e2 w2 ⟨rfl, hb2⟩
            have B2 := Lib.hid hb2
            have O2 := Lib.hid (own_on HO.out hb2)
            have hs2 := hb2.size
            clear hb2
            unfold valOf at T
            generalize (!(evn (pickZ vals k))) = t at T ⊢
            generalize kvN (pickZ vals k) = n at T ⊢
            generalize kvS (pickZ vals k) = s at T ⊢
            go_wp2_with (first | (at_builtin; refine wpList_append_own _ rfl _ _ 32 rfl (w.heap.size + 2) 47 i0 _ 4 48 Try.underlying32 hi hz0 hz1 hz2 rfl (by decide) _ _ _ rfl (O2.out.alloc _) ⟨w2.heap.size, 0, none⟩ 1 1 (cellsA (nm k, t, n, s)) rfl rfl (cells4New _ _ _ _ _ _) (flatA_one [(nm k, t, n, s)]) (by unfold maxLen; omega) (by omega) (by simp; omega) ?_) | fail)
            intro v1 w3 hown3 hgrow3 _
            have O3 := Lib.hid hown3
            have hbel : Below (w.heap.size + 2) wr w3 := ((B2.out.mono hsz).alloc (by omega) _).grown hgrow3 (by simp; omega) (fun j hj => (O2.out.lt j hj).1)
            have B3 := Lib.hid (HB.out.trans hbel)
            clear hown3 hgrow3 hbel
            go_wp2
            go_roundw
            case rel => exact ⟨k + 1, by omega, by go_num, by
              rw [T.out, flatA_append]
              simpa [flatA, cellsA] using O3.out, B3.out⟩
            case measure => simp [intOf]; omega
          · have T := Lib.hid (show tup has vals (k + 1) = tup has vals k by simp only [tup]; rw [if_neg]; rintro ⟨_, _, h2⟩; exact h5 h2)
            clear ho hy hg
            go_wp2
            go_roundw
            case rel => exact ⟨k + 1, by omega, by go_num, by rw [T.out]; exact HO.out, HB.out⟩
            case measure => simp [intOf]; omega
      · have T := Lib.hid (show tup has vals (k + 1) = tup has vals k by simp only [tup]; rw [if_neg]; rintro ⟨h2, _⟩; exact h1 h2)
        go_wp2
        go_roundw
        case rel => exact ⟨k + 1, by omega, by go_num, by rw [T.out]; exact HO.out, HB.out⟩
        case measure => simp [intOf]; omega
    · obtain rfl : k = 7 := by omega
      clear hb hown
      go_wp2
      go_ret
      exact ⟨_, rfl, own_less (by omega) HO.out, BW.out⟩
end Go.Proofs.Ytdomincmoaahoaa.At

namespace Go.Proofs.Ytdomincmoaahoaa.At
open Go.RowKit Go.Sort Go.Proofs.Ytdomincmoaahoaa.Va Go.Proofs.Ytdomincmoaahoaa.In

/-- Are the lists the same? -/
def sameL : List A4 → List A4 → Bool
  | [], [] => true
  | x :: l, y :: m => eqlA x y && sameL l m
  | _, _ => false
theorem sameL_len : ∀ l m, sameL l m = true → l.length = m.length
  | [], [], _ => rfl
  | x :: l, y :: m, h => by
    simp only [sameL, Bool.and_eq_true] at h
    simp [sameL_len l m h.2]
  | [], y :: m, h => by simp [sameL] at h
  | x :: l, [], h => by simp [sameL] at h
theorem sameL_all : ∀ l m, l.length = m.length → (∀ (k : Nat) (x y : A4), l[k]? = some x → m[k]? = some y → eqlA x y = true) → sameL l m = true
  | [], [], _, _ => rfl
  | x :: l, y :: m, hl, h => by
    simp only [sameL, Bool.and_eq_true]
    exact ⟨h 0 x y rfl rfl, sameL_all l m (by simpa using hl) (fun k a b ha hb => h (k + 1) a b (by simpa using ha) (by simpa using hb))⟩
  | [], y :: m, hl, _ => by simp at hl
  | x :: l, [], hl, _ => by simp at hl
theorem sameL_not : ∀ (l m : List A4) (k : Nat) (x y : A4), l[k]? = some x → m[k]? = some y → eqlA x y = false → sameL l m = false
  | [], _, k, x, y, h, _, _ => by simp at h
  | _ :: _, [], k, x, y, _, h, _ => by simp at h
  | a :: l, b :: m, 0, x, y, h1, h2, h3 => by
    simp at h1 h2
    subst h1 h2
    simp [sameL, h3]
  | a :: l, b :: m, k + 1, x, y, h1, h2, h3 => by
    simp only [sameL, sameL_not l m k x y (by simpa using h1) (by simpa using h2) h3, Bool.and_false]
/-- Where an element lies, and its cells, in this world and every later one. -/
theorem row_cells {W : World} {lv : Value} {l : List A4} {ao : Option Addr} {n c k : Nat} {x : A4} (h : RowA W lv l) (hv : lv = .slice ao n c) (hn : l.length = n) (hk : l[k]? = some x) :
    ∃ p : Addr, (∀ w, (Instr.indexAt 32 (.slice ao n c) (.int .i64 k)).run Try.prog w = .ok (.pointer (some p)) w) ∧ ∀ w, Below W.heap.size W w →
      w.cell? p = some (.string x.1) ∧ w.cell? ⟨p.block, p.off + 1, none⟩ = some (.bool x.2.1) ∧ w.cell? ⟨p.block, p.off + 2, none⟩ = some (.int .i64 x.2.2.1) ∧ w.cell? ⟨p.block, p.off + 3, none⟩ = some (.string x.2.2.2) := by
  have hlt := (List.getElem?_eq_some_iff.1 hk).1
  rcases h with ⟨rfl, _⟩ | ⟨a, cap, h1, h2, h3, h4⟩
  · simp at hk
  · rw [hv] at h1
    obtain ⟨rfl, rfl, rfl⟩ : ao = some a ∧ n = l.length ∧ c = cap := by simpa using h1
    refine ⟨a.add (k * 4), fun w => index_runA a k _ _ hlt w, fun w hb => ?_⟩
    have hf := flatA_at l k x hk
    have e1 : ∀ j, j ≠ 0 → (⟨(a.add (k * 4)).block, (a.add (k * 4)).off + j, none⟩ : Addr) = a.add (k * 4 + j) := fun j hj => by
      have h5 : ∀ b : Addr, b.add j = ⟨b.block, b.off + j, none⟩ := fun b => by unfold Addr.add; rw [if_neg hj]
      rw [← add_add, h5]
    have g : ∀ j u, (flatA l)[j]? = some u → w.cell? (a.add j) = some u := fun j u hj => by
      have hc := h4 j u hj
      rw [hb.cell (World.block_lt_of_cell? W _ hc)]; exact hc
    rw [e1 1 (by decide), e1 2 (by decide), e1 3 (by decide)]
    exact ⟨g _ _ hf.1, g _ _ hf.2.1, g _ _ hf.2.2.1, g _ _ hf.2.2.2⟩
theorem row_addr {W : World} {ao : Option Addr} {n c k : Nat} {l : List A4} {x : A4} (h : RowA W (.slice ao n c) l) (hk : l[k]? = some x) : ∃ a, ao = some a := by
  rcases h with ⟨rfl, _⟩ | ⟨a, cap, h1, _⟩
  · simp at hk
  · exact ⟨a, by simp at h1; exact h1.1⟩
end Go.Proofs.Ytdomincmoaahoaa.At

namespace Go.Proofs.Ytdomincmoaahoaa.At
open Go.RowKit Go.Sort Go.Proofs.Ytdomincmoaahoaa.Va Go.Proofs.Ytdomincmoaahoaa.In

/-- Is it a small letter? -/
def letB (c : UInt8) : Bool := decide (97 ≤ c.toNat) && decide (c.toNat ≤ 122)
/-- Is it a name? -/
def nameB (s : ByteArray) : Bool := s.data.toList.all letB && (decide (1 ≤ s.size) && decide (s.size ≤ 12))
theorem nameB_not (s : ByteArray) (k : Nat) (h : k < s.size) (hc : letB s[k] = false) : nameB s = false := by
  have : s.data.toList.all letB = false := by
    rw [List.all_eq_false]
    exact ⟨s[k], by rw [Array.mem_toList_iff]; exact Array.getElem_mem h, by rw [hc]; decide⟩
  simp [nameB, this]
theorem nameB_end (s : ByteArray) (h : ∀ (j : Nat) (hj : j < s.size), letB s[j] = true) : nameB s = (decide (1 ≤ s.size) && decide (s.size ≤ 12)) := by
  have : s.data.toList.all letB = true := by
    rw [List.all_eq_true]
    intro c hc
    obtain ⟨j, hj, rfl⟩ := List.getElem_of_mem hc
    exact h j (by rw [Array.length_toList] at hj; exact hj)
  simp [nameB, this]

def pairB (p x : A4) : Bool := Op.bytesLess p.1.toList x.1.toList
/-- Is the attribute at that place right, and behind the one ahead of it? -/
def goodB (l : List A4) (k : Nat) : Bool := match l[k]? with
  | some x => nameB x.1 && rightV x.2.1 x.2.2.1 x.2.2.2 && (k == 0 || (match l[k - 1]? with
    | some p => pairB p x
    | none => true))
  | none => true
/-- May it be published? -/
def rightT (l : List A4) : Bool := (List.range l.length).all (goodB l) && decide (l.length ≤ 5)
theorem rightT_not (l : List A4) (k : Nat) (h : k < l.length) (hg : goodB l k = false) : rightT l = false := by
  have : (List.range l.length).all (goodB l) = false := by
    rw [List.all_eq_false]
    exact ⟨k, List.mem_range.2 h, by rw [hg]; decide⟩
  simp [rightT, this]
theorem rightT_end (l : List A4) (h : ∀ j, j < l.length → goodB l j = true) : rightT l = decide (l.length ≤ 5) := by
  have : (List.range l.length).all (goodB l) = true := by
    rw [List.all_eq_true]
    exact fun j hj => h j (List.mem_range.1 hj)
  simp [rightT, this]
end Go.Proofs.Ytdomincmoaahoaa.At

namespace Go.Proofs.Ytdomincmoaahoaa.At
open Go.RowKit Go.Proofs.Ytdomincmoaahoaa.Va

abbrev V3 := Bool × Int × ByteArray
theorem name_inj {a b : ByteArray} (h : a.toList = b.toList) : a = b := by
  rw [ByteArray.toList_eq, ByteArray.toList_eq] at h
  exact WideShapes.bytes_inj h
/-- The first value of that name. -/
def getA : List A4 → ByteArray → Option V3
  | [], _ => none
  | x :: r, n => if x.1 = n then some x.2 else getA r n
/-- With just that value of that name, in its place. -/
def putA : List A4 → ByteArray → V3 → List A4
  | [], n, v => [(n, v)]
  | x :: r, n, v => if Op.bytesLess x.1.toList n.toList = true then x :: putA r n v else if x.1 = n then (n, v) :: r else (n, v) :: x :: r
/-- Names that rise. -/
def Rise (l : List A4) : Prop := l.Pairwise fun x y => Op.bytesLess x.1.toList y.1.toList = true
theorem less_ne {a b : ByteArray} (h : Op.bytesLess a.toList b.toList = true) : a ≠ b := by
  rintro rfl
  rw [VaP.bl_irrefl] at h; cases h
theorem less_or {a b : ByteArray} (h1 : ¬ Op.bytesLess a.toList b.toList = true) (h2 : a ≠ b) : Op.bytesLess b.toList a.toList = true := by
  rcases VaP.bl_total a.toList b.toList with h | h | h
  · exact absurd h h1
  · exact absurd (name_inj h) h2
  · exact h

theorem get_put_self : ∀ (l : List A4) (n : ByteArray) (v : V3), getA (putA l n v) n = some v
  | [], n, v => by simp [putA, getA]
  | x :: r, n, v => by
    simp only [putA]
    split
    · rename_i h
      simp [getA, less_ne h, get_put_self r n v]
    · split <;> simp [getA]
theorem get_put_other : ∀ (l : List A4) (n m : ByteArray) (v : V3), m ≠ n → getA (putA l n v) m = getA l m
  | [], n, m, v, h => by simp [putA, getA, Ne.symm h]
  | x :: r, n, m, v, h => by
    simp only [putA]
    split
    · simp [getA, get_put_other r n m v h]
    · split
      · rename_i h2
        simp [getA, h2, Ne.symm h]
      · simp [getA, Ne.symm h]
theorem put_put : ∀ (l : List A4) (n : ByteArray) (v w : V3), putA (putA l n v) n w = putA l n w
  | [], n, v, w => by simp [putA, VaP.bl_irrefl]
  | x :: r, n, v, w => by
    simp only [putA]
    split
    · rename_i h
      simp [putA, h, put_put r n v w]
    · split
      · simp [putA, VaP.bl_irrefl]
      · simp [putA, VaP.bl_irrefl]
theorem get_none : ∀ (l : List A4) (n : ByteArray), (∀ x ∈ l, x.1 ≠ n) → getA l n = none
  | [], _, _ => rfl
  | x :: r, n, h => by
    simp only [getA]
    rw [if_neg (h x (List.mem_cons_self ..)), get_none r n (fun y hy => h y (List.mem_cons_of_mem _ hy))]
theorem get_mem : ∀ (l : List A4), Rise l → ∀ x ∈ l, getA l x.1 = some x.2
  | y :: r, h, x, hx => by
    obtain ⟨h1, h2⟩ := List.pairwise_cons.1 h
    simp only [getA]
    rcases List.mem_cons.1 hx with rfl | hx
    · simp
    · rw [if_neg (less_ne (h1 x hx)), get_mem r h2 x hx]
theorem put_len : ∀ (l : List A4) (n : ByteArray) (v : V3), Rise l → (putA l n v).length = l.length + (if (getA l n).isSome then 0 else 1)
  | [], n, v, _ => by simp [putA, getA]
  | x :: r, n, v, h => by
    obtain ⟨h1, h2⟩ := List.pairwise_cons.1 h
    simp only [putA]
    split
    · rename_i hl
      simp only [List.length_cons, getA, if_neg (less_ne hl), put_len r n v h2]
      omega
    · split
      · rename_i hl he
        simp [getA, he]
      · rename_i hl he
        have hn : getA r n = none := get_none r n fun y hy e => by
          have h3 := h1 y hy
          rw [e] at h3
          exact hl h3
        simp [getA, he, hn]
theorem put_mem : ∀ (l : List A4) (n : ByteArray) (v : V3) (y : A4), y ∈ putA l n v → y = (n, v) ∨ y ∈ l
  | [], n, v, y, h => by simpa [putA] using h
  | x :: r, n, v, y, h => by
    simp only [putA] at h
    split at h
    · rcases List.mem_cons.1 h with rfl | h
      · exact Or.inr (List.mem_cons_self ..)
      · rcases put_mem r n v y h with h | h
        · exact Or.inl h
        · exact Or.inr (List.mem_cons_of_mem _ h)
    · split at h
      · rcases List.mem_cons.1 h with rfl | h
        · exact Or.inl rfl
        · exact Or.inr (List.mem_cons_of_mem _ h)
      · rcases List.mem_cons.1 h with rfl | h
        · exact Or.inl rfl
        · exact Or.inr h
theorem put_rise : ∀ (l : List A4) (n : ByteArray) (v : V3), Rise l → Rise (putA l n v)
  | [], n, v, _ => by simp [putA, Rise]
  | x :: r, n, v, h => by
    obtain ⟨h1, h2⟩ := List.pairwise_cons.1 h
    simp only [putA]
    split
    · rename_i hl
      refine List.pairwise_cons.2 ⟨fun y hy => ?_, put_rise r n v h2⟩
      rcases put_mem r n v y hy with rfl | hy
      · exact hl
      · exact h1 y hy
    · rename_i hl
      split
      · rename_i he
        refine List.pairwise_cons.2 ⟨fun y hy => ?_, h2⟩
        have h3 := h1 y hy
        rw [he] at h3
        exact h3
      · rename_i he
        have hx := less_or hl he
        refine List.pairwise_cons.2 ⟨fun y hy => ?_, h⟩
        rcases List.mem_cons.1 hy with rfl | hy
        · exact hx
        · exact VaP.bl_trans _ _ _ hx (h1 y hy)
theorem eqlA_refl (x : A4) : eqlA x x = true := by simp [eqlA]
theorem sameL_refl : ∀ l, sameL l l = true
  | [] => rfl
  | x :: l => by simp [sameL, eqlA_refl, sameL_refl l]
theorem eqlA_iff (x y : A4) : eqlA x y = true ↔ x = y := by
  constructor
  · intro h
    obtain ⟨a, b, c, d⟩ := x
    obtain ⟨a', b', c', d'⟩ := y
    simp only [eqlA, Bool.and_eq_true, beq_iff_eq] at h
    rw [name_inj h.1, h.2.1.1, h.2.1.2, name_inj h.2.2]
  · rintro rfl; exact eqlA_refl _
theorem sameL_iff : ∀ l m, sameL l m = true ↔ l = m
  | [], [] => by simp [sameL]
  | [], _ :: _ => by simp [sameL]
  | _ :: _, [] => by simp [sameL]
  | x :: l, y :: m => by simp [sameL, eqlA_iff, sameL_iff l m]

/-! ### the publications that numbers make -/
theorem nm_list (i : Nat) : (nm i).toList = [UInt8.ofNat (97 + i)] := by rw [ByteArray.toList_eq]; rfl
theorem nm_less (i j : Nat) (h : i < j) (hj : j < 7) : Op.bytesLess (nm i).toList (nm j).toList = true := by
  rw [nm_list, nm_list, VaP.bl_cons]
  left
  simp only [UInt8.toNat_ofNat']
  omega
theorem tup_names (has vals : List Int) : ∀ k, ∀ x ∈ tup has vals k, ∃ i, i < k ∧ x.1 = nm i
  | 0, x, h => by simp [tup] at h
  | k + 1, x, h => by
    simp only [tup] at h
    split at h
    · rcases List.mem_append.1 h with h | h
      · obtain ⟨i, h1, h2⟩ := tup_names has vals k x h
        exact ⟨i, by omega, h2⟩
      · simp at h
        exact ⟨k, by omega, by rw [h]⟩
    · obtain ⟨i, h1, h2⟩ := tup_names has vals k x h
      exact ⟨i, by omega, h2⟩
theorem tup_rise (has vals : List Int) : ∀ k, k ≤ 7 → Rise (tup has vals k)
  | 0, _ => List.Pairwise.nil
  | k + 1, hk => by
    simp only [tup]
    split
    · unfold Rise
      rw [List.pairwise_append]
      refine ⟨tup_rise has vals k (by omega), by simp, fun x hx y hy => ?_⟩
      obtain ⟨i, h1, h2⟩ := tup_names has vals k x hx
      simp at hy
      rw [h2, hy]
      exact nm_less i k h1 (by omega)
    · exact tup_rise has vals k (by omega)
theorem tup_right (has vals : List Int) : ∀ k, ∀ x ∈ tup has vals k, rightV x.2.1 x.2.2.1 x.2.2.2 = true ∧ x.2.2.2.size ≤ 3
  | 0, x, h => by simp [tup] at h
  | k + 1, x, h => by
    simp only [tup] at h
    split at h
    · rcases List.mem_append.1 h with h | h
      · exact tup_right has vals k x h
      · simp at h
        rw [h]
        exact ⟨kv_right _, kvS_size _⟩
    · exact tup_right has vals k x h
theorem tup_five (has vals : List Int) : ∀ k, (tup has vals k).length ≤ 5
  | 0 => by simp [tup]
  | k + 1 => by
    have := tup_five has vals k
    simp only [tup]
    split
    · rename_i h
      simp; omega
    · exact this
theorem nm_size (i : Nat) : (nm i).size = 1 := rfl
theorem nameB_nm (i : Nat) (h : i < 7) : nameB (nm i) = true := by
  match i, h with
  | 0, _ => decide
  | 1, _ => decide
  | 2, _ => decide
  | 3, _ => decide
  | 4, _ => decide
  | 5, _ => decide
  | 6, _ => decide
end Go.Proofs.Ytdomincmoaahoaa.At

namespace Go.Proofs.Ytdomincmoaahoaa.At
open Go.RowKit Go.Sort Go.Proofs.Ytdomincmoaahoaa.Va Go.Proofs.Ytdomincmoaahoaa.In

/-- What Get hands back. -/
def gotV : Option V3 → Value
  | some v => .tuple #[vl v.1 v.2.1 v.2.2, .bool true]
  | none => .tuple #[vl false 0 ⟨#[]⟩, .bool false]
/-- Sizes that every law keeps to. -/
def Small (l : List A4) : Prop := l.length ≤ 100 ∧ ∀ x ∈ l, x.1.size ≤ 100 ∧ x.2.2.2.size ≤ 100 ∧ -9223372036854775808 ≤ x.2.2.1 ∧ x.2.2.1 ≤ 9223372036854775807
def GetOk : Prop := ∀ (lv : Value) (l : List A4) (n : ByteArray) (w : World), RowA w lv l → l.length ≤ 100 → n.size ≤ maxLen →
  Calls Try.prog 31 #[lv, .string n] w fun e w' => e = .returned (gotV (getA l n)) ∧ Below w.heap.size w w'
def RightOk : Prop := ∀ (lv : Value) (l : List A4) (w : World), RowA w lv l → Small l →
  Calls Try.prog 20 #[lv] w fun e w' => e = .returned (.bool (rightT l)) ∧ Below w.heap.size w w'
end Go.Proofs.Ytdomincmoaahoaa.At

namespace Go.Proofs.Ytdomincmoaahoaa.At
open Go.RowKit Go.Sort Go.Proofs.Ytdomincmoaahoaa.Va Go.Proofs.Ytdomincmoaahoaa.In

/-- Block b holds just that value. -/
def BoxV (W : World) (b : Nat) (t : Bool) (i : Int) (s : ByteArray) : Prop := W.heap[b]? = some (.cells #[.bool t, .int .i64 i, .string s] 45)
theorem BoxV.cell {W : World} {b : Nat} {t : Bool} {i : Int} {s : ByteArray} (h : BoxV W b t i s) (k : Nat) : W.cell? ⟨b, k, none⟩ = #[.bool t, .int .i64 i, .string s][k]? := by
  unfold BoxV at h
  simp [World.cell?, h]
theorem BoxV.fr {W : World} {b : Nat} {t : Bool} {i : Int} {s : ByteArray} (h : BoxV W b t i s) (k : Nat) : W.frozen? ⟨b, k, none⟩ = false := by
  unfold BoxV at h
  simp [World.frozen?, h]
theorem BoxV.lt {W : World} {b : Nat} {t : Bool} {i : Int} {s : ByteArray} (h : BoxV W b t i s) : b < W.heap.size := lt_of_heap h
theorem BoxV.on {W W' : World} {b : Nat} {t : Bool} {i : Int} {s : ByteArray} (h : BoxV W b t i s) (hb : Below W.heap.size W W') : BoxV W' b t i s := by
  have hl := h.lt
  unfold BoxV at *
  rw [hb.block _ hl]; exact h
theorem BoxV.more {W : World} {b : Nat} {t : Bool} {i : Int} {s : ByteArray} (h : BoxV W b t i s) (o : Obj) : BoxV (W.alloc o) b t i s := h.on ((Below.refl _ _).alloc (Nat.le_refl _) _)
theorem box_new (W : World) (t : Bool) (i : Int) (s : ByteArray) : BoxV (W.alloc (.cells #[.bool t, .int .i64 i, .string s] 45)) W.heap.size t i s := by
  unfold BoxV
  show (W.heap.push _)[W.heap.size]? = _
  simp
/-- The world once all of it is written. -/
def setV (W : World) (b : Nat) (t : Bool) (i : Int) (s : ByteArray) : World := ((W.setCell ⟨b, 0, none⟩ (.bool t)).setCell ⟨b, 1, none⟩ (.int .i64 i)).setCell ⟨b, 2, none⟩ (.string s)
theorem BoxV.set3 {W : World} {b : Nat} {t : Bool} {i : Int} {s : ByteArray} (h : BoxV W b t i s) (t' : Bool) (i' : Int) (s' : ByteArray) : BoxV (setV W b t' i' s') b t' i' s' := by
  unfold BoxV setV at *
  simp [World.setCell, Array.getElem?_modify, h]
theorem below_setV {B b : Nat} {W W' : World} (hb : Below B W W') (hB : B ≤ b) (t : Bool) (i : Int) (s : ByteArray) : Below B W (setV W' b t i s) := ((hb.setCell hB _).setCell hB _).setCell hB _
/-- What is stored into it is there; nothing else has changed. -/
theorem store_V {W : World} {b : Nat} {t : Bool} {i : Int} {s : ByteArray} (h : BoxV W b t i s) (t' : Bool) (i' : Int) (s' : ByteArray) :
    ∃ W', (Instr.storeAt 45 (.pointer (some ⟨b, 0, none⟩)) (vl t' i' s')).run Try.prog W = .ok () W' ∧ BoxV W' b t' i' s' ∧ (∀ k, k ≠ b → W'.heap[k]? = W.heap[k]?) ∧ (∀ B, B ≤ b → Below B W W') := by
  have c0 := h.cell 0
  have c1 := h.cell 1
  have c2 := h.cell 2
  have f := h.fr
  refine ⟨((W.setCell ⟨b, 0, none⟩ (.bool t')).setCell ⟨b, 1, none⟩ (.int .i64 i')).setCell ⟨b, 2, none⟩ (.string s'), ?_, ?_, fun k hk => ?_, fun B hB => ?_⟩
  · simp at c0 c1 c2
    simp [go_sem, c0, c1, c2, f]
  · unfold BoxV at *
    simp [World.setCell, Array.getElem?_modify, h]
  · have hk2 : ¬ b = k := fun e => hk e.symm
    simp [World.setCell, Array.getElem?_modify, hk2]
  · exact (((Below.refl _ _).setCell hB _).setCell hB _).setCell hB _
/-- Block b holds just that attribute. -/
def BoxA (W : World) (b : Nat) (x : A4) : Prop := W.heap[b]? = some (.cells #[.string x.1, .bool x.2.1, .int .i64 x.2.2.1, .string x.2.2.2] 47)
theorem BoxA.cell {W : World} {b : Nat} {x : A4} (h : BoxA W b x) (k : Nat) : W.cell? ⟨b, k, none⟩ = #[.string x.1, .bool x.2.1, .int .i64 x.2.2.1, .string x.2.2.2][k]? := by
  unfold BoxA at h
  simp [World.cell?, h]
theorem BoxA.lt {W : World} {b : Nat} {x : A4} (h : BoxA W b x) : b < W.heap.size := lt_of_heap h
theorem BoxA.on {W W' : World} {b : Nat} {x : A4} (h : BoxA W b x) (hb : Below W.heap.size W W') : BoxA W' b x := by
  have hl := h.lt
  unfold BoxA at *
  rw [hb.block _ hl]; exact h
theorem boxA_new (W : World) (x : A4) : BoxA (W.alloc (.cells #[.string x.1, .bool x.2.1, .int .i64 x.2.2.1, .string x.2.2.2] 47)) W.heap.size x := by
  unfold BoxA
  show (W.heap.push _)[W.heap.size]? = _
  simp
end Go.Proofs.Ytdomincmoaahoaa.At

namespace Go.Proofs.Ytdomincmoaahoaa.At
open Go.RowKit Go.Sort Go.Proofs.Ytdomincmoaahoaa.Va Go.Proofs.Ytdomincmoaahoaa.In

theorem getA_skip : ∀ (l : List A4) (n : ByteArray) (k : Nat) (x : A4), l[k]? = some x → x.1 = n → (∀ (j : Nat) (y : A4), j < k → l[j]? = some y → y.1 ≠ n) → getA l n = some x.2
  | [], n, k, x, h, _, _ => by simp at h
  | y :: r, n, 0, x, h, e, _ => by simp at h; subst h; simp [getA, e]
  | y :: r, n, k + 1, x, h, e, hn => by
    simp only [getA]
    rw [if_neg (hn 0 y (by omega) rfl), getA_skip r n k x (by simpa using h) e (fun j z hj hz => hn (j + 1) z (by omega) (by simpa using hz))]
theorem getA_none (l : List A4) (n : ByteArray) (h : ∀ (j : Nat) (y : A4), j < l.length → l[j]? = some y → y.1 ≠ n) : getA l n = none :=
  get_none l n fun x hx => by
    obtain ⟨j, hj, e⟩ := List.getElem_of_mem hx
    exact h j x hj (by rw [List.getElem?_eq_getElem hj, e])

set_option maxRecDepth 100000 in
set_option maxHeartbeats 4000000 in
theorem getOk : GetOk := by
  intro lv l n w hl h5 hn
  have HL := Lib.hid hl
  obtain ⟨lo, lc, rfl⟩ := hl.len
  have B0 := Lib.hid (show Below w.heap.size w (w.alloc (.cells #[.bool false, .int .i64 0, .string ⟨#[]⟩] 45)) from (Below.refl _ _).alloc (Nat.le_refl _) _)
  have HT0 := Lib.hid (box_new w false 0 ⟨#[]⟩)
  clear hl
  go_enter Try.func31, Try.ntmps31
  go_wp2
  generalize w.alloc (.cells #[.bool false, .int .i64 0, .string ⟨#[]⟩] 45) = w1 at B0 HT0 ⊢
  go_loopw [10] (fun i wr => ∃ k : Nat, k ≤ l.length ∧ i = .int .i64 k ∧ Below w.heap.size w wr ∧ BoxV wr w.heap.size false 0 ⟨#[]⟩ ∧ ∀ (j : Nat) (y : A4), j < k → l[j]? = some y → y.1 ≠ n) (fun i _ => l.length - (intOf i).toNat)
  case atStart => exact ⟨0, Nat.zero_le _, rfl, B0.out, HT0.out, fun j y h => by omega⟩
  case round =>
    obtain ⟨k, hk, rfl, hb, ht, hall⟩ := hrel
    have HB := Lib.hid hb
    have HT := Lib.hid ht
    have AL := Lib.hid hall
    clear hb hall ht
    by_cases hlt : k < l.length
    · obtain ⟨⟨xn, xt, xi, xs⟩, hx⟩ : ∃ x, l[k]? = some x := ⟨_, List.getElem?_eq_getElem hlt⟩
      obtain ⟨p, ix, px⟩ := row_cells HL.out rfl rfl hx
      obtain ⟨p0, p1, p2, p3⟩ := px _ HB.out
      have HX := Lib.hid hx
      have B4 := Lib.hid (HB.out.alloc HB.out.size (.cells #[.string xn, .bool xt, .int .i64 xi, .string xs] 47))
      have T4 := Lib.hid (HT.out.more (.cells #[.string xn, .bool xt, .int .i64 xi, .string xs] 47))
      clear hx px
      simp only at p0 p1 p2 p3
      by_cases he : xn = n
      · have hn : (xn.toList == n.toList) = true := by rw [he]; exact beq_self_eq_true _
        have R := Lib.hid (getA_skip l n k _ HX.out he AL.out)
        have HE := Lib.hid he
        clear he
        have c0 := HT.out.cell 0
        have c1 := HT.out.cell 1
        have c2 := HT.out.cell 2
        have f0 := HT.out.fr 0
        have f1 := HT.out.fr 1
        have f2 := HT.out.fr 2
        have hlt4 := HT.out.lt
        simp at c0 c1 c2
        go_wp2
        have T5 := (HT.out.set3 xt xi xs).more (.cells #[.string xn, .bool xt, .int .i64 xi, .string xs] 47)
        have B5 := (below_setV HB.out (Nat.le_refl _) xt xi xs).alloc (below_setV HB.out (Nat.le_refl _) xt xi xs).size (.cells #[.string xn, .bool xt, .int .i64 xi, .string xs] 47)
        unfold setV at T5 B5
        generalize World.alloc _ (.cells #[.string xn, .bool xt, .int .i64 xi, .string xs] 47) = w6 at T5 B5 ⊢
        have d0 := T5.cell 0
        have d1 := T5.cell 1
        have d2 := T5.cell 2
        simp at d0 d1 d2
        refine bodyPost_ret (v := gotV (some (xt, xi, xs))) (by simp [results, Try.results31, go_sem, d0, d1, d2, gotV]) rfl ⟨by rw [R.out], B5⟩
      · have hn : (xn.toList == n.toList) = false := by rw [beq_eq_false_iff_ne]; exact fun h => he (name_inj h)
        have HE := Lib.hid he
        clear he
        go_wp2
        go_roundw
        case rel => exact ⟨k + 1, by omega, by go_num, B4.out, T4.out, fun j y hj hy => by
          rcases Nat.lt_or_ge j k with h3 | h3
          · exact AL.out j y h3 hy
          · obtain rfl : j = k := by omega
            have e := HX.out
            rw [hy] at e
            rw [Option.some.inj e]
            exact HE.out⟩
        case measure => simp [intOf]; omega
    · obtain rfl : k = l.length := by omega
      have R := Lib.hid (getA_none l n (fun j y hj hy => AL.out j y hj hy))
      have c0 := HT.out.cell 0
      have c1 := HT.out.cell 1
      have c2 := HT.out.cell 2
      have f0 := HT.out.fr 0
      have f1 := HT.out.fr 1
      have f2 := HT.out.fr 2
      have hlt4 := HT.out.lt
      simp at c0 c1 c2
      go_wp2
      have T5 := HT.out.set3 false 0 ⟨#[]⟩
      have B5 := below_setV HB.out (Nat.le_refl _) false 0 ⟨#[]⟩
      unfold setV at T5 B5
      generalize World.setCell _ _ (.string ⟨#[]⟩) = w6 at T5 B5 ⊢
      have d0 := T5.cell 0
      have d1 := T5.cell 1
      have d2 := T5.cell 2
      simp at d0 d1 d2
      refine bodyPost_ret (v := gotV none) (by simp [results, Try.results31, go_sem, d0, d1, d2, gotV]) rfl ⟨by rw [R.out], B5⟩
end Go.Proofs.Ytdomincmoaahoaa.At

namespace Go.Proofs.Ytdomincmoaahoaa.Va
open Go.RowKit

set_option maxHeartbeats 400000 in
theorem right_any (t : Bool) (n : Int) (s : ByteArray) (w : World) (hs : s.size ≤ 9223372036854775807) :
    Calls Try.prog 36 #[vl t n s] w fun e w' => e = .returned (.bool (rightV t n s)) ∧ Below w.heap.size w w' := by
  cases t
  · go_enter Try.func36, Try.ntmps36
    go_wp2
    go_ret
    exact ⟨rfl, (Below.refl _ _).alloc (Nat.le_refl _) _⟩
  · by_cases hn : n = 0
    · subst hn
      have R := Lib.hid (show decide ((s.size : Int) ≤ 12) = rightV true 0 s by simp [rightV]; omega)
      go_enter Try.func36, Try.ntmps36
      go_wp2
      go_ret
      exact ⟨ret_bool R.out, (Below.refl _ _).alloc (Nat.le_refl _) _⟩
    · have R := Lib.hid (show false = rightV true n s by simp [rightV, hn])
      have hb : (n == 0) = false := by simpa using hn
      have HN := Lib.hid hn
      clear hn
      go_enter Try.func36, Try.ntmps36
      go_wp2
      go_ret
      exact ⟨ret_bool R.out, (Below.refl _ _).alloc (Nat.le_refl _) _⟩

theorem text_any (s : ByteArray) (w : World) :
    Calls Try.prog 55 #[.string s] w fun e w' => e = .returned (vl true 0 s) ∧ Below w.heap.size w w' := by
  go_enter Try.func55, Try.ntmps55
  go_wp2
  exact bodyPost_ret (v := vl true 0 s) (by simp [results, Try.results55, go_sem]) rfl ⟨rfl, (Below.refl _ _).alloc (Nat.le_refl _) _⟩

end Go.Proofs.Ytdomincmoaahoaa.Va
