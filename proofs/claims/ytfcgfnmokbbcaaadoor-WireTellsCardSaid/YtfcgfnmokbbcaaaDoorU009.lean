/-
  Attributes of package api: as values, as cells, as lists in memory. No program's call in it.
  Names, pick, Tuple of the statements' own packages. Condition: numbers of 64 bits; lists no longer than a machine holds.
  Same of two lists of attributes, of the statements' own package. Condition: lists far below a machine's length.
-/
import Derived.Test.YtfcgfnmokbbcaaaDoorU008
import Derived.Laws.AppendOwn
import Derived.Laws.OwnMore
import Derived.Deep.Slices
import Derived.WalkKit
import Derived.Maps.AppendAt
import Derived.Lib.QuietBelow
import Derived.BigQuiet
namespace Go.Proofs.YtfcgfnmokbbcaaaDoor.At
open Go.RowKit Go.Proofs.YtfcgfnmokbbcaaaDoor.Va

/-- An attribute: its name; is its value a text, its number, its text. -/
abbrev A4 := ByteArray × Bool × Int × ByteArray
abbrev av (x : A4) : Value := .agg #[.string x.1, .bool x.2.1, .int .i64 x.2.2.1, .string x.2.2.2]
def cellsA (x : A4) : List Value := [.string x.1, .bool x.2.1, .int .i64 x.2.2.1, .string x.2.2.2]
def flatA : List A4 → List Value
  | [] => []
  | x :: r => .string x.1 :: .bool x.2.1 :: .int .i64 x.2.2.1 :: .string x.2.2.2 :: flatA r
theorem flatA_length : ∀ l, (flatA l).length = l.length * 4
  | [] => rfl
  | x :: r => by simp [flatA, flatA_length r]; omega
theorem flatA_append : ∀ a b, flatA (a ++ b) = flatA a ++ flatA b
  | [], b => rfl
  | x :: r, b => by simp [flatA, flatA_append r b]
theorem flatA_one : ∀ l, ∀ u ∈ flatA l, u.oneCell' = true
  | [], u, h => by cases h
  | x :: r, u, h => by
    simp only [flatA, List.mem_cons] at h
    rcases h with rfl | rfl | rfl | rfl | h
    · rfl
    · rfl
    · rfl
    · rfl
    · exact flatA_one r u h
theorem flatA_at : ∀ (l : List A4) (m : Nat) (x : A4), l[m]? = some x → (flatA l)[m * 4]? = some (.string x.1) ∧ (flatA l)[m * 4 + 1]? = some (.bool x.2.1) ∧ (flatA l)[m * 4 + 2]? = some (.int .i64 x.2.2.1) ∧ (flatA l)[m * 4 + 3]? = some (.string x.2.2.2)
  | [], m, x, h => by simp at h
  | y :: r, 0, x, h => by
    simp at h
    subst h
    exact ⟨rfl, rfl, rfl, rfl⟩
  | y :: r, m + 1, x, h => by
    have h2 := flatA_at r m x (by simpa using h)
    rw [show (m + 1) * 4 = m * 4 + 1 + 1 + 1 + 1 by omega, show m * 4 + 1 + 1 + 1 + 1 + 2 = m * 4 + 2 + 1 + 1 + 1 + 1 by omega, show m * 4 + 1 + 1 + 1 + 1 + 3 = m * 4 + 3 + 1 + 1 + 1 + 1 by omega]
    exact h2
theorem add_add (a : Addr) (i j : Nat) : (a.add i).add j = a.add (i + j) := by
  unfold Addr.add
  by_cases hi : i = 0 <;> by_cases hj : j = 0 <;> simp [hi, hj, Nat.add_assoc]

/-- A list of attributes in memory, wherever it begins. -/
def RowA (W : World) (lv : Value) (l : List A4) : Prop :=
  (l = [] ∧ lv = .slice none 0 0) ∨ ∃ (a : Addr) (cap : Nat), lv = .slice (some a) l.length cap ∧ l.length ≤ cap ∧ cap ≤ maxLen ∧ ∀ j u, (flatA l)[j]? = some u → W.cell? (a.add j) = some u
theorem RowA.on {W W' : World} {lv : Value} {l : List A4} (h : RowA W lv l) (hb : Below W.heap.size W W') : RowA W' lv l := by
  rcases h with h | ⟨a, cap, h1, h2, h3, h5⟩
  · exact Or.inl h
  · exact Or.inr ⟨a, cap, h1, h2, h3, fun j u hj => by
      have hc := h5 j u hj
      rw [hb.cell (World.block_lt_of_cell? W _ hc)]; exact hc⟩
theorem RowA.len {W : World} {lv : Value} {l : List A4} (h : RowA W lv l) : ∃ ao cap, lv = .slice ao l.length cap := by
  rcases h with ⟨rfl, rfl⟩ | ⟨a, cap, rfl, _⟩
  · exact ⟨none, 0, rfl⟩
  · exact ⟨_, cap, rfl⟩
theorem lt_of_heap {w : World} {b : Nat} {o : Obj} (h : w.heap[b]? = some o) : b < w.heap.size := by
  rcases Nat.lt_or_ge b w.heap.size with h0 | h0
  · exact h0
  · simp [Array.getElem?_eq_none h0] at h
theorem RowA.of_owns {W : World} {B : Nat} {lv : Value} {l : List A4} (h : W.ownsRow B 61 4 lv l.length (flatA l)) : RowA W lv l := by
  rcases h.2 with ⟨h1, h2⟩ | ⟨g, cap, cur, h1, h2, h3, h4, h5, h6, h7⟩
  · exact Or.inl ⟨List.eq_nil_of_length_eq_zero h2, h1⟩
  · exact Or.inr ⟨⟨g, 0, none⟩, cap, h1, h4, h5, fun j u hj => h.cells (g := g) (by rw [h1]; rfl) j u hj⟩
theorem index_runA (a : Addr) (m len cap : Nat) (h : m < len) (w : World) : (Instr.indexAt 30 (.slice (some a) len cap) (.int .i64 m)).run Tryd.prog w = .ok (.pointer (some (a.add (m * 4)))) w := by
  have h1 : (m : Int) < len := by omega
  simp [go_sem, Tryd.underlying30, h1]
theorem load_runA (w : World) (p : Addr) (x : A4) (h : ∀ j u, (cellsA x)[j]? = some u → w.cell? (p.add j) = some u) : (Instr.loadAt 61 (.pointer (some p))).run Tryd.prog w = .ok (av x) w := by
  have h0 := h 0 _ rfl
  have h1 := h 1 _ rfl
  have h2 := h 2 _ rfl
  have h3 := h 3 _ rfl
  simp [Addr.add] at h0 h1 h2 h3
  simp [go_sem, h0, h1, h2, h3]

theorem stoodA : Tryd.prog.stoodInHeld 61 = false := by kernel_rfl
/-- Are two attributes the same? -/
def eqlA (x y : A4) : Bool := x.1.toList == y.1.toList && (x.2.1 == y.2.1 && x.2.2.1 == y.2.2.1 && x.2.2.2.toList == y.2.2.2.toList)
set_option maxRecDepth 100000 in
theorem neqA (x y : A4) (r : Bool) (hr : eqlA x y = r) (w : World) : (binOp .neq 61 (av x) (av y)).run Tryd.prog w = .ok (.bool (!r)) w := by
  have st := stoodA
  subst hr
  obtain ⟨a, b, c, d⟩ := x
  obtain ⟨a', b', c', d'⟩ := y
  unfold eqlA
  by_cases h1 : a.toList = a'.toList <;> by_cases h2 : b = b' <;> by_cases h3 : c = c' <;> by_cases h4 : d.toList = d'.toList <;> simp [go_sem, Tryd.underlying61, Tryd.underlying59, Tryd.underlying4, Tryd.underlying3, Tryd.underlying9, st, h1, h2, h3, h4]
end Go.Proofs.YtfcgfnmokbbcaaaDoor.At

namespace Go.Proofs.YtfcgfnmokbbcaaaDoor.At
open Go.RowKit Go.Proofs.YtfcgfnmokbbcaaaDoor.Va Go.Proofs.YtfcgfnmokbbcaaaDoor.In

/-- The names of attributes. -/
def nm (i : Nat) : ByteArray := ⟨#[UInt8.ofNat (97 + i)]⟩
def nmCells : Array Value := #[.string ⟨#[97]⟩, .string ⟨#[98]⟩, .string ⟨#[99]⟩, .string ⟨#[100]⟩, .string ⟨#[101]⟩, .string ⟨#[102]⟩, .string ⟨#[103]⟩]
theorem nm_at (i : Nat) (h : i < 7) : nmCells[i]? = some (.string (nm i)) := by
  match i, h with
  | 0, _ => rfl
  | 1, _ => rfl
  | 2, _ => rfl
  | 3, _ => rfl
  | 4, _ => rfl
  | 5, _ => rfl
  | 6, _ => rfl
theorem names_any (w : World) : Calls Tryd.prog 55 #[] w fun e w' => e = .returned (.slice (some ⟨w.heap.size, 0, none⟩) 7 7) ∧ w' = w.alloc (.cells nmCells 9) := by
  go_enter Tryd.func55, Tryd.ntmps55
  go_wp2
  go_ret
  exact ⟨rfl, rfl⟩

def pickZ (zs : List Int) (i : Nat) : Int := if zs = [] then 0 else zs.getD (i % zs.length) 0
set_option maxHeartbeats 400000 in
theorem pick_any (nv : Value) (zs : List Int) (i : Nat) (w : World) (hz : InInts w nv zs) (hl : zs.length ≤ maxLen) (hi : i ≤ 100) :
    Calls Tryd.prog 57 #[nv, .int .i64 i] w fun e w' => e = .returned (.int .i64 (pickZ zs i)) ∧ w = w' := by
  obtain ⟨ao, cap, rfl⟩ := hz.shape
  unfold maxLen at hl
  cases zs with
  | nil =>
    go_enter Tryd.func57, Tryd.ntmps57
    go_wp2
    go_ret
    exact ⟨rfl, rfl⟩
  | cons z r =>
    have hm : i % (z :: r).length < (z :: r).length := Nat.mod_lt _ (by simp)
    obtain ⟨y, hy⟩ : ∃ y, (z :: r)[i % (z :: r).length]? = some y := ⟨_, List.getElem?_eq_getElem hm⟩
    obtain ⟨_, p, _, hix, hpc⟩ := hz.at_ _ y hy
    have P := Lib.hid (show pickZ (z :: r) i = y by unfold pickZ; rw [if_neg (by simp), List.getD_eq_getElem?_getD, hy]; rfl)
    have h0 : ((((z :: r).length : Nat) : Int) == 0) = false := by simp; omega
    have hne : (((z :: r).length : Nat) : Int) ≠ 0 := by simp; omega
    have ht : (i : Int) % ((z :: r).length : Nat) = ((i % (z :: r).length : Nat) : Int) := rfl
    have ht2 : (i : Int).tmod ((z :: r).length : Nat) = ((i % (z :: r).length : Nat) : Int) := by
      rw [Int.tmod_eq_emod_of_nonneg (by omega)]; rfl
    have hn0 : 0 < (((z :: r).length : Nat) : Int) := by simp
    generalize (z :: r).length = n at *
    generalize i % n = m at *
    clear hz hy hm
    go_enter Tryd.func57, Tryd.ntmps57
    go_wp2
    go_ret
    exact ⟨Wi.ret_int P.out.symm, rfl⟩

/-- Is the attribute of that place there? -/
def odd (z : Int) : Bool := bits BinOp.and IntKind.i64 z 1 == 1
def valOf (n : Int) : Bool × Int × ByteArray := (!(evn n), kvN n, kvS n)
/-- The publication that numbers make, up to place i. -/
def tup (has vals : List Int) : Nat → List A4
  | 0 => []
  | i + 1 => if i < has.length ∧ odd (has.getD i 0) = true ∧ (tup has vals i).length < 5 then tup has vals i ++ [(nm i, valOf (pickZ vals i))] else tup has vals i
theorem infoPA : (Tryd.prog.info? 61).map (fun i => (i.zero, i.size, i.bytes)) = some (some (.agg #[.string ⟨#[]⟩, .bool false, .int .i64 0, .string ⟨#[]⟩]), 4, 48) := by kernel_rfl
theorem infoA : ∃ i, Tryd.prog.info? 61 = some i ∧ i.zero = some (.agg #[.string ⟨#[]⟩, .bool false, .int .i64 0, .string ⟨#[]⟩]) ∧ i.size = 4 ∧ i.bytes = 48 := by
  have h := infoPA
  cases hi : Tryd.prog.info? 61 with
  | none => rw [hi] at h; cases h
  | some i =>
    rw [hi] at h
    simp only [Option.map_some, Option.some.injEq, Prod.mk.injEq] at h
    exact ⟨i, rfl, h.1, h.2.1, h.2.2⟩
theorem pickZ_bd {W : World} {nv : Value} {zs : List Int} (hz : InInts W nv zs) (i : Nat) : -9223372036854775808 ≤ pickZ zs i ∧ pickZ zs i ≤ 9223372036854775807 := by
  unfold pickZ
  split
  · omega
  · rename_i h
    have hm : i % zs.length < zs.length := Nat.mod_lt _ (List.length_pos_iff.2 h)
    have := (hz.at_ _ _ (List.getElem?_eq_getElem hm)).1
    rw [List.getD_eq_getElem?_getD, List.getElem?_eq_getElem hm]
    exact this

theorem tup_len (has vals : List Int) : ∀ k, (tup has vals k).length ≤ k
  | 0 => Nat.le_refl _
  | k + 1 => by
    have h := tup_len has vals k
    simp only [tup]
    split
    · simp; omega
    · omega
theorem own_on {W W' : World} {B k : Nat} {e : TypeId} {v : Value} {n : Nat} {xs : List Value} (h : W.ownsRow B e k v n xs) (hb : Below W.heap.size W W') : W'.ownsRow B e k v n xs := by
  refine ⟨h.1, ?_⟩
  rcases h.2 with h2 | ⟨g, cap, cur, h1, h2, h3, h4⟩
  · exact Or.inl h2
  · exact Or.inr ⟨g, cap, cur, h1, h2, by rw [hb.block _ (lt_of_heap h3)]; exact h3, h4⟩
theorem own_less {W : World} {B B' k : Nat} {e : TypeId} {v : Value} {n : Nat} {xs : List Value} (hB : B' ≤ B) (h : W.ownsRow B e k v n xs) : W.ownsRow B' e k v n xs := by
  refine ⟨h.1, ?_⟩
  rcases h.2 with h2 | ⟨g, cap, cur, h1, h2, h3⟩
  · exact Or.inl h2
  · exact Or.inr ⟨g, cap, cur, h1, Nat.le_trans hB h2, h3⟩
theorem cells4New (w : World) (x0 x1 x2 x3 : Value) (t : TypeId) : ∀ j u, [x0, x1, x2, x3][j]? = some u → (w.alloc (.cells #[x0, x1, x2, x3] t)).cell? ((⟨w.heap.size, 0, none⟩ : Addr).add j) = some u := by
  intro j u hj
  have e : (⟨w.heap.size, 0, none⟩ : Addr).add j = ⟨w.heap.size, j, none⟩ := by unfold Addr.add; split <;> simp_all
  rw [e, World.cell?_alloc_at _ _ _ _ rfl]
  simpa using hj
set_option maxRecDepth 100000 in
set_option maxHeartbeats 4000000 in
theorem tuple_any (hv vv : Value) (has vals : List Int) (w : World) (hh : InInts w hv has) (hw : InInts w vv vals) (lh : has.length ≤ maxLen) (lv : vals.length ≤ maxLen) :
    Calls Tryd.prog 33 #[.agg #[hv, vv]] w fun e w' => ∃ v, e = .returned v ∧ w'.ownsRow w.heap.size 61 4 v (tup has vals 7).length (flatA (tup has vals 7)) ∧ Below w.heap.size w w' := by
  have HH := Lib.hid hh
  have HW := Lib.hid hw
  have LH := Lib.hid lh
  have LV := Lib.hid lv
  obtain ⟨i0, hi, hz0, hz1, hz2⟩ := infoA
  clear hh hw lh lv
  go_enter Tryd.func33, Tryd.ntmps33
  go_wp2_with fail
  refine (names_any _).mono ?_
  rintro e1 w1 ⟨rfl, rfl⟩
  go_wp2
  go_loopw [3, 8] (fun lv i wr => ∃ k : Nat, k ≤ 7 ∧ i = .int .i64 k ∧ wr.ownsRow (w.heap.size + 2) 61 4 lv (tup has vals k).length (flatA (tup has vals k)) ∧
    Below (w.heap.size + 2) ((w.alloc (.cells #[hv, vv] 40)).alloc (.cells nmCells 9)) wr) (fun _ i _ => 7 - (intOf i).toNat)
  case atStart => exact ⟨0, by omega, rfl, World.ownsRow_nil _ _ _ _, Below.refl _ _⟩
  case round =>
    obtain ⟨k, hk, rfl, hown, hb⟩ := hrel
    have HO := Lib.hid hown
    have HB := Lib.hid hb
    have T0 : Below w.heap.size w ((w.alloc (.cells #[hv, vv] 40)).alloc (.cells nmCells 9)) := ((Below.refl _ _).alloc (Nat.le_refl _) _).alloc (by simp) _
    have BW := Lib.hid (T0.trans (hb.mono (by omega)))
    have hsz : w.heap.size + 2 ≤ wr.heap.size := by have := hb.size; simp at this; omega
    clear T0
    obtain ⟨ro, rcap, hrl⟩ := (RowA.of_owns hown).len
    have hl5 := tup_len has vals k
    by_cases h7 : k < 7
    · have n0 : wr.cell? ⟨w.heap.size + 1, k, none⟩ = some (.string (nm k)) := by
        rw [hb.cell (p := ⟨w.heap.size + 1, k, none⟩) (by simp), World.cell?_alloc_at _ _ _ _ (by simp)]; exact nm_at k h7
      have b0 : wr.cell? ⟨w.heap.size, 0, none⟩ = some hv := by
        rw [hb.cell (p := ⟨w.heap.size, 0, none⟩) (by simp), World.cell?_alloc_lt _ _ _ (by simp), World.cell?_alloc_at _ _ _ _ rfl]; rfl
      have b1 : wr.cell? ⟨w.heap.size, 1, none⟩ = some vv := by
        rw [hb.cell (p := ⟨w.heap.size, 1, none⟩) (by simp), World.cell?_alloc_lt _ _ _ (by simp), World.cell?_alloc_at _ _ _ _ rfl]; rfl
      have IH := Lib.hid (HH.out.on BW.out)
      obtain ⟨ao, acap, hsh⟩ := HH.out.shape
      clear hb hown
      subst hsh
      subst hrl
      have hkk : (k : Int) < 7 := by omega
      by_cases h1 : k < has.length
      · obtain ⟨y, hy⟩ : ∃ y, has[k]? = some y := ⟨_, List.getElem?_eq_getElem h1⟩
        have hg : has.getD k 0 = y := by rw [List.getD_eq_getElem?_getD, hy]; rfl
        obtain ⟨_, p, _, hix, hpc⟩ := IH.out.at_ k y hy
        cases ho : odd y
        · have T := Lib.hid (show tup has vals (k + 1) = tup has vals k by simp only [tup]; rw [if_neg]; rintro ⟨_, h2, _⟩; rw [hg, ho] at h2; cases h2)
          have hodd : (bits BinOp.and IntKind.i64 y 1 == 1) = false := ho
          clear ho hy hg
          go_wp2
          go_roundw
          case rel => exact ⟨k + 1, by omega, by go_num, by rw [T.out]; exact HO.out, HB.out⟩
          case measure => simp [intOf]; omega
        · have hodd : (bits BinOp.and IntKind.i64 y 1 == 1) = true := ho
          by_cases h5 : (tup has vals k).length < 5
          · have T := Lib.hid (show tup has vals (k + 1) = tup has vals k ++ [(nm k, valOf (pickZ vals k))] by simp only [tup]; rw [if_pos ⟨h1, by rw [hg, ho], h5⟩])
            have PK := Lib.hid (fun (W : World) (hW : Below w.heap.size w W) => pick_any vv vals k W (HW.out.on hW) LV.out (by omega))
            have bd := pickZ_bd HW.out k
            have KV := Lib.hid (fun W => kvalue_any (pickZ vals k) W bd.1 bd.2)
            clear ho hy hg bd
            go_wp2_with fail
            refine (PK.out _ BW.out).mono ?_
            rintro e1 w1 ⟨rfl, rfl⟩
            go_wp2_with fail
            refine (KV.out _).mono ?_
            rintro e2 w2 ⟨rfl, hb2⟩
            have B2 := Lib.hid hb2
            have O2 := Lib.hid (own_on HO.out hb2)
            have hs2 := hb2.size
            clear hb2
            unfold valOf at T
            generalize (!(evn (pickZ vals k))) = t at T ⊢
            generalize kvN (pickZ vals k) = n at T ⊢
            generalize kvS (pickZ vals k) = s at T ⊢
            go_wp2_with (first | (at_builtin; refine wpList_append_own _ rfl _ _ 30 rfl (w.heap.size + 2) 61 i0 _ 4 48 Tryd.underlying30 hi hz0 hz1 hz2 rfl (by decide) _ _ _ rfl (O2.out.alloc _) ⟨w2.heap.size, 0, none⟩ 1 1 (cellsA (nm k, t, n, s)) rfl rfl (cells4New _ _ _ _ _ _) (flatA_one [(nm k, t, n, s)]) (by unfold maxLen; omega) (by omega) (by simp; omega) ?_) | fail)
            intro v1 w3 hown3 hgrow3 _
            have O3 := Lib.hid hown3
            have hbel : Below (w.heap.size + 2) wr w3 := ((B2.out.mono hsz).alloc (by omega) _).grown hgrow3 (by simp; omega) (fun j hj => (O2.out.lt j hj).1)
            have B3 := Lib.hid (HB.out.trans hbel)
            clear hown3 hgrow3 hbel
            go_wp2
            go_roundw
            case rel => exact ⟨k + 1, by omega, by go_num, by
              rw [T.out, flatA_append]
              simpa [flatA, cellsA] using O3.out, B3.out⟩
            case measure => simp [intOf]; omega
          · have T := Lib.hid (show tup has vals (k + 1) = tup has vals k by simp only [tup]; rw [if_neg]; rintro ⟨_, _, h2⟩; exact h5 h2)
            clear ho hy hg
            go_wp2
            go_roundw
            case rel => exact ⟨k + 1, by omega, by go_num, by rw [T.out]; exact HO.out, HB.out⟩
            case measure => simp [intOf]; omega
      · have T := Lib.hid (show tup has vals (k + 1) = tup has vals k by simp only [tup]; rw [if_neg]; rintro ⟨h2, _⟩; exact h1 h2)
        go_wp2
        go_roundw
        case rel => exact ⟨k + 1, by omega, by go_num, by rw [T.out]; exact HO.out, HB.out⟩
        case measure => simp [intOf]; omega
    · obtain rfl : k = 7 := by omega
      clear hb hown
      go_wp2
      go_ret
      exact ⟨_, rfl, own_less (by omega) HO.out, BW.out⟩
end Go.Proofs.YtfcgfnmokbbcaaaDoor.At

namespace Go.Proofs.YtfcgfnmokbbcaaaDoor.At
open Go.RowKit Go.Sort Go.Proofs.YtfcgfnmokbbcaaaDoor.Va Go.Proofs.YtfcgfnmokbbcaaaDoor.In

/-- Are the lists the same? -/
def sameL : List A4 → List A4 → Bool
  | [], [] => true
  | x :: l, y :: m => eqlA x y && sameL l m
  | _, _ => false
theorem sameL_len : ∀ l m, sameL l m = true → l.length = m.length
  | [], [], _ => rfl
  | x :: l, y :: m, h => by
    simp only [sameL, Bool.and_eq_true] at h
    simp [sameL_len l m h.2]
  | [], y :: m, h => by simp [sameL] at h
  | x :: l, [], h => by simp [sameL] at h
theorem sameL_all : ∀ l m, l.length = m.length → (∀ (k : Nat) (x y : A4), l[k]? = some x → m[k]? = some y → eqlA x y = true) → sameL l m = true
  | [], [], _, _ => rfl
  | x :: l, y :: m, hl, h => by
    simp only [sameL, Bool.and_eq_true]
    exact ⟨h 0 x y rfl rfl, sameL_all l m (by simpa using hl) (fun k a b ha hb => h (k + 1) a b (by simpa using ha) (by simpa using hb))⟩
  | [], y :: m, hl, _ => by simp at hl
  | x :: l, [], hl, _ => by simp at hl
theorem sameL_not : ∀ (l m : List A4) (k : Nat) (x y : A4), l[k]? = some x → m[k]? = some y → eqlA x y = false → sameL l m = false
  | [], _, k, x, y, h, _, _ => by simp at h
  | _ :: _, [], k, x, y, _, h, _ => by simp at h
  | a :: l, b :: m, 0, x, y, h1, h2, h3 => by
    simp at h1 h2
    subst h1 h2
    simp [sameL, h3]
  | a :: l, b :: m, k + 1, x, y, h1, h2, h3 => by
    simp only [sameL, sameL_not l m k x y (by simpa using h1) (by simpa using h2) h3, Bool.and_false]
/-- Where an element lies, and its cells, in this world and every later one. -/
theorem row_cells {W : World} {lv : Value} {l : List A4} {ao : Option Addr} {n c k : Nat} {x : A4} (h : RowA W lv l) (hv : lv = .slice ao n c) (hn : l.length = n) (hk : l[k]? = some x) :
    ∃ p : Addr, (∀ w, (Instr.indexAt 30 (.slice ao n c) (.int .i64 k)).run Tryd.prog w = .ok (.pointer (some p)) w) ∧ ∀ w, Below W.heap.size W w →
      w.cell? p = some (.string x.1) ∧ w.cell? ⟨p.block, p.off + 1, none⟩ = some (.bool x.2.1) ∧ w.cell? ⟨p.block, p.off + 2, none⟩ = some (.int .i64 x.2.2.1) ∧ w.cell? ⟨p.block, p.off + 3, none⟩ = some (.string x.2.2.2) := by
  have hlt := (List.getElem?_eq_some_iff.1 hk).1
  rcases h with ⟨rfl, _⟩ | ⟨a, cap, h1, h2, h3, h4⟩
  · simp at hk
  · rw [hv] at h1
    obtain ⟨rfl, rfl, rfl⟩ : ao = some a ∧ n = l.length ∧ c = cap := by simpa using h1
    refine ⟨a.add (k * 4), fun w => index_runA a k _ _ hlt w, fun w hb => ?_⟩
    have hf := flatA_at l k x hk
    have e1 : ∀ j, j ≠ 0 → (⟨(a.add (k * 4)).block, (a.add (k * 4)).off + j, none⟩ : Addr) = a.add (k * 4 + j) := fun j hj => by
      have h5 : ∀ b : Addr, b.add j = ⟨b.block, b.off + j, none⟩ := fun b => by unfold Addr.add; rw [if_neg hj]
      rw [← add_add, h5]
    have g : ∀ j u, (flatA l)[j]? = some u → w.cell? (a.add j) = some u := fun j u hj => by
      have hc := h4 j u hj
      rw [hb.cell (World.block_lt_of_cell? W _ hc)]; exact hc
    rw [e1 1 (by decide), e1 2 (by decide), e1 3 (by decide)]
    exact ⟨g _ _ hf.1, g _ _ hf.2.1, g _ _ hf.2.2.1, g _ _ hf.2.2.2⟩
theorem row_addr {W : World} {ao : Option Addr} {n c k : Nat} {l : List A4} {x : A4} (h : RowA W (.slice ao n c) l) (hk : l[k]? = some x) : ∃ a, ao = some a := by
  rcases h with ⟨rfl, _⟩ | ⟨a, cap, h1, _⟩
  · simp at hk
  · exact ⟨a, by simp at h1; exact h1.1⟩
set_option maxRecDepth 100000 in
set_option maxHeartbeats 4000000 in
theorem sameA_any (av_ bv : Value) (l m : List A4) (w : World) (ha : RowA w av_ l) (hb : RowA w bv m) (hl : l.length ≤ 1000000) (_hm : m.length ≤ 1000000) :
    Calls Tryd.prog 43 #[av_, bv] w fun e w' => e = .returned (.bool (sameL l m)) ∧ Below w.heap.size w w' := by
  have HA := Lib.hid ha
  have HB := Lib.hid hb
  obtain ⟨ao, ac, rfl⟩ := ha.len
  obtain ⟨bo, bc, rfl⟩ := hb.len
  clear ha hb
  by_cases hlen : l.length = m.length
  · have HL := Lib.hid hlen
    rw [← hlen] at HB ⊢
    generalize hn : l.length = n at *
    have HN := Lib.hid hn
    clear hlen hn
    go_enter Tryd.func43, Tryd.ntmps43
    go_wp2
    go_loopw [5] (fun i wr => ∃ k : Nat, k ≤ n ∧ i = .int .i64 k ∧ Below w.heap.size w wr ∧ ∀ (j : Nat) (x y : A4), j < k → l[j]? = some x → m[j]? = some y → eqlA x y = true) (fun i _ => n - (intOf i).toNat)
    case atStart => exact ⟨0, Nat.zero_le _, rfl, Below.refl _ _, fun j x y h => by omega⟩
    case round =>
      obtain ⟨k, hk, rfl, hbe, hall⟩ := hrel
      have BE := Lib.hid hbe
      have AL := Lib.hid hall
      clear hbe hall
      by_cases hlt : k < n
      · obtain ⟨x, hx⟩ : ∃ x, l[k]? = some x := ⟨_, List.getElem?_eq_getElem (by rw [HN.out]; exact hlt)⟩
        obtain ⟨y, hy⟩ : ∃ y, m[k]? = some y := ⟨_, List.getElem?_eq_getElem (by rw [← HL.out]; exact hlt)⟩
        obtain ⟨p, ix, px⟩ := row_cells HA.out rfl HN.out hx
        obtain ⟨q, iy, py⟩ := row_cells HB.out rfl HL.out.symm hy
        have p0 := cell_regrown (px _ BE.out).1
        have p1 := cell_regrown (px _ BE.out).2.1
        have p2 := cell_regrown (px _ BE.out).2.2.1
        have p3 := cell_regrown (px _ BE.out).2.2.2
        have q0 := cell_regrown (py _ BE.out).1
        have q1 := cell_regrown (py _ BE.out).2.1
        have q2 := cell_regrown (py _ BE.out).2.2.1
        have q3 := cell_regrown (py _ BE.out).2.2.2
        clear px py
        obtain ⟨r, hr⟩ : ∃ r, eqlA x y = r := ⟨_, rfl⟩
        have hne := neqA x y r hr
        have HX := Lib.hid hx
        have HY := Lib.hid hy
        have HR := Lib.hid hr
        clear hx hy hr
        cases r
        · have R := Lib.hid (show sameL l m = false from sameL_not l m k x y HX.out HY.out HR.out)
          go_wp2
          refine wp_region_quiet_below (by kernel_rfl) (by kernel_rfl) ?_
          repeat (go_big_quiet_step (fail))
          refine wpQuiet_nil ?_
          intro _ hw'
          obtain ⟨⟨dq, osq⟩, hw''⟩ := hw'
          subst hw''
          go_wp2
          go_ret
          exact ⟨ret_bool R.out.symm, BE.out.trans ((below_regrown wr dq osq).mono BE.out.size)⟩
        · go_wp2
          refine wp_region_quiet_below (by kernel_rfl) (by kernel_rfl) ?_
          repeat (go_big_quiet_step (fail))
          refine wpQuiet_nil ?_
          intro _ hw'
          obtain ⟨⟨dq, osq⟩, hw''⟩ := hw'
          subst hw''
          clear ix iy p0 p1 p2 p3 q0 q1 q2 q3 hne
          go_wp2
          go_roundw
          case rel => exact ⟨k + 1, by omega, by go_num, BE.out.trans ((below_regrown wr dq osq).mono BE.out.size), fun j x' y' hj h1 h2 => by
            rcases Nat.lt_or_ge j k with h3 | h3
            · exact AL.out j x' y' h3 h1 h2
            · obtain rfl : j = k := by omega
              have e1 := HX.out
              have e2 := HY.out
              rw [h1] at e1
              rw [h2] at e2
              rw [Option.some.inj e1, Option.some.inj e2]
              exact HR.out⟩
          case measure => simp [intOf]; omega
      · obtain rfl : k = n := by omega
        have R := Lib.hid (show sameL l m = true from sameL_all l m (by rw [HN.out]; exact HL.out) (fun j a b h1 h2 => AL.out j a b (by have := (List.getElem?_eq_some_iff.1 h1).1; have := HN.out; omega) h1 h2))
        go_wp2
        go_ret
        exact ⟨ret_bool R.out.symm, BE.out⟩
  · have R := Lib.hid (show sameL l m = false by
      cases h : sameL l m
      · rfl
      · exact absurd (sameL_len _ _ h) hlen)
    have hne : (((l.length : Nat) : Int) != ((m.length : Nat) : Int)) = true := by simp; omega
    have hne2 : (((l.length : Nat) : Int) == ((m.length : Nat) : Int)) = false := by simp; omega
    clear hlen
    go_enter Tryd.func43, Tryd.ntmps43
    go_wp2
    go_ret
    exact ⟨ret_bool R.out.symm, Below.refl _ _⟩
end Go.Proofs.YtfcgfnmokbbcaaaDoor.At
