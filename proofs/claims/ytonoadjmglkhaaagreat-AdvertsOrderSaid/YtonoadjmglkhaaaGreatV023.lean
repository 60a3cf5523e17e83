/-
  Within of the statements' own package: a number brought into bounds. Condition: bounds up to a million; numbers of 64 bits.
  texts, Value and the document's own RightValue, of the statements' packages. Condition: numbers of 64 bits.
  A list of numbers that came in, opened. No condition beyond its reading.
-/
import Derived.Test.YtonoadjmglkhaaaGreatProg
import Derived.WalkKit
import Derived.Lib.Hide
import Derived.WalkLawsBesides
import Derived.IntWalk
import Derived.ChangeSlices
import Derived.ProofKit
import Derived.Below
namespace Go.Proofs.YtonoadjmglkhaaaGreat.Wi
open Go.RowKit

/-- n brought into lo .. hi. -/
def within (n lo hi : Int) : Int := lo + n % (hi - lo + 1)
theorem within_bd (n lo hi : Int) (h : lo ≤ hi) : lo ≤ within n lo hi ∧ within n lo hi ≤ hi := by
  unfold within
  have h1 := Int.emod_nonneg n (show hi - lo + 1 ≠ 0 by omega)
  have h2 := Int.emod_lt_of_pos n (show 0 < hi - lo + 1 by omega)
  omega
theorem within_pos (n lo hi : Int) (h : lo ≤ hi) (hn : ¬ n.tmod (hi - lo + 1) < 0) : lo + n.tmod (hi - lo + 1) = within n lo hi := by
  unfold within
  rw [Int.tmod_eq_emod] at hn ⊢
  split at hn
  · rename_i h0; rw [if_pos h0]; omega
  · rename_i h0
    rw [if_neg h0] at *
    have h2 := Int.emod_lt_of_pos n (show 0 < hi - lo + 1 by omega)
    have : ((hi - lo + 1).natAbs : Int) = hi - lo + 1 := by omega
    omega
theorem within_neg (n lo hi : Int) (h : lo ≤ hi) (hn : n.tmod (hi - lo + 1) < 0) : lo + (n.tmod (hi - lo + 1) + hi - lo + 1) = within n lo hi := by
  unfold within
  rw [Int.tmod_eq_emod] at hn ⊢
  split at hn
  · have h1 := Int.emod_nonneg n (show hi - lo + 1 ≠ 0 by omega)
    omega
  · rename_i h0
    rw [if_neg h0] at *
    have : ((hi - lo + 1).natAbs : Int) = hi - lo + 1 := by omega
    omega
theorem tmod_bd (n m : Int) (h : 0 < m) : -m < n.tmod m ∧ n.tmod m < m := by
  rw [Int.tmod_eq_emod]
  have h1 := Int.emod_nonneg n (show m ≠ 0 by omega)
  have h2 := Int.emod_lt_of_pos n h
  split <;> omega
theorem ret_int {k : IntKind} {a b : Int} (h : a = b) : Ending.returned (.int k a) = .returned (.int k b) := by rw [h]

set_option maxHeartbeats 1000000 in
theorem within_any (n lo hi : Int) (w : World) (h : lo ≤ hi) (h1 : -1000000 ≤ lo) (h2 : hi ≤ 1000000) (_hn1 : -9223372036854775808 ≤ n) (_hn2 : n ≤ 9223372036854775807) :
    Calls Tryz.prog 7 #[.int .i64 n, .int .i64 lo, .int .i64 hi] w fun e w' => e = .returned (.int .i64 (within n lo hi)) ∧ w = w' := by
  have hm : 0 < hi - lo + 1 := by omega
  have hm2 : hi - lo + 1 ≤ 2000001 := by omega
  have hb := tmod_bd n (hi - lo + 1) hm
  have P := Lib.hid (within_pos n lo hi h)
  have Q := Lib.hid (within_neg n lo hi h)
  go_enter Tryz.func7, Tryz.ntmps7
  go_wp2
  · go_ret
    exact ⟨ret_int (Q.out (by omega)), rfl⟩
  · go_ret
    exact ⟨ret_int (P.out (by omega)), rfl⟩

end Go.Proofs.YtonoadjmglkhaaaGreat.Wi

namespace Go.Proofs.YtonoadjmglkhaaaGreat.Va
open Go.RowKit

/-- A value, as the model has it. -/
abbrev vl (t : Bool) (n : Int) (s : ByteArray) : Value := .agg #[.bool t, .int .i64 n, .string s]
/-- May a value be? -/
def rightV (t : Bool) (n : Int) (s : ByteArray) : Bool := if t then decide (n = 0) && decide (s.size ≤ 12) else s.toList.isEmpty
theorem ret_val {a b : Value} (h : a = b) : Ending.returned a = .returned b := by rw [h]
theorem ret_bool {a b : Bool} (h : a = b) : Ending.returned (.bool a) = .returned (.bool b) := by rw [h]

/-- The texts of values. -/
def txts : Array Value := #[.string ⟨#[]⟩, .string ⟨#[120]⟩, .string ⟨#[120, 121]⟩, .string ⟨#[120, 121, 122]⟩, .string ⟨#[120, 122]⟩, .string ⟨#[121]⟩, .string ⟨#[121, 121]⟩]
def txtAt (r : Int) : ByteArray := [⟨#[]⟩, ⟨#[120]⟩, ⟨#[120, 121]⟩, ⟨#[120, 121, 122]⟩, ⟨#[120, 122]⟩, ⟨#[121]⟩, ⟨#[121, 121]⟩].getD r.toNat ⟨#[]⟩
theorem txts_at (r : Int) (h0 : 0 ≤ r) (h1 : r ≤ 6) : txts[r.toNat]? = some (.string (txtAt r)) := by
  obtain ⟨n, rfl⟩ := Int.eq_ofNat_of_zero_le h0
  have hn : n ≤ 6 := by omega
  match n, hn with
  | 0, _ => rfl
  | 1, _ => rfl
  | 2, _ => rfl
  | 3, _ => rfl
  | 4, _ => rfl
  | 5, _ => rfl
  | 6, _ => rfl
theorem texts_any (w : World) :
    Calls Tryz.prog 77 #[] w fun e w' => e = .returned (.slice (some ⟨w.heap.size, 0, none⟩) 7 7) ∧ w' = w.alloc (.cells txts 9) := by
  go_enter Tryz.func77, Tryz.ntmps77
  go_wp2
  go_ret
  exact ⟨rfl, rfl⟩

/-- Is the number even, as the program asks it? -/
def evn (n : Int) : Bool := bits BinOp.and IntKind.i64 n 1 == 0
def kvN (n : Int) : Int := if evn n then Wi.within (n.tdiv 2) 0 9 else 0
def kvS (n : Int) : ByteArray := if evn n then ⟨#[]⟩ else txtAt (Wi.within (n.tdiv 2) 0 6)
theorem half_bd (n : Int) (h1 : -9223372036854775808 ≤ n) (h2 : n ≤ 9223372036854775807) : -9223372036854775808 ≤ n.tdiv 2 ∧ n.tdiv 2 ≤ 9223372036854775807 := by
  have hs : Int.sign 2 = 1 := rfl
  rw [Int.tdiv_eq_ediv, hs]
  split <;> omega

theorem txt_size (r : Int) : (txtAt r).size ≤ 3 := by
  unfold txtAt
  rcases Nat.lt_or_ge r.toNat 7 with h | h
  · generalize r.toNat = n at h
    match n, h with
    | 0, _ => decide
    | 1, _ => decide
    | 2, _ => decide
    | 3, _ => decide
    | 4, _ => decide
    | 5, _ => decide
    | 6, _ => decide
  · rw [List.getD_eq_getElem?_getD, List.getElem?_eq_none (by simpa using h)]
    decide
theorem kvS_size (n : Int) : (kvS n).size ≤ 3 := by
  unfold kvS; split
  · decide
  · exact txt_size _
theorem kv_right (n : Int) : rightV (!(evn n)) (kvN n) (kvS n) = true := by
  have hs := kvS_size n
  cases h : evn n
  · have h0 : kvN n = 0 := by simp [kvN, h]
    simp [rightV, h0]; omega
  · have h0 : kvS n = ⟨#[]⟩ := by simp [kvS, h]
    rw [h0]; simp [rightV]
theorem right_iff {t : Bool} {n : Int} {s : ByteArray} (h : rightV t n s = true) : if t then n = 0 else s.toList = [] := by
  cases t
  · simpa [rightV] using h
  · simp [rightV] at h; simp [h.1]

theorem stoodV : Tryz.prog.stoodInHeld 188 = false := by kernel_rfl
/-- Are two values the same? -/
def eqlV (t1 : Bool) (n1 : Int) (s1 : ByteArray) (t2 : Bool) (n2 : Int) (s2 : ByteArray) : Bool := t1 == t2 && n1 == n2 && s1.toList == s2.toList
theorem eqlV_iff (t1 : Bool) (n1 : Int) (s1 : ByteArray) (t2 : Bool) (n2 : Int) (s2 : ByteArray) : eqlV t1 n1 s1 t2 n2 s2 = true ↔ t1 = t2 ∧ n1 = n2 ∧ s1.toList = s2.toList := by
  simp [eqlV, and_assoc]
set_option maxRecDepth 100000 in
theorem neqV (t1 : Bool) (n1 : Int) (s1 : ByteArray) (t2 : Bool) (n2 : Int) (s2 : ByteArray) (r : Bool) (hr : eqlV t1 n1 s1 t2 n2 s2 = r) (w : World) :
    (binOp .neq 188 (vl t1 n1 s1) (vl t2 n2 s2)).run Tryz.prog w = .ok (.bool (!r)) w := by
  have st := stoodV
  subst hr
  unfold eqlV
  by_cases h1 : t1 = t2 <;> by_cases h2 : n1 = n2 <;> by_cases h3 : s1.toList = s2.toList <;> simp [go_sem, Tryz.underlying188, Tryz.underlying4, Tryz.underlying3, Tryz.underlying9, st, h1, h2, h3]
set_option maxRecDepth 100000 in
theorem eqV (t1 : Bool) (n1 : Int) (s1 : ByteArray) (t2 : Bool) (n2 : Int) (s2 : ByteArray) (r : Bool) (hr : eqlV t1 n1 s1 t2 n2 s2 = r) (w : World) :
    (binOp .eql 188 (vl t1 n1 s1) (vl t2 n2 s2)).run Tryz.prog w = .ok (.bool r) w := by
  have st := stoodV
  subst hr
  unfold eqlV
  by_cases h1 : t1 = t2 <;> by_cases h2 : n1 = n2 <;> by_cases h3 : s1.toList = s2.toList <;> simp [go_sem, Tryz.underlying188, Tryz.underlying4, Tryz.underlying3, Tryz.underlying9, st, h1, h2, h3]

end Go.Proofs.YtonoadjmglkhaaaGreat.Va

namespace Go.Proofs.YtonoadjmglkhaaaGreat.In
open Go.RowKit Go.ChangeShapes Go.WideShapes

/-- A list of numbers that came in. -/
structure InInts (W : World) (nv : Value) (zs : List Int) : Prop where
  shape : ∃ ao cap, nv = .slice ao zs.length cap
  at_ : ∀ (i : Nat) (z : Int), zs[i]? = some z → (-9223372036854775808 ≤ z ∧ z ≤ 9223372036854775807) ∧ ∃ p : Addr, p.block < W.heap.size ∧ (∀ w, (Instr.indexAt 23 nv (.int .i64 i)).run Tryz.prog w = .ok (.pointer (some p)) w) ∧ W.cell? p = some (.int .i64 z)
theorem InInts.on {W W' : World} {nv : Value} {zs : List Int} (h : InInts W nv zs) (hb : Below W.heap.size W W') : InInts W' nv zs :=
  ⟨h.shape, fun i z hz => by
    obtain ⟨h1, p, h2, h3, h4⟩ := h.at_ i z hz
    exact ⟨h1, p, Nat.lt_of_lt_of_le h2 hb.size, h3, by rw [hb.cell h2]; exact h4⟩⟩
theorem lits_bd {n : Int} (h : (Lit.int .i64 n).wf = true) : -9223372036854775808 ≤ n ∧ n ≤ 9223372036854775807 := by
  have h2 : (decide (IntKind.i64.min ≤ n) && decide (n ≤ IntKind.i64.max)) = true := h
  rw [Bool.and_eq_true, decide_eq_true_eq, decide_eq_true_eq, show IntKind.i64.min = -9223372036854775808 by decide, show IntKind.i64.max = 9223372036854775807 by decide] at h2
  exact h2
theorem cellsI : Tryz.prog.cellsOf 3 = 1 := by kernel_rfl
theorem index_ints (a : Addr) (m len cap : Nat) (h : m < len) (w : World) : (Instr.indexAt 23 (.slice (some a) len cap) (.int .i64 m)).run Tryz.prog w = .ok (.pointer (some (a.add m))) w := by
  have h1 : (m : Int) < len := by omega
  simp [go_sem, Tryz.underlying23, h1]
set_option maxRecDepth 100000 in
/-- Out of the row's reading, at a field or a parameter. -/
theorem in_trod {H : Type} {enc : TypeId × Value → H} {W : World} {sp : Nat → Bool} {held : Bool} {fuel : Nat} {v : Value} {x : DataW H × List MemPlace}
    (hf : DataW.trod enc Tryz.prog W 0 sp held fuel 23 [v] = some x) : ∃ zs, zs.length ≤ maxLen ∧ InInts W v zs := by
  rcases open_ints Tryz.underlying23 Tryz.underlying3 cellsI hf with ⟨h1, _⟩ | ⟨a', len', cap', zs, h1, _, h3, h4, h5, _, h7, h8⟩
  · have e : v = .slice none 0 0 := by simpa using h1
    rw [e]
    exact ⟨[], Nat.zero_le _, ⟨none, 0, rfl⟩, fun i z h => by simp at h⟩
  · have e : v = .slice (some a') len' cap' := by simpa using h1
    rw [e]
    have hle : len' ≤ zs.length := by rw [h5]; split <;> omega
    have hl : (zs.take len').length = len' := by simp; omega
    refine ⟨zs.take len', by omega, ⟨some a', cap', by rw [hl]⟩, fun i z hz => ?_⟩
    obtain ⟨hi, hzi⟩ := List.getElem?_eq_some_iff.1 hz
    have hi2 : i < len' := by omega
    have hz2 : zs[i]'(by omega) = z := by simpa using hzi
    have hc := h7 i (by omega)
    have hg : zs.getD i 0 = z := by rw [← hz2]; simp [List.getD, show i < zs.length by omega]
    rw [hg] at hc
    exact ⟨lits_bd (h8 z (by rw [← hz2]; exact List.getElem_mem _)), a'.add i, World.block_lt_of_cell? W _ hc, fun w => index_ints a' i len' cap' hi2 w, hc⟩
set_option maxRecDepth 100000 in
theorem in_ints {H : Type} {enc : TypeId × Value → H} {W : World} {r : Reach} {b0 : Nat} {sp : Nat → Bool} {held : Bool} {v : Value} {d : DataW H} {ps : List MemPlace}
    (hval : Value.okWide Tryz.prog W r b0 23 v) (hd : DataW.Trod enc Tryz.prog W 0 sp held 23 v d ps) : ∃ zs, zs.length ≤ maxLen ∧ InInts W v zs := by
  obtain ⟨a, len, cap, rfl⟩ := okWide_slice Tryz.underlying23 hval
  obtain ⟨fuel, hf⟩ := hd
  exact in_trod (fuel := fuel) hf
end Go.Proofs.YtonoadjmglkhaaaGreat.In
