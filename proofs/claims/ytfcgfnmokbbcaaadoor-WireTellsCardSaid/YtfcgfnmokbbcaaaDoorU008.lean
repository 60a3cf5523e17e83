/-
  texts, Value and the document's own RightValue, of the statements' packages. Condition: numbers of 64 bits.
  A list of numbers that came in, opened. No condition beyond its reading.
-/
import Derived.Test.YtfcgfnmokbbcaaaDoorU007
import Derived.WalkLawsBesides
import Derived.IntWalk
import Derived.Test.YtfcgfnmokbbcaaaDoorProg
import Derived.WalkKit
import Derived.ChangeSlices
import Derived.ProofKit
import Derived.Lib.Hide
import Derived.Below
namespace Go.Proofs.YtfcgfnmokbbcaaaDoor.Va
open Go.RowKit

/-- A value, as the model has it. -/
abbrev vl (t : Bool) (n : Int) (s : ByteArray) : Value := .agg #[.bool t, .int .i64 n, .string s]
/-- May a value be? -/
def rightV (t : Bool) (n : Int) (s : ByteArray) : Bool := if t then decide (n = 0) && decide (s.size ≤ 12) else s.toList.isEmpty
theorem ret_val {a b : Value} (h : a = b) : Ending.returned a = .returned b := by rw [h]
theorem ret_bool {a b : Bool} (h : a = b) : Ending.returned (.bool a) = .returned (.bool b) := by rw [h]

set_option maxHeartbeats 400000 in
theorem refRight_any (t : Bool) (n : Int) (s : ByteArray) (w : World) (hs : s.size ≤ 9223372036854775807) :
    Calls Tryd.prog 61 #[vl t n s] w fun e w' => e = .returned (.bool (rightV t n s)) ∧ Below w.heap.size w w' := by
  cases t
  · go_enter Tryd.func61, Tryd.ntmps61
    go_wp2
    go_ret
    exact ⟨rfl, (Below.refl _ _).alloc (Nat.le_refl _) _⟩
  · by_cases hn : n = 0
    · subst hn
      have R := Lib.hid (show decide ((s.size : Int) ≤ 12) = rightV true 0 s by simp [rightV]; omega)
      go_enter Tryd.func61, Tryd.ntmps61
      go_wp2
      go_ret
      exact ⟨ret_bool R.out, (Below.refl _ _).alloc (Nat.le_refl _) _⟩
    · have R := Lib.hid (show false = rightV true n s by simp [rightV, hn])
      have hb : (n == 0) = false := by simpa using hn
      have HN := Lib.hid hn
      clear hn
      go_enter Tryd.func61, Tryd.ntmps61
      go_wp2
      go_ret
      exact ⟨ret_bool R.out, (Below.refl _ _).alloc (Nat.le_refl _) _⟩

/-- The texts of values. -/
def txts : Array Value := #[.string ⟨#[]⟩, .string ⟨#[120]⟩, .string ⟨#[120, 121]⟩, .string ⟨#[120, 121, 122]⟩, .string ⟨#[120, 122]⟩, .string ⟨#[121]⟩, .string ⟨#[121, 121]⟩]
def txtAt (r : Int) : ByteArray := [⟨#[]⟩, ⟨#[120]⟩, ⟨#[120, 121]⟩, ⟨#[120, 121, 122]⟩, ⟨#[120, 122]⟩, ⟨#[121]⟩, ⟨#[121, 121]⟩].getD r.toNat ⟨#[]⟩
theorem txts_at (r : Int) (h0 : 0 ≤ r) (h1 : r ≤ 6) : txts[r.toNat]? = some (.string (txtAt r)) := by
  obtain ⟨n, rfl⟩ := Int.eq_ofNat_of_zero_le h0
  have hn : n ≤ 6 := by omega
  match n, hn with
  | 0, _ => rfl
  | 1, _ => rfl
  | 2, _ => rfl
  | 3, _ => rfl
  | 4, _ => rfl
  | 5, _ => rfl
  | 6, _ => rfl
theorem texts_any (w : World) :
    Calls Tryd.prog 76 #[] w fun e w' => e = .returned (.slice (some ⟨w.heap.size, 0, none⟩) 7 7) ∧ w' = w.alloc (.cells txts 9) := by
  go_enter Tryd.func76, Tryd.ntmps76
  go_wp2
  go_ret
  exact ⟨rfl, rfl⟩

/-- Is the number even, as the program asks it? -/
def evn (n : Int) : Bool := bits BinOp.and IntKind.i64 n 1 == 0
def kvN (n : Int) : Int := if evn n then Wi.within (n.tdiv 2) 0 9 else 0
def kvS (n : Int) : ByteArray := if evn n then ⟨#[]⟩ else txtAt (Wi.within (n.tdiv 2) 0 6)
theorem half_bd (n : Int) (h1 : -9223372036854775808 ≤ n) (h2 : n ≤ 9223372036854775807) : -9223372036854775808 ≤ n.tdiv 2 ∧ n.tdiv 2 ≤ 9223372036854775807 := by
  have hs : Int.sign 2 = 1 := rfl
  rw [Int.tdiv_eq_ediv, hs]
  split <;> omega

set_option maxHeartbeats 400000 in
theorem kvalue_any (n : Int) (w : World) (h1 : -9223372036854775808 ≤ n) (h2 : n ≤ 9223372036854775807) :
    Calls Tryd.prog 58 #[.int .i64 n] w fun e w' => e = .returned (vl (!(evn n)) (kvN n) (kvS n)) ∧ Below w.heap.size w w' := by
  have hh := half_bd n h1 h2
  cases he : evn n
  · have hev : (bits BinOp.and IntKind.i64 n 1 == 0) = false := he
    have hw := Wi.within_bd (n.tdiv 2) 0 6 (by omega)
    have C := Lib.hid (fun wx => Wi.within_any (n.tdiv 2) 0 6 wx (by omega) (by omega) (by omega) hh.1 hh.2)
    have KN := Lib.hid (show kvN n = 0 by simp [kvN, he])
    have KS := Lib.hid (show kvS n = txtAt (Wi.within (n.tdiv 2) 0 6) by simp [kvS, he])
    clear he hh
    generalize Wi.within (n.tdiv 2) 0 6 = r at C KS hw
    have hr0 := hw.1
    have hr1 := hw.2
    have TX := Lib.hid (txts_at r hr0 hr1)
    clear hw
    go_enter Tryd.func58, Tryd.ntmps58
    go_wp2_with fail
    refine (texts_any _).mono ?_
    rintro e1 w1 ⟨rfl, rfl⟩
    go_wp2_with fail
    refine (C.out _).mono ?_
    rintro e2 w2 ⟨rfl, rfl⟩
    have hc : ((w.alloc (.cells #[.bool false, .int .i64 0, .string ⟨#[]⟩] 59)).alloc (.cells txts 9)).cell? ⟨w.heap.size + 1, r.toNat, none⟩ = some (.string (txtAt r)) := by
      rw [World.cell?_alloc_at _ _ _ _ (by simp)]; exact TX.out
    go_wp2
    rw [KN.out, KS.out]
    exact bodyPost_ret (v := vl true 0 (txtAt r)) (by simp [results, Tryd.results58, go_sem]) rfl ⟨rfl, ((Below.refl _ _).alloc (Nat.le_refl _) _).alloc (by simp) _⟩
  · have hev : (bits BinOp.and IntKind.i64 n 1 == 0) = true := he
    have C := Lib.hid (fun wx => Wi.within_any (n.tdiv 2) 0 9 wx (by omega) (by omega) (by omega) hh.1 hh.2)
    have KN := Lib.hid (show kvN n = Wi.within (n.tdiv 2) 0 9 by simp [kvN, he])
    have KS := Lib.hid (show kvS n = ⟨#[]⟩ by simp [kvS, he])
    clear he hh
    generalize Wi.within (n.tdiv 2) 0 9 = r at C KN
    go_enter Tryd.func58, Tryd.ntmps58
    go_wp2_with fail
    refine (C.out _).mono ?_
    rintro e2 w2 ⟨rfl, rfl⟩
    go_wp2
    rw [KN.out, KS.out]
    exact bodyPost_ret (v := vl false r ⟨#[]⟩) (by simp [results, Tryd.results58, go_sem]) rfl ⟨rfl, (Below.refl _ _).alloc (Nat.le_refl _) _⟩
theorem txt_size (r : Int) : (txtAt r).size ≤ 3 := by
  unfold txtAt
  rcases Nat.lt_or_ge r.toNat 7 with h | h
  · generalize r.toNat = n at h
    match n, h with
    | 0, _ => decide
    | 1, _ => decide
    | 2, _ => decide
    | 3, _ => decide
    | 4, _ => decide
    | 5, _ => decide
    | 6, _ => decide
  · rw [List.getD_eq_getElem?_getD, List.getElem?_eq_none (by simpa using h)]
    decide
theorem kvS_size (n : Int) : (kvS n).size ≤ 3 := by
  unfold kvS; split
  · decide
  · exact txt_size _
theorem kv_right (n : Int) : rightV (!(evn n)) (kvN n) (kvS n) = true := by
  have hs := kvS_size n
  cases h : evn n
  · have h0 : kvN n = 0 := by simp [kvN, h]
    simp [rightV, h0]; omega
  · have h0 : kvS n = ⟨#[]⟩ := by simp [kvS, h]
    rw [h0]; simp [rightV]
theorem right_iff {t : Bool} {n : Int} {s : ByteArray} (h : rightV t n s = true) : if t then n = 0 else s.toList = [] := by
  cases t
  · simpa [rightV] using h
  · simp [rightV] at h; simp [h.1]

theorem stoodV : Tryd.prog.stoodInHeld 59 = false := by kernel_rfl
/-- Are two values the same? -/
def eqlV (t1 : Bool) (n1 : Int) (s1 : ByteArray) (t2 : Bool) (n2 : Int) (s2 : ByteArray) : Bool := t1 == t2 && n1 == n2 && s1.toList == s2.toList
theorem eqlV_iff (t1 : Bool) (n1 : Int) (s1 : ByteArray) (t2 : Bool) (n2 : Int) (s2 : ByteArray) : eqlV t1 n1 s1 t2 n2 s2 = true ↔ t1 = t2 ∧ n1 = n2 ∧ s1.toList = s2.toList := by
  simp [eqlV, and_assoc]
set_option maxRecDepth 100000 in
theorem neqV (t1 : Bool) (n1 : Int) (s1 : ByteArray) (t2 : Bool) (n2 : Int) (s2 : ByteArray) (r : Bool) (hr : eqlV t1 n1 s1 t2 n2 s2 = r) (w : World) :
    (binOp .neq 59 (vl t1 n1 s1) (vl t2 n2 s2)).run Tryd.prog w = .ok (.bool (!r)) w := by
  have st := stoodV
  subst hr
  unfold eqlV
  by_cases h1 : t1 = t2 <;> by_cases h2 : n1 = n2 <;> by_cases h3 : s1.toList = s2.toList <;> simp [go_sem, Tryd.underlying59, Tryd.underlying4, Tryd.underlying3, Tryd.underlying9, st, h1, h2, h3]
set_option maxRecDepth 100000 in
theorem eqV (t1 : Bool) (n1 : Int) (s1 : ByteArray) (t2 : Bool) (n2 : Int) (s2 : ByteArray) (r : Bool) (hr : eqlV t1 n1 s1 t2 n2 s2 = r) (w : World) :
    (binOp .eql 59 (vl t1 n1 s1) (vl t2 n2 s2)).run Tryd.prog w = .ok (.bool r) w := by
  have st := stoodV
  subst hr
  unfold eqlV
  by_cases h1 : t1 = t2 <;> by_cases h2 : n1 = n2 <;> by_cases h3 : s1.toList = s2.toList <;> simp [go_sem, Tryd.underlying59, Tryd.underlying4, Tryd.underlying3, Tryd.underlying9, st, h1, h2, h3]

end Go.Proofs.YtfcgfnmokbbcaaaDoor.Va

namespace Go.Proofs.YtfcgfnmokbbcaaaDoor.In
open Go.RowKit Go.ChangeShapes Go.WideShapes

/-- A list of numbers that came in. -/
structure InInts (W : World) (nv : Value) (zs : List Int) : Prop where
  shape : ∃ ao cap, nv = .slice ao zs.length cap
  at_ : ∀ (i : Nat) (z : Int), zs[i]? = some z → (-9223372036854775808 ≤ z ∧ z ≤ 9223372036854775807) ∧ ∃ p : Addr, p.block < W.heap.size ∧ (∀ w, (Instr.indexAt 37 nv (.int .i64 i)).run Tryd.prog w = .ok (.pointer (some p)) w) ∧ W.cell? p = some (.int .i64 z)
theorem InInts.on {W W' : World} {nv : Value} {zs : List Int} (h : InInts W nv zs) (hb : Below W.heap.size W W') : InInts W' nv zs :=
  ⟨h.shape, fun i z hz => by
    obtain ⟨h1, p, h2, h3, h4⟩ := h.at_ i z hz
    exact ⟨h1, p, Nat.lt_of_lt_of_le h2 hb.size, h3, by rw [hb.cell h2]; exact h4⟩⟩
theorem lits_bd {n : Int} (h : (Lit.int .i64 n).wf = true) : -9223372036854775808 ≤ n ∧ n ≤ 9223372036854775807 := by
  have h2 : (decide (IntKind.i64.min ≤ n) && decide (n ≤ IntKind.i64.max)) = true := h
  rw [Bool.and_eq_true, decide_eq_true_eq, decide_eq_true_eq, show IntKind.i64.min = -9223372036854775808 by decide, show IntKind.i64.max = 9223372036854775807 by decide] at h2
  exact h2
theorem cellsI : Tryd.prog.cellsOf 3 = 1 := by kernel_rfl
theorem index_ints (a : Addr) (m len cap : Nat) (h : m < len) (w : World) : (Instr.indexAt 37 (.slice (some a) len cap) (.int .i64 m)).run Tryd.prog w = .ok (.pointer (some (a.add m))) w := by
  have h1 : (m : Int) < len := by omega
  simp [go_sem, Tryd.underlying37, h1]
set_option maxRecDepth 100000 in
/-- Out of the row's reading, at a field or a parameter. -/
theorem in_trod {H : Type} {enc : TypeId × Value → H} {W : World} {sp : Nat → Bool} {held : Bool} {fuel : Nat} {v : Value} {x : DataW H × List MemPlace}
    (hf : DataW.trod enc Tryd.prog W 0 sp held fuel 37 [v] = some x) : ∃ zs, zs.length ≤ maxLen ∧ InInts W v zs := by
  rcases open_ints Tryd.underlying37 Tryd.underlying3 cellsI hf with ⟨h1, _⟩ | ⟨a', len', cap', zs, h1, _, h3, h4, h5, _, h7, h8⟩
  · have e : v = .slice none 0 0 := by simpa using h1
    rw [e]
    exact ⟨[], Nat.zero_le _, ⟨none, 0, rfl⟩, fun i z h => by simp at h⟩
  · have e : v = .slice (some a') len' cap' := by simpa using h1
    rw [e]
    have hle : len' ≤ zs.length := by rw [h5]; split <;> omega
    have hl : (zs.take len').length = len' := by simp; omega
    refine ⟨zs.take len', by omega, ⟨some a', cap', by rw [hl]⟩, fun i z hz => ?_⟩
    obtain ⟨hi, hzi⟩ := List.getElem?_eq_some_iff.1 hz
    have hi2 : i < len' := by omega
    have hz2 : zs[i]'(by omega) = z := by simpa using hzi
    have hc := h7 i (by omega)
    have hg : zs.getD i 0 = z := by rw [← hz2]; simp [List.getD, show i < zs.length by omega]
    rw [hg] at hc
    exact ⟨lits_bd (h8 z (by rw [← hz2]; exact List.getElem_mem _)), a'.add i, World.block_lt_of_cell? W _ hc, fun w => index_ints a' i len' cap' hi2 w, hc⟩
set_option maxRecDepth 100000 in
theorem in_ints {H : Type} {enc : TypeId × Value → H} {W : World} {r : Reach} {b0 : Nat} {sp : Nat → Bool} {held : Bool} {v : Value} {d : DataW H} {ps : List MemPlace}
    (hval : Value.okWide Tryd.prog W r b0 37 v) (hd : DataW.Trod enc Tryd.prog W 0 sp held 37 v d ps) : ∃ zs, zs.length ≤ maxLen ∧ InInts W v zs := by
  obtain ⟨a, len, cap, rfl⟩ := okWide_slice Tryd.underlying37 hval
  obtain ⟨fuel, hf⟩ := hd
  exact in_trod (fuel := fuel) hf
end Go.Proofs.YtfcgfnmokbbcaaaDoor.In
