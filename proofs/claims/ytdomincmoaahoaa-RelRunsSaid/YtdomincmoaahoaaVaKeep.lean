/-
  texts, Value and the document's own RightValue, of the statements' packages. Condition: numbers of 64 bits.
-/
import Derived.Test.YtdomincmoaahoaaWi
import Derived.WalkLawsBesides
import Derived.IntWalk
namespace Go.Proofs.Ytdomincmoaahoaa.Va
open Go.RowKit

/-- A value, as the model has it. -/
abbrev vl (t : Bool) (n : Int) (s : ByteArray) : Value := .agg #[.bool t, .int .i64 n, .string s]
/-- May a value be? -/
def rightV (t : Bool) (n : Int) (s : ByteArray) : Bool := if t then decide (n = 0) && decide (s.size ≤ 12) else s.toList.isEmpty
theorem ret_val {a b : Value} (h : a = b) : Ending.returned a = .returned b := by rw [h]
theorem ret_bool {a b : Bool} (h : a = b) : Ending.returned (.bool a) = .returned (.bool b) := by rw [h]

/-- The texts of values. -/
def txts : Array Value := #[.string ⟨#[]⟩, .string ⟨#[120]⟩, .string ⟨#[120, 121]⟩, .string ⟨#[120, 121, 122]⟩, .string ⟨#[120, 122]⟩, .string ⟨#[121]⟩, .string ⟨#[121, 121]⟩]
def txtAt (r : Int) : ByteArray := [⟨#[]⟩, ⟨#[120]⟩, ⟨#[120, 121]⟩, ⟨#[120, 121, 122]⟩, ⟨#[120, 122]⟩, ⟨#[121]⟩, ⟨#[121, 121]⟩].getD r.toNat ⟨#[]⟩
theorem txts_at (r : Int) (h0 : 0 ≤ r) (h1 : r ≤ 6) : txts[r.toNat]? = some (.string (txtAt r)) := by
  obtain ⟨n, rfl⟩ := Int.eq_ofNat_of_zero_le h0
  have hn : n ≤ 6 := by omega
  match n, hn with
  | 0, _ => rfl
  | 1, _ => rfl
  | 2, _ => rfl
  | 3, _ => rfl
  | 4, _ => rfl
  | 5, _ => rfl
  | 6, _ => rfl
theorem texts_any (w : World) :
    Calls Try.prog 38 #[] w fun e w' => e = .returned (.slice (some ⟨w.heap.size, 0, none⟩) 7 7) ∧ w' = w.alloc (.cells txts 9) := by
  go_enter Try.func38, Try.ntmps38
  go_wp2
  go_ret
  exact ⟨rfl, rfl⟩

/-- Is the number even, as the program asks it? -/
def evn (n : Int) : Bool := bits BinOp.and IntKind.i64 n 1 == 0
def kvN (n : Int) : Int := if evn n then Wi.within (n.tdiv 2) 0 9 else 0
def kvS (n : Int) : ByteArray := if evn n then ⟨#[]⟩ else txtAt (Wi.within (n.tdiv 2) 0 6)
theorem half_bd (n : Int) (h1 : -9223372036854775808 ≤ n) (h2 : n ≤ 9223372036854775807) : -9223372036854775808 ≤ n.tdiv 2 ∧ n.tdiv 2 ≤ 9223372036854775807 := by
  have hs : Int.sign 2 = 1 := rfl
  rw [Int.tdiv_eq_ediv, hs]
  split <;> omega

set_option maxHeartbeats 400000 in
theorem kvalue_any (n : Int) (w : World) (h1 : -9223372036854775808 ≤ n) (h2 : n ≤ 9223372036854775807) :
    Calls Try.prog 24 #[.int .i64 n] w fun e w' => e = .returned (vl (!(evn n)) (kvN n) (kvS n)) ∧ Below w.heap.size w w' := by
  have hh := half_bd n h1 h2
  cases he : evn n
  · have hev : (bits BinOp.and IntKind.i64 n 1 == 0) = false := he
    have hw := Wi.within_bd (n.tdiv 2) 0 6 (by omega)
    have C := Lib.hid (fun wx => Wi.within_any (n.tdiv 2) 0 6 wx (by omega) (by omega) (by omega) hh.1 hh.2)
    have KN := Lib.hid (show kvN n = 0 by simp [kvN, he])
    have KS := Lib.hid (show kvS n = txtAt (Wi.within (n.tdiv 2) 0 6) by simp [kvS, he])
    clear he hh
    generalize Wi.within (n.tdiv 2) 0 6 = r at C KS hw
    have hr0 := hw.1
    have hr1 := hw.2
    have TX := Lib.hid (txts_at r hr0 hr1)
    clear hw
    go_enter Try.func24, Try.ntmps24
    go_wp2_with fail
    refine (texts_any _).mono ?_
    rintro e1 w1 ⟨rfl, rfl⟩
    go_wp2_with fail
    refine (C.out _).mono ?_
    rintro e2 w2 ⟨rfl, rfl⟩
    have hc : ((w.alloc (.cells #[.bool false, .int .i64 0, .string ⟨#[]⟩] 45)).alloc (.cells txts 9)).cell? ⟨w.heap.size + 1, r.toNat, none⟩ = some (.string (txtAt r)) := by
      rw [World.cell?_alloc_at _ _ _ _ (by simp)]; exact TX.out
    go_wp2
    rw [KN.out, KS.out]
    exact bodyPost_ret (v := vl true 0 (txtAt r)) (by simp [results, Try.results24, go_sem]) rfl ⟨rfl, ((Below.refl _ _).alloc (Nat.le_refl _) _).alloc (by simp) _⟩
  · have hev : (bits BinOp.and IntKind.i64 n 1 == 0) = true := he
    have C := Lib.hid (fun wx => Wi.within_any (n.tdiv 2) 0 9 wx (by omega) (by omega) (by omega) hh.1 hh.2)
    have KN := Lib.hid (show kvN n = Wi.within (n.tdiv 2) 0 9 by simp [kvN, he])
    have KS := Lib.hid (show kvS n = ⟨#[]⟩ by simp [kvS, he])
    clear he hh
    generalize Wi.within (n.tdiv 2) 0 9 = r at C KN
    go_enter Try.func24, Try.ntmps24
    go_wp2_with fail
    refine (C.out _).mono ?_
    rintro e2 w2 ⟨rfl, rfl⟩
    go_wp2
    rw [KN.out, KS.out]
    exact bodyPost_ret (v := vl false r ⟨#[]⟩) (by simp [results, Try.results24, go_sem]) rfl ⟨rfl, (Below.refl _ _).alloc (Nat.le_refl _) _⟩
theorem txt_size (r : Int) : (txtAt r).size ≤ 3 := by
  unfold txtAt
  rcases Nat.lt_or_ge r.toNat 7 with h | h
  · generalize r.toNat = n at h
    match n, h with
    | 0, _ => decide
    | 1, _ => decide
    | 2, _ => decide
    | 3, _ => decide
    | 4, _ => decide
    | 5, _ => decide
    | 6, _ => decide
  · rw [List.getD_eq_getElem?_getD, List.getElem?_eq_none (by simpa using h)]
    decide
theorem kvS_size (n : Int) : (kvS n).size ≤ 3 := by
  unfold kvS; split
  · decide
  · exact txt_size _
theorem kv_right (n : Int) : rightV (!(evn n)) (kvN n) (kvS n) = true := by
  have hs := kvS_size n
  cases h : evn n
  · have h0 : kvN n = 0 := by simp [kvN, h]
    simp [rightV, h0]; omega
  · have h0 : kvS n = ⟨#[]⟩ := by simp [kvS, h]
    rw [h0]; simp [rightV]
theorem right_iff {t : Bool} {n : Int} {s : ByteArray} (h : rightV t n s = true) : if t then n = 0 else s.toList = [] := by
  cases t
  · simpa [rightV] using h
  · simp [rightV] at h; simp [h.1]

theorem stoodV : Try.prog.stoodInHeld 45 = false := by kernel_rfl
/-- Are two values the same? -/
def eqlV (t1 : Bool) (n1 : Int) (s1 : ByteArray) (t2 : Bool) (n2 : Int) (s2 : ByteArray) : Bool := t1 == t2 && n1 == n2 && s1.toList == s2.toList
theorem eqlV_iff (t1 : Bool) (n1 : Int) (s1 : ByteArray) (t2 : Bool) (n2 : Int) (s2 : ByteArray) : eqlV t1 n1 s1 t2 n2 s2 = true ↔ t1 = t2 ∧ n1 = n2 ∧ s1.toList = s2.toList := by
  simp [eqlV, and_assoc]
set_option maxRecDepth 100000 in
theorem neqV (t1 : Bool) (n1 : Int) (s1 : ByteArray) (t2 : Bool) (n2 : Int) (s2 : ByteArray) (r : Bool) (hr : eqlV t1 n1 s1 t2 n2 s2 = r) (w : World) :
    (binOp .neq 45 (vl t1 n1 s1) (vl t2 n2 s2)).run Try.prog w = .ok (.bool (!r)) w := by
  have st := stoodV
  subst hr
  unfold eqlV
  by_cases h1 : t1 = t2 <;> by_cases h2 : n1 = n2 <;> by_cases h3 : s1.toList = s2.toList <;> simp [go_sem, Try.underlying45, Try.underlying4, Try.underlying3, Try.underlying9, st, h1, h2, h3]
set_option maxRecDepth 100000 in
theorem eqV (t1 : Bool) (n1 : Int) (s1 : ByteArray) (t2 : Bool) (n2 : Int) (s2 : ByteArray) (r : Bool) (hr : eqlV t1 n1 s1 t2 n2 s2 = r) (w : World) :
    (binOp .eql 45 (vl t1 n1 s1) (vl t2 n2 s2)).run Try.prog w = .ok (.bool r) w := by
  have st := stoodV
  subst hr
  unfold eqlV
  by_cases h1 : t1 = t2 <;> by_cases h2 : n1 = n2 <;> by_cases h3 : s1.toList = s2.toList <;> simp [go_sem, Try.underlying45, Try.underlying4, Try.underlying3, Try.underlying9, st, h1, h2, h3]

end Go.Proofs.Ytdomincmoaahoaa.Va
