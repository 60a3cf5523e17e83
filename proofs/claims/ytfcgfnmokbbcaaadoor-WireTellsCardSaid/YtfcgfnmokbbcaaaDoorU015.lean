/-
  RightID, RightOne of the statements' own package. Condition: texts below a machine's length.
  Plain facts on publications: what is got, put, said. No program in it.
-/
import Derived.Test.YtfcgfnmokbbcaaaDoorU014
import Derived.Test.YtfcgfnmokbbcaaaDoorU010
namespace Go.Proofs.YtfcgfnmokbbcaaaDoor.Wr
open Go.RowKit Go.Proofs.YtfcgfnmokbbcaaaDoor Go.Proofs.YtfcgfnmokbbcaaaDoor.Rw Go.Proofs.YtfcgfnmokbbcaaaDoor.Nm Go.Proofs.YtfcgfnmokbbcaaaDoor.At Go.Proofs.YtfcgfnmokbbcaaaDoor.Pr

set_option maxHeartbeats 2000000 in
theorem rid_any (c s : Int) (w : World) :
    Calls Tryd.prog 34 #[.agg #[.int .i64 c, .int .i64 s]] w fun e w' => e = .returned (.bool (rightI c s)) ∧ Below w.heap.size w w' := by
  have B := Lib.hid (new_below w (.cells #[.int .i64 c, .int .i64 s] 28))
  have R := Lib.hid (show rightI c s = (decide (0 ≤ c) && (decide (c < 32) && decide (0 ≤ s))) from rfl)
  obtain ⟨b1, hb1⟩ : ∃ b, decide (0 ≤ c) = b := ⟨_, rfl⟩
  obtain ⟨b2, hb2⟩ : ∃ b, decide (c < 32) = b := ⟨_, rfl⟩
  obtain ⟨b3, hb3⟩ : ∃ b, decide (0 ≤ s) = b := ⟨_, rfl⟩
  rw [hb1, hb2, hb3] at R
  cases b1
  · go_enter Tryd.func34, Tryd.ntmps34
    go_wp2
    go_ret
    exact ⟨by rw [R.out]; rfl, B.out⟩
  cases b2
  · go_enter Tryd.func34, Tryd.ntmps34
    go_wp2
    go_ret
    exact ⟨by rw [R.out]; rfl, B.out⟩
  cases b3
  · go_enter Tryd.func34, Tryd.ntmps34
    go_wp2
    go_ret
    exact ⟨by rw [R.out]; rfl, B.out⟩
  · go_enter Tryd.func34, Tryd.ntmps34
    go_wp2
    go_ret
    exact ⟨by rw [R.out]; rfl, B.out⟩

theorem noText_is (t : ByteArray) : t.toList.isEmpty = decide (t.size = 0) := by
  rw [ByteArray.toList_eq]
  obtain ⟨⟨l⟩⟩ := t
  cases l <;> simp [ByteArray.size]
set_option maxRecDepth 100000 in
set_option maxHeartbeats 4000000 in
theorem rone_range (s t : ByteArray) (lo hi : Int) (w : World) (hs : s.size ≤ maxLen) :
    Calls Tryd.prog 59 #[cv (s, 1, lo, hi, t)] w fun e w' => e = .returned (.bool (oneB (s, 1, lo, hi, t))) ∧ Below w.heap.size w w' := by
  have B := Lib.hid (new_below w (.cells #[.string s, .int .i64 1, .int .i64 lo, .int .i64 hi, .string t] 57))
  have NM := Lib.hid (fun w => rname_any s w hs)
  have R := Lib.hid (show oneB (s, 1, lo, hi, t) = (nameB s && (t.toList.isEmpty && decide (lo ≤ hi))) by simp [oneB, noText_is])
  generalize nameB s = b at *
  cases b
  · go_enter Tryd.func59, Tryd.ntmps59
    go_wp2_with fail
    refine (NM.out _).mono ?_
    rintro e w' ⟨rfl, rfl⟩
    go_wp2
    go_ret
    exact ⟨by rw [R.out]; rfl, B.out⟩
  by_cases he : t.toList = []
  · have R2 := Lib.hid (show oneB (s, 1, lo, hi, t) = decide (lo ≤ hi) by rw [R.out, he]; rfl)
    go_enter Tryd.func59, Tryd.ntmps59
    go_wp2_with fail
    refine (NM.out _).mono ?_
    rintro e w' ⟨rfl, rfl⟩
    go_wp2
    go_ret
    exact ⟨by rw [R2.out]; rfl, B.out⟩
  · have he2 : t.toList.isEmpty = false := by simpa using he
    have R2 := Lib.hid (show oneB (s, 1, lo, hi, t) = false by rw [R.out, he2]; rfl)
    go_enter Tryd.func59, Tryd.ntmps59
    go_wp2_with fail
    refine (NM.out _).mono ?_
    rintro e w' ⟨rfl, rfl⟩
    go_wp2
    go_ret
    exact ⟨by rw [R2.out]; rfl, B.out⟩
/-- A constraint of text: the answer as the program has it. -/
def wordB (k lo hi : Int) (t : ByteArray) : Bool := (lo == 0) && ((hi == 0) && (decide ((t.size : Int) < 12) || ((k == 2) && ((t.size : Int) == 12))))
theorem oneB_word (s t : ByteArray) (k lo hi : Int) (hk : k = 2 ∨ k = 3) : oneB (s, k, lo, hi, t) = (nameB s && wordB k lo hi t) := by
  have e : ∀ x : Int, decide (x = 0) = (x == 0) := fun x => by rw [Bool.eq_iff_iff]; simp
  have e2 : ((t.size : Int) == 12) = decide (t.size = 12) := by rw [Bool.eq_iff_iff]; simp; omega
  have e3 : decide ((t.size : Int) < 12) = decide (t.size < 12) := by rw [Bool.eq_iff_iff]; simp; omega
  unfold oneB wordB
  rcases hk with rfl | rfl
  · simp only [e, e2, e3]
    congr 3
    rw [Bool.eq_iff_iff]
    simp; omega
  · simp only [e, e2, e3]
    congr 3
    rw [Bool.eq_iff_iff]
    simp; omega
set_option maxRecDepth 100000 in
set_option maxHeartbeats 8000000 in
theorem rone_word (s t : ByteArray) (k lo hi : Int) (w : World) (hs : s.size ≤ maxLen) (_ht : t.size ≤ maxLen) (hk : k = 2 ∨ k = 3) :
    Calls Tryd.prog 59 #[cv (s, k, lo, hi, t)] w fun e w' => e = .returned (.bool (oneB (s, k, lo, hi, t))) ∧ Below w.heap.size w w' := by
  have B := Lib.hid (new_below w (.cells #[.string s, .int .i64 k, .int .i64 lo, .int .i64 hi, .string t] 57))
  have NM := Lib.hid (fun w => rname_any s w hs)
  have R := Lib.hid (oneB_word s t k lo hi hk)
  have W := Lib.hid (show wordB k lo hi t = ((lo == 0) && ((hi == 0) && (decide ((t.size : Int) < 12) || ((k == 2) && ((t.size : Int) == 12))))) from rfl)
  generalize nameB s = b at *
  obtain ⟨b1, h1⟩ : ∃ x, (lo == 0) = x := ⟨_, rfl⟩
  obtain ⟨b2, h2⟩ : ∃ x, (hi == 0) = x := ⟨_, rfl⟩
  obtain ⟨b3, h3⟩ : ∃ x, decide ((t.size : Int) < 12) = x := ⟨_, rfl⟩
  obtain ⟨b4, h4⟩ : ∃ x, ((t.size : Int) == 12) = x := ⟨_, rfl⟩
  rw [h1, h2, h3, h4] at W
  rw [W.out] at R
  clear W
  rcases hk with rfl | rfl <;> cases b <;> cases b1 <;> cases b2 <;> cases b3 <;> (
    go_enter Tryd.func59, Tryd.ntmps59
    go_wp2_with fail
    refine (NM.out _).mono ?_
    rintro e w' ⟨rfl, rfl⟩
    go_wp2
    go_ret
    exact ⟨by rw [R.out]; rfl, B.out⟩)
set_option maxRecDepth 100000 in
set_option maxHeartbeats 8000000 in
theorem rone_other (s t : ByteArray) (k lo hi : Int) (w : World) (h1 : k ≠ 1) (h2 : k ≠ 2) (h3 : k ≠ 3) :
    Calls Tryd.prog 59 #[cv (s, k, lo, hi, t)] w fun e w' => e = .returned (.bool (oneB (s, k, lo, hi, t))) ∧ Below w.heap.size w w' := by
  have B := Lib.hid (new_below w (.cells #[.string s, .int .i64 k, .int .i64 lo, .int .i64 hi, .string t] 57))
  have R := Lib.hid (show oneB (s, k, lo, hi, t) = false by simp [oneB, h1, h2, h3])
  have e1 : (k == 1) = false := by simpa using h1
  have e2 : (k == 2) = false := by simpa using h2
  have e3 : (k == 3) = false := by simpa using h3
  clear h1 h2 h3
  go_enter Tryd.func59, Tryd.ntmps59
  go_wp2
  go_ret
  exact ⟨by rw [R.out]; rfl, B.out⟩
theorem rone_any (c : C5) (w : World) (hs : c.1.size ≤ maxLen) (ht : c.2.2.2.2.size ≤ maxLen) :
    Calls Tryd.prog 59 #[cv c] w fun e w' => e = .returned (.bool (oneB c)) ∧ Below w.heap.size w w' := by
  obtain ⟨s, k, lo, hi, t⟩ := c
  by_cases h1 : k = 1
  · subst h1; exact rone_range s t lo hi w hs
  by_cases h2 : k = 2
  · exact rone_word s t k lo hi w hs ht (Or.inl h2)
  by_cases h3 : k = 3
  · exact rone_word s t k lo hi w hs ht (Or.inr h3)
  exact rone_other s t k lo hi w h1 h2 h3
end Go.Proofs.YtfcgfnmokbbcaaaDoor.Wr

namespace Go.Proofs.YtfcgfnmokbbcaaaDoor.At
open Go.RowKit Go.Proofs.YtfcgfnmokbbcaaaDoor.Va

abbrev V3 := Bool × Int × ByteArray
theorem name_inj {a b : ByteArray} (h : a.toList = b.toList) : a = b := by
  rw [ByteArray.toList_eq, ByteArray.toList_eq] at h
  exact WideShapes.bytes_inj h
/-- The first value of that name. -/
def getA : List A4 → ByteArray → Option V3
  | [], _ => none
  | x :: r, n => if x.1 = n then some x.2 else getA r n
/-- With just that value of that name, in its place. -/
def putA : List A4 → ByteArray → V3 → List A4
  | [], n, v => [(n, v)]
  | x :: r, n, v => if Op.bytesLess x.1.toList n.toList = true then x :: putA r n v else if x.1 = n then (n, v) :: r else (n, v) :: x :: r
/-- Names that rise. -/
def Rise (l : List A4) : Prop := l.Pairwise fun x y => Op.bytesLess x.1.toList y.1.toList = true
theorem less_ne {a b : ByteArray} (h : Op.bytesLess a.toList b.toList = true) : a ≠ b := by
  rintro rfl
  rw [VaP.bl_irrefl] at h; cases h
theorem less_or {a b : ByteArray} (h1 : ¬ Op.bytesLess a.toList b.toList = true) (h2 : a ≠ b) : Op.bytesLess b.toList a.toList = true := by
  rcases VaP.bl_total a.toList b.toList with h | h | h
  · exact absurd h h1
  · exact absurd (name_inj h) h2
  · exact h

theorem get_put_self : ∀ (l : List A4) (n : ByteArray) (v : V3), getA (putA l n v) n = some v
  | [], n, v => by simp [putA, getA]
  | x :: r, n, v => by
    simp only [putA]
    split
    · rename_i h
      simp [getA, less_ne h, get_put_self r n v]
    · split <;> simp [getA]
theorem get_put_other : ∀ (l : List A4) (n m : ByteArray) (v : V3), m ≠ n → getA (putA l n v) m = getA l m
  | [], n, m, v, h => by simp [putA, getA, Ne.symm h]
  | x :: r, n, m, v, h => by
    simp only [putA]
    split
    · simp [getA, get_put_other r n m v h]
    · split
      · rename_i h2
        simp [getA, h2, Ne.symm h]
      · simp [getA, Ne.symm h]
theorem put_put : ∀ (l : List A4) (n : ByteArray) (v w : V3), putA (putA l n v) n w = putA l n w
  | [], n, v, w => by simp [putA, VaP.bl_irrefl]
  | x :: r, n, v, w => by
    simp only [putA]
    split
    · rename_i h
      simp [putA, h, put_put r n v w]
    · split
      · simp [putA, VaP.bl_irrefl]
      · simp [putA, VaP.bl_irrefl]
theorem get_none : ∀ (l : List A4) (n : ByteArray), (∀ x ∈ l, x.1 ≠ n) → getA l n = none
  | [], _, _ => rfl
  | x :: r, n, h => by
    simp only [getA]
    rw [if_neg (h x (List.mem_cons_self ..)), get_none r n (fun y hy => h y (List.mem_cons_of_mem _ hy))]
theorem get_mem : ∀ (l : List A4), Rise l → ∀ x ∈ l, getA l x.1 = some x.2
  | y :: r, h, x, hx => by
    obtain ⟨h1, h2⟩ := List.pairwise_cons.1 h
    simp only [getA]
    rcases List.mem_cons.1 hx with rfl | hx
    · simp
    · rw [if_neg (less_ne (h1 x hx)), get_mem r h2 x hx]
theorem put_len : ∀ (l : List A4) (n : ByteArray) (v : V3), Rise l → (putA l n v).length = l.length + (if (getA l n).isSome then 0 else 1)
  | [], n, v, _ => by simp [putA, getA]
  | x :: r, n, v, h => by
    obtain ⟨h1, h2⟩ := List.pairwise_cons.1 h
    simp only [putA]
    split
    · rename_i hl
      simp only [List.length_cons, getA, if_neg (less_ne hl), put_len r n v h2]
      omega
    · split
      · rename_i hl he
        simp [getA, he]
      · rename_i hl he
        have hn : getA r n = none := get_none r n fun y hy e => by
          have h3 := h1 y hy
          rw [e] at h3
          exact hl h3
        simp [getA, he, hn]
theorem put_mem : ∀ (l : List A4) (n : ByteArray) (v : V3) (y : A4), y ∈ putA l n v → y = (n, v) ∨ y ∈ l
  | [], n, v, y, h => by simpa [putA] using h
  | x :: r, n, v, y, h => by
    simp only [putA] at h
    split at h
    · rcases List.mem_cons.1 h with rfl | h
      · exact Or.inr (List.mem_cons_self ..)
      · rcases put_mem r n v y h with h | h
        · exact Or.inl h
        · exact Or.inr (List.mem_cons_of_mem _ h)
    · split at h
      · rcases List.mem_cons.1 h with rfl | h
        · exact Or.inl rfl
        · exact Or.inr (List.mem_cons_of_mem _ h)
      · rcases List.mem_cons.1 h with rfl | h
        · exact Or.inl rfl
        · exact Or.inr h
theorem put_rise : ∀ (l : List A4) (n : ByteArray) (v : V3), Rise l → Rise (putA l n v)
  | [], n, v, _ => by simp [putA, Rise]
  | x :: r, n, v, h => by
    obtain ⟨h1, h2⟩ := List.pairwise_cons.1 h
    simp only [putA]
    split
    · rename_i hl
      refine List.pairwise_cons.2 ⟨fun y hy => ?_, put_rise r n v h2⟩
      rcases put_mem r n v y hy with rfl | hy
      · exact hl
      · exact h1 y hy
    · rename_i hl
      split
      · rename_i he
        refine List.pairwise_cons.2 ⟨fun y hy => ?_, h2⟩
        have h3 := h1 y hy
        rw [he] at h3
        exact h3
      · rename_i he
        have hx := less_or hl he
        refine List.pairwise_cons.2 ⟨fun y hy => ?_, h⟩
        rcases List.mem_cons.1 hy with rfl | hy
        · exact hx
        · exact VaP.bl_trans _ _ _ hx (h1 y hy)
theorem eqlA_refl (x : A4) : eqlA x x = true := by simp [eqlA]
theorem sameL_refl : ∀ l, sameL l l = true
  | [] => rfl
  | x :: l => by simp [sameL, eqlA_refl, sameL_refl l]
theorem eqlA_iff (x y : A4) : eqlA x y = true ↔ x = y := by
  constructor
  · intro h
    obtain ⟨a, b, c, d⟩ := x
    obtain ⟨a', b', c', d'⟩ := y
    simp only [eqlA, Bool.and_eq_true, beq_iff_eq] at h
    rw [name_inj h.1, h.2.1.1, h.2.1.2, name_inj h.2.2]
  · rintro rfl; exact eqlA_refl _
theorem sameL_iff : ∀ l m, sameL l m = true ↔ l = m
  | [], [] => by simp [sameL]
  | [], _ :: _ => by simp [sameL]
  | _ :: _, [] => by simp [sameL]
  | x :: l, y :: m => by simp [sameL, eqlA_iff, sameL_iff l m]

/-! ### the publications that numbers make -/
theorem nm_list (i : Nat) : (nm i).toList = [UInt8.ofNat (97 + i)] := by rw [ByteArray.toList_eq]; rfl
theorem nm_less (i j : Nat) (h : i < j) (hj : j < 7) : Op.bytesLess (nm i).toList (nm j).toList = true := by
  rw [nm_list, nm_list, VaP.bl_cons]
  left
  simp only [UInt8.toNat_ofNat']
  omega
theorem tup_names (has vals : List Int) : ∀ k, ∀ x ∈ tup has vals k, ∃ i, i < k ∧ x.1 = nm i
  | 0, x, h => by simp [tup] at h
  | k + 1, x, h => by
    simp only [tup] at h
    split at h
    · rcases List.mem_append.1 h with h | h
      · obtain ⟨i, h1, h2⟩ := tup_names has vals k x h
        exact ⟨i, by omega, h2⟩
      · simp at h
        exact ⟨k, by omega, by rw [h]⟩
    · obtain ⟨i, h1, h2⟩ := tup_names has vals k x h
      exact ⟨i, by omega, h2⟩
theorem tup_rise (has vals : List Int) : ∀ k, k ≤ 7 → Rise (tup has vals k)
  | 0, _ => List.Pairwise.nil
  | k + 1, hk => by
    simp only [tup]
    split
    · unfold Rise
      rw [List.pairwise_append]
      refine ⟨tup_rise has vals k (by omega), by simp, fun x hx y hy => ?_⟩
      obtain ⟨i, h1, h2⟩ := tup_names has vals k x hx
      simp at hy
      rw [h2, hy]
      exact nm_less i k h1 (by omega)
    · exact tup_rise has vals k (by omega)
theorem tup_right (has vals : List Int) : ∀ k, ∀ x ∈ tup has vals k, rightV x.2.1 x.2.2.1 x.2.2.2 = true ∧ x.2.2.2.size ≤ 3
  | 0, x, h => by simp [tup] at h
  | k + 1, x, h => by
    simp only [tup] at h
    split at h
    · rcases List.mem_append.1 h with h | h
      · exact tup_right has vals k x h
      · simp at h
        rw [h]
        exact ⟨kv_right _, kvS_size _⟩
    · exact tup_right has vals k x h
theorem tup_five (has vals : List Int) : ∀ k, (tup has vals k).length ≤ 5
  | 0 => by simp [tup]
  | k + 1 => by
    have := tup_five has vals k
    simp only [tup]
    split
    · rename_i h
      simp; omega
    · exact this
theorem nm_size (i : Nat) : (nm i).size = 1 := rfl
theorem nameB_nm (i : Nat) (h : i < 7) : nameB (nm i) = true := by
  match i, h with
  | 0, _ => decide
  | 1, _ => decide
  | 2, _ => decide
  | 3, _ => decide
  | 4, _ => decide
  | 5, _ => decide
  | 6, _ => decide
end Go.Proofs.YtfcgfnmokbbcaaaDoor.At
