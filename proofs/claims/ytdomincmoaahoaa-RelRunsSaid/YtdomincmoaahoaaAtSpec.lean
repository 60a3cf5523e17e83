/-
  Plain facts on publications: what is got, put, said. No program in it.
-/
import Derived.Test.YtdomincmoaahoaaAtRef
import Derived.Test.YtdomincmoaahoaaVaPure
namespace Go.Proofs.Ytdomincmoaahoaa.At
open Go.RowKit Go.Proofs.Ytdomincmoaahoaa.Va

abbrev V3 := Bool × Int × ByteArray
theorem name_inj {a b : ByteArray} (h : a.toList = b.toList) : a = b := by
  rw [ByteArray.toList_eq, ByteArray.toList_eq] at h
  exact WideShapes.bytes_inj h
/-- The first value of that name. -/
def getA : List A4 → ByteArray → Option V3
  | [], _ => none
  | x :: r, n => if x.1 = n then some x.2 else getA r n
/-- With just that value of that name, in its place. -/
def putA : List A4 → ByteArray → V3 → List A4
  | [], n, v => [(n, v)]
  | x :: r, n, v => if Op.bytesLess x.1.toList n.toList = true then x :: putA r n v else if x.1 = n then (n, v) :: r else (n, v) :: x :: r
/-- Names that rise. -/
def Rise (l : List A4) : Prop := l.Pairwise fun x y => Op.bytesLess x.1.toList y.1.toList = true
theorem less_ne {a b : ByteArray} (h : Op.bytesLess a.toList b.toList = true) : a ≠ b := by
  rintro rfl
  rw [VaP.bl_irrefl] at h; cases h
theorem less_or {a b : ByteArray} (h1 : ¬ Op.bytesLess a.toList b.toList = true) (h2 : a ≠ b) : Op.bytesLess b.toList a.toList = true := by
  rcases VaP.bl_total a.toList b.toList with h | h | h
  · exact absurd h h1
  · exact absurd (name_inj h) h2
  · exact h

theorem get_put_self : ∀ (l : List A4) (n : ByteArray) (v : V3), getA (putA l n v) n = some v
  | [], n, v => by simp [putA, getA]
  | x :: r, n, v => by
    simp only [putA]
    split
    · rename_i h
      simp [getA, less_ne h, get_put_self r n v]
    · split <;> simp [getA]
theorem get_put_other : ∀ (l : List A4) (n m : ByteArray) (v : V3), m ≠ n → getA (putA l n v) m = getA l m
  | [], n, m, v, h => by simp [putA, getA, Ne.symm h]
  | x :: r, n, m, v, h => by
    simp only [putA]
    split
    · simp [getA, get_put_other r n m v h]
    · split
      · rename_i h2
        simp [getA, h2, Ne.symm h]
      · simp [getA, Ne.symm h]
theorem put_put : ∀ (l : List A4) (n : ByteArray) (v w : V3), putA (putA l n v) n w = putA l n w
  | [], n, v, w => by simp [putA, VaP.bl_irrefl]
  | x :: r, n, v, w => by
    simp only [putA]
    split
    · rename_i h
      simp [putA, h, put_put r n v w]
    · split
      · simp [putA, VaP.bl_irrefl]
      · simp [putA, VaP.bl_irrefl]
theorem get_none : ∀ (l : List A4) (n : ByteArray), (∀ x ∈ l, x.1 ≠ n) → getA l n = none
  | [], _, _ => rfl
  | x :: r, n, h => by
    simp only [getA]
    rw [if_neg (h x (List.mem_cons_self ..)), get_none r n (fun y hy => h y (List.mem_cons_of_mem _ hy))]
theorem get_mem : ∀ (l : List A4), Rise l → ∀ x ∈ l, getA l x.1 = some x.2
  | y :: r, h, x, hx => by
    obtain ⟨h1, h2⟩ := List.pairwise_cons.1 h
    simp only [getA]
    rcases List.mem_cons.1 hx with rfl | hx
    · simp
    · rw [if_neg (less_ne (h1 x hx)), get_mem r h2 x hx]
theorem put_len : ∀ (l : List A4) (n : ByteArray) (v : V3), Rise l → (putA l n v).length = l.length + (if (getA l n).isSome then 0 else 1)
  | [], n, v, _ => by simp [putA, getA]
  | x :: r, n, v, h => by
    obtain ⟨h1, h2⟩ := List.pairwise_cons.1 h
    simp only [putA]
    split
    · rename_i hl
      simp only [List.length_cons, getA, if_neg (less_ne hl), put_len r n v h2]
      omega
    · split
      · rename_i hl he
        simp [getA, he]
      · rename_i hl he
        have hn : getA r n = none := get_none r n fun y hy e => by
          have h3 := h1 y hy
          rw [e] at h3
          exact hl h3
        simp [getA, he, hn]
theorem put_mem : ∀ (l : List A4) (n : ByteArray) (v : V3) (y : A4), y ∈ putA l n v → y = (n, v) ∨ y ∈ l
  | [], n, v, y, h => by simpa [putA] using h
  | x :: r, n, v, y, h => by
    simp only [putA] at h
    split at h
    · rcases List.mem_cons.1 h with rfl | h
      · exact Or.inr (List.mem_cons_self ..)
      · rcases put_mem r n v y h with h | h
        · exact Or.inl h
        · exact Or.inr (List.mem_cons_of_mem _ h)
    · split at h
      · rcases List.mem_cons.1 h with rfl | h
        · exact Or.inl rfl
        · exact Or.inr (List.mem_cons_of_mem _ h)
      · rcases List.mem_cons.1 h with rfl | h
        · exact Or.inl rfl
        · exact Or.inr h
theorem put_rise : ∀ (l : List A4) (n : ByteArray) (v : V3), Rise l → Rise (putA l n v)
  | [], n, v, _ => by simp [putA, Rise]
  | x :: r, n, v, h => by
    obtain ⟨h1, h2⟩ := List.pairwise_cons.1 h
    simp only [putA]
    split
    · rename_i hl
      refine List.pairwise_cons.2 ⟨fun y hy => ?_, put_rise r n v h2⟩
      rcases put_mem r n v y hy with rfl | hy
      · exact hl
      · exact h1 y hy
    · rename_i hl
      split
      · rename_i he
        refine List.pairwise_cons.2 ⟨fun y hy => ?_, h2⟩
        have h3 := h1 y hy
        rw [he] at h3
        exact h3
      · rename_i he
        have hx := less_or hl he
        refine List.pairwise_cons.2 ⟨fun y hy => ?_, h⟩
        rcases List.mem_cons.1 hy with rfl | hy
        · exact hx
        · exact VaP.bl_trans _ _ _ hx (h1 y hy)
theorem eqlA_refl (x : A4) : eqlA x x = true := by simp [eqlA]
theorem sameL_refl : ∀ l, sameL l l = true
  | [] => rfl
  | x :: l => by simp [sameL, eqlA_refl, sameL_refl l]
theorem eqlA_iff (x y : A4) : eqlA x y = true ↔ x = y := by
  constructor
  · intro h
    obtain ⟨a, b, c, d⟩ := x
    obtain ⟨a', b', c', d'⟩ := y
    simp only [eqlA, Bool.and_eq_true, beq_iff_eq] at h
    rw [name_inj h.1, h.2.1.1, h.2.1.2, name_inj h.2.2]
  · rintro rfl; exact eqlA_refl _
theorem sameL_iff : ∀ l m, sameL l m = true ↔ l = m
  | [], [] => by simp [sameL]
  | [], _ :: _ => by simp [sameL]
  | _ :: _, [] => by simp [sameL]
  | x :: l, y :: m => by simp [sameL, eqlA_iff, sameL_iff l m]

/-! ### the publications that numbers make -/
theorem nm_list (i : Nat) : (nm i).toList = [UInt8.ofNat (97 + i)] := by rw [ByteArray.toList_eq]; rfl
theorem nm_less (i j : Nat) (h : i < j) (hj : j < 7) : Op.bytesLess (nm i).toList (nm j).toList = true := by
  rw [nm_list, nm_list, VaP.bl_cons]
  left
  simp only [UInt8.toNat_ofNat']
  omega
theorem tup_names (has vals : List Int) : ∀ k, ∀ x ∈ tup has vals k, ∃ i, i < k ∧ x.1 = nm i
  | 0, x, h => by simp [tup] at h
  | k + 1, x, h => by
    simp only [tup] at h
    split at h
    · rcases List.mem_append.1 h with h | h
      · obtain ⟨i, h1, h2⟩ := tup_names has vals k x h
        exact ⟨i, by omega, h2⟩
      · simp at h
        exact ⟨k, by omega, by rw [h]⟩
    · obtain ⟨i, h1, h2⟩ := tup_names has vals k x h
      exact ⟨i, by omega, h2⟩
theorem tup_rise (has vals : List Int) : ∀ k, k ≤ 7 → Rise (tup has vals k)
  | 0, _ => List.Pairwise.nil
  | k + 1, hk => by
    simp only [tup]
    split
    · unfold Rise
      rw [List.pairwise_append]
      refine ⟨tup_rise has vals k (by omega), by simp, fun x hx y hy => ?_⟩
      obtain ⟨i, h1, h2⟩ := tup_names has vals k x hx
      simp at hy
      rw [h2, hy]
      exact nm_less i k h1 (by omega)
    · exact tup_rise has vals k (by omega)
theorem tup_right (has vals : List Int) : ∀ k, ∀ x ∈ tup has vals k, rightV x.2.1 x.2.2.1 x.2.2.2 = true ∧ x.2.2.2.size ≤ 3
  | 0, x, h => by simp [tup] at h
  | k + 1, x, h => by
    simp only [tup] at h
    split at h
    · rcases List.mem_append.1 h with h | h
      · exact tup_right has vals k x h
      · simp at h
        rw [h]
        exact ⟨kv_right _, kvS_size _⟩
    · exact tup_right has vals k x h
theorem tup_five (has vals : List Int) : ∀ k, (tup has vals k).length ≤ 5
  | 0 => by simp [tup]
  | k + 1 => by
    have := tup_five has vals k
    simp only [tup]
    split
    · rename_i h
      simp; omega
    · exact this
theorem nm_size (i : Nat) : (nm i).size = 1 := rfl
theorem nameB_nm (i : Nat) (h : i < 7) : nameB (nm i) = true := by
  match i, h with
  | 0, _ => decide
  | 1, _ => decide
  | 2, _ => decide
  | 3, _ => decide
  | 4, _ => decide
  | 5, _ => decide
  | 6, _ => decide
end Go.Proofs.Ytdomincmoaahoaa.At
