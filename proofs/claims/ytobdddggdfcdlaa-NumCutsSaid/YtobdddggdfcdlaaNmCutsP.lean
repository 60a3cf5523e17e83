/-
  What a reader is asked, one behind the other, of bytes. Mostly plain mathematics; a row of bytes cut at both ends. No condition beyond what each theorem states.
-/
import Derived.Test.YtobdddggdfcdlaaNmCutsR
namespace Go.Proofs.Ytobdddggdfcdlaa.Nm
open Go.RowKit Go.Proofs.Ytobdddggdfcdlaa Go.Proofs.Ytobdddggdfcdlaa.Rw

/-- A reader of b that has come to a place, or has been asked in vain. -/
def stC (b : List UInt8) (g : Bool) (k : Nat) : St := if g then (b.drop k, false) else ([], true)
theorem byteS_at {b : List UInt8} {k : Nat} {x : UInt8} (hx : b[k]? = some x) : byteS (stC b true k) = (x, stC b true (k + 1)) := by
  obtain ⟨h1, h2⟩ := List.getElem?_eq_some_iff.1 hx
  unfold stC
  simp only [if_true]
  rw [List.drop_eq_getElem_cons h1, h2, byteS_cons]
theorem byteS_end {b : List UInt8} {k : Nat} (h : b.length ≤ k) : byteS (stC b true k) = (0, stC b false 0) := by
  unfold stC
  simp only [if_true, List.drop_eq_nil_of_le h, byteS_nil]
  rfl
theorem byteS_gone {b : List UInt8} {k : Nat} : byteS (stC b false k) = (0, stC b false 0) := by
  unfold stC
  simp only [Bool.false_eq_true, if_false, byteS_bad]
theorem numS_at {b : List UInt8} {k : Nat} (h : k + 8 ≤ b.length) : numS (stC b true k) = (valN ((b.drop k).take 8), stC b true (k + 8)) := by
  unfold stC numS
  simp only [if_true]
  rw [takeS_ok (by rw [List.length_drop]; omega), List.drop_drop]
theorem numS_end {b : List UInt8} {k : Nat} (h : b.length < k + 8) : numS (stC b true k) = (0, stC b false 0) := by
  unfold stC
  simp only [if_true]
  rw [numS_short false (by rw [List.length_drop]; omega)]
  rfl
theorem numS_gone {b : List UInt8} {k : Nat} : numS (stC b false k) = (0, stC b false 0) := by
  unfold stC
  simp only [Bool.false_eq_true, if_false, numS_bad]
theorem textS_at {b : List UInt8} {k : Nat} {x : UInt8} (hx : b[k]? = some x) (h : k + 1 + x.toNat ≤ b.length) : textS (stC b true k) = (⟨((b.drop (k + 1)).take x.toNat).toArray⟩, stC b true (k + 1 + x.toNat)) := by
  unfold textS
  rw [byteS_at hx]
  unfold stC
  simp only [if_true]
  rw [takeS_ok (by rw [List.length_drop]; omega), List.drop_drop]
theorem textS_over {b : List UInt8} {k : Nat} {x : UInt8} (hx : b[k]? = some x) (h : b.length < k + 1 + x.toNat) : textS (stC b true k) = (⟨#[]⟩, stC b false 0) := by
  have hk := (List.getElem?_eq_some_iff.1 hx).1
  unfold textS
  rw [byteS_at hx]
  unfold stC
  simp only [if_true]
  rw [takeS_short false (by rw [List.length_drop]; omega)]
  rfl
theorem textS_end {b : List UInt8} {k : Nat} (h : b.length ≤ k) : textS (stC b true k) = (⟨#[]⟩, stC b false 0) := by
  unfold stC
  simp only [if_true, List.drop_eq_nil_of_le h, textS_nil]
  rfl
theorem textS_gone {b : List UInt8} {k : Nat} : textS (stC b false k) = (⟨#[]⟩, stC b false 0) := by
  unfold stC
  simp only [Bool.false_eq_true, if_false, textS_bad]
theorem stC_false (b : List UInt8) (k j : Nat) : stC b false k = stC b false j := rfl
theorem done_at {b : List UInt8} {k : Nat} (h : k ≤ b.length) : doneS (stC b true k) = ((k : Int) == (b.length : Int)) := by
  unfold stC doneS
  simp only [if_true, Bool.not_false, Bool.true_and]
  rw [Bool.eq_iff_iff, List.isEmpty_iff, List.drop_eq_nil_iff]
  simp
  omega
theorem done_gone {b : List UInt8} {k : Nat} : doneS (stC b false k) = false := rfl
theorem good_at (b : List UInt8) (g : Bool) (k : Nat) : (!(stC b g k).2) = g := by cases g <;> rfl
/-- A row cut at both ends. -/
theorem row_mid8 {W : World} {v : Value} {l : List UInt8} (h : RowB W v l) (i j : Nat) (hij : i ≤ j) (hj : j ≤ l.length) : ∃ mid, (∀ w, (Instr.sliceAt 24 v (some (.int .i64 i)) (some (.int .i64 j)) none).run Try.prog w = .ok mid w) ∧ RowB W mid ((l.drop i).take (j - i)) := by
  rcases h with ⟨rfl, rfl⟩ | ⟨a, cap, rfl, h2, h3, h4⟩
  · obtain rfl : j = 0 := by simpa using hj
    obtain rfl : i = 0 := by omega
    obtain ⟨info, i1, i2, i3, i4⟩ := infoB
    exact ⟨.slice none 0 0, fun w => by simp [go_sem, Try.underlying24, sizeOf, typeInfo, i1], Or.inl ⟨rfl, rfl⟩⟩
  · obtain ⟨info, i1, i2, i3, i4⟩ := infoB
    have e1 : (i : Int) ≤ (j : Int) := by omega
    have e2 : (j : Int) ≤ (cap : Int) := by omega
    refine ⟨.slice (some (if cap = i then a else a.add (i * 1))) (j - i) (cap - i), fun w => ?_, Or.inr ⟨_, cap - i, by rw [List.length_take, List.length_drop, Nat.min_eq_left (by omega)], by rw [List.length_take, List.length_drop]; omega, by omega, fun k u hu => ?_⟩⟩
    · by_cases he : cap = i
      · subst he
        simp [go_sem, Try.underlying24, sizeOf, typeInfo, e1, e2, i1, i3]
      · simp [go_sem, Try.underlying24, sizeOf, typeInfo, e1, e2, he, i1, i3]
    · have hlt := (List.getElem?_eq_some_iff.1 hu).1
      rw [flatB, List.length_map, List.length_take, List.length_drop] at hlt
      rw [if_neg (by omega), add_add]
      refine h4 _ u ?_
      rw [flatB] at hu ⊢
      rw [List.getElem?_map] at hu ⊢
      rw [List.getElem?_take, if_pos (by omega), List.getElem?_drop] at hu
      rw [show i * 1 + k = i + k by omega]
      exact hu
end Go.Proofs.Ytobdddggdfcdlaa.Nm
