/-
  Name and RightTuple of the statements' own package. Condition: lists and texts below a machine's length.
-/
import Derived.Test.YtdomincmoaahoaaAtSame
namespace Go.Proofs.Ytdomincmoaahoaa.At
open Go.RowKit Go.Sort Go.Proofs.Ytdomincmoaahoaa.Va Go.Proofs.Ytdomincmoaahoaa.In

/-- Is it a small letter? -/
def letB (c : UInt8) : Bool := decide (97 ≤ c.toNat) && decide (c.toNat ≤ 122)
/-- Is it a name? -/
def nameB (s : ByteArray) : Bool := s.data.toList.all letB && (decide (1 ≤ s.size) && decide (s.size ≤ 12))
theorem nameB_not (s : ByteArray) (k : Nat) (h : k < s.size) (hc : letB s[k] = false) : nameB s = false := by
  have : s.data.toList.all letB = false := by
    rw [List.all_eq_false]
    exact ⟨s[k], by rw [Array.mem_toList_iff]; exact Array.getElem_mem h, by rw [hc]; decide⟩
  simp [nameB, this]
theorem nameB_end (s : ByteArray) (h : ∀ (j : Nat) (hj : j < s.size), letB s[j] = true) : nameB s = (decide (1 ≤ s.size) && decide (s.size ≤ 12)) := by
  have : s.data.toList.all letB = true := by
    rw [List.all_eq_true]
    intro c hc
    obtain ⟨j, hj, rfl⟩ := List.getElem_of_mem hc
    exact h j (by rw [Array.length_toList] at hj; exact hj)
  simp [nameB, this]

def pairB (p x : A4) : Bool := Op.bytesLess p.1.toList x.1.toList
/-- Is the attribute at that place right, and behind the one ahead of it? -/
def goodB (l : List A4) (k : Nat) : Bool := match l[k]? with
  | some x => nameB x.1 && rightV x.2.1 x.2.2.1 x.2.2.2 && (k == 0 || (match l[k - 1]? with
    | some p => pairB p x
    | none => true))
  | none => true
/-- May it be published? -/
def rightT (l : List A4) : Bool := (List.range l.length).all (goodB l) && decide (l.length ≤ 5)
theorem rightT_not (l : List A4) (k : Nat) (h : k < l.length) (hg : goodB l k = false) : rightT l = false := by
  have : (List.range l.length).all (goodB l) = false := by
    rw [List.all_eq_false]
    exact ⟨k, List.mem_range.2 h, by rw [hg]; decide⟩
  simp [rightT, this]
theorem rightT_end (l : List A4) (h : ∀ j, j < l.length → goodB l j = true) : rightT l = decide (l.length ≤ 5) := by
  have : (List.range l.length).all (goodB l) = true := by
    rw [List.all_eq_true]
    exact fun j hj => h j (List.mem_range.1 hj)
  simp [rightT, this]
end Go.Proofs.Ytdomincmoaahoaa.At
