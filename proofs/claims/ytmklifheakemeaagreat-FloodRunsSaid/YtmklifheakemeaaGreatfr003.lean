/-
  Plain facts on bytes and texts: runs of one kind, quoted texts, digits. Conditions as told.
-/
import Derived.Test.YtmklifheakemeaaGreatfr002
import Derived.RowKit
set_option maxRecDepth 100000
set_option maxHeartbeats 64000000
namespace Go.Proofs.YtmklifheakemeaaGreat.Pu
open Go.RowKit
def letB (c : UInt8) : Bool := decide (97 ≤ c.toNat) && decide (c.toNat ≤ 122)
def nameB (s : ByteArray) : Bool := s.data.toList.all letB && (decide (1 ≤ s.size) && decide (s.size ≤ 12))
theorem nameB_not (s : ByteArray) (k : Nat) (h : k < s.size) (hc : letB s[k] = false) : nameB s = false := by
 have : s.data.toList.all letB = false := by
  rw [List.all_eq_false]
  exact ⟨s[k],by rw [Array.mem_toList_iff]; exact Array.getElem_mem h,by rw [hc]; decide⟩
 simp [nameB,this]
theorem nameB_end (s : ByteArray) (h : ∀ (j : Nat) (hj : j < s.size),letB s[j] = true) : nameB s = (decide (1 ≤ s.size) && decide (s.size ≤ 12)) := by
 have : s.data.toList.all letB = true := by
  rw [List.all_eq_true]
  intro c hc
  obtain ⟨j,hj,rfl⟩ := List.getElem_of_mem hc
  exact h j (by rw [Array.length_toList] at hj; exact hj)
 simp [nameB,this]
theorem name_inj {a b : ByteArray} (h : a.toList = b.toList) : a = b := by
 rw [ByteArray.toList_eq,ByteArray.toList_eq] at h
 exact WideShapes.bytes_inj h
theorem less_ne {a b : ByteArray} (h : Op.bytesLess a.toList b.toList = true) : a ≠ b := by
 rintro rfl
 rw [VaP.bl_irrefl] at h; cases h
theorem less_or {a b : ByteArray} (h1 : ¬ Op.bytesLess a.toList b.toList = true) (h2 : a ≠ b) : Op.bytesLess b.toList a.toList = true := by
 rcases VaP.bl_total a.toList b.toList with h | h | h
 ·exact absurd h h1
 ·exact absurd (name_inj h) h2
 ·exact h
end Go.Proofs.YtmklifheakemeaaGreat.Pu
