/-
  Plain facts on bytes and texts: runs of one kind, quoted texts, digits, names. No program in it.
-/
import Derived.Test.YtncogjpmboglhaaQ002
import Derived.RowKit
namespace Go.Proofs.Ytncogjpmboglhaa.Pu
open Go.RowKit Go.Proofs.Ytncogjpmboglhaa

/-- Is it a small letter? -/
def letB (c : UInt8) : Bool := decide (97 ≤ c.toNat) && decide (c.toNat ≤ 122)
/-- Is it a name? -/
def nameB (s : ByteArray) : Bool := s.data.toList.all letB && (decide (1 ≤ s.size) && decide (s.size ≤ 12))
theorem name_inj {a b : ByteArray} (h : a.toList = b.toList) : a = b := by
  rw [ByteArray.toList_eq, ByteArray.toList_eq] at h
  exact WideShapes.bytes_inj h
theorem less_ne {a b : ByteArray} (h : Op.bytesLess a.toList b.toList = true) : a ≠ b := by
  rintro rfl
  rw [VaP.bl_irrefl] at h; cases h
end Go.Proofs.Ytncogjpmboglhaa.Pu
