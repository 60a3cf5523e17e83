/-
  Plain facts on bytes. Conditions as told.
-/
import Derived.Test.YtkcfgbddlpomgaaGreatLQ002
import Derived.RowKit
set_option maxRecDepth 100000
set_option maxHeartbeats 64000000
namespace Go.Proofs.YtkcfgbddlpomgaaGreat.Pu
open Go.RowKit
def aah (c:UInt8):Bool:=decide (97<=c.toNat) && decide (c.toNat<=122)
def Fb (s:ByteArray):Bool:=s.data.toList.all aah && (decide (1<=s.size) && decide (s.size<=12))
theorem nO {a b:ByteArray} (h:a.toList=b.toList):a=b:=by
 rw [ByteArray.toList_eq,ByteArray.toList_eq] at h;exact WideShapes.bytes_inj h
theorem Dq {a b:ByteArray} (h:Op.bytesLess a.toList b.toList=true):a≠b:=by
 rintro rfl;rw [VaP.AZ] at h; cases h
theorem VE {a b:ByteArray} (h1:¬ Op.bytesLess a.toList b.toList=true) (h2:a≠b):Op.bytesLess b.toList a.toList=true:=by
 rcases VaP.Fa a.toList b.toList with h|h|h
 ·exact absurd h h1
 ·exact absurd (nO h) h2
 ·exact h
end Go.Proofs.YtkcfgbddlpomgaaGreat.Pu
