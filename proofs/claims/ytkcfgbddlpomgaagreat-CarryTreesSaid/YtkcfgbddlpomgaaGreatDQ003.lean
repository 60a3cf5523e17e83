/-
  Plain facts on bytes. Conditions as told.
-/
import Derived.Test.YtkcfgbddlpomgaaGreatDQ002
import Derived.RowKit
set_option maxRecDepth 100000
set_option maxHeartbeats 64000000
namespace Go.Proofs.YtkcfgbddlpomgaaGreat.Pu
open Go.RowKit
def aaC (c:UInt8):Bool:=decide (97<=c.toNat) && decide (c.toNat<=122)
def FV (s:ByteArray):Bool:=s.data.toList.all aaC && (decide (1<=s.size) && decide (s.size<=12))
theorem nP {a b:ByteArray} (h:a.toList=b.toList):a=b:=by
 rw [ByteArray.toList_eq,ByteArray.toList_eq] at h;exact WideShapes.bytes_inj h
theorem D7 {a b:ByteArray} (h:Op.bytesLess a.toList b.toList=true):a≠b:=by
 rintro rfl;rw [VaP.Bu] at h; cases h
theorem Wj {a b:ByteArray} (h1:¬ Op.bytesLess a.toList b.toList=true) (h2:a≠b):Op.bytesLess b.toList a.toList=true:=by
 rcases VaP.FU a.toList b.toList with h|h|h
 ·exact absurd h h1
 ·exact absurd (nP h) h2
 ·exact h
end Go.Proofs.YtkcfgbddlpomgaaGreat.Pu
