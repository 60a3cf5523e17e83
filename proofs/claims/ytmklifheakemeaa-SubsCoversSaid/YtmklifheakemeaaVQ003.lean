/-
  Plain facts on bytes. Conditions as told.
-/
import Derived.Test.YtmklifheakemeaaVQ002
import Derived.RowKit
set_option maxRecDepth 100000
set_option maxHeartbeats 64000000
namespace Go.Proofs.Ytmklifheakemeaa.Pu
open Go.RowKit
def Ke (c:UInt8):Bool:=decide (97<=c.toNat) && decide (c.toNat<=122)
def xI (s:ByteArray):Bool:=s.data.toList.all Ke && (decide (1<=s.size) && decide (s.size<=12))
theorem rP {a b:ByteArray} (h:a.toList=b.toList):a=b:=by
 rw [ByteArray.toList_eq,ByteArray.toList_eq] at h;exact WideShapes.bytes_inj h
theorem Iu {a b:ByteArray} (h:Op.bytesLess a.toList b.toList=true):a≠b:=by
 rintro rfl;rw [QZ.uZ] at h; cases h
end Go.Proofs.Ytmklifheakemeaa.Pu
