/-
  Plain facts on what . Conditions as told.
-/
import Derived.Lib.ItoaNum
import GoSem.Claim
import Derived.Laws.Strings
import Derived.RowKit
set_option maxRecDepth 100000
set_option maxHeartbeats 64000000
namespace Go.Proofs.Ytkcfgbddlpomgaa
namespace Ic
/-! ### the order of texts -/
theorem nC:∀ x:List UInt8,Op.bytesLess x x=false
 | []=>rfl
 | a::x=>by simp [Op.bytesLess,nC x]
end Ic
namespace Pu
open Go.RowKit
def Bo (c:UInt8):Bool:=decide (97<=c.toNat) && decide (c.toNat<=122)
def wM (s:ByteArray):Bool:=s.data.toList.all Bo && (decide (1<=s.size) && decide (s.size<=12))
theorem iX {a b:ByteArray} (h:a.toList=b.toList):a=b:=by
 rw [ByteArray.toList_eq,ByteArray.toList_eq] at h;exact WideShapes.bytes_inj h
theorem sj {a b:ByteArray} (h:Op.bytesLess a.toList b.toList=true):a≠b:=by
 rintro rfl;rw [Ic.nC] at h; cases h
end Pu
end Go.Proofs.Ytkcfgbddlpomgaa
