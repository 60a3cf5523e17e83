/-
  Plain facts on what . Conditions as told.
-/
import Derived.Lib.ItoaNum
import GoSem.Claim
import Derived.Laws.Strings
set_option maxRecDepth 100000
set_option maxHeartbeats 64000000
namespace Go.Proofs.Ytmklifheakemeaa.QZ
/-! ### the order of texts -/
theorem uZ:∀ x:List UInt8,Op.bytesLess x x=false
 | []=>rfl
 | a::x=>by simp [Op.bytesLess,uZ x]
end Go.Proofs.Ytmklifheakemeaa.QZ
