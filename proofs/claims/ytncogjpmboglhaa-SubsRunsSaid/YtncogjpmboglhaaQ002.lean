/-
  Plain facts on what values say: no program in it. A number's decimals, a text between quotes: two values that say the same are the same.
-/
import Derived.Lib.ItoaNum
import GoSem.Claim
import Derived.Laws.Strings
namespace Go.Proofs.Ytncogjpmboglhaa.VaP

/-! ### the order of texts -/
theorem bl_irrefl : ∀ x : List UInt8, Op.bytesLess x x = false
  | [] => rfl
  | a :: x => by simp [Op.bytesLess, bl_irrefl x]
end Go.Proofs.Ytncogjpmboglhaa.VaP
