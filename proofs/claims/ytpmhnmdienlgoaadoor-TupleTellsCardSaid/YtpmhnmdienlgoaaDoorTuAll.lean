/-
  The contracts of package tuple, together, and the laws of stage 3 over them. Condition: strconv's table of powers of ten is as its text lays it.
-/
import Derived.Test.YtpmhnmdienlgoaaDoorTuPut
import Derived.Test.YtpmhnmdienlgoaaDoorTuSay
import Derived.Test.YtpmhnmdienlgoaaDoorTuRight
import Derived.Test.YtpmhnmdienlgoaaDoorTuSame
import Derived.Test.YtpmhnmdienlgoaaDoorTuGet
import Derived.Test.YtpmhnmdienlgoaaDoorAtGets2
import Derived.Test.YtpmhnmdienlgoaaDoorAtNamesF
import Derived.Test.YtpmhnmdienlgoaaDoorAtOpen
namespace Go.Proofs.YtpmhnmdienlgoaaDoor.At
open Go.RowKit Go.Proofs.YtpmhnmdienlgoaaDoor.Va

theorem oks : Oks VG := ⟨fun _ _ h hb => h.bel hb, getOk, putOk, sameOk, sayOk, rightOk⟩
theorem u8_lo {n : Int} (h : (Lit.int .u8 n).wf = true) : 0 ≤ n := by
  have h2 : (decide (IntKind.u8.min ≤ n) && decide (n ≤ IntKind.u8.max)) = true := h
  rw [Bool.and_eq_true, decide_eq_true_eq, decide_eq_true_eq, show IntKind.u8.min = 0 by decide, show IntKind.u8.max = 255 by decide] at h2
  exact h2.1
theorem u8_hi {n : Int} (h : (Lit.int .u8 n).wf = true) : n ≤ 255 := by
  have h2 : (decide (IntKind.u8.min ≤ n) && decide (n ≤ IntKind.u8.max)) = true := h
  rw [Bool.and_eq_true, decide_eq_true_eq, decide_eq_true_eq, show IntKind.u8.min = 0 by decide, show IntKind.u8.max = 255 by decide] at h2
  exact h2.2
end Go.Proofs.YtpmhnmdienlgoaaDoor.At
