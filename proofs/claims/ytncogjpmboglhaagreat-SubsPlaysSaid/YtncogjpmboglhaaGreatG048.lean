/-
  A broker that steps made, turned in one thing: it is not right, nor th. Conditions as told.
-/
import Derived.Test.YtncogjpmboglhaaGreatG047
set_option maxRecDepth 100000
set_option maxHeartbeats 64000000
namespace Go.Proofs.YtncogjpmboglhaaGreat.Av
open Go.RowKit Go.Sort Rw YtncogjpmboglhaaGreat.Nm Pr Bk
theorem okEn_right {b : Br} {e : En} (h : okEn b e = true) : Wr.rightP e.p = true := by
 unfold okEn at h
 split at h
 ·cases h
 ·simp only [Bool.and_eq_true] at h
  exact h.2.2.2
end Go.Proofs.YtncogjpmboglhaaGreat.Av
