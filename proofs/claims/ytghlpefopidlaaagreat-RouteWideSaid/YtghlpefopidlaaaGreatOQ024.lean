/-
  inEntries of package. Conditions as told.
-/
import Derived.Test.YtghlpefopidlaaaGreatOQ018
set_option maxRecDepth 100000
set_option maxHeartbeats 64000000
namespace Go.Proofs.YtghlpefopidlaaaGreat.Av
open Go.RowKit Go.Sort Rw YtghlpefopidlaaaGreat.Nm Pr Bk
def nQ {α:Type} (c:α->α->Int):List α->Bool
 | x::y::l=>decide (c x y<0) && nQ c (y::l)
 | _=>true
end Go.Proofs.YtghlpefopidlaaaGreat.Av
