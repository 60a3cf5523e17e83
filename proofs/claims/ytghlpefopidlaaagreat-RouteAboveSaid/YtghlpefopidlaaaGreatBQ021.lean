/-
  rises of package adv. Conditions as told.
-/
import Derived.Test.YtghlpefopidlaaaGreatBQ018
import Derived.Deep.LoopGhost
set_option maxRecDepth 100000
set_option maxHeartbeats 64000000
namespace Go.Proofs.YtghlpefopidlaaaGreat.Av
open Go.RowKit Go.Sort Rw YtghlpefopidlaaaGreat.Nm Pr Bk
def oH {α:Type} (c:α->α->Int):List α->Bool
 | x::y::l=>decide (c x y<0) && oH c (y::l)
 | _=>true
end Go.Proofs.YtghlpefopidlaaaGreat.Av
