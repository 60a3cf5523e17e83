/-
  Forget of package ad. Conditions as told.
-/
import Derived.Test.YtkcfgbddlpomgaaBQ031
import Derived.Test.YtkcfgbddlpomgaaBQ030
import Derived.Test.YtkcfgbddlpomgaaBQ021
set_option maxRecDepth 100000
set_option maxHeartbeats 64000000
namespace Go.Proofs.Ytkcfgbddlpomgaa.Av
open Go.RowKit Go.Sort Rw Ytkcfgbddlpomgaa.Nm Pr Bk
def Ce (b:Br) (a:Ad):Bool:=decide (a.id∈b.seen) && (oL b.near a.par && Wr.lV a.p)
end Go.Proofs.Ytkcfgbddlpomgaa.Av
