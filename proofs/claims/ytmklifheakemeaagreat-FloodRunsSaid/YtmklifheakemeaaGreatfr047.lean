/-
  A broker that steps made, turned in one thing: it is not right, nor th. Conditions as told.
-/
import Derived.Test.YtmklifheakemeaaGreatfr046
set_option maxRecDepth 100000
set_option maxHeartbeats 64000000
namespace Go.Proofs.YtmklifheakemeaaGreat.Av
open Go.RowKit Go.Sort Rw YtmklifheakemeaaGreat.Nm Pr Bk
end Go.Proofs.YtmklifheakemeaaGreat.Av
