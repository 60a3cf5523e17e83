/-
  RightOne and Right o. Conditions as told.
-/
import Derived.Test.YtghlpefopidlaaaGreatOQ018
set_option maxRecDepth 100000
set_option maxHeartbeats 64000000
namespace Go.Proofs.YtghlpefopidlaaaGreat.Avp
open Go.RowKit Go.Sort Rw YtghlpefopidlaaaGreat.Nm At Pr Wr Va
end Go.Proofs.YtghlpefopidlaaaGreat.Avp
