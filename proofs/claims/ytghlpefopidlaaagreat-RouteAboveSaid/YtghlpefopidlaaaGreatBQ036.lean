/-
  The document's own B. Conditions as told.
-/
import Derived.Test.YtghlpefopidlaaaGreatBQ034
import Derived.Test.YtghlpefopidlaaaGreatBQ035
import Derived.Test.YtghlpefopidlaaaGreatBQ007
import Derived.Test.YtghlpefopidlaaaGreatBQ016
set_option maxRecDepth 100000
set_option maxHeartbeats 64000000
namespace Go.Proofs.YtghlpefopidlaaaGreat.Rl
open Go.RowKit Go.Sort Pu Rw Pr Va
end Go.Proofs.YtghlpefopidlaaaGreat.Rl
