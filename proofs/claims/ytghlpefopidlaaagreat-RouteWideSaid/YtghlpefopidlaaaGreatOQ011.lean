/-
  The document's own H. Conditions as told.
-/
import Derived.Test.YtghlpefopidlaaaGreatOQ003
import Derived.Test.YtghlpefopidlaaaGreatOQ005
import Derived.Test.YtghlpefopidlaaaGreatOQ002
import Derived.Lib.Strings
set_option maxRecDepth 100000
set_option maxHeartbeats 64000000
namespace Go.Proofs.YtghlpefopidlaaaGreat.Rl
open Go.RowKit Pu Rw Pr Va
end Go.Proofs.YtghlpefopidlaaaGreat.Rl
