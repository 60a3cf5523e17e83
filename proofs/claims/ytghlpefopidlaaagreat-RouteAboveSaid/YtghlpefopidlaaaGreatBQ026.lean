/-
  Brokers of broadside. Conditions as told.
-/
import Derived.Test.YtghlpefopidlaaaGreatBQ023
import Derived.Test.YtghlpefopidlaaaGreatBQ017
set_option maxRecDepth 100000
set_option maxHeartbeats 64000000
namespace Go.Proofs.YtghlpefopidlaaaGreat.Bk
open Go.RowKit Go.Sort Rw YtghlpefopidlaaaGreat.Nm Pr
end Go.Proofs.YtghlpefopidlaaaGreat.Bk
