/-
  broadsidekeep.Broker. Conditions as told.
-/
import Derived.Test.YtghlpefopidlaaaGreatCQ045
set_option maxRecDepth 100000
set_option maxHeartbeats 64000000
namespace Go.Proofs.YtghlpefopidlaaaGreat.Av
open Go.RowKit Go.Sort Rw YtghlpefopidlaaaGreat.Nm Pr Bk
end Go.Proofs.YtghlpefopidlaaaGreat.Av
