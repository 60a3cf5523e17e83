/-
  Entries of broadside. Conditions as told.
-/
import Derived.Test.YtghlpefopidlaaaGreatOQ013
set_option maxRecDepth 100000
set_option maxHeartbeats 64000000
namespace Go.Proofs.YtghlpefopidlaaaGreat.Bk
open Go.RowKit Go.Sort Rw YtghlpefopidlaaaGreat.Nm Pr
end Go.Proofs.YtghlpefopidlaaaGreat.Bk
