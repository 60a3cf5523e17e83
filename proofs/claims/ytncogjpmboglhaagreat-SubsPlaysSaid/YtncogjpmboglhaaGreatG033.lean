/-
  The document's own Both (package broadsideref1), every case. Conditions as told.
-/
import Derived.Test.YtncogjpmboglhaaGreatG032
import Derived.Test.YtncogjpmboglhaaGreatG021
import Derived.Test.YtncogjpmboglhaaGreatG004
import Derived.Deep.RegionWith
import Derived.BigRegion
set_option maxRecDepth 100000
set_option maxHeartbeats 64000000
namespace Go.Proofs.YtncogjpmboglhaaGreat.Rl
open Go.RowKit Go.Sort Pu Rw Pr Va
end Go.Proofs.YtncogjpmboglhaaGreat.Rl
