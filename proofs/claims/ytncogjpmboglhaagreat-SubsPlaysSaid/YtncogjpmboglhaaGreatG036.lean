/-
  The document's own Make (package broadsideref1). Conditions as told.
-/
import Derived.Test.YtncogjpmboglhaaGreatG035
import Derived.Test.YtncogjpmboglhaaGreatG019
import Derived.Test.YtncogjpmboglhaaGreatG012
import Derived.Test.YtncogjpmboglhaaGreatG022
import Derived.Test.YtncogjpmboglhaaGreatG004
import Derived.Deep.RegionWith
set_option maxRecDepth 100000
set_option maxHeartbeats 64000000
namespace Go.Proofs.YtncogjpmboglhaaGreat.Rl
open Go.RowKit Go.Sort Pu Rw Pr Va
end Go.Proofs.YtncogjpmboglhaaGreat.Rl
