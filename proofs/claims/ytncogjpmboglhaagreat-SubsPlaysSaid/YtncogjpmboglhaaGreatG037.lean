/-
  The document's own Meets (package broadsideref1); its Make of two pred. Conditions as told.
-/
import Derived.Test.YtncogjpmboglhaaGreatG036
import Derived.Test.YtncogjpmboglhaaGreatG023
set_option maxRecDepth 100000
set_option maxHeartbeats 64000000
namespace Go.Proofs.YtncogjpmboglhaaGreat.Rl
open Go.RowKit Go.Sort Pu Rw Pr Va
end Go.Proofs.YtncogjpmboglhaaGreat.Rl
