/-
  Holds of package pred: does a constraint allow a value. Conditions as told.
-/
import Derived.Test.YtncogjpmboglhaaGreatQ005
import Derived.Test.YtncogjpmboglhaaGreatQ013
import Derived.Lib.Strings
import Derived.Lib.Hide
import Derived.Lib.QuietBelow
import Derived.BigQuiet
set_option maxRecDepth 100000
set_option maxHeartbeats 64000000
namespace Go.Proofs.YtncogjpmboglhaaGreat.Pr
open Go.RowKit Go.Sort Pu Rw Va
end Go.Proofs.YtncogjpmboglhaaGreat.Pr
