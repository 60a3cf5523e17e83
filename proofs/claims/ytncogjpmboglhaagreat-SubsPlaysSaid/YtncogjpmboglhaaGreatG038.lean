/-
  OnUnsub and OnSub of broadsideref9; Meets and the rows of messages as . Conditions as told.
-/
import Derived.Test.YtncogjpmboglhaaGreatG030
import Derived.Test.YtncogjpmboglhaaGreatG027
import Derived.Test.YtncogjpmboglhaaGreatG037
set_option maxRecDepth 100000
set_option maxHeartbeats 64000000
namespace Go.Proofs.YtncogjpmboglhaaGreat.Bk
open Go.RowKit Go.Sort Rw YtncogjpmboglhaaGreat.Nm Pr Rl
end Go.Proofs.YtncogjpmboglhaaGreat.Bk
