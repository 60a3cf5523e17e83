/-
  What Advertise and Subscribe answer, of lists alone. Conditions as told.
-/
import Derived.Test.YtncogjpmboglhaaGreatG038
set_option maxRecDepth 100000
set_option maxHeartbeats 64000000
namespace Go.Proofs.YtncogjpmboglhaaGreat.Bk
open Go.RowKit Go.Sort Rw YtncogjpmboglhaaGreat.Nm Pr
end Go.Proofs.YtncogjpmboglhaaGreat.Bk
