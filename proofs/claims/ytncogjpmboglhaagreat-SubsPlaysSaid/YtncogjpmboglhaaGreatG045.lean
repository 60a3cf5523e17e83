/-
  Who subscribed at a broker that the steps of broadsidekeep.Broker make. Conditions as told.
-/
import Derived.Test.YtncogjpmboglhaaGreatG044
set_option maxRecDepth 100000
set_option maxHeartbeats 64000000
namespace Go.Proofs.YtncogjpmboglhaaGreat.Av
open Go.RowKit Go.Sort Rw YtncogjpmboglhaaGreat.Nm Pr Bk
end Go.Proofs.YtncogjpmboglhaaGreat.Av
