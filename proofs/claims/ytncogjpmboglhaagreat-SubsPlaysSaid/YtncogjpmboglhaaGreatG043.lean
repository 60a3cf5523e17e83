/-
  Subscribe of broadsideref9: an own subscription put into its place, an. Conditions as told.
-/
import Derived.Test.YtncogjpmboglhaaGreatG040
import Derived.Test.YtncogjpmboglhaaGreatG027
import Derived.Test.YtncogjpmboglhaaGreatG013
set_option maxRecDepth 100000
set_option maxHeartbeats 64000000
namespace Go.Proofs.YtncogjpmboglhaaGreat.Bk
open Go.RowKit Go.Sort Rw YtncogjpmboglhaaGreat.Nm Pr
open Av
end Go.Proofs.YtncogjpmboglhaaGreat.Bk
