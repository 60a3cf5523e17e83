/-
  A broker in memory while entries are added to it: what is known of its. Conditions as told.
-/
import Derived.Test.YtncogjpmboglhaaGreatG039
import Derived.Test.YtncogjpmboglhaaGreatG027
import Derived.Test.YtncogjpmboglhaaGreatG030
set_option maxRecDepth 100000
set_option maxHeartbeats 64000000
namespace Go.Proofs.YtncogjpmboglhaaGreat.Bk
open Go.RowKit Go.Sort Rw YtncogjpmboglhaaGreat.Nm Pr
open Av
end Go.Proofs.YtncogjpmboglhaaGreat.Bk
