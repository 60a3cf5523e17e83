/-
  Advertise of broadsideref9: an advertisement learned, the neighbours t. Conditions as told.
-/
import Derived.Test.YtncogjpmboglhaaGreatG040
set_option maxRecDepth 100000
set_option maxHeartbeats 64000000
namespace Go.Proofs.YtncogjpmboglhaaGreat.Bk
open Go.RowKit Go.Sort Rw YtncogjpmboglhaaGreat.Nm Pr
open Av
end Go.Proofs.YtncogjpmboglhaaGreat.Bk
