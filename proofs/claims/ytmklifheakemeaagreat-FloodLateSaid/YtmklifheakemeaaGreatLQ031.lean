/-
  Brokers of broadside. Conditions as told.
-/
import Derived.Test.YtmklifheakemeaaGreatLQ026
import Derived.Test.YtmklifheakemeaaGreatLQ020
set_option maxRecDepth 100000
set_option maxHeartbeats 64000000
namespace Go.Proofs.YtmklifheakemeaaGreat.Bk
open Go.RowKit Go.Sort Rw YtmklifheakemeaaGreat.Nm Pr
end Go.Proofs.YtmklifheakemeaaGreat.Bk
