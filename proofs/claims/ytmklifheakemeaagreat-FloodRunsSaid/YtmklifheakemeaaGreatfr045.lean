/-
  Who subscribed at a broker that the steps of broadsidekeep.Broker make. Conditions as told.
-/
import Derived.Test.YtmklifheakemeaaGreatfr043
import Derived.Test.YtmklifheakemeaaGreatfr039
set_option maxRecDepth 100000
set_option maxHeartbeats 64000000
namespace Go.Proofs.YtmklifheakemeaaGreat.Av
open Go.RowKit Go.Sort Rw YtmklifheakemeaaGreat.Nm Pr Bk
end Go.Proofs.YtmklifheakemeaaGreat.Av
namespace Go.Proofs.YtmklifheakemeaaGreat.Sb
open Go.RowKit Go.Sort Rw YtmklifheakemeaaGreat.Nm Pr Bk Av
end Go.Proofs.YtmklifheakemeaaGreat.Sb
