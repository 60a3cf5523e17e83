/-
  Advertise of broadsideref9: an advertisement learned, the neighbours t. Conditions as told.
-/
import Derived.Test.YtmklifheakemeaaGreatfr038
set_option maxRecDepth 100000
set_option maxHeartbeats 64000000
namespace Go.Proofs.YtmklifheakemeaaGreat.Bk
open Go.RowKit Go.Sort Rw YtmklifheakemeaaGreat.Nm Pr
open Av
end Go.Proofs.YtmklifheakemeaaGreat.Bk
