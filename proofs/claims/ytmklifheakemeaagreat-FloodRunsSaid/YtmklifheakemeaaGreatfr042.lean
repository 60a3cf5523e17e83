/-
  Subscribe of broadsideref9: an own subscription put into its place, an. Conditions as told.
-/
import Derived.Test.YtmklifheakemeaaGreatfr038
import Derived.Test.YtmklifheakemeaaGreatfr021
import Derived.Test.YtmklifheakemeaaGreatfr027
import Derived.Test.YtmklifheakemeaaGreatfr032
set_option maxRecDepth 100000
set_option maxHeartbeats 64000000
namespace Go.Proofs.YtmklifheakemeaaGreat.Bk
open Go.RowKit Go.Sort Rw YtmklifheakemeaaGreat.Nm Pr
open Av
end Go.Proofs.YtmklifheakemeaaGreat.Bk
