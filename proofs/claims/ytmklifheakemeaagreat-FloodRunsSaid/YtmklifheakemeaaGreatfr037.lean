/-
  The document's own Make (package broadsideref1). Conditions as told.
-/
import Derived.Test.YtmklifheakemeaaGreatfr036
import Derived.Test.YtmklifheakemeaaGreatfr016
import Derived.Test.YtmklifheakemeaaGreatfr026
import Derived.Test.YtmklifheakemeaaGreatfr001
import Derived.Deep.RegionWith
set_option maxRecDepth 100000
set_option maxHeartbeats 64000000
namespace Go.Proofs.YtmklifheakemeaaGreat.Rl
open Go.RowKit Go.Sort Pu Rw Pr Va
end Go.Proofs.YtmklifheakemeaaGreat.Rl
