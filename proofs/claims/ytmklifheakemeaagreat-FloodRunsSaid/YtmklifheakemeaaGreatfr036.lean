/-
  The document's own Both (package broadsideref1), every case. Conditions as told.
-/
import Derived.Test.YtmklifheakemeaaGreatfr034
import Derived.Test.YtmklifheakemeaaGreatfr035
import Derived.Test.YtmklifheakemeaaGreatfr025
import Derived.Test.YtmklifheakemeaaGreatfr001
import Derived.Deep.RegionWith
import Derived.BigRegion
set_option maxRecDepth 100000
set_option maxHeartbeats 64000000
namespace Go.Proofs.YtmklifheakemeaaGreat.Rl
open Go.RowKit Go.Sort Pu Rw Pr Va
end Go.Proofs.YtmklifheakemeaaGreat.Rl
