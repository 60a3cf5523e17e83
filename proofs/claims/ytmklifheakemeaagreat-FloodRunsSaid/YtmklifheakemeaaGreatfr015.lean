/-
  Constraint of the statements' own package: a constraint of a number. Conditions as told.
-/
import Derived.Test.YtmklifheakemeaaGreatfr005
import Derived.Test.YtmklifheakemeaaGreatfr008
import Derived.Deep.RegionWith
import Derived.IntWalk
set_option maxRecDepth 100000
set_option maxHeartbeats 64000000
namespace Go.Proofs.YtmklifheakemeaaGreat.Pr
open Go.RowKit Pu Rw Va Kp
end Go.Proofs.YtmklifheakemeaaGreat.Pr
