/-
  inEntries of package adverts: by their tree, then by their subscriptio. Conditions as told.
-/
import Derived.Test.YtmklifheakemeaaGreatfr020
import Derived.Test.YtmklifheakemeaaGreatfr016
import Derived.Test.YtmklifheakemeaaGreatfr006
import Derived.Deep.LoopGhost
import Derived.Laws.Externs
set_option maxRecDepth 100000
set_option maxHeartbeats 64000000
namespace Go.Proofs.YtmklifheakemeaaGreat.Av
open Go.RowKit Go.Sort Rw YtmklifheakemeaaGreat.Nm Pr Bk
end Go.Proofs.YtmklifheakemeaaGreat.Av
