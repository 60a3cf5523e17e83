/-
  Forget of package ad. Conditions as told.
-/
import Derived.Test.YtmklifheakemeaaVQ027
import Derived.Test.YtmklifheakemeaaVQ019
import Derived.Test.YtmklifheakemeaaVQ026
import Derived.Test.YtmklifheakemeaaVQ018
set_option maxRecDepth 100000
set_option maxHeartbeats 64000000
namespace Go.Proofs.Ytmklifheakemeaa.Av
open Go.RowKit Go.Sort Rw Ytmklifheakemeaa.Nm Pr Bk
end Go.Proofs.Ytmklifheakemeaa.Av
