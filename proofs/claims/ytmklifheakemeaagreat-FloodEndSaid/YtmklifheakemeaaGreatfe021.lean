/-
  RightOne and Right o. Conditions as told.
-/
import Derived.Test.YtmklifheakemeaaGreatfe016
set_option maxRecDepth 100000
set_option maxHeartbeats 64000000
namespace Go.Proofs.YtmklifheakemeaaGreat.Avp
open Go.RowKit Go.Sort Rw YtmklifheakemeaaGreat.Nm At Pr Wr Va
end Go.Proofs.YtmklifheakemeaaGreat.Avp
