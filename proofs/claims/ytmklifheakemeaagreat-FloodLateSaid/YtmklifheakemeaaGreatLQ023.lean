/-
  RightOne and Right o. Conditions as told.
-/
import Derived.Test.YtmklifheakemeaaGreatLQ013
import Derived.Test.YtmklifheakemeaaGreatLQ015
import Derived.Test.YtmklifheakemeaaGreatLQ014
set_option maxRecDepth 100000
set_option maxHeartbeats 64000000
namespace Go.Proofs.YtmklifheakemeaaGreat
namespace Avp
open Go.RowKit Go.Sort Rw YtmklifheakemeaaGreat.Nm At Pr Wr Va
end Avp
namespace Av
open Go.RowKit Go.Sort Rw YtmklifheakemeaaGreat.Nm Pr Bk
end Av
namespace Av
open Go.RowKit Go.Sort Rw YtmklifheakemeaaGreat.Nm Pr Bk
end Av
end Go.Proofs.YtmklifheakemeaaGreat
