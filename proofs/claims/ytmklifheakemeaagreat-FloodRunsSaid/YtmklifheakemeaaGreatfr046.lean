/-
  broadsidekeep.Broker: a broker of numbers, as steps make it: right, an. Conditions as told.
-/
import Derived.Test.YtmklifheakemeaaGreatfr043
import Derived.Test.YtmklifheakemeaaGreatfr045
import Derived.Test.YtmklifheakemeaaGreatfr039
import Derived.Test.YtmklifheakemeaaGreatfr027
import Derived.Test.YtmklifheakemeaaGreatfr016
set_option maxRecDepth 100000
set_option maxHeartbeats 64000000
namespace Go.Proofs.YtmklifheakemeaaGreat.Av
open Go.RowKit Go.Sort Rw YtmklifheakemeaaGreat.Nm Pr Bk
end Go.Proofs.YtmklifheakemeaaGreat.Av
