/-
  Step of broadsideref9, but for publications. Conditions as told.
-/
import Derived.Test.YtmklifheakemeaaGreatfr040
import Derived.Test.YtmklifheakemeaaGreatfr029
set_option maxRecDepth 100000
set_option maxHeartbeats 64000000
namespace Go.Proofs.YtmklifheakemeaaGreat.Bk
open Go.RowKit Go.Sort Rw YtmklifheakemeaaGreat.Nm Pr
def unadvB (b : Br) (f : Int) (x : Id) : Br × List Ou := ((forgetB b x f).1,if (forgetB b x f).2 = true then othersO b.near f 2 x (0,0) [] else [])
end Go.Proofs.YtmklifheakemeaaGreat.Bk
