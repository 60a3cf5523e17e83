/-
  Advertise of broadsi. Conditions as told.
-/
import Derived.Test.YtghlpefopidlaaaGreatBQ037
import Derived.Test.YtghlpefopidlaaaGreatBQ029
set_option maxRecDepth 100000
set_option maxHeartbeats 64000000
namespace Go.Proofs.YtghlpefopidlaaaGreat.Bk
open Go.RowKit Go.Sort Rw YtghlpefopidlaaaGreat.Nm Pr
open Av
def UC (b:Br) (f:Int) (x:Id):Br×List Ou:=((GH b x f).1,if (GH b x f).2=true then Hw b.near f 2 x (0,0) [] else [])
end Go.Proofs.YtghlpefopidlaaaGreat.Bk
