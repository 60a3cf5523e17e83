/-
  Advertise of broadsi. Conditions as told.
-/
import Derived.Test.YtmklifheakemeaaGreatLQ036
import Derived.Test.YtmklifheakemeaaGreatLQ030
set_option maxRecDepth 100000
set_option maxHeartbeats 64000000
namespace Go.Proofs.YtmklifheakemeaaGreat.Bk
open Go.RowKit Go.Sort Rw YtmklifheakemeaaGreat.Nm Pr
open Av
def vY (b:Br) (f:Int) (x:Id):Br×List Ou:=((uM b x f).1,if (uM b x f).2=true then gJ b.near f 2 x (0,0) [] else [])
end Go.Proofs.YtmklifheakemeaaGreat.Bk
