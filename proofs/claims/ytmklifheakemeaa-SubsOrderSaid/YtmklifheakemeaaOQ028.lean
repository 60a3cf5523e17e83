/-
  Forget of package ad. Conditions as told.
-/
import Derived.Test.YtmklifheakemeaaOQ024
import Derived.Test.YtmklifheakemeaaOQ025
import Derived.Test.YtmklifheakemeaaOQ016
import Derived.Test.YtmklifheakemeaaOQ027
set_option maxRecDepth 100000
set_option maxHeartbeats 64000000
namespace Go.Proofs.Ytmklifheakemeaa.Av
open Go.RowKit Go.Sort Rw Ytmklifheakemeaa.Nm Pr Bk
def zi (b:Br) (e:En):Bool:=match fK b.fB e.tree with
 | none=>false
 | some a=>!(e.from_ == a.par && !(a.par == -1)) && (tC b.near e.from_ && (!(e.up && a.par == -1) && Wr.jd e.p))
end Go.Proofs.Ytmklifheakemeaa.Av
