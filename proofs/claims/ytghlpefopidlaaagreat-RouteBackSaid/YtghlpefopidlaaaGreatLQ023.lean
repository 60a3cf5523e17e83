/-
  RightOne and Right o. Conditions as told.
-/
import Derived.Test.YtghlpefopidlaaaGreatLQ016
import Derived.Test.YtghlpefopidlaaaGreatLQ013
import Derived.Deep.LoopGhost
set_option maxRecDepth 100000
set_option maxHeartbeats 64000000
namespace Go.Proofs.YtghlpefopidlaaaGreat
namespace Avp
open Go.RowKit Go.Sort Rw YtghlpefopidlaaaGreat.Nm At Pr Wr Va
end Avp
namespace Av
open Go.RowKit Go.Sort Rw YtghlpefopidlaaaGreat.Nm Pr Bk
end Av
namespace Av
open Go.RowKit Go.Sort Rw YtghlpefopidlaaaGreat.Nm Pr Bk
def uf {α:Type} (c:α->α->Int):List α->Bool
 | x::y::l=>decide (c x y<0) && uf c (y::l)
 | _=>true
end Av
end Go.Proofs.YtghlpefopidlaaaGreat
