/-
  Subscribe of broadsi. Conditions as told.
-/
import Derived.Test.YtghlpefopidlaaaGreatBQ037
import Derived.Test.YtghlpefopidlaaaGreatBQ031
set_option maxRecDepth 100000
set_option maxHeartbeats 64000000
namespace Go.Proofs.YtghlpefopidlaaaGreat.Bk
open Go.RowKit Go.Sort Rw YtghlpefopidlaaaGreat.Nm Pr
open Av
end Go.Proofs.YtghlpefopidlaaaGreat.Bk
