/-
  Subscribe of broadsi. Conditions as told.
-/
import Derived.Test.YtghlpefopidlaaaGreatOQ039
import Derived.Test.YtghlpefopidlaaaGreatOQ030
set_option maxRecDepth 100000
set_option maxHeartbeats 64000000
namespace Go.Proofs.YtghlpefopidlaaaGreat.Bk
open Go.RowKit Go.Sort Rw YtghlpefopidlaaaGreat.Nm Pr
open Av
end Go.Proofs.YtghlpefopidlaaaGreat.Bk
