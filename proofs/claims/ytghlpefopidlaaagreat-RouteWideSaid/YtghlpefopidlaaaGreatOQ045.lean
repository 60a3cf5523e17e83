/-
  broadsidekeep.Broker. Conditions as told.
-/
import Derived.Test.YtghlpefopidlaaaGreatOQ042
set_option maxRecDepth 100000
set_option maxHeartbeats 64000000
namespace Go.Proofs.YtghlpefopidlaaaGreat.Av
open Go.RowKit Go.Sort Rw YtghlpefopidlaaaGreat.Nm Pr Bk
theorem OZ (has vals:List Int):dU ((jw has vals 7).map r5):=⟨_,Kq has vals,rfl⟩
end Go.Proofs.YtghlpefopidlaaaGreat.Av
