/-
  broadsidekeep.Broker. Conditions as told.
-/
import Derived.Test.YtghlpefopidlaaaGreatBQ041
set_option maxRecDepth 100000
set_option maxHeartbeats 64000000
namespace Go.Proofs.YtghlpefopidlaaaGreat.Av
open Go.RowKit Go.Sort Rw YtghlpefopidlaaaGreat.Nm Pr Bk
theorem QT (has vals:List Int):dN ((nN has vals 7).map r5):=⟨_,Lc has vals,rfl⟩
end Go.Proofs.YtghlpefopidlaaaGreat.Av
