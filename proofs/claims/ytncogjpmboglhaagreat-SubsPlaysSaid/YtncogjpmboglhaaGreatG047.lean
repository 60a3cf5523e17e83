/-
  broadsidekeep.Broker: a broker of numbers, as steps make it: right, an. Conditions as told.
-/
import Derived.Test.YtncogjpmboglhaaGreatG044
import Derived.Test.YtncogjpmboglhaaGreatG045
import Derived.Test.YtncogjpmboglhaaGreatG046
import Derived.Test.YtncogjpmboglhaaGreatG023
import Derived.Test.YtncogjpmboglhaaGreatG018
set_option maxRecDepth 100000
set_option maxHeartbeats 64000000
namespace Go.Proofs.YtncogjpmboglhaaGreat.Av
open Go.RowKit Go.Sort Rw YtncogjpmboglhaaGreat.Nm Pr Bk
theorem prd_ok5 (has vals : List Int) : PredOk ((prd has vals 7).map r5) := ⟨_,prd_nf has vals,rfl⟩
end Go.Proofs.YtncogjpmboglhaaGreat.Av
