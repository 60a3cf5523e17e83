/-
  Numbers as eight byt. Conditions as told.
-/
import Derived.IntWalk
import Derived.Test.YtncogjpmboglhaaGreatF007
import Derived.Test.YtncogjpmboglhaaGreatF002
set_option maxRecDepth 100000
set_option maxHeartbeats 64000000
namespace Go.Proofs.YtncogjpmboglhaaGreat.Nm
end Go.Proofs.YtncogjpmboglhaaGreat.Nm
namespace Go.Proofs.YtncogjpmboglhaaGreat.At
open Go.RowKit Va
/-! ### the publications that numbers make -/
end Go.Proofs.YtncogjpmboglhaaGreat.At
namespace Go.Proofs.YtncogjpmboglhaaGreat.At
open Go.RowKit Go.Sort Va In
end Go.Proofs.YtncogjpmboglhaaGreat.At
