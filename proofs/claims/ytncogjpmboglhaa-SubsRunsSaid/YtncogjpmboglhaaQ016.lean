/-
  Constraint of the statements' own package: a constraint of a number. Condition: numbers of 64 bits.
  Pred of the statements' own package: a right predicate of numbers. Condition: numbers of 64 bits; lists no longer than a machine holds.
-/
import Derived.Test.YtncogjpmboglhaaQ005
import Derived.Test.YtncogjpmboglhaaQ008
import Derived.Deep.RegionWith
import Derived.IntWalk
namespace Go.Proofs.Ytncogjpmboglhaa.Pr
open Go.RowKit Go.Proofs.Ytncogjpmboglhaa Go.Proofs.Ytncogjpmboglhaa.Pu Go.Proofs.Ytncogjpmboglhaa.Rw Go.Proofs.Ytncogjpmboglhaa.Va Go.Proofs.Ytncogjpmboglhaa.Kp

end Go.Proofs.Ytncogjpmboglhaa.Pr

namespace Go.Proofs.Ytncogjpmboglhaa.Pr
open Go.RowKit Go.Proofs.Ytncogjpmboglhaa Go.Proofs.Ytncogjpmboglhaa.Pu Go.Proofs.Ytncogjpmboglhaa.Rw Go.Proofs.Ytncogjpmboglhaa.Va Go.Proofs.Ytncogjpmboglhaa.Kp Go.Proofs.Ytncogjpmboglhaa.In

end Go.Proofs.Ytncogjpmboglhaa.Pr
