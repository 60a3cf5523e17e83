/-
  rightEntry of package adverts. Conditions: the neighbours and the advertisements rise; at most 900 of each.
-/
import Derived.Test.YtncogjpmboglhaaQ017
import Derived.Test.YtncogjpmboglhaaQ015
import Derived.Test.YtncogjpmboglhaaQ019
import Derived.Test.YtncogjpmboglhaaQ020
import Derived.Test.YtncogjpmboglhaaQ029
import Derived.Test.YtncogjpmboglhaaQ030
namespace Go.Proofs.Ytncogjpmboglhaa.Av
open Go.RowKit Go.Sort Go.Proofs.Ytncogjpmboglhaa Go.Proofs.Ytncogjpmboglhaa.Rw Go.Proofs.Ytncogjpmboglhaa.Nm Go.Proofs.Ytncogjpmboglhaa.Pr Go.Proofs.Ytncogjpmboglhaa.Bk

end Go.Proofs.Ytncogjpmboglhaa.Av
