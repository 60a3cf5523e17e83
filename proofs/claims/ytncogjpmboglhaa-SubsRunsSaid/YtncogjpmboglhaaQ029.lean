/-
  Forget of package adverts: a broker without one advertisement, and its tree's entries. Conditions: at most 900 of each, its rows rise.
-/
import Derived.Test.YtncogjpmboglhaaQ026
import Derived.Test.YtncogjpmboglhaaQ015
import Derived.Test.YtncogjpmboglhaaQ028
namespace Go.Proofs.Ytncogjpmboglhaa.Av
open Go.RowKit Go.Sort Go.Proofs.Ytncogjpmboglhaa Go.Proofs.Ytncogjpmboglhaa.Rw Go.Proofs.Ytncogjpmboglhaa.Nm Go.Proofs.Ytncogjpmboglhaa.Pr Go.Proofs.Ytncogjpmboglhaa.Bk

end Go.Proofs.Ytncogjpmboglhaa.Av
