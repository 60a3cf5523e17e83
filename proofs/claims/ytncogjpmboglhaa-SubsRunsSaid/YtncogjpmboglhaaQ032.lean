/-
  Right's closures, and all of package adverts at its three kinds. Conditions: the rows rise where they are looked up in; at most 900 of each.
-/
import Derived.Test.YtncogjpmboglhaaQ031
import Derived.Test.YtncogjpmboglhaaQ017
namespace Go.Proofs.Ytncogjpmboglhaa.Av
open Go.RowKit Go.Sort Go.Proofs.Ytncogjpmboglhaa Go.Proofs.Ytncogjpmboglhaa.Rw Go.Proofs.Ytncogjpmboglhaa.Nm Go.Proofs.Ytncogjpmboglhaa.Pr Go.Proofs.Ytncogjpmboglhaa.Bk

end Go.Proofs.Ytncogjpmboglhaa.Av
