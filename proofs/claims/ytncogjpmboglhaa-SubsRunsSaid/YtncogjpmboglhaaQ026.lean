/-
  Forget's closure, slices.IndexFunc and slices.DeleteFunc of advertisements of one tree. Condition: the row is one's own.
  Forget's closure, slices.IndexFunc and slices.DeleteFunc of entries of one tree. Condition: the row is one's own.
-/
import Derived.Test.YtncogjpmboglhaaQ025
import Derived.Test.YtncogjpmboglhaaQ007
namespace Go.Proofs.Ytncogjpmboglhaa.Av
open Go.RowKit Go.Sort Go.Proofs.Ytncogjpmboglhaa Go.Proofs.Ytncogjpmboglhaa.Rw Go.Proofs.Ytncogjpmboglhaa.Nm Go.Proofs.Ytncogjpmboglhaa.Pr Go.Proofs.Ytncogjpmboglhaa.Bk

end Go.Proofs.Ytncogjpmboglhaa.Av

namespace Go.Proofs.Ytncogjpmboglhaa.Av
open Go.RowKit Go.Sort Go.Proofs.Ytncogjpmboglhaa Go.Proofs.Ytncogjpmboglhaa.Rw Go.Proofs.Ytncogjpmboglhaa.Nm Go.Proofs.Ytncogjpmboglhaa.Pr Go.Proofs.Ytncogjpmboglhaa.Bk

end Go.Proofs.Ytncogjpmboglhaa.Av
