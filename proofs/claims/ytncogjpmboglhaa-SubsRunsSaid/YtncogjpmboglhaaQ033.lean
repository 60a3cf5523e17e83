/-
  Right of package adverts: do a broker's rows rise and fit together? Conditions: at most 900 of each row; texts below a machine's length.
-/
import Derived.Test.YtncogjpmboglhaaQ032
namespace Go.Proofs.Ytncogjpmboglhaa.Av
open Go.RowKit Go.Sort Go.Proofs.Ytncogjpmboglhaa Go.Proofs.Ytncogjpmboglhaa.Rw Go.Proofs.Ytncogjpmboglhaa.Nm Go.Proofs.Ytncogjpmboglhaa.Pr Go.Proofs.Ytncogjpmboglhaa.Bk

abbrev cEn (a b : En) : Int := orI (cmpJ a.tree b.tree) (cmpJ a.sub b.sub)
end Go.Proofs.Ytncogjpmboglhaa.Av
