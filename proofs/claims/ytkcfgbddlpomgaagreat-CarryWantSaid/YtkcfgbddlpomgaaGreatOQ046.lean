/-
  CarryTrees: a tree's. Conditions as told.
-/
import Derived.Test.YtkcfgbddlpomgaaGreatOQ041
import Derived.Test.YtkcfgbddlpomgaaGreatOQ045
set_option maxRecDepth 100000
set_option maxHeartbeats 64000000
namespace Go.Proofs.YtkcfgbddlpomgaaGreat.Ca
open Go.RowKit Go.Sort Rw YtkcfgbddlpomgaaGreat.Nm Pr Bk Av Rl Sb Fl
end Go.Proofs.YtkcfgbddlpomgaaGreat.Ca
