/-
  Take of package subs. Conditions as told.
-/
import Derived.Test.YtkcfgbddlpomgaaBQ045
import Derived.Test.YtkcfgbddlpomgaaBQ042
set_option maxRecDepth 100000
set_option maxHeartbeats 64000000
namespace Go.Proofs.Ytkcfgbddlpomgaa.Sb
open Go.RowKit Go.Sort Rw Ytkcfgbddlpomgaa.Nm Pr Bk Av Rl
end Go.Proofs.Ytkcfgbddlpomgaa.Sb
