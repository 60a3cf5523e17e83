/-
  Take of package subs. Conditions as told.
-/
import Derived.Test.YtkcfgbddlpomgaaGreatDQ043
import Derived.Test.YtkcfgbddlpomgaaGreatDQ042
set_option maxRecDepth 100000
set_option maxHeartbeats 64000000
namespace Go.Proofs.YtkcfgbddlpomgaaGreat.Sb
open Go.RowKit Go.Sort Rw YtkcfgbddlpomgaaGreat.Nm Pr Bk Av Rl
end Go.Proofs.YtkcfgbddlpomgaaGreat.Sb
