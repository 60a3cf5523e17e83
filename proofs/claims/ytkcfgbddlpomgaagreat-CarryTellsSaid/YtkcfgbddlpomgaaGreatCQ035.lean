/-
  rightAdvert of packa. Conditions as told.
-/
import Derived.Test.YtkcfgbddlpomgaaGreatCQ024
import Derived.Test.YtkcfgbddlpomgaaGreatCQ034
set_option maxRecDepth 100000
set_option maxHeartbeats 64000000
namespace Go.Proofs.YtkcfgbddlpomgaaGreat.Av
open Go.RowKit Go.Sort Rw YtkcfgbddlpomgaaGreat.Nm Pr Bk
def aay (b:Br) (a:Ad):Bool:=decide (a.id∈b.seen) && (jU b.near a.par && Wr.jd a.p)
def wP (b:Br) (e:En):Bool:=match gu b.dL e.tree with
 | none=>false
 | some a=>!(e.from_ == a.par && !(a.par == -1)) && (jU b.near e.from_ && (!(e.up && a.par == -1) && Wr.jd e.p))
end Go.Proofs.YtkcfgbddlpomgaaGreat.Av
