/-
  rightEntry of packag. Conditions as told.
-/
import Derived.Test.YtmklifheakemeaaVQ028
set_option maxRecDepth 100000
set_option maxHeartbeats 64000000
namespace Go.Proofs.Ytmklifheakemeaa.Av
open Go.RowKit Go.Sort Rw Ytmklifheakemeaa.Nm Pr Bk
def yC (b:Br) (e:En):Bool:=match fT b.fI e.tree with
 | none=>false
 | some a=>!(e.from_ == a.par && !(a.par == -1)) && (wN b.near e.from_ && (!(e.up && a.par == -1) && Wr.jJ e.p))
end Go.Proofs.Ytmklifheakemeaa.Av
