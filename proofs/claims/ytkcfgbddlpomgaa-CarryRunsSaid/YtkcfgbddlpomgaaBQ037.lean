/-
  What a round of Adve. Conditions as told.
-/
import Derived.Test.YtkcfgbddlpomgaaBQ036
import Derived.Test.YtkcfgbddlpomgaaBQ034
set_option maxRecDepth 100000
set_option maxHeartbeats 64000000
namespace Go.Proofs.Ytkcfgbddlpomgaa.Av
open Go.RowKit Go.Sort Rw Ytkcfgbddlpomgaa.Nm Pr Bk
theorem mH {P:Program} (ρ:Operand->Value) (o:Oper) (y:Operand) (k:Nat) (ho:o.op=.extract y k) {c:Array Value} {v:Value} (hx:ρ y=.tuple c) (hv:c[k]?=some v) (w:World):(execOp ρ o).run P w=.ok (.value v) w:=by
 simp [execOp,ho,hx,hv,go_sem]
end Go.Proofs.Ytkcfgbddlpomgaa.Av
