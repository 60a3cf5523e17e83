/-
  A broker with the en. Conditions as told.
-/
import Derived.Test.YtkcfgbddlpomgaaGreatOQ037
set_option maxRecDepth 100000
set_option maxHeartbeats 64000000
namespace Go.Proofs.YtkcfgbddlpomgaaGreat
namespace Ca
open Go.RowKit Go.Sort Rw YtkcfgbddlpomgaaGreat.Nm Pr Bk Av Rl Sb Fl
end Ca
namespace Fl
open Go.RowKit Go.Sort Rw YtkcfgbddlpomgaaGreat.Nm Pr Bk Av
end Fl
namespace Fl
open Go.RowKit Go.Sort Rw YtkcfgbddlpomgaaGreat.Nm Pr Bk Av Rl Sb
end Fl
namespace Ca
open Go.RowKit Go.Sort Rw YtkcfgbddlpomgaaGreat.Nm Pr Bk Av Rl Sb Fl
theorem ZA (pv lv:Value) (p:List C5) (l:List An) (w:World) (hp:gu w pv p) (hl:wH w lv l) (ok:dW p) (nl:NL l) :
  Calls Tryz.prog 18 #[pv,lv] w fun e w'=>e=.returned (.bool (pR p l))/\Below w.heap.size w w':=by
 obtain⟨a,na,rfl⟩:=ok;unfold pR;rw [qy];exact Eh pv lv a l w hp hl na nl
end Ca
end Go.Proofs.YtkcfgbddlpomgaaGreat
