/-
  A broker with the en. Conditions as told.
-/
import Derived.Test.YtkcfgbddlpomgaaGreatLQ038
import Derived.Test.YtkcfgbddlpomgaaGreatLQ039
set_option maxRecDepth 100000
set_option maxHeartbeats 64000000
namespace Go.Proofs.YtkcfgbddlpomgaaGreat
namespace Ca
open Go.RowKit Go.Sort Rw YtkcfgbddlpomgaaGreat.Nm Pr Bk Av Rl Sb Fl
theorem Pp {b:Br} {f:Int} {t:eG} {l:List An} (h:∀ a,fP b.dM t=some a->f≠a.par):jX b f t l=([],[]):=by
 unfold jX;cases hf:List.find? (fun a=>decide (a.id=t)) b.dM with
 | none=>rfl
 | some a=>exact if_neg fun g=>h a hf g.symm
end Ca
namespace Sb
open Go.RowKit Go.Sort Rw YtkcfgbddlpomgaaGreat.Nm Pr Bk Av
end Sb
namespace Sb
open Go.RowKit Go.Sort Rw YtkcfgbddlpomgaaGreat.Nm Pr Bk Av Rl
end Sb
namespace Fl
open Go.RowKit Go.Sort Rw YtkcfgbddlpomgaaGreat.Nm Pr Bk Av
end Fl
namespace Fl
open Go.RowKit Go.Sort Rw YtkcfgbddlpomgaaGreat.Nm Pr Bk Av Rl Sb
end Fl
end Go.Proofs.YtkcfgbddlpomgaaGreat
