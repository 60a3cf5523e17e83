/-
  The document's own Both (package broadsideref1), every case. Condition: constraints of one name.
-/
import Derived.Test.YtdomincmoaahoaaRlRefB2
import Derived.Test.YtdomincmoaahoaaRlRefB3
import Derived.Test.YtdomincmoaahoaaBf
import Derived.Test.YtdomincmoaahoaaBb
import Derived.Deep.RegionWith
import Derived.BigRegion
namespace Go.Proofs.Ytdomincmoaahoaa.Rl
open Go.RowKit Go.Sort Go.Proofs.Ytdomincmoaahoaa Go.Proofs.Ytdomincmoaahoaa.Pu Go.Proofs.Ytdomincmoaahoaa.Rw Go.Proofs.Ytdomincmoaahoaa.Pr Go.Proofs.Ytdomincmoaahoaa.Va

theorem rboth_any (n : ByteArray) (a b : Kd) (w : World) : Calls Try.prog 40 #[cv (r5 (n, a)), cv (r5 (n, b))] w (RBQ n (bothK a b) w) := by
  cases a with
  | rg p q => cases b with
    | rg r s => exact rboth_rr n p q r s w
    | tx t => exact rboth_rt n p q t w
    | pr t => exact rboth_rp n p q t w
  | tx s => cases b with
    | rg r q => exact rboth_tr n s r q w
    | tx t => exact rboth_tt n s t w
    | pr t => exact rboth_tp n s t w
  | pr s => cases b with
    | rg r q => exact rboth_pr n s r q w
    | tx t => exact rboth_pt n s t w
    | pr t =>
      by_cases h : t.size ≤ s.size
      · exact rboth_ge n s t w h
      · exact rboth_lt n s t w h
end Go.Proofs.Ytdomincmoaahoaa.Rl
