/-
  The document's own B. Conditions as told.
-/
import Derived.Test.YtncogjpmboglhaaGreatF037
import Derived.Test.YtncogjpmboglhaaGreatF038
import Derived.Test.YtncogjpmboglhaaGreatF022
import Derived.Test.YtncogjpmboglhaaGreatF001
import Derived.Deep.RegionWith
import Derived.BigRegion
set_option maxRecDepth 100000
set_option maxHeartbeats 64000000
namespace Go.Proofs.YtncogjpmboglhaaGreat.Rl
open Go.RowKit Go.Sort Pu Rw Pr Va
theorem rboth_any (n:ByteArray) (a b:Kd) (w:World):Calls Tryz.prog 157 #[cv (r5 (n,a)),cv (r5 (n,b))] w (RBQ n (bothK a b) w):=by
 cases a with
 | rg p q=>cases b with
  | rg r s=>exact rboth_rr n p q r s w
  | tx t=>exact rboth_rt n p q t w
  | pr t=>exact rboth_rp n p q t w
 | tx s=>cases b with
  | rg r q=>exact rboth_tr n s r q w
  | tx t=>exact rboth_tt n s t w
  | pr t=>exact rboth_tp n s t w
 | pr s=>cases b with
  | rg r q=>exact rboth_pr n s r q w
  | tx t=>exact rboth_pt n s t w
  | pr t =>
   by_cases h:t.size≤s.size
   ·exact rboth_ge n s t w h
   ·exact rboth_lt n s t w h
end Go.Proofs.YtncogjpmboglhaaGreat.Rl
