/-
  The document's own B. Conditions as told.
-/
import Derived.Test.YtmklifheakemeaaGreatBQ033
import Derived.Test.YtmklifheakemeaaGreatBQ034
set_option maxRecDepth 100000
set_option maxHeartbeats 64000000
namespace Go.Proofs.YtmklifheakemeaaGreat.Rl
open Go.RowKit Go.Sort Pu Rw Pr Va
theorem QI (n:ByteArray) (a b:Kd) (w:World):Calls Tryz.prog 152 #[cv (r5 (n,a)),cv (r5 (n,b))] w (MF n (fE a b) w):=by
 cases a with
 | rg p q=>cases b with
  | rg r s=>exact U5 n p q r s w
  | tx t=>exact SI n p q t w
  | pr t=>exact SK n p q t w
 | tx s=>cases b with
  | rg r q=>exact SS n s r q w
  | tx t=>exact UU n s t w
  | pr t=>exact UW n s t w
 | pr s=>cases b with
  | rg r q=>exact SV n s r q w
  | tx t=>exact UY n s t w
  | pr t =>
   by_cases h:t.size<=s.size
   ·exact UZ n s t w h
   ·exact U0 n s t w h
end Go.Proofs.YtmklifheakemeaaGreat.Rl
