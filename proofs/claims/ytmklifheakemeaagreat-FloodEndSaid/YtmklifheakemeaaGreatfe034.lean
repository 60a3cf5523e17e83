/-
  The document's own B. Conditions as told.
-/
import Derived.Test.YtmklifheakemeaaGreatfe032
import Derived.Test.YtmklifheakemeaaGreatfe033
set_option maxRecDepth 100000
set_option maxHeartbeats 64000000
namespace Go.Proofs.YtmklifheakemeaaGreat.Rl
open Go.RowKit Go.Sort Pu Rw Pr Va
theorem QH (n:ByteArray) (a b:Kd) (w:World):Calls Tryz.prog 152 #[cv (r5 (n,a)),cv (r5 (n,b))] w (Nb n (fE a b) w):=by
 cases a with
 | rg p q=>cases b with
  | rg r s=>exact U8 n p q r s w
  | tx t=>exact RO n p q t w
  | pr t=>exact RQ n p q t w
 | tx s=>cases b with
  | rg r q=>exact RS n s r q w
  | tx t=>exact U0 n s t w
  | pr t=>exact U4 n s t w
 | pr s=>cases b with
  | rg r q=>exact RV n s r q w
  | tx t=>exact U5 n s t w
  | pr t =>
   by_cases h:t.size<=s.size
   ·exact U6 n s t w h
   ·exact U7 n s t w h
end Go.Proofs.YtmklifheakemeaaGreat.Rl
