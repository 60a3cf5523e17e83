/-
  The document's own B. Conditions as told.
-/
import Derived.Test.YtmklifheakemeaaGreatfe007
import Derived.Test.YtmklifheakemeaaGreatfe018
import Derived.Test.YtmklifheakemeaaGreatfe001
import Derived.Deep.RegionWith
set_option maxRecDepth 100000
set_option maxHeartbeats 64000000
open _root_.Array renaming length_toList->D
namespace Go.Proofs.YtmklifheakemeaaGreat.Rl
open Go.RowKit Go.Sort Pu Rw Pr Va
theorem qZ {n:ByteArray} {r:Option Kd} {b:Bool} {k:Kd} {w w':World} {e:Ending} (hr:r=if b=true then some k else none) (he:e=.returned (.tuple #[cv (r5 (n,k)),.bool b])) (h:Below w.heap.size w w'):Nb n r w e w':=by
 subst hr he;exact acE b k h
theorem ae3 {s t:ByteArray} (h:t.size<=s.size):fE (.pr s) (.pr t)=if pfx t s=true then some (.pr s) else none:=by
 simp only [fE];by_cases h1:pfx s t=true
 ·rw [if_pos h1];have e1:=(fU _ _).1 h1;have e2:s=t:=qL (e1.eq_of_length_le (by rw [D,D]; exact h));subst e2;rw [if_pos (oL s)]
 ·rw [if_neg h1]
theorem ae4 {s t:ByteArray} (h:¬ t.size<=s.size):fE (.pr s) (.pr t)=if pfx s t=true then some (.pr t) else none:=by
 simp only [fE];by_cases h1:pfx s t=true
 ·rw [if_pos h1,if_pos h1]
 ·have h2:¬ pfx t s=true:=fun h2=>by
   have:=((fU _ _).1 h2).length_le;rw [D,D] at this;exact h this
  rw [if_neg h1,if_neg h1,if_neg h2]
end Go.Proofs.YtmklifheakemeaaGreat.Rl
