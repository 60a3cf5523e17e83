/-
  The document's own B. Conditions as told.
-/
import Derived.Test.YtncogjpmboglhaaGreatF008
import Derived.Test.YtncogjpmboglhaaGreatF022
import Derived.Test.YtncogjpmboglhaaGreatF001
import Derived.Deep.RegionWith
import Derived.BigRegion
set_option maxRecDepth 100000
set_option maxHeartbeats 64000000
namespace Go.Proofs.YtncogjpmboglhaaGreat.Rl
open Go.RowKit Go.Sort Pu Rw Pr Va
theorem rbq_same {n:ByteArray} {r:Option Kd} {b:Bool} {k:Kd} {w w':World} {e:Ending} (hr:r=if b=true then some k else none) (he:e=.returned (.tuple #[cv (r5 (n,k)),.bool b])) (h:Below w.heap.size w w'):RBQ n r w e w':=by
 subst hr he
 exact rbq_if b k h
theorem pp_ge {s t:ByteArray} (h:t.size≤s.size):bothK (.pr s) (.pr t)=if pfx t s=true then some (.pr s) else none:=by
 simp only [bothK]
 by_cases h1:pfx s t=true
 ·rw [if_pos h1]
  have e1:=(pfx_iff _ _).1 h1
  have e2:s=t:=bytes_eq (e1.eq_of_length_le (by rw [Array.length_toList,Array.length_toList]; exact h))
  subst e2
  rw [if_pos (pfx_self s)]
 ·rw [if_neg h1]
theorem pp_lt {s t:ByteArray} (h:¬ t.size≤s.size):bothK (.pr s) (.pr t)=if pfx s t=true then some (.pr t) else none:=by
 simp only [bothK]
 by_cases h1:pfx s t=true
 ·rw [if_pos h1,if_pos h1]
 ·have h2:¬ pfx t s=true:=fun h2=>by
   have:=((pfx_iff _ _).1 h2).length_le
   rw [Array.length_toList,Array.length_toList] at this
   exact h this
  rw [if_neg h1,if_neg h1,if_neg h2]
end Go.Proofs.YtncogjpmboglhaaGreat.Rl
