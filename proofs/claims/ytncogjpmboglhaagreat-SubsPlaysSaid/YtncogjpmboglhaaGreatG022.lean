/-
  join of package pred: one constraint more in a normal form. Conditions as told.
-/
import Derived.Test.YtncogjpmboglhaaGreatG012
import Derived.Test.YtncogjpmboglhaaGreatG021
import Derived.Deep.RegionWith
set_option maxRecDepth 100000
set_option maxHeartbeats 64000000
namespace Go.Proofs.YtncogjpmboglhaaGreat.Pr
open Go.RowKit Go.Sort Pu Rw Va
theorem box_store {W : World} {b : Nat} {z : C5} (h : Box W b (cells5 z).toArray 47) (x : C5) : Box (((((W.setCell ⟨b,0,none⟩ (.string x.1)).setCell ⟨b,1,none⟩ (.int .i64 x.2.1)).setCell ⟨b,2,none⟩ (.int .i64 x.2.2.1)).setCell ⟨b,3,none⟩ (.int .i64 x.2.2.2.1)).setCell ⟨b,4,none⟩ (.string x.2.2.2.2)) b (cells5 x).toArray 47 := by
 have h1 := heap_setCell_same W b 0 _ 47 (.string x.1) h
 have h2 := heap_setCell_same _ b 1 _ 47 (.int .i64 x.2.1) h1
 have h3 := heap_setCell_same _ b 2 _ 47 (.int .i64 x.2.2.1) h2
 have h4 := heap_setCell_same _ b 3 _ 47 (.int .i64 x.2.2.2.1) h3
 have h5 := heap_setCell_same _ b 4 _ 47 (.string x.2.2.2.2) h4
 unfold Box
 rw [h5]
 simp [cells5]
end Go.Proofs.YtncogjpmboglhaaGreat.Pr
