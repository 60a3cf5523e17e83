/-
  slices.BinarySearchF. Conditions as told.
-/
import Derived.Test.YtncogjpmboglhaaGreatF014
import Derived.Test.YtncogjpmboglhaaGreatF007
import Derived.Deep.LoopGhost
import Derived.Laws.Externs
set_option maxRecDepth 100000
set_option maxHeartbeats 64000000
namespace Go.Proofs.YtncogjpmboglhaaGreat.Pr
open Go.RowKit Go.Sort Pu Rw Va
theorem el_regrown {W W1:World} {v:Value} {l:List C5} {ao:Option Addr} {n c k:Nat} {x:C5} (h:RowC W v l) (hv:v=.slice ao n c) (hn:l.length=n) (hk:l[k]?=some x) (hb:Below W.heap.size W W1) :
  ∃ p:Addr,(∀ w,(Instr.indexAt 39 (.slice ao n c) (.int .i64 k)).run Tryz.prog w=.ok (.pointer (some p)) w) ∧
   (∀ d os,(grow (redrawn W1 d) os).cell? p=some (.string x.1))∧(∀ d os,(grow (redrawn W1 d) os).cell? ⟨p.block,p.off+1,none⟩=some (.int .i64 x.2.1))∧(∀ d os,(grow (redrawn W1 d) os).cell? ⟨p.block,p.off+2,none⟩=some (.int .i64 x.2.2.1))∧(∀ d os,(grow (redrawn W1 d) os).cell? ⟨p.block,p.off+3,none⟩=some (.int .i64 x.2.2.2.1))∧(∀ d os,(grow (redrawn W1 d) os).cell? ⟨p.block,p.off+4,none⟩=some (.string x.2.2.2.2)):=by
 obtain⟨p,h1,h2⟩:=elC h hv hn hk
 obtain⟨c0,c1,c2,c3,c4⟩:=h2 _ hb
 exact⟨p,h1,cell_regrown c0,cell_regrown c1,cell_regrown c2,cell_regrown c3,cell_regrown c4⟩
theorem box_regrown {W:World} {b:Nat} {c:C5} (h:Box W b (cells5 c).toArray 47):(∀ d os,(grow (redrawn W d) os).cell? ⟨b,0,none⟩=some (.string c.1))∧(∀ d os,(grow (redrawn W d) os).cell? ⟨b,1,none⟩=some (.int .i64 c.2.1))∧(∀ d os,(grow (redrawn W d) os).cell? ⟨b,2,none⟩=some (.int .i64 c.2.2.1))∧(∀ d os,(grow (redrawn W d) os).cell? ⟨b,3,none⟩=some (.int .i64 c.2.2.2.1))∧(∀ d os,(grow (redrawn W d) os).cell? ⟨b,4,none⟩=some (.string c.2.2.2.2)) :=
 ⟨cell_regrown (h.cell 0),cell_regrown (h.cell 1),cell_regrown (h.cell 2),cell_regrown (h.cell 3),cell_regrown (h.cell 4)⟩
end Go.Proofs.YtncogjpmboglhaaGreat.Pr
