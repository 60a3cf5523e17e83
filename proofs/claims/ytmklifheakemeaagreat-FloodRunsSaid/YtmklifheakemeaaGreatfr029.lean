/-
  Brokers of broadsidekeep: are two brokers the same? Condition: at most. Conditions as told.
-/
import Derived.Test.YtmklifheakemeaaGreatfr028
import Derived.Test.YtmklifheakemeaaGreatfr017
import Derived.Test.YtmklifheakemeaaGreatfr022
import Derived.Test.YtmklifheakemeaaGreatfr016
import Derived.Test.YtmklifheakemeaaGreatfr007
set_option maxRecDepth 100000
set_option maxHeartbeats 64000000
namespace Go.Proofs.YtmklifheakemeaaGreat.Bk
open Go.RowKit Go.Sort Rw YtmklifheakemeaaGreat.Nm Pr
end Go.Proofs.YtmklifheakemeaaGreat.Bk
namespace Go.Proofs.YtmklifheakemeaaGreat.Av
open Go.RowKit Go.Sort Rw YtmklifheakemeaaGreat.Nm Pr Bk
structure BrN (W : World) (b : Br) (nv av sv ev ov : Sl) : Prop where
 br : BrIn W b nv av sv ev ov
 no : NearOwn W nv b.near
theorem BrN.on {W W' : World} {b : Br} {nv av sv ev ov : Sl} (h : BrN W b nv av sv ev ov) (hb : Below W.heap.size W W') : BrN W' b nv av sv ev ov := ⟨h.br.on hb,h.no.on hb⟩
theorem BrN.keep {W W' : World} {k : Nat} {me : Int} {s1 s2 s3 s4 s5 : Sl} {b : Br} {nv av sv ev ov : Sl} (h : BrN W b nv av sv ev ov) (hb : Box W k (brcells me s1 s2 s3 s4 s5) 28) (hk : But k W W') : BrN W' b nv av sv ev ov := by
 obtain ⟨B,hn⟩ := h.no
 have hn2 : OwnI W' B (slv nv) b.near := hk.own hn hb (by decide)
 exact ⟨brin_keep h.br hb hk.1 (Row.of_own hn2),B,hn2⟩
theorem rise_uniq : ∀ {l m : List Int},l.Pairwise (· < ·) → m.Pairwise (· < ·) → (∀ x,x ∈ l ↔ x ∈ m) → l = m
 | [],[],_,_,_ => rfl
 | [],y :: m,_,_,h => by have := (h y).2 (by simp); simp at this
 | x :: l,[],_,_,h => by have := (h x).1 (by simp); simp at this
 | x :: l,y :: m,hl,hm,h => by
  have hl' := List.pairwise_cons.1 hl
  have hm' := List.pairwise_cons.1 hm
  have h1 : x = y := by
   rcases List.mem_cons.1 ((h x).1 (by simp)) with e | e
   ·exact e
   ·rcases List.mem_cons.1 ((h y).2 (by simp)) with e2 | e2
    ·exact e2.symm
    ·have a1 := hm'.1 x e
     have a2 := hl'.1 y e2
     omega
  subst h1
  rw [rise_uniq hl'.2 hm'.2 fun z => ⟨fun hz => ?_,fun hz => ?_⟩]
  ·rcases List.mem_cons.1 ((h z).1 (List.mem_cons_of_mem _ hz)) with e | e
   ·have := hl'.1 z hz
    omega
   ·exact e
  ·rcases List.mem_cons.1 ((h z).2 (List.mem_cons_of_mem _ hz)) with e | e
   ·have := hm'.1 z hz
    omega
   ·exact e
theorem but_grown {W W' : World} {b : Nat} (h : W.grownBy W' (some b)) : But b W W' := ⟨fun k hk hne => h.block k hk (by simpa using hne),h.size⟩
end Go.Proofs.YtmklifheakemeaaGreat.Av
namespace Go.Proofs.YtmklifheakemeaaGreat.Bk
open Go.RowKit Go.Sort Rw YtmklifheakemeaaGreat.Nm Pr
end Go.Proofs.YtmklifheakemeaaGreat.Bk
namespace Go.Proofs.YtmklifheakemeaaGreat.Bk
open Go.RowKit Go.Sort Rw YtmklifheakemeaaGreat.Nm Pr
end Go.Proofs.YtmklifheakemeaaGreat.Bk
