/-
  Add of broadsideref9: a broker with one entry more, if its tree is kno. Conditions as told.
-/
import Derived.Test.YtmklifheakemeaaGreatfr028
import Derived.Test.YtmklifheakemeaaGreatfr012
import Derived.Test.YtmklifheakemeaaGreatfr013
import Derived.Test.YtmklifheakemeaaGreatfr014
import Derived.Test.YtmklifheakemeaaGreatfr021
set_option maxRecDepth 100000
set_option maxHeartbeats 64000000
namespace Go.Proofs.YtmklifheakemeaaGreat.Bk
open Go.RowKit Go.Sort Rw YtmklifheakemeaaGreat.Nm Pr
abbrev keyE (e : En) : Id × Id := (e.tree,e.sub)
def addB (b : Br) (e : En) : Br × Bool := match b.adv[(findI (b.adv.map Ad.id) e.tree).toNat]? with
 | none => (b,false)
 | some a => if findI (b.adv.map Ad.id) e.tree = -1 then (b,false) else if findK (b.ent.map keyE) (keyE e) ≠ -1 then (b,false) else if e.from_ ≠ -1 ∧ e.from_ = a.par then (b,false) else
  ({ b with ent := insAt b.ent (placeP (b.ent.map keyE) (keyE e)) { e with up := decide (a.par ≠ -1) && !coveredE b.ent e.tree e.p } },decide (a.par ≠ -1) && !coveredE b.ent e.tree e.p)
theorem addB_same (b : Br) (e : En) : (addB b e).1.me = b.me ∧ (addB b e).1.near = b.near ∧ (addB b e).1.adv = b.adv ∧ (addB b e).1.seen = b.seen ∧ (addB b e).1.own = b.own := by
 unfold addB
 split
 ·exact ⟨rfl,rfl,rfl,rfl,rfl⟩
 ·split
  ·exact ⟨rfl,rfl,rfl,rfl,rfl⟩
  ·split
   ·exact ⟨rfl,rfl,rfl,rfl,rfl⟩
   ·split <;> exact ⟨rfl,rfl,rfl,rfl,rfl⟩
end Go.Proofs.YtmklifheakemeaaGreat.Bk
namespace Go.Proofs.YtmklifheakemeaaGreat.Bk
open Go.RowKit Go.Sort Rw YtmklifheakemeaaGreat.Nm Pr
open Av
def upE (e : En) : En := { e with up := true }
structure Ou where
 to_ : Int
 kind : Int
 tree : Id
 id : Id
 p : List C5
def subE (to_ : Int) (e : En) : Ou := ⟨to_,3,e.tree,e.sub,e.p⟩
theorem findI_mem (l : List Id) (x : Id) (h : x ∈ l) : ∃ k : Nat,findI l x = k ∧ l[k]? = some x := by
 induction l with
 | nil => simp at h
 | cons a r ih =>
  by_cases e : a = x
  ·subst e
   exact ⟨0,by simp [findI],rfl⟩
  ·have hr : x ∈ r := by
    rcases List.mem_cons.1 h with h1 | h1
    ·exact absurd h1.symm e
    ·exact h1
   obtain ⟨k,h1,h2⟩ := ih hr
   refine ⟨k + 1,?_,by simpa using h2⟩
   rw [findI,if_neg e,h1,if_neg (by omega)]
   omega
end Go.Proofs.YtmklifheakemeaaGreat.Bk
