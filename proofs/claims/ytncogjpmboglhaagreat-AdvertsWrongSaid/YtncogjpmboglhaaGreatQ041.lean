/-
  Rows of one's own of advertisements with predicates of their own, thro. Conditions as told.
-/
import Derived.Test.YtncogjpmboglhaaGreatQ034
import Derived.Test.YtncogjpmboglhaaGreatQ039
set_option maxRecDepth 100000
set_option maxHeartbeats 64000000
namespace Go.Proofs.YtncogjpmboglhaaGreat.Av
open Go.RowKit Go.Sort Rw YtncogjpmboglhaaGreat.Nm Pr Bk
theorem own_app {α β : Type} {E : Ek α} {F : Ek β} {W W' : World} {B B' : Nat} {v u : Value} {l : List β} {m : List α} (ho : Own F W B v l) (gr : W.grownBy W' v.ownBlock) (h : Own E W B' u m) (hne : (E.t == F.t) = false) : Own E W' B' u m := by
 rcases own_open ho with ⟨h1,_⟩ | ⟨g,c,cur,h1,_,h2,_⟩
 ·rw [h1] at gr
  exact Bk.own_on h ((Below.refl _ _).grown gr (Nat.le_refl _) (fun j hj => by cases hj))
 ·rw [h1] at gr
  exact (but_grown (b := g) gr).own h h2 hne
theorem box_app {β : Type} {F : Ek β} {W W' : World} {B k : Nat} {v : Value} {l : List β} {cs : Array Value} {t : TypeId} (ho : Own F W B v l) (gr : W.grownBy W' v.ownBlock) (h : Box W k cs t) (hne : (t == F.t) = false) : Box W' k cs t := by
 rcases own_open ho with ⟨h1,_⟩ | ⟨g,c,cur,h1,_,h2,_⟩
 ·rw [h1] at gr
  exact h.on ((Below.refl _ _).grown gr (Nat.le_refl _) (fun j hj => by cases hj))
 ·rw [h1] at gr
  exact (but_grown (b := g) gr).box h (box_ne h h2 hne)
end Go.Proofs.YtncogjpmboglhaaGreat.Av
