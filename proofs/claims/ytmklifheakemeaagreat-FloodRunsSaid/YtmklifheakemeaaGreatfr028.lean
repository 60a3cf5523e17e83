/-
  A set of IDs as a map of Booleans: made, asked, counted, stored into. Conditions as told.
-/
import Derived.Test.YtmklifheakemeaaGreatfr006
import Derived.Maps.OwnSet
import Derived.DeepKeys4
import Derived.KernelRfl
import Derived.Test.YtmklifheakemeaaGreatfr014
import Derived.Test.YtmklifheakemeaaGreatfr012
import Derived.Test.YtmklifheakemeaaGreatfr016
import Derived.Test.YtmklifheakemeaaGreatfr013
import Derived.Test.YtmklifheakemeaaGreatfr008
set_option maxRecDepth 100000
set_option maxHeartbeats 64000000
namespace Go.Proofs.YtmklifheakemeaaGreat.Av
open Go.RowKit Rw Bk Go.Maps Go.ChangeMaps
end Go.Proofs.YtmklifheakemeaaGreat.Av
namespace Go.Proofs.YtmklifheakemeaaGreat.Bk
open Go.RowKit Go.Sort Rw YtmklifheakemeaaGreat.Nm Pr
end Go.Proofs.YtmklifheakemeaaGreat.Bk
namespace Go.Proofs.YtmklifheakemeaaGreat.Bk
open Go.RowKit Rw YtmklifheakemeaaGreat.Nm Pr Rl
def unR (c : C5) : Cn := (c.1,if c.2.1 = 1 then .rg c.2.2.1 c.2.2.2.1 else if c.2.1 = 2 then .tx c.2.2.2.2 else .pr c.2.2.2.2)
theorem unR_r5 (c : Cn) : unR (r5 c) = c := by
 obtain ⟨n,k⟩ := c
 cases k <;> simp [unR,r5,kN,kLo,kHi,kT]
theorem unR_map (a : List Cn) : (a.map r5).map unR = a := by
 rw [List.map_map]
 have h : unR ∘ r5 = id := funext unR_r5
 rw [h,List.map_id]
def PredOk (p : List C5) : Prop := ∃ a : List Cn,NF a ∧ p = a.map r5
def coversC (p q : List C5) : Bool := coversL (p.map unR) (q.map unR)
def covE (t : Id) (p : List C5) (e : En) : Bool := decide (e.tree = t) && (e.up && coversC e.p p)
def coveredE (m : List En) (t : Id) (p : List C5) : Bool := m.any (covE t p)
def findK {κ : Type} [DecidableEq κ] : List κ → κ → Int
 | [],_ => -1
 | a :: l,x => if a = x then 0 else if findK l x = -1 then -1 else findK l x + 1
theorem findK_none {κ : Type} [DecidableEq κ] (l : List κ) (x : κ) (h : ∀ (j : Nat) (y : κ),l[j]? = some y → y ≠ x) : findK l x = -1 := by
 induction l with
 | nil => rfl
 | cons a l ih => rw [findK,if_neg (h 0 a rfl),ih fun j y hj => h (j + 1) y (by simpa using hj),if_pos rfl]
theorem findK_at {κ : Type} [DecidableEq κ] (l : List κ) (k : Nat) (x : κ) (h : l[k]? = some x) (hall : ∀ (j : Nat) (z : κ),j < k → l[j]? = some z → z ≠ x) : findK l x = k := by
 induction l generalizing k with
 | nil => simp at h
 | cons a l ih =>
  cases k with
  | zero =>
   obtain rfl : a = x := by simpa using h
   rw [findK,if_pos rfl]
   rfl
  | succ k =>
   have h2 := ih k (by simpa using h) fun j z hj hz => hall (j + 1) z (by omega) (by simpa using hz)
   rw [findK,if_neg (hall 0 a (by omega) rfl),h2,if_neg (by omega)]
   omega
theorem findK_or {κ : Type} [DecidableEq κ] (l : List κ) (x : κ) : findK l x = -1 ∨ ∃ k : Nat,findK l x = k ∧ l[k]? = some x := by
 induction l with
 | nil => exact Or.inl rfl
 | cons a l ih =>
  rw [findK]
  by_cases h : a = x
  ·rw [if_pos h]
   exact Or.inr ⟨0,rfl,by rw [h]; rfl⟩
  ·rw [if_neg h]
   rcases ih with h2 | ⟨k,h2,h3⟩
   ·rw [if_pos h2]
    exact Or.inl rfl
   ·rw [if_neg (by omega),h2]
    exact Or.inr ⟨k + 1,by omega,by simpa using h3⟩
abbrev keyN (e : XEn) : Id × Id := ((e.1,e.2.1),(e.2.2.1,e.2.2.2.1))
end Go.Proofs.YtmklifheakemeaaGreat.Bk
namespace Go.Proofs.YtmklifheakemeaaGreat.Bk
open Go.RowKit Go.Sort Rw YtmklifheakemeaaGreat.Nm Pr
def lessP (a b : Id × Id) : Bool := lessI a.1 b.1 || (eqI a.1 b.1 && lessI a.2 b.2)
def placeP (l : List (Id × Id)) (x : Id × Id) : Nat := (l.takeWhile fun a => lessP a x).length
end Go.Proofs.YtmklifheakemeaaGreat.Bk
namespace Go.Proofs.YtmklifheakemeaaGreat.Rl
open Go.RowKit Pu Rw Pr Va
end Go.Proofs.YtmklifheakemeaaGreat.Rl
namespace Go.Proofs.YtmklifheakemeaaGreat.At
open Go.RowKit Go.Sort Va In
end Go.Proofs.YtmklifheakemeaaGreat.At
namespace Go.Proofs.YtmklifheakemeaaGreat.Rl
open Go.RowKit Pu Rw Pr
end Go.Proofs.YtmklifheakemeaaGreat.Rl
