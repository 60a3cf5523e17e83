/-
  The two loops of Learn that look for a place. Conditions as told.
-/
import Derived.Test.YtmklifheakemeaaGreatfr006
import Derived.Lib.QuietBelow
import Derived.BigQuiet
import Derived.Test.YtmklifheakemeaaGreatfr001
import Derived.Test.YtmklifheakemeaaGreatfr011
import Derived.Test.YtmklifheakemeaaGreatfr008
import Derived.Test.YtmklifheakemeaaGreatfr000
set_option maxRecDepth 100000
set_option maxHeartbeats 64000000
namespace Go.Proofs.YtmklifheakemeaaGreat.Bk
open Go.RowKit Go.Sort Rw YtmklifheakemeaaGreat.Nm Pr
theorem place_is (l : List Id) (x : Id) (k : Nat) (hall : ∀ (j : Nat) (y : Id),j < k → l[j]? = some y → lessI y x = true) (hend : k = l.length ∨ ∃ y,l[k]? = some y ∧ lessI y x = false) : placeI l x = k := by
 unfold placeI
 induction l generalizing k with
 | nil =>
  rcases hend with h | ⟨y,h,_⟩
  ·rw [h]; rfl
  ·simp at h
 | cons a l ih =>
  cases k with
  | zero =>
   rcases hend with h | ⟨y,h,h2⟩
   ·simp at h
   ·obtain rfl : a = y := by simpa using h
    rw [List.takeWhile_cons,h2]
    rfl
  | succ k =>
   have h0 := hall 0 a (by omega) rfl
   rw [List.takeWhile_cons,h0]
   simp only [if_true,List.length_cons]
   rw [ih k (fun j y hj hy => hall (j + 1) y (by omega) (by simpa using hy)) (by
    rcases hend with h | ⟨y,h,h2⟩
    ·exact Or.inl (by simpa using h)
    ·exact Or.inr ⟨y,by simpa using h,h2⟩)]
def insAt {α : Type} (l : List α) (k : Nat) (x : α) : List α := l.take k ++ [x] ++ l.drop k
def learnB (b : Br) (a : Ad) : Br × Bool := if a.id ∈ b.seen then (b,false) else ({ b with seen := insAt b.seen (placeI b.seen a.id) a.id,adv := insAt b.adv (placeI (b.adv.map Ad.id) a.id) a },true)
abbrev setB (W : World) (b : Nat) (a0 a1 a2 a3 a4 a5 : Value) : World := (((((W.setCell ⟨b,0,none⟩ a0).setCell ⟨b,1,none⟩ a1).setCell ⟨b,2,none⟩ a2).setCell ⟨b,3,none⟩ a3).setCell ⟨b,4,none⟩ a4).setCell ⟨b,5,none⟩ a5
theorem setB_box {W : World} {b : Nat} {t : TypeId} {z0 z1 z2 z3 z4 z5 : Value} (h : Box W b #[z0,z1,z2,z3,z4,z5] t) (a0 a1 a2 a3 a4 a5 : Value) : Box (setB W b a0 a1 a2 a3 a4 a5) b #[a0,a1,a2,a3,a4,a5] t := by
 have h2 := box_set (k := 5) (box_set (k := 4) (box_set (k := 3) (box_set (k := 2) (box_set (k := 1) (box_set (k := 0) h a0) a1) a2) a3) a4) a5
 simp only [List.setIfInBounds_toArray,List.set_cons_zero,List.set_cons_succ] at h2
 exact h2
theorem setB_below {w W : World} {B b : Nat} (h : Below B w W) (hb : B ≤ b) (a0 a1 a2 a3 a4 a5 : Value) : Below B w (setB W b a0 a1 a2 a3 a4 a5) :=
 (((((h.setCell hb _).setCell hb _).setCell hb _).setCell hb _).setCell hb _).setCell hb _
theorem setB_ownA {α : Type} {E : Ek α} {W : World} {B : Nat} {v : Value} {l : List α} (h : Own E W B v l) (b : Nat) (hb : b < B) (a0 a1 a2 a3 a4 a5 : Value) : Own E (setB W b a0 a1 a2 a3 a4 a5) B v l :=
 own_cell (own_cell (own_cell (own_cell (own_cell (own_cell h b 0 a0 hb) b 1 a1 hb) b 2 a2 hb) b 3 a3 hb) b 4 a4 hb) b 5 a5 hb
theorem three_new (w : World) (c d e : Array Value) (r s t : TypeId) : Below w.heap.size w (((w.alloc (.cells c r)).alloc (.cells d s)).alloc (.cells e t)) ∧ Box (((w.alloc (.cells c r)).alloc (.cells d s)).alloc (.cells e t)) w.heap.size c r ∧ Box (((w.alloc (.cells c r)).alloc (.cells d s)).alloc (.cells e t)) (w.heap.size + 1) d s ∧ Box (((w.alloc (.cells c r)).alloc (.cells d s)).alloc (.cells e t)) (w.heap.size + 1 + 1) e t := by
 refine ⟨(((Below.refl _ _).alloc (Nat.le_refl _) _).alloc (by simp) _).alloc (by simp; omega) _,((box_new w c r).more _).more _,?_,?_⟩
 ·have h := (box_new (w.alloc (.cells c r)) d s).more (.cells e t)
  simpa using h
 ·have h := box_new ((w.alloc (.cells c r)).alloc (.cells d s)) e t
  simpa using h
theorem place_le (l : List Id) (x : Id) : placeI l x ≤ l.length := by
 unfold placeI
 exact (List.takeWhile_sublist _).length_le
def cutAt {α : Type} (l : List α) (k : Nat) : List α := l.take k ++ l.drop (k + 1)
def forgetB (b : Br) (x : Id) (f : Int) : Br × Bool := match b.adv[(findI (b.adv.map Ad.id) x).toNat]? with
 | none => (b,false)
 | some a => if findI (b.adv.map Ad.id) x = -1 then (b,false) else if a.par = f then ({ b with adv := cutAt b.adv (findI (b.adv.map Ad.id) x).toNat,ent := b.ent.filter fun e => decide (e.tree ≠ x) },true) else (b,false)
theorem neId (a b c d : Int) (r : Bool) (h : (!(a == c && b == d)) = r) (w : World) : (binOp .neq 31 (.agg #[.int .i64 a,.int .i64 b]) (.agg #[.int .i64 c,.int .i64 d])).run Tryz.prog w = .ok (.bool r) w := by
 have st := stoodId
 subst h
 by_cases h1 : a = c <;> by_cases h2 : b = d <;> simp [go_sem,Tryz.underlying31,Tryz.underlying3,st,h1,h2]
end Go.Proofs.YtmklifheakemeaaGreat.Bk
namespace Go.Proofs.YtmklifheakemeaaGreat.Rl
open Go.RowKit Pu Pr
theorem make_both {a b : List Cn} (ha : RiseC a) (h5 : a.length ≤ 5) : makeC (a ++ b) = foldC a.length a b := by
 have e := make_self a ha h5
 rw [makeC] at e
 rw [makeC,fold_append a b [] a 0 e,Nat.zero_add]
end Go.Proofs.YtmklifheakemeaaGreat.Rl
namespace Go.Proofs.YtmklifheakemeaaGreat.Rl
open Go.RowKit Pu Rw Pr
end Go.Proofs.YtmklifheakemeaaGreat.Rl
