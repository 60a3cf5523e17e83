/-
  Learn of broadsideref9: a broker with one advertisement more, if it was not seen. Condition: at most 900 of each.
  The region of Forget that takes an advertisement out. Condition: at most 900 of them.
-/
import Derived.Test.YtonoadjmglkhaaaQ011
import Derived.Test.YtonoadjmglkhaaaQ012
import Derived.Test.YtonoadjmglkhaaaQ010
import Derived.Test.YtonoadjmglkhaaaQ006
namespace Go.Proofs.Ytonoadjmglkhaaa.Bk
open Go.RowKit Go.Sort Go.Proofs.Ytonoadjmglkhaaa Go.Proofs.Ytonoadjmglkhaaa.Rw Go.Proofs.Ytonoadjmglkhaaa.Nm Go.Proofs.Ytonoadjmglkhaaa.Pr

def insAt {α : Type} (l : List α) (k : Nat) (x : α) : List α := l.take k ++ [x] ++ l.drop k
def learnB (b : Br) (a : Ad) : Br × Bool := if a.id ∈ b.seen then (b, false) else ({ b with seen := insAt b.seen (placeI b.seen a.id) a.id, adv := insAt b.adv (placeI (b.adv.map Ad.id) a.id) a }, true)
abbrev setB (W : World) (b : Nat) (a0 a1 a2 a3 a4 a5 : Value) : World := (((((W.setCell ⟨b, 0, none⟩ a0).setCell ⟨b, 1, none⟩ a1).setCell ⟨b, 2, none⟩ a2).setCell ⟨b, 3, none⟩ a3).setCell ⟨b, 4, none⟩ a4).setCell ⟨b, 5, none⟩ a5
theorem setB_box {W : World} {b : Nat} {t : TypeId} {z0 z1 z2 z3 z4 z5 : Value} (h : Box W b #[z0, z1, z2, z3, z4, z5] t) (a0 a1 a2 a3 a4 a5 : Value) : Box (setB W b a0 a1 a2 a3 a4 a5) b #[a0, a1, a2, a3, a4, a5] t := by
  have h2 := box_set (k := 5) (box_set (k := 4) (box_set (k := 3) (box_set (k := 2) (box_set (k := 1) (box_set (k := 0) h a0) a1) a2) a3) a4) a5
  simp only [List.setIfInBounds_toArray, List.set_cons_zero, List.set_cons_succ] at h2
  exact h2
theorem setB_below {w W : World} {B b : Nat} (h : Below B w W) (hb : B ≤ b) (a0 a1 a2 a3 a4 a5 : Value) : Below B w (setB W b a0 a1 a2 a3 a4 a5) :=
  (((((h.setCell hb _).setCell hb _).setCell hb _).setCell hb _).setCell hb _).setCell hb _
theorem setB_heap (W : World) (b : Nat) (a0 a1 a2 a3 a4 a5 : Value) (j : Nat) (hj : j ≠ b) : (setB W b a0 a1 a2 a3 a4 a5).heap[j]? = W.heap[j]? := by
  have h : ∀ (W : World) (k : Nat) (x : Value), (W.setCell ⟨b, k, none⟩ x).heap[j]? = W.heap[j]? := fun W k x => RowKit.Below.heap_setCell W _ x _ hj
  unfold setB
  rw [h, h, h, h, h, h]
theorem setB_ownA {α : Type} {E : Ek α} {W : World} {B : Nat} {v : Value} {l : List α} (h : Own E W B v l) (b : Nat) (hb : b < B) (a0 a1 a2 a3 a4 a5 : Value) : Own E (setB W b a0 a1 a2 a3 a4 a5) B v l :=
  own_cell (own_cell (own_cell (own_cell (own_cell (own_cell h b 0 a0 hb) b 1 a1 hb) b 2 a2 hb) b 3 a3 hb) b 4 a4 hb) b 5 a5 hb
theorem three_new (w : World) (c d e : Array Value) (r s t : TypeId) : Below w.heap.size w (((w.alloc (.cells c r)).alloc (.cells d s)).alloc (.cells e t)) ∧ Box (((w.alloc (.cells c r)).alloc (.cells d s)).alloc (.cells e t)) w.heap.size c r ∧ Box (((w.alloc (.cells c r)).alloc (.cells d s)).alloc (.cells e t)) (w.heap.size + 1) d s ∧ Box (((w.alloc (.cells c r)).alloc (.cells d s)).alloc (.cells e t)) (w.heap.size + 1 + 1) e t := by
  refine ⟨(((Below.refl _ _).alloc (Nat.le_refl _) _).alloc (by simp) _).alloc (by simp; omega) _, ((box_new w c r).more _).more _, ?_, ?_⟩
  · have h := (box_new (w.alloc (.cells c r)) d s).more (.cells e t)
    simpa using h
  · have h := box_new ((w.alloc (.cells c r)).alloc (.cells d s)) e t
    simpa using h
theorem box_twoJ {W : World} {b : Nat} {c d : Int} {p q : Value} (h : Box W b #[.int .i64 c, .int .i64 d, p, q] 26) : ∀ x, Below W.heap.size W x → ∀ j u, (cellsJ (c, d))[j]? = some u → x.cell? ((⟨b, 0, none⟩ : Addr).add j) = some u := by
  intro x hb j u hj
  rw [add_own, (h.on hb).cell]
  match j with
  | 0 => exact hj
  | 1 => exact hj
  | j + 2 => simp at hj
theorem box_fourD {W : World} {b : Nat} {c d q : Int} {p : Sl} (h : Box W b #[.int .i64 c, .int .i64 d, slv p, .int .i64 q] 26) : ∀ x, Below W.heap.size W x → ∀ j u, (cellsD (c, d, p, q))[j]? = some u → x.cell? ((⟨b, 0, none⟩ : Addr).add j) = some u := by
  intro x hb j u hj
  rw [add_own, (h.on hb).cell]
  match j with
  | 0 => exact hj
  | 1 => exact hj
  | 2 => exact hj
  | 3 => exact hj
  | j + 4 => simp at hj
theorem ids_eq {W : World} {l : List XAd} {m : List Ad} (h : All2 (AdIn W) l m) : (l.map fun y => (y.1, y.2.1)) = m.map Ad.id := by
  induction h with
  | nil => rfl
  | cons x t ih => rw [List.map_cons, List.map_cons, ih, x.1]
theorem place_le (l : List Id) (x : Id) : placeI l x ≤ l.length := by
  unfold placeI
  exact (List.takeWhile_sublist _).length_le
theorem own_high {α : Type} {E : Ek α} {W : World} {B : Nat} {v : Value} {l : List α} {b : Nat} (h : Own E W B v l) (hb : b < B) : v.ownBlock = none ∨ v.ownBlock ≠ some b := by
  cases hv : v.ownBlock with
  | none => exact Or.inl rfl
  | some j =>
    refine Or.inr fun e => ?_
    injection e with e
    have := (h.lt j hv).1
    omega
end Go.Proofs.Ytonoadjmglkhaaa.Bk

namespace Go.Proofs.Ytonoadjmglkhaaa.Bk
open Go.RowKit Go.Proofs.Ytonoadjmglkhaaa Go.Proofs.Ytonoadjmglkhaaa.Rw Go.Proofs.Ytonoadjmglkhaaa.Nm Go.Proofs.Ytonoadjmglkhaaa.Pr

def cut4V (B b2 _b3 : Nat) (so : Option Addr) (sn sc at_ : Nat) (lo hiv : Value) (lt ld : List XAd) (i : Nat) (v : Value) (x : World) : Prop :=
  match i with
  | 0 => ∃ g, v = .slice (some ⟨g, 0, none⟩) 0 0 ∧ B ≤ g ∧ Box x g #[] 26
  | 1 => v = .pointer (some ⟨b2, 2, none⟩)
  | 2 => v = .slice so sn sc
  | 3 => v = .int .i64 (at_ : Int)
  | 4 => v = lo
  | 5 => OwnD x B v lt
  | 6 => v = .pointer (some ⟨b2, 2, none⟩)
  | 7 => v = .slice so sn sc
  | 8 => v = .int .i64 (at_ : Int)
  | 9 => v = .int .i64 ((at_ : Int) + 1)
  | 10 => v = hiv
  | 11 => OwnD x B v (lt ++ ld)
  | 12 => v = .pointer (some ⟨b2, 2, none⟩)
  | _ => True
theorem cut4V_on (B b2 b3 : Nat) (so : Option Addr) (sn sc at_ : Nat) (lo hiv : Value) (lt ld : List XAd) (i : Nat) (v : Value) (x x' : World) (h : cut4V B b2 b3 so sn sc at_ lo hiv lt ld i v x) (hb : Below x.heap.size x x') : cut4V B b2 b3 so sn sc at_ lo hiv lt ld i v x' := by
  by_cases hi : i < 13
  · rcases (by omega : i = 0 ∨ i = 1 ∨ i = 2 ∨ i = 3 ∨ i = 4 ∨ i = 5 ∨ i = 6 ∨ i = 7 ∨ i = 8 ∨ i = 9 ∨ i = 10 ∨ i = 11 ∨ i = 12) with rfl | rfl | rfl | rfl | rfl | rfl | rfl | rfl | rfl | rfl | rfl | rfl | rfl
    · obtain ⟨g, h1, h2, h3⟩ := h
      exact ⟨g, h1, h2, h3.on hb⟩
    · exact h
    · exact h
    · exact h
    · exact h
    · exact own_on h hb
    · exact h
    · exact h
    · exact h
    · exact h
    · exact h
    · exact own_on h hb
    · exact h
  · unfold cut4V
    split <;> first | omega | trivial
end Go.Proofs.Ytonoadjmglkhaaa.Bk
