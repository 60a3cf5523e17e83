/-
  The region of Learn that puts an ID into its place. Condition: at most 900 of them.
  The region of Learn that puts an advertisement into its place. Condition: at most 900 of them.
-/
import Derived.Test.YtonoadjmglkhaaaQ010
import Derived.Test.YtonoadjmglkhaaaQ006
namespace Go.Proofs.Ytonoadjmglkhaaa.Bk
open Go.RowKit Go.Proofs.Ytonoadjmglkhaaa Go.Proofs.Ytonoadjmglkhaaa.Rw Go.Proofs.Ytonoadjmglkhaaa.Nm Go.Proofs.Ytonoadjmglkhaaa.Pr

def ins6V (B b2 b3 : Nat) (so : Option Addr) (sn sc at_ : Nat) (lo hiv : Value) (z : XID) (lt ld : List XID) (i : Nat) (v : Value) (x : World) : Prop :=
  match i with
  | 0 => ∃ g, v = .slice (some ⟨g, 0, none⟩) 0 0 ∧ B ≤ g ∧ Box x g #[] 23
  | 1 => v = .pointer (some ⟨b2, 3, none⟩)
  | 2 => v = .slice so sn sc
  | 3 => v = .int .i64 (at_ : Int)
  | 4 => v = lo
  | 5 => OwnJ x B v lt
  | 6 => v = .pointer (some ⟨b3, 0, none⟩)
  | 7 => v = valJ z
  | 8 => OwnJ x B v [z]
  | 9 => OwnJ x B v (lt ++ [z])
  | 10 => v = .pointer (some ⟨b2, 3, none⟩)
  | 11 => v = .slice so sn sc
  | 12 => v = .int .i64 (at_ : Int)
  | 13 => v = hiv
  | 14 => OwnJ x B v (lt ++ [z] ++ ld)
  | 15 => v = .pointer (some ⟨b2, 3, none⟩)
  | _ => True
theorem ins6V_on (B b2 b3 : Nat) (so : Option Addr) (sn sc at_ : Nat) (lo hiv : Value) (z : XID) (lt ld : List XID) (i : Nat) (v : Value) (x x' : World) (h : ins6V B b2 b3 so sn sc at_ lo hiv z lt ld i v x) (hb : Below x.heap.size x x') : ins6V B b2 b3 so sn sc at_ lo hiv z lt ld i v x' := by
  by_cases hi : i < 16
  · rcases (by omega : i = 0 ∨ i = 1 ∨ i = 2 ∨ i = 3 ∨ i = 4 ∨ i = 5 ∨ i = 6 ∨ i = 7 ∨ i = 8 ∨ i = 9 ∨ i = 10 ∨ i = 11 ∨ i = 12 ∨ i = 13 ∨ i = 14 ∨ i = 15) with rfl | rfl | rfl | rfl | rfl | rfl | rfl | rfl | rfl | rfl | rfl | rfl | rfl | rfl | rfl | rfl
    · obtain ⟨g, h1, h2, h3⟩ := h
      exact ⟨g, h1, h2, h3.on hb⟩
    · exact h
    · exact h
    · exact h
    · exact h
    · exact own_on h hb
    · exact h
    · exact h
    · exact own_on h hb
    · exact own_on h hb
    · exact h
    · exact h
    · exact h
    · exact h
    · exact own_on h hb
    · exact h
  · unfold ins6V
    split <;> first | omega | trivial
end Go.Proofs.Ytonoadjmglkhaaa.Bk

namespace Go.Proofs.Ytonoadjmglkhaaa.Bk
open Go.RowKit Go.Proofs.Ytonoadjmglkhaaa Go.Proofs.Ytonoadjmglkhaaa.Rw Go.Proofs.Ytonoadjmglkhaaa.Nm Go.Proofs.Ytonoadjmglkhaaa.Pr

def ins10V (B b2 _b3 : Nat) (so : Option Addr) (sn sc at_ : Nat) (lo hiv : Value) (z : XAd) (lt ld : List XAd) (i : Nat) (v : Value) (x : World) : Prop :=
  match i with
  | 0 => ∃ g, v = .slice (some ⟨g, 0, none⟩) 0 0 ∧ B ≤ g ∧ Box x g #[] 26
  | 1 => v = .pointer (some ⟨b2, 2, none⟩)
  | 2 => v = .slice so sn sc
  | 3 => v = .int .i64 (at_ : Int)
  | 4 => v = lo
  | 5 => OwnD x B v lt
  | 6 => v = valD z
  | 7 => OwnD x B v [z]
  | 8 => OwnD x B v (lt ++ [z])
  | 9 => v = .pointer (some ⟨b2, 2, none⟩)
  | 10 => v = .slice so sn sc
  | 11 => v = .int .i64 (at_ : Int)
  | 12 => v = hiv
  | 13 => OwnD x B v (lt ++ [z] ++ ld)
  | 14 => v = .pointer (some ⟨b2, 2, none⟩)
  | _ => True
theorem ins10V_on (B b2 b3 : Nat) (so : Option Addr) (sn sc at_ : Nat) (lo hiv : Value) (z : XAd) (lt ld : List XAd) (i : Nat) (v : Value) (x x' : World) (h : ins10V B b2 b3 so sn sc at_ lo hiv z lt ld i v x) (hb : Below x.heap.size x x') : ins10V B b2 b3 so sn sc at_ lo hiv z lt ld i v x' := by
  by_cases hi : i < 15
  · rcases (by omega : i = 0 ∨ i = 1 ∨ i = 2 ∨ i = 3 ∨ i = 4 ∨ i = 5 ∨ i = 6 ∨ i = 7 ∨ i = 8 ∨ i = 9 ∨ i = 10 ∨ i = 11 ∨ i = 12 ∨ i = 13 ∨ i = 14) with rfl | rfl | rfl | rfl | rfl | rfl | rfl | rfl | rfl | rfl | rfl | rfl | rfl | rfl | rfl
    · obtain ⟨g, h1, h2, h3⟩ := h
      exact ⟨g, h1, h2, h3.on hb⟩
    · exact h
    · exact h
    · exact h
    · exact h
    · exact own_on h hb
    · exact h
    · exact own_on h hb
    · exact own_on h hb
    · exact h
    · exact h
    · exact h
    · exact h
    · exact own_on h hb
    · exact h
  · unfold ins10V
    split <;> first | omega | trivial
end Go.Proofs.Ytonoadjmglkhaaa.Bk
