/-
  Forget of broadsideref9: a broker without one advertisement and its entries, if it came from there. Condition: at most 900 of each.
  CopyBroker of broadsidekeep: the same in new memory. Condition: at most 900 of each.
-/
import Derived.Test.YtonoadjmglkhaaaQ013
namespace Go.Proofs.Ytonoadjmglkhaaa.Bk
open Go.RowKit Go.Sort Go.Proofs.Ytonoadjmglkhaaa Go.Proofs.Ytonoadjmglkhaaa.Rw Go.Proofs.Ytonoadjmglkhaaa.Nm Go.Proofs.Ytonoadjmglkhaaa.Pr

def cutAt {α : Type} (l : List α) (k : Nat) : List α := l.take k ++ l.drop (k + 1)
def forgetB (b : Br) (x : Id) (f : Int) : Br × Bool := match b.adv[(findI (b.adv.map Ad.id) x).toNat]? with
  | none => (b, false)
  | some a => if findI (b.adv.map Ad.id) x = -1 then (b, false) else if a.par = f then ({ b with adv := cutAt b.adv (findI (b.adv.map Ad.id) x).toNat, ent := b.ent.filter fun e => decide (e.tree ≠ x) }, true) else (b, false)
theorem find_or (l : List XAd) (x : Id) : findI (l.map fun y => (y.1, y.2.1)) x = -1 ∨ ∃ (k : Nat) (y : XAd), findI (l.map fun y => (y.1, y.2.1)) x = k ∧ l[k]? = some y := by
  induction l with
  | nil => exact Or.inl rfl
  | cons a l ih =>
    rw [List.map_cons, findI]
    by_cases h : (a.1, a.2.1) = x
    · rw [if_pos h]
      exact Or.inr ⟨0, a, rfl, rfl⟩
    · rw [if_neg h]
      rcases ih with h2 | ⟨k, y, h2, h3⟩
      · rw [if_pos h2]
        exact Or.inl rfl
      · rw [if_neg (by omega), h2]
        exact Or.inr ⟨k + 1, y, by omega, by simpa using h3⟩
theorem All2.fil {α β : Type} {R : α → β → Prop} (p : α → Bool) (q : β → Bool) (hpq : ∀ a b, R a b → p a = q b) : ∀ {l m}, All2 R l m → All2 R (l.filter p) (m.filter q)
  | _, _, .nil => .nil
  | _, _, .cons (a := a) (b := b) x t => by
    have h := hpq a b x
    cases hb : q b
    · rw [List.filter_cons_of_neg (by rw [h, hb]; simp), List.filter_cons_of_neg (by rw [hb]; simp)]
      exact t.fil p q hpq
    · rw [List.filter_cons_of_pos (by rw [h, hb]), List.filter_cons_of_pos (by rw [hb])]
      exact .cons x (t.fil p q hpq)
theorem neId (a b c d : Int) (r : Bool) (h : (!(a == c && b == d)) = r) (w : World) : (binOp .neq 23 (.agg #[.int .i64 a, .int .i64 b]) (.agg #[.int .i64 c, .int .i64 d])).run Try.prog w = .ok (.bool r) w := by
  have st := stoodId
  subst h
  by_cases h1 : a = c <;> by_cases h2 : b = d <;> simp [go_sem, Try.underlying23, Try.underlying3, st, h1, h2]
def keepN (x : Id) (e : XEn) : Bool := decide ((e.1, e.2.1) ≠ x)
theorem fil_snoc {α : Type} (l : List α) (k : Nat) (y : α) (p : α → Bool) (h : l[k]? = some y) : (l.take (k + 1)).filter p = (l.take k).filter p ++ (if p y then [y] else []) := by
  rw [List.take_add_one, h, List.filter_append]
  cases hp : p y <;> simp [hp]
end Go.Proofs.Ytonoadjmglkhaaa.Bk

namespace Go.Proofs.Ytonoadjmglkhaaa.Bk
open Go.RowKit Go.Sort Go.Proofs.Ytonoadjmglkhaaa Go.Proofs.Ytonoadjmglkhaaa.Rw Go.Proofs.Ytonoadjmglkhaaa.Nm Go.Proofs.Ytonoadjmglkhaaa.Pr

/-- A broker whose rows are one's own. -/
structure BrOwn (W : World) (B : Nat) (b : Br) (nv av sv ev ov : Sl) : Prop where
  near : OwnI W B (slv nv) b.near
  adv : ∃ l, OwnD W B (slv av) l ∧ All2 (AdIn W) l b.adv
  seen : OwnJ W B (slv sv) b.seen
  ent : ∃ l, OwnN W B (slv ev) l ∧ All2 (EnIn W) l b.ent
  own : ∃ l, OwnW W B (slv ov) l ∧ All2 (OwIn W) l b.own
theorem BrOwn.br {W : World} {B : Nat} {b : Br} {nv av sv ev ov : Sl} (h : BrOwn W B b nv av sv ev ov) : BrIn W b nv av sv ev ov where
  near := Row.of_own h.near
  adv := by obtain ⟨l, h1, h2⟩ := h.adv; exact ⟨l, Row.of_own h1, h2⟩
  seen := Row.of_own h.seen
  ent := by obtain ⟨l, h1, h2⟩ := h.ent; exact ⟨l, Row.of_own h1, h2⟩
  own := by obtain ⟨l, h1, h2⟩ := h.own; exact ⟨l, Row.of_own h1, h2⟩
/-- Each of a broker's rows is short. -/
structure Few (b : Br) : Prop where
  near : b.near.length ≤ 900
  adv : b.adv.length ≤ 900
  seen : b.seen.length ≤ 900
  ent : b.ent.length ≤ 900
  own : b.own.length ≤ 900
end Go.Proofs.Ytonoadjmglkhaaa.Bk
