/-
  Lists of attributes, as rows of any kind of element. No program's function in it.
-/
import Derived.Test.YtdomincmoaahoaaAtBase
import Derived.Test.YtdomincmoaahoaaRw
import Derived.Test.YtdomincmoaahoaaRlSpec
namespace Go.Proofs.Ytdomincmoaahoaa.Rl
open Go.RowKit Go.Proofs.Ytdomincmoaahoaa Go.Proofs.Ytdomincmoaahoaa.Pu Go.Proofs.Ytdomincmoaahoaa.Rw Go.Proofs.Ytdomincmoaahoaa.Pr

def EA : Ek An := ⟨47, 32, 4, 48, .agg #[.string ⟨#[]⟩, .bool false, .int .i64 0, .string ⟨#[]⟩], At.av, At.cellsA⟩
theorem infoA0 : (Try.prog.info? 47).map (fun i => (i.zero, i.size, i.bytes)) = some (some (.agg #[.string ⟨#[]⟩, .bool false, .int .i64 0, .string ⟨#[]⟩]), 4, 48) := by kernel_rfl
theorem load_runA (w : World) (p : Addr) (c : An) (h : ∀ j u, (At.cellsA c)[j]? = some u → w.cell? (p.add j) = some u) : (Instr.loadAt 47 (.pointer (some p))).run Try.prog w = .ok (At.av c) w := by
  have h0 := h 0 _ rfl
  have h1 := h 1 _ rfl
  have h2 := h 2 _ rfl
  have h3 := h 3 _ rfl
  simp [Addr.add] at h0 h1 h2 h3
  simp [go_sem, h0, h1, h2, h3]
theorem okA : EA.Ok where
  hu := Try.underlying32
  info := by
    have h := infoA0
    cases hi : Try.prog.info? 47 with
    | none => rw [hi] at h; cases h
    | some i =>
      rw [hi] at h
      simp only [Option.map_some, Option.some.injEq, Prod.mk.injEq] at h
      exact ⟨i, hi, h.1, h.2.1, h.2.2⟩
  zs := rfl
  len := fun _ => rfl
  one := fun x u hu => by
    simp only [EA, At.cellsA, List.mem_cons, List.not_mem_nil, or_false] at hu
    rcases hu with rfl | rfl | rfl | rfl <;> rfl
  pos := by decide
  few := by decide
  load := fun w p x h => load_runA w p x h
abbrev RowL (W : World) (v : Value) (l : List An) : Prop := Row EA W v l
abbrev OwnL (W : World) (B : Nat) (v : Value) (l : List An) : Prop := Own EA W B v l
theorem flat_EA : ∀ l : List An, flat EA l = At.flatA l
  | [] => rfl
  | x :: r => by
    rw [flat, flat_EA r]
    rfl
/-- The two ways to speak of a list of attributes. -/
theorem row_EA {W : World} {v : Value} {l : List An} : At.RowA W v l ↔ RowL W v l := by
  unfold At.RowA RowL Row
  rw [flat_EA]
theorem own_EA {W : World} {B : Nat} {v : Value} {l : List An} (h : W.ownsRow B 47 4 v l.length (At.flatA l)) : OwnL W B v l := by
  show W.ownsRow B 47 4 v l.length (flat EA l)
  rw [flat_EA]
  exact h
/-- What a right publication is. -/
structure NL (l : List An) : Prop where
  rise : l.Pairwise fun x y => Op.bytesLess x.1.toList y.1.toList = true
  five : l.length ≤ 5
  small : ∀ x ∈ l, x.1.size ≤ 100 ∧ x.2.2.2.size ≤ 100
theorem NL.nodup {l : List An} (h : NL l) : (l.map (·.1)).Nodup := by
  rw [List.Nodup, List.pairwise_map]
  exact h.rise.imp fun h => less_ne h
/-- What is asked of a publication by a predicate: the first value of a name is its only one. -/
theorem match_get {p : List Cn} {l : List An} (h : (l.map (·.1)).Nodup) : matchL p l = p.all fun c => match l.find? fun a => decide (a.1 = c.1) with
    | some a => holdsK c.2 a.2
    | none => false := by
  unfold matchL
  congr 1
  funext c
  cases hf : l.find? fun a => decide (a.1 = c.1) with
  | none =>
    rw [List.any_eq_false]
    intro a ha
    have := List.find?_eq_none.1 hf a ha
    simp only [decide_eq_true_eq] at this
    simp [this]
  | some a =>
    have hm := List.mem_of_find?_eq_some hf
    have he : a.1 = c.1 := by simpa using List.find?_some hf
    rw [Bool.eq_iff_iff, List.any_eq_true]
    constructor
    · rintro ⟨b, hb, h2⟩
      simp only [Bool.and_eq_true, decide_eq_true_eq] at h2
      rw [uniq h hm hb (he.trans h2.1.symm)]
      exact h2.2
    · intro h2
      exact ⟨a, hm, by simp [he, h2]⟩
end Go.Proofs.Ytdomincmoaahoaa.Rl
