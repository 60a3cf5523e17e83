/-
  Less, seen and Find of broadsideref9. Condition: rows no longer than a machine holds.
-/
import Derived.Test.YtncogjpmboglhaaQ006
import Derived.Lib.Hide
namespace Go.Proofs.Ytncogjpmboglhaa.Bk
open Go.RowKit Go.Proofs.Ytncogjpmboglhaa Go.Proofs.Ytncogjpmboglhaa.Rw Go.Proofs.Ytncogjpmboglhaa.Nm Go.Proofs.Ytncogjpmboglhaa.Pr

abbrev idv (x : Id) : Value := .agg #[.int .i64 x.1, .int .i64 x.2]
theorem stoodId : Try.prog.stoodInHeld 23 = false := by kernel_rfl
theorem eqId (a b c d : Int) (r : Bool) (h : (a == c && b == d) = r) (w : World) : (binOp .eql 23 (.agg #[.int .i64 a, .int .i64 b]) (.agg #[.int .i64 c, .int .i64 d])).run Try.prog w = .ok (.bool r) w := by
  have st := stoodId
  subst h
  by_cases h1 : a = c <;> by_cases h2 : b = d <;> simp [go_sem, Try.underlying23, Try.underlying3, st, h1, h2]
theorem newB (w : World) (o : Obj) : Below w.heap.size w (w.alloc o) := (Below.refl _ _).alloc (Nat.le_refl _) _
theorem two_new (w : World) (c d : Array Value) (s t : TypeId) : Below w.heap.size w ((w.alloc (.cells c s)).alloc (.cells d t)) ∧ Box ((w.alloc (.cells c s)).alloc (.cells d t)) w.heap.size c s ∧ Box ((w.alloc (.cells c s)).alloc (.cells d t)) (w.heap.size + 1) d t := by
  refine ⟨((Below.refl _ _).alloc (Nat.le_refl _) _).alloc (by simp) _, (box_new w c s).more _, ?_⟩
  have h := box_new (w.alloc (.cells c s)) d t
  simpa using h
theorem findI_bd : ∀ (l : List Id) (x : Id), -1 ≤ findI l x
  | [], _ => by simp [findI]
  | a :: l, x => by
    unfold findI
    have := findI_bd l x
    split
    · omega
    · split <;> omega
end Go.Proofs.Ytncogjpmboglhaa.Bk
