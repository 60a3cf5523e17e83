/-
  Numbers in memory, as lists. No program's function in it.
-/
import Derived.Test.YtobdddggdfcdlaaRw
namespace Go.Proofs.Ytobdddggdfcdlaa.Nm
open Go.RowKit Go.Proofs.Ytobdddggdfcdlaa Go.Proofs.Ytobdddggdfcdlaa.Rw

def EI : Ek Int := ⟨3, 39, 1, 8, .int .i64 0, fun n => .int .i64 n, fun n => [.int .i64 n]⟩
theorem infoI0 : (Try.prog.info? 3).map (fun i => (i.zero, i.size, i.bytes)) = some (some (.int .i64 0), 1, 8) := by kernel_rfl
theorem okI : EI.Ok where
  hu := Try.underlying39
  info := by
    have h := infoI0
    cases hi : Try.prog.info? 3 with
    | none => rw [hi] at h; cases h
    | some i =>
      rw [hi] at h
      simp only [Option.map_some, Option.some.injEq, Prod.mk.injEq] at h
      exact ⟨i, hi, h.1, h.2.1, h.2.2⟩
  zs := rfl
  len := fun _ => rfl
  one := fun x u hu => by
    simp only [EI, List.mem_cons, List.not_mem_nil, or_false] at hu
    rw [hu]
    rfl
  pos := by decide
  few := by decide
  load := fun w p x h => by
    have h0 := h 0 _ rfl
    rw [add_zero] at h0
    show (Instr.loadAt 3 (.pointer (some p))).run Try.prog w = .ok (.int .i64 x) w
    simp [go_sem, h0]
abbrev RowI (W : World) (v : Value) (l : List Int) : Prop := Row EI W v l
abbrev OwnI (W : World) (B : Nat) (v : Value) (l : List Int) : Prop := Own EI W B v l
theorem elI {W : World} {v : Value} {l : List Int} {ao : Option Addr} {n c k : Nat} {x : Int} (h : RowI W v l) (hv : v = .slice ao n c) (hn : l.length = n) (hk : l[k]? = some x) :
    ∃ p : Addr, (∀ w, (Instr.indexAt 39 (.slice ao n c) (.int .i64 k)).run Try.prog w = .ok (.pointer (some p)) w) ∧ p.block < W.heap.size ∧ ∀ w, Below W.heap.size W w → w.cell? p = some (.int .i64 x) := by
  obtain ⟨p, h1, h3, h2⟩ := row_el okI h hv hn hk
  exact ⟨p, h1, h3, fun w hw => by
    have h0 := h2 w hw 0 _ rfl
    rwa [add_zero] at h0⟩
theorem appI {w : World} (B : Nat) {v x : Value} {l m : List Int} (hown : OwnI w B v l) (hx : RowI w x m) (hn : l.length ≤ 1000) (hm : m.length ≤ 1000) (hB : B ≤ w.heap.size) :
    ∃ v' w', (Builtin.append_ #[39, 39] 39 #[v, x]).run Try.prog w = .ok v' w' ∧ OwnI w' B v' (l ++ m) ∧ w.grownBy w' v.ownBlock := app_row okI B hown hx hn hm hB 39
theorem row_oneI (w : World) (c : Int) : RowI (w.alloc (.cells #[.int .i64 c] 3)) (.slice (some ⟨w.heap.size, 0, none⟩) 1 1) [c] :=
  Row.of_own (row_lit okI w [c] 1 rfl (by simp) _ rfl)
theorem own_oneI (w : World) (c : Int) : OwnI (w.alloc (.cells #[.int .i64 c] 3)) w.heap.size (.slice (some ⟨w.heap.size, 0, none⟩) 1 1) [c] := row_lit okI w [c] 1 rfl (by simp) _ rfl
theorem flatI : ∀ l : List Int, flat EI l = l.map (fun n => .int .i64 n)
  | [] => rfl
  | x :: r => by
    show EI.cells x ++ flat EI r = _
    rw [flatI r]
    rfl
end Go.Proofs.Ytobdddggdfcdlaa.Nm
