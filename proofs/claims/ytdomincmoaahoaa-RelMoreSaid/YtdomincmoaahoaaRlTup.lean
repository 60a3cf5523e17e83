/-
  Publications of numbers as right publications; lists of them that came in; Right of package tuple on a right publication. Conditions: lists no longer than a machine holds.
-/
import Derived.Test.YtdomincmoaahoaaBe
import Derived.Test.YtdomincmoaahoaaTuRg
namespace Go.Proofs.Ytdomincmoaahoaa.Rl
open Go.RowKit Go.Proofs.Ytdomincmoaahoaa Go.Proofs.Ytdomincmoaahoaa.Pu Go.Proofs.Ytdomincmoaahoaa.Rw Go.Proofs.Ytdomincmoaahoaa.Pr Go.Proofs.Ytdomincmoaahoaa.In

theorem tup_nl (has vals : List Int) : NL (At.tup has vals 7) :=
  ⟨At.tup_rise has vals 7 (Nat.le_refl _), At.tup_five has vals 7, fun x hx => by
    obtain ⟨i, h1, h2⟩ := At.tup_names has vals 7 x hx
    have h3 := (At.tup_right has vals 7 x hx).2
    exact ⟨by rw [h2, At.nm_size]; decide, by omega⟩⟩
theorem tup_row (hv vv : Value) (has vals : List Int) (w : World) (hh : InInts w hv has) (hw2 : InInts w vv vals) (lh : has.length ≤ maxLen) (lv : vals.length ≤ maxLen) :
    Calls Try.prog 13 #[.agg #[hv, vv]] w fun e w' => ∃ v, e = .returned v ∧ RowL w' v (At.tup has vals 7) ∧ Below w.heap.size w w' :=
  (At.tuple_any hv vv has vals w hh hw2 lh lv).mono (fun _ _ ⟨v, h1, h2, h3⟩ => ⟨v, h1, Row.of_own (own_EA h2), h3⟩)
theorem tright_any (lv : Value) (l : List An) (w : World) (h : RowL w lv l) (hn : NL l) : Calls Try.prog 20 #[lv] w fun e w' => e = .returned (.bool (At.rightT l)) ∧ Below w.heap.size w w' :=
  At.right_big lv l w (row_EA.2 h) (by have := hn.five; omega) (fun x hx => by have := hn.small x hx; unfold maxLen; omega)
/-- A list of publications of numbers that came in. -/
structure InTups (W : World) (v : Value) (n : Nat) : Prop where
  shape : ∃ ao cap, v = .slice ao n cap
  at_ : ∀ i : Nat, i < n → ∃ (p : Addr) (hv vv : Value) (has vals : List Int), p.block < W.heap.size ∧ (∀ w, (Instr.indexAt 36 v (.int .i64 i)).run Try.prog w = .ok (.pointer (some p)) w) ∧ W.cell? p = some hv ∧ W.cell? ⟨p.block, p.off + 1, none⟩ = some vv ∧ InInts W hv has ∧ InInts W vv vals ∧ has.length ≤ maxLen ∧ vals.length ≤ maxLen
theorem InTups.on {W W' : World} {v : Value} {n : Nat} (h : InTups W v n) (hb : Below W.heap.size W W') : InTups W' v n :=
  ⟨h.shape, fun i hi => by
    obtain ⟨p, hv, vv, has, vals, h1, h2, h3, h4, h5, h6, h7, h8⟩ := h.at_ i hi
    exact ⟨p, hv, vv, has, vals, Nat.lt_of_lt_of_le h1 hb.size, h2, by rw [hb.cell h1]; exact h3, by rw [hb.cell (p := ⟨p.block, p.off + 1, none⟩) h1]; exact h4, h5.on hb, h6.on hb, h7, h8⟩⟩
end Go.Proofs.Ytdomincmoaahoaa.Rl
