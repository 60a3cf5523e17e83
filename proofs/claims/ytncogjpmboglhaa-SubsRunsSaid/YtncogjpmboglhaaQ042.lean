/-
  An entry copied and appended to a row of one's own; Of of package subs. Conditions: the entries rise; at most 900 of them, each of at most 900 constraints.
-/
import Derived.Test.YtncogjpmboglhaaQ041
import Derived.Test.YtncogjpmboglhaaQ024
namespace Go.Proofs.Ytncogjpmboglhaa.Sb
open Go.RowKit Go.Sort Go.Proofs.Ytncogjpmboglhaa Go.Proofs.Ytncogjpmboglhaa.Rw Go.Proofs.Ytncogjpmboglhaa.Nm Go.Proofs.Ytncogjpmboglhaa.Pr Go.Proofs.Ytncogjpmboglhaa.Bk Go.Proofs.Ytncogjpmboglhaa.Av Go.Proofs.Ytncogjpmboglhaa.Rl

theorem off_grown {w w' : World} {row : Option Nat} (h : w.grownBy w' row) : Off row w w' := ⟨h.block, h.size⟩
/-- An entry appended. -/
theorem app_en {wr w0 : World} {B : Nat} {v : Value} {lu : List XEn} {mu : List En} (x : XEn) (e : En) (o : OwnN wr B v lu) (hA : All2 (EnM w0 B wr) lu mu) (hx : EnM w0 B wr x e) (hn : lu.length ≤ 1000) (hB : B ≤ wr.heap.size) :
    ∃ v' w', (Builtin.append_ #[31, 31] 31 #[v, .slice (some ⟨wr.heap.size, 0, none⟩) 1 1]).run Try.prog (wr.alloc (.cells (cellsN x).toArray 42)) = .ok v' w' ∧ OwnN w' B v' (lu ++ [x]) ∧ All2 (EnM w0 B w') (lu ++ [x]) (mu ++ [e]) ∧
      (∀ B' W, B' ≤ B → Below B' W wr → Below B' W w') ∧ Off v.ownBlock (wr.alloc (.cells (cellsN x).toArray 42)) w' := by
  have NB := newB wr (.cells (cellsN x).toArray 42)
  have hlit := row_lit okN wr [x] 1 rfl (by simp) (cellsN x).toArray rfl
  have o2 : OwnN _ B v lu := Bk.own_on o NB
  have hB2 : B ≤ (wr.alloc (.cells (cellsN x).toArray 42)).heap.size := Nat.le_trans hB NB.size
  obtain ⟨v', w', r', o', gr⟩ := app_row okN B o2 (Row.of_own hlit) hn (by simp) hB2 31
  refine ⟨v', w', by simpa [EN] using r', o', ?_, fun B' W hB' hb => ?_, off_grown gr⟩
  · have hf := off_grown gr
    have hg := tag_own o2
    have g : ∀ y z, EnM w0 B wr y z → EnM w0 B w' y z := fun y z q => (q.grow NB).off hf hg (by decide)
    exact (hA.mono g).append (.cons (g _ _ hx) .nil)
  · exact (hb.trans (NB.mono (by have := hb.size; omega))).grown gr (Nat.le_trans hB' hB2) fun j hj => Nat.le_trans hB' (o2.lt j hj).1
theorem enm_in {w0 wr : World} {B : Nat} {x : XEn} {e : En} (h : EnM w0 B wr x e) (hl : Below w0.heap.size w0 wr) : EnIn wr x e := ⟨h.1, h.2.1, h.2.2.1, h.2.2.2.1, h.2.2.2.2.row hl⟩
end Go.Proofs.Ytncogjpmboglhaa.Sb
