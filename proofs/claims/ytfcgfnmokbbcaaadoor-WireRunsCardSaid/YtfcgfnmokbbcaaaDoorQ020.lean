/-
  More operations of a region that draws: a struct built, a store, a conversion, a negation, a pick. No condition beyond what the theorems state.
  Bytes beside variables: a row of bytes of one's own and a variable of another type; a row of one byte that waits to be appended. No program's function in it.
-/
import Derived.Test.YtfcgfnmokbbcaaaDoorQ019
import Derived.Test.YtfcgfnmokbbcaaaDoorQ011
import Derived.Test.YtfcgfnmokbbcaaaDoorQ002
import Derived.Test.YtfcgfnmokbbcaaaDoorQ017
namespace Go.Proofs.YtfcgfnmokbbcaaaDoor.Rg
open Go.RowKit

theorem ex_buildS {P : Program} (ρ : Operand → Value) (o : Oper) (t : TypeId) (parts : Array (Nat × Operand)) (ho : o.op = .build t parts) {ps : Array (Nat × Value)} (hp : parts.map (fun x => (x.1, ρ x.2)) = ps) {v : Value} {w : World} (hr : (Instr.build t ps).run P w = .ok v w) :
    (execOp ρ o).run P w = .ok (.value v) w := by
  subst hp
  simp [execOp, ho, hr, Result.andThen]
theorem ex_store {P : Program} (ρ : Operand → Value) (o : Oper) (t : TypeId) (x y : Operand) (ho : o.op = .store t x y) {w w' : World} (hr : (Instr.storeAt t (ρ x) (ρ y)).run P w = .ok () w') :
    (execOp ρ o).run P w = .ok .skip w' := by
  simp [execOp, ho, hr, Result.andThen]
theorem ex_conv {P : Program} (ρ : Operand → Value) (o : Oper) (s t : TypeId) (x : Operand) (ho : o.op = .convert s t x) {v : Value} {w w' : World} (hr : (convert s t (ρ x)).run P w = .ok v w') :
    (execOp ρ o).run P w = .ok (.value v) w' := by
  simp [execOp, ho, hr, Result.andThen]
theorem ex_not {P : Program} (ρ : Operand → Value) (o : Oper) (t : TypeId) (x : Operand) (ho : o.op = .unOp .not t x) {b : Bool} (hx : ρ x = .bool b) (w : World) : (execOp ρ o).run P w = .ok (.value (.bool (!b))) w := by
  unfold execOp
  rw [ho]
  simp [hx, go_sem]
theorem ex_pick_f {P : Program} (ρ : Operand → Value) (o : Oper) (c x y : Operand) (ho : o.op = .pick c x y) (hc : ρ c = .bool false) {v : Value} (hy : ρ y = v) (w : World) : (execOp ρ o).run P w = .ok (.value v) w := by
  have h := ex_pick (P := P) ρ o c x y ho hc w
  rw [hy] at h
  exact h
end Go.Proofs.YtfcgfnmokbbcaaaDoor.Rg

namespace Go.Proofs.YtfcgfnmokbbcaaaDoor.Wr
open Go.RowKit Go.Proofs.YtfcgfnmokbbcaaaDoor Go.Proofs.YtfcgfnmokbbcaaaDoor.Rw Go.Proofs.YtfcgfnmokbbcaaaDoor.Nm

theorem box_grown {W W' : World} {b : Nat} {cs : Array Value} {t : TypeId} {row : Option Nat} (h : Box W b cs t) (hg : W.grownBy W' row) (hne : row ≠ some b) : Box W' b cs t := (hg.block b h.lt (fun e => hne e.symm)).trans h
theorem own_neB {W : World} {B b : Nat} {v : Value} {s : List UInt8} {cs : Array Value} {t : TypeId} (h : OwnB W B v s) (hb : Box W b cs t) (ht : t ≠ 5) : v.ownBlock ≠ some b := by
  intro e
  rcases own_open h with ⟨rfl, _⟩ | ⟨g, cap, cur, rfl, _, hg, _⟩
  · cases e
  · obtain rfl : g = b := by simpa [Value.ownBlock] using e
    unfold Box at hb hg
    rw [hb] at hg
    simp only [Option.some.injEq, Obj.cells.injEq] at hg
    exact ht hg.2.1
/-- A row of one byte, new. -/
def LitB (B : Nat) (v : Value) (c : UInt8) (w : World) : Prop := ∃ g, B ≤ g ∧ v = .slice (some ⟨g, 0, none⟩) 1 1 ∧ Box w g #[.int .u8 c.toNat] 5
theorem LitB.on {B : Nat} {v : Value} {c : UInt8} {w w' : World} (h : LitB B v c w) (hb : Below w.heap.size w w') : LitB B v c w' := by
  obtain ⟨g, h0, h1, h2⟩ := h
  exact ⟨g, h0, h1, h2.on hb⟩
theorem LitB.own {B : Nat} {v : Value} {c : UInt8} {w : World} (h : LitB B v c w) : OwnB w B v [c] := by
  obtain ⟨g, h0, rfl, h2⟩ := h
  exact own_shut okB rfl h0 h2 (Nat.le_refl _) (by decide) rfl rfl
theorem LitB.row {B : Nat} {v : Value} {c : UInt8} {w : World} (h : LitB B v c w) : RowB w v [c] := Row.of_own h.own
theorem LitB.app {B B' : Nat} {v r : Value} {c : UInt8} {w w' : World} {l : List UInt8} (h : LitB B v c w) (ho : OwnB w B' r l) (hl : 2 ≤ l.length) (hg : w.grownBy w' r.ownBlock) : LitB B v c w' := by
  obtain ⟨g, h0, h1, h2⟩ := h
  refine ⟨g, h0, h1, (hg.block g h2.lt fun e => ?_).trans h2⟩
  rcases own_open ho with ⟨e1, e2⟩ | ⟨g', cap, cur, e1, _, hb, hlc, _, hsz, _⟩
  · rw [e1] at e
    cases e
  · rw [e1] at e
    obtain rfl : g = g' := by simpa [Value.ownBlock] using e
    unfold Box at h2 hb
    rw [h2] at hb
    have e2 : #[.int .u8 c.toNat] = cur := by injection hb with hb; injection hb
    rw [← e2] at hsz
    have e3 : EB.n = 1 := rfl
    rw [e3] at hsz
    simp at hsz
    omega
theorem LitB.made (B : Nat) (w : World) (c : UInt8) (hB : B ≤ w.heap.size) : LitB B (.slice (some ⟨w.heap.size, 0, none⟩) 1 1) c (w.alloc (.cells #[.int .u8 c.toNat] 5)) := ⟨w.heap.size, hB, rfl, box_new w _ _⟩
theorem lit_byteB (w : World) (c : UInt8) : (Instr.buildSlice 22 1 #[(0, .int .u8 c.toNat)]).run Tryd.prog w = .ok (.slice (some ⟨w.heap.size, 0, none⟩) 1 1) (w.alloc (.cells #[.int .u8 c.toNat] 5)) := by simp [go_sem]
/-- An append to what is there, as a region has it. -/
theorem app_nextB {B : Nat} {W w : World} {v x : Value} {l m : List UInt8} (hB : B ≤ W.heap.size) (hb : Below B W w) (ho : OwnB w B v l) (hx : RowB w x m) (hl : l.length + m.length ≤ 1000000) :
    ∃ v' w', (Builtin.append_ #[22, 22] 22 #[v, x]).run Tryd.prog w = .ok v' w' ∧ OwnB w' B v' (l ++ m) ∧ w.grownBy w' v.ownBlock ∧ Below B W w' := by
  obtain ⟨v', w', r, o', gr⟩ := appB B ho hx (by omega) (Nat.le_trans hB hb.size) 22
  exact ⟨v', w', r, o', gr, hb.trans (below_own ho (Nat.le_trans hB hb.size) gr)⟩
theorem textB_lenW (s : ByteArray) (h : s.size ≤ 255) : (textB s).length = s.size + 1 := by
  rw [textB_ok h, List.length_cons]
  rfl
end Go.Proofs.YtfcgfnmokbbcaaaDoor.Wr
