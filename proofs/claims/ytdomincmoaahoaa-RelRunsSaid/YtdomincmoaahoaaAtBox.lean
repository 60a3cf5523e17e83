/-
  A variable that holds a value of package api, in memory: read and written. No program's call in it.
-/
import Derived.Test.YtdomincmoaahoaaAtSame
namespace Go.Proofs.Ytdomincmoaahoaa.At
open Go.RowKit Go.Sort Go.Proofs.Ytdomincmoaahoaa.Va Go.Proofs.Ytdomincmoaahoaa.In

/-- Block b holds just that value. -/
def BoxV (W : World) (b : Nat) (t : Bool) (i : Int) (s : ByteArray) : Prop := W.heap[b]? = some (.cells #[.bool t, .int .i64 i, .string s] 45)
theorem BoxV.cell {W : World} {b : Nat} {t : Bool} {i : Int} {s : ByteArray} (h : BoxV W b t i s) (k : Nat) : W.cell? ⟨b, k, none⟩ = #[.bool t, .int .i64 i, .string s][k]? := by
  unfold BoxV at h
  simp [World.cell?, h]
theorem BoxV.fr {W : World} {b : Nat} {t : Bool} {i : Int} {s : ByteArray} (h : BoxV W b t i s) (k : Nat) : W.frozen? ⟨b, k, none⟩ = false := by
  unfold BoxV at h
  simp [World.frozen?, h]
theorem BoxV.lt {W : World} {b : Nat} {t : Bool} {i : Int} {s : ByteArray} (h : BoxV W b t i s) : b < W.heap.size := lt_of_heap h
theorem BoxV.on {W W' : World} {b : Nat} {t : Bool} {i : Int} {s : ByteArray} (h : BoxV W b t i s) (hb : Below W.heap.size W W') : BoxV W' b t i s := by
  have hl := h.lt
  unfold BoxV at *
  rw [hb.block _ hl]; exact h
theorem BoxV.more {W : World} {b : Nat} {t : Bool} {i : Int} {s : ByteArray} (h : BoxV W b t i s) (o : Obj) : BoxV (W.alloc o) b t i s := h.on ((Below.refl _ _).alloc (Nat.le_refl _) _)
theorem box_new (W : World) (t : Bool) (i : Int) (s : ByteArray) : BoxV (W.alloc (.cells #[.bool t, .int .i64 i, .string s] 45)) W.heap.size t i s := by
  unfold BoxV
  show (W.heap.push _)[W.heap.size]? = _
  simp
/-- The world once all of it is written. -/
def setV (W : World) (b : Nat) (t : Bool) (i : Int) (s : ByteArray) : World := ((W.setCell ⟨b, 0, none⟩ (.bool t)).setCell ⟨b, 1, none⟩ (.int .i64 i)).setCell ⟨b, 2, none⟩ (.string s)
theorem BoxV.set3 {W : World} {b : Nat} {t : Bool} {i : Int} {s : ByteArray} (h : BoxV W b t i s) (t' : Bool) (i' : Int) (s' : ByteArray) : BoxV (setV W b t' i' s') b t' i' s' := by
  unfold BoxV setV at *
  simp [World.setCell, Array.getElem?_modify, h]
theorem below_setV {B b : Nat} {W W' : World} (hb : Below B W W') (hB : B ≤ b) (t : Bool) (i : Int) (s : ByteArray) : Below B W (setV W' b t i s) := ((hb.setCell hB _).setCell hB _).setCell hB _
/-- What is stored into it is there; nothing else has changed. -/
theorem store_V {W : World} {b : Nat} {t : Bool} {i : Int} {s : ByteArray} (h : BoxV W b t i s) (t' : Bool) (i' : Int) (s' : ByteArray) :
    ∃ W', (Instr.storeAt 45 (.pointer (some ⟨b, 0, none⟩)) (vl t' i' s')).run Try.prog W = .ok () W' ∧ BoxV W' b t' i' s' ∧ (∀ k, k ≠ b → W'.heap[k]? = W.heap[k]?) ∧ (∀ B, B ≤ b → Below B W W') := by
  have c0 := h.cell 0
  have c1 := h.cell 1
  have c2 := h.cell 2
  have f := h.fr
  refine ⟨((W.setCell ⟨b, 0, none⟩ (.bool t')).setCell ⟨b, 1, none⟩ (.int .i64 i')).setCell ⟨b, 2, none⟩ (.string s'), ?_, ?_, fun k hk => ?_, fun B hB => ?_⟩
  · simp at c0 c1 c2
    simp [go_sem, c0, c1, c2, f]
  · unfold BoxV at *
    simp [World.setCell, Array.getElem?_modify, h]
  · have hk2 : ¬ b = k := fun e => hk e.symm
    simp [World.setCell, Array.getElem?_modify, hk2]
  · exact (((Below.refl _ _).setCell hB _).setCell hB _).setCell hB _
/-- Block b holds just that attribute. -/
def BoxA (W : World) (b : Nat) (x : A4) : Prop := W.heap[b]? = some (.cells #[.string x.1, .bool x.2.1, .int .i64 x.2.2.1, .string x.2.2.2] 47)
theorem BoxA.cell {W : World} {b : Nat} {x : A4} (h : BoxA W b x) (k : Nat) : W.cell? ⟨b, k, none⟩ = #[.string x.1, .bool x.2.1, .int .i64 x.2.2.1, .string x.2.2.2][k]? := by
  unfold BoxA at h
  simp [World.cell?, h]
theorem BoxA.lt {W : World} {b : Nat} {x : A4} (h : BoxA W b x) : b < W.heap.size := lt_of_heap h
theorem BoxA.on {W W' : World} {b : Nat} {x : A4} (h : BoxA W b x) (hb : Below W.heap.size W W') : BoxA W' b x := by
  have hl := h.lt
  unfold BoxA at *
  rw [hb.block _ hl]; exact h
theorem boxA_new (W : World) (x : A4) : BoxA (W.alloc (.cells #[.string x.1, .bool x.2.1, .int .i64 x.2.2.1, .string x.2.2.2] 47)) W.heap.size x := by
  unfold BoxA
  show (W.heap.push _)[W.heap.size]? = _
  simp
end Go.Proofs.Ytdomincmoaahoaa.At
