/-
  Bytes in memory, as lists: read, cut, appended to, made a text. No program's function in it. Condition: lists no longer than a machine holds.
-/
import Derived.Test.YtobdddggdfcdlaaRx
import Derived.Deep.AppendSrc
import Derived.Lib.AppendStr
import Derived.Laws.BytesString
namespace Go.Proofs.Ytobdddggdfcdlaa.Nm
open Go.RowKit Go.Proofs.Ytobdddggdfcdlaa Go.Proofs.Ytobdddggdfcdlaa.Rw

def EB : Ek UInt8 := ⟨5, 24, 1, 1, .int .u8 0, fun n => .int .u8 n.toNat, fun n => [.int .u8 n.toNat]⟩
theorem infoB0 : (Try.prog.info? 5).map (fun i => (i.zero, i.size, i.bytes)) = some (some (.int .u8 0), 1, 1) := by kernel_rfl
theorem infoB : ∃ i, Try.prog.info? 5 = some i ∧ i.zero = some (.int .u8 0) ∧ i.size = 1 ∧ i.bytes = 1 := by
  have h := infoB0
  cases hi : Try.prog.info? 5 with
  | none => rw [hi] at h; cases h
  | some i =>
    rw [hi] at h
    simp only [Option.map_some, Option.some.injEq, Prod.mk.injEq] at h
    exact ⟨i, rfl, h.1, h.2.1, h.2.2⟩
theorem okB : EB.Ok where
  hu := Try.underlying24
  info := infoB
  zs := rfl
  len := fun _ => rfl
  one := fun x u hu => by
    simp only [EB, List.mem_cons, List.not_mem_nil, or_false] at hu
    rw [hu]
    rfl
  pos := by decide
  few := by decide
  load := fun w p x h => by
    have h0 := h 0 _ rfl
    rw [add_zero] at h0
    show (Instr.loadAt 5 (.pointer (some p))).run Try.prog w = .ok (.int .u8 x.toNat) w
    simp [go_sem, h0]
abbrev RowB (W : World) (v : Value) (l : List UInt8) : Prop := Row EB W v l
abbrev OwnB (W : World) (B : Nat) (v : Value) (l : List UInt8) : Prop := Own EB W B v l
theorem elB {W : World} {v : Value} {l : List UInt8} {ao : Option Addr} {n c k : Nat} {x : UInt8} (h : RowB W v l) (hv : v = .slice ao n c) (hn : l.length = n) (hk : l[k]? = some x) :
    ∃ p : Addr, (∀ w, (Instr.indexAt 24 (.slice ao n c) (.int .i64 k)).run Try.prog w = .ok (.pointer (some p)) w) ∧ p.block < W.heap.size ∧ ∀ w, Below W.heap.size W w → w.cell? p = some (.int .u8 x.toNat) := by
  obtain ⟨p, h1, h3, h2⟩ := row_el okB h hv hn hk
  exact ⟨p, h1, h3, fun w hw => by
    have h0 := h2 w hw 0 _ rfl
    rwa [add_zero] at h0⟩
theorem flatB : ∀ l : List UInt8, flat EB l = l.map (fun n => Value.int .u8 n.toNat)
  | [] => rfl
  | x :: r => by
    show EB.cells x ++ flat EB r = _
    rw [flatB r]
    rfl
/-- An append of a list onto a row of one's own, of any size that a machine holds. -/
theorem appB {w : World} (B : Nat) {v x : Value} {l m : List UInt8} (hown : OwnB w B v l) (hx : RowB w x m) (hn : l.length + m.length ≤ 1000000000) (hB : B ≤ w.heap.size) (ty : TypeId) :
    ∃ v' w', (Builtin.append_ #[24, 24] ty #[v, x]).run Try.prog w = .ok v' w' ∧ OwnB w' B v' (l ++ m) ∧ w.grownBy w' v.ownBlock := by
  obtain ⟨i, i1, i2, i3, i4⟩ := infoB
  rcases hx with ⟨rfl, rfl⟩ | ⟨ad, c, rfl, h2, h3, h4⟩
  · exact ⟨v, w, run_append_owned_none (P := Try.prog) (w := w) B 24 ty 5 i 1 Try.underlying24 i1 v _ _ hown, by simpa using hown, grown_refl _ _⟩
  · obtain ⟨v', w', r1, r2, r3, _⟩ := run_append_own (P := Try.prog) w B 24 ty 5 i (.int .u8 0) 1 1 Try.underlying24 i1 i2 i3 i4 rfl (by decide) v _ _ hown ad m.length c (flat EB m) (flat_length okB m) h4 (flat_cell okB m) (by unfold maxLen; omega)
      (by omega) hB
    exact ⟨v', w', r1, by rw [OwnB, Own, List.length_append, flat_append]; exact r2, r3⟩
/-- An append of a text onto a row of one's own. -/
theorem appS {w : World} (B : Nat) {v : Value} {l : List UInt8} (s : ByteArray) (hown : OwnB w B v l) (hn : l.length + s.size ≤ 1000000000) (hB : B ≤ w.heap.size) (ty : TypeId) :
    ∃ v' w', (Builtin.append_ #[24, 9] ty #[v, .string s]).run Try.prog w = .ok v' w' ∧ OwnB w' B v' (l ++ s.data.toList) ∧ w.grownBy w' v.ownBlock := by
  obtain ⟨i, i1, i2, i3, i4⟩ := infoB
  obtain ⟨v', w', r1, r2, r3, _⟩ := Lib.run_append_own_string (P := Try.prog) w B 24 9 ty 5 i Try.underlying24 Try.underlying9 i1 i2 i3 i4 v _ _ hown s (by unfold maxLen; omega) (by omega) hB
  refine ⟨v', w', r1, ?_, r3⟩
  have e : (l ++ s.data.toList).length = l.length + s.size := by rw [List.length_append, Array.length_toList]; rfl
  rw [OwnB, Own, e, flat_append, flatB s.data.toList]
  exact r2
theorem row_lo8 {W : World} {v : Value} {l : List UInt8} (h : RowB W v l) (k : Nat) (hk : k ≤ l.length) : ∃ lo, (∀ w, (Instr.sliceAt 24 v none (some (.int .i64 k)) none).run Try.prog w = .ok lo w) ∧ RowB W lo (l.take k) := row_lo okB h k hk
theorem row_hi8 {W : World} {v : Value} {l : List UInt8} (h : RowB W v l) (k : Nat) (hk : k ≤ l.length) : ∃ hi, (∀ w, (Instr.sliceAt 24 v (some (.int .i64 k)) none none).run Try.prog w = .ok hi w) ∧ RowB W hi (l.drop k) := row_hi okB h k hk
theorem push_all : ∀ (l : List UInt8) (s : ByteArray), (l.map (fun n => (n.toNat : Int))).foldl (fun r n => r.push (UInt8.ofNat n.toNat)) s = ⟨s.data ++ l.toArray⟩
  | [], s => by simp
  | x :: r, s => by
    rw [List.map_cons, List.foldl_cons, push_all r]
    have h : UInt8.ofNat ((x.toNat : Int)).toNat = x := by simp
    rw [h]
    show (⟨(s.data.push x) ++ r.toArray⟩ : ByteArray) = _
    simp
/-- Bytes made a text. -/
theorem conv_row {W : World} {v : Value} {l : List UInt8} (h : RowB W v l) : (convert 24 9 v).run Try.prog W = .ok (.string ⟨l.toArray⟩) W := by
  rcases h with ⟨rfl, rfl⟩ | ⟨a, cap, rfl, h1, h2, h3⟩
  · rw [run_convert_bytes_string _ 24 9 5 _ _ _ Try.underlying24 Try.underlying5 Try.underlying9]
    rfl
  · rw [run_convert_bytes_string _ 24 9 5 _ _ _ Try.underlying24 Try.underlying5 Try.underlying9]
    have hl := run_loadCells_list (P := Try.prog) W a (flat EB l) h3
    rw [flat_length okB, flatB, show l.length * EB.n = l.length from Nat.mul_one _] at hl
    rw [run_bytesToString (P := Try.prog) W a l.length cap (l.map (fun n => (n.toNat : Int))) (by rw [hl]; simp [List.map_map]), push_all]
    simp
/-- A row of zeros, made. -/
theorem make_full8 (w : World) (n : Nat) (hn : n ≤ 1000000) :
    ∃ w', (Instr.makeSlice 24 (.int .i64 (n : Int)) (.int .i64 (n : Int))).run Try.prog w = .ok (.slice (some ⟨w.heap.size, 0, none⟩) n n) w' ∧ OwnB w' w.heap.size (.slice (some ⟨w.heap.size, 0, none⟩) n n) (List.replicate n 0) ∧ w.grownBy w' none := by
  obtain ⟨i, i1, i2, i3, i4⟩ := infoB
  obtain ⟨w', h1, h2, h3⟩ := run_make_full (P := Try.prog) w w.heap.size 24 5 i _ 1 Try.underlying24 i1 i2 i3 .i64 .i64 n (by rw [i4]; omega) (by unfold maxLen; omega) (Nat.le_refl _)
  refine ⟨w', h1, ?_, h3⟩
  rw [OwnB, Own, flatB, List.length_replicate]
  have e : (List.replicate n (0 : UInt8)).map (fun n => Value.int .u8 n.toNat) = (madeCells #[.int .u8 0] (n * 1)).toList := by
    rw [toList_madeCells_one]
    simp
  rw [e]
  exact h2
end Go.Proofs.Ytobdddggdfcdlaa.Nm
