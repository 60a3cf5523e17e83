/-
  The law WireTells: any message, of numbers or raw: may it be; its bytes; it comes back. Conditions: package errors' variable holds the handle of the type 'error'; numbers of 64 bits; lists no longer than a machine holds.
  Lists of numbers, lists of bytes, IDs and bytes that came in, opened. No condition beyond their reading.
-/
import Derived.Test.YtfcgfnmokbbcaaaDoorU044
import Derived.Test.YtfcgfnmokbbcaaaDoorU004
import Derived.Test.YtfcgfnmokbbcaaaDoorU008
import Derived.Test.YtfcgfnmokbbcaaaDoorU039
namespace Go.Proofs.YtfcgfnmokbbcaaaDoor.Ws
open Go.RowKit Go.Sort Go.Proofs.YtfcgfnmokbbcaaaDoor Go.Proofs.YtfcgfnmokbbcaaaDoor.Rw Go.Proofs.YtfcgfnmokbbcaaaDoor.Nm Go.Proofs.YtfcgfnmokbbcaaaDoor.At Go.Proofs.YtfcgfnmokbbcaaaDoor.Pr Go.Proofs.YtfcgfnmokbbcaaaDoor.Wr Go.Proofs.YtfcgfnmokbbcaaaDoor.Wi Go.Proofs.YtfcgfnmokbbcaaaDoor.In Go.Proofs.YtfcgfnmokbbcaaaDoor.Va

theorem tells_any (m : Mg) (mp ml : Value) (g : Kg) (ga gb gc gd : Value) (h_ : Kg) (h_a h_b h_c h_d : Value) (ow : Bool) (w : World) (hg : Fa.EG w) (mi : RawIn w m mp ml) (gi : KgIn w g ga gb gc gd) (h_i : KgIn w h_ h_a h_b h_c h_d) :
    Calls Tryd.prog 4 #[mv m mp ml, kgv g ga gb gc gd, kgv h_ h_a h_b h_c h_d, .bool ow] w (RQ w) := by
  cases ow
  · exact tells_raw m mp ml g ga gb gc gd h_ h_a h_b h_c h_d w hg mi gi h_i
  · exact tells_own m mp ml g ga gb gc gd h_ h_a h_b h_c h_d w hg mi gi h_i
end Go.Proofs.YtfcgfnmokbbcaaaDoor.Ws

namespace Go.Proofs.YtfcgfnmokbbcaaaDoor.Nm
open Go.RowKit Go.Proofs.YtfcgfnmokbbcaaaDoor Go.Proofs.YtfcgfnmokbbcaaaDoor.Rw Go.ChangeShapes Go.WideShapes

theorem cellsB : Tryd.prog.cellsOf 5 = 1 := by kernel_rfl
theorem u8_bd {n : Int} (h : (Lit.int .u8 n).wf = true) : 0 ≤ n ∧ n ≤ 255 := by
  have h2 : (decide (IntKind.u8.min ≤ n) && decide (n ≤ IntKind.u8.max)) = true := h
  rw [Bool.and_eq_true, decide_eq_true_eq, decide_eq_true_eq, show IntKind.u8.min = 0 by decide, show IntKind.u8.max = 255 by decide] at h2
  exact h2
theorem u8_is {n : Int} (h : (Lit.int .u8 n).wf = true) : ∃ x : UInt8, n = x.toNat := by
  have h2 := u8_bd h
  exact ⟨UInt8.ofNat n.toNat, by rw [UInt8.toNat_ofNat']; omega⟩
set_option maxRecDepth 100000 in
theorem open_rowI {H : Type} {enc : TypeId × Value → H} {W : World} {r : Reach} {b0 : Nat} {sp : Nat → Bool} {held : Bool} {v : Value} {d : DataW H} {ps : List MemPlace}
    (hval : Value.okWide Tryd.prog W r b0 37 v) (hd : DataW.Trod enc Tryd.prog W 0 sp held 37 v d ps) : ∃ zs, RowI W v zs ∧ ∀ z ∈ zs, -9223372036854775808 ≤ z ∧ z ≤ 9223372036854775807 := by
  obtain ⟨a, len, cap, rfl⟩ := okWide_slice Tryd.underlying37 hval
  obtain ⟨fuel, hf⟩ := hd
  rcases open_ints Tryd.underlying37 Tryd.underlying3 In.cellsI hf with ⟨h1, _⟩ | ⟨a', len', cap', zs, h1, _, h3, h4, h5, _, h7, h8⟩
  · have e : Value.slice a len cap = .slice none 0 0 := by simpa [Value.cells] using h1
    rw [e]
    exact ⟨[], row_nil W, fun z h => by cases h⟩
  · have e : Value.slice a len cap = .slice (some a') len' cap' := by simpa [Value.cells] using h1
    rw [e]
    have hle : len' ≤ zs.length := by rw [h5]; split <;> omega
    have hl : (zs.take len').length = len' := by simp; omega
    refine ⟨zs.take len', Or.inr ⟨a', cap', by rw [hl], by omega, h4, fun j u hj => ?_⟩, fun z hz => In.lits_bd (h8 z (List.mem_of_mem_take hz))⟩
    rw [flatI, List.getElem?_map] at hj
    cases hz : (zs.take len')[j]? with
    | none => rw [hz] at hj; cases hj
    | some z =>
      rw [hz] at hj
      obtain rfl : Value.int .i64 z = u := by simpa using hj
      obtain ⟨hi, hzi⟩ := List.getElem?_eq_some_iff.1 hz
      have hz2 : zs[j]'(by omega) = z := by simpa using hzi
      have hc := h7 j (by omega)
      have hg : zs.getD j 0 = z := by rw [← hz2]; simp [List.getD, show j < zs.length by omega]
      rw [hg] at hc
      exact hc
set_option maxRecDepth 100000 in
theorem open_rowB {H : Type} {enc : TypeId × Value → H} {W : World} {r : Reach} {b0 : Nat} {sp : Nat → Bool} {held : Bool} {v : Value} {d : DataW H} {ps : List MemPlace}
    (hval : Value.okWide Tryd.prog W r b0 22 v) (hd : DataW.Trod enc Tryd.prog W 0 sp held 22 v d ps) : ∃ l, RowB W v l := by
  obtain ⟨a, len, cap, rfl⟩ := okWide_slice Tryd.underlying22 hval
  obtain ⟨fuel, hf⟩ := hd
  rcases open_ints Tryd.underlying22 Tryd.underlying5 cellsB hf with ⟨h1, _⟩ | ⟨a', len', cap', zs, h1, _, h3, h4, h5, _, h7, h8⟩
  · have e : Value.slice a len cap = .slice none 0 0 := by simpa [Value.cells] using h1
    rw [e]
    exact ⟨[], row_nil W⟩
  · have e : Value.slice a len cap = .slice (some a') len' cap' := by simpa [Value.cells] using h1
    rw [e]
    have hle : len' ≤ zs.length := by rw [h5]; split <;> omega
    have hl0 : (zs.take len').length = len' := by simp; omega
    have hl : ((zs.take len').map fun n => UInt8.ofNat n.toNat).length = len' := by rw [List.length_map, hl0]
    refine ⟨(zs.take len').map fun n => UInt8.ofNat n.toNat, Or.inr ⟨a', cap', by rw [hl], by omega, h4, fun j u hj => ?_⟩⟩
    rw [flatB, List.getElem?_map, List.getElem?_map] at hj
    cases hz : (zs.take len')[j]? with
    | none => rw [hz] at hj; cases hj
    | some z =>
      rw [hz] at hj
      obtain ⟨hi, hzi⟩ := List.getElem?_eq_some_iff.1 hz
      have hz2 : zs[j]'(by omega) = z := by simpa using hzi
      have hw := u8_bd (h8 z (by rw [← hz2]; exact List.getElem_mem _))
      have hc := h7 j (by omega)
      have hg : zs.getD j 0 = z := by rw [← hz2]; simp [List.getD, show j < zs.length by omega]
      rw [hg] at hc
      have e2 : ((UInt8.ofNat z.toNat).toNat : Int) = z := by rw [UInt8.toNat_ofNat']; omega
      simp only [Option.map_some, Option.some.injEq] at hj
      rw [e2] at hj
      rw [← hj]
      exact hc
theorem cellsID : Tryd.prog.cellsOf 28 = 2 := by kernel_rfl
set_option maxRecDepth 100000 in
theorem open_id {H : Type} {enc : TypeId × Value → H} {W : World} {r : Reach} {b0 base : Nat} {sp : Nat → Bool} {held : Bool} {v : Value} {d : DataW H} {ps : List MemPlace}
    (hval : Value.okWide Tryd.prog W r b0 28 v) (hd : DataW.Trod enc Tryd.prog W base sp held 28 v d ps) :
    ∃ c q : Int, v = .agg #[.int .i64 c, .int .i64 q] ∧ (Lit.int .i64 c).wf = true ∧ (Lit.int .i64 q).wf = true := by
  obtain ⟨cs, rfl, hsz⟩ := okWide_struct Tryd.underlying28 hval
  obtain ⟨fuel, hf⟩ := hd
  obtain ⟨xs, n, _, _, _, hxl, hx⟩ := DataW.trod_struct Tryd.underlying28 hf
  rw [cellsID] at hsz
  obtain ⟨l⟩ := cs
  match l, hsz with
  | [c0, c1], _ =>
    have f0 : DataW.trod enc Tryd.prog W base sp held n 3 (([c0, c1].drop 0).take (Tryd.prog.cellsOf 3)) = xs[0]? := hx 0 _ rfl
    have f1 : DataW.trod enc Tryd.prog W base sp held n 3 (([c0, c1].drop 1).take (Tryd.prog.cellsOf 3)) = xs[1]? := hx 1 _ rfl
    have hxl' : xs.length = 2 := hxl
    simp only [In.cellsI, List.drop_zero, List.drop_succ_cons, List.take_succ_cons, List.take_zero] at f0 f1
    rw [List.getElem?_eq_getElem (by omega)] at f0 f1
    obtain ⟨m0, e0, _, hw0⟩ := DataW.trod_int Tryd.underlying3 f0
    obtain ⟨m1, e1, _, hw1⟩ := DataW.trod_int Tryd.underlying3 f1
    simp only [List.cons.injEq, and_true] at e0 e1
    subst e0 e1
    exact ⟨m0, m1, rfl, hw0, hw1⟩
end Go.Proofs.YtfcgfnmokbbcaaaDoor.Nm
