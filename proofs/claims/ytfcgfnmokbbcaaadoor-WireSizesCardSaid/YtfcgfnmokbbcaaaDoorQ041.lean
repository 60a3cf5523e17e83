/-
  A message of numbers is right, and small. Plain mathematics.
  Same of two lists of texts that hold the same texts: true. Condition: both have the same length, from 1 to 1048576.
-/
import Derived.Test.YtfcgfnmokbbcaaaDoorQ039
import Derived.Test.YtfcgfnmokbbcaaaDoorQ040
import Derived.Test.YtfcgfnmokbbcaaaDoorQ012
import Derived.Test.YtfcgfnmokbbcaaaDoorQ024
import Derived.Test.YtfcgfnmokbbcaaaDoorQ036
import Derived.Deep.QuietTactic
import Derived.BigQuiet
namespace Go.Proofs.YtfcgfnmokbbcaaaDoor.Ws
open Go.RowKit Go.Proofs.YtfcgfnmokbbcaaaDoor Go.Proofs.YtfcgfnmokbbcaaaDoor.Rw Go.Proofs.YtfcgfnmokbbcaaaDoor.Nm Go.Proofs.YtfcgfnmokbbcaaaDoor.At Go.Proofs.YtfcgfnmokbbcaaaDoor.Pr Go.Proofs.YtfcgfnmokbbcaaaDoor.Wr Go.Proofs.YtfcgfnmokbbcaaaDoor.Wi

/-- A right message, of a size that every law keeps to. -/
structure Fit (m : Mg) : Prop where
  right : rightM m = true
  m64 : M64 m
  small : Small m
  p5 : m.p.length ≤ 5
  l5 : m.l.length ≤ 5
theorem name_pu (s : ByteArray) : At.nameB s = Pu.nameB s := rfl
theorem one_r5 (c : Cn) (h : goodC c = true) : oneB (r5 c) = true := by
  obtain ⟨n, k⟩ := c
  unfold goodC at h
  rw [Bool.and_eq_true] at h
  obtain ⟨h1, h2⟩ := h
  have h1' : At.nameB n = true := h1
  cases k with
  | rg lo hi =>
    have h3 : lo ≤ hi := by simpa [goodK] using h2
    have h0 : (⟨#[]⟩ : ByteArray).size = 0 := rfl
    simp [r5, oneB, kN, kLo, kHi, kT, h1', h3, h0]
  | tx t =>
    have h3 : t.size ≤ 12 := by simpa [goodK] using h2
    simp [r5, oneB, kN, kLo, kHi, kT, h1', h3]
  | pr t =>
    have h3 : t.size < 12 := by simpa [goodK] using h2
    have h4 : t.size ≤ 11 := by omega
    simp [r5, oneB, kN, kLo, kHi, kT, h1', h4]
theorem rightP_rise (l : List C5) (h1 : l.Pairwise fun x y => Op.bytesLess x.1.toList y.1.toList = true) (h2 : l.length ≤ 5) (h3 : ∀ c ∈ l, oneB c = true) : rightP l = true := by
  rw [rightP_end l fun j hj => ?_]
  · simpa using h2
  unfold goodP
  rw [List.getElem?_eq_getElem hj]
  simp only [Bool.and_eq_true]
  refine ⟨h3 _ (List.getElem_mem hj), ?_⟩
  cases j with
  | zero => rfl
  | succ j =>
    rw [Bool.or_eq_true]
    right
    rw [Nat.add_sub_cancel, List.getElem?_eq_getElem (by omega)]
    exact List.pairwise_iff_getElem.1 h1 j (j + 1) (by omega) hj (by omega)
theorem rightT_rise (l : List A4) (h1 : Rise l) (h2 : l.length ≤ 5) (h3 : ∀ c ∈ l, At.nameB c.1 = true ∧ Va.rightV c.2.1 c.2.2.1 c.2.2.2 = true) : rightT l = true := by
  rw [rightT_end l fun j hj => ?_]
  · simpa using h2
  unfold goodB
  rw [List.getElem?_eq_getElem hj]
  simp only [Bool.and_eq_true]
  refine ⟨h3 _ (List.getElem_mem hj), ?_⟩
  cases j with
  | zero => rfl
  | succ j =>
    rw [Bool.or_eq_true]
    right
    rw [Nat.add_sub_cancel, List.getElem?_eq_getElem (by omega)]
    exact List.pairwise_iff_getElem.1 h1 j (j + 1) (by omega) hj (by omega)
theorem prd_right5 (has vals : List Int) : rightP ((prd has vals 7).map r5) = true := by
  have h := prd_nf has vals
  refine rightP_rise _ ?_ (by rw [List.length_map]; exact h.five) fun c hc => ?_
  · rw [List.pairwise_map]
    exact h.rise
  · obtain ⟨x, hx, rfl⟩ := List.mem_map.1 hc
    exact one_r5 x (h.good x hx)
theorem tup_names7 (has vals : List Int) : ∀ x ∈ tup has vals 7, At.nameB x.1 = true ∧ x.1.size = 1 := fun x hx => by
  obtain ⟨i, h1, h2⟩ := tup_names has vals 7 x hx
  rw [h2]
  refine ⟨?_, rfl⟩
  match i, h1 with
  | 0, _ => decide
  | 1, _ => decide
  | 2, _ => decide
  | 3, _ => decide
  | 4, _ => decide
  | 5, _ => decide
  | 6, _ => decide
theorem tup_rightT (has vals : List Int) : rightT (tup has vals 7) = true :=
  rightT_rise _ (tup_rise has vals 7 (Nat.le_refl _)) (tup_five has vals 7) fun c hc => ⟨(tup_names7 has vals c hc).1, (tup_right has vals 7 c hc).1⟩
theorem valOf_bd (n : Int) : -9223372036854775808 ≤ (At.valOf n).2.1 ∧ (At.valOf n).2.1 ≤ 9223372036854775807 := by
  have h := within_bd (n.tdiv 2) 0 9 (by omega)
  unfold At.valOf
  simp only [Va.kvN]
  first | omega | (split <;> simp <;> omega)
theorem tup_num (has vals : List Int) : ∀ k, ∀ x ∈ tup has vals k, I64 x.2.2.1
  | 0, x, h => by simp [tup] at h
  | k + 1, x, h => by
    simp only [tup] at h
    split at h
    · rcases List.mem_append.1 h with h | h
      · exact tup_num has vals k x h
      · simp at h
        rw [h]
        exact valOf_bd _
    · exact tup_num has vals k x h
theorem kg_fit (g : Kg) : Fit g.m := by
  have hk := within_bd g.kd 1 5 (by omega)
  have hc := within_bd g.cl 0 4 (by omega)
  have hs := within_bd g.sq 0 4 (by omega)
  have ho := within_bd g.ow 0 4 (by omega)
  have hn := within_bd g.nm 0 4 (by omega)
  have hkk : g.k = 1 ∨ g.k = 2 ∨ g.k = 3 ∨ g.k = 4 ∨ g.k = 5 := by
    unfold Kg.k
    omega
  have hp := prd_right5 g.ph g.pv
  have ht := tup_rightT g.th g.tv
  have nf := prd_nf g.ph g.pv
  have p5 : g.m.p.length ≤ 5 := by
    show (if g.k = 1 ∨ g.k = 3 then (prd g.ph g.pv 7).map r5 else []).length ≤ 5
    split
    · rw [List.length_map]; exact nf.five
    · simp
  have l5 : g.m.l.length ≤ 5 := by
    show (if g.k = 5 then tup g.th g.tv 7 else []).length ≤ 5
    split
    · exact tup_five _ _ 7
    · simp
  have ps : ∀ c ∈ g.m.p, ∃ x ∈ prd g.ph g.pv 7, c = r5 x := by
    intro c h
    have h' : c ∈ (if g.k = 1 ∨ g.k = 3 then (prd g.ph g.pv 7).map r5 else []) := h
    split at h'
    · obtain ⟨x, hx, rfl⟩ := List.mem_map.1 h'
      exact ⟨x, hx, rfl⟩
    · cases h'
  have ls : ∀ c ∈ g.m.l, c ∈ tup g.th g.tv 7 := by
    intro c h
    have h' : c ∈ (if g.k = 5 then tup g.th g.tv 7 else []) := h
    split at h'
    · exact h'
    · cases h'
  have rt : rightI (within g.cl 0 4) (within g.sq 0 4) = true := by
    unfold rightI
    simp
    omega
  have ri : rightI (within g.ow 0 4) (within g.nm 0 4) = true := by
    unfold rightI
    simp
    omega
  refine ⟨?_, ?_, ?_, p5, l5⟩
  · unfold rightM
    rcases hkk with h | h | h | h | h <;> simp [Kg.m, h, rt, ri, hp, ht]
  · have i1 : I64 g.m.ic := by
      show I64 (if 3 ≤ g.k then within g.ow 0 4 else 0)
      split <;> (unfold I64; omega)
    have i2 : I64 g.m.is := by
      show I64 (if 3 ≤ g.k then within g.nm 0 4 else 0)
      split <;> (unfold I64; omega)
    refine ⟨?_, ?_, ?_, i1, i2, fun c hc => ?_, fun a ha => tup_num _ _ 7 a (ls a ha)⟩
    · show I64 (within g.kd 1 5)
      unfold I64; omega
    · show I64 (within g.cl 0 4)
      unfold I64; omega
    · show I64 (within g.sq 0 4)
      unfold I64; omega
    · obtain ⟨x, hx, rfl⟩ := ps c hc
      have h2 := nf.small x hx
      refine ⟨?_, h2.2.2.1, h2.2.2.2⟩
      show I64 (kN x.2)
      cases x.2 <;> (simp only [kN]; unfold I64; omega)
  · refine ⟨by omega, by omega, fun c hc => ?_, fun a ha => ?_⟩
    · obtain ⟨x, hx, rfl⟩ := ps c hc
      have h2 := nf.small x hx
      have h3 : x.1.size ≤ 100 := h2.1
      have h4 : (kT x.2).size ≤ 100 := h2.2.1
      unfold maxLen
      exact ⟨by show x.1.size ≤ _; omega, by show (kT x.2).size ≤ _; omega⟩
    · have h2 := (tup_names7 _ _ a (ls a ha)).2
      have h3 := (tup_right _ _ 7 a (ls a ha)).2
      unfold maxLen
      omega
end Go.Proofs.YtfcgfnmokbbcaaaDoor.Ws

namespace Go.Proofs.YtfcgfnmokbbcaaaDoor.Fa
open Go.RowKit Go.Extern.Stop Go.Stop Go.Extern

theorem lt_of_cell {w : World} {b i : Nat} {x : Value} (h : w.cell? ⟨b, i, none⟩ = some x) : b < w.heap.size := by
  rcases Nat.lt_or_ge b w.heap.size with h0 | h0
  · exact h0
  · simp [World.cell?, Array.getElem?_eq_none h0] at h

set_option maxRecDepth 100000 in
set_option maxHeartbeats 4000000 in
theorem Same_true (xs : List ByteArray) (ga gb ca cb : Nat) (w : World) (hlen : xs.length ≤ 1048576)
    (ha : ∀ j (h : j < xs.length), w.cell? ⟨ga, j, none⟩ = some (.string xs[j])) (hb : ∀ j (h : j < xs.length), w.cell? ⟨gb, j, none⟩ = some (.string xs[j])) :
    Calls Tryd.prog 23 #[.slice (some ⟨ga, 0, none⟩) xs.length ca, .slice (some ⟨gb, 0, none⟩) xs.length cb] w fun e w' => e = .returned (.bool true) ∧ Below w.heap.size w w' := by
  have HA := Lib.hid ha
  have HB := Lib.hid hb
  clear ha hb
  go_enter Tryd.func23, Tryd.ntmps23
  go_wp2
  go_loopg [5] xs.length (fun n i wr => ∃ k : Nat, n = xs.length - k ∧ k ≤ xs.length ∧ i = .int .i64 k ∧ Below w.heap.size w wr)
  case atStart => exact ⟨0, rfl, Nat.zero_le _, rfl, Below.refl _ _⟩
  case round =>
    obtain ⟨k, hn, hk, rfl, hbel⟩ := hrel
    have BE := Lib.hid hbel
    have HN := Lib.hid hn
    clear hbel hn
    by_cases hlt : k < xs.length
    · have ea := HA.out k hlt
      have eb := HB.out k hlt
      have ca1 : wr.cell? ⟨ga, k, none⟩ = some (.string xs[k]) := by rw [BE.out.cell (p := ⟨ga, k, none⟩) (lt_of_cell ea)]; exact ea
      have cb1 : wr.cell? ⟨gb, k, none⟩ = some (.string xs[k]) := by rw [BE.out.cell (p := ⟨gb, k, none⟩) (lt_of_cell eb)]; exact eb
      clear ea eb
      generalize xs[k] = x at ca1 cb1
      go_wp2
      go_quiet (fail)
      go_wp2
      go_roundg (xs.length - (k + 1))
      case measure => have := HN.out; omega
      case rel => exact ⟨k + 1, rfl, by omega, by go_num, by first | exact BE.out.drew | exact ⟨BE.out.os, BE.out.tape, BE.out.output, BE.out.size, BE.out.block⟩⟩
    · go_wp2
      go_ret
      exact ⟨rfl, BE.out⟩
end Go.Proofs.YtfcgfnmokbbcaaaDoor.Fa
