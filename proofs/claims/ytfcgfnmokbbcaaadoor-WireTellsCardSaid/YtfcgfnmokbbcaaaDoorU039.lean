/-
  A message of numbers is right, and small. Plain mathematics.
  The greatest message and a publication of five texts, as they grow; they are right. Conditions: an owner's number within 0 and 31.
  Arguments of a row: a value of package api opened into its three fields; arguments that read as they read before, where a call has only added memory. No other condition.
-/
import Derived.Test.YtfcgfnmokbbcaaaDoorU037
import Derived.Test.YtfcgfnmokbbcaaaDoorU038
import Derived.Test.YtfcgfnmokbbcaaaDoorU015
import Derived.Test.YtfcgfnmokbbcaaaDoorU023
import Derived.Test.YtfcgfnmokbbcaaaDoorU034
import Derived.Test.YtfcgfnmokbbcaaaDoorU020
import Derived.Test.YtfcgfnmokbbcaaaDoorProg
import Derived.WalkKit
import Derived.ProofKit
import Derived.OpenShut
import Derived.Carry
import Derived.ChangeMaps5
import Derived.ChangeArms
namespace Go.Proofs.YtfcgfnmokbbcaaaDoor.Ws
open Go.RowKit Go.Proofs.YtfcgfnmokbbcaaaDoor Go.Proofs.YtfcgfnmokbbcaaaDoor.Rw Go.Proofs.YtfcgfnmokbbcaaaDoor.Nm Go.Proofs.YtfcgfnmokbbcaaaDoor.At Go.Proofs.YtfcgfnmokbbcaaaDoor.Pr Go.Proofs.YtfcgfnmokbbcaaaDoor.Wr Go.Proofs.YtfcgfnmokbbcaaaDoor.Wi

/-- A right message, of a size that every law keeps to. -/
structure Fit (m : Mg) : Prop where
  right : rightM m = true
  m64 : M64 m
  small : Small m
  p5 : m.p.length ≤ 5
  l5 : m.l.length ≤ 5
theorem name_pu (s : ByteArray) : At.nameB s = Pu.nameB s := rfl
theorem one_r5 (c : Cn) (h : goodC c = true) : oneB (r5 c) = true := by
  obtain ⟨n, k⟩ := c
  unfold goodC at h
  rw [Bool.and_eq_true] at h
  obtain ⟨h1, h2⟩ := h
  have h1' : At.nameB n = true := h1
  cases k with
  | rg lo hi =>
    have h3 : lo ≤ hi := by simpa [goodK] using h2
    have h0 : (⟨#[]⟩ : ByteArray).size = 0 := rfl
    simp [r5, oneB, kN, kLo, kHi, kT, h1', h3, h0]
  | tx t =>
    have h3 : t.size ≤ 12 := by simpa [goodK] using h2
    simp [r5, oneB, kN, kLo, kHi, kT, h1', h3]
  | pr t =>
    have h3 : t.size < 12 := by simpa [goodK] using h2
    have h4 : t.size ≤ 11 := by omega
    simp [r5, oneB, kN, kLo, kHi, kT, h1', h4]
theorem rightP_rise (l : List C5) (h1 : l.Pairwise fun x y => Op.bytesLess x.1.toList y.1.toList = true) (h2 : l.length ≤ 5) (h3 : ∀ c ∈ l, oneB c = true) : rightP l = true := by
  rw [rightP_end l fun j hj => ?_]
  · simpa using h2
  unfold goodP
  rw [List.getElem?_eq_getElem hj]
  simp only [Bool.and_eq_true]
  refine ⟨h3 _ (List.getElem_mem hj), ?_⟩
  cases j with
  | zero => rfl
  | succ j =>
    rw [Bool.or_eq_true]
    right
    rw [Nat.add_sub_cancel, List.getElem?_eq_getElem (by omega)]
    exact List.pairwise_iff_getElem.1 h1 j (j + 1) (by omega) hj (by omega)
theorem rightT_rise (l : List A4) (h1 : Rise l) (h2 : l.length ≤ 5) (h3 : ∀ c ∈ l, At.nameB c.1 = true ∧ Va.rightV c.2.1 c.2.2.1 c.2.2.2 = true) : rightT l = true := by
  rw [rightT_end l fun j hj => ?_]
  · simpa using h2
  unfold goodB
  rw [List.getElem?_eq_getElem hj]
  simp only [Bool.and_eq_true]
  refine ⟨h3 _ (List.getElem_mem hj), ?_⟩
  cases j with
  | zero => rfl
  | succ j =>
    rw [Bool.or_eq_true]
    right
    rw [Nat.add_sub_cancel, List.getElem?_eq_getElem (by omega)]
    exact List.pairwise_iff_getElem.1 h1 j (j + 1) (by omega) hj (by omega)
theorem prd_right5 (has vals : List Int) : rightP ((prd has vals 7).map r5) = true := by
  have h := prd_nf has vals
  refine rightP_rise _ ?_ (by rw [List.length_map]; exact h.five) fun c hc => ?_
  · rw [List.pairwise_map]
    exact h.rise
  · obtain ⟨x, hx, rfl⟩ := List.mem_map.1 hc
    exact one_r5 x (h.good x hx)
theorem tup_names7 (has vals : List Int) : ∀ x ∈ tup has vals 7, At.nameB x.1 = true ∧ x.1.size = 1 := fun x hx => by
  obtain ⟨i, h1, h2⟩ := tup_names has vals 7 x hx
  rw [h2]
  refine ⟨?_, rfl⟩
  match i, h1 with
  | 0, _ => decide
  | 1, _ => decide
  | 2, _ => decide
  | 3, _ => decide
  | 4, _ => decide
  | 5, _ => decide
  | 6, _ => decide
theorem tup_rightT (has vals : List Int) : rightT (tup has vals 7) = true :=
  rightT_rise _ (tup_rise has vals 7 (Nat.le_refl _)) (tup_five has vals 7) fun c hc => ⟨(tup_names7 has vals c hc).1, (tup_right has vals 7 c hc).1⟩
theorem valOf_bd (n : Int) : -9223372036854775808 ≤ (At.valOf n).2.1 ∧ (At.valOf n).2.1 ≤ 9223372036854775807 := by
  have h := within_bd (n.tdiv 2) 0 9 (by omega)
  unfold At.valOf
  simp only [Va.kvN]
  first | omega | (split <;> simp <;> omega)
theorem tup_num (has vals : List Int) : ∀ k, ∀ x ∈ tup has vals k, I64 x.2.2.1
  | 0, x, h => by simp [tup] at h
  | k + 1, x, h => by
    simp only [tup] at h
    split at h
    · rcases List.mem_append.1 h with h | h
      · exact tup_num has vals k x h
      · simp at h
        rw [h]
        exact valOf_bd _
    · exact tup_num has vals k x h
theorem kg_fit (g : Kg) : Fit g.m := by
  have hk := within_bd g.kd 1 5 (by omega)
  have hc := within_bd g.cl 0 4 (by omega)
  have hs := within_bd g.sq 0 4 (by omega)
  have ho := within_bd g.ow 0 4 (by omega)
  have hn := within_bd g.nm 0 4 (by omega)
  have hkk : g.k = 1 ∨ g.k = 2 ∨ g.k = 3 ∨ g.k = 4 ∨ g.k = 5 := by
    unfold Kg.k
    omega
  have hp := prd_right5 g.ph g.pv
  have ht := tup_rightT g.th g.tv
  have nf := prd_nf g.ph g.pv
  have p5 : g.m.p.length ≤ 5 := by
    show (if g.k = 1 ∨ g.k = 3 then (prd g.ph g.pv 7).map r5 else []).length ≤ 5
    split
    · rw [List.length_map]; exact nf.five
    · simp
  have l5 : g.m.l.length ≤ 5 := by
    show (if g.k = 5 then tup g.th g.tv 7 else []).length ≤ 5
    split
    · exact tup_five _ _ 7
    · simp
  have ps : ∀ c ∈ g.m.p, ∃ x ∈ prd g.ph g.pv 7, c = r5 x := by
    intro c h
    have h' : c ∈ (if g.k = 1 ∨ g.k = 3 then (prd g.ph g.pv 7).map r5 else []) := h
    split at h'
    · obtain ⟨x, hx, rfl⟩ := List.mem_map.1 h'
      exact ⟨x, hx, rfl⟩
    · cases h'
  have ls : ∀ c ∈ g.m.l, c ∈ tup g.th g.tv 7 := by
    intro c h
    have h' : c ∈ (if g.k = 5 then tup g.th g.tv 7 else []) := h
    split at h'
    · exact h'
    · cases h'
  have rt : rightI (within g.cl 0 4) (within g.sq 0 4) = true := by
    unfold rightI
    simp
    omega
  have ri : rightI (within g.ow 0 4) (within g.nm 0 4) = true := by
    unfold rightI
    simp
    omega
  refine ⟨?_, ?_, ?_, p5, l5⟩
  · unfold rightM
    rcases hkk with h | h | h | h | h <;> simp [Kg.m, h, rt, ri, hp, ht]
  · have i1 : I64 g.m.ic := by
      show I64 (if 3 ≤ g.k then within g.ow 0 4 else 0)
      split <;> (unfold I64; omega)
    have i2 : I64 g.m.is := by
      show I64 (if 3 ≤ g.k then within g.nm 0 4 else 0)
      split <;> (unfold I64; omega)
    refine ⟨?_, ?_, ?_, i1, i2, fun c hc => ?_, fun a ha => tup_num _ _ 7 a (ls a ha)⟩
    · show I64 (within g.kd 1 5)
      unfold I64; omega
    · show I64 (within g.cl 0 4)
      unfold I64; omega
    · show I64 (within g.sq 0 4)
      unfold I64; omega
    · obtain ⟨x, hx, rfl⟩ := ps c hc
      have h2 := nf.small x hx
      refine ⟨?_, h2.2.2.1, h2.2.2.2⟩
      show I64 (kN x.2)
      cases x.2 <;> (simp only [kN]; unfold I64; omega)
  · refine ⟨by omega, by omega, fun c hc => ?_, fun a ha => ?_⟩
    · obtain ⟨x, hx, rfl⟩ := ps c hc
      have h2 := nf.small x hx
      have h3 : x.1.size ≤ 100 := h2.1
      have h4 : (kT x.2).size ≤ 100 := h2.2.1
      unfold maxLen
      exact ⟨by show x.1.size ≤ _; omega, by show (kT x.2).size ≤ _; omega⟩
    · have h2 := (tup_names7 _ _ a (ls a ha)).2
      have h3 := (tup_right _ _ 7 a (ls a ha)).2
      unfold maxLen
      omega
end Go.Proofs.YtfcgfnmokbbcaaaDoor.Ws

namespace Go.Proofs.YtfcgfnmokbbcaaaDoor.Ws
open Go.RowKit Go.Sort Go.Proofs.YtfcgfnmokbbcaaaDoor Go.Proofs.YtfcgfnmokbbcaaaDoor.Rw Go.Proofs.YtfcgfnmokbbcaaaDoor.Nm Go.Proofs.YtfcgfnmokbbcaaaDoor.At Go.Proofs.YtfcgfnmokbbcaaaDoor.Pr Go.Proofs.YtfcgfnmokbbcaaaDoor.Wr Go.Proofs.YtfcgfnmokbbcaaaDoor.Va

def nmA (j : Nat) : ByteArray := ⟨#[97, 97, 97, 97, 97, 97, 97, 97, 97, 97, 97, UInt8.ofNat (97 + j)]⟩
def abcT : ByteArray := ⟨#[97, 98, 99, 100, 101, 102, 103, 104, 105, 106, 107, 108]⟩
def conA (j : Nat) : C5 := (nmA j, 1, -9223372036854775808, 9223372036854775807, ⟨#[]⟩)
def attA (j : Nat) : A4 := (nmA j, true, 0, abcT)
def conL (j : Nat) : List C5 := (List.range j).map conA
def attL (j : Nat) : List A4 := (List.range j).map attA
abbrev bigM (z : Int) (j : Nat) : Mg := ⟨3, 31, 9223372036854775807, z, 0, conL j, []⟩
abbrev pubM (j : Nat) : Mg := ⟨5, 31, 9223372036854775807, 0, 0, [], attL j⟩
theorem conL_succ (j : Nat) : conL (j + 1) = conL j ++ [conA j] := by unfold conL; rw [List.range_succ, List.map_append]; rfl
theorem attL_succ (j : Nat) : attL (j + 1) = attL j ++ [attA j] := by unfold attL; rw [List.range_succ, List.map_append]; rfl
theorem conL_len (j : Nat) : (conL j).length = j := by unfold conL; rw [List.length_map, List.length_range]
theorem attL_len (j : Nat) : (attL j).length = j := by unfold attL; rw [List.length_map, List.length_range]
theorem conL_right : rightP (conL 5) = true := by decide +kernel
theorem attL_right : rightT (attL 5) = true := by decide +kernel
theorem bigM_right (z : Int) (h : 0 ≤ z ∧ z ≤ 31) : rightM (bigM z 5) = true := by
  have h1 : rightI z 0 = true := by unfold rightI; simp; omega
  simp [rightM, h1, conL_right]
  decide
theorem pubM_right : rightM (pubM 5) = true := by
  simp [rightM, attL_right]
  decide
theorem bigM_small (z : Int) : Small (bigM z 5) := ⟨by rw [conL_len]; omega, by simp, fun x hx => by
  obtain ⟨i, _, rfl⟩ := List.mem_map.1 hx
  exact ⟨by show (12 : Nat) ≤ maxLen; unfold maxLen; omega, by show (0 : Nat) ≤ maxLen; unfold maxLen; omega⟩, fun x hx => (by cases hx)⟩
theorem pubM_small : Small (pubM 5) := ⟨by simp, by rw [attL_len]; omega, fun x hx => (by cases hx), fun x hx => by
  obtain ⟨i, _, rfl⟩ := List.mem_map.1 hx
  exact ⟨by show (12 : Nat) ≤ maxLen; unfold maxLen; omega, by show (12 : Nat) ≤ maxLen; unfold maxLen; omega⟩⟩
theorem bigM_64 (z : Int) (h : 0 ≤ z ∧ z ≤ 31) : M64 (bigM z 5) := by
  refine ⟨?_, ?_, ?_, ?_, ?_, fun c hc => ?_, fun a ha => (by cases ha)⟩ <;> try (unfold I64; simp only; omega)
  obtain ⟨i, _, rfl⟩ := List.mem_map.1 hc
  refine ⟨?_, ?_, ?_⟩ <;> (unfold I64 conA; simp only; omega)
theorem own_ne {α : Type} {E : Ek α} {W : World} {B b : Nat} {v : Value} {l : List α} {cs : Array Value} {t : TypeId} (h : Own E W B v l) (hb : Box W b cs t) (ht : t ≠ E.t) : v.ownBlock ≠ some b := by
  intro e
  rcases own_open h with ⟨rfl, _⟩ | ⟨g, cap, cur, rfl, _, hg, _⟩
  · cases e
  · injection e with e
    have e : g = b := e
    subst e
    have := hg.symm.trans hb
    injection this with this
    injection this with _ this
    exact ht this.symm
theorem own_apart {α β : Type} {E : Ek α} {F : Ek β} {W : World} {B C : Nat} {v x : Value} {l : List α} {m : List β} (h : Own E W B v l) (h2 : Own F W C x m) (ht : E.t ≠ F.t) : v.ownBlock = none ∨ v.ownBlock ≠ x.ownBlock := by
  rcases own_open h with ⟨rfl, _⟩ | ⟨g, cap, cur, rfl, _, hg, _⟩
  · exact Or.inl rfl
  · exact Or.inr fun e => own_ne h2 hg ht e.symm
/-- While both grow. -/
structure Sz (w W : World) (B : Nat) (z : Int) (i j : Nat) (pv lv : Value) : Prop where
  be : Below w.heap.size w W
  wB : w.heap.size ≤ B
  x1 : Box W B #[.int .i64 3, .int .i64 31, .int .i64 9223372036854775807, .int .i64 z, .int .i64 0, pv, nilS] 32
  x2 : Box W (B + 1) #[.int .i64 5, .int .i64 31, .int .i64 9223372036854775807, .int .i64 0, .int .i64 0, nilS, lv] 32
  o1 : OwnC W (B + 2) pv (conL i)
  o2 : OwnL W (B + 2) lv (attL j)
theorem Sz.start {w W : World} (h : Below w.heap.size w W) (z : Int) : Sz w ((W.alloc (.cells #[.int .i64 3, .int .i64 31, .int .i64 9223372036854775807, .int .i64 z, .int .i64 0, nilS, nilS] 32)).alloc (.cells #[.int .i64 5, .int .i64 31, .int .i64 9223372036854775807, .int .i64 0, .int .i64 0, nilS, nilS] 32)) W.heap.size z 0 0 nilS nilS where
  be := (h.alloc h.size _).alloc (by have := h.size; simp; omega) _
  wB := h.size
  x1 := (box_new W _ _).more _
  x2 := by
    have h := box_new (W.alloc (.cells #[.int .i64 3, .int .i64 31, .int .i64 9223372036854775807, .int .i64 z, .int .i64 0, nilS, nilS] 32)) #[.int .i64 5, .int .i64 31, .int .i64 9223372036854775807, .int .i64 0, .int .i64 0, nilS, nilS] 32
    simpa using h
  o1 := own_nil _ _
  o2 := own_nil _ _
theorem Sz.on {w W W' : World} {B : Nat} {z : Int} {i j : Nat} {pv lv : Value} (h : Sz w W B z i j pv lv) (hb : Below W.heap.size W W') : Sz w W' B z i j pv lv where
  be := h.be.trans (hb.mono h.be.size)
  wB := h.wB
  x1 := h.x1.on hb
  x2 := h.x2.on hb
  o1 := h.o1.kept (w' := W') (row := none) ⟨hb.os, hb.tape, hb.output, hb.size, fun k hk _ => hb.block k hk⟩ (by cases pv.ownBlock <;> simp)
  o2 := h.o2.kept (w' := W') (row := none) ⟨hb.os, hb.tape, hb.output, hb.size, fun k hk _ => hb.block k hk⟩ (by cases lv.ownBlock <;> simp)
theorem Sz.pushC {w W : World} {B : Nat} {z : Int} {i j : Nat} {pv lv : Value} (h : Sz w W B z i j pv lv) (hi : i ≤ 10) (n : Nat) (hn : W.heap.size = n) :
    ∃ g cap w', (Builtin.append_ #[29, 29] 29 #[pv, .slice (some ⟨n, 0, none⟩) 1 1]).run Tryd.prog (W.alloc (.cells #[.string (nmA i), .int .i64 1, .int .i64 (-9223372036854775808), .int .i64 9223372036854775807, .string ⟨#[]⟩] 57)) = .ok (.slice (some ⟨g, 0, none⟩) (i + 1) cap) w' ∧ Box w' B #[.int .i64 3, .int .i64 31, .int .i64 9223372036854775807, .int .i64 z, .int .i64 0, pv, nilS] 32 ∧ Sz w (w'.setCell ⟨B, 5, none⟩ (.slice (some ⟨g, 0, none⟩) (i + 1) cap)) B z (i + 1) j (.slice (some ⟨g, 0, none⟩) (i + 1) cap) lv := by
  subst hn
  have hlit := row_lit okC W [conA i] 1 rfl (by simp) #[.string (nmA i), .int .i64 1, .int .i64 (-9223372036854775808), .int .i64 9223372036854775807, .string ⟨#[]⟩] rfl
  have h' := h.on ((Below.refl W.heap.size W).alloc (Nat.le_refl _) (.cells #[.string (nmA i), .int .i64 1, .int .i64 (-9223372036854775808), .int .i64 9223372036854775807, .string ⟨#[]⟩] 57))
  have hB : B + 2 ≤ (W.alloc (.cells #[.string (nmA i), .int .i64 1, .int .i64 (-9223372036854775808), .int .i64 9223372036854775807, .string ⟨#[]⟩] 57)).heap.size := by have := h'.x2.lt; omega
  obtain ⟨v', w', r, o', gr⟩ := app_row okC (B + 2) h'.o1 (Row.of_own hlit) (by rw [conL_len]; omega) (by simp) hB 29
  rw [← conL_succ] at o'
  obtain ⟨g, cap, rfl⟩ : ∃ g cap, v' = .slice (some ⟨g, 0, none⟩) (i + 1) cap := by
    rcases own_open o' with ⟨_, e⟩ | ⟨g, cap, cur, e, _⟩
    · have := congrArg List.length e; rw [conL_len] at this; simp at this
    · exact ⟨g, cap, by rw [e, conL_len]⟩
  have n1 : pv.ownBlock ≠ some B := fun e => by have := (h.o1.lt B e).1; omega
  have n2 : pv.ownBlock ≠ some (B + 1) := fun e => by have := (h.o1.lt (B + 1) e).1; omega
  have b1 := box_grown h'.x1 gr n1
  have b2 := box_grown h'.x2 gr n2
  refine ⟨g, cap, w', r, b1, ?_, h.wB, ?_, ?_, ?_, ?_⟩
  · have hd := h'.be.size
    exact (h'.be.grown gr h'.be.size fun k hk => by have := (h.o1.lt k hk).1; have := h.wB; omega).setCell h.wB _
  · have := box_set (k := 5) b1 (.slice (some ⟨g, 0, none⟩) (i + 1) cap)
    simpa using this
  · exact (RowKit.Below.heap_setCell _ _ _ _ (by simp)).trans b2
  · exact own_set o' B 5 _ (by omega)
  · exact own_set (h'.o2.kept gr (own_apart h'.o2 h'.o1 (by decide))) B 5 _ (by omega)
theorem Sz.pushA {w W : World} {B : Nat} {z : Int} {i j : Nat} {pv lv : Value} (h : Sz w W B z i j pv lv) (hj : j ≤ 10) (n : Nat) (hn : W.heap.size = n) :
    ∃ g cap w', (Builtin.append_ #[30, 30] 30 #[lv, .slice (some ⟨n, 0, none⟩) 1 1]).run Tryd.prog (W.alloc (.cells #[.string (nmA j), .bool true, .int .i64 0, .string abcT] 61)) = .ok (.slice (some ⟨g, 0, none⟩) (j + 1) cap) w' ∧ Box w' (B + 1) #[.int .i64 5, .int .i64 31, .int .i64 9223372036854775807, .int .i64 0, .int .i64 0, nilS, lv] 32 ∧ Sz w (w'.setCell ⟨B + 1, 6, none⟩ (.slice (some ⟨g, 0, none⟩) (j + 1) cap)) B z i (j + 1) pv (.slice (some ⟨g, 0, none⟩) (j + 1) cap) := by
  subst hn
  have hlit := row_lit okA W [attA j] 1 rfl (by simp) #[.string (nmA j), .bool true, .int .i64 0, .string abcT] rfl
  have h' := h.on ((Below.refl W.heap.size W).alloc (Nat.le_refl _) (.cells #[.string (nmA j), .bool true, .int .i64 0, .string abcT] 61))
  have hB : B + 2 ≤ (W.alloc (.cells #[.string (nmA j), .bool true, .int .i64 0, .string abcT] 61)).heap.size := by have := h'.x2.lt; omega
  obtain ⟨v', w', r, o', gr⟩ := app_row okA (B + 2) h'.o2 (Row.of_own hlit) (by rw [attL_len]; omega) (by simp) hB 30
  rw [← attL_succ] at o'
  obtain ⟨g, cap, rfl⟩ : ∃ g cap, v' = .slice (some ⟨g, 0, none⟩) (j + 1) cap := by
    rcases own_open o' with ⟨_, e⟩ | ⟨g, cap, cur, e, _⟩
    · have := congrArg List.length e; rw [attL_len] at this; simp at this
    · exact ⟨g, cap, by rw [e, attL_len]⟩
  have n1 : lv.ownBlock ≠ some B := fun e => by have := (h.o2.lt B e).1; omega
  have n2 : lv.ownBlock ≠ some (B + 1) := fun e => by have := (h.o2.lt (B + 1) e).1; omega
  have b1 := box_grown h'.x1 gr n1
  have b2 := box_grown h'.x2 gr n2
  refine ⟨g, cap, w', r, b2, ?_, h.wB, ?_, ?_, ?_, ?_⟩
  · exact (h'.be.grown gr h'.be.size fun k hk => by have := (h.o2.lt k hk).1; have := h.wB; omega).setCell (by have := h.wB; show w.heap.size ≤ B + 1; omega) _
  · exact (RowKit.Below.heap_setCell _ _ _ _ (by simp)).trans b1
  · have := box_set (k := 6) b2 (.slice (some ⟨g, 0, none⟩) (j + 1) cap)
    simpa using this
  · exact own_set (h'.o1.kept gr (own_apart h'.o1 h'.o2 (by decide))) (B + 1) 6 _ (by omega)
  · exact own_set o' (B + 1) 6 _ (by omega)
end Go.Proofs.YtfcgfnmokbbcaaaDoor.Ws

namespace Go.Proofs.YtfcgfnmokbbcaaaDoor.Ar
open Go.ChangeShapes Go.WideShapes Go.RowKit

/-- Are these types readable rows of the program? -/
def readable (P : Program) (ts : List TypeId) : Bool := ts.all fun t => P.readableRec t && decide (t < P.types.size)
theorem carry {H : Type} {enc : TypeId × Value → H} {P : Program} (hl : laidOutB P = true) {W W' : World} (hb : Below W.heap.size W W') :
    ∀ (ts : List TypeId) (vs : List Value) (ds : List (DataW H)) (ps : List MemPlace), readable P ts = true → DataW.TrodAll enc P W 0 (fun _ => true) true ts vs ds ps → (∀ x ∈ ps, x.block < W.heap.size) →
      DataW.TrodAll enc P W' 0 (fun b => decide (b < W.heap.size)) true ts vs ds ps
  | [], vs, ds, ps, _, h, _ => by
    obtain ⟨rfl, rfl, rfl⟩ := trodAll_nil h
    exact trodAll_mk0
  | t :: ts, vs, ds, ps, hr, h, hlt => by
    obtain ⟨v, vs', d, ds', p, q, rfl, rfl, rfl, h1, h2⟩ := trodAll_cons h
    simp only [readable, List.all_cons, Bool.and_eq_true, decide_eq_true_eq] at hr
    exact trodAll_cons_mk (Below.trod hl hr.1.1 hr.1.2 h1 hb (fun x hx => hlt x (List.mem_append_left _ hx)))
      (carry hl hb ts vs' ds' q hr.2 h2 (fun x hx => hlt x (List.mem_append_right _ hx)))

theorem cellsV : Tryd.prog.cellsOf 59 = 3 := by kernel_rfl
theorem cellsBool : Tryd.prog.cellsOf 4 = 1 := by kernel_rfl
theorem cellsInt : Tryd.prog.cellsOf 3 = 1 := by kernel_rfl
theorem cellsStr : Tryd.prog.cellsOf 9 = 1 := by kernel_rfl
set_option maxRecDepth 100000 in
theorem open_value {H : Type} {enc : TypeId × Value → H} {W : World} {r : Reach} {b0 base : Nat} {sp : Nat → Bool} {held : Bool} {v : Value} {d : DataW H} {ps : List MemPlace}
    (hval : Value.okWide Tryd.prog W r b0 59 v) (hd : DataW.Trod enc Tryd.prog W base sp held 59 v d ps) :
    ∃ (t : Bool) (n : Int) (s : ByteArray), v = .agg #[.bool t, .int .i64 n, .string s] ∧ (Lit.int .i64 n).wf = true ∧ s.size ≤ maxLen := by
  obtain ⟨cs, rfl, hsz⟩ := okWide_struct Tryd.underlying59 hval
  obtain ⟨fuel, hf⟩ := hd
  obtain ⟨xs, n, _, _, _, hxl, hx⟩ := DataW.trod_struct Tryd.underlying59 hf
  rw [cellsV] at hsz
  obtain ⟨l⟩ := cs
  match l, hsz with
  | [c0, c1, c2], _ =>
    have f0 : DataW.trod enc Tryd.prog W base sp held n 4 (([c0, c1, c2].drop 0).take (Tryd.prog.cellsOf 4)) = xs[0]? := hx 0 _ rfl
    have f1 : DataW.trod enc Tryd.prog W base sp held n 3 (([c0, c1, c2].drop 1).take (Tryd.prog.cellsOf 3)) = xs[1]? := hx 1 _ rfl
    have f2 : DataW.trod enc Tryd.prog W base sp held n 9 (([c0, c1, c2].drop 2).take (Tryd.prog.cellsOf 9)) = xs[2]? := hx 2 _ rfl
    have hxl' : xs.length = 3 := hxl
    simp only [cellsBool, cellsInt, cellsStr, List.drop_zero, List.drop_succ_cons, List.take_succ_cons, List.take_zero] at f0 f1 f2
    rw [List.getElem?_eq_getElem (by omega)] at f0 f1 f2
    obtain ⟨b, e0, _⟩ := DataW.trod_bool Tryd.underlying4 f0
    obtain ⟨m, e1, _, hw⟩ := DataW.trod_int Tryd.underlying3 f1
    obtain ⟨s, e2, _, hs⟩ := DataW.trod_string Tryd.underlying9 f2
    simp only [List.cons.injEq, and_true] at e0 e1 e2
    subst e0 e1 e2
    exact ⟨b, m, s, rfl, hw, hs⟩
end Go.Proofs.YtfcgfnmokbbcaaaDoor.Ar
