/-
  The law PredLimits: plain facts. No program in it.
-/
import Derived.Test.YtbfecndhjlimaaaDoorPrFormsA
namespace Go.Proofs.YtbfecndhjlimaaaDoor.Pr
open Go.RowKit Go.Sort Go.Proofs.YtbfecndhjlimaaaDoor Go.Proofs.YtbfecndhjlimaaaDoor.Pu Go.Proofs.YtbfecndhjlimaaaDoor.Rw Go.Proofs.YtbfecndhjlimaaaDoor.Va Go.Proofs.YtbfecndhjlimaaaDoor.Kp

/-- So many names, each asking for any text. -/
def lim (k : Nat) : List Cn := (List.range k).map fun i => (nm i, .pr ⟨#[]⟩)
theorem lim_len (k : Nat) : (lim k).length = k := by simp [lim]
theorem lim_succ (k : Nat) : lim (k + 1) = lim k ++ [(nm k, .pr ⟨#[]⟩)] := by simp [lim, List.range_succ]
theorem lim_mem {k : Nat} {c : Cn} (h : c ∈ lim k) : ∃ i, i < k ∧ c = (nm i, .pr ⟨#[]⟩) := by
  simp only [lim, List.mem_map, List.mem_range] at h
  obtain ⟨i, h1, h2⟩ := h
  exact ⟨i, h1, h2.symm⟩
theorem lim_rise : ∀ k, k ≤ 7 → RiseC (lim k)
  | 0, _ => by simp [lim, RiseC]
  | k + 1, hk => by
    rw [lim_succ]
    refine List.pairwise_append.2 ⟨lim_rise k (by omega), List.pairwise_singleton _ _, fun x hx y hy => ?_⟩
    obtain ⟨i, h1, rfl⟩ := lim_mem hx
    simp at hy
    rw [hy]
    exact nm_less i k h1 (by omega)
theorem lim_good {k : Nat} (hk : k ≤ 7) : ∀ c ∈ lim k, goodC c = true := fun c hc => by
  obtain ⟨i, h1, rfl⟩ := lim_mem hc
  simp only [goodC, Bool.and_eq_true]
  exact ⟨nameB_nm i (by omega), by decide⟩
theorem lim_small {k : Nat} : ∀ c ∈ lim k, smallC c := fun c hc => by
  obtain ⟨i, h1, rfl⟩ := lim_mem hc
  exact ⟨by show (nm i).size ≤ 100; rw [nm_size]; omega, (by decide : (0 : Nat) ≤ 100), ⟨(by decide : (-9223372036854775808 : Int) ≤ 0), (by decide : (0 : Int) ≤ 9223372036854775807)⟩, (by decide : (-9223372036854775808 : Int) ≤ 0), (by decide : (0 : Int) ≤ 9223372036854775807)⟩
theorem lim_ok {k : Nat} (hk : k ≤ 5) : makeC (lim k) = .ok (lim k) := make_self _ (lim_rise k (by omega)) (by rw [lim_len]; exact hk)
theorem lim_err {k : Nat} (h5 : 5 < k) (hk : k ≤ 7) : makeC (lim k) = .error (7, 5) := by
  obtain ⟨r, hr⟩ : ∃ r, lim k = lim 5 ++ (nm 5, .pr ⟨#[]⟩) :: r := by
    have h : k = 6 ∨ k = 7 := by omega
    rcases h with rfl | rfl
    · exact ⟨[], rfl⟩
    · exact ⟨[(nm 6, .pr ⟨#[]⟩)], rfl⟩
  have h0 := lim_ok (k := 5) (by omega)
  rw [makeC] at h0
  rw [makeC, hr, fold_append _ _ _ _ 0 h0]
  simp only [foldC]
  rw [ins_end (lim 5) (nm 5, .pr ⟨#[]⟩) (fun x hx => by
    obtain ⟨i, h1, rfl⟩ := lim_mem hx
    exact nm_less i 5 h1 (by omega))]
  rfl
abbrev nZ : ByteArray := ⟨#[122]⟩
def nY : ByteArray := ⟨#[121]⟩
def tNo : ByteArray := ⟨#[110, 111]⟩
theorem full_ok (a b : Int) (h : a ≤ b) (h0 : -9223372036854775808 ≤ a) (h1 : b ≤ 9223372036854775807) : makeC [(nZ, .rg a b), (nZ, .rg (-9223372036854775808) 9223372036854775807)] = .ok [(nZ, .rg a b)] :=
  (make_one nZ (.rg a b) [.rg (-9223372036854775808) 9223372036854775807]).1 _ (by
    have e1 : max a (-9223372036854775808) = a := by omega
    have e2 : min b 9223372036854775807 = b := by omega
    simp only [allK, bothK]
    rw [e1, e2, if_pos h])
/-- Ranges that grow narrower, with a text at one place. -/
def kdM (c i : Nat) : Kd := if i = c + 1 then .tx tNo else .rg 0 (9 - (i : Int))
def many (c : Nat) (i : Nat) : List Cn := (List.range i).map fun j => (nY, kdM c j)
theorem many_succ (c i : Nat) : many c (i + 1) = many c i ++ [(nY, kdM c i)] := by simp [many, List.range_succ]
theorem many_len (c i : Nat) : (many c i).length = i := by simp [many]
theorem many_mem {c i : Nat} {x : Cn} (h : x ∈ many c i) : ∃ j, j < i ∧ x = (nY, kdM c j) := by
  simp only [many, List.mem_map, List.mem_range] at h
  obtain ⟨j, h1, h2⟩ := h
  exact ⟨j, h1, h2.symm⟩
theorem kdM_good {c i : Nat} (h : i < 6) : goodK (kdM c i) = true := by
  unfold kdM
  split
  · decide
  · simp only [goodK, decide_eq_true_eq]; omega
theorem many_good {c : Nat} : ∀ x ∈ many c 6, goodC x = true := fun x hx => by
  obtain ⟨j, h1, rfl⟩ := many_mem hx
  simp only [goodC, Bool.and_eq_true]
  exact ⟨by decide, kdM_good h1⟩
theorem many_small {c i : Nat} (hi : i ≤ 6) : ∀ x ∈ many c i, smallC x := fun x hx => by
  obtain ⟨j, h1, rfl⟩ := many_mem hx
  unfold kdM
  split
  · exact ⟨(by decide : nY.size ≤ 100), (by decide : tNo.size ≤ 100), ⟨(by decide : (-9223372036854775808 : Int) ≤ 0), (by decide : (0 : Int) ≤ 9223372036854775807)⟩, (by decide : (-9223372036854775808 : Int) ≤ 0), (by decide : (0 : Int) ≤ 9223372036854775807)⟩
  · refine ⟨(by decide : nY.size ≤ 100), (by decide : (0 : Nat) ≤ 100), ⟨(by decide : (-9223372036854775808 : Int) ≤ 0), (by decide : (0 : Int) ≤ 9223372036854775807)⟩, ?_, ?_⟩ <;> simp only [kHi] <;> omega
theorem fold_step (n : ByteArray) (a b : Kd) (r : List Cn) (at_ : Nat) : foldC at_ [(n, a)] ((n, b) :: r) = (match bothK a b with | some c => foldC (at_ + 1) [(n, c)] r | none => .error (5, at_)) := by
  simp only [foldC, insC]
  rw [if_neg (by rw [VaP.bl_irrefl]; decide), if_true]
  cases bothK a b <;> rfl
theorem fold_some {n : ByteArray} {a b c : Kd} {r : List Cn} {at_ : Nat} (h : bothK a b = some c) : foldC at_ [(n, a)] ((n, b) :: r) = foldC (at_ + 1) [(n, c)] r := by rw [fold_step, h]
theorem fold_none {n : ByteArray} {a b : Kd} {r : List Cn} {at_ : Nat} (h : bothK a b = none) : foldC at_ [(n, a)] ((n, b) :: r) = .error (5, at_) := by rw [fold_step, h]
theorem many_err (c : Nat) (hc : c ≤ 4) : makeC (many c 6) = .error (5, c + 1) := by
  match c, hc with
  | 0, _ =>
    rw [show many 0 6 = [(nY, .rg 0 9), (nY, .tx tNo), (nY, .rg 0 7), (nY, .rg 0 6), (nY, .rg 0 5), (nY, .rg 0 4)] from rfl]
    exact fold_none (at_ := 1) rfl
  | 1, _ =>
    rw [show many 1 6 = [(nY, .rg 0 9), (nY, .rg 0 8), (nY, .tx tNo), (nY, .rg 0 6), (nY, .rg 0 5), (nY, .rg 0 4)] from rfl]
    exact (fold_some (c := .rg 0 8) (at_ := 1) rfl).trans (fold_none (at_ := 2) rfl)
  | 2, _ =>
    rw [show many 2 6 = [(nY, .rg 0 9), (nY, .rg 0 8), (nY, .rg 0 7), (nY, .tx tNo), (nY, .rg 0 5), (nY, .rg 0 4)] from rfl]
    exact (fold_some (c := .rg 0 8) (at_ := 1) rfl).trans ((fold_some (c := .rg 0 7) (at_ := 2) rfl).trans (fold_none (at_ := 3) rfl))
  | 3, _ =>
    rw [show many 3 6 = [(nY, .rg 0 9), (nY, .rg 0 8), (nY, .rg 0 7), (nY, .rg 0 6), (nY, .tx tNo), (nY, .rg 0 4)] from rfl]
    exact (fold_some (c := .rg 0 8) (at_ := 1) rfl).trans ((fold_some (c := .rg 0 7) (at_ := 2) rfl).trans ((fold_some (c := .rg 0 6) (at_ := 3) rfl).trans (fold_none (at_ := 4) rfl)))
  | 4, _ =>
    rw [show many 4 6 = [(nY, .rg 0 9), (nY, .rg 0 8), (nY, .rg 0 7), (nY, .rg 0 6), (nY, .rg 0 5), (nY, .tx tNo)] from rfl]
    exact (fold_some (c := .rg 0 8) (at_ := 1) rfl).trans ((fold_some (c := .rg 0 7) (at_ := 2) rfl).trans ((fold_some (c := .rg 0 6) (at_ := 3) rfl).trans ((fold_some (c := .rg 0 5) (at_ := 4) rfl).trans (fold_none (at_ := 5) rfl))))
end Go.Proofs.YtbfecndhjlimaaaDoor.Pr
