/-
  Num of the statements' own package: a number of 64 bits, 0 or more, in decimals. No other condition.
-/
import Derived.Test.YtdcddhckhbjkeaaDoorProg
import Derived.WalkKit
import Derived.WalkLawsBesides
import Derived.Deep.RegionWith
import Derived.Lib.ItoaNum
import Derived.Lib.Hide
import Derived.IntWalk
namespace Go.Proofs.YtdcddhckhbjkeaaDoor.Va
open Go.RowKit

/-- string([]byte{c}), of a block that holds c. -/
theorem conv1 (c : Int) (b : Nat) (W : World) (h1 : W.cell? ⟨b, 0, none⟩ = some (.int .u8 c)) :
    (convert 41 9 (.slice (some ⟨b, 0, none⟩) 1 1)).run Tryd.prog W = .ok (.string ⟨#[UInt8.ofNat c.toNat]⟩) W := by
  have h := run_bytesToString (P := Tryd.prog) W ⟨b, 0, none⟩ 1 1 [c] (by simp [loadCells, loadCellsFrom, go_sem, h1, Addr.add])
  rw [run_convert_bytes_string _ 41 9 5 _ _ _ Tryd.underlying41 Tryd.underlying5 Tryd.underlying9, h]
  rfl

theorem digits_small (n : Int) (h0 : 0 ≤ n) (hn : n < 10) : Value.string ⟨#[UInt8.ofNat (48 + n).toNat]⟩ = .string ⟨(Lib.decDigits n.toNat).toArray⟩ := by
  rw [Lib.decDigits_one (by omega), show (48 + n).toNat = 48 + n.toNat by omega]
theorem nDigits_le : ∀ (k u : Nat), u < 10 ^ (k + 1) → Lib.nDigits u ≤ k + 1
  | 0, u, h => by rw [Lib.nDigits_small (by simpa using h)]; omega
  | k + 1, u, h => by
    by_cases h2 : u < 10
    · rw [Lib.nDigits_small h2]; omega
    · rw [Lib.nDigits_big h2]
      have := nDigits_le k (u / 10) (by rw [Nat.pow_succ] at h; omega)
      omega
theorem cat_digits (n : Int) (h0 : 10 ≤ n) (h1 : n ≤ 9223372036854775807) (W : World) :
    (Op.stringOp .add ⟨(Lib.decDigits (n / 10).toNat).toArray⟩ ⟨#[UInt8.ofNat (48 + n % 10).toNat]⟩).run Tryd.prog W = .ok (.string ⟨(Lib.decDigits n.toNat).toArray⟩) W := by
  have hl : (Lib.decDigits (n / 10).toNat).length ≤ 20 := by
    rw [Lib.decDigits_length]
    exact nDigits_le 19 _ (by
      have : (n / 10).toNat ≤ 9223372036854775807 := by omega
      have h2 : (9223372036854775807 : Nat) < 10 ^ (19 + 1) := by decide
      omega)
  have h := run_string_add_lists (P := Tryd.prog) W (Lib.decDigits (n / 10).toNat) [UInt8.ofNat (48 + n % 10).toNat] (by omega) (by simp)
  have e : Lib.decDigits n.toNat = Lib.decDigits (n / 10).toNat ++ [UInt8.ofNat (48 + n % 10).toNat] := by
    rw [Lib.decDigits, dif_neg (by omega), show n.toNat / 10 = (n / 10).toNat by omega, show 48 + n.toNat % 10 = (48 + n % 10).toNat by omega]
  rw [e]
  exact h
theorem ret_val {a b : Value} (h : a = b) : Ending.returned a = .returned b := by rw [h]

set_option maxRecDepth 100000 in
set_option maxHeartbeats 400000 in
theorem num_small (n : Int) (w : World) (h0 : 0 ≤ n) (hn : n < 10) :
    Calls Tryd.prog 15 #[.int .i64 n] w fun e w' => e = .returned (.string ⟨(Lib.decDigits n.toNat).toArray⟩) ∧ Below w.heap.size w w' := by
  have hcv := conv1 (48 + n)
  have D := Lib.hid (digits_small n h0 hn)
  go_enter Tryd.func15, Tryd.ntmps15
  go_wp2_with fail
  go_ret
  exact ⟨ret_val D.out, (Below.refl _ _).alloc (Nat.le_refl _) _⟩

set_option maxRecDepth 100000 in
set_option maxHeartbeats 1000000 in
theorem num_big (n : Int) (w : World) (h0 : 10 ≤ n) (h1 : n ≤ 9223372036854775807)
    (ih : ∀ w0, Calls Tryd.prog 15 #[.int .i64 (n / 10)] w0 fun e w' => e = .returned (.string ⟨(Lib.decDigits (n / 10).toNat).toArray⟩) ∧ Below w0.heap.size w0 w') :
    Calls Tryd.prog 15 #[.int .i64 n] w fun e w' => e = .returned (.string ⟨(Lib.decDigits n.toNat).toArray⟩) ∧ Below w.heap.size w w' := by
  have hcv := conv1 (48 + n % 10)
  have hr0 : 0 ≤ n % 10 := by omega
  have hr1 : n % 10 < 10 := by omega
  have hct := cat_digits n h0 h1
  have IH := Lib.hid ih
  clear ih
  go_enter Tryd.func15, Tryd.ntmps15
  go_wp2_with fail
  have hd1 : n.tdiv 10 = n / 10 := Int.tdiv_eq_ediv_of_nonneg (by omega)
  have hm1 : n.tmod 10 = n % 10 := Int.tmod_eq_emod_of_nonneg (by omega)
  have hw1 : IntKind.i64.wrap (n / 10) = n / 10 := IntWalk.i64_in _ (by omega)
  have hw2 : IntKind.i64.wrap (n % 10) = n % 10 := IntWalk.i64_in _ (by omega)
  have hw3 : IntKind.i64.wrap (48 + n % 10) = 48 + n % 10 := IntWalk.i64_in _ (by omega)
  have hw4 : IntKind.u8.wrap (48 + n % 10) = 48 + n % 10 := IntWalk.u8_in _ (by omega)
  go_region_with (go_at_call 15; refine (IH.out _).mono ?_; rintro e w' ⟨rfl, hb⟩; (try have hcl : w'.cell? ⟨w.heap.size, 0, none⟩ = some (.int .u8 (48 + n % 10)) := by (rw [hb.cell (by simp)]; simp)))
  all_goals (try go_wp2)
  all_goals go_ret
  all_goals refine ⟨rfl, ?_⟩
  all_goals first | exact ((((Below.refl _ _).drew).trans hb).alloc hb.size _) | exact ((((Below.refl _ _).alloc (Nat.le_refl _) _).drew).trans (hb.mono (by simp)))

theorem num_pos (k : Nat) : ∀ (n : Int) (w : World), 0 ≤ n → n ≤ k → n ≤ 9223372036854775807 →
    Calls Tryd.prog 15 #[.int .i64 n] w fun e w' => e = .returned (.string ⟨(Lib.decDigits n.toNat).toArray⟩) ∧ Below w.heap.size w w' := by
  induction k with
  | zero => intro n w h0 hk _; exact num_small n w h0 (by omega)
  | succ k ih =>
    intro n w h0 hk h1
    by_cases hn : n < 10
    · exact num_small n w h0 hn
    · exact num_big n w (by omega) h1 (fun w0 => ih (n / 10) w0 (by omega) (by omega) (by omega))

theorem cat_minus (n : Int) (h0 : n < 0) (h1 : -9223372036854775807 ≤ n) (W : World) :
    (Op.stringOp .add ⟨#[45]⟩ ⟨(Lib.decDigits (-n).toNat).toArray⟩).run Tryd.prog W = .ok (.string ⟨(Lib.itoa n).toArray⟩) W := by
  have hl : (Lib.decDigits (-n).toNat).length ≤ 20 := by
    rw [Lib.decDigits_length]
    exact nDigits_le 19 _ (by
      have : (-n).toNat ≤ 9223372036854775807 := by omega
      have h2 : (9223372036854775807 : Nat) < 10 ^ (19 + 1) := by decide
      omega)
  have h := run_string_add_lists (P := Tryd.prog) W [45] (Lib.decDigits (-n).toNat) (by simp) (by omega)
  have e : Lib.itoa n = [45] ++ Lib.decDigits (-n).toNat := by
    unfold Lib.itoa
    rw [if_pos h0, show n.natAbs = (-n).toNat by omega]
    rfl
  rw [e]
  exact h

set_option maxRecDepth 100000 in
set_option maxHeartbeats 1000000 in
/-- Num of every number but the least one. -/
theorem num_any (n : Int) (w : World) (h0 : -9223372036854775807 ≤ n) (h1 : n ≤ 9223372036854775807) :
    Calls Tryd.prog 15 #[.int .i64 n] w fun e w' => e = .returned (.string ⟨(Lib.itoa n).toArray⟩) ∧ Below w.heap.size w w' := by
  by_cases hn : n < 0
  · have C := Lib.hid (num_pos (-n).toNat (-n) w (by omega) (by omega) (by omega))
    have hct := cat_minus n hn h0
    go_enter Tryd.func15, Tryd.ntmps15
    go_wp2_with fail
    refine C.out.mono ?_
    rintro e w' ⟨rfl, hb⟩
    have HB := Lib.hid hb
    clear hb
    go_wp2
    go_ret
    exact ⟨rfl, HB.out⟩
  · have h := num_pos n.toNat n w (by omega) (by omega) h1
    have e : Lib.itoa n = Lib.decDigits n.toNat := by unfold Lib.itoa; rw [if_neg hn]
    rw [e]
    exact h
end Go.Proofs.YtdcddhckhbjkeaaDoor.Va
