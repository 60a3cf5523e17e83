/-
  Holds of package pred: does a constraint allow a value. No condition.
  Name of package tuple and RightOne of package pred: may a constraint stand in a predicate. Condition: texts below a machine's length.
-/
import Derived.Test.YtonoadjmglkhaaaGreatV007
import Derived.Test.YtonoadjmglkhaaaGreatV023
import Derived.Lib.Strings
import Derived.Lib.Hide
import Derived.Lib.QuietBelow
import Derived.BigQuiet
import Derived.IntWalk
namespace Go.Proofs.YtonoadjmglkhaaaGreat.Pr
open Go.RowKit Go.Sort Go.Proofs.YtonoadjmglkhaaaGreat Go.Proofs.YtonoadjmglkhaaaGreat.Pu Go.Proofs.YtonoadjmglkhaaaGreat.Rw Go.Proofs.YtonoadjmglkhaaaGreat.Va

theorem pfx_len (s u : ByteArray) (h : s.size = u.size) : pfx u s = (s.data.toList == u.data.toList) := by
  have hl : u.data.toList.length = s.data.toList.length := by rw [Array.length_toList, Array.length_toList]; exact h.symm
  rw [Bool.eq_iff_iff, beq_iff_eq, pfx_iff]
  exact ⟨fun h1 => (h1.eq_of_length hl).symm, fun h1 => by rw [h1]; exact List.prefix_refl _⟩
theorem size_not (s u : ByteArray) (h : ¬ s.size = u.size) : (s.data.toList == u.data.toList) = false := by
  rw [beq_eq_false_iff_ne]
  intro e
  have := congrArg List.length e
  rw [Array.length_toList, Array.length_toList] at this
  exact h this
theorem hB (w : World) (nm : ByteArray) (k lo hi : Int) (u : ByteArray) (t : Bool) (n : Int) (s : ByteArray) : Below w.heap.size w ((w.alloc (.cells #[.string nm, .int .i64 k, .int .i64 lo, .int .i64 hi, .string u] 62)).alloc (.cells #[.bool t, .int .i64 n, .string s] 188)) :=
  ((Below.refl w.heap.size w).alloc (Nat.le_refl _) _).alloc (by simp) _
end Go.Proofs.YtonoadjmglkhaaaGreat.Pr

namespace Go.Proofs.YtonoadjmglkhaaaGreat.Pr
open Go.RowKit Go.Sort Go.Proofs.YtonoadjmglkhaaaGreat Go.Proofs.YtonoadjmglkhaaaGreat.Pu Go.Proofs.YtonoadjmglkhaaaGreat.Rw Go.Proofs.YtonoadjmglkhaaaGreat.Va

set_option maxHeartbeats 1000000 in
theorem name_same (s : ByteArray) (w : World) (hs : s.size ≤ maxLen) :
    Calls Tryz.prog 122 #[.string s] w fun e w' => e = .returned (.bool (nameB s)) ∧ w = w' := by
  unfold maxLen at hs
  go_enter Tryz.func122, Tryz.ntmps122
  go_wp2
  go_loop [6] (fun i => ∃ k : Nat, k ≤ s.size ∧ i = .int .i64 k ∧ ∀ (j : Nat) (hj : j < s.size), j < k → letB s[j] = true) (fun i => s.size - (intOf i).toNat)
  case atStart => exact ⟨0, Nat.zero_le _, rfl, fun j hj h => by omega⟩
  case round =>
    obtain ⟨k, hk, rfl, hall⟩ := hrel
    have AL := Lib.hid hall
    clear hall
    by_cases hlt : k < s.size
    · have hcl : (s[k].toNat : Int) < 256 := by have := s[k].toNat_lt; omega
      by_cases h1 : 97 ≤ s[k].toNat
      · by_cases h2 : s[k].toNat ≤ 122
        · have L := Lib.hid (show letB s[k] = true by simp [letB, h1, h2])
          have d1 : decide ((s[k].toNat : Int) < 97) = false := by simp; omega
          have d2 : decide ((122 : Int) < (s[k].toNat : Int)) = false := by simp; omega
          clear h1 h2
          go_wp2
          go_round
          case rel => exact ⟨k + 1, by omega, by go_num, fun j hj h => by
            rcases Nat.lt_or_ge j k with h3 | h3
            · exact AL.out j hj h3
            · obtain rfl : j = k := by omega
              exact L.out⟩
          case measure => simp [intOf]; omega
        · have R := Lib.hid (show nameB s = false from nameB_not s k hlt (by simp [letB, h2]))
          have d1 : decide ((s[k].toNat : Int) < 97) = false := by simp; omega
          have d2 : decide ((122 : Int) < (s[k].toNat : Int)) = true := by simp; omega
          clear h1 h2
          go_wp2
          go_ret
          exact ⟨ret_bool R.out.symm, rfl⟩
      · have R := Lib.hid (show nameB s = false from nameB_not s k hlt (by simp [letB, h1]))
        have d1 : decide ((s[k].toNat : Int) < 97) = true := by simp; omega
        clear h1
        go_wp2
        go_ret
        exact ⟨ret_bool R.out.symm, rfl⟩
    · obtain rfl : k = s.size := by omega
      have R := Lib.hid (nameB_end s (fun j hj => AL.out j hj hj))
      by_cases h1 : 1 ≤ s.size
      · have R2 := Lib.hid (show nameB s = decide ((s.size : Int) ≤ 12) by rw [R.out]; simp [h1]; omega)
        go_wp2
        go_ret
        exact ⟨ret_bool R2.out.symm, rfl⟩
      · have R2 := Lib.hid (show nameB s = false by rw [R.out]; simp [h1])
        have d1 : decide ((1 : Int) ≤ (s.size : Int)) = false := by simp; omega
        go_wp2
        go_ret
        exact ⟨ret_bool R2.out.symm, rfl⟩

theorem oB (w : World) (nm : ByteArray) (k lo hi : Int) (u : ByteArray) : Below w.heap.size w (w.alloc (.cells #[.string nm, .int .i64 k, .int .i64 lo, .int .i64 hi, .string u] 62)) :=
  (Below.refl w.heap.size w).alloc (Nat.le_refl _) _
set_option maxRecDepth 100000 in
set_option maxHeartbeats 4000000 in
theorem one_any (c : Cn) (w : World) (hs : c.1.size ≤ maxLen) : Calls Tryz.prog 94 #[cv (r5 c)] w fun e w' => e = .returned (.bool (goodC c)) ∧ Below w.heap.size w w' := by
  obtain ⟨nm, k⟩ := c
  have NA := Lib.hid (name_same nm (w.alloc (.cells #[.string nm, .int .i64 (kN k), .int .i64 (kLo k), .int .i64 (kHi k), .string (kT k)] 62)) hs)
  have B := Lib.hid (oB w nm (kN k) (kLo k) (kHi k) (kT k))
  have R := Lib.hid (show goodC (nm, k) = (nameB nm && goodK k) from rfl)
  clear hs
  generalize goodC (nm, k) = r at *
  obtain ⟨q, hq⟩ : ∃ q, nameB nm = q := ⟨_, rfl⟩
  rw [hq] at NA R
  clear hq
  cases k with
  | rg lo hi =>
    simp only [r5, kN, kLo, kHi, kT] at *
    cases q
    · go_enter Tryz.func94, Tryz.ntmps94
      go_wp2_with fail
      refine NA.out.mono ?_
      rintro e w' ⟨rfl, rfl⟩
      go_wp2
      go_ret
      exact ⟨ret_bool (by rw [R.out]; simp), B.out⟩
    · by_cases h1 : lo ≤ hi <;> have H1 := Lib.hid h1
      all_goals
        go_enter Tryz.func94, Tryz.ntmps94
        go_wp2_with fail
        refine NA.out.mono ?_
        rintro e w' ⟨rfl, rfl⟩
        go_wp2
        go_ret
        exact ⟨ret_bool (by rw [R.out]; have h := H1.out; simp [goodK, h] <;> omega), B.out⟩
  | tx u =>
    simp only [r5, kN, kLo, kHi, kT] at *
    cases q
    · go_enter Tryz.func94, Tryz.ntmps94
      go_wp2_with fail
      refine NA.out.mono ?_
      rintro e w' ⟨rfl, rfl⟩
      go_wp2
      go_ret
      exact ⟨ret_bool (by rw [R.out]; simp), B.out⟩
    · go_enter Tryz.func94, Tryz.ntmps94
      go_wp2_with fail
      refine NA.out.mono ?_
      rintro e w' ⟨rfl, rfl⟩
      go_wp2
      go_ret
      exact ⟨ret_bool (by rw [R.out]; simp [goodK]; omega), B.out⟩
  | pr u =>
    simp only [r5, kN, kLo, kHi, kT] at *
    cases q
    · go_enter Tryz.func94, Tryz.ntmps94
      go_wp2_with fail
      refine NA.out.mono ?_
      rintro e w' ⟨rfl, rfl⟩
      go_wp2
      go_ret
      exact ⟨ret_bool (by rw [R.out]; simp), B.out⟩
    · by_cases h1 : u.size < 12
      · have e1 : decide ((12 : Int) ≤ (u.size : Int)) = false := by simp; omega
        have e2 : decide ((u.size : Int) ≤ 12) = true := by simp; omega
        have H1 := Lib.hid h1
        clear h1
        go_enter Tryz.func94, Tryz.ntmps94
        go_wp2_with fail
        refine NA.out.mono ?_
        rintro e w' ⟨rfl, rfl⟩
        go_wp2
        go_ret
        exact ⟨ret_bool (by rw [R.out]; have h := H1.out; simp [goodK, h]), B.out⟩
      · have e1 : decide ((12 : Int) ≤ (u.size : Int)) = true := by simp; omega
        have H1 := Lib.hid h1
        clear h1
        go_enter Tryz.func94, Tryz.ntmps94
        go_wp2_with fail
        refine NA.out.mono ?_
        rintro e w' ⟨rfl, rfl⟩
        go_wp2
        go_ret
        exact ⟨ret_bool (by rw [R.out]; have h := H1.out; simp [goodK]; omega), B.out⟩
end Go.Proofs.YtonoadjmglkhaaaGreat.Pr
