/-
  Name of package tuple: is it 1 to 12 small letters. Condition: texts below a machine's length.
-/
import Derived.Test.YtpmhnmdienlgoaaDoorAtNamesF
namespace Go.Proofs.YtpmhnmdienlgoaaDoor.At
open Go.RowKit Go.Sort Go.Proofs.YtpmhnmdienlgoaaDoor.Va Go.Proofs.YtpmhnmdienlgoaaDoor.In

set_option maxHeartbeats 1000000 in
theorem name_same (s : ByteArray) (w : World) (hs : s.size ≤ maxLen) :
    Calls Tryd.prog 15 #[.string s] w fun e w' => e = .returned (.bool (nameB s)) ∧ w = w' := by
  unfold maxLen at hs
  go_enter Tryd.func15, Tryd.ntmps15
  go_wp2
  go_loop [6] (fun i => ∃ k : Nat, k ≤ s.size ∧ i = .int .i64 k ∧ ∀ (j : Nat) (hj : j < s.size), j < k → letB s[j] = true) (fun i => s.size - (intOf i).toNat)
  case atStart => exact ⟨0, Nat.zero_le _, rfl, fun j hj h => by omega⟩
  case round =>
    obtain ⟨k, hk, rfl, hall⟩ := hrel
    have AL := Lib.hid hall
    clear hall
    by_cases hlt : k < s.size
    · have hcl : (s[k].toNat : Int) < 256 := by have := s[k].toNat_lt; omega
      by_cases h1 : 97 ≤ s[k].toNat
      · by_cases h2 : s[k].toNat ≤ 122
        · have L := Lib.hid (show letB s[k] = true by simp [letB, h1, h2])
          have d1 : decide ((s[k].toNat : Int) < 97) = false := by simp; omega
          have d2 : decide ((122 : Int) < (s[k].toNat : Int)) = false := by simp; omega
          clear h1 h2
          go_wp2
          go_round
          case rel => exact ⟨k + 1, by omega, by go_num, fun j hj h => by
            rcases Nat.lt_or_ge j k with h3 | h3
            · exact AL.out j hj h3
            · obtain rfl : j = k := by omega
              exact L.out⟩
          case measure => simp [intOf]; omega
        · have R := Lib.hid (show nameB s = false from nameB_not s k hlt (by simp [letB, h2]))
          have d1 : decide ((s[k].toNat : Int) < 97) = false := by simp; omega
          have d2 : decide ((122 : Int) < (s[k].toNat : Int)) = true := by simp; omega
          clear h1 h2
          go_wp2
          go_ret
          exact ⟨ret_bool R.out.symm, rfl⟩
      · have R := Lib.hid (show nameB s = false from nameB_not s k hlt (by simp [letB, h1]))
        have d1 : decide ((s[k].toNat : Int) < 97) = true := by simp; omega
        clear h1
        go_wp2
        go_ret
        exact ⟨ret_bool R.out.symm, rfl⟩
    · obtain rfl : k = s.size := by omega
      have R := Lib.hid (nameB_end s (fun j hj => AL.out j hj hj))
      by_cases h1 : 1 ≤ s.size
      · have R2 := Lib.hid (show nameB s = decide ((s.size : Int) ≤ 12) by rw [R.out]; simp [h1]; omega)
        go_wp2
        go_ret
        exact ⟨ret_bool R2.out.symm, rfl⟩
      · have R2 := Lib.hid (show nameB s = false by rw [R.out]; simp [h1])
        have d1 : decide ((1 : Int) ≤ (s.size : Int)) = false := by simp; omega
        go_wp2
        go_ret
        exact ⟨ret_bool R2.out.symm, rfl⟩
theorem nameOk : NameOk := fun s w hs => (name_same s w hs).mono fun _ _ ⟨h1, h2⟩ => ⟨h1, h2 ▸ Below.refl _ _⟩
theorem name_re (s : ByteArray) (hs : s.size ≤ maxLen) (r : Bool) (hr : nameB s = r) (w : World) (d : Nat) (os : Array Obj) :
    Calls Tryd.prog 15 #[.string s] (grow (redrawn w d) os) fun e w'' => e = .returned (.bool r) ∧ ∃ p : Regrown, w'' = grow (redrawn w p.d) p.os := by
  subst hr
  exact (name_same s _ hs).mono fun e w' ⟨h1, h2⟩ => ⟨h1, ⟨d, os⟩, h2.symm⟩
end Go.Proofs.YtpmhnmdienlgoaaDoor.At
