/-
  Same of the statements' own package, of two rows of bytes, of two rows of numbers. Condition: lists no longer than a machine holds.
-/
import Derived.Test.YtobdddggdfcdlaaNmNum
namespace Go.Proofs.Ytobdddggdfcdlaa.Nm
open Go.RowKit Go.Proofs.Ytobdddggdfcdlaa Go.Proofs.Ytobdddggdfcdlaa.Rw

theorem take_eq {α : Type} {a b : List α} {k : Nat} {x y : α} (h : a.take k = b.take k) (hx : a[k]? = some x) (hy : b[k]? = some y) (e : x = y) : a.take (k + 1) = b.take (k + 1) := by
  rw [List.take_add_one, List.take_add_one, hx, hy, h, e]
set_option maxRecDepth 100000 in
set_option maxHeartbeats 8000000 in
theorem sameB (av bv : Value) (a b : List UInt8) (w : World) (ha : RowB w av a) (hb : RowB w bv b) :
    Calls Try.prog 10 #[av, bv] w fun e w' => e = .returned (.bool (decide (a = b))) ∧ Below w.heap.size w w' := by
  have HA := Lib.hid ha
  have HB := Lib.hid hb
  have ma := ha.most
  have mb := hb.most
  unfold maxLen at ma mb
  obtain ⟨ao, ac, rfl⟩ := ha.len
  obtain ⟨bo, bc, rfl⟩ := hb.len
  clear ha hb
  by_cases hl : a.length = b.length
  · obtain ⟨n, hn⟩ : ∃ n, n = a.length := ⟨_, rfl⟩
    have NA := Lib.hid hn.symm
    have NB := Lib.hid (hl.symm.trans hn.symm)
    rw [← hl, ← hn] at HB
    rw [← hn] at HA ma
    rw [← hl, ← hn]
    clear hl hn mb
    go_enter Try.func10, Try.ntmps10
    go_wp2
    go_loopw [5] (fun i wr => ∃ k : Nat, k ≤ n ∧ i = .int .i64 k ∧ a.take k = b.take k ∧ Below w.heap.size w wr) (fun i _ => n - (intOf i).toNat)
    case atStart => exact ⟨0, Nat.zero_le _, rfl, rfl, Below.refl _ _⟩
    case round =>
      obtain ⟨k, hk, rfl, htk, hbe⟩ := hrel
      have TK := Lib.hid htk
      have BE := Lib.hid hbe
      clear hbe htk
      by_cases hlt : k < n
      · obtain ⟨x, hx⟩ : ∃ x, a[k]? = some x := ⟨_, List.getElem?_eq_getElem (by rw [NA.out]; exact hlt)⟩
        obtain ⟨y, hy⟩ : ∃ y, b[k]? = some y := ⟨_, List.getElem?_eq_getElem (by rw [NB.out]; exact hlt)⟩
        obtain ⟨p, ix, _, px⟩ := elB HA.out rfl NA.out hx
        obtain ⟨q, iy, _, py⟩ := elB HB.out rfl NB.out hy
        have p0 := cell_regrown (px _ BE.out)
        have q0 := cell_regrown (py _ BE.out)
        obtain ⟨r, hr⟩ : ∃ r, ((x.toNat : Int) == (y.toNat : Int)) = r := ⟨_, rfl⟩
        have HX := Lib.hid hx
        have HY := Lib.hid hy
        have HR := Lib.hid hr
        clear px py hx hy
        go_wp2
        have hr2 : ((x.toNat : Int) != (y.toNat : Int)) = !r := by unfold bne; rw [hr]
        cases r
        all_goals
          simp only [Bool.not_true, Bool.not_false] at hr2
          refine wp_region_quiet_below (by kernel_rfl) (by kernel_rfl) ?_
          repeat (go_big_quiet_step (fail))
          refine wpQuiet_nil ?_
          intro _ hw'
          obtain ⟨⟨dq, osq⟩, hw''⟩ := hw'
          subst hw''
          have BN := Lib.hid (BE.out.trans ((below_regrown wr dq osq).mono BE.out.size))
          clear p0 q0 ix iy hr
        · go_wp2
          go_ret
          refine ⟨?_, BN.out⟩
          have hne : a ≠ b := fun e => by
            have h1 := HX.out
            rw [e, HY.out] at h1
            cases h1
            have h2 := HR.out
            simp at h2
          rw [decide_eq_false hne]
          rfl
        · have TN := Lib.hid (take_eq TK.out HX.out HY.out (by have h := HR.out; rw [beq_iff_eq] at h; exact UInt8.toNat_inj.1 (by omega)))
          go_wp2
          go_roundw
          case rel => exact ⟨k + 1, by omega, by go_num, TN.out, BN.out⟩
          case measure => simp [intOf]; omega
      · obtain rfl : k = n := by omega
        have EQ := Lib.hid (show a = b by have h := TK.out; rwa [List.take_of_length_le (by rw [NA.out]; exact Nat.le_refl _), List.take_of_length_le (by rw [NB.out]; exact Nat.le_refl _)] at h)
        go_wp2
        go_ret
        exact ⟨by rw [decide_eq_true EQ.out]; rfl, BE.out⟩
  · have hd : ((a.length : Int) == (b.length : Int)) = false := by simp; omega
    have hd2 : (a.length == b.length) = false := by simp; exact hl
    have E := Lib.hid (decide_eq_false (show ¬ a = b from fun e => hl (by rw [e])))
    have HD := Lib.hid hl
    clear hl
    go_enter Try.func10, Try.ntmps10
    go_wp2
    go_ret
    exact ⟨by rw [E.out]; rfl, Below.refl _ _⟩
set_option maxRecDepth 100000 in
set_option maxHeartbeats 8000000 in
theorem sameI (av bv : Value) (a b : List Int) (w : World) (ha : RowI w av a) (hb : RowI w bv b) :
    Calls Try.prog 26 #[av, bv] w fun e w' => e = .returned (.bool (decide (a = b))) ∧ Below w.heap.size w w' := by
  have HA := Lib.hid ha
  have HB := Lib.hid hb
  have ma := ha.most
  have mb := hb.most
  unfold maxLen at ma mb
  obtain ⟨ao, ac, rfl⟩ := ha.len
  obtain ⟨bo, bc, rfl⟩ := hb.len
  clear ha hb
  by_cases hl : a.length = b.length
  · obtain ⟨n, hn⟩ : ∃ n, n = a.length := ⟨_, rfl⟩
    have NA := Lib.hid hn.symm
    have NB := Lib.hid (hl.symm.trans hn.symm)
    rw [← hl, ← hn] at HB
    rw [← hn] at HA ma
    rw [← hl, ← hn]
    clear hl hn mb
    go_enter Try.func26, Try.ntmps26
    go_wp2
    go_loopw [5] (fun i wr => ∃ k : Nat, k ≤ n ∧ i = .int .i64 k ∧ a.take k = b.take k ∧ Below w.heap.size w wr) (fun i _ => n - (intOf i).toNat)
    case atStart => exact ⟨0, Nat.zero_le _, rfl, rfl, Below.refl _ _⟩
    case round =>
      obtain ⟨k, hk, rfl, htk, hbe⟩ := hrel
      have TK := Lib.hid htk
      have BE := Lib.hid hbe
      clear hbe htk
      by_cases hlt : k < n
      · obtain ⟨x, hx⟩ : ∃ x, a[k]? = some x := ⟨_, List.getElem?_eq_getElem (by rw [NA.out]; exact hlt)⟩
        obtain ⟨y, hy⟩ : ∃ y, b[k]? = some y := ⟨_, List.getElem?_eq_getElem (by rw [NB.out]; exact hlt)⟩
        obtain ⟨p, ix, _, px⟩ := elI HA.out rfl NA.out hx
        obtain ⟨q, iy, _, py⟩ := elI HB.out rfl NB.out hy
        have p0 := cell_regrown (px _ BE.out)
        have q0 := cell_regrown (py _ BE.out)
        obtain ⟨r, hr⟩ : ∃ r, ((x : Int) == (y : Int)) = r := ⟨_, rfl⟩
        have HX := Lib.hid hx
        have HY := Lib.hid hy
        have HR := Lib.hid hr
        clear px py hx hy
        go_wp2
        have hr2 : ((x : Int) != (y : Int)) = !r := by unfold bne; rw [hr]
        cases r
        all_goals
          simp only [Bool.not_true, Bool.not_false] at hr2
          refine wp_region_quiet_below (by kernel_rfl) (by kernel_rfl) ?_
          repeat (go_big_quiet_step (fail))
          refine wpQuiet_nil ?_
          intro _ hw'
          obtain ⟨⟨dq, osq⟩, hw''⟩ := hw'
          subst hw''
          have BN := Lib.hid (BE.out.trans ((below_regrown wr dq osq).mono BE.out.size))
          clear p0 q0 ix iy hr
        · go_wp2
          go_ret
          refine ⟨?_, BN.out⟩
          have hne : a ≠ b := fun e => by
            have h1 := HX.out
            rw [e, HY.out] at h1
            cases h1
            have h2 := HR.out
            simp at h2
          rw [decide_eq_false hne]
          rfl
        · have TN := Lib.hid (take_eq TK.out HX.out HY.out (by have h := HR.out; rw [beq_iff_eq] at h; exact h))
          go_wp2
          go_roundw
          case rel => exact ⟨k + 1, by omega, by go_num, TN.out, BN.out⟩
          case measure => simp [intOf]; omega
      · obtain rfl : k = n := by omega
        have EQ := Lib.hid (show a = b by have h := TK.out; rwa [List.take_of_length_le (by rw [NA.out]; exact Nat.le_refl _), List.take_of_length_le (by rw [NB.out]; exact Nat.le_refl _)] at h)
        go_wp2
        go_ret
        exact ⟨by rw [decide_eq_true EQ.out]; rfl, BE.out⟩
  · have hd : ((a.length : Int) == (b.length : Int)) = false := by simp; omega
    have hd2 : (a.length == b.length) = false := by simp; exact hl
    have E := Lib.hid (decide_eq_false (show ¬ a = b from fun e => hl (by rw [e])))
    have HD := Lib.hid hl
    clear hl
    go_enter Try.func26, Try.ntmps26
    go_wp2
    go_ret
    exact ⟨by rw [E.out]; rfl, Below.refl _ _⟩
end Go.Proofs.Ytobdddggdfcdlaa.Nm
