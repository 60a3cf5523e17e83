/-
  The law NumOrder: bytes of numbers of 0 and more are in the numbers' order; the highest bit says that one is below 0. Condition: numbers of 64 bits.
-/
import Derived.Test.YtobdddggdfcdlaaNmRuns
import Derived.Test.YtobdddggdfcdlaaNmOrderP
namespace Go.Proofs.Ytobdddggdfcdlaa.Nm
open Go.RowKit Go.Sort Go.Proofs.Ytobdddggdfcdlaa Go.Proofs.Ytobdddggdfcdlaa.Rw

def I64 (n : Int) : Prop := -9223372036854775808 ≤ n ∧ n ≤ 9223372036854775807
theorem numsB_one (n : Int) : numsB [n] = numB n := by simp [numsB]
set_option maxRecDepth 100000 in
set_option maxHeartbeats 8000000 in
theorem order_any (n m : Int) (w : World) (hn : I64 n) (hm : I64 m) : Calls Try.prog 5 #[.int .i64 n, .int .i64 m] w fun e w' => e = .returned (.bool true) ∧ Below w.heap.size w w' := by
  have IN := Lib.hid hn
  have IM := Lib.hid hm
  clear hn hm
  have N0 := Lib.hid (new_below w (.cells #[.int .i64 n] 3))
  have C0 := Lib.hid (number_any _ [n] _ (Row.of_own (litI w [n] 1 #[.int .i64 n] rfl (by simp) rfl)) (by simp))
  go_enter Try.func5, Try.ntmps5
  go_wp2_with fail
  refine C0.out.mono ?_
  rw [numsB_one]
  rintro e w1 ⟨⟨v1, rfl, ho⟩, hb⟩
  have B1 := Lib.hid (N0.out.trans (hb.mono N0.out.size))
  have R1 := Lib.hid (Row.of_own ho)
  have N1 := Lib.hid (new_below w1 (.cells #[.int .i64 m] 3))
  have C1 := Lib.hid (number_any _ [m] _ (Row.of_own (litI w1 [m] 1 #[.int .i64 m] rfl (by simp) rfl)) (by simp))
  clear ho hb C0 N0
  go_wp2_with fail
  refine C1.out.mono ?_
  rw [numsB_one]
  rintro e w2 ⟨⟨v2, rfl, ho⟩, hb⟩
  have Z2 := N1.out.trans (hb.mono N1.out.size)
  have B2 := Lib.hid (B1.out.trans (Z2.mono B1.out.size))
  have RA := Lib.hid (R1.out.on Z2)
  have RB := Lib.hid (Row.of_own ho)
  clear ho hb C1 N1 Z2 R1 B1
  obtain ⟨ao, ac, rfl⟩ := RA.out.len
  obtain ⟨bo, bc, rfl⟩ := RB.out.len
  have lA := numB_len n
  have lB := numB_len m
  rw [lA] at RA
  rw [lB] at RB
  rw [lA, lB]
  have HA := Lib.hid lA
  have HB := Lib.hid lB
  clear lA lB
  go_wp2_with fail
  go_loopw [7, 26] (fun s7 i wr => ∃ k : Nat, k ≤ 8 ∧ s7 = .bool false ∧ i = .int .i64 k ∧ (numB n).take k = (numB m).take k ∧ Below w2.heap.size w2 wr) (fun _ i _ => 8 - (intOf i).toNat)
  case atStart => exact ⟨0, by omega, rfl, rfl, rfl, Below.refl _ _⟩
  case round =>
    obtain ⟨k, hk, rfl, rfl, htk, hb⟩ := hrel
    have TK := Lib.hid htk
    have BR := Lib.hid hb
    clear htk hb
    by_cases hlt : k < 8
    · obtain ⟨x, hx⟩ : ∃ x, (numB n)[k]? = some x := ⟨_, List.getElem?_eq_getElem (by rw [HA.out]; exact hlt)⟩
      obtain ⟨y, hy⟩ : ∃ y, (numB m)[k]? = some y := ⟨_, List.getElem?_eq_getElem (by rw [HB.out]; exact hlt)⟩
      obtain ⟨p, ix, _, px⟩ := elB RA.out rfl HA.out hx
      obtain ⟨q, iy, _, py⟩ := elB RB.out rfl HB.out hy
      have p0 := cell_regrown (px _ BR.out)
      have q0 := cell_regrown (py _ BR.out)
      obtain ⟨r, hr⟩ : ∃ r, ((x.toNat : Int) == (y.toNat : Int)) = r := ⟨_, rfl⟩
      have HX := Lib.hid hx
      have HY := Lib.hid hy
      have HR := Lib.hid hr
      have hr2 : ((x.toNat : Int) != (y.toNat : Int)) = !r := by unfold bne; rw [hr]
      clear px py hx hy hr
      go_wp2_with fail
      cases r
      · simp only [Bool.not_false] at hr2
        refine wp_region_quiet_below (by kernel_rfl) (by kernel_rfl) ?_
        repeat (go_big_quiet_step (fail))
        refine wpQuiet_nil ?_
        intro _ hw'
        obtain ⟨⟨dq, osq⟩, hw''⟩ := hw'
        subst hw''
        have B3 := Lib.hid (BR.out.trans ((below_regrown wr dq osq).mono BR.out.size))
        clear p0 q0
        generalize grow (redrawn wr dq) osq = w3 at *
        obtain ⟨p', ix', _, px'⟩ := elB RA.out rfl HA.out HX.out
        obtain ⟨q', iy', _, py'⟩ := elB RB.out rfl HB.out HY.out
        have p1 := cell_regrown (px' _ B3.out)
        have q1 := cell_regrown (py' _ B3.out)
        obtain ⟨lv, hlv⟩ : ∃ b, decide (x.toNat < y.toNat) = b := ⟨_, rfl⟩
        have hlv2 : decide ((x.toNat : Int) < (y.toNat : Int)) = lv := by rw [← hlv, decide_eq_decide]; omega
        have LV := Lib.hid hlv
        clear px' py' ix iy
        go_wp2_with fail
        refine wp_region_quiet_below (by kernel_rfl) (by kernel_rfl) ?_
        repeat (go_big_quiet_step (fail))
        refine wpQuiet_nil ?_
        intro _ hw'
        obtain ⟨⟨dq2, osq2⟩, hw''⟩ := hw'
        subst hw''
        have B4a := Lib.hid (B3.out.trans ((below_regrown w3 dq2 osq2).mono B3.out.size))
        clear p1 q1 hlv hlv2 ix' iy' hr2
        generalize grow (redrawn w3 dq2) osq2 = w3a at *
        have SG := Lib.hid (show decide (n < 0) = decide (m < 0) → lv = decide (n < m) from fun hs => by rw [← LV.out]; exact first_byte IN.out.1 IN.out.2 IM.out.1 IM.out.2 TK.out HX.out HY.out (fun e => by have h := HR.out; rw [e] at h; simp at h) hs)
        have SM := Lib.hid (sameB _ _ (numB n) (numB m) w3a (RA.out.on B4a.out) (RB.out.on B4a.out))
        rw [same_num IN.out.1 IN.out.2 IM.out.1 IM.out.2] at SM
        have TB := Lib.hid (top_bit IN.out.1 IN.out.2)
        obtain ⟨p3, ix3, _, px3⟩ := elB (k := 0) (x := byteOf n 0) RA.out rfl HA.out rfl
        have p3' := px3 _ B4a.out
        have i3 : ∀ w, (Instr.indexAt 24 (.slice ao 8 ac) (.int .i64 0)).run Try.prog w = .ok (.pointer (some p3)) w := ix3
        obtain ⟨sn, hsn⟩ : ∃ b, decide (n < 0) = b := ⟨_, rfl⟩
        obtain ⟨sm, hsm⟩ : ∃ b, decide (m < 0) = b := ⟨_, rfl⟩
        obtain ⟨sl, hsl⟩ : ∃ b, decide (n < m) = b := ⟨_, rfl⟩
        obtain ⟨se, hse⟩ : ∃ b, decide (n = m) = b := ⟨_, rfl⟩
        have he2 : (n == m) = se := by rw [← hse]; rw [Bool.eq_iff_iff]; simp
        rw [hse] at SM
        rw [hsn, hsm, hsl] at SG
        rw [hsn] at TB
        have tb := TB.out
        clear ix3 px3 hse
        generalize byteOf n 0 = c0 at *
        cases sn <;> cases sm
        all_goals
          first
          | (have e := SG.out rfl; subst e; clear SG)
          | clear SG
        all_goals
          go_wp2_with fail
          refine SM.out.mono ?_
          rintro e4 w4 ⟨rfl, hb⟩
          have B4 := Lib.hid (B4a.out.trans (hb.mono B4a.out.size))
          have B5 := Lib.hid (B2.out.trans (B4.out.mono B2.out.size))
          have RU := Lib.hid (runs_any w4)
          clear hb p3'
          go_wp2_with fail
          refine RU.out.mono ?_
          rintro e5 w5 ⟨rfl, hb⟩
          have B6 := Lib.hid (B5.out.trans (hb.mono B5.out.size))
          clear hb
          go_wp2_with fail
          go_ret
          exact ⟨rfl, B6.out⟩
      · simp only [Bool.not_true] at hr2
        refine wp_region_quiet_below (by kernel_rfl) (by kernel_rfl) ?_
        repeat (go_big_quiet_step (fail))
        refine wpQuiet_nil ?_
        intro _ hw'
        obtain ⟨⟨dq, osq⟩, hw''⟩ := hw'
        subst hw''
        have B3 := Lib.hid (BR.out.trans ((below_regrown wr dq osq).mono BR.out.size))
        have TN := Lib.hid (take_eq TK.out HX.out HY.out (by have h := HR.out; rw [beq_iff_eq] at h; exact UInt8.toNat_inj.1 (by omega)))
        clear p0 q0 ix iy
        go_wp2
        go_roundw
        case rel => exact ⟨k + 1, by omega, rfl, by go_num, TN.out, B3.out⟩
        case measure => simp [intOf]; omega
    · obtain rfl : k = 8 := by omega
      have EQ := Lib.hid (show n = m from numB_inj IN.out.1 IN.out.2 IM.out.1 IM.out.2 (by have h := TK.out; rwa [List.take_of_length_le (by rw [HA.out]; exact Nat.le_refl _), List.take_of_length_le (by rw [HB.out]; exact Nat.le_refl _)] at h))
      have SG := Lib.hid (show decide (n < 0) = decide (m < 0) → false = decide (n < m) from fun _ => by rw [EQ.out]; simp)
      have SM := Lib.hid (sameB _ _ (numB n) (numB m) wr (RA.out.on BR.out) (RB.out.on BR.out))
      rw [same_num IN.out.1 IN.out.2 IM.out.1 IM.out.2] at SM
      have TB := Lib.hid (top_bit IN.out.1 IN.out.2)
      obtain ⟨p3, ix3, _, px3⟩ := elB (k := 0) (x := byteOf n 0) RA.out rfl HA.out rfl
      have p3' := px3 _ BR.out
      have i3 : ∀ w, (Instr.indexAt 24 (.slice ao 8 ac) (.int .i64 0)).run Try.prog w = .ok (.pointer (some p3)) w := ix3
      obtain ⟨sn, hsn⟩ : ∃ b, decide (n < 0) = b := ⟨_, rfl⟩
      obtain ⟨sm, hsm⟩ : ∃ b, decide (m < 0) = b := ⟨_, rfl⟩
      obtain ⟨sl, hsl⟩ : ∃ b, decide (n < m) = b := ⟨_, rfl⟩
      obtain ⟨se, hse⟩ : ∃ b, decide (n = m) = b := ⟨_, rfl⟩
      have he2 : (n == m) = se := by rw [← hse]; rw [Bool.eq_iff_iff]; simp
      rw [hse] at SM
      rw [hsn, hsm, hsl] at SG
      rw [hsn] at TB
      have tb := TB.out
      clear ix3 px3 hse
      generalize byteOf n 0 = c0 at *
      cases sn <;> cases sm
      all_goals
        first
        | (have e := SG.out rfl; subst e; clear SG)
        | clear SG
      all_goals
        go_wp2_with fail
        refine SM.out.mono ?_
        rintro e4 w4 ⟨rfl, hb⟩
        have B4 := Lib.hid (BR.out.trans (hb.mono BR.out.size))
        have B5 := Lib.hid (B2.out.trans (B4.out.mono B2.out.size))
        have RU := Lib.hid (runs_any w4)
        clear hb p3'
        go_wp2_with fail
        refine RU.out.mono ?_
        rintro e5 w5 ⟨rfl, hb⟩
        have B6 := Lib.hid (B5.out.trans (hb.mono B5.out.size))
        clear hb
        go_wp2_with fail
        go_ret
        exact ⟨rfl, B6.out⟩
end Go.Proofs.Ytobdddggdfcdlaa.Nm
