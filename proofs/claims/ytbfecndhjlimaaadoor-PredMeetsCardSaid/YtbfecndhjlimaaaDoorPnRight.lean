/-
  Right of package pred: true of a normal form. Condition: at most five constraints, each one right, their names rising.
-/
import Derived.Test.YtbfecndhjlimaaaDoorPnOne
import Derived.Test.YtbfecndhjlimaaaDoorPrLaw
namespace Go.Proofs.YtbfecndhjlimaaaDoor.Pr
open Go.RowKit Go.Sort Go.Proofs.YtbfecndhjlimaaaDoor Go.Proofs.YtbfecndhjlimaaaDoor.Pu Go.Proofs.YtbfecndhjlimaaaDoor.Rw Go.Proofs.YtbfecndhjlimaaaDoor.Va

set_option maxRecDepth 100000 in
set_option maxHeartbeats 8000000 in
theorem prightOk : PRightOk := by
  intro lv l w hl hs hr h5 hgd
  have HL := Lib.hid hl
  have LN := Lib.hid (show (l.map r5).length = l.length from List.length_map ..)
  have SM := Lib.hid hs.2
  have GD := Lib.hid hgd
  have RI := Lib.hid hr
  obtain ⟨ao, ac, rfl⟩ := hl.len
  rw [List.length_map] at HL ⊢
  obtain ⟨n, hn⟩ : ∃ n, n = l.length := ⟨_, rfl⟩
  rw [← hn] at HL h5 ⊢
  have HN := Lib.hid hn
  clear hl hs hgd hn hr
  have d0 : decide ((5 : Int) < (n : Int)) = false := by simp; omega
  go_enter Tryd.func16, Tryd.ntmps16
  go_wp2
  go_loopw [10] (fun i wr => ∃ k : Nat, k ≤ n ∧ i = .int .i64 k ∧ Below w.heap.size w wr) (fun i _ => n - (intOf i).toNat)
  case atStart => exact ⟨0, Nat.zero_le _, rfl, Below.refl _ _⟩
  case round =>
    obtain ⟨k, hk, rfl, hb⟩ := hrel
    have HB := Lib.hid hb
    clear hb d0
    by_cases hlt : k < n
    · obtain ⟨⟨xn, xk⟩, hx⟩ : ∃ x, l[k]? = some x := ⟨_, List.getElem?_eq_getElem (by have := HN.out; omega)⟩
      obtain ⟨p, ix, px⟩ := elC (x := r5 (xn, xk)) HL.out rfl (LN.out.trans HN.out.symm) (by rw [List.getElem?_map, hx]; rfl)
      obtain ⟨p0, p1, p2, p3, p4⟩ := px _ HB.out
      have C := Lib.hid (one_any (xn, xk) (wr.alloc (.cells (cells5 (r5 (xn, xk))).toArray 23)) (by have := (SM.out _ (List.mem_of_getElem? hx)).1; unfold maxLen; omega))
      rw [GD.out _ (List.mem_of_getElem? hx)] at C
      have B4 := Lib.hid (HB.out.alloc HB.out.size (.cells (cells5 (r5 (xn, xk))).toArray 23))
      have X4 := Lib.hid (box_new wr (cells5 (r5 (xn, xk))).toArray 23)
      have HX := Lib.hid hx
      simp only [r5] at p0 p1 p2 p3 p4 C
      clear hx px
      go_wp2_with fail
      refine C.out.mono ?_
      rintro e5 w6 ⟨rfl, hb5⟩
      have BN := Lib.hid (B4.out.trans (hb5.mono B4.out.size))
      have b0 := cell_regrown (show w6.cell? ⟨wr.heap.size, 0, none⟩ = some (.string xn) from (X4.out.on hb5).cell 0)
      clear hb5 C B4 ix p0 p1 p2 p3 p4 X4
      cases k with
      | zero =>
        rw [show ((0 : Nat) : Int) = 0 from rfl]
        go_wp2
        refine wp_region_quiet_below (by kernel_rfl) (by kernel_rfl) ?_
        repeat (go_big_quiet_step (fail))
        refine wpQuiet_nil ?_
        intro _ hw'
        obtain ⟨⟨dq, osq⟩, hw''⟩ := hw'
        subst hw''
        have BZ := Lib.hid (BN.out.trans ((below_regrown w6 dq osq).mono BN.out.size))
        clear b0
        go_wp2
        go_roundw
        case rel => exact ⟨0 + 1, by omega, by go_num, BZ.out⟩
        case measure => simp [intOf]; omega
      | succ m =>
        obtain ⟨⟨yn, yk⟩, hy⟩ : ∃ y, l[m]? = some y := ⟨_, List.getElem?_eq_getElem (by have := HN.out; omega)⟩
        obtain ⟨q, iy, qx⟩ := elC (x := r5 (yn, yk)) HL.out rfl (LN.out.trans HN.out.symm) (by rw [List.getElem?_map, hy]; rfl)
        have y0 := cell_regrown (qx _ BN.out).1
        have h3 : Op.bytesLess yn.toList xn.toList = true := by
          obtain ⟨a1, a2⟩ := List.getElem?_eq_some_iff.1 hy
          obtain ⟨c1, c2⟩ := List.getElem?_eq_some_iff.1 HX.out
          have h2 := List.pairwise_iff_getElem.1 RI.out m (m + 1) a1 c1 (by omega)
          rw [a2, c2] at h2
          exact h2
        have h4 : (yn.toList == xn.toList) = false := by
          rw [beq_eq_false_iff_ne]
          exact fun e => less_ne h3 (name_inj e)
        simp only [r5] at y0
        clear hy qx
        rw [show ((m + 1 : Nat) : Int) = (m : Int) + 1 from rfl]
        have e35 : IntKind.i64.wrap ((m : Int) + 1 - 1) = m := by rw [show (m : Int) + 1 - 1 = m by omega]; exact IntWalk.i64_in _ (by omega)
        have e36 : (m : Int) + 1 - 1 = m := by omega
        go_wp2
        refine wp_region_quiet_below (by kernel_rfl) (by kernel_rfl) ?_
        repeat (go_big_quiet_step (fail))
        refine wpQuiet_nil ?_
        intro _ hw'
        obtain ⟨⟨dq, osq⟩, hw''⟩ := hw'
        subst hw''
        have BZ := Lib.hid (BN.out.trans ((below_regrown w6 dq osq).mono BN.out.size))
        clear iy y0 e35 e36 b0
        go_wp2
        go_roundw
        case rel => exact ⟨m + 1 + 1, by omega, by go_num, BZ.out⟩
        case measure => simp [intOf]; omega
    · obtain rfl : k = n := by omega
      go_wp2
      go_ret
      exact ⟨rfl, HB.out⟩
end Go.Proofs.YtbfecndhjlimaaaDoor.Pr
