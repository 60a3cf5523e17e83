/-
  Right of package pred, on any list. Condition: texts below a machine's length.
  RightPred of the statements' own package. Condition: lists and texts below a machine's length.
-/
import Derived.Test.YtfcgfnmokbbcaaaDoorU018
import Derived.Test.YtfcgfnmokbbcaaaDoorU015
namespace Go.Proofs.YtfcgfnmokbbcaaaDoor.Ws
open Go.RowKit Go.Sort Go.Proofs.YtfcgfnmokbbcaaaDoor Go.Proofs.YtfcgfnmokbbcaaaDoor.Rw Go.Proofs.YtfcgfnmokbbcaaaDoor.Nm Go.Proofs.YtfcgfnmokbbcaaaDoor.At Go.Proofs.YtfcgfnmokbbcaaaDoor.Pr Go.Proofs.YtfcgfnmokbbcaaaDoor.Wr Go.Proofs.YtfcgfnmokbbcaaaDoor.Va

set_option maxRecDepth 100000 in
set_option maxHeartbeats 8000000 in
theorem pright_any (lv : Value) (l : List C5) (w : World) (hl : RowC w lv l) (hs : ∀ x ∈ l, x.1.size ≤ maxLen ∧ x.2.2.2.2.size ≤ maxLen) :
    Calls Tryd.prog 38 #[lv] w fun e w' => e = .returned (.bool (rightP l)) ∧ Below w.heap.size w w' := by
  have HL := Lib.hid hl
  have HS := Lib.hid hs
  have HM := Lib.hid hl.most
  obtain ⟨ao, ac, rfl⟩ := hl.len
  clear hl hs
  by_cases hfew : l.length ≤ 5
  · have d0 : decide ((5 : Int) < (l.length : Int)) = false := by simp; omega
    go_enter Tryd.func38, Tryd.ntmps38
    go_wp2
    go_loopw [10] (fun i wr => ∃ k : Nat, k ≤ l.length ∧ i = .int .i64 k ∧ Below w.heap.size w wr ∧ ∀ j, j < k → goodP l j = true) (fun i _ => l.length - (intOf i).toNat)
    case atStart => exact ⟨0, Nat.zero_le _, rfl, Below.refl _ _, fun j h => by omega⟩
    case round =>
      obtain ⟨k, hk, rfl, hb, hall⟩ := hrel
      have HB := Lib.hid hb
      have AL := Lib.hid hall
      clear hb hall d0
      by_cases hlt : k < l.length
      · obtain ⟨⟨xn, xk, xi, xj, xs⟩, hx⟩ : ∃ x, l[k]? = some x := ⟨_, List.getElem?_eq_getElem hlt⟩
        obtain ⟨p, ix, px⟩ := elC HL.out rfl rfl hx
        obtain ⟨p0, p1, p2, p3, p4⟩ := px _ HB.out
        have hsz := HS.out _ (List.mem_of_getElem? hx)
        have C := Lib.hid (pone_any (xn, xk, xi, xj, xs) (wr.alloc (.cells #[.string xn, .int .i64 xk, .int .i64 xi, .int .i64 xj, .string xs] 57)) hsz.1 hsz.2)
        have B4 := Lib.hid (HB.out.alloc HB.out.size (.cells #[.string xn, .int .i64 xk, .int .i64 xi, .int .i64 xj, .string xs] 57))
        have X4 := Lib.hid (box_new wr #[.string xn, .int .i64 xk, .int .i64 xi, .int .i64 xj, .string xs] 57)
        have HX := Lib.hid hx
        obtain ⟨r1, h1⟩ : ∃ r, oneB (xn, xk, xi, xj, xs) = r := ⟨_, rfl⟩
        have E1 := Lib.hid h1
        rw [h1] at C
        clear hx px hsz h1
        simp only at p0 p1 p2 p3 p4
        go_wp2_with fail
        refine C.out.mono ?_
        rintro e5 w6 ⟨rfl, hb5⟩
        have BN := Lib.hid (B4.out.trans (hb5.mono B4.out.size))
        have b0 := cell_regrown (show w6.cell? ⟨wr.heap.size, 0, none⟩ = some (.string xn) from (X4.out.on hb5).cell 0)
        clear hb5 C B4 ix p0 p1 p2 p3 p4 X4
        cases r1
        · have R := Lib.hid (show rightP l = false from rightP_not l k hlt (by simp [goodP, HX.out, E1.out]))
          go_wp2
          go_ret
          exact ⟨ret_bool R.out.symm, BN.out⟩
        · cases k with
          | zero =>
            have G := Lib.hid (show goodP l 0 = true by simp [goodP, HX.out, E1.out])
            rw [show ((0 : Nat) : Int) = 0 from rfl]
            go_wp2
            refine wp_region_quiet_below (by kernel_rfl) (by kernel_rfl) ?_
            repeat (go_big_quiet_step (fail))
            refine wpQuiet_nil ?_
            intro _ hw'
            obtain ⟨⟨dq, osq⟩, hw''⟩ := hw'
            subst hw''
            have BZ := Lib.hid (BN.out.trans ((below_regrown w6 dq osq).mono BN.out.size))
            clear b0
            go_wp2
            go_roundw
            case rel => exact ⟨0 + 1, by omega, by go_num, BZ.out, fun j hj => by
              rcases Nat.lt_or_ge j (0) with h3 | h3
              · exact AL.out j h3
              · obtain rfl : j = 0 := by omega
                exact G.out⟩
            case measure => simp [intOf]; omega
          | succ m =>
            obtain ⟨⟨yn, yt, yi, yj, ys⟩, hy⟩ : ∃ y, l[m]? = some y := ⟨_, List.getElem?_eq_getElem (by omega)⟩
            obtain ⟨q, iy, qx⟩ := elC HL.out rfl rfl hy
            have y0 := cell_regrown (qx _ BN.out).1
            have HY := Lib.hid hy
            obtain ⟨r3, h3⟩ : ∃ r, Op.bytesLess yn.toList xn.toList = r := ⟨_, rfl⟩
            have E3 := Lib.hid h3
            clear hy qx
            simp only at y0
            rw [show ((m + 1 : Nat) : Int) = (m : Int) + 1 from rfl]
            have e35 : IntKind.i64.wrap ((m : Int) + 1 - 1) = m := by rw [show (m : Int) + 1 - 1 = m by omega]; exact IntWalk.i64_in _ (by omega)
            have e36 : (m : Int) + 1 - 1 = m := by omega
            cases r3
            · have R := Lib.hid (show rightP l = false from rightP_not l (m + 1) hlt (by simp [goodP, HX.out, E1.out, HY.out, pairC, E3.out]))
              go_wp2
              refine wp_region_quiet_below (by kernel_rfl) (by kernel_rfl) ?_
              repeat (go_big_quiet_step (fail))
              refine wpQuiet_nil ?_
              intro _ hw'
              obtain ⟨⟨dq, osq⟩, hw''⟩ := hw'
              subst hw''
              have BZ := Lib.hid (BN.out.trans ((below_regrown w6 dq osq).mono BN.out.size))
              go_wp2
              go_ret
              exact ⟨ret_bool R.out.symm, BZ.out⟩
            · have G := Lib.hid (show goodP l (m + 1) = true by simp [goodP, HX.out, E1.out, HY.out, pairC, E3.out])
              go_wp2
              refine wp_region_quiet_below (by kernel_rfl) (by kernel_rfl) ?_
              repeat (go_big_quiet_step (fail))
              refine wpQuiet_nil ?_
              intro _ hw'
              obtain ⟨⟨dq, osq⟩, hw''⟩ := hw'
              subst hw''
              have BZ := Lib.hid (BN.out.trans ((below_regrown w6 dq osq).mono BN.out.size))
              clear iy y0 e35 e36 h3 b0
              go_wp2
              go_roundw
              case rel => exact ⟨m + 1 + 1, by omega, by go_num, BZ.out, fun j hj => by
                rcases Nat.lt_or_ge j (m + 1) with h3 | h3
                · exact AL.out j h3
                · obtain rfl : j = m + 1 := by omega
                  exact G.out⟩
              case measure => simp [intOf]; omega
      · obtain rfl : k = l.length := by omega
        have R := Lib.hid (show rightP l = true by rw [rightP_end l AL.out]; simp; omega)
        go_wp2
        go_ret
        exact ⟨ret_bool R.out.symm, HB.out⟩
  · have d0 : decide ((5 : Int) < (l.length : Int)) = true := by simp; omega
    have R := Lib.hid (show rightP l = false by simp [rightP, hfew])
    go_enter Tryd.func38, Tryd.ntmps38
    go_wp2
    go_ret
    exact ⟨ret_bool R.out.symm, Below.refl _ _⟩
end Go.Proofs.YtfcgfnmokbbcaaaDoor.Ws

namespace Go.Proofs.YtfcgfnmokbbcaaaDoor.Wr
open Go.RowKit Go.Sort Go.Proofs.YtfcgfnmokbbcaaaDoor Go.Proofs.YtfcgfnmokbbcaaaDoor.Rw Go.Proofs.YtfcgfnmokbbcaaaDoor.Nm Go.Proofs.YtfcgfnmokbbcaaaDoor.At Go.Proofs.YtfcgfnmokbbcaaaDoor.Pr Go.Proofs.YtfcgfnmokbbcaaaDoor.Va

theorem rone_re (c : C5) (hs : c.1.size ≤ maxLen) (ht : c.2.2.2.2.size ≤ maxLen) (r : Bool) (hr : oneB c = r) (w : World) (d : Nat) (os : Array Obj) :
    Calls Tryd.prog 59 #[cv c] (grow (redrawn w d) os) fun e w'' => e = .returned (.bool r) ∧ ∃ p : Regrown, w'' = grow (redrawn w p.d) p.os := by
  subst hr
  exact Calls.regrown_of (rone_any c _ hs ht)
set_option maxRecDepth 100000 in
set_option maxHeartbeats 8000000 in
theorem rpred_any (lv : Value) (l : List C5) (w : World) (hl : RowC w lv l) (hn : l.length ≤ 1000000) (hs : ∀ x ∈ l, x.1.size ≤ maxLen ∧ x.2.2.2.2.size ≤ maxLen) :
    Calls Tryd.prog 35 #[lv] w fun e w' => e = .returned (.bool (rightP l)) ∧ Below w.heap.size w w' := by
  have HL := Lib.hid hl
  have HS := Lib.hid hs
  obtain ⟨ao, ac, rfl⟩ := hl.len
  clear hl hs
  go_enter Tryd.func35, Tryd.ntmps35
  go_wp2
  go_loopw [7] (fun i wr => ∃ k : Nat, k ≤ l.length ∧ i = .int .i64 k ∧ Below w.heap.size w wr ∧ ∀ j, j < k → goodP l j = true) (fun i _ => l.length - (intOf i).toNat)
  case atStart => exact ⟨0, Nat.zero_le _, rfl, Below.refl _ _, fun j h => by omega⟩
  case round =>
    obtain ⟨k, hk, rfl, hb, hall⟩ := hrel
    have HB := Lib.hid hb
    have AL := Lib.hid hall
    clear hb hall
    by_cases hlt : k < l.length
    · obtain ⟨⟨xn, xk, xi, xj, xs⟩, hx⟩ : ∃ x, l[k]? = some x := ⟨_, List.getElem?_eq_getElem hlt⟩
      obtain ⟨p, ix, px⟩ := elC HL.out rfl rfl hx
      obtain ⟨p0, p1, p2, p3, p4⟩ := px _ HB.out
      have hsz := HS.out _ (List.mem_of_getElem? hx)
      have HX := Lib.hid hx
      have hb4 : Below w.heap.size w (wr.alloc (.cells #[.string xn, .int .i64 xk, .int .i64 xi, .int .i64 xj, .string xs] 57)) := HB.out.alloc HB.out.size _
      have B4 := Lib.hid hb4
      have c4 : ∀ i, (wr.alloc (.cells #[.string xn, .int .i64 xk, .int .i64 xi, .int .i64 xj, .string xs] 57)).cell? ⟨wr.heap.size, i, none⟩ = #[.string xn, .int .i64 xk, .int .i64 xi, .int .i64 xj, .string xs][i]? := fun i => by
        rw [World.cell?_alloc_at _ _ _ _ rfl]
      clear hx px hb4
      simp only at p0 p1 p2 p3 p4
      go_wp2
      clear p0 p1 p2 p3 p4 ix
      generalize wr.alloc (.cells #[.string xn, .int .i64 xk, .int .i64 xi, .int .i64 xj, .string xs] 57) = W4 at *
      have a0 := cell_regrown (c4 0)
      have a1 := cell_regrown (c4 1)
      have a2 := cell_regrown (c4 2)
      have a3 := cell_regrown (c4 3)
      have a4 := cell_regrown (c4 4)
      clear c4
      obtain ⟨r1, h1⟩ : ∃ r, oneB (xn, xk, xi, xj, xs) = r := ⟨_, rfl⟩
      have N1 := Lib.hid (rone_re (xn, xk, xi, xj, xs) hsz.1 hsz.2 r1 h1 W4)
      have E1 := Lib.hid h1
      clear h1 hsz
      cases r1
      · have R := Lib.hid (show rightP l = false from rightP_not l k hlt (by simp [goodP, HX.out, E1.out]))
        go_wp2
        refine wp_region_quiet_below (by kernel_rfl) (by kernel_rfl) ?_
        repeat (go_big_quiet_step (with_reducible exact N1.out _ _))
        refine wpQuiet_nil ?_
        intro _ hw'
        obtain ⟨⟨dq, osq⟩, hw''⟩ := hw'
        subst hw''
        have BN := Lib.hid (B4.out.trans ((below_regrown W4 dq osq).mono B4.out.size))
        go_wp2
        go_ret
        exact ⟨ret_bool R.out.symm, BN.out⟩
      · cases k with
        | zero =>
          have G := Lib.hid (show goodP l 0 = true by simp [goodP, HX.out, E1.out])
          rw [show ((0 : Nat) : Int) = 0 from rfl]
          go_wp2
          refine wp_region_quiet_below (by kernel_rfl) (by kernel_rfl) ?_
          repeat (go_big_quiet_step (with_reducible exact N1.out _ _))
          refine wpQuiet_nil ?_
          intro _ hw'
          obtain ⟨⟨dq, osq⟩, hw''⟩ := hw'
          subst hw''
          have BN := Lib.hid (B4.out.trans ((below_regrown W4 dq osq).mono B4.out.size))
          clear a0 a1 a2 a3 a4
          go_wp2
          go_roundw
          case rel => exact ⟨0 + 1, by omega, by go_num, BN.out, fun j hj => by
            rcases Nat.lt_or_ge j (0) with h3 | h3
            · exact AL.out j h3
            · obtain rfl : j = 0 := by omega
              exact G.out⟩
          case measure => simp [intOf]; omega
        | succ m =>
          obtain ⟨⟨yn, yt, yi, yj, ys⟩, hy⟩ : ∃ y, l[m]? = some y := ⟨_, List.getElem?_eq_getElem (by omega)⟩
          obtain ⟨q, iy, qx⟩ := elC HL.out rfl rfl hy
          have y0 := cell_regrown (qx _ B4.out).1
          have HY := Lib.hid hy
          obtain ⟨r3, h3⟩ : ∃ r, Op.bytesLess yn.toList xn.toList = r := ⟨_, rfl⟩
          have E3 := Lib.hid h3
          clear hy qx
          simp only at y0
          rw [show ((m + 1 : Nat) : Int) = (m : Int) + 1 from rfl]
          have e35 : IntKind.i64.wrap ((m : Int) + 1 - 1) = m := by rw [show (m : Int) + 1 - 1 = m by omega]; exact IntWalk.i64_in _ (by omega)
          have e36 : (m : Int) + 1 - 1 = m := by omega
          cases r3
          · have R := Lib.hid (show rightP l = false from rightP_not l (m + 1) hlt (by simp [goodP, HX.out, E1.out, HY.out, pairC, E3.out]))
            go_wp2
            refine wp_region_quiet_below (by kernel_rfl) (by kernel_rfl) ?_
            repeat (go_big_quiet_step (with_reducible exact N1.out _ _))
            refine wpQuiet_nil ?_
            intro _ hw'
            obtain ⟨⟨dq, osq⟩, hw''⟩ := hw'
            subst hw''
            have BN := Lib.hid (B4.out.trans ((below_regrown W4 dq osq).mono B4.out.size))
            go_wp2
            go_ret
            exact ⟨ret_bool R.out.symm, BN.out⟩
          · have G := Lib.hid (show goodP l (m + 1) = true by simp [goodP, HX.out, E1.out, HY.out, pairC, E3.out])
            go_wp2
            refine wp_region_quiet_below (by kernel_rfl) (by kernel_rfl) ?_
            repeat (go_big_quiet_step (with_reducible exact N1.out _ _))
            refine wpQuiet_nil ?_
            intro _ hw'
            obtain ⟨⟨dq, osq⟩, hw''⟩ := hw'
            subst hw''
            have BN := Lib.hid (B4.out.trans ((below_regrown W4 dq osq).mono B4.out.size))
            clear iy y0 e35 e36 h3 a0 a1 a2 a3 a4
            go_wp2
            go_roundw
            case rel => exact ⟨m + 1 + 1, by omega, by go_num, BN.out, fun j hj => by
              rcases Nat.lt_or_ge j (m + 1) with h3 | h3
              · exact AL.out j h3
              · obtain rfl : j = m + 1 := by omega
                exact G.out⟩
            case measure => simp [intOf]; omega
    · obtain rfl : k = l.length := by omega
      have R := Lib.hid (show decide ((l.length : Int) ≤ 5) = rightP l by rw [rightP_end l AL.out]; simp; omega)
      go_wp2
      go_ret
      exact ⟨ret_bool R.out, HB.out⟩
end Go.Proofs.YtfcgfnmokbbcaaaDoor.Wr
