/-
  Right, Number, Text, Less of package value. Condition: a text below a machine's length.
  Right of package tuple: few enough attributes, each one right, their names rising. Condition: at most 1000 attributes.
-/
import Derived.Test.YtfcgfnmokbbcaaaDoorU008
import Derived.Test.YtfcgfnmokbbcaaaDoorU010
import Derived.Lib.Hide
import Derived.Test.YtfcgfnmokbbcaaaDoorU016
import Derived.Lib.QuietBelow
import Derived.BigQuiet
namespace Go.Proofs.YtfcgfnmokbbcaaaDoor.Va
open Go.RowKit

set_option maxHeartbeats 400000 in
theorem right_any (t : Bool) (n : Int) (s : ByteArray) (w : World) (hs : s.size ≤ 9223372036854775807) :
    Calls Tryd.prog 64 #[vl t n s] w fun e w' => e = .returned (.bool (rightV t n s)) ∧ Below w.heap.size w w' := by
  cases t
  · go_enter Tryd.func64, Tryd.ntmps64
    go_wp2
    go_ret
    exact ⟨rfl, (Below.refl _ _).alloc (Nat.le_refl _) _⟩
  · by_cases hn : n = 0
    · subst hn
      have R := Lib.hid (show decide ((s.size : Int) ≤ 12) = rightV true 0 s by simp [rightV]; omega)
      go_enter Tryd.func64, Tryd.ntmps64
      go_wp2
      go_ret
      exact ⟨ret_bool R.out, (Below.refl _ _).alloc (Nat.le_refl _) _⟩
    · have R := Lib.hid (show false = rightV true n s by simp [rightV, hn])
      have hb : (n == 0) = false := by simpa using hn
      have HN := Lib.hid hn
      clear hn
      go_enter Tryd.func64, Tryd.ntmps64
      go_wp2
      go_ret
      exact ⟨ret_bool R.out, (Below.refl _ _).alloc (Nat.le_refl _) _⟩

end Go.Proofs.YtfcgfnmokbbcaaaDoor.Va

namespace Go.Proofs.YtfcgfnmokbbcaaaDoor.At
open Go.RowKit Go.Sort Go.Proofs.YtfcgfnmokbbcaaaDoor.Va Go.Proofs.YtfcgfnmokbbcaaaDoor.In

theorem name_at (s : ByteArray) (w : World) (hs : s.size ≤ maxLen) :
    Calls Tryd.prog 63 #[.string s] w fun e w' => e = .returned (.bool (nameB s)) ∧ w = w' := Pr.name_same s w hs

set_option maxRecDepth 100000 in
set_option maxHeartbeats 8000000 in
theorem right_big (lv : Value) (l : List A4) (w : World) (hl : RowA w lv l) (hn : l.length ≤ 1000) (hs : ∀ x ∈ l, x.1.size ≤ maxLen ∧ x.2.2.2.size ≤ maxLen) :
    Calls Tryd.prog 39 #[lv] w fun e w' => e = .returned (.bool (rightT l)) ∧ Below w.heap.size w w' := by
  have HL := Lib.hid hl
  have HS := Lib.hid hs
  obtain ⟨ao, ac, rfl⟩ := hl.len
  clear hl hs
  by_cases hfew : l.length ≤ 5
  · have d0 : decide ((5 : Int) < (l.length : Int)) = false := by simp; omega
    go_enter Tryd.func39, Tryd.ntmps39
    go_wp2
    go_loopw [10] (fun i wr => ∃ k : Nat, k ≤ l.length ∧ i = .int .i64 k ∧ Below w.heap.size w wr ∧ ∀ j, j < k → goodB l j = true) (fun i _ => l.length - (intOf i).toNat)
    case atStart => exact ⟨0, Nat.zero_le _, rfl, Below.refl _ _, fun j h => by omega⟩
    case round =>
      obtain ⟨k, hk, rfl, hb, hall⟩ := hrel
      have HB := Lib.hid hb
      have AL := Lib.hid hall
      clear hb hall d0
      by_cases hlt : k < l.length
      · obtain ⟨⟨xn, xt, xi, xs⟩, hx⟩ : ∃ x, l[k]? = some x := ⟨_, List.getElem?_eq_getElem hlt⟩
        obtain ⟨p, ix, px⟩ := row_cells HL.out rfl rfl hx
        obtain ⟨p0, p1, p2, p3⟩ := px _ HB.out
        have hsz := HS.out _ (List.mem_of_getElem? hx)
        have XN := Lib.hid (show xn.size ≤ maxLen from hsz.1)
        have XS := Lib.hid (show xs.size ≤ 9223372036854775807 by have h9 : xs.size ≤ maxLen := hsz.2; unfold maxLen at h9; omega)
        have HX := Lib.hid hx
        have hb4 : Below w.heap.size w (wr.alloc (.cells #[.string xn, .bool xt, .int .i64 xi, .string xs] 61)) := HB.out.alloc HB.out.size _
        have B4 := Lib.hid hb4
        have c4 : ∀ i, (wr.alloc (.cells #[.string xn, .bool xt, .int .i64 xi, .string xs] 61)).cell? ⟨wr.heap.size, i, none⟩ = #[.string xn, .bool xt, .int .i64 xi, .string xs][i]? := fun i => by
          rw [World.cell?_alloc_at _ _ _ _ rfl]
        have hlt4 : wr.heap.size < (wr.alloc (.cells #[.string xn, .bool xt, .int .i64 xi, .string xs] 61)).heap.size := by simp
        clear hx px hb4 hsz
        simp only at p0 p1 p2 p3
        go_wp2_with fail
        clear p0 p1 p2 p3 ix
        generalize wr.alloc (.cells #[.string xn, .bool xt, .int .i64 xi, .string xs] 61) = W4 at *
        refine (name_at xn W4 XN.out).mono ?_
        rintro e5 w5 ⟨rfl, rfl⟩
        obtain ⟨r1, h1⟩ : ∃ r, nameB xn = r := ⟨_, rfl⟩
        obtain ⟨r2, h2⟩ : ∃ r, rightV xt xi xs = r := ⟨_, rfl⟩
        rw [h1]
        have E1 := Lib.hid h1
        have E2 := Lib.hid h2
        have a0 := c4 0
        have a1 := c4 1
        have a2 := c4 2
        have a3 := c4 3
        simp at a0 a1 a2 a3
        clear h1 h2
        cases r1
        · have R := Lib.hid (show rightT l = false from rightT_not l k hlt (by simp [goodB, HX.out, E1.out]))
          go_wp2
          go_ret
          exact ⟨ret_bool R.out.symm, B4.out⟩
        · go_wp2_with fail
          refine (right_any xt xi xs W4 XS.out).mono ?_
          rintro e6 w6 ⟨rfl, hb6⟩
          rw [E2.out]
          have BN := Lib.hid (B4.out.trans (hb6.mono B4.out.size))
          have b0 := hb6.cell (p := ⟨wr.heap.size, 0, none⟩) hlt4
          rw [c4 0] at b0
          simp at b0
          clear a0 a1 a2 a3 c4 hb6 hlt4
          cases r2
          · have R := Lib.hid (show rightT l = false from rightT_not l k hlt (by simp [goodB, HX.out, E1.out, E2.out]))
            go_wp2
            go_ret
            exact ⟨ret_bool R.out.symm, BN.out⟩
          · cases k with
            | zero =>
              have G := Lib.hid (show goodB l 0 = true by simp [goodB, HX.out, E1.out, E2.out])
              rw [show ((0 : Nat) : Int) = 0 from rfl]
              go_wp2
              refine wp_region_quiet_below (by kernel_rfl) (by kernel_rfl) ?_
              repeat (go_big_quiet_step (fail))
              refine wpQuiet_nil ?_
              intro _ hw'
              obtain ⟨⟨dq, osq⟩, hw''⟩ := hw'
              subst hw''
              have BZ := Lib.hid (BN.out.trans ((below_regrown w6 dq osq).mono BN.out.size))
              clear b0
              go_wp2
              go_roundw
              case rel => exact ⟨0 + 1, by omega, by go_num, BZ.out, fun j hj => by
                rcases Nat.lt_or_ge j (0) with h3 | h3
                · exact AL.out j h3
                · obtain rfl : j = 0 := by omega
                  exact G.out⟩
              case measure => simp [intOf]; omega
            | succ m =>
              obtain ⟨⟨yn, yt, yi, ys⟩, hy⟩ : ∃ y, l[m]? = some y := ⟨_, List.getElem?_eq_getElem (by omega)⟩
              obtain ⟨q, iy, qx⟩ := row_cells HL.out rfl rfl hy
              have y0 := cell_regrown (qx _ BN.out).1
              have b0' := cell_regrown b0
              have HY := Lib.hid hy
              obtain ⟨r3, h3⟩ : ∃ r, Op.bytesLess yn.toList xn.toList = r := ⟨_, rfl⟩
              have E3 := Lib.hid h3
              clear hy qx b0
              simp only at y0
              rw [show ((m + 1 : Nat) : Int) = (m : Int) + 1 from rfl]
              have e35 : IntKind.i64.wrap ((m : Int) + 1 - 1) = m := by rw [show (m : Int) + 1 - 1 = m by omega]; exact IntWalk.i64_in _ (by omega)
              have e36 : (m : Int) + 1 - 1 = m := by omega
              cases r3
              · have R := Lib.hid (show rightT l = false from rightT_not l (m + 1) hlt (by simp [goodB, HX.out, E1.out, E2.out, HY.out, pairB, E3.out]))
                go_wp2
                refine wp_region_quiet_below (by kernel_rfl) (by kernel_rfl) ?_
                repeat (go_big_quiet_step (fail))
                refine wpQuiet_nil ?_
                intro _ hw'
                obtain ⟨⟨dq, osq⟩, hw''⟩ := hw'
                subst hw''
                have BZ := Lib.hid (BN.out.trans ((below_regrown w6 dq osq).mono BN.out.size))
                go_wp2
                go_ret
                exact ⟨ret_bool R.out.symm, BZ.out⟩
              · have G := Lib.hid (show goodB l (m + 1) = true by simp [goodB, HX.out, E1.out, E2.out, HY.out, pairB, E3.out])
                go_wp2
                refine wp_region_quiet_below (by kernel_rfl) (by kernel_rfl) ?_
                repeat (go_big_quiet_step (fail))
                refine wpQuiet_nil ?_
                intro _ hw'
                obtain ⟨⟨dq, osq⟩, hw''⟩ := hw'
                subst hw''
                have BZ := Lib.hid (BN.out.trans ((below_regrown w6 dq osq).mono BN.out.size))
                clear iy y0 e35 e36 h3 b0'
                go_wp2
                go_roundw
                case rel => exact ⟨m + 1 + 1, by omega, by go_num, BZ.out, fun j hj => by
                  rcases Nat.lt_or_ge j (m + 1) with h3 | h3
                  · exact AL.out j h3
                  · obtain rfl : j = m + 1 := by omega
                    exact G.out⟩
                case measure => simp [intOf]; omega
      · obtain rfl : k = l.length := by omega
        have R := Lib.hid (show rightT l = true by rw [rightT_end l AL.out]; simp; omega)
        go_wp2
        go_ret
        exact ⟨ret_bool R.out.symm, HB.out⟩
  · have d0 : decide ((5 : Int) < (l.length : Int)) = true := by simp; omega
    have R := Lib.hid (show rightT l = false by simp [rightT, hfew])
    go_enter Tryd.func39, Tryd.ntmps39
    go_wp2
    go_ret
    exact ⟨ret_bool R.out.symm, Below.refl _ _⟩
theorem rightOk : RightOk := fun lv l w hl hs => right_big lv l w hl (by have := hs.1; omega) (fun x hx => by
  have h := hs.2 x hx
  unfold maxLen
  omega)
end Go.Proofs.YtfcgfnmokbbcaaaDoor.At
