/-
  Name and RightTuple of the statements' own package. Condition: lists and texts below a machine's length.
-/
import Derived.Test.YtpmhnmdienlgoaaDoorAtSame
namespace Go.Proofs.YtpmhnmdienlgoaaDoor.At
open Go.RowKit Go.Sort Go.Proofs.YtpmhnmdienlgoaaDoor.Va Go.Proofs.YtpmhnmdienlgoaaDoor.In

/-- Is it a small letter? -/
def letB (c : UInt8) : Bool := decide (97 ≤ c.toNat) && decide (c.toNat ≤ 122)
/-- Is it a name? -/
def nameB (s : ByteArray) : Bool := s.data.toList.all letB && (decide (1 ≤ s.size) && decide (s.size ≤ 12))
theorem nameB_not (s : ByteArray) (k : Nat) (h : k < s.size) (hc : letB s[k] = false) : nameB s = false := by
  have : s.data.toList.all letB = false := by
    rw [List.all_eq_false]
    exact ⟨s[k], by rw [Array.mem_toList_iff]; exact Array.getElem_mem h, by rw [hc]; decide⟩
  simp [nameB, this]
theorem nameB_end (s : ByteArray) (h : ∀ (j : Nat) (hj : j < s.size), letB s[j] = true) : nameB s = (decide (1 ≤ s.size) && decide (s.size ≤ 12)) := by
  have : s.data.toList.all letB = true := by
    rw [List.all_eq_true]
    intro c hc
    obtain ⟨j, hj, rfl⟩ := List.getElem_of_mem hc
    exact h j (by rw [Array.length_toList] at hj; exact hj)
  simp [nameB, this]

set_option maxHeartbeats 1000000 in
theorem rname_any (s : ByteArray) (w : World) (hs : s.size ≤ maxLen) :
    Calls Tryd.prog 16 #[.string s] w fun e w' => e = .returned (.bool (nameB s)) ∧ w = w' := by
  unfold maxLen at hs
  go_enter Tryd.func16, Tryd.ntmps16
  go_wp2
  go_loop [3] (fun i => ∃ k : Nat, k ≤ s.size ∧ i = .int .i64 k ∧ ∀ (j : Nat) (hj : j < s.size), j < k → letB s[j] = true) (fun i => s.size - (intOf i).toNat)
  case atStart => exact ⟨0, Nat.zero_le _, rfl, fun j hj h => by omega⟩
  case round =>
    obtain ⟨k, hk, rfl, hall⟩ := hrel
    have AL := Lib.hid hall
    clear hall
    by_cases hlt : k < s.size
    · have hcl : (s[k].toNat : Int) < 256 := by have := s[k].toNat_lt; omega
      by_cases h1 : 97 ≤ s[k].toNat
      · by_cases h2 : s[k].toNat ≤ 122
        · have L := Lib.hid (show letB s[k] = true by simp [letB, h1, h2])
          have d1 : decide ((s[k].toNat : Int) < 97) = false := by simp; omega
          have d2 : decide ((122 : Int) < (s[k].toNat : Int)) = false := by simp; omega
          clear h1 h2
          go_wp2
          go_round
          case rel => exact ⟨k + 1, by omega, by go_num, fun j hj h => by
            rcases Nat.lt_or_ge j k with h3 | h3
            · exact AL.out j hj h3
            · obtain rfl : j = k := by omega
              exact L.out⟩
          case measure => simp [intOf]; omega
        · have R := Lib.hid (show nameB s = false from nameB_not s k hlt (by simp [letB, h2]))
          have d1 : decide ((s[k].toNat : Int) < 97) = false := by simp; omega
          have d2 : decide ((122 : Int) < (s[k].toNat : Int)) = true := by simp; omega
          clear h1 h2
          go_wp2
          go_ret
          exact ⟨ret_bool R.out.symm, rfl⟩
      · have R := Lib.hid (show nameB s = false from nameB_not s k hlt (by simp [letB, h1]))
        have d1 : decide ((s[k].toNat : Int) < 97) = true := by simp; omega
        clear h1
        go_wp2
        go_ret
        exact ⟨ret_bool R.out.symm, rfl⟩
    · obtain rfl : k = s.size := by omega
      have R := Lib.hid (nameB_end s (fun j hj => AL.out j hj hj))
      by_cases h1 : 1 ≤ s.size
      · have R2 := Lib.hid (show nameB s = decide ((s.size : Int) ≤ 12) by rw [R.out]; simp [h1]; omega)
        go_wp2
        go_ret
        exact ⟨ret_bool R2.out.symm, rfl⟩
      · have R2 := Lib.hid (show nameB s = false by rw [R.out]; simp [h1])
        have d1 : decide ((1 : Int) ≤ (s.size : Int)) = false := by simp; omega
        go_wp2
        go_ret
        exact ⟨ret_bool R2.out.symm, rfl⟩

def pairB (p x : A4) : Bool := Op.bytesLess p.1.toList x.1.toList
/-- Is the attribute at that place right, and behind the one ahead of it? -/
def goodB (l : List A4) (k : Nat) : Bool := match l[k]? with
  | some x => nameB x.1 && rightV x.2.1 x.2.2.1 x.2.2.2 && (k == 0 || (match l[k - 1]? with
    | some p => pairB p x
    | none => true))
  | none => true
/-- May it be published? -/
def rightT (l : List A4) : Bool := (List.range l.length).all (goodB l) && decide (l.length ≤ 5)
theorem rightT_not (l : List A4) (k : Nat) (h : k < l.length) (hg : goodB l k = false) : rightT l = false := by
  have : (List.range l.length).all (goodB l) = false := by
    rw [List.all_eq_false]
    exact ⟨k, List.mem_range.2 h, by rw [hg]; decide⟩
  simp [rightT, this]
theorem rightT_end (l : List A4) (h : ∀ j, j < l.length → goodB l j = true) : rightT l = decide (l.length ≤ 5) := by
  have : (List.range l.length).all (goodB l) = true := by
    rw [List.all_eq_true]
    exact fun j hj => h j (List.mem_range.1 hj)
  simp [rightT, this]
theorem rname_re (s : ByteArray) (hs : s.size ≤ maxLen) (r : Bool) (hr : nameB s = r) (w : World) (d : Nat) (os : Array Obj) :
    Calls Tryd.prog 16 #[.string s] (grow (redrawn w d) os) fun e w'' => e = .returned (.bool r) ∧ ∃ p : Regrown, w'' = grow (redrawn w p.d) p.os := by
  subst hr
  exact (rname_any s _ hs).mono fun e w' ⟨h1, h2⟩ => ⟨h1, ⟨d, os⟩, h2.symm⟩
theorem rright_re (t : Bool) (n : Int) (s : ByteArray) (hs : s.size ≤ maxLen) (r : Bool) (hr : rightV t n s = r) (w : World) (d : Nat) (os : Array Obj) :
    Calls Tryd.prog 29 #[vl t n s] (grow (redrawn w d) os) fun e w'' => e = .returned (.bool r) ∧ ∃ p : Regrown, w'' = grow (redrawn w p.d) p.os := by
  subst hr
  exact Calls.regrown_of (refRight_any _ _ _ _ (by unfold maxLen at hs; omega))

set_option maxRecDepth 100000 in
set_option maxHeartbeats 8000000 in
theorem rtuple_any (lv : Value) (l : List A4) (w : World) (hl : RowA w lv l) (hn : l.length ≤ 1000000) (hs : ∀ x ∈ l, x.1.size ≤ maxLen ∧ x.2.2.2.size ≤ maxLen) :
    Calls Tryd.prog 14 #[lv] w fun e w' => e = .returned (.bool (rightT l)) ∧ Below w.heap.size w w' := by
  have HL := Lib.hid hl
  have HS := Lib.hid hs
  obtain ⟨ao, ac, rfl⟩ := hl.len
  clear hl hs
  go_enter Tryd.func14, Tryd.ntmps14
  go_wp2
  go_loopw [7] (fun i wr => ∃ k : Nat, k ≤ l.length ∧ i = .int .i64 k ∧ Below w.heap.size w wr ∧ ∀ j, j < k → goodB l j = true) (fun i _ => l.length - (intOf i).toNat)
  case atStart => exact ⟨0, Nat.zero_le _, rfl, Below.refl _ _, fun j h => by omega⟩
  case round =>
    obtain ⟨k, hk, rfl, hb, hall⟩ := hrel
    have HB := Lib.hid hb
    have AL := Lib.hid hall
    clear hb hall
    by_cases hlt : k < l.length
    · obtain ⟨⟨xn, xt, xi, xs⟩, hx⟩ : ∃ x, l[k]? = some x := ⟨_, List.getElem?_eq_getElem hlt⟩
      obtain ⟨p, ix, px⟩ := row_cells HL.out rfl rfl hx
      obtain ⟨p0, p1, p2, p3⟩ := px _ HB.out
      have hsz := HS.out _ (List.mem_of_getElem? hx)
      have HX := Lib.hid hx
      have hb4 : Below w.heap.size w (wr.alloc (.cells #[.string xn, .bool xt, .int .i64 xi, .string xs] 25)) := HB.out.alloc HB.out.size _
      have B4 := Lib.hid hb4
      have c4 : ∀ i, (wr.alloc (.cells #[.string xn, .bool xt, .int .i64 xi, .string xs] 25)).cell? ⟨wr.heap.size, i, none⟩ = #[.string xn, .bool xt, .int .i64 xi, .string xs][i]? := fun i => by
        rw [World.cell?_alloc_at _ _ _ _ rfl]
      clear hx px hb4
      simp only at p0 p1 p2 p3
      go_wp2
      clear p0 p1 p2 p3 ix
      generalize wr.alloc (.cells #[.string xn, .bool xt, .int .i64 xi, .string xs] 25) = W4 at *
      have a0 := cell_regrown (c4 0)
      have a1 := cell_regrown (c4 1)
      have a2 := cell_regrown (c4 2)
      have a3 := cell_regrown (c4 3)
      clear c4
      obtain ⟨r1, h1⟩ : ∃ r, nameB xn = r := ⟨_, rfl⟩
      obtain ⟨r2, h2⟩ : ∃ r, rightV xt xi xs = r := ⟨_, rfl⟩
      have N1 := Lib.hid (rname_re xn hsz.1 r1 h1 W4)
      have N2 := Lib.hid (rright_re xt xi xs hsz.2 r2 h2 W4)
      have E1 := Lib.hid h1
      have E2 := Lib.hid h2
      clear h1 h2 hsz
      cases r1
      · have R := Lib.hid (show rightT l = false from rightT_not l k hlt (by simp [goodB, HX.out, E1.out]))
        go_wp2
        refine wp_region_quiet_below (by kernel_rfl) (by kernel_rfl) ?_
        repeat (go_big_quiet_step (first | (with_reducible exact N1.out _ _) | (with_reducible exact N2.out _ _)))
        refine wpQuiet_nil ?_
        intro _ hw'
        obtain ⟨⟨dq, osq⟩, hw''⟩ := hw'
        subst hw''
        have BN := Lib.hid (B4.out.trans ((below_regrown W4 dq osq).mono B4.out.size))
        go_wp2
        go_ret
        exact ⟨ret_bool R.out.symm, BN.out⟩
      · cases r2
        · have R := Lib.hid (show rightT l = false from rightT_not l k hlt (by simp [goodB, HX.out, E1.out, E2.out]))
          go_wp2
          refine wp_region_quiet_below (by kernel_rfl) (by kernel_rfl) ?_
          repeat (go_big_quiet_step (first | (with_reducible exact N1.out _ _) | (with_reducible exact N2.out _ _)))
          refine wpQuiet_nil ?_
          intro _ hw'
          obtain ⟨⟨dq, osq⟩, hw''⟩ := hw'
          subst hw''
          have BN := Lib.hid (B4.out.trans ((below_regrown W4 dq osq).mono B4.out.size))
          go_wp2
          go_ret
          exact ⟨ret_bool R.out.symm, BN.out⟩
        · cases k with
          | zero =>
            have G := Lib.hid (show goodB l 0 = true by simp [goodB, HX.out, E1.out, E2.out])
            rw [show ((0 : Nat) : Int) = 0 from rfl]
            go_wp2
            refine wp_region_quiet_below (by kernel_rfl) (by kernel_rfl) ?_
            repeat (go_big_quiet_step (first | (with_reducible exact N1.out _ _) | (with_reducible exact N2.out _ _)))
            refine wpQuiet_nil ?_
            intro _ hw'
            obtain ⟨⟨dq, osq⟩, hw''⟩ := hw'
            subst hw''
            have BN := Lib.hid (B4.out.trans ((below_regrown W4 dq osq).mono B4.out.size))
            clear a0 a1 a2 a3
            go_wp2
            go_roundw
            case rel => exact ⟨0 + 1, by omega, by go_num, BN.out, fun j hj => by
              rcases Nat.lt_or_ge j (0) with h3 | h3
              · exact AL.out j h3
              · obtain rfl : j = 0 := by omega
                exact G.out⟩
            case measure => simp [intOf]; omega
          | succ m =>
            obtain ⟨⟨yn, yt, yi, ys⟩, hy⟩ : ∃ y, l[m]? = some y := ⟨_, List.getElem?_eq_getElem (by omega)⟩
            obtain ⟨q, iy, qx⟩ := row_cells HL.out rfl rfl hy
            have y0 := cell_regrown (qx _ B4.out).1
            have HY := Lib.hid hy
            obtain ⟨r3, h3⟩ : ∃ r, Op.bytesLess yn.toList xn.toList = r := ⟨_, rfl⟩
            have E3 := Lib.hid h3
            clear hy qx
            simp only at y0
            rw [show ((m + 1 : Nat) : Int) = (m : Int) + 1 from rfl]
            have e35 : IntKind.i64.wrap ((m : Int) + 1 - 1) = m := by rw [show (m : Int) + 1 - 1 = m by omega]; exact IntWalk.i64_in _ (by omega)
            have e36 : (m : Int) + 1 - 1 = m := by omega
            cases r3
            · have R := Lib.hid (show rightT l = false from rightT_not l (m + 1) hlt (by simp [goodB, HX.out, E1.out, E2.out, HY.out, pairB, E3.out]))
              go_wp2
              refine wp_region_quiet_below (by kernel_rfl) (by kernel_rfl) ?_
              repeat (go_big_quiet_step (first | (with_reducible exact N1.out _ _) | (with_reducible exact N2.out _ _)))
              refine wpQuiet_nil ?_
              intro _ hw'
              obtain ⟨⟨dq, osq⟩, hw''⟩ := hw'
              subst hw''
              have BN := Lib.hid (B4.out.trans ((below_regrown W4 dq osq).mono B4.out.size))
              go_wp2
              go_ret
              exact ⟨ret_bool R.out.symm, BN.out⟩
            · have G := Lib.hid (show goodB l (m + 1) = true by simp [goodB, HX.out, E1.out, E2.out, HY.out, pairB, E3.out])
              go_wp2
              refine wp_region_quiet_below (by kernel_rfl) (by kernel_rfl) ?_
              repeat (go_big_quiet_step (first | (with_reducible exact N1.out _ _) | (with_reducible exact N2.out _ _)))
              refine wpQuiet_nil ?_
              intro _ hw'
              obtain ⟨⟨dq, osq⟩, hw''⟩ := hw'
              subst hw''
              have BN := Lib.hid (B4.out.trans ((below_regrown W4 dq osq).mono B4.out.size))
              clear iy y0 e35 e36 h3 a0 a1 a2 a3
              go_wp2
              go_roundw
              case rel => exact ⟨m + 1 + 1, by omega, by go_num, BN.out, fun j hj => by
                rcases Nat.lt_or_ge j (m + 1) with h3 | h3
                · exact AL.out j h3
                · obtain rfl : j = m + 1 := by omega
                  exact G.out⟩
              case measure => simp [intOf]; omega
    · obtain rfl : k = l.length := by omega
      have R := Lib.hid (show decide ((l.length : Int) ≤ 5) = rightT l by rw [rightT_end l AL.out]; simp; omega)
      go_wp2
      go_ret
      exact ⟨ret_bool R.out, HB.out⟩
end Go.Proofs.YtpmhnmdienlgoaaDoor.At
