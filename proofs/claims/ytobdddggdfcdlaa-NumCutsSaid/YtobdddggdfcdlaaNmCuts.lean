/-
  The law NumCuts: a text's length says how much is read; what is asked beyond is nothing, from then on for ever. Conditions: numbers of 64 bits; lists no longer than a machine holds.
-/
import Derived.Test.YtobdddggdfcdlaaNmCutsP
import Derived.Test.YtobdddggdfcdlaaNmRdr2
namespace Go.Proofs.Ytobdddggdfcdlaa.Nm
open Go.RowKit Go.Sort Go.Proofs.Ytobdddggdfcdlaa Go.Proofs.Ytobdddggdfcdlaa.Rw

set_option maxRecDepth 100000 in
set_option maxHeartbeats 32000000 in
theorem cuts_any (rv nv : Value) (raw : List UInt8) (ns : List Int) (w : World) (hraw : RowB w rv raw) (hns : RowI w nv ns) (hI : ∀ z ∈ ns, I64 z) : Calls Try.prog 7 #[rv, nv] w fun e w' => e = .returned (.bool true) ∧ Below w.heap.size w w' := by
  have hmost : raw.length ≤ 9223372036854775807 := by have h := hraw.most; unfold maxLen at h; omega
  have hmost2 : ns.length ≤ 9223372036854775807 := by have h := hns.most; unfold maxLen at h; omega
  obtain ⟨b, hbe⟩ : ∃ b, b = raw.take 40 := ⟨_, rfl⟩
  obtain ⟨L, hL⟩ : ∃ L, L = b.length := ⟨_, rfl⟩
  have hL40 : L ≤ 40 := by rw [hL, hbe]; simp; omega
  have hLm : (if (40 : Int) < (raw.length : Int) then (40 : Int) else (raw.length : Int)) = (L : Int) := by rw [hL, hbe]; simp; split <;> omega
  have N0 := Lib.hid (new_below w (.cells #[] 5))
  obtain ⟨lo, slo, rlo⟩ := row_lo8 hraw L (by rw [hL, hbe]; simp; omega)
  have elo : raw.take L = b := by rw [hL, hbe]; simp
  rw [elo] at rlo
  have ho0 : OwnB (w.alloc (.cells #[] 5)) w.heap.size (.slice (some ⟨w.heap.size, 0, none⟩) 0 0) [] := own_made w
  obtain ⟨v1, w1, r1, o1, g1⟩ := appB w.heap.size ho0 (rlo.on N0.out) (by simp; omega) (by simp) 24
  have B1 := Lib.hid (N0.out.trans (below_own ho0 (by simp) g1))
  have R1 := Lib.hid (Row.of_own (show OwnB w1 w.heap.size v1 b by simpa using o1))
  have NS1 := Lib.hid (hns.on B1.out)
  obtain ⟨bo, bc, rfl⟩ := R1.out.len
  rw [← hL] at R1 r1
  have HL := Lib.hid hL
  have HI := Lib.hid hI
  obtain ⟨ro, rc, rfl⟩ := hraw.len
  obtain ⟨no, nc, rfl⟩ := hns.len
  have RM := Lib.hid (roomyB _ b 7 w1 R1.out (by rw [← hL]; omega))
  rw [← hL] at RM
  obtain ⟨q, hq⟩ : ∃ q, q = ns.length := ⟨_, rfl⟩
  have HQ := Lib.hid hq
  rw [← hq] at NS1 hmost2 ⊢
  clear hraw hns hI hbe hL rlo elo ho0 o1 g1 N0 hq
  generalize raw.length = rl at *
  go_enter Try.func7, Try.ntmps7
  go_wp2_with (first | (at_builtin; refine wpList_append_run rfl _ _ 24 rfl rfl rfl r1 ?_) | fail)
  refine RM.out.mono ?_
  rintro e2 w2 ⟨g, rfl, ho, hb⟩
  have B2 := Lib.hid (B1.out.trans (hb.mono B1.out.size))
  have R2 := Lib.hid (R1.out.on hb)
  have NS2 := Lib.hid (NS1.out.on hb)
  have RF2 := Lib.hid (Row.of_own ho)
  have RC2 := Lib.hid (show RowB w2 (.slice (some ⟨g, 0, none⟩) L (L + 80)) b by
    have h := row_take okB RF2.out (k := L) (by rw [List.length_append, HL.out]; exact Nat.le_add_right _ _)
    have e : (b ++ List.replicate 80 (7 : UInt8)).take L = b := by rw [HL.out, List.take_left]
    rwa [e] at h)
  have RD := Lib.hid (read_any _ b w2 RC2.out (by rw [← HL.out]; omega))
  clear ho hb RM R1 NS1 B1 RC2 r1 slo hLm
  go_wp2_with fail
  refine RD.out.mono ?_
  rintro e3 w3 ⟨⟨rb, rfl, hrb, hd⟩, hb⟩
  have A3 := Lib.hid hb
  have LB := Lib.hid hrb
  have D3 := Lib.hid hd
  clear hb hrb hd RD
  go_wp2_with fail
  go_loopw [8, 9, 10] (fun v8 v9 v10 wr => ∃ (i k : Nat) (gd : Bool), i ≤ 12 ∧ v10 = .int .i64 i ∧ v8 = .int .i64 k ∧ v9 = .bool gd ∧ k ≤ L ∧ (gd = false → k = L) ∧ Below w2.heap.size w2 wr ∧ Rd wr rb (stC b gd k)) (fun _ _ v10 _ => 12 - (intOf v10).toNat)
  case atStart => exact ⟨0, 0, true, by omega, rfl, rfl, rfl, Nat.zero_le _, (fun h => by cases h), A3.out, D3.out⟩
  case round =>
    obtain ⟨i, k, gd, hi, rfl, rfl, rfl, hk, hgk, hb, hd⟩ := hrel
    have HA := Lib.hid hb
    have HD := Lib.hid hd
    have GK := Lib.hid hgk
    clear hb hd hgk
    by_cases hlt : i < q ∧ i < 12
    · obtain ⟨h1, h2⟩ := hlt
      obtain ⟨z, hz⟩ : ∃ z, ns[i]? = some z := ⟨_, List.getElem?_eq_getElem (by rw [← HQ.out]; exact h1)⟩
      obtain ⟨p, ix, _, px⟩ := elI NS2.out rfl HQ.out.symm hz
      have p0 := px _ HA.out
      have IZ := Lib.hid (HI.out z (List.mem_of_getElem? hz))
      have WI := Lib.hid (Wi.within_any z 0 2 wr (by decide) (by decide) (by decide) IZ.out.1 IZ.out.2)
      have WB := Wi.within_bd z 0 2 (by decide)
      generalize Wi.within z 0 2 = kind at *
      clear px hz
      go_wp2_with fail
      refine WI.out.mono ?_
      rintro e4 w4 ⟨rfl, rfl⟩
      clear p0 ix WI
      rcases (by omega : kind = 0 ∨ kind = 1 ∨ kind = 2) with rfl | rfl | rfl
      · clear WB
        cases gd
        · obtain rfl := (GK.out rfl).symm
          have C := Lib.hid (byte_any rb _ wr HD.out)
          rw [byteS_gone] at C
          go_wp2_with fail
          refine C.out.mono ?_
          rintro e5 w5 ⟨rfl, hd, hg⟩
          have HA5 := Lib.hid (HA.out.trans (HD.out.below LB.out hg))
          have HD5 := Lib.hid hd
          clear hd hg C
          have GO := Lib.hid (good_any rb _ w5 HD5.out)
          have DO := Lib.hid (done_any rb _ w5 HD5.out)
          rw [good_at] at GO
          rw [done_gone] at DO
          go_wp2_with fail
          refine GO.out.mono ?_
          rintro e6 w6 ⟨rfl, rfl⟩
          go_wp2_with fail
          refine DO.out.mono ?_
          rintro e6 w6 ⟨rfl, rfl⟩
          go_wp2_with fail
          go_roundw
          case rel => exact ⟨i + 1, L, false, by omega, by go_num, rfl, rfl, Nat.le_refl _, fun _ => rfl, HA5.out, HD5.out⟩
          case measure => simp [intOf]; omega
        · by_cases hkL : k < L
          · obtain ⟨x, hx⟩ : ∃ x, b[k]? = some x := ⟨_, List.getElem?_eq_getElem (by rw [← HL.out]; exact hkL)⟩
            obtain ⟨p, ix, _, px⟩ := elB R2.out rfl HL.out.symm hx
            have C := Lib.hid (byte_any rb _ wr HD.out)
            rw [byteS_at hx] at C
            go_wp2_with fail
            refine C.out.mono ?_
            rintro e5 w5 ⟨rfl, hd, hg⟩
            have HA5 := Lib.hid (HA.out.trans (HD.out.below LB.out hg))
            have HD5 := Lib.hid hd
            clear hd hg C
            have p0 := px _ HA5.out
            have hk1 : (k : Int) < (L : Int) := by omega
            have hk2 : (k : Int) + 1 ≤ (L : Int) := by omega
            clear px hx
            have GO := Lib.hid (good_any rb _ w5 HD5.out)
            have DO := Lib.hid (done_any rb _ w5 HD5.out)
            rw [good_at] at GO
            rw [done_at (by rw [← HL.out]; omega), ← HL.out, show ((k + 1 : Nat) : Int) = ((k : Int) + 1) from by omega] at DO
            obtain ⟨e, he⟩ : ∃ e : Bool, (((k : Int) + 1) == (L : Int)) = e := ⟨_, rfl⟩
            rw [he] at DO
            go_wp2_with fail
            refine GO.out.mono ?_
            rintro e6 w6 ⟨rfl, rfl⟩
            cases e
            all_goals
              go_wp2_with fail
              refine DO.out.mono ?_
              rintro e6 w6 ⟨rfl, rfl⟩
              go_wp2_with fail
              go_roundw
              case rel => exact ⟨i + 1, k + 1, true, by omega, by go_num, by go_num, rfl, by omega, (fun h => by cases h), HA5.out, HD5.out⟩
              case measure => simp [intOf]; omega
          · obtain rfl : L = k := by omega
            have C := Lib.hid (byte_any rb _ wr HD.out)
            rw [byteS_end (by rw [← HL.out]; exact Nat.le_refl _)] at C
            go_wp2_with fail
            refine C.out.mono ?_
            rintro e5 w5 ⟨rfl, hd, hg⟩
            have HA5 := Lib.hid (HA.out.trans (HD.out.below LB.out hg))
            have HD5 := Lib.hid hd
            clear hd hg C
            have GO := Lib.hid (good_any rb _ w5 HD5.out)
            have DO := Lib.hid (done_any rb _ w5 HD5.out)
            rw [good_at] at GO
            rw [done_gone] at DO
            go_wp2_with fail
            refine GO.out.mono ?_
            rintro e6 w6 ⟨rfl, rfl⟩
            go_wp2_with fail
            refine DO.out.mono ?_
            rintro e6 w6 ⟨rfl, rfl⟩
            go_wp2_with fail
            go_roundw
            case rel => exact ⟨i + 1, L, false, by omega, by go_num, rfl, rfl, Nat.le_refl _, fun _ => rfl, HA5.out, HD5.out⟩
            case measure => simp [intOf]; omega
      · clear WB
        cases gd
        · obtain rfl := (GK.out rfl).symm
          have C := Lib.hid (num_any rb _ wr HD.out)
          rw [numS_gone] at C
          go_wp2_with fail
          refine C.out.mono ?_
          rintro e5 w5 ⟨rfl, hd, hg⟩
          have HA5 := Lib.hid (HA.out.trans (HD.out.below LB.out hg))
          have HD5 := Lib.hid hd
          clear hd hg C
          have hw8 : IntKind.i64.wrap ((L : Int) + 8) = (L : Int) + 8 := IntWalk.i64_in _ (by omega)
          have hgt : decide ((L : Int) < (L : Int) + 8) = true := decide_eq_true (by omega)
          have hle : decide ((L : Int) + 8 ≤ (L : Int)) = false := decide_eq_false (by omega)
          go_wp2_with fail
          refine wp_region_quiet_below (by kernel_rfl) (by kernel_rfl) ?_
          repeat (go_big_quiet_step (fail))
          refine wpQuiet_nil ?_
          intro _ hw'
          obtain ⟨⟨dq, osq⟩, hw''⟩ := hw'
          subst hw''
          have Z6 := below_regrown w5 dq osq
          have HA7 := Lib.hid (HA5.out.trans (Z6.mono HA5.out.size))
          have HD7 := Lib.hid (HD5.out.on Z6)
          clear Z6 HA5 HD5 hw8 hgt hle
          generalize grow (redrawn w5 dq) osq = w7 at *
          have GO := Lib.hid (good_any rb _ w7 HD7.out)
          have DO := Lib.hid (done_any rb _ w7 HD7.out)
          rw [good_at] at GO
          rw [done_gone] at DO
          go_wp2_with fail
          refine GO.out.mono ?_
          rintro e6 w6 ⟨rfl, rfl⟩
          go_wp2_with fail
          refine DO.out.mono ?_
          rintro e6 w6 ⟨rfl, rfl⟩
          go_wp2_with fail
          go_roundw
          case rel => exact ⟨i + 1, L, false, by omega, by go_num, rfl, rfl, Nat.le_refl _, fun _ => rfl, HA7.out, HD7.out⟩
          case measure => simp [intOf]; omega
        · by_cases hkL : k + 8 ≤ L
          · have hk2 : (k : Int) + 8 ≤ (L : Int) := by omega
            have C := Lib.hid (num_any rb _ wr HD.out)
            rw [numS_at (by rw [← HL.out]; exact hkL)] at C
            go_wp2_with fail
            refine C.out.mono ?_
            rintro e5 w5 ⟨rfl, hd, hg⟩
            have HA5 := Lib.hid (HA.out.trans (HD.out.below LB.out hg))
            have HD5 := Lib.hid hd
            clear hd hg C
            obtain ⟨mid, hmid, rmid⟩ := row_mid8 (R2.out.on HA5.out) k (k + 8) (by omega) (by rw [← HL.out]; exact hkL)
            rw [show k + 8 - k = 8 by omega] at rmid
            have rm2 : RowB w5 mid (numB (valN ((b.drop k).take 8))) := by rw [num_val _ (by rw [List.length_take, List.length_drop, ← HL.out]; omega)]; exact rmid
            rw [show ((k + 8 : Nat) : Int) = (k : Int) + 8 by omega] at hmid
            have MID := Lib.hid hmid
            have RM2 := Lib.hid rm2
            clear hmid rmid rm2
            generalize valN ((b.drop k).take 8) = nn at *
            go_upto_region 27 with fail
            refine cuts_r27 _ w5 bo L bc k nn mid _ _ _ _ _ _ _ _ _ _ _ _ _ _ _ _ _ _ _ _ _ _ _ _ _ _ _ _ _ _ _ _ _ _ _ _ _ _ _ _ _ _ _ _ _ _ _ _ _ _ _ _ _ _ _ _ _ _ _ _ _ _ _ _ _ _ _ _ _ _ _ _ _ _ _ _ _ _ _ _ _ _ _ _ _ _ _ _ _ _ _ _ _ _ _ _ _ _ _ _ _ _ _ _ _ _ _ _ _ _ _ _ _ _ _ _ _ _ _ _ _ _ _ _ _ _ _ _ _ _ _ _ _ _ _ _ _ _ _ _ _ _ _ _ _ _ _ _ _ _ _ _ _ _ _ _ _ _ _ _ _ _ _ _ _ _ _ _ _ _ _ _ _ _ _ _ _ _ _ hkL (by omega) MID.out RM2.out ?_
            intro w7 v115 v116 v117 v118 v119 v120 v121 v122 v123 v124 v125 v126 v127 v128 v129 v130 v131 v132 v133 v134 v135 v136 v137 v138 v139 v140 v141 v142 v143 v144 hb
            have HA7 := Lib.hid (HA5.out.trans (hb.mono HA5.out.size))
            have HD7 := Lib.hid (HD5.out.on hb)
            clear hb HA5 HD5 MID RM2
            simp only [Exit.then]
            apply_assumption
            have GO := Lib.hid (good_any rb _ w7 HD7.out)
            have DO := Lib.hid (done_any rb _ w7 HD7.out)
            rw [good_at] at GO
            rw [done_at (by rw [← HL.out]; omega), ← HL.out, show ((k + 8 : Nat) : Int) = ((k : Int) + 8) from by omega] at DO
            obtain ⟨e, he⟩ : ∃ e : Bool, (((k : Int) + 8) == (L : Int)) = e := ⟨_, rfl⟩
            rw [he] at DO
            go_wp2_with fail
            refine GO.out.mono ?_
            rintro e6 w6 ⟨rfl, rfl⟩
            cases e
            all_goals
              go_wp2_with fail
              refine DO.out.mono ?_
              rintro e6 w6 ⟨rfl, rfl⟩
              go_wp2_with fail
              go_roundw
              case rel => exact ⟨i + 1, k + 8, true, by omega, by go_num, by go_num, rfl, by omega, (fun h => by cases h), HA7.out, HD7.out⟩
              case measure => simp [intOf]; omega
          · have hk2 : ¬ (k : Int) + 8 ≤ (L : Int) := by omega
            have hk3 : (L : Int) < (k : Int) + 8 := by omega
            have C := Lib.hid (num_any rb _ wr HD.out)
            rw [numS_end (by rw [← HL.out]; omega)] at C
            go_wp2_with fail
            refine C.out.mono ?_
            rintro e5 w5 ⟨rfl, hd, hg⟩
            have HA5 := Lib.hid (HA.out.trans (HD.out.below LB.out hg))
            have HD5 := Lib.hid hd
            clear hd hg C
            have hw8 : IntKind.i64.wrap ((k : Int) + 8) = (k : Int) + 8 := IntWalk.i64_in _ (by omega)
            have hgt : decide ((L : Int) < (k : Int) + 8) = true := decide_eq_true (by omega)
            have hle : decide ((k : Int) + 8 ≤ (L : Int)) = false := decide_eq_false (by omega)
            go_wp2_with fail
            refine wp_region_quiet_below (by kernel_rfl) (by kernel_rfl) ?_
            repeat (go_big_quiet_step (fail))
            refine wpQuiet_nil ?_
            intro _ hw'
            obtain ⟨⟨dq, osq⟩, hw''⟩ := hw'
            subst hw''
            have Z6 := below_regrown w5 dq osq
            have HA7 := Lib.hid (HA5.out.trans (Z6.mono HA5.out.size))
            have HD7 := Lib.hid (HD5.out.on Z6)
            clear Z6 HA5 HD5 hw8 hgt hle
            generalize grow (redrawn w5 dq) osq = w7 at *
            have GO := Lib.hid (good_any rb _ w7 HD7.out)
            have DO := Lib.hid (done_any rb _ w7 HD7.out)
            rw [good_at] at GO
            rw [done_gone] at DO
            go_wp2_with fail
            refine GO.out.mono ?_
            rintro e6 w6 ⟨rfl, rfl⟩
            go_wp2_with fail
            refine DO.out.mono ?_
            rintro e6 w6 ⟨rfl, rfl⟩
            go_wp2_with fail
            go_roundw
            case rel => exact ⟨i + 1, L, false, by omega, by go_num, rfl, rfl, Nat.le_refl _, fun _ => rfl, HA7.out, HD7.out⟩
            case measure => simp [intOf]; omega
      · clear WB
        cases gd
        · obtain rfl := (GK.out rfl).symm
          have C := Lib.hid (rtext_any rb _ wr HD.out)
          rw [textS_gone] at C
          go_wp2_with fail
          refine C.out.mono ?_
          rintro e5 w5 ⟨rfl, hd, hg⟩
          have HA5 := Lib.hid (HA.out.trans (HD.out.below LB.out hg))
          have HD5 := Lib.hid hd
          clear hd hg C
          have GO := Lib.hid (good_any rb _ w5 HD5.out)
          have DO := Lib.hid (done_any rb _ w5 HD5.out)
          rw [good_at] at GO
          rw [done_gone] at DO
          go_wp2_with fail
          refine GO.out.mono ?_
          rintro e6 w6 ⟨rfl, rfl⟩
          go_wp2_with fail
          refine DO.out.mono ?_
          rintro e6 w6 ⟨rfl, rfl⟩
          go_wp2_with fail
          go_roundw
          case rel => exact ⟨i + 1, L, false, by omega, by go_num, rfl, rfl, Nat.le_refl _, fun _ => rfl, HA5.out, HD5.out⟩
          case measure => simp [intOf]; omega
        · by_cases hkL : k < L
          · obtain ⟨x, hx⟩ : ∃ x, b[k]? = some x := ⟨_, List.getElem?_eq_getElem (by rw [← HL.out]; exact hkL)⟩
            obtain ⟨p, ix, _, px⟩ := elB R2.out rfl HL.out.symm hx
            obtain ⟨xn, hxn⟩ : ∃ xn, xn = x.toNat := ⟨_, rfl⟩
            have hx256 : xn < 256 := by rw [hxn]; exact x.toNat_lt
            have hk1 : (k : Int) < (L : Int) := by omega
            by_cases hfit : k + 1 + xn ≤ L
            · have hk2 : (k : Int) + (1 + (xn : Int)) ≤ (L : Int) := by omega
              have C := Lib.hid (rtext_any rb _ wr HD.out)
              rw [textS_at hx (by rw [← HL.out, ← hxn]; exact hfit)] at C
              rw [← hxn, show k + 1 + xn = k + (1 + xn) by omega] at C
              go_wp2_with fail
              refine C.out.mono ?_
              rintro e5 w5 ⟨rfl, hd, hg⟩
              have HA5 := Lib.hid (HA.out.trans (HD.out.below LB.out hg))
              have HD5 := Lib.hid hd
              clear hd hg C
              have p0 := px _ HA5.out
              rw [← hxn] at p0
              obtain ⟨mid, hmid, rmid⟩ := row_mid8 (R2.out.on HA5.out) (k + 1) (k + (1 + xn)) (by omega) (by rw [← HL.out]; omega)
              rw [show k + (1 + xn) - (k + 1) = xn by omega] at rmid
              rw [show ((k + (1 + xn) : Nat) : Int) = (k : Int) + (1 + (xn : Int)) by omega, show ((k + 1 : Nat) : Int) = (k : Int) + 1 by omega] at hmid
              have cv := conv_row rmid
              clear px hx hxn
              generalize (⟨((b.drop (k + 1)).take xn).toArray⟩ : ByteArray) = tt at *
              have GO := Lib.hid (good_any rb _ w5 HD5.out)
              have DO := Lib.hid (done_any rb _ w5 HD5.out)
              rw [good_at] at GO
              rw [done_at (by rw [← HL.out]; omega), ← HL.out, show ((k + (1 + xn) : Nat) : Int) = ((k : Int) + (1 + (xn : Int))) from by omega] at DO
              obtain ⟨e, he⟩ : ∃ e : Bool, (((k : Int) + (1 + (xn : Int))) == (L : Int)) = e := ⟨_, rfl⟩
              rw [he] at DO
              go_wp2_with fail
              refine GO.out.mono ?_
              rintro e6 w6 ⟨rfl, rfl⟩
              cases e
              all_goals
                go_wp2_with fail
                refine DO.out.mono ?_
                rintro e6 w6 ⟨rfl, rfl⟩
                go_wp2_with fail
                go_roundw
                case rel => exact ⟨i + 1, k + (1 + xn), true, by omega, by go_num, by go_num, rfl, by omega, (fun h => by cases h), HA5.out, HD5.out⟩
                case measure => simp [intOf]; omega
            · have hk2 : ¬ (k : Int) + (1 + (xn : Int)) ≤ (L : Int) := by omega
              have hk3 : (L : Int) < (k : Int) + (1 + (xn : Int)) := by omega
              have C := Lib.hid (rtext_any rb _ wr HD.out)
              rw [textS_over hx (by rw [← HL.out, ← hxn]; omega)] at C
              go_wp2_with fail
              refine C.out.mono ?_
              rintro e5 w5 ⟨rfl, hd, hg⟩
              have HA5 := Lib.hid (HA.out.trans (HD.out.below LB.out hg))
              have HD5 := Lib.hid hd
              clear hd hg C
              have p0 := px _ HA5.out
              rw [← hxn] at p0
              clear px hx hxn
              have GO := Lib.hid (good_any rb _ w5 HD5.out)
              have DO := Lib.hid (done_any rb _ w5 HD5.out)
              rw [good_at] at GO
              rw [done_gone] at DO
              go_wp2_with fail
              refine GO.out.mono ?_
              rintro e6 w6 ⟨rfl, rfl⟩
              go_wp2_with fail
              refine DO.out.mono ?_
              rintro e6 w6 ⟨rfl, rfl⟩
              go_wp2_with fail
              go_roundw
              case rel => exact ⟨i + 1, L, false, by omega, by go_num, rfl, rfl, Nat.le_refl _, fun _ => rfl, HA5.out, HD5.out⟩
              case measure => simp [intOf]; omega
          · obtain rfl : L = k := by omega
            have C := Lib.hid (rtext_any rb _ wr HD.out)
            rw [textS_end (by rw [← HL.out]; exact Nat.le_refl _)] at C
            go_wp2_with fail
            refine C.out.mono ?_
            rintro e5 w5 ⟨rfl, hd, hg⟩
            have HA5 := Lib.hid (HA.out.trans (HD.out.below LB.out hg))
            have HD5 := Lib.hid hd
            clear hd hg C
            have GO := Lib.hid (good_any rb _ w5 HD5.out)
            have DO := Lib.hid (done_any rb _ w5 HD5.out)
            rw [good_at] at GO
            rw [done_gone] at DO
            go_wp2_with fail
            refine GO.out.mono ?_
            rintro e6 w6 ⟨rfl, rfl⟩
            go_wp2_with fail
            refine DO.out.mono ?_
            rintro e6 w6 ⟨rfl, rfl⟩
            go_wp2_with fail
            go_roundw
            case rel => exact ⟨i + 1, L, false, by omega, by go_num, rfl, rfl, Nat.le_refl _, fun _ => rfl, HA5.out, HD5.out⟩
            case measure => simp [intOf]; omega
    · have BE := Lib.hid (B2.out.trans (HA.out.mono B2.out.size))
      have IT := Lib.hid (intactB ⟨g, 0, none⟩ (L + 80) _ b 7 wr (by rw [← HL.out]; exact RF2.out.on HA.out) (R2.out.on HA.out) (by rw [← HL.out]; omega))
      rw [← HL.out] at IT
      have hout : ¬ ((i : Int) < (q : Int) ∧ (i : Int) < 12) := by omega
      rcases (by omega : ¬ (i : Int) < (q : Int) ∨ ((i : Int) < (q : Int) ∧ ¬ (i : Int) < 12)) with h1 | ⟨h1, h2⟩
      all_goals
        clear hout
        go_wp2_with fail
        refine IT.out.mono ?_
        rintro e4 w4 ⟨rfl, hb⟩
        have B4 := Lib.hid (BE.out.trans (hb.mono BE.out.size))
        have RU := Lib.hid (runs_any w4)
        clear hb
        go_wp2_with fail
        refine RU.out.mono ?_
        rintro e5 w5 ⟨rfl, hb⟩
        have B5 := Lib.hid (B4.out.trans (hb.mono B4.out.size))
        clear hb
        go_wp2_with fail
        go_ret
        exact ⟨rfl, B5.out⟩
end Go.Proofs.Ytobdddggdfcdlaa.Nm
