/-
  Check of package graph: nil, or the fault of the first link that may not be, or of what is wrong with no one link. Condition: numbers of 64 bits.
-/
import Derived.Test.YtbnfndcbhnjnaaaDoorBm
import Derived.Test.YtbnfndcbhnjnaaaDoorBl
import Derived.Test.YtbnfndcbhnjnaaaDoorFaIs
namespace Go.Proofs.YtbnfndcbhnjnaaaDoor.Gr
open Go.RowKit Go.Sort Go.Proofs.YtbnfndcbhnjnaaaDoor Go.Proofs.YtbnfndcbhnjnaaaDoor.Rw

abbrev graphTxt : ByteArray := ⟨#[103, 114, 97, 112, 104]⟩
theorem wrong_any (r : Int) (w : World) : Calls Tryd.prog 25 #[.int .i64 r] w fun e w' => ∃ b v, e = .returned v ∧ Fa.Ch w' [(b, graphTxt, r)] v (.iface 33 (.int .i64 2)) ∧ Below w.heap.size w w' := by
  go_enter Tryd.func25, Tryd.ntmps25
  go_wp2_with fail
  refine (Fa.New_some _ _ _ _ _).mono ?_
  rintro e1 w1 ⟨rfl, rfl⟩
  have C := Lib.hid (Fa.Ch.new (w := w) (l := []) (v := .iface 33 (.int .i64 2)) rfl graphTxt r)
  have B := Lib.hid (show Below w.heap.size w (w.alloc (.cells #[.string graphTxt, .int .i64 r, .iface 33 (.int .i64 2)] 73)) from (Below.refl _ _).alloc (Nat.le_refl _) _)
  go_wp2
  go_ret
  exact ⟨_, _, rfl, C.out, B.out⟩
theorem twice_re (lv : Value) (l : List Lk) (x : Lk) (w : World) (hl : RowK w lv l) (r : Bool) (hr : twiceB l x = r) (d : Nat) (os : Array Obj) : Calls Tryd.prog 27 #[lv, kv x] (grow (redrawn w d) os) fun e w' => e = .returned (.bool r) ∧ ∃ p : Regrown, w' = grow (redrawn w p.d) p.os := by
  subst hr
  exact Calls.regrown_of (twice_any lv l x _ (hl.on (below_regrown w d os)))
theorem call_steps (args : Array Value) (w : World) : (callFunc 28 args).run Tryd.prog w = .ok (.enter 28 args) w := call_fn Tryd.func28 rfl rfl args w
/-- What Check ends in. -/
def CheckQ (w : World) (n : Int) (l : List Lk) (e : Ending) (w' : World) : Prop := Below w.heap.size w w' ∧ ((RightG n l ∧ e = .returned .nilIface) ∨ ∃ r b v, BadAt n l r ∧ e = .returned v ∧ Fa.Ch w' [(b, graphTxt, r)] v (.iface 33 (.int .i64 2)))
set_option maxRecDepth 100000 in
set_option maxHeartbeats 8000000 in
theorem check_any (SO : SortOkL) (n : Int) (lv : Value) (l : List Lk) (w : World) (hl : RowK w lv l) (hn : I64 n) :
    Calls Tryd.prog 9 #[gv n lv] w (CheckQ w n l) := by
  have HL := Lib.hid hl
  have HM := Lib.hid hl.most
  obtain ⟨ao, ac, rfl⟩ := hl.len
  obtain ⟨m, hm⟩ : ∃ m, m = l.length := ⟨_, rfl⟩
  have HN := Lib.hid hm
  rw [← hm] at HL HM ⊢
  have QA := Lib.hid (fun (w' : World) (h : RightG n l) (hb : Below w.heap.size w w') => show CheckQ w n l (.returned .nilIface) w' from ⟨hb, Or.inl ⟨h, rfl⟩⟩)
  have QB := Lib.hid (fun (r : Int) (b : Nat) (v : Value) (w' : World) (h : BadAt n l r) (hc : Fa.Ch w' [(b, graphTxt, r)] v (.iface 33 (.int .i64 2))) (hb : Below w.heap.size w w') => show CheckQ w n l (.returned v) w' from ⟨hb, Or.inr ⟨r, b, v, h, rfl, hc⟩⟩)
  generalize hq : CheckQ w n l = q at *
  clear hl hm hq
  have B := Lib.hid (show Below w.heap.size w (w.alloc (.cells #[.int .i64 n, .slice ao m ac] 25)) from (Below.refl _ _).alloc (Nat.le_refl _) _)
  have X := Lib.hid (box_new w #[.int .i64 n, .slice ao m ac] 25)
  have hm47 : m ≤ maxLen := HM.out
  unfold maxLen at hm47
  have hnk := hn
  unfold I64 at hnk
  clear hn
  go_enter Tryd.func9, Tryd.ntmps9
  by_cases hfew : Few n l
  · have FW := Lib.hid hfew
    obtain ⟨h1, h64, h200⟩ := hfew
    rw [← HN.out] at h200
    have d1 : decide (n < 1) = false := by simp; omega
    have d2 : decide (n > 64) = false := by simp; omega
    have d3 : decide ((m : Int) > 200) = false := by simp; omega
    go_wp2
    clear d1 d2 d3
    have hBW : w.heap.size ≤ (w.alloc (.cells #[.int .i64 n, .slice ao m ac] 25)).heap.size := B.out.size
    generalize w.alloc (.cells #[.int .i64 n, .slice ao m ac] 25) = W at *
    go_loopw [23] (fun i wr => ∃ k : Nat, k ≤ m ∧ i = .int .i64 k ∧ Below W.heap.size W wr ∧ Good n (l.take k)) (fun i _ => m - (intOf i).toNat)
    case atStart => exact ⟨0, Nat.zero_le _, rfl, Below.refl _ _, by simpa using good_nil n⟩
    case round =>
      obtain ⟨k, hk, rfl, hb, hg⟩ := hrel
      have HB := Lib.hid hb
      have GK := Lib.hid hg
      clear hb hg
      by_cases hlt : k < m
      · obtain ⟨y, hy⟩ : ∃ y, l[k]? = some y := ⟨_, List.getElem?_eq_getElem (by rw [← HN.out]; exact hlt)⟩
        have HLR := Lib.hid (HL.out.on (B.out.trans (HB.out.mono B.out.size)))
        obtain ⟨p, ix, px⟩ := elK HL.out rfl HN.out.symm hy
        obtain ⟨p0, p1⟩ := px _ (B.out.trans (HB.out.mono B.out.size))
        obtain ⟨lo, sl, hlo⟩ := row_lo okK HLR.out k (by rw [← HN.out]; exact hk)
        obtain ⟨so, sc, rfl⟩ := hlo.len
        rw [List.length_take, Nat.min_eq_left (by rw [← HN.out]; exact hk)] at sl hlo
        have HY := Lib.hid hy
        have HLO := Lib.hid hlo
        have BB := Lib.hid (HB.out.alloc HB.out.size (.cells #[.int .i64 y.1, .int .i64 y.2] 22))
        have NB := Lib.hid (box_new wr #[.int .i64 y.1, .int .i64 y.2] 22)
        have BO := Lib.hid ((Below.refl wr.heap.size wr).alloc (Nat.le_refl _) (.cells #[.int .i64 y.1, .int .i64 y.2] 22))
        clear px hy hlo
        go_upto_region 6 with (fail)
        generalize wr.alloc (.cells #[.int .i64 y.1, .int .i64 y.2] 22) = W3 at *
        have XB := Lib.hid (X.out.on BB.out)
        have a0 := cell_regrown (XB.out.cell 0)
        have a1 := cell_regrown (XB.out.cell 1)
        have c0 := cell_regrown (NB.out.cell 0)
        have c1 := cell_regrown (NB.out.cell 1)
        have sl : ∀ w, (Instr.sliceAt 23 (.slice ao m ac) none (some (.int .i64 k)) none).run Tryd.prog w = .ok (.slice so k sc) w := sl
        obtain ⟨b1, hb1⟩ : ∃ b, inL n y = b := ⟨_, rfl⟩
        have J4 := Lib.hid (joins_re n (.slice ao m ac) y W3 b1 hb1)
        have HLO3 := Lib.hid (HLO.out.on BO.out)
        have H1 := Lib.hid hb1
        clear p0 p1 ix NB XB hb1
        cases b1
        · have BD := Lib.hid (show badB n (l.take k) y = true by unfold badB; rw [H1.out]; rfl)
          refine wp_region_quiet_below (by kernel_rfl) (by kernel_rfl) ?_
          repeat (go_big_quiet_step (first | (with_reducible exact J4.out _ _)))
          refine wpQuiet_nil ?_
          intro _ hw'
          obtain ⟨⟨dq, osq⟩, hw''⟩ := hw'
          subst hw''
          have BN := Lib.hid (BB.out.trans ((below_regrown W3 dq osq).mono BB.out.size))
          clear  a0 a1 c0 c1 sl
          go_wp2_with fail
          refine (wrong_any _ _).mono ?_
          rintro e w5 ⟨b, v, rfl, hch, hb5⟩
          have Q5 := Lib.hid (QB.out k b v w5 (Or.inr (Or.inl ⟨FW.out, k, rfl, y, HY.out, GK.out, BD.out⟩)) hch ((B.out.trans (BN.out.mono B.out.size)).trans (hb5.mono (B.out.trans (BN.out.mono B.out.size)).size)))
          clear hch hb5
          go_wp2
          exact Q5.out
        · obtain ⟨r2, d2⟩ : ∃ r, (y.1 == y.2) = r := ⟨_, rfl⟩
          have d3 : decide (y.1 = y.2) = r2 := by rw [← d2]; rfl
          have H2 := Lib.hid d3
          cases r2
          · obtain ⟨b3, hb3⟩ : ∃ b, twiceB (l.take k) y = b := ⟨_, rfl⟩
            have T4 := Lib.hid (twice_re (.slice so k sc) (l.take k) y W3 HLO3.out b3 hb3)
            have BD := Lib.hid (show badB n (l.take k) y = b3 by unfold badB; rw [H1.out, H2.out, hb3]; rfl)
            clear hb3
            cases b3
            · skip
              refine wp_region_quiet_below (by kernel_rfl) (by kernel_rfl) ?_
              repeat (go_big_quiet_step (first | (with_reducible exact J4.out _ _) | (with_reducible exact T4.out _ _)))
              refine wpQuiet_nil ?_
              intro _ hw'
              obtain ⟨⟨dq, osq⟩, hw''⟩ := hw'
              subst hw''
              have BN := Lib.hid (BB.out.trans ((below_regrown W3 dq osq).mono BB.out.size))
              clear d2 d3 a0 a1 c0 c1 sl
              have G1 := Lib.hid (show Good n (l.take (k + 1)) by rw [take_succ_of HY.out]; exact good_snoc.2 ⟨GK.out, BD.out⟩)
              go_wp2
              go_roundw
              case rel => exact ⟨k + 1, by omega, by go_num, BN.out, G1.out⟩
              case measure => simp [intOf]; omega
            · skip
              refine wp_region_quiet_below (by kernel_rfl) (by kernel_rfl) ?_
              repeat (go_big_quiet_step (first | (with_reducible exact J4.out _ _) | (with_reducible exact T4.out _ _)))
              refine wpQuiet_nil ?_
              intro _ hw'
              obtain ⟨⟨dq, osq⟩, hw''⟩ := hw'
              subst hw''
              have BN := Lib.hid (BB.out.trans ((below_regrown W3 dq osq).mono BB.out.size))
              clear d2 d3 a0 a1 c0 c1 sl
              go_wp2_with fail
              refine (wrong_any _ _).mono ?_
              rintro e w5 ⟨b, v, rfl, hch, hb5⟩
              have Q5 := Lib.hid (QB.out k b v w5 (Or.inr (Or.inl ⟨FW.out, k, rfl, y, HY.out, GK.out, BD.out⟩)) hch ((B.out.trans (BN.out.mono B.out.size)).trans (hb5.mono (B.out.trans (BN.out.mono B.out.size)).size)))
              clear hch hb5
              go_wp2
              exact Q5.out
          · have BD := Lib.hid (show badB n (l.take k) y = true by unfold badB; rw [H1.out, H2.out]; rfl)
            refine wp_region_quiet_below (by kernel_rfl) (by kernel_rfl) ?_
            repeat (go_big_quiet_step (first | (with_reducible exact J4.out _ _)))
            refine wpQuiet_nil ?_
            intro _ hw'
            obtain ⟨⟨dq, osq⟩, hw''⟩ := hw'
            subst hw''
            have BN := Lib.hid (BB.out.trans ((below_regrown W3 dq osq).mono BB.out.size))
            clear d2 d3 a0 a1 c0 c1 sl
            go_wp2_with fail
            refine (wrong_any _ _).mono ?_
            rintro e w5 ⟨b, v, rfl, hch, hb5⟩
            have Q5 := Lib.hid (QB.out k b v w5 (Or.inr (Or.inl ⟨FW.out, k, rfl, y, HY.out, GK.out, BD.out⟩)) hch ((B.out.trans (BN.out.mono B.out.size)).trans (hb5.mono (B.out.trans (BN.out.mono B.out.size)).size)))
            clear hch hb5
            go_wp2
            exact Q5.out
      · obtain rfl : k = m := by omega
        rw [List.take_of_length_le (by rw [HN.out]; exact Nat.le_refl _)] at GK
        have BW := Lib.hid (B.out.trans (HB.out.mono B.out.size))
        have HLR := Lib.hid (HL.out.on BW.out)
        have XR := Lib.hid (X.out.on HB.out)
        have ST := Lib.hid (fun w' (hb : Below wr.heap.size wr w') => steps_any SO n (.slice ao k ac) l 0 w' (HLR.out.on hb) GK.out.1 GK.out.2 (by have := FW.out.2.2; omega) (by omega) ⟨by omega, by omega⟩)
        have x0 := XR.out.cell 0
        have x1 := XR.out.cell 1
        simp only [List.getElem?_toArray, List.getElem?_cons_zero, List.getElem?_cons_succ] at x0 x1
        have hlw := XR.out.lt
        go_upto_region 9 with (fail)
        go_region_law (first
          | (refine step_call_run rfl (ex_call2 _ _ (.tmp 50) (.const (.int .i64 0)) 25 3 28 rfl rfl rfl rfl _ (call_steps _ _)) (ST.out _ (Below.refl _ _).drew) ?_; rintro e3 w3 ⟨⟨fb, D, s, rfl, hf, hm, hc⟩, hb3⟩; have Z3 := Lib.hid hb3; have F3 := Lib.hid hf; have C3 := Lib.hid hc; have X3 := Lib.hid (XR.out.on ((Below.refl _ _).drew.trans (hb3.mono (Nat.le_refl _)))); have y0 := X3.out.cell 0; have y1 := X3.out.cell 1; simp only [List.getElem?_toArray, List.getElem?_cons_zero, List.getElem?_cons_succ] at y0 y1; have ln := fun ty => hm.len Tryd.underlying57 ty; clear hm hf hc hb3; refine ⟨_, rfl, ?_⟩))
        all_goals simp only [Exit.then]
        all_goals apply_assumption
        all_goals
          have B9 := Lib.hid (BW.out.trans ((((Below.refl wr.heap.size wr).drew).trans (Z3.out.mono (Nat.le_refl _))).mono BW.out.size))
          clear y0 y1 ln x0 x1 hlw
          obtain ⟨t9, d9⟩ : ∃ t, decide ((s : Int) < n) = t := ⟨_, rfl⟩
          rw [d9]
          rcases t9 with _ | _
          rotate_left
          · have hsn : (s : Int) < n := of_decide_eq_true d9
            have BA := Lib.hid (show BadAt n l (-1) from Or.inr (Or.inr ⟨FW.out, GK.out, rfl, fun hr => by
              have h5 := (reached_left F3.out (by omega)).1 hr
              have h6 := C3.out
              omega⟩))
            clear hsn
            go_wp2_with fail
            refine (wrong_any _ _).mono ?_
            rintro e w5 ⟨b, v, rfl, hch, hb5⟩
            have Q5 := Lib.hid (QB.out (-1) b v w5 BA.out hch (B9.out.trans (hb5.mono (B9.out).size)))
            clear hch hb5
            go_wp2
            exact Q5.out
          · have hsn : ¬ (s : Int) < n := of_decide_eq_false d9
            have RG := Lib.hid (show RightG n l from right_iff.2 ⟨FW.out, GK.out, (reached_left F3.out (by omega)).2 (by have h6 := C3.out; omega)⟩)
            clear hsn d9
            have Q5 := Lib.hid (QA.out w3 RG.out B9.out)
            go_wp2
            exact Q5.out
  · have FN := Lib.hid hfew
    have hc : n < 1 ∨ (1 ≤ n ∧ 64 < n) ∨ (1 ≤ n ∧ n ≤ 64 ∧ 200 < m) := by
      have h0 := HN.out
      by_cases h1 : n < 1
      · exact Or.inl h1
      · by_cases h2 : 64 < n
        · exact Or.inr (Or.inl ⟨by omega, h2⟩)
        · exact Or.inr (Or.inr ⟨by omega, by omega, Decidable.byContradiction fun h3 => hfew ⟨by omega, by omega, by omega⟩⟩)
    clear hfew
    rcases hc with h1 | ⟨h1, h2⟩ | ⟨h1, h2, h3⟩
    · have d1 : decide (n < 1) = true := by simp; omega
      go_wp2_with fail
      refine (wrong_any _ _).mono ?_
      rintro e w5 ⟨b, v, rfl, hch, hb5⟩
      have Q5 := Lib.hid (QB.out (-1) b v w5 (Or.inl ⟨FN.out, rfl⟩) hch (B.out.trans (hb5.mono (B.out).size)))
      clear hch hb5
      go_wp2
      exact Q5.out
    · have d1 : decide (n < 1) = false := by simp; omega
      have d2 : decide (n > 64) = true := by simp; omega
      go_wp2_with fail
      refine (wrong_any _ _).mono ?_
      rintro e w5 ⟨b, v, rfl, hch, hb5⟩
      have Q5 := Lib.hid (QB.out (-1) b v w5 (Or.inl ⟨FN.out, rfl⟩) hch (B.out.trans (hb5.mono (B.out).size)))
      clear hch hb5
      go_wp2
      exact Q5.out
    · have d1 : decide (n < 1) = false := by simp; omega
      have d2 : decide (n > 64) = false := by simp; omega
      have d3 : decide ((m : Int) > 200) = true := by simp; omega
      go_wp2_with fail
      refine (wrong_any _ _).mono ?_
      rintro e w5 ⟨b, v, rfl, hch, hb5⟩
      have Q5 := Lib.hid (QB.out (-1) b v w5 (Or.inl ⟨FN.out, rfl⟩) hch (B.out.trans (hb5.mono (B.out).size)))
      clear hch hb5
      go_wp2
      exact Q5.out
end Go.Proofs.YtbnfndcbhnjnaaaDoor.Gr
