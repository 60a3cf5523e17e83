/-
  RightGraph of the document's own texts: is it a graph that may be? Conditions: numbers of 64 bits.
-/
import Derived.Test.YtbnfndcbhnjnaaaDoorBn
import Derived.Test.YtbnfndcbhnjnaaaDoorBl
namespace Go.Proofs.YtbnfndcbhnjnaaaDoor.Gr
open Go.RowKit Go.Sort Go.Proofs.YtbnfndcbhnjnaaaDoor Go.Proofs.YtbnfndcbhnjnaaaDoor.Rw

/-- What RightGraph hands out. -/
def RightQ (w : World) (n : Int) (l : List Lk) (e : Ending) (w' : World) : Prop := (∃ b, e = .returned (.bool b) ∧ (b = true ↔ RightG n l)) ∧ Below w.heap.size w w'
set_option maxRecDepth 100000 in
set_option maxHeartbeats 8000000 in
theorem right_any (n : Int) (lv : Value) (l : List Lk) (w : World) (hl : RowK w lv l) (hn : I64 n) :
    Calls Tryd.prog 18 #[gv n lv] w (RightQ w n l) := by
  have HL := Lib.hid hl
  have HM := Lib.hid hl.most
  obtain ⟨ao, ac, rfl⟩ := hl.len
  obtain ⟨m, hm⟩ : ∃ m, m = l.length := ⟨_, rfl⟩
  have HN := Lib.hid hm
  rw [← hm] at HL HM ⊢
  have QT := Lib.hid (fun (w' : World) (h : RightG n l) (hb : Below w.heap.size w w') => show RightQ w n l (.returned (.bool true)) w' from ⟨⟨true, rfl, ⟨fun _ => h, fun _ => rfl⟩⟩, hb⟩)
  have QF := Lib.hid (fun (w' : World) (h : ¬ RightG n l) (hb : Below w.heap.size w w') => show RightQ w n l (.returned (.bool false)) w' from ⟨⟨false, rfl, ⟨fun h2 => (by cases h2), fun h2 => absurd h2 h⟩⟩, hb⟩)
  generalize hq : RightQ w n l = q at *
  clear hl hm hq
  have B := Lib.hid (show Below w.heap.size w (w.alloc (.cells #[.int .i64 n, .slice ao m ac] 25)) from (Below.refl _ _).alloc (Nat.le_refl _) _)
  have X := Lib.hid (box_new w #[.int .i64 n, .slice ao m ac] 25)
  have hm47 : m ≤ maxLen := HM.out
  unfold maxLen at hm47
  have hnk := hn
  unfold I64 at hnk
  clear hn
  go_enter Tryd.func18, Tryd.ntmps18
  by_cases hfew : Few n l
  · have FW := Lib.hid hfew
    obtain ⟨h1, h64, h200⟩ := hfew
    rw [← HN.out] at h200
    have d1 : decide (n < 1) = false := by simp; omega
    have d2 : decide (n > 64) = false := by simp; omega
    have d3 : decide ((m : Int) > 200) = false := by simp; omega
    go_wp2
    clear d1 d2 d3
    have hBW : w.heap.size ≤ (w.alloc (.cells #[.int .i64 n, .slice ao m ac] 25)).heap.size := B.out.size
    generalize w.alloc (.cells #[.int .i64 n, .slice ao m ac] 25) = W at *
    go_loopw [26] (fun i wr => ∃ k : Nat, k ≤ m ∧ i = .int .i64 k ∧ Below W.heap.size W wr ∧ Good n (l.take k)) (fun i _ => m - (intOf i).toNat)
    case atStart => exact ⟨0, Nat.zero_le _, rfl, Below.refl _ _, by simpa using good_nil n⟩
    case round =>
      obtain ⟨k, hk, rfl, hb, hg⟩ := hrel
      have HB := Lib.hid hb
      have GK := Lib.hid hg
      clear hb hg
      by_cases hlt : k < m
      · obtain ⟨y, hy⟩ : ∃ y, l[k]? = some y := ⟨_, List.getElem?_eq_getElem (by rw [← HN.out]; exact hlt)⟩
        have HLR := Lib.hid (HL.out.on (B.out.trans (HB.out.mono B.out.size)))
        obtain ⟨p, ix, px⟩ := elK HL.out rfl HN.out.symm hy
        obtain ⟨p0, p1⟩ := px _ (B.out.trans (HB.out.mono B.out.size))
        obtain ⟨lo, sl, hlo⟩ := row_lo okK HLR.out k (by rw [← HN.out]; exact hk)
        obtain ⟨so, sc, rfl⟩ := hlo.len
        rw [List.length_take, Nat.min_eq_left (by rw [← HN.out]; exact hk)] at sl hlo
        have HY := Lib.hid hy
        have HLO := Lib.hid hlo
        have BB := Lib.hid (HB.out.alloc HB.out.size (.cells #[.int .i64 y.1, .int .i64 y.2] 22))
        have NB := Lib.hid (box_new wr #[.int .i64 y.1, .int .i64 y.2] 22)
        have BO := Lib.hid ((Below.refl wr.heap.size wr).alloc (Nat.le_refl _) (.cells #[.int .i64 y.1, .int .i64 y.2] 22))
        have XB := Lib.hid (X.out.on HB.out)
        have hlw := XB.out.lt
        have a0 := XB.out.cell 0
        have a1 := XB.out.cell 1
        simp only [List.getElem?_toArray, List.getElem?_cons_zero, List.getElem?_cons_succ] at a0 a1
        have sl : ∀ w, (Instr.sliceAt 23 (.slice ao m ac) none (some (.int .i64 k)) none).run Tryd.prog w = .ok (.slice so k sc) w := sl
        clear px hy hlo
        obtain ⟨t1, d1⟩ : ∃ t, decide (y.1 < 0) = t := ⟨_, rfl⟩
        rcases t1 with _ | _
        rotate_left
        · have BD := Lib.hid (show ¬ RightG n l from fun hr => first_not ⟨y, HY.out, GK.out, badB_iff.2 (by
            have := of_decide_eq_true d1; exact Or.inl (by omega))⟩ (right_iff.1 hr).2.1)
          go_wp2
          exact QF.out _ BD.out (B.out.trans (BB.out.mono B.out.size))
        · skip
          obtain ⟨t2, d2⟩ : ∃ t, decide (y.2 < 0) = t := ⟨_, rfl⟩
          rcases t2 with _ | _
          rotate_left
          · have BD := Lib.hid (show ¬ RightG n l from fun hr => first_not ⟨y, HY.out, GK.out, badB_iff.2 (by
              have := of_decide_eq_true d2; exact Or.inl (by omega))⟩ (right_iff.1 hr).2.1)
            go_wp2
            exact QF.out _ BD.out (B.out.trans (BB.out.mono B.out.size))
          · skip
            obtain ⟨t3, d3⟩ : ∃ t, decide (y.1 ≥ n) = t := ⟨_, rfl⟩
            rcases t3 with _ | _
            rotate_left
            · have BD := Lib.hid (show ¬ RightG n l from fun hr => first_not ⟨y, HY.out, GK.out, badB_iff.2 (by
                have := of_decide_eq_true d3; exact Or.inl (by omega))⟩ (right_iff.1 hr).2.1)
              go_wp2
              exact QF.out _ BD.out (B.out.trans (BB.out.mono B.out.size))
            · skip
              obtain ⟨t4, d4⟩ : ∃ t, decide (y.2 ≥ n) = t := ⟨_, rfl⟩
              rcases t4 with _ | _
              rotate_left
              · have BD := Lib.hid (show ¬ RightG n l from fun hr => first_not ⟨y, HY.out, GK.out, badB_iff.2 (by
                  have := of_decide_eq_true d4; exact Or.inl (by omega))⟩ (right_iff.1 hr).2.1)
                go_wp2
                exact QF.out _ BD.out (B.out.trans (BB.out.mono B.out.size))
              · skip
                obtain ⟨t5, d5⟩ : ∃ t, (y.1 == y.2) = t := ⟨_, rfl⟩
                rcases t5 with _ | _
                rotate_left
                · have BD := Lib.hid (show ¬ RightG n l from fun hr => first_not ⟨y, HY.out, GK.out, badB_iff.2 (by
                    exact Or.inr (Or.inl (by simpa using d5)))⟩ (right_iff.1 hr).2.1)
                  go_wp2
                  exact QF.out _ BD.out (B.out.trans (BB.out.mono B.out.size))
                · skip
                  have IN := Lib.hid (show ((0 ≤ y.1 ∧ y.1 < n) ∧ (0 ≤ y.2 ∧ y.2 < n)) ∧ y.1 ≠ y.2 by
                    have e1 := of_decide_eq_false d1
                    have e2 := of_decide_eq_false d2
                    have e3 := of_decide_eq_false d3
                    have e4 := of_decide_eq_false d4
                    have e5 : ¬ y.1 = y.2 := by simpa using d5
                    exact ⟨⟨⟨by omega, by omega⟩, by omega, by omega⟩, e5⟩)
                  go_wp2
                  clear d1 d2 d3 d4 d5 p0 p1 ix a0 a1 sl
                  generalize wr.alloc (.cells #[.int .i64 y.1, .int .i64 y.2] 22) = W3 at *
                  obtain ⟨wo, rfl⟩ : ∃ wo : World, wo = wr := ⟨_, rfl⟩
                  go_loopw [65] (fun i wr => ∃ j : Nat, j ≤ k ∧ i = .int .i64 j ∧ Below W3.heap.size W3 wr ∧ ∀ x ∈ (l.take k).take j, x ≠ y ∧ x ≠ (y.2, y.1)) (fun i _ => k - (intOf i).toNat)
                  case atStart => exact ⟨0, Nat.zero_le _, rfl, Below.refl _ _, fun x hx => by simp at hx⟩
                  case round =>
                    obtain ⟨j, hj, rfl, hb3, hall⟩ := hrel
                    have HB3 := Lib.hid hb3
                    have AL := Lib.hid hall
                    clear hb3 hall
                    by_cases hltj : j < k
                    · obtain ⟨x, hx⟩ : ∃ x, (l.take k)[j]? = some x := ⟨_, List.getElem?_eq_getElem (by simp; have := HN.out; omega)⟩
                      obtain ⟨p, ix, px⟩ := elK HLO.out rfl (by simp; have := HN.out; omega) hx
                      obtain ⟨p0, p1⟩ := px _ (BO.out.trans (HB3.out.mono BO.out.size))
                      have HX := Lib.hid hx
                      have NB3 := NB.out.on HB3.out
                      have c0 := NB3.cell 0
                      have c1 := NB3.cell 1
                      have hl3 := NB3.lt
                      simp only [List.getElem?_toArray, List.getElem?_cons_zero, List.getElem?_cons_succ] at c0 c1
                      have TK := Lib.hid (show (l.take k).take (j + 1) = (l.take k).take j ++ [x] by rw [List.take_add_one, hx]; rfl)
                      obtain ⟨r1, hr1⟩ : ∃ r, decide (x = y) = r := ⟨_, rfl⟩
                      obtain ⟨r2, hr2⟩ : ∃ r, decide (x = (y.2, y.1)) = r := ⟨_, rfl⟩
                      have e1 := eqlK x y r1 hr1
                      have e2 := eqlK x (y.2, y.1) r2 hr2
                      have H1 := Lib.hid hr1
                      have H2 := Lib.hid hr2
                      have BZ := Lib.hid (HB3.out.alloc HB3.out.size (.cells #[.int .i64 x.1, .int .i64 x.2] 22))
                      clear px hx hr1 hr2 NB3
                      rcases r1 with _ | _
                      · rcases r2 with _ | _
                        · go_wp2
                          go_roundw
                          case rel => exact ⟨j + 1, by omega, by go_num, BZ.out, fun z hz => by
                            rw [TK.out] at hz
                            rcases List.mem_append.1 hz with h5 | h5
                            · exact AL.out z h5
                            · obtain rfl : z = x := by simpa using h5
                              exact ⟨of_decide_eq_false H1.out, of_decide_eq_false H2.out⟩⟩
                          case measure => simp [intOf]; omega
                        · have BD := Lib.hid (show ¬ RightG n l from fun hr => first_not ⟨y, HY.out, GK.out, badB_iff.2 (Or.inr (Or.inr (Or.inr (by rw [← of_decide_eq_true H2.out]; exact List.mem_of_getElem? HX.out))))⟩ (right_iff.1 hr).2.1)
                          have Q5 := Lib.hid (fun w' (h : Below W3.heap.size W3 w') => QF.out w' BD.out ((B.out.trans (BB.out.mono B.out.size)).trans (h.mono (B.out.trans (BB.out.mono B.out.size)).size)))
                          go_wp2
                          exact Q5.out _ BZ.out
                      · have BD := Lib.hid (show ¬ RightG n l from fun hr => first_not ⟨y, HY.out, GK.out, badB_iff.2 (Or.inr (Or.inr (Or.inl (by rw [← of_decide_eq_true H1.out]; exact List.mem_of_getElem? HX.out))))⟩ (right_iff.1 hr).2.1)
                        have Q5 := Lib.hid (fun w' (h : Below W3.heap.size W3 w') => QF.out w' BD.out ((B.out.trans (BB.out.mono B.out.size)).trans (h.mono (B.out.trans (BB.out.mono B.out.size)).size)))
                        go_wp2
                        exact Q5.out _ BZ.out
                    · obtain rfl : j = k := by omega
                      have G1 := Lib.hid (show Good n (l.take (j + 1)) by
                        rw [take_succ_of HY.out]
                        refine good_snoc.2 ⟨GK.out, ?_⟩
                        rw [← Bool.not_eq_true, badB_iff]
                        have hall := AL.out
                        rw [List.take_of_length_le (by simp; omega)] at hall
                        rintro (h | h | h | h)
                        · exact h IN.out.1
                        · exact IN.out.2 h
                        · exact (hall _ h).1 rfl
                        · exact (hall _ h).2 rfl)
                      have BN := Lib.hid (BB.out.trans (HB3.out.mono BB.out.size))
                      go_wp2
                      go_roundw
                      case rel => exact ⟨j + 1, by omega, by go_num, BN.out, G1.out⟩
                      case measure => simp [intOf]; omega
      · obtain rfl : k = m := by omega
        rw [List.take_of_length_le (by rw [HN.out]; exact Nat.le_refl _)] at GK
        have BW := Lib.hid (B.out.trans (HB.out.mono B.out.size))
        have HLR := Lib.hid (HL.out.on BW.out)
        have XR := Lib.hid (X.out.on HB.out)
        have x0 := XR.out.cell 0
        have x1 := XR.out.cell 1
        simp only [List.getElem?_toArray, List.getElem?_cons_zero, List.getElem?_cons_succ] at x0 x1
        obtain ⟨N, hNn⟩ : ∃ N : Nat, n = N := ⟨n.toNat, by omega⟩
        subst hNn
        have RC := Lib.hid (reach_any N (.slice ao k ac) l 0 wr HLR.out (by have := FW.out.2.2; omega) GK.out.1 (by omega) (by omega))
        go_wp2_with fail
        refine RC.out.mono ?_
        rintro e w4 ⟨⟨g, r, rfl, hgr, hrow, hlen, hfar⟩, hb4⟩
        have B4 := Lib.hid (BW.out.trans (hb4.mono BW.out.size))
        have RR := Lib.hid hrow
        have RL := Lib.hid hlen
        have RF := Lib.hid hfar
        clear hgr hrow hlen hfar hb4 x0 x1
        go_wp2
        go_loopw [86] (fun i wr => ∃ j : Nat, j ≤ N ∧ i = .int .i64 j ∧ Below w4.heap.size w4 wr ∧ ∀ x : Nat, x < j → ∀ z, r[x]? = some z → 0 ≤ z) (fun i _ => N - (intOf i).toNat)
        case atStart => exact ⟨0, Nat.zero_le _, rfl, Below.refl _ _, fun x hx => by omega⟩
        case round =>
          obtain ⟨j, hj, rfl, hb5, hall⟩ := hrel
          have HB5 := Lib.hid hb5
          have AL := Lib.hid hall
          have BF := Lib.hid (B4.out.trans (hb5.mono B4.out.size))
          clear hb5 hall
          by_cases hltj : j < N
          · obtain ⟨z, hz, hzf⟩ := RF.out j hltj
            obtain ⟨p, ix, _, px⟩ := elI RR.out rfl RL.out hz
            have p0 := px _ HB5.out
            have HZ := Lib.hid hz
            have ZF := Lib.hid hzf
            obtain ⟨t, dt⟩ : ∃ t, decide (z < 0) = t := ⟨_, rfl⟩
            clear px hz hzf
            rcases t with _ | _
            · have DT := Lib.hid (of_decide_eq_false dt)
              go_wp2
              go_roundw
              case rel => exact ⟨j + 1, by omega, by go_num, HB5.out, fun x hx u hu => by
                by_cases e : x = j
                · subst e
                  have h7 := HZ.out
                  rw [hu] at h7
                  have := DT.out
                  obtain rfl := Option.some.inj h7
                  omega
                · exact AL.out x (by omega) u hu⟩
              case measure => simp [intOf]; omega
            · have BD := Lib.hid (show ¬ RightG N l from fun hr => by
                have h7 := of_decide_eq_true dt
                rcases ZF.out with ⟨_, d, h8, _⟩ | ⟨_, h8⟩
                · omega
                · obtain ⟨k2, hk2⟩ := hr.all j (by omega) (by omega)
                  exact h8 ⟨by omega, by omega⟩ k2 hk2)
              go_wp2
              exact QF.out _ BD.out BF.out
          · obtain rfl : j = N := by omega
            have RG := Lib.hid (show RightG j l from right_iff.2 ⟨FW.out, GK.out, fun v h1 h2 => by
              obtain ⟨x, rfl⟩ : ∃ x : Nat, v = x := ⟨v.toNat, by omega⟩
              obtain ⟨z, hz, hzf⟩ := RF.out x (by omega)
              have h7 := AL.out x (by omega) z hz
              rcases hzf with ⟨_, d, _, h8⟩ | ⟨h8, _⟩
              · exact ⟨d, h8.1⟩
              · omega⟩)
            go_wp2
            exact QT.out _ RG.out BF.out
  · have BD := Lib.hid (show ¬ RightG n l from fun hr => hfew (right_iff.1 hr).1)
    have hc : n < 1 ∨ (1 ≤ n ∧ 64 < n) ∨ (1 ≤ n ∧ n ≤ 64 ∧ 200 < m) := by
      have h0 := HN.out
      by_cases h1 : n < 1
      · exact Or.inl h1
      · by_cases h2 : 64 < n
        · exact Or.inr (Or.inl ⟨by omega, h2⟩)
        · exact Or.inr (Or.inr ⟨by omega, by omega, Decidable.byContradiction fun h3 => hfew ⟨by omega, by omega, by omega⟩⟩)
    clear hfew
    rcases hc with h1 | ⟨h1, h2⟩ | ⟨h1, h2, h3⟩
    · have d1 : decide (n < 1) = true := by simp; omega
      go_wp2
      exact QF.out _ BD.out B.out
    · have d1 : decide (n < 1) = false := by simp; omega
      have d2 : decide (n > 64) = true := by simp; omega
      go_wp2
      exact QF.out _ BD.out B.out
    · have d1 : decide (n < 1) = false := by simp; omega
      have d2 : decide (n > 64) = false := by simp; omega
      have d3 : decide ((m : Int) > 200) = true := by simp; omega
      go_wp2
      exact QF.out _ BD.out B.out
end Go.Proofs.YtbnfndcbhnjnaaaDoor.Gr
