/-
  Same of whole numbers. No condition.
  Chapter 9's runs: AdvertsRuns. No condition.
-/
import Derived.Test.YtonoadjmglkhaaaQ014
import Derived.Lib.QuietBelow
import Derived.BigQuiet
import Derived.Test.YtonoadjmglkhaaaQ026
import Derived.Test.YtonoadjmglkhaaaQ029
import Derived.Test.YtonoadjmglkhaaaQ037
namespace Go.Proofs.Ytonoadjmglkhaaa.Bk
open Go.RowKit Go.Sort Go.Proofs.Ytonoadjmglkhaaa Go.Proofs.Ytonoadjmglkhaaa.Rw Go.Proofs.Ytonoadjmglkhaaa.Nm

theorem take_eq {α : Type} {a b : List α} {k : Nat} {x y : α} (h : a.take k = b.take k) (hx : a[k]? = some x) (hy : b[k]? = some y) (e : x = y) : a.take (k + 1) = b.take (k + 1) := by
  rw [List.take_add_one, List.take_add_one, hx, hy, h, e]
set_option maxRecDepth 100000 in
set_option maxHeartbeats 8000000 in
theorem sameI (av bv : Value) (a b : List Int) (w : World) (ha : RowI w av a) (hb : RowI w bv b) :
    Calls Try.prog 8 #[av, bv] w fun e w' => e = .returned (.bool (decide (a = b))) ∧ Below w.heap.size w w' := by
  have HA := Lib.hid ha
  have HB := Lib.hid hb
  have ma := ha.most
  have mb := hb.most
  unfold maxLen at ma mb
  obtain ⟨ao, ac, rfl⟩ := ha.len
  obtain ⟨bo, bc, rfl⟩ := hb.len
  clear ha hb
  by_cases hl : a.length = b.length
  · obtain ⟨n, hn⟩ : ∃ n, n = a.length := ⟨_, rfl⟩
    have NA := Lib.hid hn.symm
    have NB := Lib.hid (hl.symm.trans hn.symm)
    rw [← hl, ← hn] at HB
    rw [← hn] at HA ma
    rw [← hl, ← hn]
    clear hl hn mb
    go_enter Try.func8, Try.ntmps8
    go_wp2
    go_loopw [5] (fun i wr => ∃ k : Nat, k ≤ n ∧ i = .int .i64 k ∧ a.take k = b.take k ∧ Below w.heap.size w wr) (fun i _ => n - (intOf i).toNat)
    case atStart => exact ⟨0, Nat.zero_le _, rfl, rfl, Below.refl _ _⟩
    case round =>
      obtain ⟨k, hk, rfl, htk, hbe⟩ := hrel
      have TK := Lib.hid htk
      have BE := Lib.hid hbe
      clear hbe htk
      by_cases hlt : k < n
      · obtain ⟨x, hx⟩ : ∃ x, a[k]? = some x := ⟨_, List.getElem?_eq_getElem (by rw [NA.out]; exact hlt)⟩
        obtain ⟨y, hy⟩ : ∃ y, b[k]? = some y := ⟨_, List.getElem?_eq_getElem (by rw [NB.out]; exact hlt)⟩
        obtain ⟨p, ix, _, px⟩ := elI HA.out rfl NA.out hx
        obtain ⟨q, iy, _, py⟩ := elI HB.out rfl NB.out hy
        have p0 := cell_regrown (px _ BE.out)
        have q0 := cell_regrown (py _ BE.out)
        obtain ⟨r, hr⟩ : ∃ r, ((x : Int) == (y : Int)) = r := ⟨_, rfl⟩
        have HX := Lib.hid hx
        have HY := Lib.hid hy
        have HR := Lib.hid hr
        clear px py hx hy
        go_wp2
        have hr2 : ((x : Int) != (y : Int)) = !r := by unfold bne; rw [hr]
        cases r
        all_goals
          simp only [Bool.not_true, Bool.not_false] at hr2
          refine wp_region_quiet_below (by kernel_rfl) (by kernel_rfl) ?_
          repeat (go_big_quiet_step (fail))
          refine wpQuiet_nil ?_
          intro _ hw'
          obtain ⟨⟨dq, osq⟩, hw''⟩ := hw'
          subst hw''
          have BN := Lib.hid (BE.out.trans ((below_regrown wr dq osq).mono BE.out.size))
          clear p0 q0 ix iy hr
        · go_wp2
          go_ret
          refine ⟨?_, BN.out⟩
          have hne : a ≠ b := fun e => by
            have h1 := HX.out
            rw [e, HY.out] at h1
            cases h1
            have h2 := HR.out
            simp at h2
          rw [decide_eq_false hne]
          rfl
        · have TN := Lib.hid (take_eq TK.out HX.out HY.out (by have h := HR.out; rw [beq_iff_eq] at h; exact h))
          go_wp2
          go_roundw
          case rel => exact ⟨k + 1, by omega, by go_num, TN.out, BN.out⟩
          case measure => simp [intOf]; omega
      · obtain rfl : k = n := by omega
        have EQ := Lib.hid (show a = b by have h := TK.out; rwa [List.take_of_length_le (by rw [NA.out]; exact Nat.le_refl _), List.take_of_length_le (by rw [NB.out]; exact Nat.le_refl _)] at h)
        go_wp2
        go_ret
        exact ⟨by rw [decide_eq_true EQ.out]; rfl, BE.out⟩
  · have hd : ((a.length : Int) == (b.length : Int)) = false := by simp; omega
    have hd2 : (a.length == b.length) = false := by simp; exact hl
    have E := Lib.hid (decide_eq_false (show ¬ a = b from fun e => hl (by rw [e])))
    have HD := Lib.hid hl
    clear hl
    go_enter Try.func8, Try.ntmps8
    go_wp2
    go_ret
    exact ⟨by rw [E.out]; rfl, Below.refl _ _⟩
end Go.Proofs.Ytonoadjmglkhaaa.Bk

namespace Go.Proofs.Ytonoadjmglkhaaa.Av
open Go.RowKit Go.Sort Go.Proofs.Ytonoadjmglkhaaa Go.Proofs.Ytonoadjmglkhaaa.Rw Go.Proofs.Ytonoadjmglkhaaa.Nm Go.Proofs.Ytonoadjmglkhaaa.Pr Go.Proofs.Ytonoadjmglkhaaa.Bk

theorem run_again : learnB runB ⟨(1, 0), [], 2⟩ = (runB, false) := rfl
theorem run_far : forgetF runB (1, 0) 3 = (runB, false) := rfl
theorem run_ok : okBr runB = true := by decide
theorem runB_few : Few runB := ⟨by simp, by simp, by simp, by simp, by simp⟩
theorem runB_fewp : FewP runB := ⟨by simp, by simp, by simp⟩
theorem runB_tame : TameB runB := ⟨by simp [Tame], by simp, by simp⟩
set_option maxRecDepth 100000 in
set_option maxHeartbeats 16000000 in
theorem runs_any (w : World) : Calls Try.prog 3 #[] w fun e w' => e = .returned (.bool true) ∧ Below w.heap.size w w' := by
  have n0 := newB w (.cells #[.int .i64 1, .int .i64 0, .slice none 0 0, .int .i64 2] 26)
  have X := Lib.hid (box_new w #[.int .i64 1, .int .i64 0, .slice none 0 0, .int .i64 2] 26)
  have B0 := Lib.hid n0
  clear n0
  go_enter Try.func3, Try.ntmps3
  go_upto_region 2 with fail
  generalize w.alloc (.cells #[.int .i64 1, .int .i64 0, .slice none 0 0, .int .i64 2] 26) = W at *
  refine run2 _ W w.heap.size _ _ _ _ _ _ _ _ _ _ _ _ _ _ _ _ _ _ _ _ _ _ _ _ _ _ _ _ _ _ _ _ _ _ _ _ _ _ _ _ _ _ _ _ _ _ _ _ _ _ _ _ _ _ X.out ?_
  intro x bb v4 v5 v6 v7 v8 v9 v10 v11 v12 v13 v14 v15 v16 m1 m2 m3 m4 m5 m6 m7 m8 m9 m10 m11 m12 m13 m14 m15 hbb hbox hbr hbel
  have XB := Lib.hid hbox
  have BR := Lib.hid hbr
  have XA := Lib.hid (X.out.on hbel)
  have B1 := Lib.hid (B0.out.trans (hbel.mono B0.out.size))
  have BBL := Lib.hid (Nat.le_trans B0.out.size hbb)
  clear hbb hbox hbr hbel X
  have cb0 := XB.out.cell 0
  have cb1 := XB.out.cell 1
  have cb2 := XB.out.cell 2
  have cb3 := XB.out.cell 3
  have cb4 := XB.out.cell 4
  have cb5 := XB.out.cell 5
  have ca0 := XA.out.cell 0
  have ca1 := XA.out.cell 1
  have ca2 := XA.out.cell 2
  have ca3 := XA.out.cell 3
  simp only [List.getElem?_toArray, List.getElem?_cons_zero, List.getElem?_cons_succ] at cb0 cb1 cb2 cb3 cb4 cb5 ca0 ca1 ca2 ca3
  go_wp2_with fail
  have C := learn_any runB ⟨(1, 0), [], 2⟩ (m1, m2, m3) (m4, m5, m6) (m7, m8, m9) (m10, m11, m12) (m13, m14, m15) (1, 0, (none, 0, 0), 2) x BR.out.br ⟨rfl, rfl, row_nil _⟩ runB_few runB_fewp (by simp) (List.pairwise_singleton _ _) (List.pairwise_singleton _ _)
  rw [run_again] at C
  refine C.mono ?_
  rintro e2 w2 ⟨⟨⟨q1, q2, q3⟩, ⟨q4, q5, q6⟩, ⟨q7, q8, q9⟩, ⟨q10, q11, q12⟩, ⟨q13, q14, q15⟩, rfl, _, _⟩, hb⟩
  have N2 := newB w2 (.cells #[.int .i64 0, .slice q1 q2 q3, .slice q4 q5 q6, .slice q7 q8 q9, .slice q10 q11 q12, .slice q13 q14 q15] 33)
  have HB := hb.trans (N2.mono hb.size)
  have YB := Lib.hid (XB.out.on HB)
  have YA := Lib.hid (XA.out.on HB)
  have BR2 := Lib.hid (BR.out.on HB)
  have B2 := Lib.hid (B1.out.trans (HB.mono B1.out.size))
  clear hb N2 HB C XB XA BR cb0 cb1 cb2 cb3 cb4 cb5 ca0 ca1 ca2 ca3
  have cb0 := YB.out.cell 0
  have cb1 := YB.out.cell 1
  have cb2 := YB.out.cell 2
  have cb3 := YB.out.cell 3
  have cb4 := YB.out.cell 4
  have cb5 := YB.out.cell 5
  have ca0 := YA.out.cell 0
  have ca1 := YA.out.cell 1
  have ca2 := YA.out.cell 2
  have ca3 := YA.out.cell 3
  simp only [List.getElem?_toArray, List.getElem?_cons_zero, List.getElem?_cons_succ] at cb0 cb1 cb2 cb3 cb4 cb5 ca0 ca1 ca2 ca3
  go_wp2_with fail
  generalize w2.alloc (.cells #[.int .i64 0, .slice q1 q2 q3, .slice q4 q5 q6, .slice q7 q8 q9, .slice q10 q11 q12, .slice q13 q14 q15] 33) = w3 at *
  have C := forget_any runB (1, 0) 3 (m1, m2, m3) (m4, m5, m6) (m7, m8, m9) (m10, m11, m12) (m13, m14, m15) w3 BR2.out.br runB_few runB_fewp
  rw [run_far] at C
  refine C.mono ?_
  rintro e3 w4 ⟨⟨⟨r1, r2, r3⟩, ⟨r4, r5, r6⟩, ⟨r7, r8, r9⟩, ⟨r10, r11, r12⟩, ⟨r13, r14, r15⟩, rfl, _, _⟩, hb⟩
  have N2 := newB w4 (.cells #[.int .i64 0, .slice r1 r2 r3, .slice r4 r5 r6, .slice r7 r8 r9, .slice r10 r11 r12, .slice r13 r14 r15] 33)
  have HB := hb.trans (N2.mono hb.size)
  have ZB := Lib.hid (YB.out.on HB)
  have ZA := Lib.hid (YA.out.on HB)
  have BR3 := Lib.hid (BR2.out.on HB)
  have B3 := Lib.hid (B2.out.trans (HB.mono B2.out.size))
  clear hb N2 HB C YB YA BR2 cb0 cb1 cb2 cb3 cb4 cb5 ca0 ca1 ca2 ca3
  have cb0 := ZB.out.cell 0
  have cb1 := ZB.out.cell 1
  have cb2 := ZB.out.cell 2
  have cb3 := ZB.out.cell 3
  have cb4 := ZB.out.cell 4
  have cb5 := ZB.out.cell 5
  have ca0 := ZA.out.cell 0
  have ca1 := ZA.out.cell 1
  have ca2 := ZA.out.cell 2
  have ca3 := ZA.out.cell 3
  simp only [List.getElem?_toArray, List.getElem?_cons_zero, List.getElem?_cons_succ] at cb0 cb1 cb2 cb3 cb4 cb5 ca0 ca1 ca2 ca3
  have N4 := newB (w4.alloc (.cells #[.int .i64 0, .slice r1 r2 r3, .slice r4 r5 r6, .slice r7 r8 r9, .slice r10 r11 r12, .slice r13 r14 r15] 33)) (.cells #[.int .i64 2, .int .i64 3] 3)
  have hl := Row.of_own (row_lit Nm.okI (w4.alloc (.cells #[.int .i64 0, .slice r1 r2 r3, .slice r4 r5 r6, .slice r7 r8 r9, .slice r10 r11 r12, .slice r13 r14 r15] 33)) [2, 3] 2 rfl (by simp) #[.int .i64 2, .int .i64 3] rfl)
  have hsz : (w4.alloc (.cells #[.int .i64 0, .slice r1 r2 r3, .slice r4 r5 r6, .slice r7 r8 r9, .slice r10 r11 r12, .slice r13 r14 r15] 33)).heap.size = w4.heap.size + 1 := by simp
  rw [hsz] at hl
  have C := Lib.hid (sameI (.slice m1 m2 m3) (.slice (some ⟨w4.heap.size + 1, 0, none⟩) 2 2) [2, 3] [2, 3] _ ((BR3.out.br.near).on N4) hl)
  have B4 := Lib.hid (B3.out.trans (N4.mono B3.out.size))
  have BR4 := Lib.hid (BR3.out.on N4)
  have XB4 := Lib.hid (ZB.out.on N4)
  have XA4 := Lib.hid (ZA.out.on N4)
  clear hl hsz N4 BR3
  go_wp2_with fail
  refine C.out.mono ?_
  rintro e5 w5 ⟨rfl, hb⟩
  have B5 := Lib.hid (B4.out.trans (hb.mono B4.out.size))
  have BR5 := Lib.hid (BR4.out.on hb)
  have XB5 := Lib.hid (XB4.out.on hb)
  have XA5 := Lib.hid (XA4.out.on hb)
  clear hb C BR4 XB4 XA4 ZB ZA cb0 cb1 cb2 cb3 cb4 cb5 ca0 ca1 ca2 ca3
  have e6 : decide (([2, 3] : List Int) = [2, 3]) = true := rfl
  have cb0 := XB5.out.cell 0
  have cb1 := XB5.out.cell 1
  have cb2 := XB5.out.cell 2
  have cb3 := XB5.out.cell 3
  have cb4 := XB5.out.cell 4
  have cb5 := XB5.out.cell 5
  have ca0 := XA5.out.cell 0
  have ca1 := XA5.out.cell 1
  have ca2 := XA5.out.cell 2
  have ca3 := XA5.out.cell 3
  simp only [List.getElem?_toArray, List.getElem?_cons_zero, List.getElem?_cons_succ] at cb0 cb1 cb2 cb3 cb4 cb5 ca0 ca1 ca2 ca3
  go_wp2_with fail
  refine (aseen_any 0 (.slice m1 m2 m3) (.slice m4 m5 m6) (.slice m10 m11 m12) (.slice m13 m14 m15) (m7, m8, m9) [(1, 0)] (1, 0) w5 BR5.out.br.seen).mono ?_
  rintro e7 w7 ⟨rfl, hb⟩
  have B7 := Lib.hid (B5.out.trans (hb.mono B5.out.size))
  have BR7 := Lib.hid (BR5.out.on hb)
  have XB7 := Lib.hid (XB5.out.on hb)
  clear hb BR5 XB5 XA5 e6 cb0 cb1 cb2 cb3 cb4 cb5 ca0 ca1 ca2 ca3
  have e8 : decide (((1, 0) : XID) ∈ [((1, 0) : XID)]) = true := rfl
  have cb0 := XB7.out.cell 0
  have cb1 := XB7.out.cell 1
  have cb2 := XB7.out.cell 2
  have cb3 := XB7.out.cell 3
  have cb4 := XB7.out.cell 4
  have cb5 := XB7.out.cell 5
  simp only [List.getElem?_toArray, List.getElem?_cons_zero, List.getElem?_cons_succ] at cb0 cb1 cb2 cb3 cb4 cb5
  go_wp2_with fail
  have C := aright_any runB (m1, m2, m3) (m4, m5, m6) (m7, m8, m9) (m10, m11, m12) (m13, m14, m15) w7 BR7.out.br runB_few runB_tame
  rw [run_ok] at C
  refine C.mono ?_
  rintro e9 w9 ⟨rfl, hb⟩
  have B9 := Lib.hid (B7.out.trans (hb.mono B7.out.size))
  clear hb C
  go_wp2
  go_ret
  exact ⟨rfl, B9.out⟩
end Go.Proofs.Ytonoadjmglkhaaa.Av
