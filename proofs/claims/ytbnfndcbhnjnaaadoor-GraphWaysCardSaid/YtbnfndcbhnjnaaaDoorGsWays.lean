/-
  The law GraphWays: ways are twice the links, rising, each both ways round; a step changes how far by one at most. Conditions: package errors' variable holds the handle of the type 'error'; numbers of 64 bits; lists no longer than a machine holds.
-/
import Derived.Test.YtbnfndcbhnjnaaaDoorGsBase
namespace Go.Proofs.YtbnfndcbhnjnaaaDoor.Gr
open Go.RowKit Go.Sort Go.Proofs.YtbnfndcbhnjnaaaDoor Go.Proofs.YtbnfndcbhnjnaaaDoor.Rw Go.Proofs.YtbnfndcbhnjnaaaDoor.Kp Go.Proofs.YtbnfndcbhnjnaaaDoor.In Go.Proofs.YtbnfndcbhnjnaaaDoor.Wi

theorem ways_ok2 {n : Int} {l r : List Lk} (h : WaysIs l r) (hr : RightG n l) (hn : n ≤ 7) : ∀ p ∈ r, Ok2 p ∧ Adj l p.1 p.2 ∧ (0 ≤ p.1 ∧ p.1 < n) ∧ (0 ≤ p.2 ∧ p.2 < n) := fun p hp => by
  have h1 := (h.2 p).1 hp
  have h2 := hr.ok.adj h1
  exact ⟨⟨⟨by omega, by omega⟩, by omega, by omega⟩, h1, h2⟩
theorem ways_lt {l r : List Lk} (h : WaysIs l r) {j : Nat} {a b : Lk} (ha : r[j]? = some a) (hb : r[j + 1]? = some b) : LexLt a b := by
  obtain ⟨h1, e1⟩ := List.getElem?_eq_some_iff.1 ha
  obtain ⟨h2, e2⟩ := List.getElem?_eq_some_iff.1 hb
  have := List.pairwise_iff_getElem.1 h.1 j (j + 1) h1 h2 (by omega)
  rwa [e1, e2] at this
set_option maxRecDepth 100000 in
set_option maxHeartbeats 8000000 in
theorem gways_any (bn : Int) (uv mv : Value) (us ms : List Int) (c : Int) (w : World) (hg : Fa.EG w) (hb : I64 bn) (hu : InInts w uv us) (hm : InInts w mv ms) (lu : us.length ≤ maxLen) (lm : ms.length ≤ maxLen) (hc : I64 c) :
    Calls Tryd.prog 5 #[.agg #[.int .i64 bn, uv, mv], .int .i64 c] w fun e w' => e = .returned (.bool true) ∧ Below w.heap.size w w' := by
  obtain ⟨w0, hw0⟩ : ∃ w0, w0 = w.alloc (.cells #[.int .i64 bn, uv, mv] 39) := ⟨_, rfl⟩
  have B0 := Lib.hid (show Below w.heap.size w w0 by rw [hw0]; exact (Below.refl _ _).alloc (Nat.le_refl _) _)
  have E0 := Lib.hid (GE.mk (hg.bel B0.out))
  have GC := Lib.hid (graph_ok bn uv mv us ms w0 hb (hu.on B0.out) (hm.on B0.out) lu lm)
  have HW0 := Lib.hid hw0
  have IC := Lib.hid hc
  have hmm := @run_makeMap Tryd.prog
  clear hg hb hu hm lu lm hc hw0
  go_enter Tryd.func5, Tryd.ntmps5
  go_wp2_with fail
  rw [← HW0.out]
  refine (GC.out).mono ?_
  rintro e1 w1 ⟨⟨n, lv, l, rfl, ho, hsm⟩, hb⟩
  obtain ⟨lo, lc, rfl⟩ := (Row.of_own ho).len
  have B1 := Lib.hid (B0.out.trans (hb.mono B0.out.size))
  have E1 := Lib.hid (E0.out.on hb)
  have R1 := Lib.hid (Row.of_own ho)
  clear hb B0 E0
  have SG := Lib.hid hsm
  have hn1 := hsm.right.lo
  have hn7 := hsm.seven
  have hl14 := hsm.few
  obtain ⟨m, hm⟩ : ∃ m, m = l.length := ⟨_, rfl⟩
  rw [← hm] at R1 hl14 ⊢
  have HM := Lib.hid hm
  clear ho hsm GC HW0 hm
  have HZ := Lib.hid ((Below.refl w1.heap.size w1).alloc (Nat.le_refl _) (.cells #[.int .i64 n, .slice lo m lc] 25))
  have B2 := Lib.hid (B1.out.trans (HZ.out.mono B1.out.size))
  have E2 := Lib.hid (E1.out.on HZ.out)
  have R2 := Lib.hid (R1.out.on HZ.out)
  have X2 := Lib.hid (box_new w1 #[.int .i64 n, .slice lo m lc] 25)
  go_wp2_with fail
  clear HZ B1 E1 R1
  generalize w1.alloc (.cells #[.int .i64 n, .slice lo m lc] 25) = w2 at *
  refine (ways_ok n _ l w2 R2.out ⟨SG.out.right.ok, SG.out.right.simp⟩ (by have := SG.out.few; omega)).mono ?_
  rintro e3 w3 ⟨⟨wv, r, rfl, ho, hwi⟩, hb⟩
  obtain ⟨wo, wc, rfl⟩ := (Row.of_own ho).len
  have B3 := Lib.hid (B2.out.trans (hb.mono B2.out.size))
  have E3 := Lib.hid (E2.out.on hb)
  have R3 := Lib.hid (R2.out.on hb)
  have X3 := Lib.hid (X2.out.on hb)
  have Y3 := Lib.hid (Row.of_own ho)
  clear hb B2 E2 R2 X2
  have WI := Lib.hid hwi
  have hrl : r.length = 2 * m := by rw [hwi.len SG.out.right.simp, ← HM.out]
  obtain ⟨q, hq⟩ : ∃ q, q = r.length := ⟨_, rfl⟩
  rw [← hq] at Y3 hrl ⊢
  have HQ := Lib.hid hq
  have HRL := Lib.hid hrl
  have hq28 : q ≤ 28 := by omega
  have WO := Lib.hid (ways_ok2 hwi SG.out.right SG.out.seven)
  clear ho hwi hrl hq
  have BZ := Lib.hid ((Below.refl w3.heap.size w3).alloc (Nat.le_refl _) (.map #[] 0))
  have M4 := Lib.hid (inMap_made w3)
  have a0 := (X3.out.on BZ.out).cell 0
  simp only [List.getElem?_toArray, List.getElem?_cons_zero] at a0
  have WW := Lib.hid (within_any c 0 (n - 1) (w3.alloc (.map #[] 0)) (by omega) (by omega) (by omega) IC.out.1 IC.out.2)
  go_wp2_with fail
  refine WW.out.mono ?_
  rintro e4 w4x ⟨rfl, rfl⟩
  clear WW a0
  have bt := within_bd c 0 (n - 1) (by omega)
  generalize within c 0 (n - 1) = t at *
  generalize w3.alloc (.map #[] 0) = w4 at *
  go_wp2
  go_loopw [27] (fun i wr => ∃ k : Nat, k ≤ q ∧ i = .int .i64 k ∧ Below w3.heap.size w3 wr ∧ InMap wr w3.heap.size (r.take k)) (fun i _ => q - (intOf i).toNat)
  case atStart => exact ⟨0, Nat.zero_le _, rfl, BZ.out, by simpa using M4.out⟩
  case round =>
    obtain ⟨k, hk, rfl, hb, hmap⟩ := hrel
    have HB := Lib.hid hb
    have HMp := Lib.hid hmap
    clear hb hmap
    by_cases hlt : k < q
    · obtain ⟨p, hp⟩ : ∃ p, r[k]? = some p := ⟨_, List.getElem?_eq_getElem (by rw [← HQ.out]; exact hlt)⟩
      obtain ⟨hok2, hadj, hr1, hr2⟩ := WO.out p (List.mem_of_getElem? hp)
      obtain ⟨pa, ix, px⟩ := elK Y3.out rfl HQ.out.symm hp
      obtain ⟨p0, p1⟩ := px _ HB.out
      have BA := Lib.hid ((Below.refl wr.heap.size wr).alloc (Nat.le_refl _) (.cells #[.int .i64 p.1, .int .i64 p.2] 22))
      have NB := Lib.hid (box_new wr #[.int .i64 p.1, .int .i64 p.2] 22)
      obtain ⟨w6, rs, im6, g6⟩ := (HMp.out.on BA.out).store p hok2 (by have : (r.take k).length ≤ k := (by simp; omega); omega)
      have TK : r.take (k + 1) = r.take k ++ [p] := by rw [List.take_add_one, hp]; rfl
      rw [← TK] at im6
      have B5 := HB.out.trans (BA.out.mono HB.out.size)
      have B6 := Lib.hid (B5.grown g6 B5.size (fun j hj => by obtain rfl := Option.some.inj hj; exact Nat.le_refl _))
      have M6 := Lib.hid im6
      have N6 := Lib.hid (box_grown NB.out g6 (fun e => by
        have h1 := HMp.out.lt
        injection e with e
        omega))
      have n0 := NB.out.cell 0
      have n1 := NB.out.cell 1
      simp only [List.getElem?_toArray, List.getElem?_cons_zero, List.getElem?_cons_succ] at n0 n1
      have X6 := Lib.hid (X3.out.on B6.out)
      have R6 := Lib.hid (R3.out.on B6.out)
      have E6 := Lib.hid (E3.out.on B6.out)
      have HP := Lib.hid hp
      have HA := Lib.hid hadj
      clear px im6 g6 TK B5 hp hadj hok2 HMp
      go_upto_region 9 with fail
      clear p0 p1 ix rs n0 n1
      rcases Nat.eq_zero_or_pos k with rfl | hpos
      · skip
        refine wp_region_quiet_below (by kernel_rfl) (by kernel_rfl) ?_
        repeat (go_big_quiet_step (fail))
        refine wpQuiet_nil ?_
        intro _ hw'
        obtain ⟨⟨dq, osq⟩, hw''⟩ := hw'
        subst hw'' 
        have HR := Lib.hid (below_regrown w6 dq osq)
        have B7 := Lib.hid (B6.out.trans (HR.out.mono B6.out.size))
        have X7 := Lib.hid (X6.out.on HR.out)
        have R7 := Lib.hid (R6.out.on HR.out)
        have E7 := Lib.hid (E6.out.on HR.out)
        have N7 := Lib.hid (N6.out.on HR.out)
        have M7 := Lib.hid (M6.out.on HR.out)
        clear HR B6 X6 R6 E6 N6 M6
        generalize grow (redrawn w6 dq) osq = w7 at *
        have a0 := cell_regrown (X7.out.cell 0)
        have a1 := cell_regrown (X7.out.cell 1)
        have n0 := cell_regrown (N7.out.cell 0)
        have n1 := cell_regrown (N7.out.cell 1)
        obtain ⟨d1, hd1⟩ := SG.out.right.join (a := p.1) (b := t) hr1 ⟨by omega, by omega⟩
        obtain ⟨d2, hd2⟩ := SG.out.right.join (a := p.2) (b := t) hr2 ⟨by omega, by omega⟩
        have hlt1 := hd1.lt SG.out.right.ok hr1
        have hlt2 := hd2.lt SG.out.right.ok hr2
        have hle1 : d1 ≤ d2 + 1 := by have := hd1.2 _ ((Wk.one HA.out).trans hd2.1); omega
        have hle2 : d2 ≤ d1 + 1 := by have := hd2.2 _ ((Wk.one HA.out.symm).trans hd1.1); omega
        have C1 := Lib.hid (far_re (show FarIs n l p.1 t d1 from Or.inl ⟨hr1, d1, rfl, hd1⟩) SG.out.right ⟨by omega, by omega⟩ w7 R7.out)
        have C2 := Lib.hid (far_re (show FarIs n l p.2 t d2 from Or.inl ⟨hr2, d2, rfl, hd2⟩) SG.out.right ⟨by omega, by omega⟩ w7 R7.out)
        clear hd1 hd2
        go_upto_region 11 with fail
        refine wp_region_quiet_below (by kernel_rfl) (by kernel_rfl) ?_
        repeat (go_big_quiet_step (first | (with_reducible exact C1.out _ _) | (with_reducible exact C2.out _ _)))
        refine wpQuiet_nil ?_
        intro _ hw'
        obtain ⟨⟨dq, osq⟩, hw''⟩ := hw'
        subst hw'' 
        clear a0 a1 n0 n1 C1 C2
        have HR := Lib.hid (below_regrown w7 dq osq)
        have B8 := Lib.hid (B7.out.trans (HR.out.mono B7.out.size))
        have X8 := Lib.hid (X7.out.on HR.out)
        have R8 := Lib.hid (R7.out.on HR.out)
        have E8 := Lib.hid (E7.out.on HR.out)
        have N8 := Lib.hid (N7.out.on HR.out)
        have M8 := Lib.hid (M7.out.on HR.out)
        clear HR B7 X7 R7 E7 N7 M7
        generalize grow (redrawn w7 dq) osq = w8 at *
        have a0 := X8.out.cell 0
        have a1 := X8.out.cell 1
        have n0 := N8.out.cell 0
        have n1 := N8.out.cell 1
        simp only [List.getElem?_toArray, List.getElem?_cons_zero, List.getElem?_cons_succ] at a0 a1 n0 n1
        have k1 : IntKind.i64.wrap ((d1 : Int) - (d2 : Int)) = (d1 : Int) - (d2 : Int) := IntWalk.i64_in _ (by omega)
        have k2 : IntKind.i64.wrap ((d2 : Int) - (d1 : Int)) = (d2 : Int) - (d1 : Int) := IntWalk.i64_in _ (by omega)
        have f1 : decide ((d1 : Int) < 0) = false := by simp
        have f2 : decide ((d2 : Int) < 0) = false := by simp
        have f3 : decide ((d1 : Int) - (d2 : Int) > 1) = false := by simp; omega
        have f4 : decide ((d2 : Int) - (d1 : Int) > 1) = false := by simp; omega
        have CL := Lib.hid (linked_any n (.slice lo m lc) l p.1 p.2 w8 R8.out SG.out.right.ok)
        rw [adjB_iff.2 HA.out] at CL
        clear hle1 hle2 hlt1 hlt2
        go_wp2_with fail
        refine CL.out.mono ?_
        rintro e9 w9 ⟨rfl, hb9⟩
        have B9 := Lib.hid (B8.out.trans (hb9.mono B8.out.size))
        have M9 := Lib.hid (M8.out.on hb9)
        clear a0 a1 n0 n1 k1 k2 f1 f2 f3 f4 CL hb9 B8 X8 R8 E8 N8 M8
        go_wp2
        go_roundw
        case rel => exact ⟨_, by omega, by go_num, B9.out, M9.out⟩
        case measure => simp [intOf]; omega
      · obtain ⟨j, rfl⟩ : ∃ j, k = j + 1 := ⟨k - 1, by omega⟩
        obtain ⟨a, ha⟩ : ∃ a, r[j]? = some a := ⟨_, List.getElem?_eq_getElem (by rw [← HQ.out]; omega)⟩
        have hlex := ways_lt WI.out ha HP.out
        obtain ⟨aa, ia, pxa⟩ := elK Y3.out rfl HQ.out.symm ha
        have a0 := cell_regrown (pxa _ B6.out).1
        have a1 := cell_regrown (pxa _ B6.out).2
        have n0 := cell_regrown (N6.out.cell 0)
        have n1 := cell_regrown (N6.out.cell 1)
        have e1 : IntKind.i64.wrap ((j : Int) + 1 - 1) = (j : Int) := by rw [Int.add_sub_cancel]; exact IntWalk.i64_in _ (by omega)
        have e2 : IntKind.i64.wrap (j : Int) = (j : Int) := IntWalk.i64_in _ (by omega)
        have e3 : decide ((j : Int) + 1 > 0) = true := decide_eq_true (by omega)
        have f1 : decide (a.1 > p.1) = false := by
          unfold LexLt at hlex
          simp
          omega
        obtain ⟨tq, f2⟩ : ∃ tq, (a.1 == p.1) = tq := ⟨_, rfl⟩
        have f3 : tq = true → decide (a.2 ≥ p.2) = false := fun h => by
          rw [h] at f2
          unfold LexLt at hlex
          simp at f2 ⊢
          omega
        clear pxa ha hlex
        rcases tq with _ | _
        · clear f3
          refine wp_region_quiet_below (by kernel_rfl) (by kernel_rfl) ?_
          repeat (go_big_quiet_step (fail))
          refine wpQuiet_nil ?_
          intro _ hw'
          obtain ⟨⟨dq, osq⟩, hw''⟩ := hw'
          subst hw'' 
          clear a0 a1 n0 n1 e1 e2 e3 f1 f2 ia
          have HR := Lib.hid (below_regrown w6 dq osq)
          have B7 := Lib.hid (B6.out.trans (HR.out.mono B6.out.size))
          have X7 := Lib.hid (X6.out.on HR.out)
          have R7 := Lib.hid (R6.out.on HR.out)
          have E7 := Lib.hid (E6.out.on HR.out)
          have N7 := Lib.hid (N6.out.on HR.out)
          have M7 := Lib.hid (M6.out.on HR.out)
          clear HR B6 X6 R6 E6 N6 M6
          generalize grow (redrawn w6 dq) osq = w7 at *
          have a0 := cell_regrown (X7.out.cell 0)
          have a1 := cell_regrown (X7.out.cell 1)
          have n0 := cell_regrown (N7.out.cell 0)
          have n1 := cell_regrown (N7.out.cell 1)
          obtain ⟨d1, hd1⟩ := SG.out.right.join (a := p.1) (b := t) hr1 ⟨by omega, by omega⟩
          obtain ⟨d2, hd2⟩ := SG.out.right.join (a := p.2) (b := t) hr2 ⟨by omega, by omega⟩
          have hlt1 := hd1.lt SG.out.right.ok hr1
          have hlt2 := hd2.lt SG.out.right.ok hr2
          have hle1 : d1 ≤ d2 + 1 := by have := hd1.2 _ ((Wk.one HA.out).trans hd2.1); omega
          have hle2 : d2 ≤ d1 + 1 := by have := hd2.2 _ ((Wk.one HA.out.symm).trans hd1.1); omega
          have C1 := Lib.hid (far_re (show FarIs n l p.1 t d1 from Or.inl ⟨hr1, d1, rfl, hd1⟩) SG.out.right ⟨by omega, by omega⟩ w7 R7.out)
          have C2 := Lib.hid (far_re (show FarIs n l p.2 t d2 from Or.inl ⟨hr2, d2, rfl, hd2⟩) SG.out.right ⟨by omega, by omega⟩ w7 R7.out)
          clear hd1 hd2
          go_upto_region 11 with fail
          refine wp_region_quiet_below (by kernel_rfl) (by kernel_rfl) ?_
          repeat (go_big_quiet_step (first | (with_reducible exact C1.out _ _) | (with_reducible exact C2.out _ _)))
          refine wpQuiet_nil ?_
          intro _ hw'
          obtain ⟨⟨dq, osq⟩, hw''⟩ := hw'
          subst hw'' 
          clear a0 a1 n0 n1 C1 C2
          have HR := Lib.hid (below_regrown w7 dq osq)
          have B8 := Lib.hid (B7.out.trans (HR.out.mono B7.out.size))
          have X8 := Lib.hid (X7.out.on HR.out)
          have R8 := Lib.hid (R7.out.on HR.out)
          have E8 := Lib.hid (E7.out.on HR.out)
          have N8 := Lib.hid (N7.out.on HR.out)
          have M8 := Lib.hid (M7.out.on HR.out)
          clear HR B7 X7 R7 E7 N7 M7
          generalize grow (redrawn w7 dq) osq = w8 at *
          have a0 := X8.out.cell 0
          have a1 := X8.out.cell 1
          have n0 := N8.out.cell 0
          have n1 := N8.out.cell 1
          simp only [List.getElem?_toArray, List.getElem?_cons_zero, List.getElem?_cons_succ] at a0 a1 n0 n1
          have k1 : IntKind.i64.wrap ((d1 : Int) - (d2 : Int)) = (d1 : Int) - (d2 : Int) := IntWalk.i64_in _ (by omega)
          have k2 : IntKind.i64.wrap ((d2 : Int) - (d1 : Int)) = (d2 : Int) - (d1 : Int) := IntWalk.i64_in _ (by omega)
          have f1 : decide ((d1 : Int) < 0) = false := by simp
          have f2 : decide ((d2 : Int) < 0) = false := by simp
          have f3 : decide ((d1 : Int) - (d2 : Int) > 1) = false := by simp; omega
          have f4 : decide ((d2 : Int) - (d1 : Int) > 1) = false := by simp; omega
          have CL := Lib.hid (linked_any n (.slice lo m lc) l p.1 p.2 w8 R8.out SG.out.right.ok)
          rw [adjB_iff.2 HA.out] at CL
          clear hle1 hle2 hlt1 hlt2
          go_wp2_with fail
          refine CL.out.mono ?_
          rintro e9 w9 ⟨rfl, hb9⟩
          have B9 := Lib.hid (B8.out.trans (hb9.mono B8.out.size))
          have M9 := Lib.hid (M8.out.on hb9)
          clear a0 a1 n0 n1 k1 k2 f1 f2 f3 f4 CL hb9 B8 X8 R8 E8 N8 M8
          go_wp2
          go_roundw
          case rel => exact ⟨_, by omega, by go_num, B9.out, M9.out⟩
          case measure => simp [intOf]; omega
        · have f4 := f3 rfl
          clear f3
          refine wp_region_quiet_below (by kernel_rfl) (by kernel_rfl) ?_
          repeat (go_big_quiet_step (fail))
          refine wpQuiet_nil ?_
          intro _ hw'
          obtain ⟨⟨dq, osq⟩, hw''⟩ := hw'
          subst hw'' 
          clear a0 a1 n0 n1 e1 e2 e3 f1 f2 f4 ia
          have HR := Lib.hid (below_regrown w6 dq osq)
          have B7 := Lib.hid (B6.out.trans (HR.out.mono B6.out.size))
          have X7 := Lib.hid (X6.out.on HR.out)
          have R7 := Lib.hid (R6.out.on HR.out)
          have E7 := Lib.hid (E6.out.on HR.out)
          have N7 := Lib.hid (N6.out.on HR.out)
          have M7 := Lib.hid (M6.out.on HR.out)
          clear HR B6 X6 R6 E6 N6 M6
          generalize grow (redrawn w6 dq) osq = w7 at *
          have a0 := cell_regrown (X7.out.cell 0)
          have a1 := cell_regrown (X7.out.cell 1)
          have n0 := cell_regrown (N7.out.cell 0)
          have n1 := cell_regrown (N7.out.cell 1)
          obtain ⟨d1, hd1⟩ := SG.out.right.join (a := p.1) (b := t) hr1 ⟨by omega, by omega⟩
          obtain ⟨d2, hd2⟩ := SG.out.right.join (a := p.2) (b := t) hr2 ⟨by omega, by omega⟩
          have hlt1 := hd1.lt SG.out.right.ok hr1
          have hlt2 := hd2.lt SG.out.right.ok hr2
          have hle1 : d1 ≤ d2 + 1 := by have := hd1.2 _ ((Wk.one HA.out).trans hd2.1); omega
          have hle2 : d2 ≤ d1 + 1 := by have := hd2.2 _ ((Wk.one HA.out.symm).trans hd1.1); omega
          have C1 := Lib.hid (far_re (show FarIs n l p.1 t d1 from Or.inl ⟨hr1, d1, rfl, hd1⟩) SG.out.right ⟨by omega, by omega⟩ w7 R7.out)
          have C2 := Lib.hid (far_re (show FarIs n l p.2 t d2 from Or.inl ⟨hr2, d2, rfl, hd2⟩) SG.out.right ⟨by omega, by omega⟩ w7 R7.out)
          clear hd1 hd2
          go_upto_region 11 with fail
          refine wp_region_quiet_below (by kernel_rfl) (by kernel_rfl) ?_
          repeat (go_big_quiet_step (first | (with_reducible exact C1.out _ _) | (with_reducible exact C2.out _ _)))
          refine wpQuiet_nil ?_
          intro _ hw'
          obtain ⟨⟨dq, osq⟩, hw''⟩ := hw'
          subst hw'' 
          clear a0 a1 n0 n1 C1 C2
          have HR := Lib.hid (below_regrown w7 dq osq)
          have B8 := Lib.hid (B7.out.trans (HR.out.mono B7.out.size))
          have X8 := Lib.hid (X7.out.on HR.out)
          have R8 := Lib.hid (R7.out.on HR.out)
          have E8 := Lib.hid (E7.out.on HR.out)
          have N8 := Lib.hid (N7.out.on HR.out)
          have M8 := Lib.hid (M7.out.on HR.out)
          clear HR B7 X7 R7 E7 N7 M7
          generalize grow (redrawn w7 dq) osq = w8 at *
          have a0 := X8.out.cell 0
          have a1 := X8.out.cell 1
          have n0 := N8.out.cell 0
          have n1 := N8.out.cell 1
          simp only [List.getElem?_toArray, List.getElem?_cons_zero, List.getElem?_cons_succ] at a0 a1 n0 n1
          have k1 : IntKind.i64.wrap ((d1 : Int) - (d2 : Int)) = (d1 : Int) - (d2 : Int) := IntWalk.i64_in _ (by omega)
          have k2 : IntKind.i64.wrap ((d2 : Int) - (d1 : Int)) = (d2 : Int) - (d1 : Int) := IntWalk.i64_in _ (by omega)
          have f1 : decide ((d1 : Int) < 0) = false := by simp
          have f2 : decide ((d2 : Int) < 0) = false := by simp
          have f3 : decide ((d1 : Int) - (d2 : Int) > 1) = false := by simp; omega
          have f4 : decide ((d2 : Int) - (d1 : Int) > 1) = false := by simp; omega
          have CL := Lib.hid (linked_any n (.slice lo m lc) l p.1 p.2 w8 R8.out SG.out.right.ok)
          rw [adjB_iff.2 HA.out] at CL
          clear hle1 hle2 hlt1 hlt2
          go_wp2_with fail
          refine CL.out.mono ?_
          rintro e9 w9 ⟨rfl, hb9⟩
          have B9 := Lib.hid (B8.out.trans (hb9.mono B8.out.size))
          have M9 := Lib.hid (M8.out.on hb9)
          clear a0 a1 n0 n1 k1 k2 f1 f2 f3 f4 CL hb9 B8 X8 R8 E8 N8 M8
          go_wp2
          go_roundw
          case rel => exact ⟨_, by omega, by go_num, B9.out, M9.out⟩
          case measure => simp [intOf]; omega
    · obtain rfl : k = q := by omega
      rw [List.take_of_length_le (by rw [← HQ.out]; exact Nat.le_refl _)] at HMp
      have X5 := Lib.hid (X3.out.on HB.out)
      have a0 := X5.out.cell 0
      have a1 := X5.out.cell 1
      simp only [List.getElem?_toArray, List.getElem?_cons_zero, List.getElem?_cons_succ] at a0 a1
      go_wp2
      clear a0 a1
      obtain ⟨w5, rfl⟩ : ∃ w5 : World, w5 = wr := ⟨_, rfl⟩
      go_loopw [110] (fun i wr => ∃ j : Nat, j ≤ m ∧ i = .int .i64 j ∧ Below w5.heap.size w5 wr) (fun i _ => m - (intOf i).toNat)
      case atStart => exact ⟨0, Nat.zero_le _, rfl, Below.refl _ _⟩
      case round =>
        obtain ⟨j, hj, rfl, hb5⟩ := hrel
        have HB5 := Lib.hid hb5
        have BW := Lib.hid (HB.out.trans (hb5.mono HB.out.size))
        clear hb5
        by_cases hltj : j < m
        · obtain ⟨y, hy⟩ : ∃ y, l[j]? = some y := ⟨_, List.getElem?_eq_getElem (by rw [← HM.out]; exact hltj)⟩
          obtain ⟨pa, ix, px⟩ := elK R3.out rfl HM.out.symm hy
          obtain ⟨p0, p1⟩ := px _ BW.out
          have hyl := List.mem_of_getElem? hy
          have m1 : y ∈ r := (WI.out.2 y).2 (Or.inl hyl)
          have m2 : (y.2, y.1) ∈ r := (WI.out.2 (y.2, y.1)).2 (Or.inr hyl)
          have hyo := SG.out.right.ok y hyl
          have MX := Lib.hid ((HMp.out.on HB5.out).on ((Below.refl wr.heap.size wr).alloc (Nat.le_refl _) (.cells #[.int .i64 y.1, .int .i64 y.2] 22)))
          have l1 := MX.out.look y ⟨⟨by omega, by omega⟩, by omega, by omega⟩
          have l2 := MX.out.look (y.2, y.1) ⟨⟨by omega, by omega⟩, by omega, by omega⟩
          rw [decide_eq_true m1] at l1
          rw [decide_eq_true m2] at l2
          have BN := Lib.hid (HB5.out.alloc HB5.out.size (.cells #[.int .i64 y.1, .int .i64 y.2] 22))
          clear px hy hyl m1 m2 hyo
          go_wp2
          go_roundw
          case rel => exact ⟨j + 1, by omega, by go_num, BN.out⟩
          case measure => simp [intOf]; omega
        · obtain rfl : j = m := by omega
          have X6 := Lib.hid (X3.out.on BW.out)
          have R6 := Lib.hid (R3.out.on BW.out)
          have E6 := Lib.hid (E3.out.on BW.out)
          have B6 := Lib.hid (B3.out.trans (BW.out.mono B3.out.size))
          have a0 := X6.out.cell 0
          have a1 := X6.out.cell 1
          simp only [List.getElem?_toArray, List.getElem?_cons_zero, List.getElem?_cons_succ] at a0 a1
          have e1 : IntKind.i64.wrap (2 * (j : Int)) = 2 * (j : Int) := IntWalk.i64_in _ (by omega)
          have e2 : ((k : Int) == 2 * (j : Int)) = true := by
            have := HRL.out
            rw [beq_iff_eq]
            omega
          have FT := Lib.hid (far_val (show FarIs n l t t 0 from Or.inl ⟨⟨by omega, by omega⟩, 0, rfl, rfl, fun _ _ => Nat.zero_le _⟩) SG.out.right ⟨by omega, by omega⟩ wr R6.out)
          go_wp2_with fail
          refine FT.out.mono ?_
          rintro e7 w7 ⟨rfl, hb7⟩
          have B7 := Lib.hid (B6.out.trans (hb7.mono B6.out.size))
          have E7 := Lib.hid (E6.out.on hb7)
          clear a0 a1 FT hb7 B6 E6 R6 X6
          go_wp2_with fail
          refine (runs_any w7 E7.out.eg).mono ?_
          rintro e8 w8 ⟨rfl, hb8⟩
          have B8 := Lib.hid (B7.out.trans (hb8.mono B7.out.size))
          clear hb8
          go_wp2
          go_ret
          exact ⟨rfl, B8.out⟩
end Go.Proofs.YtbnfndcbhnjnaaaDoor.Gr
