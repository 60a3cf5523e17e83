/-
  The law GraphFar: how far is the same both ways, nought of itself alone, one of neighbours alone; by any third one it is no nearer. Conditions: package errors' variable holds the handle of the type 'error'; numbers of 64 bits; lists no longer than a machine holds.
-/
import Derived.Test.YtbnfndcbhnjnaaaDoorGsBase
namespace Go.Proofs.YtbnfndcbhnjnaaaDoor.Gr
open Go.RowKit Go.Sort Go.Proofs.YtbnfndcbhnjnaaaDoor Go.Proofs.YtbnfndcbhnjnaaaDoor.Rw Go.Proofs.YtbnfndcbhnjnaaaDoor.Kp Go.Proofs.YtbnfndcbhnjnaaaDoor.In Go.Proofs.YtbnfndcbhnjnaaaDoor.Wi

set_option maxRecDepth 100000 in
set_option maxHeartbeats 8000000 in
theorem gfar_any (bn : Int) (uv mv : Value) (us ms : List Int) (a b c : Int) (w : World) (hg : Fa.EG w) (hb : I64 bn) (hu : InInts w uv us) (hm : InInts w mv ms) (lu : us.length ≤ maxLen) (lm : ms.length ≤ maxLen) (ha : I64 a) (hbb : I64 b) (hc : I64 c) :
    Calls Tryd.prog 7 #[.agg #[.int .i64 bn, uv, mv], .int .i64 a, .int .i64 b, .int .i64 c] w fun e w' => e = .returned (.bool true) ∧ Below w.heap.size w w' := by
  obtain ⟨w0, hw0⟩ : ∃ w0, w0 = w.alloc (.cells #[.int .i64 bn, uv, mv] 39) := ⟨_, rfl⟩
  have B0 := Lib.hid (show Below w.heap.size w w0 by rw [hw0]; exact (Below.refl _ _).alloc (Nat.le_refl _) _)
  have E0 := Lib.hid (GE.mk (hg.bel B0.out))
  have GC := Lib.hid (graph_ok bn uv mv us ms w0 hb (hu.on B0.out) (hm.on B0.out) lu lm)
  have HW0 := Lib.hid hw0
  have IA := Lib.hid ha
  have IB := Lib.hid hbb
  have IC := Lib.hid hc
  clear hg hb hu hm lu lm ha hbb hc hw0
  go_enter Tryd.func7, Tryd.ntmps7
  go_wp2_with fail
  rw [← HW0.out]
  refine (GC.out).mono ?_
  rintro e1 w1 ⟨⟨n, lv, l, rfl, ho, hsm⟩, hb⟩
  obtain ⟨lo, lc, rfl⟩ := (Row.of_own ho).len
  have B1 := Lib.hid (B0.out.trans (hb.mono B0.out.size))
  have E1 := Lib.hid (E0.out.on hb)
  have R1 := Lib.hid (Row.of_own ho)
  clear hb B0 E0
  have SG := Lib.hid hsm
  have hn1 := hsm.right.lo
  have hn7 := hsm.seven
  clear ho hsm GC HW0
  have HZ := Lib.hid ((Below.refl w1.heap.size w1).alloc (Nat.le_refl _) (.cells #[.int .i64 n, .slice lo l.length lc] 25))
  have B2 := Lib.hid (B1.out.trans (HZ.out.mono B1.out.size))
  have E2 := Lib.hid (E1.out.on HZ.out)
  have R2 := Lib.hid (R1.out.on HZ.out)
  have X2 := Lib.hid (box_new w1 #[.int .i64 n, .slice lo l.length lc] 25)
  go_upto_region 2 with fail
  clear HZ B1 E1 R1
  generalize w1.alloc (.cells #[.int .i64 n, .slice lo l.length lc] 25) = w2 at *
  have a0 := cell_regrown (X2.out.cell 0)
  have a1 := cell_regrown (X2.out.cell 1)
  have hwn : IntKind.i64.wrap (n - 1) = n - 1 := IntWalk.i64_in _ (by omega)
  have W1 := Lib.hid (within_re a 0 (n - 1) w2 (by omega) (by omega) (by omega) IA.out)
  have W2 := Lib.hid (within_re b 0 (n - 1) w2 (by omega) (by omega) (by omega) IB.out)
  have W3 := Lib.hid (within_re c 0 (n - 1) w2 (by omega) (by omega) (by omega) IC.out)
  have bx := within_bd a 0 (n - 1) (by omega)
  have by_ := within_bd b 0 (n - 1) (by omega)
  have bz := within_bd c 0 (n - 1) (by omega)
  generalize within a 0 (n - 1) = x at *
  generalize within b 0 (n - 1) = y at *
  generalize within c 0 (n - 1) = z at *
  refine wp_region_quiet_below (by kernel_rfl) (by kernel_rfl) ?_
  repeat (go_big_quiet_step (first | (with_reducible exact W1.out _ _) | (with_reducible exact W2.out _ _) | (with_reducible exact W3.out _ _)))
  refine wpQuiet_nil ?_
  intro _ hw'
  obtain ⟨⟨dq, osq⟩, hw''⟩ := hw'
  subst hw'' 
  have HQ2 := Lib.hid (below_regrown w2 dq osq)
  clear a0 a1 W1 W2 W3 hwn
  
  have B3 := Lib.hid (B2.out.trans (HQ2.out.mono B2.out.size))
  have E3 := Lib.hid (E2.out.on HQ2.out)
  have X3 := Lib.hid (X2.out.on HQ2.out)
  have R3 := Lib.hid (R2.out.on HQ2.out)
  clear HQ2 B2 E2 X2 R2
  generalize grow (redrawn w2 dq) osq = w3 at *
  obtain ⟨d, hd⟩ := SG.out.right.join (a := x) (b := y) ⟨by omega, by omega⟩ ⟨by omega, by omega⟩
  obtain ⟨d1, hd1⟩ := SG.out.right.join (a := x) (b := z) ⟨by omega, by omega⟩ ⟨by omega, by omega⟩
  obtain ⟨d2, hd2⟩ := SG.out.right.join (a := z) (b := y) ⟨by omega, by omega⟩ ⟨by omega, by omega⟩
  have F0 := Lib.hid (show FarIs n l x y d from Or.inl ⟨⟨by omega, by omega⟩, d, rfl, hd⟩)
  have F1 := Lib.hid (show FarIs n l y x d from Or.inl ⟨⟨by omega, by omega⟩, d, rfl, hd.symm⟩)
  have F2 := Lib.hid (show FarIs n l x z d1 from Or.inl ⟨⟨by omega, by omega⟩, d1, rfl, hd1⟩)
  have F3 := Lib.hid (show FarIs n l z y d2 from Or.inl ⟨⟨by omega, by omega⟩, d2, rfl, hd2⟩)
  have F4 := Lib.hid (show FarIs n l x n (-1) from not_range SG.out.right.ok (by omega))
  have F5 := Lib.hid (show FarIs n l (-1) x (-1) from Or.inr ⟨rfl, fun h => by omega⟩)
  have hle : d ≤ d1 + d2 := hd.2 _ (hd1.1.trans hd2.1)
  have hlt := hd.lt SG.out.right.ok ⟨by omega, by omega⟩
  have hlt1 := hd1.lt SG.out.right.ok ⟨by omega, by omega⟩
  have hlt2 := hd2.lt SG.out.right.ok ⟨by omega, by omega⟩
  have Z0 := Lib.hid (show d = 0 ↔ x = y from ⟨fun h => by subst h; exact hd.1, fun h => by subst h; exact Nat.le_zero.1 (hd.2 0 rfl)⟩)
  have Z1 := Lib.hid (show d = 1 ↔ adjB l x y = true from ⟨fun h => by
    subst h
    obtain ⟨c2, h1, h2⟩ := hd.1
    obtain rfl : x = c2 := h1
    exact adjB_iff.2 h2, fun h => by
    have h1 := adjB_iff.1 h
    have h2 := hd.2 1 (Wk.one h1)
    rcases (by omega : d = 0 ∨ d = 1) with h3 | h3
    · have h4 := Z0.out.1 h3
      subst h4
      rcases h1 with h5 | h5
      · exact absurd rfl (SG.out.right.simp.2 _ h5)
      · exact absurd rfl (SG.out.right.simp.2 _ h5)
    · exact h3⟩)
  clear hd hd1 hd2
  have xc0 := X3.out.cell 0
  have xc1 := X3.out.cell 1
  simp only [List.getElem?_toArray, List.getElem?_cons_zero, List.getElem?_cons_succ] at xc0 xc1
  go_wp2_with fail
  refine (far_val F0.out SG.out.right ⟨by omega, by omega⟩ w3 R3.out).mono ?_
  rintro e4 w4 ⟨rfl, hb⟩
  clear xc0 xc1
  have B4 := Lib.hid (B3.out.trans (hb.mono B3.out.size))
  have E4 := Lib.hid (E3.out.on hb)
  have X4 := Lib.hid (X3.out.on hb)
  have R4 := Lib.hid (R3.out.on hb)
  clear hb B3 E3 X3 R3
  have a0 := cell_regrown (X4.out.cell 0)
  have a1 := cell_regrown (X4.out.cell 1)
  have C1 := Lib.hid (far_re F1.out SG.out.right ⟨by omega, by omega⟩ w4 R4.out)
  have C2 := Lib.hid (far_re F2.out SG.out.right ⟨by omega, by omega⟩ w4 R4.out)
  have C3 := Lib.hid (far_re F3.out SG.out.right ⟨by omega, by omega⟩ w4 R4.out)
  have C4 := Lib.hid (far_re F4.out SG.out.right ⟨by omega, by omega⟩ w4 R4.out)
  have C5 := Lib.hid (far_re F5.out SG.out.right ⟨by omega, by omega⟩ w4 R4.out)
  have CR := Lib.hid (runs_re w4 E4.out)
  obtain ⟨b0, h0⟩ : ∃ b0, (x == y) = b0 := ⟨_, rfl⟩
  obtain ⟨b1, h1⟩ : ∃ b1, adjB l x y = b1 := ⟨_, rfl⟩
  have CL := Lib.hid (linked_re (n := n) SG.out.right.ok x y b1 h1 w4 R4.out)
  have g0 : ((d : Int) == 0) = b0 := by
    rw [← h0]
    have h5 := Z0.out
    rw [Bool.eq_iff_iff]
    simp only [beq_iff_eq]
    exact ⟨fun h => h5.1 (by omega), fun h => by have := h5.2 h; omega⟩
  have g1 : ((d : Int) == 1) = b1 := by
    rw [← h1]
    have h5 := Z1.out
    rw [Bool.eq_iff_iff]
    simp only [beq_iff_eq]
    exact ⟨fun h => h5.1 (by omega), fun h => by have := h5.2 h; omega⟩
  have hws : IntKind.i64.wrap ((d1 : Int) + (d2 : Int)) = (d1 : Int) + (d2 : Int) := IntWalk.i64_in _ (by omega)
  have dl : decide ((d : Int) ≤ (d1 : Int) + (d2 : Int)) = true := by simp; omega
  have dn : decide ((d : Int) < n) = true := by simpa using hlt
  have de : ((d : Int) == (d : Int)) = true := by simp
  clear F0 F1 F2 F3 F4 F5 Z0 Z1 h1 hle hlt hlt1 hlt2 bx by_ bz
  go_upto_region 4 with fail
  all_goals cases b0
  all_goals cases b1
  all_goals
    refine wp_region_quiet_below (by kernel_rfl) (by kernel_rfl) ?_
    repeat (go_big_quiet_step (first | (with_reducible exact C1.out _ _) | (with_reducible exact C2.out _ _) | (with_reducible exact C3.out _ _) | (with_reducible exact C4.out _ _) | (with_reducible exact C5.out _ _) | (with_reducible exact CR.out _ _) | (with_reducible exact CL.out _ _)))
    refine wpQuiet_nil ?_
    intro _ hw'
    obtain ⟨⟨dq, osq⟩, hw''⟩ := hw'
    subst hw'' 
    have B5 := Lib.hid (B4.out.trans ((below_regrown w4 dq osq).mono B4.out.size))
    clear a0 a1 g0 g1 hws dl dn de h0
    go_wp2
    go_ret
    exact ⟨rfl, B5.out⟩
end Go.Proofs.YtbnfndcbhnjnaaaDoor.Gr
