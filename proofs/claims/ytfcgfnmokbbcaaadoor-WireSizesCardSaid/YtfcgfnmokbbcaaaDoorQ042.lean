/-
  The law WireTurned: a message with something that its kind doesn't ask, or an ID that may not be, isn't right, and has no bytes. Conditions: package errors' variable holds the handle of the type 'error'; numbers of 64 bits; lists no longer than a machine holds.
  Arguments of a row: a value of package api opened into its three fields; arguments that read as they read before, where a call has only added memory. No other condition.
  Numbers of which a message is made, and messages, that came in, opened. No condition beyond their reading.
-/
import Derived.Test.YtfcgfnmokbbcaaaDoorQ036
import Derived.Test.YtfcgfnmokbbcaaaDoorQ041
import Derived.Test.YtfcgfnmokbbcaaaDoorProg
import Derived.WalkKit
import Derived.ProofKit
import Derived.OpenShut
import Derived.Carry
import Derived.ChangeMaps5
import Derived.ChangeArms
import Derived.Test.YtfcgfnmokbbcaaaDoorQ039
import Derived.Test.YtfcgfnmokbbcaaaDoorQ021
import Derived.ChangeSlices
import Derived.Deep.Slices
namespace Go.Proofs.YtfcgfnmokbbcaaaDoor.Ws
open Go.RowKit Go.Sort Go.Proofs.YtfcgfnmokbbcaaaDoor Go.Proofs.YtfcgfnmokbbcaaaDoor.Rw Go.Proofs.YtfcgfnmokbbcaaaDoor.Nm Go.Proofs.YtfcgfnmokbbcaaaDoor.At Go.Proofs.YtfcgfnmokbbcaaaDoor.Pr Go.Proofs.YtfcgfnmokbbcaaaDoor.Wr Go.Proofs.YtfcgfnmokbbcaaaDoor.Wi Go.Proofs.YtfcgfnmokbbcaaaDoor.In Go.Proofs.YtfcgfnmokbbcaaaDoor.Va

theorem kgin_on {W W' : World} {g : Kg} {a b c d : Value} (h : KgIn W g a b c d) (hb : Below W.heap.size W W') : KgIn W' g a b c d :=
  ⟨h.kd, h.cl, h.sq, h.ow, h.nm, h.a.on hb, h.b.on hb, h.c.on hb, h.d.on hb, h.la, h.lb, h.lc, h.ld⟩
set_option maxHeartbeats 1000000 in
theorem within_big (n lo hi : Int) (w : World) (h : lo ≤ hi) (h1 : -1000000 ≤ lo) (h2 : hi ≤ 2000000000000) (_hn1 : -9223372036854775808 ≤ n) (_hn2 : n ≤ 9223372036854775807) :
    Calls Tryd.prog 20 #[.int .i64 n, .int .i64 lo, .int .i64 hi] w fun e w' => e = .returned (.int .i64 (within n lo hi)) ∧ w = w' := by
  have hm : 0 < hi - lo + 1 := by omega
  have hm2 : hi - lo + 1 ≤ 2000001000001 := by omega
  have hb := tmod_bd n (hi - lo + 1) hm
  have P := Lib.hid (within_pos n lo hi h)
  have Q := Lib.hid (within_neg n lo hi h)
  go_enter Tryd.func20, Tryd.ntmps20
  go_wp2
  · go_ret
    exact ⟨ret_int (Q.out (by omega)), rfl⟩
  · go_ret
    exact ⟨ret_int (P.out (by omega)), rfl⟩
/-- Where a fault came from: a row of that one text. -/
theorem wtrace_ok {w : World} {v : Value} {r : Int} (h : WFault w v r) (hg : GE w) : Calls Tryd.prog 24 #[v] w fun e w' => (∃ g c, e = .returned (.slice (some ⟨g, 0, none⟩) 1 c) ∧ w'.cell? ⟨g, 0, none⟩ = some (.string wireTxt)) ∧ Below w.heap.size w w' := by
  obtain ⟨b, hc⟩ := h.ch
  refine (Fa.Trace_E _ v 1 w hg.eg hc (by unfold Fa.Falls; exact List.pairwise_singleton _ _) (by simp)).mono ?_
  rintro e w' ⟨s, rfl, hown, hb⟩
  obtain ⟨g, cap, rfl⟩ := Fa.row_form (n := 0) hown
  have h1 := hown.cellAt 0 (by simp)
  exact ⟨⟨g, cap, rfl, by simpa using h1⟩, hb⟩
theorem same_one {w : World} {g c : Nat} (h : w.cell? ⟨g, 0, none⟩ = some (.string wireTxt)) :
    Calls Tryd.prog 23 #[.slice (some ⟨g, 0, none⟩) 1 c, .slice (some ⟨w.heap.size, 0, none⟩) 1 1] (w.alloc (.cells #[.string wireTxt] 9)) fun e w' => e = .returned (.bool true) ∧ Below (w.alloc (.cells #[.string wireTxt] 9)).heap.size (w.alloc (.cells #[.string wireTxt] 9)) w' :=
  Fa.Same_true [wireTxt] g w.heap.size c 1 _ (by simp)
    (by
      intro j hj
      rw [World.cell?_alloc_lt _ _ ⟨g, j, none⟩ (Fa.lt_of_cell h)]
      match j, hj with
      | 0, _ => exact h)
    (by
      intro j hj
      rw [World.cell?_alloc_at _ _ _ _ rfl]
      match j, hj with
      | 0, _ => rfl)
theorem set_size (W : World) (a : Addr) (x : Value) : (W.setCell a x).heap.size = W.heap.size := by simp [World.setCell]
theorem litC_set (W : World) (a : Addr) (x : Value) (c : C5) (cs : Array Value) (hc : cs.toList = cells5 c) : RowC ((W.setCell a x).alloc (.cells cs 57)) (.slice (some ⟨W.heap.size, 0, none⟩) 1 1) [c] := by
  have h := row_lit okC (W.setCell a x) [c] 1 rfl (by simp) cs (by rw [hc]; simp [flat, EC])
  rw [set_size] at h
  exact Row.of_own h
theorem litA_set (W : World) (a : Addr) (x : Value) (c : A4) (cs : Array Value) (hc : cs.toList = cellsA c) : RowA ((W.setCell a x).alloc (.cells cs 61)) (.slice (some ⟨W.heap.size, 0, none⟩) 1 1) [c] := by
  have h := row_lit okA (W.setCell a x) [c] 1 rfl (by simp) cs (by rw [hc]; simp [flat, EA])
  rw [set_size] at h
  exact row_EA.2 (Row.of_own h)
theorem rightM_id {m : Mg} (h : rightI m.tc m.ts = false) : rightM m = false := by
  unfold rightM
  rw [h, Bool.false_and]
theorem turn_kind {k tc ts ic is : Int} {p : List C5} {l : List A4} (h : 6 ≤ k) : rightM ⟨k, tc, ts, ic, is, p, l⟩ = false := by
  unfold rightM
  simp only
  rw [if_neg (by omega), if_neg (by omega), if_neg (by omega), if_neg (by omega), if_neg (by omega), Bool.and_false]
theorem turn_p {tc ts ic is : Int} {c : C5} {l : List A4} : rightM ⟨5, tc, ts, ic, is, [c], l⟩ = false := by simp [rightM]
theorem turn_l {k tc ts ic is : Int} {p : List C5} {a : A4} (h : k ≠ 5) : rightM ⟨k, tc, ts, ic, is, p, [a]⟩ = false := by
  unfold rightM
  simp [h]
theorem turn_i3 {k tc ts ic is : Int} {p : List C5} {l : List A4} (hk : 3 ≤ k) (h : is < 0) : rightM ⟨k, tc, ts, ic, is, p, l⟩ = false := by
  have h1 : rightI ic is = false := by unfold rightI; simp; omega
  unfold rightM
  simp only [h1]
  rw [if_neg (by omega), if_neg (by omega)]
  simp
theorem turn_i1 {k tc ts ic is : Int} {p : List C5} {l : List A4} (hk : k < 3) (h : is ≠ 0) : rightM ⟨k, tc, ts, ic, is, p, l⟩ = false := by
  unfold rightM
  simp only [decide_eq_false h]
  rw [if_neg (show ¬ k = 3 by omega), if_neg (show ¬ k = 4 by omega), if_neg (show ¬ k = 5 by omega)]
  simp
set_option maxRecDepth 100000 in
set_option maxHeartbeats 16000000 in
theorem turned_any (g : Kg) (ga gb gc gd : Value) (what n : Int) (w : World) (hg : Fa.EG w) (h : KgIn w g ga gb gc gd) (hw : I64 what) (hn : I64 n) :
    Calls Tryd.prog 7 #[kgv g ga gb gc gd, .int .i64 what, .int .i64 n] w fun e w' => e = .returned (.bool true) ∧ Below w.heap.size w w' := by
  have B0 := Lib.hid (new_below w (.cells #[.int .i64 g.kd, .int .i64 g.cl, .int .i64 g.sq, .int .i64 g.ow, .int .i64 g.nm, ga, gb, gc, gd] 42))
  have MG := Lib.hid (message_any g ga gb gc gd (w.alloc (.cells #[.int .i64 g.kd, .int .i64 g.cl, .int .i64 g.sq, .int .i64 g.ow, .int .i64 g.nm, ga, gb, gc, gd] 42)) (kgin_on h B0.out))
  have G0 := Lib.hid (GE.mk hg)
  have FT := Lib.hid (kg_fit g)
  obtain ⟨ao, ac, rfl⟩ := h.a.shape
  obtain ⟨bo, bc, rfl⟩ := h.b.shape
  obtain ⟨co, cc, rfl⟩ := h.c.shape
  obtain ⟨do_, dc, rfl⟩ := h.d.shape
  have WN := Lib.hid (fun W => within_big n 0 1099511627776 W (by omega) (by omega) (by omega) hn.1 hn.2)
  have WW := Lib.hid (fun W => within_big what 0 5 W (by omega) (by omega) (by omega) hw.1 hw.2)
  have bn := within_bd n 0 1099511627776 (by omega)
  have bw := within_bd what 0 5 (by omega)
  clear hg h hw hn
  generalize within n 0 1099511627776 = y at *
  generalize within what 0 5 = s at *
  generalize g.m = m at *
  go_enter Tryd.func7, Tryd.ntmps7
  go_wp2_with fail
  refine MG.out.mono ?_
  rintro e1 w1 ⟨⟨pv, lv, rfl, hin⟩, hb⟩
  have B1 := Lib.hid (B0.out.trans (hb.mono B0.out.size))
  obtain ⟨k, tc, ts, ic, is, p, l⟩ := m
  obtain ⟨po, pc, rfl⟩ := hin.p.len
  obtain ⟨lo, lc, rfl⟩ := hin.l.len
  have IN1 := Lib.hid hin
  have BW := Lib.hid (new_below w1 (.cells (mcells ⟨k, tc, ts, ic, is, p, l⟩ (.slice po p.length pc) (.slice lo l.length lc)) 32))
  have X2 := Lib.hid (box_new w1 (mcells ⟨k, tc, ts, ic, is, p, l⟩ (.slice po p.length pc) (.slice lo l.length lc)) 32)
  have B2 := Lib.hid (B1.out.trans ((new_below w1 (.cells (mcells ⟨k, tc, ts, ic, is, p, l⟩ (.slice po p.length pc) (.slice lo l.length lc)) 32)).mono B1.out.size))
  have SM := Lib.hid FT.out.small
  have L5 := Lib.hid (show l.length ≤ 5 from FT.out.l5)
  have M1 := Lib.hid B1.out.size
  clear hin hb MG B0 B1 FT
  go_wp2_with fail
  refine (WN.out _).mono ?_
  rintro e2 w2 ⟨rfl, rfl⟩
  go_wp2_with fail
  refine (WW.out _).mono ?_
  rintro e3 w3 ⟨rfl, rfl⟩
  obtain ⟨by_, hby⟩ : ∃ b : Int, 1 + y = b := ⟨_, rfl⟩
  rw [hby]
  have hy1 : 1 ≤ by_ := by omega
  have hy2 : by_ ≤ 1099511627777 := by omega
  have HBY := Lib.hid hby
  clear hby WN WW bn
  generalize hW2 : w1.alloc (.cells (mcells ⟨k, tc, ts, ic, is, p, l⟩ (.slice po p.length pc) (.slice lo l.length lc)) 32) = W2 at *
  have HW2 := Lib.hid hW2
  have S2 := Lib.hid (show w1.heap.size < W2.heap.size by rw [← hW2]; simp)
  clear hW2
  have hs6 : s = 0 ∨ s = 1 ∨ s = 2 ∨ s = 3 ∨ s = 4 ∨ s = 5 := by omega
  clear bw
  have XX := X2.out
  have x0 := XX.cell 0
  have x1 := XX.cell 1
  have x2 := XX.cell 2
  have x3 := XX.cell 3
  have x4 := XX.cell 4
  have x5 := XX.cell 5
  have x6 := XX.cell 6
  have y0 := XX.fr 0
  have y1 := XX.fr 1
  have y2 := XX.fr 2
  have y3 := XX.fr 3
  have y4 := XX.fr 4
  have y5 := XX.fr 5
  have y6 := XX.fr 6
  have z := XX.lt
  simp only [List.getElem?_toArray, List.getElem?_cons_zero, List.getElem?_cons_succ] at x0 x1 x2 x3 x4 x5 x6
  clear XX
  rcases hs6 with rfl | rfl | rfl | rfl | rfl | rfl
  · have X3 := Lib.hid (show Box (W2.setCell ⟨w1.heap.size, 0, none⟩ (.int .i64 (5 + by_))) w1.heap.size (mcells ⟨5 + by_, tc, ts, ic, is, p, l⟩ (.slice po p.length pc) (.slice lo l.length lc)) 32 from box_set (k := 0) X2.out _)
    have I3 := Lib.hid (show MgIn (W2.setCell ⟨w1.heap.size, 0, none⟩ (.int .i64 (5 + by_))) ⟨5 + by_, tc, ts, ic, is, p, l⟩ (.slice po p.length pc) (.slice lo l.length lc) from ⟨IN1.out.p.on (BW.out.setCell (Nat.le_refl _) _), IN1.out.l.on (BW.out.setCell (Nat.le_refl _) _)⟩)
    have B3 := Lib.hid (show Below w.heap.size w (W2.setCell ⟨w1.heap.size, 0, none⟩ (.int .i64 (5 + by_))) from B2.out.setCell M1.out _)
    have S3 := Lib.hid (show Small ⟨5 + by_, tc, ts, ic, is, p, l⟩ from ⟨SM.out.p, SM.out.l, SM.out.ps, SM.out.ls⟩)
    have R3 := Lib.hid (show rightM ⟨5 + by_, tc, ts, ic, is, p, l⟩ = false from turn_kind (by omega))
    have L3 := Lib.hid (show (l).length ≤ 1000 from by first | (simp; done) | (have := L5.out; omega))
    go_upto_region 19 with fail
    clear x0 y0 x1 y1 x2 y2 x3 y3 x4 y4 x5 y5 x6 y6 z X2 B2 BW IN1
    generalize (W2.setCell ⟨w1.heap.size, 0, none⟩ (.int .i64 (5 + by_))) = W9 at *
    have XX := X3.out
    have x0 := XX.cell 0
    have x1 := XX.cell 1
    have x2 := XX.cell 2
    have x3 := XX.cell 3
    have x4 := XX.cell 4
    have x5 := XX.cell 5
    have x6 := XX.cell 6
    have y0 := XX.fr 0
    have y1 := XX.fr 1
    have y2 := XX.fr 2
    have y3 := XX.fr 3
    have y4 := XX.fr 4
    have y5 := XX.fr 5
    have y6 := XX.fr 6
    have z := XX.lt
    simp only [List.getElem?_toArray, List.getElem?_cons_zero, List.getElem?_cons_succ] at x0 x1 x2 x3 x4 x5 x6
    clear XX
    have EC := Lib.hid (enc_no ⟨5 + by_, tc, ts, ic, is, p, l⟩ _ _ W9 I3.out S3.out L3.out R3.out)
    go_wp2_with fail
    refine EC.out.mono ?_
    rintro e10 w10 ⟨⟨v10, rfl, hf⟩, hb⟩
    have X10 := Lib.hid (X3.out.on hb)
    have I10 := Lib.hid (I3.out.on hb)
    have B10 := Lib.hid (B3.out.trans (hb.mono B3.out.size))
    have F10 := Lib.hid hf
    obtain ⟨f10, rfl, _⟩ := hf.ch
    have RC := Lib.hid (wright_any ⟨5 + by_, tc, ts, ic, is, p, l⟩ _ _ w10 I10.out S3.out L3.out)
    rw [R3.out] at RC
    clear hf hb EC X3 I3 B3 x0 y0 x1 y1 x2 y2 x3 y3 x4 y4 x5 y5 x6 y6 z
    have XX := X10.out
    have x0 := XX.cell 0
    have x1 := XX.cell 1
    have x2 := XX.cell 2
    have x3 := XX.cell 3
    have x4 := XX.cell 4
    have x5 := XX.cell 5
    have x6 := XX.cell 6
    have y0 := XX.fr 0
    have y1 := XX.fr 1
    have y2 := XX.fr 2
    have y3 := XX.fr 3
    have y4 := XX.fr 4
    have y5 := XX.fr 5
    have y6 := XX.fr 6
    have z := XX.lt
    simp only [List.getElem?_toArray, List.getElem?_cons_zero, List.getElem?_cons_succ] at x0 x1 x2 x3 x4 x5 x6
    clear XX
    go_wp2_with fail
    refine RC.out.mono ?_
    rintro e11 w11 ⟨rfl, hb⟩
    have B11 := Lib.hid (B10.out.trans (hb.mono B10.out.size))
    have F11 := Lib.hid (F10.out.on hb)
    have KD := Lib.hid (wkind_ok F11.out (G0.out.on B11.out))
    clear hb RC X10 I10 B10 F10 x0 y0 x1 y1 x2 y2 x3 y3 x4 y4 x5 y5 x6 y6 z
    go_wp2_with fail
    refine KD.out.mono ?_
    rintro e12 w12 ⟨rfl, hb⟩
    have B12 := Lib.hid (B11.out.trans (hb.mono B11.out.size))
    have F12 := Lib.hid (F11.out.on hb)
    have EQ := eqE 1 1 w12 true rfl
    have TR := Lib.hid (wtrace_ok F12.out (G0.out.on B12.out))
    clear hb KD B11 F11
    go_wp2_with fail
    refine TR.out.mono ?_
    rintro e13 w13 ⟨⟨fg, fc, rfl, hc⟩, hb⟩
    have B13 := Lib.hid (B12.out.trans (hb.mono B12.out.size))
    have SO := Lib.hid (same_one (c := fc) hc)
    have B14 := Lib.hid (B13.out.trans ((new_below w13 (.cells #[.string wireTxt] 9)).mono B13.out.size))
    clear hb hc TR B12 F12 EQ
    go_wp2_with fail
    refine SO.out.mono ?_
    rintro e15 w15 ⟨rfl, hb⟩
    have B15 := Lib.hid (B14.out.trans (hb.mono B14.out.size))
    have RU := Lib.hid (runs_any w15 (G0.out.on B15.out).eg)
    clear hb SO B14 B13
    go_wp2_with fail
    refine RU.out.mono ?_
    rintro e16 w16 ⟨rfl, hb⟩
    have B16 := Lib.hid (B15.out.trans (hb.mono B15.out.size))
    clear hb RU B15
    go_wp2_with fail
    go_ret
    exact ⟨rfl, B16.out⟩
  · have X3 := Lib.hid (show Box (W2.setCell ⟨w1.heap.size, 1, none⟩ (.int .i64 (-by_))) w1.heap.size (mcells ⟨k, -by_, ts, ic, is, p, l⟩ (.slice po p.length pc) (.slice lo l.length lc)) 32 from box_set (k := 1) X2.out _)
    have I3 := Lib.hid (show MgIn (W2.setCell ⟨w1.heap.size, 1, none⟩ (.int .i64 (-by_))) ⟨k, -by_, ts, ic, is, p, l⟩ (.slice po p.length pc) (.slice lo l.length lc) from ⟨IN1.out.p.on (BW.out.setCell (Nat.le_refl _) _), IN1.out.l.on (BW.out.setCell (Nat.le_refl _) _)⟩)
    have B3 := Lib.hid (show Below w.heap.size w (W2.setCell ⟨w1.heap.size, 1, none⟩ (.int .i64 (-by_))) from B2.out.setCell M1.out _)
    have S3 := Lib.hid (show Small ⟨k, -by_, ts, ic, is, p, l⟩ from ⟨SM.out.p, SM.out.l, SM.out.ps, SM.out.ls⟩)
    have R3 := Lib.hid (show rightM ⟨k, -by_, ts, ic, is, p, l⟩ = false from rightM_id (by unfold rightI; simp; omega))
    have L3 := Lib.hid (show (l).length ≤ 1000 from by first | (simp; done) | (have := L5.out; omega))
    go_upto_region 19 with fail
    clear x0 y0 x1 y1 x2 y2 x3 y3 x4 y4 x5 y5 x6 y6 z X2 B2 BW IN1
    generalize (W2.setCell ⟨w1.heap.size, 1, none⟩ (.int .i64 (-by_))) = W9 at *
    have XX := X3.out
    have x0 := XX.cell 0
    have x1 := XX.cell 1
    have x2 := XX.cell 2
    have x3 := XX.cell 3
    have x4 := XX.cell 4
    have x5 := XX.cell 5
    have x6 := XX.cell 6
    have y0 := XX.fr 0
    have y1 := XX.fr 1
    have y2 := XX.fr 2
    have y3 := XX.fr 3
    have y4 := XX.fr 4
    have y5 := XX.fr 5
    have y6 := XX.fr 6
    have z := XX.lt
    simp only [List.getElem?_toArray, List.getElem?_cons_zero, List.getElem?_cons_succ] at x0 x1 x2 x3 x4 x5 x6
    clear XX
    have EC := Lib.hid (enc_no ⟨k, -by_, ts, ic, is, p, l⟩ _ _ W9 I3.out S3.out L3.out R3.out)
    go_wp2_with fail
    refine EC.out.mono ?_
    rintro e10 w10 ⟨⟨v10, rfl, hf⟩, hb⟩
    have X10 := Lib.hid (X3.out.on hb)
    have I10 := Lib.hid (I3.out.on hb)
    have B10 := Lib.hid (B3.out.trans (hb.mono B3.out.size))
    have F10 := Lib.hid hf
    obtain ⟨f10, rfl, _⟩ := hf.ch
    have RC := Lib.hid (wright_any ⟨k, -by_, ts, ic, is, p, l⟩ _ _ w10 I10.out S3.out L3.out)
    rw [R3.out] at RC
    clear hf hb EC X3 I3 B3 x0 y0 x1 y1 x2 y2 x3 y3 x4 y4 x5 y5 x6 y6 z
    have XX := X10.out
    have x0 := XX.cell 0
    have x1 := XX.cell 1
    have x2 := XX.cell 2
    have x3 := XX.cell 3
    have x4 := XX.cell 4
    have x5 := XX.cell 5
    have x6 := XX.cell 6
    have y0 := XX.fr 0
    have y1 := XX.fr 1
    have y2 := XX.fr 2
    have y3 := XX.fr 3
    have y4 := XX.fr 4
    have y5 := XX.fr 5
    have y6 := XX.fr 6
    have z := XX.lt
    simp only [List.getElem?_toArray, List.getElem?_cons_zero, List.getElem?_cons_succ] at x0 x1 x2 x3 x4 x5 x6
    clear XX
    go_wp2_with fail
    refine RC.out.mono ?_
    rintro e11 w11 ⟨rfl, hb⟩
    have B11 := Lib.hid (B10.out.trans (hb.mono B10.out.size))
    have F11 := Lib.hid (F10.out.on hb)
    have KD := Lib.hid (wkind_ok F11.out (G0.out.on B11.out))
    clear hb RC X10 I10 B10 F10 x0 y0 x1 y1 x2 y2 x3 y3 x4 y4 x5 y5 x6 y6 z
    go_wp2_with fail
    refine KD.out.mono ?_
    rintro e12 w12 ⟨rfl, hb⟩
    have B12 := Lib.hid (B11.out.trans (hb.mono B11.out.size))
    have F12 := Lib.hid (F11.out.on hb)
    have EQ := eqE 1 1 w12 true rfl
    have TR := Lib.hid (wtrace_ok F12.out (G0.out.on B12.out))
    clear hb KD B11 F11
    go_wp2_with fail
    refine TR.out.mono ?_
    rintro e13 w13 ⟨⟨fg, fc, rfl, hc⟩, hb⟩
    have B13 := Lib.hid (B12.out.trans (hb.mono B12.out.size))
    have SO := Lib.hid (same_one (c := fc) hc)
    have B14 := Lib.hid (B13.out.trans ((new_below w13 (.cells #[.string wireTxt] 9)).mono B13.out.size))
    clear hb hc TR B12 F12 EQ
    go_wp2_with fail
    refine SO.out.mono ?_
    rintro e15 w15 ⟨rfl, hb⟩
    have B15 := Lib.hid (B14.out.trans (hb.mono B14.out.size))
    have RU := Lib.hid (runs_any w15 (G0.out.on B15.out).eg)
    clear hb SO B14 B13
    go_wp2_with fail
    refine RU.out.mono ?_
    rintro e16 w16 ⟨rfl, hb⟩
    have B16 := Lib.hid (B15.out.trans (hb.mono B15.out.size))
    clear hb RU B15
    go_wp2_with fail
    go_ret
    exact ⟨rfl, B16.out⟩
  · have X3 := Lib.hid (show Box (W2.setCell ⟨w1.heap.size, 1, none⟩ (.int .i64 (31 + by_))) w1.heap.size (mcells ⟨k, 31 + by_, ts, ic, is, p, l⟩ (.slice po p.length pc) (.slice lo l.length lc)) 32 from box_set (k := 1) X2.out _)
    have I3 := Lib.hid (show MgIn (W2.setCell ⟨w1.heap.size, 1, none⟩ (.int .i64 (31 + by_))) ⟨k, 31 + by_, ts, ic, is, p, l⟩ (.slice po p.length pc) (.slice lo l.length lc) from ⟨IN1.out.p.on (BW.out.setCell (Nat.le_refl _) _), IN1.out.l.on (BW.out.setCell (Nat.le_refl _) _)⟩)
    have B3 := Lib.hid (show Below w.heap.size w (W2.setCell ⟨w1.heap.size, 1, none⟩ (.int .i64 (31 + by_))) from B2.out.setCell M1.out _)
    have S3 := Lib.hid (show Small ⟨k, 31 + by_, ts, ic, is, p, l⟩ from ⟨SM.out.p, SM.out.l, SM.out.ps, SM.out.ls⟩)
    have R3 := Lib.hid (show rightM ⟨k, 31 + by_, ts, ic, is, p, l⟩ = false from rightM_id (by unfold rightI; simp; omega))
    have L3 := Lib.hid (show (l).length ≤ 1000 from by first | (simp; done) | (have := L5.out; omega))
    go_upto_region 19 with fail
    clear x0 y0 x1 y1 x2 y2 x3 y3 x4 y4 x5 y5 x6 y6 z X2 B2 BW IN1
    generalize (W2.setCell ⟨w1.heap.size, 1, none⟩ (.int .i64 (31 + by_))) = W9 at *
    have XX := X3.out
    have x0 := XX.cell 0
    have x1 := XX.cell 1
    have x2 := XX.cell 2
    have x3 := XX.cell 3
    have x4 := XX.cell 4
    have x5 := XX.cell 5
    have x6 := XX.cell 6
    have y0 := XX.fr 0
    have y1 := XX.fr 1
    have y2 := XX.fr 2
    have y3 := XX.fr 3
    have y4 := XX.fr 4
    have y5 := XX.fr 5
    have y6 := XX.fr 6
    have z := XX.lt
    simp only [List.getElem?_toArray, List.getElem?_cons_zero, List.getElem?_cons_succ] at x0 x1 x2 x3 x4 x5 x6
    clear XX
    have EC := Lib.hid (enc_no ⟨k, 31 + by_, ts, ic, is, p, l⟩ _ _ W9 I3.out S3.out L3.out R3.out)
    go_wp2_with fail
    refine EC.out.mono ?_
    rintro e10 w10 ⟨⟨v10, rfl, hf⟩, hb⟩
    have X10 := Lib.hid (X3.out.on hb)
    have I10 := Lib.hid (I3.out.on hb)
    have B10 := Lib.hid (B3.out.trans (hb.mono B3.out.size))
    have F10 := Lib.hid hf
    obtain ⟨f10, rfl, _⟩ := hf.ch
    have RC := Lib.hid (wright_any ⟨k, 31 + by_, ts, ic, is, p, l⟩ _ _ w10 I10.out S3.out L3.out)
    rw [R3.out] at RC
    clear hf hb EC X3 I3 B3 x0 y0 x1 y1 x2 y2 x3 y3 x4 y4 x5 y5 x6 y6 z
    have XX := X10.out
    have x0 := XX.cell 0
    have x1 := XX.cell 1
    have x2 := XX.cell 2
    have x3 := XX.cell 3
    have x4 := XX.cell 4
    have x5 := XX.cell 5
    have x6 := XX.cell 6
    have y0 := XX.fr 0
    have y1 := XX.fr 1
    have y2 := XX.fr 2
    have y3 := XX.fr 3
    have y4 := XX.fr 4
    have y5 := XX.fr 5
    have y6 := XX.fr 6
    have z := XX.lt
    simp only [List.getElem?_toArray, List.getElem?_cons_zero, List.getElem?_cons_succ] at x0 x1 x2 x3 x4 x5 x6
    clear XX
    go_wp2_with fail
    refine RC.out.mono ?_
    rintro e11 w11 ⟨rfl, hb⟩
    have B11 := Lib.hid (B10.out.trans (hb.mono B10.out.size))
    have F11 := Lib.hid (F10.out.on hb)
    have KD := Lib.hid (wkind_ok F11.out (G0.out.on B11.out))
    clear hb RC X10 I10 B10 F10 x0 y0 x1 y1 x2 y2 x3 y3 x4 y4 x5 y5 x6 y6 z
    go_wp2_with fail
    refine KD.out.mono ?_
    rintro e12 w12 ⟨rfl, hb⟩
    have B12 := Lib.hid (B11.out.trans (hb.mono B11.out.size))
    have F12 := Lib.hid (F11.out.on hb)
    have EQ := eqE 1 1 w12 true rfl
    have TR := Lib.hid (wtrace_ok F12.out (G0.out.on B12.out))
    clear hb KD B11 F11
    go_wp2_with fail
    refine TR.out.mono ?_
    rintro e13 w13 ⟨⟨fg, fc, rfl, hc⟩, hb⟩
    have B13 := Lib.hid (B12.out.trans (hb.mono B12.out.size))
    have SO := Lib.hid (same_one (c := fc) hc)
    have B14 := Lib.hid (B13.out.trans ((new_below w13 (.cells #[.string wireTxt] 9)).mono B13.out.size))
    clear hb hc TR B12 F12 EQ
    go_wp2_with fail
    refine SO.out.mono ?_
    rintro e15 w15 ⟨rfl, hb⟩
    have B15 := Lib.hid (B14.out.trans (hb.mono B14.out.size))
    have RU := Lib.hid (runs_any w15 (G0.out.on B15.out).eg)
    clear hb SO B14 B13
    go_wp2_with fail
    refine RU.out.mono ?_
    rintro e16 w16 ⟨rfl, hb⟩
    have B16 := Lib.hid (B15.out.trans (hb.mono B15.out.size))
    clear hb RU B15
    go_wp2_with fail
    go_ret
    exact ⟨rfl, B16.out⟩
  · have X3 := Lib.hid (show Box (W2.setCell ⟨w1.heap.size, 2, none⟩ (.int .i64 (-by_))) w1.heap.size (mcells ⟨k, tc, -by_, ic, is, p, l⟩ (.slice po p.length pc) (.slice lo l.length lc)) 32 from box_set (k := 2) X2.out _)
    have I3 := Lib.hid (show MgIn (W2.setCell ⟨w1.heap.size, 2, none⟩ (.int .i64 (-by_))) ⟨k, tc, -by_, ic, is, p, l⟩ (.slice po p.length pc) (.slice lo l.length lc) from ⟨IN1.out.p.on (BW.out.setCell (Nat.le_refl _) _), IN1.out.l.on (BW.out.setCell (Nat.le_refl _) _)⟩)
    have B3 := Lib.hid (show Below w.heap.size w (W2.setCell ⟨w1.heap.size, 2, none⟩ (.int .i64 (-by_))) from B2.out.setCell M1.out _)
    have S3 := Lib.hid (show Small ⟨k, tc, -by_, ic, is, p, l⟩ from ⟨SM.out.p, SM.out.l, SM.out.ps, SM.out.ls⟩)
    have R3 := Lib.hid (show rightM ⟨k, tc, -by_, ic, is, p, l⟩ = false from rightM_id (by unfold rightI; simp; omega))
    have L3 := Lib.hid (show (l).length ≤ 1000 from by first | (simp; done) | (have := L5.out; omega))
    go_upto_region 19 with fail
    clear x0 y0 x1 y1 x2 y2 x3 y3 x4 y4 x5 y5 x6 y6 z X2 B2 BW IN1
    generalize (W2.setCell ⟨w1.heap.size, 2, none⟩ (.int .i64 (-by_))) = W9 at *
    have XX := X3.out
    have x0 := XX.cell 0
    have x1 := XX.cell 1
    have x2 := XX.cell 2
    have x3 := XX.cell 3
    have x4 := XX.cell 4
    have x5 := XX.cell 5
    have x6 := XX.cell 6
    have y0 := XX.fr 0
    have y1 := XX.fr 1
    have y2 := XX.fr 2
    have y3 := XX.fr 3
    have y4 := XX.fr 4
    have y5 := XX.fr 5
    have y6 := XX.fr 6
    have z := XX.lt
    simp only [List.getElem?_toArray, List.getElem?_cons_zero, List.getElem?_cons_succ] at x0 x1 x2 x3 x4 x5 x6
    clear XX
    have EC := Lib.hid (enc_no ⟨k, tc, -by_, ic, is, p, l⟩ _ _ W9 I3.out S3.out L3.out R3.out)
    go_wp2_with fail
    refine EC.out.mono ?_
    rintro e10 w10 ⟨⟨v10, rfl, hf⟩, hb⟩
    have X10 := Lib.hid (X3.out.on hb)
    have I10 := Lib.hid (I3.out.on hb)
    have B10 := Lib.hid (B3.out.trans (hb.mono B3.out.size))
    have F10 := Lib.hid hf
    obtain ⟨f10, rfl, _⟩ := hf.ch
    have RC := Lib.hid (wright_any ⟨k, tc, -by_, ic, is, p, l⟩ _ _ w10 I10.out S3.out L3.out)
    rw [R3.out] at RC
    clear hf hb EC X3 I3 B3 x0 y0 x1 y1 x2 y2 x3 y3 x4 y4 x5 y5 x6 y6 z
    have XX := X10.out
    have x0 := XX.cell 0
    have x1 := XX.cell 1
    have x2 := XX.cell 2
    have x3 := XX.cell 3
    have x4 := XX.cell 4
    have x5 := XX.cell 5
    have x6 := XX.cell 6
    have y0 := XX.fr 0
    have y1 := XX.fr 1
    have y2 := XX.fr 2
    have y3 := XX.fr 3
    have y4 := XX.fr 4
    have y5 := XX.fr 5
    have y6 := XX.fr 6
    have z := XX.lt
    simp only [List.getElem?_toArray, List.getElem?_cons_zero, List.getElem?_cons_succ] at x0 x1 x2 x3 x4 x5 x6
    clear XX
    go_wp2_with fail
    refine RC.out.mono ?_
    rintro e11 w11 ⟨rfl, hb⟩
    have B11 := Lib.hid (B10.out.trans (hb.mono B10.out.size))
    have F11 := Lib.hid (F10.out.on hb)
    have KD := Lib.hid (wkind_ok F11.out (G0.out.on B11.out))
    clear hb RC X10 I10 B10 F10 x0 y0 x1 y1 x2 y2 x3 y3 x4 y4 x5 y5 x6 y6 z
    go_wp2_with fail
    refine KD.out.mono ?_
    rintro e12 w12 ⟨rfl, hb⟩
    have B12 := Lib.hid (B11.out.trans (hb.mono B11.out.size))
    have F12 := Lib.hid (F11.out.on hb)
    have EQ := eqE 1 1 w12 true rfl
    have TR := Lib.hid (wtrace_ok F12.out (G0.out.on B12.out))
    clear hb KD B11 F11
    go_wp2_with fail
    refine TR.out.mono ?_
    rintro e13 w13 ⟨⟨fg, fc, rfl, hc⟩, hb⟩
    have B13 := Lib.hid (B12.out.trans (hb.mono B12.out.size))
    have SO := Lib.hid (same_one (c := fc) hc)
    have B14 := Lib.hid (B13.out.trans ((new_below w13 (.cells #[.string wireTxt] 9)).mono B13.out.size))
    clear hb hc TR B12 F12 EQ
    go_wp2_with fail
    refine SO.out.mono ?_
    rintro e15 w15 ⟨rfl, hb⟩
    have B15 := Lib.hid (B14.out.trans (hb.mono B14.out.size))
    have RU := Lib.hid (runs_any w15 (G0.out.on B15.out).eg)
    clear hb SO B14 B13
    go_wp2_with fail
    refine RU.out.mono ?_
    rintro e16 w16 ⟨rfl, hb⟩
    have B16 := Lib.hid (B15.out.trans (hb.mono B15.out.size))
    clear hb RU B15
    go_wp2_with fail
    go_ret
    exact ⟨rfl, B16.out⟩
  · by_cases hk : k = 5
    · have hk5 : k = 5 := hk
      subst hk5
      clear hk
      have X3 := Lib.hid (show Box ((W2.setCell ⟨w1.heap.size, 5, none⟩ (.slice (some ⟨W2.heap.size, 0, none⟩) 1 1)).alloc (.cells #[.string ⟨#[97]⟩, .int .i64 3, .int .i64 0, .int .i64 0, .string ⟨#[]⟩] 57)) w1.heap.size (mcells ⟨5, tc, ts, ic, is, [((⟨#[97]⟩, 3, 0, 0, ⟨#[]⟩) : C5)], l⟩ (.slice (some ⟨W2.heap.size, 0, none⟩) 1 1) (.slice lo l.length lc)) 32 from (box_set (k := 5) X2.out _).more _)
      have I3 := Lib.hid (show MgIn ((W2.setCell ⟨w1.heap.size, 5, none⟩ (.slice (some ⟨W2.heap.size, 0, none⟩) 1 1)).alloc (.cells #[.string ⟨#[97]⟩, .int .i64 3, .int .i64 0, .int .i64 0, .string ⟨#[]⟩] 57)) ⟨5, tc, ts, ic, is, [((⟨#[97]⟩, 3, 0, 0, ⟨#[]⟩) : C5)], l⟩ (.slice (some ⟨W2.heap.size, 0, none⟩) 1 1) (.slice lo l.length lc) from ⟨litC_set W2 _ _ ((⟨#[97]⟩, 3, 0, 0, ⟨#[]⟩) : C5) _ rfl, IN1.out.l.on ((BW.out.setCell (Nat.le_refl _) _).alloc (by rw [set_size]; have := S2.out; omega) _)⟩)
      have B3 := Lib.hid (show Below w.heap.size w ((W2.setCell ⟨w1.heap.size, 5, none⟩ (.slice (some ⟨W2.heap.size, 0, none⟩) 1 1)).alloc (.cells #[.string ⟨#[97]⟩, .int .i64 3, .int .i64 0, .int .i64 0, .string ⟨#[]⟩] 57)) from (B2.out.setCell M1.out _).alloc (by rw [set_size]; exact B2.out.size) _)
      have S3 := Lib.hid (show Small ⟨5, tc, ts, ic, is, [((⟨#[97]⟩, 3, 0, 0, ⟨#[]⟩) : C5)], l⟩ from ⟨by simp, SM.out.l, fun x hx => by rw [List.mem_singleton] at hx; subst hx; unfold maxLen; exact ⟨by decide, by decide⟩, SM.out.ls⟩)
      have R3 := Lib.hid (show rightM ⟨5, tc, ts, ic, is, [((⟨#[97]⟩, 3, 0, 0, ⟨#[]⟩) : C5)], l⟩ = false from turn_p)
      have L3 := Lib.hid (show (l).length ≤ 1000 from by first | (simp; done) | (have := L5.out; omega))
      go_upto_region 19 with fail
      clear x0 y0 x1 y1 x2 y2 x3 y3 x4 y4 x5 y5 x6 y6 z X2 B2 BW IN1
      generalize ((W2.setCell ⟨w1.heap.size, 5, none⟩ (.slice (some ⟨W2.heap.size, 0, none⟩) 1 1)).alloc (.cells #[.string ⟨#[97]⟩, .int .i64 3, .int .i64 0, .int .i64 0, .string ⟨#[]⟩] 57)) = W9 at *
      have XX := X3.out
      have x0 := XX.cell 0
      have x1 := XX.cell 1
      have x2 := XX.cell 2
      have x3 := XX.cell 3
      have x4 := XX.cell 4
      have x5 := XX.cell 5
      have x6 := XX.cell 6
      have y0 := XX.fr 0
      have y1 := XX.fr 1
      have y2 := XX.fr 2
      have y3 := XX.fr 3
      have y4 := XX.fr 4
      have y5 := XX.fr 5
      have y6 := XX.fr 6
      have z := XX.lt
      simp only [List.getElem?_toArray, List.getElem?_cons_zero, List.getElem?_cons_succ] at x0 x1 x2 x3 x4 x5 x6
      clear XX
      have EC := Lib.hid (enc_no ⟨5, tc, ts, ic, is, [((⟨#[97]⟩, 3, 0, 0, ⟨#[]⟩) : C5)], l⟩ _ _ W9 I3.out S3.out L3.out R3.out)
      go_wp2_with fail
      refine EC.out.mono ?_
      rintro e10 w10 ⟨⟨v10, rfl, hf⟩, hb⟩
      have X10 := Lib.hid (X3.out.on hb)
      have I10 := Lib.hid (I3.out.on hb)
      have B10 := Lib.hid (B3.out.trans (hb.mono B3.out.size))
      have F10 := Lib.hid hf
      obtain ⟨f10, rfl, _⟩ := hf.ch
      have RC := Lib.hid (wright_any ⟨5, tc, ts, ic, is, [((⟨#[97]⟩, 3, 0, 0, ⟨#[]⟩) : C5)], l⟩ _ _ w10 I10.out S3.out L3.out)
      rw [R3.out] at RC
      clear hf hb EC X3 I3 B3 x0 y0 x1 y1 x2 y2 x3 y3 x4 y4 x5 y5 x6 y6 z
      have XX := X10.out
      have x0 := XX.cell 0
      have x1 := XX.cell 1
      have x2 := XX.cell 2
      have x3 := XX.cell 3
      have x4 := XX.cell 4
      have x5 := XX.cell 5
      have x6 := XX.cell 6
      have y0 := XX.fr 0
      have y1 := XX.fr 1
      have y2 := XX.fr 2
      have y3 := XX.fr 3
      have y4 := XX.fr 4
      have y5 := XX.fr 5
      have y6 := XX.fr 6
      have z := XX.lt
      simp only [List.getElem?_toArray, List.getElem?_cons_zero, List.getElem?_cons_succ] at x0 x1 x2 x3 x4 x5 x6
      clear XX
      go_wp2_with fail
      refine RC.out.mono ?_
      rintro e11 w11 ⟨rfl, hb⟩
      have B11 := Lib.hid (B10.out.trans (hb.mono B10.out.size))
      have F11 := Lib.hid (F10.out.on hb)
      have KD := Lib.hid (wkind_ok F11.out (G0.out.on B11.out))
      clear hb RC X10 I10 B10 F10 x0 y0 x1 y1 x2 y2 x3 y3 x4 y4 x5 y5 x6 y6 z
      go_wp2_with fail
      refine KD.out.mono ?_
      rintro e12 w12 ⟨rfl, hb⟩
      have B12 := Lib.hid (B11.out.trans (hb.mono B11.out.size))
      have F12 := Lib.hid (F11.out.on hb)
      have EQ := eqE 1 1 w12 true rfl
      have TR := Lib.hid (wtrace_ok F12.out (G0.out.on B12.out))
      clear hb KD B11 F11
      go_wp2_with fail
      refine TR.out.mono ?_
      rintro e13 w13 ⟨⟨fg, fc, rfl, hc⟩, hb⟩
      have B13 := Lib.hid (B12.out.trans (hb.mono B12.out.size))
      have SO := Lib.hid (same_one (c := fc) hc)
      have B14 := Lib.hid (B13.out.trans ((new_below w13 (.cells #[.string wireTxt] 9)).mono B13.out.size))
      clear hb hc TR B12 F12 EQ
      go_wp2_with fail
      refine SO.out.mono ?_
      rintro e15 w15 ⟨rfl, hb⟩
      have B15 := Lib.hid (B14.out.trans (hb.mono B14.out.size))
      have RU := Lib.hid (runs_any w15 (G0.out.on B15.out).eg)
      clear hb SO B14 B13
      go_wp2_with fail
      refine RU.out.mono ?_
      rintro e16 w16 ⟨rfl, hb⟩
      have B16 := Lib.hid (B15.out.trans (hb.mono B15.out.size))
      clear hb RU B15
      go_wp2_with fail
      go_ret
      exact ⟨rfl, B16.out⟩
    · have HK := Lib.hid hk
      have hk5 : (k == 5) = false := by simpa using hk
      clear hk
      have X3 := Lib.hid (show Box ((W2.setCell ⟨w1.heap.size, 6, none⟩ (.slice (some ⟨W2.heap.size, 0, none⟩) 1 1)).alloc (.cells #[.string ⟨#[97]⟩, .bool false, .int .i64 0, .string ⟨#[]⟩] 61)) w1.heap.size (mcells ⟨k, tc, ts, ic, is, p, [((⟨#[97]⟩, false, 0, ⟨#[]⟩) : A4)]⟩ (.slice po p.length pc) (.slice (some ⟨W2.heap.size, 0, none⟩) 1 1)) 32 from (box_set (k := 6) X2.out _).more _)
      have I3 := Lib.hid (show MgIn ((W2.setCell ⟨w1.heap.size, 6, none⟩ (.slice (some ⟨W2.heap.size, 0, none⟩) 1 1)).alloc (.cells #[.string ⟨#[97]⟩, .bool false, .int .i64 0, .string ⟨#[]⟩] 61)) ⟨k, tc, ts, ic, is, p, [((⟨#[97]⟩, false, 0, ⟨#[]⟩) : A4)]⟩ (.slice po p.length pc) (.slice (some ⟨W2.heap.size, 0, none⟩) 1 1) from ⟨IN1.out.p.on ((BW.out.setCell (Nat.le_refl _) _).alloc (by rw [set_size]; have := S2.out; omega) _), litA_set W2 _ _ ((⟨#[97]⟩, false, 0, ⟨#[]⟩) : A4) _ rfl⟩)
      have B3 := Lib.hid (show Below w.heap.size w ((W2.setCell ⟨w1.heap.size, 6, none⟩ (.slice (some ⟨W2.heap.size, 0, none⟩) 1 1)).alloc (.cells #[.string ⟨#[97]⟩, .bool false, .int .i64 0, .string ⟨#[]⟩] 61)) from (B2.out.setCell M1.out _).alloc (by rw [set_size]; exact B2.out.size) _)
      have S3 := Lib.hid (show Small ⟨k, tc, ts, ic, is, p, [((⟨#[97]⟩, false, 0, ⟨#[]⟩) : A4)]⟩ from ⟨SM.out.p, by simp, SM.out.ps, fun x hx => by rw [List.mem_singleton] at hx; subst hx; unfold maxLen; exact ⟨by decide, by decide⟩⟩)
      have R3 := Lib.hid (show rightM ⟨k, tc, ts, ic, is, p, [((⟨#[97]⟩, false, 0, ⟨#[]⟩) : A4)]⟩ = false from turn_l HK.out)
      have L3 := Lib.hid (show ([((⟨#[97]⟩, false, 0, ⟨#[]⟩) : A4)]).length ≤ 1000 from by first | (simp; done) | (have := L5.out; omega))
      go_upto_region 19 with fail
      clear x0 y0 x1 y1 x2 y2 x3 y3 x4 y4 x5 y5 x6 y6 z X2 B2 BW IN1
      generalize ((W2.setCell ⟨w1.heap.size, 6, none⟩ (.slice (some ⟨W2.heap.size, 0, none⟩) 1 1)).alloc (.cells #[.string ⟨#[97]⟩, .bool false, .int .i64 0, .string ⟨#[]⟩] 61)) = W9 at *
      have XX := X3.out
      have x0 := XX.cell 0
      have x1 := XX.cell 1
      have x2 := XX.cell 2
      have x3 := XX.cell 3
      have x4 := XX.cell 4
      have x5 := XX.cell 5
      have x6 := XX.cell 6
      have y0 := XX.fr 0
      have y1 := XX.fr 1
      have y2 := XX.fr 2
      have y3 := XX.fr 3
      have y4 := XX.fr 4
      have y5 := XX.fr 5
      have y6 := XX.fr 6
      have z := XX.lt
      simp only [List.getElem?_toArray, List.getElem?_cons_zero, List.getElem?_cons_succ] at x0 x1 x2 x3 x4 x5 x6
      clear XX
      have EC := Lib.hid (enc_no ⟨k, tc, ts, ic, is, p, [((⟨#[97]⟩, false, 0, ⟨#[]⟩) : A4)]⟩ _ _ W9 I3.out S3.out L3.out R3.out)
      go_wp2_with fail
      refine EC.out.mono ?_
      rintro e10 w10 ⟨⟨v10, rfl, hf⟩, hb⟩
      have X10 := Lib.hid (X3.out.on hb)
      have I10 := Lib.hid (I3.out.on hb)
      have B10 := Lib.hid (B3.out.trans (hb.mono B3.out.size))
      have F10 := Lib.hid hf
      obtain ⟨f10, rfl, _⟩ := hf.ch
      have RC := Lib.hid (wright_any ⟨k, tc, ts, ic, is, p, [((⟨#[97]⟩, false, 0, ⟨#[]⟩) : A4)]⟩ _ _ w10 I10.out S3.out L3.out)
      rw [R3.out] at RC
      clear hf hb EC X3 I3 B3 x0 y0 x1 y1 x2 y2 x3 y3 x4 y4 x5 y5 x6 y6 z
      have XX := X10.out
      have x0 := XX.cell 0
      have x1 := XX.cell 1
      have x2 := XX.cell 2
      have x3 := XX.cell 3
      have x4 := XX.cell 4
      have x5 := XX.cell 5
      have x6 := XX.cell 6
      have y0 := XX.fr 0
      have y1 := XX.fr 1
      have y2 := XX.fr 2
      have y3 := XX.fr 3
      have y4 := XX.fr 4
      have y5 := XX.fr 5
      have y6 := XX.fr 6
      have z := XX.lt
      simp only [List.getElem?_toArray, List.getElem?_cons_zero, List.getElem?_cons_succ] at x0 x1 x2 x3 x4 x5 x6
      clear XX
      go_wp2_with fail
      refine RC.out.mono ?_
      rintro e11 w11 ⟨rfl, hb⟩
      have B11 := Lib.hid (B10.out.trans (hb.mono B10.out.size))
      have F11 := Lib.hid (F10.out.on hb)
      have KD := Lib.hid (wkind_ok F11.out (G0.out.on B11.out))
      clear hb RC X10 I10 B10 F10 x0 y0 x1 y1 x2 y2 x3 y3 x4 y4 x5 y5 x6 y6 z
      go_wp2_with fail
      refine KD.out.mono ?_
      rintro e12 w12 ⟨rfl, hb⟩
      have B12 := Lib.hid (B11.out.trans (hb.mono B11.out.size))
      have F12 := Lib.hid (F11.out.on hb)
      have EQ := eqE 1 1 w12 true rfl
      have TR := Lib.hid (wtrace_ok F12.out (G0.out.on B12.out))
      clear hb KD B11 F11
      go_wp2_with fail
      refine TR.out.mono ?_
      rintro e13 w13 ⟨⟨fg, fc, rfl, hc⟩, hb⟩
      have B13 := Lib.hid (B12.out.trans (hb.mono B12.out.size))
      have SO := Lib.hid (same_one (c := fc) hc)
      have B14 := Lib.hid (B13.out.trans ((new_below w13 (.cells #[.string wireTxt] 9)).mono B13.out.size))
      clear hb hc TR B12 F12 EQ
      go_wp2_with fail
      refine SO.out.mono ?_
      rintro e15 w15 ⟨rfl, hb⟩
      have B15 := Lib.hid (B14.out.trans (hb.mono B14.out.size))
      have RU := Lib.hid (runs_any w15 (G0.out.on B15.out).eg)
      clear hb SO B14 B13
      go_wp2_with fail
      refine RU.out.mono ?_
      rintro e16 w16 ⟨rfl, hb⟩
      have B16 := Lib.hid (B15.out.trans (hb.mono B15.out.size))
      clear hb RU B15
      go_wp2_with fail
      go_ret
      exact ⟨rfl, B16.out⟩
  · by_cases hk : 3 ≤ k
    · have HK := Lib.hid hk
      have X3 := Lib.hid (show Box (W2.setCell ⟨w1.heap.size, 4, none⟩ (.int .i64 (-by_))) w1.heap.size (mcells ⟨k, tc, ts, ic, -by_, p, l⟩ (.slice po p.length pc) (.slice lo l.length lc)) 32 from box_set (k := 4) X2.out _)
      have I3 := Lib.hid (show MgIn (W2.setCell ⟨w1.heap.size, 4, none⟩ (.int .i64 (-by_))) ⟨k, tc, ts, ic, -by_, p, l⟩ (.slice po p.length pc) (.slice lo l.length lc) from ⟨IN1.out.p.on (BW.out.setCell (Nat.le_refl _) _), IN1.out.l.on (BW.out.setCell (Nat.le_refl _) _)⟩)
      have B3 := Lib.hid (show Below w.heap.size w (W2.setCell ⟨w1.heap.size, 4, none⟩ (.int .i64 (-by_))) from B2.out.setCell M1.out _)
      have S3 := Lib.hid (show Small ⟨k, tc, ts, ic, -by_, p, l⟩ from ⟨SM.out.p, SM.out.l, SM.out.ps, SM.out.ls⟩)
      have R3 := Lib.hid (show rightM ⟨k, tc, ts, ic, -by_, p, l⟩ = false from turn_i3 HK.out (by omega))
      have L3 := Lib.hid (show (l).length ≤ 1000 from by first | (simp; done) | (have := L5.out; omega))
      go_upto_region 19 with fail
      clear x0 y0 x1 y1 x2 y2 x3 y3 x4 y4 x5 y5 x6 y6 z X2 B2 BW IN1
      generalize (W2.setCell ⟨w1.heap.size, 4, none⟩ (.int .i64 (-by_))) = W9 at *
      have XX := X3.out
      have x0 := XX.cell 0
      have x1 := XX.cell 1
      have x2 := XX.cell 2
      have x3 := XX.cell 3
      have x4 := XX.cell 4
      have x5 := XX.cell 5
      have x6 := XX.cell 6
      have y0 := XX.fr 0
      have y1 := XX.fr 1
      have y2 := XX.fr 2
      have y3 := XX.fr 3
      have y4 := XX.fr 4
      have y5 := XX.fr 5
      have y6 := XX.fr 6
      have z := XX.lt
      simp only [List.getElem?_toArray, List.getElem?_cons_zero, List.getElem?_cons_succ] at x0 x1 x2 x3 x4 x5 x6
      clear XX
      have EC := Lib.hid (enc_no ⟨k, tc, ts, ic, -by_, p, l⟩ _ _ W9 I3.out S3.out L3.out R3.out)
      go_wp2_with fail
      refine EC.out.mono ?_
      rintro e10 w10 ⟨⟨v10, rfl, hf⟩, hb⟩
      have X10 := Lib.hid (X3.out.on hb)
      have I10 := Lib.hid (I3.out.on hb)
      have B10 := Lib.hid (B3.out.trans (hb.mono B3.out.size))
      have F10 := Lib.hid hf
      obtain ⟨f10, rfl, _⟩ := hf.ch
      have RC := Lib.hid (wright_any ⟨k, tc, ts, ic, -by_, p, l⟩ _ _ w10 I10.out S3.out L3.out)
      rw [R3.out] at RC
      clear hf hb EC X3 I3 B3 x0 y0 x1 y1 x2 y2 x3 y3 x4 y4 x5 y5 x6 y6 z
      have XX := X10.out
      have x0 := XX.cell 0
      have x1 := XX.cell 1
      have x2 := XX.cell 2
      have x3 := XX.cell 3
      have x4 := XX.cell 4
      have x5 := XX.cell 5
      have x6 := XX.cell 6
      have y0 := XX.fr 0
      have y1 := XX.fr 1
      have y2 := XX.fr 2
      have y3 := XX.fr 3
      have y4 := XX.fr 4
      have y5 := XX.fr 5
      have y6 := XX.fr 6
      have z := XX.lt
      simp only [List.getElem?_toArray, List.getElem?_cons_zero, List.getElem?_cons_succ] at x0 x1 x2 x3 x4 x5 x6
      clear XX
      go_wp2_with fail
      refine RC.out.mono ?_
      rintro e11 w11 ⟨rfl, hb⟩
      have B11 := Lib.hid (B10.out.trans (hb.mono B10.out.size))
      have F11 := Lib.hid (F10.out.on hb)
      have KD := Lib.hid (wkind_ok F11.out (G0.out.on B11.out))
      clear hb RC X10 I10 B10 F10 x0 y0 x1 y1 x2 y2 x3 y3 x4 y4 x5 y5 x6 y6 z
      go_wp2_with fail
      refine KD.out.mono ?_
      rintro e12 w12 ⟨rfl, hb⟩
      have B12 := Lib.hid (B11.out.trans (hb.mono B11.out.size))
      have F12 := Lib.hid (F11.out.on hb)
      have EQ := eqE 1 1 w12 true rfl
      have TR := Lib.hid (wtrace_ok F12.out (G0.out.on B12.out))
      clear hb KD B11 F11
      go_wp2_with fail
      refine TR.out.mono ?_
      rintro e13 w13 ⟨⟨fg, fc, rfl, hc⟩, hb⟩
      have B13 := Lib.hid (B12.out.trans (hb.mono B12.out.size))
      have SO := Lib.hid (same_one (c := fc) hc)
      have B14 := Lib.hid (B13.out.trans ((new_below w13 (.cells #[.string wireTxt] 9)).mono B13.out.size))
      clear hb hc TR B12 F12 EQ
      go_wp2_with fail
      refine SO.out.mono ?_
      rintro e15 w15 ⟨rfl, hb⟩
      have B15 := Lib.hid (B14.out.trans (hb.mono B14.out.size))
      have RU := Lib.hid (runs_any w15 (G0.out.on B15.out).eg)
      clear hb SO B14 B13
      go_wp2_with fail
      refine RU.out.mono ?_
      rintro e16 w16 ⟨rfl, hb⟩
      have B16 := Lib.hid (B15.out.trans (hb.mono B15.out.size))
      clear hb RU B15
      go_wp2_with fail
      go_ret
      exact ⟨rfl, B16.out⟩
    · have hk2 : decide (3 ≤ k) = false := by simp; omega
      have HK := Lib.hid hk
      clear hk
      have X3 := Lib.hid (show Box (W2.setCell ⟨w1.heap.size, 4, none⟩ (.int .i64 (by_))) w1.heap.size (mcells ⟨k, tc, ts, ic, by_, p, l⟩ (.slice po p.length pc) (.slice lo l.length lc)) 32 from box_set (k := 4) X2.out _)
      have I3 := Lib.hid (show MgIn (W2.setCell ⟨w1.heap.size, 4, none⟩ (.int .i64 (by_))) ⟨k, tc, ts, ic, by_, p, l⟩ (.slice po p.length pc) (.slice lo l.length lc) from ⟨IN1.out.p.on (BW.out.setCell (Nat.le_refl _) _), IN1.out.l.on (BW.out.setCell (Nat.le_refl _) _)⟩)
      have B3 := Lib.hid (show Below w.heap.size w (W2.setCell ⟨w1.heap.size, 4, none⟩ (.int .i64 (by_))) from B2.out.setCell M1.out _)
      have S3 := Lib.hid (show Small ⟨k, tc, ts, ic, by_, p, l⟩ from ⟨SM.out.p, SM.out.l, SM.out.ps, SM.out.ls⟩)
      have R3 := Lib.hid (show rightM ⟨k, tc, ts, ic, by_, p, l⟩ = false from turn_i1 (by have := HK.out; omega) (by omega))
      have L3 := Lib.hid (show (l).length ≤ 1000 from by first | (simp; done) | (have := L5.out; omega))
      go_upto_region 19 with fail
      clear x0 y0 x1 y1 x2 y2 x3 y3 x4 y4 x5 y5 x6 y6 z X2 B2 BW IN1
      generalize (W2.setCell ⟨w1.heap.size, 4, none⟩ (.int .i64 (by_))) = W9 at *
      have XX := X3.out
      have x0 := XX.cell 0
      have x1 := XX.cell 1
      have x2 := XX.cell 2
      have x3 := XX.cell 3
      have x4 := XX.cell 4
      have x5 := XX.cell 5
      have x6 := XX.cell 6
      have y0 := XX.fr 0
      have y1 := XX.fr 1
      have y2 := XX.fr 2
      have y3 := XX.fr 3
      have y4 := XX.fr 4
      have y5 := XX.fr 5
      have y6 := XX.fr 6
      have z := XX.lt
      simp only [List.getElem?_toArray, List.getElem?_cons_zero, List.getElem?_cons_succ] at x0 x1 x2 x3 x4 x5 x6
      clear XX
      have EC := Lib.hid (enc_no ⟨k, tc, ts, ic, by_, p, l⟩ _ _ W9 I3.out S3.out L3.out R3.out)
      go_wp2_with fail
      refine EC.out.mono ?_
      rintro e10 w10 ⟨⟨v10, rfl, hf⟩, hb⟩
      have X10 := Lib.hid (X3.out.on hb)
      have I10 := Lib.hid (I3.out.on hb)
      have B10 := Lib.hid (B3.out.trans (hb.mono B3.out.size))
      have F10 := Lib.hid hf
      obtain ⟨f10, rfl, _⟩ := hf.ch
      have RC := Lib.hid (wright_any ⟨k, tc, ts, ic, by_, p, l⟩ _ _ w10 I10.out S3.out L3.out)
      rw [R3.out] at RC
      clear hf hb EC X3 I3 B3 x0 y0 x1 y1 x2 y2 x3 y3 x4 y4 x5 y5 x6 y6 z
      have XX := X10.out
      have x0 := XX.cell 0
      have x1 := XX.cell 1
      have x2 := XX.cell 2
      have x3 := XX.cell 3
      have x4 := XX.cell 4
      have x5 := XX.cell 5
      have x6 := XX.cell 6
      have y0 := XX.fr 0
      have y1 := XX.fr 1
      have y2 := XX.fr 2
      have y3 := XX.fr 3
      have y4 := XX.fr 4
      have y5 := XX.fr 5
      have y6 := XX.fr 6
      have z := XX.lt
      simp only [List.getElem?_toArray, List.getElem?_cons_zero, List.getElem?_cons_succ] at x0 x1 x2 x3 x4 x5 x6
      clear XX
      go_wp2_with fail
      refine RC.out.mono ?_
      rintro e11 w11 ⟨rfl, hb⟩
      have B11 := Lib.hid (B10.out.trans (hb.mono B10.out.size))
      have F11 := Lib.hid (F10.out.on hb)
      have KD := Lib.hid (wkind_ok F11.out (G0.out.on B11.out))
      clear hb RC X10 I10 B10 F10 x0 y0 x1 y1 x2 y2 x3 y3 x4 y4 x5 y5 x6 y6 z
      go_wp2_with fail
      refine KD.out.mono ?_
      rintro e12 w12 ⟨rfl, hb⟩
      have B12 := Lib.hid (B11.out.trans (hb.mono B11.out.size))
      have F12 := Lib.hid (F11.out.on hb)
      have EQ := eqE 1 1 w12 true rfl
      have TR := Lib.hid (wtrace_ok F12.out (G0.out.on B12.out))
      clear hb KD B11 F11
      go_wp2_with fail
      refine TR.out.mono ?_
      rintro e13 w13 ⟨⟨fg, fc, rfl, hc⟩, hb⟩
      have B13 := Lib.hid (B12.out.trans (hb.mono B12.out.size))
      have SO := Lib.hid (same_one (c := fc) hc)
      have B14 := Lib.hid (B13.out.trans ((new_below w13 (.cells #[.string wireTxt] 9)).mono B13.out.size))
      clear hb hc TR B12 F12 EQ
      go_wp2_with fail
      refine SO.out.mono ?_
      rintro e15 w15 ⟨rfl, hb⟩
      have B15 := Lib.hid (B14.out.trans (hb.mono B14.out.size))
      have RU := Lib.hid (runs_any w15 (G0.out.on B15.out).eg)
      clear hb SO B14 B13
      go_wp2_with fail
      refine RU.out.mono ?_
      rintro e16 w16 ⟨rfl, hb⟩
      have B16 := Lib.hid (B15.out.trans (hb.mono B15.out.size))
      clear hb RU B15
      go_wp2_with fail
      go_ret
      exact ⟨rfl, B16.out⟩
end Go.Proofs.YtfcgfnmokbbcaaaDoor.Ws

namespace Go.Proofs.YtfcgfnmokbbcaaaDoor.Ar
open Go.ChangeShapes Go.WideShapes Go.RowKit

/-- Are these types readable rows of the program? -/
def readable (P : Program) (ts : List TypeId) : Bool := ts.all fun t => P.readableRec t && decide (t < P.types.size)
theorem carry {H : Type} {enc : TypeId × Value → H} {P : Program} (hl : laidOutB P = true) {W W' : World} (hb : Below W.heap.size W W') :
    ∀ (ts : List TypeId) (vs : List Value) (ds : List (DataW H)) (ps : List MemPlace), readable P ts = true → DataW.TrodAll enc P W 0 (fun _ => true) true ts vs ds ps → (∀ x ∈ ps, x.block < W.heap.size) →
      DataW.TrodAll enc P W' 0 (fun b => decide (b < W.heap.size)) true ts vs ds ps
  | [], vs, ds, ps, _, h, _ => by
    obtain ⟨rfl, rfl, rfl⟩ := trodAll_nil h
    exact trodAll_mk0
  | t :: ts, vs, ds, ps, hr, h, hlt => by
    obtain ⟨v, vs', d, ds', p, q, rfl, rfl, rfl, h1, h2⟩ := trodAll_cons h
    simp only [readable, List.all_cons, Bool.and_eq_true, decide_eq_true_eq] at hr
    exact trodAll_cons_mk (Below.trod hl hr.1.1 hr.1.2 h1 hb (fun x hx => hlt x (List.mem_append_left _ hx)))
      (carry hl hb ts vs' ds' q hr.2 h2 (fun x hx => hlt x (List.mem_append_right _ hx)))

theorem cellsV : Tryd.prog.cellsOf 59 = 3 := by kernel_rfl
theorem cellsBool : Tryd.prog.cellsOf 4 = 1 := by kernel_rfl
theorem cellsInt : Tryd.prog.cellsOf 3 = 1 := by kernel_rfl
theorem cellsStr : Tryd.prog.cellsOf 9 = 1 := by kernel_rfl
set_option maxRecDepth 100000 in
theorem open_value {H : Type} {enc : TypeId × Value → H} {W : World} {r : Reach} {b0 base : Nat} {sp : Nat → Bool} {held : Bool} {v : Value} {d : DataW H} {ps : List MemPlace}
    (hval : Value.okWide Tryd.prog W r b0 59 v) (hd : DataW.Trod enc Tryd.prog W base sp held 59 v d ps) :
    ∃ (t : Bool) (n : Int) (s : ByteArray), v = .agg #[.bool t, .int .i64 n, .string s] ∧ (Lit.int .i64 n).wf = true ∧ s.size ≤ maxLen := by
  obtain ⟨cs, rfl, hsz⟩ := okWide_struct Tryd.underlying59 hval
  obtain ⟨fuel, hf⟩ := hd
  obtain ⟨xs, n, _, _, _, hxl, hx⟩ := DataW.trod_struct Tryd.underlying59 hf
  rw [cellsV] at hsz
  obtain ⟨l⟩ := cs
  match l, hsz with
  | [c0, c1, c2], _ =>
    have f0 : DataW.trod enc Tryd.prog W base sp held n 4 (([c0, c1, c2].drop 0).take (Tryd.prog.cellsOf 4)) = xs[0]? := hx 0 _ rfl
    have f1 : DataW.trod enc Tryd.prog W base sp held n 3 (([c0, c1, c2].drop 1).take (Tryd.prog.cellsOf 3)) = xs[1]? := hx 1 _ rfl
    have f2 : DataW.trod enc Tryd.prog W base sp held n 9 (([c0, c1, c2].drop 2).take (Tryd.prog.cellsOf 9)) = xs[2]? := hx 2 _ rfl
    have hxl' : xs.length = 3 := hxl
    simp only [cellsBool, cellsInt, cellsStr, List.drop_zero, List.drop_succ_cons, List.take_succ_cons, List.take_zero] at f0 f1 f2
    rw [List.getElem?_eq_getElem (by omega)] at f0 f1 f2
    obtain ⟨b, e0, _⟩ := DataW.trod_bool Tryd.underlying4 f0
    obtain ⟨m, e1, _, hw⟩ := DataW.trod_int Tryd.underlying3 f1
    obtain ⟨s, e2, _, hs⟩ := DataW.trod_string Tryd.underlying9 f2
    simp only [List.cons.injEq, and_true] at e0 e1 e2
    subst e0 e1 e2
    exact ⟨b, m, s, rfl, hw, hs⟩
end Go.Proofs.YtfcgfnmokbbcaaaDoor.Ar

namespace Go.Proofs.YtfcgfnmokbbcaaaDoor.Ws
open Go.RowKit Go.ChangeShapes Go.WideShapes Go.Proofs.YtfcgfnmokbbcaaaDoor Go.Proofs.YtfcgfnmokbbcaaaDoor.In Go.Proofs.YtfcgfnmokbbcaaaDoor.Rw Go.Proofs.YtfcgfnmokbbcaaaDoor.Wr Go.Proofs.YtfcgfnmokbbcaaaDoor.At Go.Proofs.YtfcgfnmokbbcaaaDoor.Pr

theorem litBd {n : Int} (h : (Lit.int .i64 n).wf = true) : I64 n := by
  have h2 : (decide (IntKind.i64.min ≤ n) && decide (n ≤ IntKind.i64.max)) = true := h
  rw [Bool.and_eq_true, decide_eq_true_eq, decide_eq_true_eq, show IntKind.i64.min = -9223372036854775808 by decide, show IntKind.i64.max = 9223372036854775807 by decide] at h2
  exact h2
theorem cellsKg : Tryd.prog.cellsOf 42 = 9 := by kernel_rfl
theorem cellsMg : Tryd.prog.cellsOf 32 = 7 := by kernel_rfl
theorem cellsK : Tryd.prog.cellsOf 40 = 2 := by kernel_rfl
theorem cellsP : Tryd.prog.cellsOf 39 = 2 := by kernel_rfl
theorem cellsID : Tryd.prog.cellsOf 28 = 2 := by kernel_rfl
theorem cellsC : Tryd.prog.cellsOf 57 = 5 := by kernel_rfl
theorem cellsA4 : Tryd.prog.cellsOf 61 = 4 := by kernel_rfl
theorem cellsV : Tryd.prog.cellsOf 59 = 3 := by kernel_rfl
theorem cellsIn : Tryd.prog.cellsOf 3 = 1 := by kernel_rfl
theorem cellsIns : Tryd.prog.cellsOf 37 = 1 := by kernel_rfl
theorem cellsCs : Tryd.prog.cellsOf 29 = 1 := by kernel_rfl
theorem cellsAs : Tryd.prog.cellsOf 30 = 1 := by kernel_rfl
theorem cellsStr : Tryd.prog.cellsOf 9 = 1 := by kernel_rfl
theorem cellsBool : Tryd.prog.cellsOf 4 = 1 := by kernel_rfl
set_option maxRecDepth 100000 in
theorem trod_two {H : Type} {enc : TypeId × Value → H} {W : World} {sp : Nat → Bool} {held : Bool} {fuel : Nat} {c0 c1 : Value} {x : DataW H × List MemPlace}
    (hf : DataW.trod enc Tryd.prog W 0 sp held fuel 40 [c0, c1] = some x) :
    ∃ (has vals : List Int), has.length ≤ maxLen ∧ vals.length ≤ maxLen ∧ InInts W c0 has ∧ InInts W c1 vals := by
  obtain ⟨xs, n, _, _, _, hxl, hx⟩ := DataW.trod_struct Tryd.underlying40 hf
  have f0 : DataW.trod enc Tryd.prog W 0 sp held n 37 (([c0, c1].drop 0).take (Tryd.prog.cellsOf 37)) = xs[0]? := hx 0 _ rfl
  have f1 : DataW.trod enc Tryd.prog W 0 sp held n 37 (([c0, c1].drop 1).take (Tryd.prog.cellsOf 37)) = xs[1]? := hx 1 _ rfl
  have hxl' : xs.length = 2 := hxl
  simp only [cellsIns, List.drop_zero, List.drop_succ_cons, List.take_succ_cons, List.take_zero] at f0 f1
  rw [List.getElem?_eq_getElem (by omega)] at f0 f1
  obtain ⟨has, h1, h2⟩ := in_trod f0
  obtain ⟨vals, h3, h4⟩ := in_trod f1
  exact ⟨has, vals, h1, h3, h2, h4⟩
set_option maxRecDepth 100000 in
theorem trod_twoP {H : Type} {enc : TypeId × Value → H} {W : World} {sp : Nat → Bool} {held : Bool} {fuel : Nat} {c0 c1 : Value} {x : DataW H × List MemPlace}
    (hf : DataW.trod enc Tryd.prog W 0 sp held fuel 39 [c0, c1] = some x) :
    ∃ (has vals : List Int), has.length ≤ maxLen ∧ vals.length ≤ maxLen ∧ InInts W c0 has ∧ InInts W c1 vals := by
  obtain ⟨xs, n, _, _, _, hxl, hx⟩ := DataW.trod_struct Tryd.underlying39 hf
  have f0 : DataW.trod enc Tryd.prog W 0 sp held n 37 (([c0, c1].drop 0).take (Tryd.prog.cellsOf 37)) = xs[0]? := hx 0 _ rfl
  have f1 : DataW.trod enc Tryd.prog W 0 sp held n 37 (([c0, c1].drop 1).take (Tryd.prog.cellsOf 37)) = xs[1]? := hx 1 _ rfl
  have hxl' : xs.length = 2 := hxl
  simp only [cellsIns, List.drop_zero, List.drop_succ_cons, List.take_succ_cons, List.take_zero] at f0 f1
  rw [List.getElem?_eq_getElem (by omega)] at f0 f1
  obtain ⟨has, h1, h2⟩ := in_trod f0
  obtain ⟨vals, h3, h4⟩ := in_trod f1
  exact ⟨has, vals, h1, h3, h2, h4⟩
set_option maxRecDepth 100000 in
theorem open_kg {H : Type} {enc : TypeId × Value → H} {W : World} {r : Reach} {b0 : Nat} {sp : Nat → Bool} {held : Bool} {v : Value} {d : DataW H} {ps : List MemPlace}
    (hval : Value.okWide Tryd.prog W r b0 42 v) (hd : DataW.Trod enc Tryd.prog W 0 sp held 42 v d ps) :
    ∃ (g : Kg) (a b c e : Value), v = kgv g a b c e ∧ KgIn W g a b c e := by
  obtain ⟨cs, rfl, hsz⟩ := okWide_struct Tryd.underlying42 hval
  obtain ⟨fuel, hf⟩ := hd
  obtain ⟨xs, n, _, _, _, hxl, hx⟩ := DataW.trod_struct Tryd.underlying42 hf
  rw [cellsKg] at hsz
  obtain ⟨l⟩ := cs
  match l, hsz with
  | [c0, c1, c2, c3, c4, c5, c6, c7, c8], _ =>
    have f0 : DataW.trod enc Tryd.prog W 0 sp held n 3 (([c0, c1, c2, c3, c4, c5, c6, c7, c8].drop 0).take (Tryd.prog.cellsOf 3)) = xs[0]? := hx 0 _ rfl
    have f1 : DataW.trod enc Tryd.prog W 0 sp held n 3 (([c0, c1, c2, c3, c4, c5, c6, c7, c8].drop 1).take (Tryd.prog.cellsOf 3)) = xs[1]? := hx 1 _ rfl
    have f2 : DataW.trod enc Tryd.prog W 0 sp held n 3 (([c0, c1, c2, c3, c4, c5, c6, c7, c8].drop 2).take (Tryd.prog.cellsOf 3)) = xs[2]? := hx 2 _ rfl
    have f3 : DataW.trod enc Tryd.prog W 0 sp held n 3 (([c0, c1, c2, c3, c4, c5, c6, c7, c8].drop 3).take (Tryd.prog.cellsOf 3)) = xs[3]? := hx 3 _ rfl
    have f4 : DataW.trod enc Tryd.prog W 0 sp held n 3 (([c0, c1, c2, c3, c4, c5, c6, c7, c8].drop 4).take (Tryd.prog.cellsOf 3)) = xs[4]? := hx 4 _ rfl
    have f5 : DataW.trod enc Tryd.prog W 0 sp held n 39 (([c0, c1, c2, c3, c4, c5, c6, c7, c8].drop 5).take (Tryd.prog.cellsOf 39)) = xs[5]? := hx 5 _ rfl
    have f6 : DataW.trod enc Tryd.prog W 0 sp held n 40 (([c0, c1, c2, c3, c4, c5, c6, c7, c8].drop 7).take (Tryd.prog.cellsOf 40)) = xs[6]? := hx 6 _ rfl
    have hxl' : xs.length = 7 := hxl
    simp only [cellsIn, cellsK, cellsP, List.drop_zero, List.drop_succ_cons, List.take_succ_cons, List.take_zero] at f0 f1 f2 f3 f4 f5 f6
    rw [List.getElem?_eq_getElem (by omega)] at f0 f1 f2 f3 f4 f5 f6
    obtain ⟨m0, e0, _, w0⟩ := DataW.trod_int Tryd.underlying3 f0
    obtain ⟨m1, e1, _, w1⟩ := DataW.trod_int Tryd.underlying3 f1
    obtain ⟨m2, e2, _, w2⟩ := DataW.trod_int Tryd.underlying3 f2
    obtain ⟨m3, e3, _, w3⟩ := DataW.trod_int Tryd.underlying3 f3
    obtain ⟨m4, e4, _, w4⟩ := DataW.trod_int Tryd.underlying3 f4
    obtain ⟨ph, pv, l1, l2, i1, i2⟩ := trod_twoP f5
    obtain ⟨th, tv, l3, l4, i3, i4⟩ := trod_two f6
    simp only [List.cons.injEq, and_true] at e0 e1 e2 e3 e4
    subst e0 e1 e2 e3 e4
    exact ⟨⟨m0, m1, m2, m3, m4, ph, pv, th, tv⟩, c5, c6, c7, c8, rfl, ⟨litBd w0, litBd w1, litBd w2, litBd w3, litBd w4, i1, i2, i3, i4, l1, l2, l3, l4⟩⟩
/-- The elements of a row, one by one. -/
theorem row_els {α : Type} {E : Ek α} (K : E.Ok) {W : World} {a : Addr} {l : List α} (h : ∀ (i : Nat) (x : α), l[i]? = some x → ∀ j u, (E.cells x)[j]? = some u → W.cell? ((a.add (i * E.n)).add j) = some u) : ∀ j u, (flat E l)[j]? = some u → W.cell? (a.add j) = some u := by
  intro j u hj
  have hlt := (List.getElem?_eq_some_iff.1 hj).1
  rw [flat_length K] at hlt
  have hp := K.pos
  have hq : j / E.n < l.length := Nat.div_lt_of_lt_mul (by rw [Nat.mul_comm]; exact hlt)
  have hm : j / E.n * E.n + j % E.n = j := by rw [Nat.mul_comm]; exact Nat.div_add_mod j E.n
  have hx : l[j / E.n]? = some l[j / E.n] := List.getElem?_eq_getElem hq
  have f := flat_at K l (j / E.n) _ hx (j % E.n) (Nat.mod_lt _ hp)
  have g := h (j / E.n) _ hx (j % E.n) u
  rw [Rw.add_add, hm] at g
  rw [hm, hj] at f
  exact g f.symm
set_option maxRecDepth 100000 in
theorem open_con {H : Type} {enc : TypeId × Value → H} {W : World} {sp : Nat → Bool} {held : Bool} {fuel : Nat} {cs : List Value} {x : DataW H × List MemPlace}
    (hf : DataW.trod enc Tryd.prog W 0 sp held fuel 57 cs = some x) : ∃ y : C5, cs = cells5 y ∧ y.1.size ≤ maxLen ∧ y.2.2.2.2.size ≤ maxLen ∧ I64 y.2.1 ∧ I64 y.2.2.1 ∧ I64 y.2.2.2.1 := by
  obtain ⟨xs, n, _, _, hcl, hxl, hx⟩ := DataW.trod_struct Tryd.underlying57 hf
  rw [cellsC] at hcl
  match cs, hcl with
  | [c0, c1, c2, c3, c4], _ =>
    have f0 : DataW.trod enc Tryd.prog W 0 sp held n 9 (([c0, c1, c2, c3, c4].drop 0).take (Tryd.prog.cellsOf 9)) = xs[0]? := hx 0 _ rfl
    have f1 : DataW.trod enc Tryd.prog W 0 sp held n 3 (([c0, c1, c2, c3, c4].drop 1).take (Tryd.prog.cellsOf 3)) = xs[1]? := hx 1 _ rfl
    have f2 : DataW.trod enc Tryd.prog W 0 sp held n 3 (([c0, c1, c2, c3, c4].drop 2).take (Tryd.prog.cellsOf 3)) = xs[2]? := hx 2 _ rfl
    have f3 : DataW.trod enc Tryd.prog W 0 sp held n 3 (([c0, c1, c2, c3, c4].drop 3).take (Tryd.prog.cellsOf 3)) = xs[3]? := hx 3 _ rfl
    have f4 : DataW.trod enc Tryd.prog W 0 sp held n 9 (([c0, c1, c2, c3, c4].drop 4).take (Tryd.prog.cellsOf 9)) = xs[4]? := hx 4 _ rfl
    have hxl' : xs.length = 5 := hxl
    simp only [cellsStr, cellsIn, List.drop_zero, List.drop_succ_cons, List.take_succ_cons, List.take_zero] at f0 f1 f2 f3 f4
    rw [List.getElem?_eq_getElem (by omega)] at f0 f1 f2 f3 f4
    obtain ⟨s0, e0, _, h0⟩ := DataW.trod_string Tryd.underlying9 f0
    obtain ⟨m1, e1, _, w1⟩ := DataW.trod_int Tryd.underlying3 f1
    obtain ⟨m2, e2, _, w2⟩ := DataW.trod_int Tryd.underlying3 f2
    obtain ⟨m3, e3, _, w3⟩ := DataW.trod_int Tryd.underlying3 f3
    obtain ⟨s4, e4, _, h4⟩ := DataW.trod_string Tryd.underlying9 f4
    simp only [List.cons.injEq, and_true] at e0 e1 e2 e3 e4
    subst e0 e1 e2 e3 e4
    exact ⟨(s0, m1, m2, m3, s4), rfl, h0, h4, litBd w1, litBd w2, litBd w3⟩
set_option maxRecDepth 100000 in
theorem open_att {H : Type} {enc : TypeId × Value → H} {W : World} {sp : Nat → Bool} {held : Bool} {fuel : Nat} {cs : List Value} {x : DataW H × List MemPlace}
    (hf : DataW.trod enc Tryd.prog W 0 sp held fuel 61 cs = some x) : ∃ y : A4, cs = cellsA y ∧ y.1.size ≤ maxLen ∧ y.2.2.2.size ≤ maxLen ∧ I64 y.2.2.1 := by
  obtain ⟨xs, n, _, _, hcl, hxl, hx⟩ := DataW.trod_struct Tryd.underlying61 hf
  rw [cellsA4] at hcl
  match cs, hcl with
  | [c0, c1, c2, c3], _ =>
    have f0 : DataW.trod enc Tryd.prog W 0 sp held n 9 (([c0, c1, c2, c3].drop 0).take (Tryd.prog.cellsOf 9)) = xs[0]? := hx 0 _ rfl
    have f1 : DataW.trod enc Tryd.prog W 0 sp held n 59 (([c0, c1, c2, c3].drop 1).take (Tryd.prog.cellsOf 59)) = xs[1]? := hx 1 _ rfl
    have hxl' : xs.length = 2 := hxl
    simp only [cellsStr, cellsV, List.drop_zero, List.drop_succ_cons, List.take_succ_cons, List.take_zero] at f0 f1
    rw [List.getElem?_eq_getElem (by omega)] at f0 f1
    obtain ⟨ys, n2, _, _, _, hyl, hy⟩ := DataW.trod_struct Tryd.underlying59 f1
    have g0 : DataW.trod enc Tryd.prog W 0 sp held n2 4 (([c1, c2, c3].drop 0).take (Tryd.prog.cellsOf 4)) = ys[0]? := hy 0 _ rfl
    have g1 : DataW.trod enc Tryd.prog W 0 sp held n2 3 (([c1, c2, c3].drop 1).take (Tryd.prog.cellsOf 3)) = ys[1]? := hy 1 _ rfl
    have g2 : DataW.trod enc Tryd.prog W 0 sp held n2 9 (([c1, c2, c3].drop 2).take (Tryd.prog.cellsOf 9)) = ys[2]? := hy 2 _ rfl
    have hyl' : ys.length = 3 := hyl
    simp only [cellsBool, cellsIn, cellsStr, List.drop_zero, List.drop_succ_cons, List.take_succ_cons, List.take_zero] at g0 g1 g2
    rw [List.getElem?_eq_getElem (by omega)] at g0 g1 g2
    obtain ⟨s0, e0, _, h0⟩ := DataW.trod_string Tryd.underlying9 f0
    obtain ⟨b, e1, _⟩ := DataW.trod_bool Tryd.underlying4 g0
    obtain ⟨m, e2, _, hw⟩ := DataW.trod_int Tryd.underlying3 g1
    obtain ⟨s, e3, _, hs⟩ := DataW.trod_string Tryd.underlying9 g2
    simp only [List.cons.injEq, and_true] at e0 e1 e2 e3
    subst e0 e1 e2 e3
    exact ⟨(s0, b, m, s), rfl, h0, hs, litBd hw⟩
set_option maxRecDepth 100000 in
theorem trod_cons {H : Type} {enc : TypeId × Value → H} {W : World} {sp : Nat → Bool} {held : Bool} {fuel : Nat} {v : Value} {x : DataW H × List MemPlace}
    (hf : DataW.trod enc Tryd.prog W 0 sp held fuel 29 [v] = some x) : ∃ l : List C5, RowC W v l ∧ ∀ y ∈ l, y.1.size ≤ maxLen ∧ y.2.2.2.2.size ≤ maxLen ∧ I64 y.2.1 ∧ I64 y.2.2.1 ∧ I64 y.2.2.2.1 := by
  rcases Deep.open_slice Tryd.underlying29 hf with ⟨h1, _⟩ | ⟨a, len, cap, m, n, D, Pl, h1, _, h3, h4, h5, _, hx⟩
  · have e : v = .slice none 0 0 := by simpa [Value.cells] using h1
    exact ⟨[], Or.inl ⟨rfl, e⟩, fun y hy => by cases hy⟩
  · have e : v = .slice (some a) len cap := by simpa [Value.cells] using h1
    rw [e]
    have hle : len ≤ m := by rw [h5]; split <;> omega
    obtain ⟨f, hF⟩ := Deep.choose_lt (α := C5) (n := len) (p := fun i x => (∀ j u, (cells5 x)[j]? = some u → W.cell? ((a.add (i * 5)).add j) = some u) ∧ x.1.size ≤ maxLen ∧ x.2.2.2.2.size ≤ maxLen ∧ I64 x.2.1 ∧ I64 x.2.2.1 ∧ I64 x.2.2.2.1) (fun i hi => by
      obtain ⟨cs', c1, c2⟩ := hx i (by omega)
      obtain ⟨y, rfl, hy⟩ := open_con c2
      rw [cellsC] at c1
      obtain ⟨_, _, k3⟩ := World.cells?_some c1
      exact ⟨y, fun j u hj => by
        have := k3 j (by have := (List.getElem?_eq_some_iff.1 hj).1; simpa [cells5] using this)
        rw [this, hj], hy⟩)
    refine ⟨(List.range len).map f, Or.inr ⟨a, cap, by simp, by simpa using h3, h4, row_els okC fun i x hi => (?_ : ∀ j u, (cells5 x)[j]? = some u → W.cell? ((a.add (i * 5)).add j) = some u)⟩, fun y hy => ?_⟩
    · obtain ⟨hlt, rfl⟩ := List.getElem?_eq_some_iff.1 hi
      simp at hlt
      simpa using (hF i hlt).1
    · obtain ⟨i, hi, rfl⟩ := List.mem_map.1 hy
      exact (hF i (List.mem_range.1 hi)).2
set_option maxRecDepth 100000 in
theorem trod_atts {H : Type} {enc : TypeId × Value → H} {W : World} {sp : Nat → Bool} {held : Bool} {fuel : Nat} {v : Value} {x : DataW H × List MemPlace}
    (hf : DataW.trod enc Tryd.prog W 0 sp held fuel 30 [v] = some x) : ∃ l : List A4, RowL W v l ∧ ∀ y ∈ l, y.1.size ≤ maxLen ∧ y.2.2.2.size ≤ maxLen ∧ I64 y.2.2.1 := by
  rcases Deep.open_slice Tryd.underlying30 hf with ⟨h1, _⟩ | ⟨a, len, cap, m, n, D, Pl, h1, _, h3, h4, h5, _, hx⟩
  · have e : v = .slice none 0 0 := by simpa [Value.cells] using h1
    exact ⟨[], Or.inl ⟨rfl, e⟩, fun y hy => by cases hy⟩
  · have e : v = .slice (some a) len cap := by simpa [Value.cells] using h1
    rw [e]
    have hle : len ≤ m := by rw [h5]; split <;> omega
    obtain ⟨f, hF⟩ := Deep.choose_lt (α := A4) (n := len) (p := fun i x => (∀ j u, (cellsA x)[j]? = some u → W.cell? ((a.add (i * 4)).add j) = some u) ∧ x.1.size ≤ maxLen ∧ x.2.2.2.size ≤ maxLen ∧ I64 x.2.2.1) (fun i hi => by
      obtain ⟨cs', c1, c2⟩ := hx i (by omega)
      obtain ⟨y, rfl, hy⟩ := open_att c2
      rw [cellsA4] at c1
      obtain ⟨_, _, k3⟩ := World.cells?_some c1
      exact ⟨y, fun j u hj => by
        have := k3 j (by have := (List.getElem?_eq_some_iff.1 hj).1; simpa [cellsA] using this)
        rw [this, hj], hy⟩)
    refine ⟨(List.range len).map f, Or.inr ⟨a, cap, by simp, by simpa using h3, h4, row_els okA fun i x hi => (?_ : ∀ j u, (cellsA x)[j]? = some u → W.cell? ((a.add (i * 4)).add j) = some u)⟩, fun y hy => ?_⟩
    · obtain ⟨hlt, rfl⟩ := List.getElem?_eq_some_iff.1 hi
      simp at hlt
      simpa using (hF i hlt).1
    · obtain ⟨i, hi, rfl⟩ := List.mem_map.1 hy
      exact (hF i (List.mem_range.1 hi)).2
theorem trod_id2 {H : Type} {enc : TypeId × Value → H} {W : World} {sp : Nat → Bool} {held : Bool} {fuel : Nat} {c0 c1 : Value} {x : DataW H × List MemPlace}
    (hf : DataW.trod enc Tryd.prog W 0 sp held fuel 28 [c0, c1] = some x) : ∃ a b : Int, c0 = .int .i64 a ∧ c1 = .int .i64 b ∧ I64 a ∧ I64 b := by
  obtain ⟨xs, n, _, _, _, hxl, hx⟩ := DataW.trod_struct Tryd.underlying28 hf
  have f0 : DataW.trod enc Tryd.prog W 0 sp held n 3 (([c0, c1].drop 0).take (Tryd.prog.cellsOf 3)) = xs[0]? := hx 0 _ rfl
  have f1 : DataW.trod enc Tryd.prog W 0 sp held n 3 (([c0, c1].drop 1).take (Tryd.prog.cellsOf 3)) = xs[1]? := hx 1 _ rfl
  have hxl' : xs.length = 2 := hxl
  simp only [cellsIn, List.drop_zero, List.drop_succ_cons, List.take_succ_cons, List.take_zero] at f0 f1
  rw [List.getElem?_eq_getElem (by omega)] at f0 f1
  obtain ⟨m0, e0, _, w0⟩ := DataW.trod_int Tryd.underlying3 f0
  obtain ⟨m1, e1, _, w1⟩ := DataW.trod_int Tryd.underlying3 f1
  simp only [List.cons.injEq, and_true] at e0 e1
  exact ⟨m0, m1, e0, e1, litBd w0, litBd w1⟩
/-- A raw message. -/
structure RawIn (W : World) (m : Mg) (pv lv : Value) : Prop where
  inn : MgIn W m pv lv
  m64 : M64 m
  ps : ∀ x ∈ m.p, x.1.size ≤ maxLen ∧ x.2.2.2.2.size ≤ maxLen
  ls : ∀ x ∈ m.l, x.1.size ≤ maxLen ∧ x.2.2.2.size ≤ maxLen
set_option maxRecDepth 100000 in
theorem open_msg {H : Type} {enc : TypeId × Value → H} {W : World} {r : Reach} {b0 : Nat} {sp : Nat → Bool} {held : Bool} {v : Value} {d : DataW H} {ps : List MemPlace}
    (hval : Value.okWide Tryd.prog W r b0 32 v) (hd : DataW.Trod enc Tryd.prog W 0 sp held 32 v d ps) :
    ∃ (m : Mg) (pv lv : Value), v = mv m pv lv ∧ RawIn W m pv lv := by
  obtain ⟨cs, rfl, hsz⟩ := okWide_struct Tryd.underlying32 hval
  obtain ⟨fuel, hf⟩ := hd
  obtain ⟨xs, n, _, _, _, hxl, hx⟩ := DataW.trod_struct Tryd.underlying32 hf
  rw [cellsMg] at hsz
  obtain ⟨l⟩ := cs
  match l, hsz with
  | [c0, c1, c2, c3, c4, c5, c6], _ =>
    have f0 : DataW.trod enc Tryd.prog W 0 sp held n 3 (([c0, c1, c2, c3, c4, c5, c6].drop 0).take (Tryd.prog.cellsOf 3)) = xs[0]? := hx 0 _ rfl
    have f1 : DataW.trod enc Tryd.prog W 0 sp held n 28 (([c0, c1, c2, c3, c4, c5, c6].drop 1).take (Tryd.prog.cellsOf 28)) = xs[1]? := hx 1 _ rfl
    have f2 : DataW.trod enc Tryd.prog W 0 sp held n 28 (([c0, c1, c2, c3, c4, c5, c6].drop 3).take (Tryd.prog.cellsOf 28)) = xs[2]? := hx 2 _ rfl
    have f3 : DataW.trod enc Tryd.prog W 0 sp held n 29 (([c0, c1, c2, c3, c4, c5, c6].drop 5).take (Tryd.prog.cellsOf 29)) = xs[3]? := hx 3 _ rfl
    have f4 : DataW.trod enc Tryd.prog W 0 sp held n 30 (([c0, c1, c2, c3, c4, c5, c6].drop 6).take (Tryd.prog.cellsOf 30)) = xs[4]? := hx 4 _ rfl
    have hxl' : xs.length = 5 := hxl
    simp only [cellsIn, cellsID, cellsCs, cellsAs, List.drop_zero, List.drop_succ_cons, List.take_succ_cons, List.take_zero] at f0 f1 f2 f3 f4
    rw [List.getElem?_eq_getElem (by omega)] at f0 f1 f2 f3 f4
    obtain ⟨m0, e0, _, w0⟩ := DataW.trod_int Tryd.underlying3 f0
    obtain ⟨tc, ts, rfl, rfl, t1, t2⟩ := trod_id2 f1
    obtain ⟨ic, is, rfl, rfl, i1, i2⟩ := trod_id2 f2
    obtain ⟨p, hp, hp2⟩ := trod_cons f3
    obtain ⟨l, hl, hl2⟩ := trod_atts f4
    simp only [List.cons.injEq, and_true] at e0
    subst e0
    exact ⟨⟨m0, tc, ts, ic, is, p, l⟩, c5, c6, rfl, ⟨⟨hp, row_EA.2 hl⟩, ⟨litBd w0, t1, t2, i1, i2, fun c hc => (hp2 c hc).2.2, fun a ha => (hl2 a ha).2.2⟩, fun x hx => ⟨(hp2 x hx).1, (hp2 x hx).2.1⟩, fun x hx => ⟨(hl2 x hx).1, (hl2 x hx).2.1⟩⟩⟩
end Go.Proofs.YtfcgfnmokbbcaaaDoor.Ws
