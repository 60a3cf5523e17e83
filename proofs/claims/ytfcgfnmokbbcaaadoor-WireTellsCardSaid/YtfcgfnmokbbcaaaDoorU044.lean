/-
  The law WireTells, a raw message: may it be; its bytes; it comes back. Conditions: package errors' variable holds the handle of the type 'error'; numbers of 64 bits; lists no longer than a machine holds.
  The law WireTells, a message of numbers: may it be; its bytes; it comes back. Conditions: package errors' variable holds the handle of the type 'error'; numbers of 64 bits; lists no longer than a machine holds.
-/
import Derived.Test.YtfcgfnmokbbcaaaDoorU042
import Derived.Test.YtfcgfnmokbbcaaaDoorU043
import Derived.Test.YtfcgfnmokbbcaaaDoorU032
import Derived.Test.YtfcgfnmokbbcaaaDoorU041
import Derived.Test.YtfcgfnmokbbcaaaDoorU040
import Derived.Lib.QuietBelow
import Derived.BigQuiet
namespace Go.Proofs.YtfcgfnmokbbcaaaDoor.Ws
open Go.RowKit Go.Sort Go.Proofs.YtfcgfnmokbbcaaaDoor Go.Proofs.YtfcgfnmokbbcaaaDoor.Rw Go.Proofs.YtfcgfnmokbbcaaaDoor.Nm Go.Proofs.YtfcgfnmokbbcaaaDoor.At Go.Proofs.YtfcgfnmokbbcaaaDoor.Pr Go.Proofs.YtfcgfnmokbbcaaaDoor.Wr Go.Proofs.YtfcgfnmokbbcaaaDoor.Wi Go.Proofs.YtfcgfnmokbbcaaaDoor.In Go.Proofs.YtfcgfnmokbbcaaaDoor.Va

theorem same_bytes {m n : Mg} (hm : rightM m = true) (m6 : M64 m) (hn : rightM n = true) (n6 : M64 n) : decide (bytesM m = bytesM n) = sameM m n := by
  cases h : sameM m n with
  | false =>
    rw [decide_eq_false_iff_not]
    intro e
    have h2 := bytes_inj hn n6 hm m6 e
    rw [h2, sameM_refl] at h
    cases h
  | true =>
    have h2 := (sameM_iff m n).1 h
    rw [h2]
    exact decide_eq_true rfl
theorem tame_small {W : World} {m : Mg} {mp ml : Value} (h : RawIn W m mp ml) : Small (tameM m) ∧ (tameM m).p.length ≤ 1000 ∧ (tameM m).l.length ≤ 1000 ∧ M64 (tameM m) := by
  have h1 : (tameM m).p.length ≤ 7 := by show (m.p.take 7).length ≤ 7; rw [List.length_take]; omega
  have h2 : (tameM m).l.length ≤ 7 := by show (m.l.take 7).length ≤ 7; rw [List.length_take]; omega
  exact ⟨⟨by omega, by omega, fun x hx => h.ps x (List.mem_of_mem_take hx), fun x hx => h.ls x (List.mem_of_mem_take hx)⟩, by omega, by omega, ⟨h.m64.k, h.m64.tc, h.m64.ts, h.m64.ic, h.m64.is, fun c hc => h.m64.p c (List.mem_of_mem_take hc), fun c hc => h.m64.l c (List.mem_of_mem_take hc)⟩⟩
theorem box_three (w : World) (c d e : Array Value) (r s t : TypeId) : Box (((w.alloc (.cells c r)).alloc (.cells d s)).alloc (.cells e t)) w.heap.size c r ∧ Box (((w.alloc (.cells c r)).alloc (.cells d s)).alloc (.cells e t)) (w.heap.size + 1) d s ∧ Box (((w.alloc (.cells c r)).alloc (.cells d s)).alloc (.cells e t)) (w.heap.size + 2) e t := by
  refine ⟨((box_new w c r).more _).more _, ?_, ?_⟩
  · have h := (box_new (w.alloc (.cells c r)) d s).more (.cells e t)
    simpa using h
  · have h := box_new ((w.alloc (.cells c r)).alloc (.cells d s)) e t
    simpa using h
set_option maxRecDepth 100000 in
set_option maxHeartbeats 64000000 in
theorem tells_raw (m : Mg) (mp ml : Value) (g : Kg) (ga gb gc gd : Value) (h_ : Kg) (h_a h_b h_c h_d : Value) (w : World) (hg : Fa.EG w) (mi : RawIn w m mp ml) (gi : KgIn w g ga gb gc gd) (h_i : KgIn w h_ h_a h_b h_c h_d) :
    Calls Tryd.prog 4 #[mv m mp ml, kgv g ga gb gc gd, kgv h_ h_a h_b h_c h_d, .bool false] w (RQ w) := by
  have A0 := Lib.hid (new_below w (.cells #[.int .i64 m.k, .int .i64 m.tc, .int .i64 m.ts, .int .i64 m.ic, .int .i64 m.is, mp, ml] 32))
  have A1 := Lib.hid (new_below (w.alloc (.cells #[.int .i64 m.k, .int .i64 m.tc, .int .i64 m.ts, .int .i64 m.ic, .int .i64 m.is, mp, ml] 32)) (.cells #[.int .i64 g.kd, .int .i64 g.cl, .int .i64 g.sq, .int .i64 g.ow, .int .i64 g.nm, ga, gb, gc, gd] 42))
  have A2 := Lib.hid (new_below ((w.alloc (.cells #[.int .i64 m.k, .int .i64 m.tc, .int .i64 m.ts, .int .i64 m.ic, .int .i64 m.is, mp, ml] 32)).alloc (.cells #[.int .i64 g.kd, .int .i64 g.cl, .int .i64 g.sq, .int .i64 g.ow, .int .i64 g.nm, ga, gb, gc, gd] 42)) (.cells #[.int .i64 h_.kd, .int .i64 h_.cl, .int .i64 h_.sq, .int .i64 h_.ow, .int .i64 h_.nm, h_a, h_b, h_c, h_d] 42))
  have BA := Lib.hid (A0.out.trans (A1.out.mono A0.out.size))
  have BW := Lib.hid (BA.out.trans (A2.out.mono BA.out.size))
  obtain ⟨t4, t5, t6⟩ := box_three w #[.int .i64 m.k, .int .i64 m.tc, .int .i64 m.ts, .int .i64 m.ic, .int .i64 m.is, mp, ml] #[.int .i64 g.kd, .int .i64 g.cl, .int .i64 g.sq, .int .i64 g.ow, .int .i64 g.nm, ga, gb, gc, gd] #[.int .i64 h_.kd, .int .i64 h_.cl, .int .i64 h_.sq, .int .i64 h_.ow, .int .i64 h_.nm, h_a, h_b, h_c, h_d] 32 42 42
  have T4 := Lib.hid t4
  have T5 := Lib.hid t5
  have T6 := Lib.hid t6
  have MI := Lib.hid (mi.inn.on BW.out)
  have GI := Lib.hid (kgin_on gi BW.out)
  have HI := Lib.hid (kgin_on h_i BW.out)
  obtain ⟨ts1, ts2, ts3, ts4⟩ := tame_small mi
  have G0 := Lib.hid (GE.mk hg)
  have FH := Lib.hid (kg_fit h_)
  obtain ⟨mo, mc, rfl⟩ := mi.inn.p.len
  obtain ⟨mo2, mc2, rfl⟩ := mi.inn.l.len
  obtain ⟨ao, ac, rfl⟩ := gi.a.shape
  obtain ⟨bo, bc, rfl⟩ := gi.b.shape
  obtain ⟨co, cc, rfl⟩ := gi.c.shape
  obtain ⟨do_, dc, rfl⟩ := gi.d.shape
  obtain ⟨ao2, ac2, rfl⟩ := h_i.a.shape
  obtain ⟨bo2, bc2, rfl⟩ := h_i.b.shape
  obtain ⟨co2, cc2, rfl⟩ := h_i.c.shape
  obtain ⟨do2, dc2, rfl⟩ := h_i.d.shape
  have TM := Lib.hid (And.intro ts1 (And.intro ts2 (And.intro ts3 ts4)))
  clear hg mi gi h_i A0 A1 A2 BA t4 t5 t6 ts1 ts2 ts3 ts4
  go_enter Tryd.func4, Tryd.ntmps4
  go_upto_region 1 with fail
  refine tells_r1 _ _ w.heap.size (w.heap.size + 2) m _ _ h_ _ _ _ _ _ _ _ _ _ _ _ _ _ _ _ _ _ _ _ _ _ _ _ _ _ _ _ _ _ _ _ _ _ _ _ _ _ _ _ _ _ _ _ _ _ _ _ _ _ _ _ _ _ _ _ _ _ _ _ _ _ _ _ _ _ _ _ _ _ _ _ _ _ _ _ _ _ _ _ _ _ _ _ _ _ _ _ _ _ _ _ _ _ _ _ _ _ _ _ _ _ _ _ _ _ _ _ _ _ _ _ _ _ _ _ _ _ _ _ _ _ T4.out MI.out T6.out HI.out ?_
  intro x g9 g10 pv lv nv ov v11 v12 v13 v14 v15 v16 v17 v18 v19 v20 v21 q9 y10 j1 j3 hne hB9 hB10 hb
  obtain ⟨no, nc, rfl⟩ := j3.p.len
  obtain ⟨o0, oc, rfl⟩ := j3.l.len
  obtain ⟨po, pc, rfl⟩ := j1.p.len
  obtain ⟨l0, lc, rfl⟩ := j1.l.len
  have hbw := BW.out.trans (hb.mono BW.out.size)
  have q9 : Box x g9 (mcells (tameM m) (.slice po (tameM m).p.length pc) (.slice l0 (tameM m).l.length lc)) 32 := q9
  have SM := Lib.hid TM.out.1
  have LP := Lib.hid TM.out.2.1
  have LL := Lib.hid TM.out.2.2.1
  have M6 := Lib.hid TM.out.2.2.2
  clear TM T4 T5 T6 MI GI HI BW hb hne hB9 hB10
  generalize tameM m = m1 at *
  generalize h_.m = n at *
  obtain ⟨W, rfl⟩ : ∃ W, W = x := ⟨_, rfl⟩
  obtain ⟨k, tc, ts, ic, is, p, l⟩ := m1
  obtain ⟨k2, tc2, ts2, ic2, is2, p2, l2⟩ := n
  obtain ⟨pl, hpl⟩ : ∃ n, n = p.length := ⟨_, rfl⟩
  obtain ⟨ll, hll⟩ : ∃ n, n = l.length := ⟨_, rfl⟩
  obtain ⟨nl, hnl⟩ : ∃ n, n = p2.length := ⟨_, rfl⟩
  obtain ⟨ol, hol⟩ : ∃ n, n = l2.length := ⟨_, rfl⟩
  have NP := Lib.hid (show p2.length ≤ 1000 by have := FH.out.p5; simp only at this; omega)
  have NL := Lib.hid (show l2.length ≤ 1000 by have := FH.out.l5; simp only at this; omega)
  simp only [← hpl, ← hll, ← hnl, ← hol] at q9 y10 j1 j3
  have X0 := Lib.hid (show Box W g9 #[.int .i64 k, .int .i64 tc, .int .i64 ts, .int .i64 ic, .int .i64 is, .slice po pl pc, .slice l0 ll lc] 32 from q9)
  have Y0 := Lib.hid (show Box W g10 #[.int .i64 k2, .int .i64 tc2, .int .i64 ts2, .int .i64 ic2, .int .i64 is2, .slice no nl nc, .slice o0 ol oc] 32 from y10)
  have I0 := Lib.hid j1
  have J0 := Lib.hid j3
  have B0 := Lib.hid hbw
  clear q9 y10 j1 j3 hbw hpl hll hnl hol
  have RM := Lib.hid (rmsg_any ⟨k, tc, ts, ic, is, p, l⟩ (.slice po pl pc) (.slice l0 ll lc) W I0.out SM.out)
  cases hr : rightM ⟨k, tc, ts, ic, is, p, l⟩ with
  | false =>
    have HR := Lib.hid hr
    rw [hr] at RM
    clear hr
    have x0 := X0.out.cell 0
    have x1 := X0.out.cell 1
    have x2 := X0.out.cell 2
    have x3 := X0.out.cell 3
    have x4 := X0.out.cell 4
    have x5 := X0.out.cell 5
    have x6 := X0.out.cell 6
    simp only [List.getElem?_toArray, List.getElem?_cons_zero, List.getElem?_cons_succ] at x0 x1 x2 x3 x4 x5 x6
    go_wp2_with fail
    refine RM.out.mono ?_
    rintro e4 w4 ⟨rfl, hb⟩
    have B4 := Lib.hid (B0.out.trans (hb.mono B0.out.size))
    have X4 := Lib.hid (X0.out.on hb)
    have I4 := Lib.hid (I0.out.on hb)
    have Y4 := Lib.hid (Y0.out.on hb)
    have J4 := Lib.hid (J0.out.on hb)
    have EC := Lib.hid (enc_no ⟨k, tc, ts, ic, is, p, l⟩ (.slice po pl pc) (.slice l0 ll lc) w4 I4.out SM.out LL.out HR.out)
    clear hb RM B0 X0 I0 Y0 J0 x0 x1 x2 x3 x4 x5 x6
    have x0 := X4.out.cell 0
    have x1 := X4.out.cell 1
    have x2 := X4.out.cell 2
    have x3 := X4.out.cell 3
    have x4 := X4.out.cell 4
    have x5 := X4.out.cell 5
    have x6 := X4.out.cell 6
    simp only [List.getElem?_toArray, List.getElem?_cons_zero, List.getElem?_cons_succ] at x0 x1 x2 x3 x4 x5 x6
    go_wp2_with fail
    refine EC.out.mono ?_
    rintro e5 w5 ⟨⟨v5, rfl, hf⟩, hb⟩
    have B5 := Lib.hid (B4.out.trans (hb.mono B4.out.size))
    have X5 := Lib.hid (X4.out.on hb)
    have I5 := Lib.hid (I4.out.on hb)
    have Y5 := Lib.hid (Y4.out.on hb)
    have J5 := Lib.hid (J4.out.on hb)
    obtain ⟨f5, rfl, _⟩ := hf.ch
    have F5 := Lib.hid hf
    clear hf hb EC B4 X4 I4 Y4 J4 x0 x1 x2 x3 x4 x5 x6
    obtain ⟨sn, hsn⟩ : ∃ b, sameM ⟨k, tc, ts, ic, is, p, l⟩ ⟨k2, tc2, ts2, ic2, is2, p2, l2⟩ = b := ⟨_, rfl⟩
    have HSN := Lib.hid hsn
    have C1 := Lib.hid (fun d os => Calls.regrown_of (d := d) (os := os) ((wright_any ⟨k, tc, ts, ic, is, p, l⟩ (.slice po pl pc) (.slice l0 ll lc) _ (I5.out.on (below_regrown w5 d os)) SM.out LL.out).mono fun _ _ h => ⟨by rw [h.1, HR.out], h.2⟩))
    have C2 := Lib.hid (fun d os => Calls.regrown_of (d := d) (os := os) ((wsame_any ⟨k, tc, ts, ic, is, p, l⟩ ⟨k, tc, ts, ic, is, p, l⟩ (.slice po pl pc) (.slice l0 ll lc) (.slice po pl pc) (.slice l0 ll lc) _ (I5.out.on (below_regrown w5 d os)) (I5.out.on (below_regrown w5 d os)) LP.out LP.out LL.out LL.out).mono fun _ _ h => ⟨by rw [h.1, sameM_refl], h.2⟩))
    have C3 := Lib.hid (fun d os => Calls.regrown_of (d := d) (os := os) ((wsame_any ⟨k, tc, ts, ic, is, p, l⟩ ⟨k2, tc2, ts2, ic2, is2, p2, l2⟩ (.slice po pl pc) (.slice l0 ll lc) (.slice no nl nc) (.slice o0 ol oc) _ (I5.out.on (below_regrown w5 d os)) (J5.out.on (below_regrown w5 d os)) LP.out NP.out LL.out NL.out).mono fun _ _ h => ⟨by rw [h.1, hsn], h.2⟩))
    have C4 := Lib.hid (fun d os => Calls.regrown_of (d := d) (os := os) ((messages_any ⟨k, tc, ts, ic, is, p, l⟩ ⟨k2, tc2, ts2, ic2, is2, p2, l2⟩ (.slice po pl pc) (.slice l0 ll lc) (.slice no nl nc) (.slice o0 ol oc) _ (I5.out.on (below_regrown w5 d os)) (J5.out.on (below_regrown w5 d os)) LP.out NP.out LL.out NL.out).mono fun _ _ h => ⟨by rw [h.1, hsn], h.2⟩))
    have hnn : (sn != sn) = false := by simp
    clear hsn
    have x0 := cell_regrown (show w5.cell? ⟨g9, 0, none⟩ = some (.int .i64 k) from X5.out.cell 0)
    have x1 := cell_regrown (show w5.cell? ⟨g9, 1, none⟩ = some (.int .i64 tc) from X5.out.cell 1)
    have x2 := cell_regrown (show w5.cell? ⟨g9, 2, none⟩ = some (.int .i64 ts) from X5.out.cell 2)
    have x3 := cell_regrown (show w5.cell? ⟨g9, 3, none⟩ = some (.int .i64 ic) from X5.out.cell 3)
    have x4 := cell_regrown (show w5.cell? ⟨g9, 4, none⟩ = some (.int .i64 is) from X5.out.cell 4)
    have x5 := cell_regrown (show w5.cell? ⟨g9, 5, none⟩ = some (.slice po pl pc) from X5.out.cell 5)
    have x6 := cell_regrown (show w5.cell? ⟨g9, 6, none⟩ = some (.slice l0 ll lc) from X5.out.cell 6)
    have y0 := cell_regrown (show w5.cell? ⟨g10, 0, none⟩ = some (.int .i64 k2) from Y5.out.cell 0)
    have y1 := cell_regrown (show w5.cell? ⟨g10, 1, none⟩ = some (.int .i64 tc2) from Y5.out.cell 1)
    have y2 := cell_regrown (show w5.cell? ⟨g10, 2, none⟩ = some (.int .i64 ts2) from Y5.out.cell 2)
    have y3 := cell_regrown (show w5.cell? ⟨g10, 3, none⟩ = some (.int .i64 ic2) from Y5.out.cell 3)
    have y4 := cell_regrown (show w5.cell? ⟨g10, 4, none⟩ = some (.int .i64 is2) from Y5.out.cell 4)
    have y5 := cell_regrown (show w5.cell? ⟨g10, 5, none⟩ = some (.slice no nl nc) from Y5.out.cell 5)
    have y6 := cell_regrown (show w5.cell? ⟨g10, 6, none⟩ = some (.slice o0 ol oc) from Y5.out.cell 6)
    go_upto_region 6 with fail
    refine wp_region_quiet_below (by kernel_rfl) (by kernel_rfl) ?_
    repeat (go_big_quiet_step (first | (with_reducible exact C1.out _ _) | (with_reducible exact C2.out _ _) | (with_reducible exact C3.out _ _) | (with_reducible exact C4.out _ _)))
    refine wpQuiet_nil ?_
    intro _ hw'
    obtain ⟨⟨dq, osq⟩, hw''⟩ := hw'
    subst hw''
    have Z6 := below_regrown w5 dq osq
    have B6 := Lib.hid (B5.out.trans (Z6.mono B5.out.size))
    have F6 := Lib.hid (F5.out.on Z6)
    clear Z6 C1 C2 C3 C4 hnn F5 B5 X5 I5 Y5 J5 x0 x1 x2 x3 x4 x5 x6 y0 y1 y2 y3 y4 y5 y6
    generalize grow (redrawn w5 dq) osq = w6 at *
    have KD := Lib.hid (wkind_ok F6.out (G0.out.on B6.out))
    go_wp2_with fail
    refine KD.out.mono ?_
    rintro e7 w7 ⟨rfl, hb⟩
    have B7 := Lib.hid (B6.out.trans (hb.mono B6.out.size))
    have F7 := Lib.hid (F6.out.on hb)
    have EQ := eqE 1 1 w7 true rfl
    have PL := Lib.hid (wplace_ok F7.out (G0.out.on B7.out))
    clear hb KD B6 F6
    go_wp2_with fail
    refine PL.out.mono ?_
    rintro e8 w8 ⟨rfl, hb⟩
    have B8 := Lib.hid (B7.out.trans (hb.mono B7.out.size))
    have RU := Lib.hid (runs_any w8 (G0.out.on B8.out).eg)
    clear hb PL B7 F7 EQ
    go_wp2_with fail
    refine RU.out.mono ?_
    rintro e9 w9 ⟨rfl, hb⟩
    have B9 := Lib.hid (B8.out.trans (hb.mono B8.out.size))
    clear hb RU B8
    go_wp2_with fail
    go_ret
    exact ⟨rfl, B9.out⟩
  | true =>
    have HR := Lib.hid hr
    rw [hr] at RM
    clear hr
    have x0 := X0.out.cell 0
    have x1 := X0.out.cell 1
    have x2 := X0.out.cell 2
    have x3 := X0.out.cell 3
    have x4 := X0.out.cell 4
    have x5 := X0.out.cell 5
    have x6 := X0.out.cell 6
    simp only [List.getElem?_toArray, List.getElem?_cons_zero, List.getElem?_cons_succ] at x0 x1 x2 x3 x4 x5 x6
    go_wp2_with fail
    refine RM.out.mono ?_
    rintro e4 w4 ⟨rfl, hb⟩
    have B4 := Lib.hid (B0.out.trans (hb.mono B0.out.size))
    have X4 := Lib.hid (X0.out.on hb)
    have I4 := Lib.hid (I0.out.on hb)
    have Y4 := Lib.hid (Y0.out.on hb)
    have J4 := Lib.hid (J0.out.on hb)
    have EC := Lib.hid (enc_ok ⟨k, tc, ts, ic, is, p, l⟩ (.slice po pl pc) (.slice l0 ll lc) w4 I4.out SM.out HR.out)
    have BL := (bytesM_len HR.out).2
    have BK := Lib.hid (decM_back HR.out M6.out)
    have SB := Lib.hid (same_bytes HR.out M6.out FH.out.right FH.out.m64)
    clear hb RM B0 X0 I0 Y0 J0 x0 x1 x2 x3 x4 x5 x6
    generalize hbs : bytesM ⟨k, tc, ts, ic, is, p, l⟩ = bs at *
    have HBS := Lib.hid hbs
    obtain ⟨L, hL⟩ : ∃ L, L = bs.length := ⟨_, rfl⟩
    rw [← hL] at BL
    have HL := Lib.hid hL
    clear hbs hL
    have x0 := X4.out.cell 0
    have x1 := X4.out.cell 1
    have x2 := X4.out.cell 2
    have x3 := X4.out.cell 3
    have x4 := X4.out.cell 4
    have x5 := X4.out.cell 5
    have x6 := X4.out.cell 6
    simp only [List.getElem?_toArray, List.getElem?_cons_zero, List.getElem?_cons_succ] at x0 x1 x2 x3 x4 x5 x6
    go_wp2_with fail
    refine EC.out.mono ?_
    rintro e5 w5 ⟨⟨v5, rfl, ho5⟩, hb⟩
    have B5 := Lib.hid (B4.out.trans (hb.mono B4.out.size))
    have X5 := Lib.hid (X4.out.on hb)
    have I5 := Lib.hid (I4.out.on hb)
    have Y5 := Lib.hid (Y4.out.on hb)
    have J5 := Lib.hid (J4.out.on hb)
    have R5 := Lib.hid (Row.of_own ho5)
    obtain ⟨bo, bc, rfl⟩ := (Row.of_own ho5).len
    rw [← HL.out] at R5 ⊢
    clear ho5 hb EC B4 X4 I4 Y4 J4 x0 x1 x2 x3 x4 x5 x6
    obtain ⟨sn, hsn⟩ : ∃ b, sameM ⟨k, tc, ts, ic, is, p, l⟩ ⟨k2, tc2, ts2, ic2, is2, p2, l2⟩ = b := ⟨_, rfl⟩
    have HSN := Lib.hid hsn
    have C1 := Lib.hid (fun d os => Calls.regrown_of (d := d) (os := os) ((wright_any ⟨k, tc, ts, ic, is, p, l⟩ (.slice po pl pc) (.slice l0 ll lc) _ (I5.out.on (below_regrown w5 d os)) SM.out LL.out).mono fun _ _ h => ⟨by rw [h.1, HR.out], h.2⟩))
    have C2 := Lib.hid (fun d os => Calls.regrown_of (d := d) (os := os) ((wsame_any ⟨k, tc, ts, ic, is, p, l⟩ ⟨k, tc, ts, ic, is, p, l⟩ (.slice po pl pc) (.slice l0 ll lc) (.slice po pl pc) (.slice l0 ll lc) _ (I5.out.on (below_regrown w5 d os)) (I5.out.on (below_regrown w5 d os)) LP.out LP.out LL.out LL.out).mono fun _ _ h => ⟨by rw [h.1, sameM_refl], h.2⟩))
    have C3 := Lib.hid (fun d os => Calls.regrown_of (d := d) (os := os) ((wsame_any ⟨k, tc, ts, ic, is, p, l⟩ ⟨k2, tc2, ts2, ic2, is2, p2, l2⟩ (.slice po pl pc) (.slice l0 ll lc) (.slice no nl nc) (.slice o0 ol oc) _ (I5.out.on (below_regrown w5 d os)) (J5.out.on (below_regrown w5 d os)) LP.out NP.out LL.out NL.out).mono fun _ _ h => ⟨by rw [h.1, hsn], h.2⟩))
    have C4 := Lib.hid (fun d os => Calls.regrown_of (d := d) (os := os) ((messages_any ⟨k, tc, ts, ic, is, p, l⟩ ⟨k2, tc2, ts2, ic2, is2, p2, l2⟩ (.slice po pl pc) (.slice l0 ll lc) (.slice no nl nc) (.slice o0 ol oc) _ (I5.out.on (below_regrown w5 d os)) (J5.out.on (below_regrown w5 d os)) LP.out NP.out LL.out NL.out).mono fun _ _ h => ⟨by rw [h.1, hsn], h.2⟩))
    have hnn : (sn != sn) = false := by simp
    clear hsn
    have x0 := cell_regrown (show w5.cell? ⟨g9, 0, none⟩ = some (.int .i64 k) from X5.out.cell 0)
    have x1 := cell_regrown (show w5.cell? ⟨g9, 1, none⟩ = some (.int .i64 tc) from X5.out.cell 1)
    have x2 := cell_regrown (show w5.cell? ⟨g9, 2, none⟩ = some (.int .i64 ts) from X5.out.cell 2)
    have x3 := cell_regrown (show w5.cell? ⟨g9, 3, none⟩ = some (.int .i64 ic) from X5.out.cell 3)
    have x4 := cell_regrown (show w5.cell? ⟨g9, 4, none⟩ = some (.int .i64 is) from X5.out.cell 4)
    have x5 := cell_regrown (show w5.cell? ⟨g9, 5, none⟩ = some (.slice po pl pc) from X5.out.cell 5)
    have x6 := cell_regrown (show w5.cell? ⟨g9, 6, none⟩ = some (.slice l0 ll lc) from X5.out.cell 6)
    have y0 := cell_regrown (show w5.cell? ⟨g10, 0, none⟩ = some (.int .i64 k2) from Y5.out.cell 0)
    have y1 := cell_regrown (show w5.cell? ⟨g10, 1, none⟩ = some (.int .i64 tc2) from Y5.out.cell 1)
    have y2 := cell_regrown (show w5.cell? ⟨g10, 2, none⟩ = some (.int .i64 ts2) from Y5.out.cell 2)
    have y3 := cell_regrown (show w5.cell? ⟨g10, 3, none⟩ = some (.int .i64 ic2) from Y5.out.cell 3)
    have y4 := cell_regrown (show w5.cell? ⟨g10, 4, none⟩ = some (.int .i64 is2) from Y5.out.cell 4)
    have y5 := cell_regrown (show w5.cell? ⟨g10, 5, none⟩ = some (.slice no nl nc) from Y5.out.cell 5)
    have y6 := cell_regrown (show w5.cell? ⟨g10, 6, none⟩ = some (.slice o0 ol oc) from Y5.out.cell 6)
    go_upto_region 6 with fail
    refine wp_region_quiet_below (by kernel_rfl) (by kernel_rfl) ?_
    repeat (go_big_quiet_step (first | (with_reducible exact C1.out _ _) | (with_reducible exact C2.out _ _) | (with_reducible exact C3.out _ _) | (with_reducible exact C4.out _ _)))
    refine wpQuiet_nil ?_
    intro _ hw'
    obtain ⟨⟨dq, osq⟩, hw''⟩ := hw'
    subst hw''
    have Z6 := below_regrown w5 dq osq
    have B6 := Lib.hid (B5.out.trans (Z6.mono B5.out.size))
    have X6 := Lib.hid (X5.out.on Z6)
    have I6 := Lib.hid (I5.out.on Z6)
    have Y6 := Lib.hid (Y5.out.on Z6)
    have J6 := Lib.hid (J5.out.on Z6)
    have R6 := Lib.hid (R5.out.on Z6)
    clear Z6 C1 C2 C3 C4 hnn R5 B5 X5 I5 Y5 J5 x0 x1 x2 x3 x4 x5 x6 y0 y1 y2 y3 y4 y5 y6
    generalize grow (redrawn w5 dq) osq = w6 at *
    have DC := Lib.hid (dec_some _ bs w6 R6.out ⟨k, tc, ts, ic, is, p, l⟩ BK.out)
    go_wp2_with fail
    refine DC.out.mono ?_
    rintro e7 w7 ⟨⟨xv, yv, rfl, hop, hol⟩, hb⟩
    have B7 := Lib.hid (B6.out.trans (hb.mono B6.out.size))
    have X7 := Lib.hid (X6.out.on hb)
    have I7 := Lib.hid (I6.out.on hb)
    have Y7 := Lib.hid (Y6.out.on hb)
    have J7 := Lib.hid (J6.out.on hb)
    have R7 := Lib.hid (R6.out.on hb)
    obtain ⟨xo, xc, rfl⟩ := (Row.of_own hop).len
    obtain ⟨yo, yc, rfl⟩ := (Row.of_own hol).len
    obtain ⟨xl, hxl⟩ : ∃ n, n = p.length := ⟨_, rfl⟩
    obtain ⟨yl, hyl⟩ : ∃ n, n = l.length := ⟨_, rfl⟩
    have hin : MgIn w7 ⟨k, tc, ts, ic, is, p, l⟩ (.slice xo p.length xc) (.slice yo l.length yc) := ⟨Row.of_own hop, row_EA.2 (Row.of_own hol)⟩
    simp only [← hxl, ← hyl] at hin ⊢
    have N8 := Lib.hid (new_below w7 (.cells #[.int .i64 k, .int .i64 tc, .int .i64 ts, .int .i64 ic, .int .i64 is, .slice xo xl xc, .slice yo yl yc] 32))
    have Z8 := Lib.hid (box_new w7 #[.int .i64 k, .int .i64 tc, .int .i64 ts, .int .i64 ic, .int .i64 is, .slice xo xl xc, .slice yo yl yc] 32)
    have W8 := Lib.hid (hin.on N8.out)
    have B8 := Lib.hid (B7.out.trans (N8.out.mono B7.out.size))
    have X8 := Lib.hid (X7.out.on N8.out)
    have I8 := Lib.hid (I7.out.on N8.out)
    have Y8 := Lib.hid (Y7.out.on N8.out)
    have J8 := Lib.hid (J7.out.on N8.out)
    have R8 := Lib.hid (R7.out.on N8.out)
    have EC := Lib.hid (enc_ok ⟨k2, tc2, ts2, ic2, is2, p2, l2⟩ (.slice no nl nc) (.slice o0 ol oc) _ J8.out FH.out.small FH.out.right)
    clear hb hop hol hin DC R6 R7 N8 hxl hyl B6 X6 I6 Y6 J6 B7 X7 I7 Y7 J7
    generalize hcs : bytesM ⟨k2, tc2, ts2, ic2, is2, p2, l2⟩ = cs at *
    obtain ⟨M, hM⟩ : ∃ M, M = cs.length := ⟨_, rfl⟩
    have HM := Lib.hid hM
    clear hcs hM
    have y0 := Y8.out.cell 0
    have y1 := Y8.out.cell 1
    have y2 := Y8.out.cell 2
    have y3 := Y8.out.cell 3
    have y4 := Y8.out.cell 4
    have y5 := Y8.out.cell 5
    have y6 := Y8.out.cell 6
    simp only [List.getElem?_toArray, List.getElem?_cons_zero, List.getElem?_cons_succ] at y0 y1 y2 y3 y4 y5 y6
    go_wp2_with fail
    refine EC.out.mono ?_
    rintro e9 w9 ⟨⟨v9_, rfl, ho9⟩, hb⟩
    have B9 := Lib.hid (B8.out.trans (hb.mono B8.out.size))
    have X9 := Lib.hid (X8.out.on hb)
    have I9 := Lib.hid (I8.out.on hb)
    have Y9 := Lib.hid (Y8.out.on hb)
    have J9 := Lib.hid (J8.out.on hb)
    have R9 := Lib.hid (R8.out.on hb)
    have Z9 := Lib.hid (Z8.out.on hb)
    have W9 := Lib.hid (W8.out.on hb)
    have S9 := Lib.hid (Row.of_own ho9)
    obtain ⟨co, cc, rfl⟩ := (Row.of_own ho9).len
    rw [← HM.out] at S9 ⊢
    clear ho9 hb EC R8 Z8 W8 B8 X8 I8 Y8 J8 y0 y1 y2 y3 y4 y5 y6
    go_upto_region 12 with fail
    refine tells_r12 _ w9 g9 g10 w7.heap.size ⟨k, tc, ts, ic, is, p, l⟩ ⟨k2, tc2, ts2, ic2, is2, p2, l2⟩ (.slice po pl pc) (.slice l0 ll lc) (.slice no nl nc) (.slice o0 ol oc) (.slice xo xl xc) (.slice yo yl yc) bo co L M bc cc bs cs sn _ _ _ _ _ _ _ _ _ _ _ _ _ _ _ _ _ _ _ _ _ _ _ _ _ _ _ _ _ _ _ _ _ _ _ _ _ _ _ _ _ _ _ _ _ _ _ _ _ _ _ _ _ _ _ _ _ _ _ _ _ _ _ _ _ _ _ _ _ _ _ _ _ _ _ _ _ _ _ _ _ _ _ _ _ _ _ _ _ _ _ _ _ _ _ _ _ _ _ _ _ _ _ _ _ _ _ _ _ _ _ _ X9.out I9.out Y9.out J9.out Z9.out W9.out R9.out S9.out (by omega) HR.out HBS.out (by rw [SB.out]; exact HSN.out) HSN.out LP.out LL.out NP.out NL.out (G0.out.on B9.out) ?_
    intro a x hd h8 hb
    have B10 := B9.out.trans (hb.mono B9.out.size)
    simp only [Exit.then]
    apply_assumption
    go_wp2_with fail
    refine bodyPost_ret (v := .bool true) (by simp [results, Tryd.results4, go_sem, h8]) hd ⟨rfl, B10⟩
end Go.Proofs.YtfcgfnmokbbcaaaDoor.Ws

namespace Go.Proofs.YtfcgfnmokbbcaaaDoor.Ws
open Go.RowKit Go.Sort Go.Proofs.YtfcgfnmokbbcaaaDoor Go.Proofs.YtfcgfnmokbbcaaaDoor.Rw Go.Proofs.YtfcgfnmokbbcaaaDoor.Nm Go.Proofs.YtfcgfnmokbbcaaaDoor.At Go.Proofs.YtfcgfnmokbbcaaaDoor.Pr Go.Proofs.YtfcgfnmokbbcaaaDoor.Wr Go.Proofs.YtfcgfnmokbbcaaaDoor.Wi Go.Proofs.YtfcgfnmokbbcaaaDoor.In Go.Proofs.YtfcgfnmokbbcaaaDoor.Va

set_option maxRecDepth 100000 in
set_option maxHeartbeats 64000000 in
theorem tells_own (m : Mg) (mp ml : Value) (g : Kg) (ga gb gc gd : Value) (h_ : Kg) (h_a h_b h_c h_d : Value) (w : World) (hg : Fa.EG w) (mi : RawIn w m mp ml) (gi : KgIn w g ga gb gc gd) (h_i : KgIn w h_ h_a h_b h_c h_d) :
    Calls Tryd.prog 4 #[mv m mp ml, kgv g ga gb gc gd, kgv h_ h_a h_b h_c h_d, .bool true] w (RQ w) := by
  have A0 := Lib.hid (new_below w (.cells #[.int .i64 m.k, .int .i64 m.tc, .int .i64 m.ts, .int .i64 m.ic, .int .i64 m.is, mp, ml] 32))
  have A1 := Lib.hid (new_below (w.alloc (.cells #[.int .i64 m.k, .int .i64 m.tc, .int .i64 m.ts, .int .i64 m.ic, .int .i64 m.is, mp, ml] 32)) (.cells #[.int .i64 g.kd, .int .i64 g.cl, .int .i64 g.sq, .int .i64 g.ow, .int .i64 g.nm, ga, gb, gc, gd] 42))
  have A2 := Lib.hid (new_below ((w.alloc (.cells #[.int .i64 m.k, .int .i64 m.tc, .int .i64 m.ts, .int .i64 m.ic, .int .i64 m.is, mp, ml] 32)).alloc (.cells #[.int .i64 g.kd, .int .i64 g.cl, .int .i64 g.sq, .int .i64 g.ow, .int .i64 g.nm, ga, gb, gc, gd] 42)) (.cells #[.int .i64 h_.kd, .int .i64 h_.cl, .int .i64 h_.sq, .int .i64 h_.ow, .int .i64 h_.nm, h_a, h_b, h_c, h_d] 42))
  have BA := Lib.hid (A0.out.trans (A1.out.mono A0.out.size))
  have BW := Lib.hid (BA.out.trans (A2.out.mono BA.out.size))
  obtain ⟨t4, t5, t6⟩ := box_three w #[.int .i64 m.k, .int .i64 m.tc, .int .i64 m.ts, .int .i64 m.ic, .int .i64 m.is, mp, ml] #[.int .i64 g.kd, .int .i64 g.cl, .int .i64 g.sq, .int .i64 g.ow, .int .i64 g.nm, ga, gb, gc, gd] #[.int .i64 h_.kd, .int .i64 h_.cl, .int .i64 h_.sq, .int .i64 h_.ow, .int .i64 h_.nm, h_a, h_b, h_c, h_d] 32 42 42
  have T4 := Lib.hid t4
  have T5 := Lib.hid t5
  have T6 := Lib.hid t6
  have MI := Lib.hid (mi.inn.on BW.out)
  have GI := Lib.hid (kgin_on gi BW.out)
  have HI := Lib.hid (kgin_on h_i BW.out)
  obtain ⟨ts1, ts2, ts3, ts4⟩ := tame_small mi
  have G0 := Lib.hid (GE.mk hg)
  have FH := Lib.hid (kg_fit h_)
  obtain ⟨mo, mc, rfl⟩ := mi.inn.p.len
  obtain ⟨mo2, mc2, rfl⟩ := mi.inn.l.len
  obtain ⟨ao, ac, rfl⟩ := gi.a.shape
  obtain ⟨bo, bc, rfl⟩ := gi.b.shape
  obtain ⟨co, cc, rfl⟩ := gi.c.shape
  obtain ⟨do_, dc, rfl⟩ := gi.d.shape
  obtain ⟨ao2, ac2, rfl⟩ := h_i.a.shape
  obtain ⟨bo2, bc2, rfl⟩ := h_i.b.shape
  obtain ⟨co2, cc2, rfl⟩ := h_i.c.shape
  obtain ⟨do2, dc2, rfl⟩ := h_i.d.shape
  have TM := Lib.hid (And.intro ts1 (And.intro ts2 (And.intro ts3 ts4)))
  clear hg mi gi h_i A0 A1 A2 BA t4 t5 t6 ts1 ts2 ts3 ts4
  go_enter Tryd.func4, Tryd.ntmps4
  go_upto_region 1 with fail
  refine tells_r1 _ _ w.heap.size (w.heap.size + 2) m _ _ h_ _ _ _ _ _ _ _ _ _ _ _ _ _ _ _ _ _ _ _ _ _ _ _ _ _ _ _ _ _ _ _ _ _ _ _ _ _ _ _ _ _ _ _ _ _ _ _ _ _ _ _ _ _ _ _ _ _ _ _ _ _ _ _ _ _ _ _ _ _ _ _ _ _ _ _ _ _ _ _ _ _ _ _ _ _ _ _ _ _ _ _ _ _ _ _ _ _ _ _ _ _ _ _ _ _ _ _ _ _ _ _ _ _ _ _ _ _ _ _ _ _ T4.out MI.out T6.out HI.out ?_
  intro x g9 g10 pv lv nv ov v11 v12 v13 v14 v15 v16 v17 v18 v19 v20 v21 q9 y10 j1 j3 hne hB9 hB10 hb
  obtain ⟨no, nc, rfl⟩ := j3.p.len
  obtain ⟨o0, oc, rfl⟩ := j3.l.len
  obtain ⟨to_, tc_, rfl⟩ := j1.p.len
  obtain ⟨uo, uc, rfl⟩ := j1.l.len
  have GM := Lib.hid (message_any g _ _ _ _ x (kgin_on GI.out hb))
  have T5x := T5.out.on hb
  have z0 := T5x.cell 0
  have z1 := T5x.cell 1
  have z2 := T5x.cell 2
  have z3 := T5x.cell 3
  have z4 := T5x.cell 4
  have z5 := T5x.cell 5
  have z6 := T5x.cell 6
  have z7 := T5x.cell 7
  have z8 := T5x.cell 8
  simp only [List.getElem?_toArray, List.getElem?_cons_zero, List.getElem?_cons_succ] at z0 z1 z2 z3 z4 z5 z6 z7 z8
  go_wp2_with fail
  refine GM.out.mono ?_
  rintro e2 w2 ⟨⟨pv2, lv2, rfl, hin2⟩, hb2⟩
  obtain ⟨po, pc, rfl⟩ := hin2.p.len
  obtain ⟨l0, lc, rfl⟩ := hin2.l.len
  have q92 := q9.on hb2
  have y102 := y10.on hb2
  have hbx := BW.out.trans (hb.mono BW.out.size)
  have hb3 := hbx.trans (hb2.mono hbx.size)
  have FB := Lib.hid (setM_box q92 (.int .i64 g.m.k) (.int .i64 g.m.tc) (.int .i64 g.m.ts) (.int .i64 g.m.ic) (.int .i64 g.m.is) (.slice po g.m.p.length pc) (.slice l0 g.m.l.length lc))
  have FK := setM_heap w2 g9 (.int .i64 g.m.k) (.int .i64 g.m.tc) (.int .i64 g.m.ts) (.int .i64 g.m.ic) (.int .i64 g.m.is) (.slice po g.m.p.length pc) (.slice l0 g.m.l.length lc)
  have FI := Lib.hid (mgin_keep hin2 q92 (seven_text m.k m.tc m.ts m.ic m.is to_ uo _ tc_ _ uc) FK)
  have FN := Lib.hid (mgin_keep (j3.on hb2) q92 (seven_text m.k m.tc m.ts m.ic m.is to_ uo _ tc_ _ uc) FK)
  have FY := Lib.hid ((FK g10 (fun e => hne e.symm)).trans y102)
  have FW := Lib.hid (setM_below hb3 (b := g9) (by have := BW.out.size; omega) hb3.size (.int .i64 g.m.k) (.int .i64 g.m.tc) (.int .i64 g.m.ts) (.int .i64 g.m.ic) (.int .i64 g.m.is) (.slice po g.m.p.length pc) (.slice l0 g.m.l.length lc))
  have c0 := q92.cell 0
  have c1 := q92.cell 1
  have c2 := q92.cell 2
  have c3 := q92.cell 3
  have c4 := q92.cell 4
  have c5 := q92.cell 5
  have c6 := q92.cell 6
  simp only [List.getElem?_toArray, List.getElem?_cons_zero, List.getElem?_cons_succ] at c0 c1 c2 c3 c4 c5 c6
  have f0 := q92.fr 0
  have f1 := q92.fr 1
  have f2 := q92.fr 2
  have f3 := q92.fr 3
  have f4 := q92.fr 4
  have f5 := q92.fr 5
  have f6 := q92.fr 6
  have zz := q92.lt
  have FT := kg_fit g
  have SM := Lib.hid FT.small
  have LP := Lib.hid (show g.m.p.length ≤ 1000 by have := FT.p5; omega)
  have LL := Lib.hid (show g.m.l.length ≤ 1000 by have := FT.l5; omega)
  have M6 := Lib.hid FT.m64
  clear TM T4 T5 T6 MI GI HI BW hb hb2 hb3 hbx hne hB9 hB10 FK q92 y102 q9 y10 hin2 j1 j3 GM T5x FT z0 z1 z2 z3 z4 z5 z6 z7 z8
  go_upto_region 4 with fail
  clear zz c0 c1 c2 c3 c4 c5 c6 f0 f1 f2 f3 f4 f5 f6
  unfold setM at FB FI FN FY FW
  generalize (((((((w2.setCell ⟨g9, 0, none⟩ (.int .i64 g.m.k)).setCell ⟨g9, 1, none⟩ (.int .i64 g.m.tc)).setCell ⟨g9, 2, none⟩ (.int .i64 g.m.ts)).setCell ⟨g9, 3, none⟩ (.int .i64 g.m.ic)).setCell ⟨g9, 4, none⟩ (.int .i64 g.m.is)).setCell ⟨g9, 5, none⟩ (.slice po g.m.p.length pc)).setCell ⟨g9, 6, none⟩ (.slice l0 g.m.l.length lc)) = W at *
  have q9 : Box W g9 (mcells g.m (.slice po g.m.p.length pc) (.slice l0 g.m.l.length lc)) 32 := FB.out
  have y10 : Box W g10 (mcells h_.m (.slice no h_.m.p.length nc) (.slice o0 h_.m.l.length oc)) 32 := FY.out
  have j1 := FI.out
  have j3 := FN.out
  have hbw := FW.out
  clear FB FI FN FY FW
  generalize g.m = m1 at *
  generalize h_.m = n at *
  obtain ⟨k, tc, ts, ic, is, p, l⟩ := m1
  obtain ⟨k2, tc2, ts2, ic2, is2, p2, l2⟩ := n
  obtain ⟨pl, hpl⟩ : ∃ n, n = p.length := ⟨_, rfl⟩
  obtain ⟨ll, hll⟩ : ∃ n, n = l.length := ⟨_, rfl⟩
  obtain ⟨nl, hnl⟩ : ∃ n, n = p2.length := ⟨_, rfl⟩
  obtain ⟨ol, hol⟩ : ∃ n, n = l2.length := ⟨_, rfl⟩
  have NP := Lib.hid (show p2.length ≤ 1000 by have := FH.out.p5; simp only at this; omega)
  have NL := Lib.hid (show l2.length ≤ 1000 by have := FH.out.l5; simp only at this; omega)
  simp only [← hpl, ← hll, ← hnl, ← hol] at q9 y10 j1 j3
  have X0 := Lib.hid (show Box W g9 #[.int .i64 k, .int .i64 tc, .int .i64 ts, .int .i64 ic, .int .i64 is, .slice po pl pc, .slice l0 ll lc] 32 from q9)
  have Y0 := Lib.hid (show Box W g10 #[.int .i64 k2, .int .i64 tc2, .int .i64 ts2, .int .i64 ic2, .int .i64 is2, .slice no nl nc, .slice o0 ol oc] 32 from y10)
  have I0 := Lib.hid j1
  have J0 := Lib.hid j3
  have B0 := Lib.hid hbw
  clear q9 y10 j1 j3 hbw hpl hll hnl hol
  have RM := Lib.hid (rmsg_any ⟨k, tc, ts, ic, is, p, l⟩ (.slice po pl pc) (.slice l0 ll lc) W I0.out SM.out)
  cases hr : rightM ⟨k, tc, ts, ic, is, p, l⟩ with
  | false =>
    have HR := Lib.hid hr
    rw [hr] at RM
    clear hr
    have x0 := X0.out.cell 0
    have x1 := X0.out.cell 1
    have x2 := X0.out.cell 2
    have x3 := X0.out.cell 3
    have x4 := X0.out.cell 4
    have x5 := X0.out.cell 5
    have x6 := X0.out.cell 6
    simp only [List.getElem?_toArray, List.getElem?_cons_zero, List.getElem?_cons_succ] at x0 x1 x2 x3 x4 x5 x6
    go_wp2_with fail
    refine RM.out.mono ?_
    rintro e4 w4 ⟨rfl, hb⟩
    have B4 := Lib.hid (B0.out.trans (hb.mono B0.out.size))
    have X4 := Lib.hid (X0.out.on hb)
    have I4 := Lib.hid (I0.out.on hb)
    have Y4 := Lib.hid (Y0.out.on hb)
    have J4 := Lib.hid (J0.out.on hb)
    have EC := Lib.hid (enc_no ⟨k, tc, ts, ic, is, p, l⟩ (.slice po pl pc) (.slice l0 ll lc) w4 I4.out SM.out LL.out HR.out)
    clear hb RM B0 X0 I0 Y0 J0 x0 x1 x2 x3 x4 x5 x6
    have x0 := X4.out.cell 0
    have x1 := X4.out.cell 1
    have x2 := X4.out.cell 2
    have x3 := X4.out.cell 3
    have x4 := X4.out.cell 4
    have x5 := X4.out.cell 5
    have x6 := X4.out.cell 6
    simp only [List.getElem?_toArray, List.getElem?_cons_zero, List.getElem?_cons_succ] at x0 x1 x2 x3 x4 x5 x6
    go_wp2_with fail
    refine EC.out.mono ?_
    rintro e5 w5 ⟨⟨v5, rfl, hf⟩, hb⟩
    have B5 := Lib.hid (B4.out.trans (hb.mono B4.out.size))
    have X5 := Lib.hid (X4.out.on hb)
    have I5 := Lib.hid (I4.out.on hb)
    have Y5 := Lib.hid (Y4.out.on hb)
    have J5 := Lib.hid (J4.out.on hb)
    obtain ⟨f5, rfl, _⟩ := hf.ch
    have F5 := Lib.hid hf
    clear hf hb EC B4 X4 I4 Y4 J4 x0 x1 x2 x3 x4 x5 x6
    obtain ⟨sn, hsn⟩ : ∃ b, sameM ⟨k, tc, ts, ic, is, p, l⟩ ⟨k2, tc2, ts2, ic2, is2, p2, l2⟩ = b := ⟨_, rfl⟩
    have HSN := Lib.hid hsn
    have C1 := Lib.hid (fun d os => Calls.regrown_of (d := d) (os := os) ((wright_any ⟨k, tc, ts, ic, is, p, l⟩ (.slice po pl pc) (.slice l0 ll lc) _ (I5.out.on (below_regrown w5 d os)) SM.out LL.out).mono fun _ _ h => ⟨by rw [h.1, HR.out], h.2⟩))
    have C2 := Lib.hid (fun d os => Calls.regrown_of (d := d) (os := os) ((wsame_any ⟨k, tc, ts, ic, is, p, l⟩ ⟨k, tc, ts, ic, is, p, l⟩ (.slice po pl pc) (.slice l0 ll lc) (.slice po pl pc) (.slice l0 ll lc) _ (I5.out.on (below_regrown w5 d os)) (I5.out.on (below_regrown w5 d os)) LP.out LP.out LL.out LL.out).mono fun _ _ h => ⟨by rw [h.1, sameM_refl], h.2⟩))
    have C3 := Lib.hid (fun d os => Calls.regrown_of (d := d) (os := os) ((wsame_any ⟨k, tc, ts, ic, is, p, l⟩ ⟨k2, tc2, ts2, ic2, is2, p2, l2⟩ (.slice po pl pc) (.slice l0 ll lc) (.slice no nl nc) (.slice o0 ol oc) _ (I5.out.on (below_regrown w5 d os)) (J5.out.on (below_regrown w5 d os)) LP.out NP.out LL.out NL.out).mono fun _ _ h => ⟨by rw [h.1, hsn], h.2⟩))
    have C4 := Lib.hid (fun d os => Calls.regrown_of (d := d) (os := os) ((messages_any ⟨k, tc, ts, ic, is, p, l⟩ ⟨k2, tc2, ts2, ic2, is2, p2, l2⟩ (.slice po pl pc) (.slice l0 ll lc) (.slice no nl nc) (.slice o0 ol oc) _ (I5.out.on (below_regrown w5 d os)) (J5.out.on (below_regrown w5 d os)) LP.out NP.out LL.out NL.out).mono fun _ _ h => ⟨by rw [h.1, hsn], h.2⟩))
    have hnn : (sn != sn) = false := by simp
    clear hsn
    have x0 := cell_regrown (show w5.cell? ⟨g9, 0, none⟩ = some (.int .i64 k) from X5.out.cell 0)
    have x1 := cell_regrown (show w5.cell? ⟨g9, 1, none⟩ = some (.int .i64 tc) from X5.out.cell 1)
    have x2 := cell_regrown (show w5.cell? ⟨g9, 2, none⟩ = some (.int .i64 ts) from X5.out.cell 2)
    have x3 := cell_regrown (show w5.cell? ⟨g9, 3, none⟩ = some (.int .i64 ic) from X5.out.cell 3)
    have x4 := cell_regrown (show w5.cell? ⟨g9, 4, none⟩ = some (.int .i64 is) from X5.out.cell 4)
    have x5 := cell_regrown (show w5.cell? ⟨g9, 5, none⟩ = some (.slice po pl pc) from X5.out.cell 5)
    have x6 := cell_regrown (show w5.cell? ⟨g9, 6, none⟩ = some (.slice l0 ll lc) from X5.out.cell 6)
    have y0 := cell_regrown (show w5.cell? ⟨g10, 0, none⟩ = some (.int .i64 k2) from Y5.out.cell 0)
    have y1 := cell_regrown (show w5.cell? ⟨g10, 1, none⟩ = some (.int .i64 tc2) from Y5.out.cell 1)
    have y2 := cell_regrown (show w5.cell? ⟨g10, 2, none⟩ = some (.int .i64 ts2) from Y5.out.cell 2)
    have y3 := cell_regrown (show w5.cell? ⟨g10, 3, none⟩ = some (.int .i64 ic2) from Y5.out.cell 3)
    have y4 := cell_regrown (show w5.cell? ⟨g10, 4, none⟩ = some (.int .i64 is2) from Y5.out.cell 4)
    have y5 := cell_regrown (show w5.cell? ⟨g10, 5, none⟩ = some (.slice no nl nc) from Y5.out.cell 5)
    have y6 := cell_regrown (show w5.cell? ⟨g10, 6, none⟩ = some (.slice o0 ol oc) from Y5.out.cell 6)
    go_upto_region 6 with fail
    refine wp_region_quiet_below (by kernel_rfl) (by kernel_rfl) ?_
    repeat (go_big_quiet_step (first | (with_reducible exact C1.out _ _) | (with_reducible exact C2.out _ _) | (with_reducible exact C3.out _ _) | (with_reducible exact C4.out _ _)))
    refine wpQuiet_nil ?_
    intro _ hw'
    obtain ⟨⟨dq, osq⟩, hw''⟩ := hw'
    subst hw''
    have Z6 := below_regrown w5 dq osq
    have B6 := Lib.hid (B5.out.trans (Z6.mono B5.out.size))
    have F6 := Lib.hid (F5.out.on Z6)
    clear Z6 C1 C2 C3 C4 hnn F5 B5 X5 I5 Y5 J5 x0 x1 x2 x3 x4 x5 x6 y0 y1 y2 y3 y4 y5 y6
    generalize grow (redrawn w5 dq) osq = w6 at *
    have KD := Lib.hid (wkind_ok F6.out (G0.out.on B6.out))
    go_wp2_with fail
    refine KD.out.mono ?_
    rintro e7 w7 ⟨rfl, hb⟩
    have B7 := Lib.hid (B6.out.trans (hb.mono B6.out.size))
    have F7 := Lib.hid (F6.out.on hb)
    have EQ := eqE 1 1 w7 true rfl
    have PL := Lib.hid (wplace_ok F7.out (G0.out.on B7.out))
    clear hb KD B6 F6
    go_wp2_with fail
    refine PL.out.mono ?_
    rintro e8 w8 ⟨rfl, hb⟩
    have B8 := Lib.hid (B7.out.trans (hb.mono B7.out.size))
    have RU := Lib.hid (runs_any w8 (G0.out.on B8.out).eg)
    clear hb PL B7 F7 EQ
    go_wp2_with fail
    refine RU.out.mono ?_
    rintro e9 w9 ⟨rfl, hb⟩
    have B9 := Lib.hid (B8.out.trans (hb.mono B8.out.size))
    clear hb RU B8
    go_wp2_with fail
    go_ret
    exact ⟨rfl, B9.out⟩
  | true =>
    have HR := Lib.hid hr
    rw [hr] at RM
    clear hr
    have x0 := X0.out.cell 0
    have x1 := X0.out.cell 1
    have x2 := X0.out.cell 2
    have x3 := X0.out.cell 3
    have x4 := X0.out.cell 4
    have x5 := X0.out.cell 5
    have x6 := X0.out.cell 6
    simp only [List.getElem?_toArray, List.getElem?_cons_zero, List.getElem?_cons_succ] at x0 x1 x2 x3 x4 x5 x6
    go_wp2_with fail
    refine RM.out.mono ?_
    rintro e4 w4 ⟨rfl, hb⟩
    have B4 := Lib.hid (B0.out.trans (hb.mono B0.out.size))
    have X4 := Lib.hid (X0.out.on hb)
    have I4 := Lib.hid (I0.out.on hb)
    have Y4 := Lib.hid (Y0.out.on hb)
    have J4 := Lib.hid (J0.out.on hb)
    have EC := Lib.hid (enc_ok ⟨k, tc, ts, ic, is, p, l⟩ (.slice po pl pc) (.slice l0 ll lc) w4 I4.out SM.out HR.out)
    have BL := (bytesM_len HR.out).2
    have BK := Lib.hid (decM_back HR.out M6.out)
    have SB := Lib.hid (same_bytes HR.out M6.out FH.out.right FH.out.m64)
    clear hb RM B0 X0 I0 Y0 J0 x0 x1 x2 x3 x4 x5 x6
    generalize hbs : bytesM ⟨k, tc, ts, ic, is, p, l⟩ = bs at *
    have HBS := Lib.hid hbs
    obtain ⟨L, hL⟩ : ∃ L, L = bs.length := ⟨_, rfl⟩
    rw [← hL] at BL
    have HL := Lib.hid hL
    clear hbs hL
    have x0 := X4.out.cell 0
    have x1 := X4.out.cell 1
    have x2 := X4.out.cell 2
    have x3 := X4.out.cell 3
    have x4 := X4.out.cell 4
    have x5 := X4.out.cell 5
    have x6 := X4.out.cell 6
    simp only [List.getElem?_toArray, List.getElem?_cons_zero, List.getElem?_cons_succ] at x0 x1 x2 x3 x4 x5 x6
    go_wp2_with fail
    refine EC.out.mono ?_
    rintro e5 w5 ⟨⟨v5, rfl, ho5⟩, hb⟩
    have B5 := Lib.hid (B4.out.trans (hb.mono B4.out.size))
    have X5 := Lib.hid (X4.out.on hb)
    have I5 := Lib.hid (I4.out.on hb)
    have Y5 := Lib.hid (Y4.out.on hb)
    have J5 := Lib.hid (J4.out.on hb)
    have R5 := Lib.hid (Row.of_own ho5)
    obtain ⟨bo, bc, rfl⟩ := (Row.of_own ho5).len
    rw [← HL.out] at R5 ⊢
    clear ho5 hb EC B4 X4 I4 Y4 J4 x0 x1 x2 x3 x4 x5 x6
    obtain ⟨sn, hsn⟩ : ∃ b, sameM ⟨k, tc, ts, ic, is, p, l⟩ ⟨k2, tc2, ts2, ic2, is2, p2, l2⟩ = b := ⟨_, rfl⟩
    have HSN := Lib.hid hsn
    have C1 := Lib.hid (fun d os => Calls.regrown_of (d := d) (os := os) ((wright_any ⟨k, tc, ts, ic, is, p, l⟩ (.slice po pl pc) (.slice l0 ll lc) _ (I5.out.on (below_regrown w5 d os)) SM.out LL.out).mono fun _ _ h => ⟨by rw [h.1, HR.out], h.2⟩))
    have C2 := Lib.hid (fun d os => Calls.regrown_of (d := d) (os := os) ((wsame_any ⟨k, tc, ts, ic, is, p, l⟩ ⟨k, tc, ts, ic, is, p, l⟩ (.slice po pl pc) (.slice l0 ll lc) (.slice po pl pc) (.slice l0 ll lc) _ (I5.out.on (below_regrown w5 d os)) (I5.out.on (below_regrown w5 d os)) LP.out LP.out LL.out LL.out).mono fun _ _ h => ⟨by rw [h.1, sameM_refl], h.2⟩))
    have C3 := Lib.hid (fun d os => Calls.regrown_of (d := d) (os := os) ((wsame_any ⟨k, tc, ts, ic, is, p, l⟩ ⟨k2, tc2, ts2, ic2, is2, p2, l2⟩ (.slice po pl pc) (.slice l0 ll lc) (.slice no nl nc) (.slice o0 ol oc) _ (I5.out.on (below_regrown w5 d os)) (J5.out.on (below_regrown w5 d os)) LP.out NP.out LL.out NL.out).mono fun _ _ h => ⟨by rw [h.1, hsn], h.2⟩))
    have C4 := Lib.hid (fun d os => Calls.regrown_of (d := d) (os := os) ((messages_any ⟨k, tc, ts, ic, is, p, l⟩ ⟨k2, tc2, ts2, ic2, is2, p2, l2⟩ (.slice po pl pc) (.slice l0 ll lc) (.slice no nl nc) (.slice o0 ol oc) _ (I5.out.on (below_regrown w5 d os)) (J5.out.on (below_regrown w5 d os)) LP.out NP.out LL.out NL.out).mono fun _ _ h => ⟨by rw [h.1, hsn], h.2⟩))
    have hnn : (sn != sn) = false := by simp
    clear hsn
    have x0 := cell_regrown (show w5.cell? ⟨g9, 0, none⟩ = some (.int .i64 k) from X5.out.cell 0)
    have x1 := cell_regrown (show w5.cell? ⟨g9, 1, none⟩ = some (.int .i64 tc) from X5.out.cell 1)
    have x2 := cell_regrown (show w5.cell? ⟨g9, 2, none⟩ = some (.int .i64 ts) from X5.out.cell 2)
    have x3 := cell_regrown (show w5.cell? ⟨g9, 3, none⟩ = some (.int .i64 ic) from X5.out.cell 3)
    have x4 := cell_regrown (show w5.cell? ⟨g9, 4, none⟩ = some (.int .i64 is) from X5.out.cell 4)
    have x5 := cell_regrown (show w5.cell? ⟨g9, 5, none⟩ = some (.slice po pl pc) from X5.out.cell 5)
    have x6 := cell_regrown (show w5.cell? ⟨g9, 6, none⟩ = some (.slice l0 ll lc) from X5.out.cell 6)
    have y0 := cell_regrown (show w5.cell? ⟨g10, 0, none⟩ = some (.int .i64 k2) from Y5.out.cell 0)
    have y1 := cell_regrown (show w5.cell? ⟨g10, 1, none⟩ = some (.int .i64 tc2) from Y5.out.cell 1)
    have y2 := cell_regrown (show w5.cell? ⟨g10, 2, none⟩ = some (.int .i64 ts2) from Y5.out.cell 2)
    have y3 := cell_regrown (show w5.cell? ⟨g10, 3, none⟩ = some (.int .i64 ic2) from Y5.out.cell 3)
    have y4 := cell_regrown (show w5.cell? ⟨g10, 4, none⟩ = some (.int .i64 is2) from Y5.out.cell 4)
    have y5 := cell_regrown (show w5.cell? ⟨g10, 5, none⟩ = some (.slice no nl nc) from Y5.out.cell 5)
    have y6 := cell_regrown (show w5.cell? ⟨g10, 6, none⟩ = some (.slice o0 ol oc) from Y5.out.cell 6)
    go_upto_region 6 with fail
    refine wp_region_quiet_below (by kernel_rfl) (by kernel_rfl) ?_
    repeat (go_big_quiet_step (first | (with_reducible exact C1.out _ _) | (with_reducible exact C2.out _ _) | (with_reducible exact C3.out _ _) | (with_reducible exact C4.out _ _)))
    refine wpQuiet_nil ?_
    intro _ hw'
    obtain ⟨⟨dq, osq⟩, hw''⟩ := hw'
    subst hw''
    have Z6 := below_regrown w5 dq osq
    have B6 := Lib.hid (B5.out.trans (Z6.mono B5.out.size))
    have X6 := Lib.hid (X5.out.on Z6)
    have I6 := Lib.hid (I5.out.on Z6)
    have Y6 := Lib.hid (Y5.out.on Z6)
    have J6 := Lib.hid (J5.out.on Z6)
    have R6 := Lib.hid (R5.out.on Z6)
    clear Z6 C1 C2 C3 C4 hnn R5 B5 X5 I5 Y5 J5 x0 x1 x2 x3 x4 x5 x6 y0 y1 y2 y3 y4 y5 y6
    generalize grow (redrawn w5 dq) osq = w6 at *
    have DC := Lib.hid (dec_some _ bs w6 R6.out ⟨k, tc, ts, ic, is, p, l⟩ BK.out)
    go_wp2_with fail
    refine DC.out.mono ?_
    rintro e7 w7 ⟨⟨xv, yv, rfl, hop, hol⟩, hb⟩
    have B7 := Lib.hid (B6.out.trans (hb.mono B6.out.size))
    have X7 := Lib.hid (X6.out.on hb)
    have I7 := Lib.hid (I6.out.on hb)
    have Y7 := Lib.hid (Y6.out.on hb)
    have J7 := Lib.hid (J6.out.on hb)
    have R7 := Lib.hid (R6.out.on hb)
    obtain ⟨xo, xc, rfl⟩ := (Row.of_own hop).len
    obtain ⟨yo, yc, rfl⟩ := (Row.of_own hol).len
    obtain ⟨xl, hxl⟩ : ∃ n, n = p.length := ⟨_, rfl⟩
    obtain ⟨yl, hyl⟩ : ∃ n, n = l.length := ⟨_, rfl⟩
    have hin : MgIn w7 ⟨k, tc, ts, ic, is, p, l⟩ (.slice xo p.length xc) (.slice yo l.length yc) := ⟨Row.of_own hop, row_EA.2 (Row.of_own hol)⟩
    simp only [← hxl, ← hyl] at hin ⊢
    have N8 := Lib.hid (new_below w7 (.cells #[.int .i64 k, .int .i64 tc, .int .i64 ts, .int .i64 ic, .int .i64 is, .slice xo xl xc, .slice yo yl yc] 32))
    have Z8 := Lib.hid (box_new w7 #[.int .i64 k, .int .i64 tc, .int .i64 ts, .int .i64 ic, .int .i64 is, .slice xo xl xc, .slice yo yl yc] 32)
    have W8 := Lib.hid (hin.on N8.out)
    have B8 := Lib.hid (B7.out.trans (N8.out.mono B7.out.size))
    have X8 := Lib.hid (X7.out.on N8.out)
    have I8 := Lib.hid (I7.out.on N8.out)
    have Y8 := Lib.hid (Y7.out.on N8.out)
    have J8 := Lib.hid (J7.out.on N8.out)
    have R8 := Lib.hid (R7.out.on N8.out)
    have EC := Lib.hid (enc_ok ⟨k2, tc2, ts2, ic2, is2, p2, l2⟩ (.slice no nl nc) (.slice o0 ol oc) _ J8.out FH.out.small FH.out.right)
    clear hb hop hol hin DC R6 R7 N8 hxl hyl B6 X6 I6 Y6 J6 B7 X7 I7 Y7 J7
    generalize hcs : bytesM ⟨k2, tc2, ts2, ic2, is2, p2, l2⟩ = cs at *
    obtain ⟨M, hM⟩ : ∃ M, M = cs.length := ⟨_, rfl⟩
    have HM := Lib.hid hM
    clear hcs hM
    have y0 := Y8.out.cell 0
    have y1 := Y8.out.cell 1
    have y2 := Y8.out.cell 2
    have y3 := Y8.out.cell 3
    have y4 := Y8.out.cell 4
    have y5 := Y8.out.cell 5
    have y6 := Y8.out.cell 6
    simp only [List.getElem?_toArray, List.getElem?_cons_zero, List.getElem?_cons_succ] at y0 y1 y2 y3 y4 y5 y6
    go_wp2_with fail
    refine EC.out.mono ?_
    rintro e9 w9 ⟨⟨v9_, rfl, ho9⟩, hb⟩
    have B9 := Lib.hid (B8.out.trans (hb.mono B8.out.size))
    have X9 := Lib.hid (X8.out.on hb)
    have I9 := Lib.hid (I8.out.on hb)
    have Y9 := Lib.hid (Y8.out.on hb)
    have J9 := Lib.hid (J8.out.on hb)
    have R9 := Lib.hid (R8.out.on hb)
    have Z9 := Lib.hid (Z8.out.on hb)
    have W9 := Lib.hid (W8.out.on hb)
    have S9 := Lib.hid (Row.of_own ho9)
    obtain ⟨co, cc, rfl⟩ := (Row.of_own ho9).len
    rw [← HM.out] at S9 ⊢
    clear ho9 hb EC R8 Z8 W8 B8 X8 I8 Y8 J8 y0 y1 y2 y3 y4 y5 y6
    go_upto_region 12 with fail
    refine tells_r12 _ w9 g9 g10 w7.heap.size ⟨k, tc, ts, ic, is, p, l⟩ ⟨k2, tc2, ts2, ic2, is2, p2, l2⟩ (.slice po pl pc) (.slice l0 ll lc) (.slice no nl nc) (.slice o0 ol oc) (.slice xo xl xc) (.slice yo yl yc) bo co L M bc cc bs cs sn _ _ _ _ _ _ _ _ _ _ _ _ _ _ _ _ _ _ _ _ _ _ _ _ _ _ _ _ _ _ _ _ _ _ _ _ _ _ _ _ _ _ _ _ _ _ _ _ _ _ _ _ _ _ _ _ _ _ _ _ _ _ _ _ _ _ _ _ _ _ _ _ _ _ _ _ _ _ _ _ _ _ _ _ _ _ _ _ _ _ _ _ _ _ _ _ _ _ _ _ _ _ _ _ _ _ _ _ _ _ _ _ X9.out I9.out Y9.out J9.out Z9.out W9.out R9.out S9.out (by omega) HR.out HBS.out (by rw [SB.out]; exact HSN.out) HSN.out LP.out LL.out NP.out NL.out (G0.out.on B9.out) ?_
    intro a x hd h8 hb
    have B10 := B9.out.trans (hb.mono B9.out.size)
    simp only [Exit.then]
    apply_assumption
    go_wp2_with fail
    refine bodyPost_ret (v := .bool true) (by simp [results, Tryd.results4, go_sem, h8]) hd ⟨rfl, B10⟩
end Go.Proofs.YtfcgfnmokbbcaaaDoor.Ws
