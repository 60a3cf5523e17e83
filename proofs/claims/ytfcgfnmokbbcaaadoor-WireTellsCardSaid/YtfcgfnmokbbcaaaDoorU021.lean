/-
  getAttrs of package wire: so many attributes, one behind the other. No condition beyond the Reader's own.
  get of package wire: what may be a message is read. No condition beyond the Reader's own.
-/
import Derived.Test.YtfcgfnmokbbcaaaDoorU020
namespace Go.Proofs.YtfcgfnmokbbcaaaDoor.Ws
open Go.RowKit Go.Proofs.YtfcgfnmokbbcaaaDoor Go.Proofs.YtfcgfnmokbbcaaaDoor.Rw Go.Proofs.YtfcgfnmokbbcaaaDoor.Nm Go.Proofs.YtfcgfnmokbbcaaaDoor.At Go.Proofs.YtfcgfnmokbbcaaaDoor.Pr Go.Proofs.YtfcgfnmokbbcaaaDoor.Wr

set_option maxRecDepth 100000 in
set_option maxHeartbeats 16000000 in
theorem getattrs_any (rb : Nat) (s : St) (w : World) (h : Wq.Rd w rb s) :
    Calls Tryd.prog 70 #[.pointer (some ⟨rb, 0, none⟩)] w fun e w' => (∃ v, e = .returned v ∧ OwnL w' w.heap.size v (gL gA s).1) ∧ Wq.Rd w' rb (gL gA s).2 ∧ w.grownBy w' (some rb) := by
  have T := Lib.hid (Wq.byte_any rb s w h)
  have LT := Lib.hid h.lt
  have E := Lib.hid (show gL gA s = readL gA (byteS s).1.toNat (byteS s).2 from rfl)
  clear h
  go_enter Tryd.func70, Tryd.ntmps70
  go_wp2_with fail
  refine T.out.mono ?_
  rintro e w1 ⟨rfl, hd, hg⟩
  have RD := Lib.hid hd
  have HG := Lib.hid hg
  have N := (byteS s).1.toNat_lt
  clear T hd hg
  generalize (byteS s).1.toNat = n at *
  generalize (byteS s).2 = s0 at *
  have O0 := Lib.hid (own_nil (α := A4) (E := EA) w1 w.heap.size)
  go_wp2
  go_loopw [3, 7] (fun v i wr => ∃ j : Nat, j ≤ n ∧ i = .int .u8 j ∧ OwnL wr w.heap.size v (readL gA j s0).1 ∧ Wq.Rd wr rb (readL gA j s0).2 ∧ w.grownBy wr (some rb)) (fun _ i _ => n - (intOf i).toNat)
  case atStart => exact ⟨0, Nat.zero_le _, rfl, O0.out, RD.out, HG.out⟩
  case round =>
    obtain ⟨j, hj, rfl, ho, hd, hg⟩ := hrel
    by_cases hlt : j < n
    · have G0 := Lib.hid (Gp.start (E := EA) hd hg ho LT.out #[.string ⟨#[]⟩, .bool false, .int .i64 0, .string ⟨#[]⟩] 61)
      have SN := Lib.hid (readL_snoc gA j s0)
      have LN := Lib.hid (readL_len gA j s0)
      have hw8 : IntKind.u8.wrap ((j : Int) + 1) = (j : Int) + 1 := IntWalk.u8_in _ (by omega)
      clear ho hd hg
      generalize (readL gA j s0).1 = lj at *
      generalize (readL gA j s0).2 = sj at *
      have GC := Lib.hid (gA.eq_1 sj)
      have T0 := Lib.hid (Wq.rtext_any rb sj _ G0.out.rd)
      go_wp2_with fail
      refine T0.out.mono ?_
      rintro e0 w0 ⟨rfl, hd, hg⟩
      have G0a := Lib.hid (G0.out.call hg hd)
      clear hd hg T0 G0
      have XX := G0a.out.bx
      have x0 := XX.cell 0
      have x1 := XX.cell 1
      have x2 := XX.cell 2
      have x3 := XX.cell 3
      have y0 := XX.fr 0
      have y1 := XX.fr 1
      have y2 := XX.fr 2
      have y3 := XX.fr 3
      have z := XX.lt
      simp at x0 x1 x2 x3
      clear XX
      have G1 := Lib.hid (G0a.out.set 0 (.string (textS sj).1))
      clear G0a
      generalize (textS sj).1 = nm at *
      generalize (textS sj).2 = s1 at *
      have T1 := Lib.hid (Wq.byte_any rb s1 _ G1.out.rd)
      go_wp2_with fail
      refine T1.out.mono ?_
      rintro e1 w1 ⟨rfl, hd, hg⟩
      have G1a := Lib.hid (G1.out.call hg hd)
      clear hd hg T1 G1 x0 y0 x1 y1 x2 y2 x3 y3 z
      have XX := G1a.out.bx
      have x0 := XX.cell 0
      have x1 := XX.cell 1
      have x2 := XX.cell 2
      have x3 := XX.cell 3
      have y0 := XX.fr 0
      have y1 := XX.fr 1
      have y2 := XX.fr 2
      have y3 := XX.fr 3
      have z := XX.lt
      simp at x0 x1 x2 x3
      clear XX
      have G2 := G1a
      clear G1a
      have KL := (byteS s1).1.toNat_lt
      generalize (byteS s1).1.toNat = kd at *
      generalize (byteS s1).2 = s2 at *
      by_cases hk1 : kd = 1
      · have HK := Lib.hid hk1
        generalize hkz : (kd : Int) = kz at *
        obtain rfl : kz = 1 := by omega
        clear hk1 hkz
        have T2 := Lib.hid (Wq.rtext_any rb s2 _ G2.out.rd)
        go_wp2_with fail
        refine T2.out.mono ?_
        rintro e2 w2 ⟨rfl, hd, hg⟩
        have G2a := Lib.hid (G2.out.call hg hd)
        clear hd hg T2 G2 x0 y0 x1 y1 x2 y2 x3 y3 z
        have XX := G2a.out.bx
        have x0 := XX.cell 0
        have x1 := XX.cell 1
        have x2 := XX.cell 2
        have x3 := XX.cell 3
        have y0 := XX.fr 0
        have y1 := XX.fr 1
        have y2 := XX.fr 2
        have y3 := XX.fr 3
        have z := XX.lt
        simp at x0 x1 x2 x3
        clear XX
        have G3 := Lib.hid (((G2a.out.set 1 (.bool true)).set 2 (.int .i64 0)).set 3 (.string (textS s2).1))
        clear G2a
        generalize (textS s2).1 = x9 at *
        generalize (textS s2).2 = s3 at *
        obtain ⟨v', w', r, ho', hd', hg'⟩ := G3.out.push okA (nm, true, 0, x9) (by rw [LN.out]; omega) w2.heap.size (by simp [World.setCell]) #[.string nm, .bool true, .int .i64 0, .string x9] rfl 30 61 30 rfl rfl
        have O9 := Lib.hid ho'
        have D9 := Lib.hid hd'
        have H9 := Lib.hid hg'
        have EQ := Lib.hid (show gA sj = (((nm, true, 0, x9) : A4), s3) from by rw [GC.out, if_pos HK.out])
        have L9 := G3.out.bx
        have q0 := L9.cell 0
        have q1 := L9.cell 1
        have q2 := L9.cell 2
        have q3 := L9.cell 3
        simp at q0 q1 q2 q3
        clear ho' hd' hg' G3 L9
        go_wp2_with (first | (at_builtin; refine wpList_append_run rfl _ _ 30 rfl rfl rfl r ?_) | fail)
        clear r q0 q1 q2 q3 x0 y0 x1 y1 x2 y2 x3 y3 z
        go_wp2
        go_roundw
        case rel => exact ⟨j + 1, by omega, by go_num, by rw [SN.out, EQ.out]; exact O9.out, by rw [SN.out, EQ.out]; exact D9.out, H9.out⟩
        case measure => simp [intOf]; omega
      by_cases hk0 : kd = 0
      · have HK := Lib.hid hk0
        generalize hkz : (kd : Int) = kz at *
        obtain rfl : kz = 0 := by omega
        clear hk0 hkz
        have T2 := Lib.hid (Wq.num_any rb s2 _ G2.out.rd)
        go_wp2_with fail
        refine T2.out.mono ?_
        rintro e2 w2 ⟨rfl, hd, hg⟩
        have G2a := Lib.hid (G2.out.call hg hd)
        clear hd hg T2 G2 x0 y0 x1 y1 x2 y2 x3 y3 z
        have XX := G2a.out.bx
        have x0 := XX.cell 0
        have x1 := XX.cell 1
        have x2 := XX.cell 2
        have x3 := XX.cell 3
        have y0 := XX.fr 0
        have y1 := XX.fr 1
        have y2 := XX.fr 2
        have y3 := XX.fr 3
        have z := XX.lt
        simp at x0 x1 x2 x3
        clear XX
        have G3 := Lib.hid (((G2a.out.set 1 (.bool false)).set 2 (.int .i64 (numS s2).1)).set 3 (.string ⟨#[]⟩))
        clear G2a
        generalize (numS s2).1 = x9 at *
        generalize (numS s2).2 = s3 at *
        obtain ⟨v', w', r, ho', hd', hg'⟩ := G3.out.push okA (nm, false, x9, ⟨#[]⟩) (by rw [LN.out]; omega) w2.heap.size (by simp [World.setCell]) #[.string nm, .bool false, .int .i64 x9, .string ⟨#[]⟩] rfl 30 61 30 rfl rfl
        have O9 := Lib.hid ho'
        have D9 := Lib.hid hd'
        have H9 := Lib.hid hg'
        have EQ := Lib.hid (show gA sj = (((nm, false, x9, ⟨#[]⟩) : A4), s3) from by rw [GC.out, if_neg (by have := HK.out; omega), if_pos HK.out])
        have L9 := G3.out.bx
        have q0 := L9.cell 0
        have q1 := L9.cell 1
        have q2 := L9.cell 2
        have q3 := L9.cell 3
        simp at q0 q1 q2 q3
        clear ho' hd' hg' G3 L9
        go_wp2_with (first | (at_builtin; refine wpList_append_run rfl _ _ 30 rfl rfl rfl r ?_) | fail)
        clear r q0 q1 q2 q3 x0 y0 x1 y1 x2 y2 x3 y3 z
        go_wp2
        go_roundw
        case rel => exact ⟨j + 1, by omega, by go_num, by rw [SN.out, EQ.out]; exact O9.out, by rw [SN.out, EQ.out]; exact D9.out, H9.out⟩
        case measure => simp [intOf]; omega
      have hkk : ((kd : Int) == 1) = false := by rw [beq_eq_false_iff_ne]; omega
      have hkl : ((kd : Int) == 0) = false := by rw [beq_eq_false_iff_ne]; omega
      obtain ⟨v', w', r, ho', hd', hg'⟩ := G2.out.push okA (nm, false, 0, ⟨#[]⟩) (by rw [LN.out]; omega) w1.heap.size (by simp) #[.string nm, .bool false, .int .i64 0, .string ⟨#[]⟩] rfl 30 61 30 rfl rfl
      have O9 := Lib.hid ho'
      have D9 := Lib.hid hd'
      have H9 := Lib.hid hg'
      have EQ := Lib.hid (show gA sj = (((nm, false, 0, ⟨#[]⟩) : A4), s2) from by rw [GC.out, if_neg hk1, if_neg hk0])
      have L9 := G2.out.bx
      have q0 := L9.cell 0
      have q1 := L9.cell 1
      have q2 := L9.cell 2
      have q3 := L9.cell 3
      simp at q0 q1 q2 q3
      clear ho' hd' hg' G2 L9
      go_wp2_with (first | (at_builtin; refine wpList_append_run rfl _ _ 30 rfl rfl rfl r ?_) | fail)
      clear r q0 q1 q2 q3 x0 y0 x1 y1 x2 y2 x3 y3 z
      go_wp2
      go_roundw
      case rel => exact ⟨j + 1, by omega, by go_num, by rw [SN.out, EQ.out]; exact O9.out, by rw [SN.out, EQ.out]; exact D9.out, H9.out⟩
      case measure => simp [intOf]; omega
    · obtain rfl : j = n := by omega
      have HO := Lib.hid ho
      have HD := Lib.hid hd
      have H8 := Lib.hid hg
      clear ho hd hg
      go_wp2
      go_ret
      exact ⟨⟨_, rfl, by rw [E.out]; exact HO.out⟩, by rw [E.out]; exact HD.out, H8.out⟩
end Go.Proofs.YtfcgfnmokbbcaaaDoor.Ws

namespace Go.Proofs.YtfcgfnmokbbcaaaDoor.Ws
open Go.RowKit Go.Proofs.YtfcgfnmokbbcaaaDoor Go.Proofs.YtfcgfnmokbbcaaaDoor.Rw Go.Proofs.YtfcgfnmokbbcaaaDoor.Nm Go.Proofs.YtfcgfnmokbbcaaaDoor.At Go.Proofs.YtfcgfnmokbbcaaaDoor.Pr Go.Proofs.YtfcgfnmokbbcaaaDoor.Wr

set_option maxRecDepth 100000 in
set_option maxHeartbeats 16000000 in
theorem get_any (rb : Nat) (s : St) (w : World) (h : Wq.Rd w rb s) :
    Calls Tryd.prog 44 #[.pointer (some ⟨rb, 0, none⟩)] w fun e w' => (∃ pv lv, e = .returned (mv (gM s) pv lv) ∧ OwnC w' w.heap.size pv (gM s).p ∧ OwnL w' w.heap.size lv (gM s).l) ∧ w.grownBy w' (some rb) := by
  have G0 := Lib.hid (Gm.start h)
  have GM := Lib.hid (gM_is s)
  have NP := Lib.hid (fun (W : World) (B : Nat) => own_nil (α := C5) (E := EC) W B)
  have NL := Lib.hid (fun (W : World) (B : Nat) => own_nil (α := A4) (E := EA) W B)
  clear h
  go_enter Tryd.func44, Tryd.ntmps44
  have T0 := Lib.hid (Wq.byte_any rb s _ G0.out.rd)
  go_wp2_with fail
  refine T0.out.mono ?_
  rintro e0 w0 ⟨rfl, hd, hg⟩
  have G0a := Lib.hid (G0.out.call hg hd)
  clear hd hg T0 G0
  have XX := G0a.out.bx
  have x0 := XX.cell 0
  have x1 := XX.cell 1
  have x2 := XX.cell 2
  have x3 := XX.cell 3
  have x4 := XX.cell 4
  have x5 := XX.cell 5
  have x6 := XX.cell 6
  have y0 := XX.fr 0
  have y1 := XX.fr 1
  have y2 := XX.fr 2
  have y3 := XX.fr 3
  have y4 := XX.fr 4
  have y5 := XX.fr 5
  have y6 := XX.fr 6
  have z := XX.lt
  simp at x0 x1 x2 x3 x4 x5 x6
  clear XX
  have G1 := Lib.hid (G0a.out.set 0 (.int .i64 (byteS s).1.toNat))
  clear G0a
  have KL := (byteS s).1.toNat_lt
  generalize (byteS s).1.toNat = kd at *
  generalize (byteS s).2 = s1 at *
  have hwk : IntKind.i64.wrap (kd : Int) = kd := IntWalk.i64_in _ (by omega)
  have T1 := Lib.hid (Wq.rid_any rb s1 _ G1.out.rd)
  go_wp2_with fail
  refine T1.out.mono ?_
  rintro e1 w1 ⟨rfl, hd, hg⟩
  have G1a := Lib.hid (G1.out.call hg hd)
  clear hd hg T1 G1 x0 y0 x1 y1 x2 y2 x3 y3 x4 y4 x5 y5 x6 y6 z
  have XX := G1a.out.bx
  have x0 := XX.cell 0
  have x1 := XX.cell 1
  have x2 := XX.cell 2
  have x3 := XX.cell 3
  have x4 := XX.cell 4
  have x5 := XX.cell 5
  have x6 := XX.cell 6
  have y0 := XX.fr 0
  have y1 := XX.fr 1
  have y2 := XX.fr 2
  have y3 := XX.fr 3
  have y4 := XX.fr 4
  have y5 := XX.fr 5
  have y6 := XX.fr 6
  have z := XX.lt
  simp at x0 x1 x2 x3 x4 x5 x6
  clear XX
  have G2 := Lib.hid ((G1a.out.set 1 (.int .i64 (idS s1).1.1)).set 2 (.int .i64 (idS s1).1.2))
  clear G1a
  generalize (idS s1).1.1 = tc at *
  generalize (idS s1).1.2 = ts at *
  generalize (idS s1).2 = s2 at *
  by_cases hk1 : kd = 1
  · have HK := Lib.hid hk1
    generalize hkz : (kd : Int) = kz at *
    obtain rfl : kz = 1 := by omega
    clear hk1 hkz
    have EQ := Lib.hid (show gM s = ⟨1, tc, ts, 0, 0, (gL gC s2).1, []⟩ from by rw [GM.out]; simp [HK.out])
    have T2 := Lib.hid (getpred_any rb s2 _ G2.out.rd)
    go_wp2_with fail
    refine T2.out.mono ?_
    rintro e2 w2 ⟨⟨pv, rfl, ho⟩, hd, hg⟩
    have G2a := Lib.hid (G2.out.call hg hd)
    have OWN := Lib.hid (Rw.own_less (B' := w.heap.size + 2) (by have a1 := G2.out.bx.lt; omega) ho)
    obtain ⟨pa, pc, hpv⟩ := (Row.of_own ho).len
    obtain ⟨pn, hpn⟩ : ∃ n, n = (gL gC s2).1.length := ⟨_, rfl⟩
    rw [← hpn] at hpv
    subst hpv
    clear ho hpn
    clear hd hg T2 G2 x0 y0 x1 y1 x2 y2 x3 y3 x4 y4 x5 y5 x6 y6 z
    have XX := G2a.out.bx
    have x0 := XX.cell 0
    have x1 := XX.cell 1
    have x2 := XX.cell 2
    have x3 := XX.cell 3
    have x4 := XX.cell 4
    have x5 := XX.cell 5
    have x6 := XX.cell 6
    have y0 := XX.fr 0
    have y1 := XX.fr 1
    have y2 := XX.fr 2
    have y3 := XX.fr 3
    have y4 := XX.fr 4
    have y5 := XX.fr 5
    have y6 := XX.fr 6
    have z := XX.lt
    simp at x0 x1 x2 x3 x4 x5 x6
    clear XX
    have G3 := Lib.hid (G2a.out.set 5 (.slice pa pn pc))
    clear G2a
    generalize (gL gC s2).1 = P at *
    have OWN2 := Lib.hid (own_set OWN.out (w.heap.size + 1) 5 (.slice pa pn pc) (by omega))
    clear OWN
    go_upto_region 14 with fail
    clear x0 y0 x1 y1 x2 y2 x3 y3 x4 y4 x5 y5 x6 y6 z
    generalize (w2.setCell ⟨w.heap.size + 1, 5, none⟩ (.slice pa pn pc)) = W9 at *
    have LX := G3.out.bx
    have q0 := LX.cell 0
    have q1 := LX.cell 1
    have q2 := LX.cell 2
    have q3 := LX.cell 3
    have q4 := LX.cell 4
    have q5 := LX.cell 5
    have q6 := LX.cell 6
    have RX := G3.out.rx
    have r0 := RX.cell 0
    have r1 := RX.cell 1
    have r2 := RX.cell 2
    have r3 := RX.cell 3
    have r4 := RX.cell 4
    have r5 := RX.cell 5
    have r6 := RX.cell 6
    have t0 := RX.fr 0
    have t1 := RX.fr 1
    have t2 := RX.fr 2
    have t3 := RX.fr 3
    have t4 := RX.fr 4
    have t5 := RX.fr 5
    have t6 := RX.fr 6
    have zz := RX.lt
    simp at q0 r0 q1 r1 q2 r2 q3 r3 q4 r4 q5 r5 q6 r6
    have FB := Lib.hid (setM_box G3.out.rx (.int .i64 1) (.int .i64 tc) (.int .i64 ts) (.int .i64 0) (.int .i64 0) (.slice pa pn pc) (.slice none 0 0))
    have FG := Lib.hid (setM_grown G3.out.gr w.heap.size (Nat.le_refl _) (.int .i64 1) (.int .i64 tc) (.int .i64 ts) (.int .i64 0) (.int .i64 0) (.slice pa pn pc) (.slice none 0 0))
    have FP := Lib.hid (setM_ownG G3.out (OWN2.out) (.int .i64 1) (.int .i64 tc) (.int .i64 ts) (.int .i64 0) (.int .i64 0) (.slice pa pn pc) (.slice none 0 0))
    have FL := Lib.hid (setM_ownG G3.out (NL.out _ (w.heap.size + 2)) (.int .i64 1) (.int .i64 tc) (.int .i64 ts) (.int .i64 0) (.int .i64 0) (.slice pa pn pc) (.slice none 0 0))
    clear G3 LX RX
    go_wp2_with fail
    have v0 := FB.out.cell 0
    have v1 := FB.out.cell 1
    have v2 := FB.out.cell 2
    have v3 := FB.out.cell 3
    have v4 := FB.out.cell 4
    have v5 := FB.out.cell 5
    have v6 := FB.out.cell 6
    simp at v0 v1 v2 v3 v4 v5 v6
    refine bodyPost_ret (v := .agg #[.int .i64 1, .int .i64 tc, .int .i64 ts, .int .i64 0, .int .i64 0, .slice pa pn pc, .slice none 0 0]) (by simp [results, Tryd.results44, go_sem, v0, v1, v2, v3, v4, v5, v6]) rfl ?_
    rw [EQ.out]
    exact ⟨⟨.slice pa pn pc, .slice none 0 0, rfl, Rw.own_less (Nat.le_add_right _ 2) FP.out, Rw.own_less (Nat.le_add_right _ 2) FL.out⟩, FG.out⟩
  by_cases hk2 : kd = 2
  · have HK := Lib.hid hk2
    generalize hkz : (kd : Int) = kz at *
    obtain rfl : kz = 2 := by omega
    clear hk2 hkz
    have EQ := Lib.hid (show gM s = ⟨2, tc, ts, 0, 0, [], []⟩ from by rw [GM.out]; simp [HK.out])
    go_upto_region 14 with fail
    clear x0 y0 x1 y1 x2 y2 x3 y3 x4 y4 x5 y5 x6 y6 z
    generalize ((w1.setCell ⟨w.heap.size + 1, 1, none⟩ (.int .i64 tc)).setCell ⟨w.heap.size + 1, 2, none⟩ (.int .i64 ts)) = W9 at *
    have LX := G2.out.bx
    have q0 := LX.cell 0
    have q1 := LX.cell 1
    have q2 := LX.cell 2
    have q3 := LX.cell 3
    have q4 := LX.cell 4
    have q5 := LX.cell 5
    have q6 := LX.cell 6
    have RX := G2.out.rx
    have r0 := RX.cell 0
    have r1 := RX.cell 1
    have r2 := RX.cell 2
    have r3 := RX.cell 3
    have r4 := RX.cell 4
    have r5 := RX.cell 5
    have r6 := RX.cell 6
    have t0 := RX.fr 0
    have t1 := RX.fr 1
    have t2 := RX.fr 2
    have t3 := RX.fr 3
    have t4 := RX.fr 4
    have t5 := RX.fr 5
    have t6 := RX.fr 6
    have zz := RX.lt
    simp at q0 r0 q1 r1 q2 r2 q3 r3 q4 r4 q5 r5 q6 r6
    have FB := Lib.hid (setM_box G2.out.rx (.int .i64 2) (.int .i64 tc) (.int .i64 ts) (.int .i64 0) (.int .i64 0) (.slice none 0 0) (.slice none 0 0))
    have FG := Lib.hid (setM_grown G2.out.gr w.heap.size (Nat.le_refl _) (.int .i64 2) (.int .i64 tc) (.int .i64 ts) (.int .i64 0) (.int .i64 0) (.slice none 0 0) (.slice none 0 0))
    have FP := Lib.hid (setM_ownG G2.out (NP.out _ (w.heap.size + 2)) (.int .i64 2) (.int .i64 tc) (.int .i64 ts) (.int .i64 0) (.int .i64 0) (.slice none 0 0) (.slice none 0 0))
    have FL := Lib.hid (setM_ownG G2.out (NL.out _ (w.heap.size + 2)) (.int .i64 2) (.int .i64 tc) (.int .i64 ts) (.int .i64 0) (.int .i64 0) (.slice none 0 0) (.slice none 0 0))
    clear G2 LX RX
    go_wp2_with fail
    have v0 := FB.out.cell 0
    have v1 := FB.out.cell 1
    have v2 := FB.out.cell 2
    have v3 := FB.out.cell 3
    have v4 := FB.out.cell 4
    have v5 := FB.out.cell 5
    have v6 := FB.out.cell 6
    simp at v0 v1 v2 v3 v4 v5 v6
    refine bodyPost_ret (v := .agg #[.int .i64 2, .int .i64 tc, .int .i64 ts, .int .i64 0, .int .i64 0, .slice none 0 0, .slice none 0 0]) (by simp [results, Tryd.results44, go_sem, v0, v1, v2, v3, v4, v5, v6]) rfl ?_
    rw [EQ.out]
    exact ⟨⟨.slice none 0 0, .slice none 0 0, rfl, Rw.own_less (Nat.le_add_right _ 2) FP.out, Rw.own_less (Nat.le_add_right _ 2) FL.out⟩, FG.out⟩
  by_cases hk3 : kd = 3
  · have HK := Lib.hid hk3
    generalize hkz : (kd : Int) = kz at *
    obtain rfl : kz = 3 := by omega
    clear hk3 hkz
    have EQ := Lib.hid (show gM s = ⟨3, tc, ts, (idS s2).1.1, (idS s2).1.2, (gL gC (idS s2).2).1, []⟩ from by rw [GM.out]; simp [HK.out])
    have T2 := Lib.hid (Wq.rid_any rb s2 _ G2.out.rd)
    go_wp2_with fail
    refine T2.out.mono ?_
    rintro e2 w2 ⟨rfl, hd, hg⟩
    have G2a := Lib.hid (G2.out.call hg hd)
    clear hd hg T2 G2 x0 y0 x1 y1 x2 y2 x3 y3 x4 y4 x5 y5 x6 y6 z
    have XX := G2a.out.bx
    have x0 := XX.cell 0
    have x1 := XX.cell 1
    have x2 := XX.cell 2
    have x3 := XX.cell 3
    have x4 := XX.cell 4
    have x5 := XX.cell 5
    have x6 := XX.cell 6
    have y0 := XX.fr 0
    have y1 := XX.fr 1
    have y2 := XX.fr 2
    have y3 := XX.fr 3
    have y4 := XX.fr 4
    have y5 := XX.fr 5
    have y6 := XX.fr 6
    have z := XX.lt
    simp at x0 x1 x2 x3 x4 x5 x6
    clear XX
    have G3 := Lib.hid ((G2a.out.set 3 (.int .i64 (idS s2).1.1)).set 4 (.int .i64 (idS s2).1.2))
    clear G2a
    generalize (idS s2).1.1 = ic at *
    generalize (idS s2).1.2 = is at *
    generalize (idS s2).2 = s3 at *
    have T3 := Lib.hid (getpred_any rb s3 _ G3.out.rd)
    go_wp2_with fail
    refine T3.out.mono ?_
    rintro e3 w3 ⟨⟨pv, rfl, ho⟩, hd, hg⟩
    have G3a := Lib.hid (G3.out.call hg hd)
    have OWN := Lib.hid (Rw.own_less (B' := w.heap.size + 2) (by have a1 := G3.out.bx.lt; omega) ho)
    obtain ⟨pa, pc, hpv⟩ := (Row.of_own ho).len
    obtain ⟨pn, hpn⟩ : ∃ n, n = (gL gC s3).1.length := ⟨_, rfl⟩
    rw [← hpn] at hpv
    subst hpv
    clear ho hpn
    clear hd hg T3 G3 x0 y0 x1 y1 x2 y2 x3 y3 x4 y4 x5 y5 x6 y6 z
    have XX := G3a.out.bx
    have x0 := XX.cell 0
    have x1 := XX.cell 1
    have x2 := XX.cell 2
    have x3 := XX.cell 3
    have x4 := XX.cell 4
    have x5 := XX.cell 5
    have x6 := XX.cell 6
    have y0 := XX.fr 0
    have y1 := XX.fr 1
    have y2 := XX.fr 2
    have y3 := XX.fr 3
    have y4 := XX.fr 4
    have y5 := XX.fr 5
    have y6 := XX.fr 6
    have z := XX.lt
    simp at x0 x1 x2 x3 x4 x5 x6
    clear XX
    have G4 := Lib.hid (G3a.out.set 5 (.slice pa pn pc))
    clear G3a
    generalize (gL gC s3).1 = P at *
    have OWN2 := Lib.hid (own_set OWN.out (w.heap.size + 1) 5 (.slice pa pn pc) (by omega))
    clear OWN
    go_upto_region 14 with fail
    clear x0 y0 x1 y1 x2 y2 x3 y3 x4 y4 x5 y5 x6 y6 z
    generalize (w3.setCell ⟨w.heap.size + 1, 5, none⟩ (.slice pa pn pc)) = W9 at *
    have LX := G4.out.bx
    have q0 := LX.cell 0
    have q1 := LX.cell 1
    have q2 := LX.cell 2
    have q3 := LX.cell 3
    have q4 := LX.cell 4
    have q5 := LX.cell 5
    have q6 := LX.cell 6
    have RX := G4.out.rx
    have r0 := RX.cell 0
    have r1 := RX.cell 1
    have r2 := RX.cell 2
    have r3 := RX.cell 3
    have r4 := RX.cell 4
    have r5 := RX.cell 5
    have r6 := RX.cell 6
    have t0 := RX.fr 0
    have t1 := RX.fr 1
    have t2 := RX.fr 2
    have t3 := RX.fr 3
    have t4 := RX.fr 4
    have t5 := RX.fr 5
    have t6 := RX.fr 6
    have zz := RX.lt
    simp at q0 r0 q1 r1 q2 r2 q3 r3 q4 r4 q5 r5 q6 r6
    have FB := Lib.hid (setM_box G4.out.rx (.int .i64 3) (.int .i64 tc) (.int .i64 ts) (.int .i64 ic) (.int .i64 is) (.slice pa pn pc) (.slice none 0 0))
    have FG := Lib.hid (setM_grown G4.out.gr w.heap.size (Nat.le_refl _) (.int .i64 3) (.int .i64 tc) (.int .i64 ts) (.int .i64 ic) (.int .i64 is) (.slice pa pn pc) (.slice none 0 0))
    have FP := Lib.hid (setM_ownG G4.out (OWN2.out) (.int .i64 3) (.int .i64 tc) (.int .i64 ts) (.int .i64 ic) (.int .i64 is) (.slice pa pn pc) (.slice none 0 0))
    have FL := Lib.hid (setM_ownG G4.out (NL.out _ (w.heap.size + 2)) (.int .i64 3) (.int .i64 tc) (.int .i64 ts) (.int .i64 ic) (.int .i64 is) (.slice pa pn pc) (.slice none 0 0))
    clear G4 LX RX
    go_wp2_with fail
    have v0 := FB.out.cell 0
    have v1 := FB.out.cell 1
    have v2 := FB.out.cell 2
    have v3 := FB.out.cell 3
    have v4 := FB.out.cell 4
    have v5 := FB.out.cell 5
    have v6 := FB.out.cell 6
    simp at v0 v1 v2 v3 v4 v5 v6
    refine bodyPost_ret (v := .agg #[.int .i64 3, .int .i64 tc, .int .i64 ts, .int .i64 ic, .int .i64 is, .slice pa pn pc, .slice none 0 0]) (by simp [results, Tryd.results44, go_sem, v0, v1, v2, v3, v4, v5, v6]) rfl ?_
    rw [EQ.out]
    exact ⟨⟨.slice pa pn pc, .slice none 0 0, rfl, Rw.own_less (Nat.le_add_right _ 2) FP.out, Rw.own_less (Nat.le_add_right _ 2) FL.out⟩, FG.out⟩
  by_cases hk4 : kd = 4
  · have HK := Lib.hid hk4
    generalize hkz : (kd : Int) = kz at *
    obtain rfl : kz = 4 := by omega
    clear hk4 hkz
    have EQ := Lib.hid (show gM s = ⟨4, tc, ts, (idS s2).1.1, (idS s2).1.2, [], []⟩ from by rw [GM.out]; simp [HK.out])
    have T2 := Lib.hid (Wq.rid_any rb s2 _ G2.out.rd)
    go_wp2_with fail
    refine T2.out.mono ?_
    rintro e2 w2 ⟨rfl, hd, hg⟩
    have G2a := Lib.hid (G2.out.call hg hd)
    clear hd hg T2 G2 x0 y0 x1 y1 x2 y2 x3 y3 x4 y4 x5 y5 x6 y6 z
    have XX := G2a.out.bx
    have x0 := XX.cell 0
    have x1 := XX.cell 1
    have x2 := XX.cell 2
    have x3 := XX.cell 3
    have x4 := XX.cell 4
    have x5 := XX.cell 5
    have x6 := XX.cell 6
    have y0 := XX.fr 0
    have y1 := XX.fr 1
    have y2 := XX.fr 2
    have y3 := XX.fr 3
    have y4 := XX.fr 4
    have y5 := XX.fr 5
    have y6 := XX.fr 6
    have z := XX.lt
    simp at x0 x1 x2 x3 x4 x5 x6
    clear XX
    have G3 := Lib.hid ((G2a.out.set 3 (.int .i64 (idS s2).1.1)).set 4 (.int .i64 (idS s2).1.2))
    clear G2a
    generalize (idS s2).1.1 = ic at *
    generalize (idS s2).1.2 = is at *
    generalize (idS s2).2 = s3 at *
    go_upto_region 14 with fail
    clear x0 y0 x1 y1 x2 y2 x3 y3 x4 y4 x5 y5 x6 y6 z
    generalize ((w2.setCell ⟨w.heap.size + 1, 3, none⟩ (.int .i64 ic)).setCell ⟨w.heap.size + 1, 4, none⟩ (.int .i64 is)) = W9 at *
    have LX := G3.out.bx
    have q0 := LX.cell 0
    have q1 := LX.cell 1
    have q2 := LX.cell 2
    have q3 := LX.cell 3
    have q4 := LX.cell 4
    have q5 := LX.cell 5
    have q6 := LX.cell 6
    have RX := G3.out.rx
    have r0 := RX.cell 0
    have r1 := RX.cell 1
    have r2 := RX.cell 2
    have r3 := RX.cell 3
    have r4 := RX.cell 4
    have r5 := RX.cell 5
    have r6 := RX.cell 6
    have t0 := RX.fr 0
    have t1 := RX.fr 1
    have t2 := RX.fr 2
    have t3 := RX.fr 3
    have t4 := RX.fr 4
    have t5 := RX.fr 5
    have t6 := RX.fr 6
    have zz := RX.lt
    simp at q0 r0 q1 r1 q2 r2 q3 r3 q4 r4 q5 r5 q6 r6
    have FB := Lib.hid (setM_box G3.out.rx (.int .i64 4) (.int .i64 tc) (.int .i64 ts) (.int .i64 ic) (.int .i64 is) (.slice none 0 0) (.slice none 0 0))
    have FG := Lib.hid (setM_grown G3.out.gr w.heap.size (Nat.le_refl _) (.int .i64 4) (.int .i64 tc) (.int .i64 ts) (.int .i64 ic) (.int .i64 is) (.slice none 0 0) (.slice none 0 0))
    have FP := Lib.hid (setM_ownG G3.out (NP.out _ (w.heap.size + 2)) (.int .i64 4) (.int .i64 tc) (.int .i64 ts) (.int .i64 ic) (.int .i64 is) (.slice none 0 0) (.slice none 0 0))
    have FL := Lib.hid (setM_ownG G3.out (NL.out _ (w.heap.size + 2)) (.int .i64 4) (.int .i64 tc) (.int .i64 ts) (.int .i64 ic) (.int .i64 is) (.slice none 0 0) (.slice none 0 0))
    clear G3 LX RX
    go_wp2_with fail
    have v0 := FB.out.cell 0
    have v1 := FB.out.cell 1
    have v2 := FB.out.cell 2
    have v3 := FB.out.cell 3
    have v4 := FB.out.cell 4
    have v5 := FB.out.cell 5
    have v6 := FB.out.cell 6
    simp at v0 v1 v2 v3 v4 v5 v6
    refine bodyPost_ret (v := .agg #[.int .i64 4, .int .i64 tc, .int .i64 ts, .int .i64 ic, .int .i64 is, .slice none 0 0, .slice none 0 0]) (by simp [results, Tryd.results44, go_sem, v0, v1, v2, v3, v4, v5, v6]) rfl ?_
    rw [EQ.out]
    exact ⟨⟨.slice none 0 0, .slice none 0 0, rfl, Rw.own_less (Nat.le_add_right _ 2) FP.out, Rw.own_less (Nat.le_add_right _ 2) FL.out⟩, FG.out⟩
  by_cases hk5 : kd = 5
  · have HK := Lib.hid hk5
    generalize hkz : (kd : Int) = kz at *
    obtain rfl : kz = 5 := by omega
    clear hk5 hkz
    have EQ := Lib.hid (show gM s = ⟨5, tc, ts, (idS s2).1.1, (idS s2).1.2, [], (gL gA (idS s2).2).1⟩ from by rw [GM.out]; simp [HK.out])
    have T2 := Lib.hid (Wq.rid_any rb s2 _ G2.out.rd)
    go_wp2_with fail
    refine T2.out.mono ?_
    rintro e2 w2 ⟨rfl, hd, hg⟩
    have G2a := Lib.hid (G2.out.call hg hd)
    clear hd hg T2 G2 x0 y0 x1 y1 x2 y2 x3 y3 x4 y4 x5 y5 x6 y6 z
    have XX := G2a.out.bx
    have x0 := XX.cell 0
    have x1 := XX.cell 1
    have x2 := XX.cell 2
    have x3 := XX.cell 3
    have x4 := XX.cell 4
    have x5 := XX.cell 5
    have x6 := XX.cell 6
    have y0 := XX.fr 0
    have y1 := XX.fr 1
    have y2 := XX.fr 2
    have y3 := XX.fr 3
    have y4 := XX.fr 4
    have y5 := XX.fr 5
    have y6 := XX.fr 6
    have z := XX.lt
    simp at x0 x1 x2 x3 x4 x5 x6
    clear XX
    have G3 := Lib.hid ((G2a.out.set 3 (.int .i64 (idS s2).1.1)).set 4 (.int .i64 (idS s2).1.2))
    clear G2a
    generalize (idS s2).1.1 = ic at *
    generalize (idS s2).1.2 = is at *
    generalize (idS s2).2 = s3 at *
    have T3 := Lib.hid (getattrs_any rb s3 _ G3.out.rd)
    go_wp2_with fail
    refine T3.out.mono ?_
    rintro e3 w3 ⟨⟨lv, rfl, ho⟩, hd, hg⟩
    have G3a := Lib.hid (G3.out.call hg hd)
    have OWN := Lib.hid (Rw.own_less (B' := w.heap.size + 2) (by have a1 := G3.out.bx.lt; omega) ho)
    obtain ⟨pa, pc, hpv⟩ := (Row.of_own ho).len
    obtain ⟨pn, hpn⟩ : ∃ n, n = (gL gA s3).1.length := ⟨_, rfl⟩
    rw [← hpn] at hpv
    subst hpv
    clear ho hpn
    clear hd hg T3 G3 x0 y0 x1 y1 x2 y2 x3 y3 x4 y4 x5 y5 x6 y6 z
    have XX := G3a.out.bx
    have x0 := XX.cell 0
    have x1 := XX.cell 1
    have x2 := XX.cell 2
    have x3 := XX.cell 3
    have x4 := XX.cell 4
    have x5 := XX.cell 5
    have x6 := XX.cell 6
    have y0 := XX.fr 0
    have y1 := XX.fr 1
    have y2 := XX.fr 2
    have y3 := XX.fr 3
    have y4 := XX.fr 4
    have y5 := XX.fr 5
    have y6 := XX.fr 6
    have z := XX.lt
    simp at x0 x1 x2 x3 x4 x5 x6
    clear XX
    have G4 := Lib.hid (G3a.out.set 6 (.slice pa pn pc))
    clear G3a
    generalize (gL gA s3).1 = L at *
    have OWN2 := Lib.hid (own_set OWN.out (w.heap.size + 1) 6 (.slice pa pn pc) (by omega))
    clear OWN
    go_upto_region 14 with fail
    clear x0 y0 x1 y1 x2 y2 x3 y3 x4 y4 x5 y5 x6 y6 z
    generalize (w3.setCell ⟨w.heap.size + 1, 6, none⟩ (.slice pa pn pc)) = W9 at *
    have LX := G4.out.bx
    have q0 := LX.cell 0
    have q1 := LX.cell 1
    have q2 := LX.cell 2
    have q3 := LX.cell 3
    have q4 := LX.cell 4
    have q5 := LX.cell 5
    have q6 := LX.cell 6
    have RX := G4.out.rx
    have r0 := RX.cell 0
    have r1 := RX.cell 1
    have r2 := RX.cell 2
    have r3 := RX.cell 3
    have r4 := RX.cell 4
    have r5 := RX.cell 5
    have r6 := RX.cell 6
    have t0 := RX.fr 0
    have t1 := RX.fr 1
    have t2 := RX.fr 2
    have t3 := RX.fr 3
    have t4 := RX.fr 4
    have t5 := RX.fr 5
    have t6 := RX.fr 6
    have zz := RX.lt
    simp at q0 r0 q1 r1 q2 r2 q3 r3 q4 r4 q5 r5 q6 r6
    have FB := Lib.hid (setM_box G4.out.rx (.int .i64 5) (.int .i64 tc) (.int .i64 ts) (.int .i64 ic) (.int .i64 is) (.slice none 0 0) (.slice pa pn pc))
    have FG := Lib.hid (setM_grown G4.out.gr w.heap.size (Nat.le_refl _) (.int .i64 5) (.int .i64 tc) (.int .i64 ts) (.int .i64 ic) (.int .i64 is) (.slice none 0 0) (.slice pa pn pc))
    have FP := Lib.hid (setM_ownG G4.out (NP.out _ (w.heap.size + 2)) (.int .i64 5) (.int .i64 tc) (.int .i64 ts) (.int .i64 ic) (.int .i64 is) (.slice none 0 0) (.slice pa pn pc))
    have FL := Lib.hid (setM_ownG G4.out (OWN2.out) (.int .i64 5) (.int .i64 tc) (.int .i64 ts) (.int .i64 ic) (.int .i64 is) (.slice none 0 0) (.slice pa pn pc))
    clear G4 LX RX
    go_wp2_with fail
    have v0 := FB.out.cell 0
    have v1 := FB.out.cell 1
    have v2 := FB.out.cell 2
    have v3 := FB.out.cell 3
    have v4 := FB.out.cell 4
    have v5 := FB.out.cell 5
    have v6 := FB.out.cell 6
    simp at v0 v1 v2 v3 v4 v5 v6
    refine bodyPost_ret (v := .agg #[.int .i64 5, .int .i64 tc, .int .i64 ts, .int .i64 ic, .int .i64 is, .slice none 0 0, .slice pa pn pc]) (by simp [results, Tryd.results44, go_sem, v0, v1, v2, v3, v4, v5, v6]) rfl ?_
    rw [EQ.out]
    exact ⟨⟨.slice none 0 0, .slice pa pn pc, rfl, Rw.own_less (Nat.le_add_right _ 2) FP.out, Rw.own_less (Nat.le_add_right _ 2) FL.out⟩, FG.out⟩
  have EQ := Lib.hid (show gM s = ⟨(kd : Int), tc, ts, 0, 0, [], []⟩ from by rw [GM.out]; simp only [if_neg (show ¬ (3 ≤ kd ∧ kd ≤ 5) by omega), if_neg (show ¬ (kd = 1 ∨ kd = 3) by omega), if_neg (show ¬ kd = 5 by omega)])
  have e1k : ((kd : Int) == 1) = false := by rw [beq_eq_false_iff_ne]; omega
  have e2k : ((kd : Int) == 2) = false := by rw [beq_eq_false_iff_ne]; omega
  have e3k : ((kd : Int) == 3) = false := by rw [beq_eq_false_iff_ne]; omega
  have e4k : ((kd : Int) == 4) = false := by rw [beq_eq_false_iff_ne]; omega
  have e5k : ((kd : Int) == 5) = false := by rw [beq_eq_false_iff_ne]; omega
  go_upto_region 14 with fail
  clear x0 y0 x1 y1 x2 y2 x3 y3 x4 y4 x5 y5 x6 y6 z
  generalize ((w1.setCell ⟨w.heap.size + 1, 1, none⟩ (.int .i64 tc)).setCell ⟨w.heap.size + 1, 2, none⟩ (.int .i64 ts)) = W9 at *
  have LX := G2.out.bx
  have q0 := LX.cell 0
  have q1 := LX.cell 1
  have q2 := LX.cell 2
  have q3 := LX.cell 3
  have q4 := LX.cell 4
  have q5 := LX.cell 5
  have q6 := LX.cell 6
  have RX := G2.out.rx
  have r0 := RX.cell 0
  have r1 := RX.cell 1
  have r2 := RX.cell 2
  have r3 := RX.cell 3
  have r4 := RX.cell 4
  have r5 := RX.cell 5
  have r6 := RX.cell 6
  have t0 := RX.fr 0
  have t1 := RX.fr 1
  have t2 := RX.fr 2
  have t3 := RX.fr 3
  have t4 := RX.fr 4
  have t5 := RX.fr 5
  have t6 := RX.fr 6
  have zz := RX.lt
  simp at q0 r0 q1 r1 q2 r2 q3 r3 q4 r4 q5 r5 q6 r6
  have FB := Lib.hid (setM_box G2.out.rx (.int .i64 (kd : Int)) (.int .i64 tc) (.int .i64 ts) (.int .i64 0) (.int .i64 0) (.slice none 0 0) (.slice none 0 0))
  have FG := Lib.hid (setM_grown G2.out.gr w.heap.size (Nat.le_refl _) (.int .i64 (kd : Int)) (.int .i64 tc) (.int .i64 ts) (.int .i64 0) (.int .i64 0) (.slice none 0 0) (.slice none 0 0))
  have FP := Lib.hid (setM_ownG G2.out (NP.out _ (w.heap.size + 2)) (.int .i64 (kd : Int)) (.int .i64 tc) (.int .i64 ts) (.int .i64 0) (.int .i64 0) (.slice none 0 0) (.slice none 0 0))
  have FL := Lib.hid (setM_ownG G2.out (NL.out _ (w.heap.size + 2)) (.int .i64 (kd : Int)) (.int .i64 tc) (.int .i64 ts) (.int .i64 0) (.int .i64 0) (.slice none 0 0) (.slice none 0 0))
  clear G2 LX RX
  go_wp2_with fail
  have v0 := FB.out.cell 0
  have v1 := FB.out.cell 1
  have v2 := FB.out.cell 2
  have v3 := FB.out.cell 3
  have v4 := FB.out.cell 4
  have v5 := FB.out.cell 5
  have v6 := FB.out.cell 6
  simp at v0 v1 v2 v3 v4 v5 v6
  refine bodyPost_ret (v := .agg #[.int .i64 (kd : Int), .int .i64 tc, .int .i64 ts, .int .i64 0, .int .i64 0, .slice none 0 0, .slice none 0 0]) (by simp [results, Tryd.results44, go_sem, v0, v1, v2, v3, v4, v5, v6]) rfl ?_
  rw [EQ.out]
  exact ⟨⟨.slice none 0 0, .slice none 0 0, rfl, Rw.own_less (Nat.le_add_right _ 2) FP.out, Rw.own_less (Nat.le_add_right _ 2) FL.out⟩, FG.out⟩
end Go.Proofs.YtfcgfnmokbbcaaaDoor.Ws
