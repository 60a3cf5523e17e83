/-
  The law WireOnly: any bytes, a message's with one turned, cut, or more: what is decoded encodes just so; else nothing, and how many bytes there were. Conditions: package errors' variable holds the handle of the type 'error'; numbers of 64 bits; lists no longer than a machine holds.
  The greatest message and a publication of five texts, as they grow; they are right. Conditions: an owner's number within 0 and 31.
-/
import Derived.Test.YtfcgfnmokbbcaaaDoorQ042
import Derived.Test.YtfcgfnmokbbcaaaDoorQ043
import Derived.Test.YtfcgfnmokbbcaaaDoorQ036
import Derived.Test.YtfcgfnmokbbcaaaDoorQ021
import Derived.Test.YtfcgfnmokbbcaaaDoorQ041
namespace Go.Proofs.YtfcgfnmokbbcaaaDoor.Ws
open Go.RowKit Go.Sort Go.Proofs.YtfcgfnmokbbcaaaDoor Go.Proofs.YtfcgfnmokbbcaaaDoor.Rw Go.Proofs.YtfcgfnmokbbcaaaDoor.Nm Go.Proofs.YtfcgfnmokbbcaaaDoor.At Go.Proofs.YtfcgfnmokbbcaaaDoor.Pr Go.Proofs.YtfcgfnmokbbcaaaDoor.Wr Go.Proofs.YtfcgfnmokbbcaaaDoor.Wi Go.Proofs.YtfcgfnmokbbcaaaDoor.In Go.Proofs.YtfcgfnmokbbcaaaDoor.Va

theorem xor_byte (x c : Int) : ∃ y : UInt8, bits .xor .u8 x c = (y.toNat : Int) := by
  have h : ∀ z : Int, IntKind.u8.wrap z = z % 256 := fun z => rfl
  refine ⟨UInt8.ofNat (bits .xor .u8 x c).toNat, ?_⟩
  unfold bits
  simp only [h]
  generalize ((BitVec.ofInt IntKind.u8.bits x ^^^ BitVec.ofInt IntKind.u8.bits c).toNat : Int) = z
  have h1 := Int.emod_nonneg z (show (256 : Int) ≠ 0 by decide)
  have h2 := Int.emod_lt_of_pos z (show (0 : Int) < 256 by decide)
  rw [UInt8.toNat_ofNat']
  omega
set_option maxRecDepth 100000 in
set_option maxHeartbeats 32000000 in
theorem only_any (kg : Kg) (ga gb gc gd rv : Value) (raw : List UInt8) (at_ how : Int) (c : UInt8) (w : World) (hg : Fa.EG w) (h : KgIn w kg ga gb gc gd) (hraw : RowB w rv raw) (hat : I64 at_) (_hhow : I64 how) :
    Calls Tryd.prog 5 #[kgv kg ga gb gc gd, rv, .int .i64 at_, .int .u8 c.toNat, .int .i64 how] w (RQ w) := by
  have B0 := Lib.hid (new_below w (.cells #[.int .i64 kg.kd, .int .i64 kg.cl, .int .i64 kg.sq, .int .i64 kg.ow, .int .i64 kg.nm, ga, gb, gc, gd] 42))
  have MG := Lib.hid (message_any kg ga gb gc gd (w.alloc (.cells #[.int .i64 kg.kd, .int .i64 kg.cl, .int .i64 kg.sq, .int .i64 kg.ow, .int .i64 kg.nm, ga, gb, gc, gd] 42)) (kgin_on h B0.out))
  have G0 := Lib.hid (GE.mk hg)
  have FT := Lib.hid (kg_fit kg)
  obtain ⟨ao, ac, rfl⟩ := h.a.shape
  obtain ⟨bo, bc, rfl⟩ := h.b.shape
  obtain ⟨co, cc, rfl⟩ := h.c.shape
  obtain ⟨do_, dc, rfl⟩ := h.d.shape
  have RW := Lib.hid hraw
  have RM0 := Lib.hid hraw.most
  obtain ⟨ro, rc, rfl⟩ := hraw.len
  obtain ⟨rl, hrl⟩ : ∃ n, n = raw.length := ⟨_, rfl⟩
  rw [← hrl] at RW ⊢
  have HRL := Lib.hid hrl
  have IA := Lib.hid hat
  clear hg h hraw hrl hat
  generalize kg.m = m at *
  go_enter Tryd.func5, Tryd.ntmps5
  go_wp2_with fail
  refine MG.out.mono ?_
  rintro e1 w1 ⟨⟨pv, lv, rfl, hin⟩, hb⟩
  have B1 := Lib.hid (B0.out.trans (hb.mono B0.out.size))
  have EC := Lib.hid (enc_ok m pv lv w1 hin FT.out.small FT.out.right)
  have BL := bytesM_len FT.out.right
  clear hin hb MG B0 FT
  generalize bytesM m = bs at *
  go_wp2_with fail
  refine EC.out.mono ?_
  rintro e2 w2 ⟨⟨v2, rfl, ho2⟩, hb⟩
  have B2 := Lib.hid (B1.out.trans (hb.mono B1.out.size))
  have N3 := Lib.hid (new_below w2 (.cells #[] 5))
  have om : OwnB (w2.alloc (.cells #[] 5)) w2.heap.size (.slice (some ⟨w2.heap.size, 0, none⟩) 0 0) [] := own_made w2
  obtain ⟨v3, w3, r3, o3, g3⟩ := appB w2.heap.size om ((Row.of_own ho2).on N3.out) (by simp; omega) (by simp) 22
  have B3 := Lib.hid (B2.out.trans (N3.out.trans (below_own om (by simp) g3) |>.mono B2.out.size))
  have H2 := Lib.hid B2.out.size
  have N23 := Lib.hid ((N3.out.trans (below_own om (by simp) g3)).size)
  have M3 := Lib.hid (N3.out.trans (below_own om (by simp) g3))
  rw [List.nil_append] at o3
  have O3 := Lib.hid o3
  obtain ⟨L, hL⟩ : ∃ L, L = bs.length := ⟨_, rfl⟩
  have HL := Lib.hid hL
  obtain ⟨bo2, bc2, rfl⟩ := (Row.of_own ho2).len
  rw [← hL] at BL r3 ⊢
  obtain ⟨L1, L2⟩ := BL
  obtain ⟨g, cap, hv3⟩ : ∃ g cap, v3 = .slice (some ⟨g, 0, none⟩) L cap := by
    rcases own_open o3 with ⟨_, e⟩ | ⟨g, cap, cur, e, _⟩
    · rw [e] at hL; simp at hL; omega
    · exact ⟨g, cap, by rw [e, hL]⟩
  subst hv3
  have WI := Lib.hid (fun W => within_any at_ 0 ((L : Int) - 1) W (by omega) (by omega) (by omega) IA.out.1 IA.out.2)
  have wb := within_bd at_ 0 ((L : Int) - 1) (by omega)
  obtain ⟨i, hi⟩ : ∃ i : Nat, within at_ 0 ((L : Int) - 1) = i := ⟨(within at_ 0 ((L : Int) - 1)).toNat, by omega⟩
  rw [hi] at WI wb
  have hiL : i < L := by omega
  have z0 : ((L : Int) == 0) = false := by rw [beq_eq_false_iff_ne]; omega
  clear ho2 hb EC om o3 g3 B1 N3 hL hi wb
  go_wp2_with (first | (at_builtin; refine wpList_append_run rfl _ _ 22 rfl rfl rfl r3 ?_) | fail)
  refine (WI.out _).mono ?_
  rintro e4 w4 ⟨rfl, rfl⟩
  clear r3 WI z0 IA
  obtain ⟨b0, hb0⟩ : ∃ b, (bits .and .i64 how 3 == 0) = b := ⟨_, rfl⟩
  obtain ⟨b1, hb1⟩ : ∃ b, (bits .and .i64 how 3 == 1) = b := ⟨_, rfl⟩
  obtain ⟨b2, hb2⟩ : ∃ b, (bits .and .i64 how 3 == 2) = b := ⟨_, rfl⟩
  cases b0
  · cases b1
    · cases b2
      · obtain ⟨q, hq⟩ : ∃ q, q = min rl 60 := ⟨_, rfl⟩
        have hqm : (if (60 : Int) < (rl : Int) then (60 : Int) else (rl : Int)) = (q : Int) := by split <;> omega
        have hrm : rl ≤ 9223372036854775807 := by have h := RM0.out; unfold maxLen at h; rw [← HRL.out] at h; omega
        have hq9 : q ≤ 60 := by omega
        obtain ⟨lo9, slo, rlo⟩ := row_lo8 RW.out q (by rw [← HRL.out]; omega)
        have lq : (raw.take q).length = q := by rw [List.length_take, ← HRL.out]; omega
        clear hq
        have om : OwnB (w3.alloc (.cells #[] 5)) w3.heap.size (.slice (some ⟨w3.heap.size, 0, none⟩) 0 0) [] := own_made w3
        have N4 := Lib.hid (new_below w3 (.cells #[] 5))
        obtain ⟨v5, w5, r5_, o5, g5⟩ := appB w3.heap.size om ((rlo.on B3.out).on N4.out) (by rw [lq]; simp; omega) (by simp) 22
        have B0 := Lib.hid (B3.out.trans ((N4.out.trans (below_own om (by simp) g5)).mono B3.out.size))
        obtain ⟨b, hbb⟩ : ∃ b, b = raw.take q := ⟨_, rfl⟩
        rw [List.nil_append, ← hbb] at o5
        have lb : b.length = q := by rw [hbb, lq]
        obtain ⟨ao9, ac9, rfl⟩ := (Row.of_own o5).len
        rw [lb] at r5_
        have o5' : w5.ownsRow w3.heap.size EB.t EB.n (.slice ao9 b.length ac9) b.length (flat EB b) := o5
        rw [lb] at o5'
        obtain ⟨n, hn⟩ : ∃ n, n = q := ⟨_, rfl⟩
        rw [← hn] at lb o5' r5_
        have R0 := Lib.hid (Row.of_own (show OwnB w5 w3.heap.size (.slice ao9 n ac9) b by unfold OwnB Own; rw [lb]; exact o5'))
        have HN := Lib.hid lb.symm
        have RM := Lib.hid (roomyB _ b 7 w5 R0.out (by omega))
        rw [lb] at RM
        have h1000 : n ≤ 1000 := by omega
        obtain ⟨ao8, ac8, rfl⟩ : ∃ a c, lo9 = .slice a q c := by obtain ⟨a, c, e⟩ := rlo.len; rw [lq] at e; exact ⟨a, c, e⟩
        clear rlo hbb lb lq o5 g5 om hn N4
        go_wp2_with (first | (at_builtin; refine wpList_append_run rfl _ _ 22 rfl rfl rfl r5_ ?_) | fail)
        refine RM.out.mono ?_
        rintro e1 w1 ⟨g, rfl, ho, hb⟩
        have B1 := Lib.hid (B0.out.trans (hb.mono B0.out.size))
        have R1 := Lib.hid (R0.out.on hb)
        have F1 := Lib.hid (Row.of_own ho)
        obtain ⟨lo, slo, rlo⟩ := row_lo8 (l := b ++ List.replicate 80 7) F1.out n (by rw [List.length_append, ← HN.out]; omega)
        have etk : List.take n (b ++ List.replicate 80 (7 : UInt8)) = b := List.take_left' HN.out.symm
        rw [etk] at rlo
        clear etk
        have RL := Lib.hid rlo
        clear ho hb RM rlo B0 R0
        cases hd : decM b with
        | none =>
          have DC := Lib.hid (dec_none lo b w1 RL.out hd)
          rw [← HN.out] at DC
          clear hd
          go_wp2_with fail
          refine DC.out.mono ?_
          rintro e2 w2 ⟨⟨v2, rfl, hf⟩, hb⟩
          obtain ⟨f2, rfl, _⟩ := hf.ch
          have B2 := Lib.hid (B1.out.trans (hb.mono B1.out.size))
          have N3 := Lib.hid (new_below w2 (.cells (mcells zeroMg nilS nilS) 32))
          have X3 := Lib.hid (box_new w2 (mcells zeroMg nilS nilS) 32)
          have F3 := Lib.hid (hf.on N3.out)
          have B3 := Lib.hid (B2.out.trans (N3.out.mono B2.out.size))
          have IT := Lib.hid (intactB ⟨g, 0, none⟩ (n + 80) _ b 7 (w2.alloc (.cells (mcells zeroMg nilS nilS) 32)) (by rw [← HN.out]; exact (F1.out.on hb).on N3.out) ((R1.out.on hb).on N3.out) (by rw [← HN.out]; omega))
          rw [← HN.out] at IT
          clear hf hb DC B1 slo RL
          go_wp2_with fail
          refine IT.out.mono ?_
          rintro e4 w4 ⟨rfl, hb⟩
          have B4 := Lib.hid (B3.out.trans (hb.mono B3.out.size))
          have F4 := Lib.hid (F3.out.on hb)
          have X4 := Lib.hid (X3.out.on hb)
          have KD := Lib.hid (wkind_ok F4.out (G0.out.on B4.out))
          clear hb IT B3 F3 X3 N3 B2 F1 R1
          go_wp2_with fail
          refine KD.out.mono ?_
          rintro e5 w5 ⟨rfl, hb⟩
          have B5 := Lib.hid (B4.out.trans (hb.mono B4.out.size))
          have F5 := Lib.hid (F4.out.on hb)
          have X5 := Lib.hid (X4.out.on hb)
          have EQ := eqE 1 1 w5 true rfl
          have PL := Lib.hid (wplace_ok F5.out (G0.out.on B5.out))
          clear hb KD B4 F4 X4
          go_wp2_with fail
          refine PL.out.mono ?_
          rintro e6 w6 ⟨rfl, hb⟩
          have B6 := Lib.hid (B5.out.trans (hb.mono B5.out.size))
          have X6 := Lib.hid (X5.out.on hb)
          have MS := Lib.hid (messages_any zeroMg zeroMg nilS nilS nilS nilS w6 (none_in w6 0 0 0 0 0) (none_in w6 0 0 0 0 0) (by simp) (by simp) (by simp) (by simp))
          rw [zero_same] at MS
          clear hb PL B5 F5 X5 EQ
          have XX := X6.out
          have x0 := XX.cell 0
          have x1 := XX.cell 1
          have x2 := XX.cell 2
          have x3 := XX.cell 3
          have x4 := XX.cell 4
          have x5 := XX.cell 5
          have x6 := XX.cell 6
          simp only [List.getElem?_toArray, List.getElem?_cons_zero, List.getElem?_cons_succ] at x0 x1 x2 x3 x4 x5 x6
          clear XX
          go_wp2_with fail
          refine MS.out.mono ?_
          rintro e7 w7 ⟨rfl, hb⟩
          have B7 := Lib.hid (B6.out.trans (hb.mono B6.out.size))
          have RU := Lib.hid (runs_any w7 (G0.out.on B7.out).eg)
          clear hb MS B6 X6 x0 x1 x2 x3 x4 x5 x6
          go_wp2_with fail
          refine RU.out.mono ?_
          rintro e8 w8 ⟨rfl, hb⟩
          have B8 := Lib.hid (B7.out.trans (hb.mono B7.out.size))
          clear hb RU B7
          go_wp2_with fail
          go_ret
          exact ⟨rfl, B8.out⟩
        | some m =>
          obtain ⟨hR, hB, hS⟩ := decM_some hd
          have RT := Lib.hid hR
          have BY := Lib.hid hB
          have SG := Lib.hid hS
          have DC := Lib.hid (dec_some lo b w1 RL.out m hd)
          clear hd hR hB hS
          go_wp2_with fail
          refine DC.out.mono ?_
          rintro e2 w2 ⟨⟨pv, lv, rfl, hop, hol⟩, hb⟩
          have B2 := Lib.hid (B1.out.trans (hb.mono B1.out.size))
          obtain ⟨k, tc, ts, ic, is, p, l⟩ := m
          obtain ⟨po, pc, rfl⟩ := (Row.of_own hop).len
          obtain ⟨l0, lc, rfl⟩ := (Row.of_own hol).len
          have hin : MgIn w2 ⟨k, tc, ts, ic, is, p, l⟩ (.slice po p.length pc) (.slice l0 l.length lc) := ⟨Row.of_own hop, row_EA.2 (Row.of_own hol)⟩
          have N3 := Lib.hid (new_below w2 (.cells (mcells ⟨k, tc, ts, ic, is, p, l⟩ (.slice po p.length pc) (.slice l0 l.length lc)) 32))
          have X3 := Lib.hid (box_new w2 (mcells ⟨k, tc, ts, ic, is, p, l⟩ (.slice po p.length pc) (.slice l0 l.length lc)) 32)
          have I3 := Lib.hid (hin.on N3.out)
          have B3 := Lib.hid (B2.out.trans (N3.out.mono B2.out.size))
          have R3 := Lib.hid ((R1.out.on hb).on N3.out)
          have IT := Lib.hid (intactB ⟨g, 0, none⟩ (n + 80) _ b 7 (w2.alloc (.cells (mcells ⟨k, tc, ts, ic, is, p, l⟩ (.slice po p.length pc) (.slice l0 l.length lc)) 32)) (by rw [← HN.out]; exact (F1.out.on hb).on N3.out) R3.out (by rw [← HN.out]; omega))
          rw [← HN.out] at IT
          clear hop hol hin hb DC B1 slo RL R1 F1 B2
          go_wp2_with fail
          refine IT.out.mono ?_
          rintro e4 w4 ⟨rfl, hb⟩
          have B4 := Lib.hid (B3.out.trans (hb.mono B3.out.size))
          have X4 := Lib.hid (X3.out.on hb)
          have I4 := Lib.hid (I3.out.on hb)
          have R4 := Lib.hid (R3.out.on hb)
          have EC := Lib.hid (enc_ok ⟨k, tc, ts, ic, is, p, l⟩ _ _ w4 I4.out SG.out.small RT.out)
          rw [BY.out] at EC
          clear hb IT B3 X3 I3 R3 N3
          have XX := X4.out
          have x0 := XX.cell 0
          have x1 := XX.cell 1
          have x2 := XX.cell 2
          have x3 := XX.cell 3
          have x4 := XX.cell 4
          have x5 := XX.cell 5
          have x6 := XX.cell 6
          simp only [List.getElem?_toArray, List.getElem?_cons_zero, List.getElem?_cons_succ] at x0 x1 x2 x3 x4 x5 x6
          clear XX
          go_wp2_with fail
          refine EC.out.mono ?_
          rintro e5 w5 ⟨⟨v5, rfl, ho5⟩, hb⟩
          have B5 := Lib.hid (B4.out.trans (hb.mono B4.out.size))
          have X5 := Lib.hid (X4.out.on hb)
          have I5 := Lib.hid (I4.out.on hb)
          have SB := Lib.hid (sameB _ _ b b w5 (Row.of_own ho5) (R4.out.on hb))
          rw [decide_eq_true rfl] at SB
          clear hb ho5 EC B4 X4 I4 R4 x0 x1 x2 x3 x4 x5 x6
          go_wp2_with fail
          refine SB.out.mono ?_
          rintro e6 w6 ⟨rfl, hb⟩
          have B6 := Lib.hid (B5.out.trans (hb.mono B5.out.size))
          have X6 := Lib.hid (X5.out.on hb)
          have I6 := Lib.hid (I5.out.on hb)
          have RC := Lib.hid (wright_any ⟨k, tc, ts, ic, is, p, l⟩ _ _ w6 I6.out SG.out.small (by have := SG.out.l; simp only at this ⊢; omega))
          rw [RT.out] at RC
          clear hb SB B5 X5 I5
          have XX := X6.out
          have x0 := XX.cell 0
          have x1 := XX.cell 1
          have x2 := XX.cell 2
          have x3 := XX.cell 3
          have x4 := XX.cell 4
          have x5 := XX.cell 5
          have x6 := XX.cell 6
          simp only [List.getElem?_toArray, List.getElem?_cons_zero, List.getElem?_cons_succ] at x0 x1 x2 x3 x4 x5 x6
          clear XX
          go_wp2_with fail
          refine RC.out.mono ?_
          rintro e7 w7 ⟨rfl, hb⟩
          have B7 := Lib.hid (B6.out.trans (hb.mono B6.out.size))
          have RU := Lib.hid (runs_any w7 (G0.out.on B7.out).eg)
          clear hb RC B6 X6 I6 x0 x1 x2 x3 x4 x5 x6
          go_wp2_with fail
          refine RU.out.mono ?_
          rintro e8 w8 ⟨rfl, hb⟩
          have B8 := Lib.hid (B7.out.trans (hb.mono B7.out.size))
          clear hb RU B7
          go_wp2_with fail
          go_ret
          exact ⟨rfl, B8.out⟩
      · obtain ⟨q, hq⟩ : ∃ q, q = min rl 9 := ⟨_, rfl⟩
        have hqm : (if (9 : Int) < (rl : Int) then (9 : Int) else (rl : Int)) = (q : Int) := by split <;> omega
        have hrm : rl ≤ 9223372036854775807 := by have h := RM0.out; unfold maxLen at h; rw [← HRL.out] at h; omega
        have hq9 : q ≤ 9 := by omega
        obtain ⟨lo9, slo, rlo⟩ := row_lo8 RW.out q (by rw [← HRL.out]; omega)
        have lq : (raw.take q).length = q := by rw [List.length_take, ← HRL.out]; omega
        clear hq
        obtain ⟨v5, w5, r5_, o5, g5⟩ := appB w2.heap.size O3.out (rlo.on B3.out) (by rw [lq, ← HL.out]; omega) N23.out 22
        have B0 := Lib.hid (B3.out.trans ((below_own O3.out (N23.out) g5).mono H2.out))
        obtain ⟨b, hbb⟩ : ∃ b, b = bs ++ raw.take q := ⟨_, rfl⟩
        rw [← hbb] at o5
        have lb : b.length = L + q := by rw [hbb, List.length_append, lq, ← HL.out]
        obtain ⟨ao9, ac9, rfl⟩ := (Row.of_own o5).len
        rw [lb] at r5_
        have o5' : w5.ownsRow w2.heap.size EB.t EB.n (.slice ao9 b.length ac9) b.length (flat EB b) := o5
        rw [lb] at o5'
        obtain ⟨n, hn⟩ : ∃ n, n = L + q := ⟨_, rfl⟩
        rw [← hn] at lb o5' r5_
        have R0 := Lib.hid (Row.of_own (show OwnB w5 w2.heap.size (.slice ao9 n ac9) b by unfold OwnB Own; rw [lb]; exact o5'))
        have HN := Lib.hid lb.symm
        have RM := Lib.hid (roomyB _ b 7 w5 R0.out (by omega))
        rw [lb] at RM
        have h1000 : n ≤ 1000 := by omega
        obtain ⟨ao8, ac8, rfl⟩ : ∃ a c, lo9 = .slice a q c := by obtain ⟨a, c, e⟩ := rlo.len; rw [lq] at e; exact ⟨a, c, e⟩
        clear rlo hbb lb lq o5 g5 hn
        go_wp2_with (first | (at_builtin; refine wpList_append_run rfl _ _ 22 rfl rfl rfl r5_ ?_) | fail)
        refine RM.out.mono ?_
        rintro e1 w1 ⟨g, rfl, ho, hb⟩
        have B1 := Lib.hid (B0.out.trans (hb.mono B0.out.size))
        have R1 := Lib.hid (R0.out.on hb)
        have F1 := Lib.hid (Row.of_own ho)
        obtain ⟨lo, slo, rlo⟩ := row_lo8 (l := b ++ List.replicate 80 7) F1.out n (by rw [List.length_append, ← HN.out]; omega)
        have etk : List.take n (b ++ List.replicate 80 (7 : UInt8)) = b := List.take_left' HN.out.symm
        rw [etk] at rlo
        clear etk
        have RL := Lib.hid rlo
        clear ho hb RM rlo B0 R0
        cases hd : decM b with
        | none =>
          have DC := Lib.hid (dec_none lo b w1 RL.out hd)
          rw [← HN.out] at DC
          clear hd
          go_wp2_with fail
          refine DC.out.mono ?_
          rintro e2 w2 ⟨⟨v2, rfl, hf⟩, hb⟩
          obtain ⟨f2, rfl, _⟩ := hf.ch
          have B2 := Lib.hid (B1.out.trans (hb.mono B1.out.size))
          have N3 := Lib.hid (new_below w2 (.cells (mcells zeroMg nilS nilS) 32))
          have X3 := Lib.hid (box_new w2 (mcells zeroMg nilS nilS) 32)
          have F3 := Lib.hid (hf.on N3.out)
          have B3 := Lib.hid (B2.out.trans (N3.out.mono B2.out.size))
          have IT := Lib.hid (intactB ⟨g, 0, none⟩ (n + 80) _ b 7 (w2.alloc (.cells (mcells zeroMg nilS nilS) 32)) (by rw [← HN.out]; exact (F1.out.on hb).on N3.out) ((R1.out.on hb).on N3.out) (by rw [← HN.out]; omega))
          rw [← HN.out] at IT
          clear hf hb DC B1 slo RL
          go_wp2_with fail
          refine IT.out.mono ?_
          rintro e4 w4 ⟨rfl, hb⟩
          have B4 := Lib.hid (B3.out.trans (hb.mono B3.out.size))
          have F4 := Lib.hid (F3.out.on hb)
          have X4 := Lib.hid (X3.out.on hb)
          have KD := Lib.hid (wkind_ok F4.out (G0.out.on B4.out))
          clear hb IT B3 F3 X3 N3 B2 F1 R1
          go_wp2_with fail
          refine KD.out.mono ?_
          rintro e5 w5 ⟨rfl, hb⟩
          have B5 := Lib.hid (B4.out.trans (hb.mono B4.out.size))
          have F5 := Lib.hid (F4.out.on hb)
          have X5 := Lib.hid (X4.out.on hb)
          have EQ := eqE 1 1 w5 true rfl
          have PL := Lib.hid (wplace_ok F5.out (G0.out.on B5.out))
          clear hb KD B4 F4 X4
          go_wp2_with fail
          refine PL.out.mono ?_
          rintro e6 w6 ⟨rfl, hb⟩
          have B6 := Lib.hid (B5.out.trans (hb.mono B5.out.size))
          have X6 := Lib.hid (X5.out.on hb)
          have MS := Lib.hid (messages_any zeroMg zeroMg nilS nilS nilS nilS w6 (none_in w6 0 0 0 0 0) (none_in w6 0 0 0 0 0) (by simp) (by simp) (by simp) (by simp))
          rw [zero_same] at MS
          clear hb PL B5 F5 X5 EQ
          have XX := X6.out
          have x0 := XX.cell 0
          have x1 := XX.cell 1
          have x2 := XX.cell 2
          have x3 := XX.cell 3
          have x4 := XX.cell 4
          have x5 := XX.cell 5
          have x6 := XX.cell 6
          simp only [List.getElem?_toArray, List.getElem?_cons_zero, List.getElem?_cons_succ] at x0 x1 x2 x3 x4 x5 x6
          clear XX
          go_wp2_with fail
          refine MS.out.mono ?_
          rintro e7 w7 ⟨rfl, hb⟩
          have B7 := Lib.hid (B6.out.trans (hb.mono B6.out.size))
          have RU := Lib.hid (runs_any w7 (G0.out.on B7.out).eg)
          clear hb MS B6 X6 x0 x1 x2 x3 x4 x5 x6
          go_wp2_with fail
          refine RU.out.mono ?_
          rintro e8 w8 ⟨rfl, hb⟩
          have B8 := Lib.hid (B7.out.trans (hb.mono B7.out.size))
          clear hb RU B7
          go_wp2_with fail
          go_ret
          exact ⟨rfl, B8.out⟩
        | some m =>
          obtain ⟨hR, hB, hS⟩ := decM_some hd
          have RT := Lib.hid hR
          have BY := Lib.hid hB
          have SG := Lib.hid hS
          have DC := Lib.hid (dec_some lo b w1 RL.out m hd)
          clear hd hR hB hS
          go_wp2_with fail
          refine DC.out.mono ?_
          rintro e2 w2 ⟨⟨pv, lv, rfl, hop, hol⟩, hb⟩
          have B2 := Lib.hid (B1.out.trans (hb.mono B1.out.size))
          obtain ⟨k, tc, ts, ic, is, p, l⟩ := m
          obtain ⟨po, pc, rfl⟩ := (Row.of_own hop).len
          obtain ⟨l0, lc, rfl⟩ := (Row.of_own hol).len
          have hin : MgIn w2 ⟨k, tc, ts, ic, is, p, l⟩ (.slice po p.length pc) (.slice l0 l.length lc) := ⟨Row.of_own hop, row_EA.2 (Row.of_own hol)⟩
          have N3 := Lib.hid (new_below w2 (.cells (mcells ⟨k, tc, ts, ic, is, p, l⟩ (.slice po p.length pc) (.slice l0 l.length lc)) 32))
          have X3 := Lib.hid (box_new w2 (mcells ⟨k, tc, ts, ic, is, p, l⟩ (.slice po p.length pc) (.slice l0 l.length lc)) 32)
          have I3 := Lib.hid (hin.on N3.out)
          have B3 := Lib.hid (B2.out.trans (N3.out.mono B2.out.size))
          have R3 := Lib.hid ((R1.out.on hb).on N3.out)
          have IT := Lib.hid (intactB ⟨g, 0, none⟩ (n + 80) _ b 7 (w2.alloc (.cells (mcells ⟨k, tc, ts, ic, is, p, l⟩ (.slice po p.length pc) (.slice l0 l.length lc)) 32)) (by rw [← HN.out]; exact (F1.out.on hb).on N3.out) R3.out (by rw [← HN.out]; omega))
          rw [← HN.out] at IT
          clear hop hol hin hb DC B1 slo RL R1 F1 B2
          go_wp2_with fail
          refine IT.out.mono ?_
          rintro e4 w4 ⟨rfl, hb⟩
          have B4 := Lib.hid (B3.out.trans (hb.mono B3.out.size))
          have X4 := Lib.hid (X3.out.on hb)
          have I4 := Lib.hid (I3.out.on hb)
          have R4 := Lib.hid (R3.out.on hb)
          have EC := Lib.hid (enc_ok ⟨k, tc, ts, ic, is, p, l⟩ _ _ w4 I4.out SG.out.small RT.out)
          rw [BY.out] at EC
          clear hb IT B3 X3 I3 R3 N3
          have XX := X4.out
          have x0 := XX.cell 0
          have x1 := XX.cell 1
          have x2 := XX.cell 2
          have x3 := XX.cell 3
          have x4 := XX.cell 4
          have x5 := XX.cell 5
          have x6 := XX.cell 6
          simp only [List.getElem?_toArray, List.getElem?_cons_zero, List.getElem?_cons_succ] at x0 x1 x2 x3 x4 x5 x6
          clear XX
          go_wp2_with fail
          refine EC.out.mono ?_
          rintro e5 w5 ⟨⟨v5, rfl, ho5⟩, hb⟩
          have B5 := Lib.hid (B4.out.trans (hb.mono B4.out.size))
          have X5 := Lib.hid (X4.out.on hb)
          have I5 := Lib.hid (I4.out.on hb)
          have SB := Lib.hid (sameB _ _ b b w5 (Row.of_own ho5) (R4.out.on hb))
          rw [decide_eq_true rfl] at SB
          clear hb ho5 EC B4 X4 I4 R4 x0 x1 x2 x3 x4 x5 x6
          go_wp2_with fail
          refine SB.out.mono ?_
          rintro e6 w6 ⟨rfl, hb⟩
          have B6 := Lib.hid (B5.out.trans (hb.mono B5.out.size))
          have X6 := Lib.hid (X5.out.on hb)
          have I6 := Lib.hid (I5.out.on hb)
          have RC := Lib.hid (wright_any ⟨k, tc, ts, ic, is, p, l⟩ _ _ w6 I6.out SG.out.small (by have := SG.out.l; simp only at this ⊢; omega))
          rw [RT.out] at RC
          clear hb SB B5 X5 I5
          have XX := X6.out
          have x0 := XX.cell 0
          have x1 := XX.cell 1
          have x2 := XX.cell 2
          have x3 := XX.cell 3
          have x4 := XX.cell 4
          have x5 := XX.cell 5
          have x6 := XX.cell 6
          simp only [List.getElem?_toArray, List.getElem?_cons_zero, List.getElem?_cons_succ] at x0 x1 x2 x3 x4 x5 x6
          clear XX
          go_wp2_with fail
          refine RC.out.mono ?_
          rintro e7 w7 ⟨rfl, hb⟩
          have B7 := Lib.hid (B6.out.trans (hb.mono B6.out.size))
          have RU := Lib.hid (runs_any w7 (G0.out.on B7.out).eg)
          clear hb RC B6 X6 I6 x0 x1 x2 x3 x4 x5 x6
          go_wp2_with fail
          refine RU.out.mono ?_
          rintro e8 w8 ⟨rfl, hb⟩
          have B8 := Lib.hid (B7.out.trans (hb.mono B7.out.size))
          clear hb RU B7
          go_wp2_with fail
          go_ret
          exact ⟨rfl, B8.out⟩
    · obtain ⟨lo9, slo, rlo⟩ := row_lo8 (Row.of_own O3.out) i (by rw [← HL.out]; omega)
      obtain ⟨b, hbb⟩ : ∃ b, b = bs.take i := ⟨_, rfl⟩
      rw [← hbb] at rlo
      have lb : b.length = i := by rw [hbb, List.length_take, ← HL.out]; omega
      obtain ⟨ao9, ac9, rfl⟩ := rlo.len
      rw [lb] at rlo slo
      have R0 := Lib.hid rlo
      have B0 := B3
      obtain ⟨n, hn⟩ : ∃ n, n = i := ⟨_, rfl⟩
      subst hn
      have HN := Lib.hid lb.symm
      have RM := Lib.hid (roomyB _ b 7 w3 R0.out (by omega))
      rw [lb] at RM
      have h1000 : n ≤ 1000 := by omega
      clear rlo hbb lb
      go_wp2_with fail
      refine RM.out.mono ?_
      rintro e1 w1 ⟨g, rfl, ho, hb⟩
      have B1 := Lib.hid (B0.out.trans (hb.mono B0.out.size))
      have R1 := Lib.hid (R0.out.on hb)
      have F1 := Lib.hid (Row.of_own ho)
      obtain ⟨lo, slo, rlo⟩ := row_lo8 (l := b ++ List.replicate 80 7) F1.out n (by rw [List.length_append, ← HN.out]; omega)
      have etk : List.take n (b ++ List.replicate 80 (7 : UInt8)) = b := List.take_left' HN.out.symm
      rw [etk] at rlo
      clear etk
      have RL := Lib.hid rlo
      clear ho hb RM rlo B0 R0
      cases hd : decM b with
      | none =>
        have DC := Lib.hid (dec_none lo b w1 RL.out hd)
        rw [← HN.out] at DC
        clear hd
        go_wp2_with fail
        refine DC.out.mono ?_
        rintro e2 w2 ⟨⟨v2, rfl, hf⟩, hb⟩
        obtain ⟨f2, rfl, _⟩ := hf.ch
        have B2 := Lib.hid (B1.out.trans (hb.mono B1.out.size))
        have N3 := Lib.hid (new_below w2 (.cells (mcells zeroMg nilS nilS) 32))
        have X3 := Lib.hid (box_new w2 (mcells zeroMg nilS nilS) 32)
        have F3 := Lib.hid (hf.on N3.out)
        have B3 := Lib.hid (B2.out.trans (N3.out.mono B2.out.size))
        have IT := Lib.hid (intactB ⟨g, 0, none⟩ (n + 80) _ b 7 (w2.alloc (.cells (mcells zeroMg nilS nilS) 32)) (by rw [← HN.out]; exact (F1.out.on hb).on N3.out) ((R1.out.on hb).on N3.out) (by rw [← HN.out]; omega))
        rw [← HN.out] at IT
        clear hf hb DC B1 slo RL
        go_wp2_with fail
        refine IT.out.mono ?_
        rintro e4 w4 ⟨rfl, hb⟩
        have B4 := Lib.hid (B3.out.trans (hb.mono B3.out.size))
        have F4 := Lib.hid (F3.out.on hb)
        have X4 := Lib.hid (X3.out.on hb)
        have KD := Lib.hid (wkind_ok F4.out (G0.out.on B4.out))
        clear hb IT B3 F3 X3 N3 B2 F1 R1
        go_wp2_with fail
        refine KD.out.mono ?_
        rintro e5 w5 ⟨rfl, hb⟩
        have B5 := Lib.hid (B4.out.trans (hb.mono B4.out.size))
        have F5 := Lib.hid (F4.out.on hb)
        have X5 := Lib.hid (X4.out.on hb)
        have EQ := eqE 1 1 w5 true rfl
        have PL := Lib.hid (wplace_ok F5.out (G0.out.on B5.out))
        clear hb KD B4 F4 X4
        go_wp2_with fail
        refine PL.out.mono ?_
        rintro e6 w6 ⟨rfl, hb⟩
        have B6 := Lib.hid (B5.out.trans (hb.mono B5.out.size))
        have X6 := Lib.hid (X5.out.on hb)
        have MS := Lib.hid (messages_any zeroMg zeroMg nilS nilS nilS nilS w6 (none_in w6 0 0 0 0 0) (none_in w6 0 0 0 0 0) (by simp) (by simp) (by simp) (by simp))
        rw [zero_same] at MS
        clear hb PL B5 F5 X5 EQ
        have XX := X6.out
        have x0 := XX.cell 0
        have x1 := XX.cell 1
        have x2 := XX.cell 2
        have x3 := XX.cell 3
        have x4 := XX.cell 4
        have x5 := XX.cell 5
        have x6 := XX.cell 6
        simp only [List.getElem?_toArray, List.getElem?_cons_zero, List.getElem?_cons_succ] at x0 x1 x2 x3 x4 x5 x6
        clear XX
        go_wp2_with fail
        refine MS.out.mono ?_
        rintro e7 w7 ⟨rfl, hb⟩
        have B7 := Lib.hid (B6.out.trans (hb.mono B6.out.size))
        have RU := Lib.hid (runs_any w7 (G0.out.on B7.out).eg)
        clear hb MS B6 X6 x0 x1 x2 x3 x4 x5 x6
        go_wp2_with fail
        refine RU.out.mono ?_
        rintro e8 w8 ⟨rfl, hb⟩
        have B8 := Lib.hid (B7.out.trans (hb.mono B7.out.size))
        clear hb RU B7
        go_wp2_with fail
        go_ret
        exact ⟨rfl, B8.out⟩
      | some m =>
        obtain ⟨hR, hB, hS⟩ := decM_some hd
        have RT := Lib.hid hR
        have BY := Lib.hid hB
        have SG := Lib.hid hS
        have DC := Lib.hid (dec_some lo b w1 RL.out m hd)
        clear hd hR hB hS
        go_wp2_with fail
        refine DC.out.mono ?_
        rintro e2 w2 ⟨⟨pv, lv, rfl, hop, hol⟩, hb⟩
        have B2 := Lib.hid (B1.out.trans (hb.mono B1.out.size))
        obtain ⟨k, tc, ts, ic, is, p, l⟩ := m
        obtain ⟨po, pc, rfl⟩ := (Row.of_own hop).len
        obtain ⟨l0, lc, rfl⟩ := (Row.of_own hol).len
        have hin : MgIn w2 ⟨k, tc, ts, ic, is, p, l⟩ (.slice po p.length pc) (.slice l0 l.length lc) := ⟨Row.of_own hop, row_EA.2 (Row.of_own hol)⟩
        have N3 := Lib.hid (new_below w2 (.cells (mcells ⟨k, tc, ts, ic, is, p, l⟩ (.slice po p.length pc) (.slice l0 l.length lc)) 32))
        have X3 := Lib.hid (box_new w2 (mcells ⟨k, tc, ts, ic, is, p, l⟩ (.slice po p.length pc) (.slice l0 l.length lc)) 32)
        have I3 := Lib.hid (hin.on N3.out)
        have B3 := Lib.hid (B2.out.trans (N3.out.mono B2.out.size))
        have R3 := Lib.hid ((R1.out.on hb).on N3.out)
        have IT := Lib.hid (intactB ⟨g, 0, none⟩ (n + 80) _ b 7 (w2.alloc (.cells (mcells ⟨k, tc, ts, ic, is, p, l⟩ (.slice po p.length pc) (.slice l0 l.length lc)) 32)) (by rw [← HN.out]; exact (F1.out.on hb).on N3.out) R3.out (by rw [← HN.out]; omega))
        rw [← HN.out] at IT
        clear hop hol hin hb DC B1 slo RL R1 F1 B2
        go_wp2_with fail
        refine IT.out.mono ?_
        rintro e4 w4 ⟨rfl, hb⟩
        have B4 := Lib.hid (B3.out.trans (hb.mono B3.out.size))
        have X4 := Lib.hid (X3.out.on hb)
        have I4 := Lib.hid (I3.out.on hb)
        have R4 := Lib.hid (R3.out.on hb)
        have EC := Lib.hid (enc_ok ⟨k, tc, ts, ic, is, p, l⟩ _ _ w4 I4.out SG.out.small RT.out)
        rw [BY.out] at EC
        clear hb IT B3 X3 I3 R3 N3
        have XX := X4.out
        have x0 := XX.cell 0
        have x1 := XX.cell 1
        have x2 := XX.cell 2
        have x3 := XX.cell 3
        have x4 := XX.cell 4
        have x5 := XX.cell 5
        have x6 := XX.cell 6
        simp only [List.getElem?_toArray, List.getElem?_cons_zero, List.getElem?_cons_succ] at x0 x1 x2 x3 x4 x5 x6
        clear XX
        go_wp2_with fail
        refine EC.out.mono ?_
        rintro e5 w5 ⟨⟨v5, rfl, ho5⟩, hb⟩
        have B5 := Lib.hid (B4.out.trans (hb.mono B4.out.size))
        have X5 := Lib.hid (X4.out.on hb)
        have I5 := Lib.hid (I4.out.on hb)
        have SB := Lib.hid (sameB _ _ b b w5 (Row.of_own ho5) (R4.out.on hb))
        rw [decide_eq_true rfl] at SB
        clear hb ho5 EC B4 X4 I4 R4 x0 x1 x2 x3 x4 x5 x6
        go_wp2_with fail
        refine SB.out.mono ?_
        rintro e6 w6 ⟨rfl, hb⟩
        have B6 := Lib.hid (B5.out.trans (hb.mono B5.out.size))
        have X6 := Lib.hid (X5.out.on hb)
        have I6 := Lib.hid (I5.out.on hb)
        have RC := Lib.hid (wright_any ⟨k, tc, ts, ic, is, p, l⟩ _ _ w6 I6.out SG.out.small (by have := SG.out.l; simp only at this ⊢; omega))
        rw [RT.out] at RC
        clear hb SB B5 X5 I5
        have XX := X6.out
        have x0 := XX.cell 0
        have x1 := XX.cell 1
        have x2 := XX.cell 2
        have x3 := XX.cell 3
        have x4 := XX.cell 4
        have x5 := XX.cell 5
        have x6 := XX.cell 6
        simp only [List.getElem?_toArray, List.getElem?_cons_zero, List.getElem?_cons_succ] at x0 x1 x2 x3 x4 x5 x6
        clear XX
        go_wp2_with fail
        refine RC.out.mono ?_
        rintro e7 w7 ⟨rfl, hb⟩
        have B7 := Lib.hid (B6.out.trans (hb.mono B6.out.size))
        have RU := Lib.hid (runs_any w7 (G0.out.on B7.out).eg)
        clear hb RC B6 X6 I6 x0 x1 x2 x3 x4 x5 x6
        go_wp2_with fail
        refine RU.out.mono ?_
        rintro e8 w8 ⟨rfl, hb⟩
        have B8 := Lib.hid (B7.out.trans (hb.mono B7.out.size))
        clear hb RU B7
        go_wp2_with fail
        go_ret
        exact ⟨rfl, B8.out⟩
  · obtain ⟨x, hx⟩ : ∃ x, bs[i]? = some x := ⟨_, List.getElem?_eq_getElem (by rw [← HL.out]; exact hiL)⟩
    obtain ⟨y, hy⟩ := xor_byte (x.toNat : Int) (c.toNat : Int)
    have how3 : w3.ownsRow w2.heap.size 5 1 (.slice (some ⟨g, 0, none⟩) L cap) L (flat EB bs) := by
      have h9 := O3.out
      unfold OwnB Own at h9
      rw [← HL.out] at h9
      exact h9
    have hf := flat_at okB bs i x hx 0 (by decide)
    have s0 := (how3.cellAt (i * 1 + 0) (by omega)).trans hf
    have f := how3.frozenAt i
    have ix := index_own okB g i L cap hiL
    have o1 := (how3.stored i (.int .u8 y.toNat)).1
    have e1 : (flat EB bs).set i (.int .u8 y.toNat) = flat EB (bs.set i y) := by rw [flatB, flatB, List.map_set]
    rw [e1] at o1
    have hgB : w2.heap.size ≤ g := (how3.lt g rfl).1
    have B0 := Lib.hid (B3.out.trans (((Below.refl w2.heap.size w3).setCell (p := ⟨g, i, none⟩) hgB (.int .u8 y.toNat)).mono H2.out))
    have LT := own_lt how3
    rw [show EB.n = 1 from rfl, Nat.mul_one] at ix
    rw [Nat.mul_one, Nat.add_zero] at s0
    rw [show (EB.cells x)[0]? = some (.int .u8 x.toNat) from rfl] at s0
    rw [show EB.ts = 22 from rfl] at ix
    obtain ⟨b, hbb⟩ : ∃ b, b = bs.set i y := ⟨_, rfl⟩
    rw [← hbb] at o1
    have lb : b.length = L := by rw [hbb, List.length_set, ← HL.out]
    obtain ⟨n, hn⟩ : ∃ n, n = L := ⟨_, rfl⟩
    subst hn
    have R0 := Lib.hid (Row.of_own (show OwnB (w3.setCell ⟨g, i, none⟩ (.int .u8 y.toNat)) w2.heap.size (.slice (some ⟨g, 0, none⟩) n cap) b by unfold OwnB Own; rw [lb]; exact o1))
    have HN := Lib.hid lb.symm
    have RM := Lib.hid (roomyB _ b 7 (w3.setCell ⟨g, i, none⟩ (.int .u8 y.toNat)) R0.out (by omega))
    rw [lb] at RM
    have h1000 : n ≤ 1000 := by omega
    clear hx hf how3 o1 e1 hbb lb hgB
    go_wp2_with fail
    refine RM.out.mono ?_
    rintro e1 w1 ⟨g, rfl, ho, hb⟩
    have B1 := Lib.hid (B0.out.trans (hb.mono B0.out.size))
    have R1 := Lib.hid (R0.out.on hb)
    have F1 := Lib.hid (Row.of_own ho)
    obtain ⟨lo, slo, rlo⟩ := row_lo8 (l := b ++ List.replicate 80 7) F1.out n (by rw [List.length_append, ← HN.out]; omega)
    have etk : List.take n (b ++ List.replicate 80 (7 : UInt8)) = b := List.take_left' HN.out.symm
    rw [etk] at rlo
    clear etk
    have RL := Lib.hid rlo
    clear ho hb RM rlo B0 R0
    cases hd : decM b with
    | none =>
      have DC := Lib.hid (dec_none lo b w1 RL.out hd)
      rw [← HN.out] at DC
      clear hd
      go_wp2_with fail
      refine DC.out.mono ?_
      rintro e2 w2 ⟨⟨v2, rfl, hf⟩, hb⟩
      obtain ⟨f2, rfl, _⟩ := hf.ch
      have B2 := Lib.hid (B1.out.trans (hb.mono B1.out.size))
      have N3 := Lib.hid (new_below w2 (.cells (mcells zeroMg nilS nilS) 32))
      have X3 := Lib.hid (box_new w2 (mcells zeroMg nilS nilS) 32)
      have F3 := Lib.hid (hf.on N3.out)
      have B3 := Lib.hid (B2.out.trans (N3.out.mono B2.out.size))
      have IT := Lib.hid (intactB ⟨g, 0, none⟩ (n + 80) _ b 7 (w2.alloc (.cells (mcells zeroMg nilS nilS) 32)) (by rw [← HN.out]; exact (F1.out.on hb).on N3.out) ((R1.out.on hb).on N3.out) (by rw [← HN.out]; omega))
      rw [← HN.out] at IT
      clear hf hb DC B1 slo RL
      go_wp2_with fail
      refine IT.out.mono ?_
      rintro e4 w4 ⟨rfl, hb⟩
      have B4 := Lib.hid (B3.out.trans (hb.mono B3.out.size))
      have F4 := Lib.hid (F3.out.on hb)
      have X4 := Lib.hid (X3.out.on hb)
      have KD := Lib.hid (wkind_ok F4.out (G0.out.on B4.out))
      clear hb IT B3 F3 X3 N3 B2 F1 R1
      go_wp2_with fail
      refine KD.out.mono ?_
      rintro e5 w5 ⟨rfl, hb⟩
      have B5 := Lib.hid (B4.out.trans (hb.mono B4.out.size))
      have F5 := Lib.hid (F4.out.on hb)
      have X5 := Lib.hid (X4.out.on hb)
      have EQ := eqE 1 1 w5 true rfl
      have PL := Lib.hid (wplace_ok F5.out (G0.out.on B5.out))
      clear hb KD B4 F4 X4
      go_wp2_with fail
      refine PL.out.mono ?_
      rintro e6 w6 ⟨rfl, hb⟩
      have B6 := Lib.hid (B5.out.trans (hb.mono B5.out.size))
      have X6 := Lib.hid (X5.out.on hb)
      have MS := Lib.hid (messages_any zeroMg zeroMg nilS nilS nilS nilS w6 (none_in w6 0 0 0 0 0) (none_in w6 0 0 0 0 0) (by simp) (by simp) (by simp) (by simp))
      rw [zero_same] at MS
      clear hb PL B5 F5 X5 EQ
      have XX := X6.out
      have x0 := XX.cell 0
      have x1 := XX.cell 1
      have x2 := XX.cell 2
      have x3 := XX.cell 3
      have x4 := XX.cell 4
      have x5 := XX.cell 5
      have x6 := XX.cell 6
      simp only [List.getElem?_toArray, List.getElem?_cons_zero, List.getElem?_cons_succ] at x0 x1 x2 x3 x4 x5 x6
      clear XX
      go_wp2_with fail
      refine MS.out.mono ?_
      rintro e7 w7 ⟨rfl, hb⟩
      have B7 := Lib.hid (B6.out.trans (hb.mono B6.out.size))
      have RU := Lib.hid (runs_any w7 (G0.out.on B7.out).eg)
      clear hb MS B6 X6 x0 x1 x2 x3 x4 x5 x6
      go_wp2_with fail
      refine RU.out.mono ?_
      rintro e8 w8 ⟨rfl, hb⟩
      have B8 := Lib.hid (B7.out.trans (hb.mono B7.out.size))
      clear hb RU B7
      go_wp2_with fail
      go_ret
      exact ⟨rfl, B8.out⟩
    | some m =>
      obtain ⟨hR, hB, hS⟩ := decM_some hd
      have RT := Lib.hid hR
      have BY := Lib.hid hB
      have SG := Lib.hid hS
      have DC := Lib.hid (dec_some lo b w1 RL.out m hd)
      clear hd hR hB hS
      go_wp2_with fail
      refine DC.out.mono ?_
      rintro e2 w2 ⟨⟨pv, lv, rfl, hop, hol⟩, hb⟩
      have B2 := Lib.hid (B1.out.trans (hb.mono B1.out.size))
      obtain ⟨k, tc, ts, ic, is, p, l⟩ := m
      obtain ⟨po, pc, rfl⟩ := (Row.of_own hop).len
      obtain ⟨l0, lc, rfl⟩ := (Row.of_own hol).len
      have hin : MgIn w2 ⟨k, tc, ts, ic, is, p, l⟩ (.slice po p.length pc) (.slice l0 l.length lc) := ⟨Row.of_own hop, row_EA.2 (Row.of_own hol)⟩
      have N3 := Lib.hid (new_below w2 (.cells (mcells ⟨k, tc, ts, ic, is, p, l⟩ (.slice po p.length pc) (.slice l0 l.length lc)) 32))
      have X3 := Lib.hid (box_new w2 (mcells ⟨k, tc, ts, ic, is, p, l⟩ (.slice po p.length pc) (.slice l0 l.length lc)) 32)
      have I3 := Lib.hid (hin.on N3.out)
      have B3 := Lib.hid (B2.out.trans (N3.out.mono B2.out.size))
      have R3 := Lib.hid ((R1.out.on hb).on N3.out)
      have IT := Lib.hid (intactB ⟨g, 0, none⟩ (n + 80) _ b 7 (w2.alloc (.cells (mcells ⟨k, tc, ts, ic, is, p, l⟩ (.slice po p.length pc) (.slice l0 l.length lc)) 32)) (by rw [← HN.out]; exact (F1.out.on hb).on N3.out) R3.out (by rw [← HN.out]; omega))
      rw [← HN.out] at IT
      clear hop hol hin hb DC B1 slo RL R1 F1 B2
      go_wp2_with fail
      refine IT.out.mono ?_
      rintro e4 w4 ⟨rfl, hb⟩
      have B4 := Lib.hid (B3.out.trans (hb.mono B3.out.size))
      have X4 := Lib.hid (X3.out.on hb)
      have I4 := Lib.hid (I3.out.on hb)
      have R4 := Lib.hid (R3.out.on hb)
      have EC := Lib.hid (enc_ok ⟨k, tc, ts, ic, is, p, l⟩ _ _ w4 I4.out SG.out.small RT.out)
      rw [BY.out] at EC
      clear hb IT B3 X3 I3 R3 N3
      have XX := X4.out
      have x0 := XX.cell 0
      have x1 := XX.cell 1
      have x2 := XX.cell 2
      have x3 := XX.cell 3
      have x4 := XX.cell 4
      have x5 := XX.cell 5
      have x6 := XX.cell 6
      simp only [List.getElem?_toArray, List.getElem?_cons_zero, List.getElem?_cons_succ] at x0 x1 x2 x3 x4 x5 x6
      clear XX
      go_wp2_with fail
      refine EC.out.mono ?_
      rintro e5 w5 ⟨⟨v5, rfl, ho5⟩, hb⟩
      have B5 := Lib.hid (B4.out.trans (hb.mono B4.out.size))
      have X5 := Lib.hid (X4.out.on hb)
      have I5 := Lib.hid (I4.out.on hb)
      have SB := Lib.hid (sameB _ _ b b w5 (Row.of_own ho5) (R4.out.on hb))
      rw [decide_eq_true rfl] at SB
      clear hb ho5 EC B4 X4 I4 R4 x0 x1 x2 x3 x4 x5 x6
      go_wp2_with fail
      refine SB.out.mono ?_
      rintro e6 w6 ⟨rfl, hb⟩
      have B6 := Lib.hid (B5.out.trans (hb.mono B5.out.size))
      have X6 := Lib.hid (X5.out.on hb)
      have I6 := Lib.hid (I5.out.on hb)
      have RC := Lib.hid (wright_any ⟨k, tc, ts, ic, is, p, l⟩ _ _ w6 I6.out SG.out.small (by have := SG.out.l; simp only at this ⊢; omega))
      rw [RT.out] at RC
      clear hb SB B5 X5 I5
      have XX := X6.out
      have x0 := XX.cell 0
      have x1 := XX.cell 1
      have x2 := XX.cell 2
      have x3 := XX.cell 3
      have x4 := XX.cell 4
      have x5 := XX.cell 5
      have x6 := XX.cell 6
      simp only [List.getElem?_toArray, List.getElem?_cons_zero, List.getElem?_cons_succ] at x0 x1 x2 x3 x4 x5 x6
      clear XX
      go_wp2_with fail
      refine RC.out.mono ?_
      rintro e7 w7 ⟨rfl, hb⟩
      have B7 := Lib.hid (B6.out.trans (hb.mono B6.out.size))
      have RU := Lib.hid (runs_any w7 (G0.out.on B7.out).eg)
      clear hb RC B6 X6 I6 x0 x1 x2 x3 x4 x5 x6
      go_wp2_with fail
      refine RU.out.mono ?_
      rintro e8 w8 ⟨rfl, hb⟩
      have B8 := Lib.hid (B7.out.trans (hb.mono B7.out.size))
      clear hb RU B7
      go_wp2_with fail
      go_ret
      exact ⟨rfl, B8.out⟩
end Go.Proofs.YtfcgfnmokbbcaaaDoor.Ws

namespace Go.Proofs.YtfcgfnmokbbcaaaDoor.Ws
open Go.RowKit Go.Sort Go.Proofs.YtfcgfnmokbbcaaaDoor Go.Proofs.YtfcgfnmokbbcaaaDoor.Rw Go.Proofs.YtfcgfnmokbbcaaaDoor.Nm Go.Proofs.YtfcgfnmokbbcaaaDoor.At Go.Proofs.YtfcgfnmokbbcaaaDoor.Pr Go.Proofs.YtfcgfnmokbbcaaaDoor.Wr Go.Proofs.YtfcgfnmokbbcaaaDoor.Va

def nmA (j : Nat) : ByteArray := ⟨#[97, 97, 97, 97, 97, 97, 97, 97, 97, 97, 97, UInt8.ofNat (97 + j)]⟩
def abcT : ByteArray := ⟨#[97, 98, 99, 100, 101, 102, 103, 104, 105, 106, 107, 108]⟩
def conA (j : Nat) : C5 := (nmA j, 1, -9223372036854775808, 9223372036854775807, ⟨#[]⟩)
def attA (j : Nat) : A4 := (nmA j, true, 0, abcT)
def conL (j : Nat) : List C5 := (List.range j).map conA
def attL (j : Nat) : List A4 := (List.range j).map attA
abbrev bigM (z : Int) (j : Nat) : Mg := ⟨3, 31, 9223372036854775807, z, 0, conL j, []⟩
abbrev pubM (j : Nat) : Mg := ⟨5, 31, 9223372036854775807, 0, 0, [], attL j⟩
theorem conL_succ (j : Nat) : conL (j + 1) = conL j ++ [conA j] := by unfold conL; rw [List.range_succ, List.map_append]; rfl
theorem attL_succ (j : Nat) : attL (j + 1) = attL j ++ [attA j] := by unfold attL; rw [List.range_succ, List.map_append]; rfl
theorem conL_len (j : Nat) : (conL j).length = j := by unfold conL; rw [List.length_map, List.length_range]
theorem attL_len (j : Nat) : (attL j).length = j := by unfold attL; rw [List.length_map, List.length_range]
theorem conL_right : rightP (conL 5) = true := by decide +kernel
theorem attL_right : rightT (attL 5) = true := by decide +kernel
theorem bigM_right (z : Int) (h : 0 ≤ z ∧ z ≤ 31) : rightM (bigM z 5) = true := by
  have h1 : rightI z 0 = true := by unfold rightI; simp; omega
  simp [rightM, h1, conL_right]
  decide
theorem pubM_right : rightM (pubM 5) = true := by
  simp [rightM, attL_right]
  decide
theorem bigM_small (z : Int) : Small (bigM z 5) := ⟨by rw [conL_len]; omega, by simp, fun x hx => by
  obtain ⟨i, _, rfl⟩ := List.mem_map.1 hx
  exact ⟨by show (12 : Nat) ≤ maxLen; unfold maxLen; omega, by show (0 : Nat) ≤ maxLen; unfold maxLen; omega⟩, fun x hx => (by cases hx)⟩
theorem pubM_small : Small (pubM 5) := ⟨by simp, by rw [attL_len]; omega, fun x hx => (by cases hx), fun x hx => by
  obtain ⟨i, _, rfl⟩ := List.mem_map.1 hx
  exact ⟨by show (12 : Nat) ≤ maxLen; unfold maxLen; omega, by show (12 : Nat) ≤ maxLen; unfold maxLen; omega⟩⟩
theorem bigM_64 (z : Int) (h : 0 ≤ z ∧ z ≤ 31) : M64 (bigM z 5) := by
  refine ⟨?_, ?_, ?_, ?_, ?_, fun c hc => ?_, fun a ha => (by cases ha)⟩ <;> try (unfold I64; simp only; omega)
  obtain ⟨i, _, rfl⟩ := List.mem_map.1 hc
  refine ⟨?_, ?_, ?_⟩ <;> (unfold I64 conA; simp only; omega)
theorem own_ne {α : Type} {E : Ek α} {W : World} {B b : Nat} {v : Value} {l : List α} {cs : Array Value} {t : TypeId} (h : Own E W B v l) (hb : Box W b cs t) (ht : t ≠ E.t) : v.ownBlock ≠ some b := by
  intro e
  rcases own_open h with ⟨rfl, _⟩ | ⟨g, cap, cur, rfl, _, hg, _⟩
  · cases e
  · injection e with e
    have e : g = b := e
    subst e
    have := hg.symm.trans hb
    injection this with this
    injection this with _ this
    exact ht this.symm
theorem own_apart {α β : Type} {E : Ek α} {F : Ek β} {W : World} {B C : Nat} {v x : Value} {l : List α} {m : List β} (h : Own E W B v l) (h2 : Own F W C x m) (ht : E.t ≠ F.t) : v.ownBlock = none ∨ v.ownBlock ≠ x.ownBlock := by
  rcases own_open h with ⟨rfl, _⟩ | ⟨g, cap, cur, rfl, _, hg, _⟩
  · exact Or.inl rfl
  · exact Or.inr fun e => own_ne h2 hg ht e.symm
/-- While both grow. -/
structure Sz (w W : World) (B : Nat) (z : Int) (i j : Nat) (pv lv : Value) : Prop where
  be : Below w.heap.size w W
  wB : w.heap.size ≤ B
  x1 : Box W B #[.int .i64 3, .int .i64 31, .int .i64 9223372036854775807, .int .i64 z, .int .i64 0, pv, nilS] 32
  x2 : Box W (B + 1) #[.int .i64 5, .int .i64 31, .int .i64 9223372036854775807, .int .i64 0, .int .i64 0, nilS, lv] 32
  o1 : OwnC W (B + 2) pv (conL i)
  o2 : OwnL W (B + 2) lv (attL j)
theorem Sz.start {w W : World} (h : Below w.heap.size w W) (z : Int) : Sz w ((W.alloc (.cells #[.int .i64 3, .int .i64 31, .int .i64 9223372036854775807, .int .i64 z, .int .i64 0, nilS, nilS] 32)).alloc (.cells #[.int .i64 5, .int .i64 31, .int .i64 9223372036854775807, .int .i64 0, .int .i64 0, nilS, nilS] 32)) W.heap.size z 0 0 nilS nilS where
  be := (h.alloc h.size _).alloc (by have := h.size; simp; omega) _
  wB := h.size
  x1 := (box_new W _ _).more _
  x2 := by
    have h := box_new (W.alloc (.cells #[.int .i64 3, .int .i64 31, .int .i64 9223372036854775807, .int .i64 z, .int .i64 0, nilS, nilS] 32)) #[.int .i64 5, .int .i64 31, .int .i64 9223372036854775807, .int .i64 0, .int .i64 0, nilS, nilS] 32
    simpa using h
  o1 := own_nil _ _
  o2 := own_nil _ _
theorem Sz.on {w W W' : World} {B : Nat} {z : Int} {i j : Nat} {pv lv : Value} (h : Sz w W B z i j pv lv) (hb : Below W.heap.size W W') : Sz w W' B z i j pv lv where
  be := h.be.trans (hb.mono h.be.size)
  wB := h.wB
  x1 := h.x1.on hb
  x2 := h.x2.on hb
  o1 := h.o1.kept (w' := W') (row := none) ⟨hb.os, hb.tape, hb.output, hb.size, fun k hk _ => hb.block k hk⟩ (by cases pv.ownBlock <;> simp)
  o2 := h.o2.kept (w' := W') (row := none) ⟨hb.os, hb.tape, hb.output, hb.size, fun k hk _ => hb.block k hk⟩ (by cases lv.ownBlock <;> simp)
theorem Sz.pushC {w W : World} {B : Nat} {z : Int} {i j : Nat} {pv lv : Value} (h : Sz w W B z i j pv lv) (hi : i ≤ 10) (n : Nat) (hn : W.heap.size = n) :
    ∃ g cap w', (Builtin.append_ #[29, 29] 29 #[pv, .slice (some ⟨n, 0, none⟩) 1 1]).run Tryd.prog (W.alloc (.cells #[.string (nmA i), .int .i64 1, .int .i64 (-9223372036854775808), .int .i64 9223372036854775807, .string ⟨#[]⟩] 57)) = .ok (.slice (some ⟨g, 0, none⟩) (i + 1) cap) w' ∧ Box w' B #[.int .i64 3, .int .i64 31, .int .i64 9223372036854775807, .int .i64 z, .int .i64 0, pv, nilS] 32 ∧ Sz w (w'.setCell ⟨B, 5, none⟩ (.slice (some ⟨g, 0, none⟩) (i + 1) cap)) B z (i + 1) j (.slice (some ⟨g, 0, none⟩) (i + 1) cap) lv := by
  subst hn
  have hlit := row_lit okC W [conA i] 1 rfl (by simp) #[.string (nmA i), .int .i64 1, .int .i64 (-9223372036854775808), .int .i64 9223372036854775807, .string ⟨#[]⟩] rfl
  have h' := h.on ((Below.refl W.heap.size W).alloc (Nat.le_refl _) (.cells #[.string (nmA i), .int .i64 1, .int .i64 (-9223372036854775808), .int .i64 9223372036854775807, .string ⟨#[]⟩] 57))
  have hB : B + 2 ≤ (W.alloc (.cells #[.string (nmA i), .int .i64 1, .int .i64 (-9223372036854775808), .int .i64 9223372036854775807, .string ⟨#[]⟩] 57)).heap.size := by have := h'.x2.lt; omega
  obtain ⟨v', w', r, o', gr⟩ := app_row okC (B + 2) h'.o1 (Row.of_own hlit) (by rw [conL_len]; omega) (by simp) hB 29
  rw [← conL_succ] at o'
  obtain ⟨g, cap, rfl⟩ : ∃ g cap, v' = .slice (some ⟨g, 0, none⟩) (i + 1) cap := by
    rcases own_open o' with ⟨_, e⟩ | ⟨g, cap, cur, e, _⟩
    · have := congrArg List.length e; rw [conL_len] at this; simp at this
    · exact ⟨g, cap, by rw [e, conL_len]⟩
  have n1 : pv.ownBlock ≠ some B := fun e => by have := (h.o1.lt B e).1; omega
  have n2 : pv.ownBlock ≠ some (B + 1) := fun e => by have := (h.o1.lt (B + 1) e).1; omega
  have b1 := box_grown h'.x1 gr n1
  have b2 := box_grown h'.x2 gr n2
  refine ⟨g, cap, w', r, b1, ?_, h.wB, ?_, ?_, ?_, ?_⟩
  · have hd := h'.be.size
    exact (h'.be.grown gr h'.be.size fun k hk => by have := (h.o1.lt k hk).1; have := h.wB; omega).setCell h.wB _
  · have := box_set (k := 5) b1 (.slice (some ⟨g, 0, none⟩) (i + 1) cap)
    simpa using this
  · exact (RowKit.Below.heap_setCell _ _ _ _ (by simp)).trans b2
  · exact own_set o' B 5 _ (by omega)
  · exact own_set (h'.o2.kept gr (own_apart h'.o2 h'.o1 (by decide))) B 5 _ (by omega)
theorem Sz.pushA {w W : World} {B : Nat} {z : Int} {i j : Nat} {pv lv : Value} (h : Sz w W B z i j pv lv) (hj : j ≤ 10) (n : Nat) (hn : W.heap.size = n) :
    ∃ g cap w', (Builtin.append_ #[30, 30] 30 #[lv, .slice (some ⟨n, 0, none⟩) 1 1]).run Tryd.prog (W.alloc (.cells #[.string (nmA j), .bool true, .int .i64 0, .string abcT] 61)) = .ok (.slice (some ⟨g, 0, none⟩) (j + 1) cap) w' ∧ Box w' (B + 1) #[.int .i64 5, .int .i64 31, .int .i64 9223372036854775807, .int .i64 0, .int .i64 0, nilS, lv] 32 ∧ Sz w (w'.setCell ⟨B + 1, 6, none⟩ (.slice (some ⟨g, 0, none⟩) (j + 1) cap)) B z i (j + 1) pv (.slice (some ⟨g, 0, none⟩) (j + 1) cap) := by
  subst hn
  have hlit := row_lit okA W [attA j] 1 rfl (by simp) #[.string (nmA j), .bool true, .int .i64 0, .string abcT] rfl
  have h' := h.on ((Below.refl W.heap.size W).alloc (Nat.le_refl _) (.cells #[.string (nmA j), .bool true, .int .i64 0, .string abcT] 61))
  have hB : B + 2 ≤ (W.alloc (.cells #[.string (nmA j), .bool true, .int .i64 0, .string abcT] 61)).heap.size := by have := h'.x2.lt; omega
  obtain ⟨v', w', r, o', gr⟩ := app_row okA (B + 2) h'.o2 (Row.of_own hlit) (by rw [attL_len]; omega) (by simp) hB 30
  rw [← attL_succ] at o'
  obtain ⟨g, cap, rfl⟩ : ∃ g cap, v' = .slice (some ⟨g, 0, none⟩) (j + 1) cap := by
    rcases own_open o' with ⟨_, e⟩ | ⟨g, cap, cur, e, _⟩
    · have := congrArg List.length e; rw [attL_len] at this; simp at this
    · exact ⟨g, cap, by rw [e, attL_len]⟩
  have n1 : lv.ownBlock ≠ some B := fun e => by have := (h.o2.lt B e).1; omega
  have n2 : lv.ownBlock ≠ some (B + 1) := fun e => by have := (h.o2.lt (B + 1) e).1; omega
  have b1 := box_grown h'.x1 gr n1
  have b2 := box_grown h'.x2 gr n2
  refine ⟨g, cap, w', r, b2, ?_, h.wB, ?_, ?_, ?_, ?_⟩
  · exact (h'.be.grown gr h'.be.size fun k hk => by have := (h.o2.lt k hk).1; have := h.wB; omega).setCell (by have := h.wB; show w.heap.size ≤ B + 1; omega) _
  · exact (RowKit.Below.heap_setCell _ _ _ _ (by simp)).trans b1
  · have := box_set (k := 6) b2 (.slice (some ⟨g, 0, none⟩) (j + 1) cap)
    simpa using this
  · exact own_set (h'.o1.kept gr (own_apart h'.o1 h'.o2 (by decide))) (B + 1) 6 _ (by omega)
  · exact own_set o' (B + 1) 6 _ (by omega)
end Go.Proofs.YtfcgfnmokbbcaaaDoor.Ws
