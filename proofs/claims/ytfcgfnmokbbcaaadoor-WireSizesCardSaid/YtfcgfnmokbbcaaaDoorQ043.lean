/-
  Lists of numbers, lists of bytes, IDs and bytes that came in, opened. No condition beyond their reading.
  The end of the law WireOnly: any bytes are decoded, or told; what is decoded encodes just so. Conditions: package errors' variable holds the handle of the type 'error'; at most a thousand bytes.
-/
import Derived.Test.YtfcgfnmokbbcaaaDoorQ001
import Derived.Test.YtfcgfnmokbbcaaaDoorQ000
import Derived.Test.YtfcgfnmokbbcaaaDoorQ005
import Derived.Test.YtfcgfnmokbbcaaaDoorQ042
import Derived.Test.YtfcgfnmokbbcaaaDoorQ036
import Derived.Test.YtfcgfnmokbbcaaaDoorQ010
namespace Go.Proofs.YtfcgfnmokbbcaaaDoor.Nm
open Go.RowKit Go.Proofs.YtfcgfnmokbbcaaaDoor Go.Proofs.YtfcgfnmokbbcaaaDoor.Rw Go.ChangeShapes Go.WideShapes

theorem cellsB : Tryd.prog.cellsOf 5 = 1 := by kernel_rfl
theorem u8_bd {n : Int} (h : (Lit.int .u8 n).wf = true) : 0 ≤ n ∧ n ≤ 255 := by
  have h2 : (decide (IntKind.u8.min ≤ n) && decide (n ≤ IntKind.u8.max)) = true := h
  rw [Bool.and_eq_true, decide_eq_true_eq, decide_eq_true_eq, show IntKind.u8.min = 0 by decide, show IntKind.u8.max = 255 by decide] at h2
  exact h2
theorem u8_is {n : Int} (h : (Lit.int .u8 n).wf = true) : ∃ x : UInt8, n = x.toNat := by
  have h2 := u8_bd h
  exact ⟨UInt8.ofNat n.toNat, by rw [UInt8.toNat_ofNat']; omega⟩
set_option maxRecDepth 100000 in
theorem open_rowI {H : Type} {enc : TypeId × Value → H} {W : World} {r : Reach} {b0 : Nat} {sp : Nat → Bool} {held : Bool} {v : Value} {d : DataW H} {ps : List MemPlace}
    (hval : Value.okWide Tryd.prog W r b0 37 v) (hd : DataW.Trod enc Tryd.prog W 0 sp held 37 v d ps) : ∃ zs, RowI W v zs ∧ ∀ z ∈ zs, -9223372036854775808 ≤ z ∧ z ≤ 9223372036854775807 := by
  obtain ⟨a, len, cap, rfl⟩ := okWide_slice Tryd.underlying37 hval
  obtain ⟨fuel, hf⟩ := hd
  rcases open_ints Tryd.underlying37 Tryd.underlying3 In.cellsI hf with ⟨h1, _⟩ | ⟨a', len', cap', zs, h1, _, h3, h4, h5, _, h7, h8⟩
  · have e : Value.slice a len cap = .slice none 0 0 := by simpa [Value.cells] using h1
    rw [e]
    exact ⟨[], row_nil W, fun z h => by cases h⟩
  · have e : Value.slice a len cap = .slice (some a') len' cap' := by simpa [Value.cells] using h1
    rw [e]
    have hle : len' ≤ zs.length := by rw [h5]; split <;> omega
    have hl : (zs.take len').length = len' := by simp; omega
    refine ⟨zs.take len', Or.inr ⟨a', cap', by rw [hl], by omega, h4, fun j u hj => ?_⟩, fun z hz => In.lits_bd (h8 z (List.mem_of_mem_take hz))⟩
    rw [flatI, List.getElem?_map] at hj
    cases hz : (zs.take len')[j]? with
    | none => rw [hz] at hj; cases hj
    | some z =>
      rw [hz] at hj
      obtain rfl : Value.int .i64 z = u := by simpa using hj
      obtain ⟨hi, hzi⟩ := List.getElem?_eq_some_iff.1 hz
      have hz2 : zs[j]'(by omega) = z := by simpa using hzi
      have hc := h7 j (by omega)
      have hg : zs.getD j 0 = z := by rw [← hz2]; simp [List.getD, show j < zs.length by omega]
      rw [hg] at hc
      exact hc
set_option maxRecDepth 100000 in
theorem open_rowB {H : Type} {enc : TypeId × Value → H} {W : World} {r : Reach} {b0 : Nat} {sp : Nat → Bool} {held : Bool} {v : Value} {d : DataW H} {ps : List MemPlace}
    (hval : Value.okWide Tryd.prog W r b0 22 v) (hd : DataW.Trod enc Tryd.prog W 0 sp held 22 v d ps) : ∃ l, RowB W v l := by
  obtain ⟨a, len, cap, rfl⟩ := okWide_slice Tryd.underlying22 hval
  obtain ⟨fuel, hf⟩ := hd
  rcases open_ints Tryd.underlying22 Tryd.underlying5 cellsB hf with ⟨h1, _⟩ | ⟨a', len', cap', zs, h1, _, h3, h4, h5, _, h7, h8⟩
  · have e : Value.slice a len cap = .slice none 0 0 := by simpa [Value.cells] using h1
    rw [e]
    exact ⟨[], row_nil W⟩
  · have e : Value.slice a len cap = .slice (some a') len' cap' := by simpa [Value.cells] using h1
    rw [e]
    have hle : len' ≤ zs.length := by rw [h5]; split <;> omega
    have hl0 : (zs.take len').length = len' := by simp; omega
    have hl : ((zs.take len').map fun n => UInt8.ofNat n.toNat).length = len' := by rw [List.length_map, hl0]
    refine ⟨(zs.take len').map fun n => UInt8.ofNat n.toNat, Or.inr ⟨a', cap', by rw [hl], by omega, h4, fun j u hj => ?_⟩⟩
    rw [flatB, List.getElem?_map, List.getElem?_map] at hj
    cases hz : (zs.take len')[j]? with
    | none => rw [hz] at hj; cases hj
    | some z =>
      rw [hz] at hj
      obtain ⟨hi, hzi⟩ := List.getElem?_eq_some_iff.1 hz
      have hz2 : zs[j]'(by omega) = z := by simpa using hzi
      have hw := u8_bd (h8 z (by rw [← hz2]; exact List.getElem_mem _))
      have hc := h7 j (by omega)
      have hg : zs.getD j 0 = z := by rw [← hz2]; simp [List.getD, show j < zs.length by omega]
      rw [hg] at hc
      have e2 : ((UInt8.ofNat z.toNat).toNat : Int) = z := by rw [UInt8.toNat_ofNat']; omega
      simp only [Option.map_some, Option.some.injEq] at hj
      rw [e2] at hj
      rw [← hj]
      exact hc
theorem cellsID : Tryd.prog.cellsOf 28 = 2 := by kernel_rfl
set_option maxRecDepth 100000 in
theorem open_id {H : Type} {enc : TypeId × Value → H} {W : World} {r : Reach} {b0 base : Nat} {sp : Nat → Bool} {held : Bool} {v : Value} {d : DataW H} {ps : List MemPlace}
    (hval : Value.okWide Tryd.prog W r b0 28 v) (hd : DataW.Trod enc Tryd.prog W base sp held 28 v d ps) :
    ∃ c q : Int, v = .agg #[.int .i64 c, .int .i64 q] ∧ (Lit.int .i64 c).wf = true ∧ (Lit.int .i64 q).wf = true := by
  obtain ⟨cs, rfl, hsz⟩ := okWide_struct Tryd.underlying28 hval
  obtain ⟨fuel, hf⟩ := hd
  obtain ⟨xs, n, _, _, _, hxl, hx⟩ := DataW.trod_struct Tryd.underlying28 hf
  rw [cellsID] at hsz
  obtain ⟨l⟩ := cs
  match l, hsz with
  | [c0, c1], _ =>
    have f0 : DataW.trod enc Tryd.prog W base sp held n 3 (([c0, c1].drop 0).take (Tryd.prog.cellsOf 3)) = xs[0]? := hx 0 _ rfl
    have f1 : DataW.trod enc Tryd.prog W base sp held n 3 (([c0, c1].drop 1).take (Tryd.prog.cellsOf 3)) = xs[1]? := hx 1 _ rfl
    have hxl' : xs.length = 2 := hxl
    simp only [In.cellsI, List.drop_zero, List.drop_succ_cons, List.take_succ_cons, List.take_zero] at f0 f1
    rw [List.getElem?_eq_getElem (by omega)] at f0 f1
    obtain ⟨m0, e0, _, hw0⟩ := DataW.trod_int Tryd.underlying3 f0
    obtain ⟨m1, e1, _, hw1⟩ := DataW.trod_int Tryd.underlying3 f1
    simp only [List.cons.injEq, and_true] at e0 e1
    subst e0 e1
    exact ⟨m0, m1, rfl, hw0, hw1⟩
end Go.Proofs.YtfcgfnmokbbcaaaDoor.Nm

namespace Go.Proofs.YtfcgfnmokbbcaaaDoor.Ws
open Go.RowKit Go.Sort Go.Proofs.YtfcgfnmokbbcaaaDoor Go.Proofs.YtfcgfnmokbbcaaaDoor.Rw Go.Proofs.YtfcgfnmokbbcaaaDoor.Nm Go.Proofs.YtfcgfnmokbbcaaaDoor.At Go.Proofs.YtfcgfnmokbbcaaaDoor.Pr Go.Proofs.YtfcgfnmokbbcaaaDoor.Wr Go.Proofs.YtfcgfnmokbbcaaaDoor.Va

def RQ (w : World) (e : Ending) (w' : World) : Prop := e = .returned (.bool true) ∧ Below w.heap.size w w'
noncomputable def onlyT : Code := afterN 6 (Tryd.f5.body.getD .skip)
theorem zero_same : sameM zeroMg zeroMg = true := by decide
set_option maxRecDepth 100000 in
set_option maxHeartbeats 16000000 in
theorem only_tail (w W : World) (ao : Option Addr) (ac n : Nat) (b : List UInt8) (hb : Below w.heap.size w W) (hg : GE w) (hr : RowB W (.slice ao n ac) b) (hn : n = b.length) (h1000 : n ≤ 1000)
    (u0 u1 u2 u3 u4 u5 u6 u7 u8 u9 u10 u12 u13 u14 u15 u16 u17 u18 u19 u20 u21 u22 u23 u24 u25 u26 u27 u28 u29 u30 u31 u32 u33 u34 u35 u36 u37 u38 u39 u40 u41 u42 u43 u44 u45 u46 u47 u48 u49 u50 u51 u52 u53 u54 u55 u56 u57 u58 u59 u60 u61 u62 u63 u64 u65 u66 u67 u68 u69 u70 u71 u72 u73 u74 u75 u76 u77 u78 u79 u80 u81 u82 u83 u84 u85 u86 u87 u88 u89 u90 u91 u92 u93 u94 u95 u96 u97 u98 u99 u100 u101 u102 u103 u104 u105 u106 u107 u108 u109 u110 u111 u112 u113 u114 u115 u116 u117 u118 u119 u120 u121 u122 u123 u124 : Value) :
    Code.wp Tryd.prog onlyT (bodyPost Tryd.prog Tryd.f5 (RQ w)) ⟨(u0 :: u1 :: u2 :: u3 :: u4 :: u5 :: u6 :: u7 :: u8 :: u9 :: u10 :: .slice ao n ac :: u12 :: u13 :: u14 :: u15 :: u16 :: u17 :: u18 :: u19 :: u20 :: u21 :: u22 :: u23 :: u24 :: u25 :: u26 :: u27 :: u28 :: u29 :: u30 :: u31 :: u32 :: u33 :: u34 :: u35 :: u36 :: u37 :: u38 :: u39 :: u40 :: u41 :: u42 :: u43 :: u44 :: u45 :: u46 :: u47 :: u48 :: u49 :: u50 :: u51 :: u52 :: u53 :: u54 :: u55 :: u56 :: u57 :: u58 :: u59 :: u60 :: u61 :: u62 :: u63 :: u64 :: u65 :: u66 :: u67 :: u68 :: u69 :: u70 :: u71 :: u72 :: u73 :: u74 :: u75 :: u76 :: u77 :: u78 :: u79 :: u80 :: u81 :: u82 :: u83 :: u84 :: u85 :: u86 :: u87 :: u88 :: u89 :: u90 :: u91 :: u92 :: u93 :: u94 :: u95 :: u96 :: u97 :: u98 :: u99 :: u100 :: u101 :: u102 :: u103 :: u104 :: u105 :: u106 :: u107 :: u108 :: u109 :: u110 :: u111 :: u112 :: u113 :: u114 :: u115 :: u116 :: u117 :: u118 :: u119 :: u120 :: u121 :: u122 :: u123 :: u124 :: []).toArray, []⟩ W := by
  have G0 := Lib.hid hg
  have B0 := Lib.hid hb
  have R0 := Lib.hid hr
  have HN := Lib.hid hn
  have RM := Lib.hid (roomyB _ b 7 W hr (by omega))
  rw [← hn] at RM
  clear hb hg hr hn
  unfold onlyT
  conv => arg 2; whnf
  go_wp2_with fail
  refine RM.out.mono ?_
  rintro e1 w1 ⟨g, rfl, ho, hb⟩
  have B1 := Lib.hid (B0.out.trans (hb.mono B0.out.size))
  have R1 := Lib.hid (R0.out.on hb)
  have F1 := Lib.hid (Row.of_own ho)
  obtain ⟨lo, slo, rlo⟩ := row_lo8 (l := b ++ List.replicate 80 7) F1.out n (by rw [List.length_append, ← HN.out]; omega)
  have etk : List.take n (b ++ List.replicate 80 (7 : UInt8)) = b := List.take_left' HN.out.symm
  rw [etk] at rlo
  clear etk
  have RL := Lib.hid rlo
  clear ho hb RM rlo B0 R0
  cases hd : decM b with
  | none =>
    have DC := Lib.hid (dec_none lo b w1 RL.out hd)
    rw [← HN.out] at DC
    clear hd
    go_wp2_with fail
    refine DC.out.mono ?_
    rintro e2 w2 ⟨⟨v2, rfl, hf⟩, hb⟩
    obtain ⟨f2, rfl, _⟩ := hf.ch
    have B2 := Lib.hid (B1.out.trans (hb.mono B1.out.size))
    have N3 := Lib.hid (new_below w2 (.cells (mcells zeroMg nilS nilS) 32))
    have X3 := Lib.hid (box_new w2 (mcells zeroMg nilS nilS) 32)
    have F3 := Lib.hid (hf.on N3.out)
    have B3 := Lib.hid (B2.out.trans (N3.out.mono B2.out.size))
    have IT := Lib.hid (intactB ⟨g, 0, none⟩ (n + 80) _ b 7 (w2.alloc (.cells (mcells zeroMg nilS nilS) 32)) (by rw [← HN.out]; exact (F1.out.on hb).on N3.out) ((R1.out.on hb).on N3.out) (by rw [← HN.out]; omega))
    rw [← HN.out] at IT
    clear hf hb DC B1 slo RL
    go_wp2_with fail
    refine IT.out.mono ?_
    rintro e4 w4 ⟨rfl, hb⟩
    have B4 := Lib.hid (B3.out.trans (hb.mono B3.out.size))
    have F4 := Lib.hid (F3.out.on hb)
    have X4 := Lib.hid (X3.out.on hb)
    have KD := Lib.hid (wkind_ok F4.out (G0.out.on B4.out))
    clear hb IT B3 F3 X3 N3 B2 F1 R1
    go_wp2_with fail
    refine KD.out.mono ?_
    rintro e5 w5 ⟨rfl, hb⟩
    have B5 := Lib.hid (B4.out.trans (hb.mono B4.out.size))
    have F5 := Lib.hid (F4.out.on hb)
    have X5 := Lib.hid (X4.out.on hb)
    have EQ := eqE 1 1 w5 true rfl
    have PL := Lib.hid (wplace_ok F5.out (G0.out.on B5.out))
    clear hb KD B4 F4 X4
    go_wp2_with fail
    refine PL.out.mono ?_
    rintro e6 w6 ⟨rfl, hb⟩
    have B6 := Lib.hid (B5.out.trans (hb.mono B5.out.size))
    have X6 := Lib.hid (X5.out.on hb)
    have MS := Lib.hid (messages_any zeroMg zeroMg nilS nilS nilS nilS w6 (none_in w6 0 0 0 0 0) (none_in w6 0 0 0 0 0) (by simp) (by simp) (by simp) (by simp))
    rw [zero_same] at MS
    clear hb PL B5 F5 X5 EQ
    have XX := X6.out
    have x0 := XX.cell 0
    have x1 := XX.cell 1
    have x2 := XX.cell 2
    have x3 := XX.cell 3
    have x4 := XX.cell 4
    have x5 := XX.cell 5
    have x6 := XX.cell 6
    simp only [List.getElem?_toArray, List.getElem?_cons_zero, List.getElem?_cons_succ] at x0 x1 x2 x3 x4 x5 x6
    clear XX
    go_wp2_with fail
    refine MS.out.mono ?_
    rintro e7 w7 ⟨rfl, hb⟩
    have B7 := Lib.hid (B6.out.trans (hb.mono B6.out.size))
    have RU := Lib.hid (runs_any w7 (G0.out.on B7.out).eg)
    clear hb MS B6 X6 x0 x1 x2 x3 x4 x5 x6
    go_wp2_with fail
    refine RU.out.mono ?_
    rintro e8 w8 ⟨rfl, hb⟩
    have B8 := Lib.hid (B7.out.trans (hb.mono B7.out.size))
    clear hb RU B7
    go_wp2_with fail
    go_ret
    exact ⟨rfl, B8.out⟩
  | some m =>
    obtain ⟨hR, hB, hS⟩ := decM_some hd
    have RT := Lib.hid hR
    have BY := Lib.hid hB
    have SG := Lib.hid hS
    have DC := Lib.hid (dec_some lo b w1 RL.out m hd)
    clear hd hR hB hS
    go_wp2_with fail
    refine DC.out.mono ?_
    rintro e2 w2 ⟨⟨pv, lv, rfl, hop, hol⟩, hb⟩
    have B2 := Lib.hid (B1.out.trans (hb.mono B1.out.size))
    obtain ⟨k, tc, ts, ic, is, p, l⟩ := m
    obtain ⟨po, pc, rfl⟩ := (Row.of_own hop).len
    obtain ⟨l0, lc, rfl⟩ := (Row.of_own hol).len
    have hin : MgIn w2 ⟨k, tc, ts, ic, is, p, l⟩ (.slice po p.length pc) (.slice l0 l.length lc) := ⟨Row.of_own hop, row_EA.2 (Row.of_own hol)⟩
    have N3 := Lib.hid (new_below w2 (.cells (mcells ⟨k, tc, ts, ic, is, p, l⟩ (.slice po p.length pc) (.slice l0 l.length lc)) 32))
    have X3 := Lib.hid (box_new w2 (mcells ⟨k, tc, ts, ic, is, p, l⟩ (.slice po p.length pc) (.slice l0 l.length lc)) 32)
    have I3 := Lib.hid (hin.on N3.out)
    have B3 := Lib.hid (B2.out.trans (N3.out.mono B2.out.size))
    have R3 := Lib.hid ((R1.out.on hb).on N3.out)
    have IT := Lib.hid (intactB ⟨g, 0, none⟩ (n + 80) _ b 7 (w2.alloc (.cells (mcells ⟨k, tc, ts, ic, is, p, l⟩ (.slice po p.length pc) (.slice l0 l.length lc)) 32)) (by rw [← HN.out]; exact (F1.out.on hb).on N3.out) R3.out (by rw [← HN.out]; omega))
    rw [← HN.out] at IT
    clear hop hol hin hb DC B1 slo RL R1 F1 B2
    go_wp2_with fail
    refine IT.out.mono ?_
    rintro e4 w4 ⟨rfl, hb⟩
    have B4 := Lib.hid (B3.out.trans (hb.mono B3.out.size))
    have X4 := Lib.hid (X3.out.on hb)
    have I4 := Lib.hid (I3.out.on hb)
    have R4 := Lib.hid (R3.out.on hb)
    have EC := Lib.hid (enc_ok ⟨k, tc, ts, ic, is, p, l⟩ _ _ w4 I4.out SG.out.small RT.out)
    rw [BY.out] at EC
    clear hb IT B3 X3 I3 R3 N3
    have XX := X4.out
    have x0 := XX.cell 0
    have x1 := XX.cell 1
    have x2 := XX.cell 2
    have x3 := XX.cell 3
    have x4 := XX.cell 4
    have x5 := XX.cell 5
    have x6 := XX.cell 6
    simp only [List.getElem?_toArray, List.getElem?_cons_zero, List.getElem?_cons_succ] at x0 x1 x2 x3 x4 x5 x6
    clear XX
    go_wp2_with fail
    refine EC.out.mono ?_
    rintro e5 w5 ⟨⟨v5, rfl, ho5⟩, hb⟩
    have B5 := Lib.hid (B4.out.trans (hb.mono B4.out.size))
    have X5 := Lib.hid (X4.out.on hb)
    have I5 := Lib.hid (I4.out.on hb)
    have SB := Lib.hid (sameB _ _ b b w5 (Row.of_own ho5) (R4.out.on hb))
    rw [decide_eq_true rfl] at SB
    clear hb ho5 EC B4 X4 I4 R4 x0 x1 x2 x3 x4 x5 x6
    go_wp2_with fail
    refine SB.out.mono ?_
    rintro e6 w6 ⟨rfl, hb⟩
    have B6 := Lib.hid (B5.out.trans (hb.mono B5.out.size))
    have X6 := Lib.hid (X5.out.on hb)
    have I6 := Lib.hid (I5.out.on hb)
    have RC := Lib.hid (wright_any ⟨k, tc, ts, ic, is, p, l⟩ _ _ w6 I6.out SG.out.small (by have := SG.out.l; simp only at this ⊢; omega))
    rw [RT.out] at RC
    clear hb SB B5 X5 I5
    have XX := X6.out
    have x0 := XX.cell 0
    have x1 := XX.cell 1
    have x2 := XX.cell 2
    have x3 := XX.cell 3
    have x4 := XX.cell 4
    have x5 := XX.cell 5
    have x6 := XX.cell 6
    simp only [List.getElem?_toArray, List.getElem?_cons_zero, List.getElem?_cons_succ] at x0 x1 x2 x3 x4 x5 x6
    clear XX
    go_wp2_with fail
    refine RC.out.mono ?_
    rintro e7 w7 ⟨rfl, hb⟩
    have B7 := Lib.hid (B6.out.trans (hb.mono B6.out.size))
    have RU := Lib.hid (runs_any w7 (G0.out.on B7.out).eg)
    clear hb RC B6 X6 I6 x0 x1 x2 x3 x4 x5 x6
    go_wp2_with fail
    refine RU.out.mono ?_
    rintro e8 w8 ⟨rfl, hb⟩
    have B8 := Lib.hid (B7.out.trans (hb.mono B7.out.size))
    clear hb RU B7
    go_wp2_with fail
    go_ret
    exact ⟨rfl, B8.out⟩
end Go.Proofs.YtfcgfnmokbbcaaaDoor.Ws
