/-
  The end of the law WireOnly: any bytes are decoded, or told; what is decoded encodes just so. Conditions: package errors' variable holds the handle of the type 'error'; at most a thousand bytes.
  The end of WireTells, when the message is right: its bytes, it comes back, another has the same bytes just if it is the same. Condition: package errors' variable holds the handle of the type 'error'.
  Same of packages pred, tuple and wire: alike in all that is in them. Condition: lists far below a machine's length.
-/
import Derived.Test.YtfcgfnmokbbcaaaDoorU034
import Derived.Test.YtfcgfnmokbbcaaaDoorU013
import Derived.Test.YtfcgfnmokbbcaaaDoorU042
import Derived.Test.YtfcgfnmokbbcaaaDoorU031
import Derived.Test.YtfcgfnmokbbcaaaDoorU012
import Derived.Test.YtfcgfnmokbbcaaaDoorU014
namespace Go.Proofs.YtfcgfnmokbbcaaaDoor.Ws
open Go.RowKit Go.Sort Go.Proofs.YtfcgfnmokbbcaaaDoor Go.Proofs.YtfcgfnmokbbcaaaDoor.Rw Go.Proofs.YtfcgfnmokbbcaaaDoor.Nm Go.Proofs.YtfcgfnmokbbcaaaDoor.At Go.Proofs.YtfcgfnmokbbcaaaDoor.Pr Go.Proofs.YtfcgfnmokbbcaaaDoor.Wr Go.Proofs.YtfcgfnmokbbcaaaDoor.Va

def RQ (w : World) (e : Ending) (w' : World) : Prop := e = .returned (.bool true) ∧ Below w.heap.size w w'
noncomputable def onlyT : Code := afterN 6 (Tryd.f5.body.getD .skip)
theorem zero_same : sameM zeroMg zeroMg = true := by decide
set_option maxRecDepth 100000 in
set_option maxHeartbeats 16000000 in
theorem only_tail (w W : World) (ao : Option Addr) (ac n : Nat) (b : List UInt8) (hb : Below w.heap.size w W) (hg : GE w) (hr : RowB W (.slice ao n ac) b) (hn : n = b.length) (h1000 : n ≤ 1000)
    (u0 u1 u2 u3 u4 u5 u6 u7 u8 u9 u10 u12 u13 u14 u15 u16 u17 u18 u19 u20 u21 u22 u23 u24 u25 u26 u27 u28 u29 u30 u31 u32 u33 u34 u35 u36 u37 u38 u39 u40 u41 u42 u43 u44 u45 u46 u47 u48 u49 u50 u51 u52 u53 u54 u55 u56 u57 u58 u59 u60 u61 u62 u63 u64 u65 u66 u67 u68 u69 u70 u71 u72 u73 u74 u75 u76 u77 u78 u79 u80 u81 u82 u83 u84 u85 u86 u87 u88 u89 u90 u91 u92 u93 u94 u95 u96 u97 u98 u99 u100 u101 u102 u103 u104 u105 u106 u107 u108 u109 u110 u111 u112 u113 u114 u115 u116 u117 u118 u119 u120 u121 u122 u123 u124 : Value) :
    Code.wp Tryd.prog onlyT (bodyPost Tryd.prog Tryd.f5 (RQ w)) ⟨(u0 :: u1 :: u2 :: u3 :: u4 :: u5 :: u6 :: u7 :: u8 :: u9 :: u10 :: .slice ao n ac :: u12 :: u13 :: u14 :: u15 :: u16 :: u17 :: u18 :: u19 :: u20 :: u21 :: u22 :: u23 :: u24 :: u25 :: u26 :: u27 :: u28 :: u29 :: u30 :: u31 :: u32 :: u33 :: u34 :: u35 :: u36 :: u37 :: u38 :: u39 :: u40 :: u41 :: u42 :: u43 :: u44 :: u45 :: u46 :: u47 :: u48 :: u49 :: u50 :: u51 :: u52 :: u53 :: u54 :: u55 :: u56 :: u57 :: u58 :: u59 :: u60 :: u61 :: u62 :: u63 :: u64 :: u65 :: u66 :: u67 :: u68 :: u69 :: u70 :: u71 :: u72 :: u73 :: u74 :: u75 :: u76 :: u77 :: u78 :: u79 :: u80 :: u81 :: u82 :: u83 :: u84 :: u85 :: u86 :: u87 :: u88 :: u89 :: u90 :: u91 :: u92 :: u93 :: u94 :: u95 :: u96 :: u97 :: u98 :: u99 :: u100 :: u101 :: u102 :: u103 :: u104 :: u105 :: u106 :: u107 :: u108 :: u109 :: u110 :: u111 :: u112 :: u113 :: u114 :: u115 :: u116 :: u117 :: u118 :: u119 :: u120 :: u121 :: u122 :: u123 :: u124 :: []).toArray, []⟩ W := by
  have G0 := Lib.hid hg
  have B0 := Lib.hid hb
  have R0 := Lib.hid hr
  have HN := Lib.hid hn
  have RM := Lib.hid (roomyB _ b 7 W hr (by omega))
  rw [← hn] at RM
  clear hb hg hr hn
  unfold onlyT
  conv => arg 2; whnf
  go_wp2_with fail
  refine RM.out.mono ?_
  rintro e1 w1 ⟨g, rfl, ho, hb⟩
  have B1 := Lib.hid (B0.out.trans (hb.mono B0.out.size))
  have R1 := Lib.hid (R0.out.on hb)
  have F1 := Lib.hid (Row.of_own ho)
  obtain ⟨lo, slo, rlo⟩ := row_lo8 (l := b ++ List.replicate 80 7) F1.out n (by rw [List.length_append, ← HN.out]; omega)
  have etk : List.take n (b ++ List.replicate 80 (7 : UInt8)) = b := List.take_left' HN.out.symm
  rw [etk] at rlo
  clear etk
  have RL := Lib.hid rlo
  clear ho hb RM rlo B0 R0
  cases hd : decM b with
  | none =>
    have DC := Lib.hid (dec_none lo b w1 RL.out hd)
    rw [← HN.out] at DC
    clear hd
    go_wp2_with fail
    refine DC.out.mono ?_
    rintro e2 w2 ⟨⟨v2, rfl, hf⟩, hb⟩
    obtain ⟨f2, rfl, _⟩ := hf.ch
    have B2 := Lib.hid (B1.out.trans (hb.mono B1.out.size))
    have N3 := Lib.hid (new_below w2 (.cells (mcells zeroMg nilS nilS) 32))
    have X3 := Lib.hid (box_new w2 (mcells zeroMg nilS nilS) 32)
    have F3 := Lib.hid (hf.on N3.out)
    have B3 := Lib.hid (B2.out.trans (N3.out.mono B2.out.size))
    have IT := Lib.hid (intactB ⟨g, 0, none⟩ (n + 80) _ b 7 (w2.alloc (.cells (mcells zeroMg nilS nilS) 32)) (by rw [← HN.out]; exact (F1.out.on hb).on N3.out) ((R1.out.on hb).on N3.out) (by rw [← HN.out]; omega))
    rw [← HN.out] at IT
    clear hf hb DC B1 slo RL
    go_wp2_with fail
    refine IT.out.mono ?_
    rintro e4 w4 ⟨rfl, hb⟩
    have B4 := Lib.hid (B3.out.trans (hb.mono B3.out.size))
    have F4 := Lib.hid (F3.out.on hb)
    have X4 := Lib.hid (X3.out.on hb)
    have KD := Lib.hid (wkind_ok F4.out (G0.out.on B4.out))
    clear hb IT B3 F3 X3 N3 B2 F1 R1
    go_wp2_with fail
    refine KD.out.mono ?_
    rintro e5 w5 ⟨rfl, hb⟩
    have B5 := Lib.hid (B4.out.trans (hb.mono B4.out.size))
    have F5 := Lib.hid (F4.out.on hb)
    have X5 := Lib.hid (X4.out.on hb)
    have EQ := eqE 1 1 w5 true rfl
    have PL := Lib.hid (wplace_ok F5.out (G0.out.on B5.out))
    clear hb KD B4 F4 X4
    go_wp2_with fail
    refine PL.out.mono ?_
    rintro e6 w6 ⟨rfl, hb⟩
    have B6 := Lib.hid (B5.out.trans (hb.mono B5.out.size))
    have X6 := Lib.hid (X5.out.on hb)
    have MS := Lib.hid (messages_any zeroMg zeroMg nilS nilS nilS nilS w6 (none_in w6 0 0 0 0 0) (none_in w6 0 0 0 0 0) (by simp) (by simp) (by simp) (by simp))
    rw [zero_same] at MS
    clear hb PL B5 F5 X5 EQ
    have XX := X6.out
    have x0 := XX.cell 0
    have x1 := XX.cell 1
    have x2 := XX.cell 2
    have x3 := XX.cell 3
    have x4 := XX.cell 4
    have x5 := XX.cell 5
    have x6 := XX.cell 6
    simp only [List.getElem?_toArray, List.getElem?_cons_zero, List.getElem?_cons_succ] at x0 x1 x2 x3 x4 x5 x6
    clear XX
    go_wp2_with fail
    refine MS.out.mono ?_
    rintro e7 w7 ⟨rfl, hb⟩
    have B7 := Lib.hid (B6.out.trans (hb.mono B6.out.size))
    have RU := Lib.hid (runs_any w7 (G0.out.on B7.out).eg)
    clear hb MS B6 X6 x0 x1 x2 x3 x4 x5 x6
    go_wp2_with fail
    refine RU.out.mono ?_
    rintro e8 w8 ⟨rfl, hb⟩
    have B8 := Lib.hid (B7.out.trans (hb.mono B7.out.size))
    clear hb RU B7
    go_wp2_with fail
    go_ret
    exact ⟨rfl, B8.out⟩
  | some m =>
    obtain ⟨hR, hB, hS⟩ := decM_some hd
    have RT := Lib.hid hR
    have BY := Lib.hid hB
    have SG := Lib.hid hS
    have DC := Lib.hid (dec_some lo b w1 RL.out m hd)
    clear hd hR hB hS
    go_wp2_with fail
    refine DC.out.mono ?_
    rintro e2 w2 ⟨⟨pv, lv, rfl, hop, hol⟩, hb⟩
    have B2 := Lib.hid (B1.out.trans (hb.mono B1.out.size))
    obtain ⟨k, tc, ts, ic, is, p, l⟩ := m
    obtain ⟨po, pc, rfl⟩ := (Row.of_own hop).len
    obtain ⟨l0, lc, rfl⟩ := (Row.of_own hol).len
    have hin : MgIn w2 ⟨k, tc, ts, ic, is, p, l⟩ (.slice po p.length pc) (.slice l0 l.length lc) := ⟨Row.of_own hop, row_EA.2 (Row.of_own hol)⟩
    have N3 := Lib.hid (new_below w2 (.cells (mcells ⟨k, tc, ts, ic, is, p, l⟩ (.slice po p.length pc) (.slice l0 l.length lc)) 32))
    have X3 := Lib.hid (box_new w2 (mcells ⟨k, tc, ts, ic, is, p, l⟩ (.slice po p.length pc) (.slice l0 l.length lc)) 32)
    have I3 := Lib.hid (hin.on N3.out)
    have B3 := Lib.hid (B2.out.trans (N3.out.mono B2.out.size))
    have R3 := Lib.hid ((R1.out.on hb).on N3.out)
    have IT := Lib.hid (intactB ⟨g, 0, none⟩ (n + 80) _ b 7 (w2.alloc (.cells (mcells ⟨k, tc, ts, ic, is, p, l⟩ (.slice po p.length pc) (.slice l0 l.length lc)) 32)) (by rw [← HN.out]; exact (F1.out.on hb).on N3.out) R3.out (by rw [← HN.out]; omega))
    rw [← HN.out] at IT
    clear hop hol hin hb DC B1 slo RL R1 F1 B2
    go_wp2_with fail
    refine IT.out.mono ?_
    rintro e4 w4 ⟨rfl, hb⟩
    have B4 := Lib.hid (B3.out.trans (hb.mono B3.out.size))
    have X4 := Lib.hid (X3.out.on hb)
    have I4 := Lib.hid (I3.out.on hb)
    have R4 := Lib.hid (R3.out.on hb)
    have EC := Lib.hid (enc_ok ⟨k, tc, ts, ic, is, p, l⟩ _ _ w4 I4.out SG.out.small RT.out)
    rw [BY.out] at EC
    clear hb IT B3 X3 I3 R3 N3
    have XX := X4.out
    have x0 := XX.cell 0
    have x1 := XX.cell 1
    have x2 := XX.cell 2
    have x3 := XX.cell 3
    have x4 := XX.cell 4
    have x5 := XX.cell 5
    have x6 := XX.cell 6
    simp only [List.getElem?_toArray, List.getElem?_cons_zero, List.getElem?_cons_succ] at x0 x1 x2 x3 x4 x5 x6
    clear XX
    go_wp2_with fail
    refine EC.out.mono ?_
    rintro e5 w5 ⟨⟨v5, rfl, ho5⟩, hb⟩
    have B5 := Lib.hid (B4.out.trans (hb.mono B4.out.size))
    have X5 := Lib.hid (X4.out.on hb)
    have I5 := Lib.hid (I4.out.on hb)
    have SB := Lib.hid (sameB _ _ b b w5 (Row.of_own ho5) (R4.out.on hb))
    rw [decide_eq_true rfl] at SB
    clear hb ho5 EC B4 X4 I4 R4 x0 x1 x2 x3 x4 x5 x6
    go_wp2_with fail
    refine SB.out.mono ?_
    rintro e6 w6 ⟨rfl, hb⟩
    have B6 := Lib.hid (B5.out.trans (hb.mono B5.out.size))
    have X6 := Lib.hid (X5.out.on hb)
    have I6 := Lib.hid (I5.out.on hb)
    have RC := Lib.hid (wright_any ⟨k, tc, ts, ic, is, p, l⟩ _ _ w6 I6.out SG.out.small (by have := SG.out.l; simp only at this ⊢; omega))
    rw [RT.out] at RC
    clear hb SB B5 X5 I5
    have XX := X6.out
    have x0 := XX.cell 0
    have x1 := XX.cell 1
    have x2 := XX.cell 2
    have x3 := XX.cell 3
    have x4 := XX.cell 4
    have x5 := XX.cell 5
    have x6 := XX.cell 6
    simp only [List.getElem?_toArray, List.getElem?_cons_zero, List.getElem?_cons_succ] at x0 x1 x2 x3 x4 x5 x6
    clear XX
    go_wp2_with fail
    refine RC.out.mono ?_
    rintro e7 w7 ⟨rfl, hb⟩
    have B7 := Lib.hid (B6.out.trans (hb.mono B6.out.size))
    have RU := Lib.hid (runs_any w7 (G0.out.on B7.out).eg)
    clear hb RC B6 X6 I6 x0 x1 x2 x3 x4 x5 x6
    go_wp2_with fail
    refine RU.out.mono ?_
    rintro e8 w8 ⟨rfl, hb⟩
    have B8 := Lib.hid (B7.out.trans (hb.mono B7.out.size))
    clear hb RU B7
    go_wp2_with fail
    go_ret
    exact ⟨rfl, B8.out⟩
end Go.Proofs.YtfcgfnmokbbcaaaDoor.Ws

namespace Go.Proofs.YtfcgfnmokbbcaaaDoor.Ws
open Go.RowKit Go.Sort Go.Proofs.YtfcgfnmokbbcaaaDoor Go.Proofs.YtfcgfnmokbbcaaaDoor.Rw Go.Proofs.YtfcgfnmokbbcaaaDoor.Nm Go.Proofs.YtfcgfnmokbbcaaaDoor.At Go.Proofs.YtfcgfnmokbbcaaaDoor.Pr Go.Proofs.YtfcgfnmokbbcaaaDoor.Wr Go.Proofs.YtfcgfnmokbbcaaaDoor.Va

theorem eqin_nil (d : Nat) (w : World) : (Op.equalIn (d + 1) 24 .nilIface .nilIface).run Tryd.prog w = .ok true w := by
  simp [Op.equalIn, go_sem]
theorem nil_nil (x : Operand) (w : World) : (do eqGuard .eql 24 x (.const .nilIface) .nilIface .nilIface; binOp .eql 24 .nilIface .nilIface : Sem Value).run Tryd.prog w = .ok (.bool true) w := by
  have h := eqin_nil 9999 w
  simp only [Nat.reduceAdd] at h
  simp [eqGuard, binOp, go_sem, Op.equal, Op.maxDepth, h]
theorem leq600 (x y : Operand) (t : TypeId) (w : World) (L : Nat) (h : L ≤ 600) : (do eqGuard .leq t x y (.int .i64 (L : Int)) (.int .i64 600); binOp .leq t (.int .i64 (L : Int)) (.int .i64 600) : Sem Value).run Tryd.prog w = .ok (.bool true) w := by
  have h : (L : Int) ≤ 600 := by omega
  simp [eqGuard, binOp, go_sem, h]
theorem eq_bool (x y : Operand) (w : World) (b : Bool) : (do eqGuard .eql 4 x y (.bool b) (.bool b); binOp .eql 4 (.bool b) (.bool b) : Sem Value).run Tryd.prog w = .ok (.bool true) w := by
  simp [eqGuard, binOp, go_sem, Tryd.underlying4, Op.equal, Op.maxDepth]
def eV (m n : Mg) (pv lv nv ov xv yv : Value) (bo co : Option Addr) (L M bc cc : Nat) (bs : List UInt8) (sn : Bool) (i : Nat) (v : Value) (x : World) : Prop :=
  match i with
  | 0 => v = .slice bo L bc
  | 1 => v = mv m pv lv
  | 2 => RowB x v bs
  | 3 => v = .bool true
  | 4 => v = .bool true
  | 5 => v = .nilIface
  | 6 => v = .bool true
  | 7 => v = .bool true
  | 8 => v = .bool true
  | 9 => v = mv m xv yv
  | 10 => v = mv m pv lv
  | 11 => v = .bool true
  | 12 => v = .bool true
  | 13 => v = .bool true
  | 14 => v = .slice bo L bc
  | 15 => v = .int .i64 (L : Int)
  | 16 => v = .bool true
  | 17 => v = .bool true
  | 18 => v = .bool true
  | 19 => v = .nilIface
  | 20 => v = .bool true
  | 21 => v = .bool true
  | 22 => v = .bool true
  | 23 => v = .slice bo L bc
  | 24 => v = .slice co M cc
  | 25 => v = .bool sn
  | 26 => v = mv m pv lv
  | 27 => v = mv n nv ov
  | 28 => v = .bool sn
  | 29 => v = .bool true
  | 30 => v = .bool true
  | 31 => v = .bool true
  | 32 => v = .bool true
  | 33 => v = .bool true
  | 34 => v = .bool true
  | _ => True
noncomputable def tellsR12 : Code := ((Tryd.f4.body.bind (findRegion 12)).getD .skip)
set_option maxRecDepth 100000 in
set_option maxHeartbeats 16000000 in
theorem tells_r12 (Q : Exit → Act → World → Prop) (W : World) (b9 b10 b14 : Nat) (m n : Mg) (pv lv nv ov xv yv : Value) (bo co : Option Addr) (L M bc cc : Nat) (bs cs : List UInt8) (sn : Bool) (u0 u1 u2 u3 u4 u5 u6 u7 u8 u11 u13 u18 u19 u20 u21 u22 u23 u24 u25 u26 u27 u28 u29 u30 u31 u32 u33 u34 u35 u36 u37 u38 u39 u40 u41 u42 u43 u44 u45 u46 u47 u48 u49 u50 u51 u52 u53 u54 u55 u56 u57 u58 u59 u60 u61 u62 u63 u64 u65 u66 u67 u68 u69 u70 u71 u72 u73 u74 u75 u76 u77 u78 u79 u80 u81 u82 u83 u84 u85 u86 u87 u88 u89 u90 u91 u92 u93 u94 u95 u96 u97 u98 u99 u100 u101 u102 u103 u104 u105 u106 u107 u108 u109 u110 u111 u112 u113 u114 u115 u116 u117 u118 : Value)
    (h9 : Box W b9 #[.int .i64 m.k, .int .i64 m.tc, .int .i64 m.ts, .int .i64 m.ic, .int .i64 m.is, pv, lv] 32) (im : MgIn W m pv lv)
    (h10 : Box W b10 #[.int .i64 n.k, .int .i64 n.tc, .int .i64 n.ts, .int .i64 n.ic, .int .i64 n.is, nv, ov] 32) (in_ : MgIn W n nv ov)
    (h14 : Box W b14 #[.int .i64 m.k, .int .i64 m.tc, .int .i64 m.ts, .int .i64 m.ic, .int .i64 m.is, xv, yv] 32) (ix : MgIn W m xv yv)
    (hb : RowB W (.slice bo L bc) bs) (hc : RowB W (.slice co M cc) cs) (hl : L ≤ 600) (hr : rightM m = true) (he : bytesM m = bs) (hs1 : decide (bs = cs) = sn) (hs2 : sameM m n = sn)
    (l1 : m.p.length ≤ 1000) (l2 : m.l.length ≤ 1000) (l3 : n.p.length ≤ 1000) (l4 : n.l.length ≤ 1000) (hg : GE W)
    (hQ : ∀ (a : Act) (x : World), a.defers = [] → a.tmps[8]? = some (.bool true) → Below W.heap.size W x → Q .normal a x) :
    Code.wp Tryd.prog tellsR12 Q ⟨(u0 :: u1 :: u2 :: u3 :: u4 :: u5 :: u6 :: u7 :: u8 :: .pointer (some ⟨b9, 0, none⟩) :: .pointer (some ⟨b10, 0, none⟩) :: u11 :: .slice bo L bc :: u13 :: .pointer (some ⟨b14, 0, none⟩) :: .nilIface :: .slice co M cc :: .nilIface :: u18 :: u19 :: u20 :: u21 :: u22 :: u23 :: u24 :: u25 :: u26 :: u27 :: u28 :: u29 :: u30 :: u31 :: u32 :: u33 :: u34 :: u35 :: u36 :: u37 :: u38 :: u39 :: u40 :: u41 :: u42 :: u43 :: u44 :: u45 :: u46 :: u47 :: u48 :: u49 :: u50 :: u51 :: u52 :: u53 :: u54 :: u55 :: u56 :: u57 :: u58 :: u59 :: u60 :: u61 :: u62 :: u63 :: u64 :: u65 :: u66 :: u67 :: u68 :: u69 :: u70 :: u71 :: u72 :: u73 :: u74 :: u75 :: u76 :: u77 :: u78 :: u79 :: u80 :: u81 :: u82 :: u83 :: u84 :: u85 :: u86 :: u87 :: u88 :: u89 :: u90 :: u91 :: u92 :: u93 :: u94 :: u95 :: u96 :: u97 :: u98 :: u99 :: u100 :: u101 :: u102 :: u103 :: u104 :: u105 :: u106 :: u107 :: u108 :: u109 :: u110 :: u111 :: u112 :: u113 :: u114 :: u115 :: u116 :: u117 :: u118 :: []).toArray, []⟩ W := by
  have HQ := Lib.hid hQ
  have H9 := Lib.hid h9
  have H10 := Lib.hid h10
  have H14 := Lib.hid h14
  have IM := Lib.hid im
  have IN := Lib.hid in_
  have IX := Lib.hid ix
  have HB := Lib.hid hb
  have HC := Lib.hid hc
  have LL := Lib.hid hl
  have HR := Lib.hid hr
  have HE := Lib.hid he
  have HS1 := Lib.hid hs1
  have HS2 := Lib.hid hs2
  have L1 := Lib.hid l1
  have L2 := Lib.hid l2
  have L3 := Lib.hid l3
  have L4 := Lib.hid l4
  have HG := Lib.hid hg
  clear hQ h9 h10 h14 im in_ ix hb hc hl hr he hs1 hs2 l1 l2 l3 l4 hg
  unfold tellsR12
  conv => arg 2; whnf
  have nd : ∀ j, (j < 8 ∨ (9 ≤ j ∧ j < 85)) → ∀ i, i < 35 → (fun i => if i = 34 then 8 else 85 + i) i ≠ j := by
    intro j hj i hi h
    simp only at h
    split at h <;> omega
  refine Rg.region_rel 35 (fun i => if i = 34 then 8 else 85 + i) (eV m n pv lv nv ov xv yv bo co L M bc cc bs sn) (by kernel_rfl) (by kernel_rfl) rfl ?_ ?_ ?_ ?_ ?_ ?_
  · intro i o ho
    have hi := (List.getElem?_eq_some_iff.1 ho).1
    have hi : i < 35 := hi
    clear HQ
    rcases (by omega : i = 0 ∨ i = 1 ∨ i = 2 ∨ i = 3 ∨ i = 4 ∨ i = 5 ∨ i = 6 ∨ i = 7 ∨ i = 8 ∨ i = 9 ∨ i = 10 ∨ i = 11 ∨ i = 12 ∨ i = 13 ∨ i = 14 ∨ i = 15 ∨ i = 16 ∨ i = 17 ∨ i = 18 ∨ i = 19 ∨ i = 20 ∨ i = 21 ∨ i = 22 ∨ i = 23 ∨ i = 24 ∨ i = 25 ∨ i = 26 ∨ i = 27 ∨ i = 28 ∨ i = 29 ∨ i = 30 ∨ i = 31 ∨ i = 32 ∨ i = 33 ∨ i = 34) with rfl | rfl | rfl | rfl | rfl | rfl | rfl | rfl | rfl | rfl | rfl | rfl | rfl | rfl | rfl | rfl | rfl | rfl | rfl | rfl | rfl | rfl | rfl | rfl | rfl | rfl | rfl | rfl | rfl | rfl | rfl | rfl | rfl | rfl | rfl <;> (obtain rfl := Option.some.inj ho; rfl)
  · intro i j hi hj h
    have h : (if i = 34 then 8 else 85 + i) = (if j = 34 then 8 else 85 + j) := h
    split at h <;> split at h <;> omega
  · intro i hi
    show (if i = 34 then 8 else 85 + i) < 119
    split <;> omega
  · intro i v x x' hv hb
    unfold eV at hv ⊢
    split <;> first | exact hv | exact Row.on hv hb | trivial
  · intro i o hi ho a x hb seen K hK
    clear HQ
    rcases (by omega : i = 0 ∨ i = 1 ∨ i = 2 ∨ i = 3 ∨ i = 4 ∨ i = 5 ∨ i = 6 ∨ i = 7 ∨ i = 8 ∨ i = 9 ∨ i = 10 ∨ i = 11 ∨ i = 12 ∨ i = 13 ∨ i = 14 ∨ i = 15 ∨ i = 16 ∨ i = 17 ∨ i = 18 ∨ i = 19 ∨ i = 20 ∨ i = 21 ∨ i = 22 ∨ i = 23 ∨ i = 24 ∨ i = 25 ∨ i = 26 ∨ i = 27 ∨ i = 28 ∨ i = 29 ∨ i = 30 ∨ i = 31 ∨ i = 32 ∨ i = 33 ∨ i = 34) with rfl | rfl | rfl | rfl | rfl | rfl | rfl | rfl | rfl | rfl | rfl | rfl | rfl | rfl | rfl | rfl | rfl | rfl | rfl | rfl | rfl | rfl | rfl | rfl | rfl | rfl | rfl | rfl | rfl | rfl | rfl | rfl | rfl | rfl | rfl
    · obtain rfl := Option.some.inj ho
      have e12 : a.eval (.tmp 12) = .slice bo L bc := seen.kp 12 _ (nd 12 (by omega)) rfl
      exact Rg.op_value_w rfl (Rg.wanted_none rfl) (Rg.ex_move a.eval _ (.tmp 12) rfl x) (hK _ _ e12 (Below.refl _ _))
    · obtain rfl := Option.some.inj ho
      have e9 : a.eval (.tmp 9) = .pointer (some ⟨b9, 0, none⟩) := seen.kp 9 _ (nd 9 (by omega)) rfl
      exact Rg.op_value_w rfl (Rg.wanted_none rfl) (Rg.ex_load a.eval _ 32 (.tmp 9) rfl (by rw [e9]; exact loadM (H9.out.on hb))) (hK _ _ rfl (Below.refl _ _))
    · obtain rfl := Option.some.inj ho
      have e86 : a.eval (.tmp 86) = mv m pv lv := seen.at_ ⟨1, .data⟩ (by simp) rfl
      exact Rg.op_call_w rfl (Rg.wanted_none rfl) (ex_call1 a.eval _ (.tmp 86) 32 19 rfl e86 rfl _ (call_fn Tryd.func19 rfl rfl _ _)) (rbytes_any m pv lv x (IM.out.on hb) HR.out) fun e w1 h => by
        obtain ⟨⟨v, rfl, h1⟩, h3⟩ := h
        rw [HE.out] at h1
        exact ⟨_, rfl, hK _ _ (Row.of_own h1) h3⟩
    · obtain rfl := Option.some.inj ho
      have e85 : a.eval (.tmp 85) = .slice bo L bc := seen.at_ ⟨0, .data⟩ (by simp) rfl
      have r87 : RowB x (a.eval (.tmp 87)) bs := seen.at_ ⟨2, .data⟩ (by simp) rfl
      exact Rg.op_call_w rfl (Rg.wanted_none rfl) (ex_call2 a.eval _ (.tmp 85) (.tmp 87) 22 22 9 rfl e85 rfl rfl _ (call_fn Tryd.func9 rfl rfl _ _)) (sameB _ _ bs bs x (HB.out.on hb) r87) fun e w1 h => by
        obtain ⟨rfl, h3⟩ := h
        rw [decide_eq_true rfl]
        exact ⟨_, rfl, hK _ _ rfl h3⟩
    · obtain rfl := Option.some.inj ho
      have e88 : a.eval (.tmp 88) = .bool true := seen.at_ ⟨3, .data⟩ (by simp) rfl
      exact Rg.op_value_w rfl (Rg.wanted_none rfl) (Rg.ex_move a.eval _ (.tmp 88) rfl x) (hK _ _ e88 (Below.refl _ _))
    · obtain rfl := Option.some.inj ho
      have hg := seen.got ⟨4, .guard⟩ (by simp) rfl
      have eg : a.eval (.tmp 89) = .bool true := seen.at_ ⟨4, .guard⟩ (by simp) rfl
      have hgt : a.tmps[89]? = some (.bool true) := by rw [← eg]; exact hg
      have e15 : a.eval (.tmp 15) = .nilIface := seen.kp 15 _ (nd 15 (by omega)) rfl
      exact Rg.op_value_w rfl (Rg.wanted_of rfl rfl rfl hgt) (Rg.ex_move a.eval _ (.tmp 15) rfl x) (hK _ _ e15 (Below.refl _ _))
    · obtain rfl := Option.some.inj ho
      have hg := seen.got ⟨4, .guard⟩ (by simp) rfl
      have eg : a.eval (.tmp 89) = .bool true := seen.at_ ⟨4, .guard⟩ (by simp) rfl
      have hgt : a.tmps[89]? = some (.bool true) := by rw [← eg]; exact hg
      have e90 : a.eval (.tmp 90) = .nilIface := seen.at_ ⟨5, .data⟩ (by simp) rfl
      exact Rg.op_value_w rfl (Rg.wanted_of rfl rfl rfl hgt) (Rg.ex_bin a.eval _ .eql 24 (.tmp 90) (.const .nilIface) 24 rfl (by rw [e90]; exact nil_nil _ _)) (hK _ _ rfl (Below.refl _ _))
    · obtain rfl := Option.some.inj ho
      have e89 : a.eval (.tmp 89) = .bool true := seen.at_ ⟨4, .data⟩ (by simp) rfl
      have e91 : a.eval (.tmp 91) = .bool true := seen.at_ ⟨6, .data⟩ (by simp) rfl
      exact Rg.op_value_w rfl (Rg.wanted_none rfl) (Rg.ex_pick_t a.eval _ (.tmp 89) (.tmp 91) (.const (.bool false)) rfl e89 e91 x) (hK _ _ rfl (Below.refl _ _))
    · obtain rfl := Option.some.inj ho
      have e92 : a.eval (.tmp 92) = .bool true := seen.at_ ⟨7, .data⟩ (by simp) rfl
      exact Rg.op_value_w rfl (Rg.wanted_none rfl) (Rg.ex_move a.eval _ (.tmp 92) rfl x) (hK _ _ e92 (Below.refl _ _))
    · obtain rfl := Option.some.inj ho
      have hg := seen.got ⟨8, .guard⟩ (by simp) rfl
      have eg : a.eval (.tmp 93) = .bool true := seen.at_ ⟨8, .guard⟩ (by simp) rfl
      have hgt : a.tmps[93]? = some (.bool true) := by rw [← eg]; exact hg
      have e14 : a.eval (.tmp 14) = .pointer (some ⟨b14, 0, none⟩) := seen.kp 14 _ (nd 14 (by omega)) rfl
      exact Rg.op_value_w rfl (Rg.wanted_of rfl rfl rfl hgt) (Rg.ex_load a.eval _ 32 (.tmp 14) rfl (by rw [e14]; exact loadM (H14.out.on hb))) (hK _ _ rfl (Below.refl _ _))
    · obtain rfl := Option.some.inj ho
      have hg := seen.got ⟨8, .guard⟩ (by simp) rfl
      have eg : a.eval (.tmp 93) = .bool true := seen.at_ ⟨8, .guard⟩ (by simp) rfl
      have hgt : a.tmps[93]? = some (.bool true) := by rw [← eg]; exact hg
      have e9 : a.eval (.tmp 9) = .pointer (some ⟨b9, 0, none⟩) := seen.kp 9 _ (nd 9 (by omega)) rfl
      exact Rg.op_value_w rfl (Rg.wanted_of rfl rfl rfl hgt) (Rg.ex_load a.eval _ 32 (.tmp 9) rfl (by rw [e9]; exact loadM (H9.out.on hb))) (hK _ _ rfl (Below.refl _ _))
    · obtain rfl := Option.some.inj ho
      have hg := seen.got ⟨8, .guard⟩ (by simp) rfl
      have eg : a.eval (.tmp 93) = .bool true := seen.at_ ⟨8, .guard⟩ (by simp) rfl
      have hgt : a.tmps[93]? = some (.bool true) := by rw [← eg]; exact hg
      have e94 : a.eval (.tmp 94) = mv m xv yv := seen.at_ ⟨9, .data⟩ (by simp) rfl
      have e95 : a.eval (.tmp 95) = mv m pv lv := seen.at_ ⟨10, .data⟩ (by simp) rfl
      exact Rg.op_call_w rfl (Rg.wanted_of rfl rfl rfl hgt) (ex_call2 a.eval _ (.tmp 94) (.tmp 95) 32 32 16 rfl e94 e95 rfl _ (call_fn Tryd.func16 rfl rfl _ _)) ((messages_any m m xv yv pv lv x (IX.out.on hb) (IM.out.on hb) L1.out L1.out L2.out L2.out)) fun e w1 h => by
        obtain ⟨rfl, h3⟩ := h
        rw [sameM_refl]
        exact ⟨_, rfl, hK _ _ rfl h3⟩
    · obtain rfl := Option.some.inj ho
      have e93 : a.eval (.tmp 93) = .bool true := seen.at_ ⟨8, .data⟩ (by simp) rfl
      have e96 : a.eval (.tmp 96) = .bool true := seen.at_ ⟨11, .data⟩ (by simp) rfl
      exact Rg.op_value_w rfl (Rg.wanted_none rfl) (Rg.ex_pick_t a.eval _ (.tmp 93) (.tmp 96) (.const (.bool false)) rfl e93 e96 x) (hK _ _ rfl (Below.refl _ _))
    · obtain rfl := Option.some.inj ho
      have e97 : a.eval (.tmp 97) = .bool true := seen.at_ ⟨12, .data⟩ (by simp) rfl
      exact Rg.op_value_w rfl (Rg.wanted_none rfl) (Rg.ex_move a.eval _ (.tmp 97) rfl x) (hK _ _ e97 (Below.refl _ _))
    · obtain rfl := Option.some.inj ho
      have hg := seen.got ⟨13, .guard⟩ (by simp) rfl
      have eg : a.eval (.tmp 98) = .bool true := seen.at_ ⟨13, .guard⟩ (by simp) rfl
      have hgt : a.tmps[98]? = some (.bool true) := by rw [← eg]; exact hg
      have e12 : a.eval (.tmp 12) = .slice bo L bc := seen.kp 12 _ (nd 12 (by omega)) rfl
      exact Rg.op_value_w rfl (Rg.wanted_of rfl rfl rfl hgt) (Rg.ex_move a.eval _ (.tmp 12) rfl x) (hK _ _ e12 (Below.refl _ _))
    · obtain rfl := Option.some.inj ho
      have hg := seen.got ⟨13, .guard⟩ (by simp) rfl
      have eg : a.eval (.tmp 98) = .bool true := seen.at_ ⟨13, .guard⟩ (by simp) rfl
      have hgt : a.tmps[98]? = some (.bool true) := by rw [← eg]; exact hg
      have e99 : a.eval (.tmp 99) = .slice bo L bc := seen.at_ ⟨14, .data⟩ (by simp) rfl
      exact Rg.op_value_w rfl (Rg.wanted_of rfl rfl rfl hgt) (Rg.ex_len a.eval _ (.tmp 99) 22 rfl e99 (by simp [go_sem])) (hK _ _ rfl (Below.refl _ _))
    · obtain rfl := Option.some.inj ho
      have hg := seen.got ⟨13, .guard⟩ (by simp) rfl
      have eg : a.eval (.tmp 98) = .bool true := seen.at_ ⟨13, .guard⟩ (by simp) rfl
      have hgt : a.tmps[98]? = some (.bool true) := by rw [← eg]; exact hg
      have e100 : a.eval (.tmp 100) = .int .i64 (L : Int) := seen.at_ ⟨15, .data⟩ (by simp) rfl
      exact Rg.op_value_w rfl (Rg.wanted_of rfl rfl rfl hgt) (Rg.ex_bin a.eval _ .leq 3 (.tmp 100) (.const (.int .i64 600)) 3 rfl (by rw [e100]; exact leq600 _ _ _ _ L LL.out)) (hK _ _ rfl (Below.refl _ _))
    · obtain rfl := Option.some.inj ho
      have e98 : a.eval (.tmp 98) = .bool true := seen.at_ ⟨13, .data⟩ (by simp) rfl
      have e101 : a.eval (.tmp 101) = .bool true := seen.at_ ⟨16, .data⟩ (by simp) rfl
      exact Rg.op_value_w rfl (Rg.wanted_none rfl) (Rg.ex_pick_t a.eval _ (.tmp 98) (.tmp 101) (.const (.bool false)) rfl e98 e101 x) (hK _ _ rfl (Below.refl _ _))
    · obtain rfl := Option.some.inj ho
      have e102 : a.eval (.tmp 102) = .bool true := seen.at_ ⟨17, .data⟩ (by simp) rfl
      exact Rg.op_value_w rfl (Rg.wanted_none rfl) (Rg.ex_move a.eval _ (.tmp 102) rfl x) (hK _ _ e102 (Below.refl _ _))
    · obtain rfl := Option.some.inj ho
      have hg := seen.got ⟨18, .guard⟩ (by simp) rfl
      have eg : a.eval (.tmp 103) = .bool true := seen.at_ ⟨18, .guard⟩ (by simp) rfl
      have hgt : a.tmps[103]? = some (.bool true) := by rw [← eg]; exact hg
      have e17 : a.eval (.tmp 17) = .nilIface := seen.kp 17 _ (nd 17 (by omega)) rfl
      exact Rg.op_value_w rfl (Rg.wanted_of rfl rfl rfl hgt) (Rg.ex_move a.eval _ (.tmp 17) rfl x) (hK _ _ e17 (Below.refl _ _))
    · obtain rfl := Option.some.inj ho
      have hg := seen.got ⟨18, .guard⟩ (by simp) rfl
      have eg : a.eval (.tmp 103) = .bool true := seen.at_ ⟨18, .guard⟩ (by simp) rfl
      have hgt : a.tmps[103]? = some (.bool true) := by rw [← eg]; exact hg
      have e104 : a.eval (.tmp 104) = .nilIface := seen.at_ ⟨19, .data⟩ (by simp) rfl
      exact Rg.op_value_w rfl (Rg.wanted_of rfl rfl rfl hgt) (Rg.ex_bin a.eval _ .eql 24 (.tmp 104) (.const .nilIface) 24 rfl (by rw [e104]; exact nil_nil _ _)) (hK _ _ rfl (Below.refl _ _))
    · obtain rfl := Option.some.inj ho
      have e103 : a.eval (.tmp 103) = .bool true := seen.at_ ⟨18, .data⟩ (by simp) rfl
      have e105 : a.eval (.tmp 105) = .bool true := seen.at_ ⟨20, .data⟩ (by simp) rfl
      exact Rg.op_value_w rfl (Rg.wanted_none rfl) (Rg.ex_pick_t a.eval _ (.tmp 103) (.tmp 105) (.const (.bool false)) rfl e103 e105 x) (hK _ _ rfl (Below.refl _ _))
    · obtain rfl := Option.some.inj ho
      have e106 : a.eval (.tmp 106) = .bool true := seen.at_ ⟨21, .data⟩ (by simp) rfl
      exact Rg.op_value_w rfl (Rg.wanted_none rfl) (Rg.ex_move a.eval _ (.tmp 106) rfl x) (hK _ _ e106 (Below.refl _ _))
    · obtain rfl := Option.some.inj ho
      have hg := seen.got ⟨22, .guard⟩ (by simp) rfl
      have eg : a.eval (.tmp 107) = .bool true := seen.at_ ⟨22, .guard⟩ (by simp) rfl
      have hgt : a.tmps[107]? = some (.bool true) := by rw [← eg]; exact hg
      have e12 : a.eval (.tmp 12) = .slice bo L bc := seen.kp 12 _ (nd 12 (by omega)) rfl
      exact Rg.op_value_w rfl (Rg.wanted_of rfl rfl rfl hgt) (Rg.ex_move a.eval _ (.tmp 12) rfl x) (hK _ _ e12 (Below.refl _ _))
    · obtain rfl := Option.some.inj ho
      have hg := seen.got ⟨22, .guard⟩ (by simp) rfl
      have eg : a.eval (.tmp 107) = .bool true := seen.at_ ⟨22, .guard⟩ (by simp) rfl
      have hgt : a.tmps[107]? = some (.bool true) := by rw [← eg]; exact hg
      have e16 : a.eval (.tmp 16) = .slice co M cc := seen.kp 16 _ (nd 16 (by omega)) rfl
      exact Rg.op_value_w rfl (Rg.wanted_of rfl rfl rfl hgt) (Rg.ex_move a.eval _ (.tmp 16) rfl x) (hK _ _ e16 (Below.refl _ _))
    · obtain rfl := Option.some.inj ho
      have hg := seen.got ⟨22, .guard⟩ (by simp) rfl
      have eg : a.eval (.tmp 107) = .bool true := seen.at_ ⟨22, .guard⟩ (by simp) rfl
      have hgt : a.tmps[107]? = some (.bool true) := by rw [← eg]; exact hg
      have e108 : a.eval (.tmp 108) = .slice bo L bc := seen.at_ ⟨23, .data⟩ (by simp) rfl
      have e109 : a.eval (.tmp 109) = .slice co M cc := seen.at_ ⟨24, .data⟩ (by simp) rfl
      exact Rg.op_call_w rfl (Rg.wanted_of rfl rfl rfl hgt) (ex_call2 a.eval _ (.tmp 108) (.tmp 109) 22 22 9 rfl e108 e109 rfl _ (call_fn Tryd.func9 rfl rfl _ _)) (sameB _ _ bs cs x (HB.out.on hb) (HC.out.on hb)) fun e w1 h => by
        obtain ⟨rfl, h3⟩ := h
        rw [HS1.out]
        exact ⟨_, rfl, hK _ _ rfl h3⟩
    · obtain rfl := Option.some.inj ho
      have hg := seen.got ⟨22, .guard⟩ (by simp) rfl
      have eg : a.eval (.tmp 107) = .bool true := seen.at_ ⟨22, .guard⟩ (by simp) rfl
      have hgt : a.tmps[107]? = some (.bool true) := by rw [← eg]; exact hg
      have e9 : a.eval (.tmp 9) = .pointer (some ⟨b9, 0, none⟩) := seen.kp 9 _ (nd 9 (by omega)) rfl
      exact Rg.op_value_w rfl (Rg.wanted_of rfl rfl rfl hgt) (Rg.ex_load a.eval _ 32 (.tmp 9) rfl (by rw [e9]; exact loadM (H9.out.on hb))) (hK _ _ rfl (Below.refl _ _))
    · obtain rfl := Option.some.inj ho
      have hg := seen.got ⟨22, .guard⟩ (by simp) rfl
      have eg : a.eval (.tmp 107) = .bool true := seen.at_ ⟨22, .guard⟩ (by simp) rfl
      have hgt : a.tmps[107]? = some (.bool true) := by rw [← eg]; exact hg
      have e10 : a.eval (.tmp 10) = .pointer (some ⟨b10, 0, none⟩) := seen.kp 10 _ (nd 10 (by omega)) rfl
      exact Rg.op_value_w rfl (Rg.wanted_of rfl rfl rfl hgt) (Rg.ex_load a.eval _ 32 (.tmp 10) rfl (by rw [e10]; exact loadM (H10.out.on hb))) (hK _ _ rfl (Below.refl _ _))
    · obtain rfl := Option.some.inj ho
      have hg := seen.got ⟨22, .guard⟩ (by simp) rfl
      have eg : a.eval (.tmp 107) = .bool true := seen.at_ ⟨22, .guard⟩ (by simp) rfl
      have hgt : a.tmps[107]? = some (.bool true) := by rw [← eg]; exact hg
      have e111 : a.eval (.tmp 111) = mv m pv lv := seen.at_ ⟨26, .data⟩ (by simp) rfl
      have e112 : a.eval (.tmp 112) = mv n nv ov := seen.at_ ⟨27, .data⟩ (by simp) rfl
      exact Rg.op_call_w rfl (Rg.wanted_of rfl rfl rfl hgt) (ex_call2 a.eval _ (.tmp 111) (.tmp 112) 32 32 16 rfl e111 e112 rfl _ (call_fn Tryd.func16 rfl rfl _ _)) (messages_any m n pv lv nv ov x (IM.out.on hb) (IN.out.on hb) L1.out L3.out L2.out L4.out) fun e w1 h => by
        obtain ⟨rfl, h3⟩ := h
        rw [HS2.out]
        exact ⟨_, rfl, hK _ _ rfl h3⟩
    · obtain rfl := Option.some.inj ho
      have hg := seen.got ⟨22, .guard⟩ (by simp) rfl
      have eg : a.eval (.tmp 107) = .bool true := seen.at_ ⟨22, .guard⟩ (by simp) rfl
      have hgt : a.tmps[107]? = some (.bool true) := by rw [← eg]; exact hg
      have e110 : a.eval (.tmp 110) = .bool sn := seen.at_ ⟨25, .data⟩ (by simp) rfl
      have e113 : a.eval (.tmp 113) = .bool sn := seen.at_ ⟨28, .data⟩ (by simp) rfl
      exact Rg.op_value_w rfl (Rg.wanted_of rfl rfl rfl hgt) (Rg.ex_bin a.eval _ .eql 4 (.tmp 110) (.tmp 113) 4 rfl (by rw [e110, e113]; exact eq_bool _ _ _ _)) (hK _ _ rfl (Below.refl _ _))
    · obtain rfl := Option.some.inj ho
      have e107 : a.eval (.tmp 107) = .bool true := seen.at_ ⟨22, .data⟩ (by simp) rfl
      have e114 : a.eval (.tmp 114) = .bool true := seen.at_ ⟨29, .data⟩ (by simp) rfl
      exact Rg.op_value_w rfl (Rg.wanted_none rfl) (Rg.ex_pick_t a.eval _ (.tmp 107) (.tmp 114) (.const (.bool false)) rfl e107 e114 x) (hK _ _ rfl (Below.refl _ _))
    · obtain rfl := Option.some.inj ho
      have e115 : a.eval (.tmp 115) = .bool true := seen.at_ ⟨30, .data⟩ (by simp) rfl
      exact Rg.op_value_w rfl (Rg.wanted_none rfl) (Rg.ex_move a.eval _ (.tmp 115) rfl x) (hK _ _ e115 (Below.refl _ _))
    · obtain rfl := Option.some.inj ho
      have hg := seen.got ⟨31, .guard⟩ (by simp) rfl
      have eg : a.eval (.tmp 116) = .bool true := seen.at_ ⟨31, .guard⟩ (by simp) rfl
      have hgt : a.tmps[116]? = some (.bool true) := by rw [← eg]; exact hg
      exact Rg.op_call_w rfl (Rg.wanted_of rfl rfl rfl hgt) (Rg.ex_call0 a.eval _ 3 rfl rfl _ (call_fn Tryd.func3 rfl rfl _ _)) (runs_any x (HG.out.on hb).eg) fun e w1 h => by
        obtain ⟨rfl, h3⟩ := h
        exact ⟨_, rfl, hK _ _ rfl h3⟩
    · obtain rfl := Option.some.inj ho
      have e116 : a.eval (.tmp 116) = .bool true := seen.at_ ⟨31, .data⟩ (by simp) rfl
      have e117 : a.eval (.tmp 117) = .bool true := seen.at_ ⟨32, .data⟩ (by simp) rfl
      exact Rg.op_value_w rfl (Rg.wanted_none rfl) (Rg.ex_pick_t a.eval _ (.tmp 116) (.tmp 117) (.const (.bool false)) rfl e116 e117 x) (hK _ _ rfl (Below.refl _ _))
    · obtain rfl := Option.some.inj ho
      have e118 : a.eval (.tmp 118) = .bool true := seen.at_ ⟨33, .data⟩ (by simp) rfl
      exact Rg.op_value_w rfl (Rg.wanted_none rfl) (Rg.ex_assign a.eval _ (.tmp 118) rfl x) (hK _ _ e118 (Below.refl _ _))
  · intro a x df sz kp hv hb
    obtain ⟨v, h1, h2⟩ := hv 34 (by omega)
    have h2 : v = .bool true := h2
    rw [h2] at h1
    exact HQ.out a x df h1 hb
end Go.Proofs.YtfcgfnmokbbcaaaDoor.Ws

namespace Go.Proofs.YtfcgfnmokbbcaaaDoor.Pr
open Go.RowKit Go.Sort Go.Proofs.YtfcgfnmokbbcaaaDoor Go.Proofs.YtfcgfnmokbbcaaaDoor.Pu Go.Proofs.YtfcgfnmokbbcaaaDoor.Rw Go.Proofs.YtfcgfnmokbbcaaaDoor.Va

set_option maxRecDepth 100000 in
set_option maxHeartbeats 4000000 in
theorem equalC_any (av_ bv : Value) (l m : List C5) (w : World) (ha : RowC w av_ l) (hb : RowC w bv m) (hl : l.length ≤ 1000000) (_hm : m.length ≤ 1000000) :
    Calls Tryd.prog 65 #[av_, bv] w fun e w' => e = .returned (.bool (sameC l m)) ∧ Below w.heap.size w w' := by
  have HA := Lib.hid ha
  have HB := Lib.hid hb
  obtain ⟨ao, ac, rfl⟩ := ha.len
  obtain ⟨bo, bc, rfl⟩ := hb.len
  clear ha hb
  by_cases hlen : l.length = m.length
  · have HL := Lib.hid hlen
    rw [← hlen] at HB ⊢
    generalize hn : l.length = n at *
    have HN := Lib.hid hn
    clear hlen hn
    go_enter Tryd.func65, Tryd.ntmps65
    go_wp2
    go_loopw [13] (fun i wr => ∃ k : Nat, k ≤ n ∧ i = .int .i64 k ∧ Below w.heap.size w wr ∧ ∀ (j : Nat) (x y : C5), j < k → l[j]? = some x → m[j]? = some y → eqlC x y = true) (fun i _ => n - (intOf i).toNat)
    case atStart => exact ⟨0, Nat.zero_le _, rfl, Below.refl _ _, fun j x y h => by omega⟩
    case round =>
      obtain ⟨k, hk, rfl, hbe, hall⟩ := hrel
      have BE := Lib.hid hbe
      have AL := Lib.hid hall
      clear hbe hall
      by_cases hlt : k < n
      · obtain ⟨x, hx⟩ : ∃ x, l[k]? = some x := ⟨_, List.getElem?_eq_getElem (by rw [HN.out]; exact hlt)⟩
        obtain ⟨y, hy⟩ : ∃ y, m[k]? = some y := ⟨_, List.getElem?_eq_getElem (by rw [← HL.out]; exact hlt)⟩
        obtain ⟨p, ix, px⟩ := elC HA.out rfl HN.out hx
        obtain ⟨q, iy, py⟩ := elC HB.out rfl HL.out.symm hy
        have p0 := cell_regrown (px _ BE.out).1
        have p1 := cell_regrown (px _ BE.out).2.1
        have p2 := cell_regrown (px _ BE.out).2.2.1
        have p3 := cell_regrown (px _ BE.out).2.2.2.1
        have p4 := cell_regrown (px _ BE.out).2.2.2.2
        have q0 := cell_regrown (py _ BE.out).1
        have q1 := cell_regrown (py _ BE.out).2.1
        have q2 := cell_regrown (py _ BE.out).2.2.1
        have q3 := cell_regrown (py _ BE.out).2.2.2.1
        have q4 := cell_regrown (py _ BE.out).2.2.2.2
        clear px py
        obtain ⟨r, hr⟩ : ∃ r, eqlC x y = r := ⟨_, rfl⟩
        have hne := neqC x y r hr
        have HX := Lib.hid hx
        have HY := Lib.hid hy
        have HR := Lib.hid hr
        clear hx hy hr
        cases r
        · have R := Lib.hid (show sameC l m = false from sameC_not l m k x y HX.out HY.out HR.out)
          go_wp2
          refine wp_region_quiet_below (by kernel_rfl) (by kernel_rfl) ?_
          repeat (go_big_quiet_step (fail))
          refine wpQuiet_nil ?_
          intro _ hw'
          obtain ⟨⟨dq, osq⟩, hw''⟩ := hw'
          subst hw''
          go_wp2
          go_ret
          exact ⟨ret_bool R.out.symm, BE.out.trans ((below_regrown wr dq osq).mono BE.out.size)⟩
        · go_wp2
          refine wp_region_quiet_below (by kernel_rfl) (by kernel_rfl) ?_
          repeat (go_big_quiet_step (fail))
          refine wpQuiet_nil ?_
          intro _ hw'
          obtain ⟨⟨dq, osq⟩, hw''⟩ := hw'
          subst hw''
          clear ix iy p0 p1 p2 p3 p4 q0 q1 q2 q3 q4 hne
          go_wp2
          go_roundw
          case rel => exact ⟨k + 1, by omega, by go_num, BE.out.trans ((below_regrown wr dq osq).mono BE.out.size), fun j x' y' hj h1 h2 => by
            rcases Nat.lt_or_ge j k with h3 | h3
            · exact AL.out j x' y' h3 h1 h2
            · obtain rfl : j = k := by omega
              have e1 := HX.out
              have e2 := HY.out
              rw [h1] at e1
              rw [h2] at e2
              rw [Option.some.inj e1, Option.some.inj e2]
              exact HR.out⟩
          case measure => simp [intOf]; omega
      · obtain rfl : k = n := by omega
        have R := Lib.hid (show sameC l m = true from sameC_all l m (by rw [HN.out]; exact HL.out) (fun j a b h1 h2 => AL.out j a b (by have := (List.getElem?_eq_some_iff.1 h1).1; have := HN.out; omega) h1 h2))
        go_wp2
        go_ret
        exact ⟨ret_bool R.out.symm, BE.out⟩
  · have R := Lib.hid (show sameC l m = false by
      cases h : sameC l m
      · rfl
      · exact absurd (sameC_len _ _ h) hlen)
    have hne : (((l.length : Nat) : Int) != ((m.length : Nat) : Int)) = true := by simp; omega
    have hne2 : (((l.length : Nat) : Int) == ((m.length : Nat) : Int)) = false := by simp; omega
    clear hlen
    go_enter Tryd.func65, Tryd.ntmps65
    go_wp2
    go_ret
    exact ⟨ret_bool R.out.symm, Below.refl _ _⟩


set_option maxRecDepth 100000 in
theorem psame_any (av_ bv : Value) (l m : List C5) (w : World) (ha : RowC w av_ l) (hb : RowC w bv m) (hl : l.length ≤ 1000000) (hm : m.length ≤ 1000000) :
    Calls Tryd.prog 40 #[av_, bv] w fun e w' => e = .returned (.bool (sameC l m)) ∧ Below w.heap.size w w' := by
  have C := Lib.hid (equalC_any av_ bv l m w ha hb (by omega) (by omega))
  obtain ⟨ao, ac, rfl⟩ := ha.len
  obtain ⟨bo, bc, rfl⟩ := hb.len
  clear ha hb
  go_enter Tryd.func40, Tryd.ntmps40
  go_wp2_with fail
  refine C.out.mono ?_
  rintro e w' ⟨rfl, hb⟩
  have HB := Lib.hid hb
  clear hb
  go_wp2
  go_ret
  exact ⟨rfl, HB.out⟩
end Go.Proofs.YtfcgfnmokbbcaaaDoor.Pr
namespace Go.Proofs.YtfcgfnmokbbcaaaDoor.At
open Go.RowKit Go.Sort Go.Proofs.YtfcgfnmokbbcaaaDoor.Va Go.Proofs.YtfcgfnmokbbcaaaDoor.In

set_option maxRecDepth 100000 in
set_option maxHeartbeats 4000000 in
theorem equal_any (av_ bv : Value) (l m : List A4) (w : World) (ha : RowA w av_ l) (hb : RowA w bv m) (hl : l.length ≤ 1000000) (_hm : m.length ≤ 1000000) :
    Calls Tryd.prog 66 #[av_, bv] w fun e w' => e = .returned (.bool (sameL l m)) ∧ Below w.heap.size w w' := by
  have HA := Lib.hid ha
  have HB := Lib.hid hb
  obtain ⟨ao, ac, rfl⟩ := ha.len
  obtain ⟨bo, bc, rfl⟩ := hb.len
  clear ha hb
  by_cases hlen : l.length = m.length
  · have HL := Lib.hid hlen
    rw [← hlen] at HB ⊢
    generalize hn : l.length = n at *
    have HN := Lib.hid hn
    clear hlen hn
    go_enter Tryd.func66, Tryd.ntmps66
    go_wp2
    go_loopw [13] (fun i wr => ∃ k : Nat, k ≤ n ∧ i = .int .i64 k ∧ Below w.heap.size w wr ∧ ∀ (j : Nat) (x y : A4), j < k → l[j]? = some x → m[j]? = some y → eqlA x y = true) (fun i _ => n - (intOf i).toNat)
    case atStart => exact ⟨0, Nat.zero_le _, rfl, Below.refl _ _, fun j x y h => by omega⟩
    case round =>
      obtain ⟨k, hk, rfl, hbe, hall⟩ := hrel
      have BE := Lib.hid hbe
      have AL := Lib.hid hall
      clear hbe hall
      by_cases hlt : k < n
      · obtain ⟨x, hx⟩ : ∃ x, l[k]? = some x := ⟨_, List.getElem?_eq_getElem (by rw [HN.out]; exact hlt)⟩
        obtain ⟨y, hy⟩ : ∃ y, m[k]? = some y := ⟨_, List.getElem?_eq_getElem (by rw [← HL.out]; exact hlt)⟩
        obtain ⟨p, ix, px⟩ := row_cells HA.out rfl HN.out hx
        obtain ⟨q, iy, py⟩ := row_cells HB.out rfl HL.out.symm hy
        have p0 := cell_regrown (px _ BE.out).1
        have p1 := cell_regrown (px _ BE.out).2.1
        have p2 := cell_regrown (px _ BE.out).2.2.1
        have p3 := cell_regrown (px _ BE.out).2.2.2
        have q0 := cell_regrown (py _ BE.out).1
        have q1 := cell_regrown (py _ BE.out).2.1
        have q2 := cell_regrown (py _ BE.out).2.2.1
        have q3 := cell_regrown (py _ BE.out).2.2.2
        clear px py
        obtain ⟨r, hr⟩ : ∃ r, eqlA x y = r := ⟨_, rfl⟩
        have hne := neqA x y r hr
        have HX := Lib.hid hx
        have HY := Lib.hid hy
        have HR := Lib.hid hr
        clear hx hy hr
        cases r
        · have R := Lib.hid (show sameL l m = false from sameL_not l m k x y HX.out HY.out HR.out)
          go_wp2
          refine wp_region_quiet_below (by kernel_rfl) (by kernel_rfl) ?_
          repeat (go_big_quiet_step (fail))
          refine wpQuiet_nil ?_
          intro _ hw'
          obtain ⟨⟨dq, osq⟩, hw''⟩ := hw'
          subst hw''
          go_wp2
          go_ret
          exact ⟨ret_bool R.out.symm, BE.out.trans ((below_regrown wr dq osq).mono BE.out.size)⟩
        · go_wp2
          refine wp_region_quiet_below (by kernel_rfl) (by kernel_rfl) ?_
          repeat (go_big_quiet_step (fail))
          refine wpQuiet_nil ?_
          intro _ hw'
          obtain ⟨⟨dq, osq⟩, hw''⟩ := hw'
          subst hw''
          clear ix iy p0 p1 p2 p3 q0 q1 q2 q3 hne
          go_wp2
          go_roundw
          case rel => exact ⟨k + 1, by omega, by go_num, BE.out.trans ((below_regrown wr dq osq).mono BE.out.size), fun j x' y' hj h1 h2 => by
            rcases Nat.lt_or_ge j k with h3 | h3
            · exact AL.out j x' y' h3 h1 h2
            · obtain rfl : j = k := by omega
              have e1 := HX.out
              have e2 := HY.out
              rw [h1] at e1
              rw [h2] at e2
              rw [Option.some.inj e1, Option.some.inj e2]
              exact HR.out⟩
          case measure => simp [intOf]; omega
      · obtain rfl : k = n := by omega
        have R := Lib.hid (show sameL l m = true from sameL_all l m (by rw [HN.out]; exact HL.out) (fun j a b h1 h2 => AL.out j a b (by have := (List.getElem?_eq_some_iff.1 h1).1; have := HN.out; omega) h1 h2))
        go_wp2
        go_ret
        exact ⟨ret_bool R.out.symm, BE.out⟩
  · have R := Lib.hid (show sameL l m = false by
      cases h : sameL l m
      · rfl
      · exact absurd (sameL_len _ _ h) hlen)
    have hne : (((l.length : Nat) : Int) != ((m.length : Nat) : Int)) = true := by simp; omega
    have hne2 : (((l.length : Nat) : Int) == ((m.length : Nat) : Int)) = false := by simp; omega
    clear hlen
    go_enter Tryd.func66, Tryd.ntmps66
    go_wp2
    go_ret
    exact ⟨ret_bool R.out.symm, Below.refl _ _⟩

set_option maxRecDepth 100000 in
theorem tsame_any (av_ bv : Value) (l m : List A4) (w : World) (ha : RowA w av_ l) (hb : RowA w bv m) (hl : l.length ≤ 1000000) (hm : m.length ≤ 1000000) :
    Calls Tryd.prog 41 #[av_, bv] w fun e w' => e = .returned (.bool (sameL l m)) ∧ Below w.heap.size w w' := by
  have C := Lib.hid (equal_any av_ bv l m w ha hb (by omega) (by omega))
  obtain ⟨ao, ac, rfl⟩ := ha.len
  obtain ⟨bo, bc, rfl⟩ := hb.len
  clear ha hb
  go_enter Tryd.func41, Tryd.ntmps41
  go_wp2_with fail
  refine C.out.mono ?_
  rintro e w' ⟨rfl, hb⟩
  have HB := Lib.hid hb
  clear hb
  go_wp2
  go_ret
  exact ⟨rfl, HB.out⟩
end Go.Proofs.YtfcgfnmokbbcaaaDoor.At
namespace Go.Proofs.YtfcgfnmokbbcaaaDoor.Ws
open Go.RowKit Go.Proofs.YtfcgfnmokbbcaaaDoor Go.Proofs.YtfcgfnmokbbcaaaDoor.Rw Go.Proofs.YtfcgfnmokbbcaaaDoor.At Go.Proofs.YtfcgfnmokbbcaaaDoor.Pr Go.Proofs.YtfcgfnmokbbcaaaDoor.Wr Go.Proofs.YtfcgfnmokbbcaaaDoor.Nm Go.Proofs.YtfcgfnmokbbcaaaDoor.Va

set_option maxRecDepth 100000 in
set_option maxHeartbeats 8000000 in
theorem wsame_any (a b : Mg) (pa la pb lb : Value) (w : World) (ha : MgIn w a pa la) (hb : MgIn w b pb lb) (l1 : a.p.length ≤ 1000) (l2 : b.p.length ≤ 1000) (l3 : a.l.length ≤ 1000) (l4 : b.l.length ≤ 1000) :
    Calls Tryd.prog 15 #[mv a pa la, mv b pb lb] w fun e w' => e = .returned (.bool (sameM a b)) ∧ Below w.heap.size w w' := by
  obtain ⟨k, tc, ts, ic, is, p, l⟩ := a
  obtain ⟨k', tc', ts', ic', is', p', l'⟩ := b
  have S := Lib.hid (show sameM ⟨k, tc, ts, ic, is, p, l⟩ ⟨k', tc', ts', ic', is', p', l'⟩ = (k == k' && ((tc == tc' && ts == ts') && ((ic == ic' && is == is') && (sameC p p' && sameL l l')))) from rfl)
  have B2 := Lib.hid ((new_below w (.cells (mcells ⟨k, tc, ts, ic, is, p, l⟩ pa la) 32)).alloc (by simp) (.cells (mcells ⟨k', tc', ts', ic', is', p', l'⟩ pb lb) 32))
  have X1 := Lib.hid ((box_new w (mcells ⟨k, tc, ts, ic, is, p, l⟩ pa la) 32).more (.cells (mcells ⟨k', tc', ts', ic', is', p', l'⟩ pb lb) 32))
  have X2 := Lib.hid (box_new (w.alloc (.cells (mcells ⟨k, tc, ts, ic, is, p, l⟩ pa la) 32)) (mcells ⟨k', tc', ts', ic', is', p', l'⟩ pb lb) 32)
  have PA := Lib.hid (ha.p.on B2.out)
  have PB := Lib.hid (hb.p.on B2.out)
  have LA := Lib.hid (ha.l.on B2.out)
  have LB := Lib.hid (hb.l.on B2.out)
  obtain ⟨pao, pac, rfl⟩ := ha.p.len
  obtain ⟨pbo, pbc, rfl⟩ := hb.p.len
  obtain ⟨lao, lac, rfl⟩ := ha.l.len
  obtain ⟨lbo, lbc, rfl⟩ := hb.l.len
  have e1 := eqID tc ts tc' ts'
  have e2 := eqID ic is ic' is'
  generalize (tc == tc' && ts == ts') = b2 at *
  generalize (ic == ic' && is == is') = b3 at *
  obtain ⟨b1, hb1⟩ : ∃ b1, (k == k') = b1 := ⟨_, rfl⟩
  rw [hb1] at S
  have SP := Lib.hid (fun w' (hb : Below _ _ w') => psame_any _ _ p p' w' (PA.out.on hb) (PB.out.on hb) (by simp at l1; omega) (by simp at l2; omega))
  have SL := Lib.hid (fun w' (hb : Below _ _ w') => tsame_any _ _ l l' w' (LA.out.on hb) (LB.out.on hb) (by simp at l3; omega) (by simp at l4; omega))
  clear ha hb PA PB LA LB l1 l2 l3 l4
  generalize sameC p p' = b4 at *
  generalize sameL l l' = b5 at *
  cases b1
  · go_enter Tryd.func15, Tryd.ntmps15
    go_wp2
    go_ret
    exact ⟨by rw [S.out]; rfl, B2.out⟩
  cases b2
  · go_enter Tryd.func15, Tryd.ntmps15
    go_wp2
    go_ret
    exact ⟨by rw [S.out]; rfl, B2.out⟩
  cases b3
  · go_enter Tryd.func15, Tryd.ntmps15
    go_wp2
    go_ret
    exact ⟨by rw [S.out]; rfl, B2.out⟩
  go_enter Tryd.func15, Tryd.ntmps15
  go_wp2_with fail
  refine (SP.out _ (Below.refl _ _)).mono ?_
  rintro e3 w3 ⟨rfl, hb⟩
  have B3 := Lib.hid (B2.out.trans (hb.mono B2.out.size))
  have SL3 := Lib.hid (SL.out w3 hb)
  have Y1 := X1.out.on hb
  have Y2 := X2.out.on hb
  have c4 := Y1.cell 6
  have d4 := Y2.cell 6
  simp at c4 d4
  clear hb SP SL X1 X2 Y1 Y2 B2
  cases b4
  · go_wp2_with fail
    go_ret
    exact ⟨by rw [S.out]; rfl, B3.out⟩
  go_wp2_with fail
  refine SL3.out.mono ?_
  rintro e4 w4 ⟨rfl, hb⟩
  have B4 := Lib.hid (B3.out.trans (hb.mono B3.out.size))
  clear hb SL3 B3
  go_wp2_with fail
  go_ret
  exact ⟨by rw [S.out]; rfl, B4.out⟩
end Go.Proofs.YtfcgfnmokbbcaaaDoor.Ws
