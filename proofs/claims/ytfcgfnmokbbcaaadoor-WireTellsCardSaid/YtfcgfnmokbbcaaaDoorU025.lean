/-
  id of the statements' own package: its sixteen bytes. No condition.
  Region 9 of Bytes of the statements' own package: a constraint's name and kind. Conditions: a short name; not many bytes ahead of it.
  Region 11 of Bytes of the statements' own package: a constraint's two numbers. Condition: not many bytes ahead of it.
-/
import Derived.Test.YtfcgfnmokbbcaaaDoorU024
import Derived.Test.YtfcgfnmokbbcaaaDoorU019
namespace Go.Proofs.YtfcgfnmokbbcaaaDoor.Wr
open Go.RowKit Go.Proofs.YtfcgfnmokbbcaaaDoor Go.Proofs.YtfcgfnmokbbcaaaDoor.Rw Go.Proofs.YtfcgfnmokbbcaaaDoor.Nm

set_option maxRecDepth 100000 in
set_option maxHeartbeats 4000000 in
theorem ridb_any (c s : Int) (w : World) :
    Calls Tryd.prog 47 #[.agg #[.int .i64 c, .int .i64 s]] w fun e w' => (∃ v, e = .returned v ∧ OwnB w' w.heap.size v (numB c ++ numB s)) ∧ Below w.heap.size w w' := by
  have B1 := Lib.hid (new_below w (.cells #[.int .i64 c, .int .i64 s] 28))
  have X1 := Lib.hid (box_new w #[.int .i64 c, .int .i64 s] 28)
  go_enter Tryd.func47, Tryd.ntmps47
  go_upto_region 1 with fail
  refine rid1 w.heap.size w.heap.size c s _ (w.alloc (.cells #[.int .i64 c, .int .i64 s] 28)) _ _ _ _ _ _ _ _ _ B1.out.size X1.out ?_
  intro w' v n3 n4 n5 n6 n7 n8 n9 ho hb hx
  have HO := Lib.hid ho
  have B2 := Lib.hid (B1.out.trans hb)
  clear ho hb hx
  simp only [Exit.then]
  apply_assumption
  go_wp2
  go_ret
  exact ⟨⟨_, rfl, HO.out⟩, B2.out⟩
end Go.Proofs.YtfcgfnmokbbcaaaDoor.Wr

namespace Go.Proofs.YtfcgfnmokbbcaaaDoor.Wr
open Go.RowKit Go.Proofs.YtfcgfnmokbbcaaaDoor Go.Proofs.YtfcgfnmokbbcaaaDoor.Rw Go.Proofs.YtfcgfnmokbbcaaaDoor.Nm Go.Proofs.YtfcgfnmokbbcaaaDoor.At Go.Proofs.YtfcgfnmokbbcaaaDoor.Pr

def by9S (B _mb _xb : Nat) (_m : Mg) (_pV _lV bv : Value) (l : List UInt8) (nm _t : ByteArray) (_kd _lo _hgh : Int) (cb : UInt8) : Nat → (Nat → Value) → World → Prop
  | 0, _, w => OwnB w B bv (l)
  | 1, v, w => OwnB w B bv (l) ∧ RowB w (v 3) (textB nm)
  | 2, v, w => OwnB w B (v 4) (l ++ textB nm)
  | 3, v, w => OwnB w B (v 9) (l ++ textB nm ++ [cb])
  | _ + 4, v, w => OwnB w B (v 10) (l ++ textB nm ++ [cb])
structure by9C (B mb xb : Nat) (m : Mg) (pV lV bv : Value) (l : List UInt8) (nm t : ByteArray) (kd lo hgh : Int) (cb : UInt8) (W : World) (k : Nat) (b : Bool) (v : Nat → Value) (w : World) : Prop where
  bel : Below B W w
  bx0 : Box w mb (mcells m pV lV) 32
  bx1 : Box w xb #[.string nm, .int .i64 kd, .int .i64 lo, .int .i64 hgh, .string t] 57
  lit : b = true → k ≤ 2 → LitB B (v 8) cb w
  st : by9S B mb xb m pV lV bv l nm t kd lo hgh cb k v w
noncomputable def by9R : Code := ((Tryd.f19.body.bind (findRegion 9)).getD .skip)
set_option maxRecDepth 100000 in
set_option maxHeartbeats 8000000 in
theorem by9 (B mb xb : Nat) (m : Mg) (pV lV bv : Value) (l : List UInt8) (nm t : ByteArray) (kd lo hgh : Int) (cb : UInt8) (Q : Exit → Act → World → Prop) (W : World) (u0 u2 u4 u6 u7 u8 u9 u10 u11 u12 u13 u14 u15 u16 u17 u18 u19 u20 u21 u22 u23 u24 u25 u26 u27 u28 u29 u30 u31 u32 u33 u34 u35 u36 u37 u38 u39 u40 u41 u42 u43 u44 u45 u46 u47 u48 u49 u50 u51 u52 u53 u54 u55 u56 u57 u58 u59 u60 u61 u62 u63 u64 u65 u66 u67 u68 u69 u70 u71 u72 u73 u74 u75 u76 u77 u78 u79 u80 u81 u82 u83 u84 u85 u86 u87 u88 u89 u90 u91 u92 u93 u94 u95 u96 u97 u98 u99 u100 u101 u102 u103 u104 u105 u106 u107 u108 u109 u110 u111 u112 u113 u114 u115 u116 : Value)
    (hB : B ≤ W.heap.size) (hx0 : Box W mb (mcells m pV lV) 32) (hx1 : Box W xb #[.string nm, .int .i64 kd, .int .i64 lo, .int .i64 hgh, .string t] 57) (ho0 : OwnB W B bv (l)) (hw : IntKind.u8.wrap kd = (cb.toNat : Int)) (hnm : nm.size ≤ 255) (hl2 : 2 ≤ l.length) (hl : l.length ≤ 10000)
    (hQ : ∀ (w' : World) (v n46 n47 n48 n49 n50 n51 n52 n53 n54 n55 : Value), OwnB w' B v (l ++ textB nm ++ [cb]) → Below B W w' → Box w' mb (mcells m pV lV) 32 → Box w' xb #[.string nm, .int .i64 kd, .int .i64 lo, .int .i64 hgh, .string t] 57 → Q .normal ⟨(u0 :: .pointer (some ⟨mb, 0, none⟩) :: u2 :: v :: u4 :: .pointer (some ⟨xb, 0, none⟩) :: u6 :: u7 :: u8 :: u9 :: u10 :: u11 :: u12 :: u13 :: u14 :: u15 :: u16 :: u17 :: u18 :: u19 :: u20 :: u21 :: u22 :: u23 :: u24 :: u25 :: u26 :: u27 :: u28 :: u29 :: u30 :: u31 :: u32 :: u33 :: u34 :: u35 :: u36 :: u37 :: u38 :: u39 :: u40 :: u41 :: u42 :: u43 :: u44 :: u45 :: n46 :: n47 :: n48 :: n49 :: n50 :: n51 :: n52 :: n53 :: n54 :: n55 :: u56 :: u57 :: u58 :: u59 :: u60 :: u61 :: u62 :: u63 :: u64 :: u65 :: u66 :: u67 :: u68 :: u69 :: u70 :: u71 :: u72 :: u73 :: u74 :: u75 :: u76 :: u77 :: u78 :: u79 :: u80 :: u81 :: u82 :: u83 :: u84 :: u85 :: u86 :: u87 :: u88 :: u89 :: u90 :: u91 :: u92 :: u93 :: u94 :: u95 :: u96 :: u97 :: u98 :: u99 :: u100 :: u101 :: u102 :: u103 :: u104 :: u105 :: u106 :: u107 :: u108 :: u109 :: u110 :: u111 :: u112 :: u113 :: u114 :: u115 :: u116 :: []).toArray, []⟩ w') :
    Code.wp Tryd.prog by9R Q ⟨(u0 :: .pointer (some ⟨mb, 0, none⟩) :: u2 :: bv :: u4 :: .pointer (some ⟨xb, 0, none⟩) :: u6 :: u7 :: u8 :: u9 :: u10 :: u11 :: u12 :: u13 :: u14 :: u15 :: u16 :: u17 :: u18 :: u19 :: u20 :: u21 :: u22 :: u23 :: u24 :: u25 :: u26 :: u27 :: u28 :: u29 :: u30 :: u31 :: u32 :: u33 :: u34 :: u35 :: u36 :: u37 :: u38 :: u39 :: u40 :: u41 :: u42 :: u43 :: u44 :: u45 :: u46 :: u47 :: u48 :: u49 :: u50 :: u51 :: u52 :: u53 :: u54 :: u55 :: u56 :: u57 :: u58 :: u59 :: u60 :: u61 :: u62 :: u63 :: u64 :: u65 :: u66 :: u67 :: u68 :: u69 :: u70 :: u71 :: u72 :: u73 :: u74 :: u75 :: u76 :: u77 :: u78 :: u79 :: u80 :: u81 :: u82 :: u83 :: u84 :: u85 :: u86 :: u87 :: u88 :: u89 :: u90 :: u91 :: u92 :: u93 :: u94 :: u95 :: u96 :: u97 :: u98 :: u99 :: u100 :: u101 :: u102 :: u103 :: u104 :: u105 :: u106 :: u107 :: u108 :: u109 :: u110 :: u111 :: u112 :: u113 :: u114 :: u115 :: u116 :: []).toArray, []⟩ W := by
  have HQ := Lib.hid hQ
  have HX0 := Lib.hid hx0
  have HX1 := Lib.hid hx1
  have HO0 := Lib.hid ho0
  clear hQ hx0 hx1 ho0
  obtain ⟨dst, hdd⟩ : ∃ d : Nat → Nat, d = fun i => [46, 47, 48, 49, 50, 51, 52, 53, 54, 55, 3].getD i 3 := ⟨_, rfl⟩
  obtain ⟨mk, hmk⟩ : ∃ d : Nat → Nat, d = fun j => [3, 4, 9, 10].getD j 999 := ⟨_, rfl⟩
  obtain ⟨pv, hpv⟩ : ∃ e : Nat → Option Value, e = fun i => ([some (bv), some (.pointer (some ⟨xb, 0, none⟩)), some (.string nm), none, none, some (.pointer (some ⟨xb, 1, none⟩)), some (.int .i64 kd), some (.int .u8 cb.toNat), none, none, none] : List (Option Value)).getD i none := ⟨_, rfl⟩
  obtain ⟨base, hbase⟩ : ∃ b : Act, b = ⟨(u0 :: .pointer (some ⟨mb, 0, none⟩) :: u2 :: bv :: u4 :: .pointer (some ⟨xb, 0, none⟩) :: u6 :: u7 :: u8 :: u9 :: u10 :: u11 :: u12 :: u13 :: u14 :: u15 :: u16 :: u17 :: u18 :: u19 :: u20 :: u21 :: u22 :: u23 :: u24 :: u25 :: u26 :: u27 :: u28 :: u29 :: u30 :: u31 :: u32 :: u33 :: u34 :: u35 :: u36 :: u37 :: u38 :: u39 :: u40 :: u41 :: u42 :: u43 :: u44 :: u45 :: u46 :: u47 :: u48 :: u49 :: u50 :: u51 :: u52 :: u53 :: u54 :: u55 :: u56 :: u57 :: u58 :: u59 :: u60 :: u61 :: u62 :: u63 :: u64 :: u65 :: u66 :: u67 :: u68 :: u69 :: u70 :: u71 :: u72 :: u73 :: u74 :: u75 :: u76 :: u77 :: u78 :: u79 :: u80 :: u81 :: u82 :: u83 :: u84 :: u85 :: u86 :: u87 :: u88 :: u89 :: u90 :: u91 :: u92 :: u93 :: u94 :: u95 :: u96 :: u97 :: u98 :: u99 :: u100 :: u101 :: u102 :: u103 :: u104 :: u105 :: u106 :: u107 :: u108 :: u109 :: u110 :: u111 :: u112 :: u113 :: u114 :: u115 :: u116 :: []).toArray, []⟩ := ⟨_, rfl⟩
  rw [← hbase]
  unfold by9R
  conv => arg 2; whnf
  have nd : ∀ j, (j ≠ 46 ∧ j ≠ 47 ∧ j ≠ 48 ∧ j ≠ 49 ∧ j ≠ 50 ∧ j ≠ 51 ∧ j ≠ 52 ∧ j ≠ 53 ∧ j ≠ 54 ∧ j ≠ 55 ∧ j ≠ 3) → ∀ i, i < 11 → dst i ≠ j := by
    rw [hdd]
    intro j hj i hi
    rcases (by omega : i = 0 ∨ i = 1 ∨ i = 2 ∨ i = 3 ∨ i = 4 ∨ i = 5 ∨ i = 6 ∨ i = 7 ∨ i = 8 ∨ i = 9 ∨ i = 10) with rfl | rfl | rfl | rfl | rfl | rfl | rfl | rfl | rfl | rfl | rfl <;> simp <;> omega
  refine Rg.region_chain 11 dst pv mk 4 8 2 (by9C B mb xb m pV lV bv l nm t kd lo hgh cb W) (by kernel_rfl) (by kernel_rfl) rfl ?_ ?_ ?_ ?_ (by decide) ?_ ?_ (by subst hpv; rfl) ?_ ?_ ?_ ?_ ?_ ?_ ?_ ?_
  · subst hdd
    intro i j hi hj h
    rcases (by omega : i = 0 ∨ i = 1 ∨ i = 2 ∨ i = 3 ∨ i = 4 ∨ i = 5 ∨ i = 6 ∨ i = 7 ∨ i = 8 ∨ i = 9 ∨ i = 10) with rfl | rfl | rfl | rfl | rfl | rfl | rfl | rfl | rfl | rfl | rfl <;> rcases (by omega : j = 0 ∨ j = 1 ∨ j = 2 ∨ j = 3 ∨ j = 4 ∨ j = 5 ∨ j = 6 ∨ j = 7 ∨ j = 8 ∨ j = 9 ∨ j = 10) with rfl | rfl | rfl | rfl | rfl | rfl | rfl | rfl | rfl | rfl | rfl <;> first | rfl | (exfalso; revert h; decide)
  · subst hdd hbase
    intro i hi
    rcases (by omega : i = 0 ∨ i = 1 ∨ i = 2 ∨ i = 3 ∨ i = 4 ∨ i = 5 ∨ i = 6 ∨ i = 7 ∨ i = 8 ∨ i = 9 ∨ i = 10) with rfl | rfl | rfl | rfl | rfl | rfl | rfl | rfl | rfl | rfl | rfl <;> (show _ < 117; decide)
  · subst hmk
    intro i j hi hj h
    rcases (by omega : i = 0 ∨ i = 1 ∨ i = 2 ∨ i = 3) with rfl | rfl | rfl | rfl <;> rcases (by omega : j = 0 ∨ j = 1 ∨ j = 2 ∨ j = 3) with rfl | rfl | rfl | rfl <;> first | rfl | (exfalso; revert h; decide)
  · subst hmk
    intro j hj
    rcases (by omega : j = 0 ∨ j = 1 ∨ j = 2 ∨ j = 3) with rfl | rfl | rfl | rfl <;> decide
  · subst hmk
    intro j hj
    rcases (by omega : j = 0 ∨ j = 1 ∨ j = 2 ∨ j = 3) with rfl | rfl | rfl | rfl <;> decide
  · subst hmk hpv
    intro j hj
    rcases (by omega : j = 0 ∨ j = 1 ∨ j = 2 ∨ j = 3) with rfl | rfl | rfl | rfl <;> rfl
  · subst hmk
    intro j o hj ho
    rcases (by omega : j = 0 ∨ j = 1 ∨ j = 2) with rfl | rfl | rfl
    · obtain rfl := Option.some.inj ho
      exact ⟨⟨3, .data⟩, by simp, rfl, rfl⟩
    · obtain rfl := Option.some.inj ho
      exact ⟨⟨4, .data⟩, by simp, rfl, rfl⟩
    · obtain rfl := Option.some.inj ho
      exact ⟨⟨9, .data⟩, by simp, rfl, rfl⟩
  · subst hmk
    intro o _ ho
    obtain rfl := Option.some.inj ho
    exact ⟨⟨8, .data⟩, by simp, rfl, rfl⟩
  · intro v
    exact ⟨(Below.refl _ _).drew, HX0.out, HX1.out, (fun h => by cases h), HO0.out⟩
  · subst hmk
    intro k b v v' z h1 h2 hc
    refine ⟨hc.bel, hc.bx0, hc.bx1, fun e hk => by rw [h2 e]; exact hc.lit e hk, ?_⟩
    have hm := hc.st
    rcases k with _ | _ | _ | _ | k
    · simp only [by9S] at hm ⊢
      exact hm
    · have e3 : v' 3 = v 3 := h1 0 (by omega)
      simp only [by9S, e3] at hm ⊢
      exact hm
    · have e4 : v' 4 = v 4 := h1 1 (by omega)
      simp only [by9S, e4] at hm ⊢
      exact hm
    · have e9 : v' 9 = v 9 := h1 2 (by omega)
      simp only [by9S, e9] at hm ⊢
      exact hm
    · have e10 : v' 10 = v 10 := h1 3 (by omega)
      simp only [by9S, e10] at hm ⊢
      exact hm
  · subst hdd hmk hpv hbase
    intro i o hi ho hnm hnq
    rcases (by omega : i = 0 ∨ i = 1 ∨ i = 2 ∨ i = 3 ∨ i = 4 ∨ i = 5 ∨ i = 6 ∨ i = 7 ∨ i = 8 ∨ i = 9 ∨ i = 10) with rfl | rfl | rfl | rfl | rfl | rfl | rfl | rfl | rfl | rfl | rfl
    · obtain rfl := Option.some.inj ho
      refine ⟨_, rfl, fun k b val z a hc seen K hK => ?_⟩
      have e3 : a.eval (.tmp 3) = bv := seen.kq 10 _ _ (by decide) rfl ⟨⟨0, .phase⟩, by simp, rfl, rfl⟩ rfl
      exact Rg.op_value_w rfl (Rg.wanted_none rfl) (by simp [execOp, e3]) hK
    · obtain rfl := Option.some.inj ho
      refine ⟨_, rfl, fun k b val z a hc seen K hK => ?_⟩
      have e5 : a.eval (.tmp 5) = .pointer (some ⟨xb, 0, none⟩) := seen.kp 5 _ (nd 5 (by decide)) rfl
      exact Rg.op_value_w rfl (Rg.wanted_none rfl) (Rg.ex_field a.eval _ 57 (.tmp 5) 0 rfl (by rw [e5]; simp [go_sem])) hK
    · obtain rfl := Option.some.inj ho
      refine ⟨_, rfl, fun k b val z a hc seen K hK => ?_⟩
      have e47 : a.eval (.tmp 47) = .pointer (some ⟨xb, 0, none⟩) := seen.pl ⟨1, .data⟩ (by simp) rfl _ rfl
      have y1_0 := hc.bx1.cell 0
      have y1_1 := hc.bx1.cell 1
      have y1_2 := hc.bx1.cell 2
      have y1_3 := hc.bx1.cell 3
      have y1_4 := hc.bx1.cell 4
      simp only [List.getElem?_toArray, List.getElem?_cons_zero, List.getElem?_cons_succ] at y1_0 y1_1 y1_2 y1_3 y1_4
      exact Rg.op_value_w rfl (Rg.wanted_none rfl) (Rg.ex_load a.eval _ 9 (.tmp 47) rfl (by rw [e47]; simp [go_sem, y1_0])) hK
    · exact absurd rfl (hnm 0 (by decide))
    · exact absurd rfl (hnm 1 (by decide))
    · obtain rfl := Option.some.inj ho
      refine ⟨_, rfl, fun k b val z a hc seen K hK => ?_⟩
      have e5 : a.eval (.tmp 5) = .pointer (some ⟨xb, 0, none⟩) := seen.kp 5 _ (nd 5 (by decide)) rfl
      exact Rg.op_value_w rfl (Rg.wanted_none rfl) (Rg.ex_field a.eval _ 57 (.tmp 5) 1 rfl (by rw [e5]; simp [go_sem])) hK
    · obtain rfl := Option.some.inj ho
      refine ⟨_, rfl, fun k b val z a hc seen K hK => ?_⟩
      have e51 : a.eval (.tmp 51) = .pointer (some ⟨xb, 1, none⟩) := seen.pl ⟨5, .data⟩ (by simp) rfl _ rfl
      have y1_0 := hc.bx1.cell 0
      have y1_1 := hc.bx1.cell 1
      have y1_2 := hc.bx1.cell 2
      have y1_3 := hc.bx1.cell 3
      have y1_4 := hc.bx1.cell 4
      simp only [List.getElem?_toArray, List.getElem?_cons_zero, List.getElem?_cons_succ] at y1_0 y1_1 y1_2 y1_3 y1_4
      exact Rg.op_value_w rfl (Rg.wanted_none rfl) (Rg.ex_load a.eval _ 3 (.tmp 51) rfl (by rw [e51]; simp [go_sem, y1_1])) hK
    · obtain rfl := Option.some.inj ho
      refine ⟨_, rfl, fun k b val z a hc seen K hK => ?_⟩
      have e52 : a.eval (.tmp 52) = .int .i64 kd := seen.pl ⟨6, .data⟩ (by simp) rfl _ rfl
      exact Rg.op_value_w rfl (Rg.wanted_none rfl) (Rg.ex_conv a.eval _ 3 5 (.tmp 52) rfl (by rw [e52]; simp [go_sem, hw])) hK
    · exact absurd rfl hnq
    · exact absurd rfl (hnm 2 (by decide))
    · exact absurd rfl (hnm 3 (by decide))
  · subst hdd hmk hpv hbase
    intro j o b val z a hj ho hc hcb seen K hK
    have hm := hc.st
    rcases (by omega : j = 0 ∨ j = 1 ∨ j = 2 ∨ j = 3) with rfl | rfl | rfl | rfl
    · obtain rfl := Option.some.inj ho
      have e48 : a.eval (.tmp 48) = .string nm := seen.pl ⟨2, .data⟩ (by simp) rfl _ rfl
      have C1 := rtext_any nm z hnm
      refine Rg.op_call_w rfl (Rg.wanted_none rfl) (ex_call1 _ _ (.tmp 48) 9 48 rfl e48 rfl _ (call_fn Tryd.func48 rfl rfl _ _)) C1 ?_
      rintro e z1 ⟨⟨v1, rfl, ho1⟩, hz⟩
      have ho2 := Rw.own_less (B' := B) (Nat.le_trans hB hc.bel.size) ho1
      refine ⟨v1, rfl, hK _ _ ⟨hc.bel.trans (hz.mono (Nat.le_trans hB hc.bel.size)), hc.bx0.on hz, hc.bx1.on hz, (fun e _ => (show LitB B (Rg.upd val 3 _ 8) cb _ from by rw [Rg.upd_other _ _ (by decide)]; exact (hc.lit e (by omega)).on hz)), ⟨(show OwnB _ B bv (l) from by exact Rw.own_on hm hz), (show RowB _ (Rg.upd val 3 _ 3) (textB nm) from by rw [Rg.upd_same]; exact Row.of_own ho2)⟩⟩⟩
    · obtain rfl := Option.some.inj ho
      have e46 : a.eval (.tmp 46) = bv := seen.pl ⟨0, .data⟩ (by simp) rfl _ rfl
      have e49 : a.eval (.tmp 49) = val 3 := seen.at_ ⟨3, .data⟩ (by simp) rfl
      obtain ⟨v1, z1, r, ho1, hg, hb1⟩ := app_nextB (l := l) (m := textB nm) hB hc.bel hm.1 hm.2 (by rw [textB_lenW nm hnm]; omega)
      have ho0 := hm.1
      refine Rg.op_value_w rfl (Rg.wanted_none rfl) (Rg.ex_append a.eval _ (.tmp 46) (.tmp 49) 22 rfl e46 e49 r) (hK _ _ ⟨hb1, box_grown hc.bx0 hg (own_neB ho0 hc.bx0 (by decide)), box_grown hc.bx1 hg (own_neB ho0 hc.bx1 (by decide)), (fun e _ => (show LitB B (Rg.upd val 4 _ 8) cb _ from by rw [Rg.upd_other _ _ (by decide)]; exact (hc.lit e (by omega)).app ho0 (by omega) hg)), (show OwnB _ B (Rg.upd val 4 _ 4) (l ++ textB nm) from by rw [Rg.upd_same]; exact ho1)⟩)
    · obtain rfl := Option.some.inj ho
      have e50 : a.eval (.tmp 50) = val 4 := seen.at_ ⟨4, .data⟩ (by simp) rfl
      have e54 : a.eval (.tmp 54) = val 8 := seen.at_ ⟨8, .data⟩ (by simp) rfl
      obtain ⟨v1, z1, r, ho1, hg, hb1⟩ := app_nextB (l := l ++ textB nm) (m := [cb]) hB hc.bel hm (hc.lit (hcb (by omega)) (by omega)).row (by rw [List.length_append, textB_lenW nm hnm]; simp; omega)
      have ho0 := hm
      refine Rg.op_value_w rfl (Rg.wanted_none rfl) (Rg.ex_append a.eval _ (.tmp 50) (.tmp 54) 22 rfl e50 e54 r) (hK _ _ ⟨hb1, box_grown hc.bx0 hg (own_neB ho0 hc.bx0 (by decide)), box_grown hc.bx1 hg (own_neB ho0 hc.bx1 (by decide)), (fun _ he => absurd he (by omega)), (show OwnB _ B (Rg.upd val 9 _ 9) (l ++ textB nm ++ [cb]) from by rw [Rg.upd_same]; exact ho1)⟩)
    · obtain rfl := Option.some.inj ho
      have e55 : a.eval (.tmp 55) = val 9 := seen.at_ ⟨9, .data⟩ (by simp) rfl
      refine Rg.op_value_w rfl (Rg.wanted_none rfl) (Rg.ex_assign a.eval _ (.tmp 55) rfl _) (hK _ _ ⟨hc.bel, hc.bx0, hc.bx1, (fun _ he => absurd he (by omega)), ?_⟩)
      show OwnB _ B (Rg.upd val 10 _ 10) (l ++ textB nm ++ [cb])
      rw [Rg.upd_same, e55]
      exact hm
  · subst hdd hmk hpv hbase
    intro o k val z a hk ho hc seen K hK
    obtain rfl := Option.some.inj ho
    have hm := hc.st
    have e53 : a.eval (.tmp 53) = .int .u8 cb.toNat := seen.pl ⟨7, .data⟩ (by simp) rfl _ rfl
    have hz := new_below z (.cells #[.int .u8 cb.toNat] 5)
    refine Rg.op_value_w rfl (Rg.wanted_none rfl) (Rg.ex_build a.eval _ 22 1 #[(0, .tmp 53)] rfl (by simp only [List.map_toArray, List.map_cons, List.map_nil, e53]) (lit_byteB z cb)) (hK _ _ ⟨hc.bel.alloc (Nat.le_trans hB hc.bel.size) _, hc.bx0.on hz, hc.bx1.on hz, (fun _ _ => (show LitB B (Rg.upd val 8 _ 8) cb _ from by rw [Rg.upd_same]; exact LitB.made B z cb (Nat.le_trans hB hc.bel.size))), ?_⟩)
    rcases (by omega : k = 0 ∨ k = 1 ∨ k = 2) with rfl | rfl | rfl
    · simp only [by9S] at hm ⊢
      exact Rw.own_on hm hz
    · simp only [by9S, Rg.upd, show (3 : Nat) ≠ 8 by decide, if_false] at hm ⊢
      exact ⟨Rw.own_on hm.1 hz, hm.2.on hz⟩
    · simp only [by9S, Rg.upd, show (4 : Nat) ≠ 8 by decide, if_false] at hm ⊢
      exact Rw.own_on hm hz
  · subst hdd hbase
    intro a b val z hc hd hsz hk hv
    have hm := hc.st
    have hk2 : ∀ j, (j < 46 ∨ 46 + 10 ≤ j) → a.tmps[j]? = (u0 :: .pointer (some ⟨mb, 0, none⟩) :: u2 :: val 10 :: u4 :: .pointer (some ⟨xb, 0, none⟩) :: u6 :: u7 :: u8 :: u9 :: u10 :: u11 :: u12 :: u13 :: u14 :: u15 :: u16 :: u17 :: u18 :: u19 :: u20 :: u21 :: u22 :: u23 :: u24 :: u25 :: u26 :: u27 :: u28 :: u29 :: u30 :: u31 :: u32 :: u33 :: u34 :: u35 :: u36 :: u37 :: u38 :: u39 :: u40 :: u41 :: u42 :: u43 :: u44 :: u45 :: u46 :: u47 :: u48 :: u49 :: u50 :: u51 :: u52 :: u53 :: u54 :: u55 :: u56 :: u57 :: u58 :: u59 :: u60 :: u61 :: u62 :: u63 :: u64 :: u65 :: u66 :: u67 :: u68 :: u69 :: u70 :: u71 :: u72 :: u73 :: u74 :: u75 :: u76 :: u77 :: u78 :: u79 :: u80 :: u81 :: u82 :: u83 :: u84 :: u85 :: u86 :: u87 :: u88 :: u89 :: u90 :: u91 :: u92 :: u93 :: u94 :: u95 :: u96 :: u97 :: u98 :: u99 :: u100 :: u101 :: u102 :: u103 :: u104 :: u105 :: u106 :: u107 :: u108 :: u109 :: u110 :: u111 :: u112 :: u113 :: u114 :: u115 :: u116 :: [] : List Value)[j]? := fun j hj => by
      by_cases e : j = 3
      · subst e
        exact hv 10 (by decide)
      · have h1 := (hk j (nd j (by omega))).trans List.getElem?_toArray
        rw [h1]
        rw [show (u0 :: .pointer (some ⟨mb, 0, none⟩) :: u2 :: val 10 :: u4 :: .pointer (some ⟨xb, 0, none⟩) :: u6 :: u7 :: u8 :: u9 :: u10 :: u11 :: u12 :: u13 :: u14 :: u15 :: u16 :: u17 :: u18 :: u19 :: u20 :: u21 :: u22 :: u23 :: u24 :: u25 :: u26 :: u27 :: u28 :: u29 :: u30 :: u31 :: u32 :: u33 :: u34 :: u35 :: u36 :: u37 :: u38 :: u39 :: u40 :: u41 :: u42 :: u43 :: u44 :: u45 :: u46 :: u47 :: u48 :: u49 :: u50 :: u51 :: u52 :: u53 :: u54 :: u55 :: u56 :: u57 :: u58 :: u59 :: u60 :: u61 :: u62 :: u63 :: u64 :: u65 :: u66 :: u67 :: u68 :: u69 :: u70 :: u71 :: u72 :: u73 :: u74 :: u75 :: u76 :: u77 :: u78 :: u79 :: u80 :: u81 :: u82 :: u83 :: u84 :: u85 :: u86 :: u87 :: u88 :: u89 :: u90 :: u91 :: u92 :: u93 :: u94 :: u95 :: u96 :: u97 :: u98 :: u99 :: u100 :: u101 :: u102 :: u103 :: u104 :: u105 :: u106 :: u107 :: u108 :: u109 :: u110 :: u111 :: u112 :: u113 :: u114 :: u115 :: u116 :: [] : List Value) = (u0 :: .pointer (some ⟨mb, 0, none⟩) :: u2 :: bv :: u4 :: .pointer (some ⟨xb, 0, none⟩) :: u6 :: u7 :: u8 :: u9 :: u10 :: u11 :: u12 :: u13 :: u14 :: u15 :: u16 :: u17 :: u18 :: u19 :: u20 :: u21 :: u22 :: u23 :: u24 :: u25 :: u26 :: u27 :: u28 :: u29 :: u30 :: u31 :: u32 :: u33 :: u34 :: u35 :: u36 :: u37 :: u38 :: u39 :: u40 :: u41 :: u42 :: u43 :: u44 :: u45 :: u46 :: u47 :: u48 :: u49 :: u50 :: u51 :: u52 :: u53 :: u54 :: u55 :: u56 :: u57 :: u58 :: u59 :: u60 :: u61 :: u62 :: u63 :: u64 :: u65 :: u66 :: u67 :: u68 :: u69 :: u70 :: u71 :: u72 :: u73 :: u74 :: u75 :: u76 :: u77 :: u78 :: u79 :: u80 :: u81 :: u82 :: u83 :: u84 :: u85 :: u86 :: u87 :: u88 :: u89 :: u90 :: u91 :: u92 :: u93 :: u94 :: u95 :: u96 :: u97 :: u98 :: u99 :: u100 :: u101 :: u102 :: u103 :: u104 :: u105 :: u106 :: u107 :: u108 :: u109 :: u110 :: u111 :: u112 :: u113 :: u114 :: u115 :: u116 :: []).set 3 (val 10) from rfl, List.getElem?_set_ne (fun e2 => e e2.symm)]
    obtain ⟨mid, hmid, rfl⟩ := Rg.frame_mid (bl := (u0 :: .pointer (some ⟨mb, 0, none⟩) :: u2 :: val 10 :: u4 :: .pointer (some ⟨xb, 0, none⟩) :: u6 :: u7 :: u8 :: u9 :: u10 :: u11 :: u12 :: u13 :: u14 :: u15 :: u16 :: u17 :: u18 :: u19 :: u20 :: u21 :: u22 :: u23 :: u24 :: u25 :: u26 :: u27 :: u28 :: u29 :: u30 :: u31 :: u32 :: u33 :: u34 :: u35 :: u36 :: u37 :: u38 :: u39 :: u40 :: u41 :: u42 :: u43 :: u44 :: u45 :: u46 :: u47 :: u48 :: u49 :: u50 :: u51 :: u52 :: u53 :: u54 :: u55 :: u56 :: u57 :: u58 :: u59 :: u60 :: u61 :: u62 :: u63 :: u64 :: u65 :: u66 :: u67 :: u68 :: u69 :: u70 :: u71 :: u72 :: u73 :: u74 :: u75 :: u76 :: u77 :: u78 :: u79 :: u80 :: u81 :: u82 :: u83 :: u84 :: u85 :: u86 :: u87 :: u88 :: u89 :: u90 :: u91 :: u92 :: u93 :: u94 :: u95 :: u96 :: u97 :: u98 :: u99 :: u100 :: u101 :: u102 :: u103 :: u104 :: u105 :: u106 :: u107 :: u108 :: u109 :: u110 :: u111 :: u112 :: u113 :: u114 :: u115 :: u116 :: [])) 46 10 hd hsz (by show 46 + 10 ≤ 117; decide) hk2
    match mid, hmid with
    | n46 :: n47 :: n48 :: n49 :: n50 :: n51 :: n52 :: n53 :: n54 :: n55 :: [], _ => exact HQ.out z (val 10) n46 n47 n48 n49 n50 n51 n52 n53 n54 n55 hm hc.bel hc.bx0 hc.bx1
end Go.Proofs.YtfcgfnmokbbcaaaDoor.Wr

namespace Go.Proofs.YtfcgfnmokbbcaaaDoor.Wr
open Go.RowKit Go.Proofs.YtfcgfnmokbbcaaaDoor Go.Proofs.YtfcgfnmokbbcaaaDoor.Rw Go.Proofs.YtfcgfnmokbbcaaaDoor.Nm Go.Proofs.YtfcgfnmokbbcaaaDoor.At Go.Proofs.YtfcgfnmokbbcaaaDoor.Pr

def by11S (B _mb _xb : Nat) (_m : Mg) (_pV _lV bv : Value) (l : List UInt8) (_nm _t : ByteArray) (_kd lo hgh : Int) : Nat → (Nat → Value) → World → Prop
  | 0, _, w => OwnB w B bv (l)
  | 1, v, w => OwnB w B bv (l) ∧ RowB w (v 3) (numB lo)
  | 2, v, w => OwnB w B (v 4) (l ++ numB lo)
  | 3, v, w => OwnB w B (v 4) (l ++ numB lo) ∧ RowB w (v 7) (numB hgh)
  | 4, v, w => OwnB w B (v 8) (l ++ numB lo ++ numB hgh)
  | _ + 5, v, w => OwnB w B (v 9) (l ++ numB lo ++ numB hgh)
structure by11C (B mb xb : Nat) (m : Mg) (pV lV bv : Value) (l : List UInt8) (nm t : ByteArray) (kd lo hgh : Int) (W : World) (k : Nat) (b : Bool) (v : Nat → Value) (w : World) : Prop where
  bel : Below B W w
  bx0 : Box w mb (mcells m pV lV) 32
  bx1 : Box w xb #[.string nm, .int .i64 kd, .int .i64 lo, .int .i64 hgh, .string t] 57
  lit : b = true → v 6 = .int .i64 hgh
  st : by11S B mb xb m pV lV bv l nm t kd lo hgh k v w
noncomputable def by11R : Code := ((Tryd.f19.body.bind (findRegion 11)).getD .skip)
set_option maxRecDepth 100000 in
set_option maxHeartbeats 8000000 in
theorem by11 (B mb xb : Nat) (m : Mg) (pV lV bv : Value) (l : List UInt8) (nm t : ByteArray) (kd lo hgh : Int) (Q : Exit → Act → World → Prop) (W : World) (u0 u2 u4 u6 u7 u8 u9 u10 u11 u12 u13 u14 u15 u16 u17 u18 u19 u20 u21 u22 u23 u24 u25 u26 u27 u28 u29 u30 u31 u32 u33 u34 u35 u36 u37 u38 u39 u40 u41 u42 u43 u44 u45 u46 u47 u48 u49 u50 u51 u52 u53 u54 u55 u56 u57 u58 u59 u60 u61 u62 u63 u64 u65 u66 u67 u68 u69 u70 u71 u72 u73 u74 u75 u76 u77 u78 u79 u80 u81 u82 u83 u84 u85 u86 u87 u88 u89 u90 u91 u92 u93 u94 u95 u96 u97 u98 u99 u100 u101 u102 u103 u104 u105 u106 u107 u108 u109 u110 u111 u112 u113 u114 u115 u116 : Value)
    (hB : B ≤ W.heap.size) (hx0 : Box W mb (mcells m pV lV) 32) (hx1 : Box W xb #[.string nm, .int .i64 kd, .int .i64 lo, .int .i64 hgh, .string t] 57) (ho0 : OwnB W B bv (l)) (hl : l.length ≤ 10000)
    (hQ : ∀ (w' : World) (v n59 n60 n61 n62 n63 n64 n65 n66 n67 : Value), OwnB w' B v (l ++ numB lo ++ numB hgh) → Below B W w' → Box w' mb (mcells m pV lV) 32 → Box w' xb #[.string nm, .int .i64 kd, .int .i64 lo, .int .i64 hgh, .string t] 57 → Q .normal ⟨(u0 :: .pointer (some ⟨mb, 0, none⟩) :: u2 :: v :: u4 :: .pointer (some ⟨xb, 0, none⟩) :: u6 :: u7 :: u8 :: u9 :: u10 :: u11 :: u12 :: u13 :: u14 :: u15 :: u16 :: u17 :: u18 :: u19 :: u20 :: u21 :: u22 :: u23 :: u24 :: u25 :: u26 :: u27 :: u28 :: u29 :: u30 :: u31 :: u32 :: u33 :: u34 :: u35 :: u36 :: u37 :: u38 :: u39 :: u40 :: u41 :: u42 :: u43 :: u44 :: u45 :: u46 :: u47 :: u48 :: u49 :: u50 :: u51 :: u52 :: u53 :: u54 :: u55 :: u56 :: u57 :: u58 :: n59 :: n60 :: n61 :: n62 :: n63 :: n64 :: n65 :: n66 :: n67 :: u68 :: u69 :: u70 :: u71 :: u72 :: u73 :: u74 :: u75 :: u76 :: u77 :: u78 :: u79 :: u80 :: u81 :: u82 :: u83 :: u84 :: u85 :: u86 :: u87 :: u88 :: u89 :: u90 :: u91 :: u92 :: u93 :: u94 :: u95 :: u96 :: u97 :: u98 :: u99 :: u100 :: u101 :: u102 :: u103 :: u104 :: u105 :: u106 :: u107 :: u108 :: u109 :: u110 :: u111 :: u112 :: u113 :: u114 :: u115 :: u116 :: []).toArray, []⟩ w') :
    Code.wp Tryd.prog by11R Q ⟨(u0 :: .pointer (some ⟨mb, 0, none⟩) :: u2 :: bv :: u4 :: .pointer (some ⟨xb, 0, none⟩) :: u6 :: u7 :: u8 :: u9 :: u10 :: u11 :: u12 :: u13 :: u14 :: u15 :: u16 :: u17 :: u18 :: u19 :: u20 :: u21 :: u22 :: u23 :: u24 :: u25 :: u26 :: u27 :: u28 :: u29 :: u30 :: u31 :: u32 :: u33 :: u34 :: u35 :: u36 :: u37 :: u38 :: u39 :: u40 :: u41 :: u42 :: u43 :: u44 :: u45 :: u46 :: u47 :: u48 :: u49 :: u50 :: u51 :: u52 :: u53 :: u54 :: u55 :: u56 :: u57 :: u58 :: u59 :: u60 :: u61 :: u62 :: u63 :: u64 :: u65 :: u66 :: u67 :: u68 :: u69 :: u70 :: u71 :: u72 :: u73 :: u74 :: u75 :: u76 :: u77 :: u78 :: u79 :: u80 :: u81 :: u82 :: u83 :: u84 :: u85 :: u86 :: u87 :: u88 :: u89 :: u90 :: u91 :: u92 :: u93 :: u94 :: u95 :: u96 :: u97 :: u98 :: u99 :: u100 :: u101 :: u102 :: u103 :: u104 :: u105 :: u106 :: u107 :: u108 :: u109 :: u110 :: u111 :: u112 :: u113 :: u114 :: u115 :: u116 :: []).toArray, []⟩ W := by
  have HQ := Lib.hid hQ
  have HX0 := Lib.hid hx0
  have HX1 := Lib.hid hx1
  have HO0 := Lib.hid ho0
  clear hQ hx0 hx1 ho0
  obtain ⟨dst, hdd⟩ : ∃ d : Nat → Nat, d = fun i => [59, 60, 61, 62, 63, 64, 65, 66, 67, 3].getD i 3 := ⟨_, rfl⟩
  obtain ⟨mk, hmk⟩ : ∃ d : Nat → Nat, d = fun j => [3, 4, 7, 8, 9].getD j 999 := ⟨_, rfl⟩
  obtain ⟨pv, hpv⟩ : ∃ e : Nat → Option Value, e = fun i => ([some (bv), some (.pointer (some ⟨xb, 2, none⟩)), some (.int .i64 lo), none, none, some (.pointer (some ⟨xb, 3, none⟩)), none, none, none, none] : List (Option Value)).getD i none := ⟨_, rfl⟩
  obtain ⟨base, hbase⟩ : ∃ b : Act, b = ⟨(u0 :: .pointer (some ⟨mb, 0, none⟩) :: u2 :: bv :: u4 :: .pointer (some ⟨xb, 0, none⟩) :: u6 :: u7 :: u8 :: u9 :: u10 :: u11 :: u12 :: u13 :: u14 :: u15 :: u16 :: u17 :: u18 :: u19 :: u20 :: u21 :: u22 :: u23 :: u24 :: u25 :: u26 :: u27 :: u28 :: u29 :: u30 :: u31 :: u32 :: u33 :: u34 :: u35 :: u36 :: u37 :: u38 :: u39 :: u40 :: u41 :: u42 :: u43 :: u44 :: u45 :: u46 :: u47 :: u48 :: u49 :: u50 :: u51 :: u52 :: u53 :: u54 :: u55 :: u56 :: u57 :: u58 :: u59 :: u60 :: u61 :: u62 :: u63 :: u64 :: u65 :: u66 :: u67 :: u68 :: u69 :: u70 :: u71 :: u72 :: u73 :: u74 :: u75 :: u76 :: u77 :: u78 :: u79 :: u80 :: u81 :: u82 :: u83 :: u84 :: u85 :: u86 :: u87 :: u88 :: u89 :: u90 :: u91 :: u92 :: u93 :: u94 :: u95 :: u96 :: u97 :: u98 :: u99 :: u100 :: u101 :: u102 :: u103 :: u104 :: u105 :: u106 :: u107 :: u108 :: u109 :: u110 :: u111 :: u112 :: u113 :: u114 :: u115 :: u116 :: []).toArray, []⟩ := ⟨_, rfl⟩
  rw [← hbase]
  unfold by11R
  conv => arg 2; whnf
  have nd : ∀ j, (j ≠ 59 ∧ j ≠ 60 ∧ j ≠ 61 ∧ j ≠ 62 ∧ j ≠ 63 ∧ j ≠ 64 ∧ j ≠ 65 ∧ j ≠ 66 ∧ j ≠ 67 ∧ j ≠ 3) → ∀ i, i < 10 → dst i ≠ j := by
    rw [hdd]
    intro j hj i hi
    rcases (by omega : i = 0 ∨ i = 1 ∨ i = 2 ∨ i = 3 ∨ i = 4 ∨ i = 5 ∨ i = 6 ∨ i = 7 ∨ i = 8 ∨ i = 9) with rfl | rfl | rfl | rfl | rfl | rfl | rfl | rfl | rfl | rfl <;> simp <;> omega
  refine Rg.region_chain 10 dst pv mk 5 6 2 (by11C B mb xb m pV lV bv l nm t kd lo hgh W) (by kernel_rfl) (by kernel_rfl) rfl ?_ ?_ ?_ ?_ (by decide) ?_ ?_ (by subst hpv; rfl) ?_ ?_ ?_ ?_ ?_ ?_ ?_ ?_
  · subst hdd
    intro i j hi hj h
    rcases (by omega : i = 0 ∨ i = 1 ∨ i = 2 ∨ i = 3 ∨ i = 4 ∨ i = 5 ∨ i = 6 ∨ i = 7 ∨ i = 8 ∨ i = 9) with rfl | rfl | rfl | rfl | rfl | rfl | rfl | rfl | rfl | rfl <;> rcases (by omega : j = 0 ∨ j = 1 ∨ j = 2 ∨ j = 3 ∨ j = 4 ∨ j = 5 ∨ j = 6 ∨ j = 7 ∨ j = 8 ∨ j = 9) with rfl | rfl | rfl | rfl | rfl | rfl | rfl | rfl | rfl | rfl <;> first | rfl | (exfalso; revert h; decide)
  · subst hdd hbase
    intro i hi
    rcases (by omega : i = 0 ∨ i = 1 ∨ i = 2 ∨ i = 3 ∨ i = 4 ∨ i = 5 ∨ i = 6 ∨ i = 7 ∨ i = 8 ∨ i = 9) with rfl | rfl | rfl | rfl | rfl | rfl | rfl | rfl | rfl | rfl <;> (show _ < 117; decide)
  · subst hmk
    intro i j hi hj h
    rcases (by omega : i = 0 ∨ i = 1 ∨ i = 2 ∨ i = 3 ∨ i = 4) with rfl | rfl | rfl | rfl | rfl <;> rcases (by omega : j = 0 ∨ j = 1 ∨ j = 2 ∨ j = 3 ∨ j = 4) with rfl | rfl | rfl | rfl | rfl <;> first | rfl | (exfalso; revert h; decide)
  · subst hmk
    intro j hj
    rcases (by omega : j = 0 ∨ j = 1 ∨ j = 2 ∨ j = 3 ∨ j = 4) with rfl | rfl | rfl | rfl | rfl <;> decide
  · subst hmk
    intro j hj
    rcases (by omega : j = 0 ∨ j = 1 ∨ j = 2 ∨ j = 3 ∨ j = 4) with rfl | rfl | rfl | rfl | rfl <;> decide
  · subst hmk hpv
    intro j hj
    rcases (by omega : j = 0 ∨ j = 1 ∨ j = 2 ∨ j = 3 ∨ j = 4) with rfl | rfl | rfl | rfl | rfl <;> rfl
  · subst hmk
    intro j o hj ho
    rcases (by omega : j = 0 ∨ j = 1 ∨ j = 2 ∨ j = 3) with rfl | rfl | rfl | rfl
    · obtain rfl := Option.some.inj ho
      exact ⟨⟨3, .data⟩, by simp, rfl, rfl⟩
    · obtain rfl := Option.some.inj ho
      exact ⟨⟨4, .chain⟩, by simp, rfl, rfl⟩
    · obtain rfl := Option.some.inj ho
      exact ⟨⟨7, .data⟩, by simp, rfl, rfl⟩
    · obtain rfl := Option.some.inj ho
      exact ⟨⟨8, .data⟩, by simp, rfl, rfl⟩
  · subst hmk
    intro o _ ho
    obtain rfl := Option.some.inj ho
    exact ⟨⟨6, .data⟩, by simp, rfl, rfl⟩
  · intro v
    exact ⟨(Below.refl _ _).drew, HX0.out, HX1.out, (fun h => by cases h), HO0.out⟩
  · subst hmk
    intro k b v v' z h1 h2 hc
    refine ⟨hc.bel, hc.bx0, hc.bx1, fun e => by rw [h2 e]; exact hc.lit e, ?_⟩
    have hm := hc.st
    rcases k with _ | _ | _ | _ | _ | k
    · simp only [by11S] at hm ⊢
      exact hm
    · have e3 : v' 3 = v 3 := h1 0 (by omega)
      simp only [by11S, e3] at hm ⊢
      exact hm
    · have e4 : v' 4 = v 4 := h1 1 (by omega)
      simp only [by11S, e4] at hm ⊢
      exact hm
    · have e4 : v' 4 = v 4 := h1 1 (by omega)
      have e7 : v' 7 = v 7 := h1 2 (by omega)
      simp only [by11S, e4, e7] at hm ⊢
      exact hm
    · have e8 : v' 8 = v 8 := h1 3 (by omega)
      simp only [by11S, e8] at hm ⊢
      exact hm
    · have e9 : v' 9 = v 9 := h1 4 (by omega)
      simp only [by11S, e9] at hm ⊢
      exact hm
  · subst hdd hmk hpv hbase
    intro i o hi ho hnm hnq
    rcases (by omega : i = 0 ∨ i = 1 ∨ i = 2 ∨ i = 3 ∨ i = 4 ∨ i = 5 ∨ i = 6 ∨ i = 7 ∨ i = 8 ∨ i = 9) with rfl | rfl | rfl | rfl | rfl | rfl | rfl | rfl | rfl | rfl
    · obtain rfl := Option.some.inj ho
      refine ⟨_, rfl, fun k b val z a hc seen K hK => ?_⟩
      have e3 : a.eval (.tmp 3) = bv := seen.kq 9 _ _ (by decide) rfl ⟨⟨0, .phase⟩, by simp, rfl, rfl⟩ rfl
      exact Rg.op_value_w rfl (Rg.wanted_none rfl) (by simp [execOp, e3]) hK
    · obtain rfl := Option.some.inj ho
      refine ⟨_, rfl, fun k b val z a hc seen K hK => ?_⟩
      have e5 : a.eval (.tmp 5) = .pointer (some ⟨xb, 0, none⟩) := seen.kp 5 _ (nd 5 (by decide)) rfl
      exact Rg.op_value_w rfl (Rg.wanted_none rfl) (Rg.ex_field a.eval _ 57 (.tmp 5) 2 rfl (by rw [e5]; simp [go_sem])) hK
    · obtain rfl := Option.some.inj ho
      refine ⟨_, rfl, fun k b val z a hc seen K hK => ?_⟩
      have e60 : a.eval (.tmp 60) = .pointer (some ⟨xb, 2, none⟩) := seen.pl ⟨1, .data⟩ (by simp) rfl _ rfl
      have y1_0 := hc.bx1.cell 0
      have y1_1 := hc.bx1.cell 1
      have y1_2 := hc.bx1.cell 2
      have y1_3 := hc.bx1.cell 3
      have y1_4 := hc.bx1.cell 4
      simp only [List.getElem?_toArray, List.getElem?_cons_zero, List.getElem?_cons_succ] at y1_0 y1_1 y1_2 y1_3 y1_4
      exact Rg.op_value_w rfl (Rg.wanted_none rfl) (Rg.ex_load a.eval _ 3 (.tmp 60) rfl (by rw [e60]; simp [go_sem, y1_2])) hK
    · exact absurd rfl (hnm 0 (by decide))
    · exact absurd rfl (hnm 1 (by decide))
    · obtain rfl := Option.some.inj ho
      refine ⟨_, rfl, fun k b val z a hc seen K hK => ?_⟩
      have e5 : a.eval (.tmp 5) = .pointer (some ⟨xb, 0, none⟩) := seen.kp 5 _ (nd 5 (by decide)) rfl
      exact Rg.op_value_w rfl (Rg.wanted_none rfl) (Rg.ex_field a.eval _ 57 (.tmp 5) 3 rfl (by rw [e5]; simp [go_sem])) hK
    · exact absurd rfl hnq
    · exact absurd rfl (hnm 2 (by decide))
    · exact absurd rfl (hnm 3 (by decide))
    · exact absurd rfl (hnm 4 (by decide))
  · subst hdd hmk hpv hbase
    intro j o b val z a hj ho hc hcb seen K hK
    have hm := hc.st
    rcases (by omega : j = 0 ∨ j = 1 ∨ j = 2 ∨ j = 3 ∨ j = 4) with rfl | rfl | rfl | rfl | rfl
    · obtain rfl := Option.some.inj ho
      have e61 : a.eval (.tmp 61) = .int .i64 lo := seen.pl ⟨2, .data⟩ (by simp) rfl _ rfl
      have C1 := rnum_any lo z
      refine Rg.op_call_w rfl (Rg.wanted_none rfl) (ex_call1 _ _ (.tmp 61) 3 49 rfl e61 rfl _ (call_fn Tryd.func49 rfl rfl _ _)) C1 ?_
      rintro e z1 ⟨⟨v1, rfl, ho1⟩, hz⟩
      have ho2 := Rw.own_less (B' := B) (Nat.le_trans hB hc.bel.size) ho1
      refine ⟨v1, rfl, hK _ _ ⟨hc.bel.trans (hz.mono (Nat.le_trans hB hc.bel.size)), hc.bx0.on hz, hc.bx1.on hz, (fun e => by rw [Rg.upd_other _ _ (by decide)]; exact hc.lit e), ⟨(show OwnB _ B bv (l) from by exact Rw.own_on hm hz), (show RowB _ (Rg.upd val 3 _ 3) (numB lo) from by rw [Rg.upd_same]; exact Row.of_own ho2)⟩⟩⟩
    · obtain rfl := Option.some.inj ho
      have e59 : a.eval (.tmp 59) = bv := seen.pl ⟨0, .data⟩ (by simp) rfl _ rfl
      have e62 : a.eval (.tmp 62) = val 3 := seen.at_ ⟨3, .data⟩ (by simp) rfl
      obtain ⟨v1, z1, r, ho1, hg, hb1⟩ := app_nextB (l := l) (m := numB lo) hB hc.bel hm.1 hm.2 (by rw [numB_len]; omega)
      have ho0 := hm.1
      refine Rg.op_value_w rfl (Rg.wanted_none rfl) (Rg.ex_append a.eval _ (.tmp 59) (.tmp 62) 22 rfl e59 e62 r) (hK _ _ ⟨hb1, box_grown hc.bx0 hg (own_neB ho0 hc.bx0 (by decide)), box_grown hc.bx1 hg (own_neB ho0 hc.bx1 (by decide)), (fun e => by rw [Rg.upd_other _ _ (by decide)]; exact hc.lit e), (show OwnB _ B (Rg.upd val 4 _ 4) (l ++ numB lo) from by rw [Rg.upd_same]; exact ho1)⟩)
    · obtain rfl := Option.some.inj ho
      have e65 : a.eval (.tmp 65) = val 6 := seen.at_ ⟨6, .data⟩ (by simp) rfl
      have e65 : a.eval (.tmp 65) = .int .i64 hgh := e65.trans (hc.lit (hcb (by omega)))
      have C1 := rnum_any hgh z
      refine Rg.op_call_w rfl (Rg.wanted_none rfl) (ex_call1 _ _ (.tmp 65) 3 49 rfl e65 rfl _ (call_fn Tryd.func49 rfl rfl _ _)) C1 ?_
      rintro e z1 ⟨⟨v1, rfl, ho1⟩, hz⟩
      have ho2 := Rw.own_less (B' := B) (Nat.le_trans hB hc.bel.size) ho1
      refine ⟨v1, rfl, hK _ _ ⟨hc.bel.trans (hz.mono (Nat.le_trans hB hc.bel.size)), hc.bx0.on hz, hc.bx1.on hz, (fun e => by rw [Rg.upd_other _ _ (by decide)]; exact hc.lit e), ⟨(show OwnB _ B (Rg.upd val 7 _ 4) (l ++ numB lo) from by rw [Rg.upd_other _ _ (by decide)]; exact Rw.own_on hm hz), (show RowB _ (Rg.upd val 7 _ 7) (numB hgh) from by rw [Rg.upd_same]; exact Row.of_own ho2)⟩⟩⟩
    · obtain rfl := Option.some.inj ho
      have e63 : a.eval (.tmp 63) = val 4 := seen.at_ ⟨4, .data⟩ (by simp) rfl
      have e66 : a.eval (.tmp 66) = val 7 := seen.at_ ⟨7, .data⟩ (by simp) rfl
      obtain ⟨v1, z1, r, ho1, hg, hb1⟩ := app_nextB (l := l ++ numB lo) (m := numB hgh) hB hc.bel hm.1 hm.2 (by rw [List.length_append, numB_len, numB_len]; omega)
      have ho0 := hm.1
      refine Rg.op_value_w rfl (Rg.wanted_none rfl) (Rg.ex_append a.eval _ (.tmp 63) (.tmp 66) 22 rfl e63 e66 r) (hK _ _ ⟨hb1, box_grown hc.bx0 hg (own_neB ho0 hc.bx0 (by decide)), box_grown hc.bx1 hg (own_neB ho0 hc.bx1 (by decide)), (fun e => by rw [Rg.upd_other _ _ (by decide)]; exact hc.lit e), (show OwnB _ B (Rg.upd val 8 _ 8) (l ++ numB lo ++ numB hgh) from by rw [Rg.upd_same]; exact ho1)⟩)
    · obtain rfl := Option.some.inj ho
      have e67 : a.eval (.tmp 67) = val 8 := seen.at_ ⟨8, .data⟩ (by simp) rfl
      refine Rg.op_value_w rfl (Rg.wanted_none rfl) (Rg.ex_assign a.eval _ (.tmp 67) rfl _) (hK _ _ ⟨hc.bel, hc.bx0, hc.bx1, (fun e => by rw [Rg.upd_other _ _ (by decide)]; exact hc.lit e), ?_⟩)
      show OwnB _ B (Rg.upd val 9 _ 9) (l ++ numB lo ++ numB hgh)
      rw [Rg.upd_same, e67]
      exact hm
  · subst hdd hmk hpv hbase
    intro o k val z a hk ho hc seen K hK
    obtain rfl := Option.some.inj ho
    have hm := hc.st
    have e64 : a.eval (.tmp 64) = .pointer (some ⟨xb, 3, none⟩) := seen.pl ⟨5, .data⟩ (by simp) rfl _ rfl
    have y1_0 := hc.bx1.cell 0
    have y1_1 := hc.bx1.cell 1
    have y1_2 := hc.bx1.cell 2
    have y1_3 := hc.bx1.cell 3
    have y1_4 := hc.bx1.cell 4
    simp only [List.getElem?_toArray, List.getElem?_cons_zero, List.getElem?_cons_succ] at y1_0 y1_1 y1_2 y1_3 y1_4
    refine Rg.op_value_w rfl (Rg.wanted_none rfl) (Rg.ex_load a.eval _ 3 (.tmp 64) rfl (by rw [e64]; simp [go_sem, y1_3])) (hK _ _ ⟨hc.bel, hc.bx0, hc.bx1, (fun _ => Rg.upd_same _ _ _), ?_⟩)
    rcases (by omega : k = 0 ∨ k = 1 ∨ k = 2) with rfl | rfl | rfl
    · simp only [by11S] at hm ⊢
      exact hm
    · simp only [by11S, Rg.upd, show (3 : Nat) ≠ 6 by decide, if_false] at hm ⊢
      exact ⟨hm.1, hm.2⟩
    · simp only [by11S, Rg.upd, show (4 : Nat) ≠ 6 by decide, if_false] at hm ⊢
      exact hm
  · subst hdd hbase
    intro a b val z hc hd hsz hk hv
    have hm := hc.st
    have hk2 : ∀ j, (j < 59 ∨ 59 + 9 ≤ j) → a.tmps[j]? = (u0 :: .pointer (some ⟨mb, 0, none⟩) :: u2 :: val 9 :: u4 :: .pointer (some ⟨xb, 0, none⟩) :: u6 :: u7 :: u8 :: u9 :: u10 :: u11 :: u12 :: u13 :: u14 :: u15 :: u16 :: u17 :: u18 :: u19 :: u20 :: u21 :: u22 :: u23 :: u24 :: u25 :: u26 :: u27 :: u28 :: u29 :: u30 :: u31 :: u32 :: u33 :: u34 :: u35 :: u36 :: u37 :: u38 :: u39 :: u40 :: u41 :: u42 :: u43 :: u44 :: u45 :: u46 :: u47 :: u48 :: u49 :: u50 :: u51 :: u52 :: u53 :: u54 :: u55 :: u56 :: u57 :: u58 :: u59 :: u60 :: u61 :: u62 :: u63 :: u64 :: u65 :: u66 :: u67 :: u68 :: u69 :: u70 :: u71 :: u72 :: u73 :: u74 :: u75 :: u76 :: u77 :: u78 :: u79 :: u80 :: u81 :: u82 :: u83 :: u84 :: u85 :: u86 :: u87 :: u88 :: u89 :: u90 :: u91 :: u92 :: u93 :: u94 :: u95 :: u96 :: u97 :: u98 :: u99 :: u100 :: u101 :: u102 :: u103 :: u104 :: u105 :: u106 :: u107 :: u108 :: u109 :: u110 :: u111 :: u112 :: u113 :: u114 :: u115 :: u116 :: [] : List Value)[j]? := fun j hj => by
      by_cases e : j = 3
      · subst e
        exact hv 9 (by decide)
      · have h1 := (hk j (nd j (by omega))).trans List.getElem?_toArray
        rw [h1]
        rw [show (u0 :: .pointer (some ⟨mb, 0, none⟩) :: u2 :: val 9 :: u4 :: .pointer (some ⟨xb, 0, none⟩) :: u6 :: u7 :: u8 :: u9 :: u10 :: u11 :: u12 :: u13 :: u14 :: u15 :: u16 :: u17 :: u18 :: u19 :: u20 :: u21 :: u22 :: u23 :: u24 :: u25 :: u26 :: u27 :: u28 :: u29 :: u30 :: u31 :: u32 :: u33 :: u34 :: u35 :: u36 :: u37 :: u38 :: u39 :: u40 :: u41 :: u42 :: u43 :: u44 :: u45 :: u46 :: u47 :: u48 :: u49 :: u50 :: u51 :: u52 :: u53 :: u54 :: u55 :: u56 :: u57 :: u58 :: u59 :: u60 :: u61 :: u62 :: u63 :: u64 :: u65 :: u66 :: u67 :: u68 :: u69 :: u70 :: u71 :: u72 :: u73 :: u74 :: u75 :: u76 :: u77 :: u78 :: u79 :: u80 :: u81 :: u82 :: u83 :: u84 :: u85 :: u86 :: u87 :: u88 :: u89 :: u90 :: u91 :: u92 :: u93 :: u94 :: u95 :: u96 :: u97 :: u98 :: u99 :: u100 :: u101 :: u102 :: u103 :: u104 :: u105 :: u106 :: u107 :: u108 :: u109 :: u110 :: u111 :: u112 :: u113 :: u114 :: u115 :: u116 :: [] : List Value) = (u0 :: .pointer (some ⟨mb, 0, none⟩) :: u2 :: bv :: u4 :: .pointer (some ⟨xb, 0, none⟩) :: u6 :: u7 :: u8 :: u9 :: u10 :: u11 :: u12 :: u13 :: u14 :: u15 :: u16 :: u17 :: u18 :: u19 :: u20 :: u21 :: u22 :: u23 :: u24 :: u25 :: u26 :: u27 :: u28 :: u29 :: u30 :: u31 :: u32 :: u33 :: u34 :: u35 :: u36 :: u37 :: u38 :: u39 :: u40 :: u41 :: u42 :: u43 :: u44 :: u45 :: u46 :: u47 :: u48 :: u49 :: u50 :: u51 :: u52 :: u53 :: u54 :: u55 :: u56 :: u57 :: u58 :: u59 :: u60 :: u61 :: u62 :: u63 :: u64 :: u65 :: u66 :: u67 :: u68 :: u69 :: u70 :: u71 :: u72 :: u73 :: u74 :: u75 :: u76 :: u77 :: u78 :: u79 :: u80 :: u81 :: u82 :: u83 :: u84 :: u85 :: u86 :: u87 :: u88 :: u89 :: u90 :: u91 :: u92 :: u93 :: u94 :: u95 :: u96 :: u97 :: u98 :: u99 :: u100 :: u101 :: u102 :: u103 :: u104 :: u105 :: u106 :: u107 :: u108 :: u109 :: u110 :: u111 :: u112 :: u113 :: u114 :: u115 :: u116 :: []).set 3 (val 9) from rfl, List.getElem?_set_ne (fun e2 => e e2.symm)]
    obtain ⟨mid, hmid, rfl⟩ := Rg.frame_mid (bl := (u0 :: .pointer (some ⟨mb, 0, none⟩) :: u2 :: val 9 :: u4 :: .pointer (some ⟨xb, 0, none⟩) :: u6 :: u7 :: u8 :: u9 :: u10 :: u11 :: u12 :: u13 :: u14 :: u15 :: u16 :: u17 :: u18 :: u19 :: u20 :: u21 :: u22 :: u23 :: u24 :: u25 :: u26 :: u27 :: u28 :: u29 :: u30 :: u31 :: u32 :: u33 :: u34 :: u35 :: u36 :: u37 :: u38 :: u39 :: u40 :: u41 :: u42 :: u43 :: u44 :: u45 :: u46 :: u47 :: u48 :: u49 :: u50 :: u51 :: u52 :: u53 :: u54 :: u55 :: u56 :: u57 :: u58 :: u59 :: u60 :: u61 :: u62 :: u63 :: u64 :: u65 :: u66 :: u67 :: u68 :: u69 :: u70 :: u71 :: u72 :: u73 :: u74 :: u75 :: u76 :: u77 :: u78 :: u79 :: u80 :: u81 :: u82 :: u83 :: u84 :: u85 :: u86 :: u87 :: u88 :: u89 :: u90 :: u91 :: u92 :: u93 :: u94 :: u95 :: u96 :: u97 :: u98 :: u99 :: u100 :: u101 :: u102 :: u103 :: u104 :: u105 :: u106 :: u107 :: u108 :: u109 :: u110 :: u111 :: u112 :: u113 :: u114 :: u115 :: u116 :: [])) 59 9 hd hsz (by show 59 + 9 ≤ 117; decide) hk2
    match mid, hmid with
    | n59 :: n60 :: n61 :: n62 :: n63 :: n64 :: n65 :: n66 :: n67 :: [], _ => exact HQ.out z (val 9) n59 n60 n61 n62 n63 n64 n65 n66 n67 hm hc.bel hc.bx0 hc.bx1
end Go.Proofs.YtfcgfnmokbbcaaaDoor.Wr
