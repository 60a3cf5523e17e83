/-
  Region 11 of Bytes of the statements' own package: a constraint's two numbers. Condition: not many bytes ahead of it.
  The loop over constraints of Bytes of the statements' own package. Conditions: right constraints; few bytes.
-/
import Derived.Test.YtfcgfnmokbbcaaaDoorQ020
import Derived.Test.YtfcgfnmokbbcaaaDoorQ026
namespace Go.Proofs.YtfcgfnmokbbcaaaDoor.Wr
open Go.RowKit Go.Proofs.YtfcgfnmokbbcaaaDoor Go.Proofs.YtfcgfnmokbbcaaaDoor.Rw Go.Proofs.YtfcgfnmokbbcaaaDoor.Nm Go.Proofs.YtfcgfnmokbbcaaaDoor.At Go.Proofs.YtfcgfnmokbbcaaaDoor.Pr

def by11S (B _mb _xb : Nat) (_m : Mg) (_pV _lV bv : Value) (l : List UInt8) (_nm _t : ByteArray) (_kd lo hgh : Int) : Nat → (Nat → Value) → World → Prop
  | 0, _, w => OwnB w B bv (l)
  | 1, v, w => OwnB w B bv (l) ∧ RowB w (v 3) (numB lo)
  | 2, v, w => OwnB w B (v 4) (l ++ numB lo)
  | 3, v, w => OwnB w B (v 4) (l ++ numB lo) ∧ RowB w (v 7) (numB hgh)
  | 4, v, w => OwnB w B (v 8) (l ++ numB lo ++ numB hgh)
  | _ + 5, v, w => OwnB w B (v 9) (l ++ numB lo ++ numB hgh)
structure by11C (B mb xb : Nat) (m : Mg) (pV lV bv : Value) (l : List UInt8) (nm t : ByteArray) (kd lo hgh : Int) (W : World) (k : Nat) (b : Bool) (v : Nat → Value) (w : World) : Prop where
  bel : Below B W w
  bx0 : Box w mb (mcells m pV lV) 32
  bx1 : Box w xb #[.string nm, .int .i64 kd, .int .i64 lo, .int .i64 hgh, .string t] 57
  lit : b = true → v 6 = .int .i64 hgh
  st : by11S B mb xb m pV lV bv l nm t kd lo hgh k v w
noncomputable def by11R : Code := ((Tryd.f19.body.bind (findRegion 11)).getD .skip)
set_option maxRecDepth 100000 in
set_option maxHeartbeats 8000000 in
theorem by11 (B mb xb : Nat) (m : Mg) (pV lV bv : Value) (l : List UInt8) (nm t : ByteArray) (kd lo hgh : Int) (Q : Exit → Act → World → Prop) (W : World) (u0 u2 u4 u6 u7 u8 u9 u10 u11 u12 u13 u14 u15 u16 u17 u18 u19 u20 u21 u22 u23 u24 u25 u26 u27 u28 u29 u30 u31 u32 u33 u34 u35 u36 u37 u38 u39 u40 u41 u42 u43 u44 u45 u46 u47 u48 u49 u50 u51 u52 u53 u54 u55 u56 u57 u58 u59 u60 u61 u62 u63 u64 u65 u66 u67 u68 u69 u70 u71 u72 u73 u74 u75 u76 u77 u78 u79 u80 u81 u82 u83 u84 u85 u86 u87 u88 u89 u90 u91 u92 u93 u94 u95 u96 u97 u98 u99 u100 u101 u102 u103 u104 u105 u106 u107 u108 u109 u110 u111 u112 u113 u114 u115 u116 : Value)
    (hB : B ≤ W.heap.size) (hx0 : Box W mb (mcells m pV lV) 32) (hx1 : Box W xb #[.string nm, .int .i64 kd, .int .i64 lo, .int .i64 hgh, .string t] 57) (ho0 : OwnB W B bv (l)) (hl : l.length ≤ 10000)
    (hQ : ∀ (w' : World) (v n59 n60 n61 n62 n63 n64 n65 n66 n67 : Value), OwnB w' B v (l ++ numB lo ++ numB hgh) → Below B W w' → Box w' mb (mcells m pV lV) 32 → Box w' xb #[.string nm, .int .i64 kd, .int .i64 lo, .int .i64 hgh, .string t] 57 → Q .normal ⟨(u0 :: .pointer (some ⟨mb, 0, none⟩) :: u2 :: v :: u4 :: .pointer (some ⟨xb, 0, none⟩) :: u6 :: u7 :: u8 :: u9 :: u10 :: u11 :: u12 :: u13 :: u14 :: u15 :: u16 :: u17 :: u18 :: u19 :: u20 :: u21 :: u22 :: u23 :: u24 :: u25 :: u26 :: u27 :: u28 :: u29 :: u30 :: u31 :: u32 :: u33 :: u34 :: u35 :: u36 :: u37 :: u38 :: u39 :: u40 :: u41 :: u42 :: u43 :: u44 :: u45 :: u46 :: u47 :: u48 :: u49 :: u50 :: u51 :: u52 :: u53 :: u54 :: u55 :: u56 :: u57 :: u58 :: n59 :: n60 :: n61 :: n62 :: n63 :: n64 :: n65 :: n66 :: n67 :: u68 :: u69 :: u70 :: u71 :: u72 :: u73 :: u74 :: u75 :: u76 :: u77 :: u78 :: u79 :: u80 :: u81 :: u82 :: u83 :: u84 :: u85 :: u86 :: u87 :: u88 :: u89 :: u90 :: u91 :: u92 :: u93 :: u94 :: u95 :: u96 :: u97 :: u98 :: u99 :: u100 :: u101 :: u102 :: u103 :: u104 :: u105 :: u106 :: u107 :: u108 :: u109 :: u110 :: u111 :: u112 :: u113 :: u114 :: u115 :: u116 :: []).toArray, []⟩ w') :
    Code.wp Tryd.prog by11R Q ⟨(u0 :: .pointer (some ⟨mb, 0, none⟩) :: u2 :: bv :: u4 :: .pointer (some ⟨xb, 0, none⟩) :: u6 :: u7 :: u8 :: u9 :: u10 :: u11 :: u12 :: u13 :: u14 :: u15 :: u16 :: u17 :: u18 :: u19 :: u20 :: u21 :: u22 :: u23 :: u24 :: u25 :: u26 :: u27 :: u28 :: u29 :: u30 :: u31 :: u32 :: u33 :: u34 :: u35 :: u36 :: u37 :: u38 :: u39 :: u40 :: u41 :: u42 :: u43 :: u44 :: u45 :: u46 :: u47 :: u48 :: u49 :: u50 :: u51 :: u52 :: u53 :: u54 :: u55 :: u56 :: u57 :: u58 :: u59 :: u60 :: u61 :: u62 :: u63 :: u64 :: u65 :: u66 :: u67 :: u68 :: u69 :: u70 :: u71 :: u72 :: u73 :: u74 :: u75 :: u76 :: u77 :: u78 :: u79 :: u80 :: u81 :: u82 :: u83 :: u84 :: u85 :: u86 :: u87 :: u88 :: u89 :: u90 :: u91 :: u92 :: u93 :: u94 :: u95 :: u96 :: u97 :: u98 :: u99 :: u100 :: u101 :: u102 :: u103 :: u104 :: u105 :: u106 :: u107 :: u108 :: u109 :: u110 :: u111 :: u112 :: u113 :: u114 :: u115 :: u116 :: []).toArray, []⟩ W := by
  have HQ := Lib.hid hQ
  have HX0 := Lib.hid hx0
  have HX1 := Lib.hid hx1
  have HO0 := Lib.hid ho0
  clear hQ hx0 hx1 ho0
  obtain ⟨dst, hdd⟩ : ∃ d : Nat → Nat, d = fun i => [59, 60, 61, 62, 63, 64, 65, 66, 67, 3].getD i 3 := ⟨_, rfl⟩
  obtain ⟨mk, hmk⟩ : ∃ d : Nat → Nat, d = fun j => [3, 4, 7, 8, 9].getD j 999 := ⟨_, rfl⟩
  obtain ⟨pv, hpv⟩ : ∃ e : Nat → Option Value, e = fun i => ([some (bv), some (.pointer (some ⟨xb, 2, none⟩)), some (.int .i64 lo), none, none, some (.pointer (some ⟨xb, 3, none⟩)), none, none, none, none] : List (Option Value)).getD i none := ⟨_, rfl⟩
  obtain ⟨base, hbase⟩ : ∃ b : Act, b = ⟨(u0 :: .pointer (some ⟨mb, 0, none⟩) :: u2 :: bv :: u4 :: .pointer (some ⟨xb, 0, none⟩) :: u6 :: u7 :: u8 :: u9 :: u10 :: u11 :: u12 :: u13 :: u14 :: u15 :: u16 :: u17 :: u18 :: u19 :: u20 :: u21 :: u22 :: u23 :: u24 :: u25 :: u26 :: u27 :: u28 :: u29 :: u30 :: u31 :: u32 :: u33 :: u34 :: u35 :: u36 :: u37 :: u38 :: u39 :: u40 :: u41 :: u42 :: u43 :: u44 :: u45 :: u46 :: u47 :: u48 :: u49 :: u50 :: u51 :: u52 :: u53 :: u54 :: u55 :: u56 :: u57 :: u58 :: u59 :: u60 :: u61 :: u62 :: u63 :: u64 :: u65 :: u66 :: u67 :: u68 :: u69 :: u70 :: u71 :: u72 :: u73 :: u74 :: u75 :: u76 :: u77 :: u78 :: u79 :: u80 :: u81 :: u82 :: u83 :: u84 :: u85 :: u86 :: u87 :: u88 :: u89 :: u90 :: u91 :: u92 :: u93 :: u94 :: u95 :: u96 :: u97 :: u98 :: u99 :: u100 :: u101 :: u102 :: u103 :: u104 :: u105 :: u106 :: u107 :: u108 :: u109 :: u110 :: u111 :: u112 :: u113 :: u114 :: u115 :: u116 :: []).toArray, []⟩ := ⟨_, rfl⟩
  rw [← hbase]
  unfold by11R
  conv => arg 2; whnf
  have nd : ∀ j, (j ≠ 59 ∧ j ≠ 60 ∧ j ≠ 61 ∧ j ≠ 62 ∧ j ≠ 63 ∧ j ≠ 64 ∧ j ≠ 65 ∧ j ≠ 66 ∧ j ≠ 67 ∧ j ≠ 3) → ∀ i, i < 10 → dst i ≠ j := by
    rw [hdd]
    intro j hj i hi
    rcases (by omega : i = 0 ∨ i = 1 ∨ i = 2 ∨ i = 3 ∨ i = 4 ∨ i = 5 ∨ i = 6 ∨ i = 7 ∨ i = 8 ∨ i = 9) with rfl | rfl | rfl | rfl | rfl | rfl | rfl | rfl | rfl | rfl <;> simp <;> omega
  refine Rg.region_chain 10 dst pv mk 5 6 2 (by11C B mb xb m pV lV bv l nm t kd lo hgh W) (by kernel_rfl) (by kernel_rfl) rfl ?_ ?_ ?_ ?_ (by decide) ?_ ?_ (by subst hpv; rfl) ?_ ?_ ?_ ?_ ?_ ?_ ?_ ?_
  · subst hdd
    intro i j hi hj h
    rcases (by omega : i = 0 ∨ i = 1 ∨ i = 2 ∨ i = 3 ∨ i = 4 ∨ i = 5 ∨ i = 6 ∨ i = 7 ∨ i = 8 ∨ i = 9) with rfl | rfl | rfl | rfl | rfl | rfl | rfl | rfl | rfl | rfl <;> rcases (by omega : j = 0 ∨ j = 1 ∨ j = 2 ∨ j = 3 ∨ j = 4 ∨ j = 5 ∨ j = 6 ∨ j = 7 ∨ j = 8 ∨ j = 9) with rfl | rfl | rfl | rfl | rfl | rfl | rfl | rfl | rfl | rfl <;> first | rfl | (exfalso; revert h; decide)
  · subst hdd hbase
    intro i hi
    rcases (by omega : i = 0 ∨ i = 1 ∨ i = 2 ∨ i = 3 ∨ i = 4 ∨ i = 5 ∨ i = 6 ∨ i = 7 ∨ i = 8 ∨ i = 9) with rfl | rfl | rfl | rfl | rfl | rfl | rfl | rfl | rfl | rfl <;> (show _ < 117; decide)
  · subst hmk
    intro i j hi hj h
    rcases (by omega : i = 0 ∨ i = 1 ∨ i = 2 ∨ i = 3 ∨ i = 4) with rfl | rfl | rfl | rfl | rfl <;> rcases (by omega : j = 0 ∨ j = 1 ∨ j = 2 ∨ j = 3 ∨ j = 4) with rfl | rfl | rfl | rfl | rfl <;> first | rfl | (exfalso; revert h; decide)
  · subst hmk
    intro j hj
    rcases (by omega : j = 0 ∨ j = 1 ∨ j = 2 ∨ j = 3 ∨ j = 4) with rfl | rfl | rfl | rfl | rfl <;> decide
  · subst hmk
    intro j hj
    rcases (by omega : j = 0 ∨ j = 1 ∨ j = 2 ∨ j = 3 ∨ j = 4) with rfl | rfl | rfl | rfl | rfl <;> decide
  · subst hmk hpv
    intro j hj
    rcases (by omega : j = 0 ∨ j = 1 ∨ j = 2 ∨ j = 3 ∨ j = 4) with rfl | rfl | rfl | rfl | rfl <;> rfl
  · subst hmk
    intro j o hj ho
    rcases (by omega : j = 0 ∨ j = 1 ∨ j = 2 ∨ j = 3) with rfl | rfl | rfl | rfl
    · obtain rfl := Option.some.inj ho
      exact ⟨⟨3, .data⟩, by simp, rfl, rfl⟩
    · obtain rfl := Option.some.inj ho
      exact ⟨⟨4, .chain⟩, by simp, rfl, rfl⟩
    · obtain rfl := Option.some.inj ho
      exact ⟨⟨7, .data⟩, by simp, rfl, rfl⟩
    · obtain rfl := Option.some.inj ho
      exact ⟨⟨8, .data⟩, by simp, rfl, rfl⟩
  · subst hmk
    intro o _ ho
    obtain rfl := Option.some.inj ho
    exact ⟨⟨6, .data⟩, by simp, rfl, rfl⟩
  · intro v
    exact ⟨(Below.refl _ _).drew, HX0.out, HX1.out, (fun h => by cases h), HO0.out⟩
  · subst hmk
    intro k b v v' z h1 h2 hc
    refine ⟨hc.bel, hc.bx0, hc.bx1, fun e => by rw [h2 e]; exact hc.lit e, ?_⟩
    have hm := hc.st
    rcases k with _ | _ | _ | _ | _ | k
    · simp only [by11S] at hm ⊢
      exact hm
    · have e3 : v' 3 = v 3 := h1 0 (by omega)
      simp only [by11S, e3] at hm ⊢
      exact hm
    · have e4 : v' 4 = v 4 := h1 1 (by omega)
      simp only [by11S, e4] at hm ⊢
      exact hm
    · have e4 : v' 4 = v 4 := h1 1 (by omega)
      have e7 : v' 7 = v 7 := h1 2 (by omega)
      simp only [by11S, e4, e7] at hm ⊢
      exact hm
    · have e8 : v' 8 = v 8 := h1 3 (by omega)
      simp only [by11S, e8] at hm ⊢
      exact hm
    · have e9 : v' 9 = v 9 := h1 4 (by omega)
      simp only [by11S, e9] at hm ⊢
      exact hm
  · subst hdd hmk hpv hbase
    intro i o hi ho hnm hnq
    rcases (by omega : i = 0 ∨ i = 1 ∨ i = 2 ∨ i = 3 ∨ i = 4 ∨ i = 5 ∨ i = 6 ∨ i = 7 ∨ i = 8 ∨ i = 9) with rfl | rfl | rfl | rfl | rfl | rfl | rfl | rfl | rfl | rfl
    · obtain rfl := Option.some.inj ho
      refine ⟨_, rfl, fun k b val z a hc seen K hK => ?_⟩
      have e3 : a.eval (.tmp 3) = bv := seen.kq 9 _ _ (by decide) rfl ⟨⟨0, .phase⟩, by simp, rfl, rfl⟩ rfl
      exact Rg.op_value_w rfl (Rg.wanted_none rfl) (by simp [execOp, e3]) hK
    · obtain rfl := Option.some.inj ho
      refine ⟨_, rfl, fun k b val z a hc seen K hK => ?_⟩
      have e5 : a.eval (.tmp 5) = .pointer (some ⟨xb, 0, none⟩) := seen.kp 5 _ (nd 5 (by decide)) rfl
      exact Rg.op_value_w rfl (Rg.wanted_none rfl) (Rg.ex_field a.eval _ 57 (.tmp 5) 2 rfl (by rw [e5]; simp [go_sem])) hK
    · obtain rfl := Option.some.inj ho
      refine ⟨_, rfl, fun k b val z a hc seen K hK => ?_⟩
      have e60 : a.eval (.tmp 60) = .pointer (some ⟨xb, 2, none⟩) := seen.pl ⟨1, .data⟩ (by simp) rfl _ rfl
      have y1_0 := hc.bx1.cell 0
      have y1_1 := hc.bx1.cell 1
      have y1_2 := hc.bx1.cell 2
      have y1_3 := hc.bx1.cell 3
      have y1_4 := hc.bx1.cell 4
      simp only [List.getElem?_toArray, List.getElem?_cons_zero, List.getElem?_cons_succ] at y1_0 y1_1 y1_2 y1_3 y1_4
      exact Rg.op_value_w rfl (Rg.wanted_none rfl) (Rg.ex_load a.eval _ 3 (.tmp 60) rfl (by rw [e60]; simp [go_sem, y1_2])) hK
    · exact absurd rfl (hnm 0 (by decide))
    · exact absurd rfl (hnm 1 (by decide))
    · obtain rfl := Option.some.inj ho
      refine ⟨_, rfl, fun k b val z a hc seen K hK => ?_⟩
      have e5 : a.eval (.tmp 5) = .pointer (some ⟨xb, 0, none⟩) := seen.kp 5 _ (nd 5 (by decide)) rfl
      exact Rg.op_value_w rfl (Rg.wanted_none rfl) (Rg.ex_field a.eval _ 57 (.tmp 5) 3 rfl (by rw [e5]; simp [go_sem])) hK
    · exact absurd rfl hnq
    · exact absurd rfl (hnm 2 (by decide))
    · exact absurd rfl (hnm 3 (by decide))
    · exact absurd rfl (hnm 4 (by decide))
  · subst hdd hmk hpv hbase
    intro j o b val z a hj ho hc hcb seen K hK
    have hm := hc.st
    rcases (by omega : j = 0 ∨ j = 1 ∨ j = 2 ∨ j = 3 ∨ j = 4) with rfl | rfl | rfl | rfl | rfl
    · obtain rfl := Option.some.inj ho
      have e61 : a.eval (.tmp 61) = .int .i64 lo := seen.pl ⟨2, .data⟩ (by simp) rfl _ rfl
      have C1 := rnum_any lo z
      refine Rg.op_call_w rfl (Rg.wanted_none rfl) (ex_call1 _ _ (.tmp 61) 3 49 rfl e61 rfl _ (call_fn Tryd.func49 rfl rfl _ _)) C1 ?_
      rintro e z1 ⟨⟨v1, rfl, ho1⟩, hz⟩
      have ho2 := Rw.own_less (B' := B) (Nat.le_trans hB hc.bel.size) ho1
      refine ⟨v1, rfl, hK _ _ ⟨hc.bel.trans (hz.mono (Nat.le_trans hB hc.bel.size)), hc.bx0.on hz, hc.bx1.on hz, (fun e => by rw [Rg.upd_other _ _ (by decide)]; exact hc.lit e), ⟨(show OwnB _ B bv (l) from by exact Rw.own_on hm hz), (show RowB _ (Rg.upd val 3 _ 3) (numB lo) from by rw [Rg.upd_same]; exact Row.of_own ho2)⟩⟩⟩
    · obtain rfl := Option.some.inj ho
      have e59 : a.eval (.tmp 59) = bv := seen.pl ⟨0, .data⟩ (by simp) rfl _ rfl
      have e62 : a.eval (.tmp 62) = val 3 := seen.at_ ⟨3, .data⟩ (by simp) rfl
      obtain ⟨v1, z1, r, ho1, hg, hb1⟩ := app_nextB (l := l) (m := numB lo) hB hc.bel hm.1 hm.2 (by rw [numB_len]; omega)
      have ho0 := hm.1
      refine Rg.op_value_w rfl (Rg.wanted_none rfl) (Rg.ex_append a.eval _ (.tmp 59) (.tmp 62) 22 rfl e59 e62 r) (hK _ _ ⟨hb1, box_grown hc.bx0 hg (own_neB ho0 hc.bx0 (by decide)), box_grown hc.bx1 hg (own_neB ho0 hc.bx1 (by decide)), (fun e => by rw [Rg.upd_other _ _ (by decide)]; exact hc.lit e), (show OwnB _ B (Rg.upd val 4 _ 4) (l ++ numB lo) from by rw [Rg.upd_same]; exact ho1)⟩)
    · obtain rfl := Option.some.inj ho
      have e65 : a.eval (.tmp 65) = val 6 := seen.at_ ⟨6, .data⟩ (by simp) rfl
      have e65 : a.eval (.tmp 65) = .int .i64 hgh := e65.trans (hc.lit (hcb (by omega)))
      have C1 := rnum_any hgh z
      refine Rg.op_call_w rfl (Rg.wanted_none rfl) (ex_call1 _ _ (.tmp 65) 3 49 rfl e65 rfl _ (call_fn Tryd.func49 rfl rfl _ _)) C1 ?_
      rintro e z1 ⟨⟨v1, rfl, ho1⟩, hz⟩
      have ho2 := Rw.own_less (B' := B) (Nat.le_trans hB hc.bel.size) ho1
      refine ⟨v1, rfl, hK _ _ ⟨hc.bel.trans (hz.mono (Nat.le_trans hB hc.bel.size)), hc.bx0.on hz, hc.bx1.on hz, (fun e => by rw [Rg.upd_other _ _ (by decide)]; exact hc.lit e), ⟨(show OwnB _ B (Rg.upd val 7 _ 4) (l ++ numB lo) from by rw [Rg.upd_other _ _ (by decide)]; exact Rw.own_on hm hz), (show RowB _ (Rg.upd val 7 _ 7) (numB hgh) from by rw [Rg.upd_same]; exact Row.of_own ho2)⟩⟩⟩
    · obtain rfl := Option.some.inj ho
      have e63 : a.eval (.tmp 63) = val 4 := seen.at_ ⟨4, .data⟩ (by simp) rfl
      have e66 : a.eval (.tmp 66) = val 7 := seen.at_ ⟨7, .data⟩ (by simp) rfl
      obtain ⟨v1, z1, r, ho1, hg, hb1⟩ := app_nextB (l := l ++ numB lo) (m := numB hgh) hB hc.bel hm.1 hm.2 (by rw [List.length_append, numB_len, numB_len]; omega)
      have ho0 := hm.1
      refine Rg.op_value_w rfl (Rg.wanted_none rfl) (Rg.ex_append a.eval _ (.tmp 63) (.tmp 66) 22 rfl e63 e66 r) (hK _ _ ⟨hb1, box_grown hc.bx0 hg (own_neB ho0 hc.bx0 (by decide)), box_grown hc.bx1 hg (own_neB ho0 hc.bx1 (by decide)), (fun e => by rw [Rg.upd_other _ _ (by decide)]; exact hc.lit e), (show OwnB _ B (Rg.upd val 8 _ 8) (l ++ numB lo ++ numB hgh) from by rw [Rg.upd_same]; exact ho1)⟩)
    · obtain rfl := Option.some.inj ho
      have e67 : a.eval (.tmp 67) = val 8 := seen.at_ ⟨8, .data⟩ (by simp) rfl
      refine Rg.op_value_w rfl (Rg.wanted_none rfl) (Rg.ex_assign a.eval _ (.tmp 67) rfl _) (hK _ _ ⟨hc.bel, hc.bx0, hc.bx1, (fun e => by rw [Rg.upd_other _ _ (by decide)]; exact hc.lit e), ?_⟩)
      show OwnB _ B (Rg.upd val 9 _ 9) (l ++ numB lo ++ numB hgh)
      rw [Rg.upd_same, e67]
      exact hm
  · subst hdd hmk hpv hbase
    intro o k val z a hk ho hc seen K hK
    obtain rfl := Option.some.inj ho
    have hm := hc.st
    have e64 : a.eval (.tmp 64) = .pointer (some ⟨xb, 3, none⟩) := seen.pl ⟨5, .data⟩ (by simp) rfl _ rfl
    have y1_0 := hc.bx1.cell 0
    have y1_1 := hc.bx1.cell 1
    have y1_2 := hc.bx1.cell 2
    have y1_3 := hc.bx1.cell 3
    have y1_4 := hc.bx1.cell 4
    simp only [List.getElem?_toArray, List.getElem?_cons_zero, List.getElem?_cons_succ] at y1_0 y1_1 y1_2 y1_3 y1_4
    refine Rg.op_value_w rfl (Rg.wanted_none rfl) (Rg.ex_load a.eval _ 3 (.tmp 64) rfl (by rw [e64]; simp [go_sem, y1_3])) (hK _ _ ⟨hc.bel, hc.bx0, hc.bx1, (fun _ => Rg.upd_same _ _ _), ?_⟩)
    rcases (by omega : k = 0 ∨ k = 1 ∨ k = 2) with rfl | rfl | rfl
    · simp only [by11S] at hm ⊢
      exact hm
    · simp only [by11S, Rg.upd, show (3 : Nat) ≠ 6 by decide, if_false] at hm ⊢
      exact ⟨hm.1, hm.2⟩
    · simp only [by11S, Rg.upd, show (4 : Nat) ≠ 6 by decide, if_false] at hm ⊢
      exact hm
  · subst hdd hbase
    intro a b val z hc hd hsz hk hv
    have hm := hc.st
    have hk2 : ∀ j, (j < 59 ∨ 59 + 9 ≤ j) → a.tmps[j]? = (u0 :: .pointer (some ⟨mb, 0, none⟩) :: u2 :: val 9 :: u4 :: .pointer (some ⟨xb, 0, none⟩) :: u6 :: u7 :: u8 :: u9 :: u10 :: u11 :: u12 :: u13 :: u14 :: u15 :: u16 :: u17 :: u18 :: u19 :: u20 :: u21 :: u22 :: u23 :: u24 :: u25 :: u26 :: u27 :: u28 :: u29 :: u30 :: u31 :: u32 :: u33 :: u34 :: u35 :: u36 :: u37 :: u38 :: u39 :: u40 :: u41 :: u42 :: u43 :: u44 :: u45 :: u46 :: u47 :: u48 :: u49 :: u50 :: u51 :: u52 :: u53 :: u54 :: u55 :: u56 :: u57 :: u58 :: u59 :: u60 :: u61 :: u62 :: u63 :: u64 :: u65 :: u66 :: u67 :: u68 :: u69 :: u70 :: u71 :: u72 :: u73 :: u74 :: u75 :: u76 :: u77 :: u78 :: u79 :: u80 :: u81 :: u82 :: u83 :: u84 :: u85 :: u86 :: u87 :: u88 :: u89 :: u90 :: u91 :: u92 :: u93 :: u94 :: u95 :: u96 :: u97 :: u98 :: u99 :: u100 :: u101 :: u102 :: u103 :: u104 :: u105 :: u106 :: u107 :: u108 :: u109 :: u110 :: u111 :: u112 :: u113 :: u114 :: u115 :: u116 :: [] : List Value)[j]? := fun j hj => by
      by_cases e : j = 3
      · subst e
        exact hv 9 (by decide)
      · have h1 := (hk j (nd j (by omega))).trans List.getElem?_toArray
        rw [h1]
        rw [show (u0 :: .pointer (some ⟨mb, 0, none⟩) :: u2 :: val 9 :: u4 :: .pointer (some ⟨xb, 0, none⟩) :: u6 :: u7 :: u8 :: u9 :: u10 :: u11 :: u12 :: u13 :: u14 :: u15 :: u16 :: u17 :: u18 :: u19 :: u20 :: u21 :: u22 :: u23 :: u24 :: u25 :: u26 :: u27 :: u28 :: u29 :: u30 :: u31 :: u32 :: u33 :: u34 :: u35 :: u36 :: u37 :: u38 :: u39 :: u40 :: u41 :: u42 :: u43 :: u44 :: u45 :: u46 :: u47 :: u48 :: u49 :: u50 :: u51 :: u52 :: u53 :: u54 :: u55 :: u56 :: u57 :: u58 :: u59 :: u60 :: u61 :: u62 :: u63 :: u64 :: u65 :: u66 :: u67 :: u68 :: u69 :: u70 :: u71 :: u72 :: u73 :: u74 :: u75 :: u76 :: u77 :: u78 :: u79 :: u80 :: u81 :: u82 :: u83 :: u84 :: u85 :: u86 :: u87 :: u88 :: u89 :: u90 :: u91 :: u92 :: u93 :: u94 :: u95 :: u96 :: u97 :: u98 :: u99 :: u100 :: u101 :: u102 :: u103 :: u104 :: u105 :: u106 :: u107 :: u108 :: u109 :: u110 :: u111 :: u112 :: u113 :: u114 :: u115 :: u116 :: [] : List Value) = (u0 :: .pointer (some ⟨mb, 0, none⟩) :: u2 :: bv :: u4 :: .pointer (some ⟨xb, 0, none⟩) :: u6 :: u7 :: u8 :: u9 :: u10 :: u11 :: u12 :: u13 :: u14 :: u15 :: u16 :: u17 :: u18 :: u19 :: u20 :: u21 :: u22 :: u23 :: u24 :: u25 :: u26 :: u27 :: u28 :: u29 :: u30 :: u31 :: u32 :: u33 :: u34 :: u35 :: u36 :: u37 :: u38 :: u39 :: u40 :: u41 :: u42 :: u43 :: u44 :: u45 :: u46 :: u47 :: u48 :: u49 :: u50 :: u51 :: u52 :: u53 :: u54 :: u55 :: u56 :: u57 :: u58 :: u59 :: u60 :: u61 :: u62 :: u63 :: u64 :: u65 :: u66 :: u67 :: u68 :: u69 :: u70 :: u71 :: u72 :: u73 :: u74 :: u75 :: u76 :: u77 :: u78 :: u79 :: u80 :: u81 :: u82 :: u83 :: u84 :: u85 :: u86 :: u87 :: u88 :: u89 :: u90 :: u91 :: u92 :: u93 :: u94 :: u95 :: u96 :: u97 :: u98 :: u99 :: u100 :: u101 :: u102 :: u103 :: u104 :: u105 :: u106 :: u107 :: u108 :: u109 :: u110 :: u111 :: u112 :: u113 :: u114 :: u115 :: u116 :: []).set 3 (val 9) from rfl, List.getElem?_set_ne (fun e2 => e e2.symm)]
    obtain ⟨mid, hmid, rfl⟩ := Rg.frame_mid (bl := (u0 :: .pointer (some ⟨mb, 0, none⟩) :: u2 :: val 9 :: u4 :: .pointer (some ⟨xb, 0, none⟩) :: u6 :: u7 :: u8 :: u9 :: u10 :: u11 :: u12 :: u13 :: u14 :: u15 :: u16 :: u17 :: u18 :: u19 :: u20 :: u21 :: u22 :: u23 :: u24 :: u25 :: u26 :: u27 :: u28 :: u29 :: u30 :: u31 :: u32 :: u33 :: u34 :: u35 :: u36 :: u37 :: u38 :: u39 :: u40 :: u41 :: u42 :: u43 :: u44 :: u45 :: u46 :: u47 :: u48 :: u49 :: u50 :: u51 :: u52 :: u53 :: u54 :: u55 :: u56 :: u57 :: u58 :: u59 :: u60 :: u61 :: u62 :: u63 :: u64 :: u65 :: u66 :: u67 :: u68 :: u69 :: u70 :: u71 :: u72 :: u73 :: u74 :: u75 :: u76 :: u77 :: u78 :: u79 :: u80 :: u81 :: u82 :: u83 :: u84 :: u85 :: u86 :: u87 :: u88 :: u89 :: u90 :: u91 :: u92 :: u93 :: u94 :: u95 :: u96 :: u97 :: u98 :: u99 :: u100 :: u101 :: u102 :: u103 :: u104 :: u105 :: u106 :: u107 :: u108 :: u109 :: u110 :: u111 :: u112 :: u113 :: u114 :: u115 :: u116 :: [])) 59 9 hd hsz (by show 59 + 9 ≤ 117; decide) hk2
    match mid, hmid with
    | n59 :: n60 :: n61 :: n62 :: n63 :: n64 :: n65 :: n66 :: n67 :: [], _ => exact HQ.out z (val 9) n59 n60 n61 n62 n63 n64 n65 n66 n67 hm hc.bel hc.bx0 hc.bx1
end Go.Proofs.YtfcgfnmokbbcaaaDoor.Wr

namespace Go.Proofs.YtfcgfnmokbbcaaaDoor.Wr
open Go.RowKit Go.Proofs.YtfcgfnmokbbcaaaDoor Go.Proofs.YtfcgfnmokbbcaaaDoor.Rw Go.Proofs.YtfcgfnmokbbcaaaDoor.Nm Go.Proofs.YtfcgfnmokbbcaaaDoor.At Go.Proofs.YtfcgfnmokbbcaaaDoor.Pr

theorem oneB_kind {c : C5} (h : oneB c = true) : c.2.1 = 1 ∨ c.2.1 = 2 ∨ c.2.1 = 3 := by
  unfold oneB at h
  rw [Bool.and_eq_true] at h
  have h2 := h.2
  split at h2
  · exact Or.inl ‹_›
  split at h2
  · exact Or.inr (Or.inl ‹_›)
  split at h2
  · exact Or.inr (Or.inr ‹_›)
  · cases h2
theorem oneB_text {c : C5} (h : oneB c = true) : c.1.size ≤ 12 ∧ c.2.2.2.2.size ≤ 12 := by
  unfold oneB at h
  rw [Bool.and_eq_true] at h
  refine ⟨(nameB_size h.1).2, ?_⟩
  have h2 := h.2
  split at h2
  · simp only [Bool.and_eq_true, decide_eq_true_eq] at h2; omega
  split at h2
  · simp only [Bool.and_eq_true, decide_eq_true_eq] at h2; omega
  split at h2
  · simp only [Bool.and_eq_true, decide_eq_true_eq] at h2; omega
  · cases h2
theorem flat_take {α : Type} (f : α → List UInt8) (l : List α) (j : Nat) : ((l.take j).flatMap f).length ≤ (l.flatMap f).length := by
  have h : l.flatMap f = (l.take j).flatMap f ++ (l.drop j).flatMap f := by rw [← List.flatMap_append, List.take_append_drop]
  rw [h, List.length_append]
  omega
theorem flat_succ {α : Type} (f : α → List UInt8) (l : List α) (j : Nat) (x : α) (h : l[j]? = some x) : (l.take (j + 1)).flatMap f = (l.take j).flatMap f ++ f x := by
  rw [List.take_add_one, h, List.flatMap_append]
  simp
noncomputable def byC : Code := ((Tryd.f19.body.bind (findBlock 0)).getD .skip)
set_option maxRecDepth 100000 in
set_option maxHeartbeats 16000000 in
theorem cons_loop (Q : Exit → Act → World → Prop) (w W : World) (mb : Nat) (m : Mg) (pV lV bv : Value) (l : List UInt8) (p : List C5) (ao : Option Addr) (ac : Nat) (u0 u2 u4 u5 u6 u7 u8 u9 u10 u11 u12 u13 u14 u15 u16 u17 u18 u19 u20 u21 u22 u23 u24 u25 u26 u27 u28 u29 u30 u31 u32 u33 u34 u35 u36 u37 u38 u39 u43 u44 u45 u46 u47 u48 u49 u50 u51 u52 u53 u54 u55 u56 u57 u58 u59 u60 u61 u62 u63 u64 u65 u66 u67 u68 u69 u70 u71 u72 u73 u74 u75 u76 u77 u78 u79 u80 u81 u82 u83 u84 u85 u86 u87 u88 u89 u90 u91 u92 u93 u94 u95 u96 u97 u98 u99 u100 u101 u102 u103 u104 u105 u106 u107 u108 u109 u110 u111 u112 u113 u114 u115 u116 : Value)
    (hb : Below w.heap.size w W) (hp : RowC w (.slice ao p.length ac) p) (hx : Box W mb (mcells m pV lV) 32) (ho : OwnB W w.heap.size bv l) (h1 : ∀ c ∈ p, oneB c = true) (h2 : l.length + (p.flatMap conB).length ≤ 5000) (h3 : 2 ≤ l.length) (h4 : p.length ≤ 1000)
    (hQ : ∀ (w' : World) (v n5 n42 n43 n44 n45 n46 n47 n48 n49 n50 n51 n52 n53 n54 n55 n56 n57 n58 n59 n60 n61 n62 n63 n64 n65 n66 n67 n68 n69 n70 n71 n72 n73 : Value), Below w.heap.size w w' → OwnB w' w.heap.size v (l ++ p.flatMap conB) → Box w' mb (mcells m pV lV) 32 → Q .normal ⟨(u0 :: .pointer (some ⟨mb, 0, none⟩) :: u2 :: v :: u4 :: n5 :: u6 :: u7 :: u8 :: u9 :: u10 :: u11 :: u12 :: u13 :: u14 :: u15 :: u16 :: u17 :: u18 :: u19 :: u20 :: u21 :: u22 :: u23 :: u24 :: u25 :: u26 :: u27 :: u28 :: u29 :: u30 :: u31 :: u32 :: u33 :: u34 :: u35 :: u36 :: u37 :: u38 :: u39 :: .slice ao p.length ac :: .int .i64 (p.length : Int) :: n42 :: n43 :: n44 :: n45 :: n46 :: n47 :: n48 :: n49 :: n50 :: n51 :: n52 :: n53 :: n54 :: n55 :: n56 :: n57 :: n58 :: n59 :: n60 :: n61 :: n62 :: n63 :: n64 :: n65 :: n66 :: n67 :: n68 :: n69 :: n70 :: n71 :: n72 :: n73 :: u74 :: u75 :: u76 :: u77 :: u78 :: u79 :: u80 :: u81 :: u82 :: u83 :: u84 :: u85 :: u86 :: u87 :: u88 :: u89 :: u90 :: u91 :: u92 :: u93 :: u94 :: u95 :: u96 :: u97 :: u98 :: u99 :: u100 :: u101 :: u102 :: u103 :: u104 :: u105 :: u106 :: u107 :: u108 :: u109 :: u110 :: u111 :: u112 :: u113 :: u114 :: u115 :: u116 :: []).toArray, []⟩ w') :
    Code.wp Tryd.prog byC Q ⟨(u0 :: .pointer (some ⟨mb, 0, none⟩) :: u2 :: bv :: u4 :: u5 :: u6 :: u7 :: u8 :: u9 :: u10 :: u11 :: u12 :: u13 :: u14 :: u15 :: u16 :: u17 :: u18 :: u19 :: u20 :: u21 :: u22 :: u23 :: u24 :: u25 :: u26 :: u27 :: u28 :: u29 :: u30 :: u31 :: u32 :: u33 :: u34 :: u35 :: u36 :: u37 :: u38 :: u39 :: .slice ao p.length ac :: .int .i64 (p.length : Int) :: .int .i64 0 :: u43 :: u44 :: u45 :: u46 :: u47 :: u48 :: u49 :: u50 :: u51 :: u52 :: u53 :: u54 :: u55 :: u56 :: u57 :: u58 :: u59 :: u60 :: u61 :: u62 :: u63 :: u64 :: u65 :: u66 :: u67 :: u68 :: u69 :: u70 :: u71 :: u72 :: u73 :: u74 :: u75 :: u76 :: u77 :: u78 :: u79 :: u80 :: u81 :: u82 :: u83 :: u84 :: u85 :: u86 :: u87 :: u88 :: u89 :: u90 :: u91 :: u92 :: u93 :: u94 :: u95 :: u96 :: u97 :: u98 :: u99 :: u100 :: u101 :: u102 :: u103 :: u104 :: u105 :: u106 :: u107 :: u108 :: u109 :: u110 :: u111 :: u112 :: u113 :: u114 :: u115 :: u116 :: []).toArray, []⟩ W := by
  have HQ := Lib.hid hQ
  have HP := Lib.hid hp
  have HX := Lib.hid hx
  have HO := Lib.hid ho
  have HB := Lib.hid hb
  have H1 := Lib.hid h1
  have H2 := Lib.hid h2
  have H3 := Lib.hid h3
  clear hQ hp hx ho hb h1 h2 h3
  unfold byC
  conv => arg 2; whnf
  go_wp2
  go_loopw [3, 42] (fun b i wr => ∃ j : Nat, j ≤ p.length ∧ i = .int .i64 j ∧ Below w.heap.size w wr ∧ OwnB wr w.heap.size b (l ++ (p.take j).flatMap conB) ∧ Box wr mb (mcells m pV lV) 32) (fun _ i _ => p.length - (intOf i).toNat)
  case atStart => exact ⟨0, Nat.zero_le _, rfl, HB.out, by simpa using HO.out, HX.out⟩
  case round =>
    obtain ⟨j, hj, rfl, hb, ho, hx⟩ := hrel
    have RB := Lib.hid hb
    have RO := Lib.hid ho
    have RX := Lib.hid hx
    clear hb ho hx
    by_cases hlt : j < p.length
    · obtain ⟨⟨nm, kd, lo, hgh, t⟩, hc⟩ : ∃ x, p[j]? = some x := ⟨_, List.getElem?_eq_getElem hlt⟩
      obtain ⟨q, ix, px⟩ := elC HP.out rfl rfl hc
      obtain ⟨p0, p1, p2, p3, p4⟩ := px _ RB.out
      have ONE := Lib.hid (H1.out _ (List.mem_of_getElem? hc))
      have TX := Lib.hid (oneB_text ONE.out)
      have KN := Lib.hid (oneB_kind ONE.out)
      have SU := Lib.hid (show l ++ (p.take (j + 1)).flatMap conB = l ++ (p.take j).flatMap conB ++ conB (nm, kd, lo, hgh, t) by rw [flat_succ conB p j _ hc, List.append_assoc])
      have LN := Lib.hid (show (l ++ (p.take j).flatMap conB).length ≤ 5000 by have a1 := H2.out; have a2 := flat_take conB p j; rw [List.length_append]; omega)
      have LM := Lib.hid (show 2 ≤ (l ++ (p.take j).flatMap conB).length by have a1 := H3.out; rw [List.length_append]; omega)
      generalize l ++ (p.take j).flatMap conB = lj at *
      have hb4 : Below w.heap.size w (wr.alloc (.cells #[.string nm, .int .i64 kd, .int .i64 lo, .int .i64 hgh, .string t] 57)) := RB.out.alloc RB.out.size _
      have B4 := Lib.hid hb4
      have X4 := Lib.hid (RX.out.more (.cells #[.string nm, .int .i64 kd, .int .i64 lo, .int .i64 hgh, .string t] 57))
      have C4 := Lib.hid (box_new wr #[.string nm, .int .i64 kd, .int .i64 lo, .int .i64 hgh, .string t] 57)
      have O4 := Lib.hid (Rw.own_on RO.out ((Below.refl _ wr).alloc (Nat.le_refl _) (.cells #[.string nm, .int .i64 kd, .int .i64 lo, .int .i64 hgh, .string t] 57)))
      have hwr : IntKind.u8.wrap kd = ((UInt8.ofNat kd.toNat).toNat : Int) := by
        rcases KN.out with h | h | h <;> (have h : kd = _ := h; subst h; decide)
      have WR := Lib.hid hwr
      clear hb4 hc hwr px
      simp only at p0 p1 p2 p3 p4
      go_wp2_with fail
      go_upto_region 9 with fail
      clear p0 p1 p2 p3 p4 ix
      refine by9 w.heap.size mb wr.heap.size m pV lV _ lj nm t kd lo hgh (UInt8.ofNat kd.toNat) _ _ _ _ _ _ _ _ _ _ _ _ _ _ _ _ _ _ _ _ _ _ _ _ _ _ _ _ _ _ _ _ _ _ _ _ _ _ _ _ _ _ _ _ _ _ _ _ _ _ _ _ _ _ _ _ _ _ _ _ _ _ _ _ _ _ _ _ _ _ _ _ _ _ _ _ _ _ _ _ _ _ _ _ _ _ _ _ _ _ _ _ _ _ _ _ _ _ _ _ _ _ _ _ _ _ _ _ _ _ _ _ _ _ _ _ B4.out.size X4.out C4.out O4.out WR.out (by have := TX.out.1; omega) LM.out (by have := LN.out; omega) ?_
      intro w5 v5 m46 m47 m48 m49 m50 m51 m52 m53 m54 m55 ho5 hb5 hx5 hc5
      have O5 := Lib.hid ho5
      have B5 := Lib.hid (B4.out.trans hb5)
      have X5 := Lib.hid hx5
      have C5_ := Lib.hid hc5
      have L5 := Lib.hid (show (lj ++ textB nm ++ [UInt8.ofNat kd.toNat]).length ≤ 6000 by have a1 := LN.out; have a2 := TX.out.1; rw [List.length_append, List.length_append, textB_lenW nm (by omega)]; simp; omega)
      clear ho5 hb5 hx5 hc5 O4 C4 X4 B4 RO RX RB
      have c1 := C5_.out.cell 1
      have c2 := C5_.out.cell 2
      have c3 := C5_.out.cell 3
      have c4 := C5_.out.cell 4
      simp only [List.getElem?_toArray, List.getElem?_cons_zero, List.getElem?_cons_succ] at c1 c2 c3 c4
      simp only [Exit.then]
      apply_assumption
      have hmb := X5.out.lt
      by_cases hk : kd = 1
      · subst hk
        go_wp2_with fail
        go_upto_region 11 with fail
        refine by11 w.heap.size mb wr.heap.size m pV lV _ (lj ++ textB nm ++ [UInt8.ofNat (1 : Int).toNat]) nm t 1 lo hgh _ w5 _ _ _ _ _ _ _ _ _ _ _ _ _ _ _ _ _ _ _ _ _ _ _ _ _ _ _ _ _ _ _ _ _ _ _ _ _ _ _ _ _ _ _ _ _ _ _ _ _ _ _ _ _ _ _ _ _ _ _ _ _ _ _ _ _ _ _ _ _ _ _ _ _ _ _ _ _ _ _ _ _ _ _ _ _ _ _ _ _ _ _ _ _ _ _ _ _ _ _ _ _ _ _ _ _ _ _ _ _ _ _ _ _ _ B5.out.size X5.out C5_.out O5.out (by have := L5.out; omega) ?_
        intro w6 v6 m59 m60 m61 m62 m63 m64 m65 m66 m67 ho6 hb6 hx6 _
        have O6 := Lib.hid ho6
        have B6 := Lib.hid (B5.out.trans hb6)
        have X6 := Lib.hid hx6
        have EQ := Lib.hid (show lj ++ conB (nm, 1, lo, hgh, t) = lj ++ textB nm ++ [UInt8.ofNat (1 : Int).toNat] ++ numB lo ++ numB hgh by simp [conB, List.append_assoc])
        clear ho6 hb6 hx6 c1 c2 c3 c4 hmb O5 X5 C5_
        try simp only [Exit.then]
        apply_assumption
        go_wp2
        go_roundw
        case rel => exact ⟨j + 1, by omega, by go_num, B6.out, by rw [SU.out, EQ.out]; exact O6.out, X6.out⟩
        case measure => simp [intOf]; omega
      · have hk2 : (kd == 1) = false := by simpa using hk
        have HK := Lib.hid hk
        clear hk
        go_wp2_with fail
        refine (rtext_any t w5 (by have := TX.out.2; omega)).mono ?_
        rintro e w6 ⟨⟨v6, rfl, ho6⟩, hb6⟩
        have O5b := Lib.hid (Rw.own_on O5.out hb6)
        have X5b := Lib.hid (X5.out.on hb6)
        have B5b := Lib.hid (B5.out.trans (hb6.mono B5.out.size))
        obtain ⟨v7, w7, r, o7, gr, hb7⟩ := app_nextB (l := lj ++ textB nm ++ [UInt8.ofNat kd.toNat]) (m := textB t) (Nat.le_refl _) B5b.out O5b.out (Row.of_own ho6) (by have := L5.out; have := TX.out.2; rw [textB_lenW t (by omega)]; omega)
        have O7 := Lib.hid o7
        have X7 := Lib.hid (box_grown X5b.out gr (own_neB O5b.out X5b.out (by decide)))
        have B7 := Lib.hid hb7
        have EQ := Lib.hid (show lj ++ conB (nm, kd, lo, hgh, t) = lj ++ textB nm ++ [UInt8.ofNat kd.toNat] ++ textB t by simp [conB, List.append_assoc, HK.out])
        clear ho6 hb6 o7 gr hb7 c1 c2 c3 c4 hmb O5 X5 C5_ O5b X5b B5b
        go_wp2_with (first | (at_builtin; refine wpList_append_run rfl _ _ 22 rfl rfl rfl r ?_) | fail)
        clear r
        go_wp2
        go_roundw
        case rel => exact ⟨j + 1, by omega, by go_num, B7.out, by rw [SU.out, EQ.out]; exact O7.out, X7.out⟩
        case measure => simp [intOf]; omega
    · obtain rfl : j = p.length := by omega
      rw [List.take_of_length_le (Nat.le_refl _)] at RO
      go_wp2
      exact HQ.out _ _ _ _ _ _ _ _ _ _ _ _ _ _ _ _ _ _ _ _ _ _ _ _ _ _ _ _ _ _ _ _ _ _ _ RB.out RO.out RX.out
end Go.Proofs.YtfcgfnmokbbcaaaDoor.Wr
