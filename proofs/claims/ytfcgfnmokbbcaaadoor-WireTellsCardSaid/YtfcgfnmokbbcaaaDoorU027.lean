/-
  Region 21 of Bytes of the statements' own package: an attribute's value. Conditions: a short text; not many bytes ahead of it.
  Region 22 of Bytes of the statements' own package: an attribute's value. Conditions: a short text; not many bytes ahead of it.
  The loop over attributes of Bytes of the statements' own package. Conditions: short texts; few bytes.
-/
import Derived.Test.YtfcgfnmokbbcaaaDoorU019
import Derived.Test.YtfcgfnmokbbcaaaDoorU025
import Derived.Test.YtfcgfnmokbbcaaaDoorU026
namespace Go.Proofs.YtfcgfnmokbbcaaaDoor.Wr
open Go.RowKit Go.Proofs.YtfcgfnmokbbcaaaDoor Go.Proofs.YtfcgfnmokbbcaaaDoor.Rw Go.Proofs.YtfcgfnmokbbcaaaDoor.Nm Go.Proofs.YtfcgfnmokbbcaaaDoor.At Go.Proofs.YtfcgfnmokbbcaaaDoor.Pr

def by21S (B _mb _xb : Nat) (_m : Mg) (_pV _lV bv : Value) (l : List UInt8) (_nm t : ByteArray) (_b1 : Bool) (_n : Int) : Nat → (Nat → Value) → World → Prop
  | 0, _, w => OwnB w B bv (l)
  | 1, v, w => OwnB w B (v 2) (l ++ [(1 : UInt8)])
  | 2, v, w => OwnB w B (v 2) (l ++ [(1 : UInt8)]) ∧ RowB w (v 6) (textB t)
  | 3, v, w => OwnB w B (v 7) (l ++ [(1 : UInt8)] ++ textB t)
  | _ + 4, v, w => OwnB w B (v 8) (l ++ [(1 : UInt8)] ++ textB t)
structure by21C (B mb xb : Nat) (m : Mg) (pV lV bv : Value) (l : List UInt8) (nm t : ByteArray) (b1 : Bool) (n : Int) (W : World) (k : Nat) (b : Bool) (v : Nat → Value) (w : World) : Prop where
  bel : Below B W w
  bx0 : Box w mb (mcells m pV lV) 32
  bx1 : Box w xb #[.string nm, .bool b1, .int .i64 n, .string t] 61
  lit : b = true → k ≤ 0 → LitB B (v 1) (1 : UInt8) w
  st : by21S B mb xb m pV lV bv l nm t b1 n k v w
noncomputable def by21R : Code := ((Tryd.f19.body.bind (findRegion 21)).getD .skip)
set_option maxRecDepth 100000 in
set_option maxHeartbeats 8000000 in
theorem by21 (B mb xb : Nat) (m : Mg) (pV lV bv : Value) (l : List UInt8) (nm t : ByteArray) (b1 : Bool) (n : Int) (Q : Exit → Act → World → Prop) (W : World) (u0 u2 u4 u5 u6 u8 u9 u10 u11 u12 u13 u14 u15 u16 u17 u18 u19 u20 u21 u22 u23 u24 u25 u26 u27 u28 u29 u30 u31 u32 u33 u34 u35 u36 u37 u38 u39 u40 u41 u42 u43 u44 u45 u46 u47 u48 u49 u50 u51 u52 u53 u54 u55 u56 u57 u58 u59 u60 u61 u62 u63 u64 u65 u66 u67 u68 u69 u70 u71 u72 u73 u74 u75 u76 u77 u78 u79 u80 u81 u82 u83 u84 u85 u86 u87 u88 u89 u90 u91 u92 u93 u94 u95 u96 u97 u98 u99 u100 u101 u102 u103 u104 u105 u106 u107 u108 u109 u110 u111 u112 u113 u114 u115 u116 : Value)
    (hB : B ≤ W.heap.size) (hx0 : Box W mb (mcells m pV lV) 32) (hx1 : Box W xb #[.string nm, .bool b1, .int .i64 n, .string t] 61) (ho0 : OwnB W B bv (l)) (hl : l.length ≤ 10000) (ht : t.size ≤ 255)
    (hQ : ∀ (w' : World) (v n99 n100 n101 n102 n103 n104 n105 n106 : Value), OwnB w' B v (l ++ [(1 : UInt8)] ++ textB t) → Below B W w' → Box w' mb (mcells m pV lV) 32 → Box w' xb #[.string nm, .bool b1, .int .i64 n, .string t] 61 → Q .normal ⟨(u0 :: .pointer (some ⟨mb, 0, none⟩) :: u2 :: v :: u4 :: u5 :: u6 :: .pointer (some ⟨xb, 0, none⟩) :: u8 :: u9 :: u10 :: u11 :: u12 :: u13 :: u14 :: u15 :: u16 :: u17 :: u18 :: u19 :: u20 :: u21 :: u22 :: u23 :: u24 :: u25 :: u26 :: u27 :: u28 :: u29 :: u30 :: u31 :: u32 :: u33 :: u34 :: u35 :: u36 :: u37 :: u38 :: u39 :: u40 :: u41 :: u42 :: u43 :: u44 :: u45 :: u46 :: u47 :: u48 :: u49 :: u50 :: u51 :: u52 :: u53 :: u54 :: u55 :: u56 :: u57 :: u58 :: u59 :: u60 :: u61 :: u62 :: u63 :: u64 :: u65 :: u66 :: u67 :: u68 :: u69 :: u70 :: u71 :: u72 :: u73 :: u74 :: u75 :: u76 :: u77 :: u78 :: u79 :: u80 :: u81 :: u82 :: u83 :: u84 :: u85 :: u86 :: u87 :: u88 :: u89 :: u90 :: u91 :: u92 :: u93 :: u94 :: u95 :: u96 :: u97 :: u98 :: n99 :: n100 :: n101 :: n102 :: n103 :: n104 :: n105 :: n106 :: u107 :: u108 :: u109 :: u110 :: u111 :: u112 :: u113 :: u114 :: u115 :: u116 :: []).toArray, []⟩ w') :
    Code.wp Tryd.prog by21R Q ⟨(u0 :: .pointer (some ⟨mb, 0, none⟩) :: u2 :: bv :: u4 :: u5 :: u6 :: .pointer (some ⟨xb, 0, none⟩) :: u8 :: u9 :: u10 :: u11 :: u12 :: u13 :: u14 :: u15 :: u16 :: u17 :: u18 :: u19 :: u20 :: u21 :: u22 :: u23 :: u24 :: u25 :: u26 :: u27 :: u28 :: u29 :: u30 :: u31 :: u32 :: u33 :: u34 :: u35 :: u36 :: u37 :: u38 :: u39 :: u40 :: u41 :: u42 :: u43 :: u44 :: u45 :: u46 :: u47 :: u48 :: u49 :: u50 :: u51 :: u52 :: u53 :: u54 :: u55 :: u56 :: u57 :: u58 :: u59 :: u60 :: u61 :: u62 :: u63 :: u64 :: u65 :: u66 :: u67 :: u68 :: u69 :: u70 :: u71 :: u72 :: u73 :: u74 :: u75 :: u76 :: u77 :: u78 :: u79 :: u80 :: u81 :: u82 :: u83 :: u84 :: u85 :: u86 :: u87 :: u88 :: u89 :: u90 :: u91 :: u92 :: u93 :: u94 :: u95 :: u96 :: u97 :: u98 :: u99 :: u100 :: u101 :: u102 :: u103 :: u104 :: u105 :: u106 :: u107 :: u108 :: u109 :: u110 :: u111 :: u112 :: u113 :: u114 :: u115 :: u116 :: []).toArray, []⟩ W := by
  have HQ := Lib.hid hQ
  have HX0 := Lib.hid hx0
  have HX1 := Lib.hid hx1
  have HO0 := Lib.hid ho0
  clear hQ hx0 hx1 ho0
  obtain ⟨dst, hdd⟩ : ∃ d : Nat → Nat, d = fun i => [99, 100, 101, 102, 103, 104, 105, 106, 3].getD i 3 := ⟨_, rfl⟩
  obtain ⟨mk, hmk⟩ : ∃ d : Nat → Nat, d = fun j => [2, 6, 7, 8].getD j 999 := ⟨_, rfl⟩
  obtain ⟨pv, hpv⟩ : ∃ e : Nat → Option Value, e = fun i => ([some (bv), none, none, some (.pointer (some ⟨xb, 1, none⟩)), some (.pointer (some ⟨xb, 3, none⟩)), some (.string t), none, none, none] : List (Option Value)).getD i none := ⟨_, rfl⟩
  obtain ⟨base, hbase⟩ : ∃ b : Act, b = ⟨(u0 :: .pointer (some ⟨mb, 0, none⟩) :: u2 :: bv :: u4 :: u5 :: u6 :: .pointer (some ⟨xb, 0, none⟩) :: u8 :: u9 :: u10 :: u11 :: u12 :: u13 :: u14 :: u15 :: u16 :: u17 :: u18 :: u19 :: u20 :: u21 :: u22 :: u23 :: u24 :: u25 :: u26 :: u27 :: u28 :: u29 :: u30 :: u31 :: u32 :: u33 :: u34 :: u35 :: u36 :: u37 :: u38 :: u39 :: u40 :: u41 :: u42 :: u43 :: u44 :: u45 :: u46 :: u47 :: u48 :: u49 :: u50 :: u51 :: u52 :: u53 :: u54 :: u55 :: u56 :: u57 :: u58 :: u59 :: u60 :: u61 :: u62 :: u63 :: u64 :: u65 :: u66 :: u67 :: u68 :: u69 :: u70 :: u71 :: u72 :: u73 :: u74 :: u75 :: u76 :: u77 :: u78 :: u79 :: u80 :: u81 :: u82 :: u83 :: u84 :: u85 :: u86 :: u87 :: u88 :: u89 :: u90 :: u91 :: u92 :: u93 :: u94 :: u95 :: u96 :: u97 :: u98 :: u99 :: u100 :: u101 :: u102 :: u103 :: u104 :: u105 :: u106 :: u107 :: u108 :: u109 :: u110 :: u111 :: u112 :: u113 :: u114 :: u115 :: u116 :: []).toArray, []⟩ := ⟨_, rfl⟩
  rw [← hbase]
  unfold by21R
  conv => arg 2; whnf
  have nd : ∀ j, (j ≠ 99 ∧ j ≠ 100 ∧ j ≠ 101 ∧ j ≠ 102 ∧ j ≠ 103 ∧ j ≠ 104 ∧ j ≠ 105 ∧ j ≠ 106 ∧ j ≠ 3) → ∀ i, i < 9 → dst i ≠ j := by
    rw [hdd]
    intro j hj i hi
    rcases (by omega : i = 0 ∨ i = 1 ∨ i = 2 ∨ i = 3 ∨ i = 4 ∨ i = 5 ∨ i = 6 ∨ i = 7 ∨ i = 8) with rfl | rfl | rfl | rfl | rfl | rfl | rfl | rfl | rfl <;> simp <;> omega
  refine Rg.region_chain 9 dst pv mk 4 1 0 (by21C B mb xb m pV lV bv l nm t b1 n W) (by kernel_rfl) (by kernel_rfl) rfl ?_ ?_ ?_ ?_ (by decide) ?_ ?_ (by subst hpv; rfl) ?_ ?_ ?_ ?_ ?_ ?_ ?_ ?_
  · subst hdd
    intro i j hi hj h
    rcases (by omega : i = 0 ∨ i = 1 ∨ i = 2 ∨ i = 3 ∨ i = 4 ∨ i = 5 ∨ i = 6 ∨ i = 7 ∨ i = 8) with rfl | rfl | rfl | rfl | rfl | rfl | rfl | rfl | rfl <;> rcases (by omega : j = 0 ∨ j = 1 ∨ j = 2 ∨ j = 3 ∨ j = 4 ∨ j = 5 ∨ j = 6 ∨ j = 7 ∨ j = 8) with rfl | rfl | rfl | rfl | rfl | rfl | rfl | rfl | rfl <;> first | rfl | (exfalso; revert h; decide)
  · subst hdd hbase
    intro i hi
    rcases (by omega : i = 0 ∨ i = 1 ∨ i = 2 ∨ i = 3 ∨ i = 4 ∨ i = 5 ∨ i = 6 ∨ i = 7 ∨ i = 8) with rfl | rfl | rfl | rfl | rfl | rfl | rfl | rfl | rfl <;> (show _ < 117; decide)
  · subst hmk
    intro i j hi hj h
    rcases (by omega : i = 0 ∨ i = 1 ∨ i = 2 ∨ i = 3) with rfl | rfl | rfl | rfl <;> rcases (by omega : j = 0 ∨ j = 1 ∨ j = 2 ∨ j = 3) with rfl | rfl | rfl | rfl <;> first | rfl | (exfalso; revert h; decide)
  · subst hmk
    intro j hj
    rcases (by omega : j = 0 ∨ j = 1 ∨ j = 2 ∨ j = 3) with rfl | rfl | rfl | rfl <;> decide
  · subst hmk
    intro j hj
    rcases (by omega : j = 0 ∨ j = 1 ∨ j = 2 ∨ j = 3) with rfl | rfl | rfl | rfl <;> decide
  · subst hmk hpv
    intro j hj
    rcases (by omega : j = 0 ∨ j = 1 ∨ j = 2 ∨ j = 3) with rfl | rfl | rfl | rfl <;> rfl
  · subst hmk
    intro j o hj ho
    rcases (by omega : j = 0 ∨ j = 1 ∨ j = 2) with rfl | rfl | rfl
    · obtain rfl := Option.some.inj ho
      exact ⟨⟨2, .chain⟩, by simp, rfl, rfl⟩
    · obtain rfl := Option.some.inj ho
      exact ⟨⟨6, .data⟩, by simp, rfl, rfl⟩
    · obtain rfl := Option.some.inj ho
      exact ⟨⟨7, .data⟩, by simp, rfl, rfl⟩
  · subst hmk
    intro o _ ho
    obtain rfl := Option.some.inj ho
    exact ⟨⟨1, .data⟩, by simp, rfl, rfl⟩
  · intro v
    exact ⟨(Below.refl _ _).drew, HX0.out, HX1.out, (fun h => by cases h), HO0.out⟩
  · subst hmk
    intro k b v v' z h1 h2 hc
    refine ⟨hc.bel, hc.bx0, hc.bx1, fun e hk => by rw [h2 e]; exact hc.lit e hk, ?_⟩
    have hm := hc.st
    rcases k with _ | _ | _ | _ | k
    · simp only [by21S] at hm ⊢
      exact hm
    · have e2 : v' 2 = v 2 := h1 0 (by omega)
      simp only [by21S, e2] at hm ⊢
      exact hm
    · have e2 : v' 2 = v 2 := h1 0 (by omega)
      have e6 : v' 6 = v 6 := h1 1 (by omega)
      simp only [by21S, e2, e6] at hm ⊢
      exact hm
    · have e7 : v' 7 = v 7 := h1 2 (by omega)
      simp only [by21S, e7] at hm ⊢
      exact hm
    · have e8 : v' 8 = v 8 := h1 3 (by omega)
      simp only [by21S, e8] at hm ⊢
      exact hm
  · subst hdd hmk hpv hbase
    intro i o hi ho hnm hnq
    rcases (by omega : i = 0 ∨ i = 1 ∨ i = 2 ∨ i = 3 ∨ i = 4 ∨ i = 5 ∨ i = 6 ∨ i = 7 ∨ i = 8) with rfl | rfl | rfl | rfl | rfl | rfl | rfl | rfl | rfl
    · obtain rfl := Option.some.inj ho
      refine ⟨_, rfl, fun k b val z a hc seen K hK => ?_⟩
      have e3 : a.eval (.tmp 3) = bv := seen.kq 8 _ _ (by decide) rfl ⟨⟨0, .phase⟩, by simp, rfl, rfl⟩ rfl
      exact Rg.op_value_w rfl (Rg.wanted_none rfl) (by simp [execOp, e3]) hK
    · exact absurd rfl hnq
    · exact absurd rfl (hnm 0 (by decide))
    · obtain rfl := Option.some.inj ho
      refine ⟨_, rfl, fun k b val z a hc seen K hK => ?_⟩
      have e7 : a.eval (.tmp 7) = .pointer (some ⟨xb, 0, none⟩) := seen.kp 7 _ (nd 7 (by decide)) rfl
      exact Rg.op_value_w rfl (Rg.wanted_none rfl) (Rg.ex_field a.eval _ 61 (.tmp 7) 1 rfl (by rw [e7]; simp [go_sem])) hK
    · obtain rfl := Option.some.inj ho
      refine ⟨_, rfl, fun k b val z a hc seen K hK => ?_⟩
      have e102 : a.eval (.tmp 102) = .pointer (some ⟨xb, 1, none⟩) := seen.pl ⟨3, .data⟩ (by simp) rfl _ rfl
      exact Rg.op_value_w rfl (Rg.wanted_none rfl) (Rg.ex_field a.eval _ 59 (.tmp 102) 2 rfl (by rw [e102]; simp [go_sem])) hK
    · obtain rfl := Option.some.inj ho
      refine ⟨_, rfl, fun k b val z a hc seen K hK => ?_⟩
      have e103 : a.eval (.tmp 103) = .pointer (some ⟨xb, 3, none⟩) := seen.pl ⟨4, .data⟩ (by simp) rfl _ rfl
      have y1_0 := hc.bx1.cell 0
      have y1_1 := hc.bx1.cell 1
      have y1_2 := hc.bx1.cell 2
      have y1_3 := hc.bx1.cell 3
      simp only [List.getElem?_toArray, List.getElem?_cons_zero, List.getElem?_cons_succ] at y1_0 y1_1 y1_2 y1_3
      exact Rg.op_value_w rfl (Rg.wanted_none rfl) (Rg.ex_load a.eval _ 9 (.tmp 103) rfl (by rw [e103]; simp [go_sem, y1_3])) hK
    · exact absurd rfl (hnm 1 (by decide))
    · exact absurd rfl (hnm 2 (by decide))
    · exact absurd rfl (hnm 3 (by decide))
  · subst hdd hmk hpv hbase
    intro j o b val z a hj ho hc hcb seen K hK
    have hm := hc.st
    rcases (by omega : j = 0 ∨ j = 1 ∨ j = 2 ∨ j = 3) with rfl | rfl | rfl | rfl
    · obtain rfl := Option.some.inj ho
      have e99 : a.eval (.tmp 99) = bv := seen.pl ⟨0, .data⟩ (by simp) rfl _ rfl
      have e100 : a.eval (.tmp 100) = val 1 := seen.at_ ⟨1, .data⟩ (by simp) rfl
      obtain ⟨v1, z1, r, ho1, hg, hb1⟩ := app_nextB (l := l) (m := [(1 : UInt8)]) hB hc.bel hm (hc.lit (hcb (by omega)) (by omega)).row (by simp; omega)
      have ho0 := hm
      refine Rg.op_value_w rfl (Rg.wanted_none rfl) (Rg.ex_append a.eval _ (.tmp 99) (.tmp 100) 22 rfl e99 e100 r) (hK _ _ ⟨hb1, box_grown hc.bx0 hg (own_neB ho0 hc.bx0 (by decide)), box_grown hc.bx1 hg (own_neB ho0 hc.bx1 (by decide)), (fun _ he => absurd he (by omega)), (show OwnB _ B (Rg.upd val 2 _ 2) (l ++ [(1 : UInt8)]) from by rw [Rg.upd_same]; exact ho1)⟩)
    · obtain rfl := Option.some.inj ho
      have e104 : a.eval (.tmp 104) = .string t := seen.pl ⟨5, .data⟩ (by simp) rfl _ rfl
      have C1 := rtext_any t z ht
      refine Rg.op_call_w rfl (Rg.wanted_none rfl) (ex_call1 _ _ (.tmp 104) 9 48 rfl e104 rfl _ (call_fn Tryd.func48 rfl rfl _ _)) C1 ?_
      rintro e z1 ⟨⟨v1, rfl, ho1⟩, hz⟩
      have ho2 := Rw.own_less (B' := B) (Nat.le_trans hB hc.bel.size) ho1
      refine ⟨v1, rfl, hK _ _ ⟨hc.bel.trans (hz.mono (Nat.le_trans hB hc.bel.size)), hc.bx0.on hz, hc.bx1.on hz, (fun _ he => absurd he (by omega)), ⟨(show OwnB _ B (Rg.upd val 6 _ 2) (l ++ [(1 : UInt8)]) from by rw [Rg.upd_other _ _ (by decide)]; exact Rw.own_on hm hz), (show RowB _ (Rg.upd val 6 _ 6) (textB t) from by rw [Rg.upd_same]; exact Row.of_own ho2)⟩⟩⟩
    · obtain rfl := Option.some.inj ho
      have e101 : a.eval (.tmp 101) = val 2 := seen.at_ ⟨2, .data⟩ (by simp) rfl
      have e105 : a.eval (.tmp 105) = val 6 := seen.at_ ⟨6, .data⟩ (by simp) rfl
      obtain ⟨v1, z1, r, ho1, hg, hb1⟩ := app_nextB (l := l ++ [(1 : UInt8)]) (m := textB t) hB hc.bel hm.1 hm.2 (by rw [List.length_append, textB_lenW t ht]; simp; omega)
      have ho0 := hm.1
      refine Rg.op_value_w rfl (Rg.wanted_none rfl) (Rg.ex_append a.eval _ (.tmp 101) (.tmp 105) 22 rfl e101 e105 r) (hK _ _ ⟨hb1, box_grown hc.bx0 hg (own_neB ho0 hc.bx0 (by decide)), box_grown hc.bx1 hg (own_neB ho0 hc.bx1 (by decide)), (fun _ he => absurd he (by omega)), (show OwnB _ B (Rg.upd val 7 _ 7) (l ++ [(1 : UInt8)] ++ textB t) from by rw [Rg.upd_same]; exact ho1)⟩)
    · obtain rfl := Option.some.inj ho
      have e106 : a.eval (.tmp 106) = val 7 := seen.at_ ⟨7, .data⟩ (by simp) rfl
      refine Rg.op_value_w rfl (Rg.wanted_none rfl) (Rg.ex_assign a.eval _ (.tmp 106) rfl _) (hK _ _ ⟨hc.bel, hc.bx0, hc.bx1, (fun _ he => absurd he (by omega)), ?_⟩)
      show OwnB _ B (Rg.upd val 8 _ 8) (l ++ [(1 : UInt8)] ++ textB t)
      rw [Rg.upd_same, e106]
      exact hm
  · subst hdd hmk hpv hbase
    intro o k val z a hk ho hc seen K hK
    obtain rfl := Option.some.inj ho
    have hm := hc.st
    have hz := new_below z (.cells #[.int .u8 (1 : UInt8).toNat] 5)
    refine Rg.op_value_w rfl (Rg.wanted_none rfl) (Rg.ex_build a.eval _ 22 1 #[(0, .const (.int .u8 1))] rfl (by simp only [List.map_toArray, List.map_cons, List.map_nil]; rfl) (lit_byteB z (1 : UInt8))) (hK _ _ ⟨hc.bel.alloc (Nat.le_trans hB hc.bel.size) _, hc.bx0.on hz, hc.bx1.on hz, (fun _ _ => (show LitB B (Rg.upd val 1 _ 1) (1 : UInt8) _ from by rw [Rg.upd_same]; exact LitB.made B z (1 : UInt8) (Nat.le_trans hB hc.bel.size))), ?_⟩)
    rcases (by omega : k = 0) with rfl
    · simp only [by21S] at hm ⊢
      exact Rw.own_on hm hz
  · subst hdd hbase
    intro a b val z hc hd hsz hk hv
    have hm := hc.st
    have hk2 : ∀ j, (j < 99 ∨ 99 + 8 ≤ j) → a.tmps[j]? = (u0 :: .pointer (some ⟨mb, 0, none⟩) :: u2 :: val 8 :: u4 :: u5 :: u6 :: .pointer (some ⟨xb, 0, none⟩) :: u8 :: u9 :: u10 :: u11 :: u12 :: u13 :: u14 :: u15 :: u16 :: u17 :: u18 :: u19 :: u20 :: u21 :: u22 :: u23 :: u24 :: u25 :: u26 :: u27 :: u28 :: u29 :: u30 :: u31 :: u32 :: u33 :: u34 :: u35 :: u36 :: u37 :: u38 :: u39 :: u40 :: u41 :: u42 :: u43 :: u44 :: u45 :: u46 :: u47 :: u48 :: u49 :: u50 :: u51 :: u52 :: u53 :: u54 :: u55 :: u56 :: u57 :: u58 :: u59 :: u60 :: u61 :: u62 :: u63 :: u64 :: u65 :: u66 :: u67 :: u68 :: u69 :: u70 :: u71 :: u72 :: u73 :: u74 :: u75 :: u76 :: u77 :: u78 :: u79 :: u80 :: u81 :: u82 :: u83 :: u84 :: u85 :: u86 :: u87 :: u88 :: u89 :: u90 :: u91 :: u92 :: u93 :: u94 :: u95 :: u96 :: u97 :: u98 :: u99 :: u100 :: u101 :: u102 :: u103 :: u104 :: u105 :: u106 :: u107 :: u108 :: u109 :: u110 :: u111 :: u112 :: u113 :: u114 :: u115 :: u116 :: [] : List Value)[j]? := fun j hj => by
      by_cases e : j = 3
      · subst e
        exact hv 8 (by decide)
      · have h1 := (hk j (nd j (by omega))).trans List.getElem?_toArray
        rw [h1]
        rw [show (u0 :: .pointer (some ⟨mb, 0, none⟩) :: u2 :: val 8 :: u4 :: u5 :: u6 :: .pointer (some ⟨xb, 0, none⟩) :: u8 :: u9 :: u10 :: u11 :: u12 :: u13 :: u14 :: u15 :: u16 :: u17 :: u18 :: u19 :: u20 :: u21 :: u22 :: u23 :: u24 :: u25 :: u26 :: u27 :: u28 :: u29 :: u30 :: u31 :: u32 :: u33 :: u34 :: u35 :: u36 :: u37 :: u38 :: u39 :: u40 :: u41 :: u42 :: u43 :: u44 :: u45 :: u46 :: u47 :: u48 :: u49 :: u50 :: u51 :: u52 :: u53 :: u54 :: u55 :: u56 :: u57 :: u58 :: u59 :: u60 :: u61 :: u62 :: u63 :: u64 :: u65 :: u66 :: u67 :: u68 :: u69 :: u70 :: u71 :: u72 :: u73 :: u74 :: u75 :: u76 :: u77 :: u78 :: u79 :: u80 :: u81 :: u82 :: u83 :: u84 :: u85 :: u86 :: u87 :: u88 :: u89 :: u90 :: u91 :: u92 :: u93 :: u94 :: u95 :: u96 :: u97 :: u98 :: u99 :: u100 :: u101 :: u102 :: u103 :: u104 :: u105 :: u106 :: u107 :: u108 :: u109 :: u110 :: u111 :: u112 :: u113 :: u114 :: u115 :: u116 :: [] : List Value) = (u0 :: .pointer (some ⟨mb, 0, none⟩) :: u2 :: bv :: u4 :: u5 :: u6 :: .pointer (some ⟨xb, 0, none⟩) :: u8 :: u9 :: u10 :: u11 :: u12 :: u13 :: u14 :: u15 :: u16 :: u17 :: u18 :: u19 :: u20 :: u21 :: u22 :: u23 :: u24 :: u25 :: u26 :: u27 :: u28 :: u29 :: u30 :: u31 :: u32 :: u33 :: u34 :: u35 :: u36 :: u37 :: u38 :: u39 :: u40 :: u41 :: u42 :: u43 :: u44 :: u45 :: u46 :: u47 :: u48 :: u49 :: u50 :: u51 :: u52 :: u53 :: u54 :: u55 :: u56 :: u57 :: u58 :: u59 :: u60 :: u61 :: u62 :: u63 :: u64 :: u65 :: u66 :: u67 :: u68 :: u69 :: u70 :: u71 :: u72 :: u73 :: u74 :: u75 :: u76 :: u77 :: u78 :: u79 :: u80 :: u81 :: u82 :: u83 :: u84 :: u85 :: u86 :: u87 :: u88 :: u89 :: u90 :: u91 :: u92 :: u93 :: u94 :: u95 :: u96 :: u97 :: u98 :: u99 :: u100 :: u101 :: u102 :: u103 :: u104 :: u105 :: u106 :: u107 :: u108 :: u109 :: u110 :: u111 :: u112 :: u113 :: u114 :: u115 :: u116 :: []).set 3 (val 8) from rfl, List.getElem?_set_ne (fun e2 => e e2.symm)]
    obtain ⟨mid, hmid, rfl⟩ := Rg.frame_mid (bl := (u0 :: .pointer (some ⟨mb, 0, none⟩) :: u2 :: val 8 :: u4 :: u5 :: u6 :: .pointer (some ⟨xb, 0, none⟩) :: u8 :: u9 :: u10 :: u11 :: u12 :: u13 :: u14 :: u15 :: u16 :: u17 :: u18 :: u19 :: u20 :: u21 :: u22 :: u23 :: u24 :: u25 :: u26 :: u27 :: u28 :: u29 :: u30 :: u31 :: u32 :: u33 :: u34 :: u35 :: u36 :: u37 :: u38 :: u39 :: u40 :: u41 :: u42 :: u43 :: u44 :: u45 :: u46 :: u47 :: u48 :: u49 :: u50 :: u51 :: u52 :: u53 :: u54 :: u55 :: u56 :: u57 :: u58 :: u59 :: u60 :: u61 :: u62 :: u63 :: u64 :: u65 :: u66 :: u67 :: u68 :: u69 :: u70 :: u71 :: u72 :: u73 :: u74 :: u75 :: u76 :: u77 :: u78 :: u79 :: u80 :: u81 :: u82 :: u83 :: u84 :: u85 :: u86 :: u87 :: u88 :: u89 :: u90 :: u91 :: u92 :: u93 :: u94 :: u95 :: u96 :: u97 :: u98 :: u99 :: u100 :: u101 :: u102 :: u103 :: u104 :: u105 :: u106 :: u107 :: u108 :: u109 :: u110 :: u111 :: u112 :: u113 :: u114 :: u115 :: u116 :: [])) 99 8 hd hsz (by show 99 + 8 ≤ 117; decide) hk2
    match mid, hmid with
    | n99 :: n100 :: n101 :: n102 :: n103 :: n104 :: n105 :: n106 :: [], _ => exact HQ.out z (val 8) n99 n100 n101 n102 n103 n104 n105 n106 hm hc.bel hc.bx0 hc.bx1
end Go.Proofs.YtfcgfnmokbbcaaaDoor.Wr

namespace Go.Proofs.YtfcgfnmokbbcaaaDoor.Wr
open Go.RowKit Go.Proofs.YtfcgfnmokbbcaaaDoor Go.Proofs.YtfcgfnmokbbcaaaDoor.Rw Go.Proofs.YtfcgfnmokbbcaaaDoor.Nm Go.Proofs.YtfcgfnmokbbcaaaDoor.At Go.Proofs.YtfcgfnmokbbcaaaDoor.Pr

def by22S (B _mb _xb : Nat) (_m : Mg) (_pV _lV bv : Value) (l : List UInt8) (_nm _t : ByteArray) (_b1 : Bool) (n : Int) : Nat → (Nat → Value) → World → Prop
  | 0, _, w => OwnB w B bv (l)
  | 1, v, w => OwnB w B (v 2) (l ++ [(0 : UInt8)])
  | 2, v, w => OwnB w B (v 2) (l ++ [(0 : UInt8)]) ∧ RowB w (v 6) (numB n)
  | 3, v, w => OwnB w B (v 7) (l ++ [(0 : UInt8)] ++ numB n)
  | _ + 4, v, w => OwnB w B (v 8) (l ++ [(0 : UInt8)] ++ numB n)
structure by22C (B mb xb : Nat) (m : Mg) (pV lV bv : Value) (l : List UInt8) (nm t : ByteArray) (b1 : Bool) (n : Int) (W : World) (k : Nat) (b : Bool) (v : Nat → Value) (w : World) : Prop where
  bel : Below B W w
  bx0 : Box w mb (mcells m pV lV) 32
  bx1 : Box w xb #[.string nm, .bool b1, .int .i64 n, .string t] 61
  lit : b = true → k ≤ 0 → LitB B (v 1) (0 : UInt8) w
  st : by22S B mb xb m pV lV bv l nm t b1 n k v w
noncomputable def by22R : Code := ((Tryd.f19.body.bind (findRegion 22)).getD .skip)
set_option maxRecDepth 100000 in
set_option maxHeartbeats 8000000 in
theorem by22 (B mb xb : Nat) (m : Mg) (pV lV bv : Value) (l : List UInt8) (nm t : ByteArray) (b1 : Bool) (n : Int) (Q : Exit → Act → World → Prop) (W : World) (u0 u2 u4 u5 u6 u8 u9 u10 u11 u12 u13 u14 u15 u16 u17 u18 u19 u20 u21 u22 u23 u24 u25 u26 u27 u28 u29 u30 u31 u32 u33 u34 u35 u36 u37 u38 u39 u40 u41 u42 u43 u44 u45 u46 u47 u48 u49 u50 u51 u52 u53 u54 u55 u56 u57 u58 u59 u60 u61 u62 u63 u64 u65 u66 u67 u68 u69 u70 u71 u72 u73 u74 u75 u76 u77 u78 u79 u80 u81 u82 u83 u84 u85 u86 u87 u88 u89 u90 u91 u92 u93 u94 u95 u96 u97 u98 u99 u100 u101 u102 u103 u104 u105 u106 u107 u108 u109 u110 u111 u112 u113 u114 u115 u116 : Value)
    (hB : B ≤ W.heap.size) (hx0 : Box W mb (mcells m pV lV) 32) (hx1 : Box W xb #[.string nm, .bool b1, .int .i64 n, .string t] 61) (ho0 : OwnB W B bv (l)) (hl : l.length ≤ 10000)
    (hQ : ∀ (w' : World) (v n107 n108 n109 n110 n111 n112 n113 n114 : Value), OwnB w' B v (l ++ [(0 : UInt8)] ++ numB n) → Below B W w' → Box w' mb (mcells m pV lV) 32 → Box w' xb #[.string nm, .bool b1, .int .i64 n, .string t] 61 → Q .normal ⟨(u0 :: .pointer (some ⟨mb, 0, none⟩) :: u2 :: v :: u4 :: u5 :: u6 :: .pointer (some ⟨xb, 0, none⟩) :: u8 :: u9 :: u10 :: u11 :: u12 :: u13 :: u14 :: u15 :: u16 :: u17 :: u18 :: u19 :: u20 :: u21 :: u22 :: u23 :: u24 :: u25 :: u26 :: u27 :: u28 :: u29 :: u30 :: u31 :: u32 :: u33 :: u34 :: u35 :: u36 :: u37 :: u38 :: u39 :: u40 :: u41 :: u42 :: u43 :: u44 :: u45 :: u46 :: u47 :: u48 :: u49 :: u50 :: u51 :: u52 :: u53 :: u54 :: u55 :: u56 :: u57 :: u58 :: u59 :: u60 :: u61 :: u62 :: u63 :: u64 :: u65 :: u66 :: u67 :: u68 :: u69 :: u70 :: u71 :: u72 :: u73 :: u74 :: u75 :: u76 :: u77 :: u78 :: u79 :: u80 :: u81 :: u82 :: u83 :: u84 :: u85 :: u86 :: u87 :: u88 :: u89 :: u90 :: u91 :: u92 :: u93 :: u94 :: u95 :: u96 :: u97 :: u98 :: u99 :: u100 :: u101 :: u102 :: u103 :: u104 :: u105 :: u106 :: n107 :: n108 :: n109 :: n110 :: n111 :: n112 :: n113 :: n114 :: u115 :: u116 :: []).toArray, []⟩ w') :
    Code.wp Tryd.prog by22R Q ⟨(u0 :: .pointer (some ⟨mb, 0, none⟩) :: u2 :: bv :: u4 :: u5 :: u6 :: .pointer (some ⟨xb, 0, none⟩) :: u8 :: u9 :: u10 :: u11 :: u12 :: u13 :: u14 :: u15 :: u16 :: u17 :: u18 :: u19 :: u20 :: u21 :: u22 :: u23 :: u24 :: u25 :: u26 :: u27 :: u28 :: u29 :: u30 :: u31 :: u32 :: u33 :: u34 :: u35 :: u36 :: u37 :: u38 :: u39 :: u40 :: u41 :: u42 :: u43 :: u44 :: u45 :: u46 :: u47 :: u48 :: u49 :: u50 :: u51 :: u52 :: u53 :: u54 :: u55 :: u56 :: u57 :: u58 :: u59 :: u60 :: u61 :: u62 :: u63 :: u64 :: u65 :: u66 :: u67 :: u68 :: u69 :: u70 :: u71 :: u72 :: u73 :: u74 :: u75 :: u76 :: u77 :: u78 :: u79 :: u80 :: u81 :: u82 :: u83 :: u84 :: u85 :: u86 :: u87 :: u88 :: u89 :: u90 :: u91 :: u92 :: u93 :: u94 :: u95 :: u96 :: u97 :: u98 :: u99 :: u100 :: u101 :: u102 :: u103 :: u104 :: u105 :: u106 :: u107 :: u108 :: u109 :: u110 :: u111 :: u112 :: u113 :: u114 :: u115 :: u116 :: []).toArray, []⟩ W := by
  have HQ := Lib.hid hQ
  have HX0 := Lib.hid hx0
  have HX1 := Lib.hid hx1
  have HO0 := Lib.hid ho0
  clear hQ hx0 hx1 ho0
  obtain ⟨dst, hdd⟩ : ∃ d : Nat → Nat, d = fun i => [107, 108, 109, 110, 111, 112, 113, 114, 3].getD i 3 := ⟨_, rfl⟩
  obtain ⟨mk, hmk⟩ : ∃ d : Nat → Nat, d = fun j => [2, 6, 7, 8].getD j 999 := ⟨_, rfl⟩
  obtain ⟨pv, hpv⟩ : ∃ e : Nat → Option Value, e = fun i => ([some (bv), none, none, some (.pointer (some ⟨xb, 1, none⟩)), some (.pointer (some ⟨xb, 2, none⟩)), some (.int .i64 n), none, none, none] : List (Option Value)).getD i none := ⟨_, rfl⟩
  obtain ⟨base, hbase⟩ : ∃ b : Act, b = ⟨(u0 :: .pointer (some ⟨mb, 0, none⟩) :: u2 :: bv :: u4 :: u5 :: u6 :: .pointer (some ⟨xb, 0, none⟩) :: u8 :: u9 :: u10 :: u11 :: u12 :: u13 :: u14 :: u15 :: u16 :: u17 :: u18 :: u19 :: u20 :: u21 :: u22 :: u23 :: u24 :: u25 :: u26 :: u27 :: u28 :: u29 :: u30 :: u31 :: u32 :: u33 :: u34 :: u35 :: u36 :: u37 :: u38 :: u39 :: u40 :: u41 :: u42 :: u43 :: u44 :: u45 :: u46 :: u47 :: u48 :: u49 :: u50 :: u51 :: u52 :: u53 :: u54 :: u55 :: u56 :: u57 :: u58 :: u59 :: u60 :: u61 :: u62 :: u63 :: u64 :: u65 :: u66 :: u67 :: u68 :: u69 :: u70 :: u71 :: u72 :: u73 :: u74 :: u75 :: u76 :: u77 :: u78 :: u79 :: u80 :: u81 :: u82 :: u83 :: u84 :: u85 :: u86 :: u87 :: u88 :: u89 :: u90 :: u91 :: u92 :: u93 :: u94 :: u95 :: u96 :: u97 :: u98 :: u99 :: u100 :: u101 :: u102 :: u103 :: u104 :: u105 :: u106 :: u107 :: u108 :: u109 :: u110 :: u111 :: u112 :: u113 :: u114 :: u115 :: u116 :: []).toArray, []⟩ := ⟨_, rfl⟩
  rw [← hbase]
  unfold by22R
  conv => arg 2; whnf
  have nd : ∀ j, (j ≠ 107 ∧ j ≠ 108 ∧ j ≠ 109 ∧ j ≠ 110 ∧ j ≠ 111 ∧ j ≠ 112 ∧ j ≠ 113 ∧ j ≠ 114 ∧ j ≠ 3) → ∀ i, i < 9 → dst i ≠ j := by
    rw [hdd]
    intro j hj i hi
    rcases (by omega : i = 0 ∨ i = 1 ∨ i = 2 ∨ i = 3 ∨ i = 4 ∨ i = 5 ∨ i = 6 ∨ i = 7 ∨ i = 8) with rfl | rfl | rfl | rfl | rfl | rfl | rfl | rfl | rfl <;> simp <;> omega
  refine Rg.region_chain 9 dst pv mk 4 1 0 (by22C B mb xb m pV lV bv l nm t b1 n W) (by kernel_rfl) (by kernel_rfl) rfl ?_ ?_ ?_ ?_ (by decide) ?_ ?_ (by subst hpv; rfl) ?_ ?_ ?_ ?_ ?_ ?_ ?_ ?_
  · subst hdd
    intro i j hi hj h
    rcases (by omega : i = 0 ∨ i = 1 ∨ i = 2 ∨ i = 3 ∨ i = 4 ∨ i = 5 ∨ i = 6 ∨ i = 7 ∨ i = 8) with rfl | rfl | rfl | rfl | rfl | rfl | rfl | rfl | rfl <;> rcases (by omega : j = 0 ∨ j = 1 ∨ j = 2 ∨ j = 3 ∨ j = 4 ∨ j = 5 ∨ j = 6 ∨ j = 7 ∨ j = 8) with rfl | rfl | rfl | rfl | rfl | rfl | rfl | rfl | rfl <;> first | rfl | (exfalso; revert h; decide)
  · subst hdd hbase
    intro i hi
    rcases (by omega : i = 0 ∨ i = 1 ∨ i = 2 ∨ i = 3 ∨ i = 4 ∨ i = 5 ∨ i = 6 ∨ i = 7 ∨ i = 8) with rfl | rfl | rfl | rfl | rfl | rfl | rfl | rfl | rfl <;> (show _ < 117; decide)
  · subst hmk
    intro i j hi hj h
    rcases (by omega : i = 0 ∨ i = 1 ∨ i = 2 ∨ i = 3) with rfl | rfl | rfl | rfl <;> rcases (by omega : j = 0 ∨ j = 1 ∨ j = 2 ∨ j = 3) with rfl | rfl | rfl | rfl <;> first | rfl | (exfalso; revert h; decide)
  · subst hmk
    intro j hj
    rcases (by omega : j = 0 ∨ j = 1 ∨ j = 2 ∨ j = 3) with rfl | rfl | rfl | rfl <;> decide
  · subst hmk
    intro j hj
    rcases (by omega : j = 0 ∨ j = 1 ∨ j = 2 ∨ j = 3) with rfl | rfl | rfl | rfl <;> decide
  · subst hmk hpv
    intro j hj
    rcases (by omega : j = 0 ∨ j = 1 ∨ j = 2 ∨ j = 3) with rfl | rfl | rfl | rfl <;> rfl
  · subst hmk
    intro j o hj ho
    rcases (by omega : j = 0 ∨ j = 1 ∨ j = 2) with rfl | rfl | rfl
    · obtain rfl := Option.some.inj ho
      exact ⟨⟨2, .chain⟩, by simp, rfl, rfl⟩
    · obtain rfl := Option.some.inj ho
      exact ⟨⟨6, .data⟩, by simp, rfl, rfl⟩
    · obtain rfl := Option.some.inj ho
      exact ⟨⟨7, .data⟩, by simp, rfl, rfl⟩
  · subst hmk
    intro o _ ho
    obtain rfl := Option.some.inj ho
    exact ⟨⟨1, .data⟩, by simp, rfl, rfl⟩
  · intro v
    exact ⟨(Below.refl _ _).drew, HX0.out, HX1.out, (fun h => by cases h), HO0.out⟩
  · subst hmk
    intro k b v v' z h1 h2 hc
    refine ⟨hc.bel, hc.bx0, hc.bx1, fun e hk => by rw [h2 e]; exact hc.lit e hk, ?_⟩
    have hm := hc.st
    rcases k with _ | _ | _ | _ | k
    · simp only [by22S] at hm ⊢
      exact hm
    · have e2 : v' 2 = v 2 := h1 0 (by omega)
      simp only [by22S, e2] at hm ⊢
      exact hm
    · have e2 : v' 2 = v 2 := h1 0 (by omega)
      have e6 : v' 6 = v 6 := h1 1 (by omega)
      simp only [by22S, e2, e6] at hm ⊢
      exact hm
    · have e7 : v' 7 = v 7 := h1 2 (by omega)
      simp only [by22S, e7] at hm ⊢
      exact hm
    · have e8 : v' 8 = v 8 := h1 3 (by omega)
      simp only [by22S, e8] at hm ⊢
      exact hm
  · subst hdd hmk hpv hbase
    intro i o hi ho hnm hnq
    rcases (by omega : i = 0 ∨ i = 1 ∨ i = 2 ∨ i = 3 ∨ i = 4 ∨ i = 5 ∨ i = 6 ∨ i = 7 ∨ i = 8) with rfl | rfl | rfl | rfl | rfl | rfl | rfl | rfl | rfl
    · obtain rfl := Option.some.inj ho
      refine ⟨_, rfl, fun k b val z a hc seen K hK => ?_⟩
      have e3 : a.eval (.tmp 3) = bv := seen.kq 8 _ _ (by decide) rfl ⟨⟨0, .phase⟩, by simp, rfl, rfl⟩ rfl
      exact Rg.op_value_w rfl (Rg.wanted_none rfl) (by simp [execOp, e3]) hK
    · exact absurd rfl hnq
    · exact absurd rfl (hnm 0 (by decide))
    · obtain rfl := Option.some.inj ho
      refine ⟨_, rfl, fun k b val z a hc seen K hK => ?_⟩
      have e7 : a.eval (.tmp 7) = .pointer (some ⟨xb, 0, none⟩) := seen.kp 7 _ (nd 7 (by decide)) rfl
      exact Rg.op_value_w rfl (Rg.wanted_none rfl) (Rg.ex_field a.eval _ 61 (.tmp 7) 1 rfl (by rw [e7]; simp [go_sem])) hK
    · obtain rfl := Option.some.inj ho
      refine ⟨_, rfl, fun k b val z a hc seen K hK => ?_⟩
      have e110 : a.eval (.tmp 110) = .pointer (some ⟨xb, 1, none⟩) := seen.pl ⟨3, .data⟩ (by simp) rfl _ rfl
      exact Rg.op_value_w rfl (Rg.wanted_none rfl) (Rg.ex_field a.eval _ 59 (.tmp 110) 1 rfl (by rw [e110]; simp [go_sem])) hK
    · obtain rfl := Option.some.inj ho
      refine ⟨_, rfl, fun k b val z a hc seen K hK => ?_⟩
      have e111 : a.eval (.tmp 111) = .pointer (some ⟨xb, 2, none⟩) := seen.pl ⟨4, .data⟩ (by simp) rfl _ rfl
      have y1_0 := hc.bx1.cell 0
      have y1_1 := hc.bx1.cell 1
      have y1_2 := hc.bx1.cell 2
      have y1_3 := hc.bx1.cell 3
      simp only [List.getElem?_toArray, List.getElem?_cons_zero, List.getElem?_cons_succ] at y1_0 y1_1 y1_2 y1_3
      exact Rg.op_value_w rfl (Rg.wanted_none rfl) (Rg.ex_load a.eval _ 3 (.tmp 111) rfl (by rw [e111]; simp [go_sem, y1_2])) hK
    · exact absurd rfl (hnm 1 (by decide))
    · exact absurd rfl (hnm 2 (by decide))
    · exact absurd rfl (hnm 3 (by decide))
  · subst hdd hmk hpv hbase
    intro j o b val z a hj ho hc hcb seen K hK
    have hm := hc.st
    rcases (by omega : j = 0 ∨ j = 1 ∨ j = 2 ∨ j = 3) with rfl | rfl | rfl | rfl
    · obtain rfl := Option.some.inj ho
      have e107 : a.eval (.tmp 107) = bv := seen.pl ⟨0, .data⟩ (by simp) rfl _ rfl
      have e108 : a.eval (.tmp 108) = val 1 := seen.at_ ⟨1, .data⟩ (by simp) rfl
      obtain ⟨v1, z1, r, ho1, hg, hb1⟩ := app_nextB (l := l) (m := [(0 : UInt8)]) hB hc.bel hm (hc.lit (hcb (by omega)) (by omega)).row (by simp; omega)
      have ho0 := hm
      refine Rg.op_value_w rfl (Rg.wanted_none rfl) (Rg.ex_append a.eval _ (.tmp 107) (.tmp 108) 22 rfl e107 e108 r) (hK _ _ ⟨hb1, box_grown hc.bx0 hg (own_neB ho0 hc.bx0 (by decide)), box_grown hc.bx1 hg (own_neB ho0 hc.bx1 (by decide)), (fun _ he => absurd he (by omega)), (show OwnB _ B (Rg.upd val 2 _ 2) (l ++ [(0 : UInt8)]) from by rw [Rg.upd_same]; exact ho1)⟩)
    · obtain rfl := Option.some.inj ho
      have e112 : a.eval (.tmp 112) = .int .i64 n := seen.pl ⟨5, .data⟩ (by simp) rfl _ rfl
      have C1 := rnum_any n z
      refine Rg.op_call_w rfl (Rg.wanted_none rfl) (ex_call1 _ _ (.tmp 112) 3 49 rfl e112 rfl _ (call_fn Tryd.func49 rfl rfl _ _)) C1 ?_
      rintro e z1 ⟨⟨v1, rfl, ho1⟩, hz⟩
      have ho2 := Rw.own_less (B' := B) (Nat.le_trans hB hc.bel.size) ho1
      refine ⟨v1, rfl, hK _ _ ⟨hc.bel.trans (hz.mono (Nat.le_trans hB hc.bel.size)), hc.bx0.on hz, hc.bx1.on hz, (fun _ he => absurd he (by omega)), ⟨(show OwnB _ B (Rg.upd val 6 _ 2) (l ++ [(0 : UInt8)]) from by rw [Rg.upd_other _ _ (by decide)]; exact Rw.own_on hm hz), (show RowB _ (Rg.upd val 6 _ 6) (numB n) from by rw [Rg.upd_same]; exact Row.of_own ho2)⟩⟩⟩
    · obtain rfl := Option.some.inj ho
      have e109 : a.eval (.tmp 109) = val 2 := seen.at_ ⟨2, .data⟩ (by simp) rfl
      have e113 : a.eval (.tmp 113) = val 6 := seen.at_ ⟨6, .data⟩ (by simp) rfl
      obtain ⟨v1, z1, r, ho1, hg, hb1⟩ := app_nextB (l := l ++ [(0 : UInt8)]) (m := numB n) hB hc.bel hm.1 hm.2 (by rw [List.length_append, numB_len]; simp; omega)
      have ho0 := hm.1
      refine Rg.op_value_w rfl (Rg.wanted_none rfl) (Rg.ex_append a.eval _ (.tmp 109) (.tmp 113) 22 rfl e109 e113 r) (hK _ _ ⟨hb1, box_grown hc.bx0 hg (own_neB ho0 hc.bx0 (by decide)), box_grown hc.bx1 hg (own_neB ho0 hc.bx1 (by decide)), (fun _ he => absurd he (by omega)), (show OwnB _ B (Rg.upd val 7 _ 7) (l ++ [(0 : UInt8)] ++ numB n) from by rw [Rg.upd_same]; exact ho1)⟩)
    · obtain rfl := Option.some.inj ho
      have e114 : a.eval (.tmp 114) = val 7 := seen.at_ ⟨7, .data⟩ (by simp) rfl
      refine Rg.op_value_w rfl (Rg.wanted_none rfl) (Rg.ex_assign a.eval _ (.tmp 114) rfl _) (hK _ _ ⟨hc.bel, hc.bx0, hc.bx1, (fun _ he => absurd he (by omega)), ?_⟩)
      show OwnB _ B (Rg.upd val 8 _ 8) (l ++ [(0 : UInt8)] ++ numB n)
      rw [Rg.upd_same, e114]
      exact hm
  · subst hdd hmk hpv hbase
    intro o k val z a hk ho hc seen K hK
    obtain rfl := Option.some.inj ho
    have hm := hc.st
    have hz := new_below z (.cells #[.int .u8 (0 : UInt8).toNat] 5)
    refine Rg.op_value_w rfl (Rg.wanted_none rfl) (Rg.ex_build a.eval _ 22 1 #[(0, .const (.int .u8 0))] rfl (by simp only [List.map_toArray, List.map_cons, List.map_nil]; rfl) (lit_byteB z (0 : UInt8))) (hK _ _ ⟨hc.bel.alloc (Nat.le_trans hB hc.bel.size) _, hc.bx0.on hz, hc.bx1.on hz, (fun _ _ => (show LitB B (Rg.upd val 1 _ 1) (0 : UInt8) _ from by rw [Rg.upd_same]; exact LitB.made B z (0 : UInt8) (Nat.le_trans hB hc.bel.size))), ?_⟩)
    rcases (by omega : k = 0) with rfl
    · simp only [by22S] at hm ⊢
      exact Rw.own_on hm hz
  · subst hdd hbase
    intro a b val z hc hd hsz hk hv
    have hm := hc.st
    have hk2 : ∀ j, (j < 107 ∨ 107 + 8 ≤ j) → a.tmps[j]? = (u0 :: .pointer (some ⟨mb, 0, none⟩) :: u2 :: val 8 :: u4 :: u5 :: u6 :: .pointer (some ⟨xb, 0, none⟩) :: u8 :: u9 :: u10 :: u11 :: u12 :: u13 :: u14 :: u15 :: u16 :: u17 :: u18 :: u19 :: u20 :: u21 :: u22 :: u23 :: u24 :: u25 :: u26 :: u27 :: u28 :: u29 :: u30 :: u31 :: u32 :: u33 :: u34 :: u35 :: u36 :: u37 :: u38 :: u39 :: u40 :: u41 :: u42 :: u43 :: u44 :: u45 :: u46 :: u47 :: u48 :: u49 :: u50 :: u51 :: u52 :: u53 :: u54 :: u55 :: u56 :: u57 :: u58 :: u59 :: u60 :: u61 :: u62 :: u63 :: u64 :: u65 :: u66 :: u67 :: u68 :: u69 :: u70 :: u71 :: u72 :: u73 :: u74 :: u75 :: u76 :: u77 :: u78 :: u79 :: u80 :: u81 :: u82 :: u83 :: u84 :: u85 :: u86 :: u87 :: u88 :: u89 :: u90 :: u91 :: u92 :: u93 :: u94 :: u95 :: u96 :: u97 :: u98 :: u99 :: u100 :: u101 :: u102 :: u103 :: u104 :: u105 :: u106 :: u107 :: u108 :: u109 :: u110 :: u111 :: u112 :: u113 :: u114 :: u115 :: u116 :: [] : List Value)[j]? := fun j hj => by
      by_cases e : j = 3
      · subst e
        exact hv 8 (by decide)
      · have h1 := (hk j (nd j (by omega))).trans List.getElem?_toArray
        rw [h1]
        rw [show (u0 :: .pointer (some ⟨mb, 0, none⟩) :: u2 :: val 8 :: u4 :: u5 :: u6 :: .pointer (some ⟨xb, 0, none⟩) :: u8 :: u9 :: u10 :: u11 :: u12 :: u13 :: u14 :: u15 :: u16 :: u17 :: u18 :: u19 :: u20 :: u21 :: u22 :: u23 :: u24 :: u25 :: u26 :: u27 :: u28 :: u29 :: u30 :: u31 :: u32 :: u33 :: u34 :: u35 :: u36 :: u37 :: u38 :: u39 :: u40 :: u41 :: u42 :: u43 :: u44 :: u45 :: u46 :: u47 :: u48 :: u49 :: u50 :: u51 :: u52 :: u53 :: u54 :: u55 :: u56 :: u57 :: u58 :: u59 :: u60 :: u61 :: u62 :: u63 :: u64 :: u65 :: u66 :: u67 :: u68 :: u69 :: u70 :: u71 :: u72 :: u73 :: u74 :: u75 :: u76 :: u77 :: u78 :: u79 :: u80 :: u81 :: u82 :: u83 :: u84 :: u85 :: u86 :: u87 :: u88 :: u89 :: u90 :: u91 :: u92 :: u93 :: u94 :: u95 :: u96 :: u97 :: u98 :: u99 :: u100 :: u101 :: u102 :: u103 :: u104 :: u105 :: u106 :: u107 :: u108 :: u109 :: u110 :: u111 :: u112 :: u113 :: u114 :: u115 :: u116 :: [] : List Value) = (u0 :: .pointer (some ⟨mb, 0, none⟩) :: u2 :: bv :: u4 :: u5 :: u6 :: .pointer (some ⟨xb, 0, none⟩) :: u8 :: u9 :: u10 :: u11 :: u12 :: u13 :: u14 :: u15 :: u16 :: u17 :: u18 :: u19 :: u20 :: u21 :: u22 :: u23 :: u24 :: u25 :: u26 :: u27 :: u28 :: u29 :: u30 :: u31 :: u32 :: u33 :: u34 :: u35 :: u36 :: u37 :: u38 :: u39 :: u40 :: u41 :: u42 :: u43 :: u44 :: u45 :: u46 :: u47 :: u48 :: u49 :: u50 :: u51 :: u52 :: u53 :: u54 :: u55 :: u56 :: u57 :: u58 :: u59 :: u60 :: u61 :: u62 :: u63 :: u64 :: u65 :: u66 :: u67 :: u68 :: u69 :: u70 :: u71 :: u72 :: u73 :: u74 :: u75 :: u76 :: u77 :: u78 :: u79 :: u80 :: u81 :: u82 :: u83 :: u84 :: u85 :: u86 :: u87 :: u88 :: u89 :: u90 :: u91 :: u92 :: u93 :: u94 :: u95 :: u96 :: u97 :: u98 :: u99 :: u100 :: u101 :: u102 :: u103 :: u104 :: u105 :: u106 :: u107 :: u108 :: u109 :: u110 :: u111 :: u112 :: u113 :: u114 :: u115 :: u116 :: []).set 3 (val 8) from rfl, List.getElem?_set_ne (fun e2 => e e2.symm)]
    obtain ⟨mid, hmid, rfl⟩ := Rg.frame_mid (bl := (u0 :: .pointer (some ⟨mb, 0, none⟩) :: u2 :: val 8 :: u4 :: u5 :: u6 :: .pointer (some ⟨xb, 0, none⟩) :: u8 :: u9 :: u10 :: u11 :: u12 :: u13 :: u14 :: u15 :: u16 :: u17 :: u18 :: u19 :: u20 :: u21 :: u22 :: u23 :: u24 :: u25 :: u26 :: u27 :: u28 :: u29 :: u30 :: u31 :: u32 :: u33 :: u34 :: u35 :: u36 :: u37 :: u38 :: u39 :: u40 :: u41 :: u42 :: u43 :: u44 :: u45 :: u46 :: u47 :: u48 :: u49 :: u50 :: u51 :: u52 :: u53 :: u54 :: u55 :: u56 :: u57 :: u58 :: u59 :: u60 :: u61 :: u62 :: u63 :: u64 :: u65 :: u66 :: u67 :: u68 :: u69 :: u70 :: u71 :: u72 :: u73 :: u74 :: u75 :: u76 :: u77 :: u78 :: u79 :: u80 :: u81 :: u82 :: u83 :: u84 :: u85 :: u86 :: u87 :: u88 :: u89 :: u90 :: u91 :: u92 :: u93 :: u94 :: u95 :: u96 :: u97 :: u98 :: u99 :: u100 :: u101 :: u102 :: u103 :: u104 :: u105 :: u106 :: u107 :: u108 :: u109 :: u110 :: u111 :: u112 :: u113 :: u114 :: u115 :: u116 :: [])) 107 8 hd hsz (by show 107 + 8 ≤ 117; decide) hk2
    match mid, hmid with
    | n107 :: n108 :: n109 :: n110 :: n111 :: n112 :: n113 :: n114 :: [], _ => exact HQ.out z (val 8) n107 n108 n109 n110 n111 n112 n113 n114 hm hc.bel hc.bx0 hc.bx1
end Go.Proofs.YtfcgfnmokbbcaaaDoor.Wr

namespace Go.Proofs.YtfcgfnmokbbcaaaDoor.Wr
open Go.RowKit Go.Proofs.YtfcgfnmokbbcaaaDoor Go.Proofs.YtfcgfnmokbbcaaaDoor.Rw Go.Proofs.YtfcgfnmokbbcaaaDoor.Nm Go.Proofs.YtfcgfnmokbbcaaaDoor.At Go.Proofs.YtfcgfnmokbbcaaaDoor.Pr

noncomputable def byA : Code := ((Tryd.f19.body.bind (findBlock 2)).getD .skip)
set_option maxRecDepth 100000 in
set_option maxHeartbeats 16000000 in
theorem atts_loop (Q : Exit → Act → World → Prop) (w W : World) (mb : Nat) (m : Mg) (pV lV bv : Value) (l : List UInt8) (q : List A4) (ao : Option Addr) (ac : Nat) (u0 u2 u4 u5 u6 u7 u8 u9 u10 u11 u12 u13 u14 u15 u16 u17 u18 u19 u20 u21 u22 u23 u24 u25 u26 u27 u28 u29 u30 u31 u32 u33 u34 u35 u36 u37 u38 u39 u40 u41 u42 u43 u44 u45 u46 u47 u48 u49 u50 u51 u52 u53 u54 u55 u56 u57 u58 u59 u60 u61 u62 u63 u64 u65 u66 u67 u68 u69 u70 u71 u72 u73 u74 u75 u76 u77 u78 u79 u80 u81 u82 u83 u84 u88 u89 u90 u91 u92 u93 u94 u95 u96 u97 u98 u99 u100 u101 u102 u103 u104 u105 u106 u107 u108 u109 u110 u111 u112 u113 u114 u115 u116 : Value)
    (hb : Below w.heap.size w W) (hp : RowA w (.slice ao q.length ac) q) (hx : Box W mb (mcells m pV lV) 32) (ho : OwnB W w.heap.size bv l) (h1 : ∀ c ∈ q, c.1.size ≤ 12 ∧ c.2.2.2.size ≤ 12) (h2 : l.length + (q.flatMap attB).length ≤ 5000) (h3 : 2 ≤ l.length) (h4 : q.length ≤ 1000)
    (hQ : ∀ (w' : World) (v n7 n87 n88 n89 n90 n91 n92 n93 n94 n95 n96 n97 n98 n99 n100 n101 n102 n103 n104 n105 n106 n107 n108 n109 n110 n111 n112 n113 n114 n115 : Value), Below w.heap.size w w' → OwnB w' w.heap.size v (l ++ q.flatMap attB) → Box w' mb (mcells m pV lV) 32 → Q .normal ⟨(u0 :: .pointer (some ⟨mb, 0, none⟩) :: u2 :: v :: u4 :: u5 :: u6 :: n7 :: u8 :: u9 :: u10 :: u11 :: u12 :: u13 :: u14 :: u15 :: u16 :: u17 :: u18 :: u19 :: u20 :: u21 :: u22 :: u23 :: u24 :: u25 :: u26 :: u27 :: u28 :: u29 :: u30 :: u31 :: u32 :: u33 :: u34 :: u35 :: u36 :: u37 :: u38 :: u39 :: u40 :: u41 :: u42 :: u43 :: u44 :: u45 :: u46 :: u47 :: u48 :: u49 :: u50 :: u51 :: u52 :: u53 :: u54 :: u55 :: u56 :: u57 :: u58 :: u59 :: u60 :: u61 :: u62 :: u63 :: u64 :: u65 :: u66 :: u67 :: u68 :: u69 :: u70 :: u71 :: u72 :: u73 :: u74 :: u75 :: u76 :: u77 :: u78 :: u79 :: u80 :: u81 :: u82 :: u83 :: u84 :: .slice ao q.length ac :: .int .i64 (q.length : Int) :: n87 :: n88 :: n89 :: n90 :: n91 :: n92 :: n93 :: n94 :: n95 :: n96 :: n97 :: n98 :: n99 :: n100 :: n101 :: n102 :: n103 :: n104 :: n105 :: n106 :: n107 :: n108 :: n109 :: n110 :: n111 :: n112 :: n113 :: n114 :: n115 :: u116 :: []).toArray, []⟩ w') :
    Code.wp Tryd.prog byA Q ⟨(u0 :: .pointer (some ⟨mb, 0, none⟩) :: u2 :: bv :: u4 :: u5 :: u6 :: u7 :: u8 :: u9 :: u10 :: u11 :: u12 :: u13 :: u14 :: u15 :: u16 :: u17 :: u18 :: u19 :: u20 :: u21 :: u22 :: u23 :: u24 :: u25 :: u26 :: u27 :: u28 :: u29 :: u30 :: u31 :: u32 :: u33 :: u34 :: u35 :: u36 :: u37 :: u38 :: u39 :: u40 :: u41 :: u42 :: u43 :: u44 :: u45 :: u46 :: u47 :: u48 :: u49 :: u50 :: u51 :: u52 :: u53 :: u54 :: u55 :: u56 :: u57 :: u58 :: u59 :: u60 :: u61 :: u62 :: u63 :: u64 :: u65 :: u66 :: u67 :: u68 :: u69 :: u70 :: u71 :: u72 :: u73 :: u74 :: u75 :: u76 :: u77 :: u78 :: u79 :: u80 :: u81 :: u82 :: u83 :: u84 :: .slice ao q.length ac :: .int .i64 (q.length : Int) :: .int .i64 0 :: u88 :: u89 :: u90 :: u91 :: u92 :: u93 :: u94 :: u95 :: u96 :: u97 :: u98 :: u99 :: u100 :: u101 :: u102 :: u103 :: u104 :: u105 :: u106 :: u107 :: u108 :: u109 :: u110 :: u111 :: u112 :: u113 :: u114 :: u115 :: u116 :: []).toArray, []⟩ W := by
  have HQ := Lib.hid hQ
  have HP := Lib.hid hp
  have HX := Lib.hid hx
  have HO := Lib.hid ho
  have HB := Lib.hid hb
  have H1 := Lib.hid h1
  have H2 := Lib.hid h2
  have H3 := Lib.hid h3
  clear hQ hp hx ho hb h1 h2 h3
  unfold byA
  conv => arg 2; whnf
  go_wp2
  go_loopw [3, 87] (fun b i wr => ∃ j : Nat, j ≤ q.length ∧ i = .int .i64 j ∧ Below w.heap.size w wr ∧ OwnB wr w.heap.size b (l ++ (q.take j).flatMap attB) ∧ Box wr mb (mcells m pV lV) 32) (fun _ i _ => q.length - (intOf i).toNat)
  case atStart => exact ⟨0, Nat.zero_le _, rfl, HB.out, by simpa using HO.out, HX.out⟩
  case round =>
    obtain ⟨j, hj, rfl, hb, ho, hx⟩ := hrel
    have RB := Lib.hid hb
    have RO := Lib.hid ho
    have RX := Lib.hid hx
    clear hb ho hx
    by_cases hlt : j < q.length
    · obtain ⟨⟨nm, b1, n, t⟩, hc⟩ : ∃ x, q[j]? = some x := ⟨_, List.getElem?_eq_getElem hlt⟩
      obtain ⟨p, ix, px⟩ := row_cells HP.out rfl rfl hc
      obtain ⟨p0, p1, p2, p3⟩ := px _ RB.out
      have TX := Lib.hid (H1.out _ (List.mem_of_getElem? hc))
      have SU := Lib.hid (show l ++ (q.take (j + 1)).flatMap attB = l ++ (q.take j).flatMap attB ++ attB (nm, b1, n, t) by rw [flat_succ attB q j _ hc, List.append_assoc])
      have LN := Lib.hid (show (l ++ (q.take j).flatMap attB).length ≤ 5000 by have a1 := H2.out; have a2 := flat_take attB q j; rw [List.length_append]; omega)
      have LM := Lib.hid (show 2 ≤ (l ++ (q.take j).flatMap attB).length by have a1 := H3.out; rw [List.length_append]; omega)
      generalize l ++ (q.take j).flatMap attB = lj at *
      have hb4 : Below w.heap.size w (wr.alloc (.cells #[.string nm, .bool b1, .int .i64 n, .string t] 61)) := RB.out.alloc RB.out.size _
      have B4 := Lib.hid hb4
      have X4 := Lib.hid (RX.out.more (.cells #[.string nm, .bool b1, .int .i64 n, .string t] 61))
      have C4 := Lib.hid (box_new wr #[.string nm, .bool b1, .int .i64 n, .string t] 61)
      have O4 := Lib.hid (Rw.own_on RO.out ((Below.refl _ wr).alloc (Nat.le_refl _) (.cells #[.string nm, .bool b1, .int .i64 n, .string t] 61)))
      clear hb4 hc px
      simp only at p0 p1 p2 p3
      go_wp2_with fail
      clear p0 p1 p2 p3 ix
      generalize wr.alloc (.cells #[.string nm, .bool b1, .int .i64 n, .string t] 61) = W4 at *
      refine (rtext_any nm W4 (by have := TX.out.1; omega)).mono ?_
      rintro e w6 ⟨⟨v6, rfl, ho6⟩, hb6⟩
      have O5b := Lib.hid (Rw.own_on O4.out hb6)
      have X5b := Lib.hid (X4.out.on hb6)
      have C5b := Lib.hid (C4.out.on hb6)
      have B5b := Lib.hid (B4.out.trans (hb6.mono B4.out.size))
      obtain ⟨v7, w7, r, o7, gr, hb7⟩ := app_nextB (l := lj) (m := textB nm) (Nat.le_refl _) B5b.out O5b.out (Row.of_own ho6) (by have := LN.out; have := TX.out.1; rw [textB_lenW nm (by omega)]; omega)
      have O7 := Lib.hid o7
      have X7 := Lib.hid (box_grown X5b.out gr (own_neB O5b.out X5b.out (by decide)))
      have C7 := Lib.hid (box_grown C5b.out gr (own_neB O5b.out C5b.out (by decide)))
      have B7 := Lib.hid hb7
      have L7 := Lib.hid (show (lj ++ textB nm).length ≤ 6000 by have a1 := LN.out; have a2 := TX.out.1; rw [List.length_append, textB_lenW nm (by omega)]; omega)
      clear ho6 hb6 o7 gr hb7 O5b X5b C5b B5b O4 X4 C4 B4 RO RX RB
      have c1 := C7.out.cell 1
      simp only [List.getElem?_toArray, List.getElem?_cons_zero, List.getElem?_cons_succ] at c1
      cases b1
      · go_wp2_with (first | (at_builtin; refine wpList_append_run rfl _ _ 22 rfl rfl rfl r ?_) | fail)
        clear r
        go_wp2_with fail
        go_upto_region 22 with fail
        refine by22 w.heap.size mb wr.heap.size m pV lV _ (lj ++ textB nm) nm t false n _ w7 _ _ _ _ _ _ _ _ _ _ _ _ _ _ _ _ _ _ _ _ _ _ _ _ _ _ _ _ _ _ _ _ _ _ _ _ _ _ _ _ _ _ _ _ _ _ _ _ _ _ _ _ _ _ _ _ _ _ _ _ _ _ _ _ _ _ _ _ _ _ _ _ _ _ _ _ _ _ _ _ _ _ _ _ _ _ _ _ _ _ _ _ _ _ _ _ _ _ _ _ _ _ _ _ _ _ _ _ _ _ _ _ _ _ B7.out.size X7.out C7.out O7.out (by have := L7.out; omega) ?_
        intro w8 v8 m107 m108 m109 m110 m111 m112 m113 m114 ho8 hb8 hx8 _
        have O8 := Lib.hid ho8
        have B8 := Lib.hid (B7.out.trans hb8)
        have X8 := Lib.hid hx8
        have EQ := Lib.hid (show lj ++ attB (nm, false, n, t) = lj ++ textB nm ++ [0] ++ numB n by simp [attB, List.append_assoc])
        clear ho8 hb8 hx8 c1 O7 X7 C7
        try simp only [Exit.then]
        apply_assumption
        go_wp2
        go_roundw
        case rel => exact ⟨j + 1, by omega, by go_num, B8.out, by rw [SU.out, EQ.out]; exact O8.out, X8.out⟩
        case measure => simp [intOf]; omega
      · go_wp2_with (first | (at_builtin; refine wpList_append_run rfl _ _ 22 rfl rfl rfl r ?_) | fail)
        clear r
        go_wp2_with fail
        go_upto_region 21 with fail
        refine by21 w.heap.size mb wr.heap.size m pV lV _ (lj ++ textB nm) nm t true n _ w7 _ _ _ _ _ _ _ _ _ _ _ _ _ _ _ _ _ _ _ _ _ _ _ _ _ _ _ _ _ _ _ _ _ _ _ _ _ _ _ _ _ _ _ _ _ _ _ _ _ _ _ _ _ _ _ _ _ _ _ _ _ _ _ _ _ _ _ _ _ _ _ _ _ _ _ _ _ _ _ _ _ _ _ _ _ _ _ _ _ _ _ _ _ _ _ _ _ _ _ _ _ _ _ _ _ _ _ _ _ _ _ _ _ _ B7.out.size X7.out C7.out O7.out (by have := L7.out; omega) (by have := TX.out.2; omega) ?_
        intro w8 v8 m99 m100 m101 m102 m103 m104 m105 m106 ho8 hb8 hx8 _
        have O8 := Lib.hid ho8
        have B8 := Lib.hid (B7.out.trans hb8)
        have X8 := Lib.hid hx8
        have EQ := Lib.hid (show lj ++ attB (nm, true, n, t) = lj ++ textB nm ++ [1] ++ textB t by simp [attB, List.append_assoc])
        clear ho8 hb8 hx8 c1 O7 X7 C7
        try simp only [Exit.then]
        apply_assumption
        go_wp2
        go_roundw
        case rel => exact ⟨j + 1, by omega, by go_num, B8.out, by rw [SU.out, EQ.out]; exact O8.out, X8.out⟩
        case measure => simp [intOf]; omega
    · obtain rfl : j = q.length := by omega
      rw [List.take_of_length_le (Nat.le_refl _)] at RO
      go_wp2
      exact HQ.out _ _ _ _ _ _ _ _ _ _ _ _ _ _ _ _ _ _ _ _ _ _ _ _ _ _ _ _ _ _ _ _ RB.out RO.out RX.out
end Go.Proofs.YtfcgfnmokbbcaaaDoor.Wr
