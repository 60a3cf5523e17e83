/-
  Region 3 of Encode of package wire: the kind and the tree. No condition.
  The closed facts on package errors' reflection at this program, and the words for chains of faults in memory: what later texts of this family stand on. No condition.
-/
import Derived.Test.YtfcgfnmokbbcaaaDoorQ020
import Derived.Test.YtfcgfnmokbbcaaaDoorQ002
import Derived.Test.YtfcgfnmokbbcaaaDoorProg
import Derived.WalkKit
import Derived.LaidEql
import Derived.Stop.Asserts
import Derived.RowKitTokens
import Derived.Lib.Hide
namespace Go.Proofs.YtfcgfnmokbbcaaaDoor.Ws
open Go.RowKit Go.Proofs.YtfcgfnmokbbcaaaDoor Go.Proofs.YtfcgfnmokbbcaaaDoor.Rw Go.Proofs.YtfcgfnmokbbcaaaDoor.Nm Go.Proofs.YtfcgfnmokbbcaaaDoor.At Go.Proofs.YtfcgfnmokbbcaaaDoor.Pr Go.Proofs.YtfcgfnmokbbcaaaDoor.Wr

def en3S (B _mb : Nat) (_kd tc ts _ic _is : Int) (_pV _lV : Value) (cb : UInt8) : Nat → (Nat → Value) → World → Prop
  | 0, _, _ => True
  | 1, v, w => RowB w (v 6) (numB tc ++ numB ts)
  | 2, v, w => OwnB w B (v 7) ([cb] ++ (numB tc ++ numB ts))
  | _ + 3, v, w => OwnB w B (v 8) ([cb] ++ (numB tc ++ numB ts))
structure en3C (B mb : Nat) (kd tc ts ic is : Int) (pV lV : Value) (cb : UInt8) (W : World) (k : Nat) (b : Bool) (v : Nat → Value) (w : World) : Prop where
  bel : Below B W w
  bx0 : Box w mb #[.int .i64 kd, .int .i64 tc, .int .i64 ts, .int .i64 ic, .int .i64 is, pV, lV] 32
  lit : b = true → k ≤ 1 → LitB B (v 3) cb w
  st : en3S B mb kd tc ts ic is pV lV cb k v w
noncomputable def en3R : Code := ((Tryd.f8.body.bind (findRegion 3)).getD .skip)
set_option maxRecDepth 100000 in
set_option maxHeartbeats 8000000 in
theorem en3 (B mb : Nat) (kd tc ts ic is : Int) (pV lV : Value) (cb : UInt8) (Q : Exit → Act → World → Prop) (W : World) (u0 u2 u3 u4 u5 u6 u7 u8 u9 u10 u11 u12 u13 u14 u15 u16 u17 u18 u19 u20 u21 u22 u23 u24 u25 u26 u27 u28 u29 u30 u31 u32 u33 u34 u35 u36 u37 u38 u39 u40 u41 u42 u43 u44 u45 u46 u47 u48 u49 u50 u51 u52 u53 : Value)
    (hB : B ≤ W.heap.size) (hx0 : Box W mb #[.int .i64 kd, .int .i64 tc, .int .i64 ts, .int .i64 ic, .int .i64 is, pV, lV] 32)  (hw : IntKind.u8.wrap kd = (cb.toNat : Int))
    (hQ : ∀ (w' : World) (v n10 n11 n12 n13 n14 n15 n16 n17 : Value), OwnB w' B v ([cb] ++ (numB tc ++ numB ts)) → Below B W w' → Box w' mb #[.int .i64 kd, .int .i64 tc, .int .i64 ts, .int .i64 ic, .int .i64 is, pV, lV] 32 → Q .normal ⟨(u0 :: .pointer (some ⟨mb, 0, none⟩) :: u2 :: u3 :: v :: u5 :: u6 :: u7 :: u8 :: u9 :: n10 :: n11 :: n12 :: n13 :: n14 :: n15 :: n16 :: n17 :: u18 :: u19 :: u20 :: u21 :: u22 :: u23 :: u24 :: u25 :: u26 :: u27 :: u28 :: u29 :: u30 :: u31 :: u32 :: u33 :: u34 :: u35 :: u36 :: u37 :: u38 :: u39 :: u40 :: u41 :: u42 :: u43 :: u44 :: u45 :: u46 :: u47 :: u48 :: u49 :: u50 :: u51 :: u52 :: u53 :: []).toArray, []⟩ w') :
    Code.wp Tryd.prog en3R Q ⟨(u0 :: .pointer (some ⟨mb, 0, none⟩) :: u2 :: u3 :: u4 :: u5 :: u6 :: u7 :: u8 :: u9 :: u10 :: u11 :: u12 :: u13 :: u14 :: u15 :: u16 :: u17 :: u18 :: u19 :: u20 :: u21 :: u22 :: u23 :: u24 :: u25 :: u26 :: u27 :: u28 :: u29 :: u30 :: u31 :: u32 :: u33 :: u34 :: u35 :: u36 :: u37 :: u38 :: u39 :: u40 :: u41 :: u42 :: u43 :: u44 :: u45 :: u46 :: u47 :: u48 :: u49 :: u50 :: u51 :: u52 :: u53 :: []).toArray, []⟩ W := by
  have HQ := Lib.hid hQ
  have HX0 := Lib.hid hx0
  clear hQ hx0
  obtain ⟨dst, hdd⟩ : ∃ d : Nat → Nat, d = fun i => [10, 11, 12, 13, 14, 15, 16, 17, 4].getD i 4 := ⟨_, rfl⟩
  obtain ⟨mk, hmk⟩ : ∃ d : Nat → Nat, d = fun j => [6, 7, 8].getD j 999 := ⟨_, rfl⟩
  obtain ⟨pv, hpv⟩ : ∃ e : Nat → Option Value, e = fun i => ([some (.pointer (some ⟨mb, 0, none⟩)), some (.int .i64 kd), some (.int .u8 cb.toNat), none, some (.pointer (some ⟨mb, 1, none⟩)), some (.agg #[.int .i64 tc, .int .i64 ts]), none, none, none] : List (Option Value)).getD i none := ⟨_, rfl⟩
  obtain ⟨base, hbase⟩ : ∃ b : Act, b = ⟨(u0 :: .pointer (some ⟨mb, 0, none⟩) :: u2 :: u3 :: u4 :: u5 :: u6 :: u7 :: u8 :: u9 :: u10 :: u11 :: u12 :: u13 :: u14 :: u15 :: u16 :: u17 :: u18 :: u19 :: u20 :: u21 :: u22 :: u23 :: u24 :: u25 :: u26 :: u27 :: u28 :: u29 :: u30 :: u31 :: u32 :: u33 :: u34 :: u35 :: u36 :: u37 :: u38 :: u39 :: u40 :: u41 :: u42 :: u43 :: u44 :: u45 :: u46 :: u47 :: u48 :: u49 :: u50 :: u51 :: u52 :: u53 :: []).toArray, []⟩ := ⟨_, rfl⟩
  rw [← hbase]
  unfold en3R
  conv => arg 2; whnf
  have nd : ∀ j, (j ≠ 10 ∧ j ≠ 11 ∧ j ≠ 12 ∧ j ≠ 13 ∧ j ≠ 14 ∧ j ≠ 15 ∧ j ≠ 16 ∧ j ≠ 17 ∧ j ≠ 4) → ∀ i, i < 9 → dst i ≠ j := by
    rw [hdd]
    intro j hj i hi
    rcases (by omega : i = 0 ∨ i = 1 ∨ i = 2 ∨ i = 3 ∨ i = 4 ∨ i = 5 ∨ i = 6 ∨ i = 7 ∨ i = 8) with rfl | rfl | rfl | rfl | rfl | rfl | rfl | rfl | rfl <;> simp <;> omega
  refine Rg.region_chain 9 dst pv mk 3 3 1 (en3C B mb kd tc ts ic is pV lV cb W) (by kernel_rfl) (by kernel_rfl) rfl ?_ ?_ ?_ ?_ (by decide) ?_ ?_ (by subst hpv; rfl) ?_ ?_ ?_ ?_ ?_ ?_ ?_ ?_
  · subst hdd
    intro i j hi hj h
    rcases (by omega : i = 0 ∨ i = 1 ∨ i = 2 ∨ i = 3 ∨ i = 4 ∨ i = 5 ∨ i = 6 ∨ i = 7 ∨ i = 8) with rfl | rfl | rfl | rfl | rfl | rfl | rfl | rfl | rfl <;> rcases (by omega : j = 0 ∨ j = 1 ∨ j = 2 ∨ j = 3 ∨ j = 4 ∨ j = 5 ∨ j = 6 ∨ j = 7 ∨ j = 8) with rfl | rfl | rfl | rfl | rfl | rfl | rfl | rfl | rfl <;> first | rfl | (exfalso; revert h; decide)
  · subst hdd hbase
    intro i hi
    rcases (by omega : i = 0 ∨ i = 1 ∨ i = 2 ∨ i = 3 ∨ i = 4 ∨ i = 5 ∨ i = 6 ∨ i = 7 ∨ i = 8) with rfl | rfl | rfl | rfl | rfl | rfl | rfl | rfl | rfl <;> (show _ < 54; decide)
  · subst hmk
    intro i j hi hj h
    rcases (by omega : i = 0 ∨ i = 1 ∨ i = 2) with rfl | rfl | rfl <;> rcases (by omega : j = 0 ∨ j = 1 ∨ j = 2) with rfl | rfl | rfl <;> first | rfl | (exfalso; revert h; decide)
  · subst hmk
    intro j hj
    rcases (by omega : j = 0 ∨ j = 1 ∨ j = 2) with rfl | rfl | rfl <;> decide
  · subst hmk
    intro j hj
    rcases (by omega : j = 0 ∨ j = 1 ∨ j = 2) with rfl | rfl | rfl <;> decide
  · subst hmk hpv
    intro j hj
    rcases (by omega : j = 0 ∨ j = 1 ∨ j = 2) with rfl | rfl | rfl <;> rfl
  · subst hmk
    intro j o hj ho
    rcases (by omega : j = 0 ∨ j = 1) with rfl | rfl
    · obtain rfl := Option.some.inj ho
      exact ⟨⟨6, .data⟩, by simp, rfl, rfl⟩
    · obtain rfl := Option.some.inj ho
      exact ⟨⟨7, .data⟩, by simp, rfl, rfl⟩
  · subst hmk
    intro o _ ho
    obtain rfl := Option.some.inj ho
    exact ⟨⟨3, .data⟩, by simp, rfl, rfl⟩
  · intro v
    exact ⟨(Below.refl _ _).drew, HX0.out, (fun h => by cases h), trivial⟩
  · subst hmk
    intro k b v v' z h1 h2 hc
    refine ⟨hc.bel, hc.bx0, fun e hk => by rw [h2 e]; exact hc.lit e hk, ?_⟩
    have hm := hc.st
    rcases k with _ | _ | _ | k
    · trivial
    · have e6 : v' 6 = v 6 := h1 0 (by omega)
      simp only [en3S, e6] at hm ⊢
      exact hm
    · have e7 : v' 7 = v 7 := h1 1 (by omega)
      simp only [en3S, e7] at hm ⊢
      exact hm
    · have e8 : v' 8 = v 8 := h1 2 (by omega)
      simp only [en3S, e8] at hm ⊢
      exact hm
  · subst hdd hmk hpv hbase
    intro i o hi ho hnm hnq
    rcases (by omega : i = 0 ∨ i = 1 ∨ i = 2 ∨ i = 3 ∨ i = 4 ∨ i = 5 ∨ i = 6 ∨ i = 7 ∨ i = 8) with rfl | rfl | rfl | rfl | rfl | rfl | rfl | rfl | rfl
    · obtain rfl := Option.some.inj ho
      refine ⟨_, rfl, fun k b val z a hc seen K hK => ?_⟩
      have e1 : a.eval (.tmp 1) = .pointer (some ⟨mb, 0, none⟩) := seen.kp 1 _ (nd 1 (by decide)) rfl
      exact Rg.op_value_w rfl (Rg.wanted_none rfl) (Rg.ex_field a.eval _ 32 (.tmp 1) 0 rfl (by rw [e1]; simp [go_sem])) hK
    · obtain rfl := Option.some.inj ho
      refine ⟨_, rfl, fun k b val z a hc seen K hK => ?_⟩
      have e10 : a.eval (.tmp 10) = .pointer (some ⟨mb, 0, none⟩) := seen.pl ⟨0, .data⟩ (by simp) rfl _ rfl
      have y0_0 := hc.bx0.cell 0
      have y0_1 := hc.bx0.cell 1
      have y0_2 := hc.bx0.cell 2
      have y0_3 := hc.bx0.cell 3
      have y0_4 := hc.bx0.cell 4
      have y0_5 := hc.bx0.cell 5
      have y0_6 := hc.bx0.cell 6
      simp only [List.getElem?_toArray, List.getElem?_cons_zero, List.getElem?_cons_succ] at y0_0 y0_1 y0_2 y0_3 y0_4 y0_5 y0_6
      exact Rg.op_value_w rfl (Rg.wanted_none rfl) (Rg.ex_load a.eval _ 3 (.tmp 10) rfl (by rw [e10]; simp [go_sem, y0_0])) hK
    · obtain rfl := Option.some.inj ho
      refine ⟨_, rfl, fun k b val z a hc seen K hK => ?_⟩
      have e11 : a.eval (.tmp 11) = .int .i64 kd := seen.pl ⟨1, .data⟩ (by simp) rfl _ rfl
      exact Rg.op_value_w rfl (Rg.wanted_none rfl) (Rg.ex_conv a.eval _ 3 5 (.tmp 11) rfl (by rw [e11]; simp [go_sem, hw])) hK
    · exact absurd rfl hnq
    · obtain rfl := Option.some.inj ho
      refine ⟨_, rfl, fun k b val z a hc seen K hK => ?_⟩
      have e1 : a.eval (.tmp 1) = .pointer (some ⟨mb, 0, none⟩) := seen.kp 1 _ (nd 1 (by decide)) rfl
      exact Rg.op_value_w rfl (Rg.wanted_none rfl) (Rg.ex_field a.eval _ 32 (.tmp 1) 1 rfl (by rw [e1]; simp [go_sem])) hK
    · obtain rfl := Option.some.inj ho
      refine ⟨_, rfl, fun k b val z a hc seen K hK => ?_⟩
      have e14 : a.eval (.tmp 14) = .pointer (some ⟨mb, 1, none⟩) := seen.pl ⟨4, .data⟩ (by simp) rfl _ rfl
      have y0_0 := hc.bx0.cell 0
      have y0_1 := hc.bx0.cell 1
      have y0_2 := hc.bx0.cell 2
      have y0_3 := hc.bx0.cell 3
      have y0_4 := hc.bx0.cell 4
      have y0_5 := hc.bx0.cell 5
      have y0_6 := hc.bx0.cell 6
      simp only [List.getElem?_toArray, List.getElem?_cons_zero, List.getElem?_cons_succ] at y0_0 y0_1 y0_2 y0_3 y0_4 y0_5 y0_6
      exact Rg.op_value_w rfl (Rg.wanted_none rfl) (Rg.ex_load a.eval _ 28 (.tmp 14) rfl (by rw [e14]; simp [go_sem, y0_1, y0_2])) hK
    · exact absurd rfl (hnm 0 (by decide))
    · exact absurd rfl (hnm 1 (by decide))
    · exact absurd rfl (hnm 2 (by decide))
  · subst hdd hmk hpv hbase
    intro j o b val z a hj ho hc hcb seen K hK
    have hm := hc.st
    rcases (by omega : j = 0 ∨ j = 1 ∨ j = 2) with rfl | rfl | rfl
    · obtain rfl := Option.some.inj ho
      have e15 : a.eval (.tmp 15) = .agg #[.int .i64 tc, .int .i64 ts] := seen.pl ⟨5, .data⟩ (by simp) rfl _ rfl
      have C1 := id_any tc ts z
      refine Rg.op_call_w rfl (Rg.wanted_none rfl) (ex_call1 _ _ (.tmp 15) 28 26 rfl e15 rfl _ (call_fn Tryd.func26 rfl rfl _ _)) C1 ?_
      rintro e z1 ⟨⟨v1, rfl, ho1⟩, hz⟩
      have ho2 := Rw.own_less (B' := B) (Nat.le_trans hB hc.bel.size) ho1
      refine ⟨v1, rfl, hK _ _ ⟨hc.bel.trans (hz.mono (Nat.le_trans hB hc.bel.size)), hc.bx0.on hz, (fun e _ => (show LitB B (Rg.upd val 6 _ 3) cb _ from by rw [Rg.upd_other _ _ (by decide)]; exact (hc.lit e (by omega)).on hz)), (show RowB _ (Rg.upd val 6 _ 6) (numB tc ++ numB ts) from by rw [Rg.upd_same]; exact Row.of_own ho2)⟩⟩
    · obtain rfl := Option.some.inj ho
      have e13 : a.eval (.tmp 13) = val 3 := seen.at_ ⟨3, .data⟩ (by simp) rfl
      have e16 : a.eval (.tmp 16) = val 6 := seen.at_ ⟨6, .data⟩ (by simp) rfl
      obtain ⟨v1, z1, r, ho1, hg, hb1⟩ := app_nextB (l := [cb]) (m := numB tc ++ numB ts) hB hc.bel (hc.lit (hcb (by omega)) (by omega)).own hm (by rw [List.length_append, numB_len, numB_len]; simp)
      have ho0 := (hc.lit (hcb (by omega)) (by omega)).own
      refine Rg.op_value_w rfl (Rg.wanted_none rfl) (Rg.ex_append a.eval _ (.tmp 13) (.tmp 16) 22 rfl e13 e16 r) (hK _ _ ⟨hb1, box_grown hc.bx0 hg (own_neB ho0 hc.bx0 (by decide)), (fun _ he => absurd he (by omega)), (show OwnB _ B (Rg.upd val 7 _ 7) ([cb] ++ (numB tc ++ numB ts)) from by rw [Rg.upd_same]; exact ho1)⟩)
    · obtain rfl := Option.some.inj ho
      have e17 : a.eval (.tmp 17) = val 7 := seen.at_ ⟨7, .data⟩ (by simp) rfl
      refine Rg.op_value_w rfl (Rg.wanted_none rfl) (Rg.ex_assign a.eval _ (.tmp 17) rfl _) (hK _ _ ⟨hc.bel, hc.bx0, (fun _ he => absurd he (by omega)), ?_⟩)
      show OwnB _ B (Rg.upd val 8 _ 8) ([cb] ++ (numB tc ++ numB ts))
      rw [Rg.upd_same, e17]
      exact hm
  · subst hdd hmk hpv hbase
    intro o k val z a hk ho hc seen K hK
    obtain rfl := Option.some.inj ho
    have hm := hc.st
    have e12 : a.eval (.tmp 12) = .int .u8 cb.toNat := seen.pl ⟨2, .data⟩ (by simp) rfl _ rfl
    have hz := new_below z (.cells #[.int .u8 cb.toNat] 5)
    refine Rg.op_value_w rfl (Rg.wanted_none rfl) (Rg.ex_build a.eval _ 22 1 #[(0, .tmp 12)] rfl (by simp only [List.map_toArray, List.map_cons, List.map_nil, e12]) (lit_byteB z cb)) (hK _ _ ⟨hc.bel.alloc (Nat.le_trans hB hc.bel.size) _, hc.bx0.on hz, (fun _ _ => (show LitB B (Rg.upd val 3 _ 3) cb _ from by rw [Rg.upd_same]; exact LitB.made B z cb (Nat.le_trans hB hc.bel.size))), ?_⟩)
    rcases (by omega : k = 0 ∨ k = 1) with rfl | rfl
    · trivial
    · simp only [en3S, Rg.upd, show (6 : Nat) ≠ 3 by decide, if_false] at hm ⊢
      exact hm.on hz
  · subst hdd hbase
    intro a b val z hc hd hsz hk hv
    have hm := hc.st
    have hk2 : ∀ j, (j < 10 ∨ 10 + 8 ≤ j) → a.tmps[j]? = (u0 :: .pointer (some ⟨mb, 0, none⟩) :: u2 :: u3 :: val 8 :: u5 :: u6 :: u7 :: u8 :: u9 :: u10 :: u11 :: u12 :: u13 :: u14 :: u15 :: u16 :: u17 :: u18 :: u19 :: u20 :: u21 :: u22 :: u23 :: u24 :: u25 :: u26 :: u27 :: u28 :: u29 :: u30 :: u31 :: u32 :: u33 :: u34 :: u35 :: u36 :: u37 :: u38 :: u39 :: u40 :: u41 :: u42 :: u43 :: u44 :: u45 :: u46 :: u47 :: u48 :: u49 :: u50 :: u51 :: u52 :: u53 :: [] : List Value)[j]? := fun j hj => by
      by_cases e : j = 4
      · subst e
        exact hv 8 (by decide)
      · have h1 := (hk j (nd j (by omega))).trans List.getElem?_toArray
        rw [h1]
        rw [show (u0 :: .pointer (some ⟨mb, 0, none⟩) :: u2 :: u3 :: val 8 :: u5 :: u6 :: u7 :: u8 :: u9 :: u10 :: u11 :: u12 :: u13 :: u14 :: u15 :: u16 :: u17 :: u18 :: u19 :: u20 :: u21 :: u22 :: u23 :: u24 :: u25 :: u26 :: u27 :: u28 :: u29 :: u30 :: u31 :: u32 :: u33 :: u34 :: u35 :: u36 :: u37 :: u38 :: u39 :: u40 :: u41 :: u42 :: u43 :: u44 :: u45 :: u46 :: u47 :: u48 :: u49 :: u50 :: u51 :: u52 :: u53 :: [] : List Value) = (u0 :: .pointer (some ⟨mb, 0, none⟩) :: u2 :: u3 :: u4 :: u5 :: u6 :: u7 :: u8 :: u9 :: u10 :: u11 :: u12 :: u13 :: u14 :: u15 :: u16 :: u17 :: u18 :: u19 :: u20 :: u21 :: u22 :: u23 :: u24 :: u25 :: u26 :: u27 :: u28 :: u29 :: u30 :: u31 :: u32 :: u33 :: u34 :: u35 :: u36 :: u37 :: u38 :: u39 :: u40 :: u41 :: u42 :: u43 :: u44 :: u45 :: u46 :: u47 :: u48 :: u49 :: u50 :: u51 :: u52 :: u53 :: []).set 4 (val 8) from rfl, List.getElem?_set_ne (fun e2 => e e2.symm)]
    obtain ⟨mid, hmid, rfl⟩ := Rg.frame_mid (bl := (u0 :: .pointer (some ⟨mb, 0, none⟩) :: u2 :: u3 :: val 8 :: u5 :: u6 :: u7 :: u8 :: u9 :: u10 :: u11 :: u12 :: u13 :: u14 :: u15 :: u16 :: u17 :: u18 :: u19 :: u20 :: u21 :: u22 :: u23 :: u24 :: u25 :: u26 :: u27 :: u28 :: u29 :: u30 :: u31 :: u32 :: u33 :: u34 :: u35 :: u36 :: u37 :: u38 :: u39 :: u40 :: u41 :: u42 :: u43 :: u44 :: u45 :: u46 :: u47 :: u48 :: u49 :: u50 :: u51 :: u52 :: u53 :: [])) 10 8 hd hsz (by show 10 + 8 ≤ 54; decide) hk2
    match mid, hmid with
    | n10 :: n11 :: n12 :: n13 :: n14 :: n15 :: n16 :: n17 :: [], _ => exact HQ.out z (val 8) n10 n11 n12 n13 n14 n15 n16 n17 hm hc.bel hc.bx0
end Go.Proofs.YtfcgfnmokbbcaaaDoor.Ws

namespace Go.Proofs.YtfcgfnmokbbcaaaDoor.Fa
open Go.RowKit Go.Extern.Stop Go.Stop Go.Extern

/-! ### words -/
/-- package errors' variable holds the handle of the type 'error'. -/
def EG (w : World) : Prop := w.cell? ⟨0, 0, none⟩ = some (.iface 127 (.agg #[.pointer (some ⟨1, 24, none⟩)]))

theorem EG.pos {w : World} (h : EG w) : 0 < w.heap.size := by
  unfold EG at h
  rcases Nat.lt_or_ge 0 w.heap.size with h0 | h0
  · exact h0
  · simp [World.cell?, Array.getElem?_eq_none h0] at h

theorem EG.below {w w' : World} {B : Nat} (h : EG w) (hb : Below B w w') (hB : 0 < B) : EG w' := by
  unfold EG at *
  rw [hb.cell hB]; exact h

theorem EG.bel {w w' : World} (h : EG w) (hb : Below w.heap.size w w') : EG w' := h.below hb h.pos

/-- Block tb has become o; every other old block is as it was. -/
structure Upd (tb : Nat) (o : Obj) (w w' : World) : Prop where
  os : w'.os = w.os
  tape : w'.tape = w.tape
  output : w'.output = w.output
  size : w.heap.size ≤ w'.heap.size
  block : ∀ k, k < w.heap.size → k ≠ tb → w'.heap[k]? = w.heap[k]?
  there : w'.heap[tb]? = some o

theorem Upd.cell {tb : Nat} {o : Obj} {w w' : World} (h : Upd tb o w w') {p : Addr} (hp : p.block < w.heap.size) (hne : p.block ≠ tb) : w'.cell? p = w.cell? p := World.cell?_of_block (w := w) (h.block p.block hp hne)

theorem Upd.below {tb : Nat} {o : Obj} {w w' : World} (h : Upd tb o w w') {B : Nat} (hB : B ≤ tb) (hw : tb < w.heap.size) : Below B w w' :=
  ⟨h.os, h.tape, h.output, h.size, fun k hk => h.block k (by omega) (by omega)⟩

/-- A chain of faults in memory: from the value v, through the faults at the blocks of l (each with its op and its place), to the value u. -/
def Ch (w : World) : List (Nat × ByteArray × Int) → Value → Value → Prop
  | [], v, u => v = u
  | (b, op, at_) :: r, v, u => v = .iface 82 (.pointer (some ⟨b, 0, none⟩)) ∧ ∃ v', w.heap[b]? = some (.cells #[.string op, .int .i64 at_, v'] 84 (0, 0)) ∧ Ch w r v' u

theorem Ch.lt {w : World} {l : List (Nat × ByteArray × Int)} : ∀ {v u : Value}, Ch w l v u → ∀ x ∈ l, x.1 < w.heap.size := by
  induction l with
  | nil => intro _ _ _ x hx; cases hx
  | cons y r ih =>
    intro v u h x hx
    obtain ⟨b, op, at_⟩ := y
    obtain ⟨_, v', h2, h3⟩ := h
    rcases List.mem_cons.1 hx with e | e
    · subst e
      rcases Nat.lt_or_ge b w.heap.size with h0 | h0
      · exact h0
      · simp [Array.getElem?_eq_none h0] at h2
    · exact ih h3 x e

theorem Ch.keep {w w' : World} {l : List (Nat × ByteArray × Int)} : ∀ {v u : Value}, Ch w l v u → (∀ x ∈ l, w'.heap[x.1]? = w.heap[x.1]?) → Ch w' l v u := by
  induction l with
  | nil => intro _ _ h _; exact h
  | cons y r ih =>
    intro v u h hk
    obtain ⟨b, op, at_⟩ := y
    obtain ⟨h1, v', h2, h3⟩ := h
    exact ⟨h1, v', by rw [hk _ (List.mem_cons_self ..)]; exact h2, ih h3 fun x hx => hk x (List.mem_cons_of_mem _ hx)⟩

theorem Ch.bel {w w' : World} {l : List (Nat × ByteArray × Int)} {v u : Value} (h : Ch w l v u) (hb : Below w.heap.size w w') : Ch w' l v u :=
  h.keep fun x hx => hb.block x.1 (h.lt x hx)

theorem Ch.upd {w w' : World} {l : List (Nat × ByteArray × Int)} {v u : Value} {tb : Nat} {o : Obj} (h : Ch w l v u) (hb : Upd tb o w w') (hne : ∀ x ∈ l, x.1 ≠ tb) : Ch w' l v u :=
  h.keep fun x hx => hb.block x.1 (h.lt x hx) (hne x hx)

theorem Ch.append {w : World} {l r : List (Nat × ByteArray × Int)} {t u : Value} : ∀ {v : Value}, Ch w l v t → Ch w r t u → Ch w (l ++ r) v u := by
  induction l with
  | nil => intro v h k; cases h; exact k
  | cons y l ih =>
    intro v h k
    obtain ⟨b, op, at_⟩ := y
    obtain ⟨h1, v', h2, h3⟩ := h
    exact ⟨h1, v', h2, ih h3 k⟩

/-- The blocks fall: each fault wraps what was there ahead of it. -/
def Falls (l : List (Nat × ByteArray × Int)) : Prop := l.Pairwise fun x y => y.1 < x.1

theorem cell_of_heap {w : World} {b : Nat} {c : Array Value} {t : TypeId} {fz : Nat × Nat} (h : w.heap[b]? = some (.cells c t fz)) (i : Nat) : w.cell? ⟨b, i, none⟩ = c[i]? := by
  simp [World.cell?, h]
theorem frozen_of_heap {w : World} {b : Nat} {c : Array Value} {t : TypeId} (h : w.heap[b]? = some (.cells c t (0, 0))) (i : Nat) : w.frozen? ⟨b, i, none⟩ = false := by
  simp [World.frozen?, h]
theorem lt_of_heap {w : World} {b : Nat} {o : Obj} (h : w.heap[b]? = some o) : b < w.heap.size := by
  rcases Nat.lt_or_ge b w.heap.size with h0 | h0
  · exact h0
  · simp [Array.getElem?_eq_none h0] at h

/-! ### closed facts: internal/reflectlite -/
theorem valueOfPF (t : Addr) (w : World) : (ReflectliteValue.unpack (.iface 92 (.pointer (some t)))).run Tryd.prog w
    = .ok (.agg #[.pointer (some ⟨1, 92, none⟩), .pointer (some ⟨w.heap.size, 0, none⟩), .int .u64 150]) (w.alloc (.cells #[.pointer (some t)] 92)) := by kernel_rfl
theorem valueOfPE (t : Addr) (w : World) : (ReflectliteValue.unpack (.iface 93 (.pointer (some t)))).run Tryd.prog w
    = .ok (.agg #[.pointer (some ⟨1, 93, none⟩), .pointer (some ⟨w.heap.size, 0, none⟩), .int .u64 150]) (w.alloc (.cells #[.pointer (some t)] 93)) := by kernel_rfl
theorem valueOfF (e : Addr) (w : World) : (ReflectliteValue.unpack (.iface 82 (.pointer (some e)))).run Tryd.prog w
    = .ok (.agg #[.pointer (some ⟨1, 82, none⟩), .pointer (some ⟨w.heap.size, 0, none⟩), .int .u64 150]) (w.alloc (.cells #[.pointer (some e)] 82)) := by kernel_rfl
theorem valueOfE (k : Int) (w : World) : (ReflectliteValue.unpack (.iface 34 (.int .i64 k))).run Tryd.prog w
    = .ok (.agg #[.pointer (some ⟨1, 34, none⟩), .pointer (some ⟨w.heap.size, 0, none⟩), .int .u64 130]) (w.alloc (.cells #[.int .i64 k] 34)) := by kernel_rfl
theorem vtype (t : Nat) (ht : t = 92 ∨ t = 93) (a : Addr) (w : World) : (ReflectliteValue.methodAny (ReflectliteValue.valueError "reflectlite.Value.Type" 0) (fun t _ _ _ => ReflectliteType.toType t) #[.agg #[.pointer (some ⟨1, t, none⟩), .pointer (some a), .int .u64 150]]).run Tryd.prog w
    = .ok (.iface 127 (.agg #[.pointer (some ⟨1, t, none⟩)])) w := by rcases ht with rfl | rfl <;> kernel_rfl
theorem methodKind (h : Value) (w : World) : (Go.method 268 127 (.agg #[h]) "Kind").run Tryd.prog w = .ok (98, h) w := by kernel_rfl
theorem methodElem (h : Value) (w : World) : (Go.method 268 127 (.agg #[h]) "Elem").run Tryd.prog w = .ok (110, .agg #[h]) w := by kernel_rfl
theorem methodImplements (h : Value) (w : World) : (Go.method 268 127 (.agg #[h]) "Implements").run Tryd.prog w = .ok (111, .agg #[h]) w := by kernel_rfl
theorem methodAssignableTo (h : Value) (w : World) : (Go.method 268 127 (.agg #[h]) "AssignableTo").run Tryd.prog w = .ok (108, .agg #[h]) w := by kernel_rfl
theorem methodComparable (h : Value) (w : World) : (Go.method 268 127 (.agg #[h]) "Comparable").run Tryd.prog w = .ok (109, .agg #[h]) w := by kernel_rfl
theorem methodUnwrapF (h : Value) (w : World) : (Go.method 268 82 h "Unwrap").run Tryd.prog w = .ok (103, h) w := by kernel_rfl
theorem methodErrorF (h : Value) (w : World) : (Go.method 268 82 h "Error").run Tryd.prog w = .ok (102, h) w := by kernel_rfl
theorem methodErrorE (h : Value) (w : World) : (Go.method 268 34 h "Error").run Tryd.prog w = .ok (101, h) w := by kernel_rfl
theorem kindPF (w : World) : ((ReflectliteType.abiMethod fun t => (fun a : Nat => Value.int IntKind.u8 (a : Int)) <$> Rtype.kind t) #[.pointer (some ⟨1, 92, none⟩)]).run Tryd.prog w = .ok (.int .u8 22) w := by kernel_rfl
theorem kindPE (w : World) : ((ReflectliteType.abiMethod fun t => (fun a : Nat => Value.int IntKind.u8 (a : Int)) <$> Rtype.kind t) #[.pointer (some ⟨1, 93, none⟩)]).run Tryd.prog w = .ok (.int .u8 22) w := by kernel_rfl
theorem kindF (w : World) : ((ReflectliteType.abiMethod fun t => (fun a : Nat => Value.int IntKind.u8 (a : Int)) <$> Rtype.kind t) #[.pointer (some ⟨1, 82, none⟩)]).run Tryd.prog w = .ok (.int .u8 22) w := by kernel_rfl
theorem kindE (w : World) : ((ReflectliteType.abiMethod fun t => (fun a : Nat => Value.int IntKind.u8 (a : Int)) <$> Rtype.kind t) #[.pointer (some ⟨1, 34, none⟩)]).run Tryd.prog w = .ok (.int .u8 2) w := by kernel_rfl
theorem elemPF (w : World) : (ReflectliteType.method ReflectliteType.elem #[.agg #[.pointer (some ⟨1, 92, none⟩)]]).run Tryd.prog w = .ok (.iface 127 (.agg #[.pointer (some ⟨1, 82, none⟩)])) w := by kernel_rfl
theorem elemPE (w : World) : (ReflectliteType.method ReflectliteType.elem #[.agg #[.pointer (some ⟨1, 93, none⟩)]]).run Tryd.prog w = .ok (.iface 127 (.agg #[.pointer (some ⟨1, 34, none⟩)])) w := by kernel_rfl
theorem implementsF (w : World) : (ReflectliteType.relation "Implements" ReflectliteType.implements_ #[.agg #[.pointer (some ⟨1, 82, none⟩)], .iface 127 (.agg #[.pointer (some ⟨1, 24, none⟩)])]).run Tryd.prog w = .ok (.bool true) w := by kernel_rfl
theorem implementsE (w : World) : (ReflectliteType.relation "Implements" ReflectliteType.implements_ #[.agg #[.pointer (some ⟨1, 34, none⟩)], .iface 127 (.agg #[.pointer (some ⟨1, 24, none⟩)])]).run Tryd.prog w = .ok (.bool true) w := by kernel_rfl
theorem typeOfF (v : Value) (w : World) : (ReflectliteType.typeOf #[.iface 82 v]).run Tryd.prog w = .ok (.iface 127 (.agg #[.pointer (some ⟨1, 82, none⟩)])) w := by kernel_rfl
theorem typeOfE (v : Value) (w : World) : (ReflectliteType.typeOf #[.iface 34 v]).run Tryd.prog w = .ok (.iface 127 (.agg #[.pointer (some ⟨1, 34, none⟩)])) w := by kernel_rfl
theorem assignFF (w : World) : (ReflectliteType.relation "AssignableTo" ReflectliteType.assignableTo #[.agg #[.pointer (some ⟨1, 82, none⟩)], .iface 127 (.agg #[.pointer (some ⟨1, 82, none⟩)])]).run Tryd.prog w = .ok (.bool true) w := by kernel_rfl
theorem assignEF (w : World) : (ReflectliteType.relation "AssignableTo" ReflectliteType.assignableTo #[.agg #[.pointer (some ⟨1, 34, none⟩)], .iface 127 (.agg #[.pointer (some ⟨1, 82, none⟩)])]).run Tryd.prog w = .ok (.bool false) w := by kernel_rfl
theorem assignFE (w : World) : (ReflectliteType.relation "AssignableTo" ReflectliteType.assignableTo #[.agg #[.pointer (some ⟨1, 82, none⟩)], .iface 127 (.agg #[.pointer (some ⟨1, 34, none⟩)])]).run Tryd.prog w = .ok (.bool false) w := by kernel_rfl
theorem assignEE (w : World) : (ReflectliteType.relation "AssignableTo" ReflectliteType.assignableTo #[.agg #[.pointer (some ⟨1, 34, none⟩)], .iface 127 (.agg #[.pointer (some ⟨1, 34, none⟩)])]).run Tryd.prog w = .ok (.bool true) w := by kernel_rfl
/-! ### the entries that read or write memory -/
theorem rlm (z : Sem Value) (f : TypeId → Addr → Nat → Nat → Sem Value) (v : Value) :
    ReflectliteValue.method z f #[v] = (do match ← ReflectliteValue.parts v with | none => z | some (t, a, fl) => f t a fl (fl % 32)) := rfl
theorem partsPF (a : Addr) (w : World) : (ReflectliteValue.parts (.agg #[.pointer (some ⟨1, 92, none⟩), .pointer (some a), .int .u64 150])).run Tryd.prog w = .ok (some (92, a, 150)) w := by kernel_rfl
theorem partsPE (a : Addr) (w : World) : (ReflectliteValue.parts (.agg #[.pointer (some ⟨1, 93, none⟩), .pointer (some a), .int .u64 150])).run Tryd.prog w = .ok (some (93, a, 150)) w := by kernel_rfl
theorem isNilPF (a p : Addr) (W : World) (ha : W.cell? a = some (.pointer (some p))) :
    (ReflectliteValue.method (ReflectliteValue.valueError "reflectlite.Value.IsNil" 0) ReflectliteValue.isNil #[.agg #[.pointer (some ⟨1, 92, none⟩), .pointer (some a), .int .u64 150]]).run Tryd.prog W = .ok (.bool false) W := by
  rw [rlm]
  simp only [Sem.run_bind, partsPF, Result.andThen]
  simp [ReflectliteValue.isNil, loadVar, isAgg, underlying, Tryd.underlying92, ha, Result.andThen]
theorem isNilPE (a p : Addr) (W : World) (ha : W.cell? a = some (.pointer (some p))) :
    (ReflectliteValue.method (ReflectliteValue.valueError "reflectlite.Value.IsNil" 0) ReflectliteValue.isNil #[.agg #[.pointer (some ⟨1, 93, none⟩), .pointer (some a), .int .u64 150]]).run Tryd.prog W = .ok (.bool false) W := by
  rw [rlm]
  simp only [Sem.run_bind, partsPE, Result.andThen]
  simp [ReflectliteValue.isNil, loadVar, isAgg, underlying, Tryd.underlying93, ha, Result.andThen]
theorem elemOfPF (w : World) : (Rtype.elem? 92).run Tryd.prog w = .ok (some 82) w := by kernel_rfl
theorem elemOfPE (w : World) : (Rtype.elem? 93).run Tryd.prog w = .ok (some 34) w := by kernel_rfl
theorem mkF (p : Addr) (w : World) : (ReflectliteValue.mk 82 p ReflectliteValue.flagAddr).run Tryd.prog w = .ok (.agg #[.pointer (some ⟨1, 82, none⟩), .pointer (some p), .int .u64 406]) w := by kernel_rfl
theorem mkE (p : Addr) (w : World) : (ReflectliteValue.mk 34 p ReflectliteValue.flagAddr).run Tryd.prog w = .ok (.agg #[.pointer (some ⟨1, 34, none⟩), .pointer (some p), .int .u64 386]) w := by kernel_rfl
theorem elemVPF (a p : Addr) (W : World) (ha : W.cell? a = some (.pointer (some p))) :
    (ReflectliteValue.method (ReflectliteValue.valueError "reflectlite.Value.Elem" 0) ReflectliteValue.elem #[.agg #[.pointer (some ⟨1, 92, none⟩), .pointer (some a), .int .u64 150]]).run Tryd.prog W
      = .ok (.agg #[.pointer (some ⟨1, 82, none⟩), .pointer (some p), .int .u64 406]) W := by
  rw [rlm]
  simp only [Sem.run_bind, partsPF, Result.andThen]
  simp [ReflectliteValue.elem, loadVar, isAgg, underlying, Tryd.underlying92, ha, Result.andThen, elemOfPF, mkF]
theorem elemVPE (a p : Addr) (W : World) (ha : W.cell? a = some (.pointer (some p))) :
    (ReflectliteValue.method (ReflectliteValue.valueError "reflectlite.Value.Elem" 0) ReflectliteValue.elem #[.agg #[.pointer (some ⟨1, 93, none⟩), .pointer (some a), .int .u64 150]]).run Tryd.prog W
      = .ok (.agg #[.pointer (some ⟨1, 34, none⟩), .pointer (some p), .int .u64 386]) W := by
  rw [rlm]
  simp only [Sem.run_bind, partsPE, Result.andThen]
  simp [ReflectliteValue.elem, loadVar, isAgg, underlying, Tryd.underlying93, ha, Result.andThen, elemOfPE, mkE]
theorem rls (v x : Value) : ReflectliteValue.set #[v, x] = (do
    let (some (dst, a, fl), some (src, b, _)) := (← ReflectliteValue.parts v, ← ReflectliteValue.parts x)
      | unsupported (.noEntry "extern/(internal/reflectlite.Value).Set.zeroValue")
    if fl / ReflectliteValue.flagAddr % 2 == 0 then unsupported (.noEntry "extern/(internal/reflectlite.Value).Set.unaddressable")
    let val ← loadVar src b
    if ← Rtype.directlyAssignable dst src then storeVar dst a val
    else if ← Rtype.implements dst src then
      if (← Rtype.kind src) == 20 then
        match val with
        | .nilIface => unsupported (.noEntry "extern/reflectlite: a nil value of one interface type handed on as a value of another")
        | _ => storeVar dst a val
      else storeVar dst a (.iface src val)
    else panicString ("reflectlite.Set: value of type " ++ (← Rtype.spelt src) ++ " is not assignable to type " ++ (← Rtype.spelt dst))
    pure (.tuple #[])) := rfl
theorem partsFa (a : Addr) (w : World) : (ReflectliteValue.parts (.agg #[.pointer (some ⟨1, 82, none⟩), .pointer (some a), .int .u64 406])).run Tryd.prog w = .ok (some (82, a, 406)) w := by kernel_rfl
theorem partsF (a : Addr) (w : World) : (ReflectliteValue.parts (.agg #[.pointer (some ⟨1, 82, none⟩), .pointer (some a), .int .u64 150])).run Tryd.prog w = .ok (some (82, a, 150)) w := by kernel_rfl
theorem partsEa (a : Addr) (w : World) : (ReflectliteValue.parts (.agg #[.pointer (some ⟨1, 34, none⟩), .pointer (some a), .int .u64 386])).run Tryd.prog w = .ok (some (34, a, 386)) w := by kernel_rfl
theorem partsE (a : Addr) (w : World) : (ReflectliteValue.parts (.agg #[.pointer (some ⟨1, 34, none⟩), .pointer (some a), .int .u64 130])).run Tryd.prog w = .ok (some (34, a, 130)) w := by kernel_rfl
theorem directF (w : World) : (Rtype.directlyAssignable 82 82).run Tryd.prog w = .ok true w := by kernel_rfl
theorem directE (w : World) : (Rtype.directlyAssignable 34 34).run Tryd.prog w = .ok true w := by kernel_rfl
theorem setF (ta b : Addr) (x : Value) (old : Value) (W : World) (hx : x = .pointer none ∨ ∃ e, x = .pointer (some e)) (hb : W.cell? b = some x) (ht : W.cell? ta = some old) (hf : W.frozen? ta = false) :
    (ReflectliteValue.set #[.agg #[.pointer (some ⟨1, 82, none⟩), .pointer (some ta), .int .u64 406], .agg #[.pointer (some ⟨1, 82, none⟩), .pointer (some b), .int .u64 150]]).run Tryd.prog W
      = .ok (.tuple #[]) (W.setCell ta x) := by
  rw [rls]
  simp only [Sem.run_bind, partsFa, partsF, Result.andThen]
  rcases hx with rfl | ⟨e, rfl⟩
  · simp [ReflectliteValue.flagAddr, loadVar, isAgg, underlying, Tryd.underlying82, hb, Result.andThen, directF, storeVar, Value.cells, storeCells, Addr.add]
    rw [run_store Tryd.prog W ta _ _ (by rfl)]
    simp [ht, hf]
  · simp [ReflectliteValue.flagAddr, loadVar, isAgg, underlying, Tryd.underlying82, hb, Result.andThen, directF, storeVar, Value.cells, storeCells, Addr.add]
    rw [run_store Tryd.prog W ta _ _ (by rfl)]
    simp [ht, hf]
theorem setE (ta b : Addr) (k : Int) (old : Value) (W : World) (hb : W.cell? b = some (.int .i64 k)) (ht : W.cell? ta = some old) (hf : W.frozen? ta = false) :
    (ReflectliteValue.set #[.agg #[.pointer (some ⟨1, 34, none⟩), .pointer (some ta), .int .u64 386], .agg #[.pointer (some ⟨1, 34, none⟩), .pointer (some b), .int .u64 130]]).run Tryd.prog W
      = .ok (.tuple #[]) (W.setCell ta (.int .i64 k)) := by
  rw [rls]
  simp only [Sem.run_bind, partsEa, partsE, Result.andThen]
  simp [ReflectliteValue.flagAddr, loadVar, isAgg, underlying, Tryd.underlying34, hb, Result.andThen, directE, storeVar, Value.cells, storeCells, Addr.add]
  rw [run_store Tryd.prog W ta _ _ (by rfl)]
  simp [ht, hf]

/-! ### assertions -/
theorem noAsF (v : Value) (w : World) : (Instr.typeAssert (.iface 82 v) 24 132 true).run Tryd.prog w = .ok (.tuple #[.nilIface, .bool false]) w := run_typeAssert_lacksB Tryd.underlying132 (by kernel_rfl) (by kernel_rfl) v 24 w
theorem noAsE (v : Value) (w : World) : (Instr.typeAssert (.iface 34 v) 24 132 true).run Tryd.prog w = .ok (.tuple #[.nilIface, .bool false]) w := run_typeAssert_lacksB Tryd.underlying132 (by kernel_rfl) (by kernel_rfl) v 24 w
theorem hasUnwF (v : Value) (w : World) : (Instr.typeAssert (.iface 82 v) 24 135 true).run Tryd.prog w = .ok (.tuple #[.iface 82 v, .bool true]) w := run_typeAssert_hasB Tryd.underlying135 (by kernel_rfl) v 24 w
theorem noUnwE (v : Value) (w : World) : (Instr.typeAssert (.iface 34 v) 24 135 true).run Tryd.prog w = .ok (.tuple #[.nilIface, .bool false]) w := run_typeAssert_lacksB Tryd.underlying135 (by kernel_rfl) (by kernel_rfl) v 24 w
theorem noUnwsE (v : Value) (w : World) : (Instr.typeAssert (.iface 34 v) 24 137 true).run Tryd.prog w = .ok (.tuple #[.nilIface, .bool false]) w := run_typeAssert_lacksB Tryd.underlying137 (by kernel_rfl) (by kernel_rfl) v 24 w
end Go.Proofs.YtfcgfnmokbbcaaaDoor.Fa
