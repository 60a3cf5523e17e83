/-
  number, text, id of the statements' own package. Condition: texts no longer than a machine holds.
  The region of id that draws, of the statements' own package. No condition.
-/
import Derived.Test.YtfcgfnmokbbcaaaDoorU014
import Derived.Test.YtfcgfnmokbbcaaaDoorU006
import Derived.Test.YtfcgfnmokbbcaaaDoorU019
namespace Go.Proofs.YtfcgfnmokbbcaaaDoor.Wr
open Go.RowKit Go.Proofs.YtfcgfnmokbbcaaaDoor Go.Proofs.YtfcgfnmokbbcaaaDoor.Rw Go.Proofs.YtfcgfnmokbbcaaaDoor.Nm

theorem wrap_byte (x : Int) (j : Nat) (h : j < 8) : IntKind.u64.wrap x / 2 ^ (56 - 8 * j) % 256 = x / 2 ^ (56 - 8 * j) % 256 := by
  have e : IntKind.u64.wrap x = x % 18446744073709551616 := rfl
  rw [e]
  match j, h with
  | 0, _ => simp only [show (2 : Int) ^ (56 - 8 * 0) = 72057594037927936 from rfl]; omega
  | 1, _ => simp only [show (2 : Int) ^ (56 - 8 * 1) = 281474976710656 from rfl]; omega
  | 2, _ => simp only [show (2 : Int) ^ (56 - 8 * 2) = 1099511627776 from rfl]; omega
  | 3, _ => simp only [show (2 : Int) ^ (56 - 8 * 3) = 4294967296 from rfl]; omega
  | 4, _ => simp only [show (2 : Int) ^ (56 - 8 * 4) = 16777216 from rfl]; omega
  | 5, _ => simp only [show (2 : Int) ^ (56 - 8 * 5) = 65536 from rfl]; omega
  | 6, _ => simp only [show (2 : Int) ^ (56 - 8 * 6) = 256 from rfl]; omega
  | 7, _ => simp only [show (2 : Int) ^ (56 - 8 * 7) = 1 from rfl]; omega
set_option maxRecDepth 100000 in
set_option maxHeartbeats 8000000 in
theorem rnum_any (x : Int) (w : World) :
    Calls Tryd.prog 49 #[.int .i64 x] w fun e w' => (∃ v, e = .returned v ∧ OwnB w' w.heap.size v (numB x)) ∧ Below w.heap.size w w' := by
  have O0 := Lib.hid (own_nil (α := UInt8) (E := EB) w w.heap.size)
  go_enter Tryd.func49, Tryd.ntmps49
  go_wp2
  go_loopw [3, 4] (fun v i wr2 => ∃ j : Nat, j ≤ 8 ∧ i = .int .i64 (56 - 8 * (j : Int)) ∧ Below w.heap.size w wr2 ∧ OwnB wr2 w.heap.size v ((numB x).take j)) (fun _ i _ => (intOf i + 8).toNat)
  case atStart => exact ⟨0, Nat.zero_le _, rfl, Below.refl _ _, O0.out⟩
  case round =>
    obtain ⟨j, hj, rfl, hb2, how2⟩ := hrel
    have HB2 := Lib.hid hb2
    have HO2 := Lib.hid how2
    clear hb2 how2
    by_cases hlt8 : j < 8
    · have hwb := wrap_byte x j hlt8
      have hge : (8 : Int) * (j : Int) ≤ 56 := by omega
      have hlit := own_lit1 wr (Nm.byteOf x j)
      rw [byteOf_nat] at hlit
      have ho3 := own_on HO2.out ((Below.refl _ _).alloc (Nat.le_refl _) (.cells #[.int .u8 (x / 2 ^ (56 - 8 * j) % 256)] 5))
      have hl3 : ((numB x).take j).length + [Nm.byteOf x j].length ≤ 1000000000 := by
        have h2 : ((numB x).take j).length ≤ 8 := by simp [numB_len]; omega
        simp at h2 ⊢
        omega
      have hb3 := HB2.out.size
      obtain ⟨v', w', r, o', gr⟩ := appB w.heap.size ho3 (Row.of_own hlit) hl3 (by simp; omega) 22
      have TN := Lib.hid (show (numB x).take (j + 1) = (numB x).take j ++ [Nm.byteOf x j] by rw [numB_take x j hlt8])
      have B4 := Lib.hid (HB2.out.trans (((Below.refl w.heap.size wr).alloc hb3 (.cells #[.int .u8 (x / 2 ^ (56 - 8 * j) % 256)] 5)).trans (below_own ho3 (by simp; omega) gr)))
      have O4 := Lib.hid o'
      clear hlit ho3 hl3 o' gr
      go_wp2_with (first | (at_builtin; refine wpList_append_run rfl _ _ 22 rfl rfl rfl r ?_) | fail)
      go_roundw
      case rel => exact ⟨j + 1, by omega, by go_num, B4.out, by rw [TN.out]; exact O4.out⟩
      case measure => simp [intOf]; omega
    · obtain rfl : j = 8 := by omega
      go_wp2
      go_ret
      exact ⟨⟨_, rfl, HO2.out⟩, HB2.out⟩
set_option maxRecDepth 100000 in
set_option maxHeartbeats 8000000 in
theorem rtext_any (s : ByteArray) (w : World) (h255 : s.size ≤ 255) :
    Calls Tryd.prog 48 #[.string s] w fun e w' => (∃ v, e = .returned v ∧ OwnB w' w.heap.size v (textB s)) ∧ Below w.heap.size w w' := by
  have T := Lib.hid (textB_ok (s := s) h255)
  have hwr : IntKind.u8.wrap (s.size : Int) = s.size := IntWalk.u8_in _ (by omega)
  have hlit := own_lit1 w (UInt8.ofNat s.size)
  rw [show ((UInt8.ofNat s.size).toNat : Int) = s.size by rw [UInt8.toNat_ofNat']; omega] at hlit
  obtain ⟨v', w', r, o', gr⟩ := appS w.heap.size s hlit (by simp; omega) (by simp) 22
  have B4 := Lib.hid (((Below.refl w.heap.size w).alloc (Nat.le_refl _) (.cells #[.int .u8 s.size] 5)).trans (below_own hlit (by simp) gr))
  have O4 := Lib.hid o'
  clear hlit o' gr
  go_enter Tryd.func48, Tryd.ntmps48
  go_wp2_with (first | (at_builtin; refine wpList_append_run2 rfl _ _ 22 9 rfl rfl rfl r ?_) | fail)
  go_ret
  exact ⟨⟨_, rfl, by rw [T.out]; exact O4.out⟩, B4.out⟩
end Go.Proofs.YtfcgfnmokbbcaaaDoor.Wr

namespace Go.Proofs.YtfcgfnmokbbcaaaDoor.Wr
open Go.RowKit Go.Proofs.YtfcgfnmokbbcaaaDoor Go.Proofs.YtfcgfnmokbbcaaaDoor.Rw Go.Proofs.YtfcgfnmokbbcaaaDoor.Nm

def rid1S (B _xb : Nat) (c s : Int) : Nat → (Nat → Value) → World → Prop
  | 0, _, _ => True
  | 1, v, w => OwnB w B (v 2) (numB c)
  | 2, v, w => OwnB w B (v 2) (numB c) ∧ RowB w (v 5) (numB s)
  | 3, v, w => OwnB w B (v 6) (numB c ++ numB s)
  | _ + 4, v, w => OwnB w B (v 7) (numB c ++ numB s)
structure rid1C (B xb : Nat) (c s : Int) (W : World) (k : Nat) (b : Bool) (v : Nat → Value) (w : World) : Prop where
  bel : Below B W w
  bx0 : Box w xb #[.int .i64 c, .int .i64 s] 28
  lit : b = true → v 4 = .int .i64 s
  st : rid1S B xb c s k v w
noncomputable def rid1R : Code := ((Tryd.f47.body.bind (findRegion 1)).getD .skip)
set_option maxRecDepth 100000 in
set_option maxHeartbeats 8000000 in
theorem rid1 (B xb : Nat) (c s : Int) (Q : Exit → Act → World → Prop) (W : World) (u0 u2 u3 u4 u5 u6 u7 u8 u9 : Value)
    (hB : B ≤ W.heap.size) (hx0 : Box W xb #[.int .i64 c, .int .i64 s] 28)  
    (hQ : ∀ (w' : World) (v n3 n4 n5 n6 n7 n8 n9 : Value), OwnB w' B v (numB c ++ numB s) → Below B W w' → Box w' xb #[.int .i64 c, .int .i64 s] 28 → Q .normal ⟨(u0 :: .pointer (some ⟨xb, 0, none⟩) :: v :: n3 :: n4 :: n5 :: n6 :: n7 :: n8 :: n9 :: []).toArray, []⟩ w') :
    Code.wp Tryd.prog rid1R Q ⟨(u0 :: .pointer (some ⟨xb, 0, none⟩) :: u2 :: u3 :: u4 :: u5 :: u6 :: u7 :: u8 :: u9 :: []).toArray, []⟩ W := by
  have HQ := Lib.hid hQ
  have HX0 := Lib.hid hx0
  clear hQ hx0
  obtain ⟨dst, hdd⟩ : ∃ d : Nat → Nat, d = fun i => [3, 4, 5, 6, 7, 8, 9, 2].getD i 2 := ⟨_, rfl⟩
  obtain ⟨mk, hmk⟩ : ∃ d : Nat → Nat, d = fun j => [2, 5, 6, 7].getD j 999 := ⟨_, rfl⟩
  obtain ⟨pv, hpv⟩ : ∃ e : Nat → Option Value, e = fun i => ([some (.pointer (some ⟨xb, 0, none⟩)), some (.int .i64 c), none, some (.pointer (some ⟨xb, 1, none⟩)), none, none, none, none] : List (Option Value)).getD i none := ⟨_, rfl⟩
  obtain ⟨base, hbase⟩ : ∃ b : Act, b = ⟨(u0 :: .pointer (some ⟨xb, 0, none⟩) :: u2 :: u3 :: u4 :: u5 :: u6 :: u7 :: u8 :: u9 :: []).toArray, []⟩ := ⟨_, rfl⟩
  rw [← hbase]
  unfold rid1R
  conv => arg 2; whnf
  have nd : ∀ j, (j ≠ 3 ∧ j ≠ 4 ∧ j ≠ 5 ∧ j ≠ 6 ∧ j ≠ 7 ∧ j ≠ 8 ∧ j ≠ 9 ∧ j ≠ 2) → ∀ i, i < 8 → dst i ≠ j := by
    rw [hdd]
    intro j hj i hi
    rcases (by omega : i = 0 ∨ i = 1 ∨ i = 2 ∨ i = 3 ∨ i = 4 ∨ i = 5 ∨ i = 6 ∨ i = 7) with rfl | rfl | rfl | rfl | rfl | rfl | rfl | rfl <;> simp <;> omega
  refine Rg.region_chain 8 dst pv mk 4 4 1 (rid1C B xb c s W) (by kernel_rfl) (by kernel_rfl) rfl ?_ ?_ ?_ ?_ (by decide) ?_ ?_ (by subst hpv; rfl) ?_ ?_ ?_ ?_ ?_ ?_ ?_ ?_
  · subst hdd
    intro i j hi hj h
    rcases (by omega : i = 0 ∨ i = 1 ∨ i = 2 ∨ i = 3 ∨ i = 4 ∨ i = 5 ∨ i = 6 ∨ i = 7) with rfl | rfl | rfl | rfl | rfl | rfl | rfl | rfl <;> rcases (by omega : j = 0 ∨ j = 1 ∨ j = 2 ∨ j = 3 ∨ j = 4 ∨ j = 5 ∨ j = 6 ∨ j = 7) with rfl | rfl | rfl | rfl | rfl | rfl | rfl | rfl <;> first | rfl | (exfalso; revert h; decide)
  · subst hdd hbase
    intro i hi
    rcases (by omega : i = 0 ∨ i = 1 ∨ i = 2 ∨ i = 3 ∨ i = 4 ∨ i = 5 ∨ i = 6 ∨ i = 7) with rfl | rfl | rfl | rfl | rfl | rfl | rfl | rfl <;> (show _ < 10; decide)
  · subst hmk
    intro i j hi hj h
    rcases (by omega : i = 0 ∨ i = 1 ∨ i = 2 ∨ i = 3) with rfl | rfl | rfl | rfl <;> rcases (by omega : j = 0 ∨ j = 1 ∨ j = 2 ∨ j = 3) with rfl | rfl | rfl | rfl <;> first | rfl | (exfalso; revert h; decide)
  · subst hmk
    intro j hj
    rcases (by omega : j = 0 ∨ j = 1 ∨ j = 2 ∨ j = 3) with rfl | rfl | rfl | rfl <;> decide
  · subst hmk
    intro j hj
    rcases (by omega : j = 0 ∨ j = 1 ∨ j = 2 ∨ j = 3) with rfl | rfl | rfl | rfl <;> decide
  · subst hmk hpv
    intro j hj
    rcases (by omega : j = 0 ∨ j = 1 ∨ j = 2 ∨ j = 3) with rfl | rfl | rfl | rfl <;> rfl
  · subst hmk
    intro j o hj ho
    rcases (by omega : j = 0 ∨ j = 1 ∨ j = 2) with rfl | rfl | rfl
    · obtain rfl := Option.some.inj ho
      exact ⟨⟨2, .chain⟩, by simp, rfl, rfl⟩
    · obtain rfl := Option.some.inj ho
      exact ⟨⟨5, .data⟩, by simp, rfl, rfl⟩
    · obtain rfl := Option.some.inj ho
      exact ⟨⟨6, .data⟩, by simp, rfl, rfl⟩
  · subst hmk
    intro o _ ho
    obtain rfl := Option.some.inj ho
    exact ⟨⟨4, .data⟩, by simp, rfl, rfl⟩
  · intro v
    exact ⟨(Below.refl _ _).drew, HX0.out, (fun h => by cases h), trivial⟩
  · subst hmk
    intro k b v v' z h1 h2 hc
    refine ⟨hc.bel, hc.bx0, fun e => by rw [h2 e]; exact hc.lit e, ?_⟩
    have hm := hc.st
    rcases k with _ | _ | _ | _ | k
    · trivial
    · have e2 : v' 2 = v 2 := h1 0 (by omega)
      simp only [rid1S, e2] at hm ⊢
      exact hm
    · have e2 : v' 2 = v 2 := h1 0 (by omega)
      have e5 : v' 5 = v 5 := h1 1 (by omega)
      simp only [rid1S, e2, e5] at hm ⊢
      exact hm
    · have e6 : v' 6 = v 6 := h1 2 (by omega)
      simp only [rid1S, e6] at hm ⊢
      exact hm
    · have e7 : v' 7 = v 7 := h1 3 (by omega)
      simp only [rid1S, e7] at hm ⊢
      exact hm
  · subst hdd hmk hpv hbase
    intro i o hi ho hnm hnq
    rcases (by omega : i = 0 ∨ i = 1 ∨ i = 2 ∨ i = 3 ∨ i = 4 ∨ i = 5 ∨ i = 6 ∨ i = 7) with rfl | rfl | rfl | rfl | rfl | rfl | rfl | rfl
    · obtain rfl := Option.some.inj ho
      refine ⟨_, rfl, fun k b val z a hc seen K hK => ?_⟩
      have e1 : a.eval (.tmp 1) = .pointer (some ⟨xb, 0, none⟩) := seen.kp 1 _ (nd 1 (by decide)) rfl
      exact Rg.op_value_w rfl (Rg.wanted_none rfl) (Rg.ex_field a.eval _ 28 (.tmp 1) 0 rfl (by rw [e1]; simp [go_sem])) hK
    · obtain rfl := Option.some.inj ho
      refine ⟨_, rfl, fun k b val z a hc seen K hK => ?_⟩
      have e3 : a.eval (.tmp 3) = .pointer (some ⟨xb, 0, none⟩) := seen.pl ⟨0, .data⟩ (by simp) rfl _ rfl
      have y0_0 := hc.bx0.cell 0
      have y0_1 := hc.bx0.cell 1
      simp only [List.getElem?_toArray, List.getElem?_cons_zero, List.getElem?_cons_succ] at y0_0 y0_1
      exact Rg.op_value_w rfl (Rg.wanted_none rfl) (Rg.ex_load a.eval _ 3 (.tmp 3) rfl (by rw [e3]; simp [go_sem, y0_0])) hK
    · exact absurd rfl (hnm 0 (by decide))
    · obtain rfl := Option.some.inj ho
      refine ⟨_, rfl, fun k b val z a hc seen K hK => ?_⟩
      have e1 : a.eval (.tmp 1) = .pointer (some ⟨xb, 0, none⟩) := seen.kp 1 _ (nd 1 (by decide)) rfl
      exact Rg.op_value_w rfl (Rg.wanted_none rfl) (Rg.ex_field a.eval _ 28 (.tmp 1) 1 rfl (by rw [e1]; simp [go_sem])) hK
    · exact absurd rfl hnq
    · exact absurd rfl (hnm 1 (by decide))
    · exact absurd rfl (hnm 2 (by decide))
    · exact absurd rfl (hnm 3 (by decide))
  · subst hdd hmk hpv hbase
    intro j o b val z a hj ho hc hcb seen K hK
    have hm := hc.st
    rcases (by omega : j = 0 ∨ j = 1 ∨ j = 2 ∨ j = 3) with rfl | rfl | rfl | rfl
    · obtain rfl := Option.some.inj ho
      have e4 : a.eval (.tmp 4) = .int .i64 c := seen.pl ⟨1, .data⟩ (by simp) rfl _ rfl
      have C1 := rnum_any c z
      refine Rg.op_call_w rfl (Rg.wanted_none rfl) (ex_call1 _ _ (.tmp 4) 3 49 rfl e4 rfl _ (call_fn Tryd.func49 rfl rfl _ _)) C1 ?_
      rintro e z1 ⟨⟨v1, rfl, ho1⟩, hz⟩
      have ho2 := Rw.own_less (B' := B) (Nat.le_trans hB hc.bel.size) ho1
      refine ⟨v1, rfl, hK _ _ ⟨hc.bel.trans (hz.mono (Nat.le_trans hB hc.bel.size)), hc.bx0.on hz, (fun e => by rw [Rg.upd_other _ _ (by decide)]; exact hc.lit e), (show OwnB _ B (Rg.upd val 2 _ 2) (numB c) from by rw [Rg.upd_same]; exact ho2)⟩⟩
    · obtain rfl := Option.some.inj ho
      have e7 : a.eval (.tmp 7) = val 4 := seen.at_ ⟨4, .data⟩ (by simp) rfl
      have e7 : a.eval (.tmp 7) = .int .i64 s := e7.trans (hc.lit (hcb (by omega)))
      have C1 := rnum_any s z
      refine Rg.op_call_w rfl (Rg.wanted_none rfl) (ex_call1 _ _ (.tmp 7) 3 49 rfl e7 rfl _ (call_fn Tryd.func49 rfl rfl _ _)) C1 ?_
      rintro e z1 ⟨⟨v1, rfl, ho1⟩, hz⟩
      have ho2 := Rw.own_less (B' := B) (Nat.le_trans hB hc.bel.size) ho1
      refine ⟨v1, rfl, hK _ _ ⟨hc.bel.trans (hz.mono (Nat.le_trans hB hc.bel.size)), hc.bx0.on hz, (fun e => by rw [Rg.upd_other _ _ (by decide)]; exact hc.lit e), ⟨(show OwnB _ B (Rg.upd val 5 _ 2) (numB c) from by rw [Rg.upd_other _ _ (by decide)]; exact Rw.own_on hm hz), (show RowB _ (Rg.upd val 5 _ 5) (numB s) from by rw [Rg.upd_same]; exact Row.of_own ho2)⟩⟩⟩
    · obtain rfl := Option.some.inj ho
      have e5 : a.eval (.tmp 5) = val 2 := seen.at_ ⟨2, .data⟩ (by simp) rfl
      have e8 : a.eval (.tmp 8) = val 5 := seen.at_ ⟨5, .data⟩ (by simp) rfl
      obtain ⟨v1, z1, r, ho1, hg, hb1⟩ := app_nextB (l := numB c) (m := numB s) hB hc.bel hm.1 hm.2 (by rw [numB_len, numB_len]; omega)
      have ho0 := hm.1
      refine Rg.op_value_w rfl (Rg.wanted_none rfl) (Rg.ex_append a.eval _ (.tmp 5) (.tmp 8) 22 rfl e5 e8 r) (hK _ _ ⟨hb1, box_grown hc.bx0 hg (own_neB ho0 hc.bx0 (by decide)), (fun e => by rw [Rg.upd_other _ _ (by decide)]; exact hc.lit e), (show OwnB _ B (Rg.upd val 6 _ 6) (numB c ++ numB s) from by rw [Rg.upd_same]; exact ho1)⟩)
    · obtain rfl := Option.some.inj ho
      have e9 : a.eval (.tmp 9) = val 6 := seen.at_ ⟨6, .data⟩ (by simp) rfl
      refine Rg.op_value_w rfl (Rg.wanted_none rfl) (Rg.ex_assign a.eval _ (.tmp 9) rfl _) (hK _ _ ⟨hc.bel, hc.bx0, (fun e => by rw [Rg.upd_other _ _ (by decide)]; exact hc.lit e), ?_⟩)
      show OwnB _ B (Rg.upd val 7 _ 7) (numB c ++ numB s)
      rw [Rg.upd_same, e9]
      exact hm
  · subst hdd hmk hpv hbase
    intro o k val z a hk ho hc seen K hK
    obtain rfl := Option.some.inj ho
    have hm := hc.st
    have e6 : a.eval (.tmp 6) = .pointer (some ⟨xb, 1, none⟩) := seen.pl ⟨3, .data⟩ (by simp) rfl _ rfl
    have y0_0 := hc.bx0.cell 0
    have y0_1 := hc.bx0.cell 1
    simp only [List.getElem?_toArray, List.getElem?_cons_zero, List.getElem?_cons_succ] at y0_0 y0_1
    refine Rg.op_value_w rfl (Rg.wanted_none rfl) (Rg.ex_load a.eval _ 3 (.tmp 6) rfl (by rw [e6]; simp [go_sem, y0_1])) (hK _ _ ⟨hc.bel, hc.bx0, (fun _ => Rg.upd_same _ _ _), ?_⟩)
    rcases (by omega : k = 0 ∨ k = 1) with rfl | rfl
    · trivial
    · simp only [rid1S, Rg.upd, show (2 : Nat) ≠ 4 by decide, if_false] at hm ⊢
      exact hm
  · subst hdd hbase
    intro a b val z hc hd hsz hk hv
    have hm := hc.st
    have hk2 : ∀ j, (j < 3 ∨ 3 + 7 ≤ j) → a.tmps[j]? = (u0 :: .pointer (some ⟨xb, 0, none⟩) :: val 7 :: u3 :: u4 :: u5 :: u6 :: u7 :: u8 :: u9 :: [] : List Value)[j]? := fun j hj => by
      by_cases e : j = 2
      · subst e
        exact hv 7 (by decide)
      · have h1 := (hk j (nd j (by omega))).trans List.getElem?_toArray
        rw [h1]
        rw [show (u0 :: .pointer (some ⟨xb, 0, none⟩) :: val 7 :: u3 :: u4 :: u5 :: u6 :: u7 :: u8 :: u9 :: [] : List Value) = (u0 :: .pointer (some ⟨xb, 0, none⟩) :: u2 :: u3 :: u4 :: u5 :: u6 :: u7 :: u8 :: u9 :: []).set 2 (val 7) from rfl, List.getElem?_set_ne (fun e2 => e e2.symm)]
    obtain ⟨mid, hmid, rfl⟩ := Rg.frame_mid (bl := (u0 :: .pointer (some ⟨xb, 0, none⟩) :: val 7 :: u3 :: u4 :: u5 :: u6 :: u7 :: u8 :: u9 :: [])) 3 7 hd hsz (by show 3 + 7 ≤ 10; decide) hk2
    match mid, hmid with
    | n3 :: n4 :: n5 :: n6 :: n7 :: n8 :: n9 :: [], _ => exact HQ.out z (val 7) n3 n4 n5 n6 n7 n8 n9 hm hc.bel hc.bx0
end Go.Proofs.YtfcgfnmokbbcaaaDoor.Wr
