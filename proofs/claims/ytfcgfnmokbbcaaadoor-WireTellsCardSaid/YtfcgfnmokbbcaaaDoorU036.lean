/-
  Two regions of Message of the statements' own package: its kind and tree, its ID. Condition: numbers of 64 bits.
  Names and pick of the statements' own packages. Condition: numbers of 64 bits; lists no longer than a machine holds.
  Constraint of the statements' own package: a constraint of a number. Condition: numbers of 64 bits.
-/
import Derived.Test.YtfcgfnmokbbcaaaDoorU014
import Derived.Test.YtfcgfnmokbbcaaaDoorU035
import Derived.Test.YtfcgfnmokbbcaaaDoorU003
import Derived.Test.YtfcgfnmokbbcaaaDoorU007
import Derived.Test.YtfcgfnmokbbcaaaDoorU008
import Derived.WalkKit
import Derived.Test.YtfcgfnmokbbcaaaDoorU011
import Derived.Deep.RegionWith
import Derived.IntWalk
namespace Go.Proofs.YtfcgfnmokbbcaaaDoor.Wr
open Go.RowKit Go.Proofs.YtfcgfnmokbbcaaaDoor Go.Proofs.YtfcgfnmokbbcaaaDoor.Rw Go.Proofs.YtfcgfnmokbbcaaaDoor.Nm Go.Proofs.YtfcgfnmokbbcaaaDoor.At Go.Proofs.YtfcgfnmokbbcaaaDoor.Pr Go.Proofs.YtfcgfnmokbbcaaaDoor.Wi

theorem call_within (args : Array Value) (w : World) : (callFunc 20 args).run Tryd.prog w = .ok (.enter 20 args) w := call_fn Tryd.func20 rfl rfl args w
def cofM : Value → Array Value
  | .agg cs => cs
  | _ => #[]
abbrev zeroM : Array Value := #[.int .i64 0, .int .i64 0, .int .i64 0, .int .i64 0, .int .i64 0, .slice none 0 0, .slice none 0 0]
noncomputable def msgR1 : Code := ((Tryd.f12.body.bind (findRegion 1)).getD .skip)
set_option maxRecDepth 100000 in
set_option maxHeartbeats 8000000 in
theorem msg_r1 (Q : Exit → Act → World → Prop) (W : World) (kb : Nat) (kd cl sq : Int) (u0 u2 u3 u4 u5 u6 u7 u8 u9 u10 u11 u12 u13 u14 u15 u16 u17 u18 u19 u20 u21 u22 u23 u24 u25 u26 u27 u28 u29 u30 u31 u32 u33 u34 u35 u36 u37 u38 u39 u40 u41 u42 u43 u44 u45 : Value) (h1 : I64 kd) (h2 : I64 cl) (h3 : I64 sq)
    (hc : ∀ x, Below W.heap.size W x → x.cell? ⟨kb, 0, none⟩ = some (.int .i64 kd) ∧ x.cell? ⟨kb, 1, none⟩ = some (.int .i64 cl) ∧ x.cell? ⟨kb, 2, none⟩ = some (.int .i64 sq))
    (hQ : ∀ (x : World) (bb : Nat) (v4 v5 v6 v7 v8 v9 v10 v11 v12 v13 v14 : Value), Box x bb (cofM (.agg #[.int .i64 (within kd 1 5), .int .i64 (within cl 0 4), .int .i64 (within sq 0 4), .int .i64 0, .int .i64 0, .slice none 0 0, .slice none 0 0])) 32 → W.heap.size ≤ bb → Below W.heap.size W x → Q .normal ⟨(u0 :: .pointer (some ⟨kb, 0, none⟩) :: u2 :: .pointer (some ⟨bb, 0, none⟩) :: v4 :: v5 :: v6 :: v7 :: v8 :: v9 :: v10 :: v11 :: v12 :: v13 :: v14 :: u15 :: u16 :: u17 :: u18 :: u19 :: u20 :: u21 :: u22 :: u23 :: u24 :: u25 :: u26 :: u27 :: u28 :: u29 :: u30 :: u31 :: u32 :: u33 :: u34 :: u35 :: u36 :: u37 :: u38 :: u39 :: u40 :: u41 :: u42 :: u43 :: u44 :: u45 :: []).toArray, []⟩ x) :
    Code.wp Tryd.prog msgR1 Q ⟨(u0 :: .pointer (some ⟨kb, 0, none⟩) :: u2 :: u3 :: u4 :: u5 :: u6 :: u7 :: u8 :: u9 :: u10 :: u11 :: u12 :: u13 :: u14 :: u15 :: u16 :: u17 :: u18 :: u19 :: u20 :: u21 :: u22 :: u23 :: u24 :: u25 :: u26 :: u27 :: u28 :: u29 :: u30 :: u31 :: u32 :: u33 :: u34 :: u35 :: u36 :: u37 :: u38 :: u39 :: u40 :: u41 :: u42 :: u43 :: u44 :: u45 :: []).toArray, []⟩ W := by
  have HQ := Lib.hid hQ
  have HC := Lib.hid hc
  have HW1 := Lib.hid (fun w => within_any kd 1 5 w (by decide) (by decide) (by decide) h1.1 h1.2)
  have HW2 := Lib.hid (fun w => within_any cl 0 4 w (by decide) (by decide) (by decide) h2.1 h2.2)
  have HW3 := Lib.hid (fun w => within_any sq 0 4 w (by decide) (by decide) (by decide) h3.1 h3.2)
  clear hQ hc
  unfold msgR1
  conv => arg 2; whnf
  obtain ⟨d, hd⟩ : ∃ d : Nat → Nat, d = fun i => [4, 5, 6, 7, 8, 9, 10, 11, 12, 13, 14, 3, 3].getD i 3 := ⟨_, rfl⟩
  obtain ⟨cv, hcv⟩ : ∃ cv : Nat → Option Value, cv = fun i => ([some (.pointer (some ⟨kb, 0, none⟩)), some (.int .i64 kd), some (.int .i64 (within kd 1 5)), some (.pointer (some ⟨kb, 1, none⟩)), some (.int .i64 cl), some (.int .i64 (within cl 0 4)), some (.pointer (some ⟨kb, 2, none⟩)), some (.int .i64 sq), some (.int .i64 (within sq 0 4)), some (.agg #[.int .i64 (within cl 0 4), .int .i64 (within sq 0 4)]), none, none, none] : List (Option Value)).getD i none := ⟨_, rfl⟩
  have nd : ∀ j, (j < 3 ∨ 15 ≤ j) → ∀ i, i < 13 → d i ≠ j := by
    rw [hd]
    intro j hj i hi
    rcases (by omega : i = 0 ∨ i = 1 ∨ i = 2 ∨ i = 3 ∨ i = 4 ∨ i = 5 ∨ i = 6 ∨ i = 7 ∨ i = 8 ∨ i = 9 ∨ i = 10 ∨ i = 11 ∨ i = 12) with rfl | rfl | rfl | rfl | rfl | rfl | rfl | rfl | rfl | rfl | rfl | rfl | rfl <;> simp <;> omega
  refine Rg.region_box 13 11 12 10 d cv (fun u _ => u = .agg #[.int .i64 (within kd 1 5), .int .i64 (within cl 0 4), .int .i64 (within sq 0 4), .int .i64 0, .int .i64 0, .slice none 0 0, .slice none 0 0]) 32 zeroM cofM (by kernel_rfl) (by kernel_rfl) rfl (by decide) (by decide) (by decide) (by decide) (by decide) (by decide) (congrFun hcv 11) (congrFun hcv 10) (congrFun hcv 12) ?_ ?_ ?_ ?_ ?_ ?_ ?_ ?_ ?_ ?_
  · subst hd
    intro i j hi hj hiS hjS h
    rcases (by omega : i = 0 ∨ i = 1 ∨ i = 2 ∨ i = 3 ∨ i = 4 ∨ i = 5 ∨ i = 6 ∨ i = 7 ∨ i = 8 ∨ i = 9 ∨ i = 10 ∨ i = 11) with rfl | rfl | rfl | rfl | rfl | rfl | rfl | rfl | rfl | rfl | rfl | rfl <;> rcases (by omega : j = 0 ∨ j = 1 ∨ j = 2 ∨ j = 3 ∨ j = 4 ∨ j = 5 ∨ j = 6 ∨ j = 7 ∨ j = 8 ∨ j = 9 ∨ j = 10 ∨ j = 11) with rfl | rfl | rfl | rfl | rfl | rfl | rfl | rfl | rfl | rfl | rfl | rfl <;> first | rfl | (exfalso; revert h; decide)
  · subst hd
    intro i hi
    rcases (by omega : i = 0 ∨ i = 1 ∨ i = 2 ∨ i = 3 ∨ i = 4 ∨ i = 5 ∨ i = 6 ∨ i = 7 ∨ i = 8 ∨ i = 9 ∨ i = 10 ∨ i = 11 ∨ i = 12) with rfl | rfl | rfl | rfl | rfl | rfl | rfl | rfl | rfl | rfl | rfl | rfl | rfl <;> (show _ < 46; decide)
  · subst hcv
    intro i hi h1 h2 h3
    rcases (by omega : i = 0 ∨ i = 1 ∨ i = 2 ∨ i = 3 ∨ i = 4 ∨ i = 5 ∨ i = 6 ∨ i = 7 ∨ i = 8 ∨ i = 9) with rfl | rfl | rfl | rfl | rfl | rfl | rfl | rfl | rfl | rfl <;> exact ⟨_, rfl⟩
  · intro v x x' h _
    exact h
  · intro o ho
    obtain rfl := Option.some.inj ho
    exact ⟨⟨⟨11, .data⟩, by simp, rfl, rfl⟩, ⟨10, .data⟩, by simp, rfl, rfl⟩
  · subst hcv
    intro i o v hiN h1 h2 h3 ho hv a x hb seen K hK
    clear HQ
    subst hd
    rcases (by omega : i = 0 ∨ i = 1 ∨ i = 2 ∨ i = 3 ∨ i = 4 ∨ i = 5 ∨ i = 6 ∨ i = 7 ∨ i = 8 ∨ i = 9) with rfl | rfl | rfl | rfl | rfl | rfl | rfl | rfl | rfl | rfl
    · obtain rfl := Option.some.inj ho
      obtain rfl := Option.some.inj hv
      have e1 : a.eval (.tmp 1) = .pointer (some ⟨kb, 0, none⟩) := seen.kp 1 _ (nd 1 (by omega)) rfl
      exact Rg.op_value rfl rfl (Rg.ex_field a.eval _ 42 (.tmp 1) 0 rfl (by rw [e1]; simp [go_sem])) hK
    · obtain rfl := Option.some.inj ho
      obtain rfl := Option.some.inj hv
      have e4 : a.eval (.tmp 4) = .pointer (some ⟨kb, 0, none⟩) := seen.at_ ⟨0, .data⟩ (by simp) rfl _ rfl
      have y := HC.out x hb
      exact Rg.op_value rfl rfl (Rg.ex_load a.eval _ 3 (.tmp 4) rfl (by rw [e4]; simp [go_sem, y.1])) hK
    · obtain rfl := Option.some.inj ho
      obtain rfl := Option.some.inj hv
      have e5 : a.eval (.tmp 5) = .int .i64 kd := seen.at_ ⟨1, .data⟩ (by simp) rfl _ rfl
      exact Rg.op_call rfl rfl (Rg.ex_call3 _ _ (.tmp 5) (.const (.int .i64 1)) (.const (.int .i64 5)) 3 20 rfl e5 rfl rfl rfl _ (call_within _ _)) (HW1.out _) (fun e w1 h => by
        obtain ⟨rfl, rfl⟩ := h
        exact ⟨_, rfl, hK⟩)
    · obtain rfl := Option.some.inj ho
      obtain rfl := Option.some.inj hv
      have e1 : a.eval (.tmp 1) = .pointer (some ⟨kb, 0, none⟩) := seen.kp 1 _ (nd 1 (by omega)) rfl
      exact Rg.op_value rfl rfl (Rg.ex_field a.eval _ 42 (.tmp 1) 1 rfl (by rw [e1]; simp [go_sem])) hK
    · obtain rfl := Option.some.inj ho
      obtain rfl := Option.some.inj hv
      have e7 : a.eval (.tmp 7) = .pointer (some ⟨kb, 1, none⟩) := seen.at_ ⟨3, .data⟩ (by simp) rfl _ rfl
      have y := HC.out x hb
      exact Rg.op_value rfl rfl (Rg.ex_load a.eval _ 3 (.tmp 7) rfl (by rw [e7]; simp [go_sem, y.2.1])) hK
    · obtain rfl := Option.some.inj ho
      obtain rfl := Option.some.inj hv
      have e8 : a.eval (.tmp 8) = .int .i64 cl := seen.at_ ⟨4, .data⟩ (by simp) rfl _ rfl
      exact Rg.op_call rfl rfl (Rg.ex_call3 _ _ (.tmp 8) (.const (.int .i64 0)) (.const (.int .i64 4)) 3 20 rfl e8 rfl rfl rfl _ (call_within _ _)) (HW2.out _) (fun e w1 h => by
        obtain ⟨rfl, rfl⟩ := h
        exact ⟨_, rfl, hK⟩)
    · obtain rfl := Option.some.inj ho
      obtain rfl := Option.some.inj hv
      have e1 : a.eval (.tmp 1) = .pointer (some ⟨kb, 0, none⟩) := seen.kp 1 _ (nd 1 (by omega)) rfl
      exact Rg.op_value rfl rfl (Rg.ex_field a.eval _ 42 (.tmp 1) 2 rfl (by rw [e1]; simp [go_sem])) hK
    · obtain rfl := Option.some.inj ho
      obtain rfl := Option.some.inj hv
      have e10 : a.eval (.tmp 10) = .pointer (some ⟨kb, 2, none⟩) := seen.at_ ⟨6, .data⟩ (by simp) rfl _ rfl
      have y := HC.out x hb
      exact Rg.op_value rfl rfl (Rg.ex_load a.eval _ 3 (.tmp 10) rfl (by rw [e10]; simp [go_sem, y.2.2])) hK
    · obtain rfl := Option.some.inj ho
      obtain rfl := Option.some.inj hv
      have e11 : a.eval (.tmp 11) = .int .i64 sq := seen.at_ ⟨7, .data⟩ (by simp) rfl _ rfl
      exact Rg.op_call rfl rfl (Rg.ex_call3 _ _ (.tmp 11) (.const (.int .i64 0)) (.const (.int .i64 4)) 3 20 rfl e11 rfl rfl rfl _ (call_within _ _)) (HW3.out _) (fun e w1 h => by
        obtain ⟨rfl, rfl⟩ := h
        exact ⟨_, rfl, hK⟩)
    · obtain rfl := Option.some.inj ho
      obtain rfl := Option.some.inj hv
      have e9 : a.eval (.tmp 9) = .int .i64 (within cl 0 4) := seen.at_ ⟨5, .data⟩ (by simp) rfl _ rfl
      have e12 : a.eval (.tmp 12) = .int .i64 (within sq 0 4) := seen.at_ ⟨8, .data⟩ (by simp) rfl _ rfl
      exact Rg.op_value rfl rfl (Rg.ex_buildS a.eval _ 28 #[(0, (.tmp 9)), (1, (.tmp 12))] rfl (by simp only [List.map_toArray, List.map_cons, List.map_nil, e9, e12]; rfl) (by simp [go_sem])) hK
  · subst hcv
    intro o ho a x hb seen K hK
    clear HQ
    subst hd
    obtain rfl := Option.some.inj ho
    have e6 : a.eval (.tmp 6) = .int .i64 (within kd 1 5) := seen.at_ ⟨2, .data⟩ (by simp) rfl _ rfl
    have e13 : a.eval (.tmp 13) = .agg #[.int .i64 (within cl 0 4), .int .i64 (within sq 0 4)] := seen.at_ ⟨9, .data⟩ (by simp) rfl _ rfl
    exact Rg.op_value rfl rfl (Rg.ex_buildS a.eval _ 32 #[(0, .tmp 6), (1, .tmp 13)] rfl (by simp only [List.map_toArray, List.map_cons, List.map_nil, e6, e13]; rfl) (by simp [go_sem])) (hK _ _ rfl (Below.refl _ _))
  · subst hd
    intro o ho a x K hK
    obtain rfl := Option.some.inj ho
    exact Rg.op_value rfl rfl (by simp [execOp, go_sem]) hK
  · subst hd
    intro o ho a x bb v hb e0 e1 hv hbb hx K hK
    clear HQ
    obtain rfl := Option.some.inj ho
    subst hv
    have hx : Box x bb zeroM 32 := hx
    have c0 := hx.cell 0
    have f0 := hx.fr 0
    have c1 := hx.cell 1
    have f1 := hx.fr 1
    have c2 := hx.cell 2
    have f2 := hx.fr 2
    have c3 := hx.cell 3
    have f3 := hx.fr 3
    have c4 := hx.cell 4
    have f4 := hx.fr 4
    have c5 := hx.cell 5
    have f5 := hx.fr 5
    have c6 := hx.cell 6
    have f6 := hx.fr 6
    simp only [List.getElem?_toArray, List.getElem?_cons_zero, List.getElem?_cons_succ] at c0 c1 c2 c3 c4 c5 c6
    have xs0 := hx
    have xs1 := heap_setCell_same _ bb 0 _ 32 (.int .i64 (within kd 1 5)) xs0
    have xs2 := heap_setCell_same _ bb 1 _ 32 (.int .i64 (within cl 0 4)) xs1
    have xs3 := heap_setCell_same _ bb 2 _ 32 (.int .i64 (within sq 0 4)) xs2
    have xs4 := heap_setCell_same _ bb 3 _ 32 (.int .i64 0) xs3
    have xs5 := heap_setCell_same _ bb 4 _ 32 (.int .i64 0) xs4
    have xs6 := heap_setCell_same _ bb 5 _ 32 (.slice none 0 0) xs5
    have xs7 := heap_setCell_same _ bb 6 _ 32 (.slice none 0 0) xs6
    refine Rg.op_skip rfl rfl (Rg.ex_store a.eval _ 32 (.tmp 3) (.tmp 14) rfl (w' := (((((((x.setCell ⟨bb, 0, none⟩ (.int .i64 (within kd 1 5))).setCell ⟨bb, 1, none⟩ (.int .i64 (within cl 0 4))).setCell ⟨bb, 2, none⟩ (.int .i64 (within sq 0 4))).setCell ⟨bb, 3, none⟩ (.int .i64 0)).setCell ⟨bb, 4, none⟩ (.int .i64 0)).setCell ⟨bb, 5, none⟩ (.slice none 0 0)).setCell ⟨bb, 6, none⟩ (.slice none 0 0))) (by
      have e0' : a.eval (.tmp 3) = .pointer (some ⟨bb, 0, none⟩) := e0
      have e1' : a.eval (.tmp 14) = .agg #[.int .i64 (within kd 1 5), .int .i64 (within cl 0 4), .int .i64 (within sq 0 4), .int .i64 0, .int .i64 0, .slice none 0 0, .slice none 0 0] := e1
      rw [e0', e1']
      simp [go_sem, c0, f0, c1, f1, c2, f2, c3, f3, c4, f4, c5, f5, c6, f6])) (hK _ ((((((((hb.setCell hbb _).setCell hbb _).setCell hbb _).setCell hbb _).setCell hbb _).setCell hbb _).setCell hbb _)) xs7 rfl)
  · subst hd
    intro a x bb v h1 h2 h3 h4 h5 h6 h7 hb h8
    subst h7
    obtain ⟨mid, hm, rfl⟩ := Rg.frame_mid (bl := (u0 :: .pointer (some ⟨kb, 0, none⟩) :: u2 :: u3 :: u4 :: u5 :: u6 :: u7 :: u8 :: u9 :: u10 :: u11 :: u12 :: u13 :: u14 :: u15 :: u16 :: u17 :: u18 :: u19 :: u20 :: u21 :: u22 :: u23 :: u24 :: u25 :: u26 :: u27 :: u28 :: u29 :: u30 :: u31 :: u32 :: u33 :: u34 :: u35 :: u36 :: u37 :: u38 :: u39 :: u40 :: u41 :: u42 :: u43 :: u44 :: u45 :: [])) 3 12 h1 h2 (by show 3 + 12 ≤ 46; decide) (fun j hj => (h3 j (nd j (by omega))).trans List.getElem?_toArray)
    match mid, hm with
    | v3 :: v4 :: v5 :: v6 :: v7 :: v8 :: v9 :: v10 :: v11 :: v12 :: v13 :: v14 :: [], _ =>
      obtain rfl : v3 = _ := Option.some.inj h4
      exact HQ.out x bb v4 v5 v6 v7 v8 v9 v10 v11 v12 v13 v14 h6 h5 hb
noncomputable def msgR3 : Code := ((Tryd.f12.body.bind (findRegion 3)).getD .skip)
set_option maxRecDepth 100000 in
set_option maxHeartbeats 8000000 in
theorem msg_r3 (Q : Exit → Act → World → Prop) (W : World) (kb mb : Nat) (ow nm k tc ts : Int) (u0 u2 u4 u5 u6 u7 u8 u9 u10 u11 u12 u13 u14 u15 u16 u17 u18 u19 u20 u21 u22 u23 u24 u25 u26 u27 u28 u29 u30 u31 u32 u33 u34 u35 u36 u37 u38 u39 u40 u41 u42 u43 u44 u45 : Value) (h1 : I64 ow) (h2 : I64 nm)
    (hc : ∀ x, Below W.heap.size W x → x.cell? ⟨kb, 3, none⟩ = some (.int .i64 ow) ∧ x.cell? ⟨kb, 4, none⟩ = some (.int .i64 nm)) (hx : Box W mb #[.int .i64 k, .int .i64 tc, .int .i64 ts, .int .i64 0, .int .i64 0, .slice none 0 0, .slice none 0 0] 32)
    (hQ : ∀ (v18 v19 v20 v21 v22 v23 v24 v25 : Value), Box ((W.drew.setCell ⟨mb, 3, none⟩ (.int .i64 (within ow 0 4))).setCell ⟨mb, 4, none⟩ (.int .i64 (within nm 0 4))) mb #[.int .i64 k, .int .i64 tc, .int .i64 ts, .int .i64 (within ow 0 4), .int .i64 (within nm 0 4), .slice none 0 0, .slice none 0 0] 32 → Q .normal ⟨(u0 :: .pointer (some ⟨kb, 0, none⟩) :: u2 :: .pointer (some ⟨mb, 0, none⟩) :: u4 :: u5 :: u6 :: u7 :: u8 :: u9 :: u10 :: u11 :: u12 :: u13 :: u14 :: u15 :: u16 :: u17 :: v18 :: v19 :: v20 :: v21 :: v22 :: v23 :: v24 :: v25 :: u26 :: u27 :: u28 :: u29 :: u30 :: u31 :: u32 :: u33 :: u34 :: u35 :: u36 :: u37 :: u38 :: u39 :: u40 :: u41 :: u42 :: u43 :: u44 :: u45 :: []).toArray, []⟩ ((W.drew.setCell ⟨mb, 3, none⟩ (.int .i64 (within ow 0 4))).setCell ⟨mb, 4, none⟩ (.int .i64 (within nm 0 4)))) :
    Code.wp Tryd.prog msgR3 Q ⟨(u0 :: .pointer (some ⟨kb, 0, none⟩) :: u2 :: .pointer (some ⟨mb, 0, none⟩) :: u4 :: u5 :: u6 :: u7 :: u8 :: u9 :: u10 :: u11 :: u12 :: u13 :: u14 :: u15 :: u16 :: u17 :: u18 :: u19 :: u20 :: u21 :: u22 :: u23 :: u24 :: u25 :: u26 :: u27 :: u28 :: u29 :: u30 :: u31 :: u32 :: u33 :: u34 :: u35 :: u36 :: u37 :: u38 :: u39 :: u40 :: u41 :: u42 :: u43 :: u44 :: u45 :: []).toArray, []⟩ W := by
  have HQ := Lib.hid hQ
  have HC := Lib.hid hc
  have HX := Lib.hid hx
  have HW1 := Lib.hid (fun w => within_any ow 0 4 w (by decide) (by decide) (by decide) h1.1 h1.2)
  have HW2 := Lib.hid (fun w => within_any nm 0 4 w (by decide) (by decide) (by decide) h2.1 h2.2)
  clear hQ hc hx
  obtain ⟨wof, hw⟩ : ∃ wof : Nat → World, wof = fun | 0 => W.drew | _ => (W.drew.setCell ⟨mb, 3, none⟩ (.int .i64 (within ow 0 4))).setCell ⟨mb, 4, none⟩ (.int .i64 (within nm 0 4)) := ⟨_, rfl⟩
  have hb0 : Below W.heap.size W (wof 0) := by rw [hw]; exact (Below.refl _ _).drew
  unfold msgR3
  conv => arg 2; whnf
  refine Rg.region_marks_s 18 8 [.pointer (some ⟨kb, 3, none⟩), .int .i64 ow, .int .i64 (within ow 0 4), .pointer (some ⟨kb, 4, none⟩), .int .i64 nm, .int .i64 (within nm 0 4), .agg #[.int .i64 (within ow 0 4), .int .i64 (within nm 0 4)], .pointer (some ⟨mb, 3, none⟩), undef] (fun _ => 8) 1 wof (by kernel_rfl) (by kernel_rfl) rfl rfl (by show 18 + 8 ≤ 46; decide) ⟨0, by decide, rfl⟩ (congrFun hw 0) ?_ ?_ ?_ ?_ ?_ ?_
  · intro i j hi hj _
    omega
  · intro j hj
    exact Nat.le_refl _
  · intro j o hj
    omega
  · intro i o v hi ho hv hnm s hs hdone a seen K hK
    clear HQ
    have hi8 : i < 8 := by
      have := hnm 0 (by decide)
      omega
    have hs0 : s = 0 := by
      rcases (by omega : s = 0 ∨ s = 1) with h | h
      · exact h
      · exfalso
        subst h
        have h9 := hdone 0 _ (by decide) rfl
        rcases (by omega : i = 0 ∨ i = 1 ∨ i = 2 ∨ i = 3 ∨ i = 4 ∨ i = 5 ∨ i = 6 ∨ i = 7) with rfl | rfl | rfl | rfl | rfl | rfl | rfl | rfl <;> first | exact h9 ⟨0, .phase⟩ (by simp) rfl rfl | exact h9 ⟨1, .phase⟩ (by simp) rfl rfl | exact h9 ⟨2, .phase⟩ (by simp) rfl rfl | exact h9 ⟨3, .phase⟩ (by simp) rfl rfl | exact h9 ⟨4, .phase⟩ (by simp) rfl rfl | exact h9 ⟨5, .phase⟩ (by simp) rfl rfl | exact h9 ⟨6, .phase⟩ (by simp) rfl rfl | exact h9 ⟨7, .data⟩ (by simp) rfl rfl
    subst hs0
    clear hdone
    obtain ⟨x, hxe⟩ : ∃ x, x = wof 0 := ⟨_, rfl⟩
    rw [← hxe] at hb0 hK ⊢
    have hb := hb0
    clear hxe
    rcases (by omega : i = 0 ∨ i = 1 ∨ i = 2 ∨ i = 3 ∨ i = 4 ∨ i = 5 ∨ i = 6 ∨ i = 7) with rfl | rfl | rfl | rfl | rfl | rfl | rfl | rfl
    · obtain rfl := Option.some.inj ho
      obtain rfl := Option.some.inj hv
      have e1 : a.eval (.tmp 1) = .pointer (some ⟨kb, 0, none⟩) := seen.kp 1 _ (by decide) rfl
      exact Rg.op_value rfl rfl (Rg.ex_field a.eval _ 42 (.tmp 1) 3 rfl (by rw [e1]; simp [go_sem])) hK
    · obtain rfl := Option.some.inj ho
      obtain rfl := Option.some.inj hv
      have e18 : a.eval (.tmp 18) = .pointer (some ⟨kb, 3, none⟩) := seen.at_ ⟨0, .data⟩ (by simp) rfl _ rfl
      have y := HC.out x hb
      exact Rg.op_value rfl rfl (Rg.ex_load a.eval _ 3 (.tmp 18) rfl (by rw [e18]; simp [go_sem, y.1])) hK
    · obtain rfl := Option.some.inj ho
      obtain rfl := Option.some.inj hv
      have e19 : a.eval (.tmp 19) = .int .i64 ow := seen.at_ ⟨1, .data⟩ (by simp) rfl _ rfl
      exact Rg.op_call rfl rfl (Rg.ex_call3 _ _ (.tmp 19) (.const (.int .i64 0)) (.const (.int .i64 4)) 3 20 rfl e19 rfl rfl rfl _ (call_within _ _)) (HW1.out _) (fun e w1 h => by
        obtain ⟨rfl, rfl⟩ := h
        exact ⟨_, rfl, hK⟩)
    · obtain rfl := Option.some.inj ho
      obtain rfl := Option.some.inj hv
      have e1 : a.eval (.tmp 1) = .pointer (some ⟨kb, 0, none⟩) := seen.kp 1 _ (by decide) rfl
      exact Rg.op_value rfl rfl (Rg.ex_field a.eval _ 42 (.tmp 1) 4 rfl (by rw [e1]; simp [go_sem])) hK
    · obtain rfl := Option.some.inj ho
      obtain rfl := Option.some.inj hv
      have e21 : a.eval (.tmp 21) = .pointer (some ⟨kb, 4, none⟩) := seen.at_ ⟨3, .data⟩ (by simp) rfl _ rfl
      have y := HC.out x hb
      exact Rg.op_value rfl rfl (Rg.ex_load a.eval _ 3 (.tmp 21) rfl (by rw [e21]; simp [go_sem, y.2])) hK
    · obtain rfl := Option.some.inj ho
      obtain rfl := Option.some.inj hv
      have e22 : a.eval (.tmp 22) = .int .i64 nm := seen.at_ ⟨4, .data⟩ (by simp) rfl _ rfl
      exact Rg.op_call rfl rfl (Rg.ex_call3 _ _ (.tmp 22) (.const (.int .i64 0)) (.const (.int .i64 4)) 3 20 rfl e22 rfl rfl rfl _ (call_within _ _)) (HW2.out _) (fun e w1 h => by
        obtain ⟨rfl, rfl⟩ := h
        exact ⟨_, rfl, hK⟩)
    · obtain rfl := Option.some.inj ho
      obtain rfl := Option.some.inj hv
      have e20 : a.eval (.tmp 20) = .int .i64 (within ow 0 4) := seen.at_ ⟨2, .data⟩ (by simp) rfl _ rfl
      have e23 : a.eval (.tmp 23) = .int .i64 (within nm 0 4) := seen.at_ ⟨5, .data⟩ (by simp) rfl _ rfl
      exact Rg.op_value rfl rfl (Rg.ex_buildS a.eval _ 28 #[(0, (.tmp 20)), (1, (.tmp 23))] rfl (by simp only [List.map_toArray, List.map_cons, List.map_nil, e20, e23]; rfl) (by simp [go_sem])) hK
    · obtain rfl := Option.some.inj ho
      obtain rfl := Option.some.inj hv
      have e3 : a.eval (.tmp 3) = .pointer (some ⟨mb, 0, none⟩) := seen.kp 3 _ (by decide) rfl
      exact Rg.op_value rfl rfl (Rg.ex_field a.eval _ 32 (.tmp 3) 2 rfl (by rw [e3]; simp [go_sem])) hK
  · intro j o v hj ho hv a seen K hK
    clear HQ
    obtain rfl : j = 0 := by omega
    obtain rfl := Option.some.inj ho
    have e25 : a.eval (.tmp 25) = .pointer (some ⟨mb, 3, none⟩) := seen.at_ ⟨7, .data⟩ (by simp) rfl _ rfl
    have e24 : a.eval (.tmp 24) = .agg #[.int .i64 (within ow 0 4), .int .i64 (within nm 0 4)] := seen.at_ ⟨6, .data⟩ (by simp) rfl _ rfl
    have hx := HX.out.on hb0
    have c3 := hx.cell 3
    have c4 := hx.cell 4
    have f3 := hx.fr 3
    have f4 := hx.fr 4
    simp only [List.getElem?_toArray, List.getElem?_cons_zero, List.getElem?_cons_succ] at c3 c4
    have e1 : wof 1 = ((wof 0).setCell ⟨mb, 3, none⟩ (.int .i64 (within ow 0 4))).setCell ⟨mb, 4, none⟩ (.int .i64 (within nm 0 4)) := by subst hw; rfl
    refine Rg.op_skip rfl rfl (Rg.ex_store a.eval _ 28 (.tmp 25) (.tmp 24) rfl (w' := wof 1) (by
      rw [e25, e24, e1]
      simp [go_sem, c3, c4, f3, f4])) (hK.2 rfl)
  · intro a h1 h2 h3 h4
    have e1 : wof 1 = ((W.drew).setCell ⟨mb, 3, none⟩ (.int .i64 (within ow 0 4))).setCell ⟨mb, 4, none⟩ (.int .i64 (within nm 0 4)) := by subst hw; rfl
    rw [e1]
    have hx := HX.out.on (Below.refl W.heap.size W).drew
    have x1 := heap_setCell_same W.drew mb 3 _ 32 (.int .i64 (within ow 0 4)) hx
    have x2 := heap_setCell_same _ mb 4 _ 32 (.int .i64 (within nm 0 4)) x1
    obtain ⟨mid, hm, rfl⟩ := Rg.frame_mid (bl := (u0 :: .pointer (some ⟨kb, 0, none⟩) :: u2 :: .pointer (some ⟨mb, 0, none⟩) :: u4 :: u5 :: u6 :: u7 :: u8 :: u9 :: u10 :: u11 :: u12 :: u13 :: u14 :: u15 :: u16 :: u17 :: u18 :: u19 :: u20 :: u21 :: u22 :: u23 :: u24 :: u25 :: u26 :: u27 :: u28 :: u29 :: u30 :: u31 :: u32 :: u33 :: u34 :: u35 :: u36 :: u37 :: u38 :: u39 :: u40 :: u41 :: u42 :: u43 :: u44 :: u45 :: [])) 18 8 h1 h2 (by show 18 + 8 ≤ 46; decide) (fun j hj => (h3 j hj).trans List.getElem?_toArray)
    match mid, hm with
    | v18 :: v19 :: v20 :: v21 :: v22 :: v23 :: v24 :: v25 :: [], _ => exact HQ.out v18 v19 v20 v21 v22 v23 v24 v25 x2
end Go.Proofs.YtfcgfnmokbbcaaaDoor.Wr

namespace Go.Proofs.YtfcgfnmokbbcaaaDoor.Kp
open Go.RowKit Go.Proofs.YtfcgfnmokbbcaaaDoor.Va Go.Proofs.YtfcgfnmokbbcaaaDoor.In

/-- The names of attributes. -/
def nm (i : Nat) : ByteArray := ⟨#[UInt8.ofNat (97 + i)]⟩
def nmCells : Array Value := #[.string ⟨#[97]⟩, .string ⟨#[98]⟩, .string ⟨#[99]⟩, .string ⟨#[100]⟩, .string ⟨#[101]⟩, .string ⟨#[102]⟩, .string ⟨#[103]⟩]
theorem nm_at (i : Nat) (h : i < 7) : nmCells[i]? = some (.string (nm i)) := by
  match i, h with
  | 0, _ => rfl
  | 1, _ => rfl
  | 2, _ => rfl
  | 3, _ => rfl
  | 4, _ => rfl
  | 5, _ => rfl
  | 6, _ => rfl
theorem names_any (w : World) : Calls Tryd.prog 55 #[] w fun e w' => e = .returned (.slice (some ⟨w.heap.size, 0, none⟩) 7 7) ∧ w' = w.alloc (.cells nmCells 9) := by
  go_enter Tryd.func55, Tryd.ntmps55
  go_wp2
  go_ret
  exact ⟨rfl, rfl⟩

def pickZ (zs : List Int) (i : Nat) : Int := if zs = [] then 0 else zs.getD (i % zs.length) 0
set_option maxHeartbeats 400000 in
theorem pick_any (nv : Value) (zs : List Int) (i : Nat) (w : World) (hz : InInts w nv zs) (hl : zs.length ≤ maxLen) (hi : i ≤ 100) :
    Calls Tryd.prog 57 #[nv, .int .i64 i] w fun e w' => e = .returned (.int .i64 (pickZ zs i)) ∧ w = w' := by
  obtain ⟨ao, cap, rfl⟩ := hz.shape
  unfold maxLen at hl
  cases zs with
  | nil =>
    go_enter Tryd.func57, Tryd.ntmps57
    go_wp2
    go_ret
    exact ⟨rfl, rfl⟩
  | cons z r =>
    have hm : i % (z :: r).length < (z :: r).length := Nat.mod_lt _ (by simp)
    obtain ⟨y, hy⟩ : ∃ y, (z :: r)[i % (z :: r).length]? = some y := ⟨_, List.getElem?_eq_getElem hm⟩
    obtain ⟨_, p, _, hix, hpc⟩ := hz.at_ _ y hy
    have P := Lib.hid (show pickZ (z :: r) i = y by unfold pickZ; rw [if_neg (by simp), List.getD_eq_getElem?_getD, hy]; rfl)
    have h0 : ((((z :: r).length : Nat) : Int) == 0) = false := by simp; omega
    have hne : (((z :: r).length : Nat) : Int) ≠ 0 := by simp; omega
    have ht : (i : Int) % ((z :: r).length : Nat) = ((i % (z :: r).length : Nat) : Int) := rfl
    have ht2 : (i : Int).tmod ((z :: r).length : Nat) = ((i % (z :: r).length : Nat) : Int) := by
      rw [Int.tmod_eq_emod_of_nonneg (by omega)]; rfl
    have hn0 : 0 < (((z :: r).length : Nat) : Int) := by simp
    generalize (z :: r).length = n at *
    generalize i % n = m at *
    clear hz hy hm
    go_enter Tryd.func57, Tryd.ntmps57
    go_wp2
    go_ret
    exact ⟨Wi.ret_int P.out.symm, rfl⟩

/-- Is the attribute of that place there? -/
def odd (z : Int) : Bool := bits BinOp.and IntKind.i64 z 1 == 1
theorem pickZ_bd {W : World} {nv : Value} {zs : List Int} (hz : InInts W nv zs) (i : Nat) : -9223372036854775808 ≤ pickZ zs i ∧ pickZ zs i ≤ 9223372036854775807 := by
  unfold pickZ
  split
  · omega
  · rename_i h
    have hm : i % zs.length < zs.length := Nat.mod_lt _ (List.length_pos_iff.2 h)
    have := (hz.at_ _ _ (List.getElem?_eq_getElem hm)).1
    rw [List.getD_eq_getElem?_getD, List.getElem?_eq_getElem hm]
    exact this

end Go.Proofs.YtfcgfnmokbbcaaaDoor.Kp

namespace Go.Proofs.YtfcgfnmokbbcaaaDoor.Pr
open Go.RowKit Go.Proofs.YtfcgfnmokbbcaaaDoor Go.Proofs.YtfcgfnmokbbcaaaDoor.Pu Go.Proofs.YtfcgfnmokbbcaaaDoor.Rw Go.Proofs.YtfcgfnmokbbcaaaDoor.Va Go.Proofs.YtfcgfnmokbbcaaaDoor.Kp

def lo9 (n : Int) : Int := Wi.within (n.tdiv 4) 0 9
def tx6 (n : Int) : ByteArray := txtAt (Wi.within (n.tdiv 4) 0 6)
/-- What a number's constraint asks. -/
def kdOf (n : Int) : Kd := if Wi.within n 0 3 = 0 ∨ Wi.within n 0 3 = 1 then .rg (lo9 n) (lo9 n + Wi.within (n.tdiv 40) 0 9) else if Wi.within n 0 3 = 2 then .tx (tx6 n) else .pr (tx6 n)
theorem kdOf_good (n : Int) : goodK (kdOf n) = true := by
  unfold kdOf
  have hw := Wi.within_bd (n.tdiv 40) 0 9 (by omega)
  have ht : (tx6 n).size ≤ 3 := txt_size _
  split
  · simp only [goodK, decide_eq_true_eq]; omega
  · split
    · simp only [goodK, decide_eq_true_eq]; omega
    · simp only [goodK, decide_eq_true_eq]; omega
theorem tdiv_bd (n k : Int) (hk : 1 ≤ k) (h1 : -9223372036854775808 ≤ n) (h2 : n ≤ 9223372036854775807) : -9223372036854775808 ≤ n.tdiv k ∧ n.tdiv k ≤ 9223372036854775807 := by
  rcases Int.le_total 0 n with h | h
  · rw [Int.tdiv_eq_ediv_of_nonneg h]
    have a := Int.ediv_nonneg h (show 0 ≤ k by omega)
    have b := Int.ediv_le_self k h
    omega
  · have e : n.tdiv k = -((-n) / k) := by rw [← Int.tdiv_eq_ediv_of_nonneg (by omega), Int.neg_tdiv, Int.neg_neg]
    have a := Int.ediv_nonneg (show 0 ≤ -n by omega) (show 0 ≤ k by omega)
    have b := Int.ediv_le_self k (show 0 ≤ -n by omega)
    omega

set_option maxRecDepth 100000 in
set_option maxHeartbeats 8000000 in
theorem constraint_any (nm_ : ByteArray) (n : Int) (w : World) (h1 : -9223372036854775808 ≤ n) (h2 : n ≤ 9223372036854775807) :
    Calls Tryd.prog 56 #[.string nm_, .int .i64 n] w fun e w' => e = .returned (cv (r5 (nm_, kdOf n))) ∧ Below w.heap.size w w' := by
  have b4 := tdiv_bd n 4 (by decide) h1 h2
  have b40 := tdiv_bd n 40 (by decide) h1 h2
  have q4 : IntKind.i64.wrap (n.tdiv 4) = n.tdiv 4 := IntWalk.i64_in _ b4
  have q40 : IntKind.i64.wrap (n.tdiv 40) = n.tdiv 40 := IntWalk.i64_in _ b40
  have W3 := Lib.hid (fun wx => Wi.within_any n 0 3 wx (by omega) (by omega) (by omega) h1 h2)
  have W9 := Lib.hid (fun wx => Wi.within_any (n.tdiv 4) 0 9 wx (by omega) (by omega) (by omega) b4.1 b4.2)
  have W6 := Lib.hid (fun wx => Wi.within_any (n.tdiv 4) 0 6 wx (by omega) (by omega) (by omega) b4.1 b4.2)
  have V9 := Lib.hid (fun wx => Wi.within_any (n.tdiv 40) 0 9 wx (by omega) (by omega) (by omega) b40.1 b40.2)
  have d3 := Wi.within_bd n 0 3 (by omega)
  have d9 := Wi.within_bd (n.tdiv 4) 0 9 (by omega)
  have d6 := Wi.within_bd (n.tdiv 4) 0 6 (by omega)
  have e9 := Wi.within_bd (n.tdiv 40) 0 9 (by omega)
  have KD : kdOf n = if Wi.within n 0 3 = 0 ∨ Wi.within n 0 3 = 1 then .rg (Wi.within (n.tdiv 4) 0 9) (Wi.within (n.tdiv 4) 0 9 + Wi.within (n.tdiv 40) 0 9) else if Wi.within n 0 3 = 2 then .tx (txtAt (Wi.within (n.tdiv 4) 0 6)) else .pr (txtAt (Wi.within (n.tdiv 4) 0 6)) := rfl
  have TX := Lib.hid (txts_at (Wi.within (n.tdiv 4) 0 6) d6.1 d6.2)
  generalize Wi.within n 0 3 = r at *
  generalize Wi.within (n.tdiv 4) 0 9 = p at *
  generalize Wi.within (n.tdiv 4) 0 6 = q at *
  generalize Wi.within (n.tdiv 40) 0 9 = s at *
  have hs : IntKind.i64.wrap (p + s) = p + s := IntWalk.i64_in _ (by omega)
  have hr : r = 0 ∨ r = 1 ∨ r = 2 ∨ r = 3 := by omega
  have D6 := Lib.hid d6
  clear b4 b40 h1 h2 d3 d9 e9 d6
  rcases hr with rfl | rfl | rfl | rfl
  · have K := Lib.hid (show kdOf n = .rg p (p + s) by rw [KD]; rfl)
    clear KD
    go_enter Tryd.func56, Tryd.ntmps56
    go_wp2_with fail
    refine (W3.out _).mono ?_
    rintro e1 w1 ⟨rfl, rfl⟩
    go_wp2_with fail
    refine (W9.out _).mono ?_
    rintro e2 w2 ⟨rfl, rfl⟩
    go_wp2_with fail
    go_region_with (go_at_call 20; refine (V9.out _).mono ?_; rintro e w' ⟨rfl, rfl⟩)
    all_goals go_wp2_with fail
    all_goals exact bodyPost_ret (v := cv (r5 (nm_, .rg p (p + s)))) (by simp [results, Tryd.results56, go_sem, r5, kN, kLo, kHi, kT]) rfl ⟨by rw [K.out], (((Below.refl _ _).alloc (Nat.le_refl _) _).alloc (by simp) _).drew⟩
  · have K := Lib.hid (show kdOf n = .rg p (p + s) by rw [KD]; rfl)
    clear KD
    go_enter Tryd.func56, Tryd.ntmps56
    go_wp2_with fail
    refine (W3.out _).mono ?_
    rintro e1 w1 ⟨rfl, rfl⟩
    go_wp2_with fail
    refine (W9.out _).mono ?_
    rintro e2 w2 ⟨rfl, rfl⟩
    go_wp2_with fail
    go_region_with (go_at_call 20; refine (V9.out _).mono ?_; rintro e w' ⟨rfl, rfl⟩)
    all_goals go_wp2_with fail
    all_goals exact bodyPost_ret (v := cv (r5 (nm_, .rg p (p + s)))) (by simp [results, Tryd.results56, go_sem, r5, kN, kLo, kHi, kT]) rfl ⟨by rw [K.out], (((Below.refl _ _).alloc (Nat.le_refl _) _).alloc (by simp) _).drew⟩
  · have K := Lib.hid (show kdOf n = .tx (txtAt q) by rw [KD]; rfl)
    have tx := TX.out
    have d6 := D6.out
    have d61 := d6.1
    have d62 : q < 7 := by omega
    clear KD d6
    go_enter Tryd.func56, Tryd.ntmps56
    go_wp2_with fail
    refine (W3.out _).mono ?_
    rintro e1 w1 ⟨rfl, rfl⟩
    go_wp2_with fail
    go_region_with (first | (go_at_call 20; refine (W6.out _).mono ?_; rintro e w' ⟨rfl, rfl⟩) | (go_at_call 76; refine (texts_any _).mono ?_; rintro e w' ⟨rfl, rfl⟩))
    all_goals go_wp2_with fail
    all_goals exact bodyPost_ret (v := cv (r5 (nm_, .tx (txtAt q)))) (by simp [results, Tryd.results56, go_sem, r5, kN, kLo, kHi, kT]) rfl ⟨by rw [K.out], ((((Below.refl _ _).alloc (Nat.le_refl _) _).alloc (by simp) _).alloc (by simp; omega) _).drew⟩
  · have K := Lib.hid (show kdOf n = .pr (txtAt q) by rw [KD]; rfl)
    have tx := TX.out
    have d6 := D6.out
    have d61 := d6.1
    have d62 : q < 7 := by omega
    clear KD d6
    go_enter Tryd.func56, Tryd.ntmps56
    go_wp2_with fail
    refine (W3.out _).mono ?_
    rintro e1 w1 ⟨rfl, rfl⟩
    go_wp2_with fail
    go_region_with (first | (go_at_call 20; refine (W6.out _).mono ?_; rintro e w' ⟨rfl, rfl⟩) | (go_at_call 76; refine (texts_any _).mono ?_; rintro e w' ⟨rfl, rfl⟩))
    all_goals go_wp2_with fail
    all_goals exact bodyPost_ret (v := cv (r5 (nm_, .pr (txtAt q)))) (by simp [results, Tryd.results56, go_sem, r5, kN, kLo, kHi, kT]) rfl ⟨by rw [K.out], ((((Below.refl _ _).alloc (Nat.le_refl _) _).alloc (by simp) _).alloc (by simp; omega) _).drew⟩
end Go.Proofs.YtfcgfnmokbbcaaaDoor.Pr
