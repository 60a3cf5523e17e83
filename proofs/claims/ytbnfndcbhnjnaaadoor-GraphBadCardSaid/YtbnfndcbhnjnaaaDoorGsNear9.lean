/-
  GraphNear's one link told anew: its region, by marks. Conditions: as the theorem states them.
-/
import Derived.Test.YtbnfndcbhnjnaaaDoorBj
import Derived.Test.YtbnfndcbhnjnaaaDoorBk
import Derived.Test.YtbnfndcbhnjnaaaDoorBb
import Derived.Lib.Hide
namespace Go.Proofs.YtbnfndcbhnjnaaaDoor.Rg
open Go.RowKit
theorem ex_buildS {P : Program} (ρ : Operand → Value) (o : Oper) (t : TypeId) (parts : Array (Nat × Operand)) (ho : o.op = .build t parts) {ps : Array (Nat × Value)} (hp : parts.map (fun x => (x.1, ρ x.2)) = ps) {v : Value} {w : World} (hr : (Instr.build t ps).run P w = .ok v w) :
    (execOp ρ o).run P w = .ok (.value v) w := by
  unfold execOp
  rw [ho]
  subst hp
  exact v_run hr
theorem ex_store {P : Program} (ρ : Operand → Value) (o : Oper) (t : TypeId) (x y : Operand) (ho : o.op = .store t x y) {w w' : World} (hr : (Instr.storeAt t (ρ x) (ρ y)).run P w = .ok () w') :
    (execOp ρ o).run P w = .ok .skip w' := by
  simp [execOp, ho, hr, Result.andThen]
end Go.Proofs.YtbnfndcbhnjnaaaDoor.Rg
namespace Go.Proofs.YtbnfndcbhnjnaaaDoor.Gr
open Go.RowKit Go.Proofs.YtbnfndcbhnjnaaaDoor Go.Proofs.YtbnfndcbhnjnaaaDoor.Rw

noncomputable def nearR9 : Code := ((Tryd.f8.body.bind (findRegion 9)).getD .skip)
set_option maxRecDepth 100000 in
set_option maxHeartbeats 8000000 in
theorem near_r9 (Q : Exit → Act → World → Prop) (W wa wb : World) (xb lb j m k1 k2 : Nat) (x : Lk) (vo : Option Addr) (vc g1 c1 g2 c2 : Nat) (lo1 hi1 : Value) (u0 u1 u2 u3 u4 u5 u7 u10 u11 u12 u13 u14 u15 u16 u17 u18 u19 u20 u21 u22 u23 u24 u25 u26 u27 u28 u29 u30 u31 u32 u33 u34 u35 u36 u37 u38 u39 u40 u41 u42 u43 u44 u45 u46 u47 u48 u49 u50 u51 u52 u53 u54 u55 u56 u57 u58 u59 u60 u61 u62 u63 u64 u65 u66 u67 u68 u69 u70 u71 u72 u73 u74 u75 u76 u77 u78 u79 u80 u81 u82 u83 u84 u85 u86 u87 u88 u89 u90 u91 u92 u93 u94 u95 u96 u97 u98 u99 u100 u101 u102 u103 u104 u105 u106 u107 u108 u109 u110 u111 u112 u113 u114 u115 u116 u117 u118 u119 u120 u121 u122 u123 u124 u125 u126 u127 u128 u129 u130 u131 u132 u133 u134 u135 u136 : Value)
    (r1 : (Builtin.append_ #[23, 23] 23 #[.slice (some ⟨W.heap.size, 0, none⟩) 1 1, lo1]).run Tryd.prog (W.drew.alloc (.cells #[.int .i64 x.2, .int .i64 x.1] 22)) = .ok (.slice (some ⟨g1, 0, none⟩) k1 c1) wa)
    (r2 : (Builtin.append_ #[23, 23] 23 #[.slice (some ⟨g1, 0, none⟩) k1 c1, hi1]).run Tryd.prog wa = .ok (.slice (some ⟨g2, 0, none⟩) k2 c2) wb)
    (s1 : ∀ w, (Instr.sliceAt 23 (.slice vo m vc) none (some (.int .i64 j)) none).run Tryd.prog w = .ok lo1 w)
    (s2 : ∀ w, (Instr.sliceAt 23 (.slice vo m vc) (some (.int .i64 ((j : Int) + 1))) none none).run Tryd.prog w = .ok hi1 w) (hj : j ≤ 100000)
    (hc : ∀ w, w = W.drew ∨ w = W.drew.alloc (.cells #[.int .i64 x.2, .int .i64 x.1] 22) ∨ w = wa ∨ w = wb → w.cell? ⟨lb, 0, none⟩ = some (.int .i64 x.1) ∧ w.cell? ⟨lb, 1, none⟩ = some (.int .i64 x.2) ∧ w.cell? ⟨xb, 1, none⟩ = some (.slice vo m vc))
    (hf : wb.frozen? ⟨xb, 1, none⟩ = false)
    (hQ : ∀ (v49 v50 v51 v52 v53 v54 v55 v56 v57 v58 v59 v60 v61 v62 v63 v64 v65 v66 : Value), Q .normal ⟨(u0 :: u1 :: u2 :: u3 :: u4 :: u5 :: .pointer (some ⟨xb, 0, none⟩) :: u7 :: .int .i64 j :: .pointer (some ⟨lb, 0, none⟩) :: u10 :: u11 :: u12 :: u13 :: u14 :: u15 :: u16 :: u17 :: u18 :: u19 :: u20 :: u21 :: u22 :: u23 :: u24 :: u25 :: u26 :: u27 :: u28 :: u29 :: u30 :: u31 :: u32 :: u33 :: u34 :: u35 :: u36 :: u37 :: u38 :: u39 :: u40 :: u41 :: u42 :: u43 :: u44 :: u45 :: u46 :: u47 :: u48 :: v49 :: v50 :: v51 :: v52 :: v53 :: v54 :: v55 :: v56 :: v57 :: v58 :: v59 :: v60 :: v61 :: v62 :: v63 :: v64 :: v65 :: v66 :: u67 :: u68 :: u69 :: u70 :: u71 :: u72 :: u73 :: u74 :: u75 :: u76 :: u77 :: u78 :: u79 :: u80 :: u81 :: u82 :: u83 :: u84 :: u85 :: u86 :: u87 :: u88 :: u89 :: u90 :: u91 :: u92 :: u93 :: u94 :: u95 :: u96 :: u97 :: u98 :: u99 :: u100 :: u101 :: u102 :: u103 :: u104 :: u105 :: u106 :: u107 :: u108 :: u109 :: u110 :: u111 :: u112 :: u113 :: u114 :: u115 :: u116 :: u117 :: u118 :: u119 :: u120 :: u121 :: u122 :: u123 :: u124 :: u125 :: u126 :: u127 :: u128 :: u129 :: u130 :: u131 :: u132 :: u133 :: u134 :: u135 :: u136 :: []).toArray, []⟩ (wb.setCell ⟨xb, 1, none⟩ (.slice (some ⟨g2, 0, none⟩) k2 c2))) :
    Code.wp Tryd.prog nearR9 Q ⟨(u0 :: u1 :: u2 :: u3 :: u4 :: u5 :: .pointer (some ⟨xb, 0, none⟩) :: u7 :: .int .i64 j :: .pointer (some ⟨lb, 0, none⟩) :: u10 :: u11 :: u12 :: u13 :: u14 :: u15 :: u16 :: u17 :: u18 :: u19 :: u20 :: u21 :: u22 :: u23 :: u24 :: u25 :: u26 :: u27 :: u28 :: u29 :: u30 :: u31 :: u32 :: u33 :: u34 :: u35 :: u36 :: u37 :: u38 :: u39 :: u40 :: u41 :: u42 :: u43 :: u44 :: u45 :: u46 :: u47 :: u48 :: u49 :: u50 :: u51 :: u52 :: u53 :: u54 :: u55 :: u56 :: u57 :: u58 :: u59 :: u60 :: u61 :: u62 :: u63 :: u64 :: u65 :: u66 :: u67 :: u68 :: u69 :: u70 :: u71 :: u72 :: u73 :: u74 :: u75 :: u76 :: u77 :: u78 :: u79 :: u80 :: u81 :: u82 :: u83 :: u84 :: u85 :: u86 :: u87 :: u88 :: u89 :: u90 :: u91 :: u92 :: u93 :: u94 :: u95 :: u96 :: u97 :: u98 :: u99 :: u100 :: u101 :: u102 :: u103 :: u104 :: u105 :: u106 :: u107 :: u108 :: u109 :: u110 :: u111 :: u112 :: u113 :: u114 :: u115 :: u116 :: u117 :: u118 :: u119 :: u120 :: u121 :: u122 :: u123 :: u124 :: u125 :: u126 :: u127 :: u128 :: u129 :: u130 :: u131 :: u132 :: u133 :: u134 :: u135 :: u136 :: []).toArray, []⟩ W := by
  have HQ := Lib.hid hQ
  have hwj : IntKind.i64.wrap ((j : Int) + 1) = (j : Int) + 1 := IntWalk.i64_in _ (by omega)
  obtain ⟨wof, hw⟩ : ∃ wof : Nat → World, wof = fun | 0 => W.drew | 1 => W.drew.alloc (.cells #[.int .i64 x.2, .int .i64 x.1] 22) | 2 => wa | 3 => wb | _ => wb.setCell ⟨xb, 1, none⟩ (.slice (some ⟨g2, 0, none⟩) k2 c2) := ⟨_, rfl⟩
  have hcl : ∀ s, s ≤ 3 → (wof s).cell? ⟨lb, 0, none⟩ = some (.int .i64 x.1) ∧ (wof s).cell? ⟨lb, 1, none⟩ = some (.int .i64 x.2) ∧ (wof s).cell? ⟨xb, 1, none⟩ = some (.slice vo m vc) := fun s hs => by
    rw [hw]
    rcases (by omega : s = 0 ∨ s = 1 ∨ s = 2 ∨ s = 3) with rfl | rfl | rfl | rfl
    · exact hc _ (Or.inl rfl)
    · exact hc _ (Or.inr (Or.inl rfl))
    · exact hc _ (Or.inr (Or.inr (Or.inl rfl)))
    · exact hc _ (Or.inr (Or.inr (Or.inr rfl)))
  have hcb := (hc wb (Or.inr (Or.inr (Or.inr rfl)))).2.2
  clear hQ hc
  obtain ⟨mk, hmk⟩ : ∃ mk : Nat → Nat, mk = fun | 0 => 5 | 1 => 10 | 2 => 16 | _ => 18 := ⟨_, rfl⟩
  change Code.wp Tryd.prog nearR9 Q ⟨_, []⟩ W
  unfold nearR9
  conv => arg 2; whnf
  refine Rg.region_marks_s 49 18 [.pointer (some ⟨lb, 1, none⟩), .int .i64 x.2, .pointer (some ⟨lb, 0, none⟩), .int .i64 x.1, .agg #[.int .i64 x.2, .int .i64 x.1], .slice (some ⟨W.heap.size, 0, none⟩) 1 1, .pointer (some ⟨xb, 1, none⟩), .slice vo m vc, .int .i64 j, lo1, .slice (some ⟨g1, 0, none⟩) k1 c1, .pointer (some ⟨xb, 1, none⟩), .slice vo m vc, .int .i64 j, .int .i64 ((j : Int) + 1), hi1, .slice (some ⟨g2, 0, none⟩) k2 c2, .pointer (some ⟨xb, 1, none⟩), undef] mk 4 wof (by kernel_rfl) (by kernel_rfl) rfl rfl ?_ ⟨3, by decide, congrFun hmk 3⟩ ?_ ?_ ?_ ?_ ?_ ?_ ?_
  · simp
  · exact congrFun hw 0
  · subst hmk
    intro i j hi hj
    rcases (by omega : i = 0 ∨ i = 1 ∨ i = 2 ∨ i = 3) with rfl | rfl | rfl | rfl <;> rcases (by omega : j = 0 ∨ j = 1 ∨ j = 2 ∨ j = 3) with rfl | rfl | rfl | rfl <;> simp
  · subst hmk
    intro j hj
    rcases (by omega : j = 0 ∨ j = 1 ∨ j = 2 ∨ j = 3) with rfl | rfl | rfl | rfl <;> simp
  · subst hmk
    intro j o hj ho
    rcases (by omega : j = 0 ∨ j = 1 ∨ j = 2) with rfl | rfl | rfl
    · obtain rfl := Option.some.inj ho
      exact ⟨⟨5, .data⟩, by simp, rfl, rfl⟩
    · obtain rfl := Option.some.inj ho
      exact ⟨⟨10, .data⟩, by simp, rfl, rfl⟩
    · obtain rfl := Option.some.inj ho
      exact ⟨⟨16, .data⟩, by simp, rfl, rfl⟩
  · subst hmk
    intro i o v hi ho hv hne s hs hex a seen K hK
    clear HQ
    have u6e : a.eval (.tmp 6) = .pointer (some ⟨xb, 0, none⟩) := seen.kp 6 _ (by decide) rfl
    have u8e : a.eval (.tmp 8) = .int .i64 j := seen.kp 8 _ (by decide) rfl
    have u9e : a.eval (.tmp 9) = .pointer (some ⟨lb, 0, none⟩) := seen.kp 9 _ (by decide) rfl
    rcases (by omega : i = 0 ∨ i = 1 ∨ i = 2 ∨ i = 3 ∨ i = 4 ∨ i = 5 ∨ i = 6 ∨ i = 7 ∨ i = 8 ∨ i = 9 ∨ i = 10 ∨ i = 11 ∨ i = 12 ∨ i = 13 ∨ i = 14 ∨ i = 15 ∨ i = 16 ∨ i = 17 ∨ i = 18) with rfl | rfl | rfl | rfl | rfl | rfl | rfl | rfl | rfl | rfl | rfl | rfl | rfl | rfl | rfl | rfl | rfl | rfl | rfl
    · obtain rfl := Option.some.inj ho
      obtain rfl := Option.some.inj hv
      exact Rg.op_value rfl rfl (Rg.ex_index a.eval _ 22 (.tmp 9) (.const (.int .i64 1)) rfl (by rw [u9e]; show (Instr.indexAt 22 (.pointer (some ⟨lb, 0, none⟩)) (.int .i64 1)).run Tryd.prog _ = _; simp [go_sem, Tryd.underlying22])) hK
    · obtain rfl := Option.some.inj ho
      obtain rfl := Option.some.inj hv
      have e0 := seen.at_ ⟨0, .data⟩ (by simp) rfl _ rfl
      have e0 : a.eval (.tmp 49) = _ := e0
      have hs3 : s ≤ 3 := by
        rcases Nat.lt_or_ge 3 s with h4 | h4
        · exact absurd rfl (hex 3 _ (by omega) rfl ⟨1, .phase⟩ (by simp) rfl)
        · exact h4
      obtain ⟨n0, n1, x1⟩ := hcl s hs3
      exact Rg.op_value rfl rfl (Rg.ex_load a.eval _ 3 (.tmp 49) rfl (by rw [e0]; simp [go_sem, n1])) hK
    · obtain rfl := Option.some.inj ho
      obtain rfl := Option.some.inj hv
      exact Rg.op_value rfl rfl (Rg.ex_index a.eval _ 22 (.tmp 9) (.const (.int .i64 0)) rfl (by rw [u9e]; show (Instr.indexAt 22 (.pointer (some ⟨lb, 0, none⟩)) (.int .i64 0)).run Tryd.prog _ = _; simp [go_sem, Tryd.underlying22])) hK
    · obtain rfl := Option.some.inj ho
      obtain rfl := Option.some.inj hv
      have e0 := seen.at_ ⟨2, .data⟩ (by simp) rfl _ rfl
      have e0 : a.eval (.tmp 51) = _ := e0
      have hs3 : s ≤ 3 := by
        rcases Nat.lt_or_ge 3 s with h4 | h4
        · exact absurd rfl (hex 3 _ (by omega) rfl ⟨3, .phase⟩ (by simp) rfl)
        · exact h4
      obtain ⟨n0, n1, x1⟩ := hcl s hs3
      exact Rg.op_value rfl rfl (Rg.ex_load a.eval _ 3 (.tmp 51) rfl (by rw [e0]; simp [go_sem, n0])) hK
    · obtain rfl := Option.some.inj ho
      obtain rfl := Option.some.inj hv
      have e0 := seen.at_ ⟨1, .data⟩ (by simp) rfl _ rfl
      have e0 : a.eval (.tmp 50) = _ := e0
      have e1 := seen.at_ ⟨3, .data⟩ (by simp) rfl _ rfl
      have e1 : a.eval (.tmp 52) = _ := e1
      exact Rg.op_value rfl rfl (Rg.ex_buildS a.eval _ 22 #[(0, .tmp 50), (1, .tmp 52)] rfl (by simp only [List.map_toArray, List.map_cons, List.map_nil, e0, e1]; rfl) (by simp [go_sem])) hK
    · exact absurd rfl (hne 0 (by decide))
    · obtain rfl := Option.some.inj ho
      obtain rfl := Option.some.inj hv
      exact Rg.op_value rfl rfl (Rg.ex_field a.eval _ 25 (.tmp 6) 1 rfl (by rw [u6e]; simp [go_sem])) hK
    · obtain rfl := Option.some.inj ho
      obtain rfl := Option.some.inj hv
      have e0 := seen.at_ ⟨6, .data⟩ (by simp) rfl _ rfl
      have e0 : a.eval (.tmp 55) = _ := e0
      have hs3 : s ≤ 3 := by
        rcases Nat.lt_or_ge 3 s with h4 | h4
        · exact absurd rfl (hex 3 _ (by omega) rfl ⟨7, .phase⟩ (by simp) rfl)
        · exact h4
      obtain ⟨n0, n1, x1⟩ := hcl s hs3
      exact Rg.op_value rfl rfl (Rg.ex_load a.eval _ 23 (.tmp 55) rfl (by rw [e0]; simp [go_sem, x1])) hK
    · obtain rfl := Option.some.inj ho
      obtain rfl := Option.some.inj hv
      exact Rg.op_value rfl rfl (by simp [execOp, u8e]) hK
    · obtain rfl := Option.some.inj ho
      obtain rfl := Option.some.inj hv
      have e0 := seen.at_ ⟨7, .data⟩ (by simp) rfl _ rfl
      have e0 : a.eval (.tmp 56) = _ := e0
      have e1 := seen.at_ ⟨8, .data⟩ (by simp) rfl _ rfl
      have e1 : a.eval (.tmp 57) = _ := e1
      exact Rg.op_value rfl rfl (Rg.ex_slice a.eval _ 23 (.tmp 56) none (some (.tmp 57)) none rfl (by simp only [Option.map_none, Option.map_some, e0, e1]; exact s1 _)) hK
    · exact absurd rfl (hne 1 (by decide))
    · obtain rfl := Option.some.inj ho
      obtain rfl := Option.some.inj hv
      exact Rg.op_value rfl rfl (Rg.ex_field a.eval _ 25 (.tmp 6) 1 rfl (by rw [u6e]; simp [go_sem])) hK
    · obtain rfl := Option.some.inj ho
      obtain rfl := Option.some.inj hv
      have e0 := seen.at_ ⟨11, .data⟩ (by simp) rfl _ rfl
      have e0 : a.eval (.tmp 60) = _ := e0
      have hs3 : s ≤ 3 := by
        rcases Nat.lt_or_ge 3 s with h4 | h4
        · exact absurd rfl (hex 3 _ (by omega) rfl ⟨12, .phase⟩ (by simp) rfl)
        · exact h4
      obtain ⟨n0, n1, x1⟩ := hcl s hs3
      exact Rg.op_value rfl rfl (Rg.ex_load a.eval _ 23 (.tmp 60) rfl (by rw [e0]; simp [go_sem, x1])) hK
    · obtain rfl := Option.some.inj ho
      obtain rfl := Option.some.inj hv
      exact Rg.op_value rfl rfl (by simp [execOp, u8e]) hK
    · obtain rfl := Option.some.inj ho
      obtain rfl := Option.some.inj hv
      have e0 := seen.at_ ⟨13, .data⟩ (by simp) rfl _ rfl
      have e0 : a.eval (.tmp 62) = _ := e0
      exact Rg.op_value rfl rfl (Rg.ex_bin a.eval _ .add 3 (.tmp 62) (.const (.int .i64 1)) 3 rfl (by rw [e0]; show (do eqGuard .add 3 (.tmp 62) (.const (.int .i64 1)) _ (.int .i64 1); binOp .add 3 _ (.int .i64 1) : Sem Value).run Tryd.prog _ = _; simp [go_sem, hwj])) hK
    · obtain rfl := Option.some.inj ho
      obtain rfl := Option.some.inj hv
      have e0 := seen.at_ ⟨12, .data⟩ (by simp) rfl _ rfl
      have e0 : a.eval (.tmp 61) = _ := e0
      have e1 := seen.at_ ⟨14, .data⟩ (by simp) rfl _ rfl
      have e1 : a.eval (.tmp 63) = _ := e1
      exact Rg.op_value rfl rfl (Rg.ex_slice a.eval _ 23 (.tmp 61) (some (.tmp 63)) none none rfl (by simp only [Option.map_none, Option.map_some, e0, e1]; exact s2 _)) hK
    · exact absurd rfl (hne 2 (by decide))
    · obtain rfl := Option.some.inj ho
      obtain rfl := Option.some.inj hv
      exact Rg.op_value rfl rfl (Rg.ex_field a.eval _ 25 (.tmp 6) 1 rfl (by rw [u6e]; simp [go_sem])) hK
    · exact absurd rfl (hne 3 (by decide))
  · subst hmk
    intro j o v hj ho hv a seen K hK
    rcases (by omega : j = 0 ∨ j = 1 ∨ j = 2 ∨ j = 3) with rfl | rfl | rfl | rfl
    · obtain rfl := Option.some.inj ho
      obtain rfl := Option.some.inj hv
      have e0 := seen.at_ ⟨4, .data⟩ (by simp) rfl _ rfl
      have e0 : a.eval (.tmp 53) = _ := e0
      refine Rg.op_value rfl rfl (w' := wof 1) ?_ (hK.1 (by decide))
      subst hw
      exact Rg.ex_build a.eval _ 23 1 #[(0, .tmp 53)] rfl (by simp only [List.map_toArray, List.map_cons, List.map_nil, e0]; rfl) (by simp [go_sem])
    · obtain rfl := Option.some.inj ho
      obtain rfl := Option.some.inj hv
      have e0 := seen.at_ ⟨5, .data⟩ (by simp) rfl _ rfl
      have e0 : a.eval (.tmp 54) = _ := e0
      have e1 := seen.at_ ⟨9, .data⟩ (by simp) rfl _ rfl
      have e1 : a.eval (.tmp 58) = _ := e1
      refine Rg.op_value rfl rfl (w' := wof 2) ?_ (hK.1 (by decide))
      subst hw
      exact Rg.ex_append a.eval _ (.tmp 54) (.tmp 58) 23 rfl e0 e1 r1
    · obtain rfl := Option.some.inj ho
      obtain rfl := Option.some.inj hv
      have e0 := seen.at_ ⟨10, .data⟩ (by simp) rfl _ rfl
      have e0 : a.eval (.tmp 59) = _ := e0
      have e1 := seen.at_ ⟨15, .data⟩ (by simp) rfl _ rfl
      have e1 : a.eval (.tmp 64) = _ := e1
      refine Rg.op_value rfl rfl (w' := wof 3) ?_ (hK.1 (by decide))
      subst hw
      exact Rg.ex_append a.eval _ (.tmp 59) (.tmp 64) 23 rfl e0 e1 r2
    · obtain rfl := Option.some.inj ho
      have e0 := seen.at_ ⟨17, .data⟩ (by simp) rfl _ rfl
      have e0 : a.eval (.tmp 66) = _ := e0
      have e1 := seen.at_ ⟨16, .data⟩ (by simp) rfl _ rfl
      have e1 : a.eval (.tmp 65) = _ := e1
      refine Rg.op_skip rfl rfl (w' := wof 4) ?_ (hK.2 rfl)
      subst hw
      exact Rg.ex_store a.eval _ 23 (.tmp 66) (.tmp 65) rfl (by rw [e0, e1]; simp [go_sem, hcb, hf])
  · intro a h1 h2 h3 h4
    obtain ⟨mid, hm, rfl⟩ := Rg.frame_mid (bl := (u0 :: u1 :: u2 :: u3 :: u4 :: u5 :: .pointer (some ⟨xb, 0, none⟩) :: u7 :: .int .i64 j :: .pointer (some ⟨lb, 0, none⟩) :: u10 :: u11 :: u12 :: u13 :: u14 :: u15 :: u16 :: u17 :: u18 :: u19 :: u20 :: u21 :: u22 :: u23 :: u24 :: u25 :: u26 :: u27 :: u28 :: u29 :: u30 :: u31 :: u32 :: u33 :: u34 :: u35 :: u36 :: u37 :: u38 :: u39 :: u40 :: u41 :: u42 :: u43 :: u44 :: u45 :: u46 :: u47 :: u48 :: u49 :: u50 :: u51 :: u52 :: u53 :: u54 :: u55 :: u56 :: u57 :: u58 :: u59 :: u60 :: u61 :: u62 :: u63 :: u64 :: u65 :: u66 :: u67 :: u68 :: u69 :: u70 :: u71 :: u72 :: u73 :: u74 :: u75 :: u76 :: u77 :: u78 :: u79 :: u80 :: u81 :: u82 :: u83 :: u84 :: u85 :: u86 :: u87 :: u88 :: u89 :: u90 :: u91 :: u92 :: u93 :: u94 :: u95 :: u96 :: u97 :: u98 :: u99 :: u100 :: u101 :: u102 :: u103 :: u104 :: u105 :: u106 :: u107 :: u108 :: u109 :: u110 :: u111 :: u112 :: u113 :: u114 :: u115 :: u116 :: u117 :: u118 :: u119 :: u120 :: u121 :: u122 :: u123 :: u124 :: u125 :: u126 :: u127 :: u128 :: u129 :: u130 :: u131 :: u132 :: u133 :: u134 :: u135 :: u136 :: [])) 49 18 h1 (by rw [h2]; rfl) (by simp) (fun j hj => by rw [h3 j hj]; exact List.getElem?_toArray)
    have e3 : wof 4 = wb.setCell ⟨xb, 1, none⟩ (.slice (some ⟨g2, 0, none⟩) k2 c2) := congrFun hw 4
    rw [e3]
    match mid, hm with
    | [v49, v50, v51, v52, v53, v54, v55, v56, v57, v58, v59, v60, v61, v62, v63, v64, v65, v66], _ => exact HQ.out v49 v50 v51 v52 v53 v54 v55 v56 v57 v58 v59 v60 v61 v62 v63 v64 v65 v66
end Go.Proofs.YtbnfndcbhnjnaaaDoor.Gr
