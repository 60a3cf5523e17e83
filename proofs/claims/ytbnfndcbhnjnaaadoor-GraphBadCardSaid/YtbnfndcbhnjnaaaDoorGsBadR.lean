/-
  GraphBad's two regions that put one link into a list of links: over letters, by marks and one literal more. Conditions: as each theorem states them.
-/
import Derived.Test.YtbnfndcbhnjnaaaDoorBj
import Derived.Test.YtbnfndcbhnjnaaaDoorGsNear9
namespace Go.Proofs.YtbnfndcbhnjnaaaDoor.Gr
open Go.RowKit Go.Proofs.YtbnfndcbhnjnaaaDoor Go.Proofs.YtbnfndcbhnjnaaaDoor.Rw

noncomputable def badRA : Code := ((Tryd.f21.body.bind (findRegion 2)).getD .skip)
set_option maxRecDepth 100000 in
set_option maxHeartbeats 8000000 in
theorem bad_rA (Q : Exit → Act → World → Prop) (W : World) (gb ib xb ob m : Nat) (i : Int) (x : Lk) (vo : Option Addr) (vc : Nat) (lo1 hi1 : Value) (e li v1 v2 v3 : Nat → Value) (wof : Nat → Nat → World) (u0 u4 u6 u7 u8 u9 u10 u11 u12 u13 u14 u15 u16 u17 u18 u19 u20 u21 u22 : Value)
    (h30 : wof 3 0 = W.drew)
    (h1 : ∀ p, (p = 0 ∨ p = 3) → (Instr.buildSlice 23 0 #[]).run Tryd.prog (wof p 0) = .ok (e p) (wof p 1))
    (h2 : ∀ p, (p = 0 ∨ p = 1 ∨ p = 3) → (Builtin.append_ #[23, 23] 23 #[e p, lo1]).run Tryd.prog (wof p 1) = .ok (v1 p) (wof p 2))
    (h3 : ∀ p, p ≤ 2 → (Builtin.append_ #[23, 23] 23 #[v1 p, li p]).run Tryd.prog (wof p 2) = .ok (v2 p) (wof p 3))
    (hL : ∀ s, s ≤ 2 → (Instr.buildSlice 23 1 #[(0, kv x)]).run Tryd.prog (wof 3 s) = .ok (li s) (wof s s))
    (e1 : e 1 = e 3) (e2 : e 2 = e 3) (e3 : v1 2 = v1 3)
    (h4 : ∀ p, p ≤ 2 → (Builtin.append_ #[23, 23] 23 #[v2 p, hi1]).run Tryd.prog (wof p 3) = .ok (v3 p) (wof p 4))
    (h5 : ∀ p, p ≤ 2 → (Instr.storeAt 23 (.pointer (some ⟨ob, 1, none⟩)) (v3 p)).run Tryd.prog (wof p 4) = .ok () (wof p 5))
    (s1 : ∀ w, (Instr.sliceAt 23 (.slice vo m vc) none (some (.int .i64 i)) none).run Tryd.prog w = .ok lo1 w)
    (s2 : ∀ w, (Instr.sliceAt 23 (.slice vo m vc) (some (.int .i64 i)) none none).run Tryd.prog w = .ok hi1 w)
    (hc : ∀ p s, p ≤ 3 → s ≤ 4 → (p ≤ s ∨ p = 3 ∧ s ≤ 2) → (wof p s).cell? ⟨gb, 1, none⟩ = some (.slice vo m vc) ∧ (wof p s).cell? ⟨ib, 0, none⟩ = some (.int .i64 i) ∧ (wof p s).cell? ⟨xb, 0, none⟩ = some (.int .i64 x.1) ∧ (wof p s).cell? ⟨xb, 1, none⟩ = some (.int .i64 x.2))
    (hQ : ∀ p, p ≤ 2 → ∀ (v7 v8 v9 v10 v11 v12 v13 v14 v15 v16 v17 v18 v19 v20 v21 : Value), Q .normal ⟨(u0 :: .pointer (some ⟨gb, 0, none⟩) :: .pointer (some ⟨ib, 0, none⟩) :: .pointer (some ⟨xb, 0, none⟩) :: u4 :: .pointer (some ⟨ob, 0, none⟩) :: u6 :: v7 :: v8 :: v9 :: v10 :: v11 :: v12 :: v13 :: v14 :: v15 :: v16 :: v17 :: v18 :: v19 :: v20 :: v21 :: u22 :: []).toArray, []⟩ (wof p 5)) :
    Code.wp Tryd.prog badRA Q ⟨(u0 :: .pointer (some ⟨gb, 0, none⟩) :: .pointer (some ⟨ib, 0, none⟩) :: .pointer (some ⟨xb, 0, none⟩) :: u4 :: .pointer (some ⟨ob, 0, none⟩) :: u6 :: u7 :: u8 :: u9 :: u10 :: u11 :: u12 :: u13 :: u14 :: u15 :: u16 :: u17 :: u18 :: u19 :: u20 :: u21 :: u22 :: []).toArray, []⟩ W := by
  have HQ := Lib.hid hQ
  clear hQ
  obtain ⟨mk, hmk⟩ : ∃ mk : Nat → Nat, mk = fun | 0 => 0 | 1 => 5 | 2 => 8 | 3 => 13 | _ => 15 := ⟨_, rfl⟩
  change Code.wp Tryd.prog badRA Q ⟨_, []⟩ W
  unfold badRA
  conv => arg 2; whnf
  refine Rg.region_two 7 15 (fun p => [e p, .pointer (some ⟨gb, 1, none⟩), .slice vo m vc, .int .i64 i, lo1, v1 p, kv x, li p, v2 p, .pointer (some ⟨gb, 1, none⟩), .slice vo m vc, .int .i64 i, hi1, v3 p, .pointer (some ⟨ob, 1, none⟩), undef]) mk 5 7 2 wof (by kernel_rfl) (by kernel_rfl) rfl (fun _ => rfl) ?_ ⟨4, by decide, congrFun hmk 4⟩ (by decide) ?_ (by decide) h30 ?_ ?_ ?_ ?_ ?_ ?_ ?_ ?_ ?_
  · simp
  · subst hmk
    intro j hj
    rcases (by omega : j = 0 ∨ j = 1 ∨ j = 2 ∨ j = 3 ∨ j = 4) with rfl | rfl | rfl | rfl | rfl <;> simp
  · subst hmk
    intro i j hi hj
    rcases (by omega : i = 0 ∨ i = 1 ∨ i = 2 ∨ i = 3 ∨ i = 4) with rfl | rfl | rfl | rfl | rfl <;> rcases (by omega : j = 0 ∨ j = 1 ∨ j = 2 ∨ j = 3 ∨ j = 4) with rfl | rfl | rfl | rfl | rfl <;> simp
  · subst hmk
    intro j hj
    rcases (by omega : j = 0 ∨ j = 1 ∨ j = 2 ∨ j = 3 ∨ j = 4) with rfl | rfl | rfl | rfl | rfl <;> simp
  · subst hmk
    intro j o hj ho
    rcases (by omega : j = 0 ∨ j = 1 ∨ j = 2 ∨ j = 3) with rfl | rfl | rfl | rfl
    · obtain rfl := Option.some.inj ho
      exact ⟨⟨0, .data⟩, by simp, rfl, rfl⟩
    · obtain rfl := Option.some.inj ho
      exact ⟨⟨5, .data⟩, by simp, rfl, rfl⟩
    · obtain rfl := Option.some.inj ho
      exact ⟨⟨8, .data⟩, by simp, rfl, rfl⟩
    · obtain rfl := Option.some.inj ho
      exact ⟨⟨13, .data⟩, by simp, rfl, rfl⟩
  · subst hmk
    intro o ho
    obtain rfl := Option.some.inj ho
    exact ⟨⟨7, .data⟩, by simp, rfl, rfl⟩
  · subst hmk
    intro s i hs hiq hne
    rcases (by omega : s = 0 ∨ s = 1 ∨ s = 2) with rfl | rfl | rfl
    · by_cases hN : i ≤ 15
      · rcases (by omega : i = 0 ∨ i = 1 ∨ i = 2 ∨ i = 3 ∨ i = 4 ∨ i = 5 ∨ i = 6 ∨ i = 7 ∨ i = 8 ∨ i = 9 ∨ i = 10 ∨ i = 11 ∨ i = 12 ∨ i = 13 ∨ i = 14 ∨ i = 15) with rfl | rfl | rfl | rfl | rfl | rfl | rfl | rfl | rfl | rfl | rfl | rfl | rfl | rfl | rfl | rfl
        · exact absurd rfl (hne 0 (by decide) (by decide))
        · rfl
        · rfl
        · rfl
        · rfl
        · exact absurd rfl (hne 1 (by decide) (by decide))
        · rfl
        · exact absurd rfl hiq
        · exact absurd rfl (hne 2 (by decide) (by decide))
        · rfl
        · rfl
        · rfl
        · rfl
        · exact absurd rfl (hne 3 (by decide) (by decide))
        · rfl
        · exact absurd rfl (hne 4 (by decide) (by decide))
      · rw [List.getElem?_eq_none (by simp; omega), List.getElem?_eq_none (by simp; omega)]
    · by_cases hN : i ≤ 15
      · rcases (by omega : i = 0 ∨ i = 1 ∨ i = 2 ∨ i = 3 ∨ i = 4 ∨ i = 5 ∨ i = 6 ∨ i = 7 ∨ i = 8 ∨ i = 9 ∨ i = 10 ∨ i = 11 ∨ i = 12 ∨ i = 13 ∨ i = 14 ∨ i = 15) with rfl | rfl | rfl | rfl | rfl | rfl | rfl | rfl | rfl | rfl | rfl | rfl | rfl | rfl | rfl | rfl
        · exact congrArg some e1
        · rfl
        · rfl
        · rfl
        · rfl
        · exact absurd rfl (hne 1 (by decide) (by decide))
        · rfl
        · exact absurd rfl hiq
        · exact absurd rfl (hne 2 (by decide) (by decide))
        · rfl
        · rfl
        · rfl
        · rfl
        · exact absurd rfl (hne 3 (by decide) (by decide))
        · rfl
        · exact absurd rfl (hne 4 (by decide) (by decide))
      · rw [List.getElem?_eq_none (by simp; omega), List.getElem?_eq_none (by simp; omega)]
    · by_cases hN : i ≤ 15
      · rcases (by omega : i = 0 ∨ i = 1 ∨ i = 2 ∨ i = 3 ∨ i = 4 ∨ i = 5 ∨ i = 6 ∨ i = 7 ∨ i = 8 ∨ i = 9 ∨ i = 10 ∨ i = 11 ∨ i = 12 ∨ i = 13 ∨ i = 14 ∨ i = 15) with rfl | rfl | rfl | rfl | rfl | rfl | rfl | rfl | rfl | rfl | rfl | rfl | rfl | rfl | rfl | rfl
        · exact congrArg some e2
        · rfl
        · rfl
        · rfl
        · rfl
        · exact congrArg some e3
        · rfl
        · exact absurd rfl hiq
        · exact absurd rfl (hne 2 (by decide) (by decide))
        · rfl
        · rfl
        · rfl
        · rfl
        · exact absurd rfl (hne 3 (by decide) (by decide))
        · rfl
        · exact absurd rfl (hne 4 (by decide) (by decide))
      · rw [List.getElem?_eq_none (by simp; omega), List.getElem?_eq_none (by simp; omega)]
  · subst hmk
    intro i o v hi ho hne hnq p s hs hp hps hv hex a seen K hK
    clear HQ
    have u1e : a.eval (.tmp 1) = .pointer (some ⟨gb, 0, none⟩) := seen.kp 1 _ (by decide) rfl
    have u2e : a.eval (.tmp 2) = .pointer (some ⟨ib, 0, none⟩) := seen.kp 2 _ (by decide) rfl
    have u3e : a.eval (.tmp 3) = .pointer (some ⟨xb, 0, none⟩) := seen.kp 3 _ (by decide) rfl
    have u5e : a.eval (.tmp 5) = .pointer (some ⟨ob, 0, none⟩) := seen.kp 5 _ (by decide) rfl
    rcases (by omega : i = 0 ∨ i = 1 ∨ i = 2 ∨ i = 3 ∨ i = 4 ∨ i = 5 ∨ i = 6 ∨ i = 7 ∨ i = 8 ∨ i = 9 ∨ i = 10 ∨ i = 11 ∨ i = 12 ∨ i = 13 ∨ i = 14 ∨ i = 15) with rfl | rfl | rfl | rfl | rfl | rfl | rfl | rfl | rfl | rfl | rfl | rfl | rfl | rfl | rfl | rfl
    · exact absurd rfl (hne 0 (by decide))
    · obtain rfl := Option.some.inj ho
      obtain rfl := Option.some.inj hv
      exact Rg.op_value rfl rfl (Rg.ex_field a.eval _ 25 (.tmp 1) 1 rfl (by rw [u1e]; simp [go_sem])) hK
    · obtain rfl := Option.some.inj ho
      obtain rfl := Option.some.inj hv
      have e0 := seen.at_ ⟨1, .data⟩ (by simp) rfl _ rfl
      have e0 : a.eval (.tmp 8) = _ := e0
      have hs3 : s ≤ 4 := by
        rcases Nat.lt_or_ge 4 s with h4 | h4
        · exact absurd rfl (hex 4 _ (by omega) rfl ⟨2, .phase⟩ (by simp) rfl)
        · exact h4
      obtain ⟨n0, n1, n2, n3⟩ := hc p s (by omega) hs3 hps
      exact Rg.op_value rfl rfl (Rg.ex_load a.eval _ 23 (.tmp 8) rfl (by rw [e0]; simp [go_sem, n0])) hK
    · obtain rfl := Option.some.inj ho
      obtain rfl := Option.some.inj hv
      have hs3 : s ≤ 4 := by
        rcases Nat.lt_or_ge 4 s with h4 | h4
        · exact absurd rfl (hex 4 _ (by omega) rfl ⟨3, .phase⟩ (by simp) rfl)
        · exact h4
      obtain ⟨n0, n1, n2, n3⟩ := hc p s (by omega) hs3 hps
      exact Rg.op_value rfl rfl (Rg.ex_load a.eval _ 3 (.tmp 2) rfl (by rw [u2e]; simp [go_sem, n1])) hK
    · obtain rfl := Option.some.inj ho
      obtain rfl := Option.some.inj hv
      have e0 := seen.at_ ⟨2, .data⟩ (by simp) rfl _ rfl
      have e0 : a.eval (.tmp 9) = _ := e0
      have e1 := seen.at_ ⟨3, .data⟩ (by simp) rfl _ rfl
      have e1 : a.eval (.tmp 10) = _ := e1
      exact Rg.op_value rfl rfl (Rg.ex_slice a.eval _ 23 (.tmp 9) none (some (.tmp 10)) none rfl (by simp only [Option.map_none, Option.map_some, e0, e1]; exact s1 _)) hK
    · exact absurd rfl (hne 1 (by decide))
    · obtain rfl := Option.some.inj ho
      obtain rfl := Option.some.inj hv
      have hs3 : s ≤ 4 := by
        rcases Nat.lt_or_ge 4 s with h4 | h4
        · exact absurd rfl (hex 4 _ (by omega) rfl ⟨6, .phase⟩ (by simp) rfl)
        · exact h4
      obtain ⟨n0, n1, n2, n3⟩ := hc p s (by omega) hs3 hps
      exact Rg.op_value rfl rfl (Rg.ex_load a.eval _ 22 (.tmp 3) rfl (by rw [u3e]; exact load_runL _ _ x (fun j u hj => by
        rcases j with _ | j
        · obtain rfl := Option.some.inj hj
          exact n2
        · rcases j with _ | j
          · obtain rfl := Option.some.inj hj
            exact n3
          · exact absurd hj (by simp [cells2])))) hK
    · exact absurd rfl hnq
    · exact absurd rfl (hne 2 (by decide))
    · obtain rfl := Option.some.inj ho
      obtain rfl := Option.some.inj hv
      exact Rg.op_value rfl rfl (Rg.ex_field a.eval _ 25 (.tmp 1) 1 rfl (by rw [u1e]; simp [go_sem])) hK
    · obtain rfl := Option.some.inj ho
      obtain rfl := Option.some.inj hv
      have e0 := seen.at_ ⟨9, .data⟩ (by simp) rfl _ rfl
      have e0 : a.eval (.tmp 16) = _ := e0
      have hs3 : s ≤ 4 := by
        rcases Nat.lt_or_ge 4 s with h4 | h4
        · exact absurd rfl (hex 4 _ (by omega) rfl ⟨10, .phase⟩ (by simp) rfl)
        · exact h4
      obtain ⟨n0, n1, n2, n3⟩ := hc p s (by omega) hs3 hps
      exact Rg.op_value rfl rfl (Rg.ex_load a.eval _ 23 (.tmp 16) rfl (by rw [e0]; simp [go_sem, n0])) hK
    · obtain rfl := Option.some.inj ho
      obtain rfl := Option.some.inj hv
      have hs3 : s ≤ 4 := by
        rcases Nat.lt_or_ge 4 s with h4 | h4
        · exact absurd rfl (hex 4 _ (by omega) rfl ⟨11, .phase⟩ (by simp) rfl)
        · exact h4
      obtain ⟨n0, n1, n2, n3⟩ := hc p s (by omega) hs3 hps
      exact Rg.op_value rfl rfl (Rg.ex_load a.eval _ 3 (.tmp 2) rfl (by rw [u2e]; simp [go_sem, n1])) hK
    · obtain rfl := Option.some.inj ho
      obtain rfl := Option.some.inj hv
      have e0 := seen.at_ ⟨10, .data⟩ (by simp) rfl _ rfl
      have e0 : a.eval (.tmp 17) = _ := e0
      have e1 := seen.at_ ⟨11, .data⟩ (by simp) rfl _ rfl
      have e1 : a.eval (.tmp 18) = _ := e1
      exact Rg.op_value rfl rfl (Rg.ex_slice a.eval _ 23 (.tmp 17) (some (.tmp 18)) none none rfl (by simp only [Option.map_none, Option.map_some, e0, e1]; exact s2 _)) hK
    · exact absurd rfl (hne 3 (by decide))
    · obtain rfl := Option.some.inj ho
      obtain rfl := Option.some.inj hv
      exact Rg.op_value rfl rfl (Rg.ex_field a.eval _ 25 (.tmp 5) 1 rfl (by rw [u5e]; simp [go_sem])) hK
    · exact absurd rfl (hne 4 (by decide))
  · intro o s v hs ho hv a seen K hK
    obtain rfl := Option.some.inj ho
    obtain rfl := Option.some.inj hv
    have e0 := seen.at_ ⟨6, .data⟩ (by simp) rfl _ rfl
    have e0 : a.eval (.tmp 13) = _ := e0
    exact Rg.op_value rfl rfl (Rg.ex_build a.eval _ 23 1 #[(0, .tmp 13)] rfl (by simp only [List.map_toArray, List.map_cons, List.map_nil, e0]) (hL s hs)) hK
  · subst hmk
    intro j o p v hj hval ho hv a seen K hK
    rcases (by omega : j = 0 ∨ j = 1 ∨ j = 2 ∨ j = 3 ∨ j = 4) with rfl | rfl | rfl | rfl | rfl
    · obtain rfl := Option.some.inj ho
      obtain rfl := Option.some.inj hv
      exact Rg.op_value rfl rfl (Rg.ex_build a.eval _ 23 0 #[] rfl (by simp) (h1 p (by omega))) (hK.1 (by decide))
    · obtain rfl := Option.some.inj ho
      obtain rfl := Option.some.inj hv
      have e0 := seen.at_ ⟨0, .data⟩ (by simp) rfl _ rfl
      have e0 : a.eval (.tmp 7) = _ := e0
      have e1 := seen.at_ ⟨4, .data⟩ (by simp) rfl _ rfl
      have e1 : a.eval (.tmp 11) = _ := e1
      exact Rg.op_value rfl rfl (Rg.ex_append a.eval _ (.tmp 7) (.tmp 11) 23 rfl e0 e1 (h2 p (by omega))) (hK.1 (by decide))
    · obtain rfl := Option.some.inj ho
      obtain rfl := Option.some.inj hv
      have e0 := seen.at_ ⟨5, .data⟩ (by simp) rfl _ rfl
      have e0 : a.eval (.tmp 12) = _ := e0
      have e1 := seen.at_ ⟨7, .data⟩ (by simp) rfl _ rfl
      have e1 : a.eval (.tmp 14) = _ := e1
      exact Rg.op_value rfl rfl (Rg.ex_append a.eval _ (.tmp 12) (.tmp 14) 23 rfl e0 e1 (h3 p (by omega))) (hK.1 (by decide))
    · obtain rfl := Option.some.inj ho
      obtain rfl := Option.some.inj hv
      have e0 := seen.at_ ⟨8, .data⟩ (by simp) rfl _ rfl
      have e0 : a.eval (.tmp 15) = _ := e0
      have e1 := seen.at_ ⟨12, .data⟩ (by simp) rfl _ rfl
      have e1 : a.eval (.tmp 19) = _ := e1
      exact Rg.op_value rfl rfl (Rg.ex_append a.eval _ (.tmp 15) (.tmp 19) 23 rfl e0 e1 (h4 p (by omega))) (hK.1 (by decide))
    · obtain rfl := Option.some.inj ho
      obtain rfl := Option.some.inj hv
      have e0 := seen.at_ ⟨14, .data⟩ (by simp) rfl _ rfl
      have e0 : a.eval (.tmp 21) = _ := e0
      have e1 := seen.at_ ⟨13, .data⟩ (by simp) rfl _ rfl
      have e1 : a.eval (.tmp 20) = _ := e1
      exact Rg.op_skip rfl rfl (Rg.ex_store a.eval _ 23 (.tmp 21) (.tmp 20) rfl (by rw [e0, e1]; exact h5 p (by omega))) (hK.2 rfl)
  · intro a p hp h1 h2 h3
    obtain ⟨mid, hm, rfl⟩ := Rg.frame_mid (bl := (u0 :: .pointer (some ⟨gb, 0, none⟩) :: .pointer (some ⟨ib, 0, none⟩) :: .pointer (some ⟨xb, 0, none⟩) :: u4 :: .pointer (some ⟨ob, 0, none⟩) :: u6 :: u7 :: u8 :: u9 :: u10 :: u11 :: u12 :: u13 :: u14 :: u15 :: u16 :: u17 :: u18 :: u19 :: u20 :: u21 :: u22 :: [])) 7 15 h1 (by rw [h2]; rfl) (by simp) (fun j hj => by rw [h3 j hj]; exact List.getElem?_toArray)
    match mid, hm with
    | [v7, v8, v9, v10, v11, v12, v13, v14, v15, v16, v17, v18, v19, v20, v21], _ => exact HQ.out p hp v7 v8 v9 v10 v11 v12 v13 v14 v15 v16 v17 v18 v19 v20 v21
noncomputable def badRB : Code := ((Tryd.f6.body.bind (findRegion 15)).getD .skip)
set_option maxRecDepth 100000 in
set_option maxHeartbeats 8000000 in
theorem bad_rB (Q : Exit → Act → World → Prop) (W : World) (gb bb lb m : Nat) (x : Lk) (vo : Option Addr) (vc : Nat) (e li v1 v2 _v3 : Nat → Value) (wof : Nat → Nat → World) (u0 u1 u2 u3 u4 u5 u6 u7 u8 u10 u11 u12 u13 u15 u17 u18 u19 u20 u21 u22 u23 u24 u25 u26 u27 u28 u29 u30 u31 u32 u33 u34 u35 u36 u37 u38 u39 u40 u41 u42 u43 u44 u45 u46 u47 u48 u49 u50 u51 u52 u53 u54 u55 u56 u57 u58 u59 u60 u61 u62 u63 u64 u65 u66 u67 u68 u69 u70 u71 u72 u73 u74 u75 u76 u77 u78 u79 u80 u81 u82 u83 u84 u85 u86 u87 u88 u89 u90 u91 u92 u93 u94 u95 u96 u97 u98 u99 u100 u101 u102 u103 u104 u105 u106 : Value)
    (h30 : wof 3 0 = W.drew)
    (h1 : ∀ p, (p = 0 ∨ p = 3) → (Instr.buildSlice 23 0 #[]).run Tryd.prog (wof p 0) = .ok (e p) (wof p 1))
    (h2 : ∀ p, (p = 0 ∨ p = 1 ∨ p = 3) → (Builtin.append_ #[23, 23] 23 #[e p, .slice vo m vc]).run Tryd.prog (wof p 1) = .ok (v1 p) (wof p 2))
    (h3 : ∀ p, p ≤ 2 → (Builtin.append_ #[23, 23] 23 #[v1 p, li p]).run Tryd.prog (wof p 2) = .ok (v2 p) (wof p 3))
    (hL : ∀ s, s ≤ 2 → (Instr.buildSlice 23 1 #[(0, kv x)]).run Tryd.prog (wof 3 s) = .ok (li s) (wof s s))
    (e1 : e 1 = e 3) (e2 : e 2 = e 3) (e3 : v1 2 = v1 3)
    (h5 : ∀ p, p ≤ 2 → (Instr.storeAt 23 (.pointer (some ⟨bb, 1, none⟩)) (v2 p)).run Tryd.prog (wof p 3) = .ok () (wof p 4))
    (hc : ∀ p s, p ≤ 3 → s ≤ 3 → (p ≤ s ∨ p = 3 ∧ s ≤ 2) → (wof p s).cell? ⟨gb, 1, none⟩ = some (.slice vo m vc) ∧ (wof p s).cell? ⟨lb, 1, none⟩ = some (.int .i64 x.1) ∧ (wof p s).cell? ⟨lb, 0, none⟩ = some (.int .i64 x.2))
    (hQ : ∀ p, p ≤ 2 → ∀ (v63 v64 v65 v66 v67 v68 v69 v70 v71 v72 v73 v74 : Value), Q .normal ⟨(u0 :: u1 :: u2 :: u3 :: u4 :: u5 :: u6 :: u7 :: u8 :: .pointer (some ⟨gb, 0, none⟩) :: u10 :: u11 :: u12 :: u13 :: .pointer (some ⟨bb, 0, none⟩) :: u15 :: .pointer (some ⟨lb, 0, none⟩) :: u17 :: u18 :: u19 :: u20 :: u21 :: u22 :: u23 :: u24 :: u25 :: u26 :: u27 :: u28 :: u29 :: u30 :: u31 :: u32 :: u33 :: u34 :: u35 :: u36 :: u37 :: u38 :: u39 :: u40 :: u41 :: u42 :: u43 :: u44 :: u45 :: u46 :: u47 :: u48 :: u49 :: u50 :: u51 :: u52 :: u53 :: u54 :: u55 :: u56 :: u57 :: u58 :: u59 :: u60 :: u61 :: u62 :: v63 :: v64 :: v65 :: v66 :: v67 :: v68 :: v69 :: v70 :: v71 :: v72 :: v73 :: v74 :: u75 :: u76 :: u77 :: u78 :: u79 :: u80 :: u81 :: u82 :: u83 :: u84 :: u85 :: u86 :: u87 :: u88 :: u89 :: u90 :: u91 :: u92 :: u93 :: u94 :: u95 :: u96 :: u97 :: u98 :: u99 :: u100 :: u101 :: u102 :: u103 :: u104 :: u105 :: u106 :: []).toArray, []⟩ (wof p 4)) :
    Code.wp Tryd.prog badRB Q ⟨(u0 :: u1 :: u2 :: u3 :: u4 :: u5 :: u6 :: u7 :: u8 :: .pointer (some ⟨gb, 0, none⟩) :: u10 :: u11 :: u12 :: u13 :: .pointer (some ⟨bb, 0, none⟩) :: u15 :: .pointer (some ⟨lb, 0, none⟩) :: u17 :: u18 :: u19 :: u20 :: u21 :: u22 :: u23 :: u24 :: u25 :: u26 :: u27 :: u28 :: u29 :: u30 :: u31 :: u32 :: u33 :: u34 :: u35 :: u36 :: u37 :: u38 :: u39 :: u40 :: u41 :: u42 :: u43 :: u44 :: u45 :: u46 :: u47 :: u48 :: u49 :: u50 :: u51 :: u52 :: u53 :: u54 :: u55 :: u56 :: u57 :: u58 :: u59 :: u60 :: u61 :: u62 :: u63 :: u64 :: u65 :: u66 :: u67 :: u68 :: u69 :: u70 :: u71 :: u72 :: u73 :: u74 :: u75 :: u76 :: u77 :: u78 :: u79 :: u80 :: u81 :: u82 :: u83 :: u84 :: u85 :: u86 :: u87 :: u88 :: u89 :: u90 :: u91 :: u92 :: u93 :: u94 :: u95 :: u96 :: u97 :: u98 :: u99 :: u100 :: u101 :: u102 :: u103 :: u104 :: u105 :: u106 :: []).toArray, []⟩ W := by
  have HQ := Lib.hid hQ
  clear hQ
  obtain ⟨mk, hmk⟩ : ∃ mk : Nat → Nat, mk = fun | 0 => 0 | 1 => 3 | 2 => 10 | _ => 12 := ⟨_, rfl⟩
  change Code.wp Tryd.prog badRB Q ⟨_, []⟩ W
  unfold badRB
  conv => arg 2; whnf
  refine Rg.region_two 63 12 (fun p => [e p, .pointer (some ⟨gb, 1, none⟩), .slice vo m vc, v1 p, .pointer (some ⟨lb, 1, none⟩), .int .i64 x.1, .pointer (some ⟨lb, 0, none⟩), .int .i64 x.2, kv x, li p, v2 p, .pointer (some ⟨bb, 1, none⟩), undef]) mk 4 9 2 wof (by kernel_rfl) (by kernel_rfl) rfl (fun _ => rfl) ?_ ⟨3, by decide, congrFun hmk 3⟩ (by decide) ?_ (by decide) h30 ?_ ?_ ?_ ?_ ?_ ?_ ?_ ?_ ?_
  · simp
  · subst hmk
    intro j hj
    rcases (by omega : j = 0 ∨ j = 1 ∨ j = 2 ∨ j = 3) with rfl | rfl | rfl | rfl <;> simp
  · subst hmk
    intro i j hi hj
    rcases (by omega : i = 0 ∨ i = 1 ∨ i = 2 ∨ i = 3) with rfl | rfl | rfl | rfl <;> rcases (by omega : j = 0 ∨ j = 1 ∨ j = 2 ∨ j = 3) with rfl | rfl | rfl | rfl <;> simp
  · subst hmk
    intro j hj
    rcases (by omega : j = 0 ∨ j = 1 ∨ j = 2 ∨ j = 3) with rfl | rfl | rfl | rfl <;> simp
  · subst hmk
    intro j o hj ho
    rcases (by omega : j = 0 ∨ j = 1 ∨ j = 2) with rfl | rfl | rfl
    · obtain rfl := Option.some.inj ho
      exact ⟨⟨0, .data⟩, by simp, rfl, rfl⟩
    · obtain rfl := Option.some.inj ho
      exact ⟨⟨3, .data⟩, by simp, rfl, rfl⟩
    · obtain rfl := Option.some.inj ho
      exact ⟨⟨10, .data⟩, by simp, rfl, rfl⟩
  · subst hmk
    intro o ho
    obtain rfl := Option.some.inj ho
    exact ⟨⟨9, .data⟩, by simp, rfl, rfl⟩
  · subst hmk
    intro s i hs hiq hne
    rcases (by omega : s = 0 ∨ s = 1 ∨ s = 2) with rfl | rfl | rfl
    · by_cases hN : i ≤ 12
      · rcases (by omega : i = 0 ∨ i = 1 ∨ i = 2 ∨ i = 3 ∨ i = 4 ∨ i = 5 ∨ i = 6 ∨ i = 7 ∨ i = 8 ∨ i = 9 ∨ i = 10 ∨ i = 11 ∨ i = 12) with rfl | rfl | rfl | rfl | rfl | rfl | rfl | rfl | rfl | rfl | rfl | rfl | rfl
        · exact absurd rfl (hne 0 (by decide) (by decide))
        · rfl
        · rfl
        · exact absurd rfl (hne 1 (by decide) (by decide))
        · rfl
        · rfl
        · rfl
        · rfl
        · rfl
        · exact absurd rfl hiq
        · exact absurd rfl (hne 2 (by decide) (by decide))
        · rfl
        · exact absurd rfl (hne 3 (by decide) (by decide))
      · rw [List.getElem?_eq_none (by simp; omega), List.getElem?_eq_none (by simp; omega)]
    · by_cases hN : i ≤ 12
      · rcases (by omega : i = 0 ∨ i = 1 ∨ i = 2 ∨ i = 3 ∨ i = 4 ∨ i = 5 ∨ i = 6 ∨ i = 7 ∨ i = 8 ∨ i = 9 ∨ i = 10 ∨ i = 11 ∨ i = 12) with rfl | rfl | rfl | rfl | rfl | rfl | rfl | rfl | rfl | rfl | rfl | rfl | rfl
        · exact congrArg some e1
        · rfl
        · rfl
        · exact absurd rfl (hne 1 (by decide) (by decide))
        · rfl
        · rfl
        · rfl
        · rfl
        · rfl
        · exact absurd rfl hiq
        · exact absurd rfl (hne 2 (by decide) (by decide))
        · rfl
        · exact absurd rfl (hne 3 (by decide) (by decide))
      · rw [List.getElem?_eq_none (by simp; omega), List.getElem?_eq_none (by simp; omega)]
    · by_cases hN : i ≤ 12
      · rcases (by omega : i = 0 ∨ i = 1 ∨ i = 2 ∨ i = 3 ∨ i = 4 ∨ i = 5 ∨ i = 6 ∨ i = 7 ∨ i = 8 ∨ i = 9 ∨ i = 10 ∨ i = 11 ∨ i = 12) with rfl | rfl | rfl | rfl | rfl | rfl | rfl | rfl | rfl | rfl | rfl | rfl | rfl
        · exact congrArg some e2
        · rfl
        · rfl
        · exact congrArg some e3
        · rfl
        · rfl
        · rfl
        · rfl
        · rfl
        · exact absurd rfl hiq
        · exact absurd rfl (hne 2 (by decide) (by decide))
        · rfl
        · exact absurd rfl (hne 3 (by decide) (by decide))
      · rw [List.getElem?_eq_none (by simp; omega), List.getElem?_eq_none (by simp; omega)]
  · subst hmk
    intro i o v hi ho hne hnq p s hs hp hps hv hex a seen K hK
    clear HQ
    have u9e : a.eval (.tmp 9) = .pointer (some ⟨gb, 0, none⟩) := seen.kp 9 _ (by decide) rfl
    have u14e : a.eval (.tmp 14) = .pointer (some ⟨bb, 0, none⟩) := seen.kp 14 _ (by decide) rfl
    have u16e : a.eval (.tmp 16) = .pointer (some ⟨lb, 0, none⟩) := seen.kp 16 _ (by decide) rfl
    rcases (by omega : i = 0 ∨ i = 1 ∨ i = 2 ∨ i = 3 ∨ i = 4 ∨ i = 5 ∨ i = 6 ∨ i = 7 ∨ i = 8 ∨ i = 9 ∨ i = 10 ∨ i = 11 ∨ i = 12) with rfl | rfl | rfl | rfl | rfl | rfl | rfl | rfl | rfl | rfl | rfl | rfl | rfl
    · exact absurd rfl (hne 0 (by decide))
    · obtain rfl := Option.some.inj ho
      obtain rfl := Option.some.inj hv
      exact Rg.op_value rfl rfl (Rg.ex_field a.eval _ 25 (.tmp 9) 1 rfl (by rw [u9e]; simp [go_sem])) hK
    · obtain rfl := Option.some.inj ho
      obtain rfl := Option.some.inj hv
      have e0 := seen.at_ ⟨1, .data⟩ (by simp) rfl _ rfl
      have e0 : a.eval (.tmp 64) = _ := e0
      have hs3 : s ≤ 3 := by
        rcases Nat.lt_or_ge 3 s with h4 | h4
        · exact absurd rfl (hex 3 _ (by omega) rfl ⟨2, .phase⟩ (by simp) rfl)
        · exact h4
      obtain ⟨n0, n1, n2⟩ := hc p s (by omega) hs3 hps
      exact Rg.op_value rfl rfl (Rg.ex_load a.eval _ 23 (.tmp 64) rfl (by rw [e0]; simp [go_sem, n0])) hK
    · exact absurd rfl (hne 1 (by decide))
    · obtain rfl := Option.some.inj ho
      obtain rfl := Option.some.inj hv
      exact Rg.op_value rfl rfl (Rg.ex_index a.eval _ 22 (.tmp 16) (.const (.int .i64 1)) rfl (by rw [u16e]; show (Instr.indexAt 22 (.pointer (some ⟨lb, 0, none⟩)) (.int .i64 1)).run Tryd.prog _ = _; simp [go_sem, Tryd.underlying22])) hK
    · obtain rfl := Option.some.inj ho
      obtain rfl := Option.some.inj hv
      have e0 := seen.at_ ⟨4, .data⟩ (by simp) rfl _ rfl
      have e0 : a.eval (.tmp 67) = _ := e0
      have hs3 : s ≤ 3 := by
        rcases Nat.lt_or_ge 3 s with h4 | h4
        · exact absurd rfl (hex 3 _ (by omega) rfl ⟨5, .phase⟩ (by simp) rfl)
        · exact h4
      obtain ⟨n0, n1, n2⟩ := hc p s (by omega) hs3 hps
      exact Rg.op_value rfl rfl (Rg.ex_load a.eval _ 3 (.tmp 67) rfl (by rw [e0]; simp [go_sem, n1])) hK
    · obtain rfl := Option.some.inj ho
      obtain rfl := Option.some.inj hv
      exact Rg.op_value rfl rfl (Rg.ex_index a.eval _ 22 (.tmp 16) (.const (.int .i64 0)) rfl (by rw [u16e]; show (Instr.indexAt 22 (.pointer (some ⟨lb, 0, none⟩)) (.int .i64 0)).run Tryd.prog _ = _; simp [go_sem, Tryd.underlying22])) hK
    · obtain rfl := Option.some.inj ho
      obtain rfl := Option.some.inj hv
      have e0 := seen.at_ ⟨6, .data⟩ (by simp) rfl _ rfl
      have e0 : a.eval (.tmp 69) = _ := e0
      have hs3 : s ≤ 3 := by
        rcases Nat.lt_or_ge 3 s with h4 | h4
        · exact absurd rfl (hex 3 _ (by omega) rfl ⟨7, .phase⟩ (by simp) rfl)
        · exact h4
      obtain ⟨n0, n1, n2⟩ := hc p s (by omega) hs3 hps
      exact Rg.op_value rfl rfl (Rg.ex_load a.eval _ 3 (.tmp 69) rfl (by rw [e0]; simp [go_sem, n2])) hK
    · obtain rfl := Option.some.inj ho
      obtain rfl := Option.some.inj hv
      have e0 := seen.at_ ⟨5, .data⟩ (by simp) rfl _ rfl
      have e0 : a.eval (.tmp 68) = _ := e0
      have e1 := seen.at_ ⟨7, .data⟩ (by simp) rfl _ rfl
      have e1 : a.eval (.tmp 70) = _ := e1
      exact Rg.op_value rfl rfl (Rg.ex_buildS a.eval _ 22 #[(0, .tmp 68), (1, .tmp 70)] rfl (by simp only [List.map_toArray, List.map_cons, List.map_nil, e0, e1]; rfl) (by simp [go_sem])) hK
    · exact absurd rfl hnq
    · exact absurd rfl (hne 2 (by decide))
    · obtain rfl := Option.some.inj ho
      obtain rfl := Option.some.inj hv
      exact Rg.op_value rfl rfl (Rg.ex_field a.eval _ 25 (.tmp 14) 1 rfl (by rw [u14e]; simp [go_sem])) hK
    · exact absurd rfl (hne 3 (by decide))
  · intro o s v hs ho hv a seen K hK
    obtain rfl := Option.some.inj ho
    obtain rfl := Option.some.inj hv
    have e0 := seen.at_ ⟨8, .data⟩ (by simp) rfl _ rfl
    have e0 : a.eval (.tmp 71) = _ := e0
    exact Rg.op_value rfl rfl (Rg.ex_build a.eval _ 23 1 #[(0, .tmp 71)] rfl (by simp only [List.map_toArray, List.map_cons, List.map_nil, e0]) (hL s hs)) hK
  · subst hmk
    intro j o p v hj hval ho hv a seen K hK
    rcases (by omega : j = 0 ∨ j = 1 ∨ j = 2 ∨ j = 3) with rfl | rfl | rfl | rfl
    · obtain rfl := Option.some.inj ho
      obtain rfl := Option.some.inj hv
      exact Rg.op_value rfl rfl (Rg.ex_build a.eval _ 23 0 #[] rfl (by simp) (h1 p (by omega))) (hK.1 (by decide))
    · obtain rfl := Option.some.inj ho
      obtain rfl := Option.some.inj hv
      have e0 := seen.at_ ⟨0, .data⟩ (by simp) rfl _ rfl
      have e0 : a.eval (.tmp 63) = _ := e0
      have e1 := seen.at_ ⟨2, .data⟩ (by simp) rfl _ rfl
      have e1 : a.eval (.tmp 65) = _ := e1
      exact Rg.op_value rfl rfl (Rg.ex_append a.eval _ (.tmp 63) (.tmp 65) 23 rfl e0 e1 (h2 p (by omega))) (hK.1 (by decide))
    · obtain rfl := Option.some.inj ho
      obtain rfl := Option.some.inj hv
      have e0 := seen.at_ ⟨3, .data⟩ (by simp) rfl _ rfl
      have e0 : a.eval (.tmp 66) = _ := e0
      have e1 := seen.at_ ⟨9, .data⟩ (by simp) rfl _ rfl
      have e1 : a.eval (.tmp 72) = _ := e1
      exact Rg.op_value rfl rfl (Rg.ex_append a.eval _ (.tmp 66) (.tmp 72) 23 rfl e0 e1 (h3 p (by omega))) (hK.1 (by decide))
    · obtain rfl := Option.some.inj ho
      obtain rfl := Option.some.inj hv
      have e0 := seen.at_ ⟨11, .data⟩ (by simp) rfl _ rfl
      have e0 : a.eval (.tmp 74) = _ := e0
      have e1 := seen.at_ ⟨10, .data⟩ (by simp) rfl _ rfl
      have e1 : a.eval (.tmp 73) = _ := e1
      exact Rg.op_skip rfl rfl (Rg.ex_store a.eval _ 23 (.tmp 74) (.tmp 73) rfl (by rw [e0, e1]; exact h5 p (by omega))) (hK.2 rfl)
  · intro a p hp h1 h2 h3
    obtain ⟨mid, hm, rfl⟩ := Rg.frame_mid (bl := (u0 :: u1 :: u2 :: u3 :: u4 :: u5 :: u6 :: u7 :: u8 :: .pointer (some ⟨gb, 0, none⟩) :: u10 :: u11 :: u12 :: u13 :: .pointer (some ⟨bb, 0, none⟩) :: u15 :: .pointer (some ⟨lb, 0, none⟩) :: u17 :: u18 :: u19 :: u20 :: u21 :: u22 :: u23 :: u24 :: u25 :: u26 :: u27 :: u28 :: u29 :: u30 :: u31 :: u32 :: u33 :: u34 :: u35 :: u36 :: u37 :: u38 :: u39 :: u40 :: u41 :: u42 :: u43 :: u44 :: u45 :: u46 :: u47 :: u48 :: u49 :: u50 :: u51 :: u52 :: u53 :: u54 :: u55 :: u56 :: u57 :: u58 :: u59 :: u60 :: u61 :: u62 :: u63 :: u64 :: u65 :: u66 :: u67 :: u68 :: u69 :: u70 :: u71 :: u72 :: u73 :: u74 :: u75 :: u76 :: u77 :: u78 :: u79 :: u80 :: u81 :: u82 :: u83 :: u84 :: u85 :: u86 :: u87 :: u88 :: u89 :: u90 :: u91 :: u92 :: u93 :: u94 :: u95 :: u96 :: u97 :: u98 :: u99 :: u100 :: u101 :: u102 :: u103 :: u104 :: u105 :: u106 :: [])) 63 12 h1 (by rw [h2]; rfl) (by simp) (fun j hj => by rw [h3 j hj]; exact List.getElem?_toArray)
    match mid, hm with
    | [v63, v64, v65, v66, v67, v68, v69, v70, v71, v72, v73, v74], _ => exact HQ.out p hp v63 v64 v65 v66 v67 v68 v69 v70 v71 v72 v73 v74
end Go.Proofs.YtbnfndcbhnjnaaaDoor.Gr
