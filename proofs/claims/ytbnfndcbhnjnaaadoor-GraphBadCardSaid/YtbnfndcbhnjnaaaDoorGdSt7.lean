/-
  steps of package graph: one way more in the map of neighbours. Conditions: numbers of 64 bits; at most 900 in a row.
-/
import Derived.Test.YtbnfndcbhnjnaaaDoorGdNM
import Derived.Test.YtbnfndcbhnjnaaaDoorBb
import Derived.Test.YtbnfndcbhnjnaaaDoorBj
namespace Go.Proofs.YtbnfndcbhnjnaaaDoor.Gr
open Go.RowKit Go.Sort Go.Proofs.YtbnfndcbhnjnaaaDoor Go.Proofs.YtbnfndcbhnjnaaaDoor.Rw

noncomputable def stepsR7 : Code := ((Tryd.f28.body.bind (findRegion 7)).getD .skip)
set_option maxRecDepth 100000 in
set_option maxHeartbeats 8000000 in
theorem steps_r7 (Q : Exit → Act → World → Prop) (W : World) (B nb wb : Nat) (S : Int → Value) (Z : Int → List Int) (c : Nat) (y : Lk) (u0 u1 u2 u3 u4 u6 u8 u9 u10 u11 u12 u13 u14 u15 u16 u17 u18 u19 u20 u21 u22 u23 u24 u25 u26 u27 u28 u29 u30 u31 u32 u33 u34 u35 u36 u37 u38 u39 u40 u41 u42 u43 u44 u45 u46 u47 u48 u49 u50 u51 u52 u53 u54 u55 u56 u57 u58 u59 u60 u61 u62 u63 u64 u65 u66 u67 u68 u69 u70 u71 u72 u73 u74 u75 u76 u77 u78 u79 : Value)
    (h : NM W B nb S Z c) (hy : I64 y.1) (hc : c ≤ 1000) (hz : (Z y.1).length ≤ 900) (hB : B ≤ W.heap.size) (hbox : Box W wb #[.int .i64 y.1, .int .i64 y.2] 22)
    (hQ : ∀ (w' : World) (r : Value) (c' : Nat) (v27 v28 v29 v30 v31 v32 v33 v34 v35 v36 v37 v38 : Value), NM w' B nb (updV S y.1 r) (updZ Z y.1 y.2) c' → c' ≤ c + 1 → Kp B nb W w' → Q .normal ⟨(u0 :: u1 :: u2 :: u3 :: u4 :: .map (some nb) :: u6 :: .pointer (some ⟨wb, 0, none⟩) :: u8 :: u9 :: u10 :: u11 :: u12 :: u13 :: u14 :: u15 :: u16 :: u17 :: u18 :: u19 :: u20 :: u21 :: u22 :: u23 :: u24 :: u25 :: u26 :: v27 :: v28 :: v29 :: v30 :: v31 :: v32 :: v33 :: v34 :: v35 :: v36 :: v37 :: v38 :: u39 :: u40 :: u41 :: u42 :: u43 :: u44 :: u45 :: u46 :: u47 :: u48 :: u49 :: u50 :: u51 :: u52 :: u53 :: u54 :: u55 :: u56 :: u57 :: u58 :: u59 :: u60 :: u61 :: u62 :: u63 :: u64 :: u65 :: u66 :: u67 :: u68 :: u69 :: u70 :: u71 :: u72 :: u73 :: u74 :: u75 :: u76 :: u77 :: u78 :: u79 :: []).toArray, []⟩ w') :
    Code.wp Tryd.prog stepsR7 Q ⟨(u0 :: u1 :: u2 :: u3 :: u4 :: .map (some nb) :: u6 :: .pointer (some ⟨wb, 0, none⟩) :: u8 :: u9 :: u10 :: u11 :: u12 :: u13 :: u14 :: u15 :: u16 :: u17 :: u18 :: u19 :: u20 :: u21 :: u22 :: u23 :: u24 :: u25 :: u26 :: u27 :: u28 :: u29 :: u30 :: u31 :: u32 :: u33 :: u34 :: u35 :: u36 :: u37 :: u38 :: u39 :: u40 :: u41 :: u42 :: u43 :: u44 :: u45 :: u46 :: u47 :: u48 :: u49 :: u50 :: u51 :: u52 :: u53 :: u54 :: u55 :: u56 :: u57 :: u58 :: u59 :: u60 :: u61 :: u62 :: u63 :: u64 :: u65 :: u66 :: u67 :: u68 :: u69 :: u70 :: u71 :: u72 :: u73 :: u74 :: u75 :: u76 :: u77 :: u78 :: u79 :: []).toArray, []⟩ W := by
  have hd : Below W.heap.size W W.drew := (Below.refl _ _).drew
  have ha : Below W.heap.size W (W.drew.alloc (.cells #[.int .i64 y.2] 3)) := hd.alloc (Nat.le_refl _) _
  obtain ⟨g, off, n, cap, w2, w3, c', hr, hu, hg, hnm, hc', hbw, hg3⟩ := (h.on hd).step y.1 y.2 hy hc hz hB
  have b2 : Box w2 wb #[.int .i64 y.1, .int .i64 y.2] 22 := (hg.block _ (hbox.on ha).lt (fun e => ((h.on hd).rows y.1).ne_box (hbox.on hd) (by decide) e.symm)).trans (hbox.on ha)
  have hnw : nb ≠ wb := mapF_ne h.map hbox
  have b3 : Box w3 wb #[.int .i64 y.1, .int .i64 y.2] 22 := (hg3.block _ b2.lt (fun e => hnw (by injection e with e; exact e.symm))).trans b2
  have l0 := (h.on hd).look hy
  have l1 := (h.on ha).look hy
  have HQ := Lib.hid (fun v27 v28 v29 v30 v31 v32 v33 v34 v35 v36 v37 v38 => hQ w3 (.slice (some ⟨g, off, none⟩) n cap) c' v27 v28 v29 v30 v31 v32 v33 v34 v35 v36 v37 v38 hnm hc' ((Kp.of_below (hd.mono hB)).trans hbw))
  obtain ⟨wof, hw⟩ : ∃ wof : Nat → World, wof = fun | 0 => W.drew | 1 => W.drew.alloc (.cells #[.int .i64 y.2] 3) | 2 => w2 | _ => w3 := ⟨_, rfl⟩
  have hbx : ∀ s, Box (wof s) wb #[.int .i64 y.1, .int .i64 y.2] 22 := fun s => by
    rw [hw]
    match s with
    | 0 => exact hbox.on hd
    | 1 => exact hbox.on ha
    | 2 => exact b2
    | _ + 3 => exact b3
  have hlk : ∀ s, s < 2 → (Instr.lookup 79 (.map (some nb)) (.int .i64 y.1) false).run Tryd.prog (wof s) = .ok (S y.1) (wof s) := fun s hs => by
    rw [hw]
    match s, hs with
    | 0, _ => exact l0
    | 1, _ => exact l1
  obtain ⟨mk, hmk⟩ : ∃ mk : Nat → Nat, mk = fun | 0 => 9 | 1 => 10 | _ => 11 := ⟨_, rfl⟩
  change Code.wp Tryd.prog stepsR7 Q ⟨_, []⟩ W
  unfold stepsR7
  conv => arg 2; whnf
  refine Rg.region_marks 27 11 [.map (some nb), .pointer (some ⟨wb, 0, none⟩), .int .i64 y.1, .map (some nb), .pointer (some ⟨wb, 0, none⟩), .int .i64 y.1, S y.1, .pointer (some ⟨wb, 1, none⟩), .int .i64 y.2, .slice (some ⟨W.heap.size, 0, none⟩) 1 1, .slice (some ⟨g, off, none⟩) n cap, undef] mk 3 wof (by kernel_rfl) (by kernel_rfl) rfl rfl ?_ ?_ ?_ ?_ ?_ ?_ ?_ ?_
  · simp
  · exact congrFun hw 0
  · subst hmk
    intro i j hi hj
    rcases (by omega : i = 0 ∨ i = 1 ∨ i = 2) with rfl | rfl | rfl <;> rcases (by omega : j = 0 ∨ j = 1 ∨ j = 2) with rfl | rfl | rfl <;> simp
  · subst hmk
    intro j hj
    rcases (by omega : j = 0 ∨ j = 1 ∨ j = 2) with rfl | rfl | rfl <;> simp
  · subst hmk
    intro j o hj ho
    rcases (by omega : j = 0 ∨ j = 1) with rfl | rfl
    · obtain rfl := Option.some.inj ho
      exact ⟨⟨9, .data⟩, by simp, rfl, rfl⟩
    · obtain rfl := Option.some.inj ho
      exact ⟨⟨10, .data⟩, by simp, rfl, rfl⟩
  · subst hmk
    intro i o v hi ho hv hne s hs hex a seen K hK
    have bx := hbx s
    have c0 := bx.cell 0
    have c1 := bx.cell 1
    simp only [List.getElem?_toArray, List.getElem?_cons_zero, List.getElem?_cons_succ] at c0 c1
    have hlk' := hlk s
    clear hlk hbx bx HQ
    have u5e : a.eval (.tmp 5) = .map (some nb) := seen.kp 5 _ (by decide) rfl
    have u7e : a.eval (.tmp 7) = .pointer (some ⟨wb, 0, none⟩) := seen.kp 7 _ (by decide) rfl
    rcases (by omega : i = 0 ∨ i = 1 ∨ i = 2 ∨ i = 3 ∨ i = 4 ∨ i = 5 ∨ i = 6 ∨ i = 7 ∨ i = 8 ∨ i = 9 ∨ i = 10 ∨ i = 11) with rfl | rfl | rfl | rfl | rfl | rfl | rfl | rfl | rfl | rfl | rfl | rfl
    · obtain rfl := Option.some.inj ho
      obtain rfl := Option.some.inj hv
      exact Rg.op_value rfl rfl (by simp [execOp, u5e]) hK
    · obtain rfl := Option.some.inj ho
      obtain rfl := Option.some.inj hv
      exact Rg.op_value rfl rfl (Rg.ex_index a.eval _ 22 (.tmp 7) (.const (.int .i64 0)) rfl (by rw [u7e]; show (Instr.indexAt 22 (.pointer (some ⟨wb, 0, none⟩)) (.int .i64 0)).run Tryd.prog _ = _; simp [go_sem, Tryd.underlying22])) hK
    · obtain rfl := Option.some.inj ho
      obtain rfl := Option.some.inj hv
      have e1 := seen.at_ ⟨1, .data⟩ (by simp) rfl _ rfl
      have e1 : a.eval (.tmp 28) = _ := e1
      exact Rg.op_value rfl rfl (Rg.ex_load a.eval _ 3 (.tmp 28) rfl (by rw [e1]; simp [go_sem, c0])) hK
    · obtain rfl := Option.some.inj ho
      obtain rfl := Option.some.inj hv
      exact Rg.op_value rfl rfl (by simp [execOp, u5e]) hK
    · obtain rfl := Option.some.inj ho
      obtain rfl := Option.some.inj hv
      exact Rg.op_value rfl rfl (Rg.ex_index a.eval _ 22 (.tmp 7) (.const (.int .i64 0)) rfl (by rw [u7e]; show (Instr.indexAt 22 (.pointer (some ⟨wb, 0, none⟩)) (.int .i64 0)).run Tryd.prog _ = _; simp [go_sem, Tryd.underlying22])) hK
    · obtain rfl := Option.some.inj ho
      obtain rfl := Option.some.inj hv
      have e4 := seen.at_ ⟨4, .data⟩ (by simp) rfl _ rfl
      have e4 : a.eval (.tmp 31) = _ := e4
      exact Rg.op_value rfl rfl (Rg.ex_load a.eval _ 3 (.tmp 31) rfl (by rw [e4]; simp [go_sem, c0])) hK
    · have hs2 : s < 2 := by
        rcases Nat.lt_or_ge s 2 with h2 | h2
        · exact h2
        · exact absurd rfl (hex 1 _ (by omega) rfl ⟨6, .data⟩ (by simp) rfl)
      obtain rfl := Option.some.inj ho
      obtain rfl := Option.some.inj hv
      have e3 := seen.at_ ⟨3, .data⟩ (by simp) rfl _ rfl
      have e5 := seen.at_ ⟨5, .data⟩ (by simp) rfl _ rfl
      have e3 : a.eval (.tmp 30) = _ := e3
      have e5 : a.eval (.tmp 32) = _ := e5
      have lk := hlk' hs2
      exact Rg.op_value rfl rfl (Rg.ex_lookup a.eval _ 79 (.tmp 30) (.tmp 32) false rfl (by rw [e3, e5]; exact lk)) hK
    · obtain rfl := Option.some.inj ho
      obtain rfl := Option.some.inj hv
      exact Rg.op_value rfl rfl (Rg.ex_index a.eval _ 22 (.tmp 7) (.const (.int .i64 1)) rfl (by rw [u7e]; show (Instr.indexAt 22 (.pointer (some ⟨wb, 0, none⟩)) (.int .i64 1)).run Tryd.prog _ = _; simp [go_sem, Tryd.underlying22])) hK
    · obtain rfl := Option.some.inj ho
      obtain rfl := Option.some.inj hv
      have e7 := seen.at_ ⟨7, .data⟩ (by simp) rfl _ rfl
      have e7 : a.eval (.tmp 34) = _ := e7
      exact Rg.op_value rfl rfl (Rg.ex_load a.eval _ 3 (.tmp 34) rfl (by rw [e7]; simp [go_sem, c1])) hK
    · exact absurd rfl (hne 0 (by decide))
    · exact absurd rfl (hne 1 (by decide))
    · exact absurd rfl (hne 2 (by decide))
  · subst hmk
    intro j o v hj ho hv a seen K hK
    rcases (by omega : j = 0 ∨ j = 1 ∨ j = 2) with rfl | rfl | rfl
    · obtain rfl := Option.some.inj ho
      obtain rfl := Option.some.inj hv
      have e8 := seen.at_ ⟨8, .data⟩ (by simp) rfl _ rfl
      have e8 : a.eval (.tmp 35) = _ := e8
      refine Rg.op_value rfl rfl (w' := wof 1) ?_ (hK.1 (by decide))
      subst hw
      exact Rg.ex_build a.eval _ 30 1 #[(0, .tmp 35)] rfl (by simp only [List.map_toArray, List.map_cons, List.map_nil, e8]; rfl) (by simp [go_sem])
    · obtain rfl := Option.some.inj ho
      obtain rfl := Option.some.inj hv
      have e6 := seen.at_ ⟨6, .data⟩ (by simp) rfl _ rfl
      have e9 := seen.at_ ⟨9, .data⟩ (by simp) rfl _ rfl
      have e6 : a.eval (.tmp 33) = _ := e6
      have e9 : a.eval (.tmp 36) = _ := e9
      refine Rg.op_value rfl rfl (w' := wof 2) ?_ (hK.1 (by decide))
      subst hw
      exact Rg.ex_append a.eval _ (.tmp 33) (.tmp 36) 30 rfl e6 e9 hr
    · obtain rfl := Option.some.inj ho
      have e0 := seen.at_ ⟨0, .data⟩ (by simp) rfl _ rfl
      have e2 := seen.at_ ⟨2, .data⟩ (by simp) rfl _ rfl
      have e10 := seen.at_ ⟨10, .data⟩ (by simp) rfl _ rfl
      have e0 : a.eval (.tmp 27) = _ := e0
      have e2 : a.eval (.tmp 29) = _ := e2
      have e10 : a.eval (.tmp 37) = _ := e10
      refine Rg.op_skip rfl rfl (w' := wof 3) ?_ (hK.2 rfl).1
      subst hw
      exact Rg.ex_update a.eval _ 79 (.tmp 27) (.tmp 29) (.tmp 37) rfl (by rw [e0, e2, e10]; exact hu)
  · intro a h1 h2 h3 h4
    obtain ⟨mid, hm, rfl⟩ := Rg.frame_mid (bl := (u0 :: u1 :: u2 :: u3 :: u4 :: .map (some nb) :: u6 :: .pointer (some ⟨wb, 0, none⟩) :: u8 :: u9 :: u10 :: u11 :: u12 :: u13 :: u14 :: u15 :: u16 :: u17 :: u18 :: u19 :: u20 :: u21 :: u22 :: u23 :: u24 :: u25 :: u26 :: u27 :: u28 :: u29 :: u30 :: u31 :: u32 :: u33 :: u34 :: u35 :: u36 :: u37 :: u38 :: u39 :: u40 :: u41 :: u42 :: u43 :: u44 :: u45 :: u46 :: u47 :: u48 :: u49 :: u50 :: u51 :: u52 :: u53 :: u54 :: u55 :: u56 :: u57 :: u58 :: u59 :: u60 :: u61 :: u62 :: u63 :: u64 :: u65 :: u66 :: u67 :: u68 :: u69 :: u70 :: u71 :: u72 :: u73 :: u74 :: u75 :: u76 :: u77 :: u78 :: u79 :: [])) 27 12 h1 (by rw [h2]; rfl) (by simp) (fun j hj => by rw [h3 j hj]; exact List.getElem?_toArray)
    have e3 : wof 3 = w3 := congrFun hw 3
    rw [e3]
    match mid, hm with
    | [v27, v28, v29, v30, v31, v32, v33, v34, v35, v36, v37, v38], _ => exact HQ.out v27 v28 v29 v30 v31 v32 v33 v34 v35 v36 v37 v38
end Go.Proofs.YtbnfndcbhnjnaaaDoor.Gr
