/-
  SubsRuns' regions that draw: the broker made, two entries added. No condition.
-/
import Derived.Test.YtncogjpmboglhaaQ046
import Derived.Test.YtncogjpmboglhaaQ013
import Derived.Test.YtncogjpmboglhaaQ039
import Derived.Test.YtncogjpmboglhaaQ047
namespace Go.Proofs.Ytncogjpmboglhaa.Sb
open Go.RowKit Go.Sort Go.Proofs.Ytncogjpmboglhaa Go.Proofs.Ytncogjpmboglhaa.Rw Go.Proofs.Ytncogjpmboglhaa.Nm Go.Proofs.Ytncogjpmboglhaa.Pr Go.Proofs.Ytncogjpmboglhaa.Bk Go.Proofs.Ytncogjpmboglhaa.Av Go.Proofs.Ytncogjpmboglhaa.Rl

/-- The broker of chapter 10's runs. -/
abbrev brS : Br := ⟨0, [1, 2], [⟨(1, 0), [], 1⟩], [(1, 0)], [], []⟩
theorem brS_learn : learnB (newB0 0 [1, 2]) ⟨(1, 0), [], 1⟩ = (brS, true) := rfl
theorem brS_few0 : Few (newB0 0 [1, 2]) := ⟨by simp, by simp, by simp, by simp, by simp⟩
theorem brS_fewp0 : FewP (newB0 0 [1, 2]) := ⟨by simp, by simp, by simp⟩
/-- A predicate of one range. -/
abbrev rgP (lo hi : Int) : List C5 := [(⟨#[97]⟩, 1, lo, hi, ⟨#[]⟩)]
set_option maxRecDepth 100000 in
theorem mkp_any (lo hi : Int) (w : World) : Calls Try.prog 6 #[.int .i64 lo, .int .i64 hi] w fun e w' => (∃ sl : Sl, e = .returned (slv sl) ∧ RowC w' (slv sl) (rgP lo hi)) ∧ Below w.heap.size w w' := by
  have h := Row.of_own (row_lit okC w (rgP lo hi) 1 rfl (by simp) #[.string ⟨#[97]⟩, .int .i64 1, .int .i64 lo, .int .i64 hi, .string ⟨#[]⟩] rfl)
  have n := newB w (.cells #[.string ⟨#[97]⟩, .int .i64 1, .int .i64 lo, .int .i64 hi, .string ⟨#[]⟩] 26)
  have H := Lib.hid h
  have N := Lib.hid n
  clear h n
  go_enter Try.func6, Try.ntmps6
  go_wp2
  go_ret
  exact ⟨⟨(some ⟨w.heap.size, 0, none⟩, 1, 1), rfl, H.out⟩, N.out⟩
theorem ex_callv0 {P : Program} (ρ : Operand → Value) (o : Oper) (g x y : Operand) (t s : TypeId) (f : FuncId) (ho : o.op = .call { callee := .value g, args := #[x, y], argTypes := #[t, s] }) {v u : Value} (hx : ρ x = v) (hy : ρ y = u) (hf : ρ g = .func (.func f) #[] #[]) (w : World)
    (hc : (callFunc f #[v, u]).run P w = .ok (.enter f #[v, u]) w) : (execOp ρ o).run P w = .ok (.enter f #[v, u]) w := by
  simp [execOp, ho, resolve, invoke, hx, hy, hf, Deferred.ofValue, hc]
def sr3V (_B : Nat) (_b1 : Nat) (i : Nat) (v : Value) (x : World) : Prop :=
  match i with
  | 0 => ∃ sl : Sl, v = slv sl ∧ RowI x v [1, 2]
  | 1 => ∃ nv : Sl, v = brv 0 nv (none, 0, 0) (none, 0, 0) (none, 0, 0) (none, 0, 0) ∧ BrN x (newB0 0 [1, 2]) nv (none, 0, 0) (none, 0, 0) (none, 0, 0) (none, 0, 0)
  | 2 => v = .agg #[.int .i64 1, .int .i64 0]
  | 3 => v = .agg #[.int .i64 1, .int .i64 0, .slice none 0 0, .int .i64 1]
  | 4 => ∃ nv av sv ev ov : Sl, v = .tuple #[brv 0 nv av sv ev ov, .bool true] ∧ BrN x brS nv av sv ev ov
  | 5 => ∃ nv av sv ev ov : Sl, v = .tuple #[brv 0 nv av sv ev ov, .bool true] ∧ BrN x brS nv av sv ev ov
  | 6 => ∃ nv av sv ev ov : Sl, v = brv 0 nv av sv ev ov ∧ BrN x brS nv av sv ev ov
  | 7 => v = .bool true
  | 8 => True
  | 9 => True
  | 10 => v = .bool true
  | _ => True
noncomputable def sr3C : Code := ((Try.f3.body.bind (findRegion 3)).getD .skip)
set_option maxRecDepth 100000 in
set_option maxHeartbeats 8000000 in
theorem sr3 (Q : Exit → Act → World → Prop) (W : World) (b1 : Nat) (u0 u2 u3 u4 u5 u6 u7 u8 u9 u10 u11 u12 u13 u14 u15 u16 u17 u18 u19 u20 u21 u22 u23 u24 u25 u26 u27 u28 u29 u30 u31 u32 u33 u34 u35 u36 u37 u38 u39 u40 u41 u42 u43 u44 u45 u46 u47 u48 u49 u50 u51 u52 u53 u54 u55 u56 u57 u58 u59 u60 u61 u62 u63 u64 u65 u66 u67 u68 u69 u70 u71 u72 u73 u74 u75 u76 u77 : Value)
    (h1 : Box W b1 #[.int .i64 1, .int .i64 0] 23)
    (hQ : ∀ (x : World) (bb : Nat) (v11 v12 v13 v14 v15 v16 v17 v18 : Value) (m1 : Option Addr) (m2 m3 : Nat) (m4 : Option Addr) (m5 m6 : Nat) (m7 : Option Addr) (m8 m9 : Nat) (m10 : Option Addr) (m11 m12 : Nat) (m13 : Option Addr) (m14 m15 : Nat), W.heap.size ≤ bb → Box x bb #[.int .i64 0, .slice m1 m2 m3, .slice m4 m5 m6, .slice m7 m8 m9, .slice m10 m11 m12, .slice m13 m14 m15] 34 → BrN x brS (m1, m2, m3) (m4, m5, m6) (m7, m8, m9) (m10, m11, m12) (m13, m14, m15) → Below W.heap.size W x → Q .normal ⟨(u0 :: .pointer (some ⟨b1, 0, none⟩) :: u2 :: .pointer (some ⟨bb, 0, none⟩) :: .bool true :: u5 :: u6 :: u7 :: u8 :: u9 :: u10 :: v11 :: v12 :: v13 :: v14 :: v15 :: v16 :: v17 :: v18 :: u19 :: u20 :: u21 :: u22 :: u23 :: u24 :: u25 :: u26 :: u27 :: u28 :: u29 :: u30 :: u31 :: u32 :: u33 :: u34 :: u35 :: u36 :: u37 :: u38 :: u39 :: u40 :: u41 :: u42 :: u43 :: u44 :: u45 :: u46 :: u47 :: u48 :: u49 :: u50 :: u51 :: u52 :: u53 :: u54 :: u55 :: u56 :: u57 :: u58 :: u59 :: u60 :: u61 :: u62 :: u63 :: u64 :: u65 :: u66 :: u67 :: u68 :: u69 :: u70 :: u71 :: u72 :: u73 :: u74 :: u75 :: u76 :: u77 :: []).toArray, []⟩ x) :
    Code.wp Try.prog sr3C Q ⟨(u0 :: .pointer (some ⟨b1, 0, none⟩) :: u2 :: u3 :: u4 :: u5 :: u6 :: u7 :: u8 :: u9 :: u10 :: u11 :: u12 :: u13 :: u14 :: u15 :: u16 :: u17 :: u18 :: u19 :: u20 :: u21 :: u22 :: u23 :: u24 :: u25 :: u26 :: u27 :: u28 :: u29 :: u30 :: u31 :: u32 :: u33 :: u34 :: u35 :: u36 :: u37 :: u38 :: u39 :: u40 :: u41 :: u42 :: u43 :: u44 :: u45 :: u46 :: u47 :: u48 :: u49 :: u50 :: u51 :: u52 :: u53 :: u54 :: u55 :: u56 :: u57 :: u58 :: u59 :: u60 :: u61 :: u62 :: u63 :: u64 :: u65 :: u66 :: u67 :: u68 :: u69 :: u70 :: u71 :: u72 :: u73 :: u74 :: u75 :: u76 :: u77 :: []).toArray, []⟩ W := by
  have HQ := Lib.hid hQ
  have H1 := Lib.hid h1
  clear hQ h1
  unfold sr3C
  conv => arg 2; whnf
  have nb1 : ∀ i, i < 11 → [12, 13, 14, 15, 16, 11, 17, 18, 3, 3, 4].getD i 0 ≠ 1 := by decide
  refine Rg.region_mk 11 8 9 6 (fun i => [12, 13, 14, 15, 16, 11, 17, 18, 3, 3, 4].getD i 0) (fun i => if i = 0 then 1 else if i = 1 then 4 else if i = 4 then 5 else 11) (sr3V W.heap.size b1) 34 #[.int .i64 0, .slice none 0 0, .slice none 0 0, .slice none 0 0, .slice none 0 0, .slice none 0 0] (fun v => match v with | .agg c => c | _ => #[]) (by kernel_rfl) (by kernel_rfl) rfl (by decide) (by decide) (by decide) (by decide) (by decide) (by decide) (by decide) (fun i j hi hj h1 h2 h => (by decide : ∀ i, i < 11 → ∀ j, j < 11 → i ≠ 9 → j ≠ 9 → [12, 13, 14, 15, 16, 11, 17, 18, 3, 3, 4].getD i 0 = [12, 13, 14, 15, 16, 11, 17, 18, 3, 3, 4].getD j 0 → i = j) i hi j hj h1 h2 h) (fun i hi => (by decide : ∀ i, i < 11 → [12, 13, 14, 15, 16, 11, 17, 18, 3, 3, 4].getD i 0 < 78) i hi) ?_ ?_ ?_ ?_ ?_ ?_
  · intro i v x x' hi h hb
    rcases (by omega : i = 0 ∨ i = 1 ∨ i = 2 ∨ i = 3 ∨ i = 4 ∨ i = 5 ∨ i = 6 ∨ i = 7 ∨ i = 8 ∨ i = 9 ∨ i = 10) with rfl | rfl | rfl | rfl | rfl | rfl | rfl | rfl | rfl | rfl | rfl
    · obtain ⟨s, h1, h2⟩ := h; exact ⟨s, h1, h2.on hb⟩
    · obtain ⟨s, h1, h2⟩ := h; exact ⟨s, h1, h2.on hb⟩
    · exact h
    · exact h
    · obtain ⟨a1, a2, a3, a4, a5, h1, h2⟩ := h; exact ⟨a1, a2, a3, a4, a5, h1, h2.on hb⟩
    · obtain ⟨a1, a2, a3, a4, a5, h1, h2⟩ := h; exact ⟨a1, a2, a3, a4, a5, h1, h2.on hb⟩
    · obtain ⟨a1, a2, a3, a4, a5, h1, h2⟩ := h; exact ⟨a1, a2, a3, a4, a5, h1, h2.on hb⟩
    · exact h
    · exact h
    · exact h
    · exact h
  · intro o ho
    obtain rfl := Option.some.inj ho
    exact ⟨⟨⟨8, .data⟩, by simp, rfl, rfl⟩, ⟨⟨6, .data⟩, by simp, rfl, rfl⟩⟩
  · intro i o hi hiA hiS ho a x hb seen K hK
    clear HQ
    rcases (by omega : i = 0 ∨ i = 1 ∨ i = 2 ∨ i = 3 ∨ i = 4 ∨ i = 5 ∨ i = 6 ∨ i = 7 ∨ i = 10) with rfl | rfl | rfl | rfl | rfl | rfl | rfl | rfl | rfl
    · obtain rfl := Option.some.inj ho
      have hl := row_lit Nm.okI x [1, 2] 2 rfl (by simp) #[.int .i64 1, .int .i64 2] (by rfl)
      exact Rg.op_value rfl rfl (Rg.ex_build a.eval _ 28 2 #[(0, .const (.int .i64 1)), (1, .const (.int .i64 2))] rfl (ps := #[(0, .int .i64 1), (1, .int .i64 2)]) (by simp only [List.map_toArray, List.map_cons, List.map_nil]; rfl) (by simp [go_sem])) (hK (.slice (some ⟨x.heap.size, 0, none⟩) 2 2) (x.alloc (.cells #[.int .i64 1, .int .i64 2] 3)) ⟨(some ⟨x.heap.size, 0, none⟩, 2, 2), rfl, Row.of_own hl⟩ ((Below.refl _ _).alloc (Nat.le_refl _) _))
    · obtain rfl := Option.some.inj ho
      have E12 := seen.at_ ⟨0, .data⟩ (by simp) rfl (by decide) (by decide) (Or.inl rfl)
      obtain ⟨sl, q0, q1⟩ := E12
      have q0 : a.eval (.tmp 12) = slv sl := q0
      have q1 : RowI x (slv sl) [1, 2] := by rw [← q0]; exact q1
      exact Rg.op_call rfl rfl (Rw.ex_call2 a.eval _ (.const (.int .i64 0)) (.tmp 12) 3 28 8 rfl rfl q0 rfl _ (call_fn Try.func8 rfl rfl _ _)) (anew_any 0 sl [1, 2] x q1 (by decide)) fun e w1 h => by
        obtain ⟨⟨l', nv, rfl, h1, h2, h3, h4⟩, h5⟩ := h
        have e1 : l' = [1, 2] := rise_uniq h3 (by decide) (fun y => (h4 y).trans (by simp))
        subst e1
        exact ⟨_, rfl, hK _ _ ⟨nv, rfl, h1, h2⟩ h5⟩
    · obtain rfl := Option.some.inj ho
      have e1 : a.eval (.tmp 1) = .pointer (some ⟨b1, 0, none⟩) := seen.kp 1 _ nb1 rfl
      have y0 := (H1.out.on hb).cell 0
      have y1 := (H1.out.on hb).cell 1
      simp only [List.getElem?_toArray, List.getElem?_cons_zero, List.getElem?_cons_succ] at y0 y1
      exact Rg.op_value rfl rfl (Rg.ex_load a.eval _ 23 (.tmp 1) rfl (by rw [e1]; simp [go_sem, y0, y1])) (hK _ x rfl (Below.refl _ _))
    · obtain rfl := Option.some.inj ho
      have e14 : a.eval (.tmp 14) = .agg #[.int .i64 1, .int .i64 0] := seen.at_ ⟨2, .data⟩ (by simp) rfl (by decide) (by decide) (Or.inr (by decide))
      exact Rg.op_value rfl rfl (Rg.ex_buildS a.eval _ 39 #[(0, .tmp 14), (2, .const (.int .i64 1))] rfl (by simp only [List.map_toArray, List.map_cons, List.map_nil, e14]; rfl) (by simp [go_sem])) (hK _ x rfl (Below.refl _ _))
    · obtain rfl := Option.some.inj ho
      have E13 := seen.at_ ⟨1, .data⟩ (by simp) rfl (by decide) (by decide) (Or.inl rfl)
      have e15 : a.eval (.tmp 15) = .agg #[.int .i64 1, .int .i64 0, .slice none 0 0, .int .i64 1] := seen.at_ ⟨3, .data⟩ (by simp) rfl (by decide) (by decide) (Or.inr (by decide))
      obtain ⟨nv, q0, q1⟩ := E13
      have hx : AdIn x (1, 0, (none, 0, 0), 1) ⟨(1, 0), [], 1⟩ := ⟨rfl, rfl, row_nil _⟩
      exact Rg.op_call rfl rfl (Rw.ex_call2 a.eval _ (.tmp 13) (.tmp 15) 34 39 7 rfl q0 e15 rfl _ (call_fn Try.func7 rfl rfl _ _)) (learn_any (newB0 0 [1, 2]) ⟨(1, 0), [], 1⟩ nv (none, 0, 0) (none, 0, 0) (none, 0, 0) (none, 0, 0) (1, 0, (none, 0, 0), 1) x q1.br hx brS_few0 brS_fewp0 (by simp) List.Pairwise.nil List.Pairwise.nil) fun e w1 h => by
        rw [brS_learn] at h
        obtain ⟨⟨a1, a2, a3, a4, a5, rfl, h2, h3⟩, h5⟩ := h
        exact ⟨_, rfl, hK _ _ ⟨a1, a2, a3, a4, a5, rfl, h2, h3 q1.no⟩ h5⟩
    · obtain rfl := Option.some.inj ho
      have E16 := seen.at_ ⟨4, .data⟩ (by simp) rfl (by decide) (by decide) (Or.inl rfl)
      exact Rg.op_value rfl rfl (Rg.ex_move a.eval _ (.tmp 16) rfl x) (hK _ x E16 (Below.refl _ _))
    · obtain rfl := Option.some.inj ho
      have E11 := seen.at_ ⟨5, .data⟩ (by simp) rfl (by decide) (by decide) (Or.inr (by decide))
      obtain ⟨a1, a2, a3, a4, a5, h1, h2⟩ := E11
      exact Rg.op_value rfl rfl (ex_extract a.eval _ (.tmp 11) 0 rfl (c := #[brv 0 a1 a2 a3 a4 a5, .bool true]) h1 rfl x) (hK _ x ⟨a1, a2, a3, a4, a5, rfl, h2⟩ (Below.refl _ _))
    · obtain rfl := Option.some.inj ho
      have E11 := seen.at_ ⟨5, .data⟩ (by simp) rfl (by decide) (by decide) (Or.inr (by decide))
      obtain ⟨a1, a2, a3, a4, a5, h1, h2⟩ := E11
      exact Rg.op_value rfl rfl (ex_extract a.eval _ (.tmp 11) 1 rfl (c := #[brv 0 a1 a2 a3 a4 a5, .bool true]) h1 rfl x) (hK _ x rfl (Below.refl _ _))
    · obtain rfl := Option.some.inj ho
      have e18 : a.eval (.tmp 18) = .bool true := seen.at_ ⟨7, .data⟩ (by simp) rfl (by decide) (by decide) (Or.inr (by decide))
      exact Rg.op_value rfl rfl (Rg.ex_assign a.eval _ (.tmp 18) rfl x) (hK _ x e18 (Below.refl _ _))
  · intro o ho a x K hK
    obtain rfl := Option.some.inj ho
    exact Rg.op_value rfl rfl (Rg.ex_alloc a.eval _ 34 rfl (by simp [go_sem])) hK
  · intro o ho a x bb v D hc hD hb hA hC hvC hbb hbox K hK
    clear HQ
    obtain rfl := Option.some.inj ho
    obtain ⟨⟨m1, m2, m3⟩, ⟨m4, m5, m6⟩, ⟨m7, m8, m9⟩, ⟨m10, m11, m12⟩, ⟨m13, m14, m15⟩, hv1, hv2⟩ := hvC
    subst hv1
    have hbut := but_setB x bb (.int .i64 0) (.slice m1 m2 m3) (.slice m4 m5 m6) (.slice m7 m8 m9) (.slice m10 m11 m12) (.slice m13 m14 m15)
    refine Rg.op_store 34 (.tmp 3) (.tmp 17) rfl rfl rfl rfl hA hC (w' := setB x bb (.int .i64 0) (.slice m1 m2 m3) (.slice m4 m5 m6) (.slice m7 m8 m9) (.slice m10 m11 m12) (.slice m13 m14 m15)) (storeBr hbox _ _ _ _ _ _ _ _ _ _ _ _ _ _ _ _) (hK _ (setB_below hb hbb _ _ _ _ _ _) (setB_box hbox _ _ _ _ _ _) ?_)
    exact fun j u hj hjA hjS hdj hnl hls h => by
      rcases (by omega : j = 0 ∨ j = 1 ∨ j = 2 ∨ j = 3 ∨ j = 4 ∨ j = 5 ∨ j = 6 ∨ j = 7 ∨ j = 10) with rfl | rfl | rfl | rfl | rfl | rfl | rfl | rfl | rfl
      · exact absurd (hD ⟨1, .phase⟩ (by simp) rfl) hnl
      · exact absurd (hD ⟨4, .chain⟩ (by simp) rfl) hnl
      · have h2 : u = .agg #[.int .i64 1, .int .i64 0] := h; exact h2
      · have h2 : u = .agg #[.int .i64 1, .int .i64 0, .slice none 0 0, .int .i64 1] := h; exact h2
      · exact absurd (hD ⟨5, .phase⟩ (by simp) rfl) hnl
      · obtain ⟨a1, a2, a3, a4, a5, h1, h2⟩ := h; exact ⟨a1, a2, a3, a4, a5, h1, h2.keep (s1 := (none, 0, 0)) (s2 := (none, 0, 0)) (s3 := (none, 0, 0)) (s4 := (none, 0, 0)) (s5 := (none, 0, 0)) (me := 0) hbox hbut⟩
      · obtain ⟨a1, a2, a3, a4, a5, h1, h2⟩ := h; exact ⟨a1, a2, a3, a4, a5, h1, h2.keep (s1 := (none, 0, 0)) (s2 := (none, 0, 0)) (s3 := (none, 0, 0)) (s4 := (none, 0, 0)) (s5 := (none, 0, 0)) (me := 0) hbox hbut⟩
      · have h2 : u = .bool true := h; exact h2
      · have h2 : u = .bool true := h; exact h2
  · intro a x bb v df sz kp gA gC hbb hbox hvC hbel ⟨vs, hv⟩
    obtain ⟨⟨m1, m2, m3⟩, ⟨m4, m5, m6⟩, ⟨m7, m8, m9⟩, ⟨m10, m11, m12⟩, ⟨m13, m14, m15⟩, hv1, hv2⟩ := hvC
    subst hv1
    have g3 : a.tmps[3]? = some (.pointer (some ⟨bb, 0, none⟩)) := gA
    have g4 : a.tmps[4]? = some (.bool true) := by
      have h : vs 10 = .bool true := (hv 10 (by decide) (by decide) (by decide)).2 (by decide)
      rw [← h]
      exact (hv 10 (by decide) (by decide) (by decide)).1
    have kp2 : ∀ j, (j < 3 ∨ 19 ≤ j) → a.tmps[j]? = (u0 :: .pointer (some ⟨b1, 0, none⟩) :: u2 :: u3 :: u4 :: u5 :: u6 :: u7 :: u8 :: u9 :: u10 :: u11 :: u12 :: u13 :: u14 :: u15 :: u16 :: u17 :: u18 :: u19 :: u20 :: u21 :: u22 :: u23 :: u24 :: u25 :: u26 :: u27 :: u28 :: u29 :: u30 :: u31 :: u32 :: u33 :: u34 :: u35 :: u36 :: u37 :: u38 :: u39 :: u40 :: u41 :: u42 :: u43 :: u44 :: u45 :: u46 :: u47 :: u48 :: u49 :: u50 :: u51 :: u52 :: u53 :: u54 :: u55 :: u56 :: u57 :: u58 :: u59 :: u60 :: u61 :: u62 :: u63 :: u64 :: u65 :: u66 :: u67 :: u68 :: u69 :: u70 :: u71 :: u72 :: u73 :: u74 :: u75 :: u76 :: u77 :: [])[j]? := fun j hj => (kp j (fun i hi h => by have := (by decide : ∀ i, i < 11 → 3 ≤ [12, 13, 14, 15, 16, 11, 17, 18, 3, 3, 4].getD i 0 ∧ [12, 13, 14, 15, 16, 11, 17, 18, 3, 3, 4].getD i 0 < 19) i hi; omega)).trans List.getElem?_toArray
    obtain ⟨mid, hmid, rfl⟩ := Rg.frame_mid (bl := (u0 :: .pointer (some ⟨b1, 0, none⟩) :: u2 :: u3 :: u4 :: u5 :: u6 :: u7 :: u8 :: u9 :: u10 :: u11 :: u12 :: u13 :: u14 :: u15 :: u16 :: u17 :: u18 :: u19 :: u20 :: u21 :: u22 :: u23 :: u24 :: u25 :: u26 :: u27 :: u28 :: u29 :: u30 :: u31 :: u32 :: u33 :: u34 :: u35 :: u36 :: u37 :: u38 :: u39 :: u40 :: u41 :: u42 :: u43 :: u44 :: u45 :: u46 :: u47 :: u48 :: u49 :: u50 :: u51 :: u52 :: u53 :: u54 :: u55 :: u56 :: u57 :: u58 :: u59 :: u60 :: u61 :: u62 :: u63 :: u64 :: u65 :: u66 :: u67 :: u68 :: u69 :: u70 :: u71 :: u72 :: u73 :: u74 :: u75 :: u76 :: u77 :: [])) 3 16 df sz (by simp) kp2
    match mid, hmid with
    | [v3, v4, v5, v6, v7, v8, v9, v10, v11, v12, v13, v14, v15, v16, v17, v18], _ =>
      obtain rfl : v3 = .pointer (some ⟨bb, 0, none⟩) := Option.some.inj g3
      obtain rfl : v4 = .bool true := Option.some.inj g4
      obtain rfl : v5 = u5 := Option.some.inj (kp 5 (fun i hi h => (by decide : ∀ i, i < 11 → [12, 13, 14, 15, 16, 11, 17, 18, 3, 3, 4].getD i 0 ≠ 5) i hi h))
      obtain rfl : v6 = u6 := Option.some.inj (kp 6 (fun i hi h => (by decide : ∀ i, i < 11 → [12, 13, 14, 15, 16, 11, 17, 18, 3, 3, 4].getD i 0 ≠ 6) i hi h))
      obtain rfl : v7 = u7 := Option.some.inj (kp 7 (fun i hi h => (by decide : ∀ i, i < 11 → [12, 13, 14, 15, 16, 11, 17, 18, 3, 3, 4].getD i 0 ≠ 7) i hi h))
      obtain rfl : v8 = u8 := Option.some.inj (kp 8 (fun i hi h => (by decide : ∀ i, i < 11 → [12, 13, 14, 15, 16, 11, 17, 18, 3, 3, 4].getD i 0 ≠ 8) i hi h))
      obtain rfl : v9 = u9 := Option.some.inj (kp 9 (fun i hi h => (by decide : ∀ i, i < 11 → [12, 13, 14, 15, 16, 11, 17, 18, 3, 3, 4].getD i 0 ≠ 9) i hi h))
      obtain rfl : v10 = u10 := Option.some.inj (kp 10 (fun i hi h => (by decide : ∀ i, i < 11 → [12, 13, 14, 15, 16, 11, 17, 18, 3, 3, 4].getD i 0 ≠ 10) i hi h))
      exact HQ.out x bb _ _ _ _ _ _ _ _ m1 m2 m3 m4 m5 m6 m7 m8 m9 m10 m11 m12 m13 m14 m15 hbb hbox hv2 hbel
def sr4V (_B : Nat) (_bb _b1 : Nat) (b : Br) (s1 : Option Addr) (s2 s3 : Nat) (s4 : Option Addr) (s5 s6 : Nat) (s7 : Option Addr) (s8 s9 : Nat) (s10 : Option Addr) (s11 s12 : Nat) (s13 : Option Addr) (s14 s15 : Nat) (i : Nat) (v : Value) (x : World) : Prop :=
  match i with
  | 0 => v = brv b.me (s1, s2, s3) (s4, s5, s6) (s7, s8, s9) (s10, s11, s12) (s13, s14, s15)
  | 1 => v = .agg #[.int .i64 1, .int .i64 0]
  | 2 => v = .agg #[.int .i64 2, .int .i64 0]
  | 3 => v = .func (.func 6) #[] #[]
  | 4 => ∃ sl : Sl, v = slv sl ∧ RowC x v (rgP 1 9)
  | 5 => ∃ z : XEn, v = valN z ∧ EnIn x z (⟨(1, 0), (2, 0), rgP 1 9, 2, false⟩ : En)
  | 6 => ∃ nv av sv ev ov : Sl, v = .tuple #[brv (addB b (⟨(1, 0), (2, 0), rgP 1 9, 2, false⟩ : En)).1.me nv av sv ev ov, .bool (addB b (⟨(1, 0), (2, 0), rgP 1 9, 2, false⟩ : En)).2] ∧ BrN x (addB b (⟨(1, 0), (2, 0), rgP 1 9, 2, false⟩ : En)).1 nv av sv ev ov
  | 7 => ∃ nv av sv ev ov : Sl, v = .tuple #[brv (addB b (⟨(1, 0), (2, 0), rgP 1 9, 2, false⟩ : En)).1.me nv av sv ev ov, .bool (addB b (⟨(1, 0), (2, 0), rgP 1 9, 2, false⟩ : En)).2] ∧ BrN x (addB b (⟨(1, 0), (2, 0), rgP 1 9, 2, false⟩ : En)).1 nv av sv ev ov
  | 8 => ∃ nv av sv ev ov : Sl, v = brv (addB b (⟨(1, 0), (2, 0), rgP 1 9, 2, false⟩ : En)).1.me nv av sv ev ov ∧ BrN x (addB b (⟨(1, 0), (2, 0), rgP 1 9, 2, false⟩ : En)).1 nv av sv ev ov
  | 9 => v = .bool (addB b (⟨(1, 0), (2, 0), rgP 1 9, 2, false⟩ : En)).2
  | 10 => True
  | 11 => v = .bool (addB b (⟨(1, 0), (2, 0), rgP 1 9, 2, false⟩ : En)).2
  | _ => True
noncomputable def sr4C : Code := ((Try.f3.body.bind (findRegion 4)).getD .skip)
set_option maxRecDepth 100000 in
set_option maxHeartbeats 8000000 in
theorem sr4 (Q : Exit → Act → World → Prop) (W : World) (bb b1 : Nat) (b : Br) (s1 : Option Addr) (s2 s3 : Nat) (s4 : Option Addr) (s5 s6 : Nat) (s7 : Option Addr) (s8 s9 : Nat) (s10 : Option Addr) (s11 s12 : Nat) (s13 : Option Addr) (s14 s15 : Nat) (u0 u4 u5 u6 u7 u8 u9 u10 u11 u12 u13 u14 u15 u16 u17 u18 u19 u20 u21 u22 u23 u24 u25 u26 u27 u28 u29 u30 u31 u32 u33 u34 u35 u36 u37 u38 u39 u40 u41 u42 u43 u44 u45 u46 u47 u48 u49 u50 u51 u52 u53 u54 u55 u56 u57 u58 u59 u60 u61 u62 u63 u64 u65 u66 u67 u68 u69 u70 u71 u72 u73 u74 u75 u76 u77 : Value)
    (h1 : Box W b1 #[.int .i64 1, .int .i64 0] 23) (hbox : Box W bb #[.int .i64 b.me, .slice s1 s2 s3, .slice s4 s5 s6, .slice s7 s8 s9, .slice s10 s11 s12, .slice s13 s14 s15] 34) (bn : BrN W b (s1, s2, s3) (s4, s5, s6) (s7, s8, s9) (s10, s11, s12) (s13, s14, s15)) (fw : Few b) (fp : FewP b) (re : RiseE b.ent) (ok : ∀ e ∈ b.ent, PredOk e.p) (oe : PredOk (rgP 1 9))
    (hQ : ∀ (x : World) (v19 v20 v21 v22 v23 v24 v25 v26 v27 v28 : Value) (m1 : Option Addr) (m2 m3 : Nat) (m4 : Option Addr) (m5 m6 : Nat) (m7 : Option Addr) (m8 m9 : Nat) (m10 : Option Addr) (m11 m12 : Nat) (m13 : Option Addr) (m14 m15 : Nat), Box x bb #[.int .i64 (addB b (⟨(1, 0), (2, 0), rgP 1 9, 2, false⟩ : En)).1.me, .slice m1 m2 m3, .slice m4 m5 m6, .slice m7 m8 m9, .slice m10 m11 m12, .slice m13 m14 m15] 34 → BrN x (addB b (⟨(1, 0), (2, 0), rgP 1 9, 2, false⟩ : En)).1 (m1, m2, m3) (m4, m5, m6) (m7, m8, m9) (m10, m11, m12) (m13, m14, m15) → Rg.Sto bb W x → Q .normal ⟨(u0 :: .pointer (some ⟨b1, 0, none⟩) :: .func (.func 6) #[] #[] :: .pointer (some ⟨bb, 0, none⟩) :: u4 :: .bool (addB b (⟨(1, 0), (2, 0), rgP 1 9, 2, false⟩ : En)).2 :: u6 :: u7 :: u8 :: u9 :: u10 :: u11 :: u12 :: u13 :: u14 :: u15 :: u16 :: u17 :: u18 :: v19 :: v20 :: v21 :: v22 :: v23 :: v24 :: v25 :: v26 :: v27 :: v28 :: u29 :: u30 :: u31 :: u32 :: u33 :: u34 :: u35 :: u36 :: u37 :: u38 :: u39 :: u40 :: u41 :: u42 :: u43 :: u44 :: u45 :: u46 :: u47 :: u48 :: u49 :: u50 :: u51 :: u52 :: u53 :: u54 :: u55 :: u56 :: u57 :: u58 :: u59 :: u60 :: u61 :: u62 :: u63 :: u64 :: u65 :: u66 :: u67 :: u68 :: u69 :: u70 :: u71 :: u72 :: u73 :: u74 :: u75 :: u76 :: u77 :: []).toArray, []⟩ x) :
    Code.wp Try.prog sr4C Q ⟨(u0 :: .pointer (some ⟨b1, 0, none⟩) :: .func (.func 6) #[] #[] :: .pointer (some ⟨bb, 0, none⟩) :: u4 :: u5 :: u6 :: u7 :: u8 :: u9 :: u10 :: u11 :: u12 :: u13 :: u14 :: u15 :: u16 :: u17 :: u18 :: u19 :: u20 :: u21 :: u22 :: u23 :: u24 :: u25 :: u26 :: u27 :: u28 :: u29 :: u30 :: u31 :: u32 :: u33 :: u34 :: u35 :: u36 :: u37 :: u38 :: u39 :: u40 :: u41 :: u42 :: u43 :: u44 :: u45 :: u46 :: u47 :: u48 :: u49 :: u50 :: u51 :: u52 :: u53 :: u54 :: u55 :: u56 :: u57 :: u58 :: u59 :: u60 :: u61 :: u62 :: u63 :: u64 :: u65 :: u66 :: u67 :: u68 :: u69 :: u70 :: u71 :: u72 :: u73 :: u74 :: u75 :: u76 :: u77 :: []).toArray, []⟩ W := by
  have HQ := Lib.hid hQ
  have H1 := Lib.hid h1
  have HB := Lib.hid hbox
  have BN := Lib.hid bn
  have FW := Lib.hid fw
  have FP := Lib.hid fp
  have RE := Lib.hid re
  have OK := Lib.hid ok
  have OE := Lib.hid oe
  clear hQ h1 hbox bn fw fp re ok oe
  unfold sr4C
  conv => arg 2; whnf
  have nb1 : ∀ i, i < 12 → [20, 21, 22, 23, 24, 25, 26, 19, 27, 28, 27, 5].getD i 0 ≠ 1 := by decide
  have nb2 : ∀ i, i < 12 → [20, 21, 22, 23, 24, 25, 26, 19, 27, 28, 27, 5].getD i 0 ≠ 2 := by decide
  have nb3 : ∀ i, i < 12 → [20, 21, 22, 23, 24, 25, 26, 19, 27, 28, 27, 5].getD i 0 ≠ 3 := by decide
  refine Rg.region_st 12 10 8 (fun i => [20, 21, 22, 23, 24, 25, 26, 19, 27, 28, 27, 5].getD i 0) (fun i => if i = 4 then 5 else if i = 5 then 6 else 12) (sr4V W.heap.size bb b1 b s1 s2 s3 s4 s5 s6 s7 s8 s9 s10 s11 s12 s13 s14 s15) (fun i => i == 9 || i == 11) 34 bb #[.int .i64 b.me, .slice s1 s2 s3, .slice s4 s5 s6, .slice s7 s8 s9, .slice s10 s11 s12, .slice s13 s14 s15] (fun v => match v with | .agg c => c | _ => #[]) (by kernel_rfl) (by kernel_rfl) rfl (by decide) (by decide) (by decide) (by decide) HB.out (fun i j hi hj h1 h2 h => (by decide : ∀ i, i < 12 → ∀ j, j < 12 → i ≠ 10 → j ≠ 10 → [20, 21, 22, 23, 24, 25, 26, 19, 27, 28, 27, 5].getD i 0 = [20, 21, 22, 23, 24, 25, 26, 19, 27, 28, 27, 5].getD j 0 → i = j) i hi j hj h1 h2 h) (fun i hi _ => (by decide : ∀ i, i < 12 → [20, 21, 22, 23, 24, 25, 26, 19, 27, 28, 27, 5].getD i 0 < 78) i hi) ?_ ?_ (by decide) ?_ ?_ (fun j h1 h2 => (by decide : ∀ j, j < 12 → j ≠ 10 → 12 ≤ (fun i => if i = 4 then 5 else if i = 5 then 6 else 12) j ∨ ((fun i => if i = 4 then 5 else if i = 5 then 6 else 12) j < 12 ∧ (fun i => if i = 4 then 5 else if i = 5 then 6 else 12) j ≠ 10 ∧ (fun i => i == 9 || i == 11) ((fun i => if i = 4 then 5 else if i = 5 then 6 else 12) j) = false)) j h1 h2) ?_
  · intro i v x x' hi h hb
    rcases (by omega : i = 0 ∨ i = 1 ∨ i = 2 ∨ i = 3 ∨ i = 4 ∨ i = 5 ∨ i = 6 ∨ i = 7 ∨ i = 8 ∨ i = 9 ∨ i = 10 ∨ i = 11) with rfl | rfl | rfl | rfl | rfl | rfl | rfl | rfl | rfl | rfl | rfl | rfl
    · exact h
    · exact h
    · exact h
    · exact h
    · obtain ⟨s, h1, h2⟩ := h; exact ⟨s, h1, h2.on hb⟩
    · obtain ⟨z, h1, h2⟩ := h; exact ⟨z, h1, h2.on hb⟩
    · obtain ⟨a1, a2, a3, a4, a5, h1, h2⟩ := h; exact ⟨a1, a2, a3, a4, a5, h1, h2.on hb⟩
    · obtain ⟨a1, a2, a3, a4, a5, h1, h2⟩ := h; exact ⟨a1, a2, a3, a4, a5, h1, h2.on hb⟩
    · obtain ⟨a1, a2, a3, a4, a5, h1, h2⟩ := h; exact ⟨a1, a2, a3, a4, a5, h1, h2.on hb⟩
    · exact h
    · exact h
    · exact h
  · intro o ho i hi hiS hfi
    obtain rfl := Option.some.inj ho
    have h9 : i ≠ 9 := fun e => by rw [e] at hfi; simp at hfi
    have h11 : i ≠ 11 := fun e => by rw [e] at hfi; simp at hfi
    rcases (by omega : i = 0 ∨ i = 1 ∨ i = 2 ∨ i = 3 ∨ i = 4 ∨ i = 5 ∨ i = 6 ∨ i = 7 ∨ i = 8) with rfl | rfl | rfl | rfl | rfl | rfl | rfl | rfl | rfl
    · exact ⟨⟨0, .phase⟩, by simp, rfl, rfl⟩
    · exact ⟨⟨1, .phase⟩, by simp, rfl, rfl⟩
    · exact ⟨⟨2, .phase⟩, by simp, rfl, rfl⟩
    · exact ⟨⟨3, .phase⟩, by simp, rfl, rfl⟩
    · exact ⟨⟨4, .phase⟩, by simp, rfl, rfl⟩
    · exact ⟨⟨5, .phase⟩, by simp, rfl, rfl⟩
    · exact ⟨⟨6, .chain⟩, by simp, rfl, rfl⟩
    · exact ⟨⟨7, .phase⟩, by simp, rfl, rfl⟩
    · exact ⟨⟨8, .data⟩, by simp, rfl, rfl⟩
  · intro i o hi hiS ho a x hpre seen K hK
    clear HQ
    rcases (by omega : i = 0 ∨ i = 1 ∨ i = 2 ∨ i = 3 ∨ i = 4 ∨ i = 5 ∨ i = 6 ∨ i = 7 ∨ i = 8 ∨ i = 9 ∨ i = 11) with rfl | rfl | rfl | rfl | rfl | rfl | rfl | rfl | rfl | rfl | rfl
    · obtain rfl := Option.some.inj ho
      obtain ⟨hb, hbx⟩ := hpre rfl
      have e3 : a.eval (.tmp 3) = .pointer (some ⟨bb, 0, none⟩) := seen.kp 3 _ nb3 rfl
      exact Rg.op_value rfl rfl (Rg.ex_load a.eval _ 34 (.tmp 3) rfl (by rw [e3]; exact loadBr hbx)) (hK _ x rfl (Below.refl _ _))
    · obtain rfl := Option.some.inj ho
      obtain ⟨hb, hbx⟩ := hpre rfl
      have e1 : a.eval (.tmp 1) = .pointer (some ⟨b1, 0, none⟩) := seen.kp 1 _ nb1 rfl
      have y0 := (H1.out.on hb).cell 0
      have y1 := (H1.out.on hb).cell 1
      simp only [List.getElem?_toArray, List.getElem?_cons_zero, List.getElem?_cons_succ] at y0 y1
      exact Rg.op_value rfl rfl (Rg.ex_load a.eval _ 23 (.tmp 1) rfl (by rw [e1]; simp [go_sem, y0, y1])) (hK _ x rfl (Below.refl _ _))
    · obtain rfl := Option.some.inj ho
      obtain ⟨hb, hbx⟩ := hpre rfl
      exact Rg.op_value rfl rfl (Rg.ex_buildS a.eval _ 23 #[(0, .const (.int .i64 2))] rfl (by simp only [List.map_toArray, List.map_cons, List.map_nil]; rfl) (by simp [go_sem])) (hK _ x rfl (Below.refl _ _))
    · obtain rfl := Option.some.inj ho
      obtain ⟨hb, hbx⟩ := hpre rfl
      have e2 : a.eval (.tmp 2) = .func (.func 6) #[] #[] := seen.kp 2 _ nb2 rfl
      exact Rg.op_value rfl rfl (Rg.ex_move a.eval _ (.tmp 2) rfl x) (hK _ x e2 (Below.refl _ _))
    · obtain rfl := Option.some.inj ho
      obtain ⟨hb, hbx⟩ := hpre rfl
      have e23 : a.eval (.tmp 23) = .func (.func 6) #[] #[] := seen.at_ ⟨3, .data⟩ (by simp) rfl (by decide) (Or.inr (by decide))
      exact Rg.op_call rfl rfl (ex_callv0 a.eval _ (.tmp 23) (.const (.int .i64 1)) (.const (.int .i64 9)) 3 3 6 rfl rfl rfl e23 _ (call_fn Try.func6 rfl rfl _ _)) (mkp_any 1 9 x) fun e w1 h => by
        obtain ⟨⟨sl, rfl, h2⟩, h5⟩ := h
        exact ⟨_, rfl, hK _ _ ⟨sl, rfl, h2⟩ h5⟩
    · obtain rfl := Option.some.inj ho
      obtain ⟨hb, hbx⟩ := hpre rfl
      have e21 : a.eval (.tmp 21) = .agg #[.int .i64 1, .int .i64 0] := seen.at_ ⟨1, .data⟩ (by simp) rfl (by decide) (Or.inr (by decide))
      have e22 : a.eval (.tmp 22) = .agg #[.int .i64 2, .int .i64 0] := seen.at_ ⟨2, .data⟩ (by simp) rfl (by decide) (Or.inr (by decide))
      have E24 := seen.at_ ⟨4, .data⟩ (by simp) rfl (by decide) (Or.inl rfl)
      obtain ⟨⟨l1, l2, l3⟩, q0, q1⟩ := E24
      have q0 : a.eval (.tmp 24) = .slice l1 l2 l3 := q0
      have q2 : RowC x (.slice l1 l2 l3) (rgP 1 9) := by rw [← q0]; exact q1
      exact Rg.op_value rfl rfl (Rg.ex_buildS a.eval _ 42 #[(0, .tmp 21), (1, .tmp 22), (2, .tmp 24), (3, .const (.int .i64 2))] rfl (by simp only [List.map_toArray, List.map_cons, List.map_nil, e21, e22, q0]; rfl) (v := .agg #[.int .i64 1, .int .i64 0, .int .i64 2, .int .i64 0, .slice l1 l2 l3, .int .i64 2, .bool false]) (by simp [go_sem])) (hK _ x ⟨(1, 0, 2, 0, (l1, l2, l3), 2, false), rfl, rfl, rfl, rfl, rfl, q2⟩ (Below.refl _ _))
    · obtain rfl := Option.some.inj ho
      obtain ⟨hb, hbx⟩ := hpre rfl
      have e20 : a.eval (.tmp 20) = brv b.me (s1, s2, s3) (s4, s5, s6) (s7, s8, s9) (s10, s11, s12) (s13, s14, s15) := seen.at_ ⟨0, .data⟩ (by simp) rfl (by decide) (Or.inr (by decide))
      have E25 := seen.at_ ⟨5, .data⟩ (by simp) rfl (by decide) (Or.inl rfl)
      obtain ⟨z, q0, q1⟩ := E25
      exact Rg.op_call rfl rfl (Rw.ex_call2 a.eval _ (.tmp 20) (.tmp 25) 34 42 9 rfl e20 q0 rfl _ (call_fn Try.func9 rfl rfl _ _)) (sadd_any b (⟨(1, 0), (2, 0), rgP 1 9, 2, false⟩ : En) (s1, s2, s3) (s4, s5, s6) (s7, s8, s9) (s10, s11, s12) (s13, s14, s15) z x (BN.out.on hb).br q1 FW.out FP.out RE.out OK.out OE.out) fun e w1 h => by
        obtain ⟨⟨a1, a2, a3, a4, a5, rfl, h2, h3⟩, h5⟩ := h
        exact ⟨_, rfl, hK _ _ ⟨a1, a2, a3, a4, a5, rfl, h2, h3 (BN.out.on hb).no⟩ h5⟩
    · obtain rfl := Option.some.inj ho
      obtain ⟨hb, hbx⟩ := hpre rfl
      have E26 := seen.at_ ⟨6, .data⟩ (by simp) rfl (by decide) (Or.inr (by decide))
      exact Rg.op_value rfl rfl (Rg.ex_move a.eval _ (.tmp 26) rfl x) (hK _ x E26 (Below.refl _ _))
    · obtain rfl := Option.some.inj ho
      obtain ⟨hb, hbx⟩ := hpre rfl
      have E19 := seen.at_ ⟨7, .data⟩ (by simp) rfl (by decide) (Or.inr (by decide))
      obtain ⟨a1, a2, a3, a4, a5, h1, h2⟩ := E19
      exact Rg.op_value rfl rfl (ex_extract a.eval _ (.tmp 19) 0 rfl (c := #[brv (addB b (⟨(1, 0), (2, 0), rgP 1 9, 2, false⟩ : En)).1.me a1 a2 a3 a4 a5, .bool (addB b (⟨(1, 0), (2, 0), rgP 1 9, 2, false⟩ : En)).2]) h1 rfl x) (hK _ x ⟨a1, a2, a3, a4, a5, rfl, h2⟩ (Below.refl _ _))
    · obtain rfl := Option.some.inj ho
      have E19 := seen.at_ ⟨7, .data⟩ (by simp) rfl (by decide) (Or.inr (by decide))
      obtain ⟨a1, a2, a3, a4, a5, h1, h2⟩ := E19
      exact Rg.op_value rfl rfl (ex_extract a.eval _ (.tmp 19) 1 rfl (c := #[brv (addB b (⟨(1, 0), (2, 0), rgP 1 9, 2, false⟩ : En)).1.me a1 a2 a3 a4 a5, .bool (addB b (⟨(1, 0), (2, 0), rgP 1 9, 2, false⟩ : En)).2]) h1 rfl x) (hK _ x rfl (Below.refl _ _))
    · obtain rfl := Option.some.inj ho
      have e28 : a.eval (.tmp 28) = .bool (addB b (⟨(1, 0), (2, 0), rgP 1 9, 2, false⟩ : En)).2 := seen.at_ ⟨9, .data⟩ (by simp) rfl (by decide) (Or.inr (by decide))
      exact Rg.op_value rfl rfl (Rg.ex_assign a.eval _ (.tmp 28) rfl x) (hK _ x e28 (Below.refl _ _))
  · intro o ho a x v hb hbx hC hvC hbase K hK
    clear HQ
    obtain rfl := Option.some.inj ho
    have eB : a.eval (.tmp 3) = .pointer (some ⟨bb, 0, none⟩) := hbase 3 _ rfl nb3
    obtain ⟨⟨m1, m2, m3⟩, ⟨m4, m5, m6⟩, ⟨m7, m8, m9⟩, ⟨m10, m11, m12⟩, ⟨m13, m14, m15⟩, hv1, hv2⟩ := hvC
    subst hv1
    have hbut := but_setB x bb (.int .i64 (addB b (⟨(1, 0), (2, 0), rgP 1 9, 2, false⟩ : En)).1.me) (.slice m1 m2 m3) (.slice m4 m5 m6) (.slice m7 m8 m9) (.slice m10 m11 m12) (.slice m13 m14 m15)
    refine Rg.op_store 34 (.tmp 3) (.tmp 27) rfl rfl rfl rfl eB hC (w' := setB x bb (.int .i64 (addB b (⟨(1, 0), (2, 0), rgP 1 9, 2, false⟩ : En)).1.me) (.slice m1 m2 m3) (.slice m4 m5 m6) (.slice m7 m8 m9) (.slice m10 m11 m12) (.slice m13 m14 m15)) (storeBr hbx _ _ _ _ _ _ _ _ _ _ _ _ _ _ _ _) (hK _ hbut (fun B w hB h => setB_below h hB _ _ _ _ _ _) (setB_box hbx _ _ _ _ _ _) ?_)
    exact fun j u hj hjS hl h => by
      rcases (by omega : j = 0 ∨ j = 1 ∨ j = 2 ∨ j = 3 ∨ j = 4 ∨ j = 5 ∨ j = 6 ∨ j = 7 ∨ j = 8 ∨ j = 9 ∨ j = 11) with rfl | rfl | rfl | rfl | rfl | rfl | rfl | rfl | rfl | rfl | rfl
      · have h2 : u = brv b.me (s1, s2, s3) (s4, s5, s6) (s7, s8, s9) (s10, s11, s12) (s13, s14, s15) := h; exact h2
      · have h2 : u = .agg #[.int .i64 1, .int .i64 0] := h; exact h2
      · have h2 : u = .agg #[.int .i64 2, .int .i64 0] := h; exact h2
      · have h2 : u = .func (.func 6) #[] #[] := h; exact h2
      · exact absurd hl (by decide)
      · exact absurd hl (by decide)
      · obtain ⟨a1, a2, a3, a4, a5, h1, h2⟩ := h; exact ⟨a1, a2, a3, a4, a5, h1, h2.keep (s1 := (s1, s2, s3)) (s2 := (s4, s5, s6)) (s3 := (s7, s8, s9)) (s4 := (s10, s11, s12)) (s5 := (s13, s14, s15)) hbx hbut⟩
      · obtain ⟨a1, a2, a3, a4, a5, h1, h2⟩ := h; exact ⟨a1, a2, a3, a4, a5, h1, h2.keep (s1 := (s1, s2, s3)) (s2 := (s4, s5, s6)) (s3 := (s7, s8, s9)) (s4 := (s10, s11, s12)) (s5 := (s13, s14, s15)) hbx hbut⟩
      · obtain ⟨a1, a2, a3, a4, a5, h1, h2⟩ := h; exact ⟨a1, a2, a3, a4, a5, h1, h2.keep (s1 := (s1, s2, s3)) (s2 := (s4, s5, s6)) (s3 := (s7, s8, s9)) (s4 := (s10, s11, s12)) (s5 := (s13, s14, s15)) hbx hbut⟩
      · have h2 : u = .bool (addB b (⟨(1, 0), (2, 0), rgP 1 9, 2, false⟩ : En)).2 := h; exact h2
      · have h2 : u = .bool (addB b (⟨(1, 0), (2, 0), rgP 1 9, 2, false⟩ : En)).2 := h; exact h2
  · intro a x v df sz kp gC hbx hvC hsto ⟨vs, hv⟩
    obtain ⟨⟨m1, m2, m3⟩, ⟨m4, m5, m6⟩, ⟨m7, m8, m9⟩, ⟨m10, m11, m12⟩, ⟨m13, m14, m15⟩, hv1, hv2⟩ := hvC
    subst hv1
    have g5 : a.tmps[5]? = some (.bool (addB b (⟨(1, 0), (2, 0), rgP 1 9, 2, false⟩ : En)).2) := by
      have h : vs 11 = .bool (addB b (⟨(1, 0), (2, 0), rgP 1 9, 2, false⟩ : En)).2 := (hv 11 (by decide) (by decide)).2 (by decide)
      rw [← h]
      exact (hv 11 (by decide) (by decide)).1
    obtain ⟨w5, hw5⟩ : ∃ v, a.tmps[5]? = some v := ⟨_, Array.getElem?_eq_getElem (by rw [sz]; simp)⟩
    have kp2 : ∀ j, (j < 19 ∨ 29 ≤ j) → a.tmps[j]? = (u0 :: .pointer (some ⟨b1, 0, none⟩) :: .func (.func 6) #[] #[] :: .pointer (some ⟨bb, 0, none⟩) :: u4 :: w5 :: u6 :: u7 :: u8 :: u9 :: u10 :: u11 :: u12 :: u13 :: u14 :: u15 :: u16 :: u17 :: u18 :: u19 :: u20 :: u21 :: u22 :: u23 :: u24 :: u25 :: u26 :: u27 :: u28 :: u29 :: u30 :: u31 :: u32 :: u33 :: u34 :: u35 :: u36 :: u37 :: u38 :: u39 :: u40 :: u41 :: u42 :: u43 :: u44 :: u45 :: u46 :: u47 :: u48 :: u49 :: u50 :: u51 :: u52 :: u53 :: u54 :: u55 :: u56 :: u57 :: u58 :: u59 :: u60 :: u61 :: u62 :: u63 :: u64 :: u65 :: u66 :: u67 :: u68 :: u69 :: u70 :: u71 :: u72 :: u73 :: u74 :: u75 :: u76 :: u77 :: [])[j]? := fun j hj => by
      by_cases hj5 : j = 5
      · subst hj5; exact hw5
      have hs : (u0 :: .pointer (some ⟨b1, 0, none⟩) :: .func (.func 6) #[] #[] :: .pointer (some ⟨bb, 0, none⟩) :: u4 :: w5 :: u6 :: u7 :: u8 :: u9 :: u10 :: u11 :: u12 :: u13 :: u14 :: u15 :: u16 :: u17 :: u18 :: u19 :: u20 :: u21 :: u22 :: u23 :: u24 :: u25 :: u26 :: u27 :: u28 :: u29 :: u30 :: u31 :: u32 :: u33 :: u34 :: u35 :: u36 :: u37 :: u38 :: u39 :: u40 :: u41 :: u42 :: u43 :: u44 :: u45 :: u46 :: u47 :: u48 :: u49 :: u50 :: u51 :: u52 :: u53 :: u54 :: u55 :: u56 :: u57 :: u58 :: u59 :: u60 :: u61 :: u62 :: u63 :: u64 :: u65 :: u66 :: u67 :: u68 :: u69 :: u70 :: u71 :: u72 :: u73 :: u74 :: u75 :: u76 :: u77 :: [] : List Value) = ((u0 :: .pointer (some ⟨b1, 0, none⟩) :: .func (.func 6) #[] #[] :: .pointer (some ⟨bb, 0, none⟩) :: u4 :: u5 :: u6 :: u7 :: u8 :: u9 :: u10 :: u11 :: u12 :: u13 :: u14 :: u15 :: u16 :: u17 :: u18 :: u19 :: u20 :: u21 :: u22 :: u23 :: u24 :: u25 :: u26 :: u27 :: u28 :: u29 :: u30 :: u31 :: u32 :: u33 :: u34 :: u35 :: u36 :: u37 :: u38 :: u39 :: u40 :: u41 :: u42 :: u43 :: u44 :: u45 :: u46 :: u47 :: u48 :: u49 :: u50 :: u51 :: u52 :: u53 :: u54 :: u55 :: u56 :: u57 :: u58 :: u59 :: u60 :: u61 :: u62 :: u63 :: u64 :: u65 :: u66 :: u67 :: u68 :: u69 :: u70 :: u71 :: u72 :: u73 :: u74 :: u75 :: u76 :: u77 :: [] : List Value)).set 5 w5 := rfl
      rw [hs, List.getElem?_set_ne (Ne.symm hj5)]
      exact (kp j (fun i hi h => by have := (by decide : ∀ i, i < 12 → [20, 21, 22, 23, 24, 25, 26, 19, 27, 28, 27, 5].getD i 0 = 5 ∨ (19 ≤ [20, 21, 22, 23, 24, 25, 26, 19, 27, 28, 27, 5].getD i 0 ∧ [20, 21, 22, 23, 24, 25, 26, 19, 27, 28, 27, 5].getD i 0 < 29)) i hi; omega)).trans List.getElem?_toArray
    obtain ⟨mid, hmid, rfl⟩ := Rg.frame_mid (bl := (u0 :: .pointer (some ⟨b1, 0, none⟩) :: .func (.func 6) #[] #[] :: .pointer (some ⟨bb, 0, none⟩) :: u4 :: w5 :: u6 :: u7 :: u8 :: u9 :: u10 :: u11 :: u12 :: u13 :: u14 :: u15 :: u16 :: u17 :: u18 :: u19 :: u20 :: u21 :: u22 :: u23 :: u24 :: u25 :: u26 :: u27 :: u28 :: u29 :: u30 :: u31 :: u32 :: u33 :: u34 :: u35 :: u36 :: u37 :: u38 :: u39 :: u40 :: u41 :: u42 :: u43 :: u44 :: u45 :: u46 :: u47 :: u48 :: u49 :: u50 :: u51 :: u52 :: u53 :: u54 :: u55 :: u56 :: u57 :: u58 :: u59 :: u60 :: u61 :: u62 :: u63 :: u64 :: u65 :: u66 :: u67 :: u68 :: u69 :: u70 :: u71 :: u72 :: u73 :: u74 :: u75 :: u76 :: u77 :: [])) 19 10 df (by rw [sz]; rfl) (by simp) kp2
    match mid, hmid with
    | [v19, v20, v21, v22, v23, v24, v25, v26, v27, v28], _ =>
      obtain rfl : w5 = .bool (addB b (⟨(1, 0), (2, 0), rgP 1 9, 2, false⟩ : En)).2 := Option.some.inj (hw5.symm.trans g5)
      exact HQ.out x _ _ _ _ _ _ _ _ _ _ m1 m2 m3 m4 m5 m6 m7 m8 m9 m10 m11 m12 m13 m14 m15 hbx hv2 hsto
def sr5V (_B : Nat) (_bb _b1 : Nat) (b : Br) (s1 : Option Addr) (s2 s3 : Nat) (s4 : Option Addr) (s5 s6 : Nat) (s7 : Option Addr) (s8 s9 : Nat) (s10 : Option Addr) (s11 s12 : Nat) (s13 : Option Addr) (s14 s15 : Nat) (i : Nat) (v : Value) (x : World) : Prop :=
  match i with
  | 0 => v = brv b.me (s1, s2, s3) (s4, s5, s6) (s7, s8, s9) (s10, s11, s12) (s13, s14, s15)
  | 1 => v = .agg #[.int .i64 1, .int .i64 0]
  | 2 => v = .agg #[.int .i64 3, .int .i64 0]
  | 3 => v = .func (.func 6) #[] #[]
  | 4 => ∃ sl : Sl, v = slv sl ∧ RowC x v (rgP 2 3)
  | 5 => ∃ z : XEn, v = valN z ∧ EnIn x z (⟨(1, 0), (3, 0), rgP 2 3, 2, false⟩ : En)
  | 6 => ∃ nv av sv ev ov : Sl, v = .tuple #[brv (addB b (⟨(1, 0), (3, 0), rgP 2 3, 2, false⟩ : En)).1.me nv av sv ev ov, .bool (addB b (⟨(1, 0), (3, 0), rgP 2 3, 2, false⟩ : En)).2] ∧ BrN x (addB b (⟨(1, 0), (3, 0), rgP 2 3, 2, false⟩ : En)).1 nv av sv ev ov
  | 7 => ∃ nv av sv ev ov : Sl, v = .tuple #[brv (addB b (⟨(1, 0), (3, 0), rgP 2 3, 2, false⟩ : En)).1.me nv av sv ev ov, .bool (addB b (⟨(1, 0), (3, 0), rgP 2 3, 2, false⟩ : En)).2] ∧ BrN x (addB b (⟨(1, 0), (3, 0), rgP 2 3, 2, false⟩ : En)).1 nv av sv ev ov
  | 8 => ∃ nv av sv ev ov : Sl, v = brv (addB b (⟨(1, 0), (3, 0), rgP 2 3, 2, false⟩ : En)).1.me nv av sv ev ov ∧ BrN x (addB b (⟨(1, 0), (3, 0), rgP 2 3, 2, false⟩ : En)).1 nv av sv ev ov
  | 9 => v = .bool (addB b (⟨(1, 0), (3, 0), rgP 2 3, 2, false⟩ : En)).2
  | 10 => True
  | 11 => v = .bool (addB b (⟨(1, 0), (3, 0), rgP 2 3, 2, false⟩ : En)).2
  | _ => True
noncomputable def sr5C : Code := ((Try.f3.body.bind (findRegion 5)).getD .skip)
set_option maxRecDepth 100000 in
set_option maxHeartbeats 8000000 in
theorem sr5 (Q : Exit → Act → World → Prop) (W : World) (bb b1 : Nat) (b : Br) (s1 : Option Addr) (s2 s3 : Nat) (s4 : Option Addr) (s5 s6 : Nat) (s7 : Option Addr) (s8 s9 : Nat) (s10 : Option Addr) (s11 s12 : Nat) (s13 : Option Addr) (s14 s15 : Nat) (u0 u4 u5 u6 u7 u8 u9 u10 u11 u12 u13 u14 u15 u16 u17 u18 u19 u20 u21 u22 u23 u24 u25 u26 u27 u28 u29 u30 u31 u32 u33 u34 u35 u36 u37 u38 u39 u40 u41 u42 u43 u44 u45 u46 u47 u48 u49 u50 u51 u52 u53 u54 u55 u56 u57 u58 u59 u60 u61 u62 u63 u64 u65 u66 u67 u68 u69 u70 u71 u72 u73 u74 u75 u76 u77 : Value)
    (h1 : Box W b1 #[.int .i64 1, .int .i64 0] 23) (hbox : Box W bb #[.int .i64 b.me, .slice s1 s2 s3, .slice s4 s5 s6, .slice s7 s8 s9, .slice s10 s11 s12, .slice s13 s14 s15] 34) (bn : BrN W b (s1, s2, s3) (s4, s5, s6) (s7, s8, s9) (s10, s11, s12) (s13, s14, s15)) (fw : Few b) (fp : FewP b) (re : RiseE b.ent) (ok : ∀ e ∈ b.ent, PredOk e.p) (oe : PredOk (rgP 2 3))
    (hQ : ∀ (x : World) (v29 v30 v31 v32 v33 v34 v35 v36 v37 v38 : Value) (m1 : Option Addr) (m2 m3 : Nat) (m4 : Option Addr) (m5 m6 : Nat) (m7 : Option Addr) (m8 m9 : Nat) (m10 : Option Addr) (m11 m12 : Nat) (m13 : Option Addr) (m14 m15 : Nat), Box x bb #[.int .i64 (addB b (⟨(1, 0), (3, 0), rgP 2 3, 2, false⟩ : En)).1.me, .slice m1 m2 m3, .slice m4 m5 m6, .slice m7 m8 m9, .slice m10 m11 m12, .slice m13 m14 m15] 34 → BrN x (addB b (⟨(1, 0), (3, 0), rgP 2 3, 2, false⟩ : En)).1 (m1, m2, m3) (m4, m5, m6) (m7, m8, m9) (m10, m11, m12) (m13, m14, m15) → Rg.Sto bb W x → Q .normal ⟨(u0 :: .pointer (some ⟨b1, 0, none⟩) :: .func (.func 6) #[] #[] :: .pointer (some ⟨bb, 0, none⟩) :: u4 :: u5 :: .bool (addB b (⟨(1, 0), (3, 0), rgP 2 3, 2, false⟩ : En)).2 :: u7 :: u8 :: u9 :: u10 :: u11 :: u12 :: u13 :: u14 :: u15 :: u16 :: u17 :: u18 :: u19 :: u20 :: u21 :: u22 :: u23 :: u24 :: u25 :: u26 :: u27 :: u28 :: v29 :: v30 :: v31 :: v32 :: v33 :: v34 :: v35 :: v36 :: v37 :: v38 :: u39 :: u40 :: u41 :: u42 :: u43 :: u44 :: u45 :: u46 :: u47 :: u48 :: u49 :: u50 :: u51 :: u52 :: u53 :: u54 :: u55 :: u56 :: u57 :: u58 :: u59 :: u60 :: u61 :: u62 :: u63 :: u64 :: u65 :: u66 :: u67 :: u68 :: u69 :: u70 :: u71 :: u72 :: u73 :: u74 :: u75 :: u76 :: u77 :: []).toArray, []⟩ x) :
    Code.wp Try.prog sr5C Q ⟨(u0 :: .pointer (some ⟨b1, 0, none⟩) :: .func (.func 6) #[] #[] :: .pointer (some ⟨bb, 0, none⟩) :: u4 :: u5 :: u6 :: u7 :: u8 :: u9 :: u10 :: u11 :: u12 :: u13 :: u14 :: u15 :: u16 :: u17 :: u18 :: u19 :: u20 :: u21 :: u22 :: u23 :: u24 :: u25 :: u26 :: u27 :: u28 :: u29 :: u30 :: u31 :: u32 :: u33 :: u34 :: u35 :: u36 :: u37 :: u38 :: u39 :: u40 :: u41 :: u42 :: u43 :: u44 :: u45 :: u46 :: u47 :: u48 :: u49 :: u50 :: u51 :: u52 :: u53 :: u54 :: u55 :: u56 :: u57 :: u58 :: u59 :: u60 :: u61 :: u62 :: u63 :: u64 :: u65 :: u66 :: u67 :: u68 :: u69 :: u70 :: u71 :: u72 :: u73 :: u74 :: u75 :: u76 :: u77 :: []).toArray, []⟩ W := by
  have HQ := Lib.hid hQ
  have H1 := Lib.hid h1
  have HB := Lib.hid hbox
  have BN := Lib.hid bn
  have FW := Lib.hid fw
  have FP := Lib.hid fp
  have RE := Lib.hid re
  have OK := Lib.hid ok
  have OE := Lib.hid oe
  clear hQ h1 hbox bn fw fp re ok oe
  unfold sr5C
  conv => arg 2; whnf
  have nb1 : ∀ i, i < 12 → [30, 31, 32, 33, 34, 35, 36, 29, 37, 38, 37, 6].getD i 0 ≠ 1 := by decide
  have nb2 : ∀ i, i < 12 → [30, 31, 32, 33, 34, 35, 36, 29, 37, 38, 37, 6].getD i 0 ≠ 2 := by decide
  have nb3 : ∀ i, i < 12 → [30, 31, 32, 33, 34, 35, 36, 29, 37, 38, 37, 6].getD i 0 ≠ 3 := by decide
  refine Rg.region_st 12 10 8 (fun i => [30, 31, 32, 33, 34, 35, 36, 29, 37, 38, 37, 6].getD i 0) (fun i => if i = 4 then 5 else if i = 5 then 6 else 12) (sr5V W.heap.size bb b1 b s1 s2 s3 s4 s5 s6 s7 s8 s9 s10 s11 s12 s13 s14 s15) (fun i => i == 9 || i == 11) 34 bb #[.int .i64 b.me, .slice s1 s2 s3, .slice s4 s5 s6, .slice s7 s8 s9, .slice s10 s11 s12, .slice s13 s14 s15] (fun v => match v with | .agg c => c | _ => #[]) (by kernel_rfl) (by kernel_rfl) rfl (by decide) (by decide) (by decide) (by decide) HB.out (fun i j hi hj h1 h2 h => (by decide : ∀ i, i < 12 → ∀ j, j < 12 → i ≠ 10 → j ≠ 10 → [30, 31, 32, 33, 34, 35, 36, 29, 37, 38, 37, 6].getD i 0 = [30, 31, 32, 33, 34, 35, 36, 29, 37, 38, 37, 6].getD j 0 → i = j) i hi j hj h1 h2 h) (fun i hi _ => (by decide : ∀ i, i < 12 → [30, 31, 32, 33, 34, 35, 36, 29, 37, 38, 37, 6].getD i 0 < 78) i hi) ?_ ?_ (by decide) ?_ ?_ (fun j h1 h2 => (by decide : ∀ j, j < 12 → j ≠ 10 → 12 ≤ (fun i => if i = 4 then 5 else if i = 5 then 6 else 12) j ∨ ((fun i => if i = 4 then 5 else if i = 5 then 6 else 12) j < 12 ∧ (fun i => if i = 4 then 5 else if i = 5 then 6 else 12) j ≠ 10 ∧ (fun i => i == 9 || i == 11) ((fun i => if i = 4 then 5 else if i = 5 then 6 else 12) j) = false)) j h1 h2) ?_
  · intro i v x x' hi h hb
    rcases (by omega : i = 0 ∨ i = 1 ∨ i = 2 ∨ i = 3 ∨ i = 4 ∨ i = 5 ∨ i = 6 ∨ i = 7 ∨ i = 8 ∨ i = 9 ∨ i = 10 ∨ i = 11) with rfl | rfl | rfl | rfl | rfl | rfl | rfl | rfl | rfl | rfl | rfl | rfl
    · exact h
    · exact h
    · exact h
    · exact h
    · obtain ⟨s, h1, h2⟩ := h; exact ⟨s, h1, h2.on hb⟩
    · obtain ⟨z, h1, h2⟩ := h; exact ⟨z, h1, h2.on hb⟩
    · obtain ⟨a1, a2, a3, a4, a5, h1, h2⟩ := h; exact ⟨a1, a2, a3, a4, a5, h1, h2.on hb⟩
    · obtain ⟨a1, a2, a3, a4, a5, h1, h2⟩ := h; exact ⟨a1, a2, a3, a4, a5, h1, h2.on hb⟩
    · obtain ⟨a1, a2, a3, a4, a5, h1, h2⟩ := h; exact ⟨a1, a2, a3, a4, a5, h1, h2.on hb⟩
    · exact h
    · exact h
    · exact h
  · intro o ho i hi hiS hfi
    obtain rfl := Option.some.inj ho
    have h9 : i ≠ 9 := fun e => by rw [e] at hfi; simp at hfi
    have h11 : i ≠ 11 := fun e => by rw [e] at hfi; simp at hfi
    rcases (by omega : i = 0 ∨ i = 1 ∨ i = 2 ∨ i = 3 ∨ i = 4 ∨ i = 5 ∨ i = 6 ∨ i = 7 ∨ i = 8) with rfl | rfl | rfl | rfl | rfl | rfl | rfl | rfl | rfl
    · exact ⟨⟨0, .phase⟩, by simp, rfl, rfl⟩
    · exact ⟨⟨1, .phase⟩, by simp, rfl, rfl⟩
    · exact ⟨⟨2, .phase⟩, by simp, rfl, rfl⟩
    · exact ⟨⟨3, .phase⟩, by simp, rfl, rfl⟩
    · exact ⟨⟨4, .phase⟩, by simp, rfl, rfl⟩
    · exact ⟨⟨5, .phase⟩, by simp, rfl, rfl⟩
    · exact ⟨⟨6, .chain⟩, by simp, rfl, rfl⟩
    · exact ⟨⟨7, .phase⟩, by simp, rfl, rfl⟩
    · exact ⟨⟨8, .data⟩, by simp, rfl, rfl⟩
  · intro i o hi hiS ho a x hpre seen K hK
    clear HQ
    rcases (by omega : i = 0 ∨ i = 1 ∨ i = 2 ∨ i = 3 ∨ i = 4 ∨ i = 5 ∨ i = 6 ∨ i = 7 ∨ i = 8 ∨ i = 9 ∨ i = 11) with rfl | rfl | rfl | rfl | rfl | rfl | rfl | rfl | rfl | rfl | rfl
    · obtain rfl := Option.some.inj ho
      obtain ⟨hb, hbx⟩ := hpre rfl
      have e3 : a.eval (.tmp 3) = .pointer (some ⟨bb, 0, none⟩) := seen.kp 3 _ nb3 rfl
      exact Rg.op_value rfl rfl (Rg.ex_load a.eval _ 34 (.tmp 3) rfl (by rw [e3]; exact loadBr hbx)) (hK _ x rfl (Below.refl _ _))
    · obtain rfl := Option.some.inj ho
      obtain ⟨hb, hbx⟩ := hpre rfl
      have e1 : a.eval (.tmp 1) = .pointer (some ⟨b1, 0, none⟩) := seen.kp 1 _ nb1 rfl
      have y0 := (H1.out.on hb).cell 0
      have y1 := (H1.out.on hb).cell 1
      simp only [List.getElem?_toArray, List.getElem?_cons_zero, List.getElem?_cons_succ] at y0 y1
      exact Rg.op_value rfl rfl (Rg.ex_load a.eval _ 23 (.tmp 1) rfl (by rw [e1]; simp [go_sem, y0, y1])) (hK _ x rfl (Below.refl _ _))
    · obtain rfl := Option.some.inj ho
      obtain ⟨hb, hbx⟩ := hpre rfl
      exact Rg.op_value rfl rfl (Rg.ex_buildS a.eval _ 23 #[(0, .const (.int .i64 3))] rfl (by simp only [List.map_toArray, List.map_cons, List.map_nil]; rfl) (by simp [go_sem])) (hK _ x rfl (Below.refl _ _))
    · obtain rfl := Option.some.inj ho
      obtain ⟨hb, hbx⟩ := hpre rfl
      have e2 : a.eval (.tmp 2) = .func (.func 6) #[] #[] := seen.kp 2 _ nb2 rfl
      exact Rg.op_value rfl rfl (Rg.ex_move a.eval _ (.tmp 2) rfl x) (hK _ x e2 (Below.refl _ _))
    · obtain rfl := Option.some.inj ho
      obtain ⟨hb, hbx⟩ := hpre rfl
      have e33 : a.eval (.tmp 33) = .func (.func 6) #[] #[] := seen.at_ ⟨3, .data⟩ (by simp) rfl (by decide) (Or.inr (by decide))
      exact Rg.op_call rfl rfl (ex_callv0 a.eval _ (.tmp 33) (.const (.int .i64 2)) (.const (.int .i64 3)) 3 3 6 rfl rfl rfl e33 _ (call_fn Try.func6 rfl rfl _ _)) (mkp_any 2 3 x) fun e w1 h => by
        obtain ⟨⟨sl, rfl, h2⟩, h5⟩ := h
        exact ⟨_, rfl, hK _ _ ⟨sl, rfl, h2⟩ h5⟩
    · obtain rfl := Option.some.inj ho
      obtain ⟨hb, hbx⟩ := hpre rfl
      have e31 : a.eval (.tmp 31) = .agg #[.int .i64 1, .int .i64 0] := seen.at_ ⟨1, .data⟩ (by simp) rfl (by decide) (Or.inr (by decide))
      have e32 : a.eval (.tmp 32) = .agg #[.int .i64 3, .int .i64 0] := seen.at_ ⟨2, .data⟩ (by simp) rfl (by decide) (Or.inr (by decide))
      have E34 := seen.at_ ⟨4, .data⟩ (by simp) rfl (by decide) (Or.inl rfl)
      obtain ⟨⟨l1, l2, l3⟩, q0, q1⟩ := E34
      have q0 : a.eval (.tmp 34) = .slice l1 l2 l3 := q0
      have q2 : RowC x (.slice l1 l2 l3) (rgP 2 3) := by rw [← q0]; exact q1
      exact Rg.op_value rfl rfl (Rg.ex_buildS a.eval _ 42 #[(0, .tmp 31), (1, .tmp 32), (2, .tmp 34), (3, .const (.int .i64 2))] rfl (by simp only [List.map_toArray, List.map_cons, List.map_nil, e31, e32, q0]; rfl) (v := .agg #[.int .i64 1, .int .i64 0, .int .i64 3, .int .i64 0, .slice l1 l2 l3, .int .i64 2, .bool false]) (by simp [go_sem])) (hK _ x ⟨(1, 0, 3, 0, (l1, l2, l3), 2, false), rfl, rfl, rfl, rfl, rfl, q2⟩ (Below.refl _ _))
    · obtain rfl := Option.some.inj ho
      obtain ⟨hb, hbx⟩ := hpre rfl
      have e30 : a.eval (.tmp 30) = brv b.me (s1, s2, s3) (s4, s5, s6) (s7, s8, s9) (s10, s11, s12) (s13, s14, s15) := seen.at_ ⟨0, .data⟩ (by simp) rfl (by decide) (Or.inr (by decide))
      have E35 := seen.at_ ⟨5, .data⟩ (by simp) rfl (by decide) (Or.inl rfl)
      obtain ⟨z, q0, q1⟩ := E35
      exact Rg.op_call rfl rfl (Rw.ex_call2 a.eval _ (.tmp 30) (.tmp 35) 34 42 9 rfl e30 q0 rfl _ (call_fn Try.func9 rfl rfl _ _)) (sadd_any b (⟨(1, 0), (3, 0), rgP 2 3, 2, false⟩ : En) (s1, s2, s3) (s4, s5, s6) (s7, s8, s9) (s10, s11, s12) (s13, s14, s15) z x (BN.out.on hb).br q1 FW.out FP.out RE.out OK.out OE.out) fun e w1 h => by
        obtain ⟨⟨a1, a2, a3, a4, a5, rfl, h2, h3⟩, h5⟩ := h
        exact ⟨_, rfl, hK _ _ ⟨a1, a2, a3, a4, a5, rfl, h2, h3 (BN.out.on hb).no⟩ h5⟩
    · obtain rfl := Option.some.inj ho
      obtain ⟨hb, hbx⟩ := hpre rfl
      have E36 := seen.at_ ⟨6, .data⟩ (by simp) rfl (by decide) (Or.inr (by decide))
      exact Rg.op_value rfl rfl (Rg.ex_move a.eval _ (.tmp 36) rfl x) (hK _ x E36 (Below.refl _ _))
    · obtain rfl := Option.some.inj ho
      obtain ⟨hb, hbx⟩ := hpre rfl
      have E29 := seen.at_ ⟨7, .data⟩ (by simp) rfl (by decide) (Or.inr (by decide))
      obtain ⟨a1, a2, a3, a4, a5, h1, h2⟩ := E29
      exact Rg.op_value rfl rfl (ex_extract a.eval _ (.tmp 29) 0 rfl (c := #[brv (addB b (⟨(1, 0), (3, 0), rgP 2 3, 2, false⟩ : En)).1.me a1 a2 a3 a4 a5, .bool (addB b (⟨(1, 0), (3, 0), rgP 2 3, 2, false⟩ : En)).2]) h1 rfl x) (hK _ x ⟨a1, a2, a3, a4, a5, rfl, h2⟩ (Below.refl _ _))
    · obtain rfl := Option.some.inj ho
      have E29 := seen.at_ ⟨7, .data⟩ (by simp) rfl (by decide) (Or.inr (by decide))
      obtain ⟨a1, a2, a3, a4, a5, h1, h2⟩ := E29
      exact Rg.op_value rfl rfl (ex_extract a.eval _ (.tmp 29) 1 rfl (c := #[brv (addB b (⟨(1, 0), (3, 0), rgP 2 3, 2, false⟩ : En)).1.me a1 a2 a3 a4 a5, .bool (addB b (⟨(1, 0), (3, 0), rgP 2 3, 2, false⟩ : En)).2]) h1 rfl x) (hK _ x rfl (Below.refl _ _))
    · obtain rfl := Option.some.inj ho
      have e38 : a.eval (.tmp 38) = .bool (addB b (⟨(1, 0), (3, 0), rgP 2 3, 2, false⟩ : En)).2 := seen.at_ ⟨9, .data⟩ (by simp) rfl (by decide) (Or.inr (by decide))
      exact Rg.op_value rfl rfl (Rg.ex_assign a.eval _ (.tmp 38) rfl x) (hK _ x e38 (Below.refl _ _))
  · intro o ho a x v hb hbx hC hvC hbase K hK
    clear HQ
    obtain rfl := Option.some.inj ho
    have eB : a.eval (.tmp 3) = .pointer (some ⟨bb, 0, none⟩) := hbase 3 _ rfl nb3
    obtain ⟨⟨m1, m2, m3⟩, ⟨m4, m5, m6⟩, ⟨m7, m8, m9⟩, ⟨m10, m11, m12⟩, ⟨m13, m14, m15⟩, hv1, hv2⟩ := hvC
    subst hv1
    have hbut := but_setB x bb (.int .i64 (addB b (⟨(1, 0), (3, 0), rgP 2 3, 2, false⟩ : En)).1.me) (.slice m1 m2 m3) (.slice m4 m5 m6) (.slice m7 m8 m9) (.slice m10 m11 m12) (.slice m13 m14 m15)
    refine Rg.op_store 34 (.tmp 3) (.tmp 37) rfl rfl rfl rfl eB hC (w' := setB x bb (.int .i64 (addB b (⟨(1, 0), (3, 0), rgP 2 3, 2, false⟩ : En)).1.me) (.slice m1 m2 m3) (.slice m4 m5 m6) (.slice m7 m8 m9) (.slice m10 m11 m12) (.slice m13 m14 m15)) (storeBr hbx _ _ _ _ _ _ _ _ _ _ _ _ _ _ _ _) (hK _ hbut (fun B w hB h => setB_below h hB _ _ _ _ _ _) (setB_box hbx _ _ _ _ _ _) ?_)
    exact fun j u hj hjS hl h => by
      rcases (by omega : j = 0 ∨ j = 1 ∨ j = 2 ∨ j = 3 ∨ j = 4 ∨ j = 5 ∨ j = 6 ∨ j = 7 ∨ j = 8 ∨ j = 9 ∨ j = 11) with rfl | rfl | rfl | rfl | rfl | rfl | rfl | rfl | rfl | rfl | rfl
      · have h2 : u = brv b.me (s1, s2, s3) (s4, s5, s6) (s7, s8, s9) (s10, s11, s12) (s13, s14, s15) := h; exact h2
      · have h2 : u = .agg #[.int .i64 1, .int .i64 0] := h; exact h2
      · have h2 : u = .agg #[.int .i64 3, .int .i64 0] := h; exact h2
      · have h2 : u = .func (.func 6) #[] #[] := h; exact h2
      · exact absurd hl (by decide)
      · exact absurd hl (by decide)
      · obtain ⟨a1, a2, a3, a4, a5, h1, h2⟩ := h; exact ⟨a1, a2, a3, a4, a5, h1, h2.keep (s1 := (s1, s2, s3)) (s2 := (s4, s5, s6)) (s3 := (s7, s8, s9)) (s4 := (s10, s11, s12)) (s5 := (s13, s14, s15)) hbx hbut⟩
      · obtain ⟨a1, a2, a3, a4, a5, h1, h2⟩ := h; exact ⟨a1, a2, a3, a4, a5, h1, h2.keep (s1 := (s1, s2, s3)) (s2 := (s4, s5, s6)) (s3 := (s7, s8, s9)) (s4 := (s10, s11, s12)) (s5 := (s13, s14, s15)) hbx hbut⟩
      · obtain ⟨a1, a2, a3, a4, a5, h1, h2⟩ := h; exact ⟨a1, a2, a3, a4, a5, h1, h2.keep (s1 := (s1, s2, s3)) (s2 := (s4, s5, s6)) (s3 := (s7, s8, s9)) (s4 := (s10, s11, s12)) (s5 := (s13, s14, s15)) hbx hbut⟩
      · have h2 : u = .bool (addB b (⟨(1, 0), (3, 0), rgP 2 3, 2, false⟩ : En)).2 := h; exact h2
      · have h2 : u = .bool (addB b (⟨(1, 0), (3, 0), rgP 2 3, 2, false⟩ : En)).2 := h; exact h2
  · intro a x v df sz kp gC hbx hvC hsto ⟨vs, hv⟩
    obtain ⟨⟨m1, m2, m3⟩, ⟨m4, m5, m6⟩, ⟨m7, m8, m9⟩, ⟨m10, m11, m12⟩, ⟨m13, m14, m15⟩, hv1, hv2⟩ := hvC
    subst hv1
    have g6 : a.tmps[6]? = some (.bool (addB b (⟨(1, 0), (3, 0), rgP 2 3, 2, false⟩ : En)).2) := by
      have h : vs 11 = .bool (addB b (⟨(1, 0), (3, 0), rgP 2 3, 2, false⟩ : En)).2 := (hv 11 (by decide) (by decide)).2 (by decide)
      rw [← h]
      exact (hv 11 (by decide) (by decide)).1
    obtain ⟨w6, hw6⟩ : ∃ v, a.tmps[6]? = some v := ⟨_, Array.getElem?_eq_getElem (by rw [sz]; simp)⟩
    have kp2 : ∀ j, (j < 29 ∨ 39 ≤ j) → a.tmps[j]? = (u0 :: .pointer (some ⟨b1, 0, none⟩) :: .func (.func 6) #[] #[] :: .pointer (some ⟨bb, 0, none⟩) :: u4 :: u5 :: w6 :: u7 :: u8 :: u9 :: u10 :: u11 :: u12 :: u13 :: u14 :: u15 :: u16 :: u17 :: u18 :: u19 :: u20 :: u21 :: u22 :: u23 :: u24 :: u25 :: u26 :: u27 :: u28 :: u29 :: u30 :: u31 :: u32 :: u33 :: u34 :: u35 :: u36 :: u37 :: u38 :: u39 :: u40 :: u41 :: u42 :: u43 :: u44 :: u45 :: u46 :: u47 :: u48 :: u49 :: u50 :: u51 :: u52 :: u53 :: u54 :: u55 :: u56 :: u57 :: u58 :: u59 :: u60 :: u61 :: u62 :: u63 :: u64 :: u65 :: u66 :: u67 :: u68 :: u69 :: u70 :: u71 :: u72 :: u73 :: u74 :: u75 :: u76 :: u77 :: [])[j]? := fun j hj => by
      by_cases hj6 : j = 6
      · subst hj6; exact hw6
      have hs : (u0 :: .pointer (some ⟨b1, 0, none⟩) :: .func (.func 6) #[] #[] :: .pointer (some ⟨bb, 0, none⟩) :: u4 :: u5 :: w6 :: u7 :: u8 :: u9 :: u10 :: u11 :: u12 :: u13 :: u14 :: u15 :: u16 :: u17 :: u18 :: u19 :: u20 :: u21 :: u22 :: u23 :: u24 :: u25 :: u26 :: u27 :: u28 :: u29 :: u30 :: u31 :: u32 :: u33 :: u34 :: u35 :: u36 :: u37 :: u38 :: u39 :: u40 :: u41 :: u42 :: u43 :: u44 :: u45 :: u46 :: u47 :: u48 :: u49 :: u50 :: u51 :: u52 :: u53 :: u54 :: u55 :: u56 :: u57 :: u58 :: u59 :: u60 :: u61 :: u62 :: u63 :: u64 :: u65 :: u66 :: u67 :: u68 :: u69 :: u70 :: u71 :: u72 :: u73 :: u74 :: u75 :: u76 :: u77 :: [] : List Value) = ((u0 :: .pointer (some ⟨b1, 0, none⟩) :: .func (.func 6) #[] #[] :: .pointer (some ⟨bb, 0, none⟩) :: u4 :: u5 :: u6 :: u7 :: u8 :: u9 :: u10 :: u11 :: u12 :: u13 :: u14 :: u15 :: u16 :: u17 :: u18 :: u19 :: u20 :: u21 :: u22 :: u23 :: u24 :: u25 :: u26 :: u27 :: u28 :: u29 :: u30 :: u31 :: u32 :: u33 :: u34 :: u35 :: u36 :: u37 :: u38 :: u39 :: u40 :: u41 :: u42 :: u43 :: u44 :: u45 :: u46 :: u47 :: u48 :: u49 :: u50 :: u51 :: u52 :: u53 :: u54 :: u55 :: u56 :: u57 :: u58 :: u59 :: u60 :: u61 :: u62 :: u63 :: u64 :: u65 :: u66 :: u67 :: u68 :: u69 :: u70 :: u71 :: u72 :: u73 :: u74 :: u75 :: u76 :: u77 :: [] : List Value)).set 6 w6 := rfl
      rw [hs, List.getElem?_set_ne (Ne.symm hj6)]
      exact (kp j (fun i hi h => by have := (by decide : ∀ i, i < 12 → [30, 31, 32, 33, 34, 35, 36, 29, 37, 38, 37, 6].getD i 0 = 6 ∨ (29 ≤ [30, 31, 32, 33, 34, 35, 36, 29, 37, 38, 37, 6].getD i 0 ∧ [30, 31, 32, 33, 34, 35, 36, 29, 37, 38, 37, 6].getD i 0 < 39)) i hi; omega)).trans List.getElem?_toArray
    obtain ⟨mid, hmid, rfl⟩ := Rg.frame_mid (bl := (u0 :: .pointer (some ⟨b1, 0, none⟩) :: .func (.func 6) #[] #[] :: .pointer (some ⟨bb, 0, none⟩) :: u4 :: u5 :: w6 :: u7 :: u8 :: u9 :: u10 :: u11 :: u12 :: u13 :: u14 :: u15 :: u16 :: u17 :: u18 :: u19 :: u20 :: u21 :: u22 :: u23 :: u24 :: u25 :: u26 :: u27 :: u28 :: u29 :: u30 :: u31 :: u32 :: u33 :: u34 :: u35 :: u36 :: u37 :: u38 :: u39 :: u40 :: u41 :: u42 :: u43 :: u44 :: u45 :: u46 :: u47 :: u48 :: u49 :: u50 :: u51 :: u52 :: u53 :: u54 :: u55 :: u56 :: u57 :: u58 :: u59 :: u60 :: u61 :: u62 :: u63 :: u64 :: u65 :: u66 :: u67 :: u68 :: u69 :: u70 :: u71 :: u72 :: u73 :: u74 :: u75 :: u76 :: u77 :: [])) 29 10 df (by rw [sz]; rfl) (by simp) kp2
    match mid, hmid with
    | [v29, v30, v31, v32, v33, v34, v35, v36, v37, v38], _ =>
      obtain rfl : w6 = .bool (addB b (⟨(1, 0), (3, 0), rgP 2 3, 2, false⟩ : En)).2 := Option.some.inj (hw6.symm.trans g6)
      exact HQ.out x _ _ _ _ _ _ _ _ _ _ m1 m2 m3 m4 m5 m6 m7 m8 m9 m10 m11 m12 m13 m14 m15 hbx hv2 hsto
end Go.Proofs.Ytncogjpmboglhaa.Sb
