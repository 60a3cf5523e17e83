/-
  A broker whose neighbours lie in a row of their own kind: what a store into a broker's variable leaves; loads and stores of brokers, IDs, advertisements. No program's function in it.
  The region of AdvertsRuns that makes the broker. No condition.
-/
import Derived.Test.YtonoadjmglkhaaaGreatU027
import Derived.Test.YtonoadjmglkhaaaGreatU019
import Derived.Test.YtonoadjmglkhaaaGreatU020
import Derived.Test.YtonoadjmglkhaaaGreatU038
import Derived.Test.YtonoadjmglkhaaaGreatU032
namespace Go.Proofs.YtonoadjmglkhaaaGreat.Av
open Go.RowKit Go.Sort Go.Proofs.YtonoadjmglkhaaaGreat Go.Proofs.YtonoadjmglkhaaaGreat.Rw Go.Proofs.YtonoadjmglkhaaaGreat.Nm Go.Proofs.YtonoadjmglkhaaaGreat.Pr Go.Proofs.YtonoadjmglkhaaaGreat.Bk

structure BrN (W : World) (b : Br) (nv av sv ev ov : Sl) : Prop where
  br : BrIn W b nv av sv ev ov
  no : NearOwn W nv b.near
theorem BrN.on {W W' : World} {b : Br} {nv av sv ev ov : Sl} (h : BrN W b nv av sv ev ov) (hb : Below W.heap.size W W') : BrN W' b nv av sv ev ov := ⟨h.br.on hb, h.no.on hb⟩
theorem BrN.keep {W W' : World} {k : Nat} {me : Int} {s1 s2 s3 s4 s5 : Sl} {b : Br} {nv av sv ev ov : Sl} (h : BrN W b nv av sv ev ov) (hb : Box W k (brcells me s1 s2 s3 s4 s5) 29) (hk : But k W W') : BrN W' b nv av sv ev ov := by
  obtain ⟨B, hn⟩ := h.no
  have hn2 : OwnI W' B (slv nv) b.near := hk.own hn hb (by decide)
  exact ⟨brin_keep h.br hb hk.1 (Row.of_own hn2), B, hn2⟩
abbrev zeroBr : Array Value := #[.int .i64 0, .slice none 0 0, .slice none 0 0, .slice none 0 0, .slice none 0 0, .slice none 0 0]
theorem brin_nil (W : World) (me : Int) {near : List Int} {nv : Sl} (h : RowI W (slv nv) near) : BrIn W ⟨me, near, [], [], [], []⟩ nv (none, 0, 0) (none, 0, 0) (none, 0, 0) (none, 0, 0) := ⟨h, ⟨[], row_nil _, .nil⟩, row_nil _, ⟨[], row_nil _, .nil⟩, ⟨[], row_nil _, .nil⟩⟩
/-- A list of numbers that rises is told by its members. -/
theorem rise_uniq : ∀ {l m : List Int}, l.Pairwise (· < ·) → m.Pairwise (· < ·) → (∀ x, x ∈ l ↔ x ∈ m) → l = m
  | [], [], _, _, _ => rfl
  | [], y :: m, _, _, h => by have := (h y).2 (by simp); simp at this
  | x :: l, [], _, _, h => by have := (h x).1 (by simp); simp at this
  | x :: l, y :: m, hl, hm, h => by
    have hl' := List.pairwise_cons.1 hl
    have hm' := List.pairwise_cons.1 hm
    have h1 : x = y := by
      rcases List.mem_cons.1 ((h x).1 (by simp)) with e | e
      · exact e
      · rcases List.mem_cons.1 ((h y).2 (by simp)) with e2 | e2
        · exact e2.symm
        · have a1 := hm'.1 x e
          have a2 := hl'.1 y e2
          omega
    subst h1
    rw [rise_uniq hl'.2 hm'.2 fun z => ⟨fun hz => ?_, fun hz => ?_⟩]
    · rcases List.mem_cons.1 ((h z).1 (List.mem_cons_of_mem _ hz)) with e | e
      · have := hl'.1 z hz
        omega
      · exact e
    · rcases List.mem_cons.1 ((h z).2 (List.mem_cons_of_mem _ hz)) with e | e
      · have := hm'.1 z hz
        omega
      · exact e
end Go.Proofs.YtonoadjmglkhaaaGreat.Av

namespace Go.Proofs.YtonoadjmglkhaaaGreat.Av
open Go.RowKit Go.Sort Go.Proofs.YtonoadjmglkhaaaGreat Go.Proofs.YtonoadjmglkhaaaGreat.Rw Go.Proofs.YtonoadjmglkhaaaGreat.Nm Go.Proofs.YtonoadjmglkhaaaGreat.Pr Go.Proofs.YtonoadjmglkhaaaGreat.Bk

theorem ex_extract {P : Program} (ρ : Operand → Value) (o : Oper) (y : Operand) (k : Nat) (ho : o.op = .extract y k) {c : Array Value} {v : Value} (hx : ρ y = .tuple c) (hv : c[k]? = some v) (w : World) : (execOp ρ o).run P w = .ok (.value v) w := by
  simp [execOp, ho, hx, hv, go_sem]
/-- The broker of chapter 9's runs. -/
abbrev runB : Br := ⟨0, [2, 3], [⟨(1, 0), [], 2⟩], [(1, 0)], [], []⟩
theorem run_learn : learnB (newB0 0 [2, 3]) ⟨(1, 0), [], 2⟩ = (runB, true) := rfl
theorem run_few : Few (newB0 0 [2, 3]) := ⟨by simp, by simp, by simp, by simp, by simp⟩
theorem run_fewp : FewP (newB0 0 [2, 3]) := ⟨by simp, by simp, by simp⟩
def run2V (_B : Nat) (_b1 : Nat) (i : Nat) (v : Value) (x : World) : Prop :=
  match i with
  | 0 => ∃ sl : Sl, v = slv sl ∧ RowI x v [3, 2, 3]
  | 1 => ∃ nv : Sl, v = brv 0 nv (none, 0, 0) (none, 0, 0) (none, 0, 0) (none, 0, 0) ∧ BrN x (newB0 0 [2, 3]) nv (none, 0, 0) (none, 0, 0) (none, 0, 0) (none, 0, 0)
  | 2 => v = .agg #[.int .i64 1, .int .i64 0, .slice none 0 0, .int .i64 2]
  | 3 => ∃ nv av sv ev ov : Sl, v = .tuple #[brv 0 nv av sv ev ov, .bool true] ∧ BrN x runB nv av sv ev ov
  | 4 => ∃ nv av sv ev ov : Sl, v = .tuple #[brv 0 nv av sv ev ov, .bool true] ∧ BrN x runB nv av sv ev ov
  | 5 => ∃ nv av sv ev ov : Sl, v = brv 0 nv av sv ev ov ∧ BrN x runB nv av sv ev ov
  | 6 => v = .bool true
  | 7 => True
  | 8 => True
  | 9 => v = .bool true
  | _ => True
noncomputable def run2C : Code := ((Tryz.f19.body.bind (findRegion 2)).getD .skip)
set_option maxRecDepth 100000 in
set_option maxHeartbeats 8000000 in
theorem run2 (Q : Exit → Act → World → Prop) (W : World) (b1 : Nat) (u0 u2 u3 u4 u5 u6 u7 u8 u9 u10 u11 u12 u13 u14 u15 u16 u17 u18 u19 u20 u21 u22 u23 u24 u25 u26 u27 u28 u29 u30 u31 u32 u33 u34 u35 u36 u37 u38 u39 u40 u41 u42 u43 u44 u45 u46 u47 u48 u49 u50 u51 u52 u53 u54 : Value)
    (h1 : Box W b1 #[.int .i64 1, .int .i64 0, .slice none 0 0, .int .i64 2] 42)
    (hQ : ∀ (x : World) (bb : Nat) (v4 v5 v6 v7 v8 v9 v10 v11 v12 v13 v14 v15 v16 : Value) (m1 : Option Addr) (m2 m3 : Nat) (m4 : Option Addr) (m5 m6 : Nat) (m7 : Option Addr) (m8 m9 : Nat) (m10 : Option Addr) (m11 m12 : Nat) (m13 : Option Addr) (m14 m15 : Nat), W.heap.size ≤ bb → Box x bb #[.int .i64 0, .slice m1 m2 m3, .slice m4 m5 m6, .slice m7 m8 m9, .slice m10 m11 m12, .slice m13 m14 m15] 29 → BrN x runB (m1, m2, m3) (m4, m5, m6) (m7, m8, m9) (m10, m11, m12) (m13, m14, m15) → Below W.heap.size W x → Q .normal ⟨(u0 :: .pointer (some ⟨b1, 0, none⟩) :: .pointer (some ⟨bb, 0, none⟩) :: .bool true :: v4 :: v5 :: v6 :: v7 :: v8 :: v9 :: v10 :: v11 :: v12 :: v13 :: v14 :: v15 :: v16 :: u17 :: u18 :: u19 :: u20 :: u21 :: u22 :: u23 :: u24 :: u25 :: u26 :: u27 :: u28 :: u29 :: u30 :: u31 :: u32 :: u33 :: u34 :: u35 :: u36 :: u37 :: u38 :: u39 :: u40 :: u41 :: u42 :: u43 :: u44 :: u45 :: u46 :: u47 :: u48 :: u49 :: u50 :: u51 :: u52 :: u53 :: u54 :: []).toArray, []⟩ x) :
    Code.wp Tryz.prog run2C Q ⟨(u0 :: .pointer (some ⟨b1, 0, none⟩) :: u2 :: u3 :: u4 :: u5 :: u6 :: u7 :: u8 :: u9 :: u10 :: u11 :: u12 :: u13 :: u14 :: u15 :: u16 :: u17 :: u18 :: u19 :: u20 :: u21 :: u22 :: u23 :: u24 :: u25 :: u26 :: u27 :: u28 :: u29 :: u30 :: u31 :: u32 :: u33 :: u34 :: u35 :: u36 :: u37 :: u38 :: u39 :: u40 :: u41 :: u42 :: u43 :: u44 :: u45 :: u46 :: u47 :: u48 :: u49 :: u50 :: u51 :: u52 :: u53 :: u54 :: []).toArray, []⟩ W := by
  have HQ := Lib.hid hQ
  have H1 := Lib.hid h1
  clear hQ h1
  unfold run2C
  conv => arg 2; whnf
  have nb1 : ∀ i, i < 10 → [11, 12, 13, 14, 10, 15, 16, 2, 2, 3].getD i 0 ≠ 1 := by decide
  refine Rg.region_mk 10 7 8 5 (fun i => [11, 12, 13, 14, 10, 15, 16, 2, 2, 3].getD i 0) (fun i => if i = 0 then 1 else if i = 1 then 3 else if i = 3 then 4 else 10) (run2V W.heap.size b1) 29 #[.int .i64 0, .slice none 0 0, .slice none 0 0, .slice none 0 0, .slice none 0 0, .slice none 0 0] (fun v => match v with | .agg c => c | _ => #[]) (by kernel_rfl) (by kernel_rfl) rfl (by decide) (by decide) (by decide) (by decide) (by decide) (by decide) (by decide) (fun i j hi hj h1 h2 h => (by decide : ∀ i, i < 10 → ∀ j, j < 10 → i ≠ 8 → j ≠ 8 → [11, 12, 13, 14, 10, 15, 16, 2, 2, 3].getD i 0 = [11, 12, 13, 14, 10, 15, 16, 2, 2, 3].getD j 0 → i = j) i hi j hj h1 h2 h) (fun i hi => (by decide : ∀ i, i < 10 → [11, 12, 13, 14, 10, 15, 16, 2, 2, 3].getD i 0 < 55) i hi) ?_ ?_ ?_ ?_ ?_ ?_
  · intro i v x x' hi h hb
    rcases (by omega : i = 0 ∨ i = 1 ∨ i = 2 ∨ i = 3 ∨ i = 4 ∨ i = 5 ∨ i = 6 ∨ i = 7 ∨ i = 8 ∨ i = 9) with rfl | rfl | rfl | rfl | rfl | rfl | rfl | rfl | rfl | rfl
    · obtain ⟨s, h1, h2⟩ := h; exact ⟨s, h1, h2.on hb⟩
    · obtain ⟨s, h1, h2⟩ := h; exact ⟨s, h1, h2.on hb⟩
    · exact h
    · obtain ⟨a1, a2, a3, a4, a5, h1, h2⟩ := h; exact ⟨a1, a2, a3, a4, a5, h1, h2.on hb⟩
    · obtain ⟨a1, a2, a3, a4, a5, h1, h2⟩ := h; exact ⟨a1, a2, a3, a4, a5, h1, h2.on hb⟩
    · obtain ⟨a1, a2, a3, a4, a5, h1, h2⟩ := h; exact ⟨a1, a2, a3, a4, a5, h1, h2.on hb⟩
    · exact h
    · exact h
    · exact h
    · exact h
  · intro o ho
    obtain rfl := Option.some.inj ho
    exact ⟨⟨⟨7, .data⟩, by simp, rfl, rfl⟩, ⟨⟨5, .data⟩, by simp, rfl, rfl⟩⟩
  · intro i o hi hiA hiS ho a x hb seen K hK
    clear HQ
    rcases (by omega : i = 0 ∨ i = 1 ∨ i = 2 ∨ i = 3 ∨ i = 4 ∨ i = 5 ∨ i = 6 ∨ i = 9) with rfl | rfl | rfl | rfl | rfl | rfl | rfl | rfl
    · obtain rfl := Option.some.inj ho
      have hl := row_lit Nm.okI x [3, 2, 3] 3 rfl (by simp) #[.int .i64 3, .int .i64 2, .int .i64 3] (by rfl)
      exact Rg.op_value rfl rfl (Rg.ex_build a.eval _ 23 3 #[(0, .const (.int .i64 3)), (1, .const (.int .i64 2)), (2, .const (.int .i64 3))] rfl (ps := #[(0, .int .i64 3), (1, .int .i64 2), (2, .int .i64 3)]) (by simp only [List.map_toArray, List.map_cons, List.map_nil]; rfl) (by simp [go_sem])) (hK (.slice (some ⟨x.heap.size, 0, none⟩) 3 3) (x.alloc (.cells #[.int .i64 3, .int .i64 2, .int .i64 3] 3)) ⟨(some ⟨x.heap.size, 0, none⟩, 3, 3), rfl, Row.of_own hl⟩ ((Below.refl _ _).alloc (Nat.le_refl _) _))
    · obtain rfl := Option.some.inj ho
      have E11 := seen.at_ ⟨0, .data⟩ (by simp) rfl (by decide) (by decide) (Or.inl rfl)
      obtain ⟨sl, q0, q1⟩ := E11
      have q0 : a.eval (.tmp 11) = slv sl := q0
      have q1 : RowI x (slv sl) [3, 2, 3] := by rw [← q0]; exact q1
      exact Rg.op_call rfl rfl (Rw.ex_call2 a.eval _ (.const (.int .i64 0)) (.tmp 11) 3 23 6 rfl rfl q0 rfl _ (call_fn Tryz.func6 rfl rfl _ _)) (anew_any 0 sl [3, 2, 3] x q1 (by decide)) fun e w1 h => by
        obtain ⟨⟨l', nv, rfl, h1, h2, h3, h4⟩, h5⟩ := h
        have e1 : l' = [2, 3] := rise_uniq h3 (by decide) (fun y => (h4 y).trans (by simp; omega))
        subst e1
        exact ⟨_, rfl, hK _ _ ⟨nv, rfl, h1, h2⟩ h5⟩
    · obtain rfl := Option.some.inj ho
      have e1 : a.eval (.tmp 1) = .pointer (some ⟨b1, 0, none⟩) := seen.kp 1 _ nb1 rfl
      have y0 := (H1.out.on hb).cell 0
      have y1 := (H1.out.on hb).cell 1
      have y2 := (H1.out.on hb).cell 2
      have y3 := (H1.out.on hb).cell 3
      simp only [List.getElem?_toArray, List.getElem?_cons_zero, List.getElem?_cons_succ] at y0 y1 y2 y3
      exact Rg.op_value rfl rfl (Rg.ex_load a.eval _ 42 (.tmp 1) rfl (by rw [e1]; simp [go_sem, y0, y1, y2, y3])) (hK _ x rfl (Below.refl _ _))
    · obtain rfl := Option.some.inj ho
      have E12 := seen.at_ ⟨1, .data⟩ (by simp) rfl (by decide) (by decide) (Or.inl rfl)
      have e13 : a.eval (.tmp 13) = .agg #[.int .i64 1, .int .i64 0, .slice none 0 0, .int .i64 2] := seen.at_ ⟨2, .data⟩ (by simp) rfl (by decide) (by decide) (Or.inr (by decide))
      obtain ⟨nv, q0, q1⟩ := E12
      have hx : AdIn x (1, 0, (none, 0, 0), 2) ⟨(1, 0), [], 2⟩ := ⟨rfl, rfl, row_nil _⟩
      exact Rg.op_call rfl rfl (Rw.ex_call2 a.eval _ (.tmp 12) (.tmp 13) 29 42 10 rfl q0 e13 rfl _ (call_fn Tryz.func10 rfl rfl _ _)) (learn_any (newB0 0 [2, 3]) ⟨(1, 0), [], 2⟩ nv (none, 0, 0) (none, 0, 0) (none, 0, 0) (none, 0, 0) (1, 0, (none, 0, 0), 2) x q1.br hx run_few run_fewp (by simp) List.Pairwise.nil List.Pairwise.nil) fun e w1 h => by
        rw [run_learn] at h
        obtain ⟨⟨a1, a2, a3, a4, a5, rfl, h2, h3⟩, h5⟩ := h
        exact ⟨_, rfl, hK _ _ ⟨a1, a2, a3, a4, a5, rfl, h2, h3 q1.no⟩ h5⟩
    · obtain rfl := Option.some.inj ho
      have E14 := seen.at_ ⟨3, .data⟩ (by simp) rfl (by decide) (by decide) (Or.inl rfl)
      exact Rg.op_value rfl rfl (Rg.ex_move a.eval _ (.tmp 14) rfl x) (hK _ x E14 (Below.refl _ _))
    · obtain rfl := Option.some.inj ho
      have E10 := seen.at_ ⟨4, .data⟩ (by simp) rfl (by decide) (by decide) (Or.inr (by decide))
      obtain ⟨a1, a2, a3, a4, a5, h1, h2⟩ := E10
      exact Rg.op_value rfl rfl (ex_extract a.eval _ (.tmp 10) 0 rfl (c := #[brv 0 a1 a2 a3 a4 a5, .bool true]) h1 rfl x) (hK _ x ⟨a1, a2, a3, a4, a5, rfl, h2⟩ (Below.refl _ _))
    · obtain rfl := Option.some.inj ho
      have E10 := seen.at_ ⟨4, .data⟩ (by simp) rfl (by decide) (by decide) (Or.inr (by decide))
      obtain ⟨a1, a2, a3, a4, a5, h1, h2⟩ := E10
      exact Rg.op_value rfl rfl (ex_extract a.eval _ (.tmp 10) 1 rfl (c := #[brv 0 a1 a2 a3 a4 a5, .bool true]) h1 rfl x) (hK _ x rfl (Below.refl _ _))
    · obtain rfl := Option.some.inj ho
      have e16 : a.eval (.tmp 16) = .bool true := seen.at_ ⟨6, .data⟩ (by simp) rfl (by decide) (by decide) (Or.inr (by decide))
      exact Rg.op_value rfl rfl (Rg.ex_assign a.eval _ (.tmp 16) rfl x) (hK _ x e16 (Below.refl _ _))
  · intro o ho a x K hK
    obtain rfl := Option.some.inj ho
    exact Rg.op_value rfl rfl (Rg.ex_alloc a.eval _ 29 rfl (by simp [go_sem])) hK
  · intro o ho a x bb v D hc hD hb hA hC hvC hbb hbox K hK
    clear HQ
    obtain rfl := Option.some.inj ho
    obtain ⟨⟨m1, m2, m3⟩, ⟨m4, m5, m6⟩, ⟨m7, m8, m9⟩, ⟨m10, m11, m12⟩, ⟨m13, m14, m15⟩, hv1, hv2⟩ := hvC
    subst hv1
    have hbut := but_setB x bb (.int .i64 0) (.slice m1 m2 m3) (.slice m4 m5 m6) (.slice m7 m8 m9) (.slice m10 m11 m12) (.slice m13 m14 m15)
    refine Rg.op_store 29 (.tmp 2) (.tmp 15) rfl rfl rfl rfl hA hC (w' := setB x bb (.int .i64 0) (.slice m1 m2 m3) (.slice m4 m5 m6) (.slice m7 m8 m9) (.slice m10 m11 m12) (.slice m13 m14 m15)) (storeBr hbox _ _ _ _ _ _ _ _ _ _ _ _ _ _ _ _) (hK _ (setB_below hb hbb _ _ _ _ _ _) (setB_box hbox _ _ _ _ _ _) ?_)
    exact fun j u hj hjA hjS hdj hnl hls h => by
      rcases (by omega : j = 0 ∨ j = 1 ∨ j = 2 ∨ j = 3 ∨ j = 4 ∨ j = 5 ∨ j = 6 ∨ j = 9) with rfl | rfl | rfl | rfl | rfl | rfl | rfl | rfl
      · exact absurd (hD ⟨1, .phase⟩ (by simp) rfl) hnl
      · exact absurd (hD ⟨3, .chain⟩ (by simp) rfl) hnl
      · have h2 : u = .agg #[.int .i64 1, .int .i64 0, .slice none 0 0, .int .i64 2] := h; exact h2
      · exact absurd (hD ⟨4, .phase⟩ (by simp) rfl) hnl
      · obtain ⟨a1, a2, a3, a4, a5, h1, h2⟩ := h; exact ⟨a1, a2, a3, a4, a5, h1, h2.keep (s1 := (none, 0, 0)) (s2 := (none, 0, 0)) (s3 := (none, 0, 0)) (s4 := (none, 0, 0)) (s5 := (none, 0, 0)) (me := 0) hbox hbut⟩
      · obtain ⟨a1, a2, a3, a4, a5, h1, h2⟩ := h; exact ⟨a1, a2, a3, a4, a5, h1, h2.keep (s1 := (none, 0, 0)) (s2 := (none, 0, 0)) (s3 := (none, 0, 0)) (s4 := (none, 0, 0)) (s5 := (none, 0, 0)) (me := 0) hbox hbut⟩
      · have h2 : u = .bool true := h; exact h2
      · have h2 : u = .bool true := h; exact h2
  · intro a x bb v df sz kp gA gC hbb hbox hvC hbel ⟨vs, hv⟩
    obtain ⟨⟨m1, m2, m3⟩, ⟨m4, m5, m6⟩, ⟨m7, m8, m9⟩, ⟨m10, m11, m12⟩, ⟨m13, m14, m15⟩, hv1, hv2⟩ := hvC
    subst hv1
    have g2 : a.tmps[2]? = some (.pointer (some ⟨bb, 0, none⟩)) := gA
    have g3 : a.tmps[3]? = some (.bool true) := by
      have h : vs 9 = .bool true := (hv 9 (by decide) (by decide) (by decide)).2 (by decide)
      rw [← h]
      exact (hv 9 (by decide) (by decide) (by decide)).1
    have kp2 : ∀ j, (j < 2 ∨ 17 ≤ j) → a.tmps[j]? = (u0 :: .pointer (some ⟨b1, 0, none⟩) :: u2 :: u3 :: u4 :: u5 :: u6 :: u7 :: u8 :: u9 :: u10 :: u11 :: u12 :: u13 :: u14 :: u15 :: u16 :: u17 :: u18 :: u19 :: u20 :: u21 :: u22 :: u23 :: u24 :: u25 :: u26 :: u27 :: u28 :: u29 :: u30 :: u31 :: u32 :: u33 :: u34 :: u35 :: u36 :: u37 :: u38 :: u39 :: u40 :: u41 :: u42 :: u43 :: u44 :: u45 :: u46 :: u47 :: u48 :: u49 :: u50 :: u51 :: u52 :: u53 :: u54 :: [])[j]? := fun j hj => (kp j (fun i hi h => by have := (by decide : ∀ i, i < 10 → 2 ≤ [11, 12, 13, 14, 10, 15, 16, 2, 2, 3].getD i 0 ∧ [11, 12, 13, 14, 10, 15, 16, 2, 2, 3].getD i 0 < 17) i hi; omega)).trans List.getElem?_toArray
    obtain ⟨mid, hmid, rfl⟩ := Rg.frame_mid (bl := (u0 :: .pointer (some ⟨b1, 0, none⟩) :: u2 :: u3 :: u4 :: u5 :: u6 :: u7 :: u8 :: u9 :: u10 :: u11 :: u12 :: u13 :: u14 :: u15 :: u16 :: u17 :: u18 :: u19 :: u20 :: u21 :: u22 :: u23 :: u24 :: u25 :: u26 :: u27 :: u28 :: u29 :: u30 :: u31 :: u32 :: u33 :: u34 :: u35 :: u36 :: u37 :: u38 :: u39 :: u40 :: u41 :: u42 :: u43 :: u44 :: u45 :: u46 :: u47 :: u48 :: u49 :: u50 :: u51 :: u52 :: u53 :: u54 :: [])) 2 15 df sz (by simp) kp2
    match mid, hmid with
    | [v2, v3, v4, v5, v6, v7, v8, v9, v10, v11, v12, v13, v14, v15, v16], _ =>
      obtain rfl : v2 = .pointer (some ⟨bb, 0, none⟩) := Option.some.inj g2
      obtain rfl : v3 = .bool true := Option.some.inj g3
      exact HQ.out x bb _ _ _ _ _ _ _ _ _ _ _ _ _ m1 m2 m3 m4 m5 m6 m7 m8 m9 m10 m11 m12 m13 m14 m15 hbb hbox hv2 hbel
end Go.Proofs.YtonoadjmglkhaaaGreat.Av
