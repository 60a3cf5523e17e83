/-
  inEntries of package adverts: by their tree, then by their subscription. No condition.
  rises of package adverts at its five kinds of rows. Condition: rows no longer than a machine holds.
-/
import Derived.Test.YtonoadjmglkhaaaQ020
import Derived.Test.YtonoadjmglkhaaaQ015
import Derived.Test.YtonoadjmglkhaaaQ010
import Derived.Deep.LoopGhost
import Derived.Laws.Externs
namespace Go.Proofs.Ytonoadjmglkhaaa.Av
open Go.RowKit Go.Sort Go.Proofs.Ytonoadjmglkhaaa Go.Proofs.Ytonoadjmglkhaaa.Rw Go.Proofs.Ytonoadjmglkhaaa.Nm Go.Proofs.Ytonoadjmglkhaaa.Pr Go.Proofs.Ytonoadjmglkhaaa.Bk

def ent1V (_B : Nat) (b1 b2 : Nat) (x1 x2 x3 x4 : Int) (_xo : Option Addr) (_xn _xc : Nat) (_x6 : Int) (_x7 : Bool) (y1 y2 y3 y4 : Int) (_yo : Option Addr) (_yn _yc : Nat) (_y6 : Int) (_y7 : Bool) (i : Nat) (v : Value) (x : World) : Prop :=
  match i with
  | 0 => v = .pointer (some ⟨b1, 0, none⟩)
  | 1 => v = .agg #[.int .i64 x1, .int .i64 x2]
  | 2 => v = .pointer (some ⟨b2, 0, none⟩)
  | 3 => v = .agg #[.int .i64 y1, .int .i64 y2]
  | 4 => v = .int .i64 (cmpJ (x1, x2) (y1, y2))
  | 5 => v = .pointer (some ⟨b1, 2, none⟩)
  | 6 => v = .agg #[.int .i64 x3, .int .i64 x4]
  | 7 => v = .pointer (some ⟨b2, 2, none⟩)
  | 8 => v = .agg #[.int .i64 y3, .int .i64 y4]
  | 9 => v = .int .i64 (cmpJ (x3, x4) (y3, y4))
  | 10 => ∃ g, v = .slice (some ⟨g, 0, none⟩) 2 2 ∧ x.cell? ⟨g, 0, none⟩ = some (.int .i64 (cmpJ (x1, x2) (y1, y2))) ∧ x.cell? ⟨g, 1, none⟩ = some (.int .i64 (cmpJ (x3, x4) (y3, y4)))
  | 11 => v = .int .i64 (orI (cmpJ (x1, x2) (y1, y2)) (cmpJ (x3, x4) (y3, y4)))
  | _ => True
noncomputable def ent1C : Code := ((Try.f34.body.bind (findRegion 1)).getD .skip)
theorem ent1V_on (B : Nat) (b1 b2 : Nat) (x1 x2 x3 x4 : Int) (xo : Option Addr) (xn xc : Nat) (x6 : Int) (x7 : Bool) (y1 y2 y3 y4 : Int) (yo : Option Addr) (yn yc : Nat) (y6 : Int) (y7 : Bool) (i : Nat) (v : Value) (x x' : World) (h : ent1V B b1 b2 x1 x2 x3 x4 xo xn xc x6 x7 y1 y2 y3 y4 yo yn yc y6 y7 i v x) (hb : Below x.heap.size x x') : ent1V B b1 b2 x1 x2 x3 x4 xo xn xc x6 x7 y1 y2 y3 y4 yo yn yc y6 y7 i v x' := by
  by_cases hi : i < 12
  · rcases (by omega : i = 0 ∨ i = 1 ∨ i = 2 ∨ i = 3 ∨ i = 4 ∨ i = 5 ∨ i = 6 ∨ i = 7 ∨ i = 8 ∨ i = 9 ∨ i = 10 ∨ i = 11) with rfl | rfl | rfl | rfl | rfl | rfl | rfl | rfl | rfl | rfl | rfl | rfl
    · exact h
    · exact h
    · exact h
    · exact h
    · exact h
    · exact h
    · exact h
    · exact h
    · exact h
    · exact h
    · obtain ⟨g, h1, h2, h3⟩ := h; exact ⟨g, h1, by rw [hb.cell (World.block_lt_of_cell? x _ h2)]; exact h2, by rw [hb.cell (World.block_lt_of_cell? x _ h3)]; exact h3⟩
    · exact h
  · unfold ent1V
    split <;> first | omega | trivial
set_option maxRecDepth 100000 in
set_option maxHeartbeats 8000000 in
theorem ent1 (Q : Exit → Act → World → Prop) (W : World) (b1 b2 : Nat) (x1 x2 x3 x4 : Int) (xo : Option Addr) (xn xc : Nat) (x6 : Int) (x7 : Bool) (y1 y2 y3 y4 : Int) (yo : Option Addr) (yn yc : Nat) (y6 : Int) (y7 : Bool) (u0 u1 u4 u5 u6 u7 u8 u9 u10 u11 u12 u13 u14 u15 u16 : Value)
    (h1 : Box W b1 #[.int .i64 x1, .int .i64 x2, .int .i64 x3, .int .i64 x4, .slice xo xn xc, .int .i64 x6, .bool x7] 63) (h2 : Box W b2 #[.int .i64 y1, .int .i64 y2, .int .i64 y3, .int .i64 y4, .slice yo yn yc, .int .i64 y6, .bool y7] 63)
    (hQ : ∀ (x : World) (v5 v6 v7 v8 v9 v10 v11 v12 v13 v14 v15 v16 : Value), Below W.heap.size W x → Q .normal ⟨(u0 :: u1 :: .pointer (some ⟨b1, 0, none⟩) :: .pointer (some ⟨b2, 0, none⟩) :: (.int .i64 (orI (cmpJ (x1, x2) (y1, y2)) (cmpJ (x3, x4) (y3, y4)))) :: v5 :: v6 :: v7 :: v8 :: v9 :: v10 :: v11 :: v12 :: v13 :: v14 :: v15 :: v16 :: []).toArray, []⟩ x) :
    Code.wp Try.prog ent1C Q ⟨(u0 :: u1 :: .pointer (some ⟨b1, 0, none⟩) :: .pointer (some ⟨b2, 0, none⟩) :: u4 :: u5 :: u6 :: u7 :: u8 :: u9 :: u10 :: u11 :: u12 :: u13 :: u14 :: u15 :: u16 :: []).toArray, []⟩ W := by
  have HQ := Lib.hid hQ
  have H1 := Lib.hid h1
  have H2 := Lib.hid h2
  clear hQ h1 h2
  have stab := ent1V_on W.heap.size b1 b2 x1 x2 x3 x4 xo xn xc x6 x7 y1 y2 y3 y4 yo yn yc y6 y7
  unfold ent1C
  conv => arg 2; whnf
  have nd : ∀ j, (j < 5 ∨ 17 ≤ j) → ∀ i, i < 12 → (fun i => 5 + i) i ≠ j := by
    intro j hj i hi h
    simp only at h
    omega
  refine Rg.region_live 13 12 (fun i => 5 + i) (fun _ => 12) (ent1V W.heap.size b1 b2 x1 x2 x3 x4 xo xn xc x6 x7 y1 y2 y3 y4 yo yn yc y6 y7) (by kernel_rfl) (by kernel_rfl) rfl (by decide) (fun i j _ _ h => by have h2 : 5 + i = 5 + j := h; omega) (fun i hi => by show 5 + i < 17; omega) ?_ (fun _ => Rg.hall_of 14 (by kernel_rfl)) ?_ ?_
  · intro i o hi ho a x D hnd hc hD hb seen K hK
    clear HQ
    rcases (by omega : i = 0 ∨ i = 1 ∨ i = 2 ∨ i = 3 ∨ i = 4 ∨ i = 5 ∨ i = 6 ∨ i = 7 ∨ i = 8 ∨ i = 9 ∨ i = 10 ∨ i = 11) with rfl | rfl | rfl | rfl | rfl | rfl | rfl | rfl | rfl | rfl | rfl | rfl
    · obtain rfl := Option.some.inj ho
      have e2 : a.eval (.tmp 2) = .pointer (some ⟨b1, 0, none⟩) := seen.kp 2 _ (nd 2 (by omega)) rfl
      exact Rg.op_value rfl rfl (Rg.ex_field a.eval _ 63 (.tmp 2) 0 rfl (by rw [e2]; simp [go_sem])) (hK _ _ rfl (Below.refl _ _) fun _ _ _ _ _ _ _ h => h)
    · obtain rfl := Option.some.inj ho
      have e5 : a.eval (.tmp 5) = .pointer (some ⟨b1, 0, none⟩) := seen.at_ ⟨0, .data⟩ (by simp) rfl (Or.inr (by decide))
      have y0 := (H1.out.on hb).cell 0
      have y1 := (H1.out.on hb).cell 1
      simp only [List.getElem?_toArray, List.getElem?_cons_zero, List.getElem?_cons_succ] at y0 y1
      exact Rg.op_value rfl rfl (Rg.ex_load a.eval _ 23 (.tmp 5) rfl (by rw [e5]; simp [go_sem, y0, y1])) (hK _ _ rfl (Below.refl _ _) fun _ _ _ _ _ _ _ h => h)
    · obtain rfl := Option.some.inj ho
      have e3 : a.eval (.tmp 3) = .pointer (some ⟨b2, 0, none⟩) := seen.kp 3 _ (nd 3 (by omega)) rfl
      exact Rg.op_value rfl rfl (Rg.ex_field a.eval _ 63 (.tmp 3) 0 rfl (by rw [e3]; simp [go_sem])) (hK _ _ rfl (Below.refl _ _) fun _ _ _ _ _ _ _ h => h)
    · obtain rfl := Option.some.inj ho
      have e7 : a.eval (.tmp 7) = .pointer (some ⟨b2, 0, none⟩) := seen.at_ ⟨2, .data⟩ (by simp) rfl (Or.inr (by decide))
      have y0 := (H2.out.on hb).cell 0
      have y1 := (H2.out.on hb).cell 1
      simp only [List.getElem?_toArray, List.getElem?_cons_zero, List.getElem?_cons_succ] at y0 y1
      exact Rg.op_value rfl rfl (Rg.ex_load a.eval _ 23 (.tmp 7) rfl (by rw [e7]; simp [go_sem, y0, y1])) (hK _ _ rfl (Below.refl _ _) fun _ _ _ _ _ _ _ h => h)
    · obtain rfl := Option.some.inj ho
      have e6 : a.eval (.tmp 6) = .agg #[.int .i64 x1, .int .i64 x2] := seen.at_ ⟨1, .data⟩ (by simp) rfl (Or.inr (by decide))
      have e8 : a.eval (.tmp 8) = .agg #[.int .i64 y1, .int .i64 y2] := seen.at_ ⟨3, .data⟩ (by simp) rfl (Or.inr (by decide))
      exact Rg.op_call rfl rfl (Rw.ex_call2 a.eval _ (.tmp 6) (.tmp 8) 23 23 20 rfl e6 e8 rfl _ (call_byID _ _)) (byID_any (x1, x2) (y1, y2) x) fun e w1 h => by
        obtain ⟨rfl, h3⟩ := h
        exact ⟨_, rfl, hK _ _ rfl (h3.mono hb.size) fun j u hj _ _ _ hne h => stab j u _ _ h h3⟩
    · obtain rfl := Option.some.inj ho
      have e2 : a.eval (.tmp 2) = .pointer (some ⟨b1, 0, none⟩) := seen.kp 2 _ (nd 2 (by omega)) rfl
      exact Rg.op_value rfl rfl (Rg.ex_field a.eval _ 63 (.tmp 2) 1 rfl (by rw [e2]; simp [go_sem])) (hK _ _ rfl (Below.refl _ _) fun _ _ _ _ _ _ _ h => h)
    · obtain rfl := Option.some.inj ho
      have e10 : a.eval (.tmp 10) = .pointer (some ⟨b1, 2, none⟩) := seen.at_ ⟨5, .data⟩ (by simp) rfl (Or.inr (by decide))
      have y2 := (H1.out.on hb).cell 2
      have y3 := (H1.out.on hb).cell 3
      simp only [List.getElem?_toArray, List.getElem?_cons_zero, List.getElem?_cons_succ] at y2 y3
      exact Rg.op_value rfl rfl (Rg.ex_load a.eval _ 23 (.tmp 10) rfl (by rw [e10]; simp [go_sem, y2, y3])) (hK _ _ rfl (Below.refl _ _) fun _ _ _ _ _ _ _ h => h)
    · obtain rfl := Option.some.inj ho
      have e3 : a.eval (.tmp 3) = .pointer (some ⟨b2, 0, none⟩) := seen.kp 3 _ (nd 3 (by omega)) rfl
      exact Rg.op_value rfl rfl (Rg.ex_field a.eval _ 63 (.tmp 3) 1 rfl (by rw [e3]; simp [go_sem])) (hK _ _ rfl (Below.refl _ _) fun _ _ _ _ _ _ _ h => h)
    · obtain rfl := Option.some.inj ho
      have e12 : a.eval (.tmp 12) = .pointer (some ⟨b2, 2, none⟩) := seen.at_ ⟨7, .data⟩ (by simp) rfl (Or.inr (by decide))
      have y2 := (H2.out.on hb).cell 2
      have y3 := (H2.out.on hb).cell 3
      simp only [List.getElem?_toArray, List.getElem?_cons_zero, List.getElem?_cons_succ] at y2 y3
      exact Rg.op_value rfl rfl (Rg.ex_load a.eval _ 23 (.tmp 12) rfl (by rw [e12]; simp [go_sem, y2, y3])) (hK _ _ rfl (Below.refl _ _) fun _ _ _ _ _ _ _ h => h)
    · obtain rfl := Option.some.inj ho
      have e11 : a.eval (.tmp 11) = .agg #[.int .i64 x3, .int .i64 x4] := seen.at_ ⟨6, .data⟩ (by simp) rfl (Or.inr (by decide))
      have e13 : a.eval (.tmp 13) = .agg #[.int .i64 y3, .int .i64 y4] := seen.at_ ⟨8, .data⟩ (by simp) rfl (Or.inr (by decide))
      exact Rg.op_call rfl rfl (Rw.ex_call2 a.eval _ (.tmp 11) (.tmp 13) 23 23 20 rfl e11 e13 rfl _ (call_byID _ _)) (byID_any (x3, x4) (y3, y4) x) fun e w1 h => by
        obtain ⟨rfl, h3⟩ := h
        exact ⟨_, rfl, hK _ _ rfl (h3.mono hb.size) fun j u hj _ _ _ hne h => stab j u _ _ h h3⟩
    · obtain rfl := Option.some.inj ho
      have e9 : a.eval (.tmp 9) = .int .i64 (cmpJ (x1, x2) (y1, y2)) := seen.at_ ⟨4, .data⟩ (by simp) rfl (Or.inr (by decide))
      have e14 : a.eval (.tmp 14) = .int .i64 (cmpJ (x3, x4) (y3, y4)) := seen.at_ ⟨9, .data⟩ (by simp) rfl (Or.inr (by decide))
      have hbx := box_new x #[.int .i64 (cmpJ (x1, x2) (y1, y2)), .int .i64 (cmpJ (x3, x4) (y3, y4))] 3
      exact Rg.op_value rfl rfl (Rg.ex_build a.eval _ 27 2 #[(0, .tmp 9), (1, .tmp 14)] rfl (ps := #[(0, .int .i64 (cmpJ (x1, x2) (y1, y2))), (1, .int .i64 (cmpJ (x3, x4) (y3, y4)))]) (by simp [e9, e14]) (by simp [go_sem])) (hK (.slice (some ⟨x.heap.size, 0, none⟩) 2 2) (x.alloc (.cells #[.int .i64 (cmpJ (x1, x2) (y1, y2)), .int .i64 (cmpJ (x3, x4) (y3, y4))] 3)) ⟨x.heap.size, rfl, hbx.cell 0, hbx.cell 1⟩ ((Below.refl _ _).alloc hb.size _) fun j u _ _ _ _ _ h => stab j u _ _ h ((Below.refl _ _).alloc (Nat.le_refl _) _))
    · obtain rfl := Option.some.inj ho
      have E15 := seen.at_ ⟨10, .data⟩ (by simp) rfl (Or.inr (by decide))
      obtain ⟨g, q0, q1, q2⟩ := E15
      exact Rg.op_call rfl rfl (Rw.ex_call1 a.eval _ (.tmp 15) 27 58 rfl q0 rfl _ (call_or _ _)) (or_any g 2 _ _ x q1 q2) fun e w1 h => by
        obtain ⟨rfl, rfl⟩ := h
        exact ⟨_, rfl, hK _ _ rfl (Below.refl _ _) fun j u hj _ _ _ hne h => h⟩
  · intro kk o h1 h2 ho
    omega
  · intro a w' df sz kp ⟨vs, hv⟩ hb
    have sz' : a.tmps.size = 17 := sz
    have g16 : a.tmps[16]? = some (.int .i64 (orI (cmpJ (x1, x2) (y1, y2)) (cmpJ (x3, x4) (y3, y4)))) := by
      have h : vs 11 = .int .i64 (orI (cmpJ (x1, x2) (y1, y2)) (cmpJ (x3, x4) (y3, y4))) := (hv 11 (by omega)).2 (by decide)
      rw [← h]
      exact (hv 11 (by omega)).1
    show Rg.SeqFrom _ _ _ 1 12 a w'
    simp only [Rg.SeqFrom]
    refine Rg.op_value rfl rfl (Rg.ex_assign a.eval _ (.tmp 16) rfl _) ?_
    rw [Rg.eval_some g16]
    have hp4 : (a.put (some 4) (.int .i64 (orI (cmpJ (x1, x2) (y1, y2)) (cmpJ (x3, x4) (y3, y4))))).tmps[4]? = some (.int .i64 (orI (cmpJ (x1, x2) (y1, y2)) (cmpJ (x3, x4) (y3, y4)))) := by simp [Act.put, sz']
    have kp2 : ∀ j, (j < 4 ∨ 17 ≤ j) → (a.put (some 4) (.int .i64 (orI (cmpJ (x1, x2) (y1, y2)) (cmpJ (x3, x4) (y3, y4))))).tmps[j]? = (u0 :: u1 :: .pointer (some ⟨b1, 0, none⟩) :: .pointer (some ⟨b2, 0, none⟩) :: u4 :: u5 :: u6 :: u7 :: u8 :: u9 :: u10 :: u11 :: u12 :: u13 :: u14 :: u15 :: u16 :: [])[j]? := fun j hj => (Rg.get_put _ 4 _ j (by omega)).trans ((kp j (nd j (by omega))).trans List.getElem?_toArray)
    obtain ⟨mid, hmid, hfr⟩ := Rg.frame_mid (a := a.put (some 4) (.int .i64 (orI (cmpJ (x1, x2) (y1, y2)) (cmpJ (x3, x4) (y3, y4))))) (bl := (u0 :: u1 :: .pointer (some ⟨b1, 0, none⟩) :: .pointer (some ⟨b2, 0, none⟩) :: u4 :: u5 :: u6 :: u7 :: u8 :: u9 :: u10 :: u11 :: u12 :: u13 :: u14 :: u15 :: u16 :: [])) 4 13 df (by simp [Rg.size_put, sz']) (by simp) kp2
    show Q .normal (a.put (some 4) (.int .i64 (orI (cmpJ (x1, x2) (y1, y2)) (cmpJ (x3, x4) (y3, y4))))) _
    rw [hfr] at hp4 ⊢
    match mid, hmid with
    | [v4, v5, v6, v7, v8, v9, v10, v11, v12, v13, v14, v15, v16], _ =>
      obtain rfl : v4 = .int .i64 (orI (cmpJ (x1, x2) (y1, y2)) (cmpJ (x3, x4) (y3, y4))) := Option.some.inj hp4
      exact HQ.out _ _ _ _ _ _ _ _ _ _ _ _ _ hb
/-- Which entry is ahead. -/
def cmpN (x y : XEn) : Int := orI (cmpJ (x.1, x.2.1) (y.1, y.2.1)) (cmpJ (x.2.2.1, x.2.2.2.1) (y.2.2.1, y.2.2.2.1))
set_option maxRecDepth 100000 in
theorem inEnt_any (x y : XEn) (w : World) : Calls Try.prog 34 #[valN x, valN y] w fun e w' => e = .returned (.int .i64 (cmpN x y)) ∧ Below w.heap.size w w' := by
  obtain ⟨x1, x2, x3, x4, ⟨xo, xn, xc⟩, x6, x7⟩ := x
  obtain ⟨y1, y2, y3, y4, ⟨yo, yn, yc⟩, y6, y7⟩ := y
  obtain ⟨h0, X, Y⟩ := two_new w #[.int .i64 x1, .int .i64 x2, .int .i64 x3, .int .i64 x4, .slice xo xn xc, .int .i64 x6, .bool x7] #[.int .i64 y1, .int .i64 y2, .int .i64 y3, .int .i64 y4, .slice yo yn yc, .int .i64 y6, .bool y7] 63 63
  have B := Lib.hid h0
  have HX := Lib.hid X
  have HY := Lib.hid Y
  have R := Lib.hid (show cmpN (x1, x2, x3, x4, (xo, xn, xc), x6, x7) (y1, y2, y3, y4, (yo, yn, yc), y6, y7) = orI (cmpJ (x1, x2) (y1, y2)) (cmpJ (x3, x4) (y3, y4)) from rfl)
  generalize cmpN (x1, x2, x3, x4, (xo, xn, xc), x6, x7) (y1, y2, y3, y4, (yo, yn, yc), y6, y7) = res at *
  clear h0 X Y
  go_enter Try.func34, Try.ntmps34
  go_upto_region 1 with fail
  generalize (w.alloc (.cells #[.int .i64 x1, .int .i64 x2, .int .i64 x3, .int .i64 x4, .slice xo xn xc, .int .i64 x6, .bool x7] 63)).alloc (.cells #[.int .i64 y1, .int .i64 y2, .int .i64 y3, .int .i64 y4, .slice yo yn yc, .int .i64 y6, .bool y7] 63) = W at *
  refine ent1 _ W w.heap.size (w.heap.size + 1) x1 x2 x3 x4 xo xn xc x6 x7 y1 y2 y3 y4 yo yn yc y6 y7 _ _ _ _ _ _ _ _ _ _ _ _ _ _ _ HX.out HY.out ?_
  intro x v5 v6 v7 v8 v9 v10 v11 v12 v13 v14 v15 v16 hb
  have HB := Lib.hid hb
  clear hb
  go_wp2
  go_ret
  exact ⟨by have h := R.out; subst h; rfl, B.out.trans (HB.out.mono B.out.size)⟩
end Go.Proofs.Ytonoadjmglkhaaa.Av

namespace Go.Proofs.Ytonoadjmglkhaaa.Av
open Go.RowKit Go.Sort Go.Proofs.Ytonoadjmglkhaaa Go.Proofs.Ytonoadjmglkhaaa.Rw Go.Proofs.Ytonoadjmglkhaaa.Nm Go.Proofs.Ytonoadjmglkhaaa.Pr Go.Proofs.Ytonoadjmglkhaaa.Bk

abbrev cmpD (x y : XAd) : Int := cmpJ (x.1, x.2.1) (y.1, y.2.1)
abbrev cmpW (x y : XOw) : Int := cmpJ (x.1, x.2.1) (y.1, y.2.1)
/-- Each is above the one ahead of it. -/
def riseB {α : Type} (c : α → α → Int) : List α → Bool
  | x :: y :: l => decide (c x y < 0) && riseB c (y :: l)
  | _ => true
theorem riseB_all {α : Type} {c : α → α → Int} : ∀ {l : List α}, (∀ (k : Nat) (x y : α), l[k]? = some x → l[k + 1]? = some y → c x y < 0) → riseB c l = true
  | [], _ => rfl
  | [_], _ => rfl
  | x :: y :: l, h => by
    unfold riseB
    rw [decide_eq_true (h 0 x y rfl rfl), Bool.true_and]
    exact riseB_all fun k a b ha hb => h (k + 1) a b (by simpa using ha) (by simpa using hb)
theorem riseB_not {α : Type} {c : α → α → Int} : ∀ {l : List α} {k : Nat} {x y : α}, l[k]? = some x → l[k + 1]? = some y → ¬ c x y < 0 → riseB c l = false
  | [], k, x, y, h, _, _ => by simp at h
  | [_], 0, x, y, _, h, _ => by simp at h
  | [_], k + 1, x, y, h, _, _ => by simp at h
  | a :: b :: l, 0, x, y, h1, h2, h3 => by
    simp at h1 h2
    subst h1 h2
    unfold riseB
    rw [decide_eq_false h3, Bool.false_and]
  | a :: b :: l, k + 1, x, y, h1, h2, h3 => by
    unfold riseB
    rw [riseB_not (l := b :: l) (k := k) (by simpa using h1) (by simpa using h2) h3, Bool.and_false]
theorem call_cpI (args : Array Value) (w : World) : (callFunc 30 args).run Try.prog w = .ok (.enter 30 args) w := call_cmp args w
theorem elrI {W W1 : World} {v : Value} {l : List Int} {ao : Option Addr} {n c k : Nat} {x : Int} (h : Row EI W v l) (hv : v = .slice ao n c) (hn : l.length = n) (hk : l[k]? = some x) (hb : Below W.heap.size W W1) :
    ∃ p : Addr, (∀ w, (Instr.indexAt 27 (.slice ao n c) (.int .i64 k)).run Try.prog w = .ok (.pointer (some p)) w) ∧ (∀ d os, (grow (redrawn W1 d) os).cell? p = some (.int .i64 x)) := by
  obtain ⟨p, h1, h2⟩ := elI h hv hn hk
  have h3 := h2.2 _ hb
  exact ⟨p, h1, cell_regrown h3⟩
theorem creI (c d : Int) (r : Int) (hr : cmpI c d = r) (w : World) (k : Nat) (os : Array Obj) :
    Calls Try.prog 30 #[.int .i64 c, .int .i64 d] (grow (redrawn w k) os) fun e w'' => e = .returned (.int .i64 r) ∧ ∃ p : Regrown, w'' = grow (redrawn w p.d) p.os := by
  subst hr
  exact (compare_any c d _).mono fun e w' h => ⟨h.1, ⟨k, os⟩, h.2⟩
theorem calI (args : Array Value) (w : World) : (callFunc 30 args).run Try.prog w = .ok (.enter 30 args) w := call_fn Try.func30 rfl rfl args w
set_option maxRecDepth 100000 in
set_option maxHeartbeats 8000000 in
theorem riseI_any (v : Value) (l : List Int) (w : World) (hv : Row EI w v l) :
    Calls Try.prog 29 #[v, .func (.func 30) #[] #[]] w fun e w' => e = .returned (.bool (riseB cmpI l)) ∧ Below w.heap.size w w' := by
  have HL := Lib.hid hv
  have lm := hv.most
  unfold maxLen at lm
  obtain ⟨ao, ac, rfl⟩ := hv.len
  obtain ⟨n, hn⟩ : ∃ n, n = l.length := ⟨_, rfl⟩
  rw [← hn] at HL lm ⊢
  have HN := Lib.hid hn.symm
  clear hv hn
  go_enter Try.func29, Try.ntmps29
  go_wp2
  go_loopw [5] (fun i wr => ∃ k : Nat, (k + 1 ≤ n ∨ n = 0 ∧ k = 0) ∧ i = .int .i64 ((k + 1 : Nat) : Int) ∧ Below w.heap.size w wr ∧ ∀ (j : Nat) (x y : Int), j < k → l[j]? = some x → l[j + 1]? = some y → cmpI x y < 0) (fun i _ => n + 1 - (intOf i).toNat)
  case atStart => exact ⟨0, by omega, rfl, Below.refl _ _, fun j x y h => by omega⟩
  case round =>
    obtain ⟨k, hk, rfl, hbe, hall⟩ := hrel
    have BE := Lib.hid hbe
    have AL := Lib.hid hall
    clear hbe hall
    by_cases hlt : k + 1 < n
    · obtain ⟨x, hx⟩ : ∃ x, l[k]? = some x := ⟨_, List.getElem?_eq_getElem (by rw [HN.out]; omega)⟩
      obtain ⟨y, hy⟩ : ∃ y, l[k + 1]? = some y := ⟨_, List.getElem?_eq_getElem (by rw [HN.out]; omega)⟩
      obtain ⟨p, ix, p0⟩ := elrI HL.out rfl HN.out hx BE.out
      obtain ⟨q, iy, q0⟩ := elrI HL.out rfl HN.out hy BE.out
      rw [show ((k + 1 : Nat) : Int) = (k : Int) + 1 by omega] at iy
      obtain ⟨r, hr⟩ : ∃ r, cmpI x y = r := ⟨_, rfl⟩
      have C := creI x y r hr wr
      have HX := Lib.hid hx
      have HY := Lib.hid hy
      have HR := Lib.hid hr
      have BN := Lib.hid (fun dq osq => BE.out.trans ((below_regrown wr dq osq).mono BE.out.size))
      have w1 : IntKind.i64.wrap ((k : Int) + 1 - 1) = k := by rw [show (k : Int) + 1 - 1 = k by omega]; exact IntWalk.i64_in _ (by omega)
      have w2 : IntKind.i64.wrap ((k : Int) + 1 + 1) = (k : Int) + 1 + 1 := IntWalk.i64_in _ (by omega)
      clear hx hy hr
      by_cases hneg : r < 0
      · have d0 : decide ((0 : Int) ≤ r) = false := by simp; omega
        go_wp2
        refine wp_region_quiet_below (by kernel_rfl) (by kernel_rfl) ?_
        repeat (go_big_quiet_step (first | (with_reducible exact C _ _) | exact calI _ _))
        refine wpQuiet_nil ?_
        intro _ hw'
        obtain ⟨⟨dq, osq⟩, hw''⟩ := hw'
        subst hw''
        clear ix iy p0 q0 C w1 d0
        go_wp2
        go_roundw
        case rel => exact ⟨k + 1, by omega, by go_num, BN.out _ _, fun j a b hj h1 h2 => by
          rcases Nat.lt_or_ge j k with h3 | h3
          · exact AL.out j a b h3 h1 h2
          · obtain rfl : j = k := by omega
            have e1 := HX.out
            have e2 := HY.out
            rw [h1] at e1
            rw [h2] at e2
            rw [Option.some.inj e1, Option.some.inj e2, HR.out]
            exact hneg⟩
        case measure => simp [intOf]; omega
      · have d0 : decide ((0 : Int) ≤ r) = true := by simp; omega
        have RR := Lib.hid (show riseB cmpI l = false from riseB_not HX.out HY.out (by rw [HR.out]; exact hneg))
        go_wp2
        refine wp_region_quiet_below (by kernel_rfl) (by kernel_rfl) ?_
        repeat (go_big_quiet_step (first | (with_reducible exact C _ _) | exact calI _ _))
        refine wpQuiet_nil ?_
        intro _ hw'
        obtain ⟨⟨dq, osq⟩, hw''⟩ := hw'
        subst hw''
        clear ix iy p0 q0 C w1 d0
        go_wp2
        go_ret
        exact ⟨by rw [RR.out]; rfl, BN.out _ _⟩
    · have RR := Lib.hid (show riseB cmpI l = true from riseB_all fun j x y h1 h2 => AL.out j x y (by have := (List.getElem?_eq_some_iff.1 h2).1; have := HN.out; omega) h1 h2)
      go_wp2
      go_ret
      exact ⟨by rw [RR.out]; rfl, BE.out⟩
theorem elrJ {W W1 : World} {v : Value} {l : List XID} {ao : Option Addr} {n c k : Nat} {x : XID} (h : Row EJ W v l) (hv : v = .slice ao n c) (hn : l.length = n) (hk : l[k]? = some x) (hb : Below W.heap.size W W1) :
    ∃ p : Addr, (∀ w, (Instr.indexAt 29 (.slice ao n c) (.int .i64 k)).run Try.prog w = .ok (.pointer (some p)) w) ∧ (∀ d os, (grow (redrawn W1 d) os).cell? p = some (.int .i64 x.1)) ∧ (∀ d os, (grow (redrawn W1 d) os).cell? ⟨p.block, p.off + 1, none⟩ = some (.int .i64 x.2)) := by
  obtain ⟨p, h1, h2⟩ := elJ h hv hn hk
  have h3 := h2 _ hb
  exact ⟨p, h1, cell_regrown h3.1, cell_regrown h3.2⟩
theorem creJ (c d : XID) (r : Int) (hr : cmpJ c d = r) (w : World) (k : Nat) (os : Array Obj) :
    Calls Try.prog 20 #[idv c, idv d] (grow (redrawn w k) os) fun e w'' => e = .returned (.int .i64 r) ∧ ∃ p : Regrown, w'' = grow (redrawn w p.d) p.os := by
  subst hr
  exact Calls.regrown_of (byID_any c d _)
theorem calJ (args : Array Value) (w : World) : (callFunc 20 args).run Try.prog w = .ok (.enter 20 args) w := call_fn Try.func20 rfl rfl args w
set_option maxRecDepth 100000 in
set_option maxHeartbeats 8000000 in
theorem riseJ_any (v : Value) (l : List XID) (w : World) (hv : Row EJ w v l) :
    Calls Try.prog 31 #[v, .func (.func 20) #[] #[]] w fun e w' => e = .returned (.bool (riseB cmpJ l)) ∧ Below w.heap.size w w' := by
  have HL := Lib.hid hv
  have lm := hv.most
  unfold maxLen at lm
  obtain ⟨ao, ac, rfl⟩ := hv.len
  obtain ⟨n, hn⟩ : ∃ n, n = l.length := ⟨_, rfl⟩
  rw [← hn] at HL lm ⊢
  have HN := Lib.hid hn.symm
  clear hv hn
  go_enter Try.func31, Try.ntmps31
  go_wp2
  go_loopw [5] (fun i wr => ∃ k : Nat, (k + 1 ≤ n ∨ n = 0 ∧ k = 0) ∧ i = .int .i64 ((k + 1 : Nat) : Int) ∧ Below w.heap.size w wr ∧ ∀ (j : Nat) (x y : XID), j < k → l[j]? = some x → l[j + 1]? = some y → cmpJ x y < 0) (fun i _ => n + 1 - (intOf i).toNat)
  case atStart => exact ⟨0, by omega, rfl, Below.refl _ _, fun j x y h => by omega⟩
  case round =>
    obtain ⟨k, hk, rfl, hbe, hall⟩ := hrel
    have BE := Lib.hid hbe
    have AL := Lib.hid hall
    clear hbe hall
    by_cases hlt : k + 1 < n
    · obtain ⟨x, hx⟩ : ∃ x, l[k]? = some x := ⟨_, List.getElem?_eq_getElem (by rw [HN.out]; omega)⟩
      obtain ⟨y, hy⟩ : ∃ y, l[k + 1]? = some y := ⟨_, List.getElem?_eq_getElem (by rw [HN.out]; omega)⟩
      obtain ⟨p, ix, p0, p1⟩ := elrJ HL.out rfl HN.out hx BE.out
      obtain ⟨q, iy, q0, q1⟩ := elrJ HL.out rfl HN.out hy BE.out
      rw [show ((k + 1 : Nat) : Int) = (k : Int) + 1 by omega] at iy
      obtain ⟨r, hr⟩ : ∃ r, cmpJ x y = r := ⟨_, rfl⟩
      have C := creJ x y r hr wr
      have HX := Lib.hid hx
      have HY := Lib.hid hy
      have HR := Lib.hid hr
      have BN := Lib.hid (fun dq osq => BE.out.trans ((below_regrown wr dq osq).mono BE.out.size))
      have w1 : IntKind.i64.wrap ((k : Int) + 1 - 1) = k := by rw [show (k : Int) + 1 - 1 = k by omega]; exact IntWalk.i64_in _ (by omega)
      have w2 : IntKind.i64.wrap ((k : Int) + 1 + 1) = (k : Int) + 1 + 1 := IntWalk.i64_in _ (by omega)
      clear hx hy hr
      obtain ⟨x1, x2⟩ := x
      obtain ⟨y1, y2⟩ := y
      simp only at p0 p1 q0 q1 C
      by_cases hneg : r < 0
      · have d0 : decide ((0 : Int) ≤ r) = false := by simp; omega
        go_wp2
        refine wp_region_quiet_below (by kernel_rfl) (by kernel_rfl) ?_
        repeat (go_big_quiet_step (first | (with_reducible exact C _ _) | exact calJ _ _))
        refine wpQuiet_nil ?_
        intro _ hw'
        obtain ⟨⟨dq, osq⟩, hw''⟩ := hw'
        subst hw''
        clear ix iy p0 p1 q0 q1 C w1 d0
        go_wp2
        go_roundw
        case rel => exact ⟨k + 1, by omega, by go_num, BN.out _ _, fun j a b hj h1 h2 => by
          rcases Nat.lt_or_ge j k with h3 | h3
          · exact AL.out j a b h3 h1 h2
          · obtain rfl : j = k := by omega
            have e1 := HX.out
            have e2 := HY.out
            rw [h1] at e1
            rw [h2] at e2
            rw [Option.some.inj e1, Option.some.inj e2, HR.out]
            exact hneg⟩
        case measure => simp [intOf]; omega
      · have d0 : decide ((0 : Int) ≤ r) = true := by simp; omega
        have RR := Lib.hid (show riseB cmpJ l = false from riseB_not HX.out HY.out (by rw [HR.out]; exact hneg))
        go_wp2
        refine wp_region_quiet_below (by kernel_rfl) (by kernel_rfl) ?_
        repeat (go_big_quiet_step (first | (with_reducible exact C _ _) | exact calJ _ _))
        refine wpQuiet_nil ?_
        intro _ hw'
        obtain ⟨⟨dq, osq⟩, hw''⟩ := hw'
        subst hw''
        clear ix iy p0 p1 q0 q1 C w1 d0
        go_wp2
        go_ret
        exact ⟨by rw [RR.out]; rfl, BN.out _ _⟩
    · have RR := Lib.hid (show riseB cmpJ l = true from riseB_all fun j x y h1 h2 => AL.out j x y (by have := (List.getElem?_eq_some_iff.1 h2).1; have := HN.out; omega) h1 h2)
      go_wp2
      go_ret
      exact ⟨by rw [RR.out]; rfl, BE.out⟩
theorem elrD {W W1 : World} {v : Value} {l : List XAd} {ao : Option Addr} {n c k : Nat} {x : XAd} (h : Row ED W v l) (hv : v = .slice ao n c) (hn : l.length = n) (hk : l[k]? = some x) (hb : Below W.heap.size W W1) :
    ∃ p : Addr, (∀ w, (Instr.indexAt 28 (.slice ao n c) (.int .i64 k)).run Try.prog w = .ok (.pointer (some p)) w) ∧ (∀ d os, (grow (redrawn W1 d) os).cell? p = some (.int .i64 x.1)) ∧ (∀ d os, (grow (redrawn W1 d) os).cell? ⟨p.block, p.off + 1, none⟩ = some (.int .i64 x.2.1)) ∧ (∀ d os, (grow (redrawn W1 d) os).cell? ⟨p.block, p.off + 2, none⟩ = some (slv x.2.2.1)) ∧ (∀ d os, (grow (redrawn W1 d) os).cell? ⟨p.block, p.off + 3, none⟩ = some (.int .i64 x.2.2.2)) := by
  obtain ⟨p, h1, h2⟩ := elD h hv hn hk
  have h3 := h2 _ hb
  exact ⟨p, h1, cell_regrown h3.1, cell_regrown h3.2.1, cell_regrown h3.2.2.1, cell_regrown h3.2.2.2⟩
theorem creD (c d : XAd) (r : Int) (hr : cmpD c d = r) (w : World) (k : Nat) (os : Array Obj) :
    Calls Try.prog 18 #[valD c, valD d] (grow (redrawn w k) os) fun e w'' => e = .returned (.int .i64 r) ∧ ∃ p : Regrown, w'' = grow (redrawn w p.d) p.os := by
  subst hr
  exact Calls.regrown_of (inAdv_any c d _)
theorem calD (args : Array Value) (w : World) : (callFunc 18 args).run Try.prog w = .ok (.enter 18 args) w := call_fn Try.func18 rfl rfl args w
set_option maxRecDepth 100000 in
set_option maxHeartbeats 8000000 in
theorem riseD_any (v : Value) (l : List XAd) (w : World) (hv : Row ED w v l) :
    Calls Try.prog 32 #[v, .func (.func 18) #[] #[]] w fun e w' => e = .returned (.bool (riseB cmpD l)) ∧ Below w.heap.size w w' := by
  have HL := Lib.hid hv
  have lm := hv.most
  unfold maxLen at lm
  obtain ⟨ao, ac, rfl⟩ := hv.len
  obtain ⟨n, hn⟩ : ∃ n, n = l.length := ⟨_, rfl⟩
  rw [← hn] at HL lm ⊢
  have HN := Lib.hid hn.symm
  clear hv hn
  go_enter Try.func32, Try.ntmps32
  go_wp2
  go_loopw [5] (fun i wr => ∃ k : Nat, (k + 1 ≤ n ∨ n = 0 ∧ k = 0) ∧ i = .int .i64 ((k + 1 : Nat) : Int) ∧ Below w.heap.size w wr ∧ ∀ (j : Nat) (x y : XAd), j < k → l[j]? = some x → l[j + 1]? = some y → cmpD x y < 0) (fun i _ => n + 1 - (intOf i).toNat)
  case atStart => exact ⟨0, by omega, rfl, Below.refl _ _, fun j x y h => by omega⟩
  case round =>
    obtain ⟨k, hk, rfl, hbe, hall⟩ := hrel
    have BE := Lib.hid hbe
    have AL := Lib.hid hall
    clear hbe hall
    by_cases hlt : k + 1 < n
    · obtain ⟨x, hx⟩ : ∃ x, l[k]? = some x := ⟨_, List.getElem?_eq_getElem (by rw [HN.out]; omega)⟩
      obtain ⟨y, hy⟩ : ∃ y, l[k + 1]? = some y := ⟨_, List.getElem?_eq_getElem (by rw [HN.out]; omega)⟩
      obtain ⟨p, ix, p0, p1, p2, p3⟩ := elrD HL.out rfl HN.out hx BE.out
      obtain ⟨q, iy, q0, q1, q2, q3⟩ := elrD HL.out rfl HN.out hy BE.out
      rw [show ((k + 1 : Nat) : Int) = (k : Int) + 1 by omega] at iy
      obtain ⟨r, hr⟩ : ∃ r, cmpD x y = r := ⟨_, rfl⟩
      have C := creD x y r hr wr
      have HX := Lib.hid hx
      have HY := Lib.hid hy
      have HR := Lib.hid hr
      have BN := Lib.hid (fun dq osq => BE.out.trans ((below_regrown wr dq osq).mono BE.out.size))
      have w1 : IntKind.i64.wrap ((k : Int) + 1 - 1) = k := by rw [show (k : Int) + 1 - 1 = k by omega]; exact IntWalk.i64_in _ (by omega)
      have w2 : IntKind.i64.wrap ((k : Int) + 1 + 1) = (k : Int) + 1 + 1 := IntWalk.i64_in _ (by omega)
      clear hx hy hr
      obtain ⟨x1, x2, ⟨xo, xn, xc⟩, x4⟩ := x
      obtain ⟨y1, y2, ⟨yo, yn, yc⟩, y4⟩ := y
      simp only at p0 p1 p2 p3 q0 q1 q2 q3 C
      by_cases hneg : r < 0
      · have d0 : decide ((0 : Int) ≤ r) = false := by simp; omega
        go_wp2
        refine wp_region_quiet_below (by kernel_rfl) (by kernel_rfl) ?_
        repeat (go_big_quiet_step (first | (with_reducible exact C _ _) | exact calD _ _))
        refine wpQuiet_nil ?_
        intro _ hw'
        obtain ⟨⟨dq, osq⟩, hw''⟩ := hw'
        subst hw''
        clear ix iy p0 p1 p2 p3 q0 q1 q2 q3 C w1 d0
        go_wp2
        go_roundw
        case rel => exact ⟨k + 1, by omega, by go_num, BN.out _ _, fun j a b hj h1 h2 => by
          rcases Nat.lt_or_ge j k with h3 | h3
          · exact AL.out j a b h3 h1 h2
          · obtain rfl : j = k := by omega
            have e1 := HX.out
            have e2 := HY.out
            rw [h1] at e1
            rw [h2] at e2
            rw [Option.some.inj e1, Option.some.inj e2, HR.out]
            exact hneg⟩
        case measure => simp [intOf]; omega
      · have d0 : decide ((0 : Int) ≤ r) = true := by simp; omega
        have RR := Lib.hid (show riseB cmpD l = false from riseB_not HX.out HY.out (by rw [HR.out]; exact hneg))
        go_wp2
        refine wp_region_quiet_below (by kernel_rfl) (by kernel_rfl) ?_
        repeat (go_big_quiet_step (first | (with_reducible exact C _ _) | exact calD _ _))
        refine wpQuiet_nil ?_
        intro _ hw'
        obtain ⟨⟨dq, osq⟩, hw''⟩ := hw'
        subst hw''
        clear ix iy p0 p1 p2 p3 q0 q1 q2 q3 C w1 d0
        go_wp2
        go_ret
        exact ⟨by rw [RR.out]; rfl, BN.out _ _⟩
    · have RR := Lib.hid (show riseB cmpD l = true from riseB_all fun j x y h1 h2 => AL.out j x y (by have := (List.getElem?_eq_some_iff.1 h2).1; have := HN.out; omega) h1 h2)
      go_wp2
      go_ret
      exact ⟨by rw [RR.out]; rfl, BE.out⟩
theorem elrN {W W1 : World} {v : Value} {l : List XEn} {ao : Option Addr} {n c k : Nat} {x : XEn} (h : Row EN W v l) (hv : v = .slice ao n c) (hn : l.length = n) (hk : l[k]? = some x) (hb : Below W.heap.size W W1) :
    ∃ p : Addr, (∀ w, (Instr.indexAt 30 (.slice ao n c) (.int .i64 k)).run Try.prog w = .ok (.pointer (some p)) w) ∧ (∀ d os, (grow (redrawn W1 d) os).cell? p = some (.int .i64 x.1)) ∧ (∀ d os, (grow (redrawn W1 d) os).cell? ⟨p.block, p.off + 1, none⟩ = some (.int .i64 x.2.1)) ∧ (∀ d os, (grow (redrawn W1 d) os).cell? ⟨p.block, p.off + 2, none⟩ = some (.int .i64 x.2.2.1)) ∧ (∀ d os, (grow (redrawn W1 d) os).cell? ⟨p.block, p.off + 3, none⟩ = some (.int .i64 x.2.2.2.1)) ∧ (∀ d os, (grow (redrawn W1 d) os).cell? ⟨p.block, p.off + 4, none⟩ = some (slv x.2.2.2.2.1)) ∧ (∀ d os, (grow (redrawn W1 d) os).cell? ⟨p.block, p.off + 5, none⟩ = some (.int .i64 x.2.2.2.2.2.1)) ∧ (∀ d os, (grow (redrawn W1 d) os).cell? ⟨p.block, p.off + 6, none⟩ = some (.bool x.2.2.2.2.2.2)) := by
  obtain ⟨p, h1, h2⟩ := elN h hv hn hk
  have h3 := h2 _ hb
  exact ⟨p, h1, cell_regrown h3.1, cell_regrown h3.2.1, cell_regrown h3.2.2.1, cell_regrown h3.2.2.2.1, cell_regrown h3.2.2.2.2.1, cell_regrown h3.2.2.2.2.2.1, cell_regrown h3.2.2.2.2.2.2⟩
theorem creN (c d : XEn) (r : Int) (hr : cmpN c d = r) (w : World) (k : Nat) (os : Array Obj) :
    Calls Try.prog 34 #[valN c, valN d] (grow (redrawn w k) os) fun e w'' => e = .returned (.int .i64 r) ∧ ∃ p : Regrown, w'' = grow (redrawn w p.d) p.os := by
  subst hr
  exact Calls.regrown_of (inEnt_any c d _)
theorem calN (args : Array Value) (w : World) : (callFunc 34 args).run Try.prog w = .ok (.enter 34 args) w := call_fn Try.func34 rfl rfl args w
set_option maxRecDepth 100000 in
set_option maxHeartbeats 8000000 in
theorem riseN_any (v : Value) (l : List XEn) (w : World) (hv : Row EN w v l) :
    Calls Try.prog 33 #[v, .func (.func 34) #[] #[]] w fun e w' => e = .returned (.bool (riseB cmpN l)) ∧ Below w.heap.size w w' := by
  have HL := Lib.hid hv
  have lm := hv.most
  unfold maxLen at lm
  obtain ⟨ao, ac, rfl⟩ := hv.len
  obtain ⟨n, hn⟩ : ∃ n, n = l.length := ⟨_, rfl⟩
  rw [← hn] at HL lm ⊢
  have HN := Lib.hid hn.symm
  clear hv hn
  go_enter Try.func33, Try.ntmps33
  go_wp2
  go_loopw [5] (fun i wr => ∃ k : Nat, (k + 1 ≤ n ∨ n = 0 ∧ k = 0) ∧ i = .int .i64 ((k + 1 : Nat) : Int) ∧ Below w.heap.size w wr ∧ ∀ (j : Nat) (x y : XEn), j < k → l[j]? = some x → l[j + 1]? = some y → cmpN x y < 0) (fun i _ => n + 1 - (intOf i).toNat)
  case atStart => exact ⟨0, by omega, rfl, Below.refl _ _, fun j x y h => by omega⟩
  case round =>
    obtain ⟨k, hk, rfl, hbe, hall⟩ := hrel
    have BE := Lib.hid hbe
    have AL := Lib.hid hall
    clear hbe hall
    by_cases hlt : k + 1 < n
    · obtain ⟨x, hx⟩ : ∃ x, l[k]? = some x := ⟨_, List.getElem?_eq_getElem (by rw [HN.out]; omega)⟩
      obtain ⟨y, hy⟩ : ∃ y, l[k + 1]? = some y := ⟨_, List.getElem?_eq_getElem (by rw [HN.out]; omega)⟩
      obtain ⟨p, ix, p0, p1, p2, p3, p4, p5, p6⟩ := elrN HL.out rfl HN.out hx BE.out
      obtain ⟨q, iy, q0, q1, q2, q3, q4, q5, q6⟩ := elrN HL.out rfl HN.out hy BE.out
      rw [show ((k + 1 : Nat) : Int) = (k : Int) + 1 by omega] at iy
      obtain ⟨r, hr⟩ : ∃ r, cmpN x y = r := ⟨_, rfl⟩
      have C := creN x y r hr wr
      have HX := Lib.hid hx
      have HY := Lib.hid hy
      have HR := Lib.hid hr
      have BN := Lib.hid (fun dq osq => BE.out.trans ((below_regrown wr dq osq).mono BE.out.size))
      have w1 : IntKind.i64.wrap ((k : Int) + 1 - 1) = k := by rw [show (k : Int) + 1 - 1 = k by omega]; exact IntWalk.i64_in _ (by omega)
      have w2 : IntKind.i64.wrap ((k : Int) + 1 + 1) = (k : Int) + 1 + 1 := IntWalk.i64_in _ (by omega)
      clear hx hy hr
      obtain ⟨x1, x2, x3, x4, ⟨xo, xn, xc⟩, x6, x7⟩ := x
      obtain ⟨y1, y2, y3, y4, ⟨yo, yn, yc⟩, y6, y7⟩ := y
      simp only at p0 p1 p2 p3 p4 p5 p6 q0 q1 q2 q3 q4 q5 q6 C
      by_cases hneg : r < 0
      · have d0 : decide ((0 : Int) ≤ r) = false := by simp; omega
        go_wp2
        refine wp_region_quiet_below (by kernel_rfl) (by kernel_rfl) ?_
        repeat (go_big_quiet_step (first | (with_reducible exact C _ _) | exact calN _ _))
        refine wpQuiet_nil ?_
        intro _ hw'
        obtain ⟨⟨dq, osq⟩, hw''⟩ := hw'
        subst hw''
        clear ix iy p0 p1 p2 p3 p4 p5 p6 q0 q1 q2 q3 q4 q5 q6 C w1 d0
        go_wp2
        go_roundw
        case rel => exact ⟨k + 1, by omega, by go_num, BN.out _ _, fun j a b hj h1 h2 => by
          rcases Nat.lt_or_ge j k with h3 | h3
          · exact AL.out j a b h3 h1 h2
          · obtain rfl : j = k := by omega
            have e1 := HX.out
            have e2 := HY.out
            rw [h1] at e1
            rw [h2] at e2
            rw [Option.some.inj e1, Option.some.inj e2, HR.out]
            exact hneg⟩
        case measure => simp [intOf]; omega
      · have d0 : decide ((0 : Int) ≤ r) = true := by simp; omega
        have RR := Lib.hid (show riseB cmpN l = false from riseB_not HX.out HY.out (by rw [HR.out]; exact hneg))
        go_wp2
        refine wp_region_quiet_below (by kernel_rfl) (by kernel_rfl) ?_
        repeat (go_big_quiet_step (first | (with_reducible exact C _ _) | exact calN _ _))
        refine wpQuiet_nil ?_
        intro _ hw'
        obtain ⟨⟨dq, osq⟩, hw''⟩ := hw'
        subst hw''
        clear ix iy p0 p1 p2 p3 p4 p5 p6 q0 q1 q2 q3 q4 q5 q6 C w1 d0
        go_wp2
        go_ret
        exact ⟨by rw [RR.out]; rfl, BN.out _ _⟩
    · have RR := Lib.hid (show riseB cmpN l = true from riseB_all fun j x y h1 h2 => AL.out j x y (by have := (List.getElem?_eq_some_iff.1 h2).1; have := HN.out; omega) h1 h2)
      go_wp2
      go_ret
      exact ⟨by rw [RR.out]; rfl, BE.out⟩
theorem elrW {W W1 : World} {v : Value} {l : List XOw} {ao : Option Addr} {n c k : Nat} {x : XOw} (h : Row EW W v l) (hv : v = .slice ao n c) (hn : l.length = n) (hk : l[k]? = some x) (hb : Below W.heap.size W W1) :
    ∃ p : Addr, (∀ w, (Instr.indexAt 31 (.slice ao n c) (.int .i64 k)).run Try.prog w = .ok (.pointer (some p)) w) ∧ (∀ d os, (grow (redrawn W1 d) os).cell? p = some (.int .i64 x.1)) ∧ (∀ d os, (grow (redrawn W1 d) os).cell? ⟨p.block, p.off + 1, none⟩ = some (.int .i64 x.2.1)) ∧ (∀ d os, (grow (redrawn W1 d) os).cell? ⟨p.block, p.off + 2, none⟩ = some (slv x.2.2)) := by
  obtain ⟨p, h1, h2⟩ := elW h hv hn hk
  have h3 := h2 _ hb
  exact ⟨p, h1, cell_regrown h3.1, cell_regrown h3.2.1, cell_regrown h3.2.2⟩
theorem creW (c d : XOw) (r : Int) (hr : cmpW c d = r) (w : World) (k : Nat) (os : Array Obj) :
    Calls Try.prog 36 #[valW c, valW d] (grow (redrawn w k) os) fun e w'' => e = .returned (.int .i64 r) ∧ ∃ p : Regrown, w'' = grow (redrawn w p.d) p.os := by
  subst hr
  exact Calls.regrown_of (inOwn_any c d _)
theorem calW (args : Array Value) (w : World) : (callFunc 36 args).run Try.prog w = .ok (.enter 36 args) w := call_fn Try.func36 rfl rfl args w
set_option maxRecDepth 100000 in
set_option maxHeartbeats 8000000 in
theorem riseW_any (v : Value) (l : List XOw) (w : World) (hv : Row EW w v l) :
    Calls Try.prog 35 #[v, .func (.func 36) #[] #[]] w fun e w' => e = .returned (.bool (riseB cmpW l)) ∧ Below w.heap.size w w' := by
  have HL := Lib.hid hv
  have lm := hv.most
  unfold maxLen at lm
  obtain ⟨ao, ac, rfl⟩ := hv.len
  obtain ⟨n, hn⟩ : ∃ n, n = l.length := ⟨_, rfl⟩
  rw [← hn] at HL lm ⊢
  have HN := Lib.hid hn.symm
  clear hv hn
  go_enter Try.func35, Try.ntmps35
  go_wp2
  go_loopw [5] (fun i wr => ∃ k : Nat, (k + 1 ≤ n ∨ n = 0 ∧ k = 0) ∧ i = .int .i64 ((k + 1 : Nat) : Int) ∧ Below w.heap.size w wr ∧ ∀ (j : Nat) (x y : XOw), j < k → l[j]? = some x → l[j + 1]? = some y → cmpW x y < 0) (fun i _ => n + 1 - (intOf i).toNat)
  case atStart => exact ⟨0, by omega, rfl, Below.refl _ _, fun j x y h => by omega⟩
  case round =>
    obtain ⟨k, hk, rfl, hbe, hall⟩ := hrel
    have BE := Lib.hid hbe
    have AL := Lib.hid hall
    clear hbe hall
    by_cases hlt : k + 1 < n
    · obtain ⟨x, hx⟩ : ∃ x, l[k]? = some x := ⟨_, List.getElem?_eq_getElem (by rw [HN.out]; omega)⟩
      obtain ⟨y, hy⟩ : ∃ y, l[k + 1]? = some y := ⟨_, List.getElem?_eq_getElem (by rw [HN.out]; omega)⟩
      obtain ⟨p, ix, p0, p1, p2⟩ := elrW HL.out rfl HN.out hx BE.out
      obtain ⟨q, iy, q0, q1, q2⟩ := elrW HL.out rfl HN.out hy BE.out
      rw [show ((k + 1 : Nat) : Int) = (k : Int) + 1 by omega] at iy
      obtain ⟨r, hr⟩ : ∃ r, cmpW x y = r := ⟨_, rfl⟩
      have C := creW x y r hr wr
      have HX := Lib.hid hx
      have HY := Lib.hid hy
      have HR := Lib.hid hr
      have BN := Lib.hid (fun dq osq => BE.out.trans ((below_regrown wr dq osq).mono BE.out.size))
      have w1 : IntKind.i64.wrap ((k : Int) + 1 - 1) = k := by rw [show (k : Int) + 1 - 1 = k by omega]; exact IntWalk.i64_in _ (by omega)
      have w2 : IntKind.i64.wrap ((k : Int) + 1 + 1) = (k : Int) + 1 + 1 := IntWalk.i64_in _ (by omega)
      clear hx hy hr
      obtain ⟨x1, x2, ⟨xo, xn, xc⟩⟩ := x
      obtain ⟨y1, y2, ⟨yo, yn, yc⟩⟩ := y
      simp only at p0 p1 p2 q0 q1 q2 C
      by_cases hneg : r < 0
      · have d0 : decide ((0 : Int) ≤ r) = false := by simp; omega
        go_wp2
        refine wp_region_quiet_below (by kernel_rfl) (by kernel_rfl) ?_
        repeat (go_big_quiet_step (first | (with_reducible exact C _ _) | exact calW _ _))
        refine wpQuiet_nil ?_
        intro _ hw'
        obtain ⟨⟨dq, osq⟩, hw''⟩ := hw'
        subst hw''
        clear ix iy p0 p1 p2 q0 q1 q2 C w1 d0
        go_wp2
        go_roundw
        case rel => exact ⟨k + 1, by omega, by go_num, BN.out _ _, fun j a b hj h1 h2 => by
          rcases Nat.lt_or_ge j k with h3 | h3
          · exact AL.out j a b h3 h1 h2
          · obtain rfl : j = k := by omega
            have e1 := HX.out
            have e2 := HY.out
            rw [h1] at e1
            rw [h2] at e2
            rw [Option.some.inj e1, Option.some.inj e2, HR.out]
            exact hneg⟩
        case measure => simp [intOf]; omega
      · have d0 : decide ((0 : Int) ≤ r) = true := by simp; omega
        have RR := Lib.hid (show riseB cmpW l = false from riseB_not HX.out HY.out (by rw [HR.out]; exact hneg))
        go_wp2
        refine wp_region_quiet_below (by kernel_rfl) (by kernel_rfl) ?_
        repeat (go_big_quiet_step (first | (with_reducible exact C _ _) | exact calW _ _))
        refine wpQuiet_nil ?_
        intro _ hw'
        obtain ⟨⟨dq, osq⟩, hw''⟩ := hw'
        subst hw''
        clear ix iy p0 p1 p2 q0 q1 q2 C w1 d0
        go_wp2
        go_ret
        exact ⟨by rw [RR.out]; rfl, BN.out _ _⟩
    · have RR := Lib.hid (show riseB cmpW l = true from riseB_all fun j x y h1 h2 => AL.out j x y (by have := (List.getElem?_eq_some_iff.1 h2).1; have := HN.out; omega) h1 h2)
      go_wp2
      go_ret
      exact ⟨by rw [RR.out]; rfl, BE.out⟩
end Go.Proofs.Ytonoadjmglkhaaa.Av
