/-
  The region of Learn that puts the advertisement in its place. Conditions: they rise; at most 900 of them.
-/
import Derived.Test.YtncogjpmboglhaaQ024
import Derived.Test.YtncogjpmboglhaaQ013
import Derived.Test.YtncogjpmboglhaaQ008
namespace Go.Proofs.Ytncogjpmboglhaa.Av
open Go.RowKit Go.Sort Go.Proofs.Ytncogjpmboglhaa Go.Proofs.Ytncogjpmboglhaa.Rw Go.Proofs.Ytncogjpmboglhaa.Nm Go.Proofs.Ytncogjpmboglhaa.Pr Go.Proofs.Ytncogjpmboglhaa.Bk

def lrn4V (B : Nat) (b1 _b2 : Nat) (_me : Int) (_z1 : Value) (o2 : Option Addr) (n2 c2 : Nat) (_z3 _z4 _z5 : Value) (y1 y2 : Int) (yo : Option Addr) (yn yc : Nat) (y4 : Int) (p : List C5) (i : Nat) (v : Value) (x : World) : Prop :=
  match i with
  | 0 => v = .pointer (some ⟨b1, 2, none⟩)
  | 1 => v = .slice o2 n2 c2
  | 2 => v = .agg #[.int .i64 y1, .int .i64 y2, .slice yo yn yc, .int .i64 y4]
  | 3 => ∃ s : Sl, v = valD (y1, y2, s, y4) ∧ OwnC x B (slv s) p
  | _ => True
noncomputable def lrn4C : Code := ((Try.f7.body.bind (findRegion 4)).getD .skip)
theorem lrn4V_on (B : Nat) (b1 b2 : Nat) (me : Int) (z1 : Value) (o2 : Option Addr) (n2 c2 : Nat) (z3 z4 z5 : Value) (y1 y2 : Int) (yo : Option Addr) (yn yc : Nat) (y4 : Int) (p : List C5) (i : Nat) (v : Value) (x x' : World) (h : lrn4V B b1 b2 me z1 o2 n2 c2 z3 z4 z5 y1 y2 yo yn yc y4 p i v x) (hb : Below x.heap.size x x') : lrn4V B b1 b2 me z1 o2 n2 c2 z3 z4 z5 y1 y2 yo yn yc y4 p i v x' := by
  by_cases hi : i < 4
  · rcases (by omega : i = 0 ∨ i = 1 ∨ i = 2 ∨ i = 3) with rfl | rfl | rfl | rfl
    · exact h
    · exact h
    · exact h
    · obtain ⟨s, h1, h2⟩ := h; exact ⟨s, h1, Bk.own_on h2 hb⟩
  · unfold lrn4V
    split <;> first | omega | trivial
set_option maxRecDepth 100000 in
set_option maxHeartbeats 8000000 in
theorem lrn4 (Q : Exit → Act → World → Prop) (W : World) (B0 : Nat) (l : List XAd) (b1 b2 : Nat) (me : Int) (z1 : Value) (o2 : Option Addr) (n2 c2 : Nat) (z3 z4 z5 : Value) (y1 y2 : Int) (yo : Option Addr) (yn yc : Nat) (y4 : Int) (p : List C5) (u0 u1 u4 u5 u6 u7 u8 u9 u10 u11 u12 u13 u14 u15 u16 u17 u18 u19 u20 u21 u22 u23 u24 u25 : Value)
    (h1 : Box W b1 #[.int .i64 me, z1, .slice o2 n2 c2, z3, z4, z5] 34) (h2 : Box W b2 #[.int .i64 y1, .int .i64 y2, .slice yo yn yc, .int .i64 y4] 39) (ho : OwnD W B0 (.slice o2 n2 c2) l) (hr : RiseK keyD l) (hl : l.length ≤ 900) (hB : B0 ≤ W.heap.size) (hb0 : b1 < B0) (hp : RowC W (.slice yo yn yc) p) (lp : p.length ≤ 900)
    (hQ : ∀ (w1 : World) (v13 v14 v15 v16 v17 v18 : Value) (s1 : Option Addr) (s2 s3 : Nat) (t1 : Option Addr) (t2 t3 : Nat), Box w1 b1 #[.int .i64 me, z1, .slice o2 n2 c2, z3, z4, z5] 34 → OwnD w1 B0 (.slice t1 t2 t3) (insAt l (placeK keyD l (y1, y2)) (y1, y2, (s1, s2, s3), y4)) → OwnC w1 W.heap.size (.slice s1 s2 s3) p → Off (slv (o2, n2, c2)).ownBlock W w1 → Below B0 W w1 → Q .normal ⟨(u0 :: u1 :: .pointer (some ⟨b1, 0, none⟩) :: .pointer (some ⟨b2, 0, none⟩) :: u4 :: u5 :: u6 :: u7 :: u8 :: u9 :: u10 :: u11 :: u12 :: v13 :: v14 :: v15 :: v16 :: v17 :: v18 :: u19 :: u20 :: u21 :: u22 :: u23 :: u24 :: u25 :: []).toArray, []⟩ (w1.setCell ⟨b1, 2, none⟩ (.slice t1 t2 t3))) :
    Code.wp Try.prog lrn4C Q ⟨(u0 :: u1 :: .pointer (some ⟨b1, 0, none⟩) :: .pointer (some ⟨b2, 0, none⟩) :: u4 :: u5 :: u6 :: u7 :: u8 :: u9 :: u10 :: u11 :: u12 :: u13 :: u14 :: u15 :: u16 :: u17 :: u18 :: u19 :: u20 :: u21 :: u22 :: u23 :: u24 :: u25 :: []).toArray, []⟩ W := by
  have HQ := Lib.hid hQ
  have H1 := Lib.hid h1
  have H2 := Lib.hid h2
  have HO := Lib.hid ho
  have HR := Lib.hid hr
  have HL := Lib.hid hl
  have HB := Lib.hid hB
  have H0 := Lib.hid hb0
  have HP := Lib.hid hp
  have LP := Lib.hid lp
  clear hQ h1 h2 ho hr hl hB hb0 hp lp
  have stab := lrn4V_on W.heap.size b1 b2 me z1 o2 n2 c2 z3 z4 z5 y1 y2 yo yn yc y4 p
  unfold lrn4C
  conv => arg 2; whnf
  have nd : ∀ j, (j < 13 ∨ 17 ≤ j) → ∀ i, i < 4 → (fun i => 13 + i) i ≠ j := by
    intro j hj i hi h
    simp only at h
    omega
  refine Rg.region_live 7 4 (fun i => 13 + i) (fun _ => 4) (lrn4V W.heap.size b1 b2 me z1 o2 n2 c2 z3 z4 z5 y1 y2 yo yn yc y4 p) (by kernel_rfl) (by kernel_rfl) rfl (by decide) (fun i j _ _ h => by have h2 : 13 + i = 13 + j := h; omega) (fun i hi => by show 13 + i < 26; omega) ?_ (fun _ => Rg.hall_of 14 (by kernel_rfl)) ?_ ?_
  · intro i o hi ho a x D hnd hc hD hb seen K hK
    clear HQ
    rcases (by omega : i = 0 ∨ i = 1 ∨ i = 2 ∨ i = 3) with rfl | rfl | rfl | rfl
    · obtain rfl := Option.some.inj ho
      have e2 : a.eval (.tmp 2) = .pointer (some ⟨b1, 0, none⟩) := seen.kp 2 _ (nd 2 (by omega)) rfl
      exact Rg.op_value rfl rfl (Rg.ex_field a.eval _ 34 (.tmp 2) 2 rfl (by rw [e2]; simp [go_sem])) (hK _ _ rfl (Below.refl _ _) fun _ _ _ _ _ _ _ h => h)
    · obtain rfl := Option.some.inj ho
      have e13 : a.eval (.tmp 13) = .pointer (some ⟨b1, 2, none⟩) := seen.at_ ⟨0, .data⟩ (by simp) rfl (Or.inr (by decide))
      have y2 := (H1.out.on hb).cell 2
      simp only [List.getElem?_toArray, List.getElem?_cons_zero, List.getElem?_cons_succ] at y2
      exact Rg.op_value rfl rfl (Rg.ex_load a.eval _ 29 (.tmp 13) rfl (by rw [e13]; simp [go_sem, y2])) (hK _ _ rfl (Below.refl _ _) fun _ _ _ _ _ _ _ h => h)
    · obtain rfl := Option.some.inj ho
      have e3 : a.eval (.tmp 3) = .pointer (some ⟨b2, 0, none⟩) := seen.kp 3 _ (nd 3 (by omega)) rfl
      have y0 := (H2.out.on hb).cell 0
      have y1 := (H2.out.on hb).cell 1
      have y2 := (H2.out.on hb).cell 2
      have y3 := (H2.out.on hb).cell 3
      simp only [List.getElem?_toArray, List.getElem?_cons_zero, List.getElem?_cons_succ] at y0 y1 y2 y3
      exact Rg.op_value rfl rfl (Rg.ex_load a.eval _ 39 (.tmp 3) rfl (by rw [e3]; simp [go_sem, y0, y1, y2, y3])) (hK _ _ rfl (Below.refl _ _) fun _ _ _ _ _ _ _ h => h)
    · obtain rfl := Option.some.inj ho
      have e15 : a.eval (.tmp 15) = .agg #[.int .i64 y1, .int .i64 y2, .slice yo yn yc, .int .i64 y4] := seen.at_ ⟨2, .data⟩ (by simp) rfl (Or.inr (by decide))
      exact Rg.op_call rfl rfl (Rw.ex_call1 a.eval _ (.tmp 15) 39 22 rfl e15 rfl _ (call_fn Try.func22 rfl rfl _ _)) (cpAd_any (y1, y2, (yo, yn, yc), y4) p x (HP.out.on hb) LP.out) fun e w1 h => by
        obtain ⟨⟨s, rfl, h1⟩, h3⟩ := h
        exact ⟨_, rfl, hK _ _ ⟨s, rfl, own_fewer h1 hb.size⟩ (h3.mono hb.size) fun j u hj _ _ _ hne h => stab j u _ _ h h3⟩
  · intro kk o h1 h2 ho
    rcases (by omega : kk = 5 ∨ kk = 6) with rfl | rfl
    · obtain rfl := Option.some.inj ho
      exact ⟨⟨4, .phase⟩, by simp, rfl, rfl⟩
    · obtain rfl := Option.some.inj ho
      exact ⟨⟨5, .data⟩, by simp, rfl, rfl⟩
  · intro a w' df sz kp ⟨vs, hv⟩ hb
    have sz' : a.tmps.size = 26 := sz
    have g2 : a.tmps[2]? = some (.pointer (some ⟨b1, 0, none⟩)) := (kp 2 (nd 2 (by omega))).trans rfl
    have g14 : a.tmps[14]? = some (.slice o2 n2 c2) := by
      have h : vs 1 = .slice o2 n2 c2 := (hv 1 (by omega)).2 (by decide)
      rw [← h]
      exact (hv 1 (by omega)).1
    obtain ⟨⟨s1, s2, s3⟩, hs, hc⟩ := (hv 3 (by omega)).2 (by decide)
    have g16 : a.tmps[16]? = some (valD (y1, y2, (s1, s2, s3), y4)) := ((hv 3 (by omega)).1).trans (congrArg some hs)
    have B1 := H1.out.on hb
    show Rg.SeqFrom _ _ _ 3 4 a w'
    simp only [Rg.SeqFrom]
    refine Rg.op_call rfl rfl (ex_call3g a.eval _ (.tmp 14) (.tmp 16) (.func 23) 29 39 62 21 rfl (Rg.eval_some g14) (Rg.eval_some g16) rfl rfl _ (call_fn Try.func21 rfl rfl _ _)) (putD_any B0 (o2, n2, c2) l (y1, y2, (s1, s2, s3), y4) w' (Bk.own_on HO.out hb) HR.out HL.out (Nat.le_trans HB.out hb.size)) fun e w1 h => ?_
    obtain ⟨⟨⟨t1, t2, t3⟩, rfl, hown⟩, hbel, hoth⟩ := h
    refine ⟨_, rfl, ?_⟩
    have hp17 : (a.put (some 17) (.slice t1 t2 t3)).tmps[17]? = some (.slice t1 t2 t3) := by simp [Act.put, sz']
    show Go.wpOp _ _ _ 5 _ (a.put (some 17) (.slice t1 t2 t3)) _
    refine Rg.op_value rfl rfl (Rg.ex_field _ _ 34 (.tmp 2) 2 rfl (v := .pointer (some ⟨b1, 2, none⟩)) (by rw [Rg.eval_some ((Rg.get_put _ 17 _ 2 (by decide)).trans g2)]; simp [go_sem])) ?_
    have hp18 : ((a.put (some 17) (.slice t1 t2 t3)).put (some 18) (.pointer (some ⟨b1, 2, none⟩))).tmps[18]? = some (.pointer (some ⟨b1, 2, none⟩)) := by simp [Act.put, sz']
    show Go.wpOp _ _ _ 6 _ ((a.put (some 17) (.slice t1 t2 t3)).put (some 18) (.pointer (some ⟨b1, 2, none⟩))) _
    have B2 : Box w1 b1 _ _ := (hbel.block b1 H0.out).trans B1
    have cx := B2.cell 2
    have fx := B2.fr 2
    simp only [List.getElem?_toArray, List.getElem?_cons_zero, List.getElem?_cons_succ] at cx
    refine Rg.op_store 29 (.tmp 18) (.tmp 17) rfl rfl rfl rfl (Rg.eval_some hp18) (Rg.eval_some ((Rg.get_put _ 18 _ 17 (by decide)).trans hp17)) (w' := w1.setCell ⟨b1, 2, none⟩ (.slice t1 t2 t3)) (by simp [go_sem, cx, fx]) ?_
    have of1 : Off (slv (o2, n2, c2)).ownBlock w' w1 := ⟨hoth, hbel.size⟩
    have of2 : Off (slv (o2, n2, c2)).ownBlock W w1 := ⟨fun j hj hne => (hoth j (Nat.lt_of_lt_of_le hj hb.size) hne).trans (hb.block j hj), Nat.le_trans hb.size hbel.size⟩
    have kp2 : ∀ j, (j < 13 ∨ 19 ≤ j) → ((a.put (some 17) (.slice t1 t2 t3)).put (some 18) (.pointer (some ⟨b1, 2, none⟩))).tmps[j]? = (u0 :: u1 :: .pointer (some ⟨b1, 0, none⟩) :: .pointer (some ⟨b2, 0, none⟩) :: u4 :: u5 :: u6 :: u7 :: u8 :: u9 :: u10 :: u11 :: u12 :: u13 :: u14 :: u15 :: u16 :: u17 :: u18 :: u19 :: u20 :: u21 :: u22 :: u23 :: u24 :: u25 :: [])[j]? := fun j hj => (Rg.get_put _ 18 _ j (by omega)).trans ((Rg.get_put _ 17 _ j (by omega)).trans ((kp j (nd j (by omega))).trans List.getElem?_toArray))
    obtain ⟨mid, hmid, hfr⟩ := Rg.frame_mid (a := (a.put (some 17) (.slice t1 t2 t3)).put (some 18) (.pointer (some ⟨b1, 2, none⟩))) (bl := (u0 :: u1 :: .pointer (some ⟨b1, 0, none⟩) :: .pointer (some ⟨b2, 0, none⟩) :: u4 :: u5 :: u6 :: u7 :: u8 :: u9 :: u10 :: u11 :: u12 :: u13 :: u14 :: u15 :: u16 :: u17 :: u18 :: u19 :: u20 :: u21 :: u22 :: u23 :: u24 :: u25 :: [])) 13 6 df (by simp [Rg.size_put, sz']) (by simp) kp2
    show Q .normal ((a.put (some 17) (.slice t1 t2 t3)).put (some 18) (.pointer (some ⟨b1, 2, none⟩))) _
    rw [hfr]
    match mid, hmid with
    | [v13, v14, v15, v16, v17, v18], _ =>
      exact HQ.out w1 _ _ _ _ _ _ s1 s2 s3 t1 t2 t3 B2 hown (of1.own hc (tag_own (Bk.own_on HO.out hb)) (by decide)) of2 ((hb.mono HB.out).trans hbel)
end Go.Proofs.Ytncogjpmboglhaa.Av
