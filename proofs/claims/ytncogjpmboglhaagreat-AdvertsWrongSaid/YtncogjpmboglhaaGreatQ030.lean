/-
  The region of Copy in which Adverts, Entries and Owns are cloned. Conditions as told.
-/
import Derived.Test.YtncogjpmboglhaaGreatQ017
import Derived.Test.YtncogjpmboglhaaGreatQ018
import Derived.Test.YtncogjpmboglhaaGreatQ001
import Derived.Test.YtncogjpmboglhaaGreatQ016
import Derived.BigRegion
set_option maxRecDepth 100000
set_option maxHeartbeats 64000000
namespace Go.Proofs.YtncogjpmboglhaaGreat.Av
open Go.RowKit Go.Sort Rw YtncogjpmboglhaaGreat.Nm Pr Bk
def cp2V (B : Nat) (b1 : Nat) (_me : Int) (_z1 _z3 : Value) (o2 : Option Addr) (n2 c2 : Nat) (al : List XAd) (o4 : Option Addr) (n4 c4 : Nat) (el : List XEn) (o5 : Option Addr) (n5 c5 : Nat) (ol : List XOw) (i : Nat) (v : Value) (x : World) : Prop :=
 match i with
 | 0 => v = .pointer (some ⟨b1,2,none⟩)
 | 1 => v = .slice o2 n2 c2
 | 2 => ∃ s : Sl,v = slv s ∧ OwnD x B v al
 | 3 => v = .pointer (some ⟨b1,4,none⟩)
 | 4 => v = .slice o4 n4 c4
 | 5 => ∃ s : Sl,v = slv s ∧ OwnN x B v el
 | 6 => v = .pointer (some ⟨b1,5,none⟩)
 | 7 => v = .slice o5 n5 c5
 | 8 => ∃ s : Sl,v = slv s ∧ OwnW x B v ol
 | 9 => v = .pointer (some ⟨b1,2,none⟩)
 | _ => True
noncomputable def cp2C : Code := ((Tryz.f76.body.bind (findRegion 2)).getD .skip)
theorem cp2V_on (B : Nat) (b1 : Nat) (me : Int) (z1 z3 : Value) (o2 : Option Addr) (n2 c2 : Nat) (al : List XAd) (o4 : Option Addr) (n4 c4 : Nat) (el : List XEn) (o5 : Option Addr) (n5 c5 : Nat) (ol : List XOw) (i : Nat) (v : Value) (x x' : World) (h : cp2V B b1 me z1 z3 o2 n2 c2 al o4 n4 c4 el o5 n5 c5 ol i v x) (hb : Below x.heap.size x x') : cp2V B b1 me z1 z3 o2 n2 c2 al o4 n4 c4 el o5 n5 c5 ol i v x' := by
 by_cases hi : i < 10
 ·rcases (by omega : i = 0 ∨ i = 1 ∨ i = 2 ∨ i = 3 ∨ i = 4 ∨ i = 5 ∨ i = 6 ∨ i = 7 ∨ i = 8 ∨ i = 9) with rfl | rfl | rfl | rfl | rfl | rfl | rfl | rfl | rfl | rfl
  ·exact h
  ·exact h
  ·obtain ⟨s,h1,h2⟩ := h; exact ⟨s,h1,Bk.own_on h2 hb⟩
  ·exact h
  ·exact h
  ·obtain ⟨s,h1,h2⟩ := h; exact ⟨s,h1,Bk.own_on h2 hb⟩
  ·exact h
  ·exact h
  ·obtain ⟨s,h1,h2⟩ := h; exact ⟨s,h1,Bk.own_on h2 hb⟩
  ·exact h
 ·unfold cp2V
  split <;> first | omega | trivial
theorem cp2 (Q : Exit → Act → World → Prop) (W : World) (b1 : Nat) (me : Int) (z1 z3 : Value) (o2 : Option Addr) (n2 c2 : Nat) (al : List XAd) (o4 : Option Addr) (n4 c4 : Nat) (el : List XEn) (o5 : Option Addr) (n5 c5 : Nat) (ol : List XOw) (u0 u2 u3 u4 u5 u6 u7 u8 u9 u10 u11 u12 u13 u14 u15 u16 u17 u18 u19 u20 u21 u22 u23 u24 u25 u26 u27 u28 u29 u30 u31 u32 u33 u34 u35 u36 u37 u38 u39 u40 u41 u42 u43 u44 u45 u46 u47 u48 u49 u50 u51 u52 u53 u54 u55 u56 u57 u58 u59 u60 u61 u62 u63 u64 u65 u66 u67 u68 u69 u70 u71 u72 u73 u74 u75 u76 u77 u78 u79 u80 u81 : Value)
  (h1 : Box W b1 #[.int .i64 me,z1,.slice o2 n2 c2,z3,.slice o4 n4 c4,.slice o5 n5 c5] 31) (r2 : RowD W (.slice o2 n2 c2) al) (r4 : RowN W (.slice o4 n4 c4) el) (r5 : RowW W (.slice o5 n5 c5) ol) (l2 : al.length ≤ 900) (l4 : el.length ≤ 900) (l5 : ol.length ≤ 900)
  (hQ : ∀ (x : World) (v14 v15 v16 v17 v18 v19 v20 v21 v22 v23 v24 v25 : Value) (p2 : Option Addr) (q2 s2 : Nat) (p4 : Option Addr) (q4 s4 : Nat) (p5 : Option Addr) (q5 s5 : Nat),Box x b1 #[.int .i64 me,z1,.slice p2 q2 s2,z3,.slice p4 q4 s4,.slice p5 q5 s5] 31 → OwnD x W.heap.size (.slice p2 q2 s2) al → OwnN x W.heap.size (.slice p4 q4 s4) el → OwnW x W.heap.size (.slice p5 q5 s5) ol → (∀ B,B ≤ b1 → Below B W x) → (∀ k,k < W.heap.size → k ≠ b1 → x.heap[k]? = W.heap[k]?) → Q .normal ⟨(u0 :: .pointer (some ⟨b1,0,none⟩) :: u2 :: u3 :: u4 :: u5 :: u6 :: u7 :: u8 :: u9 :: u10 :: u11 :: u12 :: u13 :: v14 :: v15 :: v16 :: v17 :: v18 :: v19 :: v20 :: v21 :: v22 :: v23 :: v24 :: v25 :: u26 :: u27 :: u28 :: u29 :: u30 :: u31 :: u32 :: u33 :: u34 :: u35 :: u36 :: u37 :: u38 :: u39 :: u40 :: u41 :: u42 :: u43 :: u44 :: u45 :: u46 :: u47 :: u48 :: u49 :: u50 :: u51 :: u52 :: u53 :: u54 :: u55 :: u56 :: u57 :: u58 :: u59 :: u60 :: u61 :: u62 :: u63 :: u64 :: u65 :: u66 :: u67 :: u68 :: u69 :: u70 :: u71 :: u72 :: u73 :: u74 :: u75 :: u76 :: u77 :: u78 :: u79 :: u80 :: u81 :: []).toArray,[]⟩ x) :
  Code.wp Tryz.prog cp2C Q ⟨(u0 :: .pointer (some ⟨b1,0,none⟩) :: u2 :: u3 :: u4 :: u5 :: u6 :: u7 :: u8 :: u9 :: u10 :: u11 :: u12 :: u13 :: u14 :: u15 :: u16 :: u17 :: u18 :: u19 :: u20 :: u21 :: u22 :: u23 :: u24 :: u25 :: u26 :: u27 :: u28 :: u29 :: u30 :: u31 :: u32 :: u33 :: u34 :: u35 :: u36 :: u37 :: u38 :: u39 :: u40 :: u41 :: u42 :: u43 :: u44 :: u45 :: u46 :: u47 :: u48 :: u49 :: u50 :: u51 :: u52 :: u53 :: u54 :: u55 :: u56 :: u57 :: u58 :: u59 :: u60 :: u61 :: u62 :: u63 :: u64 :: u65 :: u66 :: u67 :: u68 :: u69 :: u70 :: u71 :: u72 :: u73 :: u74 :: u75 :: u76 :: u77 :: u78 :: u79 :: u80 :: u81 :: []).toArray,[]⟩ W := by
 have HQ := Lib.hid hQ
 have H1 := Lib.hid h1
 have R2 := Lib.hid r2
 have R4 := Lib.hid r4
 have R5 := Lib.hid r5
 have L2 := Lib.hid l2
 have L4 := Lib.hid l4
 have L5 := Lib.hid l5
 clear hQ h1 r2 r4 r5 l2 l4 l5
 have stab := cp2V_on W.heap.size b1 me z1 z3 o2 n2 c2 al o4 n4 c4 el o5 n5 c5 ol
 unfold cp2C
 conv => arg 2; whnf
 have nd : ∀ j,(j < 14 ∨ 24 ≤ j) → ∀ i,i < 10 → (fun i => 14 + i) i ≠ j := by
  intro j hj i hi h
  simp only at h
  omega
 refine Rg.region_live 15 10 (fun i => 14 + i) (fun _ => 10) (cp2V W.heap.size b1 me z1 z3 o2 n2 c2 al o4 n4 c4 el o5 n5 c5 ol) (by kernel_rfl) (by kernel_rfl) rfl (by decide) (fun i j _ _ h => by have h2 : 14 + i = 14 + j := h; omega) (fun i hi => by show 14 + i < 82; omega) ?_ (fun _ => Rg.hall_of 14 (by kernel_rfl)) ?_ ?_
 ·intro i o hi ho a x D hnd hc hD hb seen K hK
  clear HQ
  rcases (by omega : i = 0 ∨ i = 1 ∨ i = 2 ∨ i = 3 ∨ i = 4 ∨ i = 5 ∨ i = 6 ∨ i = 7 ∨ i = 8 ∨ i = 9) with rfl | rfl | rfl | rfl | rfl | rfl | rfl | rfl | rfl | rfl
  ·obtain rfl := Option.some.inj ho
   have e1 : a.eval (.tmp 1) = .pointer (some ⟨b1,0,none⟩) := seen.kp 1 _ (nd 1 (by omega)) rfl
   exact Rg.op_value rfl rfl (Rg.ex_field a.eval _ 31 (.tmp 1) 2 rfl (by rw [e1]; simp [go_sem])) (hK _ _ rfl (Below.refl _ _) fun _ _ _ _ _ _ _ h => h)
  ·obtain rfl := Option.some.inj ho
   have e14 : a.eval (.tmp 14) = .pointer (some ⟨b1,2,none⟩) := seen.at_ ⟨0,.data⟩ (by simp) rfl (Or.inr (by decide))
   have y2 := (H1.out.on hb).cell 2
   simp only [List.getElem?_toArray,List.getElem?_cons_zero,List.getElem?_cons_succ] at y2
   exact Rg.op_value rfl rfl (Rg.ex_load a.eval _ 26 (.tmp 14) rfl (by rw [e14]; simp [go_sem,y2])) (hK _ _ rfl (Below.refl _ _) fun _ _ _ _ _ _ _ h => h)
  ·obtain rfl := Option.some.inj ho
   have e15 : a.eval (.tmp 15) = .slice o2 n2 c2 := seen.at_ ⟨1,.data⟩ (by simp) rfl (Or.inr (by decide))
   exact Rg.op_call rfl rfl (Rw.ex_call1 a.eval _ (.tmp 15) 26 123 rfl e15 rfl _ (call_fn Tryz.func123 rfl rfl _ _)) (cloneD_any (o2,n2,c2) al x (R2.out.on hb) L2.out) fun e w1 h => by
    obtain ⟨⟨s,rfl,h1⟩,h3⟩ := h
    exact ⟨_,rfl,hK _ _ ⟨s,rfl,own_fewer h1 hb.size⟩ (h3.mono hb.size) fun j u hj _ _ _ hne h => stab j u _ _ h h3⟩
  ·obtain rfl := Option.some.inj ho
   have e1 : a.eval (.tmp 1) = .pointer (some ⟨b1,0,none⟩) := seen.kp 1 _ (nd 1 (by omega)) rfl
   exact Rg.op_value rfl rfl (Rg.ex_field a.eval _ 31 (.tmp 1) 4 rfl (by rw [e1]; simp [go_sem])) (hK _ _ rfl (Below.refl _ _) fun _ _ _ _ _ _ _ h => h)
  ·obtain rfl := Option.some.inj ho
   have e17 : a.eval (.tmp 17) = .pointer (some ⟨b1,4,none⟩) := seen.at_ ⟨3,.data⟩ (by simp) rfl (Or.inr (by decide))
   have y4 := (H1.out.on hb).cell 4
   simp only [List.getElem?_toArray,List.getElem?_cons_zero,List.getElem?_cons_succ] at y4
   exact Rg.op_value rfl rfl (Rg.ex_load a.eval _ 28 (.tmp 17) rfl (by rw [e17]; simp [go_sem,y4])) (hK _ _ rfl (Below.refl _ _) fun _ _ _ _ _ _ _ h => h)
  ·obtain rfl := Option.some.inj ho
   have e18 : a.eval (.tmp 18) = .slice o4 n4 c4 := seen.at_ ⟨4,.data⟩ (by simp) rfl (Or.inr (by decide))
   exact Rg.op_call rfl rfl (Rw.ex_call1 a.eval _ (.tmp 18) 28 124 rfl e18 rfl _ (call_fn Tryz.func124 rfl rfl _ _)) (cloneN_any (o4,n4,c4) el x (R4.out.on hb) L4.out) fun e w1 h => by
    obtain ⟨⟨s,rfl,h1⟩,h3⟩ := h
    exact ⟨_,rfl,hK _ _ ⟨s,rfl,own_fewer h1 hb.size⟩ (h3.mono hb.size) fun j u hj _ _ _ hne h => stab j u _ _ h h3⟩
  ·obtain rfl := Option.some.inj ho
   have e1 : a.eval (.tmp 1) = .pointer (some ⟨b1,0,none⟩) := seen.kp 1 _ (nd 1 (by omega)) rfl
   exact Rg.op_value rfl rfl (Rg.ex_field a.eval _ 31 (.tmp 1) 5 rfl (by rw [e1]; simp [go_sem])) (hK _ _ rfl (Below.refl _ _) fun _ _ _ _ _ _ _ h => h)
  ·obtain rfl := Option.some.inj ho
   have e20 : a.eval (.tmp 20) = .pointer (some ⟨b1,5,none⟩) := seen.at_ ⟨6,.data⟩ (by simp) rfl (Or.inr (by decide))
   have y5 := (H1.out.on hb).cell 5
   simp only [List.getElem?_toArray,List.getElem?_cons_zero,List.getElem?_cons_succ] at y5
   exact Rg.op_value rfl rfl (Rg.ex_load a.eval _ 29 (.tmp 20) rfl (by rw [e20]; simp [go_sem,y5])) (hK _ _ rfl (Below.refl _ _) fun _ _ _ _ _ _ _ h => h)
  ·obtain rfl := Option.some.inj ho
   have e21 : a.eval (.tmp 21) = .slice o5 n5 c5 := seen.at_ ⟨7,.data⟩ (by simp) rfl (Or.inr (by decide))
   exact Rg.op_call rfl rfl (Rw.ex_call1 a.eval _ (.tmp 21) 29 125 rfl e21 rfl _ (call_fn Tryz.func125 rfl rfl _ _)) (cloneW_any (o5,n5,c5) ol x (R5.out.on hb) L5.out) fun e w1 h => by
    obtain ⟨⟨s,rfl,h1⟩,h3⟩ := h
    exact ⟨_,rfl,hK _ _ ⟨s,rfl,own_fewer h1 hb.size⟩ (h3.mono hb.size) fun j u hj _ _ _ hne h => stab j u _ _ h h3⟩
  ·obtain rfl := Option.some.inj ho
   have e1 : a.eval (.tmp 1) = .pointer (some ⟨b1,0,none⟩) := seen.kp 1 _ (nd 1 (by omega)) rfl
   exact Rg.op_value rfl rfl (Rg.ex_field a.eval _ 31 (.tmp 1) 2 rfl (by rw [e1]; simp [go_sem])) (hK _ _ rfl (Below.refl _ _) fun _ _ _ _ _ _ _ h => h)
 ·intro kk o h1 h2 ho
  rcases (by omega : kk = 11 ∨ kk = 12 ∨ kk = 13 ∨ kk = 14) with rfl | rfl | rfl | rfl
  ·obtain rfl := Option.some.inj ho
   exact ⟨⟨10,.phase⟩,by simp,rfl,rfl⟩
  ·obtain rfl := Option.some.inj ho
   exact ⟨⟨11,.data⟩,by simp,rfl,rfl⟩
  ·obtain rfl := Option.some.inj ho
   exact ⟨⟨12,.phase⟩,by simp,rfl,rfl⟩
  ·obtain rfl := Option.some.inj ho
   exact ⟨⟨13,.data⟩,by simp,rfl,rfl⟩
 ·intro a w' df sz kp ⟨vs,hv⟩ hb
  have sz' : a.tmps.size = 82 := sz
  have g1 : a.tmps[1]? = some (.pointer (some ⟨b1,0,none⟩)) := (kp 1 (nd 1 (by omega))).trans rfl
  have g23 : a.tmps[23]? = some (.pointer (some ⟨b1,2,none⟩)) := by
   have h : vs 9 = .pointer (some ⟨b1,2,none⟩) := (hv 9 (by omega)).2 (by decide)
   rw [← h]
   exact (hv 9 (by omega)).1
  obtain ⟨⟨p2,q2,s2⟩,hs2,ho2⟩ := (hv 2 (by omega)).2 (by decide)
  have g16 : a.tmps[16]? = some (.slice p2 q2 s2) := ((hv 2 (by omega)).1).trans (congrArg some hs2)
  rw [hs2] at ho2
  obtain ⟨⟨p4,q4,s4⟩,hs4,ho4⟩ := (hv 5 (by omega)).2 (by decide)
  have g19 : a.tmps[19]? = some (.slice p4 q4 s4) := ((hv 5 (by omega)).1).trans (congrArg some hs4)
  rw [hs4] at ho4
  obtain ⟨⟨p5,q5,s5⟩,hs5,ho5⟩ := (hv 8 (by omega)).2 (by decide)
  have g22 : a.tmps[22]? = some (.slice p5 q5 s5) := ((hv 8 (by omega)).1).trans (congrArg some hs5)
  rw [hs5] at ho5
  have hB := H1.out.on hb
  have hlt := H1.out.lt
  show Rg.SeqFrom _ _ _ 5 10 a w'
  simp only [Rg.SeqFrom]
  have c2x := hB.cell 2
  have f2x := hB.fr 2
  simp only [List.getElem?_toArray,List.getElem?_cons_zero,List.getElem?_cons_succ] at c2x
  refine Rg.op_store 26 (.tmp 23) (.tmp 16) rfl rfl rfl rfl (Rg.eval_some g23) (Rg.eval_some g16) (w' := (w').setCell ⟨b1,2,none⟩ (.slice p2 q2 s2)) (by simp [go_sem,c2x,f2x]) ?_
  have hB2 : Box ((w').setCell ⟨b1,2,none⟩ (.slice p2 q2 s2)) b1 #[.int .i64 me,z1,.slice p2 q2 s2,z3,.slice o4 n4 c4,.slice o5 n5 c5] 31 := by simpa using box_set (k := 2) hB (.slice p2 q2 s2)
  refine Rg.op_value rfl rfl (Rg.ex_field _ _ 31 (.tmp 1) 4 rfl (v := .pointer (some ⟨b1,4,none⟩)) (by rw [Rg.eval_some g1]; simp [go_sem])) ?_
  have hp24 : ((a).put (some 24) (.pointer (some ⟨b1,4,none⟩))).tmps[24]? = some (.pointer (some ⟨b1,4,none⟩)) := by simp [Act.put,sz']
  show Go.wpOp _ _ _ 12 _ ((a).put (some 24) (.pointer (some ⟨b1,4,none⟩))) _
  have c4x := hB2.cell 4
  have f4x := hB2.fr 4
  simp only [List.getElem?_toArray,List.getElem?_cons_zero,List.getElem?_cons_succ] at c4x
  refine Rg.op_store 28 (.tmp 24) (.tmp 19) rfl rfl rfl rfl (Rg.eval_some hp24) (Rg.eval_some ((Rg.get_put _ 24 _ 19 (by decide)).trans g19)) (w' := ((w').setCell ⟨b1,2,none⟩ (.slice p2 q2 s2)).setCell ⟨b1,4,none⟩ (.slice p4 q4 s4)) (by simp [go_sem,c4x,f4x]) ?_
  have hB4 : Box (((w').setCell ⟨b1,2,none⟩ (.slice p2 q2 s2)).setCell ⟨b1,4,none⟩ (.slice p4 q4 s4)) b1 #[.int .i64 me,z1,.slice p2 q2 s2,z3,.slice p4 q4 s4,.slice o5 n5 c5] 31 := by simpa using box_set (k := 4) hB2 (.slice p4 q4 s4)
  refine Rg.op_value rfl rfl (Rg.ex_field _ _ 31 (.tmp 1) 5 rfl (v := .pointer (some ⟨b1,5,none⟩)) (by rw [Rg.eval_some ((Rg.get_put _ 24 _ 1 (by decide)).trans g1)]; simp [go_sem])) ?_
  have hp25 : (((a).put (some 24) (.pointer (some ⟨b1,4,none⟩))).put (some 25) (.pointer (some ⟨b1,5,none⟩))).tmps[25]? = some (.pointer (some ⟨b1,5,none⟩)) := by simp [Act.put,sz']
  show Go.wpOp _ _ _ 14 _ (((a).put (some 24) (.pointer (some ⟨b1,4,none⟩))).put (some 25) (.pointer (some ⟨b1,5,none⟩))) _
  have c5x := hB4.cell 5
  have f5x := hB4.fr 5
  simp only [List.getElem?_toArray,List.getElem?_cons_zero,List.getElem?_cons_succ] at c5x
  refine Rg.op_store 29 (.tmp 25) (.tmp 22) rfl rfl rfl rfl (Rg.eval_some hp25) (Rg.eval_some ((Rg.get_put _ 25 _ 22 (by decide)).trans ((Rg.get_put _ 24 _ 22 (by decide)).trans g22))) (w' := (((w').setCell ⟨b1,2,none⟩ (.slice p2 q2 s2)).setCell ⟨b1,4,none⟩ (.slice p4 q4 s4)).setCell ⟨b1,5,none⟩ (.slice p5 q5 s5)) (by simp [go_sem,c5x,f5x]) ?_
  have hB5 : Box ((((w').setCell ⟨b1,2,none⟩ (.slice p2 q2 s2)).setCell ⟨b1,4,none⟩ (.slice p4 q4 s4)).setCell ⟨b1,5,none⟩ (.slice p5 q5 s5)) b1 #[.int .i64 me,z1,.slice p2 q2 s2,z3,.slice p4 q4 s4,.slice p5 q5 s5] 31 := by simpa using box_set (k := 5) hB4 (.slice p5 q5 s5)
  have kp2 : ∀ j,(j < 14 ∨ 26 ≤ j) → (((a).put (some 24) (.pointer (some ⟨b1,4,none⟩))).put (some 25) (.pointer (some ⟨b1,5,none⟩))).tmps[j]? = (u0 :: .pointer (some ⟨b1,0,none⟩) :: u2 :: u3 :: u4 :: u5 :: u6 :: u7 :: u8 :: u9 :: u10 :: u11 :: u12 :: u13 :: u14 :: u15 :: u16 :: u17 :: u18 :: u19 :: u20 :: u21 :: u22 :: u23 :: u24 :: u25 :: u26 :: u27 :: u28 :: u29 :: u30 :: u31 :: u32 :: u33 :: u34 :: u35 :: u36 :: u37 :: u38 :: u39 :: u40 :: u41 :: u42 :: u43 :: u44 :: u45 :: u46 :: u47 :: u48 :: u49 :: u50 :: u51 :: u52 :: u53 :: u54 :: u55 :: u56 :: u57 :: u58 :: u59 :: u60 :: u61 :: u62 :: u63 :: u64 :: u65 :: u66 :: u67 :: u68 :: u69 :: u70 :: u71 :: u72 :: u73 :: u74 :: u75 :: u76 :: u77 :: u78 :: u79 :: u80 :: u81 :: [])[j]? := fun j hj => (Rg.get_put _ 25 _ j (by omega)).trans ((Rg.get_put _ 24 _ j (by omega)).trans ((kp j (nd j (by omega))).trans List.getElem?_toArray))
  obtain ⟨mid,hmid,hfr⟩ := Rg.frame_mid (a := ((a).put (some 24) (.pointer (some ⟨b1,4,none⟩))).put (some 25) (.pointer (some ⟨b1,5,none⟩))) 14 12 df (by simp [Rg.size_put,sz']) (by simp) kp2
  show Q .normal (((a).put (some 24) (.pointer (some ⟨b1,4,none⟩))).put (some 25) (.pointer (some ⟨b1,5,none⟩))) _
  rw [hfr]
  match mid,hmid with
  | [v14,v15,v16,v17,v18,v19,v20,v21,v22,v23,v24,v25],_ =>
   exact HQ.out _ _ _ _ _ _ _ _ _ _ _ _ _ p2 q2 s2 p4 q4 s4 p5 q5 s5 hB5 (own_cell (own_cell (own_cell ho2 b1 2 (.slice p2 q2 s2) hlt) b1 4 (.slice p4 q4 s4) hlt) b1 5 (.slice p5 q5 s5) hlt) (own_cell (own_cell (own_cell ho4 b1 2 (.slice p2 q2 s2) hlt) b1 4 (.slice p4 q4 s4) hlt) b1 5 (.slice p5 q5 s5) hlt) (own_cell (own_cell (own_cell ho5 b1 2 (.slice p2 q2 s2) hlt) b1 4 (.slice p4 q4 s4) hlt) b1 5 (.slice p5 q5 s5) hlt) (fun B hBl => ((((hb.mono (Nat.le_of_lt (Nat.lt_of_le_of_lt hBl hlt))).setCell (p := ⟨b1,2,none⟩) hBl (.slice p2 q2 s2)).setCell (p := ⟨b1,4,none⟩) hBl (.slice p4 q4 s4)).setCell (p := ⟨b1,5,none⟩) hBl (.slice p5 q5 s5))) (fun k hk hne => ((RowKit.Below.heap_setCell (((w').setCell ⟨b1,2,none⟩ (.slice p2 q2 s2)).setCell ⟨b1,4,none⟩ (.slice p4 q4 s4)) ⟨b1,5,none⟩ (.slice p5 q5 s5) k hne).trans ((RowKit.Below.heap_setCell ((w').setCell ⟨b1,2,none⟩ (.slice p2 q2 s2)) ⟨b1,4,none⟩ (.slice p4 q4 s4) k hne).trans ((RowKit.Below.heap_setCell (w') ⟨b1,2,none⟩ (.slice p2 q2 s2) k hne).trans (hb.block k hk)))))
def findA (l : List Ad) (x : XID) : Option Ad := l.find? fun a => decide (a.id = x)
theorem findA_none {l : List Ad} {x : XID} (h : ∀ (j : Nat) (a : Ad),l[j]? = some a → a.id ≠ x) : findA l x = none := by
 unfold findA
 rw [List.find?_eq_none]
 intro a ha
 obtain ⟨j,hj⟩ := List.mem_iff_getElem?.1 ha
 simpa using h j a hj
theorem findA_at : ∀ {l : List Ad} {x : XID} {k : Nat} {a : Ad},l[k]? = some a → a.id = x → (∀ (j : Nat) (z : Ad),j < k → l[j]? = some z → z.id ≠ x) → findA l x = some a
 | [],_,_,_,h,_,_ => by simp at h
 | b :: l,x,0,a,h,hx,_ => by
  obtain rfl : b = a := by simpa using h
  simp [findA,hx]
 | b :: l,x,k + 1,a,h,hx,hall => by
  have hb := hall 0 b (by omega) rfl
  have ih := findA_at (l := l) (x := x) (k := k) (a := a) (by simpa using h) hx fun j z hj hz => hall (j + 1) z (by omega) (by simpa using hz)
  unfold findA at *
  rw [List.find?_cons_of_neg (by simpa using hb)]
  exact ih
def FindQ (W : World) (o : Option Ad) (w : World) (e : Ending) (w' : World) : Prop := (match o with
 | none => e = .returned (.tuple #[valD (0,0,(none,0,0),0),.bool false])
 | some a => ∃ r : XAd,e = .returned (.tuple #[valD r,.bool true]) ∧ AdIn w' r a) ∧ Below W.heap.size w w'
theorem find_any (me : Int) (nv sv ev ov : Value) (av : Sl) (l : List XAd) (al : List Ad) (x : XID) (w : World) (hs : RowD w (slv av) l) (hA : All2 (AdIn w) l al) (hf : ∀ a ∈ al,a.p.length ≤ 900) :
  Calls Tryz.prog 31 #[.agg #[.int .i64 me,nv,slv av,sv,ev,ov],idv x] w (FindQ w (findA al x) w) := by
 obtain ⟨c,d⟩ := x
 obtain ⟨so,sn,sc⟩ := av
 obtain ⟨ao,ac,hv⟩ := hs.len
 have hv : Value.slice so sn sc = .slice ao l.length ac := hv
 obtain ⟨rfl,rfl,rfl⟩ : so = ao ∧ sn = l.length ∧ sc = ac := by simpa using hv
 obtain ⟨h0,h1,h2⟩ := two_new w #[.int .i64 me,nv,.slice so l.length sc,sv,ev,ov] #[.int .i64 c,.int .i64 d] 31 38
 have h3 := newB ((w.alloc (.cells #[.int .i64 me,nv,.slice so l.length sc,sv,ev,ov] 31)).alloc (.cells #[.int .i64 c,.int .i64 d] 38)) (.cells #[.int .i64 0,.int .i64 0,.slice none 0 0,.int .i64 0] 41)
 have h4 := box_new ((w.alloc (.cells #[.int .i64 me,nv,.slice so l.length sc,sv,ev,ov] 31)).alloc (.cells #[.int .i64 c,.int .i64 d] 38)) #[.int .i64 0,.int .i64 0,.slice none 0 0,.int .i64 0] 41
 have hsz : ((w.alloc (.cells #[.int .i64 me,nv,.slice so l.length sc,sv,ev,ov] 31)).alloc (.cells #[.int .i64 c,.int .i64 d] 38)).heap.size = w.heap.size + 1 + 1 := by simp
 rw [hsz] at h4
 have B := Lib.hid (h0.trans (h3.mono h0.size))
 have HS := Lib.hid (hs.on B.out)
 have HA := Lib.hid (hA.mono fun _ _ h => h.on B.out)
 have X2 := Lib.hid (h1.on h3)
 have X3 := Lib.hid (h2.on h3)
 have X4 := Lib.hid h4
 have HF := Lib.hid hf
 have lm := hs.most
 unfold maxLen at lm
 obtain ⟨n,hn⟩ : ∃ n,n = l.length := ⟨_,rfl⟩
 have q3 := X2.out.cell 2
 simp only [List.getElem?_toArray,List.getElem?_cons_zero,List.getElem?_cons_succ] at q3
 rw [← hn] at HS X2 X3 X4 HA lm q3 B ⊢
 have HN := Lib.hid hn.symm
 obtain ⟨fo,hfo⟩ : ∃ o,o = findA al (c,d) := ⟨_,rfl⟩
 rw [← hfo]
 have FO := Lib.hid hfo
 clear h0 h1 h2 h3 h4 hs hv hn hA hf hsz hfo
 go_enter Tryz.func31,Tryz.ntmps31
 go_upto_region 1 with fail
 generalize ((w.alloc (.cells #[.int .i64 me,nv,.slice so n sc,sv,ev,ov] 31)).alloc (.cells #[.int .i64 c,.int .i64 d] 38)).alloc (.cells #[.int .i64 0,.int .i64 0,.slice none 0 0,.int .i64 0] 41) = W at *
 go_wp2
 go_loopw [11] (fun i wr => ∃ k : Nat,k ≤ n ∧ i = .int .i64 k ∧ Below W.heap.size W wr ∧ ∀ (j : Nat) (y : XAd),j < k → l[j]? = some y → (y.1,y.2.1) ≠ (c,d)) (fun i _ => n - (intOf i).toNat)
 case atStart => exact ⟨0,Nat.zero_le _,rfl,Below.refl _ _,fun j y h => by omega⟩
 case round =>
  obtain ⟨k,hk,rfl,hbe,hall⟩ := hrel
  have BE := Lib.hid hbe
  have AL := Lib.hid hall
  clear hbe hall
  by_cases hlt : k < n
  ·obtain ⟨y,hy⟩ : ∃ y,l[k]? = some y := ⟨_,List.getElem?_eq_getElem (by rw [HN.out]; exact hlt)⟩
   obtain ⟨p,ix,px⟩ := elD HS.out rfl HN.out hy
   obtain ⟨p0,p1,p2,p3⟩ := px wr BE.out
   obtain ⟨y1,y2,⟨yo,yn,yc⟩,y4⟩ := y
   simp only at p0 p1 p2 p3
   have NB := Lib.hid (newB wr (.cells #[.int .i64 y1,.int .i64 y2,.slice yo yn yc,.int .i64 y4] 41))
   obtain ⟨x0,x1⟩ := ((X3.out.on BE.out).on NB.out).cs2
   have hw3 : IntKind.i64.wrap ((k : Int) + 1) = (k : Int) + 1 := IntWalk.i64_in _ (by omega)
   obtain ⟨r,hr⟩ : ∃ r,(y1 == c && y2 == d) = r := ⟨_,rfl⟩
   have he := eqId y1 y2 c d r hr
   have HY := Lib.hid hy
   have HR := Lib.hid hr
   clear px hy hr
   cases r
   ·go_wp2
    go_roundw
    case rel => exact ⟨k + 1,by omega,by go_num,BE.out.trans (NB.out.mono BE.out.size),fun j y' hj h1 => by
     rcases Nat.lt_or_ge j k with h3 | h3
     ·exact AL.out j y' h3 h1
     ·obtain rfl : j = k := by omega
      have e1 := HY.out
      rw [h1] at e1
      rw [Option.some.inj e1]
      intro e
      obtain ⟨rfl,rfl⟩ : y1 = c ∧ y2 = d := by simpa using e
      have := HR.out
      simp at this⟩
    case measure => simp [intOf]; omega
   ·obtain ⟨a,ha⟩ : ∃ a,al[k]? = some a := ⟨_,List.getElem?_eq_getElem (by rw [← HA.out.len,HN.out]; exact hlt)⟩
    obtain ⟨z,hz1,hz2⟩ := HA.out.at k a ha
    rw [HY.out] at hz1
    obtain rfl := Option.some.inj hz1
    have BA := Lib.hid (BE.out.trans (NB.out.mono BE.out.size))
    have C := Lib.hid (cpAd_any (y1,y2,(yo,yn,yc),y4) a.p _ (hz2.2.2.on BA.out) (HF.out a (List.mem_of_getElem? ha)))
    have HZ := Lib.hid hz2
    have h8 := HR.out
    obtain ⟨rfl,rfl⟩ : y1 = c ∧ y2 = d := by simpa using h8
    have FA := Lib.hid (show fo = some a by
     rw [FO.out]
     refine findA_at ha hz2.1.symm fun j z hj hzz => ?_
     obtain ⟨u,hu1,hu2⟩ := HA.out.at j z hzz
     rw [← hu2.1]
     exact AL.out j u hj hu1)
    have X4a := (X4.out.on BE.out).on NB.out
    clear hz1 hz2 ha h8
    go_wp2_with fail
    refine C.out.mono ?_
    rintro e w1 ⟨⟨⟨u1,u2,u3⟩,rfl,ho⟩,hb⟩
    have Y1 := X4a.on hb
    have B1 := Lib.hid (BA.out.trans (hb.mono BA.out.size))
    obtain ⟨r0,r1,r2,r3⟩ := Y1.cs4
    obtain ⟨t0,t1,t2,t3⟩ := Y1.fs4
    have zz := Y1.lt
    have hs2 : w.heap.size + 1 + 1 < (wr.alloc (.cells #[.int .i64 y1,.int .i64 y2,.slice yo yn yc,.int .i64 y4] 41)).heap.size := X4a.lt
    have FB := Lib.hid (setD_box Y1 (.int .i64 y1) (.int .i64 y2) (.slice u1 u2 u3) (.int .i64 y4))
    have BL := Lib.hid (setD_below (b := w.heap.size + 1 + 1) (B.out.trans (B1.out.mono B.out.size)) (by omega) (.int .i64 y1) (.int .i64 y2) (.slice u1 u2 u3) (.int .i64 y4))
    have FW := Lib.hid (setD_own ho (w.heap.size + 1 + 1) hs2 (.int .i64 y1) (.int .i64 y2) (.slice u1 u2 u3) (.int .i64 y4))
    clear Y1 ho hb hs2 X4a
    go_wp2_with fail
    obtain ⟨v0,v1,v2,v3⟩ := FB.out.cs4
    refine bodyPost_ret (v := .tuple #[.agg #[.int .i64 y1,.int .i64 y2,.slice u1 u2 u3,.int .i64 y4],.bool true]) (by simp [results,Tryz.results31,go_sem,v0,v1,v2,v3]) rfl ?_
    rw [FA.out]
    exact ⟨⟨(y1,y2,(u1,u2,u3),y4),rfl,HZ.out.1,HZ.out.2.1,Row.of_own FW.out⟩,BL.out⟩
  ·obtain rfl : k = n := by omega
   have FA := Lib.hid (show fo = none by
    rw [FO.out]
    refine findA_none fun j z hzz => ?_
    obtain ⟨u,hu1,hu2⟩ := HA.out.at j z hzz
    rw [← hu2.1]
    exact AL.out j u (by rw [← HN.out]; exact (List.getElem?_eq_some_iff.1 hu1).1) hu1)
   have Y1 := X4.out.on BE.out
   obtain ⟨r0,r1,r2,r3⟩ := Y1.cs4
   obtain ⟨t0,t1,t2,t3⟩ := Y1.fs4
   have zz := Y1.lt
   have FB := Lib.hid (setD_box Y1 (.int .i64 0) (.int .i64 0) (.slice none 0 0) (.int .i64 0))
   have BL := Lib.hid (setD_below (b := w.heap.size + 1 + 1) (B.out.trans (BE.out.mono B.out.size)) (by omega) (.int .i64 0) (.int .i64 0) (.slice none 0 0) (.int .i64 0))
   clear Y1
   go_wp2_with fail
   obtain ⟨v0,v1,v2,v3⟩ := FB.out.cs4
   refine bodyPost_ret (v := .tuple #[.agg #[.int .i64 0,.int .i64 0,.slice none 0 0,.int .i64 0],.bool false]) (by simp [results,Tryz.results31,go_sem,v0,v1,v2,v3]) rfl ?_
   rw [FA.out]
   exact ⟨rfl,BL.out⟩
end Go.Proofs.YtncogjpmboglhaaGreat.Av
namespace Go.Proofs.YtncogjpmboglhaaGreat.Pr
open Go.RowKit Go.Sort Pu Rw Va
theorem box2 (w : World) (c d : C5) : Box ((w.alloc (.cells (cells5 c).toArray 47)).alloc (.cells (cells5 d).toArray 47)) w.heap.size (cells5 c).toArray 47 ∧ Box ((w.alloc (.cells (cells5 c).toArray 47)).alloc (.cells (cells5 d).toArray 47)) (w.heap.size + 1) (cells5 d).toArray 47 ∧ Below w.heap.size w ((w.alloc (.cells (cells5 c).toArray 47)).alloc (.cells (cells5 d).toArray 47)) := by
 refine ⟨(box_new w _ _).more _,?_,((Below.refl w.heap.size w).alloc (Nat.le_refl _) _).alloc (by simp) _⟩
 have h := box_new (w.alloc (.cells (cells5 c).toArray 47)) (cells5 d).toArray 47
 rwa [show (w.alloc (.cells (cells5 c).toArray 47)).heap.size = w.heap.size + 1 by simp] at h
theorem b3 (w : World) (o p q : Obj) : Below w.heap.size w (((w.alloc o).alloc p).alloc q) := (((Below.refl w.heap.size w).alloc (Nat.le_refl _) _).alloc (by simp) _).alloc (by simp; omega) _
end Go.Proofs.YtncogjpmboglhaaGreat.Pr
