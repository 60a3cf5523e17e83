/-
  copyMessage and Sub of package flood: messages with predicates of thei. Conditions as told.
-/
import Derived.Test.YtmklifheakemeaaGreatfr012
import Derived.Test.YtmklifheakemeaaGreatfr014
import Derived.Test.YtmklifheakemeaaGreatfr016
import Derived.Test.YtmklifheakemeaaGreatfr017
import Derived.Test.YtmklifheakemeaaGreatfr001
import Derived.Test.YtmklifheakemeaaGreatfr027
import Derived.Test.YtmklifheakemeaaGreatfr028
import Derived.Test.YtmklifheakemeaaGreatfr029
import Derived.Test.YtmklifheakemeaaGreatfr030
import Derived.Test.YtmklifheakemeaaGreatfr021
set_option maxRecDepth 100000
set_option maxHeartbeats 64000000
namespace Go.Proofs.YtmklifheakemeaaGreat.Fl
open Go.RowKit Go.Sort Rw YtmklifheakemeaaGreat.Nm Pr Bk Av
theorem eqnilA (a : Option Addr) (n c : Nat) (w : World) : (binOp .eql 39 (.slice a n c) (.slice none 0 0)).run Tryz.prog w = .ok (.bool a.isNone) w := by
 simp [go_sem,binOp,run_equal_slice_nil (P := Tryz.prog) w 39 156 a n c Tryz.underlying39]
theorem cloneA_nil (w : World) : Calls Tryz.prog 126 #[.slice none 0 0] w fun e w' => e = .returned (.slice none 0 0) ∧ Below w.heap.size w w' := by
 have q : ∀ w',(binOp .eql 39 (.slice none 0 0) (.slice none 0 0)).run Tryz.prog w' = .ok (.bool true) w' := fun w' => eqnilA none 0 0 w'
 go_enter Tryz.func126,Tryz.ntmps126
 go_wp2
 go_ret
 exact ⟨rfl,Below.refl _ _⟩
theorem storeMg {W : World} {b : Nat} {z0 z1 z2 z3 z4 z5 z6 : Value} (h : Box W b #[z0,z1,z2,z3,z4,z5,z6] 41) (a0 a1 a2 a3 a4 : Int) (o5 : Option Addr) (n5 c5 : Nat) (o6 : Option Addr) (n6 c6 : Nat) :
  (Instr.storeAt 41 (.pointer (some ⟨b,0,none⟩)) (.agg #[.int .i64 a0,.int .i64 a1,.int .i64 a2,.int .i64 a3,.int .i64 a4,.slice o5 n5 c5,.slice o6 n6 c6])).run Tryz.prog W = .ok () (setMB W b (.int .i64 a0) (.int .i64 a1) (.int .i64 a2) (.int .i64 a3) (.int .i64 a4) (.slice o5 n5 c5) (.slice o6 n6 c6)) := by
 obtain ⟨x0,x1,x2,x3,x4,x5,x6⟩ := h.cs7
 obtain ⟨f0,f1,f2,f3,f4,f5,f6⟩ := h.fs7
 simp [go_sem,x0,x1,x2,x3,x4,x5,x6,f0,f1,f2,f3,f4,f5,f6]
theorem but_setM (w : World) (b : Nat) (a0 a1 a2 a3 a4 a5 a6 : Value) : But b w (setMB w b a0 a1 a2 a3 a4 a5 a6) :=
 (((but_cell _ b _ _).trans (but_cell _ b _ _)).trans ((but_cell _ b _ _).trans (but_cell _ b _ _))).trans (((but_cell _ b _ _).trans (but_cell _ b _ _)).trans (but_cell _ b _ _))
theorem setMB_below {w W : World} {B b : Nat} (h : Below B w W) (hb : B ≤ b) (a0 a1 a2 a3 a4 a5 a6 : Value) : Below B w (setMB W b a0 a1 a2 a3 a4 a5 a6) :=
 ((((((h.setCell (p := ⟨b,0,none⟩) hb a0).setCell (p := ⟨b,1,none⟩) hb a1).setCell (p := ⟨b,2,none⟩) hb a2).setCell (p := ⟨b,3,none⟩) hb a3).setCell (p := ⟨b,4,none⟩) hb a4).setCell (p := ⟨b,5,none⟩) hb a5).setCell (p := ⟨b,6,none⟩) hb a6
def cm1V (B : Nat) (b1 : Nat) (_k _tc _ts _ic _is_ : Int) (po : Option Addr) (pn pc : Nat) (p : List C5) (i : Nat) (v : Value) (x : World) : Prop :=
 match i with
 | 0 => v = .pointer (some ⟨b1,5,none⟩)
 | 1 => v = .slice po pn pc
 | 2 => ∃ s : Sl,v = slv s ∧ OwnC x B v p
 | 3 => v = .pointer (some ⟨b1,6,none⟩)
 | 4 => v = .slice none 0 0
 | 5 => v = .slice none 0 0
 | 6 => v = .pointer (some ⟨b1,5,none⟩)
 | _ => True
noncomputable def cm1C : Code := ((Tryz.f78.body.bind (findRegion 1)).getD .skip)
theorem cm1V_on (B : Nat) (b1 : Nat) (k tc ts ic is_ : Int) (po : Option Addr) (pn pc : Nat) (p : List C5) (i : Nat) (v : Value) (x x' : World) (h : cm1V B b1 k tc ts ic is_ po pn pc p i v x) (hb : Below x.heap.size x x') : cm1V B b1 k tc ts ic is_ po pn pc p i v x' := by
 by_cases hi : i < 7
 ·rcases (by omega : i = 0 ∨ i = 1 ∨ i = 2 ∨ i = 3 ∨ i = 4 ∨ i = 5 ∨ i = 6) with rfl | rfl | rfl | rfl | rfl | rfl | rfl
  ·exact h
  ·exact h
  ·obtain ⟨s,h1,h2⟩ := h; exact ⟨s,h1,Bk.own_on h2 hb⟩
  ·exact h
  ·exact h
  ·exact h
  ·exact h
 ·unfold cm1V
  split <;> first | omega | trivial
theorem cm1 (Q : Exit → Act → World → Prop) (W : World) (b1 : Nat) (k tc ts ic is_ : Int) (po : Option Addr) (pn pc : Nat) (p : List C5) (u0 u2 u3 u4 u5 u6 u7 u8 u9 u10 u11 : Value)
  (h1 : Box W b1 #[.int .i64 k,.int .i64 tc,.int .i64 ts,.int .i64 ic,.int .i64 is_,.slice po pn pc,.slice none 0 0] 41) (r5 : RowC W (.slice po pn pc) p) (l5 : p.length ≤ 900)
  (hQ : ∀ (x : World) (v3 v4 v5 v6 v7 v8 v9 v10 : Value) (q1 : Option Addr) (q2 q3 : Nat),Box x b1 #[.int .i64 k,.int .i64 tc,.int .i64 ts,.int .i64 ic,.int .i64 is_,.slice q1 q2 q3,.slice none 0 0] 41 → OwnC x W.heap.size (.slice q1 q2 q3) p → (∀ B,B ≤ b1 → Below B W x) → But b1 W x → Q .normal ⟨(u0 :: .pointer (some ⟨b1,0,none⟩) :: u2 :: v3 :: v4 :: v5 :: v6 :: v7 :: v8 :: v9 :: v10 :: u11 :: []).toArray,[]⟩ x) :
  Code.wp Tryz.prog cm1C Q ⟨(u0 :: .pointer (some ⟨b1,0,none⟩) :: u2 :: u3 :: u4 :: u5 :: u6 :: u7 :: u8 :: u9 :: u10 :: u11 :: []).toArray,[]⟩ W := by
 have HQ := Lib.hid hQ
 have H1 := Lib.hid h1
 have R5 := Lib.hid r5
 have L5 := Lib.hid l5
 clear hQ h1 r5 l5
 have stab := cm1V_on W.heap.size b1 k tc ts ic is_ po pn pc p
 unfold cm1C
 conv => arg 2; whnf
 have nd : ∀ j,(j < 3 ∨ 10 ≤ j) → ∀ i,i < 7 → (fun i => 3 + i) i ≠ j := by
  intro j hj i hi h
  simp only at h
  omega
 refine Rg.region_live 10 7 (fun i => 3 + i) (fun _ => 7) (cm1V W.heap.size b1 k tc ts ic is_ po pn pc p) (by kernel_rfl) (by kernel_rfl) rfl (by decide) (fun i j _ _ h => by have h2 : 3 + i = 3 + j := h; omega) (fun i hi => by show 3 + i < 12; omega) ?_ (fun _ => Rg.hall_of 14 (by kernel_rfl)) ?_ ?_
 ·intro i o hi ho a x D hnd hc hD hb seen K hK
  clear HQ
  rcases (by omega : i = 0 ∨ i = 1 ∨ i = 2 ∨ i = 3 ∨ i = 4 ∨ i = 5 ∨ i = 6) with rfl | rfl | rfl | rfl | rfl | rfl | rfl
  ·obtain rfl := Option.some.inj ho
   have e1 : a.eval (.tmp 1) = .pointer (some ⟨b1,0,none⟩) := seen.kp 1 _ (nd 1 (by omega)) rfl
   exact Rg.op_value rfl rfl (Rg.ex_field a.eval _ 41 (.tmp 1) 3 rfl (by rw [e1]; simp [go_sem])) (hK _ _ rfl (Below.refl _ _) fun _ _ _ _ _ _ _ h => h)
  ·obtain rfl := Option.some.inj ho
   have e3 : a.eval (.tmp 3) = .pointer (some ⟨b1,5,none⟩) := seen.at_ ⟨0,.data⟩ (by simp) rfl (Or.inr (by decide))
   have y5 := (H1.out.on hb).cell 5
   simp only [List.getElem?_toArray,List.getElem?_cons_zero,List.getElem?_cons_succ] at y5
   exact Rg.op_value rfl rfl (Rg.ex_load a.eval _ 32 (.tmp 3) rfl (by rw [e3]; simp [go_sem,y5])) (hK _ _ rfl (Below.refl _ _) fun _ _ _ _ _ _ _ h => h)
  ·obtain rfl := Option.some.inj ho
   have e4 : a.eval (.tmp 4) = .slice po pn pc := seen.at_ ⟨1,.data⟩ (by simp) rfl (Or.inr (by decide))
   exact Rg.op_call rfl rfl (Rw.ex_call1 a.eval _ (.tmp 4) 32 123 rfl e4 rfl _ (call_fn Tryz.func123 rfl rfl _ _)) (cloneC_any (po,pn,pc) p x (R5.out.on hb) L5.out) fun e w1 h => by
    obtain ⟨⟨s,rfl,h1⟩,h3⟩ := h
    exact ⟨_,rfl,hK _ _ ⟨s,rfl,own_fewer h1 hb.size⟩ (h3.mono hb.size) fun j u hj _ _ _ hne h => stab j u _ _ h h3⟩
  ·obtain rfl := Option.some.inj ho
   have e1 : a.eval (.tmp 1) = .pointer (some ⟨b1,0,none⟩) := seen.kp 1 _ (nd 1 (by omega)) rfl
   exact Rg.op_value rfl rfl (Rg.ex_field a.eval _ 41 (.tmp 1) 4 rfl (by rw [e1]; simp [go_sem])) (hK _ _ rfl (Below.refl _ _) fun _ _ _ _ _ _ _ h => h)
  ·obtain rfl := Option.some.inj ho
   have e6 : a.eval (.tmp 6) = .pointer (some ⟨b1,6,none⟩) := seen.at_ ⟨3,.data⟩ (by simp) rfl (Or.inr (by decide))
   have y6 := (H1.out.on hb).cell 6
   simp only [List.getElem?_toArray,List.getElem?_cons_zero,List.getElem?_cons_succ] at y6
   exact Rg.op_value rfl rfl (Rg.ex_load a.eval _ 39 (.tmp 6) rfl (by rw [e6]; simp [go_sem,y6])) (hK _ _ rfl (Below.refl _ _) fun _ _ _ _ _ _ _ h => h)
  ·obtain rfl := Option.some.inj ho
   have e7 : a.eval (.tmp 7) = .slice none 0 0 := seen.at_ ⟨4,.data⟩ (by simp) rfl (Or.inr (by decide))
   exact Rg.op_call rfl rfl (Rw.ex_call1 a.eval _ (.tmp 7) 39 126 rfl e7 rfl _ (call_fn Tryz.func126 rfl rfl _ _)) (cloneA_nil x) fun e w1 h => by
    obtain ⟨rfl,h3⟩ := h
    exact ⟨_,rfl,hK _ _ rfl (h3.mono hb.size) fun j u hj _ _ _ hne h => stab j u _ _ h h3⟩
  ·obtain rfl := Option.some.inj ho
   have e1 : a.eval (.tmp 1) = .pointer (some ⟨b1,0,none⟩) := seen.kp 1 _ (nd 1 (by omega)) rfl
   exact Rg.op_value rfl rfl (Rg.ex_field a.eval _ 41 (.tmp 1) 3 rfl (by rw [e1]; simp [go_sem])) (hK _ _ rfl (Below.refl _ _) fun _ _ _ _ _ _ _ h => h)
 ·intro kk o h1 h2 ho
  rcases (by omega : kk = 8 ∨ kk = 9) with rfl | rfl
  ·obtain rfl := Option.some.inj ho
   exact ⟨⟨7,.phase⟩,by simp,rfl,rfl⟩
  ·obtain rfl := Option.some.inj ho
   exact ⟨⟨8,.data⟩,by simp,rfl,rfl⟩
 ·intro a w' df sz kp ⟨vs,hv⟩ hb
  have sz' : a.tmps.size = 12 := sz
  have g1 : a.tmps[1]? = some (.pointer (some ⟨b1,0,none⟩)) := (kp 1 (nd 1 (by omega))).trans rfl
  have g8 : a.tmps[8]? = some (.slice none 0 0) := by
   have h : vs 5 = .slice none 0 0 := (hv 5 (by omega)).2 (by decide)
   rw [← h]
   exact (hv 5 (by omega)).1
  have g9 : a.tmps[9]? = some (.pointer (some ⟨b1,5,none⟩)) := by
   have h : vs 6 = .pointer (some ⟨b1,5,none⟩) := (hv 6 (by omega)).2 (by decide)
   rw [← h]
   exact (hv 6 (by omega)).1
  obtain ⟨⟨q1,q2,q3⟩,hs,ho⟩ := (hv 2 (by omega)).2 (by decide)
  have g5 : a.tmps[5]? = some (.slice q1 q2 q3) := ((hv 2 (by omega)).1).trans (congrArg some hs)
  rw [hs] at ho
  have hB := H1.out.on hb
  have hlt := H1.out.lt
  show Rg.SeqFrom _ _ _ 3 7 a w'
  simp only [Rg.SeqFrom]
  have c5x := hB.cell 5
  have f5x := hB.fr 5
  simp only [List.getElem?_toArray,List.getElem?_cons_zero,List.getElem?_cons_succ] at c5x
  refine Rg.op_store 32 (.tmp 9) (.tmp 5) rfl rfl rfl rfl (Rg.eval_some g9) (Rg.eval_some g5) (w' := (w').setCell ⟨b1,5,none⟩ (.slice q1 q2 q3)) (by simp [go_sem,c5x,f5x]) ?_
  have hB5 : Box ((w').setCell ⟨b1,5,none⟩ (.slice q1 q2 q3)) b1 #[.int .i64 k,.int .i64 tc,.int .i64 ts,.int .i64 ic,.int .i64 is_,.slice q1 q2 q3,.slice none 0 0] 41 := by simpa using box_set (k := 5) hB (.slice q1 q2 q3)
  refine Rg.op_value rfl rfl (Rg.ex_field _ _ 41 (.tmp 1) 4 rfl (v := .pointer (some ⟨b1,6,none⟩)) (by rw [Rg.eval_some g1]; simp [go_sem])) ?_
  have hp10 : (a.put (some 10) (.pointer (some ⟨b1,6,none⟩))).tmps[10]? = some (.pointer (some ⟨b1,6,none⟩)) := by simp [Act.put,sz']
  show Go.wpOp _ _ _ 9 _ (a.put (some 10) (.pointer (some ⟨b1,6,none⟩))) _
  have c6x := hB5.cell 6
  have f6x := hB5.fr 6
  simp only [List.getElem?_toArray,List.getElem?_cons_zero,List.getElem?_cons_succ] at c6x
  refine Rg.op_store 39 (.tmp 10) (.tmp 8) rfl rfl rfl rfl (Rg.eval_some hp10) (Rg.eval_some ((Rg.get_put _ 10 _ 8 (by decide)).trans g8)) (w' := ((w').setCell ⟨b1,5,none⟩ (.slice q1 q2 q3)).setCell ⟨b1,6,none⟩ (.slice none 0 0)) (by simp [go_sem,c6x,f6x]) ?_
  have hB6 : Box (((w').setCell ⟨b1,5,none⟩ (.slice q1 q2 q3)).setCell ⟨b1,6,none⟩ (.slice none 0 0)) b1 #[.int .i64 k,.int .i64 tc,.int .i64 ts,.int .i64 ic,.int .i64 is_,.slice q1 q2 q3,.slice none 0 0] 41 := by simpa using box_set (k := 6) hB5 (.slice none 0 0)
  have kp2 : ∀ j,(j < 3 ∨ 11 ≤ j) → ((a.put (some 10) (.pointer (some ⟨b1,6,none⟩)))).tmps[j]? = (u0 :: .pointer (some ⟨b1,0,none⟩) :: u2 :: u3 :: u4 :: u5 :: u6 :: u7 :: u8 :: u9 :: u10 :: u11 :: [])[j]? := fun j hj => (Rg.get_put _ 10 _ j (by omega)).trans ((kp j (nd j (by omega))).trans List.getElem?_toArray)
  obtain ⟨mid,hmid,hfr⟩ := Rg.frame_mid (a := (a.put (some 10) (.pointer (some ⟨b1,6,none⟩)))) 3 8 df (by simp [Rg.size_put,sz']) (by simp) kp2
  show Q .normal ((a.put (some 10) (.pointer (some ⟨b1,6,none⟩)))) _
  rw [hfr]
  match mid,hmid with
  | [v3,v4,v5,v6,v7,v8,v9,v10],_ =>
   exact HQ.out _ _ _ _ _ _ _ _ _ q1 q2 q3 hB6 (own_cell (own_cell ho b1 5 (.slice q1 q2 q3) hlt) b1 6 (.slice none 0 0) hlt) (fun B hBl => (((hb.mono (Nat.le_of_lt (Nat.lt_of_le_of_lt hBl hlt))).setCell (p := ⟨b1,5,none⟩) hBl (.slice q1 q2 q3)).setCell (p := ⟨b1,6,none⟩) hBl (.slice none 0 0))) (((But.of_below hb).trans (but_cell _ b1 5 _)).trans (but_cell _ b1 6 _))
def sbr1V (B : Nat) (b1 _b2 : Nat) (y1 y2 y3 y4 : Int) (po : Option Addr) (pn pc : Nat) (_y6 : Int) (_y7 : Bool) (p : List C5) (i : Nat) (v : Value) (x : World) : Prop :=
 match i with
 | 0 => v = .pointer (some ⟨b1,0,none⟩)
 | 1 => v = .agg #[.int .i64 y1,.int .i64 y2]
 | 2 => v = .pointer (some ⟨b1,2,none⟩)
 | 3 => v = .agg #[.int .i64 y3,.int .i64 y4]
 | 4 => v = .pointer (some ⟨b1,4,none⟩)
 | 5 => v = .slice po pn pc
 | 6 => ∃ s : Sl,v = slv s ∧ OwnC x B (slv s) p
 | 7 => ∃ s : Sl,v = .agg #[.int .i64 3,.int .i64 y1,.int .i64 y2,.int .i64 y3,.int .i64 y4,slv s,.slice none 0 0] ∧ OwnC x B (slv s) p
 | _ => True
noncomputable def sbr1C : Code := ((Tryz.f95.body.bind (findRegion 1)).getD .skip)
theorem sbr1V_on (B : Nat) (b1 b2 : Nat) (y1 y2 y3 y4 : Int) (po : Option Addr) (pn pc : Nat) (y6 : Int) (y7 : Bool) (p : List C5) (i : Nat) (v : Value) (x x' : World) (h : sbr1V B b1 b2 y1 y2 y3 y4 po pn pc y6 y7 p i v x) (hb : Below x.heap.size x x') : sbr1V B b1 b2 y1 y2 y3 y4 po pn pc y6 y7 p i v x' := by
 by_cases hi : i < 8
 ·rcases (by omega : i = 0 ∨ i = 1 ∨ i = 2 ∨ i = 3 ∨ i = 4 ∨ i = 5 ∨ i = 6 ∨ i = 7) with rfl | rfl | rfl | rfl | rfl | rfl | rfl | rfl
  ·exact h
  ·exact h
  ·exact h
  ·exact h
  ·exact h
  ·exact h
  ·obtain ⟨s,h1,h2⟩ := h; exact ⟨s,h1,Bk.own_on h2 hb⟩
  ·obtain ⟨s,h1,h2⟩ := h; exact ⟨s,h1,Bk.own_on h2 hb⟩
 ·unfold sbr1V
  split <;> first | omega | trivial
theorem sbr1 (Q : Exit → Act → World → Prop) (W : World) (b1 b2 : Nat) (y1 y2 y3 y4 : Int) (po : Option Addr) (pn pc : Nat) (y6 : Int) (y7 : Bool) (p : List C5) (u0 u3 u4 u5 u6 u7 u8 u9 u10 : Value)
  (h1 : Box W b1 #[.int .i64 y1,.int .i64 y2,.int .i64 y3,.int .i64 y4,.slice po pn pc,.int .i64 y6,.bool y7] 66) (h2 : Box W b2 #[.int .i64 0,.int .i64 0,.int .i64 0,.int .i64 0,.int .i64 0,.slice none 0 0,.slice none 0 0] 41) (r5 : RowC W (.slice po pn pc) p) (l5 : p.length ≤ 900)
  (hQ : ∀ (x : World) (v3 v4 v5 v6 v7 v8 v9 v10 : Value) (q1 : Option Addr) (q2 q3 : Nat),Box x b2 #[.int .i64 3,.int .i64 y1,.int .i64 y2,.int .i64 y3,.int .i64 y4,.slice q1 q2 q3,.slice none 0 0] 41 → OwnC x W.heap.size (.slice q1 q2 q3) p → (∀ B,B ≤ b2 → Below B W x) → Q .normal ⟨(u0 :: .pointer (some ⟨b1,0,none⟩) :: .pointer (some ⟨b2,0,none⟩) :: v3 :: v4 :: v5 :: v6 :: v7 :: v8 :: v9 :: v10 :: []).toArray,[]⟩ x) :
  Code.wp Tryz.prog sbr1C Q ⟨(u0 :: .pointer (some ⟨b1,0,none⟩) :: .pointer (some ⟨b2,0,none⟩) :: u3 :: u4 :: u5 :: u6 :: u7 :: u8 :: u9 :: u10 :: []).toArray,[]⟩ W := by
 have HQ := Lib.hid hQ
 have H1 := Lib.hid h1
 have H2 := Lib.hid h2
 have R5 := Lib.hid r5
 have L5 := Lib.hid l5
 clear hQ h1 h2 r5 l5
 have stab := sbr1V_on W.heap.size b1 b2 y1 y2 y3 y4 po pn pc y6 y7 p
 unfold sbr1C
 conv => arg 2; whnf
 have nd : ∀ j,(j < 3 ∨ 11 ≤ j) → ∀ i,i < 8 → (fun i => 3 + i) i ≠ j := by
  intro j hj i hi h
  simp only at h
  omega
 refine Rg.region_live 9 8 (fun i => 3 + i) (fun _ => 8) (sbr1V W.heap.size b1 b2 y1 y2 y3 y4 po pn pc y6 y7 p) (by kernel_rfl) (by kernel_rfl) rfl (by decide) (fun i j _ _ h => by have h2 : 3 + i = 3 + j := h; omega) (fun i hi => by show 3 + i < 11; omega) ?_ (fun _ => Rg.hall_of 14 (by kernel_rfl)) ?_ ?_
 ·intro i o hi ho a x D hnd hc hD hb seen K hK
  clear HQ
  rcases (by omega : i = 0 ∨ i = 1 ∨ i = 2 ∨ i = 3 ∨ i = 4 ∨ i = 5 ∨ i = 6 ∨ i = 7) with rfl | rfl | rfl | rfl | rfl | rfl | rfl | rfl
  ·obtain rfl := Option.some.inj ho
   have e1 : a.eval (.tmp 1) = .pointer (some ⟨b1,0,none⟩) := seen.kp 1 _ (nd 1 (by omega)) rfl
   exact Rg.op_value rfl rfl (Rg.ex_field a.eval _ 66 (.tmp 1) 0 rfl (by rw [e1]; simp [go_sem])) (hK _ _ rfl (Below.refl _ _) fun _ _ _ _ _ _ _ h => h)
  ·obtain rfl := Option.some.inj ho
   have e3 : a.eval (.tmp 3) = .pointer (some ⟨b1,0,none⟩) := seen.at_ ⟨0,.data⟩ (by simp) rfl (Or.inr (by decide))
   have y1 := (H1.out.on hb).cell 1
   have y0 := (H1.out.on hb).cell 0
   simp only [List.getElem?_toArray,List.getElem?_cons_zero,List.getElem?_cons_succ] at y0 y1
   exact Rg.op_value rfl rfl (Rg.ex_load a.eval _ 31 (.tmp 3) rfl (by rw [e3]; simp [go_sem,y0,y1])) (hK _ _ rfl (Below.refl _ _) fun _ _ _ _ _ _ _ h => h)
  ·obtain rfl := Option.some.inj ho
   have e1 : a.eval (.tmp 1) = .pointer (some ⟨b1,0,none⟩) := seen.kp 1 _ (nd 1 (by omega)) rfl
   exact Rg.op_value rfl rfl (Rg.ex_field a.eval _ 66 (.tmp 1) 1 rfl (by rw [e1]; simp [go_sem])) (hK _ _ rfl (Below.refl _ _) fun _ _ _ _ _ _ _ h => h)
  ·obtain rfl := Option.some.inj ho
   have e5 : a.eval (.tmp 5) = .pointer (some ⟨b1,2,none⟩) := seen.at_ ⟨2,.data⟩ (by simp) rfl (Or.inr (by decide))
   have y2 := (H1.out.on hb).cell 2
   have y3 := (H1.out.on hb).cell 3
   simp only [List.getElem?_toArray,List.getElem?_cons_zero,List.getElem?_cons_succ] at y2 y3
   exact Rg.op_value rfl rfl (Rg.ex_load a.eval _ 31 (.tmp 5) rfl (by rw [e5]; simp [go_sem,y2,y3])) (hK _ _ rfl (Below.refl _ _) fun _ _ _ _ _ _ _ h => h)
  ·obtain rfl := Option.some.inj ho
   have e1 : a.eval (.tmp 1) = .pointer (some ⟨b1,0,none⟩) := seen.kp 1 _ (nd 1 (by omega)) rfl
   exact Rg.op_value rfl rfl (Rg.ex_field a.eval _ 66 (.tmp 1) 2 rfl (by rw [e1]; simp [go_sem])) (hK _ _ rfl (Below.refl _ _) fun _ _ _ _ _ _ _ h => h)
  ·obtain rfl := Option.some.inj ho
   have e7 : a.eval (.tmp 7) = .pointer (some ⟨b1,4,none⟩) := seen.at_ ⟨4,.data⟩ (by simp) rfl (Or.inr (by decide))
   have y4 := (H1.out.on hb).cell 4
   simp only [List.getElem?_toArray,List.getElem?_cons_zero,List.getElem?_cons_succ] at y4
   exact Rg.op_value rfl rfl (Rg.ex_load a.eval _ 32 (.tmp 7) rfl (by rw [e7]; simp [go_sem,y4])) (hK _ _ rfl (Below.refl _ _) fun _ _ _ _ _ _ _ h => h)
  ·obtain rfl := Option.some.inj ho
   have e8 : a.eval (.tmp 8) = .slice po pn pc := seen.at_ ⟨5,.data⟩ (by simp) rfl (Or.inr (by decide))
   exact Rg.op_call rfl rfl (Rw.ex_call1 a.eval _ (.tmp 8) 32 123 rfl e8 rfl _ (call_fn Tryz.func123 rfl rfl _ _)) (cloneC_any (po,pn,pc) p x (R5.out.on hb) L5.out) fun e w1 h => by
    obtain ⟨⟨s,rfl,h1⟩,h3⟩ := h
    exact ⟨_,rfl,hK _ _ ⟨s,rfl,own_fewer h1 hb.size⟩ (h3.mono hb.size) fun j u hj _ _ _ hne h => stab j u _ _ h h3⟩
  ·obtain rfl := Option.some.inj ho
   have e4 : a.eval (.tmp 4) = .agg #[.int .i64 y1,.int .i64 y2] := seen.at_ ⟨1,.data⟩ (by simp) rfl (Or.inr (by decide))
   have e6 : a.eval (.tmp 6) = .agg #[.int .i64 y3,.int .i64 y4] := seen.at_ ⟨3,.data⟩ (by simp) rfl (Or.inr (by decide))
   have E9 := seen.at_ ⟨6,.data⟩ (by simp) rfl (Or.inr (by decide))
   obtain ⟨s,q0,q1⟩ := E9
   have q0 : a.eval (.tmp 9) = slv s := q0
   exact Rg.op_value rfl rfl (Rg.ex_buildS a.eval _ 41 #[(0,.const (.int .i64 3)),(1,.tmp 4),(2,.tmp 6),(3,.tmp 9)] rfl (by simp only [List.map_toArray,List.map_cons,List.map_nil,e4,e6,q0]; rfl) (v := .agg #[.int .i64 3,.int .i64 y1,.int .i64 y2,.int .i64 y3,.int .i64 y4,slv s,.slice none 0 0]) (by simp [go_sem])) (hK _ _ ⟨s,rfl,q1⟩ (Below.refl _ _) fun _ _ _ _ _ _ _ h => h)
 ·intro kk o h1 h2 ho
  omega
 ·intro a w' df sz kp ⟨vs,hv⟩ hb
  have sz' : a.tmps.size = 11 := sz
  have g2 : a.tmps[2]? = some (.pointer (some ⟨b2,0,none⟩)) := (kp 2 (nd 2 (by omega))).trans rfl
  obtain ⟨⟨q1,q2,q3⟩,hs,ho⟩ := (hv 7 (by omega)).2 (by decide)
  have g10 : a.tmps[10]? = some (.agg #[.int .i64 3,.int .i64 y1,.int .i64 y2,.int .i64 y3,.int .i64 y4,.slice q1 q2 q3,.slice none 0 0]) := ((hv 7 (by omega)).1).trans (congrArg some hs)
  have hB := H2.out.on hb
  have hlt := H2.out.lt
  show Rg.SeqFrom _ _ _ 1 8 a w'
  simp only [Rg.SeqFrom]
  refine Rg.op_store 41 (.tmp 2) (.tmp 10) rfl rfl rfl rfl (Rg.eval_some g2) (Rg.eval_some g10) (w' := setMB w' b2 (.int .i64 3) (.int .i64 y1) (.int .i64 y2) (.int .i64 y3) (.int .i64 y4) (.slice q1 q2 q3) (.slice none 0 0)) (storeMg hB _ _ _ _ _ _ _ _ _ _ _) ?_
  have hbx := setMB_box hB (.int .i64 3) (.int .i64 y1) (.int .i64 y2) (.int .i64 y3) (.int .i64 y4) (.slice q1 q2 q3) (.slice none 0 0)
  have hbt := but_setM w' b2 (.int .i64 3) (.int .i64 y1) (.int .i64 y2) (.int .i64 y3) (.int .i64 y4) (.slice q1 q2 q3) (.slice none 0 0)
  have kp2 : ∀ j,(j < 3 ∨ 11 ≤ j) → (a).tmps[j]? = (u0 :: .pointer (some ⟨b1,0,none⟩) :: .pointer (some ⟨b2,0,none⟩) :: u3 :: u4 :: u5 :: u6 :: u7 :: u8 :: u9 :: u10 :: [])[j]? := fun j hj => (kp j (nd j (by omega))).trans List.getElem?_toArray
  obtain ⟨mid,hmid,hfr⟩ := Rg.frame_mid (a := a) 3 8 df (by simp [sz']) (by simp) kp2
  show Q .normal (a) _
  rw [hfr]
  match mid,hmid with
  | [v3,v4,v5,v6,v7,v8,v9,v10],_ =>
   exact HQ.out _ _ _ _ _ _ _ _ _ q1 q2 q3 hbx (hbt.own ho hB (by decide)) (fun B hBl => setMB_below (hb.mono (Nat.le_of_lt (Nat.lt_of_le_of_lt hBl hlt))) hBl _ _ _ _ _ _ _)
theorem cm_any (k tc ts ic is_ : Int) (pv : Sl) (p : List C5) (w : World) (hp : RowC w (slv pv) p) (hl : p.length ≤ 900) :
  Calls Tryz.prog 78 #[.agg #[.int .i64 k,.int .i64 tc,.int .i64 ts,.int .i64 ic,.int .i64 is_,slv pv,.slice none 0 0]] w fun e w' => (∃ s : Sl,e = .returned (.agg #[.int .i64 k,.int .i64 tc,.int .i64 ts,.int .i64 ic,.int .i64 is_,slv s,.slice none 0 0]) ∧ OwnC w' w.heap.size (slv s) p) ∧ Below w.heap.size w w' := by
 obtain ⟨po,pn,pc⟩ := pv
 obtain ⟨h0,h1,h2⟩ := two_new w #[.int .i64 k,.int .i64 tc,.int .i64 ts,.int .i64 ic,.int .i64 is_,.slice po pn pc,.slice none 0 0] #[.int .i64 0,.int .i64 0,.int .i64 0,.int .i64 0,.int .i64 0,.slice none 0 0,.slice none 0 0] 41 41
 have GB := Lib.hid h0
 have X1 := Lib.hid h1
 have X2 := Lib.hid h2
 have HP := Lib.hid (hp.on h0)
 clear h0 h1 h2 hp
 show Calls Tryz.prog 78 #[.agg #[.int .i64 k,.int .i64 tc,.int .i64 ts,.int .i64 ic,.int .i64 is_,.slice po pn pc,.slice none 0 0]] w _
 go_enter Tryz.func78,Tryz.ntmps78
 go_upto_region 1 with fail
 generalize (w.alloc (.cells #[.int .i64 k,.int .i64 tc,.int .i64 ts,.int .i64 ic,.int .i64 is_,.slice po pn pc,.slice none 0 0] 41)).alloc (.cells #[.int .i64 0,.int .i64 0,.int .i64 0,.int .i64 0,.int .i64 0,.slice none 0 0,.slice none 0 0] 41) = W at *
 refine cm1 _ W w.heap.size k tc ts ic is_ po pn pc p _ _ _ _ _ _ _ _ _ _ _ X1.out HP.out hl ?_
 intro x v3 v4 v5 v6 v7 v8 v9 v10 q1 q2 q3 hbx ho hbl hbt
 have Y1 := Lib.hid hbx
 have Y2 := Lib.hid (hbt.box X2.out (by omega))
 have OO := Lib.hid (own_fewer ho GB.out.size)
 have G2 := Lib.hid (GB.out.trans (hbl w.heap.size (Nat.le_refl _)))
 clear hbx ho hbl hbt GB X1 X2 HP
 obtain ⟨x0,x1,x2,x3,x4,x5,x6⟩ := Y1.out.cs7
 obtain ⟨r0,r1,r2,r3,r4,r5,r6⟩ := Y2.out.cs7
 obtain ⟨t0,t1,t2,t3,t4,t5,t6⟩ := Y2.out.fs7
 have zz := Y2.out.lt
 have FB := Lib.hid (setMB_box Y2.out (.int .i64 k) (.int .i64 tc) (.int .i64 ts) (.int .i64 ic) (.int .i64 is_) (.slice q1 q2 q3) (.slice none 0 0))
 have BL := Lib.hid (setMB_below (b := w.heap.size + 1) G2.out (by omega) (.int .i64 k) (.int .i64 tc) (.int .i64 ts) (.int .i64 ic) (.int .i64 is_) (.slice q1 q2 q3) (.slice none 0 0))
 have OX := Lib.hid ((but_setM x (w.heap.size + 1) (.int .i64 k) (.int .i64 tc) (.int .i64 ts) (.int .i64 ic) (.int .i64 is_) (.slice q1 q2 q3) (.slice none 0 0)).own OO.out Y2.out (by decide))
 clear Y1 Y2 OO G2
 go_wp2_with fail
 obtain ⟨v0,v1,v2,v3,v4,v5,v6⟩ := FB.out.cs7
 refine bodyPost_ret (v := .agg #[.int .i64 k,.int .i64 tc,.int .i64 ts,.int .i64 ic,.int .i64 is_,.slice q1 q2 q3,.slice none 0 0]) (by simp [results,Tryz.results78,go_sem,v0,v1,v2,v3,v4,v5,v6]) rfl ?_
 exact ⟨⟨(q1,q2,q3),rfl,OX.out⟩,BL.out⟩
theorem flsub_any (z : XEn) (p : List C5) (w : World) (hp : RowC w (slv z.2.2.2.2.1) p) (hl : p.length ≤ 900) :
  Calls Tryz.prog 95 #[valN z] w fun e w' => (∃ s : Sl,e = .returned (.agg #[.int .i64 3,.int .i64 z.1,.int .i64 z.2.1,.int .i64 z.2.2.1,.int .i64 z.2.2.2.1,slv s,.slice none 0 0]) ∧ OwnC w' w.heap.size (slv s) p) ∧ Below w.heap.size w w' := by
 obtain ⟨y1,y2,y3,y4,⟨po,pn,pc⟩,y6,y7⟩ := z
 obtain ⟨h0,h1,h2⟩ := two_new w #[.int .i64 y1,.int .i64 y2,.int .i64 y3,.int .i64 y4,.slice po pn pc,.int .i64 y6,.bool y7] #[.int .i64 0,.int .i64 0,.int .i64 0,.int .i64 0,.int .i64 0,.slice none 0 0,.slice none 0 0] 66 41
 have GB := Lib.hid h0
 have X1 := Lib.hid h1
 have X2 := Lib.hid h2
 have HP := Lib.hid (hp.on h0)
 clear h0 h1 h2 hp
 show Calls Tryz.prog 95 #[.agg #[.int .i64 y1,.int .i64 y2,.int .i64 y3,.int .i64 y4,.slice po pn pc,.int .i64 y6,.bool y7]] w _
 go_enter Tryz.func95,Tryz.ntmps95
 go_upto_region 1 with fail
 generalize (w.alloc (.cells #[.int .i64 y1,.int .i64 y2,.int .i64 y3,.int .i64 y4,.slice po pn pc,.int .i64 y6,.bool y7] 66)).alloc (.cells #[.int .i64 0,.int .i64 0,.int .i64 0,.int .i64 0,.int .i64 0,.slice none 0 0,.slice none 0 0] 41) = W at *
 refine sbr1 _ W w.heap.size (w.heap.size + 1) y1 y2 y3 y4 po pn pc y6 y7 p _ _ _ _ _ _ _ _ _ X1.out X2.out HP.out hl ?_
 intro x v3 v4 v5 v6 v7 v8 v9 v10 q1 q2 q3 hbx ho hbl
 have FB := Lib.hid hbx
 have OO := Lib.hid (own_fewer ho GB.out.size)
 have G2 := Lib.hid (GB.out.trans (hbl w.heap.size (by omega)))
 clear hbx ho hbl GB X1 X2 HP
 go_wp2_with fail
 obtain ⟨v0,v1,v2,v3,v4,v5,v6⟩ := FB.out.cs7
 refine bodyPost_ret (v := .agg #[.int .i64 3,.int .i64 y1,.int .i64 y2,.int .i64 y3,.int .i64 y4,.slice q1 q2 q3,.slice none 0 0]) (by simp [results,Tryz.results95,go_sem,v0,v1,v2,v3,v4,v5,v6]) rfl ?_
 exact ⟨⟨(q1,q2,q3),rfl,OO.out⟩,G2.out⟩
end Go.Proofs.YtmklifheakemeaaGreat.Fl
namespace Go.Proofs.YtmklifheakemeaaGreat.Av
open Go.RowKit Go.Sort Rw YtmklifheakemeaaGreat.Nm Pr Bk
abbrev cEn (a b : En) : Int := orI (cmpJ a.tree b.tree) (cmpJ a.sub b.sub)
theorem cEn_neg (a b : En) : cEn a b < 0 ↔ (lessI a.tree b.tree = true ∨ (a.tree = b.tree ∧ lessI a.sub b.sub = true)) := by
 unfold cEn orI
 by_cases h : cmpJ a.tree b.tree = 0
 ·rw [if_pos h,cmpJ_neg]
  have e := (cmpJ_zero _ _).1 h
  constructor
  ·exact fun q => Or.inr ⟨e,q⟩
  ·rintro (q | ⟨_,q⟩)
   ·rw [e,lessI_irr] at q; cases q
   ·exact q
 ·rw [if_neg h,cmpJ_neg]
  constructor
  ·exact Or.inl
  ·rintro (q | ⟨q,_⟩)
   ·exact q
   ·exact absurd ((cmpJ_zero _ _).2 q) h
theorem cEn_tr (x y z : En) (h1 : cEn x y < 0) (h2 : cEn y z < 0) : cEn x z < 0 := by
 rw [cEn_neg] at *
 rcases h1 with h1 | ⟨e1,h1⟩ <;> rcases h2 with h2 | ⟨e2,h2⟩
 ·exact Or.inl (lessI_trans h1 h2)
 ·exact Or.inl (by rw [← e2]; exact h1)
 ·exact Or.inl (by rw [e1]; exact h2)
 ·exact Or.inr ⟨e1.trans e2,lessI_trans h1 h2⟩
structure OkBr (b : Br) : Prop where
 near : b.near.Pairwise (· < ·)
 seen : RiseI b.seen
 adv : RiseA b.adv
 ent : b.ent.Pairwise fun x y => cEn x y < 0
 own : RiseK Ow.id b.own
 oks : ∀ a ∈ b.adv,a.id ∈ b.seen ∧ comesB b.near a.par = true ∧ Wr.rightP a.p = true
 oke : ∀ e ∈ b.ent,okEn b e = true
 oko : ∀ o ∈ b.own,Wr.rightP o.p = true
theorem mem_ins {α : Type} (l : List α) (k : Nat) (x y : α) : y ∈ insAt l k x ↔ y = x ∨ y ∈ l := by
 unfold insAt
 rw [List.mem_append,List.mem_append,List.mem_singleton]
 conv => rhs; rw [← List.take_append_drop k l,List.mem_append]
 constructor
 ·rintro ((h | h) | h)
  ·exact Or.inr (Or.inl h)
  ·exact Or.inl h
  ·exact Or.inr (Or.inr h)
 ·rintro (h | h | h)
  ·exact Or.inl (Or.inr h)
  ·exact Or.inl (Or.inl h)
  ·exact Or.inr h
theorem place_lo {α : Type} (key : α → XID) : ∀ (l : List α) (x : XID),∀ y ∈ l.take (placeK key l x),lessI (key y) x = true
 | [],_,y,h => by simp at h
 | a :: l,x,y,h => by
  unfold placeK at h
  by_cases ha : lessI (key a) x = true
  ·simp only [List.takeWhile_cons,ha,if_true,List.length_cons,List.take_succ_cons,List.mem_cons] at h
   rcases h with rfl | h
   ·exact ha
   ·exact place_lo key l x y h
  ·simp [ha] at h
theorem place_hi {α : Type} {key : α → XID} : ∀ {l : List α} (_ : RiseK key l) (x : XID) (_ : ∀ y ∈ l,key y ≠ x),∀ y ∈ l.drop (placeK key l x),lessI x (key y) = true
 | [],_,_,_,y,h => by simp at h
 | a :: l,hr,x,hn,y,h => by
  unfold placeK at h
  have hr' := List.pairwise_cons.1 hr
  by_cases ha : lessI (key a) x = true
  ·simp only [List.takeWhile_cons,ha,if_true,List.length_cons,List.drop_succ_cons] at h
   exact place_hi hr'.2 x (fun y hy => hn y (List.mem_cons_of_mem _ hy)) y h
  ·simp [ha] at h
   have hax : lessI x (key a) = true := by
    rcases lessI_total (key a) x with q | q | q
    ·exact absurd q ha
    ·exact absurd q (hn a (by simp))
    ·exact q
   rcases h with rfl | h
   ·exact hax
   ·exact lessI_trans hax (hr'.1 y h)
theorem ins_rise {α : Type} {key : α → XID} {l : List α} (hr : RiseK key l) (x : α) (hn : ∀ y ∈ l,key y ≠ key x) : RiseK key (insAt l (placeK key l (key x)) x) := by
 unfold insAt
 have h1 : RiseK key (l.take (placeK key l (key x))) := hr.sublist (List.take_sublist _ _)
 have h2 : RiseK key (l.drop (placeK key l (key x))) := hr.sublist (List.drop_sublist _ _)
 have lo := place_lo key l (key x)
 have hi := place_hi hr (key x) hn
 unfold RiseK at *
 rw [List.append_assoc,List.pairwise_append]
 refine ⟨h1,?_,fun a ha b hb => ?_⟩
 ·rw [List.singleton_append,List.pairwise_cons]
  exact ⟨fun b hb => hi b hb,h2⟩
 ·rw [List.singleton_append,List.mem_cons] at hb
  rcases hb with rfl | hb
  ·exact lo a ha
  ·exact lessI_trans (lo a ha) (hi b hb)
theorem findA_some {l : List Ad} {x : XID} {a : Ad} (h : findA l x = some a) : a ∈ l ∧ a.id = x := by
 unfold findA at h
 exact ⟨List.mem_of_find?_eq_some h,by simpa using List.find?_some h⟩
theorem findA_uniq {l : List Ad} (hr : RiseA l) {a : Ad} (ha : a ∈ l) : findA l a.id = some a := by
 obtain ⟨k,hk⟩ := List.mem_iff_getElem?.1 ha
 refine findA_at hk rfl fun j z hj hz e => ?_
 have := riseK_lt hr hj hz hk
 rw [e,lessI_irr] at this
 cases this
theorem findA_of {l m : List Ad} (hl : RiseA l) (hm : RiseA m) {x : XID} (h : ∀ a,a.id = x → (a ∈ l ↔ a ∈ m)) : findA l x = findA m x := by
 cases h1 : findA l x with
 | none =>
  cases h2 : findA m x with
  | none => rfl
  | some a =>
   obtain ⟨q1,q2⟩ := findA_some h2
   have := findA_uniq hl ((h a q2).2 q1)
   rw [q2,h1] at this
   cases this
 | some a =>
  obtain ⟨q1,q2⟩ := findA_some h1
  have := findA_uniq hm ((h a q2).1 q1)
  rw [q2] at this
  exact this.symm
theorem okEn_of {b c : Br} {e : En} (hn : c.near = b.near) (hf : findA c.adv e.tree = findA b.adv e.tree) (h : okEn b e = true) : okEn c e = true := by
 unfold okEn at *
 rw [hf,hn]
 exact h
theorem learn_ok {b : Br} (h : OkBr b) (a : Ad) (hp : comesB b.near a.par = true) (hq : Wr.rightP a.p = true) : OkBr (learnB b a).1 := by
 by_cases hin : a.id ∈ b.seen
 ·rw [learnB_in hin]; exact h
 ·rw [learnB_out hin]
  have hna : ∀ y ∈ b.adv,y.id ≠ a.id := fun y hy e => hin (by rw [← e]; exact (h.oks y hy).1)
  have hns : ∀ y ∈ b.seen,y ≠ a.id := fun y hy e => hin (by rw [← e]; exact hy)
  have ra : RiseA (insAt b.adv (placeI (b.adv.map Ad.id) a.id) a) := by
   rw [← placeK_map]
   exact ins_rise h.adv a hna
  have rs : RiseI (insAt b.seen (placeI b.seen a.id) a.id) := by
   have := ins_rise (key := fun x : XID => x) h.seen a.id hns
   rw [placeK_map,List.map_id'] at this
   exact this
  refine ⟨h.near,rs,ra,h.ent,h.own,fun y hy => ?_,fun e he => ?_,h.oko⟩
  ·rcases (mem_ins _ _ _ _).1 hy with rfl | hy
   ·exact ⟨(mem_ins _ _ _ _).2 (Or.inl rfl),hp,hq⟩
   ·exact ⟨(mem_ins _ _ _ _).2 (Or.inr (h.oks y hy).1),(h.oks y hy).2⟩
  ·refine okEn_of (b := b) rfl (findA_of ra h.adv fun y hy => ?_) (h.oke e he)
   rw [mem_ins]
   refine ⟨fun q => q.resolve_left fun e2 => ?_,Or.inr⟩
   have hk := h.oke e he
   unfold okEn at hk
   cases hf : findA b.adv e.tree with
   | none => rw [hf] at hk; cases hk
   | some z =>
    obtain ⟨z1,z2⟩ := findA_some hf
    exact hna z z1 (by rw [z2,← hy,e2])
theorem own_app {α β : Type} {E : Ek α} {F : Ek β} {W W' : World} {B B' : Nat} {v u : Value} {l : List β} {m : List α} (ho : Own F W B v l) (gr : W.grownBy W' v.ownBlock) (h : Own E W B' u m) (hne : (E.t == F.t) = false) : Own E W' B' u m := by
 rcases own_open ho with ⟨h1,_⟩ | ⟨g,c,cur,h1,_,h2,_⟩
 ·rw [h1] at gr
  exact Bk.own_on h ((Below.refl _ _).grown gr (Nat.le_refl _) (fun j hj => by cases hj))
 ·rw [h1] at gr
  exact (but_grown (b := g) gr).own h h2 hne
theorem box_app {β : Type} {F : Ek β} {W W' : World} {B k : Nat} {v : Value} {l : List β} {cs : Array Value} {t : TypeId} (ho : Own F W B v l) (gr : W.grownBy W' v.ownBlock) (h : Box W k cs t) (hne : (t == F.t) = false) : Box W' k cs t := by
 rcases own_open ho with ⟨h1,_⟩ | ⟨g,c,cur,h1,_,h2,_⟩
 ·rw [h1] at gr
  exact h.on ((Below.refl _ _).grown gr (Nat.le_refl _) (fun j hj => by cases hj))
 ·rw [h1] at gr
  exact (but_grown (b := g) gr).box h (box_ne h h2 hne)
end Go.Proofs.YtmklifheakemeaaGreat.Av
namespace Go.Proofs.YtmklifheakemeaaGreat.Bk
open Go.RowKit Go.Sort Rw YtmklifheakemeaaGreat.Nm Pr
end Go.Proofs.YtmklifheakemeaaGreat.Bk
namespace Go.Proofs.YtmklifheakemeaaGreat.Sb
open Go.RowKit Go.Sort Rw YtmklifheakemeaaGreat.Nm Pr Bk Av
abbrev setE (W : World) (b : Nat) (a0 a1 a2 a3 a4 a5 a6 : Value) : World := ((((((W.setCell ⟨b,0,none⟩ a0).setCell ⟨b,1,none⟩ a1).setCell ⟨b,2,none⟩ a2).setCell ⟨b,3,none⟩ a3).setCell ⟨b,4,none⟩ a4).setCell ⟨b,5,none⟩ a5).setCell ⟨b,6,none⟩ a6
theorem setE_box {W : World} {b : Nat} {t : TypeId} {z0 z1 z2 z3 z4 z5 z6 : Value} (h : Box W b #[z0,z1,z2,z3,z4,z5,z6] t) (a0 a1 a2 a3 a4 a5 a6 : Value) : Box (setE W b a0 a1 a2 a3 a4 a5 a6) b #[a0,a1,a2,a3,a4,a5,a6] t := by
 have h2 := box_set (k := 6) (box_set (k := 5) (box_set (k := 4) (box_set (k := 3) (box_set (k := 2) (box_set (k := 1) (box_set (k := 0) h a0) a1) a2) a3) a4) a5) a6
 simpa using h2
theorem setE_below {B : Nat} {W0 W : World} {b : Nat} (h : Below B W0 W) (hb : B ≤ b) (a0 a1 a2 a3 a4 a5 a6 : Value) : Below B W0 (setE W b a0 a1 a2 a3 a4 a5 a6) := (((((((h).setCell (p := ⟨b,0,none⟩) hb a0).setCell (p := ⟨b,1,none⟩) hb a1).setCell (p := ⟨b,2,none⟩) hb a2).setCell (p := ⟨b,3,none⟩) hb a3).setCell (p := ⟨b,4,none⟩) hb a4).setCell (p := ⟨b,5,none⟩) hb a5).setCell (p := ⟨b,6,none⟩) hb a6
theorem setE_own {α : Type} {E : Ek α} {W : World} {B : Nat} {v : Value} {l : List α} (h : Own E W B v l) (b : Nat) (hb : b < B) (a0 a1 a2 a3 a4 a5 a6 : Value) : Own E (setE W b a0 a1 a2 a3 a4 a5 a6) B v l :=
 own_cell (own_cell (own_cell (own_cell (own_cell (own_cell (own_cell (h) b 0 a0 hb) b 1 a1 hb) b 2 a2 hb) b 3 a3 hb) b 4 a4 hb) b 5 a5 hb) b 6 a6 hb
theorem but_setE (w : World) (b : Nat) (a0 a1 a2 a3 a4 a5 a6 : Value) : But b w (setE w b a0 a1 a2 a3 a4 a5 a6) :=
 ((((((but_cell _ b _ _).trans (but_cell _ b _ _)).trans (but_cell _ b _ _)).trans (but_cell _ b _ _)).trans (but_cell _ b _ _)).trans (but_cell _ b _ _)).trans (but_cell _ b _ _)
theorem cpE_any (x : XEn) (p : List C5) (w : World) (hp : RowC w (slv x.2.2.2.2.1) p) (hl : p.length ≤ 900) :
  Calls Tryz.prog 76 #[valN x] w fun e w' => (∃ v' : Sl,e = .returned (valN (x.1,x.2.1,x.2.2.1,x.2.2.2.1,v',x.2.2.2.2.2.1,x.2.2.2.2.2.2)) ∧ OwnC w' w.heap.size (slv v') p) ∧ Below w.heap.size w w' := by
 obtain ⟨y1,y2,y3,y4,⟨s1,s2,s3⟩,y6,y7⟩ := x
 obtain ⟨h0,X,Y⟩ := two_new w #[.int .i64 y1,.int .i64 y2,.int .i64 y3,.int .i64 y4,.slice s1 s2 s3,.int .i64 y6,.bool y7] #[.int .i64 0,.int .i64 0,.int .i64 0,.int .i64 0,.slice none 0 0,.int .i64 0,.bool false] 66 66
 have C := Lib.hid (cloneC_any (s1,s2,s3) p _ (hp.on h0) hl)
 have B := Lib.hid h0
 have x4 := X.cell 4
 simp only [List.getElem?_toArray,List.getElem?_cons_zero,List.getElem?_cons_succ] at x4
 have X := Lib.hid X
 have Y := Lib.hid Y
 clear h0 hp hl
 go_enter Tryz.func76,Tryz.ntmps76
 go_wp2_with fail
 generalize (w.alloc (.cells #[.int .i64 y1,.int .i64 y2,.int .i64 y3,.int .i64 y4,.slice s1 s2 s3,.int .i64 y6,.bool y7] 66)).alloc (.cells #[.int .i64 0,.int .i64 0,.int .i64 0,.int .i64 0,.slice none 0 0,.int .i64 0,.bool false] 66) = W at *
 refine C.out.mono ?_
 rintro e w1 ⟨⟨⟨u1,u2,u3⟩,rfl,ho⟩,hb⟩
 have X1 := X.out.on hb
 have Y1 := Y.out.on hb
 have hs : w.heap.size < W.heap.size := X.out.lt
 have O1 := Lib.hid (own_cell ho w.heap.size 4 (.slice u1 u2 u3) hs)
 have XB := Lib.hid (show Box _ _ #[.int .i64 y1,.int .i64 y2,.int .i64 y3,.int .i64 y4,.slice u1 u2 u3,.int .i64 y6,.bool y7] _ from by simpa using box_set (k := 4) X1 (.slice u1 u2 u3))
 have YB := Lib.hid (show Box _ _ _ _ from (RowKit.Below.heap_setCell w1 ⟨w.heap.size,4,none⟩ (.slice u1 u2 u3) _ (show w.heap.size + 1 ≠ w.heap.size by omega)).trans Y1)
 have B1 := Lib.hid ((B.out.trans (hb.mono B.out.size)).setCell (p := ⟨w.heap.size,4,none⟩) (Nat.le_refl _) (.slice u1 u2 u3))
 have y4' := X1.cell 4
 have f4 := X1.fr 4
 have z4 := X1.lt
 simp only [List.getElem?_toArray,List.getElem?_cons_zero,List.getElem?_cons_succ] at y4'
 clear X1 Y1 ho hb x4 C
 go_upto_region 2 with fail
 clear y4' f4 z4
 generalize w1.setCell ⟨w.heap.size,4,none⟩ (.slice u1 u2 u3) = w2 at *
 obtain ⟨x0,x1,x2,x3,x4,x5,x6⟩ := XB.out.cs7
 obtain ⟨r0,r1,r2,r3,r4,r5,r6⟩ := YB.out.cs7
 obtain ⟨t0,t1,t2,t3,t4,t5,t6⟩ := YB.out.fs7
 have zz := YB.out.lt
 have hs2 : w.heap.size + 1 < W.heap.size := Y.out.lt
 have FB := Lib.hid (setE_box YB.out (.int .i64 y1) (.int .i64 y2) (.int .i64 y3) (.int .i64 y4) (.slice u1 u2 u3) (.int .i64 y6) (.bool y7))
 have BL := Lib.hid (setE_below (b := w.heap.size + 1) B1.out (by omega) (.int .i64 y1) (.int .i64 y2) (.int .i64 y3) (.int .i64 y4) (.slice u1 u2 u3) (.int .i64 y6) (.bool y7))
 have FO := Lib.hid (setE_own O1.out (w.heap.size + 1) hs2 (.int .i64 y1) (.int .i64 y2) (.int .i64 y3) (.int .i64 y4) (.slice u1 u2 u3) (.int .i64 y6) (.bool y7))
 have HS := Lib.hid hs
 clear hs hs2
 go_wp2_with fail
 obtain ⟨v0,v1,v2,v3,v4,v5,v6⟩ := FB.out.cs7
 refine bodyPost_ret (v := .agg #[.int .i64 y1,.int .i64 y2,.int .i64 y3,.int .i64 y4,.slice u1 u2 u3,.int .i64 y6,.bool y7]) (by simp [results,Tryz.results76,go_sem,v0,v1,v2,v3,v4,v5,v6]) rfl ?_
 exact ⟨⟨(u1,u2,u3),rfl,own_fewer FO.out (Nat.le_of_lt HS.out)⟩,BL.out⟩
end Go.Proofs.YtmklifheakemeaaGreat.Sb
namespace Go.Proofs.YtmklifheakemeaaGreat.Av
open Go.RowKit Go.Sort Rw YtmklifheakemeaaGreat.Nm Pr Bk
end Go.Proofs.YtmklifheakemeaaGreat.Av
