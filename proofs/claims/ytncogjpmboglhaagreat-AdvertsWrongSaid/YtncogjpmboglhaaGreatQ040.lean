/-
  Small things for AdvertsPlays. Conditions as told.
-/
import Derived.Test.YtncogjpmboglhaaGreatQ034
import Derived.Test.YtncogjpmboglhaaGreatQ014
import Derived.Test.YtncogjpmboglhaaGreatQ039
import Derived.Test.YtncogjpmboglhaaGreatQ018
import Derived.Test.YtncogjpmboglhaaGreatQ001
import Derived.Test.YtncogjpmboglhaaGreatQ024
import Derived.Test.YtncogjpmboglhaaGreatQ038
import Derived.Test.YtncogjpmboglhaaGreatQ022
set_option maxRecDepth 100000
set_option maxHeartbeats 64000000
namespace Go.Proofs.YtncogjpmboglhaaGreat.Av
open Go.RowKit Go.Sort Rw YtncogjpmboglhaaGreat.Nm Pr Bk
theorem ex_extract {P : Program} (ρ : Operand → Value) (o : Oper) (y : Operand) (k : Nat) (ho : o.op = .extract y k) {c : Array Value} {v : Value} (hx : ρ y = .tuple c) (hv : c[k]? = some v) (w : World) : (execOp ρ o).run P w = .ok (.value v) w := by
 simp [execOp,ho,hx,hv,go_sem]
abbrev runB : Br := ⟨0,[2,3],[⟨(1,0),[],2⟩],[(1,0)],[],[]⟩
theorem run_learn : learnB (newB0 0 [2,3]) ⟨(1,0),[],2⟩ = (runB,true) := rfl
theorem run_few : Few (newB0 0 [2,3]) := ⟨by simp,by simp,by simp,by simp,by simp⟩
theorem run_fewp : FewP (newB0 0 [2,3]) := ⟨by simp,by simp,by simp⟩
def run2V (_B : Nat) (_b1 : Nat) (i : Nat) (v : Value) (x : World) : Prop :=
 match i with
 | 0 => ∃ sl : Sl,v = slv sl ∧ RowI x v [3,2,3]
 | 1 => ∃ nv : Sl,v = brv 0 nv (none,0,0) (none,0,0) (none,0,0) (none,0,0) ∧ BrN x (newB0 0 [2,3]) nv (none,0,0) (none,0,0) (none,0,0) (none,0,0)
 | 2 => v = .agg #[.int .i64 1,.int .i64 0,.slice none 0 0,.int .i64 2]
 | 3 => ∃ nv av sv ev ov : Sl,v = .tuple #[brv 0 nv av sv ev ov,.bool true] ∧ BrN x runB nv av sv ev ov
 | 4 => ∃ nv av sv ev ov : Sl,v = .tuple #[brv 0 nv av sv ev ov,.bool true] ∧ BrN x runB nv av sv ev ov
 | 5 => ∃ nv av sv ev ov : Sl,v = brv 0 nv av sv ev ov ∧ BrN x runB nv av sv ev ov
 | 6 => v = .bool true
 | 7 => True
 | 8 => True
 | 9 => v = .bool true
 | _ => True
noncomputable def run2C : Code := ((Tryz.f11.body.bind (findRegion 2)).getD .skip)
theorem run2 (Q : Exit → Act → World → Prop) (W : World) (b1 : Nat) (u0 u2 u3 u4 u5 u6 u7 u8 u9 u10 u11 u12 u13 u14 u15 u16 u17 u18 u19 u20 u21 u22 u23 u24 u25 u26 u27 u28 u29 u30 u31 u32 u33 u34 u35 u36 u37 u38 u39 u40 u41 u42 u43 u44 u45 u46 u47 u48 u49 u50 u51 u52 u53 u54 : Value)
  (h1 : Box W b1 #[.int .i64 1,.int .i64 0,.slice none 0 0,.int .i64 2] 41)
  (hQ : ∀ (x : World) (bb : Nat) (v4 v5 v6 v7 v8 v9 v10 v11 v12 v13 v14 v15 v16 : Value) (m1 : Option Addr) (m2 m3 : Nat) (m4 : Option Addr) (m5 m6 : Nat) (m7 : Option Addr) (m8 m9 : Nat) (m10 : Option Addr) (m11 m12 : Nat) (m13 : Option Addr) (m14 m15 : Nat),W.heap.size ≤ bb → Box x bb #[.int .i64 0,.slice m1 m2 m3,.slice m4 m5 m6,.slice m7 m8 m9,.slice m10 m11 m12,.slice m13 m14 m15] 31 → BrN x runB (m1,m2,m3) (m4,m5,m6) (m7,m8,m9) (m10,m11,m12) (m13,m14,m15) → Below W.heap.size W x → Q .normal ⟨(u0 :: .pointer (some ⟨b1,0,none⟩) :: .pointer (some ⟨bb,0,none⟩) :: .bool true :: v4 :: v5 :: v6 :: v7 :: v8 :: v9 :: v10 :: v11 :: v12 :: v13 :: v14 :: v15 :: v16 :: u17 :: u18 :: u19 :: u20 :: u21 :: u22 :: u23 :: u24 :: u25 :: u26 :: u27 :: u28 :: u29 :: u30 :: u31 :: u32 :: u33 :: u34 :: u35 :: u36 :: u37 :: u38 :: u39 :: u40 :: u41 :: u42 :: u43 :: u44 :: u45 :: u46 :: u47 :: u48 :: u49 :: u50 :: u51 :: u52 :: u53 :: u54 :: []).toArray,[]⟩ x) :
  Code.wp Tryz.prog run2C Q ⟨(u0 :: .pointer (some ⟨b1,0,none⟩) :: u2 :: u3 :: u4 :: u5 :: u6 :: u7 :: u8 :: u9 :: u10 :: u11 :: u12 :: u13 :: u14 :: u15 :: u16 :: u17 :: u18 :: u19 :: u20 :: u21 :: u22 :: u23 :: u24 :: u25 :: u26 :: u27 :: u28 :: u29 :: u30 :: u31 :: u32 :: u33 :: u34 :: u35 :: u36 :: u37 :: u38 :: u39 :: u40 :: u41 :: u42 :: u43 :: u44 :: u45 :: u46 :: u47 :: u48 :: u49 :: u50 :: u51 :: u52 :: u53 :: u54 :: []).toArray,[]⟩ W := by
 have HQ := Lib.hid hQ
 have H1 := Lib.hid h1
 clear hQ h1
 unfold run2C
 conv => arg 2; whnf
 have nb1 : ∀ i,i < 10 → [11,12,13,14,10,15,16,2,2,3].getD i 0 ≠ 1 := by decide
 refine Rg.region_mk 10 7 8 5 (fun i => [11,12,13,14,10,15,16,2,2,3].getD i 0) (fun i => if i = 0 then 1 else if i = 1 then 3 else if i = 3 then 4 else 10) (run2V W.heap.size b1) 31 #[.int .i64 0,.slice none 0 0,.slice none 0 0,.slice none 0 0,.slice none 0 0,.slice none 0 0] (fun v => match v with | .agg c => c | _ => #[]) (by kernel_rfl) (by kernel_rfl) rfl (by decide) (by decide) (by decide) (by decide) (by decide) (by decide) (by decide) (fun i j hi hj h1 h2 h => (by decide : ∀ i,i < 10 → ∀ j,j < 10 → i ≠ 8 → j ≠ 8 → [11,12,13,14,10,15,16,2,2,3].getD i 0 = [11,12,13,14,10,15,16,2,2,3].getD j 0 → i = j) i hi j hj h1 h2 h) (fun i hi => (by decide : ∀ i,i < 10 → [11,12,13,14,10,15,16,2,2,3].getD i 0 < 55) i hi) ?_ ?_ ?_ ?_ ?_ ?_
 ·intro i v x x' hi h hb
  rcases (by omega : i = 0 ∨ i = 1 ∨ i = 2 ∨ i = 3 ∨ i = 4 ∨ i = 5 ∨ i = 6 ∨ i = 7 ∨ i = 8 ∨ i = 9) with rfl | rfl | rfl | rfl | rfl | rfl | rfl | rfl | rfl | rfl
  ·obtain ⟨s,h1,h2⟩ := h; exact ⟨s,h1,h2.on hb⟩
  ·obtain ⟨s,h1,h2⟩ := h; exact ⟨s,h1,h2.on hb⟩
  ·exact h
  ·obtain ⟨a1,a2,a3,a4,a5,h1,h2⟩ := h; exact ⟨a1,a2,a3,a4,a5,h1,h2.on hb⟩
  ·obtain ⟨a1,a2,a3,a4,a5,h1,h2⟩ := h; exact ⟨a1,a2,a3,a4,a5,h1,h2.on hb⟩
  ·obtain ⟨a1,a2,a3,a4,a5,h1,h2⟩ := h; exact ⟨a1,a2,a3,a4,a5,h1,h2.on hb⟩
  ·exact h
  ·exact h
  ·exact h
  ·exact h
 ·intro o ho
  obtain rfl := Option.some.inj ho
  exact ⟨⟨⟨7,.data⟩,by simp,rfl,rfl⟩,⟨⟨5,.data⟩,by simp,rfl,rfl⟩⟩
 ·intro i o hi hiA hiS ho a x hb seen K hK
  clear HQ
  rcases (by omega : i = 0 ∨ i = 1 ∨ i = 2 ∨ i = 3 ∨ i = 4 ∨ i = 5 ∨ i = 6 ∨ i = 9) with rfl | rfl | rfl | rfl | rfl | rfl | rfl | rfl
  ·obtain rfl := Option.some.inj ho
   have hl := row_lit Nm.okI x [3,2,3] 3 rfl (by simp) #[.int .i64 3,.int .i64 2,.int .i64 3] (by rfl)
   exact Rg.op_value rfl rfl (Rg.ex_build a.eval _ 25 3 #[(0,.const (.int .i64 3)),(1,.const (.int .i64 2)),(2,.const (.int .i64 3))] rfl (ps := #[(0,.int .i64 3),(1,.int .i64 2),(2,.int .i64 3)]) (by simp only [List.map_toArray,List.map_cons,List.map_nil]; rfl) (by simp [go_sem])) (hK (.slice (some ⟨x.heap.size,0,none⟩) 3 3) (x.alloc (.cells #[.int .i64 3,.int .i64 2,.int .i64 3] 3)) ⟨(some ⟨x.heap.size,0,none⟩,3,3),rfl,Row.of_own hl⟩ ((Below.refl _ _).alloc (Nat.le_refl _) _))
  ·obtain rfl := Option.some.inj ho
   have E11 := seen.at_ ⟨0,.data⟩ (by simp) rfl (by decide) (by decide) (Or.inl rfl)
   obtain ⟨sl,q0,q1⟩ := E11
   have q0 : a.eval (.tmp 11) = slv sl := q0
   have q1 : RowI x (slv sl) [3,2,3] := by rw [← q0]; exact q1
   exact Rg.op_call rfl rfl (Rw.ex_call2 a.eval _ (.const (.int .i64 0)) (.tmp 11) 3 25 12 rfl rfl q0 rfl _ (call_fn Tryz.func12 rfl rfl _ _)) (anew_any 0 sl [3,2,3] x q1 (by decide)) fun e w1 h => by
    obtain ⟨⟨l',nv,rfl,h1,h2,h3,h4⟩,h5⟩ := h
    have e1 : l' = [2,3] := rise_uniq h3 (by decide) (fun y => (h4 y).trans (by simp; omega))
    subst e1
    exact ⟨_,rfl,hK _ _ ⟨nv,rfl,h1,h2⟩ h5⟩
  ·obtain rfl := Option.some.inj ho
   have e1 : a.eval (.tmp 1) = .pointer (some ⟨b1,0,none⟩) := seen.kp 1 _ nb1 rfl
   obtain ⟨y0,y1,y2,y3⟩ := (H1.out.on hb).cs4
   exact Rg.op_value rfl rfl (Rg.ex_load a.eval _ 41 (.tmp 1) rfl (by rw [e1]; simp [go_sem,y0,y1,y2,y3])) (hK _ x rfl (Below.refl _ _))
  ·obtain rfl := Option.some.inj ho
   have E12 := seen.at_ ⟨1,.data⟩ (by simp) rfl (by decide) (by decide) (Or.inl rfl)
   have e13 : a.eval (.tmp 13) = .agg #[.int .i64 1,.int .i64 0,.slice none 0 0,.int .i64 2] := seen.at_ ⟨2,.data⟩ (by simp) rfl (by decide) (by decide) (Or.inr (by decide))
   obtain ⟨nv,q0,q1⟩ := E12
   have hx : AdIn x (1,0,(none,0,0),2) ⟨(1,0),[],2⟩ := ⟨rfl,rfl,row_nil _⟩
   exact Rg.op_call rfl rfl (Rw.ex_call2 a.eval _ (.tmp 12) (.tmp 13) 31 41 21 rfl q0 e13 rfl _ (call_fn Tryz.func21 rfl rfl _ _)) (learn_any (newB0 0 [2,3]) ⟨(1,0),[],2⟩ nv (none,0,0) (none,0,0) (none,0,0) (none,0,0) (1,0,(none,0,0),2) x q1.br hx run_few run_fewp (by simp) List.Pairwise.nil List.Pairwise.nil) fun e w1 h => by
    rw [run_learn] at h
    obtain ⟨⟨a1,a2,a3,a4,a5,rfl,h2,h3⟩,h5⟩ := h
    exact ⟨_,rfl,hK _ _ ⟨a1,a2,a3,a4,a5,rfl,h2,h3 q1.no⟩ h5⟩
  ·obtain rfl := Option.some.inj ho
   have E14 := seen.at_ ⟨3,.data⟩ (by simp) rfl (by decide) (by decide) (Or.inl rfl)
   exact Rg.op_value rfl rfl (Rg.ex_move a.eval _ (.tmp 14) rfl x) (hK _ x E14 (Below.refl _ _))
  ·obtain rfl := Option.some.inj ho
   have E10 := seen.at_ ⟨4,.data⟩ (by simp) rfl (by decide) (by decide) (Or.inr (by decide))
   obtain ⟨a1,a2,a3,a4,a5,h1,h2⟩ := E10
   exact Rg.op_value rfl rfl (ex_extract a.eval _ (.tmp 10) 0 rfl (c := #[brv 0 a1 a2 a3 a4 a5,.bool true]) h1 rfl x) (hK _ x ⟨a1,a2,a3,a4,a5,rfl,h2⟩ (Below.refl _ _))
  ·obtain rfl := Option.some.inj ho
   have E10 := seen.at_ ⟨4,.data⟩ (by simp) rfl (by decide) (by decide) (Or.inr (by decide))
   obtain ⟨a1,a2,a3,a4,a5,h1,h2⟩ := E10
   exact Rg.op_value rfl rfl (ex_extract a.eval _ (.tmp 10) 1 rfl (c := #[brv 0 a1 a2 a3 a4 a5,.bool true]) h1 rfl x) (hK _ x rfl (Below.refl _ _))
  ·obtain rfl := Option.some.inj ho
   have e16 : a.eval (.tmp 16) = .bool true := seen.at_ ⟨6,.data⟩ (by simp) rfl (by decide) (by decide) (Or.inr (by decide))
   exact Rg.op_value rfl rfl (Rg.ex_assign a.eval _ (.tmp 16) rfl x) (hK _ x e16 (Below.refl _ _))
 ·intro o ho a x K hK
  obtain rfl := Option.some.inj ho
  exact Rg.op_value rfl rfl (Rg.ex_alloc a.eval _ 31 rfl (by simp [go_sem])) hK
 ·intro o ho a x bb v D hc hD hb hA hC hvC hbb hbox K hK
  clear HQ
  obtain rfl := Option.some.inj ho
  obtain ⟨⟨m1,m2,m3⟩,⟨m4,m5,m6⟩,⟨m7,m8,m9⟩,⟨m10,m11,m12⟩,⟨m13,m14,m15⟩,hv1,hv2⟩ := hvC
  subst hv1
  have hbut := but_setB x bb (.int .i64 0) (.slice m1 m2 m3) (.slice m4 m5 m6) (.slice m7 m8 m9) (.slice m10 m11 m12) (.slice m13 m14 m15)
  refine Rg.op_store 31 (.tmp 2) (.tmp 15) rfl rfl rfl rfl hA hC (w' := setB x bb (.int .i64 0) (.slice m1 m2 m3) (.slice m4 m5 m6) (.slice m7 m8 m9) (.slice m10 m11 m12) (.slice m13 m14 m15)) (storeBr hbox _ _ _ _ _ _ _ _ _ _ _ _ _ _ _ _) (hK _ (setB_below hb hbb _ _ _ _ _ _) (setB_box hbox _ _ _ _ _ _) ?_)
  exact fun j u hj hjA hjS hdj hnl hls h => by
   rcases (by omega : j = 0 ∨ j = 1 ∨ j = 2 ∨ j = 3 ∨ j = 4 ∨ j = 5 ∨ j = 6 ∨ j = 9) with rfl | rfl | rfl | rfl | rfl | rfl | rfl | rfl
   ·exact absurd (hD ⟨1,.phase⟩ (by simp) rfl) hnl
   ·exact absurd (hD ⟨3,.chain⟩ (by simp) rfl) hnl
   ·have h2 : u = .agg #[.int .i64 1,.int .i64 0,.slice none 0 0,.int .i64 2] := h; exact h2
   ·exact absurd (hD ⟨4,.phase⟩ (by simp) rfl) hnl
   ·obtain ⟨a1,a2,a3,a4,a5,h1,h2⟩ := h; exact ⟨a1,a2,a3,a4,a5,h1,h2.keep (s1 := (none,0,0)) (s2 := (none,0,0)) (s3 := (none,0,0)) (s4 := (none,0,0)) (s5 := (none,0,0)) (me := 0) hbox hbut⟩
   ·obtain ⟨a1,a2,a3,a4,a5,h1,h2⟩ := h; exact ⟨a1,a2,a3,a4,a5,h1,h2.keep (s1 := (none,0,0)) (s2 := (none,0,0)) (s3 := (none,0,0)) (s4 := (none,0,0)) (s5 := (none,0,0)) (me := 0) hbox hbut⟩
   ·have h2 : u = .bool true := h; exact h2
   ·have h2 : u = .bool true := h; exact h2
 ·intro a x bb v df sz kp gA gC hbb hbox hvC hbel ⟨vs,hv⟩
  obtain ⟨⟨m1,m2,m3⟩,⟨m4,m5,m6⟩,⟨m7,m8,m9⟩,⟨m10,m11,m12⟩,⟨m13,m14,m15⟩,hv1,hv2⟩ := hvC
  subst hv1
  have g2 : a.tmps[2]? = some (.pointer (some ⟨bb,0,none⟩)) := gA
  have g3 : a.tmps[3]? = some (.bool true) := by
   have h : vs 9 = .bool true := (hv 9 (by decide) (by decide) (by decide)).2 (by decide)
   rw [← h]
   exact (hv 9 (by decide) (by decide) (by decide)).1
  have kp2 : ∀ j,(j < 2 ∨ 17 ≤ j) → a.tmps[j]? = (u0 :: .pointer (some ⟨b1,0,none⟩) :: u2 :: u3 :: u4 :: u5 :: u6 :: u7 :: u8 :: u9 :: u10 :: u11 :: u12 :: u13 :: u14 :: u15 :: u16 :: u17 :: u18 :: u19 :: u20 :: u21 :: u22 :: u23 :: u24 :: u25 :: u26 :: u27 :: u28 :: u29 :: u30 :: u31 :: u32 :: u33 :: u34 :: u35 :: u36 :: u37 :: u38 :: u39 :: u40 :: u41 :: u42 :: u43 :: u44 :: u45 :: u46 :: u47 :: u48 :: u49 :: u50 :: u51 :: u52 :: u53 :: u54 :: [])[j]? := fun j hj => (kp j (fun i hi h => by have := (by decide : ∀ i,i < 10 → 2 ≤ [11,12,13,14,10,15,16,2,2,3].getD i 0 ∧ [11,12,13,14,10,15,16,2,2,3].getD i 0 < 17) i hi; omega)).trans List.getElem?_toArray
  obtain ⟨mid,hmid,rfl⟩ := Rg.frame_mid 2 15 df sz (by simp) kp2
  match mid,hmid with
  | [v2,v3,v4,v5,v6,v7,v8,v9,v10,v11,v12,v13,v14,v15,v16],_ =>
   obtain rfl : v2 = .pointer (some ⟨bb,0,none⟩) := Option.some.inj g2
   obtain rfl : v3 = .bool true := Option.some.inj g3
   exact HQ.out x bb _ _ _ _ _ _ _ _ _ _ _ _ _ m1 m2 m3 m4 m5 m6 m7 m8 m9 m10 m11 m12 m13 m14 m15 hbb hbox hv2 hbel
def bk12V (_ : Nat) (bq : Nat) (_ _ _ z3 z4 : Int) (_ : Option Addr) (_ _ : Nat) (_ : Option Addr) (_ _ : Nat) (i : Nat) (v : Value) (_ : World) : Prop :=
 match i with
 | 0 => v = .pointer (some ⟨bq,3,none⟩)
 | 1 => v = .int .i64 z3
 | 2 => v = .int .i64 (Wi.within z3 0 4)
 | 3 => v = .pointer (some ⟨bq,4,none⟩)
 | 4 => v = .int .i64 z4
 | 5 => v = .int .i64 (Wi.within z4 0 2)
 | 6 => v = .agg #[.int .i64 (Wi.within z3 0 4),.int .i64 (Wi.within z4 0 2)]
 | 7 => True
 | 8 => True
 | _ => True
noncomputable def bk12C : Code := ((Tryz.f6.body.bind (findRegion 12)).getD .skip)
theorem bk12 (Q : Exit → Act → World → Prop) (W : World) (bq : Nat) (z0 z1 z2 z3 z4 : Int) (h1 : Option Addr) (h2 h3 : Nat) (g1 : Option Addr) (g2 g3 : Nat) (u0 u1 u2 u3 u4 u5 u7 u8 u9 u10 u11 u12 u13 u14 u15 u16 u17 u18 u19 u20 u21 u22 u23 u24 u25 u26 u27 u28 u29 u30 u31 u32 u33 u34 u35 u36 u37 u38 u39 u40 u41 u42 u43 u44 u45 u46 u47 u48 u49 u50 u51 u52 u53 u54 u55 u56 u57 u58 u59 u60 u61 u62 u63 u64 u65 u66 u67 u68 u69 u70 u71 u72 u73 u74 u75 u76 u77 u78 u79 u80 u81 u82 u83 u84 u85 u86 u87 u88 u89 u90 u91 u92 u93 u94 u95 u96 u97 u98 u99 u100 u101 u102 u103 u104 u105 u106 u107 u108 u109 u110 u111 u112 u113 u114 u115 u116 u117 u118 u119 u120 u121 u122 u123 : Value)
  (q : Box W bq #[.int .i64 z0,.int .i64 z1,.int .i64 z2,.int .i64 z3,.int .i64 z4,.slice h1 h2 h3,.slice g1 g2 g3] 74) (d3 : -9223372036854775808 ≤ z3 ∧ z3 ≤ 9223372036854775807) (d4 : -9223372036854775808 ≤ z4 ∧ z4 ≤ 9223372036854775807)
  (hQ : ∀ (x : World) (bb : Nat) (v46 v47 v48 v49 v50 v51 v52 : Value),W.heap.size ≤ bb → Box x bb #[.int .i64 (Wi.within z3 0 4),.int .i64 (Wi.within z4 0 2)] 38 → Below W.heap.size W x → Q .normal ⟨(u0 :: u1 :: u2 :: u3 :: u4 :: u5 :: .pointer (some ⟨bq,0,none⟩) :: u7 :: .pointer (some ⟨bb,0,none⟩) :: u9 :: u10 :: u11 :: u12 :: u13 :: u14 :: u15 :: u16 :: u17 :: u18 :: u19 :: u20 :: u21 :: u22 :: u23 :: u24 :: u25 :: u26 :: u27 :: u28 :: u29 :: u30 :: u31 :: u32 :: u33 :: u34 :: u35 :: u36 :: u37 :: u38 :: u39 :: u40 :: u41 :: u42 :: u43 :: u44 :: u45 :: v46 :: v47 :: v48 :: v49 :: v50 :: v51 :: v52 :: u53 :: u54 :: u55 :: u56 :: u57 :: u58 :: u59 :: u60 :: u61 :: u62 :: u63 :: u64 :: u65 :: u66 :: u67 :: u68 :: u69 :: u70 :: u71 :: u72 :: u73 :: u74 :: u75 :: u76 :: u77 :: u78 :: u79 :: u80 :: u81 :: u82 :: u83 :: u84 :: u85 :: u86 :: u87 :: u88 :: u89 :: u90 :: u91 :: u92 :: u93 :: u94 :: u95 :: u96 :: u97 :: u98 :: u99 :: u100 :: u101 :: u102 :: u103 :: u104 :: u105 :: u106 :: u107 :: u108 :: u109 :: u110 :: u111 :: u112 :: u113 :: u114 :: u115 :: u116 :: u117 :: u118 :: u119 :: u120 :: u121 :: u122 :: u123 :: []).toArray,[]⟩ x) :
  Code.wp Tryz.prog bk12C Q ⟨(u0 :: u1 :: u2 :: u3 :: u4 :: u5 :: .pointer (some ⟨bq,0,none⟩) :: u7 :: u8 :: u9 :: u10 :: u11 :: u12 :: u13 :: u14 :: u15 :: u16 :: u17 :: u18 :: u19 :: u20 :: u21 :: u22 :: u23 :: u24 :: u25 :: u26 :: u27 :: u28 :: u29 :: u30 :: u31 :: u32 :: u33 :: u34 :: u35 :: u36 :: u37 :: u38 :: u39 :: u40 :: u41 :: u42 :: u43 :: u44 :: u45 :: u46 :: u47 :: u48 :: u49 :: u50 :: u51 :: u52 :: u53 :: u54 :: u55 :: u56 :: u57 :: u58 :: u59 :: u60 :: u61 :: u62 :: u63 :: u64 :: u65 :: u66 :: u67 :: u68 :: u69 :: u70 :: u71 :: u72 :: u73 :: u74 :: u75 :: u76 :: u77 :: u78 :: u79 :: u80 :: u81 :: u82 :: u83 :: u84 :: u85 :: u86 :: u87 :: u88 :: u89 :: u90 :: u91 :: u92 :: u93 :: u94 :: u95 :: u96 :: u97 :: u98 :: u99 :: u100 :: u101 :: u102 :: u103 :: u104 :: u105 :: u106 :: u107 :: u108 :: u109 :: u110 :: u111 :: u112 :: u113 :: u114 :: u115 :: u116 :: u117 :: u118 :: u119 :: u120 :: u121 :: u122 :: u123 :: []).toArray,[]⟩ W := by
 have HQ := Lib.hid hQ
 have HQ6 := Lib.hid q
 have D3 := Lib.hid d3
 have D4 := Lib.hid d4
 clear hQ q d3 d4
 unfold bk12C
 conv => arg 2; whnf
 have nb6 : ∀ i,i < 9 → [46,47,48,49,50,51,52,8,8].getD i 0 ≠ 6 := by decide
 refine Rg.region_mk 9 7 8 6 (fun i => [46,47,48,49,50,51,52,8,8].getD i 0) (fun i => 9) (bk12V W.heap.size bq z0 z1 z2 z3 z4 h1 h2 h3 g1 g2 g3) 38 #[.int .i64 0,.int .i64 0] (fun v => match v with | .agg c => c | _ => #[]) (by kernel_rfl) (by kernel_rfl) rfl (by decide) (by decide) (by decide) (by decide) (by decide) (by decide) (by decide) (fun i j hi hj h1 h2 h => (by decide : ∀ i,i < 9 → ∀ j,j < 9 → i ≠ 8 → j ≠ 8 → [46,47,48,49,50,51,52,8,8].getD i 0 = [46,47,48,49,50,51,52,8,8].getD j 0 → i = j) i hi j hj h1 h2 h) (fun i hi => (by decide : ∀ i,i < 9 → [46,47,48,49,50,51,52,8,8].getD i 0 < 124) i hi) ?_ ?_ ?_ ?_ ?_ ?_
 ·intro i v x x' hi h hb
  rcases (by omega : i = 0 ∨ i = 1 ∨ i = 2 ∨ i = 3 ∨ i = 4 ∨ i = 5 ∨ i = 6 ∨ i = 7 ∨ i = 8) with rfl | rfl | rfl | rfl | rfl | rfl | rfl | rfl | rfl
  ·exact h
  ·exact h
  ·exact h
  ·exact h
  ·exact h
  ·exact h
  ·exact h
  ·exact h
  ·exact h
 ·intro o ho
  obtain rfl := Option.some.inj ho
  exact ⟨⟨⟨7,.data⟩,by simp,rfl,rfl⟩,⟨⟨6,.data⟩,by simp,rfl,rfl⟩⟩
 ·intro i o hi hiA hiS ho a x hb seen K hK
  clear HQ
  rcases (by omega : i = 0 ∨ i = 1 ∨ i = 2 ∨ i = 3 ∨ i = 4 ∨ i = 5 ∨ i = 6) with rfl | rfl | rfl | rfl | rfl | rfl | rfl
  ·obtain rfl := Option.some.inj ho
   have e6 : a.eval (.tmp 6) = .pointer (some ⟨bq,0,none⟩) := seen.kp 6 _ nb6 rfl
   exact Rg.op_value rfl rfl (Rg.ex_field a.eval _ 74 (.tmp 6) 3 rfl (by rw [e6]; simp [go_sem])) (hK _ x rfl (Below.refl _ _))
  ·obtain rfl := Option.some.inj ho
   have e46 : a.eval (.tmp 46) = .pointer (some ⟨bq,3,none⟩) := seen.at_ ⟨0,.data⟩ (by simp) rfl (by decide) (by decide) (Or.inr (by decide))
   have y3 := (HQ6.out.on hb).cell 3
   simp only [List.getElem?_toArray,List.getElem?_cons_zero,List.getElem?_cons_succ] at y3
   exact Rg.op_value rfl rfl (Rg.ex_load a.eval _ 3 (.tmp 46) rfl (by rw [e46]; simp [go_sem,y3])) (hK _ x rfl (Below.refl _ _))
  ·obtain rfl := Option.some.inj ho
   have e47 : a.eval (.tmp 47) = .int .i64 z3 := seen.at_ ⟨1,.data⟩ (by simp) rfl (by decide) (by decide) (Or.inr (by decide))
   exact Rg.op_call rfl rfl (Rg.ex_call3 a.eval _ (.tmp 47) (.const (.int .i64 0)) (.const (.int .i64 4)) 3 10 rfl e47 rfl rfl rfl _ (call_fn Tryz.func10 rfl rfl _ _)) (Wi.within_any z3 0 4 x (by omega) (by omega) (by omega) D3.out.1 D3.out.2) fun e w1 h => by
    obtain ⟨rfl,rfl⟩ := h
    exact ⟨_,rfl,hK _ _ rfl (Below.refl _ _)⟩
  ·obtain rfl := Option.some.inj ho
   have e6 : a.eval (.tmp 6) = .pointer (some ⟨bq,0,none⟩) := seen.kp 6 _ nb6 rfl
   exact Rg.op_value rfl rfl (Rg.ex_field a.eval _ 74 (.tmp 6) 4 rfl (by rw [e6]; simp [go_sem])) (hK _ x rfl (Below.refl _ _))
  ·obtain rfl := Option.some.inj ho
   have e49 : a.eval (.tmp 49) = .pointer (some ⟨bq,4,none⟩) := seen.at_ ⟨3,.data⟩ (by simp) rfl (by decide) (by decide) (Or.inr (by decide))
   have y4 := (HQ6.out.on hb).cell 4
   simp only [List.getElem?_toArray,List.getElem?_cons_zero,List.getElem?_cons_succ] at y4
   exact Rg.op_value rfl rfl (Rg.ex_load a.eval _ 3 (.tmp 49) rfl (by rw [e49]; simp [go_sem,y4])) (hK _ x rfl (Below.refl _ _))
  ·obtain rfl := Option.some.inj ho
   have e50 : a.eval (.tmp 50) = .int .i64 z4 := seen.at_ ⟨4,.data⟩ (by simp) rfl (by decide) (by decide) (Or.inr (by decide))
   exact Rg.op_call rfl rfl (Rg.ex_call3 a.eval _ (.tmp 50) (.const (.int .i64 0)) (.const (.int .i64 2)) 3 10 rfl e50 rfl rfl rfl _ (call_fn Tryz.func10 rfl rfl _ _)) (Wi.within_any z4 0 2 x (by omega) (by omega) (by omega) D4.out.1 D4.out.2) fun e w1 h => by
    obtain ⟨rfl,rfl⟩ := h
    exact ⟨_,rfl,hK _ _ rfl (Below.refl _ _)⟩
  ·obtain rfl := Option.some.inj ho
   have e48 : a.eval (.tmp 48) = .int .i64 (Wi.within z3 0 4) := seen.at_ ⟨2,.data⟩ (by simp) rfl (by decide) (by decide) (Or.inr (by decide))
   have e51 : a.eval (.tmp 51) = .int .i64 (Wi.within z4 0 2) := seen.at_ ⟨5,.data⟩ (by simp) rfl (by decide) (by decide) (Or.inr (by decide))
   exact Rg.op_value rfl rfl (Rg.ex_buildS a.eval _ 38 #[(0,.tmp 48),(1,.tmp 51)] rfl (ps := #[(0,.int .i64 (Wi.within z3 0 4)),(1,.int .i64 (Wi.within z4 0 2))]) (by simp only [List.map_toArray,List.map_cons,List.map_nil,e48,e51]) (by simp [go_sem])) (hK _ x rfl (Below.refl _ _))
 ·intro o ho a x K hK
  obtain rfl := Option.some.inj ho
  exact Rg.op_value rfl rfl (Rg.ex_alloc a.eval _ 38 rfl (by simp [go_sem])) hK
 ·intro o ho a x bb v D hc hD hb hA hC hvC hbb hbox K hK
  clear HQ
  obtain rfl := Option.some.inj ho
  have hv : v = .agg #[.int .i64 (Wi.within z3 0 4),.int .i64 (Wi.within z4 0 2)] := hvC
  subst hv
  obtain ⟨x0,x1⟩ := hbox.cs2
  obtain ⟨f0,f1⟩ := hbox.fs2
  have hst : (Instr.storeAt 38 (.pointer (some ⟨bb,0,none⟩)) (.agg #[.int .i64 (Wi.within z3 0 4),.int .i64 (Wi.within z4 0 2)])).run Tryz.prog x = .ok () ((x.setCell ⟨bb,0,none⟩ (.int .i64 (Wi.within z3 0 4))).setCell ⟨bb,1,none⟩ (.int .i64 (Wi.within z4 0 2))) := by simp [go_sem,x0,x1,f0,f1]
  have hbx2 := box_set (k := 1) (box_set (k := 0) hbox (.int .i64 (Wi.within z3 0 4))) (.int .i64 (Wi.within z4 0 2))
  refine Rg.op_store 38 (.tmp 8) (.tmp 52) rfl rfl rfl rfl hA hC hst (hK _ ((hb.setCell (p := ⟨bb,0,none⟩) hbb _).setCell (p := ⟨bb,1,none⟩) hbb _) (by simpa using hbx2) ?_)
  exact fun j u hj hjA hjS hdj hnl hls h => by
   rcases (by omega : j = 0 ∨ j = 1 ∨ j = 2 ∨ j = 3 ∨ j = 4 ∨ j = 5 ∨ j = 6) with rfl | rfl | rfl | rfl | rfl | rfl | rfl
   ·have h2 : u = .pointer (some ⟨bq,3,none⟩) := h; exact h2
   ·have h2 : u = .int .i64 z3 := h; exact h2
   ·have h2 : u = .int .i64 (Wi.within z3 0 4) := h; exact h2
   ·have h2 : u = .pointer (some ⟨bq,4,none⟩) := h; exact h2
   ·have h2 : u = .int .i64 z4 := h; exact h2
   ·have h2 : u = .int .i64 (Wi.within z4 0 2) := h; exact h2
   ·have h2 : u = .agg #[.int .i64 (Wi.within z3 0 4),.int .i64 (Wi.within z4 0 2)] := h; exact h2
 ·intro a x bb v df sz kp gA gC hbb hbox hvC hbel ⟨vs,hv⟩
  have hv9 : v = .agg #[.int .i64 (Wi.within z3 0 4),.int .i64 (Wi.within z4 0 2)] := hvC
  subst hv9
  have g8 : a.tmps[8]? = some (.pointer (some ⟨bb,0,none⟩)) := gA
  have kp2 : ∀ j,(j < 8 ∨ 53 ≤ j) → a.tmps[j]? = (u0 :: u1 :: u2 :: u3 :: u4 :: u5 :: .pointer (some ⟨bq,0,none⟩) :: u7 :: u8 :: u9 :: u10 :: u11 :: u12 :: u13 :: u14 :: u15 :: u16 :: u17 :: u18 :: u19 :: u20 :: u21 :: u22 :: u23 :: u24 :: u25 :: u26 :: u27 :: u28 :: u29 :: u30 :: u31 :: u32 :: u33 :: u34 :: u35 :: u36 :: u37 :: u38 :: u39 :: u40 :: u41 :: u42 :: u43 :: u44 :: u45 :: u46 :: u47 :: u48 :: u49 :: u50 :: u51 :: u52 :: u53 :: u54 :: u55 :: u56 :: u57 :: u58 :: u59 :: u60 :: u61 :: u62 :: u63 :: u64 :: u65 :: u66 :: u67 :: u68 :: u69 :: u70 :: u71 :: u72 :: u73 :: u74 :: u75 :: u76 :: u77 :: u78 :: u79 :: u80 :: u81 :: u82 :: u83 :: u84 :: u85 :: u86 :: u87 :: u88 :: u89 :: u90 :: u91 :: u92 :: u93 :: u94 :: u95 :: u96 :: u97 :: u98 :: u99 :: u100 :: u101 :: u102 :: u103 :: u104 :: u105 :: u106 :: u107 :: u108 :: u109 :: u110 :: u111 :: u112 :: u113 :: u114 :: u115 :: u116 :: u117 :: u118 :: u119 :: u120 :: u121 :: u122 :: u123 :: [])[j]? := fun j hj => (kp j (fun i hi h => by have := (by decide : ∀ i,i < 9 → 8 ≤ [46,47,48,49,50,51,52,8,8].getD i 0 ∧ [46,47,48,49,50,51,52,8,8].getD i 0 < 53) i hi; omega)).trans List.getElem?_toArray
  obtain ⟨mid,hmid,rfl⟩ := Rg.frame_mid 8 45 df sz (by simp) kp2
  match mid,hmid with
  | v8 :: v9 :: v10 :: v11 :: v12 :: v13 :: v14 :: v15 :: v16 :: v17 :: v18 :: v19 :: v20 :: v21 :: v22 :: v23 :: v24 :: v25 :: v26 :: v27 :: v28 :: v29 :: v30 :: v31 :: v32 :: v33 :: v34 :: v35 :: v36 :: v37 :: v38 :: v39 :: v40 :: v41 :: v42 :: v43 :: v44 :: v45 :: v46 :: v47 :: v48 :: v49 :: v50 :: v51 :: v52 :: [],_ =>
   obtain rfl : v8 = .pointer (some ⟨bb,0,none⟩) := Option.some.inj g8
   obtain rfl : v9 = u9 := Option.some.inj (kp 9 (fun i hi h => (by decide : ∀ i,i < 9 → [46,47,48,49,50,51,52,8,8].getD i 0 ≠ 9) i hi h))
   obtain rfl : v10 = u10 := Option.some.inj (kp 10 (fun i hi h => (by decide : ∀ i,i < 9 → [46,47,48,49,50,51,52,8,8].getD i 0 ≠ 10) i hi h))
   obtain rfl : v11 = u11 := Option.some.inj (kp 11 (fun i hi h => (by decide : ∀ i,i < 9 → [46,47,48,49,50,51,52,8,8].getD i 0 ≠ 11) i hi h))
   obtain rfl : v12 = u12 := Option.some.inj (kp 12 (fun i hi h => (by decide : ∀ i,i < 9 → [46,47,48,49,50,51,52,8,8].getD i 0 ≠ 12) i hi h))
   obtain rfl : v13 = u13 := Option.some.inj (kp 13 (fun i hi h => (by decide : ∀ i,i < 9 → [46,47,48,49,50,51,52,8,8].getD i 0 ≠ 13) i hi h))
   obtain rfl : v14 = u14 := Option.some.inj (kp 14 (fun i hi h => (by decide : ∀ i,i < 9 → [46,47,48,49,50,51,52,8,8].getD i 0 ≠ 14) i hi h))
   obtain rfl : v15 = u15 := Option.some.inj (kp 15 (fun i hi h => (by decide : ∀ i,i < 9 → [46,47,48,49,50,51,52,8,8].getD i 0 ≠ 15) i hi h))
   obtain rfl : v16 = u16 := Option.some.inj (kp 16 (fun i hi h => (by decide : ∀ i,i < 9 → [46,47,48,49,50,51,52,8,8].getD i 0 ≠ 16) i hi h))
   obtain rfl : v17 = u17 := Option.some.inj (kp 17 (fun i hi h => (by decide : ∀ i,i < 9 → [46,47,48,49,50,51,52,8,8].getD i 0 ≠ 17) i hi h))
   obtain rfl : v18 = u18 := Option.some.inj (kp 18 (fun i hi h => (by decide : ∀ i,i < 9 → [46,47,48,49,50,51,52,8,8].getD i 0 ≠ 18) i hi h))
   obtain rfl : v19 = u19 := Option.some.inj (kp 19 (fun i hi h => (by decide : ∀ i,i < 9 → [46,47,48,49,50,51,52,8,8].getD i 0 ≠ 19) i hi h))
   obtain rfl : v20 = u20 := Option.some.inj (kp 20 (fun i hi h => (by decide : ∀ i,i < 9 → [46,47,48,49,50,51,52,8,8].getD i 0 ≠ 20) i hi h))
   obtain rfl : v21 = u21 := Option.some.inj (kp 21 (fun i hi h => (by decide : ∀ i,i < 9 → [46,47,48,49,50,51,52,8,8].getD i 0 ≠ 21) i hi h))
   obtain rfl : v22 = u22 := Option.some.inj (kp 22 (fun i hi h => (by decide : ∀ i,i < 9 → [46,47,48,49,50,51,52,8,8].getD i 0 ≠ 22) i hi h))
   obtain rfl : v23 = u23 := Option.some.inj (kp 23 (fun i hi h => (by decide : ∀ i,i < 9 → [46,47,48,49,50,51,52,8,8].getD i 0 ≠ 23) i hi h))
   obtain rfl : v24 = u24 := Option.some.inj (kp 24 (fun i hi h => (by decide : ∀ i,i < 9 → [46,47,48,49,50,51,52,8,8].getD i 0 ≠ 24) i hi h))
   obtain rfl : v25 = u25 := Option.some.inj (kp 25 (fun i hi h => (by decide : ∀ i,i < 9 → [46,47,48,49,50,51,52,8,8].getD i 0 ≠ 25) i hi h))
   obtain rfl : v26 = u26 := Option.some.inj (kp 26 (fun i hi h => (by decide : ∀ i,i < 9 → [46,47,48,49,50,51,52,8,8].getD i 0 ≠ 26) i hi h))
   obtain rfl : v27 = u27 := Option.some.inj (kp 27 (fun i hi h => (by decide : ∀ i,i < 9 → [46,47,48,49,50,51,52,8,8].getD i 0 ≠ 27) i hi h))
   obtain rfl : v28 = u28 := Option.some.inj (kp 28 (fun i hi h => (by decide : ∀ i,i < 9 → [46,47,48,49,50,51,52,8,8].getD i 0 ≠ 28) i hi h))
   obtain rfl : v29 = u29 := Option.some.inj (kp 29 (fun i hi h => (by decide : ∀ i,i < 9 → [46,47,48,49,50,51,52,8,8].getD i 0 ≠ 29) i hi h))
   obtain rfl : v30 = u30 := Option.some.inj (kp 30 (fun i hi h => (by decide : ∀ i,i < 9 → [46,47,48,49,50,51,52,8,8].getD i 0 ≠ 30) i hi h))
   obtain rfl : v31 = u31 := Option.some.inj (kp 31 (fun i hi h => (by decide : ∀ i,i < 9 → [46,47,48,49,50,51,52,8,8].getD i 0 ≠ 31) i hi h))
   obtain rfl : v32 = u32 := Option.some.inj (kp 32 (fun i hi h => (by decide : ∀ i,i < 9 → [46,47,48,49,50,51,52,8,8].getD i 0 ≠ 32) i hi h))
   obtain rfl : v33 = u33 := Option.some.inj (kp 33 (fun i hi h => (by decide : ∀ i,i < 9 → [46,47,48,49,50,51,52,8,8].getD i 0 ≠ 33) i hi h))
   obtain rfl : v34 = u34 := Option.some.inj (kp 34 (fun i hi h => (by decide : ∀ i,i < 9 → [46,47,48,49,50,51,52,8,8].getD i 0 ≠ 34) i hi h))
   obtain rfl : v35 = u35 := Option.some.inj (kp 35 (fun i hi h => (by decide : ∀ i,i < 9 → [46,47,48,49,50,51,52,8,8].getD i 0 ≠ 35) i hi h))
   obtain rfl : v36 = u36 := Option.some.inj (kp 36 (fun i hi h => (by decide : ∀ i,i < 9 → [46,47,48,49,50,51,52,8,8].getD i 0 ≠ 36) i hi h))
   obtain rfl : v37 = u37 := Option.some.inj (kp 37 (fun i hi h => (by decide : ∀ i,i < 9 → [46,47,48,49,50,51,52,8,8].getD i 0 ≠ 37) i hi h))
   obtain rfl : v38 = u38 := Option.some.inj (kp 38 (fun i hi h => (by decide : ∀ i,i < 9 → [46,47,48,49,50,51,52,8,8].getD i 0 ≠ 38) i hi h))
   obtain rfl : v39 = u39 := Option.some.inj (kp 39 (fun i hi h => (by decide : ∀ i,i < 9 → [46,47,48,49,50,51,52,8,8].getD i 0 ≠ 39) i hi h))
   obtain rfl : v40 = u40 := Option.some.inj (kp 40 (fun i hi h => (by decide : ∀ i,i < 9 → [46,47,48,49,50,51,52,8,8].getD i 0 ≠ 40) i hi h))
   obtain rfl : v41 = u41 := Option.some.inj (kp 41 (fun i hi h => (by decide : ∀ i,i < 9 → [46,47,48,49,50,51,52,8,8].getD i 0 ≠ 41) i hi h))
   obtain rfl : v42 = u42 := Option.some.inj (kp 42 (fun i hi h => (by decide : ∀ i,i < 9 → [46,47,48,49,50,51,52,8,8].getD i 0 ≠ 42) i hi h))
   obtain rfl : v43 = u43 := Option.some.inj (kp 43 (fun i hi h => (by decide : ∀ i,i < 9 → [46,47,48,49,50,51,52,8,8].getD i 0 ≠ 43) i hi h))
   obtain rfl : v44 = u44 := Option.some.inj (kp 44 (fun i hi h => (by decide : ∀ i,i < 9 → [46,47,48,49,50,51,52,8,8].getD i 0 ≠ 44) i hi h))
   obtain rfl : v45 = u45 := Option.some.inj (kp 45 (fun i hi h => (by decide : ∀ i,i < 9 → [46,47,48,49,50,51,52,8,8].getD i 0 ≠ 45) i hi h))
   exact HQ.out x bb _ _ _ _ _ _ _ hbb hbox hbel
def bk14V (B : Nat) (bq _ _ : Nat) (z0 _ _ _ _ t1 t2 i1 i2 : Int) (h1 : Option Addr) (h2 h3 : Nat) (g1 : Option Addr) (g2 g3 : Nat) (has vals : List Int) (i : Nat) (v : Value) (x : World) : Prop :=
 match i with
 | 0 => v = .pointer (some ⟨bq,0,none⟩)
 | 1 => v = .int .i64 z0
 | 2 => v = .int .i64 (Wi.within z0 1 7)
 | 3 => v = .agg #[.int .i64 t1,.int .i64 t2]
 | 4 => v = .agg #[.int .i64 i1,.int .i64 i2]
 | 5 => v = .pointer (some ⟨bq,5,none⟩)
 | 6 => v = .agg #[.slice h1 h2 h3,.slice g1 g2 g3]
 | 7 => ∃ s : Sl,v = slv s ∧ OwnC x B (slv s) ((prd has vals 7).map r5)
 | 8 => ∃ s : Sl,v = .agg #[.int .i64 (Wi.within z0 1 7),.int .i64 t1,.int .i64 t2,.int .i64 i1,.int .i64 i2,slv s,.slice none 0 0] ∧ OwnC x B (slv s) ((prd has vals 7).map r5)
 | 9 => True
 | 10 => True
 | _ => True
noncomputable def bk14C : Code := ((Tryz.f6.body.bind (findRegion 14)).getD .skip)
theorem bk14 (Q : Exit → Act → World → Prop) (W : World) (bq b7 b8 : Nat) (z0 z1 z2 z3 z4 t1 t2 i1 i2 : Int) (h1 : Option Addr) (h2 h3 : Nat) (g1 : Option Addr) (g2 g3 : Nat) (has vals : List Int) (u0 u1 u2 u3 u4 u5 u9 u10 u11 u12 u13 u14 u15 u16 u17 u18 u19 u20 u21 u22 u23 u24 u25 u26 u27 u28 u29 u30 u31 u32 u33 u34 u35 u36 u37 u38 u39 u40 u41 u42 u43 u44 u45 u46 u47 u48 u49 u50 u51 u52 u53 u54 u55 u56 u57 u58 u59 u60 u61 u62 u63 u64 u65 u66 u67 u68 u69 u70 u71 u72 u73 u74 u75 u76 u77 u78 u79 u80 u81 u82 u83 u84 u85 u86 u87 u88 u89 u90 u91 u92 u93 u94 u95 u96 u97 u98 u99 u100 u101 u102 u103 u104 u105 u106 u107 u108 u109 u110 u111 u112 u113 u114 u115 u116 u117 u118 u119 u120 u121 u122 u123 : Value)
  (q : Box W bq #[.int .i64 z0,.int .i64 z1,.int .i64 z2,.int .i64 z3,.int .i64 z4,.slice h1 h2 h3,.slice g1 g2 g3] 74) (d0 : -9223372036854775808 ≤ z0 ∧ z0 ≤ 9223372036854775807) (x7 : Box W b7 #[.int .i64 t1,.int .i64 t2] 38) (x8 : Box W b8 #[.int .i64 i1,.int .i64 i2] 38) (ih : In.InInts W (.slice h1 h2 h3) has) (iv : In.InInts W (.slice g1 g2 g3) vals) (lh : has.length ≤ maxLen) (lv : vals.length ≤ maxLen)
  (hQ : ∀ (x : World) (bb : Nat) (v57 v58 v59 v60 v61 v62 v63 v64 v65 : Value) (m1 : Option Addr) (m2 m3 : Nat),W.heap.size ≤ bb → Box x bb #[.int .i64 (Wi.within z0 1 7),.int .i64 t1,.int .i64 t2,.int .i64 i1,.int .i64 i2,.slice m1 m2 m3,.slice none 0 0] 77 → OwnC x W.heap.size (.slice m1 m2 m3) ((prd has vals 7).map r5) → Below W.heap.size W x → Q .normal ⟨(u0 :: u1 :: u2 :: u3 :: u4 :: u5 :: .pointer (some ⟨bq,0,none⟩) :: .pointer (some ⟨b7,0,none⟩) :: .pointer (some ⟨b8,0,none⟩) :: u9 :: .pointer (some ⟨bb,0,none⟩) :: u11 :: u12 :: u13 :: u14 :: u15 :: u16 :: u17 :: u18 :: u19 :: u20 :: u21 :: u22 :: u23 :: u24 :: u25 :: u26 :: u27 :: u28 :: u29 :: u30 :: u31 :: u32 :: u33 :: u34 :: u35 :: u36 :: u37 :: u38 :: u39 :: u40 :: u41 :: u42 :: u43 :: u44 :: u45 :: u46 :: u47 :: u48 :: u49 :: u50 :: u51 :: u52 :: u53 :: u54 :: u55 :: u56 :: v57 :: v58 :: v59 :: v60 :: v61 :: v62 :: v63 :: v64 :: v65 :: u66 :: u67 :: u68 :: u69 :: u70 :: u71 :: u72 :: u73 :: u74 :: u75 :: u76 :: u77 :: u78 :: u79 :: u80 :: u81 :: u82 :: u83 :: u84 :: u85 :: u86 :: u87 :: u88 :: u89 :: u90 :: u91 :: u92 :: u93 :: u94 :: u95 :: u96 :: u97 :: u98 :: u99 :: u100 :: u101 :: u102 :: u103 :: u104 :: u105 :: u106 :: u107 :: u108 :: u109 :: u110 :: u111 :: u112 :: u113 :: u114 :: u115 :: u116 :: u117 :: u118 :: u119 :: u120 :: u121 :: u122 :: u123 :: []).toArray,[]⟩ x) :
  Code.wp Tryz.prog bk14C Q ⟨(u0 :: u1 :: u2 :: u3 :: u4 :: u5 :: .pointer (some ⟨bq,0,none⟩) :: .pointer (some ⟨b7,0,none⟩) :: .pointer (some ⟨b8,0,none⟩) :: u9 :: u10 :: u11 :: u12 :: u13 :: u14 :: u15 :: u16 :: u17 :: u18 :: u19 :: u20 :: u21 :: u22 :: u23 :: u24 :: u25 :: u26 :: u27 :: u28 :: u29 :: u30 :: u31 :: u32 :: u33 :: u34 :: u35 :: u36 :: u37 :: u38 :: u39 :: u40 :: u41 :: u42 :: u43 :: u44 :: u45 :: u46 :: u47 :: u48 :: u49 :: u50 :: u51 :: u52 :: u53 :: u54 :: u55 :: u56 :: u57 :: u58 :: u59 :: u60 :: u61 :: u62 :: u63 :: u64 :: u65 :: u66 :: u67 :: u68 :: u69 :: u70 :: u71 :: u72 :: u73 :: u74 :: u75 :: u76 :: u77 :: u78 :: u79 :: u80 :: u81 :: u82 :: u83 :: u84 :: u85 :: u86 :: u87 :: u88 :: u89 :: u90 :: u91 :: u92 :: u93 :: u94 :: u95 :: u96 :: u97 :: u98 :: u99 :: u100 :: u101 :: u102 :: u103 :: u104 :: u105 :: u106 :: u107 :: u108 :: u109 :: u110 :: u111 :: u112 :: u113 :: u114 :: u115 :: u116 :: u117 :: u118 :: u119 :: u120 :: u121 :: u122 :: u123 :: []).toArray,[]⟩ W := by
 have HQ := Lib.hid hQ
 have HQ6 := Lib.hid q
 have D0 := Lib.hid d0
 have H7 := Lib.hid x7
 have H8 := Lib.hid x8
 have IH := Lib.hid ih
 have IV := Lib.hid iv
 have LH := Lib.hid lh
 have LV := Lib.hid lv
 clear hQ q d0 x7 x8 ih iv lh lv
 unfold bk14C
 conv => arg 2; whnf
 have nb6 : ∀ i,i < 11 → [57,58,59,60,61,62,63,64,65,10,10].getD i 0 ≠ 6 := by decide
 have nb7 : ∀ i,i < 11 → [57,58,59,60,61,62,63,64,65,10,10].getD i 0 ≠ 7 := by decide
 have nb8 : ∀ i,i < 11 → [57,58,59,60,61,62,63,64,65,10,10].getD i 0 ≠ 8 := by decide
 refine Rg.region_mk 11 9 10 8 (fun i => [57,58,59,60,61,62,63,64,65,10,10].getD i 0) (fun i => if i = 7 then 8 else 11) (bk14V W.heap.size bq b7 b8 z0 z1 z2 z3 z4 t1 t2 i1 i2 h1 h2 h3 g1 g2 g3 has vals) 77 #[.int .i64 0,.int .i64 0,.int .i64 0,.int .i64 0,.int .i64 0,.slice none 0 0,.slice none 0 0] (fun v => match v with | .agg c => c | _ => #[]) (by kernel_rfl) (by kernel_rfl) rfl (by decide) (by decide) (by decide) (by decide) (by decide) (by decide) (by decide) (fun i j hi hj h1 h2 h => (by decide : ∀ i,i < 11 → ∀ j,j < 11 → i ≠ 10 → j ≠ 10 → [57,58,59,60,61,62,63,64,65,10,10].getD i 0 = [57,58,59,60,61,62,63,64,65,10,10].getD j 0 → i = j) i hi j hj h1 h2 h) (fun i hi => (by decide : ∀ i,i < 11 → [57,58,59,60,61,62,63,64,65,10,10].getD i 0 < 124) i hi) ?_ ?_ ?_ ?_ ?_ ?_
 ·intro i v x x' hi h hb
  rcases (by omega : i = 0 ∨ i = 1 ∨ i = 2 ∨ i = 3 ∨ i = 4 ∨ i = 5 ∨ i = 6 ∨ i = 7 ∨ i = 8 ∨ i = 9 ∨ i = 10) with rfl | rfl | rfl | rfl | rfl | rfl | rfl | rfl | rfl | rfl | rfl
  ·exact h
  ·exact h
  ·exact h
  ·exact h
  ·exact h
  ·exact h
  ·exact h
  ·obtain ⟨s,h1,h2⟩ := h; exact ⟨s,h1,Bk.own_on h2 hb⟩
  ·obtain ⟨s,h1,h2⟩ := h; exact ⟨s,h1,Bk.own_on h2 hb⟩
  ·exact h
  ·exact h
 ·intro o ho
  obtain rfl := Option.some.inj ho
  exact ⟨⟨⟨9,.data⟩,by simp,rfl,rfl⟩,⟨⟨8,.data⟩,by simp,rfl,rfl⟩⟩
 ·intro i o hi hiA hiS ho a x hb seen K hK
  clear HQ
  rcases (by omega : i = 0 ∨ i = 1 ∨ i = 2 ∨ i = 3 ∨ i = 4 ∨ i = 5 ∨ i = 6 ∨ i = 7 ∨ i = 8) with rfl | rfl | rfl | rfl | rfl | rfl | rfl | rfl | rfl
  ·obtain rfl := Option.some.inj ho
   have e6 : a.eval (.tmp 6) = .pointer (some ⟨bq,0,none⟩) := seen.kp 6 _ nb6 rfl
   exact Rg.op_value rfl rfl (Rg.ex_field a.eval _ 74 (.tmp 6) 0 rfl (by rw [e6]; simp [go_sem])) (hK _ x rfl (Below.refl _ _))
  ·obtain rfl := Option.some.inj ho
   have e57 : a.eval (.tmp 57) = .pointer (some ⟨bq,0,none⟩) := seen.at_ ⟨0,.data⟩ (by simp) rfl (by decide) (by decide) (Or.inr (by decide))
   have y0 := (HQ6.out.on hb).cell 0
   simp only [List.getElem?_toArray,List.getElem?_cons_zero] at y0
   exact Rg.op_value rfl rfl (Rg.ex_load a.eval _ 3 (.tmp 57) rfl (by rw [e57]; simp [go_sem,y0])) (hK _ x rfl (Below.refl _ _))
  ·obtain rfl := Option.some.inj ho
   have e58 : a.eval (.tmp 58) = .int .i64 z0 := seen.at_ ⟨1,.data⟩ (by simp) rfl (by decide) (by decide) (Or.inr (by decide))
   exact Rg.op_call rfl rfl (Rg.ex_call3 a.eval _ (.tmp 58) (.const (.int .i64 1)) (.const (.int .i64 7)) 3 10 rfl e58 rfl rfl rfl _ (call_fn Tryz.func10 rfl rfl _ _)) (Wi.within_any z0 1 7 x (by omega) (by omega) (by omega) D0.out.1 D0.out.2) fun e w1 h => by
    obtain ⟨rfl,rfl⟩ := h
    exact ⟨_,rfl,hK _ _ rfl (Below.refl _ _)⟩
  ·obtain rfl := Option.some.inj ho
   have e7 : a.eval (.tmp 7) = .pointer (some ⟨b7,0,none⟩) := seen.kp 7 _ nb7 rfl
   obtain ⟨y0,y1⟩ := (H7.out.on hb).cs2
   exact Rg.op_value rfl rfl (Rg.ex_load a.eval _ 38 (.tmp 7) rfl (by rw [e7]; simp [go_sem,y0,y1])) (hK _ x rfl (Below.refl _ _))
  ·obtain rfl := Option.some.inj ho
   have e8 : a.eval (.tmp 8) = .pointer (some ⟨b8,0,none⟩) := seen.kp 8 _ nb8 rfl
   obtain ⟨y0,y1⟩ := (H8.out.on hb).cs2
   exact Rg.op_value rfl rfl (Rg.ex_load a.eval _ 38 (.tmp 8) rfl (by rw [e8]; simp [go_sem,y0,y1])) (hK _ x rfl (Below.refl _ _))
  ·obtain rfl := Option.some.inj ho
   have e6 : a.eval (.tmp 6) = .pointer (some ⟨bq,0,none⟩) := seen.kp 6 _ nb6 rfl
   exact Rg.op_value rfl rfl (Rg.ex_field a.eval _ 74 (.tmp 6) 5 rfl (by rw [e6]; simp [go_sem])) (hK _ x rfl (Below.refl _ _))
  ·obtain rfl := Option.some.inj ho
   have e62 : a.eval (.tmp 62) = .pointer (some ⟨bq,5,none⟩) := seen.at_ ⟨5,.data⟩ (by simp) rfl (by decide) (by decide) (Or.inr (by decide))
   have y5 := (HQ6.out.on hb).cell 5
   have y6 := (HQ6.out.on hb).cell 6
   simp only [List.getElem?_toArray,List.getElem?_cons_zero,List.getElem?_cons_succ] at y5 y6
   exact Rg.op_value rfl rfl (Rg.ex_load a.eval _ 53 (.tmp 62) rfl (by rw [e62]; simp [go_sem,y5,y6])) (hK _ x rfl (Below.refl _ _))
  ·obtain rfl := Option.some.inj ho
   have e63 : a.eval (.tmp 63) = .agg #[.slice h1 h2 h3,.slice g1 g2 g3] := seen.at_ ⟨6,.data⟩ (by simp) rfl (by decide) (by decide) (Or.inr (by decide))
   exact Rg.op_call rfl rfl (Rw.ex_call1 a.eval _ (.tmp 63) 53 13 rfl e63 rfl _ (call_fn Tryz.func13 rfl rfl _ _)) (pred_any (.slice h1 h2 h3) (.slice g1 g2 g3) has vals x (IH.out.on hb) (IV.out.on hb) LH.out LV.out) fun e w1 h => by
    obtain ⟨v,rfl,q1,q2⟩ := h
    obtain ⟨a1,a2,hvv⟩ := (Row.of_own q1).len
    have q3 := own_fewer q1 hb.size
    rw [hvv] at q3
    exact ⟨_,rfl,hK _ _ ⟨(a1,_,a2),hvv,q3⟩ q2⟩
  ·obtain rfl := Option.some.inj ho
   have e59 : a.eval (.tmp 59) = .int .i64 (Wi.within z0 1 7) := seen.at_ ⟨2,.data⟩ (by simp) rfl (by decide) (by decide) (Or.inr (by decide))
   have e60 : a.eval (.tmp 60) = .agg #[.int .i64 t1,.int .i64 t2] := seen.at_ ⟨3,.data⟩ (by simp) rfl (by decide) (by decide) (Or.inr (by decide))
   have e61 : a.eval (.tmp 61) = .agg #[.int .i64 i1,.int .i64 i2] := seen.at_ ⟨4,.data⟩ (by simp) rfl (by decide) (by decide) (Or.inr (by decide))
   have E64 := seen.at_ ⟨7,.data⟩ (by simp) rfl (by decide) (by decide) (Or.inl rfl)
   obtain ⟨s,q0,q1⟩ := E64
   have q0 : a.eval (.tmp 64) = slv s := q0
   exact Rg.op_value rfl rfl (Rg.ex_buildS a.eval _ 77 #[(0,.tmp 59),(1,.tmp 60),(2,.tmp 61),(3,.tmp 64)] rfl (ps := #[(0,.int .i64 (Wi.within z0 1 7)),(1,.agg #[.int .i64 t1,.int .i64 t2]),(2,.agg #[.int .i64 i1,.int .i64 i2]),(3,slv s)]) (by simp only [List.map_toArray,List.map_cons,List.map_nil,e59,e60,e61,q0]) (by simp [go_sem])) (hK _ x ⟨s,rfl,q1⟩ (Below.refl _ _))
 ·intro o ho a x K hK
  obtain rfl := Option.some.inj ho
  exact Rg.op_value rfl rfl (Rg.ex_alloc a.eval _ 77 rfl (by simp [go_sem])) hK
 ·intro o ho a x bb v D hc hD hb hA hC hvC hbb hbox K hK
  clear HQ
  obtain rfl := Option.some.inj ho
  obtain ⟨⟨m1,m2,m3⟩,hv1,hv2⟩ := hvC
  subst hv1
  obtain ⟨x0,x1,x2,x3,x4,x5,x6⟩ := hbox.cs7
  obtain ⟨f0,f1,f2,f3,f4,f5,f6⟩ := hbox.fs7
  have hst : (Instr.storeAt 77 (.pointer (some ⟨bb,0,none⟩)) (.agg #[.int .i64 (Wi.within z0 1 7),.int .i64 t1,.int .i64 t2,.int .i64 i1,.int .i64 i2,.slice m1 m2 m3,.slice none 0 0])).run Tryz.prog x = .ok () (((((((x.setCell ⟨bb,0,none⟩ (.int .i64 (Wi.within z0 1 7))).setCell ⟨bb,1,none⟩ (.int .i64 t1)).setCell ⟨bb,2,none⟩ (.int .i64 t2)).setCell ⟨bb,3,none⟩ (.int .i64 i1)).setCell ⟨bb,4,none⟩ (.int .i64 i2)).setCell ⟨bb,5,none⟩ (.slice m1 m2 m3)).setCell ⟨bb,6,none⟩ (.slice none 0 0)) := by simp [go_sem,x0,x1,x2,x3,x4,x5,x6,f0,f1,f2,f3,f4,f5,f6]
  have hbx2 := box_set (k := 6) (box_set (k := 5) (box_set (k := 4) (box_set (k := 3) (box_set (k := 2) (box_set (k := 1) (box_set (k := 0) hbox (.int .i64 (Wi.within z0 1 7))) (.int .i64 t1)) (.int .i64 t2)) (.int .i64 i1)) (.int .i64 i2)) (.slice m1 m2 m3)) (.slice none 0 0)
  have hbut : But bb x (((((((x.setCell ⟨bb,0,none⟩ (.int .i64 (Wi.within z0 1 7))).setCell ⟨bb,1,none⟩ (.int .i64 t1)).setCell ⟨bb,2,none⟩ (.int .i64 t2)).setCell ⟨bb,3,none⟩ (.int .i64 i1)).setCell ⟨bb,4,none⟩ (.int .i64 i2)).setCell ⟨bb,5,none⟩ (.slice m1 m2 m3)).setCell ⟨bb,6,none⟩ (.slice none 0 0)) := (((((((but_cell _ bb _ _).trans (but_cell _ bb _ _)).trans (but_cell _ bb _ _)).trans (but_cell _ bb _ _)).trans (but_cell _ bb _ _)).trans (but_cell _ bb _ _)).trans (but_cell _ bb _ _))
  refine Rg.op_store 77 (.tmp 10) (.tmp 65) rfl rfl rfl rfl hA hC hst (hK _ (((((((hb.setCell (p := ⟨bb,0,none⟩) hbb _).setCell (p := ⟨bb,1,none⟩) hbb _).setCell (p := ⟨bb,2,none⟩) hbb _).setCell (p := ⟨bb,3,none⟩) hbb _).setCell (p := ⟨bb,4,none⟩) hbb _).setCell (p := ⟨bb,5,none⟩) hbb _).setCell (p := ⟨bb,6,none⟩) hbb _) (by simpa using hbx2) ?_)
  exact fun j u hj hjA hjS hdj hnl hls h => by
   rcases (by omega : j = 0 ∨ j = 1 ∨ j = 2 ∨ j = 3 ∨ j = 4 ∨ j = 5 ∨ j = 6 ∨ j = 7 ∨ j = 8) with rfl | rfl | rfl | rfl | rfl | rfl | rfl | rfl | rfl
   ·have h2 : u = .pointer (some ⟨bq,0,none⟩) := h; exact h2
   ·have h2 : u = .int .i64 z0 := h; exact h2
   ·have h2 : u = .int .i64 (Wi.within z0 1 7) := h; exact h2
   ·have h2 : u = .agg #[.int .i64 t1,.int .i64 t2] := h; exact h2
   ·have h2 : u = .agg #[.int .i64 i1,.int .i64 i2] := h; exact h2
   ·have h2 : u = .pointer (some ⟨bq,5,none⟩) := h; exact h2
   ·have h2 : u = .agg #[.slice h1 h2 h3,.slice g1 g2 g3] := h; exact h2
   ·exact absurd (hD ⟨8,.data⟩ (by simp) rfl) hnl
   ·obtain ⟨s,h1,h2⟩ := h; exact ⟨s,h1,hbut.own h2 hbox (by decide)⟩
 ·intro a x bb v df sz kp gA gC hbb hbox hvC hbel ⟨vs,hv⟩
  obtain ⟨⟨m1,m2,m3⟩,hv1,hv2⟩ := hvC
  subst hv1
  have g10 : a.tmps[10]? = some (.pointer (some ⟨bb,0,none⟩)) := gA
  have kp2 : ∀ j,(j < 10 ∨ 66 ≤ j) → a.tmps[j]? = (u0 :: u1 :: u2 :: u3 :: u4 :: u5 :: .pointer (some ⟨bq,0,none⟩) :: .pointer (some ⟨b7,0,none⟩) :: .pointer (some ⟨b8,0,none⟩) :: u9 :: u10 :: u11 :: u12 :: u13 :: u14 :: u15 :: u16 :: u17 :: u18 :: u19 :: u20 :: u21 :: u22 :: u23 :: u24 :: u25 :: u26 :: u27 :: u28 :: u29 :: u30 :: u31 :: u32 :: u33 :: u34 :: u35 :: u36 :: u37 :: u38 :: u39 :: u40 :: u41 :: u42 :: u43 :: u44 :: u45 :: u46 :: u47 :: u48 :: u49 :: u50 :: u51 :: u52 :: u53 :: u54 :: u55 :: u56 :: u57 :: u58 :: u59 :: u60 :: u61 :: u62 :: u63 :: u64 :: u65 :: u66 :: u67 :: u68 :: u69 :: u70 :: u71 :: u72 :: u73 :: u74 :: u75 :: u76 :: u77 :: u78 :: u79 :: u80 :: u81 :: u82 :: u83 :: u84 :: u85 :: u86 :: u87 :: u88 :: u89 :: u90 :: u91 :: u92 :: u93 :: u94 :: u95 :: u96 :: u97 :: u98 :: u99 :: u100 :: u101 :: u102 :: u103 :: u104 :: u105 :: u106 :: u107 :: u108 :: u109 :: u110 :: u111 :: u112 :: u113 :: u114 :: u115 :: u116 :: u117 :: u118 :: u119 :: u120 :: u121 :: u122 :: u123 :: [])[j]? := fun j hj => (kp j (fun i hi h => by have := (by decide : ∀ i,i < 11 → 10 ≤ [57,58,59,60,61,62,63,64,65,10,10].getD i 0 ∧ [57,58,59,60,61,62,63,64,65,10,10].getD i 0 < 66) i hi; omega)).trans List.getElem?_toArray
  obtain ⟨mid,hmid,rfl⟩ := Rg.frame_mid 10 56 df sz (by simp) kp2
  match mid,hmid with
  | v10 :: v11 :: v12 :: v13 :: v14 :: v15 :: v16 :: v17 :: v18 :: v19 :: v20 :: v21 :: v22 :: v23 :: v24 :: v25 :: v26 :: v27 :: v28 :: v29 :: v30 :: v31 :: v32 :: v33 :: v34 :: v35 :: v36 :: v37 :: v38 :: v39 :: v40 :: v41 :: v42 :: v43 :: v44 :: v45 :: v46 :: v47 :: v48 :: v49 :: v50 :: v51 :: v52 :: v53 :: v54 :: v55 :: v56 :: v57 :: v58 :: v59 :: v60 :: v61 :: v62 :: v63 :: v64 :: v65 :: [],_ =>
   obtain rfl : v10 = .pointer (some ⟨bb,0,none⟩) := Option.some.inj g10
   obtain rfl : v11 = u11 := Option.some.inj (kp 11 (fun i hi h => (by decide : ∀ i,i < 11 → [57,58,59,60,61,62,63,64,65,10,10].getD i 0 ≠ 11) i hi h))
   obtain rfl : v12 = u12 := Option.some.inj (kp 12 (fun i hi h => (by decide : ∀ i,i < 11 → [57,58,59,60,61,62,63,64,65,10,10].getD i 0 ≠ 12) i hi h))
   obtain rfl : v13 = u13 := Option.some.inj (kp 13 (fun i hi h => (by decide : ∀ i,i < 11 → [57,58,59,60,61,62,63,64,65,10,10].getD i 0 ≠ 13) i hi h))
   obtain rfl : v14 = u14 := Option.some.inj (kp 14 (fun i hi h => (by decide : ∀ i,i < 11 → [57,58,59,60,61,62,63,64,65,10,10].getD i 0 ≠ 14) i hi h))
   obtain rfl : v15 = u15 := Option.some.inj (kp 15 (fun i hi h => (by decide : ∀ i,i < 11 → [57,58,59,60,61,62,63,64,65,10,10].getD i 0 ≠ 15) i hi h))
   obtain rfl : v16 = u16 := Option.some.inj (kp 16 (fun i hi h => (by decide : ∀ i,i < 11 → [57,58,59,60,61,62,63,64,65,10,10].getD i 0 ≠ 16) i hi h))
   obtain rfl : v17 = u17 := Option.some.inj (kp 17 (fun i hi h => (by decide : ∀ i,i < 11 → [57,58,59,60,61,62,63,64,65,10,10].getD i 0 ≠ 17) i hi h))
   obtain rfl : v18 = u18 := Option.some.inj (kp 18 (fun i hi h => (by decide : ∀ i,i < 11 → [57,58,59,60,61,62,63,64,65,10,10].getD i 0 ≠ 18) i hi h))
   obtain rfl : v19 = u19 := Option.some.inj (kp 19 (fun i hi h => (by decide : ∀ i,i < 11 → [57,58,59,60,61,62,63,64,65,10,10].getD i 0 ≠ 19) i hi h))
   obtain rfl : v20 = u20 := Option.some.inj (kp 20 (fun i hi h => (by decide : ∀ i,i < 11 → [57,58,59,60,61,62,63,64,65,10,10].getD i 0 ≠ 20) i hi h))
   obtain rfl : v21 = u21 := Option.some.inj (kp 21 (fun i hi h => (by decide : ∀ i,i < 11 → [57,58,59,60,61,62,63,64,65,10,10].getD i 0 ≠ 21) i hi h))
   obtain rfl : v22 = u22 := Option.some.inj (kp 22 (fun i hi h => (by decide : ∀ i,i < 11 → [57,58,59,60,61,62,63,64,65,10,10].getD i 0 ≠ 22) i hi h))
   obtain rfl : v23 = u23 := Option.some.inj (kp 23 (fun i hi h => (by decide : ∀ i,i < 11 → [57,58,59,60,61,62,63,64,65,10,10].getD i 0 ≠ 23) i hi h))
   obtain rfl : v24 = u24 := Option.some.inj (kp 24 (fun i hi h => (by decide : ∀ i,i < 11 → [57,58,59,60,61,62,63,64,65,10,10].getD i 0 ≠ 24) i hi h))
   obtain rfl : v25 = u25 := Option.some.inj (kp 25 (fun i hi h => (by decide : ∀ i,i < 11 → [57,58,59,60,61,62,63,64,65,10,10].getD i 0 ≠ 25) i hi h))
   obtain rfl : v26 = u26 := Option.some.inj (kp 26 (fun i hi h => (by decide : ∀ i,i < 11 → [57,58,59,60,61,62,63,64,65,10,10].getD i 0 ≠ 26) i hi h))
   obtain rfl : v27 = u27 := Option.some.inj (kp 27 (fun i hi h => (by decide : ∀ i,i < 11 → [57,58,59,60,61,62,63,64,65,10,10].getD i 0 ≠ 27) i hi h))
   obtain rfl : v28 = u28 := Option.some.inj (kp 28 (fun i hi h => (by decide : ∀ i,i < 11 → [57,58,59,60,61,62,63,64,65,10,10].getD i 0 ≠ 28) i hi h))
   obtain rfl : v29 = u29 := Option.some.inj (kp 29 (fun i hi h => (by decide : ∀ i,i < 11 → [57,58,59,60,61,62,63,64,65,10,10].getD i 0 ≠ 29) i hi h))
   obtain rfl : v30 = u30 := Option.some.inj (kp 30 (fun i hi h => (by decide : ∀ i,i < 11 → [57,58,59,60,61,62,63,64,65,10,10].getD i 0 ≠ 30) i hi h))
   obtain rfl : v31 = u31 := Option.some.inj (kp 31 (fun i hi h => (by decide : ∀ i,i < 11 → [57,58,59,60,61,62,63,64,65,10,10].getD i 0 ≠ 31) i hi h))
   obtain rfl : v32 = u32 := Option.some.inj (kp 32 (fun i hi h => (by decide : ∀ i,i < 11 → [57,58,59,60,61,62,63,64,65,10,10].getD i 0 ≠ 32) i hi h))
   obtain rfl : v33 = u33 := Option.some.inj (kp 33 (fun i hi h => (by decide : ∀ i,i < 11 → [57,58,59,60,61,62,63,64,65,10,10].getD i 0 ≠ 33) i hi h))
   obtain rfl : v34 = u34 := Option.some.inj (kp 34 (fun i hi h => (by decide : ∀ i,i < 11 → [57,58,59,60,61,62,63,64,65,10,10].getD i 0 ≠ 34) i hi h))
   obtain rfl : v35 = u35 := Option.some.inj (kp 35 (fun i hi h => (by decide : ∀ i,i < 11 → [57,58,59,60,61,62,63,64,65,10,10].getD i 0 ≠ 35) i hi h))
   obtain rfl : v36 = u36 := Option.some.inj (kp 36 (fun i hi h => (by decide : ∀ i,i < 11 → [57,58,59,60,61,62,63,64,65,10,10].getD i 0 ≠ 36) i hi h))
   obtain rfl : v37 = u37 := Option.some.inj (kp 37 (fun i hi h => (by decide : ∀ i,i < 11 → [57,58,59,60,61,62,63,64,65,10,10].getD i 0 ≠ 37) i hi h))
   obtain rfl : v38 = u38 := Option.some.inj (kp 38 (fun i hi h => (by decide : ∀ i,i < 11 → [57,58,59,60,61,62,63,64,65,10,10].getD i 0 ≠ 38) i hi h))
   obtain rfl : v39 = u39 := Option.some.inj (kp 39 (fun i hi h => (by decide : ∀ i,i < 11 → [57,58,59,60,61,62,63,64,65,10,10].getD i 0 ≠ 39) i hi h))
   obtain rfl : v40 = u40 := Option.some.inj (kp 40 (fun i hi h => (by decide : ∀ i,i < 11 → [57,58,59,60,61,62,63,64,65,10,10].getD i 0 ≠ 40) i hi h))
   obtain rfl : v41 = u41 := Option.some.inj (kp 41 (fun i hi h => (by decide : ∀ i,i < 11 → [57,58,59,60,61,62,63,64,65,10,10].getD i 0 ≠ 41) i hi h))
   obtain rfl : v42 = u42 := Option.some.inj (kp 42 (fun i hi h => (by decide : ∀ i,i < 11 → [57,58,59,60,61,62,63,64,65,10,10].getD i 0 ≠ 42) i hi h))
   obtain rfl : v43 = u43 := Option.some.inj (kp 43 (fun i hi h => (by decide : ∀ i,i < 11 → [57,58,59,60,61,62,63,64,65,10,10].getD i 0 ≠ 43) i hi h))
   obtain rfl : v44 = u44 := Option.some.inj (kp 44 (fun i hi h => (by decide : ∀ i,i < 11 → [57,58,59,60,61,62,63,64,65,10,10].getD i 0 ≠ 44) i hi h))
   obtain rfl : v45 = u45 := Option.some.inj (kp 45 (fun i hi h => (by decide : ∀ i,i < 11 → [57,58,59,60,61,62,63,64,65,10,10].getD i 0 ≠ 45) i hi h))
   obtain rfl : v46 = u46 := Option.some.inj (kp 46 (fun i hi h => (by decide : ∀ i,i < 11 → [57,58,59,60,61,62,63,64,65,10,10].getD i 0 ≠ 46) i hi h))
   obtain rfl : v47 = u47 := Option.some.inj (kp 47 (fun i hi h => (by decide : ∀ i,i < 11 → [57,58,59,60,61,62,63,64,65,10,10].getD i 0 ≠ 47) i hi h))
   obtain rfl : v48 = u48 := Option.some.inj (kp 48 (fun i hi h => (by decide : ∀ i,i < 11 → [57,58,59,60,61,62,63,64,65,10,10].getD i 0 ≠ 48) i hi h))
   obtain rfl : v49 = u49 := Option.some.inj (kp 49 (fun i hi h => (by decide : ∀ i,i < 11 → [57,58,59,60,61,62,63,64,65,10,10].getD i 0 ≠ 49) i hi h))
   obtain rfl : v50 = u50 := Option.some.inj (kp 50 (fun i hi h => (by decide : ∀ i,i < 11 → [57,58,59,60,61,62,63,64,65,10,10].getD i 0 ≠ 50) i hi h))
   obtain rfl : v51 = u51 := Option.some.inj (kp 51 (fun i hi h => (by decide : ∀ i,i < 11 → [57,58,59,60,61,62,63,64,65,10,10].getD i 0 ≠ 51) i hi h))
   obtain rfl : v52 = u52 := Option.some.inj (kp 52 (fun i hi h => (by decide : ∀ i,i < 11 → [57,58,59,60,61,62,63,64,65,10,10].getD i 0 ≠ 52) i hi h))
   obtain rfl : v53 = u53 := Option.some.inj (kp 53 (fun i hi h => (by decide : ∀ i,i < 11 → [57,58,59,60,61,62,63,64,65,10,10].getD i 0 ≠ 53) i hi h))
   obtain rfl : v54 = u54 := Option.some.inj (kp 54 (fun i hi h => (by decide : ∀ i,i < 11 → [57,58,59,60,61,62,63,64,65,10,10].getD i 0 ≠ 54) i hi h))
   obtain rfl : v55 = u55 := Option.some.inj (kp 55 (fun i hi h => (by decide : ∀ i,i < 11 → [57,58,59,60,61,62,63,64,65,10,10].getD i 0 ≠ 55) i hi h))
   obtain rfl : v56 = u56 := Option.some.inj (kp 56 (fun i hi h => (by decide : ∀ i,i < 11 → [57,58,59,60,61,62,63,64,65,10,10].getD i 0 ≠ 56) i hi h))
   exact HQ.out x bb _ _ _ _ _ _ _ _ _ m1 m2 m3 hbb hbox hv2 hbel
theorem sameD_any (x y : XAd) (a b : Ad) (w : World) (hx : AdIn w x a) (hy : AdIn w y b) (hl : a.p.length ≤ 1000000) : Calls Tryz.prog 58 #[valD x,valD y] w fun e w' => e = .returned (.bool (eqD a b)) ∧ Below w.heap.size w w' := by
 obtain ⟨x1,x2,⟨xo,xn,xc⟩,x4⟩ := x
 obtain ⟨y1,y2,⟨yo,yn,yc⟩,y4⟩ := y
 obtain ⟨gi,gp,gr⟩ := hx
 obtain ⟨ki,kp,kr⟩ := hy
 have ER : eqD a b = ((x1 == y1 && x2 == y2) && ((x4 == y4) && sameC a.p b.p)) := by
  unfold eqD
  rw [← gi,← ki,← gp,← kp]
  rfl
 rw [ER]
 obtain ⟨h0,X,Y⟩ := two_new w #[.int .i64 x1,.int .i64 x2,.slice xo xn xc,.int .i64 x4] #[.int .i64 y1,.int .i64 y2,.slice yo yn yc,.int .i64 y4] 41 41
 have C := Lib.hid (psame_any _ _ a.p b.p _ (gr.on h0) (kr.on h0) hl)
 obtain ⟨cx0,cx1,cx2,cx3⟩ := X.cs4
 obtain ⟨cy0,cy1,cy2,cy3⟩ := Y.cs4
 have B0 := Lib.hid h0
 clear h0 X Y gr kr hl ER gi gp ki kp
 obtain ⟨r0,hr0⟩ : ∃ r,(x1 == y1 && x2 == y2) = r := ⟨_,rfl⟩
 have he0 := eqId x1 x2 y1 y2 r0 hr0
 obtain ⟨r1,hr1⟩ : ∃ r,(x4 == y4) = r := ⟨_,rfl⟩
 rw [hr0,hr1]
 clear hr0
 obtain ⟨rs,hrs⟩ : ∃ r,sameC a.p b.p = r := ⟨_,rfl⟩
 rw [hrs] at C ⊢
 clear hrs
 go_enter Tryz.func58,Tryz.ntmps58
 cases r0
 ·go_wp2_with fail
  go_ret
  exact ⟨rfl,B0.out⟩
 ·cases r1
  ·go_wp2_with fail
   go_ret
   exact ⟨rfl,B0.out⟩
  ·go_wp2_with fail
   refine C.out.mono ?_
   rintro e w1 ⟨rfl,hb⟩
   have BB := Lib.hid (B0.out.trans (hb.mono B0.out.size))
   clear hb
   go_wp2
   go_ret
   exact ⟨rfl,BB.out⟩
theorem eqfD_any (v u : Sl) (l m : List XAd) (al bl : List Ad) (w : World) (ha : Row ED w (slv v) l) (hb : Row ED w (slv u) m) (hA : All2 (AdIn w) l al) (hB : All2 (AdIn w) m bl) (hs : ∀ a ∈ al,a.p.length ≤ 1000000) :
  Calls Tryz.prog 57 #[slv v,slv u,.func (.func 58) #[] #[]] w fun e w' => e = .returned (.bool (sameG eqD al bl)) ∧ Below w.heap.size w w' := by
 obtain ⟨so,sn,sc⟩ := v
 obtain ⟨uo,un,uc⟩ := u
 obtain ⟨ao,ac,hv⟩ := ha.len
 have hv : Value.slice so sn sc = .slice ao l.length ac := hv
 obtain ⟨rfl,rfl,rfl⟩ : so = ao ∧ sn = l.length ∧ sc = ac := by simpa using hv
 obtain ⟨ao,ac,hv2⟩ := hb.len
 have hv2 : Value.slice uo un uc = .slice ao m.length ac := hv2
 obtain ⟨rfl,rfl,rfl⟩ : uo = ao ∧ un = m.length ∧ uc = ac := by simpa using hv2
 have RA := Lib.hid ha
 have RB := Lib.hid hb
 have LA := Lib.hid hA
 have LB := Lib.hid hB
 have HS := Lib.hid hs
 have ma := ha.most
 unfold maxLen at ma
 clear ha hb hA hB hs hv hv2
 by_cases hlen : l.length = m.length
 ·have HL := Lib.hid hlen
  rw [← hlen] at RB ⊢
  generalize hn : l.length = n at *
  have HN := Lib.hid hn
  clear hlen hn
  go_enter Tryz.func57,Tryz.ntmps57
  go_wp2
  go_loopw [17] (fun i wr => ∃ k : Nat,k ≤ n ∧ i = .int .i64 k ∧ Below w.heap.size w wr ∧ ∀ (j : Nat) (x y : Ad),j < k → al[j]? = some x → bl[j]? = some y → eqD x y = true) (fun i _ => n - (intOf i).toNat)
  case atStart => exact ⟨0,Nat.zero_le _,rfl,Below.refl _ _,fun j x y h => by omega⟩
  case round =>
   obtain ⟨k,hk,rfl,hbe,hall⟩ := hrel
   have BE := Lib.hid hbe
   have AL := Lib.hid hall
   clear hbe hall
   by_cases hlt : k < n
   ·obtain ⟨a,hak⟩ : ∃ a,al[k]? = some a := ⟨_,List.getElem?_eq_getElem (by rw [← LA.out.len,HN.out]; exact hlt)⟩
    obtain ⟨b,hbk⟩ : ∃ b,bl[k]? = some b := ⟨_,List.getElem?_eq_getElem (by rw [← LB.out.len,← HL.out]; exact hlt)⟩
    obtain ⟨x,hx,ix⟩ := LA.out.at k a hak
    obtain ⟨y,hy,iy⟩ := LB.out.at k b hbk
    obtain ⟨p,jx,px⟩ := elD RA.out rfl HN.out hx
    obtain ⟨q,jy,py⟩ := elD RB.out rfl HL.out.symm hy
    obtain ⟨p0,p1,p2,p3⟩ := px wr BE.out
    have hs1 := HS.out a (List.mem_of_getElem? hak)
    have CC := fun W' (h : Below w.heap.size w W') => sameD_any x y a b W' (ix.on h) (iy.on h) hs1
    have HAK := Lib.hid hak
    have HBK := Lib.hid hbk
    clear hx hy hak hbk hs1 px ix iy
    obtain ⟨x1,x2,⟨xo,xn,xc⟩,x4⟩ := x
    obtain ⟨y1,y2,⟨yo,yn,yc⟩,y4⟩ := y
    simp only at p0 p1 p2 p3
    have N1 := newB wr (.cells #[.int .i64 x1,.int .i64 x2,.slice xo xn xc,.int .i64 x4] 41)
    have N2 := newB (wr.alloc (.cells #[.int .i64 x1,.int .i64 x2,.slice xo xn xc,.int .i64 x4] 41)) (.cells #[.int .i64 y1,.int .i64 y2,.slice yo yn yc,.int .i64 y4] 41)
    have BN := Lib.hid (BE.out.trans ((N1.trans (N2.mono N1.size)).mono BE.out.size))
    obtain ⟨q0,q1,q2,q3⟩ := py _ (BE.out.trans (N1.mono BE.out.size))
    have hX := (box_new wr #[.int .i64 x1,.int .i64 x2,.slice xo xn xc,.int .i64 x4] 41).on N2
    have hY := box_new (wr.alloc (.cells #[.int .i64 x1,.int .i64 x2,.slice xo xn xc,.int .i64 x4] 41)) #[.int .i64 y1,.int .i64 y2,.slice yo yn yc,.int .i64 y4] 41
    have hsz : (wr.alloc (.cells #[.int .i64 x1,.int .i64 x2,.slice xo xn xc,.int .i64 x4] 41)).heap.size = wr.heap.size + 1 := by simp
    rw [hsz] at hY
    obtain ⟨ex0,ex1,ex2,ex3⟩ := hX.cs4
    obtain ⟨ey0,ey1,ey2,ey3⟩ := hY.cs4
    simp only at q0 q1 q2 q3
    have hw3 : IntKind.i64.wrap ((k : Int) + 1) = (k : Int) + 1 := IntWalk.i64_in _ (by omega)
    have C := Lib.hid (CC _ BN.out)
    obtain ⟨r,hr⟩ : ∃ r,eqD a b = r := ⟨_,rfl⟩
    rw [hr] at C
    have HR := Lib.hid hr
    clear CC hr N1 N2 hX hY hsz py
    go_wp2_with fail
    refine C.out.mono ?_
    rintro e w1 ⟨rfl,hb⟩
    have BB := Lib.hid (BN.out.trans (hb.mono BN.out.size))
    clear hb C p0 p1 p2 p3 q0 q1 q2 q3 ex0 ex1 ex2 ex3 ey0 ey1 ey2 ey3 jx jy
    cases r
    ·have R := Lib.hid (show sameG eqD al bl = false from sameG_not al bl k a b HAK.out HBK.out HR.out)
     go_wp2
     go_ret
     exact ⟨by rw [R.out]; rfl,BB.out⟩
    ·go_wp2
     go_roundw
     case rel => exact ⟨k + 1,by omega,by go_num,BB.out,fun j x' y' hj h1 h2 => by
      rcases Nat.lt_or_ge j k with h3 | h3
      ·exact AL.out j x' y' h3 h1 h2
      ·obtain rfl : j = k := by omega
       have e1 := HAK.out
       have e2 := HBK.out
       rw [h1] at e1
       rw [h2] at e2
       rw [Option.some.inj e1,Option.some.inj e2]
       exact HR.out⟩
     case measure => simp [intOf]; omega
   ·obtain rfl : k = n := by omega
    have R := Lib.hid (show sameG eqD al bl = true from sameG_all al bl (by rw [← LA.out.len,← LB.out.len,HN.out]; exact HL.out) (fun j a b h1 h2 => AL.out j a b (by have := (List.getElem?_eq_some_iff.1 h1).1; have := HN.out; have := LA.out.len; omega) h1 h2))
    go_wp2
    go_ret
    exact ⟨by rw [R.out]; rfl,BE.out⟩
 ·have R := Lib.hid (show sameG eqD al bl = false by
   cases h : sameG eqD al bl
   ·rfl
   ·exact absurd ((LA.out.len.trans (sameG_len _ _ h)).trans LB.out.len.symm) hlen)
  have hne : (((l.length : Nat) : Int) != ((m.length : Nat) : Int)) = true := by simp; omega
  have hne2 : (((l.length : Nat) : Int) == ((m.length : Nat) : Int)) = false := by simp; omega
  clear hlen
  go_enter Tryz.func57,Tryz.ntmps57
  go_wp2
  go_ret
  exact ⟨by rw [R.out]; rfl,Below.refl _ _⟩
theorem sameW_any (x y : XOw) (a b : Ow) (w : World) (hx : OwIn w x a) (hy : OwIn w y b) (hl : a.p.length ≤ 1000000) : Calls Tryz.prog 62 #[valW x,valW y] w fun e w' => e = .returned (.bool (eqW a b)) ∧ Below w.heap.size w w' := by
 obtain ⟨x1,x2,⟨xo,xn,xc⟩⟩ := x
 obtain ⟨y1,y2,⟨yo,yn,yc⟩⟩ := y
 obtain ⟨gi,gr⟩ := hx
 obtain ⟨ki,kr⟩ := hy
 have ER : eqW a b = ((x1 == y1 && x2 == y2) && sameC a.p b.p) := by
  unfold eqW
  rw [← gi,← ki]
  rfl
 rw [ER]
 obtain ⟨h0,X,Y⟩ := two_new w #[.int .i64 x1,.int .i64 x2,.slice xo xn xc] #[.int .i64 y1,.int .i64 y2,.slice yo yn yc] 45 45
 have C := Lib.hid (psame_any _ _ a.p b.p _ (gr.on h0) (kr.on h0) hl)
 obtain ⟨cx0,cx1,cx2⟩ := X.cs3
 obtain ⟨cy0,cy1,cy2⟩ := Y.cs3
 have B0 := Lib.hid h0
 clear h0 X Y gr kr hl ER gi ki
 obtain ⟨r0,hr0⟩ : ∃ r,(x1 == y1 && x2 == y2) = r := ⟨_,rfl⟩
 have he0 := eqId x1 x2 y1 y2 r0 hr0
 rw [hr0]
 clear hr0
 obtain ⟨rs,hrs⟩ : ∃ r,sameC a.p b.p = r := ⟨_,rfl⟩
 rw [hrs] at C ⊢
 clear hrs
 go_enter Tryz.func62,Tryz.ntmps62
 cases r0
 ·go_wp2_with fail
  go_ret
  exact ⟨rfl,B0.out⟩
 ·go_wp2_with fail
  refine C.out.mono ?_
  rintro e w1 ⟨rfl,hb⟩
  have BB := Lib.hid (B0.out.trans (hb.mono B0.out.size))
  clear hb
  go_wp2
  go_ret
  exact ⟨rfl,BB.out⟩
theorem eqfW_any (v u : Sl) (l m : List XOw) (al bl : List Ow) (w : World) (ha : Row EW w (slv v) l) (hb : Row EW w (slv u) m) (hA : All2 (OwIn w) l al) (hB : All2 (OwIn w) m bl) (hs : ∀ a ∈ al,a.p.length ≤ 1000000) :
  Calls Tryz.prog 61 #[slv v,slv u,.func (.func 62) #[] #[]] w fun e w' => e = .returned (.bool (sameG eqW al bl)) ∧ Below w.heap.size w w' := by
 obtain ⟨so,sn,sc⟩ := v
 obtain ⟨uo,un,uc⟩ := u
 obtain ⟨ao,ac,hv⟩ := ha.len
 have hv : Value.slice so sn sc = .slice ao l.length ac := hv
 obtain ⟨rfl,rfl,rfl⟩ : so = ao ∧ sn = l.length ∧ sc = ac := by simpa using hv
 obtain ⟨ao,ac,hv2⟩ := hb.len
 have hv2 : Value.slice uo un uc = .slice ao m.length ac := hv2
 obtain ⟨rfl,rfl,rfl⟩ : uo = ao ∧ un = m.length ∧ uc = ac := by simpa using hv2
 have RA := Lib.hid ha
 have RB := Lib.hid hb
 have LA := Lib.hid hA
 have LB := Lib.hid hB
 have HS := Lib.hid hs
 have ma := ha.most
 unfold maxLen at ma
 clear ha hb hA hB hs hv hv2
 by_cases hlen : l.length = m.length
 ·have HL := Lib.hid hlen
  rw [← hlen] at RB ⊢
  generalize hn : l.length = n at *
  have HN := Lib.hid hn
  clear hlen hn
  go_enter Tryz.func61,Tryz.ntmps61
  go_wp2
  go_loopw [17] (fun i wr => ∃ k : Nat,k ≤ n ∧ i = .int .i64 k ∧ Below w.heap.size w wr ∧ ∀ (j : Nat) (x y : Ow),j < k → al[j]? = some x → bl[j]? = some y → eqW x y = true) (fun i _ => n - (intOf i).toNat)
  case atStart => exact ⟨0,Nat.zero_le _,rfl,Below.refl _ _,fun j x y h => by omega⟩
  case round =>
   obtain ⟨k,hk,rfl,hbe,hall⟩ := hrel
   have BE := Lib.hid hbe
   have AL := Lib.hid hall
   clear hbe hall
   by_cases hlt : k < n
   ·obtain ⟨a,hak⟩ : ∃ a,al[k]? = some a := ⟨_,List.getElem?_eq_getElem (by rw [← LA.out.len,HN.out]; exact hlt)⟩
    obtain ⟨b,hbk⟩ : ∃ b,bl[k]? = some b := ⟨_,List.getElem?_eq_getElem (by rw [← LB.out.len,← HL.out]; exact hlt)⟩
    obtain ⟨x,hx,ix⟩ := LA.out.at k a hak
    obtain ⟨y,hy,iy⟩ := LB.out.at k b hbk
    obtain ⟨p,jx,px⟩ := elW RA.out rfl HN.out hx
    obtain ⟨q,jy,py⟩ := elW RB.out rfl HL.out.symm hy
    obtain ⟨p0,p1,p2⟩ := px wr BE.out
    have hs1 := HS.out a (List.mem_of_getElem? hak)
    have CC := fun W' (h : Below w.heap.size w W') => sameW_any x y a b W' (ix.on h) (iy.on h) hs1
    have HAK := Lib.hid hak
    have HBK := Lib.hid hbk
    clear hx hy hak hbk hs1 px ix iy
    obtain ⟨x1,x2,⟨xo,xn,xc⟩⟩ := x
    obtain ⟨y1,y2,⟨yo,yn,yc⟩⟩ := y
    simp only at p0 p1 p2
    have N1 := newB wr (.cells #[.int .i64 x1,.int .i64 x2,.slice xo xn xc] 45)
    have N2 := newB (wr.alloc (.cells #[.int .i64 x1,.int .i64 x2,.slice xo xn xc] 45)) (.cells #[.int .i64 y1,.int .i64 y2,.slice yo yn yc] 45)
    have BN := Lib.hid (BE.out.trans ((N1.trans (N2.mono N1.size)).mono BE.out.size))
    obtain ⟨q0,q1,q2⟩ := py _ (BE.out.trans (N1.mono BE.out.size))
    have hX := (box_new wr #[.int .i64 x1,.int .i64 x2,.slice xo xn xc] 45).on N2
    have hY := box_new (wr.alloc (.cells #[.int .i64 x1,.int .i64 x2,.slice xo xn xc] 45)) #[.int .i64 y1,.int .i64 y2,.slice yo yn yc] 45
    have hsz : (wr.alloc (.cells #[.int .i64 x1,.int .i64 x2,.slice xo xn xc] 45)).heap.size = wr.heap.size + 1 := by simp
    rw [hsz] at hY
    obtain ⟨ex0,ex1,ex2⟩ := hX.cs3
    obtain ⟨ey0,ey1,ey2⟩ := hY.cs3
    simp only at q0 q1 q2
    have hw3 : IntKind.i64.wrap ((k : Int) + 1) = (k : Int) + 1 := IntWalk.i64_in _ (by omega)
    have C := Lib.hid (CC _ BN.out)
    obtain ⟨r,hr⟩ : ∃ r,eqW a b = r := ⟨_,rfl⟩
    rw [hr] at C
    have HR := Lib.hid hr
    clear CC hr N1 N2 hX hY hsz py
    go_wp2_with fail
    refine C.out.mono ?_
    rintro e w1 ⟨rfl,hb⟩
    have BB := Lib.hid (BN.out.trans (hb.mono BN.out.size))
    clear hb C p0 p1 p2 q0 q1 q2 ex0 ex1 ex2 ey0 ey1 ey2 jx jy
    cases r
    ·have R := Lib.hid (show sameG eqW al bl = false from sameG_not al bl k a b HAK.out HBK.out HR.out)
     go_wp2
     go_ret
     exact ⟨by rw [R.out]; rfl,BB.out⟩
    ·go_wp2
     go_roundw
     case rel => exact ⟨k + 1,by omega,by go_num,BB.out,fun j x' y' hj h1 h2 => by
      rcases Nat.lt_or_ge j k with h3 | h3
      ·exact AL.out j x' y' h3 h1 h2
      ·obtain rfl : j = k := by omega
       have e1 := HAK.out
       have e2 := HBK.out
       rw [h1] at e1
       rw [h2] at e2
       rw [Option.some.inj e1,Option.some.inj e2]
       exact HR.out⟩
     case measure => simp [intOf]; omega
   ·obtain rfl : k = n := by omega
    have R := Lib.hid (show sameG eqW al bl = true from sameG_all al bl (by rw [← LA.out.len,← LB.out.len,HN.out]; exact HL.out) (fun j a b h1 h2 => AL.out j a b (by have := (List.getElem?_eq_some_iff.1 h1).1; have := HN.out; have := LA.out.len; omega) h1 h2))
    go_wp2
    go_ret
    exact ⟨by rw [R.out]; rfl,BE.out⟩
 ·have R := Lib.hid (show sameG eqW al bl = false by
   cases h : sameG eqW al bl
   ·rfl
   ·exact absurd ((LA.out.len.trans (sameG_len _ _ h)).trans LB.out.len.symm) hlen)
  have hne : (((l.length : Nat) : Int) != ((m.length : Nat) : Int)) = true := by simp; omega
  have hne2 : (((l.length : Nat) : Int) == ((m.length : Nat) : Int)) = false := by simp; omega
  clear hlen
  go_enter Tryz.func61,Tryz.ntmps61
  go_wp2
  go_ret
  exact ⟨by rw [R.out]; rfl,Below.refl _ _⟩
end Go.Proofs.YtncogjpmboglhaaGreat.Av
