/-
  slices.BinarySearch of numbers; comes of package adverts. Conditions as told.
-/
import Derived.Test.YtncogjpmboglhaaGreatQ009
import Derived.Test.YtncogjpmboglhaaGreatQ012
import Derived.Deep.LoopGhost
import Derived.Test.YtncogjpmboglhaaGreatQ018
import Derived.Laws.Externs
import Derived.Test.YtncogjpmboglhaaGreatQ019
import Derived.Test.YtncogjpmboglhaaGreatQ022
import Derived.Test.YtncogjpmboglhaaGreatQ001
import Derived.Test.YtncogjpmboglhaaGreatQ021
import Derived.ChangeSlices
import Derived.Deep.Slices
set_option maxRecDepth 100000
set_option maxHeartbeats 64000000
namespace Go.Proofs.YtncogjpmboglhaaGreat.Av
open Go.RowKit Go.Sort Rw YtncogjpmboglhaaGreat.Nm Pr Bk
theorem isNaN2_any (a : Int) (w : World) : Calls Tryz.prog 159 #[.int .i64 a] w fun e w' => e = .returned (.bool false) ∧ w' = w := by
 go_enter Tryz.func159,Tryz.ntmps159
 go_wp2
 go_ret
 exact ⟨by simp,rfl⟩
theorem less2_any (a b : Int) (r : Bool) (hr : decide (a < b) = r) (w : World) : Calls Tryz.prog 144 #[.int .i64 a,.int .i64 b] w fun e w' => e = .returned (.bool r) ∧ w' = w := by
 go_enter Tryz.func144,Tryz.ntmps144
 go_wp2_with (go_at_call 103; refine (isNaN_any _ _).mono ?_; rintro e w' ⟨rfl,rfl⟩)
 go_ret
 exact ⟨by first | rfl | (subst hr; rfl),rfl⟩
theorem bsI_any (v : Value) (l : List Int) (t : Int) (w : World) (hv : RowI w v l) (hs : l.Pairwise (· ≤ ·)) (hl : l.length ≤ 900) :
  Calls Tryz.prog 134 #[v,.int .i64 t] w fun e w' => (∃ k : Nat,e = .returned (.tuple #[.int .i64 k,.bool (decide (t ∈ l))])) ∧ w' = w := by
 have HL := Lib.hid hv
 have HS := Lib.hid (List.pairwise_iff_getElem.1 hs)
 obtain ⟨ao,ac,rfl⟩ := hv.len
 obtain ⟨n,hn⟩ : ∃ n,n = l.length := ⟨_,rfl⟩
 rw [← hn] at HL hl ⊢
 have HN := Lib.hid hn
 obtain ⟨th,ht⟩ : ∃ k,k = decide (t ∈ l) := ⟨_,rfl⟩
 rw [← ht]
 have HT := Lib.hid ht
 clear hv hs hn ht
 go_enter Tryz.func134,Tryz.ntmps134
 go_wp2
 go_loopg [7,8] n (fun kx s7 s8 wr => ∃ lo hi : Nat,s7 = .int .i64 lo ∧ s8 = .int .i64 hi ∧ lo ≤ hi ∧ hi ≤ n ∧ hi - lo ≤ kx ∧ RowKit.Hid (wr = w) ∧
  (∀ (j : Nat) (y : Int),j < lo → l[j]? = some y → y < t) ∧ (∀ (j : Nat) (y : Int),hi ≤ j → l[j]? = some y → t ≤ y))
 case atStart => exact ⟨0,n,rfl,rfl,Nat.zero_le _,Nat.le_refl _,by omega,by first | exact Lib.hid rfl | exact Lib.hid trivial,fun j y h => by omega,fun j y h1 h2 => by have := (List.getElem?_eq_some_iff.1 h2).1; have := HN.out; omega⟩
 case round =>
  obtain ⟨lo,hi,rfl,rfl,hlh,hin,hg,hw,ha,hz⟩ := hrel
  obtain rfl := hw.out
  clear hw
  have AL := Lib.hid ha
  have ZL := Lib.hid hz
  clear ha hz
  by_cases hlt : lo < hi
  ·obtain ⟨y,hy⟩ : ∃ y,l[(lo + hi) / 2]? = some y := ⟨_,List.getElem?_eq_getElem (by have := HN.out; omega)⟩
   obtain ⟨p,ix,_,px⟩ := elI HL.out rfl HN.out.symm hy
   have p0 := px wr (Below.refl _ _)
   have Y := Lib.hid hy
   have e23 : ((lo : Int) + (hi : Int)) / 2 = (((lo + hi) / 2 : Nat) : Int) := by omega
   generalize hm : (lo + hi) / 2 = m at *
   have hcmp : ∀ (i j : Nat) (a b : Int),i ≤ j → l[i]? = some a → l[j]? = some b → a ≤ b := by
    intro i j a b hij h1 h2
    obtain ⟨q1,rfl⟩ := List.getElem?_eq_some_iff.1 h1
    obtain ⟨q2,rfl⟩ := List.getElem?_eq_some_iff.1 h2
    rcases Nat.lt_or_ge i j with h | h
    ·exact HS.out i j q1 q2 h
    ·obtain rfl : i = j := by omega
     exact Int.le_refl _
   have CM := Lib.hid hcmp
   clear px hy hcmp
   by_cases hneg : y < t
   ·have C := less2_any y t true (by simpa using hneg)
    go_wp2_with fail
    refine (C _).mono ?_
    rintro e w' ⟨rfl,rfl⟩
    clear C ix p0
    go_wp2
    go_roundg (hi - (m + 1))
    case measure => omega
    case rel => exact ⟨m + 1,hi,by go_num,rfl,by omega,hin,Nat.le_refl _,by first | exact Lib.hid rfl | exact Lib.hid trivial,fun j z h1 h2 => by
     have := CM.out j m z y (by omega) h2 Y.out
     omega,ZL.out⟩
   ·have C := less2_any y t false (by simp; omega)
    go_wp2_with fail
    refine (C _).mono ?_
    rintro e w' ⟨rfl,rfl⟩
    clear C ix p0
    go_wp2
    go_roundg (m - lo)
    case measure => omega
    case rel => exact ⟨lo,m,rfl,rfl,by omega,by omega,Nat.le_refl _,by first | exact Lib.hid rfl | exact Lib.hid trivial,AL.out,fun j z h1 h2 => by
     have := CM.out m j y z h1 Y.out h2
     omega⟩
  ·obtain rfl : hi = lo := by omega
   have memk : ∀ x,l[hi]? = some x → (t ∈ l ↔ x = t) := by
    intro x hx
    constructor
    ·intro hm
     obtain ⟨j,hj,rfl⟩ := List.mem_iff_getElem.1 hm
     have h1 := ZL.out hi x (Nat.le_refl _) hx
     obtain ⟨q1,rfl⟩ := List.getElem?_eq_some_iff.1 hx
     rcases Nat.lt_trichotomy j hi with h | h | h
     ·have := AL.out j _ h (List.getElem?_eq_getElem hj); omega
     ·subst h; rfl
     ·have := HS.out hi j q1 hj h; omega
    ·rintro rfl
     exact List.mem_of_getElem? hx
   by_cases hn : hi < n
   ·obtain ⟨x,hx⟩ : ∃ x,l[hi]? = some x := ⟨_,List.getElem?_eq_getElem (by have := HN.out; omega)⟩
    obtain ⟨p,ix,_,px⟩ := elI HL.out rfl HN.out.symm hx
    have p0 := px wr (Below.refl _ _)
    have g4 : decide ((hi : Int) < (n : Int)) = true := by simp; omega
    have MK := memk x hx
    clear memk px
    by_cases he : x = t
    ·have TH := Lib.hid (show th = true by rw [HT.out,decide_eq_true (MK.2 he)])
     have g5 : (x == t) = true := by simp [he]
     clear hx MK he hlt
     go_wp2_with (go_at_call 159; refine (isNaN2_any _ _).mono ?_; rintro e w' ⟨rfl,rfl⟩)
     go_ret2
     exact ⟨⟨hi,by rw [TH.out]; rfl⟩,rfl⟩
    ·have TH := Lib.hid (show th = false by rw [HT.out,decide_eq_false (fun h => he (MK.1 h))])
     have g5 : (x == t) = false := by simp [he]
     clear hx MK he hlt
     go_wp2_with (go_at_call 159; refine (isNaN2_any _ _).mono ?_; rintro e w' ⟨rfl,rfl⟩)
     go_ret2
     exact ⟨⟨hi,by rw [TH.out]; rfl⟩,rfl⟩
   ·have TH := Lib.hid (show th = false by
     rw [HT.out]
     refine decide_eq_false fun hm => ?_
     obtain ⟨j,hj,hjt⟩ := List.mem_iff_getElem.1 hm
     have := AL.out j _ (by have := HN.out; omega) (List.getElem?_eq_getElem hj)
     omega)
    have g4 : decide ((hi : Int) < (n : Int)) = false := by simp; omega
    clear hlt memk
    go_wp2_with fail
    go_ret2
    exact ⟨⟨hi,by rw [TH.out]; rfl⟩,rfl⟩
def comesB (near : List Int) (f : Int) : Bool := decide (f ∈ near) || f == -1
theorem comes_any (me : Int) (nv : Sl) (z2 z3 z4 z5 : Value) (l : List Int) (f : Int) (w : World) (hn : RowI w (slv nv) l) (hs : l.Pairwise (· ≤ ·)) (hl : l.length ≤ 900) :
  Calls Tryz.prog 106 #[.agg #[.int .i64 me,slv nv,z2,z3,z4,z5],.int .i64 f] w fun e w' => e = .returned (.bool (comesB l f)) ∧ Below w.heap.size w w' := by
 obtain ⟨o1,n1,c1⟩ := nv
 have n0 := newB w (.cells #[.int .i64 me,.slice o1 n1 c1,z2,z3,z4,z5] 31)
 have X := box_new w #[.int .i64 me,.slice o1 n1 c1,z2,z3,z4,z5] 31
 have C := Lib.hid (bsI_any (.slice o1 n1 c1) l f _ (hn.on n0) hs hl)
 have x1 := X.cell 1
 simp only [List.getElem?_toArray,List.getElem?_cons_zero,List.getElem?_cons_succ] at x1
 have R := Lib.hid (show comesB l f = (decide (f ∈ l) || f == -1) from rfl)
 generalize comesB l f = res at *
 generalize decide (f ∈ l) = r at *
 have B0 := Lib.hid n0
 obtain ⟨q,hq⟩ : ∃ q,(f == -1) = q := ⟨_,rfl⟩
 rw [hq] at R
 clear n0 X hn hs hl
 go_enter Tryz.func106,Tryz.ntmps106
 go_wp2_with fail
 refine C.out.mono ?_
 rintro e w1 ⟨⟨k,rfl⟩,rfl⟩
 cases r
 ·go_wp2_with fail
  go_ret
  exact ⟨by rw [R.out]; rfl,B0.out⟩
 ·go_wp2_with fail
  go_ret
  exact ⟨by rw [R.out]; rfl,B0.out⟩
def ent1V (_B : Nat) (b1 b2 : Nat) (x1 x2 x3 x4 : Int) (_xo : Option Addr) (_xn _xc : Nat) (_x6 : Int) (_x7 : Bool) (y1 y2 y3 y4 : Int) (_yo : Option Addr) (_yn _yc : Nat) (_y6 : Int) (_y7 : Bool) (i : Nat) (v : Value) (x : World) : Prop :=
 match i with
 | 0 => v = .pointer (some ⟨b1,0,none⟩)
 | 1 => v = .agg #[.int .i64 x1,.int .i64 x2]
 | 2 => v = .pointer (some ⟨b2,0,none⟩)
 | 3 => v = .agg #[.int .i64 y1,.int .i64 y2]
 | 4 => v = .int .i64 (cmpJ (x1,x2) (y1,y2))
 | 5 => v = .pointer (some ⟨b1,2,none⟩)
 | 6 => v = .agg #[.int .i64 x3,.int .i64 x4]
 | 7 => v = .pointer (some ⟨b2,2,none⟩)
 | 8 => v = .agg #[.int .i64 y3,.int .i64 y4]
 | 9 => v = .int .i64 (cmpJ (x3,x4) (y3,y4))
 | 10 => ∃ g,v = .slice (some ⟨g,0,none⟩) 2 2 ∧ x.cell? ⟨g,0,none⟩ = some (.int .i64 (cmpJ (x1,x2) (y1,y2))) ∧ x.cell? ⟨g,1,none⟩ = some (.int .i64 (cmpJ (x3,x4) (y3,y4)))
 | 11 => v = .int .i64 (orI (cmpJ (x1,x2) (y1,y2)) (cmpJ (x3,x4) (y3,y4)))
 | _ => True
noncomputable def ent1C : Code := ((Tryz.f43.body.bind (findRegion 1)).getD .skip)
theorem ent1V_on (B : Nat) (b1 b2 : Nat) (x1 x2 x3 x4 : Int) (xo : Option Addr) (xn xc : Nat) (x6 : Int) (x7 : Bool) (y1 y2 y3 y4 : Int) (yo : Option Addr) (yn yc : Nat) (y6 : Int) (y7 : Bool) (i : Nat) (v : Value) (x x' : World) (h : ent1V B b1 b2 x1 x2 x3 x4 xo xn xc x6 x7 y1 y2 y3 y4 yo yn yc y6 y7 i v x) (hb : Below x.heap.size x x') : ent1V B b1 b2 x1 x2 x3 x4 xo xn xc x6 x7 y1 y2 y3 y4 yo yn yc y6 y7 i v x' := by
 by_cases hi : i < 12
 ·rcases (by omega : i = 0 ∨ i = 1 ∨ i = 2 ∨ i = 3 ∨ i = 4 ∨ i = 5 ∨ i = 6 ∨ i = 7 ∨ i = 8 ∨ i = 9 ∨ i = 10 ∨ i = 11) with rfl | rfl | rfl | rfl | rfl | rfl | rfl | rfl | rfl | rfl | rfl | rfl
  ·exact h
  ·exact h
  ·exact h
  ·exact h
  ·exact h
  ·exact h
  ·exact h
  ·exact h
  ·exact h
  ·exact h
  ·obtain ⟨g,h1,h2,h3⟩ := h; exact ⟨g,h1,by rw [hb.cell (World.block_lt_of_cell? x _ h2)]; exact h2,by rw [hb.cell (World.block_lt_of_cell? x _ h3)]; exact h3⟩
  ·exact h
 ·unfold ent1V
  split <;> first | omega | trivial
theorem ent1 (Q : Exit → Act → World → Prop) (W : World) (b1 b2 : Nat) (x1 x2 x3 x4 : Int) (xo : Option Addr) (xn xc : Nat) (x6 : Int) (x7 : Bool) (y1 y2 y3 y4 : Int) (yo : Option Addr) (yn yc : Nat) (y6 : Int) (y7 : Bool) (u0 u1 u4 u5 u6 u7 u8 u9 u10 u11 u12 u13 u14 u15 u16 : Value)
  (h1 : Box W b1 #[.int .i64 x1,.int .i64 x2,.int .i64 x3,.int .i64 x4,.slice xo xn xc,.int .i64 x6,.bool x7] 43) (h2 : Box W b2 #[.int .i64 y1,.int .i64 y2,.int .i64 y3,.int .i64 y4,.slice yo yn yc,.int .i64 y6,.bool y7] 43)
  (hQ : ∀ (x : World) (v5 v6 v7 v8 v9 v10 v11 v12 v13 v14 v15 v16 : Value),Below W.heap.size W x → Q .normal ⟨(u0 :: u1 :: .pointer (some ⟨b1,0,none⟩) :: .pointer (some ⟨b2,0,none⟩) :: (.int .i64 (orI (cmpJ (x1,x2) (y1,y2)) (cmpJ (x3,x4) (y3,y4)))) :: v5 :: v6 :: v7 :: v8 :: v9 :: v10 :: v11 :: v12 :: v13 :: v14 :: v15 :: v16 :: []).toArray,[]⟩ x) :
  Code.wp Tryz.prog ent1C Q ⟨(u0 :: u1 :: .pointer (some ⟨b1,0,none⟩) :: .pointer (some ⟨b2,0,none⟩) :: u4 :: u5 :: u6 :: u7 :: u8 :: u9 :: u10 :: u11 :: u12 :: u13 :: u14 :: u15 :: u16 :: []).toArray,[]⟩ W := by
 have HQ := Lib.hid hQ
 have H1 := Lib.hid h1
 have H2 := Lib.hid h2
 clear hQ h1 h2
 have stab := ent1V_on W.heap.size b1 b2 x1 x2 x3 x4 xo xn xc x6 x7 y1 y2 y3 y4 yo yn yc y6 y7
 unfold ent1C
 conv => arg 2; whnf
 have nd : ∀ j,(j < 5 ∨ 17 ≤ j) → ∀ i,i < 12 → (fun i => 5 + i) i ≠ j := by
  intro j hj i hi h
  simp only at h
  omega
 refine Rg.region_live 13 12 (fun i => 5 + i) (fun _ => 12) (ent1V W.heap.size b1 b2 x1 x2 x3 x4 xo xn xc x6 x7 y1 y2 y3 y4 yo yn yc y6 y7) (by kernel_rfl) (by kernel_rfl) rfl (by decide) (fun i j _ _ h => by have h2 : 5 + i = 5 + j := h; omega) (fun i hi => by show 5 + i < 17; omega) ?_ (fun _ => Rg.hall_of 14 (by kernel_rfl)) ?_ ?_
 ·intro i o hi ho a x D hnd hc hD hb seen K hK
  clear HQ
  rcases (by omega : i = 0 ∨ i = 1 ∨ i = 2 ∨ i = 3 ∨ i = 4 ∨ i = 5 ∨ i = 6 ∨ i = 7 ∨ i = 8 ∨ i = 9 ∨ i = 10 ∨ i = 11) with rfl | rfl | rfl | rfl | rfl | rfl | rfl | rfl | rfl | rfl | rfl | rfl
  ·obtain rfl := Option.some.inj ho
   have e2 : a.eval (.tmp 2) = .pointer (some ⟨b1,0,none⟩) := seen.kp 2 _ (nd 2 (by omega)) rfl
   exact Rg.op_value rfl rfl (Rg.ex_field a.eval _ 43 (.tmp 2) 0 rfl (by rw [e2]; simp [go_sem])) (hK _ _ rfl (Below.refl _ _) fun _ _ _ _ _ _ _ h => h)
  ·obtain rfl := Option.some.inj ho
   have e5 : a.eval (.tmp 5) = .pointer (some ⟨b1,0,none⟩) := seen.at_ ⟨0,.data⟩ (by simp) rfl (Or.inr (by decide))
   have y1 := (H1.out.on hb).cell 1
   have y0 := (H1.out.on hb).cell 0
   simp only [List.getElem?_toArray,List.getElem?_cons_zero,List.getElem?_cons_succ] at y0 y1
   exact Rg.op_value rfl rfl (Rg.ex_load a.eval _ 38 (.tmp 5) rfl (by rw [e5]; simp [go_sem,y0,y1])) (hK _ _ rfl (Below.refl _ _) fun _ _ _ _ _ _ _ h => h)
  ·obtain rfl := Option.some.inj ho
   have e3 : a.eval (.tmp 3) = .pointer (some ⟨b2,0,none⟩) := seen.kp 3 _ (nd 3 (by omega)) rfl
   exact Rg.op_value rfl rfl (Rg.ex_field a.eval _ 43 (.tmp 3) 0 rfl (by rw [e3]; simp [go_sem])) (hK _ _ rfl (Below.refl _ _) fun _ _ _ _ _ _ _ h => h)
  ·obtain rfl := Option.some.inj ho
   have e7 : a.eval (.tmp 7) = .pointer (some ⟨b2,0,none⟩) := seen.at_ ⟨2,.data⟩ (by simp) rfl (Or.inr (by decide))
   have y1 := (H2.out.on hb).cell 1
   have y0 := (H2.out.on hb).cell 0
   simp only [List.getElem?_toArray,List.getElem?_cons_zero,List.getElem?_cons_succ] at y0 y1
   exact Rg.op_value rfl rfl (Rg.ex_load a.eval _ 38 (.tmp 7) rfl (by rw [e7]; simp [go_sem,y0,y1])) (hK _ _ rfl (Below.refl _ _) fun _ _ _ _ _ _ _ h => h)
  ·obtain rfl := Option.some.inj ho
   have e6 : a.eval (.tmp 6) = .agg #[.int .i64 x1,.int .i64 x2] := seen.at_ ⟨1,.data⟩ (by simp) rfl (Or.inr (by decide))
   have e8 : a.eval (.tmp 8) = .agg #[.int .i64 y1,.int .i64 y2] := seen.at_ ⟨3,.data⟩ (by simp) rfl (Or.inr (by decide))
   exact Rg.op_call rfl rfl (Rw.ex_call2 a.eval _ (.tmp 6) (.tmp 8) 38 38 39 rfl e6 e8 rfl _ (call_byID _ _)) (byID_any (x1,x2) (y1,y2) x) fun e w1 h => by
    obtain ⟨rfl,h3⟩ := h
    exact ⟨_,rfl,hK _ _ rfl (h3.mono hb.size) fun j u hj _ _ _ hne h => stab j u _ _ h h3⟩
  ·obtain rfl := Option.some.inj ho
   have e2 : a.eval (.tmp 2) = .pointer (some ⟨b1,0,none⟩) := seen.kp 2 _ (nd 2 (by omega)) rfl
   exact Rg.op_value rfl rfl (Rg.ex_field a.eval _ 43 (.tmp 2) 1 rfl (by rw [e2]; simp [go_sem])) (hK _ _ rfl (Below.refl _ _) fun _ _ _ _ _ _ _ h => h)
  ·obtain rfl := Option.some.inj ho
   have e10 : a.eval (.tmp 10) = .pointer (some ⟨b1,2,none⟩) := seen.at_ ⟨5,.data⟩ (by simp) rfl (Or.inr (by decide))
   have y2 := (H1.out.on hb).cell 2
   have y3 := (H1.out.on hb).cell 3
   simp only [List.getElem?_toArray,List.getElem?_cons_zero,List.getElem?_cons_succ] at y2 y3
   exact Rg.op_value rfl rfl (Rg.ex_load a.eval _ 38 (.tmp 10) rfl (by rw [e10]; simp [go_sem,y2,y3])) (hK _ _ rfl (Below.refl _ _) fun _ _ _ _ _ _ _ h => h)
  ·obtain rfl := Option.some.inj ho
   have e3 : a.eval (.tmp 3) = .pointer (some ⟨b2,0,none⟩) := seen.kp 3 _ (nd 3 (by omega)) rfl
   exact Rg.op_value rfl rfl (Rg.ex_field a.eval _ 43 (.tmp 3) 1 rfl (by rw [e3]; simp [go_sem])) (hK _ _ rfl (Below.refl _ _) fun _ _ _ _ _ _ _ h => h)
  ·obtain rfl := Option.some.inj ho
   have e12 : a.eval (.tmp 12) = .pointer (some ⟨b2,2,none⟩) := seen.at_ ⟨7,.data⟩ (by simp) rfl (Or.inr (by decide))
   have y2 := (H2.out.on hb).cell 2
   have y3 := (H2.out.on hb).cell 3
   simp only [List.getElem?_toArray,List.getElem?_cons_zero,List.getElem?_cons_succ] at y2 y3
   exact Rg.op_value rfl rfl (Rg.ex_load a.eval _ 38 (.tmp 12) rfl (by rw [e12]; simp [go_sem,y2,y3])) (hK _ _ rfl (Below.refl _ _) fun _ _ _ _ _ _ _ h => h)
  ·obtain rfl := Option.some.inj ho
   have e11 : a.eval (.tmp 11) = .agg #[.int .i64 x3,.int .i64 x4] := seen.at_ ⟨6,.data⟩ (by simp) rfl (Or.inr (by decide))
   have e13 : a.eval (.tmp 13) = .agg #[.int .i64 y3,.int .i64 y4] := seen.at_ ⟨8,.data⟩ (by simp) rfl (Or.inr (by decide))
   exact Rg.op_call rfl rfl (Rw.ex_call2 a.eval _ (.tmp 11) (.tmp 13) 38 38 39 rfl e11 e13 rfl _ (call_byID _ _)) (byID_any (x3,x4) (y3,y4) x) fun e w1 h => by
    obtain ⟨rfl,h3⟩ := h
    exact ⟨_,rfl,hK _ _ rfl (h3.mono hb.size) fun j u hj _ _ _ hne h => stab j u _ _ h h3⟩
  ·obtain rfl := Option.some.inj ho
   have e9 : a.eval (.tmp 9) = .int .i64 (cmpJ (x1,x2) (y1,y2)) := seen.at_ ⟨4,.data⟩ (by simp) rfl (Or.inr (by decide))
   have e14 : a.eval (.tmp 14) = .int .i64 (cmpJ (x3,x4) (y3,y4)) := seen.at_ ⟨9,.data⟩ (by simp) rfl (Or.inr (by decide))
   have hbx := box_new x #[.int .i64 (cmpJ (x1,x2) (y1,y2)),.int .i64 (cmpJ (x3,x4) (y3,y4))] 3
   exact Rg.op_value rfl rfl (Rg.ex_build a.eval _ 25 2 #[(0,.tmp 9),(1,.tmp 14)] rfl (ps := #[(0,.int .i64 (cmpJ (x1,x2) (y1,y2))),(1,.int .i64 (cmpJ (x3,x4) (y3,y4)))]) (by simp [e9,e14]) (by simp [go_sem])) (hK (.slice (some ⟨x.heap.size,0,none⟩) 2 2) (x.alloc (.cells #[.int .i64 (cmpJ (x1,x2) (y1,y2)),.int .i64 (cmpJ (x3,x4) (y3,y4))] 3)) ⟨x.heap.size,rfl,hbx.cell 0,hbx.cell 1⟩ ((Below.refl _ _).alloc hb.size _) fun j u _ _ _ _ _ h => stab j u _ _ h ((Below.refl _ _).alloc (Nat.le_refl _) _))
  ·obtain rfl := Option.some.inj ho
   have E15 := seen.at_ ⟨10,.data⟩ (by simp) rfl (Or.inr (by decide))
   obtain ⟨g,q0,q1,q2⟩ := E15
   exact Rg.op_call rfl rfl (Rw.ex_call1 a.eval _ (.tmp 15) 25 104 rfl q0 rfl _ (call_or _ _)) (or_any g 2 _ _ x q1 q2) fun e w1 h => by
    obtain ⟨rfl,rfl⟩ := h
    exact ⟨_,rfl,hK _ _ rfl (Below.refl _ _) fun j u hj _ _ _ hne h => h⟩
 ·intro kk o h1 h2 ho
  omega
 ·intro a w' df sz kp ⟨vs,hv⟩ hb
  have sz' : a.tmps.size = 17 := sz
  have g16 : a.tmps[16]? = some (.int .i64 (orI (cmpJ (x1,x2) (y1,y2)) (cmpJ (x3,x4) (y3,y4)))) := by
   have h : vs 11 = .int .i64 (orI (cmpJ (x1,x2) (y1,y2)) (cmpJ (x3,x4) (y3,y4))) := (hv 11 (by omega)).2 (by decide)
   rw [← h]
   exact (hv 11 (by omega)).1
  show Rg.SeqFrom _ _ _ 1 12 a w'
  simp only [Rg.SeqFrom]
  refine Rg.op_value rfl rfl (Rg.ex_assign a.eval _ (.tmp 16) rfl _) ?_
  rw [Rg.eval_some g16]
  have hp4 : (a.put (some 4) (.int .i64 (orI (cmpJ (x1,x2) (y1,y2)) (cmpJ (x3,x4) (y3,y4))))).tmps[4]? = some (.int .i64 (orI (cmpJ (x1,x2) (y1,y2)) (cmpJ (x3,x4) (y3,y4)))) := by simp [Act.put,sz']
  have kp2 : ∀ j,(j < 4 ∨ 17 ≤ j) → (a.put (some 4) (.int .i64 (orI (cmpJ (x1,x2) (y1,y2)) (cmpJ (x3,x4) (y3,y4))))).tmps[j]? = (u0 :: u1 :: .pointer (some ⟨b1,0,none⟩) :: .pointer (some ⟨b2,0,none⟩) :: u4 :: u5 :: u6 :: u7 :: u8 :: u9 :: u10 :: u11 :: u12 :: u13 :: u14 :: u15 :: u16 :: [])[j]? := fun j hj => (Rg.get_put _ 4 _ j (by omega)).trans ((kp j (nd j (by omega))).trans List.getElem?_toArray)
  obtain ⟨mid,hmid,hfr⟩ := Rg.frame_mid (a := a.put (some 4) (.int .i64 (orI (cmpJ (x1,x2) (y1,y2)) (cmpJ (x3,x4) (y3,y4))))) 4 13 df (by simp [Rg.size_put,sz']) (by simp) kp2
  show Q .normal (a.put (some 4) (.int .i64 (orI (cmpJ (x1,x2) (y1,y2)) (cmpJ (x3,x4) (y3,y4))))) _
  rw [hfr] at hp4 ⊢
  match mid,hmid with
  | [v4,v5,v6,v7,v8,v9,v10,v11,v12,v13,v14,v15,v16],_ =>
   obtain rfl : v4 = .int .i64 (orI (cmpJ (x1,x2) (y1,y2)) (cmpJ (x3,x4) (y3,y4))) := Option.some.inj hp4
   exact HQ.out _ _ _ _ _ _ _ _ _ _ _ _ _ hb
def cmpN (x y : XEn) : Int := orI (cmpJ (x.1,x.2.1) (y.1,y.2.1)) (cmpJ (x.2.2.1,x.2.2.2.1) (y.2.2.1,y.2.2.2.1))
theorem inEnt_any (x y : XEn) (w : World) : Calls Tryz.prog 43 #[valN x,valN y] w fun e w' => e = .returned (.int .i64 (cmpN x y)) ∧ Below w.heap.size w w' := by
 obtain ⟨x1,x2,x3,x4,⟨xo,xn,xc⟩,x6,x7⟩ := x
 obtain ⟨y1,y2,y3,y4,⟨yo,yn,yc⟩,y6,y7⟩ := y
 obtain ⟨h0,X,Y⟩ := two_new w #[.int .i64 x1,.int .i64 x2,.int .i64 x3,.int .i64 x4,.slice xo xn xc,.int .i64 x6,.bool x7] #[.int .i64 y1,.int .i64 y2,.int .i64 y3,.int .i64 y4,.slice yo yn yc,.int .i64 y6,.bool y7] 43 43
 have B := Lib.hid h0
 have HX := Lib.hid X
 have HY := Lib.hid Y
 have R := Lib.hid (show cmpN (x1,x2,x3,x4,(xo,xn,xc),x6,x7) (y1,y2,y3,y4,(yo,yn,yc),y6,y7) = orI (cmpJ (x1,x2) (y1,y2)) (cmpJ (x3,x4) (y3,y4)) from rfl)
 generalize cmpN (x1,x2,x3,x4,(xo,xn,xc),x6,x7) (y1,y2,y3,y4,(yo,yn,yc),y6,y7) = res at *
 clear h0 X Y
 go_enter Tryz.func43,Tryz.ntmps43
 go_upto_region 1 with fail
 generalize (w.alloc (.cells #[.int .i64 x1,.int .i64 x2,.int .i64 x3,.int .i64 x4,.slice xo xn xc,.int .i64 x6,.bool x7] 43)).alloc (.cells #[.int .i64 y1,.int .i64 y2,.int .i64 y3,.int .i64 y4,.slice yo yn yc,.int .i64 y6,.bool y7] 43) = W at *
 refine ent1 _ W w.heap.size (w.heap.size + 1) x1 x2 x3 x4 xo xn xc x6 x7 y1 y2 y3 y4 yo yn yc y6 y7 _ _ _ _ _ _ _ _ _ _ _ _ _ _ _ HX.out HY.out ?_
 intro x v5 v6 v7 v8 v9 v10 v11 v12 v13 v14 v15 v16 hb
 have HB := Lib.hid hb
 clear hb
 go_wp2
 go_ret
 exact ⟨by have h := R.out; subst h; rfl,B.out.trans (HB.out.mono B.out.size)⟩
abbrev cmpD (x y : XAd) : Int := cmpJ (x.1,x.2.1) (y.1,y.2.1)
abbrev cmpW (x y : XOw) : Int := cmpJ (x.1,x.2.1) (y.1,y.2.1)
def riseB {α : Type} (c : α → α → Int) : List α → Bool
 | x :: y :: l => decide (c x y < 0) && riseB c (y :: l)
 | _ => true
theorem riseB_all {α : Type} {c : α → α → Int} : ∀ {l : List α},(∀ (k : Nat) (x y : α),l[k]? = some x → l[k + 1]? = some y → c x y < 0) → riseB c l = true
 | [],_ => rfl
 | [_],_ => rfl
 | x :: y :: l,h => by
  unfold riseB
  rw [decide_eq_true (h 0 x y rfl rfl),Bool.true_and]
  exact riseB_all fun k a b ha hb => h (k + 1) a b (by simpa using ha) (by simpa using hb)
theorem riseB_not {α : Type} {c : α → α → Int} : ∀ {l : List α} {k : Nat} {x y : α},l[k]? = some x → l[k + 1]? = some y → ¬ c x y < 0 → riseB c l = false
 | [],k,x,y,h,_,_ => by simp at h
 | [_],0,x,y,_,h,_ => by simp at h
 | [_],k + 1,x,y,h,_,_ => by simp at h
 | a :: b :: l,0,x,y,h1,h2,h3 => by
  simp at h1 h2
  subst h1 h2
  unfold riseB
  rw [decide_eq_false h3,Bool.false_and]
 | a :: b :: l,k + 1,x,y,h1,h2,h3 => by
  unfold riseB
  rw [riseB_not (l := b :: l) (k := k) (by simpa using h1) (by simpa using h2) h3,Bool.and_false]
theorem elrI {W W1 : World} {v : Value} {l : List Int} {ao : Option Addr} {n c k : Nat} {x : Int} (h : Row EI W v l) (hv : v = .slice ao n c) (hn : l.length = n) (hk : l[k]? = some x) (hb : Below W.heap.size W W1) :
  ∃ p : Addr,(∀ w,(Instr.indexAt 25 (.slice ao n c) (.int .i64 k)).run Tryz.prog w = .ok (.pointer (some p)) w) ∧ (∀ d os,(grow (redrawn W1 d) os).cell? p = some (.int .i64 x)) := by
 obtain ⟨p,h1,h2⟩ := elI h hv hn hk
 have h3 := h2.2 _ hb
 exact ⟨p,h1,cell_regrown h3⟩
theorem creI (c d : Int) (r : Int) (hr : cmpI c d = r) (w : World) (k : Nat) (os : Array Obj) :
  Calls Tryz.prog 37 #[.int .i64 c,.int .i64 d] (grow (redrawn w k) os) fun e w'' => e = .returned (.int .i64 r) ∧ ∃ p : Regrown,w'' = grow (redrawn w p.d) p.os := by
 subst hr
 exact (compare_any c d _).mono fun e w' h => ⟨h.1,⟨k,os⟩,h.2⟩
theorem riseI_any (v : Value) (l : List Int) (w : World) (hv : Row EI w v l) :
  Calls Tryz.prog 36 #[v,.func (.func 37) #[] #[]] w fun e w' => e = .returned (.bool (riseB cmpI l)) ∧ Below w.heap.size w w' := by
 have HL := Lib.hid hv
 have lm := hv.most
 unfold maxLen at lm
 obtain ⟨ao,ac,rfl⟩ := hv.len
 obtain ⟨n,hn⟩ : ∃ n,n = l.length := ⟨_,rfl⟩
 rw [← hn] at HL lm ⊢
 have HN := Lib.hid hn.symm
 clear hv hn
 go_enter Tryz.func36,Tryz.ntmps36
 go_wp2
 go_loopw [5] (fun i wr => ∃ k : Nat,(k + 1 ≤ n ∨ n = 0 ∧ k = 0) ∧ i = .int .i64 ((k + 1 : Nat) : Int) ∧ Below w.heap.size w wr ∧ ∀ (j : Nat) (x y : Int),j < k → l[j]? = some x → l[j + 1]? = some y → cmpI x y < 0) (fun i _ => n + 1 - (intOf i).toNat)
 case atStart => exact ⟨0,by omega,rfl,Below.refl _ _,fun j x y h => by omega⟩
 case round =>
  obtain ⟨k,hk,rfl,hbe,hall⟩ := hrel
  have BE := Lib.hid hbe
  have AL := Lib.hid hall
  clear hbe hall
  by_cases hlt : k + 1 < n
  ·obtain ⟨x,hx⟩ : ∃ x,l[k]? = some x := ⟨_,List.getElem?_eq_getElem (by rw [HN.out]; omega)⟩
   obtain ⟨y,hy⟩ : ∃ y,l[k + 1]? = some y := ⟨_,List.getElem?_eq_getElem (by rw [HN.out]; omega)⟩
   obtain ⟨p,ix,p0⟩ := elrI HL.out rfl HN.out hx BE.out
   obtain ⟨q,iy,q0⟩ := elrI HL.out rfl HN.out hy BE.out
   rw [show ((k + 1 : Nat) : Int) = (k : Int) + 1 by omega] at iy
   obtain ⟨r,hr⟩ : ∃ r,cmpI x y = r := ⟨_,rfl⟩
   have C := creI x y r hr wr
   have HX := Lib.hid hx
   have HY := Lib.hid hy
   have HR := Lib.hid hr
   have BN := Lib.hid (fun dq osq => BE.out.trans ((below_regrown wr dq osq).mono BE.out.size))
   have w1 : IntKind.i64.wrap ((k : Int) + 1 - 1) = k := by rw [show (k : Int) + 1 - 1 = k by omega]; exact IntWalk.i64_in _ (by omega)
   have w2 : IntKind.i64.wrap ((k : Int) + 1 + 1) = (k : Int) + 1 + 1 := IntWalk.i64_in _ (by omega)
   clear hx hy hr
   by_cases hneg : r < 0
   ·have d0 : decide ((0 : Int) ≤ r) = false := by simp; omega
    go_wp2
    refine wp_region_quiet_below (by kernel_rfl) (by kernel_rfl) ?_
    repeat (go_big_quiet_step (first | (with_reducible exact C _ _) | exact calI _ _))
    refine wpQuiet_nil ?_
    intro _ hw'
    obtain ⟨⟨dq,osq⟩,hw''⟩ := hw'
    subst hw''
    clear ix iy p0 q0 C w1 d0
    go_wp2
    go_roundw
    case rel => exact ⟨k + 1,by omega,by go_num,BN.out _ _,fun j a b hj h1 h2 => by
     rcases Nat.lt_or_ge j k with h3 | h3
     ·exact AL.out j a b h3 h1 h2
     ·obtain rfl : j = k := by omega
      have e1 := HX.out
      have e2 := HY.out
      rw [h1] at e1
      rw [h2] at e2
      rw [Option.some.inj e1,Option.some.inj e2,HR.out]
      exact hneg⟩
    case measure => simp [intOf]; omega
   ·have d0 : decide ((0 : Int) ≤ r) = true := by simp; omega
    have RR := Lib.hid (show riseB cmpI l = false from riseB_not HX.out HY.out (by rw [HR.out]; exact hneg))
    go_wp2
    refine wp_region_quiet_below (by kernel_rfl) (by kernel_rfl) ?_
    repeat (go_big_quiet_step (first | (with_reducible exact C _ _) | exact calI _ _))
    refine wpQuiet_nil ?_
    intro _ hw'
    obtain ⟨⟨dq,osq⟩,hw''⟩ := hw'
    subst hw''
    clear ix iy p0 q0 C w1 d0
    go_wp2
    go_ret
    exact ⟨by rw [RR.out]; rfl,BN.out _ _⟩
  ·have RR := Lib.hid (show riseB cmpI l = true from riseB_all fun j x y h1 h2 => AL.out j x y (by have := (List.getElem?_eq_some_iff.1 h2).1; have := HN.out; omega) h1 h2)
   go_wp2
   go_ret
   exact ⟨by rw [RR.out]; rfl,BE.out⟩
theorem elrJ {W W1 : World} {v : Value} {l : List XID} {ao : Option Addr} {n c k : Nat} {x : XID} (h : Row EJ W v l) (hv : v = .slice ao n c) (hn : l.length = n) (hk : l[k]? = some x) (hb : Below W.heap.size W W1) :
  ∃ p : Addr,(∀ w,(Instr.indexAt 27 (.slice ao n c) (.int .i64 k)).run Tryz.prog w = .ok (.pointer (some p)) w) ∧ (∀ d os,(grow (redrawn W1 d) os).cell? p = some (.int .i64 x.1)) ∧ (∀ d os,(grow (redrawn W1 d) os).cell? ⟨p.block,p.off + 1,none⟩ = some (.int .i64 x.2)) := by
 obtain ⟨p,h1,h2⟩ := elJ h hv hn hk
 have h3 := h2 _ hb
 exact ⟨p,h1,cell_regrown h3.1,cell_regrown h3.2⟩
theorem creJ (c d : XID) (r : Int) (hr : cmpJ c d = r) (w : World) (k : Nat) (os : Array Obj) :
  Calls Tryz.prog 39 #[idv c,idv d] (grow (redrawn w k) os) fun e w'' => e = .returned (.int .i64 r) ∧ ∃ p : Regrown,w'' = grow (redrawn w p.d) p.os := by
 subst hr
 exact Calls.regrown_of (byID_any c d _)
theorem riseJ_any (v : Value) (l : List XID) (w : World) (hv : Row EJ w v l) :
  Calls Tryz.prog 38 #[v,.func (.func 39) #[] #[]] w fun e w' => e = .returned (.bool (riseB cmpJ l)) ∧ Below w.heap.size w w' := by
 have HL := Lib.hid hv
 have lm := hv.most
 unfold maxLen at lm
 obtain ⟨ao,ac,rfl⟩ := hv.len
 obtain ⟨n,hn⟩ : ∃ n,n = l.length := ⟨_,rfl⟩
 rw [← hn] at HL lm ⊢
 have HN := Lib.hid hn.symm
 clear hv hn
 go_enter Tryz.func38,Tryz.ntmps38
 go_wp2
 go_loopw [5] (fun i wr => ∃ k : Nat,(k + 1 ≤ n ∨ n = 0 ∧ k = 0) ∧ i = .int .i64 ((k + 1 : Nat) : Int) ∧ Below w.heap.size w wr ∧ ∀ (j : Nat) (x y : XID),j < k → l[j]? = some x → l[j + 1]? = some y → cmpJ x y < 0) (fun i _ => n + 1 - (intOf i).toNat)
 case atStart => exact ⟨0,by omega,rfl,Below.refl _ _,fun j x y h => by omega⟩
 case round =>
  obtain ⟨k,hk,rfl,hbe,hall⟩ := hrel
  have BE := Lib.hid hbe
  have AL := Lib.hid hall
  clear hbe hall
  by_cases hlt : k + 1 < n
  ·obtain ⟨x,hx⟩ : ∃ x,l[k]? = some x := ⟨_,List.getElem?_eq_getElem (by rw [HN.out]; omega)⟩
   obtain ⟨y,hy⟩ : ∃ y,l[k + 1]? = some y := ⟨_,List.getElem?_eq_getElem (by rw [HN.out]; omega)⟩
   obtain ⟨p,ix,p0,p1⟩ := elrJ HL.out rfl HN.out hx BE.out
   obtain ⟨q,iy,q0,q1⟩ := elrJ HL.out rfl HN.out hy BE.out
   rw [show ((k + 1 : Nat) : Int) = (k : Int) + 1 by omega] at iy
   obtain ⟨r,hr⟩ : ∃ r,cmpJ x y = r := ⟨_,rfl⟩
   have C := creJ x y r hr wr
   have HX := Lib.hid hx
   have HY := Lib.hid hy
   have HR := Lib.hid hr
   have BN := Lib.hid (fun dq osq => BE.out.trans ((below_regrown wr dq osq).mono BE.out.size))
   have w1 : IntKind.i64.wrap ((k : Int) + 1 - 1) = k := by rw [show (k : Int) + 1 - 1 = k by omega]; exact IntWalk.i64_in _ (by omega)
   have w2 : IntKind.i64.wrap ((k : Int) + 1 + 1) = (k : Int) + 1 + 1 := IntWalk.i64_in _ (by omega)
   clear hx hy hr
   obtain ⟨x1,x2⟩ := x
   obtain ⟨y1,y2⟩ := y
   simp only at p0 p1 q0 q1 C
   by_cases hneg : r < 0
   ·have d0 : decide ((0 : Int) ≤ r) = false := by simp; omega
    go_wp2
    refine wp_region_quiet_below (by kernel_rfl) (by kernel_rfl) ?_
    repeat (go_big_quiet_step (first | (with_reducible exact C _ _) | exact calJ _ _))
    refine wpQuiet_nil ?_
    intro _ hw'
    obtain ⟨⟨dq,osq⟩,hw''⟩ := hw'
    subst hw''
    clear ix iy p0 p1 q0 q1 C w1 d0
    go_wp2
    go_roundw
    case rel => exact ⟨k + 1,by omega,by go_num,BN.out _ _,fun j a b hj h1 h2 => by
     rcases Nat.lt_or_ge j k with h3 | h3
     ·exact AL.out j a b h3 h1 h2
     ·obtain rfl : j = k := by omega
      have e1 := HX.out
      have e2 := HY.out
      rw [h1] at e1
      rw [h2] at e2
      rw [Option.some.inj e1,Option.some.inj e2,HR.out]
      exact hneg⟩
    case measure => simp [intOf]; omega
   ·have d0 : decide ((0 : Int) ≤ r) = true := by simp; omega
    have RR := Lib.hid (show riseB cmpJ l = false from riseB_not HX.out HY.out (by rw [HR.out]; exact hneg))
    go_wp2
    refine wp_region_quiet_below (by kernel_rfl) (by kernel_rfl) ?_
    repeat (go_big_quiet_step (first | (with_reducible exact C _ _) | exact calJ _ _))
    refine wpQuiet_nil ?_
    intro _ hw'
    obtain ⟨⟨dq,osq⟩,hw''⟩ := hw'
    subst hw''
    clear ix iy p0 p1 q0 q1 C w1 d0
    go_wp2
    go_ret
    exact ⟨by rw [RR.out]; rfl,BN.out _ _⟩
  ·have RR := Lib.hid (show riseB cmpJ l = true from riseB_all fun j x y h1 h2 => AL.out j x y (by have := (List.getElem?_eq_some_iff.1 h2).1; have := HN.out; omega) h1 h2)
   go_wp2
   go_ret
   exact ⟨by rw [RR.out]; rfl,BE.out⟩
theorem elrD {W W1 : World} {v : Value} {l : List XAd} {ao : Option Addr} {n c k : Nat} {x : XAd} (h : Row ED W v l) (hv : v = .slice ao n c) (hn : l.length = n) (hk : l[k]? = some x) (hb : Below W.heap.size W W1) :
  ∃ p : Addr,(∀ w,(Instr.indexAt 26 (.slice ao n c) (.int .i64 k)).run Tryz.prog w = .ok (.pointer (some p)) w) ∧ (∀ d os,(grow (redrawn W1 d) os).cell? p = some (.int .i64 x.1)) ∧ (∀ d os,(grow (redrawn W1 d) os).cell? ⟨p.block,p.off + 1,none⟩ = some (.int .i64 x.2.1)) ∧ (∀ d os,(grow (redrawn W1 d) os).cell? ⟨p.block,p.off + 2,none⟩ = some (slv x.2.2.1)) ∧ (∀ d os,(grow (redrawn W1 d) os).cell? ⟨p.block,p.off + 3,none⟩ = some (.int .i64 x.2.2.2)) := by
 obtain ⟨p,h1,h2⟩ := elD h hv hn hk
 have h3 := h2 _ hb
 exact ⟨p,h1,cell_regrown h3.1,cell_regrown h3.2.1,cell_regrown h3.2.2.1,cell_regrown h3.2.2.2⟩
theorem creD (c d : XAd) (r : Int) (hr : cmpD c d = r) (w : World) (k : Nat) (os : Array Obj) :
  Calls Tryz.prog 41 #[valD c,valD d] (grow (redrawn w k) os) fun e w'' => e = .returned (.int .i64 r) ∧ ∃ p : Regrown,w'' = grow (redrawn w p.d) p.os := by
 subst hr
 exact Calls.regrown_of (inAdv_any c d _)
theorem riseD_any (v : Value) (l : List XAd) (w : World) (hv : Row ED w v l) :
  Calls Tryz.prog 40 #[v,.func (.func 41) #[] #[]] w fun e w' => e = .returned (.bool (riseB cmpD l)) ∧ Below w.heap.size w w' := by
 have HL := Lib.hid hv
 have lm := hv.most
 unfold maxLen at lm
 obtain ⟨ao,ac,rfl⟩ := hv.len
 obtain ⟨n,hn⟩ : ∃ n,n = l.length := ⟨_,rfl⟩
 rw [← hn] at HL lm ⊢
 have HN := Lib.hid hn.symm
 clear hv hn
 go_enter Tryz.func40,Tryz.ntmps40
 go_wp2
 go_loopw [5] (fun i wr => ∃ k : Nat,(k + 1 ≤ n ∨ n = 0 ∧ k = 0) ∧ i = .int .i64 ((k + 1 : Nat) : Int) ∧ Below w.heap.size w wr ∧ ∀ (j : Nat) (x y : XAd),j < k → l[j]? = some x → l[j + 1]? = some y → cmpD x y < 0) (fun i _ => n + 1 - (intOf i).toNat)
 case atStart => exact ⟨0,by omega,rfl,Below.refl _ _,fun j x y h => by omega⟩
 case round =>
  obtain ⟨k,hk,rfl,hbe,hall⟩ := hrel
  have BE := Lib.hid hbe
  have AL := Lib.hid hall
  clear hbe hall
  by_cases hlt : k + 1 < n
  ·obtain ⟨x,hx⟩ : ∃ x,l[k]? = some x := ⟨_,List.getElem?_eq_getElem (by rw [HN.out]; omega)⟩
   obtain ⟨y,hy⟩ : ∃ y,l[k + 1]? = some y := ⟨_,List.getElem?_eq_getElem (by rw [HN.out]; omega)⟩
   obtain ⟨p,ix,p0,p1,p2,p3⟩ := elrD HL.out rfl HN.out hx BE.out
   obtain ⟨q,iy,q0,q1,q2,q3⟩ := elrD HL.out rfl HN.out hy BE.out
   rw [show ((k + 1 : Nat) : Int) = (k : Int) + 1 by omega] at iy
   obtain ⟨r,hr⟩ : ∃ r,cmpD x y = r := ⟨_,rfl⟩
   have C := creD x y r hr wr
   have HX := Lib.hid hx
   have HY := Lib.hid hy
   have HR := Lib.hid hr
   have BN := Lib.hid (fun dq osq => BE.out.trans ((below_regrown wr dq osq).mono BE.out.size))
   have w1 : IntKind.i64.wrap ((k : Int) + 1 - 1) = k := by rw [show (k : Int) + 1 - 1 = k by omega]; exact IntWalk.i64_in _ (by omega)
   have w2 : IntKind.i64.wrap ((k : Int) + 1 + 1) = (k : Int) + 1 + 1 := IntWalk.i64_in _ (by omega)
   clear hx hy hr
   obtain ⟨x1,x2,⟨xo,xn,xc⟩,x4⟩ := x
   obtain ⟨y1,y2,⟨yo,yn,yc⟩,y4⟩ := y
   simp only at p0 p1 p2 p3 q0 q1 q2 q3 C
   by_cases hneg : r < 0
   ·have d0 : decide ((0 : Int) ≤ r) = false := by simp; omega
    go_wp2
    refine wp_region_quiet_below (by kernel_rfl) (by kernel_rfl) ?_
    repeat (go_big_quiet_step (first | (with_reducible exact C _ _) | exact calD _ _))
    refine wpQuiet_nil ?_
    intro _ hw'
    obtain ⟨⟨dq,osq⟩,hw''⟩ := hw'
    subst hw''
    clear ix iy p0 p1 p2 p3 q0 q1 q2 q3 C w1 d0
    go_wp2
    go_roundw
    case rel => exact ⟨k + 1,by omega,by go_num,BN.out _ _,fun j a b hj h1 h2 => by
     rcases Nat.lt_or_ge j k with h3 | h3
     ·exact AL.out j a b h3 h1 h2
     ·obtain rfl : j = k := by omega
      have e1 := HX.out
      have e2 := HY.out
      rw [h1] at e1
      rw [h2] at e2
      rw [Option.some.inj e1,Option.some.inj e2,HR.out]
      exact hneg⟩
    case measure => simp [intOf]; omega
   ·have d0 : decide ((0 : Int) ≤ r) = true := by simp; omega
    have RR := Lib.hid (show riseB cmpD l = false from riseB_not HX.out HY.out (by rw [HR.out]; exact hneg))
    go_wp2
    refine wp_region_quiet_below (by kernel_rfl) (by kernel_rfl) ?_
    repeat (go_big_quiet_step (first | (with_reducible exact C _ _) | exact calD _ _))
    refine wpQuiet_nil ?_
    intro _ hw'
    obtain ⟨⟨dq,osq⟩,hw''⟩ := hw'
    subst hw''
    clear ix iy p0 p1 p2 p3 q0 q1 q2 q3 C w1 d0
    go_wp2
    go_ret
    exact ⟨by rw [RR.out]; rfl,BN.out _ _⟩
  ·have RR := Lib.hid (show riseB cmpD l = true from riseB_all fun j x y h1 h2 => AL.out j x y (by have := (List.getElem?_eq_some_iff.1 h2).1; have := HN.out; omega) h1 h2)
   go_wp2
   go_ret
   exact ⟨by rw [RR.out]; rfl,BE.out⟩
theorem elrN {W W1 : World} {v : Value} {l : List XEn} {ao : Option Addr} {n c k : Nat} {x : XEn} (h : Row EN W v l) (hv : v = .slice ao n c) (hn : l.length = n) (hk : l[k]? = some x) (hb : Below W.heap.size W W1) :
  ∃ p : Addr,(∀ w,(Instr.indexAt 28 (.slice ao n c) (.int .i64 k)).run Tryz.prog w = .ok (.pointer (some p)) w) ∧ (∀ d os,(grow (redrawn W1 d) os).cell? p = some (.int .i64 x.1)) ∧ (∀ d os,(grow (redrawn W1 d) os).cell? ⟨p.block,p.off + 1,none⟩ = some (.int .i64 x.2.1)) ∧ (∀ d os,(grow (redrawn W1 d) os).cell? ⟨p.block,p.off + 2,none⟩ = some (.int .i64 x.2.2.1)) ∧ (∀ d os,(grow (redrawn W1 d) os).cell? ⟨p.block,p.off + 3,none⟩ = some (.int .i64 x.2.2.2.1)) ∧ (∀ d os,(grow (redrawn W1 d) os).cell? ⟨p.block,p.off + 4,none⟩ = some (slv x.2.2.2.2.1)) ∧ (∀ d os,(grow (redrawn W1 d) os).cell? ⟨p.block,p.off + 5,none⟩ = some (.int .i64 x.2.2.2.2.2.1)) ∧ (∀ d os,(grow (redrawn W1 d) os).cell? ⟨p.block,p.off + 6,none⟩ = some (.bool x.2.2.2.2.2.2)) := by
 obtain ⟨p,h1,h2⟩ := elN h hv hn hk
 have h3 := h2 _ hb
 exact ⟨p,h1,cell_regrown h3.1,cell_regrown h3.2.1,cell_regrown h3.2.2.1,cell_regrown h3.2.2.2.1,cell_regrown h3.2.2.2.2.1,cell_regrown h3.2.2.2.2.2.1,cell_regrown h3.2.2.2.2.2.2⟩
theorem creN (c d : XEn) (r : Int) (hr : cmpN c d = r) (w : World) (k : Nat) (os : Array Obj) :
  Calls Tryz.prog 43 #[valN c,valN d] (grow (redrawn w k) os) fun e w'' => e = .returned (.int .i64 r) ∧ ∃ p : Regrown,w'' = grow (redrawn w p.d) p.os := by
 subst hr
 exact Calls.regrown_of (inEnt_any c d _)
theorem riseN_any (v : Value) (l : List XEn) (w : World) (hv : Row EN w v l) :
  Calls Tryz.prog 42 #[v,.func (.func 43) #[] #[]] w fun e w' => e = .returned (.bool (riseB cmpN l)) ∧ Below w.heap.size w w' := by
 have HL := Lib.hid hv
 have lm := hv.most
 unfold maxLen at lm
 obtain ⟨ao,ac,rfl⟩ := hv.len
 obtain ⟨n,hn⟩ : ∃ n,n = l.length := ⟨_,rfl⟩
 rw [← hn] at HL lm ⊢
 have HN := Lib.hid hn.symm
 clear hv hn
 go_enter Tryz.func42,Tryz.ntmps42
 go_wp2
 go_loopw [5] (fun i wr => ∃ k : Nat,(k + 1 ≤ n ∨ n = 0 ∧ k = 0) ∧ i = .int .i64 ((k + 1 : Nat) : Int) ∧ Below w.heap.size w wr ∧ ∀ (j : Nat) (x y : XEn),j < k → l[j]? = some x → l[j + 1]? = some y → cmpN x y < 0) (fun i _ => n + 1 - (intOf i).toNat)
 case atStart => exact ⟨0,by omega,rfl,Below.refl _ _,fun j x y h => by omega⟩
 case round =>
  obtain ⟨k,hk,rfl,hbe,hall⟩ := hrel
  have BE := Lib.hid hbe
  have AL := Lib.hid hall
  clear hbe hall
  by_cases hlt : k + 1 < n
  ·obtain ⟨x,hx⟩ : ∃ x,l[k]? = some x := ⟨_,List.getElem?_eq_getElem (by rw [HN.out]; omega)⟩
   obtain ⟨y,hy⟩ : ∃ y,l[k + 1]? = some y := ⟨_,List.getElem?_eq_getElem (by rw [HN.out]; omega)⟩
   obtain ⟨p,ix,p0,p1,p2,p3,p4,p5,p6⟩ := elrN HL.out rfl HN.out hx BE.out
   obtain ⟨q,iy,q0,q1,q2,q3,q4,q5,q6⟩ := elrN HL.out rfl HN.out hy BE.out
   rw [show ((k + 1 : Nat) : Int) = (k : Int) + 1 by omega] at iy
   obtain ⟨r,hr⟩ : ∃ r,cmpN x y = r := ⟨_,rfl⟩
   have C := creN x y r hr wr
   have HX := Lib.hid hx
   have HY := Lib.hid hy
   have HR := Lib.hid hr
   have BN := Lib.hid (fun dq osq => BE.out.trans ((below_regrown wr dq osq).mono BE.out.size))
   have w1 : IntKind.i64.wrap ((k : Int) + 1 - 1) = k := by rw [show (k : Int) + 1 - 1 = k by omega]; exact IntWalk.i64_in _ (by omega)
   have w2 : IntKind.i64.wrap ((k : Int) + 1 + 1) = (k : Int) + 1 + 1 := IntWalk.i64_in _ (by omega)
   clear hx hy hr
   obtain ⟨x1,x2,x3,x4,⟨xo,xn,xc⟩,x6,x7⟩ := x
   obtain ⟨y1,y2,y3,y4,⟨yo,yn,yc⟩,y6,y7⟩ := y
   simp only at p0 p1 p2 p3 p4 p5 p6 q0 q1 q2 q3 q4 q5 q6 C
   by_cases hneg : r < 0
   ·have d0 : decide ((0 : Int) ≤ r) = false := by simp; omega
    go_wp2
    refine wp_region_quiet_below (by kernel_rfl) (by kernel_rfl) ?_
    repeat (go_big_quiet_step (first | (with_reducible exact C _ _) | exact calN _ _))
    refine wpQuiet_nil ?_
    intro _ hw'
    obtain ⟨⟨dq,osq⟩,hw''⟩ := hw'
    subst hw''
    clear ix iy p0 p1 p2 p3 p4 p5 p6 q0 q1 q2 q3 q4 q5 q6 C w1 d0
    go_wp2
    go_roundw
    case rel => exact ⟨k + 1,by omega,by go_num,BN.out _ _,fun j a b hj h1 h2 => by
     rcases Nat.lt_or_ge j k with h3 | h3
     ·exact AL.out j a b h3 h1 h2
     ·obtain rfl : j = k := by omega
      have e1 := HX.out
      have e2 := HY.out
      rw [h1] at e1
      rw [h2] at e2
      rw [Option.some.inj e1,Option.some.inj e2,HR.out]
      exact hneg⟩
    case measure => simp [intOf]; omega
   ·have d0 : decide ((0 : Int) ≤ r) = true := by simp; omega
    have RR := Lib.hid (show riseB cmpN l = false from riseB_not HX.out HY.out (by rw [HR.out]; exact hneg))
    go_wp2
    refine wp_region_quiet_below (by kernel_rfl) (by kernel_rfl) ?_
    repeat (go_big_quiet_step (first | (with_reducible exact C _ _) | exact calN _ _))
    refine wpQuiet_nil ?_
    intro _ hw'
    obtain ⟨⟨dq,osq⟩,hw''⟩ := hw'
    subst hw''
    clear ix iy p0 p1 p2 p3 p4 p5 p6 q0 q1 q2 q3 q4 q5 q6 C w1 d0
    go_wp2
    go_ret
    exact ⟨by rw [RR.out]; rfl,BN.out _ _⟩
  ·have RR := Lib.hid (show riseB cmpN l = true from riseB_all fun j x y h1 h2 => AL.out j x y (by have := (List.getElem?_eq_some_iff.1 h2).1; have := HN.out; omega) h1 h2)
   go_wp2
   go_ret
   exact ⟨by rw [RR.out]; rfl,BE.out⟩
theorem elrW {W W1 : World} {v : Value} {l : List XOw} {ao : Option Addr} {n c k : Nat} {x : XOw} (h : Row EW W v l) (hv : v = .slice ao n c) (hn : l.length = n) (hk : l[k]? = some x) (hb : Below W.heap.size W W1) :
  ∃ p : Addr,(∀ w,(Instr.indexAt 29 (.slice ao n c) (.int .i64 k)).run Tryz.prog w = .ok (.pointer (some p)) w) ∧ (∀ d os,(grow (redrawn W1 d) os).cell? p = some (.int .i64 x.1)) ∧ (∀ d os,(grow (redrawn W1 d) os).cell? ⟨p.block,p.off + 1,none⟩ = some (.int .i64 x.2.1)) ∧ (∀ d os,(grow (redrawn W1 d) os).cell? ⟨p.block,p.off + 2,none⟩ = some (slv x.2.2)) := by
 obtain ⟨p,h1,h2⟩ := elW h hv hn hk
 have h3 := h2 _ hb
 exact ⟨p,h1,cell_regrown h3.1,cell_regrown h3.2.1,cell_regrown h3.2.2⟩
theorem creW (c d : XOw) (r : Int) (hr : cmpW c d = r) (w : World) (k : Nat) (os : Array Obj) :
  Calls Tryz.prog 45 #[valW c,valW d] (grow (redrawn w k) os) fun e w'' => e = .returned (.int .i64 r) ∧ ∃ p : Regrown,w'' = grow (redrawn w p.d) p.os := by
 subst hr
 exact Calls.regrown_of (inOwn_any c d _)
theorem riseW_any (v : Value) (l : List XOw) (w : World) (hv : Row EW w v l) :
  Calls Tryz.prog 44 #[v,.func (.func 45) #[] #[]] w fun e w' => e = .returned (.bool (riseB cmpW l)) ∧ Below w.heap.size w w' := by
 have HL := Lib.hid hv
 have lm := hv.most
 unfold maxLen at lm
 obtain ⟨ao,ac,rfl⟩ := hv.len
 obtain ⟨n,hn⟩ : ∃ n,n = l.length := ⟨_,rfl⟩
 rw [← hn] at HL lm ⊢
 have HN := Lib.hid hn.symm
 clear hv hn
 go_enter Tryz.func44,Tryz.ntmps44
 go_wp2
 go_loopw [5] (fun i wr => ∃ k : Nat,(k + 1 ≤ n ∨ n = 0 ∧ k = 0) ∧ i = .int .i64 ((k + 1 : Nat) : Int) ∧ Below w.heap.size w wr ∧ ∀ (j : Nat) (x y : XOw),j < k → l[j]? = some x → l[j + 1]? = some y → cmpW x y < 0) (fun i _ => n + 1 - (intOf i).toNat)
 case atStart => exact ⟨0,by omega,rfl,Below.refl _ _,fun j x y h => by omega⟩
 case round =>
  obtain ⟨k,hk,rfl,hbe,hall⟩ := hrel
  have BE := Lib.hid hbe
  have AL := Lib.hid hall
  clear hbe hall
  by_cases hlt : k + 1 < n
  ·obtain ⟨x,hx⟩ : ∃ x,l[k]? = some x := ⟨_,List.getElem?_eq_getElem (by rw [HN.out]; omega)⟩
   obtain ⟨y,hy⟩ : ∃ y,l[k + 1]? = some y := ⟨_,List.getElem?_eq_getElem (by rw [HN.out]; omega)⟩
   obtain ⟨p,ix,p0,p1,p2⟩ := elrW HL.out rfl HN.out hx BE.out
   obtain ⟨q,iy,q0,q1,q2⟩ := elrW HL.out rfl HN.out hy BE.out
   rw [show ((k + 1 : Nat) : Int) = (k : Int) + 1 by omega] at iy
   obtain ⟨r,hr⟩ : ∃ r,cmpW x y = r := ⟨_,rfl⟩
   have C := creW x y r hr wr
   have HX := Lib.hid hx
   have HY := Lib.hid hy
   have HR := Lib.hid hr
   have BN := Lib.hid (fun dq osq => BE.out.trans ((below_regrown wr dq osq).mono BE.out.size))
   have w1 : IntKind.i64.wrap ((k : Int) + 1 - 1) = k := by rw [show (k : Int) + 1 - 1 = k by omega]; exact IntWalk.i64_in _ (by omega)
   have w2 : IntKind.i64.wrap ((k : Int) + 1 + 1) = (k : Int) + 1 + 1 := IntWalk.i64_in _ (by omega)
   clear hx hy hr
   obtain ⟨x1,x2,⟨xo,xn,xc⟩⟩ := x
   obtain ⟨y1,y2,⟨yo,yn,yc⟩⟩ := y
   simp only at p0 p1 p2 q0 q1 q2 C
   by_cases hneg : r < 0
   ·have d0 : decide ((0 : Int) ≤ r) = false := by simp; omega
    go_wp2
    refine wp_region_quiet_below (by kernel_rfl) (by kernel_rfl) ?_
    repeat (go_big_quiet_step (first | (with_reducible exact C _ _) | exact calW _ _))
    refine wpQuiet_nil ?_
    intro _ hw'
    obtain ⟨⟨dq,osq⟩,hw''⟩ := hw'
    subst hw''
    clear ix iy p0 p1 p2 q0 q1 q2 C w1 d0
    go_wp2
    go_roundw
    case rel => exact ⟨k + 1,by omega,by go_num,BN.out _ _,fun j a b hj h1 h2 => by
     rcases Nat.lt_or_ge j k with h3 | h3
     ·exact AL.out j a b h3 h1 h2
     ·obtain rfl : j = k := by omega
      have e1 := HX.out
      have e2 := HY.out
      rw [h1] at e1
      rw [h2] at e2
      rw [Option.some.inj e1,Option.some.inj e2,HR.out]
      exact hneg⟩
    case measure => simp [intOf]; omega
   ·have d0 : decide ((0 : Int) ≤ r) = true := by simp; omega
    have RR := Lib.hid (show riseB cmpW l = false from riseB_not HX.out HY.out (by rw [HR.out]; exact hneg))
    go_wp2
    refine wp_region_quiet_below (by kernel_rfl) (by kernel_rfl) ?_
    repeat (go_big_quiet_step (first | (with_reducible exact C _ _) | exact calW _ _))
    refine wpQuiet_nil ?_
    intro _ hw'
    obtain ⟨⟨dq,osq⟩,hw''⟩ := hw'
    subst hw''
    clear ix iy p0 p1 p2 q0 q1 q2 C w1 d0
    go_wp2
    go_ret
    exact ⟨by rw [RR.out]; rfl,BN.out _ _⟩
  ·have RR := Lib.hid (show riseB cmpW l = true from riseB_all fun j x y h1 h2 => AL.out j x y (by have := (List.getElem?_eq_some_iff.1 h2).1; have := HN.out; omega) h1 h2)
   go_wp2
   go_ret
   exact ⟨by rw [RR.out]; rfl,BE.out⟩
end Go.Proofs.YtncogjpmboglhaaGreat.Av
namespace Go.Proofs.YtncogjpmboglhaaGreat.Bk
open Go.RowKit Go.Sort Rw YtncogjpmboglhaaGreat.Nm Pr
def uV (B : Nat) (bv : Value) (f c d : Int) (l : List Int) (i : Nat) (v : Value) (x : World) : Prop :=
 match i with
 | 0 => v = bv
 | 1 => v = bv
 | 2 => v = .int .i64 f
 | 3 => v = idv (c,d)
 | 4 => v = .agg #[.int .i64 2,.int .i64 c,.int .i64 d,.int .i64 0,.int .i64 0,.slice none 0 0,.slice none 0 0]
 | 5 => ∃ sl : Sl,v = slv sl ∧ OwnU x B v (othersL l f fun n => (n,2,c,d,0,0,(none,0,0),(none,0,0)))
 | _ => True
noncomputable def unadvR4 : Code := ((Tryz.f99.body.bind (findRegion 4)).getD .skip)
theorem unadv_r4 (Q : Exit → Act → World → Prop) (W : World) (b3 b5 b6 : Nat) (me f c d : Int) (o1 o2 o3 o4 o5 : Option Addr) (n1 c1 n2 c2 n3 c3 n4 c4 n5 c5 : Nat) (l : List Int) (z0 z1 z2 z3 z4 z5 : Value) (u0 u2 u4 u7 u8 u9 u10 u11 u12 u13 u14 u15 u16 u17 u18 u19 u20 u21 u22 u23 u24 : Value)
  (h3 : Box W b3 #[.int .i64 me,.slice o1 n1 c1,.slice o2 n2 c2,.slice o3 n3 c3,.slice o4 n4 c4,.slice o5 n5 c5] 31) (h5 : Box W b5 #[.int .i64 c,.int .i64 d] 38) (h6 : Box W b6 #[z0,z1,z2,z3,z4,z5] 31) (hl : RowI W (.slice o1 n1 c1) l) (hlen : l.length ≤ 900)
  (hQ : ∀ (a : Act) (x : World) (sl : Sl),a.defers = [] → a.tmps[6]? = some (.pointer (some ⟨b6,0,none⟩)) → a.tmps[7]? = some (slv sl) → Box x b6 #[.int .i64 me,.slice o1 n1 c1,.slice o2 n2 c2,.slice o3 n3 c3,.slice o4 n4 c4,.slice o5 n5 c5] 31 → OwnU x W.heap.size (slv sl) (othersL l f fun n => (n,2,c,d,0,0,(none,0,0),(none,0,0))) → (∀ k,k < W.heap.size → k ≠ b6 → x.heap[k]? = W.heap[k]?) → (∀ B,B ≤ b6 → Below B W x) → Q .normal a x) :
  Code.wp Tryz.prog unadvR4 Q ⟨(u0 :: .int .i64 f :: u2 :: .pointer (some ⟨b3,0,none⟩) :: u4 :: .pointer (some ⟨b5,0,none⟩) :: .pointer (some ⟨b6,0,none⟩) :: u7 :: u8 :: u9 :: u10 :: u11 :: u12 :: u13 :: u14 :: u15 :: u16 :: u17 :: u18 :: u19 :: u20 :: u21 :: u22 :: u23 :: u24 :: []).toArray,[]⟩ W := by
 have HQ := Lib.hid hQ
 have H3 := Lib.hid h3
 have H5 := Lib.hid h5
 have H6 := Lib.hid h6
 have HL := Lib.hid hl
 have LL := Lib.hid hlen
 clear hQ h3 h5 h6 hl hlen
 have stab : ∀ (j : Nat) (u : Value) (x x' : World),j < 6 → uV W.heap.size (.agg #[.int .i64 me,.slice o1 n1 c1,.slice o2 n2 c2,.slice o3 n3 c3,.slice o4 n4 c4,.slice o5 n5 c5]) f c d l j u x → Below x.heap.size x x' → uV W.heap.size (.agg #[.int .i64 me,.slice o1 n1 c1,.slice o2 n2 c2,.slice o3 n3 c3,.slice o4 n4 c4,.slice o5 n5 c5]) f c d l j u x' := by
  intro i u x x' hi h hb
  rcases (by omega : i = 0 ∨ i = 1 ∨ i = 2 ∨ i = 3 ∨ i = 4 ∨ i = 5) with rfl | rfl | rfl | rfl | rfl | rfl
  ·exact h
  ·exact h
  ·exact h
  ·exact h
  ·exact h
  ·obtain ⟨sl,h1,h2⟩ := h
   exact ⟨sl,h1,own_on h2 hb⟩
 unfold unadvR4
 conv => arg 2; whnf
 have nd : ∀ j,(j < 19 ∨ 25 ≤ j) → ∀ i,i < 6 → (fun i => 19 + i) i ≠ j := by
  intro j hj i hi h
  simp only at h
  omega
 refine Rg.region_live 8 6 (fun i => 19 + i) (fun _ => 6) (uV W.heap.size (.agg #[.int .i64 me,.slice o1 n1 c1,.slice o2 n2 c2,.slice o3 n3 c3,.slice o4 n4 c4,.slice o5 n5 c5]) f c d l) (by kernel_rfl) (by kernel_rfl) rfl (by decide) (fun i j _ _ h => by have h2 : 19 + i = 19 + j := h; omega) (fun i hi => by show 19 + i < 25; omega) ?_ (fun _ => Rg.hall_of 3 (by kernel_rfl)) ?_ ?_
 ·intro i o hi ho a x D hnd hc hD hb seen K hK
  clear HQ
  rcases (by omega : i = 0 ∨ i = 1 ∨ i = 2 ∨ i = 3 ∨ i = 4 ∨ i = 5) with rfl | rfl | rfl | rfl | rfl | rfl
  ·obtain rfl := Option.some.inj ho
   have e3 : a.eval (.tmp 3) = .pointer (some ⟨b3,0,none⟩) := seen.kp 3 _ (nd 3 (by omega)) rfl
   exact Rg.op_value rfl rfl (Rg.ex_load a.eval _ 31 (.tmp 3) rfl (by rw [e3]; exact loadBr (H3.out.on hb))) (hK _ _ rfl (Below.refl _ _) fun _ _ _ _ _ _ _ h => h)
  ·obtain rfl := Option.some.inj ho
   have e3 : a.eval (.tmp 3) = .pointer (some ⟨b3,0,none⟩) := seen.kp 3 _ (nd 3 (by omega)) rfl
   exact Rg.op_value rfl rfl (Rg.ex_load a.eval _ 31 (.tmp 3) rfl (by rw [e3]; exact loadBr (H3.out.on hb))) (hK _ _ rfl (Below.refl _ _) fun _ _ _ _ _ _ _ h => h)
  ·obtain rfl := Option.some.inj ho
   have e1 : a.eval (.tmp 1) = .int .i64 f := seen.kp 1 _ (nd 1 (by omega)) rfl
   exact Rg.op_value rfl rfl (Rg.ex_move a.eval _ (.tmp 1) rfl x) (hK _ _ e1 (Below.refl _ _) fun _ _ _ _ _ _ _ h => h)
  ·obtain rfl := Option.some.inj ho
   have e5 : a.eval (.tmp 5) = .pointer (some ⟨b5,0,none⟩) := seen.kp 5 _ (nd 5 (by omega)) rfl
   exact Rg.op_value rfl rfl (Rg.ex_load a.eval _ 38 (.tmp 5) rfl (by rw [e5]; exact loadJ x _ (c,d) (box_J (H5.out.on hb)))) (hK _ _ rfl (Below.refl _ _) fun _ _ _ _ _ _ _ h => h)
  ·obtain rfl := Option.some.inj ho
   have e22 : a.eval (.tmp 22) = idv (c,d) := seen.at_ ⟨3,.data⟩ (by simp) rfl (Or.inr (by decide))
   exact Rg.op_value rfl rfl (Rg.ex_buildS a.eval _ 77 #[(0,.const (.int .i64 2)),(1,.tmp 22)] rfl (ps := #[(0,.int .i64 2),(1,idv (c,d))]) (by simp only [List.map_toArray,List.map_cons,List.map_nil,e22]; rfl) (by simp [go_sem])) (hK _ _ rfl (Below.refl _ _) fun _ _ _ _ _ _ _ h => h)
  ·obtain rfl := Option.some.inj ho
   have e20 : a.eval (.tmp 20) = .agg #[.int .i64 me,.slice o1 n1 c1,.slice o2 n2 c2,.slice o3 n3 c3,.slice o4 n4 c4,.slice o5 n5 c5] := seen.at_ ⟨1,.data⟩ (by simp) rfl (Or.inr (by decide))
   have e21 : a.eval (.tmp 21) = .int .i64 f := seen.at_ ⟨2,.data⟩ (by simp) rfl (Or.inr (by decide))
   have e23 : a.eval (.tmp 23) = .agg #[.int .i64 2,.int .i64 c,.int .i64 d,.int .i64 0,.int .i64 0,.slice none 0 0,.slice none 0 0] := seen.at_ ⟨4,.data⟩ (by simp) rfl (Or.inr (by decide))
   exact Rg.op_call rfl rfl (ex_call3g a.eval _ (.tmp 20) (.tmp 21) (.tmp 23) 31 3 77 98 rfl e20 e21 e23 rfl _ (call_fn Tryz.func98 rfl rfl _ _)) (others_any me f 2 c d 0 0 (o1,n1,c1) _ _ _ _ (none,0,0) (none,0,0) l x (HL.out.on hb) LL.out) fun e w1 h => by
    obtain ⟨⟨v,rfl,h1⟩,h3⟩ := h
    exact ⟨_,rfl,hK _ _ ⟨v,rfl,own_fewer h1 hb.size⟩ (h3.mono hb.size) fun j u hj _ _ _ hne h => stab j u _ _ (by omega) h h3⟩
 ·intro kk o h1 h2 ho
  obtain rfl : kk = 7 := by omega
  obtain rfl := Option.some.inj ho
  exact ⟨⟨6,.chain⟩,by simp,rfl,rfl⟩
 ·intro a w' df sz kp ⟨vs,hv⟩ hb
  have g19 : a.tmps[19]? = some (.agg #[.int .i64 me,.slice o1 n1 c1,.slice o2 n2 c2,.slice o3 n3 c3,.slice o4 n4 c4,.slice o5 n5 c5]) := by
   have h : vs 0 = .agg #[.int .i64 me,.slice o1 n1 c1,.slice o2 n2 c2,.slice o3 n3 c3,.slice o4 n4 c4,.slice o5 n5 c5] := (hv 0 (by omega)).2 (by decide)
   rw [← h]
   exact (hv 0 (by omega)).1
  obtain ⟨sl,hsl,ho⟩ := (hv 5 (by omega)).2 (by decide)
  have g24 : a.tmps[24]? = some (slv sl) := by
   rw [← hsl]
   exact (hv 5 (by omega)).1
  rw [hsl] at ho
  have g6 : a.tmps[6]? = some (.pointer (some ⟨b6,0,none⟩)) := (kp 6 (nd 6 (by omega))).trans rfl
  have sz' : a.tmps.size = 25 := sz
  have H6' := H6.out.on hb
  have lt6 := H6.out.lt
  show Rg.SeqFrom _ _ _ 2 6 a w'
  simp only [Rg.SeqFrom]
  refine Rg.op_store 31 (.tmp 6) (.tmp 19) rfl rfl rfl rfl (Rg.eval_some g6) (Rg.eval_some g19) (w' := setB w' b6 (.int .i64 me) (.slice o1 n1 c1) (.slice o2 n2 c2) (.slice o3 n3 c3) (.slice o4 n4 c4) (.slice o5 n5 c5)) (storeBr H6' me _ _ _ _ _ _ _ _ _ _ _ _ _ _ _) ?_
  refine Rg.op_value rfl rfl (Rg.ex_assign a.eval _ (.tmp 24) rfl _) ?_
  rw [Rg.eval_some g24]
  refine HQ.out _ _ sl df ((Rg.get_put a 7 (slv sl) 6 (by decide)).trans g6) ?_ (setB_box H6' _ _ _ _ _ _) (setB_ownA ho b6 lt6 _ _ _ _ _ _) ?_ ?_
  ·have : 7 < a.tmps.size := by omega
   show (a.put (some 7) (slv sl)).tmps[7]? = _
   simp [Act.put,this]
  ·intro k hk hne
   exact (setB_heap w' b6 (.int .i64 me) (.slice o1 n1 c1) (.slice o2 n2 c2) (.slice o3 n3 c3) (.slice o4 n4 c4) (.slice o5 n5 c5) k hne).trans (hb.block k hk)
  ·exact fun B hB => setB_below (hb.mono (Nat.le_of_lt (Nat.lt_of_le_of_lt hB lt6))) hB _ _ _ _ _ _
def unadvL (b : Br) (f : Int) (x : Id) : List XOu := if (forgetB b x f).2 = true then othersL b.near f (fun n => (n,2,x.1,x.2,0,0,(none,0,0),(none,0,0))) else []
theorem forget_near (b : Br) (x : Id) (f : Int) : (forgetB b x f).1.near = b.near ∧ (forgetB b x f).1.me = b.me := by
 unfold forgetB
 split
 ·exact ⟨rfl,rfl⟩
 ·split
  ·exact ⟨rfl,rfl⟩
  ·split <;> exact ⟨rfl,rfl⟩
theorem runadv_any (b : Br) (nv av sv ev ov : Sl) (x : Id) (f : Int) (w : World) (h : BrIn w b nv av sv ev ov) (l1 : b.near.length ≤ 900) (l2 : b.adv.length ≤ 900) (l3 : b.ent.length ≤ 900) :
  Calls Tryz.prog 99 #[brv b.me nv av sv ev ov,.int .i64 f,idv x] w fun e w' => (∃ av' ev' sl : Sl,e = .returned (.tuple #[brv b.me nv av' sv ev' ov,slv sl]) ∧ BrIn w' (forgetB b x f).1 nv av' sv ev' ov ∧ RowU w' (slv sl) (unadvL b f x)) ∧ Below w.heap.size w w' := by
 obtain ⟨no,nn,nc⟩ := nv
 obtain ⟨ao,an,ac⟩ := av
 obtain ⟨so,sn,sc⟩ := sv
 obtain ⟨eo,en,ec⟩ := ev
 obtain ⟨oo,on_,oc⟩ := ov
 obtain ⟨c,d⟩ := x
 have FG := Lib.hid (fun W hb' => rforget_any b (no,nn,nc) (ao,an,ac) (so,sn,sc) (eo,en,ec) (oo,on_,oc) (c,d) f W (h.on (show Below w.heap.size w W from hb')) l2 l3)
 have HNR := Lib.hid h.near
 have L1 := Lib.hid l1
 obtain ⟨h0,h1,h2,h3⟩ := three_new w #[.int .i64 b.me,.slice no nn nc,.slice ao an ac,.slice so sn sc,.slice eo en ec,.slice oo on_ oc] #[.int .i64 c,.int .i64 d] #[.int .i64 0,.slice none 0 0,.slice none 0 0,.slice none 0 0,.slice none 0 0,.slice none 0 0] 31 38 31
 obtain ⟨me,hme⟩ : ∃ me,me = b.me := ⟨_,rfl⟩
 simp only [← hme] at h0 h1 h2 h3 FG ⊢
 have B0 := Lib.hid h0
 have X2 := Lib.hid h1
 have X3 := Lib.hid h2
 have X5 := Lib.hid h3
 clear h0 h1 h2 h3 h l1 l2 l3 hme
 show Calls Tryz.prog 99 #[.agg #[.int .i64 me,.slice no nn nc,.slice ao an ac,.slice so sn sc,.slice eo en ec,.slice oo on_ oc],.int .i64 f,.agg #[.int .i64 c,.int .i64 d]] w _
 go_enter Tryz.func99,Tryz.ntmps99
 go_upto_region 1 with fail
 generalize (((w.alloc (.cells #[.int .i64 me,.slice no nn nc,.slice ao an ac,.slice so sn sc,.slice eo en ec,.slice oo on_ oc] 31)).alloc (.cells #[.int .i64 c,.int .i64 d] 38)).alloc (.cells #[.int .i64 0,.slice none 0 0,.slice none 0 0,.slice none 0 0,.slice none 0 0,.slice none 0 0] 31)) = W at *
 have SW := Lib.hid (FG.out W B0.out)
 have x_ := X2.out
 have y_ := X3.out
 obtain ⟨x0,x1,x2,x3,x4,x5⟩ := x_.cs6
 obtain ⟨y0,y1⟩ := y_.cs2
 clear x_ y_ FG
 go_wp2_with fail
 refine SW.out.mono ?_
 rintro e1 w1 ⟨⟨⟨ao2,an2,ac2⟩,⟨eo2,en2,ec2⟩,rfl,hbr⟩,hb⟩
 obtain ⟨fb,hfb⟩ : ∃ r,(forgetB b (c,d) f).2 = r := ⟨_,rfl⟩
 have LB := Lib.hid hfb
 rw [hfb]
 have B1 := Lib.hid (B0.out.trans (hb.mono B0.out.size))
 have Y2 := X2.out.on hb
 have Y3 := X3.out.on hb
 have Y5 := X5.out.on hb
 obtain ⟨k0,k1,k2,k3,k4,k5⟩ := Y2.cs6
 obtain ⟨t0,t1,t2,t3,t4,t5⟩ := Y2.fs6
 have zz := Y2.lt
 have FB := Lib.hid (setB_box Y2 (.int .i64 me) (.slice no nn nc) (.slice ao2 an2 ac2) (.slice so sn sc) (.slice eo2 en2 ec2) (.slice oo on_ oc))
 have B2 := Lib.hid (setB_below (b := w.heap.size) B1.out (Nat.le_refl _) (.int .i64 me) (.slice no nn nc) (.slice ao2 an2 ac2) (.slice so sn sc) (.slice eo2 en2 ec2) (.slice oo on_ oc))
 have F3 := Lib.hid (show Box _ _ _ _ from (setB_heap w1 w.heap.size (.int .i64 me) (.slice no nn nc) (.slice ao2 an2 ac2) (.slice so sn sc) (.slice eo2 en2 ec2) (.slice oo on_ oc) (w.heap.size + 1) (by omega)).trans Y3)
 have F5 := Lib.hid (show Box _ _ _ _ from (setB_heap w1 w.heap.size (.int .i64 me) (.slice no nn nc) (.slice ao2 an2 ac2) (.slice so sn sc) (.slice eo2 en2 ec2) (.slice oo on_ oc) (w.heap.size + 1 + 1) (by omega)).trans Y5)
 have HB := Lib.hid (brin_keep (s1 := (no,nn,nc)) (s2 := (ao,an,ac)) (s3 := (so,sn,sc)) (s4 := (eo,en,ec)) (s5 := (oo,on_,oc)) hbr Y2 (fun j _ hj => setB_heap w1 w.heap.size (.int .i64 me) (.slice no nn nc) (.slice ao2 an2 ac2) (.slice so sn sc) (.slice eo2 en2 ec2) (.slice oo on_ oc) j hj) (by rw [(forget_near b (c,d) f).1]; exact HNR.out.on B2.out))
 clear hfb hbr hb SW X2 X3 X5 B1 Y2 Y3 Y5 x0 x1 x2 x3 x4 x5 y0 y1
 go_upto_region 2 with fail
 clear zz k0 k1 k2 k3 k4 k5 t0 t1 t2 t3 t4 t5
 unfold setB at FB B2 F3 F5 HB
 generalize ((((((w1.setCell ⟨w.heap.size,0,none⟩ (.int .i64 me)).setCell ⟨w.heap.size,1,none⟩ (.slice no nn nc)).setCell ⟨w.heap.size,2,none⟩ (.slice ao2 an2 ac2)).setCell ⟨w.heap.size,3,none⟩ (.slice so sn sc)).setCell ⟨w.heap.size,4,none⟩ (.slice eo2 en2 ec2)).setCell ⟨w.heap.size,5,none⟩ (.slice oo on_ oc)) = w2 at *
 cases fb
 ·have x_ := FB.out
  have r_ := F5.out
  obtain ⟨x0,x1,x2,x3,x4,x5⟩ := x_.cs6
  obtain ⟨r0,r1,r2,r3,r4,r5⟩ := r_.cs6
  obtain ⟨t0,t1,t2,t3,t4,t5⟩ := r_.fs6
  have zz := r_.lt
  have GB := Lib.hid (setB_box r_ (.int .i64 me) (.slice no nn nc) (.slice ao2 an2 ac2) (.slice so sn sc) (.slice eo2 en2 ec2) (.slice oo on_ oc))
  have BL := Lib.hid (setB_below (b := w.heap.size + 1 + 1) B2.out (by omega) (.int .i64 me) (.slice no nn nc) (.slice ao2 an2 ac2) (.slice so sn sc) (.slice eo2 en2 ec2) (.slice oo on_ oc))
  have HC := Lib.hid (brin_keep (s1 := (none,0,0)) (s2 := (none,0,0)) (s3 := (none,0,0)) (s4 := (none,0,0)) (s5 := (none,0,0)) HB.out r_ (fun j _ hj => setB_heap w2 (w.heap.size + 1 + 1) (.int .i64 me) (.slice no nn nc) (.slice ao2 an2 ac2) (.slice so sn sc) (.slice eo2 en2 ec2) (.slice oo on_ oc) j hj) (by rw [(forget_near b (c,d) f).1]; exact HNR.out.on BL.out))
  clear x_ r_ HB FB F3 F5
  go_wp2_with fail
  obtain ⟨v0,v1,v2,v3,v4,v5⟩ := GB.out.cs6
  refine bodyPost_ret (v := .tuple #[.agg #[.int .i64 me,.slice no nn nc,.slice ao2 an2 ac2,.slice so sn sc,.slice eo2 en2 ec2,.slice oo on_ oc],.slice none 0 0]) (by simp [results,Tryz.results99,go_sem,v0,v1,v2,v3,v4,v5]) rfl ?_
  exact ⟨⟨(ao2,an2,ac2),(eo2,en2,ec2),(none,0,0),rfl,HC.out,by unfold unadvL; rw [LB.out]; exact Or.inl ⟨rfl,rfl⟩⟩,BL.out⟩
 ·go_upto_region 4 with fail
  refine unadv_r4 _ w2 w.heap.size (w.heap.size + 1) (w.heap.size + 1 + 1) me f c d no ao2 so eo2 oo nn nc an2 ac2 sn sc en2 ec2 on_ oc b.near _ _ _ _ _ _ _ _ _ _ _ _ _ _ _ _ _ _ _ _ _ _ _ _ _ _ _ FB.out F3.out F5.out (HNR.out.on B2.out) L1.out ?_
  intro a9 x9 sl hd9 h69 h79 hbx ho hblk hbl
  have BL := Lib.hid (B2.out.trans (hbl w.heap.size (by omega)))
  have HC := Lib.hid (brin_keep (s1 := (none,0,0)) (s2 := (none,0,0)) (s3 := (none,0,0)) (s4 := (none,0,0)) (s5 := (none,0,0)) HB.out F5.out (fun j hlt hj => hblk j hlt hj) (by rw [(forget_near b (c,d) f).1]; exact HNR.out.on BL.out))
  have HU := Lib.hid (Row.of_own ho)
  have hbx' := hbx
  obtain ⟨v0,v1,v2,v3,v4,v5⟩ := hbx'.cs6
  clear hbx' hbx ho hblk hbl HB FB F3 F5
  simp only [Exit.then]
  apply_assumption
  go_wp2_with fail
  refine bodyPost_ret (v := .tuple #[.agg #[.int .i64 me,.slice no nn nc,.slice ao2 an2 ac2,.slice so sn sc,.slice eo2 en2 ec2,.slice oo on_ oc],slv sl]) (by simp [results,Tryz.results99,go_sem,h69,h79,v0,v1,v2,v3,v4,v5]) hd9 ?_
  exact ⟨⟨(ao2,an2,ac2),(eo2,en2,ec2),sl,rfl,HC.out,by unfold unadvL; rw [LB.out]; exact HU.out⟩,BL.out⟩
def sideI (near : List Int) (n : Int) : Int := (near[(Wi.within n 0 near.length).toNat]?).getD (-1)
theorem side_any (me n : Int) (nv : Sl) (av sv ev ov : Value) (l : List Int) (w : World) (hs : RowI w (slv nv) l) (hl : l.length ≤ 900) (h1 : -9223372036854775808 ≤ n) (h2 : n ≤ 9223372036854775807) :
  Calls Tryz.prog 30 #[.agg #[.int .i64 me,slv nv,av,sv,ev,ov],.int .i64 n] w fun e w' => e = .returned (.int .i64 (sideI l n)) ∧ Below w.heap.size w w' := by
 obtain ⟨no,nn,nc⟩ := nv
 obtain ⟨q1,q2,hq⟩ := hs.len
 obtain ⟨rfl,rfl,rfl⟩ : no = q1 ∧ nn = l.length ∧ nc = q2 := by
  have : Value.slice no nn nc = .slice q1 l.length q2 := hq
  simpa using this
 obtain ⟨nn,hnn⟩ : ∃ n,n = l.length := ⟨_,rfl⟩
 simp only [← hnn] at hs ⊢
 have NB := newB w (.cells #[.int .i64 me,.slice no nn nc,av,sv,ev,ov] 31)
 have B0 := Lib.hid NB
 have X2 := Lib.hid (box_new w #[.int .i64 me,.slice no nn nc,av,sv,ev,ov] 31)
 have HS := Lib.hid (hs.on NB)
 have HN := Lib.hid hnn
 have nl : nn ≤ 900 := by omega
 clear NB hs hq hnn hl
 show Calls Tryz.prog 30 #[.agg #[.int .i64 me,.slice no nn nc,av,sv,ev,ov],.int .i64 n] w _
 go_enter Tryz.func30,Tryz.ntmps30
 go_upto_region 1 with fail
 generalize w.alloc (.cells #[.int .i64 me,.slice no nn nc,av,sv,ev,ov] 31) = W at *
 have x1 := X2.out.cell 1
 simp only [List.getElem?_toArray,List.getElem?_cons_zero,List.getElem?_cons_succ] at x1
 have WI := Wi.within_any n 0 (nn : Int) W (by omega) (by decide) (by omega) h1 h2
 have WB := Wi.within_bd n 0 (nn : Int) (by omega)
 have SD := Lib.hid (show sideI l n = (l[(Wi.within n 0 (nn : Int)).toNat]?).getD (-1) from by unfold sideI; rw [HN.out])
 generalize Wi.within n 0 (nn : Int) = y at *
 obtain ⟨m,rfl⟩ : ∃ m : Nat,y = m := ⟨y.toNat,by omega⟩
 rw [Int.toNat_natCast] at SD
 go_wp2_with fail
 refine WI.mono ?_
 rintro e2 w2 ⟨rfl,rfl⟩
 clear WI
 by_cases hm : m < nn
 ·have hm2 : (m : Int) < (nn : Int) := by omega
  obtain ⟨z,hz⟩ : ∃ z,l[m]? = some z := ⟨_,List.getElem?_eq_getElem (by rw [← HN.out]; exact hm)⟩
  obtain ⟨p,ix,px⟩ := elI HS.out rfl HN.out.symm hz
  have p0 := px.2 W (Below.refl _ _)
  rw [hz] at SD
  clear px hz
  go_wp2_with fail
  go_ret
  exact ⟨by rw [SD.out]; rfl,B0.out⟩
 ·have hm2 : ¬ ((m : Int) < (nn : Int)) := by omega
  rw [List.getElem?_eq_none (by have := HN.out; omega)] at SD
  go_wp2_with fail
  go_ret
  exact ⟨by rw [SD.out]; rfl,B0.out⟩
end Go.Proofs.YtncogjpmboglhaaGreat.Bk
namespace Go.Proofs.YtncogjpmboglhaaGreat.Av
open Go.RowKit Go.ChangeShapes Go.WideShapes Bk
theorem cellsSt : Tryz.prog.cellsOf 74 = 7 := by kernel_rfl
theorem indexSt (a : Addr) (m len cap : Nat) (h : m < len) (w : World) : (Instr.indexAt 22 (.slice (some a) len cap) (.int .i64 m)).run Tryz.prog w = .ok (.pointer (some (a.add (m * 7)))) w := by
 have h1 : (m : Int) < len := by omega
 simp [go_sem,Tryz.underlying22,h1]
structure InSt (W : World) (v : Value) (n : Nat) : Prop where
 shape : ∃ ao cap,v = .slice ao n cap
 at_ : ∀ i : Nat,i < n → ∃ (p : Addr) (z0 z1 z2 z3 z4 : Int) (h1 : Option Addr) (h2 h3 : Nat) (g1 : Option Addr) (g2 g3 : Nat) (has vals : List Int),p.block < W.heap.size ∧ (∀ w,(Instr.indexAt 22 v (.int .i64 i)).run Tryz.prog w = .ok (.pointer (some p)) w) ∧ (∀ j u,([.int .i64 z0,.int .i64 z1,.int .i64 z2,.int .i64 z3,.int .i64 z4,.slice h1 h2 h3,.slice g1 g2 g3] : List Value)[j]? = some u → W.cell? (p.add j) = some u) ∧ ((-9223372036854775808 ≤ z0 ∧ z0 ≤ 9223372036854775807) ∧ (-9223372036854775808 ≤ z1 ∧ z1 ≤ 9223372036854775807) ∧ (-9223372036854775808 ≤ z2 ∧ z2 ≤ 9223372036854775807) ∧ (-9223372036854775808 ≤ z3 ∧ z3 ≤ 9223372036854775807) ∧ (-9223372036854775808 ≤ z4 ∧ z4 ≤ 9223372036854775807)) ∧ In.InInts W (.slice h1 h2 h3) has ∧ In.InInts W (.slice g1 g2 g3) vals ∧ has.length ≤ maxLen ∧ vals.length ≤ maxLen
theorem InSt.on {W W' : World} {v : Value} {n : Nat} (h : InSt W v n) (hb : Below W.heap.size W W') : InSt W' v n :=
 ⟨h.shape,fun i hi => by
  obtain ⟨p,z0,z1,z2,z3,z4,x1,x2,x3,y1,y2,y3,has,vals,h1,h2,h3,h4,h5,h6,h7⟩ := h.at_ i hi
  exact ⟨p,z0,z1,z2,z3,z4,x1,x2,x3,y1,y2,y3,has,vals,Nat.lt_of_lt_of_le h1 hb.size,h2,fun j u hu => by rw [hb.cell (by rw [add_blk]; exact h1)]; exact h3 j u hu,h4,h5.on hb,h6.on hb,h7⟩⟩
end Go.Proofs.YtncogjpmboglhaaGreat.Av
namespace Go.Proofs.YtncogjpmboglhaaGreat.Bk
open Go.RowKit Go.Sort Rw YtncogjpmboglhaaGreat.Nm Pr
structure BrOwn2 (w W : World) (B : Nat) (b : Br) (nv av sv ev ov : Sl) : Prop where
 near : OwnI W B (slv nv) b.near
 adv : ∃ l,OwnD W B (slv av) l ∧ All2 (AdIn w) l b.adv
 seen : OwnJ W B (slv sv) b.seen
 ent : ∃ l,OwnN W B (slv ev) l ∧ All2 (EnIn w) l b.ent
 own : ∃ l,OwnW W B (slv ov) l ∧ All2 (OwIn w) l b.own
theorem copy2_any (b : Br) (nv av sv ev ov : Sl) (w : World) (h : BrIn w b nv av sv ev ov) (hf : Few b) :
  Calls Tryz.prog 9 #[brv b.me nv av sv ev ov] w fun e w' => (∃ nv' av' sv' ev' ov' : Sl,e = .returned (brv b.me nv' av' sv' ev' ov') ∧ BrOwn2 w w' w.heap.size b nv' av' sv' ev' ov') ∧ Below w.heap.size w w' := by
 obtain ⟨no,nn,nc⟩ := nv
 obtain ⟨ao,an,ac⟩ := av
 obtain ⟨so,sn,sc⟩ := sv
 obtain ⟨eo,en,ec⟩ := ev
 obtain ⟨oo,on_,oc⟩ := ov
 obtain ⟨la,ha1,ha2⟩ := h.adv
 obtain ⟨le,he1,he2⟩ := h.ent
 obtain ⟨lo_,ho1,ho2⟩ := h.own
 have HA := Lib.hid ha2
 have HE := Lib.hid he2
 have HO := Lib.hid ho2
 have R0 := Lib.hid h.near
 have R1 := Lib.hid ha1
 have R2 := Lib.hid h.seen
 have R3 := Lib.hid he1
 have R4 := Lib.hid ho1
 have LL0 := Lib.hid hf.near
 have LL1 := Lib.hid (show la.length ≤ 900 by rw [ha2.len]; exact hf.adv)
 have LL2 := Lib.hid hf.seen
 have LL3 := Lib.hid (show le.length ≤ 900 by rw [he2.len]; exact hf.ent)
 have LL4 := Lib.hid (show lo_.length ≤ 900 by rw [ho2.len]; exact hf.own)
 obtain ⟨h0,h1,h2⟩ := two_new w #[.int .i64 b.me,.slice no nn nc,.slice ao an ac,.slice so sn sc,.slice eo en ec,.slice oo on_ oc] #[.int .i64 0,.slice none 0 0,.slice none 0 0,.slice none 0 0,.slice none 0 0,.slice none 0 0] 31 31
 obtain ⟨me,hme⟩ : ∃ me,me = b.me := ⟨_,rfl⟩
 simp only [← hme] at h0 h1 h2 ⊢
 have B0 := Lib.hid h0
 have XB0 := Lib.hid h1
 have ZB0 := Lib.hid h2
 clear h0 h1 h2 h hf ha1 ha2 he1 he2 ho1 ho2 hme
 go_enter Tryz.func9,Tryz.ntmps9
 go_upto_region 1 with fail
 generalize (w.alloc (.cells #[.int .i64 me,.slice no nn nc,.slice ao an ac,.slice so sn sc,.slice eo en ec,.slice oo on_ oc] 31)).alloc (.cells #[.int .i64 0,.slice none 0 0,.slice none 0 0,.slice none 0 0,.slice none 0 0,.slice none 0 0] 31) = W at *
 obtain ⟨q0,w0,r0,o0,g0⟩ := app_fresh Nm.okI (w.heap.size + 2) (box_new W #[] 3) (by have := XB0.out.lt; have := ZB0.out.lt; omega) ((R0.out.on B0.out).on (newB W (.cells #[] 3))) (by have := LL0.out; omega) 25
 obtain ⟨a0,c0,hv0⟩ := (Row.of_own o0).len
 obtain ⟨l0,hl0⟩ : ∃ n,n = (b.near).length := ⟨_,rfl⟩
 rw [← hl0] at hv0
 subst hv0
 have G0 := (newB W (.cells #[] 3)).trans (g0.mono (newB W (.cells #[] 3)).size)
 have X0a := XB0.out.on G0
 have x0 := (XB0.out.on (newB W (.cells #[] 3))).cell 1
 have y0 := X0a.cell 1
 have f0 := X0a.fr 1
 have z0 := X0a.lt
 simp only [List.getElem?_toArray,List.getElem?_cons_zero,List.getElem?_cons_succ] at x0 y0
 have XB1 := Lib.hid (show Box _ _ #[.int .i64 me,.slice a0 l0 c0,.slice ao an ac,.slice so sn sc,.slice eo en ec,.slice oo on_ oc] _ from by simpa using box_set (k := 1) X0a (.slice a0 l0 c0))
 have ZB1 := Lib.hid (show Box _ _ _ _ from (RowKit.Below.heap_setCell w0 ⟨w.heap.size,1,none⟩ (.slice a0 l0 c0) _ (show w.heap.size + 1 ≠ w.heap.size by omega)).trans (ZB0.out.on G0))
 have B1 := Lib.hid (((B0.out.trans (G0.mono B0.out.size)).setCell (p := ⟨w.heap.size,1,none⟩) (Nat.le_refl _) (.slice a0 l0 c0)))
 have O1_0 := Lib.hid (own_cell o0 w.heap.size 1 (.slice a0 l0 c0) (by omega))
 clear X0a G0 o0 g0 hl0 XB0 ZB0 
 go_upto_region 2 with (first | (at_builtin; refine wpList_append_run rfl _ _ 25 rfl rfl rfl r0 ?_) | fail)
 clear r0 x0 y0 f0 z0
 generalize w0.setCell ⟨w.heap.size,1,none⟩ (.slice a0 l0 c0) = W1 at *
 obtain ⟨q1,w1,r1,o1,g1⟩ := app_fresh okD (w.heap.size + 2) (box_new W1 #[] 41) (by have := XB1.out.lt; have := ZB1.out.lt; omega) ((R1.out.on B1.out).on (newB W1 (.cells #[] 41))) (by have := LL1.out; omega) 26
 obtain ⟨a1,c1,hv1⟩ := (Row.of_own o1).len
 obtain ⟨l1,hl1⟩ : ∃ n,n = (la).length := ⟨_,rfl⟩
 rw [← hl1] at hv1
 subst hv1
 have G1 := (newB W1 (.cells #[] 41)).trans (g1.mono (newB W1 (.cells #[] 41)).size)
 have X1a := XB1.out.on G1
 have x1 := (XB1.out.on (newB W1 (.cells #[] 41))).cell 2
 have y1 := X1a.cell 2
 have f1 := X1a.fr 2
 have z1 := X1a.lt
 simp only [List.getElem?_toArray,List.getElem?_cons_zero,List.getElem?_cons_succ] at x1 y1
 have XB2 := Lib.hid (show Box _ _ #[.int .i64 me,.slice a0 l0 c0,.slice a1 l1 c1,.slice so sn sc,.slice eo en ec,.slice oo on_ oc] _ from by simpa using box_set (k := 2) X1a (.slice a1 l1 c1))
 have ZB2 := Lib.hid (show Box _ _ _ _ from (RowKit.Below.heap_setCell w1 ⟨w.heap.size,2,none⟩ (.slice a1 l1 c1) _ (show w.heap.size + 1 ≠ w.heap.size by omega)).trans (ZB1.out.on G1))
 have B2 := Lib.hid (((B1.out.trans (G1.mono B1.out.size)).setCell (p := ⟨w.heap.size,2,none⟩) (Nat.le_refl _) (.slice a1 l1 c1)))
 have O2_0 := Lib.hid (own_cell (own_on O1_0.out G1) w.heap.size 2 (.slice a1 l1 c1) (by omega))
 have O2_1 := Lib.hid (own_cell o1 w.heap.size 2 (.slice a1 l1 c1) (by omega))
 clear X1a G1 o1 g1 hl1 XB1 ZB1 O1_0
 go_upto_region 3 with (first | (at_builtin; refine wpList_append_run rfl _ _ 26 rfl rfl rfl r1 ?_) | fail)
 clear r1 x1 y1 f1 z1
 generalize w1.setCell ⟨w.heap.size,2,none⟩ (.slice a1 l1 c1) = W2 at *
 obtain ⟨q2,w2,r2,o2,g2⟩ := app_fresh okJ (w.heap.size + 2) (box_new W2 #[] 38) (by have := XB2.out.lt; have := ZB2.out.lt; omega) ((R2.out.on B2.out).on (newB W2 (.cells #[] 38))) (by have := LL2.out; omega) 27
 obtain ⟨a2,c2,hv2⟩ := (Row.of_own o2).len
 obtain ⟨l2,hl2⟩ : ∃ n,n = (b.seen).length := ⟨_,rfl⟩
 rw [← hl2] at hv2
 subst hv2
 have G2 := (newB W2 (.cells #[] 38)).trans (g2.mono (newB W2 (.cells #[] 38)).size)
 have X2a := XB2.out.on G2
 have x2 := (XB2.out.on (newB W2 (.cells #[] 38))).cell 3
 have y2 := X2a.cell 3
 have f2 := X2a.fr 3
 have z2 := X2a.lt
 simp only [List.getElem?_toArray,List.getElem?_cons_zero,List.getElem?_cons_succ] at x2 y2
 have XB3 := Lib.hid (show Box _ _ #[.int .i64 me,.slice a0 l0 c0,.slice a1 l1 c1,.slice a2 l2 c2,.slice eo en ec,.slice oo on_ oc] _ from by simpa using box_set (k := 3) X2a (.slice a2 l2 c2))
 have ZB3 := Lib.hid (show Box _ _ _ _ from (RowKit.Below.heap_setCell w2 ⟨w.heap.size,3,none⟩ (.slice a2 l2 c2) _ (show w.heap.size + 1 ≠ w.heap.size by omega)).trans (ZB2.out.on G2))
 have B3 := Lib.hid (((B2.out.trans (G2.mono B2.out.size)).setCell (p := ⟨w.heap.size,3,none⟩) (Nat.le_refl _) (.slice a2 l2 c2)))
 have O3_0 := Lib.hid (own_cell (own_on O2_0.out G2) w.heap.size 3 (.slice a2 l2 c2) (by omega))
 have O3_1 := Lib.hid (own_cell (own_on O2_1.out G2) w.heap.size 3 (.slice a2 l2 c2) (by omega))
 have O3_2 := Lib.hid (own_cell o2 w.heap.size 3 (.slice a2 l2 c2) (by omega))
 clear X2a G2 o2 g2 hl2 XB2 ZB2 O2_0 O2_1
 go_upto_region 4 with (first | (at_builtin; refine wpList_append_run rfl _ _ 27 rfl rfl rfl r2 ?_) | fail)
 clear r2 x2 y2 f2 z2
 generalize w2.setCell ⟨w.heap.size,3,none⟩ (.slice a2 l2 c2) = W3 at *
 obtain ⟨q3,w3,r3,o3,g3⟩ := app_fresh okN (w.heap.size + 2) (box_new W3 #[] 43) (by have := XB3.out.lt; have := ZB3.out.lt; omega) ((R3.out.on B3.out).on (newB W3 (.cells #[] 43))) (by have := LL3.out; omega) 28
 obtain ⟨a3,c3,hv3⟩ := (Row.of_own o3).len
 obtain ⟨l3,hl3⟩ : ∃ n,n = (le).length := ⟨_,rfl⟩
 rw [← hl3] at hv3
 subst hv3
 have G3 := (newB W3 (.cells #[] 43)).trans (g3.mono (newB W3 (.cells #[] 43)).size)
 have X3a := XB3.out.on G3
 have x3 := (XB3.out.on (newB W3 (.cells #[] 43))).cell 4
 have y3 := X3a.cell 4
 have f3 := X3a.fr 4
 have z3 := X3a.lt
 simp only [List.getElem?_toArray,List.getElem?_cons_zero,List.getElem?_cons_succ] at x3 y3
 have XB4 := Lib.hid (show Box _ _ #[.int .i64 me,.slice a0 l0 c0,.slice a1 l1 c1,.slice a2 l2 c2,.slice a3 l3 c3,.slice oo on_ oc] _ from by simpa using box_set (k := 4) X3a (.slice a3 l3 c3))
 have ZB4 := Lib.hid (show Box _ _ _ _ from (RowKit.Below.heap_setCell w3 ⟨w.heap.size,4,none⟩ (.slice a3 l3 c3) _ (show w.heap.size + 1 ≠ w.heap.size by omega)).trans (ZB3.out.on G3))
 have B4 := Lib.hid (((B3.out.trans (G3.mono B3.out.size)).setCell (p := ⟨w.heap.size,4,none⟩) (Nat.le_refl _) (.slice a3 l3 c3)))
 have O4_0 := Lib.hid (own_cell (own_on O3_0.out G3) w.heap.size 4 (.slice a3 l3 c3) (by omega))
 have O4_1 := Lib.hid (own_cell (own_on O3_1.out G3) w.heap.size 4 (.slice a3 l3 c3) (by omega))
 have O4_2 := Lib.hid (own_cell (own_on O3_2.out G3) w.heap.size 4 (.slice a3 l3 c3) (by omega))
 have O4_3 := Lib.hid (own_cell o3 w.heap.size 4 (.slice a3 l3 c3) (by omega))
 clear X3a G3 o3 g3 hl3 XB3 ZB3 O3_0 O3_1 O3_2
 go_upto_region 5 with (first | (at_builtin; refine wpList_append_run rfl _ _ 28 rfl rfl rfl r3 ?_) | fail)
 clear r3 x3 y3 f3 z3
 generalize w3.setCell ⟨w.heap.size,4,none⟩ (.slice a3 l3 c3) = W4 at *
 obtain ⟨q4,w4,r4,o4,g4⟩ := app_fresh okW (w.heap.size + 2) (box_new W4 #[] 45) (by have := XB4.out.lt; have := ZB4.out.lt; omega) ((R4.out.on B4.out).on (newB W4 (.cells #[] 45))) (by have := LL4.out; omega) 29
 obtain ⟨a4,c4,hv4⟩ := (Row.of_own o4).len
 obtain ⟨l4,hl4⟩ : ∃ n,n = (lo_).length := ⟨_,rfl⟩
 rw [← hl4] at hv4
 subst hv4
 have G4 := (newB W4 (.cells #[] 45)).trans (g4.mono (newB W4 (.cells #[] 45)).size)
 have X4a := XB4.out.on G4
 have x4 := (XB4.out.on (newB W4 (.cells #[] 45))).cell 5
 have y4 := X4a.cell 5
 have f4 := X4a.fr 5
 have z4 := X4a.lt
 simp only [List.getElem?_toArray,List.getElem?_cons_zero,List.getElem?_cons_succ] at x4 y4
 have XB5 := Lib.hid (show Box _ _ #[.int .i64 me,.slice a0 l0 c0,.slice a1 l1 c1,.slice a2 l2 c2,.slice a3 l3 c3,.slice a4 l4 c4] _ from by simpa using box_set (k := 5) X4a (.slice a4 l4 c4))
 have ZB5 := Lib.hid (show Box _ _ _ _ from (RowKit.Below.heap_setCell w4 ⟨w.heap.size,5,none⟩ (.slice a4 l4 c4) _ (show w.heap.size + 1 ≠ w.heap.size by omega)).trans (ZB4.out.on G4))
 have B5 := Lib.hid (((B4.out.trans (G4.mono B4.out.size)).setCell (p := ⟨w.heap.size,5,none⟩) (Nat.le_refl _) (.slice a4 l4 c4)))
 have O5_0 := Lib.hid (own_cell (own_on O4_0.out G4) w.heap.size 5 (.slice a4 l4 c4) (by omega))
 have O5_1 := Lib.hid (own_cell (own_on O4_1.out G4) w.heap.size 5 (.slice a4 l4 c4) (by omega))
 have O5_2 := Lib.hid (own_cell (own_on O4_2.out G4) w.heap.size 5 (.slice a4 l4 c4) (by omega))
 have O5_3 := Lib.hid (own_cell (own_on O4_3.out G4) w.heap.size 5 (.slice a4 l4 c4) (by omega))
 have O5_4 := Lib.hid (own_cell o4 w.heap.size 5 (.slice a4 l4 c4) (by omega))
 clear X4a G4 o4 g4 hl4 XB4 ZB4 O4_0 O4_1 O4_2 O4_3
 go_upto_region 6 with (first | (at_builtin; refine wpList_append_run rfl _ _ 29 rfl rfl rfl r4 ?_) | fail)
 clear r4 x4 y4 f4 z4
 generalize w4.setCell ⟨w.heap.size,5,none⟩ (.slice a4 l4 c4) = W5 at *
 have X2a := XB5.out
 have X5a := ZB5.out
 obtain ⟨x0,x1,x2,x3,x4,x5⟩ := X2a.cs6
 obtain ⟨r0,r1,r2,r3,r4,r5⟩ := X5a.cs6
 obtain ⟨t0,t1,t2,t3,t4,t5⟩ := X5a.fs6
 have zz := X5a.lt
 have FB := Lib.hid (setB_box X5a (.int .i64 me) (.slice a0 l0 c0) (.slice a1 l1 c1) (.slice a2 l2 c2) (.slice a3 l3 c3) (.slice a4 l4 c4))
 have BL := Lib.hid (setB_below (b := w.heap.size + 1) B5.out (by omega) (.int .i64 me) (.slice a0 l0 c0) (.slice a1 l1 c1) (.slice a2 l2 c2) (.slice a3 l3 c3) (.slice a4 l4 c4))
 have F0 := Lib.hid (setB_ownA O5_0.out (w.heap.size + 1) (by omega) (.int .i64 me) (.slice a0 l0 c0) (.slice a1 l1 c1) (.slice a2 l2 c2) (.slice a3 l3 c3) (.slice a4 l4 c4))
 have F1 := Lib.hid (setB_ownA O5_1.out (w.heap.size + 1) (by omega) (.int .i64 me) (.slice a0 l0 c0) (.slice a1 l1 c1) (.slice a2 l2 c2) (.slice a3 l3 c3) (.slice a4 l4 c4))
 have F2 := Lib.hid (setB_ownA O5_2.out (w.heap.size + 1) (by omega) (.int .i64 me) (.slice a0 l0 c0) (.slice a1 l1 c1) (.slice a2 l2 c2) (.slice a3 l3 c3) (.slice a4 l4 c4))
 have F3 := Lib.hid (setB_ownA O5_3.out (w.heap.size + 1) (by omega) (.int .i64 me) (.slice a0 l0 c0) (.slice a1 l1 c1) (.slice a2 l2 c2) (.slice a3 l3 c3) (.slice a4 l4 c4))
 have F4 := Lib.hid (setB_ownA O5_4.out (w.heap.size + 1) (by omega) (.int .i64 me) (.slice a0 l0 c0) (.slice a1 l1 c1) (.slice a2 l2 c2) (.slice a3 l3 c3) (.slice a4 l4 c4))
 clear X2a X5a
 go_wp2_with fail
 obtain ⟨v0,v1,v2,v3,v4,v5⟩ := FB.out.cs6
 refine bodyPost_ret (v := .agg #[.int .i64 me,.slice a0 l0 c0,.slice a1 l1 c1,.slice a2 l2 c2,.slice a3 l3 c3,.slice a4 l4 c4]) (by simp [results,Tryz.results9,go_sem,v0,v1,v2,v3,v4,v5]) rfl ?_
 exact ⟨⟨(a0,l0,c0),(a1,l1,c1),(a2,l2,c2),(a3,l3,c3),(a4,l4,c4),rfl,own_fewer F0.out (by omega),⟨la,own_fewer F1.out (by omega),HA.out⟩,own_fewer F2.out (by omega),⟨le,own_fewer F3.out (by omega),HE.out⟩,⟨lo_,own_fewer F4.out (by omega),HO.out⟩⟩,BL.out⟩
end Go.Proofs.YtncogjpmboglhaaGreat.Bk
namespace Go.Proofs.YtncogjpmboglhaaGreat.Av
open Go.RowKit Go.ChangeShapes Go.WideShapes Bk
theorem trodSt {H : Type} {enc : TypeId × Value → H} {W : World} {sp : Nat → Bool} {held : Bool} {fuel : Nat} {g1 : Value} {x : DataW H × List MemPlace}
  (hf : DataW.trod enc Tryz.prog W 0 sp held fuel 22 [g1] = some x) : ∃ n : Nat,n ≤ maxLen ∧ InSt W g1 n := by
 rcases Deep.open_slice Tryz.underlying22 hf with ⟨h1,_⟩ | ⟨a,len,cap,m,n,D,Pl,h1,_,h3,h4,h5,_,hx⟩
 ·have e : g1 = .slice none 0 0 := by simpa using h1
  exact ⟨0,Nat.zero_le _,⟨none,0,e⟩,fun i hi => by omega⟩
 ·have e : g1 = .slice (some a) len cap := by simpa using h1
  rw [e]
  have hle : len ≤ m := by rw [h5]; split <;> omega
  refine ⟨len,by omega,⟨some a,cap,rfl⟩,fun i hi => ?_⟩
  obtain ⟨cs',k1,k2⟩ := hx i (by omega)
  obtain ⟨xs,n',_,_,hcl,hxl,hy⟩ := DataW.trod_struct Tryz.underlying74 k2
  rw [cellsSt] at hcl k1
  match cs',hcl with
  | [c0,c1,c2,c3,c4,c5,d1],_ =>
   have f0 : DataW.trod enc Tryz.prog W 0 sp held n' 3 (([c0,c1,c2,c3,c4,c5,d1].drop 0).take (Tryz.prog.cellsOf 3)) = xs[0]? := hy 0 _ rfl
   have f1 : DataW.trod enc Tryz.prog W 0 sp held n' 3 (([c0,c1,c2,c3,c4,c5,d1].drop 1).take (Tryz.prog.cellsOf 3)) = xs[1]? := hy 1 _ rfl
   have f2 : DataW.trod enc Tryz.prog W 0 sp held n' 3 (([c0,c1,c2,c3,c4,c5,d1].drop 2).take (Tryz.prog.cellsOf 3)) = xs[2]? := hy 2 _ rfl
   have f3 : DataW.trod enc Tryz.prog W 0 sp held n' 3 (([c0,c1,c2,c3,c4,c5,d1].drop 3).take (Tryz.prog.cellsOf 3)) = xs[3]? := hy 3 _ rfl
   have f4 : DataW.trod enc Tryz.prog W 0 sp held n' 3 (([c0,c1,c2,c3,c4,c5,d1].drop 4).take (Tryz.prog.cellsOf 3)) = xs[4]? := hy 4 _ rfl
   have fp : DataW.trod enc Tryz.prog W 0 sp held n' 53 (([c0,c1,c2,c3,c4,c5,d1].drop 5).take (Tryz.prog.cellsOf 53)) = xs[5]? := hy 5 _ rfl
   have hxl' : xs.length = 5 + 1 := hxl
   simp only [In.cellsI,Pr.cellsP,List.drop_zero,List.drop_succ_cons,List.take_succ_cons,List.take_zero] at f0 f1 f2 f3 f4 fp
   rw [List.getElem?_eq_getElem (by omega)] at f0 f1 f2 f3 f4 fp
   obtain ⟨m0,e0,_,w0⟩ := DataW.trod_int Tryz.underlying3 f0
   obtain ⟨m1,e1,_,w1⟩ := DataW.trod_int Tryz.underlying3 f1
   obtain ⟨m2,e2,_,w2⟩ := DataW.trod_int Tryz.underlying3 f2
   obtain ⟨m3,e3,_,w3⟩ := DataW.trod_int Tryz.underlying3 f3
   obtain ⟨m4,e4,_,w4⟩ := DataW.trod_int Tryz.underlying3 f4
   simp only [List.cons.injEq,and_true] at e0 e1 e2 e3 e4
   subst e0 e1 e2 e3 e4
   obtain ⟨ys,n2,_,_,_,hyl,hp⟩ := DataW.trod_struct Tryz.underlying53 fp
   have hyl' : ys.length = 2 := hyl
   have q0 : DataW.trod enc Tryz.prog W 0 sp held n2 25 (([c5,d1].drop 0).take (Tryz.prog.cellsOf 25)) = ys[0]? := hp 0 _ rfl
   have q1 : DataW.trod enc Tryz.prog W 0 sp held n2 25 (([c5,d1].drop 1).take (Tryz.prog.cellsOf 25)) = ys[1]? := hp 1 _ rfl
   simp only [Pr.cellsIs,List.drop_zero,List.drop_succ_cons,List.take_succ_cons,List.take_zero] at q0 q1
   rw [List.getElem?_eq_getElem (by omega)] at q0 q1
   obtain ⟨has,l1,i1⟩ := In.in_trod q0
   obtain ⟨vals,l2,i2⟩ := In.in_trod q1
   obtain ⟨x1,y1,rfl⟩ := i1.shape
   obtain ⟨x2,y2,rfl⟩ := i2.shape
   obtain ⟨_,_,k3⟩ := World.cells?_some k1
   have k0 := k3 0 (by decide)
   rw [Rw.add_zero] at k0
   refine ⟨a.add (i * 7),m0,m1,m2,m3,m4,x1,_,y1,x2,_,y2,has,vals,World.block_lt_of_cell? W _ k0,fun w => indexSt a i len cap hi w,fun j u hu => ?_,⟨In.lits_bd w0,In.lits_bd w1,In.lits_bd w2,In.lits_bd w3,In.lits_bd w4⟩,i1,i2,l1,l2⟩
   have hj : j < 7 := (List.getElem?_eq_some_iff.1 hu).1
   rw [← hu]
   exact k3 j hj
theorem cellsBrK : Tryz.prog.cellsOf 24 = 2 := by kernel_rfl
theorem cellsSts : Tryz.prog.cellsOf 22 = 1 := by kernel_rfl
theorem litBdA {n : Int} (h : (Lit.int .i64 n).wf = true) : -9223372036854775808 ≤ n ∧ n ≤ 9223372036854775807 := by
 have h2 : (decide (IntKind.i64.min ≤ n) && decide (n ≤ IntKind.i64.max)) = true := h
 rw [Bool.and_eq_true,decide_eq_true_eq,decide_eq_true_eq,show IntKind.i64.min = -9223372036854775808 by decide,show IntKind.i64.max = 9223372036854775807 by decide] at h2
 exact h2
theorem open_brk {H : Type} {enc : TypeId × Value → H} {W : World} {r : Reach} {b0 : Nat} {sp : Nat → Bool} {held : Bool} {v : Value} {d : DataW H} {ps : List MemPlace}
  (hval : Value.okWide Tryz.prog W r b0 24 v) (hd : DataW.Trod enc Tryz.prog W 0 sp held 24 v d ps) :
  ∃ (zn : Int) (u : Value) (n : Nat),v = .agg #[.int .i64 zn,u] ∧ -9223372036854775808 ≤ zn ∧ zn ≤ 9223372036854775807 ∧ n ≤ maxLen ∧ InSt W u n := by
 obtain ⟨cs,rfl,hsz⟩ := okWide_struct Tryz.underlying24 hval
 obtain ⟨fuel,hf⟩ := hd
 obtain ⟨xs,n,_,_,_,hxl,hx⟩ := DataW.trod_struct Tryz.underlying24 hf
 rw [cellsBrK] at hsz
 obtain ⟨l⟩ := cs
 match l,hsz with
 | [c0,c1],_ =>
  have f0 : DataW.trod enc Tryz.prog W 0 sp held n 3 (([c0,c1].drop 0).take (Tryz.prog.cellsOf 3)) = xs[0]? := hx 0 _ rfl
  have f1 : DataW.trod enc Tryz.prog W 0 sp held n 22 (([c0,c1].drop 1).take (Tryz.prog.cellsOf 22)) = xs[1]? := hx 1 _ rfl
  have hxl' : xs.length = 2 := hxl
  simp only [In.cellsI,cellsSts,List.drop_zero,List.drop_succ_cons,List.take_succ_cons,List.take_zero] at f0 f1
  rw [List.getElem?_eq_getElem (by omega)] at f0 f1
  obtain ⟨m0,e0,_,w0⟩ := DataW.trod_int Tryz.underlying3 f0
  simp only [List.cons.injEq,and_true] at e0
  subst e0
  obtain ⟨k,h1,h2⟩ := trodSt f1
  exact ⟨m0,c1,k,rfl,(litBdA w0).1,(litBdA w0).2,h1,h2⟩
end Go.Proofs.YtncogjpmboglhaaGreat.Av
