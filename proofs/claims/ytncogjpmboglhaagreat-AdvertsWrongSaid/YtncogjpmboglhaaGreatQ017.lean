/-
  The region of Learn that puts an ID into its place. Conditions as told.
-/
import Derived.Test.YtncogjpmboglhaaGreatQ007
import Derived.Test.YtncogjpmboglhaaGreatQ012
import Derived.Test.YtncogjpmboglhaaGreatQ011
import Derived.Deep.RegionLaw
import Derived.Laws.Cover3
set_option maxRecDepth 100000
set_option maxHeartbeats 64000000
namespace Go.Proofs.YtncogjpmboglhaaGreat.Bk
open Go.RowKit Rw YtncogjpmboglhaaGreat.Nm Pr
def ins6V (B b2 b3 : Nat) (so : Option Addr) (sn sc at_ : Nat) (lo hiv : Value) (z : XID) (lt ld : List XID) (i : Nat) (v : Value) (x : World) : Prop :=
 match i with
 | 0 => ∃ g,v = .slice (some ⟨g,0,none⟩) 0 0 ∧ B ≤ g ∧ Box x g #[] 38
 | 1 => v = .pointer (some ⟨b2,3,none⟩)
 | 2 => v = .slice so sn sc
 | 3 => v = .int .i64 (at_ : Int)
 | 4 => v = lo
 | 5 => OwnJ x B v lt
 | 6 => v = .pointer (some ⟨b3,0,none⟩)
 | 7 => v = valJ z
 | 8 => OwnJ x B v [z]
 | 9 => OwnJ x B v (lt ++ [z])
 | 10 => v = .pointer (some ⟨b2,3,none⟩)
 | 11 => v = .slice so sn sc
 | 12 => v = .int .i64 (at_ : Int)
 | 13 => v = hiv
 | 14 => OwnJ x B v (lt ++ [z] ++ ld)
 | 15 => v = .pointer (some ⟨b2,3,none⟩)
 | _ => True
noncomputable def insR6 : Code := ((Tryz.f22.body.bind (findRegion 6)).getD .skip)
theorem ins6V_on (B b2 b3 : Nat) (so : Option Addr) (sn sc at_ : Nat) (lo hiv : Value) (z : XID) (lt ld : List XID) (i : Nat) (v : Value) (x x' : World) (h : ins6V B b2 b3 so sn sc at_ lo hiv z lt ld i v x) (hb : Below x.heap.size x x') : ins6V B b2 b3 so sn sc at_ lo hiv z lt ld i v x' := by
 by_cases hi : i < 16
 ·rcases (by omega : i = 0 ∨ i = 1 ∨ i = 2 ∨ i = 3 ∨ i = 4 ∨ i = 5 ∨ i = 6 ∨ i = 7 ∨ i = 8 ∨ i = 9 ∨ i = 10 ∨ i = 11 ∨ i = 12 ∨ i = 13 ∨ i = 14 ∨ i = 15) with rfl | rfl | rfl | rfl | rfl | rfl | rfl | rfl | rfl | rfl | rfl | rfl | rfl | rfl | rfl | rfl
  ·obtain ⟨g,h1,h2,h3⟩ := h
   exact ⟨g,h1,h2,h3.on hb⟩
  ·exact h
  ·exact h
  ·exact h
  ·exact h
  ·exact own_on h hb
  ·exact h
  ·exact h
  ·exact own_on h hb
  ·exact own_on h hb
  ·exact h
  ·exact h
  ·exact h
  ·exact h
  ·exact own_on h hb
  ·exact h
 ·unfold ins6V
  split <;> first | omega | trivial
theorem ins6 (Q : Exit → Act → World → Prop) (W : World) (b2 b3 : Nat) (me : Int) (y1 y2 y4 y5 : Value) (so : Option Addr) (sn sc at_ : Nat) (l : List XID) (z : XID) (u0 u1 u4 u5 u7 u8 u9 u10 u11 u12 u13 u14 u15 u16 u17 u18 u19 u20 u21 u22 u23 u24 u25 u26 u27 u28 u29 u30 u31 u32 u33 u34 u35 u36 u37 u38 u39 u40 u41 u42 u43 u44 u45 u46 u47 u48 u49 u50 u51 u52 u53 u54 u55 u56 u57 u58 u59 u60 u61 u62 u63 u64 u65 u66 u67 u68 u69 u70 u71 u72 u73 u74 u75 u76 u77 u78 : Value)
  (h2 : Box W b2 #[.int .i64 me,y1,y2,.slice so sn sc,y4,y5] 31) (hx : ∀ x,Below W.heap.size W x → ∀ j u,(cellsJ z)[j]? = some u → x.cell? ((⟨b3,0,none⟩ : Addr).add j) = some u) (hs : RowJ W (.slice so sn sc) l) (hat : at_ ≤ l.length) (hlen : l.length ≤ 900)
  (hQ : ∀ (x : World) (v29 v30 v31 v32 v33 v34 v35 v36 v37 v38 v39 v40 v41 v42 v43 v44 : Value),Box x b2 #[.int .i64 me,y1,y2,v43,y4,y5] 31 → OwnJ x W.heap.size v43 (l.take at_ ++ [z] ++ l.drop at_) → (∀ B,B ≤ b2 → Below B W x) → (∀ c cs t,c ≠ b2 → Box W c cs t → Box x c cs t) → (∀ k,k < W.heap.size → k ≠ b2 → x.heap[k]? = W.heap[k]?) → Q .normal ⟨(u0 :: u1 :: .pointer (some ⟨b2,0,none⟩) :: .pointer (some ⟨b3,0,none⟩) :: u4 :: u5 :: .int .i64 (at_ : Int) :: u7 :: u8 :: u9 :: u10 :: u11 :: u12 :: u13 :: u14 :: u15 :: u16 :: u17 :: u18 :: u19 :: u20 :: u21 :: u22 :: u23 :: u24 :: u25 :: u26 :: u27 :: u28 :: v29 :: v30 :: v31 :: v32 :: v33 :: v34 :: v35 :: v36 :: v37 :: v38 :: v39 :: v40 :: v41 :: v42 :: v43 :: v44 :: u45 :: u46 :: u47 :: u48 :: u49 :: u50 :: u51 :: u52 :: u53 :: u54 :: u55 :: u56 :: u57 :: u58 :: u59 :: u60 :: u61 :: u62 :: u63 :: u64 :: u65 :: u66 :: u67 :: u68 :: u69 :: u70 :: u71 :: u72 :: u73 :: u74 :: u75 :: u76 :: u77 :: u78 :: []).toArray,[]⟩ x) :
  Code.wp Tryz.prog insR6 Q ⟨(u0 :: u1 :: .pointer (some ⟨b2,0,none⟩) :: .pointer (some ⟨b3,0,none⟩) :: u4 :: u5 :: .int .i64 (at_ : Int) :: u7 :: u8 :: u9 :: u10 :: u11 :: u12 :: u13 :: u14 :: u15 :: u16 :: u17 :: u18 :: u19 :: u20 :: u21 :: u22 :: u23 :: u24 :: u25 :: u26 :: u27 :: u28 :: u29 :: u30 :: u31 :: u32 :: u33 :: u34 :: u35 :: u36 :: u37 :: u38 :: u39 :: u40 :: u41 :: u42 :: u43 :: u44 :: u45 :: u46 :: u47 :: u48 :: u49 :: u50 :: u51 :: u52 :: u53 :: u54 :: u55 :: u56 :: u57 :: u58 :: u59 :: u60 :: u61 :: u62 :: u63 :: u64 :: u65 :: u66 :: u67 :: u68 :: u69 :: u70 :: u71 :: u72 :: u73 :: u74 :: u75 :: u76 :: u77 :: u78 :: []).toArray,[]⟩ W := by
 have HQ := Lib.hid hQ
 have H2 := Lib.hid h2
 have LX := Lib.hid hx
 obtain ⟨lo,slo,rlo⟩ := row_lo okJ hs at_ (by omega)
 obtain ⟨hiv,shi,rhi⟩ := row_hi okJ hs (at_) hat
 have LT := Lib.hid (show (l.take at_).length ≤ 1000 by rw [List.length_take]; omega)
 have LTD := Lib.hid (show (l.take at_).length ≤ 900 by rw [List.length_take]; omega)
 have LD := Lib.hid (show (l.drop (at_)).length ≤ 1000 by rw [List.length_drop]; omega)
 generalize l.take at_ = lt at *
 generalize l.drop (at_) = ld at *
 have SL := Lib.hid slo
 have SH := Lib.hid shi
 have RL := Lib.hid rlo
 have RH := Lib.hid rhi
 clear hQ h2 hx hs slo shi rlo rhi hat hlen
 have stab := ins6V_on W.heap.size b2 b3 so sn sc at_ lo hiv z lt ld
 unfold insR6
 conv => arg 2; whnf
 have nd : ∀ j,(j < 29 ∨ 45 ≤ j) → ∀ i,i < 16 → (fun i => 29 + i) i ≠ j := by
  intro j hj i hi h
  simp only at h
  omega
 refine Rg.region_live 17 16 (fun i => 29 + i) (fun i => if i = 0 then 5 else if i = 5 then 9 else if i = 8 then 9 else if i = 9 then 14 else 16) (ins6V W.heap.size b2 b3 so sn sc at_ lo hiv z lt ld) (by kernel_rfl) (by kernel_rfl) rfl (by decide) (fun i j _ _ h => by have h2 : 29 + i = 29 + j := h; omega) (fun i hi => by show 29 + i < 79; omega) ?_ (fun _ => Rg.hall_of 1 (by kernel_rfl)) (fun kk o h1 h2 => by omega) ?_
 ·intro i o hi ho a x D hnd hc hD hb seen K hK
  clear HQ
  rcases (by omega : i = 0 ∨ i = 1 ∨ i = 2 ∨ i = 3 ∨ i = 4 ∨ i = 5 ∨ i = 6 ∨ i = 7 ∨ i = 8 ∨ i = 9 ∨ i = 10 ∨ i = 11 ∨ i = 12 ∨ i = 13 ∨ i = 14 ∨ i = 15) with rfl | rfl | rfl | rfl | rfl | rfl | rfl | rfl | rfl | rfl | rfl | rfl | rfl | rfl | rfl | rfl
  ·obtain rfl := Option.some.inj ho
   exact Rg.op_value rfl rfl (Rg.ex_build a.eval _ 27 0 #[] rfl rfl (by simp [go_sem])) (hK (.slice (some ⟨x.heap.size,0,none⟩) 0 0) (x.alloc (.cells #[] 38)) ⟨x.heap.size,rfl,hb.size,box_new x #[] 38⟩ ((Below.refl _ _).alloc hb.size _) fun j u _ _ _ _ _ h => stab j u _ _ h ((Below.refl _ _).alloc (Nat.le_refl _) _))
  ·obtain rfl := Option.some.inj ho
   have e2 : a.eval (.tmp 2) = .pointer (some ⟨b2,0,none⟩) := seen.kp 2 _ (nd 2 (by omega)) rfl
   exact Rg.op_value rfl rfl (Rg.ex_field a.eval _ 31 (.tmp 2) 3 rfl (by rw [e2]; simp [go_sem])) (hK _ _ rfl (Below.refl _ _) fun _ _ _ _ _ _ _ h => h)
  ·obtain rfl := Option.some.inj ho
   have e30 : a.eval (.tmp 30) = .pointer (some ⟨b2,3,none⟩) := seen.at_ ⟨1,.data⟩ (by simp) rfl (Or.inr (by decide))
   have y := (H2.out.on hb).cell 3
   simp only [List.getElem?_toArray,List.getElem?_cons_zero,List.getElem?_cons_succ] at y
   exact Rg.op_value rfl rfl (Rg.ex_load a.eval _ 27 (.tmp 30) rfl (by rw [e30]; simp [go_sem,y])) (hK _ _ rfl (Below.refl _ _) fun _ _ _ _ _ _ _ h => h)
  ·obtain rfl := Option.some.inj ho
   have e6 : a.eval (.tmp 6) = .int .i64 (at_ : Int) := seen.kp 6 _ (nd 6 (by omega)) rfl
   exact Rg.op_value rfl rfl (Rg.ex_move a.eval _ (.tmp 6) rfl x) (hK _ _ e6 (Below.refl _ _) fun _ _ _ _ _ _ _ h => h)
  ·obtain rfl := Option.some.inj ho
   have e31 : a.eval (.tmp 31) = .slice so sn sc := seen.at_ ⟨2,.data⟩ (by simp) rfl (Or.inr (by decide))
   have e32 : a.eval (.tmp 32) = .int .i64 (at_ : Int) := seen.at_ ⟨3,.data⟩ (by simp) rfl (Or.inr (by decide))
   exact Rg.op_value rfl rfl (Rg.ex_slice a.eval _ 27 (.tmp 31) none (some (.tmp 32)) none rfl (by show (Instr.sliceAt 27 (a.eval (.tmp 31)) none (some (a.eval (.tmp 32))) none).run Tryz.prog x = .ok lo x; rw [e31,e32]; exact SL.out x)) (hK _ _ rfl (Below.refl _ _) fun _ _ _ _ _ _ _ h => h)
  ·obtain rfl := Option.some.inj ho
   obtain ⟨g,q0,hBg,hbx⟩ := seen.at_ ⟨0,.data⟩ (by simp) rfl (Or.inl rfl)
   have q0 : a.eval (.tmp 29) = .slice (some ⟨g,0,none⟩) 0 0 := q0
   have e33 : a.eval (.tmp 33) = lo := seen.at_ ⟨4,.data⟩ (by simp) rfl (Or.inr (by decide))
   obtain ⟨v',x',r,o',gr⟩ := app_fresh okJ W.heap.size hbx hBg (RL.out.on hb) LT.out 27
   exact Rg.op_value rfl rfl (Rg.ex_append a.eval _ (.tmp 29) (.tmp 33) 27 rfl q0 e33 r) (hK v' x' o' (gr.mono hb.size) fun j u _ _ _ _ _ h => stab j u _ _ h gr)
  ·obtain rfl := Option.some.inj ho
   have e3 : a.eval (.tmp 3) = .pointer (some ⟨b3,0,none⟩) := seen.kp 3 _ (nd 3 (by omega)) rfl
   exact Rg.op_value rfl rfl (Rg.ex_field a.eval _ 41 (.tmp 3) 0 rfl (by rw [e3]; simp [go_sem])) (hK _ _ rfl (Below.refl _ _) fun _ _ _ _ _ _ _ h => h)
  ·obtain rfl := Option.some.inj ho
   have e35 : a.eval (.tmp 35) = .pointer (some ⟨b3,0,none⟩) := seen.at_ ⟨6,.data⟩ (by simp) rfl (Or.inr (by decide))
   exact Rg.op_value rfl rfl (Rg.ex_load a.eval _ 38 (.tmp 35) rfl (by rw [e35]; exact loadJ x _ z (LX.out x hb))) (hK _ _ rfl (Below.refl _ _) fun _ _ _ _ _ _ _ h => h)
  ·obtain rfl := Option.some.inj ho
   have e36 : a.eval (.tmp 36) = valJ z := seen.at_ ⟨7,.data⟩ (by simp) rfl (Or.inr (by decide))
   have hl := row_lit okJ x [z] 1 rfl (by simp) (cellsJ z).toArray (by simp [flat,EJ])
   have hl : OwnJ (x.alloc (.cells (cellsJ z).toArray 38)) x.heap.size (.slice (some ⟨x.heap.size,0,none⟩) 1 1) [z] := hl
   exact Rg.op_value rfl rfl (Rg.ex_build a.eval _ 27 1 #[(0,.tmp 36)] rfl (ps := #[(0,valJ z)]) (by simp [e36]) (by simp [go_sem])) (hK (.slice (some ⟨x.heap.size,0,none⟩) 1 1) (x.alloc (.cells (cellsJ z).toArray 38)) (own_fewer hl hb.size) ((Below.refl _ _).alloc hb.size _) fun j u _ _ _ _ _ h => stab j u _ _ h ((Below.refl _ _).alloc (Nat.le_refl _) _))
  ·obtain rfl := Option.some.inj ho
   have o34 : OwnJ x W.heap.size (a.eval (.tmp 34)) (lt) := seen.at_ ⟨5,.data⟩ (by simp) rfl (Or.inl rfl)
   have o37 : OwnJ x W.heap.size (a.eval (.tmp 37)) ([z]) := seen.at_ ⟨8,.data⟩ (by simp) rfl (Or.inl rfl)
   have ox := Row.of_own o37
   obtain ⟨v',x',r,o',gr⟩ := app_row okJ W.heap.size o34 ox (by have := LT.out; omega) (by simp) hb.size 27
   exact Rg.op_value rfl rfl (Rg.ex_append a.eval _ (.tmp 34) (.tmp 37) 27 rfl rfl rfl r) (hK v' x' o' ((Below.refl _ x).grown gr hb.size fun j hj => (o34.lt j hj).1) fun j u hj dj nl nx ni h => by
    rcases (by omega : j = 0 ∨ j = 1 ∨ j = 2 ∨ j = 3 ∨ j = 4 ∨ j = 5 ∨ j = 6 ∨ j = 7 ∨ j = 8 ∨ j = 9 ∨ j = 10 ∨ j = 11 ∨ j = 12 ∨ j = 13 ∨ j = 14 ∨ j = 15) with rfl | rfl | rfl | rfl | rfl | rfl | rfl | rfl | rfl | rfl | rfl | rfl | rfl | rfl | rfl | rfl
    ·exact absurd rfl (fun _ : (0 : Nat) = 0 => nl (hc 5 _ (hD ⟨5,.data⟩ (by simp) rfl) rfl ⟨0,.data⟩ (by simp) rfl |> fun _ => hD ⟨5,.data⟩ (by simp) rfl))
    ·exact h
    ·exact h
    ·exact h
    ·exact h
    ·exact absurd rfl (fun _ : (0 : Nat) = 0 => nx rfl)
    ·exact h
    ·exact h
    ·exact absurd rfl (fun _ : (0 : Nat) = 0 => nx rfl)
    ·exact absurd rfl (fun _ : (0 : Nat) = 0 => ni rfl)
    ·exact h
    ·exact h
    ·exact h
    ·exact h
    ·exact absurd rfl (fun _ : (0 : Nat) = 0 => hnd (hc 14 _ dj rfl ⟨9,.data⟩ (by simp) rfl))
    ·exact h)
  ·obtain rfl := Option.some.inj ho
   have e2 : a.eval (.tmp 2) = .pointer (some ⟨b2,0,none⟩) := seen.kp 2 _ (nd 2 (by omega)) rfl
   exact Rg.op_value rfl rfl (Rg.ex_field a.eval _ 31 (.tmp 2) 3 rfl (by rw [e2]; simp [go_sem])) (hK _ _ rfl (Below.refl _ _) fun _ _ _ _ _ _ _ h => h)
  ·obtain rfl := Option.some.inj ho
   have e39 : a.eval (.tmp 39) = .pointer (some ⟨b2,3,none⟩) := seen.at_ ⟨10,.data⟩ (by simp) rfl (Or.inr (by decide))
   have y := (H2.out.on hb).cell 3
   simp only [List.getElem?_toArray,List.getElem?_cons_zero,List.getElem?_cons_succ] at y
   exact Rg.op_value rfl rfl (Rg.ex_load a.eval _ 27 (.tmp 39) rfl (by rw [e39]; simp [go_sem,y])) (hK _ _ rfl (Below.refl _ _) fun _ _ _ _ _ _ _ h => h)
  ·obtain rfl := Option.some.inj ho
   have e6 : a.eval (.tmp 6) = .int .i64 (at_ : Int) := seen.kp 6 _ (nd 6 (by omega)) rfl
   exact Rg.op_value rfl rfl (Rg.ex_move a.eval _ (.tmp 6) rfl x) (hK _ _ e6 (Below.refl _ _) fun _ _ _ _ _ _ _ h => h)
  ·obtain rfl := Option.some.inj ho
   have e40 : a.eval (.tmp 40) = .slice so sn sc := seen.at_ ⟨11,.data⟩ (by simp) rfl (Or.inr (by decide))
   have e41 : a.eval (.tmp 41) = .int .i64 (at_ : Int) := seen.at_ ⟨12,.data⟩ (by simp) rfl (Or.inr (by decide))
   exact Rg.op_value rfl rfl (Rg.ex_slice a.eval _ 27 (.tmp 40) (some (.tmp 41)) none none rfl (by show (Instr.sliceAt 27 (a.eval (.tmp 40)) (some (a.eval (.tmp 41))) none none).run Tryz.prog x = .ok hiv x; rw [e40,e41]; exact SH.out x)) (hK _ _ rfl (Below.refl _ _) fun _ _ _ _ _ _ _ h => h)
  ·obtain rfl := Option.some.inj ho
   have o38 : OwnJ x W.heap.size (a.eval (.tmp 38)) ((lt ++ [z])) := seen.at_ ⟨9,.data⟩ (by simp) rfl (Or.inl rfl)
   have e42 : a.eval (.tmp 42) = hiv := seen.at_ ⟨13,.data⟩ (by simp) rfl (Or.inr (by decide))
   have ox : RowJ x (a.eval (.tmp 42)) ld := by rw [e42]; exact RH.out.on hb
   obtain ⟨v',x',r,o',gr⟩ := app_row okJ W.heap.size o38 ox (by have := LTD.out; rw [List.length_append,List.length_singleton]; omega) LD.out hb.size 27
   exact Rg.op_value rfl rfl (Rg.ex_append a.eval _ (.tmp 38) (.tmp 42) 27 rfl rfl rfl r) (hK v' x' o' ((Below.refl _ x).grown gr hb.size fun j hj => (o38.lt j hj).1) fun j u hj dj nl nx ni h => by
    rcases (by omega : j = 0 ∨ j = 1 ∨ j = 2 ∨ j = 3 ∨ j = 4 ∨ j = 5 ∨ j = 6 ∨ j = 7 ∨ j = 8 ∨ j = 9 ∨ j = 10 ∨ j = 11 ∨ j = 12 ∨ j = 13 ∨ j = 14 ∨ j = 15) with rfl | rfl | rfl | rfl | rfl | rfl | rfl | rfl | rfl | rfl | rfl | rfl | rfl | rfl | rfl | rfl
    ·exact absurd rfl (fun _ : (0 : Nat) = 0 => nl (hc 9 _ (hD ⟨9,.data⟩ (by simp) rfl) rfl ⟨5,.data⟩ (by simp) rfl))
    ·exact h
    ·exact h
    ·exact h
    ·exact h
    ·exact absurd rfl (fun _ : (0 : Nat) = 0 => nl (hD ⟨9,.data⟩ (by simp) rfl))
    ·exact h
    ·exact h
    ·exact absurd rfl (fun _ : (0 : Nat) = 0 => nl (hD ⟨9,.data⟩ (by simp) rfl))
    ·exact absurd rfl (fun _ : (0 : Nat) = 0 => nx rfl)
    ·exact h
    ·exact h
    ·exact h
    ·exact h
    ·exact absurd rfl (fun _ : (0 : Nat) = 0 => ni rfl)
    ·exact h)
  ·obtain rfl := Option.some.inj ho
   have e2 : a.eval (.tmp 2) = .pointer (some ⟨b2,0,none⟩) := seen.kp 2 _ (nd 2 (by omega)) rfl
   exact Rg.op_value rfl rfl (Rg.ex_field a.eval _ 31 (.tmp 2) 3 rfl (by rw [e2]; simp [go_sem])) (hK _ _ rfl (Below.refl _ _) fun _ _ _ _ _ _ _ h => h)
 ·intro a w' df sz kp ⟨vs,hv⟩ hb
  have gr : a.tmps[43]? = some (vs 14) := (hv 14 (by omega)).1
  have gp : a.tmps[44]? = some (.pointer (some ⟨b2,3,none⟩)) := by
   have h : vs 15 = .pointer (some ⟨b2,3,none⟩) := (hv 15 (by omega)).2 (by decide)
   rw [← h]
   exact (hv 15 (by omega)).1
  have oR : OwnJ w' W.heap.size (vs 14) (lt ++ [z] ++ ld) := (hv 14 (by omega)).2 (by decide)
  generalize vs 14 = xR at *
  obtain ⟨ca,cp,eR⟩ := (Row.of_own oR).len
  have hbx := H2.out.on hb
  have hblt := H2.out.lt
  have c5 := hbx.cell 3
  have f5 := hbx.fr 3
  simp only [List.getElem?_toArray,List.getElem?_cons_zero,List.getElem?_cons_succ] at c5
  have hb1 := box_set (k := 3) hbx xR
  show Rg.SeqFrom _ _ _ 1 16 a w'
  simp only [Rg.SeqFrom]
  refine Rg.op_store 27 (.tmp 44) (.tmp 43) rfl rfl rfl rfl (Rg.eval_some gp) (Rg.eval_some gr) (w' := w'.setCell ⟨b2,3,none⟩ xR) (by rw [eR]; simp [go_sem,c5,f5]) ?_
  have kp2 : ∀ j,(j < 29 ∨ 45 ≤ j) → a.tmps[j]? = (u0 :: u1 :: .pointer (some ⟨b2,0,none⟩) :: .pointer (some ⟨b3,0,none⟩) :: u4 :: u5 :: .int .i64 (at_ : Int) :: u7 :: u8 :: u9 :: u10 :: u11 :: u12 :: u13 :: u14 :: u15 :: u16 :: u17 :: u18 :: u19 :: u20 :: u21 :: u22 :: u23 :: u24 :: u25 :: u26 :: u27 :: u28 :: u29 :: u30 :: u31 :: u32 :: u33 :: u34 :: u35 :: u36 :: u37 :: u38 :: u39 :: u40 :: u41 :: u42 :: u43 :: u44 :: u45 :: u46 :: u47 :: u48 :: u49 :: u50 :: u51 :: u52 :: u53 :: u54 :: u55 :: u56 :: u57 :: u58 :: u59 :: u60 :: u61 :: u62 :: u63 :: u64 :: u65 :: u66 :: u67 :: u68 :: u69 :: u70 :: u71 :: u72 :: u73 :: u74 :: u75 :: u76 :: u77 :: u78 :: [])[j]? := fun j hj => (kp j (nd j hj)).trans List.getElem?_toArray
  obtain ⟨mid,hmid,rfl⟩ := Rg.frame_mid 29 16 df sz (by simp) kp2
  match mid,hmid with
  | [v29,v30,v31,v32,v33,v34,v35,v36,v37,v38,v39,v40,v41,v42,v43,v44],_ =>
   have e1 : some v43 = some xR := gr
   obtain rfl := Option.some.inj e1
   refine HQ.out _ v29 v30 v31 v32 v33 v34 v35 v36 v37 v38 v39 v40 v41 v42 v43 v44 ?_ ?_ ?_ ?_ ?_
   ·simpa using hb1
   ·exact own_cell oR b2 3 _ hblt
   ·exact fun B hB => (hb.mono (Nat.le_of_lt (Nat.lt_of_le_of_lt hB hblt))).setCell hB _
   ·intro c cs t hc hbc
    exact (RowKit.Below.heap_setCell _ _ _ _ hc).trans (hbc.on hb)
   ·intro k hk hne
    exact (RowKit.Below.heap_setCell _ _ _ _ hne).trans (hb.block k hk)
def ins10V (B b2 _b3 : Nat) (so : Option Addr) (sn sc at_ : Nat) (lo hiv : Value) (z : XAd) (lt ld : List XAd) (i : Nat) (v : Value) (x : World) : Prop :=
 match i with
 | 0 => ∃ g,v = .slice (some ⟨g,0,none⟩) 0 0 ∧ B ≤ g ∧ Box x g #[] 41
 | 1 => v = .pointer (some ⟨b2,2,none⟩)
 | 2 => v = .slice so sn sc
 | 3 => v = .int .i64 (at_ : Int)
 | 4 => v = lo
 | 5 => OwnD x B v lt
 | 6 => v = valD z
 | 7 => OwnD x B v [z]
 | 8 => OwnD x B v (lt ++ [z])
 | 9 => v = .pointer (some ⟨b2,2,none⟩)
 | 10 => v = .slice so sn sc
 | 11 => v = .int .i64 (at_ : Int)
 | 12 => v = hiv
 | 13 => OwnD x B v (lt ++ [z] ++ ld)
 | 14 => v = .pointer (some ⟨b2,2,none⟩)
 | _ => True
noncomputable def insR10 : Code := ((Tryz.f22.body.bind (findRegion 10)).getD .skip)
theorem ins10V_on (B b2 b3 : Nat) (so : Option Addr) (sn sc at_ : Nat) (lo hiv : Value) (z : XAd) (lt ld : List XAd) (i : Nat) (v : Value) (x x' : World) (h : ins10V B b2 b3 so sn sc at_ lo hiv z lt ld i v x) (hb : Below x.heap.size x x') : ins10V B b2 b3 so sn sc at_ lo hiv z lt ld i v x' := by
 by_cases hi : i < 15
 ·rcases (by omega : i = 0 ∨ i = 1 ∨ i = 2 ∨ i = 3 ∨ i = 4 ∨ i = 5 ∨ i = 6 ∨ i = 7 ∨ i = 8 ∨ i = 9 ∨ i = 10 ∨ i = 11 ∨ i = 12 ∨ i = 13 ∨ i = 14) with rfl | rfl | rfl | rfl | rfl | rfl | rfl | rfl | rfl | rfl | rfl | rfl | rfl | rfl | rfl
  ·obtain ⟨g,h1,h2,h3⟩ := h
   exact ⟨g,h1,h2,h3.on hb⟩
  ·exact h
  ·exact h
  ·exact h
  ·exact h
  ·exact own_on h hb
  ·exact h
  ·exact own_on h hb
  ·exact own_on h hb
  ·exact h
  ·exact h
  ·exact h
  ·exact h
  ·exact own_on h hb
  ·exact h
 ·unfold ins10V
  split <;> first | omega | trivial
theorem ins10 (Q : Exit → Act → World → Prop) (W : World) (b2 b3 : Nat) (me : Int) (y1 y3 y4 y5 : Value) (so : Option Addr) (sn sc at_ : Nat) (l : List XAd) (z : XAd) (u0 u1 u4 u5 u7 u8 u9 u10 u11 u12 u13 u14 u15 u16 u17 u18 u19 u20 u21 u22 u23 u24 u25 u26 u27 u28 u29 u30 u31 u32 u33 u34 u35 u36 u37 u38 u39 u40 u41 u42 u43 u44 u45 u46 u47 u48 u49 u50 u51 u52 u53 u54 u55 u56 u57 u58 u59 u60 u61 u62 u63 u64 u65 u66 u67 u68 u69 u70 u71 u72 u73 u74 u75 u76 u77 u78 : Value)
  (h2 : Box W b2 #[.int .i64 me,y1,.slice so sn sc,y3,y4,y5] 31) (hx : ∀ x,Below W.heap.size W x → ∀ j u,(cellsD z)[j]? = some u → x.cell? ((⟨b3,0,none⟩ : Addr).add j) = some u) (hs : RowD W (.slice so sn sc) l) (hat : at_ ≤ l.length) (hlen : l.length ≤ 900)
  (hQ : ∀ (x : World) (v63 v64 v65 v66 v67 v68 v69 v70 v71 v72 v73 v74 v75 v76 v77 : Value),Box x b2 #[.int .i64 me,y1,v76,y3,y4,y5] 31 → OwnD x W.heap.size v76 (l.take at_ ++ [z] ++ l.drop at_) → (∀ B,B ≤ b2 → Below B W x) → (∀ c cs t,c ≠ b2 → Box W c cs t → Box x c cs t) → (∀ k,k < W.heap.size → k ≠ b2 → x.heap[k]? = W.heap[k]?) → Q .normal ⟨(u0 :: u1 :: .pointer (some ⟨b2,0,none⟩) :: .pointer (some ⟨b3,0,none⟩) :: u4 :: u5 :: .int .i64 (at_ : Int) :: u7 :: u8 :: u9 :: u10 :: u11 :: u12 :: u13 :: u14 :: u15 :: u16 :: u17 :: u18 :: u19 :: u20 :: u21 :: u22 :: u23 :: u24 :: u25 :: u26 :: u27 :: u28 :: u29 :: u30 :: u31 :: u32 :: u33 :: u34 :: u35 :: u36 :: u37 :: u38 :: u39 :: u40 :: u41 :: u42 :: u43 :: u44 :: u45 :: u46 :: u47 :: u48 :: u49 :: u50 :: u51 :: u52 :: u53 :: u54 :: u55 :: u56 :: u57 :: u58 :: u59 :: u60 :: u61 :: u62 :: v63 :: v64 :: v65 :: v66 :: v67 :: v68 :: v69 :: v70 :: v71 :: v72 :: v73 :: v74 :: v75 :: v76 :: v77 :: u78 :: []).toArray,[]⟩ x) :
  Code.wp Tryz.prog insR10 Q ⟨(u0 :: u1 :: .pointer (some ⟨b2,0,none⟩) :: .pointer (some ⟨b3,0,none⟩) :: u4 :: u5 :: .int .i64 (at_ : Int) :: u7 :: u8 :: u9 :: u10 :: u11 :: u12 :: u13 :: u14 :: u15 :: u16 :: u17 :: u18 :: u19 :: u20 :: u21 :: u22 :: u23 :: u24 :: u25 :: u26 :: u27 :: u28 :: u29 :: u30 :: u31 :: u32 :: u33 :: u34 :: u35 :: u36 :: u37 :: u38 :: u39 :: u40 :: u41 :: u42 :: u43 :: u44 :: u45 :: u46 :: u47 :: u48 :: u49 :: u50 :: u51 :: u52 :: u53 :: u54 :: u55 :: u56 :: u57 :: u58 :: u59 :: u60 :: u61 :: u62 :: u63 :: u64 :: u65 :: u66 :: u67 :: u68 :: u69 :: u70 :: u71 :: u72 :: u73 :: u74 :: u75 :: u76 :: u77 :: u78 :: []).toArray,[]⟩ W := by
 have HQ := Lib.hid hQ
 have H2 := Lib.hid h2
 have LX := Lib.hid hx
 obtain ⟨lo,slo,rlo⟩ := row_lo okD hs at_ (by omega)
 obtain ⟨hiv,shi,rhi⟩ := row_hi okD hs (at_) hat
 have LT := Lib.hid (show (l.take at_).length ≤ 1000 by rw [List.length_take]; omega)
 have LTD := Lib.hid (show (l.take at_).length ≤ 900 by rw [List.length_take]; omega)
 have LD := Lib.hid (show (l.drop (at_)).length ≤ 1000 by rw [List.length_drop]; omega)
 generalize l.take at_ = lt at *
 generalize l.drop (at_) = ld at *
 have SL := Lib.hid slo
 have SH := Lib.hid shi
 have RL := Lib.hid rlo
 have RH := Lib.hid rhi
 clear hQ h2 hx hs slo shi rlo rhi hat hlen
 have stab := ins10V_on W.heap.size b2 b3 so sn sc at_ lo hiv z lt ld
 unfold insR10
 conv => arg 2; whnf
 have nd : ∀ j,(j < 63 ∨ 78 ≤ j) → ∀ i,i < 15 → (fun i => 63 + i) i ≠ j := by
  intro j hj i hi h
  simp only at h
  omega
 refine Rg.region_live 16 15 (fun i => 63 + i) (fun i => if i = 0 then 5 else if i = 5 then 8 else if i = 7 then 8 else if i = 8 then 13 else 15) (ins10V W.heap.size b2 b3 so sn sc at_ lo hiv z lt ld) (by kernel_rfl) (by kernel_rfl) rfl (by decide) (fun i j _ _ h => by have h2 : 63 + i = 63 + j := h; omega) (fun i hi => by show 63 + i < 79; omega) ?_ (fun _ => Rg.hall_of 1 (by kernel_rfl)) (fun kk o h1 h2 => by omega) ?_
 ·intro i o hi ho a x D hnd hc hD hb seen K hK
  clear HQ
  rcases (by omega : i = 0 ∨ i = 1 ∨ i = 2 ∨ i = 3 ∨ i = 4 ∨ i = 5 ∨ i = 6 ∨ i = 7 ∨ i = 8 ∨ i = 9 ∨ i = 10 ∨ i = 11 ∨ i = 12 ∨ i = 13 ∨ i = 14) with rfl | rfl | rfl | rfl | rfl | rfl | rfl | rfl | rfl | rfl | rfl | rfl | rfl | rfl | rfl
  ·obtain rfl := Option.some.inj ho
   exact Rg.op_value rfl rfl (Rg.ex_build a.eval _ 26 0 #[] rfl rfl (by simp [go_sem])) (hK (.slice (some ⟨x.heap.size,0,none⟩) 0 0) (x.alloc (.cells #[] 41)) ⟨x.heap.size,rfl,hb.size,box_new x #[] 41⟩ ((Below.refl _ _).alloc hb.size _) fun j u _ _ _ _ _ h => stab j u _ _ h ((Below.refl _ _).alloc (Nat.le_refl _) _))
  ·obtain rfl := Option.some.inj ho
   have e2 : a.eval (.tmp 2) = .pointer (some ⟨b2,0,none⟩) := seen.kp 2 _ (nd 2 (by omega)) rfl
   exact Rg.op_value rfl rfl (Rg.ex_field a.eval _ 31 (.tmp 2) 2 rfl (by rw [e2]; simp [go_sem])) (hK _ _ rfl (Below.refl _ _) fun _ _ _ _ _ _ _ h => h)
  ·obtain rfl := Option.some.inj ho
   have e64 : a.eval (.tmp 64) = .pointer (some ⟨b2,2,none⟩) := seen.at_ ⟨1,.data⟩ (by simp) rfl (Or.inr (by decide))
   have y := (H2.out.on hb).cell 2
   simp only [List.getElem?_toArray,List.getElem?_cons_zero,List.getElem?_cons_succ] at y
   exact Rg.op_value rfl rfl (Rg.ex_load a.eval _ 26 (.tmp 64) rfl (by rw [e64]; simp [go_sem,y])) (hK _ _ rfl (Below.refl _ _) fun _ _ _ _ _ _ _ h => h)
  ·obtain rfl := Option.some.inj ho
   have e6 : a.eval (.tmp 6) = .int .i64 (at_ : Int) := seen.kp 6 _ (nd 6 (by omega)) rfl
   exact Rg.op_value rfl rfl (Rg.ex_move a.eval _ (.tmp 6) rfl x) (hK _ _ e6 (Below.refl _ _) fun _ _ _ _ _ _ _ h => h)
  ·obtain rfl := Option.some.inj ho
   have e65 : a.eval (.tmp 65) = .slice so sn sc := seen.at_ ⟨2,.data⟩ (by simp) rfl (Or.inr (by decide))
   have e66 : a.eval (.tmp 66) = .int .i64 (at_ : Int) := seen.at_ ⟨3,.data⟩ (by simp) rfl (Or.inr (by decide))
   exact Rg.op_value rfl rfl (Rg.ex_slice a.eval _ 26 (.tmp 65) none (some (.tmp 66)) none rfl (by show (Instr.sliceAt 26 (a.eval (.tmp 65)) none (some (a.eval (.tmp 66))) none).run Tryz.prog x = .ok lo x; rw [e65,e66]; exact SL.out x)) (hK _ _ rfl (Below.refl _ _) fun _ _ _ _ _ _ _ h => h)
  ·obtain rfl := Option.some.inj ho
   obtain ⟨g,q0,hBg,hbx⟩ := seen.at_ ⟨0,.data⟩ (by simp) rfl (Or.inl rfl)
   have q0 : a.eval (.tmp 63) = .slice (some ⟨g,0,none⟩) 0 0 := q0
   have e67 : a.eval (.tmp 67) = lo := seen.at_ ⟨4,.data⟩ (by simp) rfl (Or.inr (by decide))
   obtain ⟨v',x',r,o',gr⟩ := app_fresh okD W.heap.size hbx hBg (RL.out.on hb) LT.out 26
   exact Rg.op_value rfl rfl (Rg.ex_append a.eval _ (.tmp 63) (.tmp 67) 26 rfl q0 e67 r) (hK v' x' o' (gr.mono hb.size) fun j u _ _ _ _ _ h => stab j u _ _ h gr)
  ·obtain rfl := Option.some.inj ho
   have e3 : a.eval (.tmp 3) = .pointer (some ⟨b3,0,none⟩) := seen.kp 3 _ (nd 3 (by omega)) rfl
   exact Rg.op_value rfl rfl (Rg.ex_load a.eval _ 41 (.tmp 3) rfl (by rw [e3]; exact loadD x _ z (LX.out x hb))) (hK _ _ rfl (Below.refl _ _) fun _ _ _ _ _ _ _ h => h)
  ·obtain rfl := Option.some.inj ho
   have e69 : a.eval (.tmp 69) = valD z := seen.at_ ⟨6,.data⟩ (by simp) rfl (Or.inr (by decide))
   have hl := row_lit okD x [z] 1 rfl (by simp) (cellsD z).toArray (by simp [flat,ED])
   have hl : OwnD (x.alloc (.cells (cellsD z).toArray 41)) x.heap.size (.slice (some ⟨x.heap.size,0,none⟩) 1 1) [z] := hl
   exact Rg.op_value rfl rfl (Rg.ex_build a.eval _ 26 1 #[(0,.tmp 69)] rfl (ps := #[(0,valD z)]) (by simp [e69]) (by simp [go_sem])) (hK (.slice (some ⟨x.heap.size,0,none⟩) 1 1) (x.alloc (.cells (cellsD z).toArray 41)) (own_fewer hl hb.size) ((Below.refl _ _).alloc hb.size _) fun j u _ _ _ _ _ h => stab j u _ _ h ((Below.refl _ _).alloc (Nat.le_refl _) _))
  ·obtain rfl := Option.some.inj ho
   have o68 : OwnD x W.heap.size (a.eval (.tmp 68)) (lt) := seen.at_ ⟨5,.data⟩ (by simp) rfl (Or.inl rfl)
   have o70 : OwnD x W.heap.size (a.eval (.tmp 70)) ([z]) := seen.at_ ⟨7,.data⟩ (by simp) rfl (Or.inl rfl)
   have ox := Row.of_own o70
   obtain ⟨v',x',r,o',gr⟩ := app_row okD W.heap.size o68 ox (by have := LT.out; omega) (by simp) hb.size 26
   exact Rg.op_value rfl rfl (Rg.ex_append a.eval _ (.tmp 68) (.tmp 70) 26 rfl rfl rfl r) (hK v' x' o' ((Below.refl _ x).grown gr hb.size fun j hj => (o68.lt j hj).1) fun j u hj dj nl nx ni h => by
    rcases (by omega : j = 0 ∨ j = 1 ∨ j = 2 ∨ j = 3 ∨ j = 4 ∨ j = 5 ∨ j = 6 ∨ j = 7 ∨ j = 8 ∨ j = 9 ∨ j = 10 ∨ j = 11 ∨ j = 12 ∨ j = 13 ∨ j = 14) with rfl | rfl | rfl | rfl | rfl | rfl | rfl | rfl | rfl | rfl | rfl | rfl | rfl | rfl | rfl
    ·exact absurd rfl (fun _ : (0 : Nat) = 0 => nl (hc 5 _ (hD ⟨5,.data⟩ (by simp) rfl) rfl ⟨0,.data⟩ (by simp) rfl |> fun _ => hD ⟨5,.data⟩ (by simp) rfl))
    ·exact h
    ·exact h
    ·exact h
    ·exact h
    ·exact absurd rfl (fun _ : (0 : Nat) = 0 => nx rfl)
    ·exact h
    ·exact absurd rfl (fun _ : (0 : Nat) = 0 => nx rfl)
    ·exact absurd rfl (fun _ : (0 : Nat) = 0 => ni rfl)
    ·exact h
    ·exact h
    ·exact h
    ·exact h
    ·exact absurd rfl (fun _ : (0 : Nat) = 0 => hnd (hc 13 _ dj rfl ⟨8,.data⟩ (by simp) rfl))
    ·exact h)
  ·obtain rfl := Option.some.inj ho
   have e2 : a.eval (.tmp 2) = .pointer (some ⟨b2,0,none⟩) := seen.kp 2 _ (nd 2 (by omega)) rfl
   exact Rg.op_value rfl rfl (Rg.ex_field a.eval _ 31 (.tmp 2) 2 rfl (by rw [e2]; simp [go_sem])) (hK _ _ rfl (Below.refl _ _) fun _ _ _ _ _ _ _ h => h)
  ·obtain rfl := Option.some.inj ho
   have e72 : a.eval (.tmp 72) = .pointer (some ⟨b2,2,none⟩) := seen.at_ ⟨9,.data⟩ (by simp) rfl (Or.inr (by decide))
   have y := (H2.out.on hb).cell 2
   simp only [List.getElem?_toArray,List.getElem?_cons_zero,List.getElem?_cons_succ] at y
   exact Rg.op_value rfl rfl (Rg.ex_load a.eval _ 26 (.tmp 72) rfl (by rw [e72]; simp [go_sem,y])) (hK _ _ rfl (Below.refl _ _) fun _ _ _ _ _ _ _ h => h)
  ·obtain rfl := Option.some.inj ho
   have e6 : a.eval (.tmp 6) = .int .i64 (at_ : Int) := seen.kp 6 _ (nd 6 (by omega)) rfl
   exact Rg.op_value rfl rfl (Rg.ex_move a.eval _ (.tmp 6) rfl x) (hK _ _ e6 (Below.refl _ _) fun _ _ _ _ _ _ _ h => h)
  ·obtain rfl := Option.some.inj ho
   have e73 : a.eval (.tmp 73) = .slice so sn sc := seen.at_ ⟨10,.data⟩ (by simp) rfl (Or.inr (by decide))
   have e74 : a.eval (.tmp 74) = .int .i64 (at_ : Int) := seen.at_ ⟨11,.data⟩ (by simp) rfl (Or.inr (by decide))
   exact Rg.op_value rfl rfl (Rg.ex_slice a.eval _ 26 (.tmp 73) (some (.tmp 74)) none none rfl (by show (Instr.sliceAt 26 (a.eval (.tmp 73)) (some (a.eval (.tmp 74))) none none).run Tryz.prog x = .ok hiv x; rw [e73,e74]; exact SH.out x)) (hK _ _ rfl (Below.refl _ _) fun _ _ _ _ _ _ _ h => h)
  ·obtain rfl := Option.some.inj ho
   have o71 : OwnD x W.heap.size (a.eval (.tmp 71)) ((lt ++ [z])) := seen.at_ ⟨8,.data⟩ (by simp) rfl (Or.inl rfl)
   have e75 : a.eval (.tmp 75) = hiv := seen.at_ ⟨12,.data⟩ (by simp) rfl (Or.inr (by decide))
   have ox : RowD x (a.eval (.tmp 75)) ld := by rw [e75]; exact RH.out.on hb
   obtain ⟨v',x',r,o',gr⟩ := app_row okD W.heap.size o71 ox (by have := LTD.out; rw [List.length_append,List.length_singleton]; omega) LD.out hb.size 26
   exact Rg.op_value rfl rfl (Rg.ex_append a.eval _ (.tmp 71) (.tmp 75) 26 rfl rfl rfl r) (hK v' x' o' ((Below.refl _ x).grown gr hb.size fun j hj => (o71.lt j hj).1) fun j u hj dj nl nx ni h => by
    rcases (by omega : j = 0 ∨ j = 1 ∨ j = 2 ∨ j = 3 ∨ j = 4 ∨ j = 5 ∨ j = 6 ∨ j = 7 ∨ j = 8 ∨ j = 9 ∨ j = 10 ∨ j = 11 ∨ j = 12 ∨ j = 13 ∨ j = 14) with rfl | rfl | rfl | rfl | rfl | rfl | rfl | rfl | rfl | rfl | rfl | rfl | rfl | rfl | rfl
    ·exact absurd rfl (fun _ : (0 : Nat) = 0 => nl (hc 8 _ (hD ⟨8,.data⟩ (by simp) rfl) rfl ⟨5,.data⟩ (by simp) rfl))
    ·exact h
    ·exact h
    ·exact h
    ·exact h
    ·exact absurd rfl (fun _ : (0 : Nat) = 0 => nl (hD ⟨8,.data⟩ (by simp) rfl))
    ·exact h
    ·exact absurd rfl (fun _ : (0 : Nat) = 0 => nl (hD ⟨8,.data⟩ (by simp) rfl))
    ·exact absurd rfl (fun _ : (0 : Nat) = 0 => nx rfl)
    ·exact h
    ·exact h
    ·exact h
    ·exact h
    ·exact absurd rfl (fun _ : (0 : Nat) = 0 => ni rfl)
    ·exact h)
  ·obtain rfl := Option.some.inj ho
   have e2 : a.eval (.tmp 2) = .pointer (some ⟨b2,0,none⟩) := seen.kp 2 _ (nd 2 (by omega)) rfl
   exact Rg.op_value rfl rfl (Rg.ex_field a.eval _ 31 (.tmp 2) 2 rfl (by rw [e2]; simp [go_sem])) (hK _ _ rfl (Below.refl _ _) fun _ _ _ _ _ _ _ h => h)
 ·intro a w' df sz kp ⟨vs,hv⟩ hb
  have gr : a.tmps[76]? = some (vs 13) := (hv 13 (by omega)).1
  have gp : a.tmps[77]? = some (.pointer (some ⟨b2,2,none⟩)) := by
   have h : vs 14 = .pointer (some ⟨b2,2,none⟩) := (hv 14 (by omega)).2 (by decide)
   rw [← h]
   exact (hv 14 (by omega)).1
  have oR : OwnD w' W.heap.size (vs 13) (lt ++ [z] ++ ld) := (hv 13 (by omega)).2 (by decide)
  generalize vs 13 = xR at *
  obtain ⟨ca,cp,eR⟩ := (Row.of_own oR).len
  have hbx := H2.out.on hb
  have hblt := H2.out.lt
  have c5 := hbx.cell 2
  have f5 := hbx.fr 2
  simp only [List.getElem?_toArray,List.getElem?_cons_zero,List.getElem?_cons_succ] at c5
  have hb1 := box_set (k := 2) hbx xR
  show Rg.SeqFrom _ _ _ 1 15 a w'
  simp only [Rg.SeqFrom]
  refine Rg.op_store 26 (.tmp 77) (.tmp 76) rfl rfl rfl rfl (Rg.eval_some gp) (Rg.eval_some gr) (w' := w'.setCell ⟨b2,2,none⟩ xR) (by rw [eR]; simp [go_sem,c5,f5]) ?_
  have kp2 : ∀ j,(j < 63 ∨ 78 ≤ j) → a.tmps[j]? = (u0 :: u1 :: .pointer (some ⟨b2,0,none⟩) :: .pointer (some ⟨b3,0,none⟩) :: u4 :: u5 :: .int .i64 (at_ : Int) :: u7 :: u8 :: u9 :: u10 :: u11 :: u12 :: u13 :: u14 :: u15 :: u16 :: u17 :: u18 :: u19 :: u20 :: u21 :: u22 :: u23 :: u24 :: u25 :: u26 :: u27 :: u28 :: u29 :: u30 :: u31 :: u32 :: u33 :: u34 :: u35 :: u36 :: u37 :: u38 :: u39 :: u40 :: u41 :: u42 :: u43 :: u44 :: u45 :: u46 :: u47 :: u48 :: u49 :: u50 :: u51 :: u52 :: u53 :: u54 :: u55 :: u56 :: u57 :: u58 :: u59 :: u60 :: u61 :: u62 :: u63 :: u64 :: u65 :: u66 :: u67 :: u68 :: u69 :: u70 :: u71 :: u72 :: u73 :: u74 :: u75 :: u76 :: u77 :: u78 :: [])[j]? := fun j hj => (kp j (nd j hj)).trans List.getElem?_toArray
  obtain ⟨mid,hmid,rfl⟩ := Rg.frame_mid 63 15 df sz (by simp) kp2
  match mid,hmid with
  | [v63,v64,v65,v66,v67,v68,v69,v70,v71,v72,v73,v74,v75,v76,v77],_ =>
   have e1 : some v76 = some xR := gr
   obtain rfl := Option.some.inj e1
   refine HQ.out _ v63 v64 v65 v66 v67 v68 v69 v70 v71 v72 v73 v74 v75 v76 v77 ?_ ?_ ?_ ?_ ?_
   ·simpa using hb1
   ·exact own_cell oR b2 2 _ hblt
   ·exact fun B hB => (hb.mono (Nat.le_of_lt (Nat.lt_of_le_of_lt hB hblt))).setCell hB _
   ·intro c cs t hc hbc
    exact (RowKit.Below.heap_setCell _ _ _ _ hc).trans (hbc.on hb)
   ·intro k hk hne
    exact (RowKit.Below.heap_setCell _ _ _ _ hne).trans (hb.block k hk)
end Go.Proofs.YtncogjpmboglhaaGreat.Bk
namespace Go.Proofs.YtncogjpmboglhaaGreat.Av
open Go.RowKit Rw YtncogjpmboglhaaGreat.Nm Pr Bk Rg
theorem eqnilI (a : Option Addr) (n c : Nat) (w : World) : (binOp .eql 25 (.slice a n c) (.slice none 0 0)).run Tryz.prog w = .ok (.bool a.isNone) w := by
 simp [go_sem,binOp,run_equal_slice_nil (P := Tryz.prog) w 25 3 a n c Tryz.underlying25]
theorem cloneI_any (v : Sl) (l : List Int) (w : World) (hv : Row EI w (slv v) l) (hl : l.length ≤ 900) :
  Calls Tryz.prog 65 #[slv v] w fun e w' => (∃ v' : Sl,e = .returned (slv v') ∧ Own EI w' w.heap.size (slv v') l) ∧ Below w.heap.size w w' := by
 obtain ⟨vo,vn,vc⟩ := v
 rcases hv with ⟨rfl,hv⟩ | ⟨a,cap,hv,h1,h2,h3⟩
 ·obtain ⟨rfl,rfl,rfl⟩ : vo = none ∧ vn = 0 ∧ vc = 0 := by simpa using hv
  clear hv hl
  have q : ∀ w',(binOp .eql 25 (.slice none 0 0) (.slice none 0 0)).run Tryz.prog w' = .ok (.bool true) w' := fun w' => eqnilI none 0 0 w'
  go_enter Tryz.func65,Tryz.ntmps65
  go_wp2
  go_ret
  exact ⟨⟨(none,0,0),rfl,own_nil _ _⟩,Below.refl _ _⟩
 ·obtain ⟨rfl,rfl,rfl⟩ : vo = some a ∧ vn = l.length ∧ vc = cap := by simpa using hv
  have hx : Row EI w (.slice (some a) l.length vc) l := Or.inr ⟨a,vc,rfl,h1,h2,h3⟩
  have n0 := newB w (.cells #[] 3)
  obtain ⟨q0,w0,r0,o0,g0⟩ := app_fresh Nm.okI w.heap.size (box_new w #[] 3) (Nat.le_refl _) (hx.on n0) (by omega) 25
  obtain ⟨v1,v3,hv1⟩ := (Row.of_own o0).len
  obtain ⟨n,hn⟩ : ∃ n,n = l.length := ⟨_,rfl⟩
  have Q := Lib.hid (show (∃ v' : Sl,Ending.returned q0 = .returned (slv v') ∧ Own EI w0 w.heap.size (slv v') l) ∧ Below w.heap.size w w0 from ⟨⟨(v1,l.length,v3),by rw [hv1],by subst hv1; exact o0⟩,n0.trans (g0.mono n0.size)⟩)
  rw [← hn] at r0 ⊢
  clear hv h1 h2 h3 hx o0 g0 n0 hv1 hn hl
  have q : ∀ w',(binOp .eql 25 (.slice (some a) n vc) (.slice none 0 0)).run Tryz.prog w' = .ok (.bool false) w' := fun w' => eqnilI (some a) n vc w'
  have r0 : (Builtin.append_ #[25,25] 25 #[.slice (some ⟨w.heap.size,0,none⟩) 0 0,.slice (some a) n vc]).run Tryz.prog (w.alloc (.cells #[] 3)) = .ok q0 w0 := r0
  go_enter Tryz.func65,Tryz.ntmps65
  go_wp2_with (first | (at_builtin; refine wpList_append_run rfl _ _ 25 rfl rfl rfl r0 ?_) | fail)
  go_ret
  exact Q.out
theorem eqnilJ (a : Option Addr) (n c : Nat) (w : World) : (binOp .eql 27 (.slice a n c) (.slice none 0 0)).run Tryz.prog w = .ok (.bool a.isNone) w := by
 simp [go_sem,binOp,run_equal_slice_nil (P := Tryz.prog) w 27 38 a n c Tryz.underlying27]
theorem cloneJ_any (v : Sl) (l : List XID) (w : World) (hv : Row EJ w (slv v) l) (hl : l.length ≤ 900) :
  Calls Tryz.prog 122 #[slv v] w fun e w' => (∃ v' : Sl,e = .returned (slv v') ∧ Own EJ w' w.heap.size (slv v') l) ∧ Below w.heap.size w w' := by
 obtain ⟨vo,vn,vc⟩ := v
 rcases hv with ⟨rfl,hv⟩ | ⟨a,cap,hv,h1,h2,h3⟩
 ·obtain ⟨rfl,rfl,rfl⟩ : vo = none ∧ vn = 0 ∧ vc = 0 := by simpa using hv
  clear hv hl
  have q : ∀ w',(binOp .eql 27 (.slice none 0 0) (.slice none 0 0)).run Tryz.prog w' = .ok (.bool true) w' := fun w' => eqnilJ none 0 0 w'
  go_enter Tryz.func122,Tryz.ntmps122
  go_wp2
  go_ret
  exact ⟨⟨(none,0,0),rfl,own_nil _ _⟩,Below.refl _ _⟩
 ·obtain ⟨rfl,rfl,rfl⟩ : vo = some a ∧ vn = l.length ∧ vc = cap := by simpa using hv
  have hx : Row EJ w (.slice (some a) l.length vc) l := Or.inr ⟨a,vc,rfl,h1,h2,h3⟩
  have n0 := newB w (.cells #[] 38)
  obtain ⟨q0,w0,r0,o0,g0⟩ := app_fresh okJ w.heap.size (box_new w #[] 38) (Nat.le_refl _) (hx.on n0) (by omega) 27
  obtain ⟨v1,v3,hv1⟩ := (Row.of_own o0).len
  obtain ⟨n,hn⟩ : ∃ n,n = l.length := ⟨_,rfl⟩
  have Q := Lib.hid (show (∃ v' : Sl,Ending.returned q0 = .returned (slv v') ∧ Own EJ w0 w.heap.size (slv v') l) ∧ Below w.heap.size w w0 from ⟨⟨(v1,l.length,v3),by rw [hv1],by subst hv1; exact o0⟩,n0.trans (g0.mono n0.size)⟩)
  rw [← hn] at r0 ⊢
  clear hv h1 h2 h3 hx o0 g0 n0 hv1 hn hl
  have q : ∀ w',(binOp .eql 27 (.slice (some a) n vc) (.slice none 0 0)).run Tryz.prog w' = .ok (.bool false) w' := fun w' => eqnilJ (some a) n vc w'
  have r0 : (Builtin.append_ #[27,27] 27 #[.slice (some ⟨w.heap.size,0,none⟩) 0 0,.slice (some a) n vc]).run Tryz.prog (w.alloc (.cells #[] 38)) = .ok q0 w0 := r0
  go_enter Tryz.func122,Tryz.ntmps122
  go_wp2_with (first | (at_builtin; refine wpList_append_run rfl _ _ 27 rfl rfl rfl r0 ?_) | fail)
  go_ret
  exact Q.out
theorem eqnilD (a : Option Addr) (n c : Nat) (w : World) : (binOp .eql 26 (.slice a n c) (.slice none 0 0)).run Tryz.prog w = .ok (.bool a.isNone) w := by
 simp [go_sem,binOp,run_equal_slice_nil (P := Tryz.prog) w 26 41 a n c Tryz.underlying26]
theorem cloneD_any (v : Sl) (l : List XAd) (w : World) (hv : Row ED w (slv v) l) (hl : l.length ≤ 900) :
  Calls Tryz.prog 123 #[slv v] w fun e w' => (∃ v' : Sl,e = .returned (slv v') ∧ Own ED w' w.heap.size (slv v') l) ∧ Below w.heap.size w w' := by
 obtain ⟨vo,vn,vc⟩ := v
 rcases hv with ⟨rfl,hv⟩ | ⟨a,cap,hv,h1,h2,h3⟩
 ·obtain ⟨rfl,rfl,rfl⟩ : vo = none ∧ vn = 0 ∧ vc = 0 := by simpa using hv
  clear hv hl
  have q : ∀ w',(binOp .eql 26 (.slice none 0 0) (.slice none 0 0)).run Tryz.prog w' = .ok (.bool true) w' := fun w' => eqnilD none 0 0 w'
  go_enter Tryz.func123,Tryz.ntmps123
  go_wp2
  go_ret
  exact ⟨⟨(none,0,0),rfl,own_nil _ _⟩,Below.refl _ _⟩
 ·obtain ⟨rfl,rfl,rfl⟩ : vo = some a ∧ vn = l.length ∧ vc = cap := by simpa using hv
  have hx : Row ED w (.slice (some a) l.length vc) l := Or.inr ⟨a,vc,rfl,h1,h2,h3⟩
  have n0 := newB w (.cells #[] 41)
  obtain ⟨q0,w0,r0,o0,g0⟩ := app_fresh okD w.heap.size (box_new w #[] 41) (Nat.le_refl _) (hx.on n0) (by omega) 26
  obtain ⟨v1,v3,hv1⟩ := (Row.of_own o0).len
  obtain ⟨n,hn⟩ : ∃ n,n = l.length := ⟨_,rfl⟩
  have Q := Lib.hid (show (∃ v' : Sl,Ending.returned q0 = .returned (slv v') ∧ Own ED w0 w.heap.size (slv v') l) ∧ Below w.heap.size w w0 from ⟨⟨(v1,l.length,v3),by rw [hv1],by subst hv1; exact o0⟩,n0.trans (g0.mono n0.size)⟩)
  rw [← hn] at r0 ⊢
  clear hv h1 h2 h3 hx o0 g0 n0 hv1 hn hl
  have q : ∀ w',(binOp .eql 26 (.slice (some a) n vc) (.slice none 0 0)).run Tryz.prog w' = .ok (.bool false) w' := fun w' => eqnilD (some a) n vc w'
  have r0 : (Builtin.append_ #[26,26] 26 #[.slice (some ⟨w.heap.size,0,none⟩) 0 0,.slice (some a) n vc]).run Tryz.prog (w.alloc (.cells #[] 41)) = .ok q0 w0 := r0
  go_enter Tryz.func123,Tryz.ntmps123
  go_wp2_with (first | (at_builtin; refine wpList_append_run rfl _ _ 26 rfl rfl rfl r0 ?_) | fail)
  go_ret
  exact Q.out
theorem eqnilN (a : Option Addr) (n c : Nat) (w : World) : (binOp .eql 28 (.slice a n c) (.slice none 0 0)).run Tryz.prog w = .ok (.bool a.isNone) w := by
 simp [go_sem,binOp,run_equal_slice_nil (P := Tryz.prog) w 28 43 a n c Tryz.underlying28]
theorem cloneN_any (v : Sl) (l : List XEn) (w : World) (hv : Row EN w (slv v) l) (hl : l.length ≤ 900) :
  Calls Tryz.prog 124 #[slv v] w fun e w' => (∃ v' : Sl,e = .returned (slv v') ∧ Own EN w' w.heap.size (slv v') l) ∧ Below w.heap.size w w' := by
 obtain ⟨vo,vn,vc⟩ := v
 rcases hv with ⟨rfl,hv⟩ | ⟨a,cap,hv,h1,h2,h3⟩
 ·obtain ⟨rfl,rfl,rfl⟩ : vo = none ∧ vn = 0 ∧ vc = 0 := by simpa using hv
  clear hv hl
  have q : ∀ w',(binOp .eql 28 (.slice none 0 0) (.slice none 0 0)).run Tryz.prog w' = .ok (.bool true) w' := fun w' => eqnilN none 0 0 w'
  go_enter Tryz.func124,Tryz.ntmps124
  go_wp2
  go_ret
  exact ⟨⟨(none,0,0),rfl,own_nil _ _⟩,Below.refl _ _⟩
 ·obtain ⟨rfl,rfl,rfl⟩ : vo = some a ∧ vn = l.length ∧ vc = cap := by simpa using hv
  have hx : Row EN w (.slice (some a) l.length vc) l := Or.inr ⟨a,vc,rfl,h1,h2,h3⟩
  have n0 := newB w (.cells #[] 43)
  obtain ⟨q0,w0,r0,o0,g0⟩ := app_fresh okN w.heap.size (box_new w #[] 43) (Nat.le_refl _) (hx.on n0) (by omega) 28
  obtain ⟨v1,v3,hv1⟩ := (Row.of_own o0).len
  obtain ⟨n,hn⟩ : ∃ n,n = l.length := ⟨_,rfl⟩
  have Q := Lib.hid (show (∃ v' : Sl,Ending.returned q0 = .returned (slv v') ∧ Own EN w0 w.heap.size (slv v') l) ∧ Below w.heap.size w w0 from ⟨⟨(v1,l.length,v3),by rw [hv1],by subst hv1; exact o0⟩,n0.trans (g0.mono n0.size)⟩)
  rw [← hn] at r0 ⊢
  clear hv h1 h2 h3 hx o0 g0 n0 hv1 hn hl
  have q : ∀ w',(binOp .eql 28 (.slice (some a) n vc) (.slice none 0 0)).run Tryz.prog w' = .ok (.bool false) w' := fun w' => eqnilN (some a) n vc w'
  have r0 : (Builtin.append_ #[28,28] 28 #[.slice (some ⟨w.heap.size,0,none⟩) 0 0,.slice (some a) n vc]).run Tryz.prog (w.alloc (.cells #[] 43)) = .ok q0 w0 := r0
  go_enter Tryz.func124,Tryz.ntmps124
  go_wp2_with (first | (at_builtin; refine wpList_append_run rfl _ _ 28 rfl rfl rfl r0 ?_) | fail)
  go_ret
  exact Q.out
theorem eqnilW (a : Option Addr) (n c : Nat) (w : World) : (binOp .eql 29 (.slice a n c) (.slice none 0 0)).run Tryz.prog w = .ok (.bool a.isNone) w := by
 simp [go_sem,binOp,run_equal_slice_nil (P := Tryz.prog) w 29 45 a n c Tryz.underlying29]
theorem cloneW_any (v : Sl) (l : List XOw) (w : World) (hv : Row EW w (slv v) l) (hl : l.length ≤ 900) :
  Calls Tryz.prog 125 #[slv v] w fun e w' => (∃ v' : Sl,e = .returned (slv v') ∧ Own EW w' w.heap.size (slv v') l) ∧ Below w.heap.size w w' := by
 obtain ⟨vo,vn,vc⟩ := v
 rcases hv with ⟨rfl,hv⟩ | ⟨a,cap,hv,h1,h2,h3⟩
 ·obtain ⟨rfl,rfl,rfl⟩ : vo = none ∧ vn = 0 ∧ vc = 0 := by simpa using hv
  clear hv hl
  have q : ∀ w',(binOp .eql 29 (.slice none 0 0) (.slice none 0 0)).run Tryz.prog w' = .ok (.bool true) w' := fun w' => eqnilW none 0 0 w'
  go_enter Tryz.func125,Tryz.ntmps125
  go_wp2
  go_ret
  exact ⟨⟨(none,0,0),rfl,own_nil _ _⟩,Below.refl _ _⟩
 ·obtain ⟨rfl,rfl,rfl⟩ : vo = some a ∧ vn = l.length ∧ vc = cap := by simpa using hv
  have hx : Row EW w (.slice (some a) l.length vc) l := Or.inr ⟨a,vc,rfl,h1,h2,h3⟩
  have n0 := newB w (.cells #[] 45)
  obtain ⟨q0,w0,r0,o0,g0⟩ := app_fresh okW w.heap.size (box_new w #[] 45) (Nat.le_refl _) (hx.on n0) (by omega) 29
  obtain ⟨v1,v3,hv1⟩ := (Row.of_own o0).len
  obtain ⟨n,hn⟩ : ∃ n,n = l.length := ⟨_,rfl⟩
  have Q := Lib.hid (show (∃ v' : Sl,Ending.returned q0 = .returned (slv v') ∧ Own EW w0 w.heap.size (slv v') l) ∧ Below w.heap.size w w0 from ⟨⟨(v1,l.length,v3),by rw [hv1],by subst hv1; exact o0⟩,n0.trans (g0.mono n0.size)⟩)
  rw [← hn] at r0 ⊢
  clear hv h1 h2 h3 hx o0 g0 n0 hv1 hn hl
  have q : ∀ w',(binOp .eql 29 (.slice (some a) n vc) (.slice none 0 0)).run Tryz.prog w' = .ok (.bool false) w' := fun w' => eqnilW (some a) n vc w'
  have r0 : (Builtin.append_ #[29,29] 29 #[.slice (some ⟨w.heap.size,0,none⟩) 0 0,.slice (some a) n vc]).run Tryz.prog (w.alloc (.cells #[] 45)) = .ok q0 w0 := r0
  go_enter Tryz.func125,Tryz.ntmps125
  go_wp2_with (first | (at_builtin; refine wpList_append_run rfl _ _ 29 rfl rfl rfl r0 ?_) | fail)
  go_ret
  exact Q.out
theorem eqnilC (a : Option Addr) (n c : Nat) (w : World) : (binOp .eql 39 (.slice a n c) (.slice none 0 0)).run Tryz.prog w = .ok (.bool a.isNone) w := by
 simp [go_sem,binOp,run_equal_slice_nil (P := Tryz.prog) w 39 47 a n c Tryz.underlying39]
theorem cloneC_any (v : Sl) (l : List C5) (w : World) (hv : Row EC w (slv v) l) (hl : l.length ≤ 900) :
  Calls Tryz.prog 121 #[slv v] w fun e w' => (∃ v' : Sl,e = .returned (slv v') ∧ Own EC w' w.heap.size (slv v') l) ∧ Below w.heap.size w w' := by
 obtain ⟨vo,vn,vc⟩ := v
 rcases hv with ⟨rfl,hv⟩ | ⟨a,cap,hv,h1,h2,h3⟩
 ·obtain ⟨rfl,rfl,rfl⟩ : vo = none ∧ vn = 0 ∧ vc = 0 := by simpa using hv
  clear hv hl
  have q : ∀ w',(binOp .eql 39 (.slice none 0 0) (.slice none 0 0)).run Tryz.prog w' = .ok (.bool true) w' := fun w' => eqnilC none 0 0 w'
  go_enter Tryz.func121,Tryz.ntmps121
  go_wp2
  go_ret
  exact ⟨⟨(none,0,0),rfl,own_nil _ _⟩,Below.refl _ _⟩
 ·obtain ⟨rfl,rfl,rfl⟩ : vo = some a ∧ vn = l.length ∧ vc = cap := by simpa using hv
  have hx : Row EC w (.slice (some a) l.length vc) l := Or.inr ⟨a,vc,rfl,h1,h2,h3⟩
  have n0 := newB w (.cells #[] 47)
  obtain ⟨q0,w0,r0,o0,g0⟩ := app_fresh okC w.heap.size (box_new w #[] 47) (Nat.le_refl _) (hx.on n0) (by omega) 39
  obtain ⟨v1,v3,hv1⟩ := (Row.of_own o0).len
  obtain ⟨n,hn⟩ : ∃ n,n = l.length := ⟨_,rfl⟩
  have Q := Lib.hid (show (∃ v' : Sl,Ending.returned q0 = .returned (slv v') ∧ Own EC w0 w.heap.size (slv v') l) ∧ Below w.heap.size w w0 from ⟨⟨(v1,l.length,v3),by rw [hv1],by subst hv1; exact o0⟩,n0.trans (g0.mono n0.size)⟩)
  rw [← hn] at r0 ⊢
  clear hv h1 h2 h3 hx o0 g0 n0 hv1 hn hl
  have q : ∀ w',(binOp .eql 39 (.slice (some a) n vc) (.slice none 0 0)).run Tryz.prog w' = .ok (.bool false) w' := fun w' => eqnilC (some a) n vc w'
  have r0 : (Builtin.append_ #[39,39] 39 #[.slice (some ⟨w.heap.size,0,none⟩) 0 0,.slice (some a) n vc]).run Tryz.prog (w.alloc (.cells #[] 47)) = .ok q0 w0 := r0
  go_enter Tryz.func121,Tryz.ntmps121
  go_wp2_with (first | (at_builtin; refine wpList_append_run rfl _ _ 39 rfl rfl rfl r0 ?_) | fail)
  go_ret
  exact Q.out
end Go.Proofs.YtncogjpmboglhaaGreat.Av
