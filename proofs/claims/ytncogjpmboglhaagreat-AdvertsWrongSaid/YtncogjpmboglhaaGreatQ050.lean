/-
  AdvertsWrong's region that puts the first neighbour behind the others . Conditions as told.
-/
import Derived.Test.YtncogjpmboglhaaGreatQ041
import Derived.Test.YtncogjpmboglhaaGreatQ021
import Derived.Test.YtncogjpmboglhaaGreatQ040
import Derived.Test.YtncogjpmboglhaaGreatQ038
import Derived.Test.YtncogjpmboglhaaGreatQ034
import Derived.Test.YtncogjpmboglhaaGreatQ019
set_option maxRecDepth 100000
set_option maxHeartbeats 64000000
namespace Go.Proofs.YtncogjpmboglhaaGreat.Av
open Go.RowKit Go.Sort Rw YtncogjpmboglhaaGreat.Nm Pr Bk
def wV (W F0 b6 : Nat) (nv : Value) (p : Addr) (z : Int) (l : List Int) (i : Nat) (v : Value) (x : World) : Prop :=
 match i with
 | 0 => v = .pointer (some ⟨b6,1,none⟩)
 | 1 => v = nv
 | 2 => v = .pointer (some ⟨b6,1,none⟩)
 | 3 => v = nv
 | 4 => v = .pointer (some p)
 | 5 => v = .int .i64 z
 | 6 => OwnI x W v [z]
 | 7 => OwnI x F0 v (l ++ [z])
 | 8 => v = .pointer (some ⟨b6,1,none⟩)
 | _ => True
def wF (W : World) (F0 b6 : Nat) (bc : Array Value) (nv : Value) (z : Int) (l : List Int) (D : Nat → Prop) (x : World) : Prop :=
 (¬ D 7 → Below W.heap.size W x) ∧ (D 7 → ¬ D 9 → ∃ x0,Below W.heap.size W x0 ∧ x0.grownBy x nv.ownBlock ∧ Box x b6 bc 31) ∧ (D 9 → ∃ x0 x1 v',Below W.heap.size W x0 ∧ x0.grownBy x1 nv.ownBlock ∧ Box x1 b6 bc 31 ∧ OwnI x1 F0 v' (l ++ [z]) ∧ x = x1.setCell ⟨b6,1,none⟩ v')
noncomputable def wr8C : Code := ((Tryz.f3.body.bind (findRegion 8)).getD .skip)
theorem wr8 (Q : Exit → Act → World → Prop) (W : World) (F0 b6 : Nat) (me z : Int) (no : Option Addr) (nn nc : Nat) (y2 y3 y4 y5 : Value) (p : Addr) (l : List Int) (u0 u1 u2 u3 u4 u5 u7 u8 u9 u10 u11 u12 u13 u14 u15 u16 u17 u18 u19 u20 u21 u22 u23 u24 u25 u26 u27 u28 u29 u30 u31 u32 u33 u34 u35 u36 u37 u38 u39 u40 u41 u42 u43 u44 u45 u46 u47 u48 u49 u50 u51 u52 u53 u54 u55 u56 u57 u58 u59 u60 u61 u62 u63 u64 u65 u66 u67 u68 u69 u70 u71 u72 u73 u74 u75 u76 u77 u78 u79 u80 u81 u82 u83 u84 u85 u86 u87 u88 u89 u90 u91 u92 u93 u94 u95 u96 u97 : Value)
  (h6 : Box W b6 #[.int .i64 me,.slice no nn nc,y2,y3,y4,y5] 31) (ho : OwnI W F0 (.slice no nn nc) l) (hl : l.length ≤ 900) (fw : F0 ≤ W.heap.size) (ix : ∀ w,(Instr.indexAt 25 (.slice no nn nc) (.int .i64 0)).run Tryz.prog w = .ok (.pointer (some p)) w) (px : ∀ x,Below W.heap.size W x → x.cell? p = some (.int .i64 z))
  (hQ : ∀ (x0 x1 : World) (v' : Value) (v33 v34 v35 v36 v37 v38 v39 v40 v41 : Value),Below W.heap.size W x0 → x0.grownBy x1 (Value.slice no nn nc).ownBlock → Box x1 b6 #[.int .i64 me,.slice no nn nc,y2,y3,y4,y5] 31 → OwnI x1 F0 v' (l ++ [z]) → Q .normal ⟨(u0 :: u1 :: u2 :: u3 :: u4 :: u5 :: .pointer (some ⟨b6,0,none⟩) :: u7 :: u8 :: u9 :: u10 :: u11 :: u12 :: u13 :: u14 :: u15 :: u16 :: u17 :: u18 :: u19 :: u20 :: u21 :: u22 :: u23 :: u24 :: u25 :: u26 :: u27 :: u28 :: u29 :: u30 :: u31 :: u32 :: v33 :: v34 :: v35 :: v36 :: v37 :: v38 :: v39 :: v40 :: v41 :: u42 :: u43 :: u44 :: u45 :: u46 :: u47 :: u48 :: u49 :: u50 :: u51 :: u52 :: u53 :: u54 :: u55 :: u56 :: u57 :: u58 :: u59 :: u60 :: u61 :: u62 :: u63 :: u64 :: u65 :: u66 :: u67 :: u68 :: u69 :: u70 :: u71 :: u72 :: u73 :: u74 :: u75 :: u76 :: u77 :: u78 :: u79 :: u80 :: u81 :: u82 :: u83 :: u84 :: u85 :: u86 :: u87 :: u88 :: u89 :: u90 :: u91 :: u92 :: u93 :: u94 :: u95 :: u96 :: u97 :: []).toArray,[]⟩ (x1.setCell ⟨b6,1,none⟩ v')) :
  Code.wp Tryz.prog wr8C Q ⟨(u0 :: u1 :: u2 :: u3 :: u4 :: u5 :: .pointer (some ⟨b6,0,none⟩) :: u7 :: u8 :: u9 :: u10 :: u11 :: u12 :: u13 :: u14 :: u15 :: u16 :: u17 :: u18 :: u19 :: u20 :: u21 :: u22 :: u23 :: u24 :: u25 :: u26 :: u27 :: u28 :: u29 :: u30 :: u31 :: u32 :: u33 :: u34 :: u35 :: u36 :: u37 :: u38 :: u39 :: u40 :: u41 :: u42 :: u43 :: u44 :: u45 :: u46 :: u47 :: u48 :: u49 :: u50 :: u51 :: u52 :: u53 :: u54 :: u55 :: u56 :: u57 :: u58 :: u59 :: u60 :: u61 :: u62 :: u63 :: u64 :: u65 :: u66 :: u67 :: u68 :: u69 :: u70 :: u71 :: u72 :: u73 :: u74 :: u75 :: u76 :: u77 :: u78 :: u79 :: u80 :: u81 :: u82 :: u83 :: u84 :: u85 :: u86 :: u87 :: u88 :: u89 :: u90 :: u91 :: u92 :: u93 :: u94 :: u95 :: u96 :: u97 :: []).toArray,[]⟩ W := by
 have HQ := Lib.hid hQ
 have H6 := Lib.hid h6
 have HO := Lib.hid ho
 have HL := Lib.hid hl
 have FW := Lib.hid fw
 have IX := Lib.hid ix
 have PX := Lib.hid px
 clear hQ h6 ho hl fw ix px
 unfold wr8C
 conv => arg 2; whnf
 have nd : ∀ j,(∀ i,i < 10 → [some 33,some 34,some 35,some 36,some 37,some 38,some 39,some 40,some 41,none].getD i none ≠ some j) → ∀ i,i < 10 → (fun i => [some 33,some 34,some 35,some 36,some 37,some 38,some 39,some 40,some 41,none].getD i none) i ≠ some j := fun j h => h
 refine Rg.region_done 10 (fun i => [some 33,some 34,some 35,some 36,some 37,some 38,some 39,some 40,some 41,none].getD i none) (fun i => if i = 6 then 7 else 10) (wV W.heap.size F0 b6 (.slice no nn nc) p z l) (wF W F0 b6 #[.int .i64 me,.slice no nn nc,y2,y3,y4,y5] (.slice no nn nc) z l) (by kernel_rfl) (by kernel_rfl) rfl (fun i j e hi hj h1 h2 => (by decide : ∀ i,i < 10 → ∀ j,j < 10 → ([some 33,some 34,some 35,some 36,some 37,some 38,some 39,some 40,some 41,none].getD i none).isSome = true → [some 33,some 34,some 35,some 36,some 37,some 38,some 39,some 40,some 41,none].getD i none = [some 33,some 34,some 35,some 36,some 37,some 38,some 39,some 40,some 41,none].getD j none → i = j) i hi j hj (by have h1 : [some 33,some 34,some 35,some 36,some 37,some 38,some 39,some 40,some 41,none].getD i none = some e := h1; rw [h1]; rfl) (h1.trans h2.symm)) (fun i e hi h => (by decide : ∀ i,i < 10 → ∀ q ∈ [some 33,some 34,some 35,some 36,some 37,some 38,some 39,some 40,some 41,none].getD i none,q < 98) i hi e h) ⟨fun _ => (Below.refl _ _).drew,False.elim,False.elim⟩ ?_ ?_
 ·intro i o hi ho a x D hnd hc hD hF seen K hK
  clear HQ
  have still : ∀ i,i ≠ 7 → i ≠ 9 → wF W F0 b6 #[.int .i64 me,.slice no nn nc,y2,y3,y4,y5] (.slice no nn nc) z l (fun j => j = i ∨ D j) x := fun i h7 h9 => ⟨fun h => hF.1 fun h2 => h (Or.inr h2),fun h h2 => hF.2.1 (h.resolve_left (Ne.symm h7)) fun q => h2 (Or.inr q),fun h => hF.2.2 (h.resolve_left (Ne.symm h9))⟩
  rcases (by omega : i = 0 ∨ i = 1 ∨ i = 2 ∨ i = 3 ∨ i = 4 ∨ i = 5 ∨ i = 6 ∨ i = 7 ∨ i = 8 ∨ i = 9) with rfl | rfl | rfl | rfl | rfl | rfl | rfl | rfl | rfl | rfl
  ·obtain rfl := Option.some.inj ho
   have e6 : a.eval (.tmp 6) = .pointer (some ⟨b6,0,none⟩) := seen.kp 6 _ (nd 6 (by decide)) rfl
   exact Rg.op_value rfl rfl (Rg.ex_field a.eval _ 31 (.tmp 6) 1 rfl (by rw [e6]; simp [go_sem])) (hK _ _ rfl (still 0 (by decide) (by decide)) fun _ _ _ _ _ _ _ h => h)
  ·obtain rfl := Option.some.inj ho
   have n7 : ¬ D 7 := fun h => hnd (hc 7 _ h rfl ⟨1,.data⟩ (by simp) rfl)
   have e33 : a.eval (.tmp 33) = .pointer (some ⟨b6,1,none⟩) := seen.at_ ⟨0,.data⟩ (by simp) rfl (Or.inr (by decide)) _ rfl
   have y := (H6.out.on (hF.1 n7)).cell 1
   simp only [List.getElem?_toArray,List.getElem?_cons_zero,List.getElem?_cons_succ] at y
   exact Rg.op_value rfl rfl (Rg.ex_load a.eval _ 25 (.tmp 33) rfl (by rw [e33]; simp [go_sem,y])) (hK _ _ rfl (still 1 (by decide) (by decide)) fun _ _ _ _ _ _ _ h => h)
  ·obtain rfl := Option.some.inj ho
   have e6 : a.eval (.tmp 6) = .pointer (some ⟨b6,0,none⟩) := seen.kp 6 _ (nd 6 (by decide)) rfl
   exact Rg.op_value rfl rfl (Rg.ex_field a.eval _ 31 (.tmp 6) 1 rfl (by rw [e6]; simp [go_sem])) (hK _ _ rfl (still 2 (by decide) (by decide)) fun _ _ _ _ _ _ _ h => h)
  ·obtain rfl := Option.some.inj ho
   have n7 : ¬ D 7 := fun h => hnd (hc 4 _ (hc 5 _ (hc 6 _ (hc 7 _ h rfl ⟨6,.data⟩ (by simp) rfl) rfl ⟨5,.data⟩ (by simp) rfl) rfl ⟨4,.data⟩ (by simp) rfl) rfl ⟨3,.data⟩ (by simp) rfl)
   have e35 : a.eval (.tmp 35) = .pointer (some ⟨b6,1,none⟩) := seen.at_ ⟨2,.data⟩ (by simp) rfl (Or.inr (by decide)) _ rfl
   have y := (H6.out.on (hF.1 n7)).cell 1
   simp only [List.getElem?_toArray,List.getElem?_cons_zero,List.getElem?_cons_succ] at y
   exact Rg.op_value rfl rfl (Rg.ex_load a.eval _ 25 (.tmp 35) rfl (by rw [e35]; simp [go_sem,y])) (hK _ _ rfl (still 3 (by decide) (by decide)) fun _ _ _ _ _ _ _ h => h)
  ·obtain rfl := Option.some.inj ho
   have e36 : a.eval (.tmp 36) = .slice no nn nc := seen.at_ ⟨3,.data⟩ (by simp) rfl (Or.inr (by decide)) _ rfl
   exact Rg.op_value rfl rfl (Rg.ex_index a.eval _ 25 (.tmp 36) (.const (.int .i64 0)) rfl (by rw [e36]; exact IX.out x)) (hK _ _ rfl (still 4 (by decide) (by decide)) fun _ _ _ _ _ _ _ h => h)
  ·obtain rfl := Option.some.inj ho
   have n7 : ¬ D 7 := fun h => hnd (hc 6 _ (hc 7 _ h rfl ⟨6,.data⟩ (by simp) rfl) rfl ⟨5,.data⟩ (by simp) rfl)
   have e37 : a.eval (.tmp 37) = .pointer (some p) := seen.at_ ⟨4,.data⟩ (by simp) rfl (Or.inr (by decide)) _ rfl
   have y := PX.out x (hF.1 n7)
   exact Rg.op_value rfl rfl (Rg.ex_load a.eval _ 3 (.tmp 37) rfl (by rw [e37]; simp [go_sem,y])) (hK _ _ rfl (still 5 (by decide) (by decide)) fun _ _ _ _ _ _ _ h => h)
  ·obtain rfl := Option.some.inj ho
   have n7 : ¬ D 7 := fun h => hnd (hc 7 _ h rfl ⟨6,.data⟩ (by simp) rfl)
   have n9 : ¬ D 9 := fun h => n7 (hc 9 _ h rfl ⟨7,.data⟩ (by simp) rfl)
   have e38 : a.eval (.tmp 38) = .int .i64 z := seen.at_ ⟨5,.data⟩ (by simp) rfl (Or.inr (by decide)) _ rfl
   have hb := hF.1 n7
   have hl := row_lit Nm.okI x [z] 1 rfl (by simp) #[.int .i64 z] (by rfl)
   have nb := newB x (.cells #[.int .i64 z] 3)
   have ff : wF W F0 b6 #[.int .i64 me,.slice no nn nc,y2,y3,y4,y5] (.slice no nn nc) z l (fun j => j = 6 ∨ D j) (x.alloc (.cells #[.int .i64 z] 3)) := ⟨fun _ => hb.trans (nb.mono hb.size),fun h => absurd (h.resolve_left (by decide)) n7,fun h => absurd (h.resolve_left (by decide)) n9⟩
   have st : ∀ j u,j < 10 → D j → j ≠ 6 → wV W.heap.size F0 b6 (.slice no nn nc) p z l j u x → wV W.heap.size F0 b6 (.slice no nn nc) p z l j u (x.alloc (.cells #[.int .i64 z] 3)) := fun j u hj dj ni h => by
    rcases (by omega : j = 0 ∨ j = 1 ∨ j = 2 ∨ j = 3 ∨ j = 4 ∨ j = 5 ∨ j = 6 ∨ j = 7 ∨ j = 8 ∨ j = 9) with rfl | rfl | rfl | rfl | rfl | rfl | rfl | rfl | rfl | rfl
    ·exact h
    ·exact h
    ·exact h
    ·exact h
    ·exact h
    ·exact h
    ·exact absurd rfl ni
    ·exact absurd dj n7
    ·exact h
    ·exact h
   have q := hK (.slice (some ⟨x.heap.size,0,none⟩) 1 1) (x.alloc (.cells #[.int .i64 z] 3)) (own_fewer hl hb.size) ff fun j u hj dj _ _ ni h => st j u hj dj ni h
   exact Rg.op_value rfl rfl (Rg.ex_build a.eval _ 25 1 #[(0,.tmp 38)] rfl (ps := #[(0,.int .i64 z)]) (by simp [e38]) (by simp [go_sem])) q
  ·obtain rfl := Option.some.inj ho
   have n9 : ¬ D 9 := fun h => hnd (hc 9 _ h rfl ⟨7,.data⟩ (by simp) rfl)
   have e34 : a.eval (.tmp 34) = .slice no nn nc := seen.at_ ⟨1,.data⟩ (by simp) rfl (Or.inr (by decide)) _ rfl
   have o39 : OwnI x W.heap.size (a.eval (.tmp 39)) [z] := seen.at_ ⟨6,.data⟩ (by simp) rfl (Or.inl rfl) _ rfl
   have hb := hF.1 hnd
   obtain ⟨v',x',r,o',gr⟩ := app_row Nm.okI F0 (Bk.own_on HO.out hb) (Row.of_own o39) (Nat.le_trans HL.out (by decide)) (by simp) (Nat.le_trans FW.out hb.size) 25
   have ff : wF W F0 b6 #[.int .i64 me,.slice no nn nc,y2,y3,y4,y5] (.slice no nn nc) z l (fun j => j = 7 ∨ D j) x' := ⟨fun h => absurd (Or.inl rfl) h,fun _ _ => ⟨x,hb,gr,(box_app (Bk.own_on HO.out hb) gr (H6.out.on hb) (by decide))⟩,fun h => absurd (h.resolve_left (by decide)) n9⟩
   have st : ∀ j u,j < 10 → D j → (fun i => if i = 6 then 7 else 10) j ≠ 7 → j ≠ 7 → wV W.heap.size F0 b6 (.slice no nn nc) p z l j u x → wV W.heap.size F0 b6 (.slice no nn nc) p z l j u x' := fun j u hj dj nx ni h => by
    rcases (by omega : j = 0 ∨ j = 1 ∨ j = 2 ∨ j = 3 ∨ j = 4 ∨ j = 5 ∨ j = 6 ∨ j = 7 ∨ j = 8 ∨ j = 9) with rfl | rfl | rfl | rfl | rfl | rfl | rfl | rfl | rfl | rfl
    ·exact h
    ·exact h
    ·exact h
    ·exact h
    ·exact h
    ·exact h
    ·exact absurd rfl nx
    ·exact absurd rfl ni
    ·exact h
    ·exact h
   have q := hK v' x' o' ff fun j u hj dj _ nx ni h => st j u hj dj nx ni h
   exact Rg.op_value rfl rfl (Rg.ex_append a.eval _ (.tmp 34) (.tmp 39) 25 rfl e34 rfl r) q
  ·obtain rfl := Option.some.inj ho
   have e6 : a.eval (.tmp 6) = .pointer (some ⟨b6,0,none⟩) := seen.kp 6 _ (nd 6 (by decide)) rfl
   exact Rg.op_value rfl rfl (Rg.ex_field a.eval _ 31 (.tmp 6) 1 rfl (by rw [e6]; simp [go_sem])) (hK _ _ rfl (still 8 (by decide) (by decide)) fun _ _ _ _ _ _ _ h => h)
  ·obtain rfl := Option.some.inj ho
   have d7 : D 7 := hD ⟨7,.data⟩ (by simp) rfl
   have e41 : a.eval (.tmp 41) = .pointer (some ⟨b6,1,none⟩) := seen.at_ ⟨8,.data⟩ (by simp) rfl (Or.inr (by decide)) _ rfl
   have o40 : OwnI x F0 (a.eval (.tmp 40)) (l ++ [z]) := seen.at_ ⟨7,.data⟩ (by simp) rfl (Or.inr (by decide)) _ rfl
   obtain ⟨x0,h1,h2,h3⟩ := hF.2.1 d7 hnd
   generalize hv40 : a.eval (.tmp 40) = v40 at *
   obtain ⟨ca,cp,eR⟩ := (Row.of_own o40).len
   have c1 := h3.cell 1
   have f1 := h3.fr 1
   simp only [List.getElem?_toArray,List.getElem?_cons_zero,List.getElem?_cons_succ] at c1
   have ff : wF W F0 b6 #[.int .i64 me,.slice no nn nc,y2,y3,y4,y5] (.slice no nn nc) z l (fun j => j = 9 ∨ D j) (x.setCell ⟨b6,1,none⟩ v40) := ⟨fun h => absurd (Or.inr d7) h,fun _ h => absurd (Or.inl rfl) h,fun _ => ⟨x0,x,v40,h1,h2,h3,o40,rfl⟩⟩
   have q := hK (.bool true) (x.setCell ⟨b6,1,none⟩ v40) trivial ff fun j u hj dj nl _ ni h => by
    rcases (by omega : j = 0 ∨ j = 1 ∨ j = 2 ∨ j = 3 ∨ j = 4 ∨ j = 5 ∨ j = 6 ∨ j = 7 ∨ j = 8 ∨ j = 9) with rfl | rfl | rfl | rfl | rfl | rfl | rfl | rfl | rfl | rfl
    ·exact h
    ·exact h
    ·exact h
    ·exact h
    ·exact h
    ·exact h
    ·exact absurd d7 nl
    ·exact (but_cell x b6 1 v40).own h h3 (by decide)
    ·exact h
    ·trivial
   have q2 : K a (x.setCell ⟨b6,1,none⟩ v40) := q
   exact Rg.op_store 25 (.tmp 41) (.tmp 40) rfl rfl rfl rfl e41 hv40 (by rw [eR]; simp [go_sem,c1,f1]) q2
 ·intro a x df sz kp ⟨vs,hv⟩ ⟨D,hall,hF⟩
  obtain ⟨x0,x1,v',h1,h2,h3,h4,rfl⟩ := hF.2.2 (hall 9 (by omega))
  have kp2 : ∀ j,(j < 33 ∨ 42 ≤ j) → a.tmps[j]? = (u0 :: u1 :: u2 :: u3 :: u4 :: u5 :: .pointer (some ⟨b6,0,none⟩) :: u7 :: u8 :: u9 :: u10 :: u11 :: u12 :: u13 :: u14 :: u15 :: u16 :: u17 :: u18 :: u19 :: u20 :: u21 :: u22 :: u23 :: u24 :: u25 :: u26 :: u27 :: u28 :: u29 :: u30 :: u31 :: u32 :: u33 :: u34 :: u35 :: u36 :: u37 :: u38 :: u39 :: u40 :: u41 :: u42 :: u43 :: u44 :: u45 :: u46 :: u47 :: u48 :: u49 :: u50 :: u51 :: u52 :: u53 :: u54 :: u55 :: u56 :: u57 :: u58 :: u59 :: u60 :: u61 :: u62 :: u63 :: u64 :: u65 :: u66 :: u67 :: u68 :: u69 :: u70 :: u71 :: u72 :: u73 :: u74 :: u75 :: u76 :: u77 :: u78 :: u79 :: u80 :: u81 :: u82 :: u83 :: u84 :: u85 :: u86 :: u87 :: u88 :: u89 :: u90 :: u91 :: u92 :: u93 :: u94 :: u95 :: u96 :: u97 :: [])[j]? := fun j hj => (kp j (nd j fun i hi h => by have := (by decide : ∀ i,i < 10 → ∀ q ∈ [some 33,some 34,some 35,some 36,some 37,some 38,some 39,some 40,some 41,none].getD i none,33 ≤ q ∧ q < 42) i hi j h; omega)).trans List.getElem?_toArray
  obtain ⟨mid,hmid,hfr⟩ := Rg.frame_mid (a := a) 33 9 df sz (by simp) kp2
  rw [hfr]
  match mid,hmid with
  | [v33,v34,v35,v36,v37,v38,v39,v40,v41],_ => exact HQ.out x0 x1 v' v33 v34 v35 v36 v37 v38 v39 v40 v41 h1 h2 h3 h4
theorem sameBr_chain (a b : Br) : sameBr a b = (a.me == b.me && (sameG eqZ a.near b.near && (sameG eqI a.seen b.seen && (sameG eqD a.adv b.adv && (sameG eqE a.ent b.ent && sameG eqW a.own b.own))))) := by
 rw [Bool.eq_iff_iff,sameBr_iff]
 obtain ⟨m,n,d,s,e,o⟩ := a
 obtain ⟨m',n',d',s',e',o'⟩ := b
 simp only [Bool.and_eq_true,beq_iff_eq,sameG_iff eqZ_iff,sameG_iff eqI_iff,sameG_iff eqE_iff,sameG_iff eqD_iff,sameG_iff eqW_iff,Br.mk.injEq]
 constructor
 ·rintro ⟨h1,h2,h3,h4,h5,h6⟩
  exact ⟨h1,h2,h4,h3,h5,h6⟩
 ·rintro ⟨h1,h2,h4,h3,h5,h6⟩
  exact ⟨h1,h2,h3,h4,h5,h6⟩
theorem asame_any (a b : Br) (nv av sv ev ov nv2 av2 sv2 ev2 ov2 : Sl) (w : World) (ha : BrIn w a nv av sv ev ov) (hb : BrIn w b nv2 av2 sv2 ev2 ov2) (fa : Few a) (pa : ∀ p,(∃ x ∈ a.adv,x.p = p) ∨ (∃ x ∈ a.ent,x.p = p) ∨ (∃ x ∈ a.own,x.p = p) → p.length ≤ 1000000) :
  Calls Tryz.prog 8 #[brv a.me nv av sv ev ov,brv b.me nv2 av2 sv2 ev2 ov2] w fun e w' => e = .returned (.bool (sameBr a b)) ∧ Below w.heap.size w w' := by
 obtain ⟨xn,xnn,xnc⟩ := nv
 obtain ⟨xa,xan,xac⟩ := av
 obtain ⟨xs,xsn,xsc⟩ := sv
 obtain ⟨xe,xen,xec⟩ := ev
 obtain ⟨xw,xwn,xwc⟩ := ov
 obtain ⟨yn,ynn,ync⟩ := nv2
 obtain ⟨ya,yan,yac⟩ := av2
 obtain ⟨ys,ysn,ysc⟩ := sv2
 obtain ⟨ye,yen,yec⟩ := ev2
 obtain ⟨yw,ywn,ywc⟩ := ov2
 rw [sameBr_chain]
 obtain ⟨lA,hA1,hA2⟩ := ha.adv
 obtain ⟨lB,hB1,hB2⟩ := hb.adv
 obtain ⟨mA,iA1,iA2⟩ := ha.ent
 obtain ⟨mB,iB1,iB2⟩ := hb.ent
 obtain ⟨kA,jA1,jA2⟩ := ha.own
 obtain ⟨kB,jB1,jB2⟩ := hb.own
 have C1 := fun W' (h : Below w.heap.size w W') => eqI_any (.slice xn xnn xnc) (.slice yn ynn ync) a.near b.near W' (ha.near.on h) (hb.near.on h) (by have := fa.near; omega)
 have C2 := fun W' (h : Below w.heap.size w W') => eqJ_any (.slice xs xsn xsc) (.slice ys ysn ysc) a.seen b.seen W' (ha.seen.on h) (hb.seen.on h) (by have := fa.seen; omega)
 have C3 := fun W' (h : Below w.heap.size w W') => eqfD_any (xa,xan,xac) (ya,yan,yac) lA lB a.adv b.adv W' (hA1.on h) (hB1.on h) (hA2.mono fun _ _ q => q.on h) (hB2.mono fun _ _ q => q.on h) (fun x hx => pa x.p (Or.inl ⟨x,hx,rfl⟩))
 have C4 := fun W' (h : Below w.heap.size w W') => eqfN_any (xe,xen,xec) (ye,yen,yec) mA mB a.ent b.ent W' (iA1.on h) (iB1.on h) (iA2.mono fun _ _ q => q.on h) (iB2.mono fun _ _ q => q.on h) (fun x hx => pa x.p (Or.inr (Or.inl ⟨x,hx,rfl⟩)))
 have C5 := fun W' (h : Below w.heap.size w W') => eqfW_any (xw,xwn,xwc) (yw,ywn,ywc) kA kB a.own b.own W' (jA1.on h) (jB1.on h) (jA2.mono fun _ _ q => q.on h) (jB2.mono fun _ _ q => q.on h) (fun x hx => pa x.p (Or.inr (Or.inr ⟨x,hx,rfl⟩)))
 obtain ⟨r0,hr0⟩ : ∃ r,(a.me == b.me) = r := ⟨_,rfl⟩
 generalize sameG eqZ a.near b.near = r1 at *
 generalize sameG eqI a.seen b.seen = r2 at *
 generalize sameG eqD a.adv b.adv = r3 at *
 generalize sameG eqE a.ent b.ent = r4 at *
 generalize sameG eqW a.own b.own = r5 at *
 rw [hr0]
 obtain ⟨h0,X,Y⟩ := two_new w #[.int .i64 a.me,.slice xn xnn xnc,.slice xa xan xac,.slice xs xsn xsc,.slice xe xen xec,.slice xw xwn xwc] #[.int .i64 b.me,.slice yn ynn ync,.slice ya yan yac,.slice ys ysn ysc,.slice ye yen yec,.slice yw ywn ywc] 31 31
 have B0 := Lib.hid h0
 have X0 := Lib.hid X
 have Y0 := Lib.hid Y
 have C1 := Lib.hid C1
 have C2 := Lib.hid C2
 have C3 := Lib.hid C3
 have C4 := Lib.hid C4
 have C5 := Lib.hid C5
 obtain ⟨cx0,cx1,cx2,cx3,cx4,cx5⟩ := X.cs6
 obtain ⟨cy0,cy1,cy2,cy3,cy4,cy5⟩ := Y.cs6
 clear h0 X Y ha hb fa pa hA1 hA2 hB1 hB2 iA1 iA2 iB1 iB2 jA1 jA2 jB1 jB2
 go_enter Tryz.func8,Tryz.ntmps8
 cases r0
 ·go_wp2_with fail
  go_ret
  exact ⟨rfl,B0.out⟩
 ·go_wp2_with fail
  generalize (w.alloc (.cells #[.int .i64 a.me,.slice xn xnn xnc,.slice xa xan xac,.slice xs xsn xsc,.slice xe xen xec,.slice xw xwn xwc] 31)).alloc (.cells #[.int .i64 b.me,.slice yn ynn ync,.slice ya yan yac,.slice ys ysn ysc,.slice ye yen yec,.slice yw ywn ywc] 31) = W0 at *
  refine (C1.out _ B0.out).mono ?_
  rintro e1 W1 ⟨rfl,hb⟩
  have B1 := Lib.hid (B0.out.trans (hb.mono B0.out.size))
  have X1 := Lib.hid (X0.out.on hb)
  have Y1 := Lib.hid (Y0.out.on hb)
  clear hb cx0 cx1 cx2 cx3 cx4 cx5 cy0 cy1 cy2 cy3 cy4 cy5
  obtain ⟨cx0,cx1,cx2,cx3,cx4,cx5⟩ := X1.out.cs6
  obtain ⟨cy0,cy1,cy2,cy3,cy4,cy5⟩ := Y1.out.cs6
  cases r1
  ·go_wp2_with fail
   go_ret
   exact ⟨rfl,B1.out⟩
  ·go_wp2_with fail
   refine (C2.out _ B1.out).mono ?_
   rintro e2 W2 ⟨rfl,hb⟩
   have B2 := Lib.hid (B1.out.trans (hb.mono B1.out.size))
   have X2 := Lib.hid (X1.out.on hb)
   have Y2 := Lib.hid (Y1.out.on hb)
   clear hb cx0 cx1 cx2 cx3 cx4 cx5 cy0 cy1 cy2 cy3 cy4 cy5
   obtain ⟨cx0,cx1,cx2,cx3,cx4,cx5⟩ := X2.out.cs6
   obtain ⟨cy0,cy1,cy2,cy3,cy4,cy5⟩ := Y2.out.cs6
   cases r2
   ·go_wp2_with fail
    go_ret
    exact ⟨rfl,B2.out⟩
   ·go_wp2_with fail
    refine (C3.out _ B2.out).mono ?_
    rintro e3 W3 ⟨rfl,hb⟩
    have B3 := Lib.hid (B2.out.trans (hb.mono B2.out.size))
    have X3 := Lib.hid (X2.out.on hb)
    have Y3 := Lib.hid (Y2.out.on hb)
    clear hb cx0 cx1 cx2 cx3 cx4 cx5 cy0 cy1 cy2 cy3 cy4 cy5
    obtain ⟨cx0,cx1,cx2,cx3,cx4,cx5⟩ := X3.out.cs6
    obtain ⟨cy0,cy1,cy2,cy3,cy4,cy5⟩ := Y3.out.cs6
    cases r3
    ·go_wp2_with fail
     go_ret
     exact ⟨rfl,B3.out⟩
    ·go_wp2_with fail
     refine (C4.out _ B3.out).mono ?_
     rintro e4 W4 ⟨rfl,hb⟩
     have B4 := Lib.hid (B3.out.trans (hb.mono B3.out.size))
     have X4 := Lib.hid (X3.out.on hb)
     have Y4 := Lib.hid (Y3.out.on hb)
     clear hb cx0 cx1 cx2 cx3 cx4 cx5 cy0 cy1 cy2 cy3 cy4 cy5
     obtain ⟨cx0,cx1,cx2,cx3,cx4,cx5⟩ := X4.out.cs6
     obtain ⟨cy0,cy1,cy2,cy3,cy4,cy5⟩ := Y4.out.cs6
     cases r4
     ·go_wp2_with fail
      go_ret
      exact ⟨rfl,B4.out⟩
     ·go_wp2_with fail
      refine (C5.out _ B4.out).mono ?_
      rintro e5 W5 ⟨rfl,hb⟩
      have B5 := Lib.hid (B4.out.trans (hb.mono B4.out.size))
      clear hb cx0 cx1 cx2 cx3 cx4 cx5 cy0 cy1 cy2 cy3 cy4 cy5
      go_wp2_with fail
      go_ret
      exact ⟨rfl,B5.out⟩
theorem run_again : learnB runB ⟨(1,0),[],2⟩ = (runB,false) := rfl
theorem run_far : forgetF runB (1,0) 3 = (runB,false) := rfl
theorem run_ok : okBr runB = true := by decide
theorem runB_few : Few runB := ⟨by simp,by simp,by simp,by simp,by simp⟩
theorem runB_fewp : FewP runB := ⟨by simp,by simp,by simp⟩
theorem runB_tame : TameB runB := ⟨by simp [Tame],by simp,by simp⟩
theorem runs_any (w : World) : Calls Tryz.prog 11 #[] w fun e w' => e = .returned (.bool true) ∧ Below w.heap.size w w' := by
 have n0 := newB w (.cells #[.int .i64 1,.int .i64 0,.slice none 0 0,.int .i64 2] 41)
 have X := Lib.hid (box_new w #[.int .i64 1,.int .i64 0,.slice none 0 0,.int .i64 2] 41)
 have B0 := Lib.hid n0
 clear n0
 go_enter Tryz.func11,Tryz.ntmps11
 go_upto_region 2 with fail
 generalize w.alloc (.cells #[.int .i64 1,.int .i64 0,.slice none 0 0,.int .i64 2] 41) = W at *
 refine run2 _ W w.heap.size _ _ _ _ _ _ _ _ _ _ _ _ _ _ _ _ _ _ _ _ _ _ _ _ _ _ _ _ _ _ _ _ _ _ _ _ _ _ _ _ _ _ _ _ _ _ _ _ _ _ _ _ _ _ X.out ?_
 intro x bb v4 v5 v6 v7 v8 v9 v10 v11 v12 v13 v14 v15 v16 m1 m2 m3 m4 m5 m6 m7 m8 m9 m10 m11 m12 m13 m14 m15 hbb hbox hbr hbel
 have XB := Lib.hid hbox
 have BR := Lib.hid hbr
 have XA := Lib.hid (X.out.on hbel)
 have B1 := Lib.hid (B0.out.trans (hbel.mono B0.out.size))
 have BBL := Lib.hid (Nat.le_trans B0.out.size hbb)
 clear hbb hbox hbr hbel X
 obtain ⟨cb0,cb1,cb2,cb3,cb4,cb5⟩ := XB.out.cs6
 obtain ⟨ca0,ca1,ca2,ca3⟩ := XA.out.cs4
 go_wp2_with fail
 have C := learn_any runB ⟨(1,0),[],2⟩ (m1,m2,m3) (m4,m5,m6) (m7,m8,m9) (m10,m11,m12) (m13,m14,m15) (1,0,(none,0,0),2) x BR.out.br ⟨rfl,rfl,row_nil _⟩ runB_few runB_fewp (by simp) (List.pairwise_singleton _ _) (List.pairwise_singleton _ _)
 rw [run_again] at C
 refine C.mono ?_
 rintro e2 w2 ⟨⟨⟨q1,q2,q3⟩,⟨q4,q5,q6⟩,⟨q7,q8,q9⟩,⟨q10,q11,q12⟩,⟨q13,q14,q15⟩,rfl,_,_⟩,hb⟩
 have N2 := newB w2 (.cells #[.int .i64 0,.slice q1 q2 q3,.slice q4 q5 q6,.slice q7 q8 q9,.slice q10 q11 q12,.slice q13 q14 q15] 31)
 have HB := hb.trans (N2.mono hb.size)
 have YB := Lib.hid (XB.out.on HB)
 have YA := Lib.hid (XA.out.on HB)
 have BR2 := Lib.hid (BR.out.on HB)
 have B2 := Lib.hid (B1.out.trans (HB.mono B1.out.size))
 clear hb N2 HB C XB XA BR cb0 cb1 cb2 cb3 cb4 cb5 ca0 ca1 ca2 ca3
 obtain ⟨cb0,cb1,cb2,cb3,cb4,cb5⟩ := YB.out.cs6
 obtain ⟨ca0,ca1,ca2,ca3⟩ := YA.out.cs4
 go_wp2_with fail
 generalize w2.alloc (.cells #[.int .i64 0,.slice q1 q2 q3,.slice q4 q5 q6,.slice q7 q8 q9,.slice q10 q11 q12,.slice q13 q14 q15] 31) = w3 at *
 have C := forget_any runB (1,0) 3 (m1,m2,m3) (m4,m5,m6) (m7,m8,m9) (m10,m11,m12) (m13,m14,m15) w3 BR2.out.br runB_few runB_fewp
 rw [run_far] at C
 refine C.mono ?_
 rintro e3 w4 ⟨⟨⟨r1,r2,r3⟩,⟨r4,r5,r6⟩,⟨r7,r8,r9⟩,⟨r10,r11,r12⟩,⟨r13,r14,r15⟩,rfl,_,_⟩,hb⟩
 have N2 := newB w4 (.cells #[.int .i64 0,.slice r1 r2 r3,.slice r4 r5 r6,.slice r7 r8 r9,.slice r10 r11 r12,.slice r13 r14 r15] 31)
 have HB := hb.trans (N2.mono hb.size)
 have ZB := Lib.hid (YB.out.on HB)
 have ZA := Lib.hid (YA.out.on HB)
 have BR3 := Lib.hid (BR2.out.on HB)
 have B3 := Lib.hid (B2.out.trans (HB.mono B2.out.size))
 clear hb N2 HB C YB YA BR2 cb0 cb1 cb2 cb3 cb4 cb5 ca0 ca1 ca2 ca3
 obtain ⟨cb0,cb1,cb2,cb3,cb4,cb5⟩ := ZB.out.cs6
 obtain ⟨ca0,ca1,ca2,ca3⟩ := ZA.out.cs4
 have N4 := newB (w4.alloc (.cells #[.int .i64 0,.slice r1 r2 r3,.slice r4 r5 r6,.slice r7 r8 r9,.slice r10 r11 r12,.slice r13 r14 r15] 31)) (.cells #[.int .i64 2,.int .i64 3] 3)
 have hl := Row.of_own (row_lit Nm.okI (w4.alloc (.cells #[.int .i64 0,.slice r1 r2 r3,.slice r4 r5 r6,.slice r7 r8 r9,.slice r10 r11 r12,.slice r13 r14 r15] 31)) [2,3] 2 rfl (by simp) #[.int .i64 2,.int .i64 3] rfl)
 have hsz : (w4.alloc (.cells #[.int .i64 0,.slice r1 r2 r3,.slice r4 r5 r6,.slice r7 r8 r9,.slice r10 r11 r12,.slice r13 r14 r15] 31)).heap.size = w4.heap.size + 1 := by simp
 rw [hsz] at hl
 have C := Lib.hid (sameI (.slice m1 m2 m3) (.slice (some ⟨w4.heap.size + 1,0,none⟩) 2 2) [2,3] [2,3] _ ((BR3.out.br.near).on N4) hl)
 have B4 := Lib.hid (B3.out.trans (N4.mono B3.out.size))
 have BR4 := Lib.hid (BR3.out.on N4)
 have XB4 := Lib.hid (ZB.out.on N4)
 have XA4 := Lib.hid (ZA.out.on N4)
 clear hl hsz N4 BR3
 go_wp2_with fail
 refine C.out.mono ?_
 rintro e5 w5 ⟨rfl,hb⟩
 have B5 := Lib.hid (B4.out.trans (hb.mono B4.out.size))
 have BR5 := Lib.hid (BR4.out.on hb)
 have XB5 := Lib.hid (XB4.out.on hb)
 have XA5 := Lib.hid (XA4.out.on hb)
 clear hb C BR4 XB4 XA4 ZB ZA cb0 cb1 cb2 cb3 cb4 cb5 ca0 ca1 ca2 ca3
 have e6 : decide (([2,3] : List Int) = [2,3]) = true := rfl
 obtain ⟨cb0,cb1,cb2,cb3,cb4,cb5⟩ := XB5.out.cs6
 obtain ⟨ca0,ca1,ca2,ca3⟩ := XA5.out.cs4
 go_wp2_with fail
 refine (aseen_any 0 (.slice m1 m2 m3) (.slice m4 m5 m6) (.slice m10 m11 m12) (.slice m13 m14 m15) (m7,m8,m9) [(1,0)] (1,0) w5 BR5.out.br.seen).mono ?_
 rintro e7 w7 ⟨rfl,hb⟩
 have B7 := Lib.hid (B5.out.trans (hb.mono B5.out.size))
 have BR7 := Lib.hid (BR5.out.on hb)
 have XB7 := Lib.hid (XB5.out.on hb)
 clear hb BR5 XB5 XA5 e6 cb0 cb1 cb2 cb3 cb4 cb5 ca0 ca1 ca2 ca3
 have e8 : decide (((1,0) : XID) ∈ [((1,0) : XID)]) = true := rfl
 obtain ⟨cb0,cb1,cb2,cb3,cb4,cb5⟩ := XB7.out.cs6
 go_wp2_with fail
 have C := aright_any runB (m1,m2,m3) (m4,m5,m6) (m7,m8,m9) (m10,m11,m12) (m13,m14,m15) w7 BR7.out.br runB_few runB_tame
 rw [run_ok] at C
 refine C.mono ?_
 rintro e9 w9 ⟨rfl,hb⟩
 have B9 := Lib.hid (B7.out.trans (hb.mono B7.out.size))
 clear hb C
 go_wp2
 go_ret
 exact ⟨rfl,B9.out⟩
end Go.Proofs.YtncogjpmboglhaaGreat.Av
