/-
  The last region of drop: the message of its end put behind the others,. Conditions as told.
-/
import Derived.Test.YtncogjpmboglhaaGreatQ025
import Derived.Test.YtncogjpmboglhaaGreatQ018
import Derived.Test.YtncogjpmboglhaaGreatQ021
import Derived.Test.YtncogjpmboglhaaGreatQ022
import Derived.Test.YtncogjpmboglhaaGreatQ014
set_option maxRecDepth 100000
set_option maxHeartbeats 64000000
namespace Go.Proofs.YtncogjpmboglhaaGreat.Bk
open Go.RowKit Go.Sort Rw YtncogjpmboglhaaGreat.Nm Pr
def dV (W F0 : Nat) (bv rv : Value) (to_ c d c2 d2 : Int) (lo : List XOu) (i : Nat) (v : Value) (x : World) : Prop :=
 match i with
 | 0 => v = bv
 | 1 => v = rv
 | 2 => v = .int .i64 to_
 | 3 => v = idv (c,d)
 | 4 => v = idv (c2,d2)
 | 5 => v = .agg #[.int .i64 4,.int .i64 c,.int .i64 d,.int .i64 c2,.int .i64 d2,.slice none 0 0,.slice none 0 0]
 | 6 => v = valU (to_,4,c,d,c2,d2,(none,0,0),(none,0,0))
 | 7 => OwnU x W v [(to_,4,c,d,c2,d2,(none,0,0),(none,0,0))]
 | 8 => ∃ sl : Sl,v = slv sl ∧ OwnU x F0 v (lo ++ [(to_,4,c,d,c2,d2,(none,0,0),(none,0,0))])
 | 10 => ∃ sl : Sl,v = slv sl ∧ OwnU x F0 v (lo ++ [(to_,4,c,d,c2,d2,(none,0,0),(none,0,0))])
 | _ => True
def dF (W : World) (F0 b4 b5 b6 b8 : Nat) (bc : Array Value) (c d c2 d2 : Int) (D : Nat → Prop) (x : World) : Prop :=
 (Box x b4 bc 31 ∧ Box x b5 #[.int .i64 c,.int .i64 d] 38 ∧ Box x b6 #[.int .i64 c2,.int .i64 d2] 38) ∧ (¬ D 8 → Below W.heap.size W x) ∧ (¬ D 9 → Below F0 W x) ∧ (D 9 → Box x b8 bc 31 ∧ (∀ j,j < F0 → j ≠ b8 → x.heap[j]? = W.heap[j]?) ∧ ∀ B,B ≤ b8 → Below B W x)
noncomputable def dropR11 : Code := ((Tryz.f97.body.bind (findRegion 11)).getD .skip)
theorem drop_r11 (Q : Exit → Act → World → Prop) (W : World) (F0 b4 b5 b6 b8 : Nat) (me to_ c d c2 d2 : Int) (o1 o2 o3 o4 o5 : Option Addr) (n1 k1 n2 k2 n3 k3 n4 k4 n5 k5 : Nat) (rv : Value) (lo : List XOu) (z0 z1 z2 z3 z4 z5 : Value) (u0 u1 u2 u3 u7 u9 u10 u11 u14 u15 u16 u17 u18 u19 u20 u21 u22 u23 u24 u25 u26 u27 u28 u29 u30 u31 u32 u33 u34 u35 u36 u37 u38 u39 u40 u41 u42 u43 u44 u45 u46 u47 u48 u49 u50 u51 u52 u53 u54 u55 u56 u57 u58 : Value)
  (h4 : Box W b4 #[.int .i64 me,.slice o1 n1 k1,.slice o2 n2 k2,.slice o3 n3 k3,.slice o4 n4 k4,.slice o5 n5 k5] 31) (h5 : Box W b5 #[.int .i64 c,.int .i64 d] 38) (h6 : Box W b6 #[.int .i64 c2,.int .i64 d2] 38) (h8 : Box W b8 #[z0,z1,z2,z3,z4,z5] 31) (l4 : b4 < F0) (l5 : b5 < F0) (l6 : b6 < F0) (l8 : b8 < F0) (n4_ : b4 ≠ b8) (n5_ : b5 ≠ b8) (n6_ : b6 ≠ b8) (fw : F0 ≤ W.heap.size) (hown : OwnU W F0 rv lo) (hlen : lo.length ≤ 1000)
  (hQ : ∀ (a : Act) (x : World) (sl : Sl),a.defers = [] → a.tmps[8]? = some (.pointer (some ⟨b8,0,none⟩)) → a.tmps[9]? = some (slv sl) → Box x b8 #[.int .i64 me,.slice o1 n1 k1,.slice o2 n2 k2,.slice o3 n3 k3,.slice o4 n4 k4,.slice o5 n5 k5] 31 → OwnU x F0 (slv sl) (lo ++ [(to_,4,c,d,c2,d2,(none,0,0),(none,0,0))]) → (∀ k,k < F0 → k ≠ b8 → x.heap[k]? = W.heap[k]?) → (∀ B,B ≤ b8 → Below B W x) → Q .normal a x) :
  Code.wp Tryz.prog dropR11 Q ⟨(u0 :: u1 :: u2 :: u3 :: .pointer (some ⟨b4,0,none⟩) :: .pointer (some ⟨b5,0,none⟩) :: .pointer (some ⟨b6,0,none⟩) :: u7 :: .pointer (some ⟨b8,0,none⟩) :: u9 :: u10 :: u11 :: .int .i64 to_ :: rv :: u14 :: u15 :: u16 :: u17 :: u18 :: u19 :: u20 :: u21 :: u22 :: u23 :: u24 :: u25 :: u26 :: u27 :: u28 :: u29 :: u30 :: u31 :: u32 :: u33 :: u34 :: u35 :: u36 :: u37 :: u38 :: u39 :: u40 :: u41 :: u42 :: u43 :: u44 :: u45 :: u46 :: u47 :: u48 :: u49 :: u50 :: u51 :: u52 :: u53 :: u54 :: u55 :: u56 :: u57 :: u58 :: []).toArray,[]⟩ W := by
 have HQ := Lib.hid hQ
 have H4 := Lib.hid h4
 have H5 := Lib.hid h5
 have H6 := Lib.hid h6
 have H8 := Lib.hid h8
 have L4 := Lib.hid l4
 have L5 := Lib.hid l5
 have L6 := Lib.hid l6
 have L8 := Lib.hid l8
 have N4 := Lib.hid n4_
 have N5 := Lib.hid n5_
 have N6 := Lib.hid n6_
 have FW := Lib.hid fw
 have HO := Lib.hid hown
 have HL := Lib.hid hlen
 clear hQ h4 h5 h6 h8 l4 l5 l6 l8 n4_ n5_ n6_ fw hown hlen
 unfold dropR11
 conv => arg 2; whnf
 have nd : ∀ j,(∀ i,i < 11 → [some 50,some 51,some 52,some 53,some 54,some 55,some 56,some 57,some 58,none,some 9].getD i none ≠ some j) → ∀ i,i < 11 → (fun i => [some 50,some 51,some 52,some 53,some 54,some 55,some 56,some 57,some 58,none,some 9].getD i none) i ≠ some j := fun j h => h
 refine Rg.region_done 11 (fun i => [some 50,some 51,some 52,some 53,some 54,some 55,some 56,some 57,some 58,none,some 9].getD i none) (fun i => if i = 7 then 8 else 11) (dV W.heap.size F0 (.agg #[.int .i64 me,.slice o1 n1 k1,.slice o2 n2 k2,.slice o3 n3 k3,.slice o4 n4 k4,.slice o5 n5 k5]) rv to_ c d c2 d2 lo) (dF W F0 b4 b5 b6 b8 #[.int .i64 me,.slice o1 n1 k1,.slice o2 n2 k2,.slice o3 n3 k3,.slice o4 n4 k4,.slice o5 n5 k5] c d c2 d2) (by kernel_rfl) (by kernel_rfl) rfl (fun i j e hi hj h1 h2 => (by decide : ∀ i,i < 11 → ∀ j,j < 11 → ([some 50,some 51,some 52,some 53,some 54,some 55,some 56,some 57,some 58,none,some 9].getD i none).isSome = true → [some 50,some 51,some 52,some 53,some 54,some 55,some 56,some 57,some 58,none,some 9].getD i none = [some 50,some 51,some 52,some 53,some 54,some 55,some 56,some 57,some 58,none,some 9].getD j none → i = j) i hi j hj (by have h1 : [some 50,some 51,some 52,some 53,some 54,some 55,some 56,some 57,some 58,none,some 9].getD i none = some e := h1; rw [h1]; rfl) (h1.trans h2.symm)) (fun i e hi h => (by decide : ∀ i,i < 11 → ∀ q ∈ [some 50,some 51,some 52,some 53,some 54,some 55,some 56,some 57,some 58,none,some 9].getD i none,q < 59) i hi e h) ⟨⟨H4.out,H5.out,H6.out⟩,fun _ => (Below.refl _ _).drew,fun _ => (Below.refl _ _).drew,False.elim⟩ ?_ ?_
 ·intro i o hi ho a x D hnd hc hD hF seen K hK
  clear HQ
  have still : ∀ i,i ≠ 8 → i ≠ 9 → dF W F0 b4 b5 b6 b8 #[.int .i64 me,.slice o1 n1 k1,.slice o2 n2 k2,.slice o3 n3 k3,.slice o4 n4 k4,.slice o5 n5 k5] c d c2 d2 (fun j => j = i ∨ D j) x := fun i h8 h9 => ⟨hF.1,fun h => hF.2.1 fun h2 => h (Or.inr h2),fun h => hF.2.2.1 fun h2 => h (Or.inr h2),fun h => hF.2.2.2 (h.resolve_left (Ne.symm h9))⟩
  rcases (by omega : i = 0 ∨ i = 1 ∨ i = 2 ∨ i = 3 ∨ i = 4 ∨ i = 5 ∨ i = 6 ∨ i = 7 ∨ i = 8 ∨ i = 9 ∨ i = 10) with rfl | rfl | rfl | rfl | rfl | rfl | rfl | rfl | rfl | rfl | rfl
  ·obtain rfl := Option.some.inj ho
   have e4 : a.eval (.tmp 4) = .pointer (some ⟨b4,0,none⟩) := seen.kp 4 _ (nd 4 (by decide)) rfl
   exact Rg.op_value rfl rfl (Rg.ex_load a.eval _ 31 (.tmp 4) rfl (by rw [e4]; exact loadBr hF.1.1)) (hK _ _ rfl (still 0 (by decide) (by decide)) fun _ _ _ _ _ _ _ h => h)
  ·obtain rfl := Option.some.inj ho
   have e13 : a.eval (.tmp 13) = rv := seen.kp 13 _ (nd 13 (by decide)) rfl
   exact Rg.op_value rfl rfl (Rg.ex_move a.eval _ (.tmp 13) rfl x) (hK _ _ e13 (still 1 (by decide) (by decide)) fun _ _ _ _ _ _ _ h => h)
  ·obtain rfl := Option.some.inj ho
   have e12 : a.eval (.tmp 12) = .int .i64 to_ := seen.kp 12 _ (nd 12 (by decide)) rfl
   exact Rg.op_value rfl rfl (Rg.ex_move a.eval _ (.tmp 12) rfl x) (hK _ _ e12 (still 2 (by decide) (by decide)) fun _ _ _ _ _ _ _ h => h)
  ·obtain rfl := Option.some.inj ho
   have e5 : a.eval (.tmp 5) = .pointer (some ⟨b5,0,none⟩) := seen.kp 5 _ (nd 5 (by decide)) rfl
   exact Rg.op_value rfl rfl (Rg.ex_load a.eval _ 38 (.tmp 5) rfl (by rw [e5]; exact loadJ x _ (c,d) (box_J hF.1.2.1))) (hK _ _ rfl (still 3 (by decide) (by decide)) fun _ _ _ _ _ _ _ h => h)
  ·obtain rfl := Option.some.inj ho
   have e6 : a.eval (.tmp 6) = .pointer (some ⟨b6,0,none⟩) := seen.kp 6 _ (nd 6 (by decide)) rfl
   exact Rg.op_value rfl rfl (Rg.ex_load a.eval _ 38 (.tmp 6) rfl (by rw [e6]; exact loadJ x _ (c2,d2) (box_J hF.1.2.2))) (hK _ _ rfl (still 4 (by decide) (by decide)) fun _ _ _ _ _ _ _ h => h)
  ·obtain rfl := Option.some.inj ho
   have e53 : a.eval (.tmp 53) = idv (c,d) := seen.at_ ⟨3,.data⟩ (by simp) rfl (Or.inr (by decide)) _ rfl
   have e54 : a.eval (.tmp 54) = idv (c2,d2) := seen.at_ ⟨4,.data⟩ (by simp) rfl (Or.inr (by decide)) _ rfl
   exact Rg.op_value rfl rfl (Rg.ex_buildS a.eval _ 77 #[(0,.const (.int .i64 4)),(1,.tmp 53),(2,.tmp 54)] rfl (ps := #[(0,.int .i64 4),(1,idv (c,d)),(2,idv (c2,d2))]) (by simp only [List.map_toArray,List.map_cons,List.map_nil,e53,e54]; rfl) (by simp [go_sem])) (hK _ _ rfl (still 5 (by decide) (by decide)) fun _ _ _ _ _ _ _ h => h)
  ·obtain rfl := Option.some.inj ho
   have e52 : a.eval (.tmp 52) = .int .i64 to_ := seen.at_ ⟨2,.data⟩ (by simp) rfl (Or.inr (by decide)) _ rfl
   have e55 : a.eval (.tmp 55) = .agg #[.int .i64 4,.int .i64 c,.int .i64 d,.int .i64 c2,.int .i64 d2,.slice none 0 0,.slice none 0 0] := seen.at_ ⟨5,.data⟩ (by simp) rfl (Or.inr (by decide)) _ rfl
   exact Rg.op_value rfl rfl (Rg.ex_buildS a.eval _ 141 #[(0,.tmp 52),(1,.tmp 55)] rfl (ps := #[(0,.int .i64 to_),(1,.agg #[.int .i64 4,.int .i64 c,.int .i64 d,.int .i64 c2,.int .i64 d2,.slice none 0 0,.slice none 0 0])]) (by simp only [List.map_toArray,List.map_cons,List.map_nil,e52,e55]) (by simp [go_sem])) (hK _ _ rfl (still 6 (by decide) (by decide)) fun _ _ _ _ _ _ _ h => h)
  ·obtain rfl := Option.some.inj ho
   have e56 : a.eval (.tmp 56) = valU (to_,4,c,d,c2,d2,(none,0,0),(none,0,0)) := seen.at_ ⟨6,.data⟩ (by simp) rfl (Or.inr (by decide)) _ rfl
   have n8 : ¬ D 8 := fun h => hnd (hc 8 _ h rfl ⟨7,.data⟩ (by simp) rfl)
   have n9 : ¬ D 9 := fun h => n8 (hc 9 _ h rfl ⟨8,.chain⟩ (by simp) rfl)
   have hb := hF.2.1 n8
   have hl := row_lit okU x [((to_,4,c,d,c2,d2,(none,0,0),(none,0,0)) : XOu)] 1 rfl (by simp) (cellsU (to_,4,c,d,c2,d2,(none,0,0),(none,0,0))).toArray (by simp [flat,EU])
   have nb := newB x (.cells (cellsU (to_,4,c,d,c2,d2,(none,0,0),(none,0,0))).toArray 141)
   exact Rg.op_value rfl rfl (Rg.ex_build a.eval _ 78 1 #[(0,.tmp 56)] rfl (ps := #[(0,valU (to_,4,c,d,c2,d2,(none,0,0),(none,0,0)))]) (by simp [e56]) (by simp [go_sem])) (hK (.slice (some ⟨x.heap.size,0,none⟩) 1 1) (x.alloc (.cells (cellsU (to_,4,c,d,c2,d2,(none,0,0),(none,0,0))).toArray 141)) (own_fewer hl hb.size) ⟨⟨hF.1.1.on nb,hF.1.2.1.on nb,hF.1.2.2.on nb⟩,fun _ => hb.trans (nb.mono hb.size),fun _ => (hb.trans (nb.mono hb.size)).mono FW.out,fun h => absurd (h.resolve_left (by decide)) n9⟩ fun j u hj dj nl nx ni h => by
    rcases (by omega : j = 0 ∨ j = 1 ∨ j = 2 ∨ j = 3 ∨ j = 4 ∨ j = 5 ∨ j = 6 ∨ j = 7 ∨ j = 8 ∨ j = 9 ∨ j = 10) with rfl | rfl | rfl | rfl | rfl | rfl | rfl | rfl | rfl | rfl | rfl
    ·exact h
    ·exact h
    ·exact h
    ·exact h
    ·exact h
    ·exact h
    ·exact h
    ·exact absurd rfl ni
    ·exact absurd dj n8
    ·exact h
    ·exact absurd (hc 10 _ dj rfl ⟨8,.data⟩ (by simp) rfl) n8)
  ·obtain rfl := Option.some.inj ho
   have e51 : a.eval (.tmp 51) = rv := seen.at_ ⟨1,.data⟩ (by simp) rfl (Or.inr (by decide)) _ rfl
   have o57 : OwnU x W.heap.size (a.eval (.tmp 57)) [(to_,4,c,d,c2,d2,(none,0,0),(none,0,0))] := seen.at_ ⟨7,.data⟩ (by simp) rfl (Or.inl rfl) _ rfl
   have hb := hF.2.1 hnd
   have n9 : ¬ D 9 := fun h => hnd (hc 9 _ h rfl ⟨8,.chain⟩ (by simp) rfl)
   have n10 : ¬ D 10 := fun h => hnd (hc 10 _ h rfl ⟨8,.data⟩ (by simp) rfl)
   obtain ⟨v',x',r,o',gr⟩ := app_row okU F0 (Bk.own_on HO.out hb) (Row.of_own o57) HL.out (by simp) (Nat.le_trans FW.out hb.size) 78
   obtain ⟨sa,sc,hsv⟩ := (Row.of_own o').len
   have hb2 : Below F0 W x' := (hb.mono FW.out).grown gr (Nat.le_trans FW.out hb.size) fun j hj => ((Bk.own_on HO.out hb).lt j hj).1
   have vv : dV W.heap.size F0 (.agg #[.int .i64 me,.slice o1 n1 k1,.slice o2 n2 k2,.slice o3 n3 k3,.slice o4 n4 k4,.slice o5 n5 k5]) rv to_ c d c2 d2 lo 8 v' x' := ⟨(sa,(lo ++ [(to_,4,c,d,c2,d2,(none,0,0),(none,0,0))]).length,sc),hsv,o'⟩
   have ff : dF W F0 b4 b5 b6 b8 #[.int .i64 me,.slice o1 n1 k1,.slice o2 n2 k2,.slice o3 n3 k3,.slice o4 n4 k4,.slice o5 n5 k5] c d c2 d2 (fun j => j = 8 ∨ D j) x' := ⟨⟨box_boxF H4.out hb2 L4.out,box_boxF H5.out hb2 L5.out,box_boxF H6.out hb2 L6.out⟩,fun h => absurd (Or.inl rfl) h,fun _ => hb2,fun h => absurd (h.resolve_left (by decide)) n9⟩
   have st : ∀ j u,j < 11 → D j → (fun i => if i = 7 then 8 else 11) j ≠ 8 → j ≠ 8 → dV W.heap.size F0 (.agg #[.int .i64 me,.slice o1 n1 k1,.slice o2 n2 k2,.slice o3 n3 k3,.slice o4 n4 k4,.slice o5 n5 k5]) rv to_ c d c2 d2 lo j u x → dV W.heap.size F0 (.agg #[.int .i64 me,.slice o1 n1 k1,.slice o2 n2 k2,.slice o3 n3 k3,.slice o4 n4 k4,.slice o5 n5 k5]) rv to_ c d c2 d2 lo j u x' := fun j u hj dj nx ni h => by
    rcases (by omega : j = 0 ∨ j = 1 ∨ j = 2 ∨ j = 3 ∨ j = 4 ∨ j = 5 ∨ j = 6 ∨ j = 7 ∨ j = 8 ∨ j = 9 ∨ j = 10) with rfl | rfl | rfl | rfl | rfl | rfl | rfl | rfl | rfl | rfl | rfl
    ·exact h
    ·exact h
    ·exact h
    ·exact h
    ·exact h
    ·exact h
    ·exact h
    ·exact absurd rfl nx
    ·exact absurd rfl ni
    ·exact h
    ·exact absurd dj n10
   have q := hK v' x' vv ff fun j u hj dj _ nx ni h => st j u hj dj nx ni h
   exact Rg.op_value rfl rfl (Rg.ex_append a.eval _ (.tmp 51) (.tmp 57) 78 rfl e51 rfl r) q
  ·obtain rfl := Option.some.inj ho
   have e50 : a.eval (.tmp 50) = .agg #[.int .i64 me,.slice o1 n1 k1,.slice o2 n2 k2,.slice o3 n3 k3,.slice o4 n4 k4,.slice o5 n5 k5] := seen.at_ ⟨0,.data⟩ (by simp) rfl (Or.inr (by decide)) _ rfl
   have e8 : a.eval (.tmp 8) = .pointer (some ⟨b8,0,none⟩) := seen.kp 8 _ (nd 8 (by decide)) rfl
   obtain ⟨sl,h58,o58⟩ : ∃ sl : Sl,a.eval (.tmp 58) = slv sl ∧ OwnU x F0 (a.eval (.tmp 58)) (lo ++ [(to_,4,c,d,c2,d2,(none,0,0),(none,0,0))]) := seen.at_ ⟨8,.chain⟩ (by simp) rfl (Or.inr (by decide)) _ rfl
   have hb := hF.2.2.1 hnd
   have H8x := box_boxF H8.out hb L8.out
   have s4 := setB_heap x b8 (.int .i64 me) (.slice o1 n1 k1) (.slice o2 n2 k2) (.slice o3 n3 k3) (.slice o4 n4 k4) (.slice o5 n5 k5)
   have d8 : D 8 := hD ⟨8,.chain⟩ (by simp) rfl
   have n10 : ¬ D 10 := fun h => hnd (hc 10 _ h rfl ⟨9,.chain⟩ (by simp) rfl)
   have hx := setB_box H8x (.int .i64 me) (.slice o1 n1 k1) (.slice o2 n2 k2) (.slice o3 n3 k3) (.slice o4 n4 k4) (.slice o5 n5 k5)
   have hy : ∀ B,B ≤ b8 → Below B W (setB x b8 (.int .i64 me) (.slice o1 n1 k1) (.slice o2 n2 k2) (.slice o3 n3 k3) (.slice o4 n4 k4) (.slice o5 n5 k5)) := fun B hB => setB_below (hb.mono (Nat.le_of_lt (Nat.lt_of_le_of_lt hB L8.out))) hB _ _ _ _ _ _
   have hs := storeBr H8x me o1 o2 o3 o4 o5 n1 k1 n2 k2 n3 k3 n4 k4 n5 k5
   have so : ∀ v l,OwnU x F0 v l → OwnU (setB x b8 (.int .i64 me) (.slice o1 n1 k1) (.slice o2 n2 k2) (.slice o3 n3 k3) (.slice o4 n4 k4) (.slice o5 n5 k5)) F0 v l := fun v l h => setB_ownA h b8 L8.out _ _ _ _ _ _
   generalize setB x b8 (.int .i64 me) (.slice o1 n1 k1) (.slice o2 n2 k2) (.slice o3 n3 k3) (.slice o4 n4 k4) (.slice o5 n5 k5) = x2 at *
   have ff : dF W F0 b4 b5 b6 b8 #[.int .i64 me,.slice o1 n1 k1,.slice o2 n2 k2,.slice o3 n3 k3,.slice o4 n4 k4,.slice o5 n5 k5] c d c2 d2 (fun j => j = 9 ∨ D j) x2 := ⟨⟨(s4 b4 N4.out).trans hF.1.1,(s4 b5 N5.out).trans hF.1.2.1,(s4 b6 N6.out).trans hF.1.2.2⟩,fun h => absurd (Or.inr d8) h,fun h => absurd (Or.inl rfl) h,fun _ => ⟨hx,fun j hj hne => (s4 j hne).trans (hb.block j hj),hy⟩⟩
   have st : ∀ j u,j < 11 → D j → ¬ D ((fun i => if i = 7 then 8 else 11) j) → j ≠ 9 → dV W.heap.size F0 (.agg #[.int .i64 me,.slice o1 n1 k1,.slice o2 n2 k2,.slice o3 n3 k3,.slice o4 n4 k4,.slice o5 n5 k5]) rv to_ c d c2 d2 lo j u x → dV W.heap.size F0 (.agg #[.int .i64 me,.slice o1 n1 k1,.slice o2 n2 k2,.slice o3 n3 k3,.slice o4 n4 k4,.slice o5 n5 k5]) rv to_ c d c2 d2 lo j u x2 := fun j u hj dj nl ni h => by
    rcases (by omega : j = 0 ∨ j = 1 ∨ j = 2 ∨ j = 3 ∨ j = 4 ∨ j = 5 ∨ j = 6 ∨ j = 7 ∨ j = 8 ∨ j = 9 ∨ j = 10) with rfl | rfl | rfl | rfl | rfl | rfl | rfl | rfl | rfl | rfl | rfl
    ·exact h
    ·exact h
    ·exact h
    ·exact h
    ·exact h
    ·exact h
    ·exact h
    ·exact absurd d8 nl
    ·obtain ⟨s,h1,h2⟩ := h
     exact ⟨s,h1,so _ _ h2⟩
    ·exact h
    ·exact absurd dj n10
   have q := hK (.bool true) x2 trivial ff fun j u hj dj nl _ ni h => st j u hj dj nl ni h
   have q2 : K a x2 := q
   exact Rg.op_store 31 (.tmp 8) (.tmp 50) rfl rfl rfl rfl e8 e50 hs q2
  ·obtain rfl := Option.some.inj ho
   obtain ⟨sl,h58,o58⟩ : ∃ sl : Sl,a.eval (.tmp 58) = slv sl ∧ OwnU x F0 (a.eval (.tmp 58)) (lo ++ [(to_,4,c,d,c2,d2,(none,0,0),(none,0,0))]) := seen.at_ ⟨8,.data⟩ (by simp) rfl (Or.inr (by decide)) _ rfl
   exact Rg.op_value rfl rfl (Rg.ex_assign a.eval _ (.tmp 58) rfl x) (hK _ _ ⟨sl,h58,o58⟩ (still 10 (by decide) (by decide)) fun _ _ _ _ _ _ _ h => h)
 ·intro a x df sz kp ⟨vs,hv⟩ ⟨D,hall,hF⟩
  obtain ⟨sl,h1,h2⟩ := (hv 10 (by omega)).2 (by decide)
  have g9 : a.tmps[9]? = some (slv sl) := by
   rw [← h1]
   exact (hv 10 (by omega)).1 9 rfl
  obtain ⟨e1,e2,e3⟩ := hF.2.2.2 (hall 9 (by omega))
  rw [h1] at h2
  exact HQ.out a x sl df ((kp 8 (nd 8 (by decide))).trans rfl) g9 e1 h2 e2 e3
theorem ents_keep {W W' : World} {k : Nat} {me : Int} {s1 s2 s3 s4 s5 : Sl} {v : Value} {l : List XEn} {m : List En} (h1 : RowN W v l) (h2 : All2 (EnIn W) l m) (hb : Box W k (brcells me s1 s2 s3 s4 s5) 31) (hk : ∀ j,j < W.heap.size → j ≠ k → W'.heap[j]? = W.heap[j]?) : RowN W' v l ∧ All2 (EnIn W') l m :=
 ⟨row_keep okN h1 hk (two_ints hb (fun _ => ⟨_,_,rfl,rfl⟩) (br_ints me s1 s2 s3 s4 s5)),h2.mono fun _ _ hx => ⟨hx.1,hx.2.1,hx.2.2.1,hx.2.2.2.1,row_keep okC hx.2.2.2.2 hk (no_text hb (br_text me s1 s2 s3 s4 s5))⟩⟩
theorem outs_keep {W W' : World} {k : Nat} {me : Int} {s1 s2 s3 s4 s5 : Sl} {s : Sl} {m : List Ou} (h : OutsIn W s m) (hb : Box W k (brcells me s1 s2 s3 s4 s5) 31) (hk : ∀ j,j < W.heap.size → j ≠ k → W'.heap[j]? = W.heap[j]?) : OutsIn W' s m := by
 obtain ⟨xs,h1,h2⟩ := h
 exact ⟨xs,row_keep okU h1 hk (two_ints hb (fun c => ⟨_,_,rfl,rfl⟩) (br_ints me s1 s2 s3 s4 s5)),h2.mono fun x a hx => ⟨hx.1,hx.2.1,hx.2.2.1,hx.2.2.2.1,row_keep okC hx.2.2.2.2.1 hk (no_text hb (br_text me s1 s2 s3 s4 s5)),hx.2.2.2.2.2⟩⟩
theorem dropB_near (b : Br) (t x : Id) (f : Int) : (dropB b t x f).1 = (takeB b t x f).1 := by
 unfold dropB
 split
 ·rfl
 ·split <;> rfl
theorem subs_in {W : World} {l : List XEn} {m : List En} (t : Int) (h : All2 (EnIn W) l m) : All2 (OuIn W) (l.map (subX t)) (m.map (subE t)) := by
 induction h with
 | nil => exact .nil
 | cons x _ ih => exact .cons (sub_in x t) ih
theorem rdrop_any (b : Br) (nv av sv ev ov : Sl) (x s : Id) (f : Int) (w : World) (h : BrIn w b nv av sv ev ov) (l2 : b.adv.length ≤ 900) (l3 : b.ent.length ≤ 900) (hok : ∀ e ∈ b.ent,PredOk e.p) (hkn : ∀ e ∈ b.ent,e.tree ∈ b.adv.map Ad.id) :
  Calls Tryz.prog 97 #[brv b.me nv av sv ev ov,idv x,idv s,.int .i64 f] w fun e w' => (∃ ev' lo : Sl,e = .returned (.tuple #[brv b.me nv av sv ev' ov,slv lo]) ∧ BrIn w' (dropB b x s f).1 nv av sv ev' ov ∧ OutsIn w' lo (dropB b x s f).2) ∧ Below w.heap.size w w' := by
 obtain ⟨no,nn,nc⟩ := nv
 obtain ⟨ao,an,ac⟩ := av
 obtain ⟨so,sn,sc⟩ := sv
 obtain ⟨eo,en,ec⟩ := ev
 obtain ⟨oo,on_,oc⟩ := ov
 obtain ⟨c,d⟩ := x
 obtain ⟨c2,d2⟩ := s
 have TK := Lib.hid (fun W hb' => rtake_any b (no,nn,nc) (ao,an,ac) (so,sn,sc) (eo,en,ec) (oo,on_,oc) (c,d) (c2,d2) f W (h.on (show Below w.heap.size w W from hb')) l3 hok)
 have HNR := Lib.hid h.near
 have L2 := Lib.hid l2
 have L3 := Lib.hid l3
 have KN := Lib.hid hkn
 obtain ⟨h0,h1,h2,h3,h4⟩ := four_new w #[.int .i64 b.me,.slice no nn nc,.slice ao an ac,.slice so sn sc,.slice eo en ec,.slice oo on_ oc] #[.int .i64 c,.int .i64 d] #[.int .i64 c2,.int .i64 d2] #[.int .i64 0,.slice none 0 0,.slice none 0 0,.slice none 0 0,.slice none 0 0,.slice none 0 0] 31 38 38 31
 obtain ⟨me,hme⟩ : ∃ me,me = b.me := ⟨_,rfl⟩
 simp only [← hme] at h0 h1 h2 h3 h4 TK ⊢
 have GB_1 := Lib.hid (h0)
 have X4_2 := Lib.hid (h1)
 have X5_3 := Lib.hid (h2)
 have X6_4 := Lib.hid (h3)
 have X8_5 := Lib.hid (h4)
 clear h0 h1 h2 h3 h4 h l2 l3 hme hok hkn
 go_enter Tryz.func97,Tryz.ntmps97
 go_upto_region 1 with fail
 generalize ((((w.alloc (.cells #[.int .i64 me,.slice no nn nc,.slice ao an ac,.slice so sn sc,.slice eo en ec,.slice oo on_ oc] 31)).alloc (.cells #[.int .i64 c,.int .i64 d] 38)).alloc (.cells #[.int .i64 c2,.int .i64 d2] 38)).alloc (.cells #[.int .i64 0,.slice none 0 0,.slice none 0 0,.slice none 0 0,.slice none 0 0,.slice none 0 0] 31)) = W at *
 have SW := Lib.hid (TK.out W GB_1.out)
 clear TK
 obtain ⟨x0,x1,x2,x3,x4,x5⟩ := X4_2.out.cs6
 obtain ⟨y0,y1⟩ := X5_3.out.cs2
 obtain ⟨z0,z1⟩ := X6_4.out.cs2
 go_wp2_with fail
 refine SW.out.mono ?_
 rintro e1 w1 ⟨⟨⟨ea,en2,ec2⟩,⟨la,ln,lc⟩,rfl,hbr,xs,hrow,hall⟩,hb⟩
 clear SW
 clear x0 x1 x2 x3 x4 x5 y0 y1 z0 z1
 obtain ⟨fb,hfb⟩ : ∃ r,(takeB b (c,d) (c2,d2) f).2.2 = r := ⟨_,rfl⟩
 have LB := Lib.hid hfb
 rw [hfb]
 obtain ⟨qa,qc,hq⟩ := hrow.len
 obtain rfl : ln = xs.length := by simpa using congrArg (fun v => match v with | Value.slice _ n _ => n | _ => 0) hq
 obtain ⟨ln,hln⟩ : ∃ n,n = xs.length := ⟨_,rfl⟩
 simp only [← hln] at hrow ⊢
 have LN := Lib.hid hln.symm
 clear hln hq
 have GB_6 := Lib.hid (GB_1.out.trans (hb.mono GB_1.out.size))
 have X4_6 := Lib.hid (X4_2.out.on hb)
 have X5_6 := Lib.hid (X5_3.out.on hb)
 have X6_6 := Lib.hid (X6_4.out.on hb)
 have X8_6 := Lib.hid (X8_5.out.on hb)
 clear GB_1 X4_2 X5_3 X6_4 X8_5
 obtain ⟨k0,k1,k2,k3,k4,k5⟩ := X4_6.out.cs6
 obtain ⟨kf0,kf1,kf2,kf3,kf4,kf5⟩ := X4_6.out.fs6
 have zz := X4_6.out.lt
 have FB := Lib.hid (setB_box X4_6.out (.int .i64 me) (.slice no nn nc) (.slice ao an ac) (.slice so sn sc) (.slice ea en2 ec2) (.slice oo on_ oc))
 have B2 := Lib.hid (setB_below (b := w.heap.size) GB_6.out (Nat.le_refl _) (.int .i64 me) (.slice no nn nc) (.slice ao an ac) (.slice so sn sc) (.slice ea en2 ec2) (.slice oo on_ oc))
 have F5 := Lib.hid (show Box _ _ _ _ from (setB_heap w1 w.heap.size (.int .i64 me) (.slice no nn nc) (.slice ao an ac) (.slice so sn sc) (.slice ea en2 ec2) (.slice oo on_ oc) (w.heap.size + 1) (by omega)).trans X5_6.out)
 have F6 := Lib.hid (show Box _ _ _ _ from (setB_heap w1 w.heap.size (.int .i64 me) (.slice no nn nc) (.slice ao an ac) (.slice so sn sc) (.slice ea en2 ec2) (.slice oo on_ oc) (w.heap.size + 1 + 1) (by omega)).trans X6_6.out)
 have F8 := Lib.hid (show Box _ _ _ _ from (setB_heap w1 w.heap.size (.int .i64 me) (.slice no nn nc) (.slice ao an ac) (.slice so sn sc) (.slice ea en2 ec2) (.slice oo on_ oc) (w.heap.size + 1 + 1 + 1) (by omega)).trans X8_6.out)
 have HB := Lib.hid (brin_keep (s1 := (no,nn,nc)) (s2 := (ao,an,ac)) (s3 := (so,sn,sc)) (s4 := (eo,en,ec)) (s5 := (oo,on_,oc)) hbr X4_6.out (fun j _ hj => setB_heap w1 w.heap.size (.int .i64 me) (.slice no nn nc) (.slice ao an ac) (.slice so sn sc) (.slice ea en2 ec2) (.slice oo on_ oc) j hj) (by rw [(takeB_adv b (c,d) (c2,d2) f).2.1]; exact HNR.out.on B2.out))
 have HX := Lib.hid (ents_keep (s1 := (no,nn,nc)) (s2 := (ao,an,ac)) (s3 := (so,sn,sc)) (s4 := (eo,en,ec)) (s5 := (oo,on_,oc)) hrow hall X4_6.out (fun j _ hj => setB_heap w1 w.heap.size (.int .i64 me) (.slice no nn nc) (.slice ao an ac) (.slice so sn sc) (.slice ea en2 ec2) (.slice oo on_ oc) j hj))
 clear hfb hbr hb hrow hall GB_6 X4_6 X5_6 X6_6 X8_6
 go_upto_region 2 with fail
 clear zz k0 k1 k2 k3 k4 k5 kf0 kf1 kf2 kf3 kf4 kf5
 unfold setB at FB B2 F5 F6 F8 HB HX
 generalize ((((((w1.setCell ⟨w.heap.size,0,none⟩ (.int .i64 me)).setCell ⟨w.heap.size,1,none⟩ (.slice no nn nc)).setCell ⟨w.heap.size,2,none⟩ (.slice ao an ac)).setCell ⟨w.heap.size,3,none⟩ (.slice so sn sc)).setCell ⟨w.heap.size,4,none⟩ (.slice ea en2 ec2)).setCell ⟨w.heap.size,5,none⟩ (.slice oo on_ oc)) = w2 at *
 have GB_7 := Lib.hid (B2.out)
 have X4_8 := Lib.hid (FB.out)
 have X5_9 := Lib.hid (F5.out)
 have X6_10 := Lib.hid (F6.out)
 have X8_11 := Lib.hid (F8.out)
 clear B2 FB F5 F6 F8
 cases fb
 ·have x0 := X4_8.out.cell 0
  have x1 := X4_8.out.cell 1
  have x2 := X4_8.out.cell 2
  have x3 := X4_8.out.cell 3
  have x4 := X4_8.out.cell 4
  have x5 := X4_8.out.cell 5
  simp only [List.getElem?_toArray,List.getElem?_cons_zero,List.getElem?_cons_succ] at x0 x1 x2 x3 x4 x5
  obtain ⟨r0,r1,r2,r3,r4,r5⟩ := X8_11.out.cs6
  obtain ⟨rf0,rf1,rf2,rf3,rf4,rf5⟩ := X8_11.out.fs6
  have zz := X8_11.out.lt
  have GG := Lib.hid (setB_box X8_11.out (.int .i64 me) (.slice no nn nc) (.slice ao an ac) (.slice so sn sc) (.slice ea en2 ec2) (.slice oo on_ oc))
  have BL := Lib.hid (setB_below (b := w.heap.size + 1 + 1 + 1) GB_7.out (by omega) (.int .i64 me) (.slice no nn nc) (.slice ao an ac) (.slice so sn sc) (.slice ea en2 ec2) (.slice oo on_ oc))
  have HC := Lib.hid (brin_keep (s1 := (none,0,0)) (s2 := (none,0,0)) (s3 := (none,0,0)) (s4 := (none,0,0)) (s5 := (none,0,0)) HB.out X8_11.out (fun j _ hj => setB_heap w2 (w.heap.size + 1 + 1 + 1) (.int .i64 me) (.slice no nn nc) (.slice ao an ac) (.slice so sn sc) (.slice ea en2 ec2) (.slice oo on_ oc) j hj) (by rw [(takeB_adv b (c,d) (c2,d2) f).2.1]; exact HNR.out.on BL.out))
  clear HB HX
  go_wp2_with fail
  obtain ⟨v0,v1,v2,v3,v4,v5⟩ := GG.out.cs6
  refine bodyPost_ret (v := .tuple #[.agg #[.int .i64 me,.slice no nn nc,.slice ao an ac,.slice so sn sc,.slice ea en2 ec2,.slice oo on_ oc],.slice none 0 0]) (by simp [results,Tryz.results97,go_sem,v0,v1,v2,v3,v4,v5]) rfl ?_
  have hd : dropB b (c,d) (c2,d2) f = ((takeB b (c,d) (c2,d2) f).1,[]) := by unfold dropB; rw [if_pos LB.out]
  rw [hd]
  exact ⟨⟨(ea,en2,ec2),(none,0,0),rfl,HC.out,outs_nil _⟩,BL.out⟩
 ·obtain ⟨e0,he0,ht0⟩ := takeB_true LB.out
  have hmem : (c,d) ∈ b.adv.map Ad.id := ht0 ▸ KN.out e0 he0
  obtain ⟨k,hk1,hk2⟩ := findI_mem _ _ hmem
  rw [List.getElem?_map] at hk2
  obtain ⟨a,hak⟩ : ∃ a,b.adv[k]? = some a := by
   cases h : b.adv[k]? with
   | none => rw [h] at hk2; cases hk2
   | some a => exact ⟨a,rfl⟩
  have DB := Lib.hid (show dropB b (c,d) (c2,d2) f = ((takeB b (c,d) (c2,d2) f).1,(takeB b (c,d) (c2,d2) f).2.1.map (subE a.par) ++ [⟨a.par,4,(c,d),(c2,d2),[]⟩]) from by
   unfold dropB
   rw [if_neg (by rw [LB.out]; simp),hk1,Int.toNat_natCast,hak])
  clear hk2 hmem he0 ht0 e0
  obtain ⟨ad,had1,had2⟩ := HB.out.adv
  rw [(takeB_adv b (c,d) (c2,d2) f).1] at had2
  obtain ⟨z,hz1,hz2⟩ := had2.at k a hak
  have FD := rfind_any me (.slice no nn nc) (.slice ea en2 ec2) (.slice so sn sc) (.slice oo on_ oc) (ao,an,ac) ad (c,d)
  rw [ids_eq had2,hk1] at FD
  obtain ⟨q1,q2,hq⟩ := had1.len
  obtain ⟨rfl,rfl,rfl⟩ : ao = q1 ∧ an = ad.length ∧ ac = q2 := by
   have : Value.slice ao an ac = .slice q1 ad.length q2 := hq
   simpa using this
  obtain ⟨p,ix,px⟩ := elD had1 rfl rfl hz1
  obtain ⟨p0,p1,p2,p3⟩ := px w2 (Below.refl _ _)
  obtain ⟨z1,z2,⟨z3,z4,z5⟩,z6⟩ := z
  simp only at p0 p1 p2 p3
  obtain rfl : z6 = a.par := hz2.2.1
  have CE := Lib.hid (fun d os => Calls.regrown_of (d := d) (os := os) (FD _ (had1.on (below_regrown w2 d os))))
  obtain ⟨an,han⟩ : ∃ n,n = ad.length := ⟨_,rfl⟩
  clear FD hq px p0 p1 p2
  have q3 := cell_regrown p3
  simp only [← han] at ix CE X4_8 HB
  have HAN := Lib.hid han
  clear han hz2 hak hk1 had2 had1 hz1 p3
  have a0 := cell_regrown (show w2.cell? ⟨w.heap.size,0,none⟩ = some (.int .i64 me) from X4_8.out.cell 0)
  have a1 := cell_regrown (show w2.cell? ⟨w.heap.size,1,none⟩ = some (.slice no nn nc) from X4_8.out.cell 1)
  have a2 := cell_regrown (show w2.cell? ⟨w.heap.size,2,none⟩ = some (.slice ao an ac) from X4_8.out.cell 2)
  have a3 := cell_regrown (show w2.cell? ⟨w.heap.size,3,none⟩ = some (.slice so sn sc) from X4_8.out.cell 3)
  have a4 := cell_regrown (show w2.cell? ⟨w.heap.size,4,none⟩ = some (.slice ea en2 ec2) from X4_8.out.cell 4)
  have a5 := cell_regrown (show w2.cell? ⟨w.heap.size,5,none⟩ = some (.slice oo on_ oc) from X4_8.out.cell 5)
  have b0 := cell_regrown (show w2.cell? ⟨w.heap.size + 1,0,none⟩ = some (.int .i64 c) from X5_9.out.cell 0)
  have b1 := cell_regrown (show w2.cell? ⟨w.heap.size + 1,1,none⟩ = some (.int .i64 d) from X5_9.out.cell 1)
  go_upto_region 4 with fail
  refine wp_region_quiet_below (by kernel_rfl) (by kernel_rfl) ?_
  repeat (go_big_quiet_step (first | (with_reducible exact CE.out _ _)))
  refine wpQuiet_nil ?_
  intro _ hw'
  obtain ⟨⟨dq,osq⟩,hw''⟩ := hw'
  subst hw''
  have Z6 := below_regrown w2 dq osq
  have HB2 := Lib.hid (HB.out.on Z6)
  have HX2 := Lib.hid (show RowN _ _ _ ∧ All2 (EnIn _) _ _ from ⟨HX.out.1.on Z6,HX.out.2.mono fun _ _ h => h.on Z6⟩)
  have GB_12 := Lib.hid (GB_7.out.trans (Z6.mono GB_7.out.size))
  have X4_12 := Lib.hid (X4_8.out.on Z6)
  have X5_12 := Lib.hid (X5_9.out.on Z6)
  have X6_12 := Lib.hid (X6_10.out.on Z6)
  have X8_12 := Lib.hid (X8_11.out.on Z6)
  clear GB_7 X4_8 X5_9 X6_10 X8_11
  clear Z6 HB HX CE ix q3 a0 a1 a2 a3 a4 a5 b0 b1
  generalize grow (redrawn w2 dq) osq = w3 at *
  generalize a.par = to_ at *
  go_wp2_with fail
  go_loopw [13,38] (fun v i wr => ∃ k : Nat,k ≤ ln ∧ i = .int .i64 k ∧ Below w3.heap.size w3 wr ∧ OwnU wr w3.heap.size v ((xs.take k).map (subX to_))) (fun _ i _ => ln - (intOf i).toNat)
  case atStart => exact ⟨0,Nat.zero_le _,rfl,Below.refl _ _,own_nil _ _⟩
  case round =>
   obtain ⟨k,hk,rfl,hbe,hown⟩ := hrel
   have BE := Lib.hid hbe
   have OE := Lib.hid hown
   clear hbe hown
   have L9 := Lib.hid (show ln ≤ 900 from by have h1 := HX2.out.2.len; rw [LN.out] at h1; rw [h1]; exact Nat.le_trans (takeB_len b (c,d) (c2,d2) f).2 L3.out)
   have l9 := L9.out
   by_cases hlt : k < ln
   ·have hlt' : (k : Int) < (ln : Int) := by omega
    have hw : IntKind.i64.wrap ((k : Int) + 1) = (k : Int) + 1 := IntWalk.i64_in _ (by omega)
    obtain ⟨y,hy⟩ : ∃ y,xs[k]? = some y := ⟨_,List.getElem?_eq_getElem (by rw [LN.out]; exact hlt)⟩
    obtain ⟨p,ix,px⟩ := elN HX2.out.1 rfl LN.out hy
    obtain ⟨p0,p1,p2,p3,p4,p5,p6⟩ := px wr BE.out
    have TKY := Lib.hid (show (xs.take (k + 1)).map (subX to_) = (xs.take k).map (subX to_) ++ [subX to_ y] from by rw [List.take_add_one,hy]; simp)
    obtain ⟨y1,y2,y3,y4,⟨yo,yn,yc⟩,y6,y7⟩ := y
    simp only at p0 p1 p2 p3 p4 p5 p6
    clear px hy
    go_upto_region 9 with fail
    clear p0 p1 p2 p3 p4 p5 p6 ix
    have NN := newB wr (.cells #[.int .i64 y1,.int .i64 y2,.int .i64 y3,.int .i64 y4,.slice yo yn yc,.int .i64 y6,.bool y7] 43)
    have XE := box_new wr #[.int .i64 y1,.int .i64 y2,.int .i64 y3,.int .i64 y4,.slice yo yn yc,.int .i64 y6,.bool y7] 43
    have BE2 := Lib.hid (BE.out.trans (NN.mono BE.out.size))
    have OE2 := Lib.hid (Bk.own_on OE.out NN)
    clear BE OE NN
    generalize wr.alloc (.cells #[.int .i64 y1,.int .i64 y2,.int .i64 y3,.int .i64 y4,.slice yo yn yc,.int .i64 y6,.bool y7] 43) = wa at *
    obtain ⟨c0_,c1_,c2_,c3_,c4_,c5_,c6_⟩ := XE.cs7
    have SB := sub_any (y1,y2,y3,y4,(yo,yn,yc),y6,y7) wa
    go_wp2_with fail
    refine SB.mono ?_
    rintro e3 wb ⟨rfl,hb⟩
    clear SB XE c0_ c1_ c2_ c3_ c4_ c5_ c6_
    have BE3 := Lib.hid (BE2.out.trans (hb.mono BE2.out.size))
    have OE3 := Lib.hid (Bk.own_on OE2.out hb)
    clear hb BE2 OE2
    have hl := row_lit okU wb [((to_,3,y1,y2,y3,y4,(yo,yn,yc),(none,0,0)) : XOu)] 1 rfl (by simp) #[.int .i64 to_,.int .i64 3,.int .i64 y1,.int .i64 y2,.int .i64 y3,.int .i64 y4,.slice yo yn yc,.slice none 0 0] (by rfl)
    have NB := newB wb (.cells #[.int .i64 to_,.int .i64 3,.int .i64 y1,.int .i64 y2,.int .i64 y3,.int .i64 y4,.slice yo yn yc,.slice none 0 0] 141)
    obtain ⟨v',x5,q2,o2,g2⟩ := app_row okU w3.heap.size (Bk.own_on OE3.out NB) (Row.of_own hl) (by rw [List.length_map,List.length_take]; omega) (by simp) (Nat.le_trans BE3.out.size NB.size) 78
    have q2 : (Builtin.append_ #[78,78] 78 #[u13,.slice (some ⟨wb.heap.size,0,none⟩) 1 1]).run Tryz.prog (wb.alloc (.cells #[.int .i64 to_,.int .i64 3,.int .i64 y1,.int .i64 y2,.int .i64 y3,.int .i64 y4,.slice yo yn yc,.slice none 0 0] 141)) = .ok v' x5 := q2
    have BX := Lib.hid ((BE3.out.trans (NB.mono BE3.out.size)).grown g2 (Nat.le_trans BE3.out.size NB.size) (fun j hj => ((Bk.own_on OE3.out NB).lt j hj).1))
    have O2 := Lib.hid o2
    clear hl NB o2 g2
    go_wp2_with (first | (at_builtin; refine wpList_append_run rfl _ _ 78 rfl rfl rfl q2 ?_) | fail)
    go_roundw
    case rel => exact ⟨k + 1,hlt,by go_num,BX.out,by rw [TKY.out]; exact O2.out⟩
    case measure => simp [intOf]; omega
   ·obtain rfl : k = ln := by omega
    have ht : xs.take k = xs := List.take_of_length_le (by rw [LN.out]; exact Nat.le_refl _)
    rw [ht] at OE
    clear ht
    go_upto_region 11 with fail
    refine drop_r11 _ wr w3.heap.size w.heap.size (w.heap.size + 1) (w.heap.size + 1 + 1) (w.heap.size + 1 + 1 + 1) me to_ c d c2 d2 no ao so ea oo nn nc an ac sn sc en2 ec2 on_ oc u13 (xs.map (subX to_)) _ _ _ _ _ _ _ _ _ _ _ _ _ _ _ _ _ _ _ _ _ _ _ _ _ _ _ _ _ _ _ _ _ _ _ _ _ _ _ _ _ _ _ _ _ _ _ _ _ _ _ _ _ _ _ _ _ _ _ (X4_12.out.on BE.out) (X5_12.out.on BE.out) (X6_12.out.on BE.out) (X8_12.out.on BE.out) X4_12.out.lt X5_12.out.lt X6_12.out.lt X8_12.out.lt (by omega) (by omega) (by omega) BE.out.size OE.out (by rw [List.length_map,LN.out]; omega) ?_
    intro a9 x9 sl hd9 h69 h79 hbx ho hblk hbl
    have BL := Lib.hid (show Below w.heap.size w x9 from (GB_12.out.trans (BE.out.mono GB_12.out.size)).trans (hbl w.heap.size (by omega)))
    have HK := Lib.hid (show ∀ j,j < w3.heap.size → j ≠ w.heap.size + 1 + 1 + 1 → x9.heap[j]? = w3.heap[j]? from fun j hj hne => (hblk j hj hne).trans (BE.out.block j hj))
    have HC := Lib.hid (brin_keep (s1 := (none,0,0)) (s2 := (none,0,0)) (s3 := (none,0,0)) (s4 := (none,0,0)) (s5 := (none,0,0)) HB2.out X8_12.out HK.out (by rw [(takeB_adv b (c,d) (c2,d2) f).2.1]; exact HNR.out.on BL.out))
    have HX3 := Lib.hid (ents_keep (s1 := (none,0,0)) (s2 := (none,0,0)) (s3 := (none,0,0)) (s4 := (none,0,0)) (s5 := (none,0,0)) HX2.out.1 HX2.out.2 X8_12.out HK.out)
    have HU := Lib.hid (Row.of_own ho)
    obtain ⟨v0,v1,v2,v3,v4,v5⟩ := hbx.cs6
    clear hbx ho hblk hbl HB2 HX2 BE OE
    simp only [Exit.then]
    apply_assumption
    go_wp2_with fail
    refine bodyPost_ret (v := .tuple #[.agg #[.int .i64 me,.slice no nn nc,.slice ao an ac,.slice so sn sc,.slice ea en2 ec2,.slice oo on_ oc],slv sl]) (by simp [results,Tryz.results97,go_sem,h69,h79,v0,v1,v2,v3,v4,v5]) hd9 ?_
    have h9 := HAN.out
    subst h9
    rw [DB.out]
    exact ⟨⟨(ea,en2,ec2),sl,rfl,HC.out,_,HU.out,(subs_in to_ HX3.out.2).append (.cons ⟨rfl,rfl,rfl,rfl,row_nil _,rfl⟩ .nil)⟩,BL.out⟩
theorem app_rowL {α : Type} {E : Ek α} (K : E.Ok) {w : World} (B : Nat) {v x : Value} {l m : List α} (hown : Own E w B v l) (hx : Row E w x m) (hn : l.length ≤ 1000000) (hm : m.length ≤ 1000000) (hB : B ≤ w.heap.size) (ty : TypeId) :
  ∃ v' w',(Builtin.append_ #[E.ts,E.ts] ty #[v,x]).run Tryz.prog w = .ok v' w' ∧ Own E w' B v' (l ++ m) ∧ w.grownBy w' v.ownBlock := by
 obtain ⟨i,i1,i2,i3,i4⟩ := K.info
 rcases hx with ⟨rfl,rfl⟩ | ⟨ad,c,rfl,h2,h3,h4⟩
 ·exact ⟨v,w,run_append_owned_none (P := Tryz.prog) (w := w) B E.ts ty E.t i E.n K.hu i1 v _ _ hown,by simpa using hown,grown_refl _ _⟩
 ·have hf := K.few
  obtain ⟨v',w',r1,r2,r3,_⟩ := run_append_own (P := Tryz.prog) w B E.ts ty E.t i E.z E.n E.bytes K.hu i1 i2 i3 i4 K.zs K.pos v _ _ hown ad m.length c (flat E m) (flat_length K m) h4 (flat_cell K m) (by unfold maxLen; omega)
   (Nat.le_trans (Nat.mul_le_mul (show l.length + m.length ≤ 2000000 by omega) hf) (by decide)) hB
  exact ⟨v',w',r1,by rw [Own,List.length_append,flat_append]; exact r2,r3⟩
def uns16V (B : Nat) (_ _ : Nat) (me : Int) (o1 o2 o3 o4 o5 : Option Addr) (n1 k1 n2 k2 n3 k3 n4 k4 n5 k5 : Nat) (so to_ : Option Addr) (sn sc tn tc : Nat) (lo ls : List XOu) (_ _ _ _ _ _ : Value) (i : Nat) (v : Value) (x : World) : Prop :=
 match i with
 | 0 => v = .agg #[.int .i64 me,.slice o1 n1 k1,.slice o2 n2 k2,.slice o3 n3 k3,.slice o4 n4 k4,.slice o5 n5 k5]
 | 1 => OwnU x B v []
 | 2 => v = .slice so sn sc
 | 3 => OwnU x B v lo
 | 4 => v = .slice to_ tn tc
 | 5 => OwnU x B v (lo ++ ls)
 | _ => True
noncomputable def uns16C : Code := ((Tryz.f33.body.bind (findRegion 16)).getD .skip)
theorem uns16V_on (B : Nat) (b2 b12 : Nat) (me : Int) (o1 o2 o3 o4 o5 : Option Addr) (n1 k1 n2 k2 n3 k3 n4 k4 n5 k5 : Nat) (so to_ : Option Addr) (sn sc tn tc : Nat) (lo ls : List XOu) (z0 z1 z2 z3 z4 z5 : Value) (i : Nat) (v : Value) (x x' : World) (h : uns16V B b2 b12 me o1 o2 o3 o4 o5 n1 k1 n2 k2 n3 k3 n4 k4 n5 k5 so to_ sn sc tn tc lo ls z0 z1 z2 z3 z4 z5 i v x) (hb : Below x.heap.size x x') : uns16V B b2 b12 me o1 o2 o3 o4 o5 n1 k1 n2 k2 n3 k3 n4 k4 n5 k5 so to_ sn sc tn tc lo ls z0 z1 z2 z3 z4 z5 i v x' := by
 by_cases hi : i < 6
 ·rcases (by omega : i = 0 ∨ i = 1 ∨ i = 2 ∨ i = 3 ∨ i = 4 ∨ i = 5) with rfl | rfl | rfl | rfl | rfl | rfl
  ·exact h
  ·exact own_on h hb
  ·exact h
  ·exact own_on h hb
  ·exact h
  ·exact own_on h hb
 ·unfold uns16V
  split <;> first | omega | trivial
theorem uns16 (Q : Exit → Act → World → Prop) (W : World) (b2 b12 : Nat) (me : Int) (o1 o2 o3 o4 o5 : Option Addr) (n1 k1 n2 k2 n3 k3 n4 k4 n5 k5 : Nat) (so to_ : Option Addr) (sn sc tn tc : Nat) (lo ls : List XOu) (z0 z1 z2 z3 z4 z5 : Value) (u0 u1 u3 u4 u5 u6 u7 u8 u10 u11 u14 u15 u16 u17 u18 u19 u20 u21 u22 u23 u24 u25 u26 u27 u28 u29 u30 u31 u32 u33 u34 u35 u36 u37 u38 u39 u40 u41 u42 u43 u44 u45 u46 u47 u48 u49 u50 u51 u52 u53 u54 u55 u56 u57 u58 u59 u60 u61 u62 : Value)
  (h2 : Box W b2 #[z0,z1,z2,z3,z4,z5] 31) (h12 : Box W b12 #[.int .i64 me,.slice o1 n1 k1,.slice o2 n2 k2,.slice o3 n3 k3,.slice o4 n4 k4,.slice o5 n5 k5] 31) (rlo : RowU W (.slice so sn sc) lo) (rls : RowU W (.slice to_ tn tc) ls) (l9 : lo.length ≤ 1000000) (s9 : ls.length ≤ 1000000)
  (hQ : ∀ (x : World) (w9 : Value) (v54 v55 v56 v57 v58 v59 : Value),Box x b2 #[.int .i64 me,.slice o1 n1 k1,.slice o2 n2 k2,.slice o3 n3 k3,.slice o4 n4 k4,.slice o5 n5 k5] 31 → OwnU x W.heap.size w9 (lo ++ ls) → (∀ j,j < W.heap.size → j ≠ b2 → x.heap[j]? = W.heap[j]?) → (∀ B,B ≤ b2 → Below B W x) → Q .normal ⟨(u0 :: u1 :: .pointer (some ⟨b2,0,none⟩) :: u3 :: u4 :: u5 :: u6 :: u7 :: u8 :: w9 :: u10 :: u11 :: .pointer (some ⟨b12,0,none⟩) :: .slice to_ tn tc :: u14 :: u15 :: u16 :: u17 :: u18 :: u19 :: u20 :: u21 :: u22 :: u23 :: u24 :: u25 :: u26 :: u27 :: u28 :: u29 :: u30 :: u31 :: u32 :: u33 :: u34 :: u35 :: u36 :: u37 :: u38 :: u39 :: u40 :: u41 :: u42 :: u43 :: u44 :: u45 :: u46 :: u47 :: u48 :: u49 :: u50 :: u51 :: u52 :: u53 :: v54 :: v55 :: v56 :: v57 :: v58 :: v59 :: u60 :: u61 :: u62 :: []).toArray,[]⟩ x) :
  Code.wp Tryz.prog uns16C Q ⟨(u0 :: u1 :: .pointer (some ⟨b2,0,none⟩) :: u3 :: u4 :: u5 :: u6 :: u7 :: u8 :: .slice so sn sc :: u10 :: u11 :: .pointer (some ⟨b12,0,none⟩) :: .slice to_ tn tc :: u14 :: u15 :: u16 :: u17 :: u18 :: u19 :: u20 :: u21 :: u22 :: u23 :: u24 :: u25 :: u26 :: u27 :: u28 :: u29 :: u30 :: u31 :: u32 :: u33 :: u34 :: u35 :: u36 :: u37 :: u38 :: u39 :: u40 :: u41 :: u42 :: u43 :: u44 :: u45 :: u46 :: u47 :: u48 :: u49 :: u50 :: u51 :: u52 :: u53 :: u54 :: u55 :: u56 :: u57 :: u58 :: u59 :: u60 :: u61 :: u62 :: []).toArray,[]⟩ W := by
 have HQ := Lib.hid hQ
 have H2 := Lib.hid h2
 have H12 := Lib.hid h12
 have RLO := Lib.hid rlo
 have RLS := Lib.hid rls
 have LO := Lib.hid l9
 have LS := Lib.hid s9
 clear hQ h2 h12 rlo rls l9 s9
 have stab := uns16V_on W.heap.size b2 b12 me o1 o2 o3 o4 o5 n1 k1 n2 k2 n3 k3 n4 k4 n5 k5 so to_ sn sc tn tc lo ls z0 z1 z2 z3 z4 z5
 unfold uns16C
 conv => arg 2; whnf
 have nd : ∀ j,(∀ i,i < 6 → [54,55,56,57,58,59].getD i 0 ≠ j) → ∀ i,i < 6 → (fun i => [54,55,56,57,58,59].getD i 0) i ≠ j := fun j h => h
 refine Rg.region_live 8 6 (fun i => [54,55,56,57,58,59].getD i 0) (fun i => if i = 1 then 3 else if i = 3 then 5 else 6) (uns16V W.heap.size b2 b12 me o1 o2 o3 o4 o5 n1 k1 n2 k2 n3 k3 n4 k4 n5 k5 so to_ sn sc tn tc lo ls z0 z1 z2 z3 z4 z5) (by kernel_rfl) (by kernel_rfl) rfl (by decide) (fun i j hi hj h => (by decide : ∀ i,i < 6 → ∀ j,j < 6 → [54,55,56,57,58,59].getD i 0 = [54,55,56,57,58,59].getD j 0 → i = j) i hi j hj h) (fun i hi => (by decide : ∀ i,i < 6 → [54,55,56,57,58,59].getD i 0 < 63) i hi) ?_ (fun _ => Rg.hall_of 14 (by kernel_rfl)) ?_ ?_
 ·intro i o hi ho a x D hnd hc hD hb seen K hK
  clear HQ
  rcases (by omega : i = 0 ∨ i = 1 ∨ i = 2 ∨ i = 3 ∨ i = 4 ∨ i = 5) with rfl | rfl | rfl | rfl | rfl | rfl
  ·obtain rfl := Option.some.inj ho
   have e12 : a.eval (.tmp 12) = .pointer (some ⟨b12,0,none⟩) := seen.kp 12 _ (nd 12 (by decide)) rfl
   obtain ⟨y0,y1,y2,y3,y4,y5⟩ := (H12.out.on hb).cs6
   exact Rg.op_value rfl rfl (Rg.ex_load a.eval _ 31 (.tmp 12) rfl (by rw [e12]; simp [go_sem,y0,y1,y2,y3,y4,y5])) (hK _ _ rfl (Below.refl _ _) fun _ _ _ _ _ _ _ h => h)
  ·obtain rfl := Option.some.inj ho
   have nb := newB x (.cells #[] 141)
   have hl := own_less (B' := W.heap.size) hb.size (own_made (E := EU) x)
   exact Rg.op_value rfl rfl (Rg.ex_build a.eval _ 78 0 #[] rfl rfl (by simp [go_sem])) (hK (.slice (some ⟨x.heap.size,0,none⟩) 0 0) (x.alloc (.cells #[] 141)) hl (nb.mono hb.size) fun j u _ _ _ _ _ h => stab j u _ _ h nb)
  ·obtain rfl := Option.some.inj ho
   have e9 : a.eval (.tmp 9) = .slice so sn sc := seen.kp 9 _ (nd 9 (by decide)) rfl
   exact Rg.op_value rfl rfl (Rg.ex_move a.eval _ (.tmp 9) rfl x) (hK _ _ e9 (Below.refl _ _) fun _ _ _ _ _ _ _ h => h)
  ·obtain rfl := Option.some.inj ho
   have E55 := seen.at_ ⟨1,.data⟩ (by simp) rfl (Or.inl rfl)
   have e56 : a.eval (.tmp 56) = .slice so sn sc := seen.at_ ⟨2,.data⟩ (by simp) rfl (Or.inr (by decide))
   have o55 : OwnU x W.heap.size (a.eval (.tmp 55)) [] := E55
   obtain ⟨v',x',r,o',gr⟩ := app_rowL okU W.heap.size o55 (RLO.out.on hb) (by simp) LO.out hb.size 78
   have o'' : OwnU x' W.heap.size v' lo := by simpa using o'
   exact Rg.op_value rfl rfl (Rg.ex_append a.eval _ (.tmp 55) (.tmp 56) 78 rfl rfl e56 r) (hK v' x' o'' ((Below.refl _ x).grown gr hb.size fun j hj => (o55.lt j hj).1) fun j u hj dj nl nx ni h => by
    rcases (by omega : j = 0 ∨ j = 1 ∨ j = 2 ∨ j = 3 ∨ j = 4 ∨ j = 5) with rfl | rfl | rfl | rfl | rfl | rfl
    ·exact h
    ·exact absurd rfl nx
    ·exact h
    ·exact absurd rfl ni
    ·exact h
    ·exact absurd (hc 5 _ dj rfl ⟨3,.data⟩ (by simp) rfl) hnd)
  ·obtain rfl := Option.some.inj ho
   have e13 : a.eval (.tmp 13) = .slice to_ tn tc := seen.kp 13 _ (nd 13 (by decide)) rfl
   exact Rg.op_value rfl rfl (Rg.ex_move a.eval _ (.tmp 13) rfl x) (hK _ _ e13 (Below.refl _ _) fun _ _ _ _ _ _ _ h => h)
  ·obtain rfl := Option.some.inj ho
   have E57 := seen.at_ ⟨3,.data⟩ (by simp) rfl (Or.inl rfl)
   have e58 : a.eval (.tmp 58) = .slice to_ tn tc := seen.at_ ⟨4,.data⟩ (by simp) rfl (Or.inr (by decide))
   have o57 : OwnU x W.heap.size (a.eval (.tmp 57)) lo := E57
   obtain ⟨v',x',r,o',gr⟩ := app_rowL okU W.heap.size o57 (RLS.out.on hb) LO.out LS.out hb.size 78
   have d3 : D 3 := hD ⟨3,.data⟩ (by simp) rfl
   exact Rg.op_value rfl rfl (Rg.ex_append a.eval _ (.tmp 57) (.tmp 58) 78 rfl rfl e58 r) (hK v' x' o' ((Below.refl _ x).grown gr hb.size fun j hj => (o57.lt j hj).1) fun j u hj dj nl nx ni h => by
    rcases (by omega : j = 0 ∨ j = 1 ∨ j = 2 ∨ j = 3 ∨ j = 4 ∨ j = 5) with rfl | rfl | rfl | rfl | rfl | rfl
    ·exact h
    ·exact absurd d3 nl
    ·exact h
    ·exact absurd rfl nx
    ·exact h
    ·exact absurd rfl ni)
 ·intro kk o h1 h2 ho
  rcases (by omega : kk = 7) with rfl
  ·obtain rfl := Option.some.inj ho
   exact ⟨⟨6,.chain⟩,by simp,rfl,rfl⟩
 ·intro a w' df sz kp ⟨vs,hv⟩ hb
  have sz' : a.tmps.size = 63 := sz
  have g2 : a.tmps[2]? = some (.pointer (some ⟨b2,0,none⟩)) := (kp 2 (nd 2 (by decide))).trans rfl
  have g54 : a.tmps[54]? = some (.agg #[.int .i64 me,.slice o1 n1 k1,.slice o2 n2 k2,.slice o3 n3 k3,.slice o4 n4 k4,.slice o5 n5 k5]) := by
   have h : vs 0 = .agg #[.int .i64 me,.slice o1 n1 k1,.slice o2 n2 k2,.slice o3 n3 k3,.slice o4 n4 k4,.slice o5 n5 k5] := (hv 0 (by omega)).2 (by decide)
   rw [← h]
   exact (hv 0 (by omega)).1
  have g59 : a.tmps[59]? = some (vs 5) := (hv 5 (by omega)).1
  have G59 := (hv 5 (by omega)).2 (by decide)
  have o59 : OwnU w' W.heap.size (vs 5) (lo ++ ls) := G59
  generalize vs 5 = v' at *
  have H2x := H2.out.on hb
  have lt2 := H2.out.lt
  show Rg.SeqFrom _ _ _ 2 6 a w'
  simp only [Rg.SeqFrom]
  refine Rg.op_store 31 (.tmp 2) (.tmp 54) rfl rfl rfl rfl (Rg.eval_some g2) (Rg.eval_some g54) (w' := setB w' b2 (.int .i64 me) (.slice o1 n1 k1) (.slice o2 n2 k2) (.slice o3 n3 k3) (.slice o4 n4 k4) (.slice o5 n5 k5)) (storeBr H2x me _ _ _ _ _ _ _ _ _ _ _ _ _ _ _) ?_
  refine Rg.op_value rfl rfl (Rg.ex_assign a.eval _ (.tmp 59) rfl _) ?_
  show Q .normal (a.put (some 9) (a.eval (.tmp 59))) _
  rw [Rg.eval_some g59]
  have hx := setB_box H2x (.int .i64 me) (.slice o1 n1 k1) (.slice o2 n2 k2) (.slice o3 n3 k3) (.slice o4 n4 k4) (.slice o5 n5 k5)
  have ho := setB_ownA o59 b2 lt2 (.int .i64 me) (.slice o1 n1 k1) (.slice o2 n2 k2) (.slice o3 n3 k3) (.slice o4 n4 k4) (.slice o5 n5 k5)
  have hk : ∀ j,j < W.heap.size → j ≠ b2 → (setB w' b2 (.int .i64 me) (.slice o1 n1 k1) (.slice o2 n2 k2) (.slice o3 n3 k3) (.slice o4 n4 k4) (.slice o5 n5 k5)).heap[j]? = W.heap[j]? := fun j hj hne => (setB_heap w' b2 (.int .i64 me) (.slice o1 n1 k1) (.slice o2 n2 k2) (.slice o3 n3 k3) (.slice o4 n4 k4) (.slice o5 n5 k5) j hne).trans (hb.block j hj)
  have hbl : ∀ B,B ≤ b2 → Below B W (setB w' b2 (.int .i64 me) (.slice o1 n1 k1) (.slice o2 n2 k2) (.slice o3 n3 k3) (.slice o4 n4 k4) (.slice o5 n5 k5)) := fun B hB => setB_below (hb.mono (Nat.le_of_lt (Nat.lt_of_le_of_lt hB lt2))) hB _ _ _ _ _ _
  obtain ⟨sa,sc2,hsv⟩ := (Row.of_own ho).len
  generalize setB w' b2 (.int .i64 me) (.slice o1 n1 k1) (.slice o2 n2 k2) (.slice o3 n3 k3) (.slice o4 n4 k4) (.slice o5 n5 k5) = x2 at *
  have ka : ∀ j,j ≠ 9 → (a.put (some 9) v').tmps[j]? = a.tmps[j]? := fun j h1 => by rw [Rg.get_put _ _ _ _ (by omega)]
  have kt : (a.put (some 9) v').tmps[9]? = some (v') := by simp [Act.put,sz']
  have kp2 : ∀ j,(j < 54 ∨ 60 ≤ j) → (a.put (some 9) v').tmps[j]? = (u0 :: u1 :: .pointer (some ⟨b2,0,none⟩) :: u3 :: u4 :: u5 :: u6 :: u7 :: u8 :: v' :: u10 :: u11 :: .pointer (some ⟨b12,0,none⟩) :: .slice to_ tn tc :: u14 :: u15 :: u16 :: u17 :: u18 :: u19 :: u20 :: u21 :: u22 :: u23 :: u24 :: u25 :: u26 :: u27 :: u28 :: u29 :: u30 :: u31 :: u32 :: u33 :: u34 :: u35 :: u36 :: u37 :: u38 :: u39 :: u40 :: u41 :: u42 :: u43 :: u44 :: u45 :: u46 :: u47 :: u48 :: u49 :: u50 :: u51 :: u52 :: u53 :: u54 :: u55 :: u56 :: u57 :: u58 :: u59 :: u60 :: u61 :: u62 :: [])[j]? := fun j hj => by
   by_cases hj2 : j = 9
   ·subst hj2
    exact kt
   ·have hs : (u0 :: u1 :: .pointer (some ⟨b2,0,none⟩) :: u3 :: u4 :: u5 :: u6 :: u7 :: u8 :: v' :: u10 :: u11 :: .pointer (some ⟨b12,0,none⟩) :: .slice to_ tn tc :: u14 :: u15 :: u16 :: u17 :: u18 :: u19 :: u20 :: u21 :: u22 :: u23 :: u24 :: u25 :: u26 :: u27 :: u28 :: u29 :: u30 :: u31 :: u32 :: u33 :: u34 :: u35 :: u36 :: u37 :: u38 :: u39 :: u40 :: u41 :: u42 :: u43 :: u44 :: u45 :: u46 :: u47 :: u48 :: u49 :: u50 :: u51 :: u52 :: u53 :: u54 :: u55 :: u56 :: u57 :: u58 :: u59 :: u60 :: u61 :: u62 :: [] : List Value) = (u0 :: u1 :: .pointer (some ⟨b2,0,none⟩) :: u3 :: u4 :: u5 :: u6 :: u7 :: u8 :: .slice so sn sc :: u10 :: u11 :: .pointer (some ⟨b12,0,none⟩) :: .slice to_ tn tc :: u14 :: u15 :: u16 :: u17 :: u18 :: u19 :: u20 :: u21 :: u22 :: u23 :: u24 :: u25 :: u26 :: u27 :: u28 :: u29 :: u30 :: u31 :: u32 :: u33 :: u34 :: u35 :: u36 :: u37 :: u38 :: u39 :: u40 :: u41 :: u42 :: u43 :: u44 :: u45 :: u46 :: u47 :: u48 :: u49 :: u50 :: u51 :: u52 :: u53 :: u54 :: u55 :: u56 :: u57 :: u58 :: u59 :: u60 :: u61 :: u62 :: []).set 9 (v') := rfl
    rw [hs,List.getElem?_set_ne (Ne.symm hj2)]
    exact (ka j hj2).trans ((kp j (nd j fun i hi h => by have := (by decide : ∀ i,i < 6 → 54 ≤ [54,55,56,57,58,59].getD i 0 ∧ [54,55,56,57,58,59].getD i 0 < 60) i hi; omega)).trans List.getElem?_toArray)
  obtain ⟨mid,hmid,hfr⟩ := Rg.frame_mid (a := a.put (some 9) v') 54 6 (by simp [Act.put,df]) (by simp [Act.put,sz']) (by simp) kp2
  rw [hfr]
  match mid,hmid with
  | [v54,v55,v56,v57,v58,v59],_ =>
   exact HQ.out x2 _ _ _ _ _ _ _ hx ho hk hbl
theorem takeK_all {t : Id} {m : List En} (R : En → Prop) (hR : ∀ e,e.tree = t → R e → R (upE e)) (h : ∀ e ∈ m,R e) : ∀ k,(∀ e ∈ (takeK t m k).1,R e) ∧ ∀ e ∈ (takeK t m k).2,R e
 | 0 => ⟨h,fun e he => by simp [takeK] at he⟩
 | k + 1 => by
  have ih := takeK_all (t := t) R hR h k
  rw [takeK_succ]
  unfold takeStep
  split
  ·exact ih
  ·rename_i e he
   split
   ·rename_i hcond
    have hu := hR e hcond.1 (ih.1 e (List.mem_of_getElem? he))
    refine ⟨fun x hx => ?_,fun x hx => ?_⟩
    ·rcases List.mem_or_eq_of_mem_set hx with h1 | h1
     ·exact ih.1 x h1
     ·rw [h1]
      exact hu
    ·rcases List.mem_append.1 hx with h1 | h1
     ·exact ih.2 x h1
     ·rw [List.mem_singleton.1 h1]
      exact hu
   ·exact ih
theorem mem_cut {α : Type} {l : List α} {k : Nat} {x : α} (h : x ∈ cutAt l k) : x ∈ l := by
 rcases List.mem_append.1 h with h | h
 ·exact List.mem_of_mem_take h
 ·exact List.mem_of_mem_drop h
theorem takeB_all {b : Br} (t x : Id) (f : Int) (R : En → Prop) (hR : ∀ e,e.tree = t → R e → R (upE e)) (h : ∀ e ∈ b.ent,R e) : (∀ e ∈ (takeB b t x f).1.ent,R e) ∧ ∀ e ∈ (takeB b t x f).2.1,R e := by
 unfold takeB
 split
 ·exact ⟨h,fun e he => by simp at he⟩
 ·split
  ·exact ⟨h,fun e he => by simp at he⟩
  ·split
   ·exact ⟨h,fun e he => by simp at he⟩
   ·split
    ·exact ⟨fun e he => h e (mem_cut he),fun e he => by simp at he⟩
    ·exact takeK_all R hR (fun e he => h e (mem_cut he)) _
theorem dropB_len (b : Br) (t x : Id) (f : Int) : (dropB b t x f).2.length ≤ b.ent.length + 1 := by
 unfold dropB
 have h := (takeB_len b t x f).2
 split
 ·simp
 ·split
  ·simp
  ·rw [List.length_append,List.length_map]
   simp
   omega
def unsubStep (x : Id) (s : Br × List Ou) (t : Id) : Br × List Ou := ((dropB s.1 t x (-1)).1,s.2 ++ (dropB s.1 t x (-1)).2)
def ownBut (b : Br) (x : Id) : List Ow := b.own.filter fun o => decide (o.id ≠ x)
def unsubK (b : Br) (x : Id) (k : Nat) : Br × List Ou := ((b.adv.map Ad.id).take k).foldl (unsubStep x) ({ b with own := ownBut b x },[])
def unsubsB (b : Br) (x : Id) : Br × List Ou := if (ownBut b x).length = b.own.length then (b,[]) else unsubK b x b.adv.length
theorem unsubK_succ (b : Br) (x : Id) {k : Nat} {a : Ad} (h : b.adv[k]? = some a) : unsubK b x (k + 1) = unsubStep x (unsubK b x k) a.id := by
 unfold unsubK
 rw [List.take_add_one,List.getElem?_map,h,List.foldl_append]
 rfl
structure UnI (b0 b : Br) (o : List Ow) : Prop where
 me : b.me = b0.me
 near : b.near = b0.near
 adv : b.adv = b0.adv
 seen : b.seen = b0.seen
 own : b.own = o
 len : b.ent.length ≤ b0.ent.length
theorem UnI.drop {b0 b : Br} {o : List Ow} (h : UnI b0 b o) (t x : Id) (f : Int) : UnI b0 (dropB b t x f).1 o := by
 rw [dropB_near]
 obtain ⟨h1,h2,h3,h4,h5⟩ := takeB_adv b t x f
 exact ⟨h3.trans h.me,h2.trans h.near,h1.trans h.adv,h4.trans h.seen,h5.trans h.own,Nat.le_trans (takeB_len b t x f).1 h.len⟩
theorem unsubK_ok (b : Br) (x : Id) : ∀ k,k ≤ b.adv.length → UnI b (unsubK b x k).1 (ownBut b x) ∧ (unsubK b x k).2.length ≤ k * (b.ent.length + 1)
 | 0,_ => ⟨⟨rfl,rfl,rfl,rfl,rfl,Nat.le_refl _⟩,by simp [unsubK]⟩
 | k + 1,hk => by
  obtain ⟨a,ha⟩ : ∃ a,b.adv[k]? = some a := ⟨_,List.getElem?_eq_getElem hk⟩
  obtain ⟨h1,h2⟩ := unsubK_ok b x k (by omega)
  rw [unsubK_succ b x ha]
  refine ⟨h1.drop _ _ _,?_⟩
  show ((unsubK b x k).2 ++ (dropB (unsubK b x k).1 a.id x (-1)).2).length ≤ _
  have h3 := dropB_len (unsubK b x k).1 a.id x (-1)
  have h4 := h1.len
  rw [List.length_append,Nat.add_mul]
  omega
theorem unsubK_all (b : Br) (x : Id) (R : En → Prop) (hR : ∀ e,R e → R (upE e)) (h : ∀ e ∈ b.ent,R e) : ∀ k,k ≤ b.adv.length → ∀ e ∈ (unsubK b x k).1.ent,R e
 | 0,_ => h
 | k + 1,hk => by
  obtain ⟨a,ha⟩ : ∃ a,b.adv[k]? = some a := ⟨_,List.getElem?_eq_getElem hk⟩
  rw [unsubK_succ b x ha]
  show ∀ e ∈ (dropB _ _ _ _).1.ent,R e
  rw [dropB_near]
  exact (takeB_all _ _ _ R (fun e _ => hR e) (unsubK_all b x R hR h k (by omega))).1
end Go.Proofs.YtncogjpmboglhaaGreat.Bk
