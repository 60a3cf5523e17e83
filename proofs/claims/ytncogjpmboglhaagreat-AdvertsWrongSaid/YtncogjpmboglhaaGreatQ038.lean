/-
  The last region of OnSub: the entry's message to its tree's parent, th. Conditions as told.
-/
import Derived.Test.YtncogjpmboglhaaGreatQ025
import Derived.Test.YtncogjpmboglhaaGreatQ018
import Derived.Test.YtncogjpmboglhaaGreatQ022
import Derived.Test.YtncogjpmboglhaaGreatQ021
import Derived.Test.YtncogjpmboglhaaGreatQ035
import Derived.Test.YtncogjpmboglhaaGreatQ037
import Derived.Test.YtncogjpmboglhaaGreatQ009
import Derived.Test.YtncogjpmboglhaaGreatQ020
set_option maxRecDepth 100000
set_option maxHeartbeats 64000000
namespace Go.Proofs.YtncogjpmboglhaaGreat.Bk
open Go.RowKit Go.Sort Rw YtncogjpmboglhaaGreat.Nm Pr
def oV (W : Nat) (bv : Value) (c d c2 d2 : Int) (av : Value) (ki : Nat) (p : Addr) (to_ : Int) (po : Option Addr) (pn pc : Nat) (fr : Int) (up : Bool) (b3 b5 : Nat) (i : Nat) (v : Value) (x : World) : Prop :=
 match i with
 | 0 => v = bv
 | 1 => v = .pointer (some ⟨b3,2,none⟩)
 | 2 => v = av
 | 3 => v = bv
 | 4 => v = .pointer (some ⟨b5,1,none⟩)
 | 5 => v = idv (c,d)
 | 6 => v = .int .i64 (ki : Int)
 | 7 => v = .pointer (some p)
 | 8 => v = .pointer (some ⟨p.block,p.off + 3,none⟩)
 | 9 => v = .int .i64 to_
 | 10 => v = valN (c,d,c2,d2,(po,pn,pc),fr,up)
 | 11 => v = .agg #[.int .i64 3,.int .i64 c,.int .i64 d,.int .i64 c2,.int .i64 d2,.slice po pn pc,.slice none 0 0]
 | 12 => v = valU (to_,3,c,d,c2,d2,(po,pn,pc),(none,0,0))
 | 13 => OwnU x W v [(to_,3,c,d,c2,d2,(po,pn,pc),(none,0,0))]
 | 15 => OwnU x W v [(to_,3,c,d,c2,d2,(po,pn,pc),(none,0,0))]
 | _ => True
def oF (W : World) (b6 : Nat) (bc : Array Value) (D : Nat → Prop) (x : World) : Prop :=
 (∀ j,j < W.heap.size → j ≠ b6 → x.heap[j]? = W.heap[j]?) ∧ (∀ B,B ≤ b6 → Below B W x) ∧ (¬ D 14 → Below W.heap.size W x) ∧ (D 14 → Box x b6 bc 31) ∧ W.heap.size ≤ x.heap.size
noncomputable def onsR5 : Code := ((Tryz.f100.body.bind (findRegion 5)).getD .skip)
theorem ons_r5 (Q : Exit → Act → World → Prop) (W : World) (b3 b5 b6 b8 : Nat) (me mk c d c2 d2 fr to_ : Int) (up : Bool) (o1 o2 o3 o4 o5 : Option Addr) (n1 k1 n2 k2 n3 k3 n4 k4 n5 k5 : Nat) (po qo : Option Addr) (pn pc qn qc : Nat) (ad : List XAd) (ki : Nat) (p : Addr) (z0 z1 z2 z3 z4 z5 : Value) (u0 u1 u2 u4 u7 u9 u10 u11 u12 u13 u14 u15 u16 u17 u18 u19 u20 u21 u22 u23 u24 u25 u26 u27 u28 u29 u30 u31 u32 u33 u34 u35 u36 u37 u38 u39 u40 : Value)
  (h3 : Box W b3 #[.int .i64 me,.slice o1 n1 k1,.slice o2 n2 k2,.slice o3 n3 k3,.slice o4 n4 k4,.slice o5 n5 k5] 31) (h5 : Box W b5 #[.int .i64 mk,.int .i64 c,.int .i64 d,.int .i64 c2,.int .i64 d2,.slice po pn pc,.slice qo qn qc] 77) (h6 : Box W b6 #[z0,z1,z2,z3,z4,z5] 31) (h8 : Box W b8 #[.int .i64 c,.int .i64 d,.int .i64 c2,.int .i64 d2,.slice po pn pc,.int .i64 fr,.bool up] 43) (n3_ : b3 ≠ b6) (n5_ : b5 ≠ b6) (n8_ : b8 ≠ b6) (hd : RowD W (.slice o2 n2 k2) ad) (fk : findI (ad.map fun y => (y.1,y.2.1)) (c,d) = ki) (ix : ∀ w,(Instr.indexAt 26 (.slice o2 n2 k2) (.int .i64 (ki : Int))).run Tryz.prog w = .ok (.pointer (some p)) w) (px : W.cell? ⟨p.block,p.off + 3,none⟩ = some (.int .i64 to_)) (pl : p.block < W.heap.size) (pn_ : p.block ≠ b6)
  (hQ : ∀ (a : Act) (x : World) (sl : Sl),a.defers = [] → a.tmps[6]? = some (.pointer (some ⟨b6,0,none⟩)) → a.tmps[7]? = some (slv sl) → Box x b6 #[.int .i64 me,.slice o1 n1 k1,.slice o2 n2 k2,.slice o3 n3 k3,.slice o4 n4 k4,.slice o5 n5 k5] 31 → OwnU x W.heap.size (slv sl) [(to_,3,c,d,c2,d2,(po,pn,pc),(none,0,0))] → (∀ k,k < W.heap.size → k ≠ b6 → x.heap[k]? = W.heap[k]?) → (∀ B,B ≤ b6 → Below B W x) → Q .normal a x) :
  Code.wp Tryz.prog onsR5 Q ⟨(u0 :: u1 :: u2 :: .pointer (some ⟨b3,0,none⟩) :: u4 :: .pointer (some ⟨b5,0,none⟩) :: .pointer (some ⟨b6,0,none⟩) :: u7 :: .pointer (some ⟨b8,0,none⟩) :: u9 :: u10 :: u11 :: u12 :: u13 :: u14 :: u15 :: u16 :: u17 :: u18 :: u19 :: u20 :: u21 :: u22 :: u23 :: u24 :: u25 :: u26 :: u27 :: u28 :: u29 :: u30 :: u31 :: u32 :: u33 :: u34 :: u35 :: u36 :: u37 :: u38 :: u39 :: u40 :: []).toArray,[]⟩ W := by
 have HQ := Lib.hid hQ
 have H3 := Lib.hid h3
 have H5 := Lib.hid h5
 have H6 := Lib.hid h6
 have H8 := Lib.hid h8
 have N3 := Lib.hid n3_
 have N5 := Lib.hid n5_
 have N8 := Lib.hid n8_
 have HD := Lib.hid hd
 have FK := Lib.hid fk
 have IX := Lib.hid ix
 have PX := Lib.hid px
 have PL := Lib.hid pl
 have PN := Lib.hid pn_
 clear hQ h3 h5 h6 h8 n3_ n5_ n8_ hd fk ix px pl pn_
 unfold onsR5
 conv => arg 2; whnf
 have nd : ∀ j,(∀ i,i < 16 → [some 27,some 28,some 29,some 30,some 31,some 32,some 33,some 34,some 35,some 36,some 37,some 38,some 39,some 40,none,some 7].getD i none ≠ some j) → ∀ i,i < 16 → (fun i => [some 27,some 28,some 29,some 30,some 31,some 32,some 33,some 34,some 35,some 36,some 37,some 38,some 39,some 40,none,some 7].getD i none) i ≠ some j := fun j h => h
 refine Rg.region_done 16 (fun i => [some 27,some 28,some 29,some 30,some 31,some 32,some 33,some 34,some 35,some 36,some 37,some 38,some 39,some 40,none,some 7].getD i none) (fun _ => 16) (oV W.heap.size (.agg #[.int .i64 me,.slice o1 n1 k1,.slice o2 n2 k2,.slice o3 n3 k3,.slice o4 n4 k4,.slice o5 n5 k5]) c d c2 d2 (.slice o2 n2 k2) ki p to_ po pn pc fr up b3 b5) (oF W b6 #[.int .i64 me,.slice o1 n1 k1,.slice o2 n2 k2,.slice o3 n3 k3,.slice o4 n4 k4,.slice o5 n5 k5]) (by kernel_rfl) (by kernel_rfl) rfl (fun i j e hi hj h1 h2 => (by decide : ∀ i,i < 16 → ∀ j,j < 16 → ([some 27,some 28,some 29,some 30,some 31,some 32,some 33,some 34,some 35,some 36,some 37,some 38,some 39,some 40,none,some 7].getD i none).isSome = true → [some 27,some 28,some 29,some 30,some 31,some 32,some 33,some 34,some 35,some 36,some 37,some 38,some 39,some 40,none,some 7].getD i none = [some 27,some 28,some 29,some 30,some 31,some 32,some 33,some 34,some 35,some 36,some 37,some 38,some 39,some 40,none,some 7].getD j none → i = j) i hi j hj (by have h1 : [some 27,some 28,some 29,some 30,some 31,some 32,some 33,some 34,some 35,some 36,some 37,some 38,some 39,some 40,none,some 7].getD i none = some e := h1; rw [h1]; rfl) (h1.trans h2.symm)) (fun i e hi h => (by decide : ∀ i,i < 16 → ∀ q ∈ [some 27,some 28,some 29,some 30,some 31,some 32,some 33,some 34,some 35,some 36,some 37,some 38,some 39,some 40,none,some 7].getD i none,q < 41) i hi e h) ⟨fun _ _ _ => rfl,fun _ _ => (Below.refl _ _).drew,fun _ => (Below.refl _ _).drew,False.elim,Nat.le_refl _⟩ ?_ ?_
 ·intro i o hi ho a x D hnd hc hD hF seen K hK
  clear HQ
  have still : ∀ i,i ≠ 14 → oF W b6 #[.int .i64 me,.slice o1 n1 k1,.slice o2 n2 k2,.slice o3 n3 k3,.slice o4 n4 k4,.slice o5 n5 k5] (fun j => j = i ∨ D j) x := fun i h9 => ⟨hF.1,hF.2.1,fun h => hF.2.2.1 fun h2 => h (Or.inr h2),fun h => hF.2.2.2.1 (h.resolve_left (Ne.symm h9)),hF.2.2.2.2⟩
  rcases (by omega : i = 0 ∨ i = 1 ∨ i = 2 ∨ i = 3 ∨ i = 4 ∨ i = 5 ∨ i = 6 ∨ i = 7 ∨ i = 8 ∨ i = 9 ∨ i = 10 ∨ i = 11 ∨ i = 12 ∨ i = 13 ∨ i = 14 ∨ i = 15) with rfl | rfl | rfl | rfl | rfl | rfl | rfl | rfl | rfl | rfl | rfl | rfl | rfl | rfl | rfl | rfl
  ·obtain rfl := Option.some.inj ho
   have e3 : a.eval (.tmp 3) = .pointer (some ⟨b3,0,none⟩) := seen.kp 3 _ (nd 3 (by decide)) rfl
   have bxH3 := show Box x _ _ _ from (hF.1 _ H3.out.lt N3.out).trans H3.out
   exact Rg.op_value rfl rfl (Rg.ex_load a.eval _ 31 (.tmp 3) rfl (by rw [e3]; exact loadBr bxH3)) (hK _ _ rfl (still 0 (by decide)) fun _ _ _ _ _ _ _ h => h)
  ·obtain rfl := Option.some.inj ho
   have e3 : a.eval (.tmp 3) = .pointer (some ⟨b3,0,none⟩) := seen.kp 3 _ (nd 3 (by decide)) rfl
   exact Rg.op_value rfl rfl (Rg.ex_field a.eval _ 31 (.tmp 3) 2 rfl (by rw [e3]; simp [go_sem])) (hK _ _ rfl (still 1 (by decide)) fun _ _ _ _ _ _ _ h => h)
  ·obtain rfl := Option.some.inj ho
   have e28 : a.eval (.tmp 28) = .pointer (some ⟨b3,2,none⟩) := seen.at_ ⟨1,.data⟩ (by simp) rfl (Or.inr (by decide)) _ rfl
   have bxH3 := show Box x _ _ _ from (hF.1 _ H3.out.lt N3.out).trans H3.out
   have y := bxH3.cell 2
   simp only [List.getElem?_toArray,List.getElem?_cons_zero,List.getElem?_cons_succ] at y
   exact Rg.op_value rfl rfl (Rg.ex_load a.eval _ 26 (.tmp 28) rfl (by rw [e28]; simp [go_sem,y])) (hK _ _ rfl (still 2 (by decide)) fun _ _ _ _ _ _ _ h => h)
  ·obtain rfl := Option.some.inj ho
   have e3 : a.eval (.tmp 3) = .pointer (some ⟨b3,0,none⟩) := seen.kp 3 _ (nd 3 (by decide)) rfl
   have bxH3 := show Box x _ _ _ from (hF.1 _ H3.out.lt N3.out).trans H3.out
   exact Rg.op_value rfl rfl (Rg.ex_load a.eval _ 31 (.tmp 3) rfl (by rw [e3]; exact loadBr bxH3)) (hK _ _ rfl (still 3 (by decide)) fun _ _ _ _ _ _ _ h => h)
  ·obtain rfl := Option.some.inj ho
   have e5 : a.eval (.tmp 5) = .pointer (some ⟨b5,0,none⟩) := seen.kp 5 _ (nd 5 (by decide)) rfl
   exact Rg.op_value rfl rfl (Rg.ex_field a.eval _ 77 (.tmp 5) 1 rfl (by rw [e5]; simp [go_sem])) (hK _ _ rfl (still 4 (by decide)) fun _ _ _ _ _ _ _ h => h)
  ·obtain rfl := Option.some.inj ho
   have e31 : a.eval (.tmp 31) = .pointer (some ⟨b5,1,none⟩) := seen.at_ ⟨4,.data⟩ (by simp) rfl (Or.inr (by decide)) _ rfl
   have bxH5 := show Box x _ _ _ from (hF.1 _ H5.out.lt N5.out).trans H5.out
   have y1 := bxH5.cell 1
   have y2 := bxH5.cell 2
   simp only [List.getElem?_toArray,List.getElem?_cons_zero,List.getElem?_cons_succ] at y1 y2
   exact Rg.op_value rfl rfl (Rg.ex_load a.eval _ 38 (.tmp 31) rfl (by rw [e31]; simp [go_sem,y1,y2])) (hK _ _ rfl (still 5 (by decide)) fun _ _ _ _ _ _ _ h => h)
  ·obtain rfl := Option.some.inj ho
   have e30 : a.eval (.tmp 30) = .agg #[.int .i64 me,.slice o1 n1 k1,.slice o2 n2 k2,.slice o3 n3 k3,.slice o4 n4 k4,.slice o5 n5 k5] := seen.at_ ⟨3,.data⟩ (by simp) rfl (Or.inr (by decide)) _ rfl
   have e32 : a.eval (.tmp 32) = idv (c,d) := seen.at_ ⟨5,.data⟩ (by simp) rfl (Or.inr (by decide)) _ rfl
   have nS : ¬ D 14 := fun h => hnd (hc 11 _ (hc 14 _ h rfl ⟨11,.chain⟩ (by simp) rfl) rfl ⟨6,.chain⟩ (by simp) rfl)
   have hb := hF.2.2.1 nS
   have n13 : ¬ D 13 := fun h => hnd (hc 11 _ (hc 12 _ (hc 13 _ h rfl ⟨12,.data⟩ (by simp) rfl) rfl ⟨11,.data⟩ (by simp) rfl) rfl ⟨6,.chain⟩ (by simp) rfl)
   exact Rg.op_call rfl rfl (ex_call2 a.eval _ (.tmp 30) (.tmp 32) 31 38 78 rfl e30 e32 rfl _ (call_fn Tryz.func78 rfl rfl _ _)) (rfind_any me _ _ _ _ (o2,n2,k2) ad (c,d) x (HD.out.on hb)) fun e w1 h => by
    obtain ⟨rfl,h3⟩ := h
    refine ⟨_,rfl,hK _ _ (by rw [FK.out]; rfl) ⟨fun j hj hne => (h3.block j (Nat.lt_of_lt_of_le hj hb.size)).trans (hF.1 j hj hne),fun B hB => (hF.2.1 B hB).trans (h3.mono (Nat.le_trans (Nat.le_trans hB (Nat.le_of_lt H6.out.lt)) hb.size)),fun _ => hb.trans (h3.mono hb.size),fun h => absurd (h.resolve_left (by decide)) nS,Nat.le_trans hb.size h3.size⟩ fun j u hj dj _ _ _ h => ?_⟩
    rcases (by omega : j = 0 ∨ j = 1 ∨ j = 2 ∨ j = 3 ∨ j = 4 ∨ j = 5 ∨ j = 6 ∨ j = 7 ∨ j = 8 ∨ j = 9 ∨ j = 10 ∨ j = 11 ∨ j = 12 ∨ j = 13 ∨ j = 14 ∨ j = 15) with rfl | rfl | rfl | rfl | rfl | rfl | rfl | rfl | rfl | rfl | rfl | rfl | rfl | rfl | rfl | rfl
    ·exact h
    ·exact h
    ·exact h
    ·exact h
    ·exact h
    ·exact h
    ·exact h
    ·exact h
    ·exact h
    ·exact h
    ·exact h
    ·exact h
    ·exact h
    ·exact absurd dj n13
    ·exact h
    ·exact absurd (hc 15 _ dj rfl ⟨13,.data⟩ (by simp) rfl) n13
  ·obtain rfl := Option.some.inj ho
   have e29 : a.eval (.tmp 29) = .slice o2 n2 k2 := seen.at_ ⟨2,.data⟩ (by simp) rfl (Or.inr (by decide)) _ rfl
   have e33 : a.eval (.tmp 33) = .int .i64 (ki : Int) := seen.at_ ⟨6,.data⟩ (by simp) rfl (Or.inr (by decide)) _ rfl
   exact Rg.op_value rfl rfl (Rg.ex_index a.eval _ 26 (.tmp 29) (.tmp 33) rfl (by rw [e29,e33]; exact IX.out x)) (hK _ _ rfl (still 7 (by decide)) fun _ _ _ _ _ _ _ h => h)
  ·obtain rfl := Option.some.inj ho
   have e34 : a.eval (.tmp 34) = .pointer (some p) := seen.at_ ⟨7,.data⟩ (by simp) rfl (Or.inr (by decide)) _ rfl
   exact Rg.op_value rfl rfl (Rg.ex_field a.eval _ 41 (.tmp 34) 2 rfl (by rw [e34]; simp [go_sem])) (hK _ _ rfl (still 8 (by decide)) fun _ _ _ _ _ _ _ h => h)
  ·obtain rfl := Option.some.inj ho
   have e35 : a.eval (.tmp 35) = .pointer (some ⟨p.block,p.off + 3,none⟩) := seen.at_ ⟨8,.data⟩ (by simp) rfl (Or.inr (by decide)) _ rfl
   have y : x.cell? ⟨p.block,p.off + 3,none⟩ = some (.int .i64 to_) := by
    have h := PX.out
    unfold World.cell? at h ⊢
    rw [hF.1 _ PL.out PN.out]
    exact h
   exact Rg.op_value rfl rfl (Rg.ex_load a.eval _ 3 (.tmp 35) rfl (by rw [e35]; simp [go_sem,y])) (hK _ _ rfl (still 9 (by decide)) fun _ _ _ _ _ _ _ h => h)
  ·obtain rfl := Option.some.inj ho
   have e8 : a.eval (.tmp 8) = .pointer (some ⟨b8,0,none⟩) := seen.kp 8 _ (nd 8 (by decide)) rfl
   have bxH8 := show Box x _ _ _ from (hF.1 _ H8.out.lt N8.out).trans H8.out
   obtain ⟨y0,y1,y2,y3,y4,y5,y6⟩ := bxH8.cs7
   exact Rg.op_value rfl rfl (Rg.ex_load a.eval _ 43 (.tmp 8) rfl (by rw [e8]; simp [go_sem,y0,y1,y2,y3,y4,y5,y6])) (hK _ _ rfl (still 10 (by decide)) fun _ _ _ _ _ _ _ h => h)
  ·obtain rfl := Option.some.inj ho
   have e37 : a.eval (.tmp 37) = valN (c,d,c2,d2,(po,pn,pc),fr,up) := seen.at_ ⟨10,.data⟩ (by simp) rfl (Or.inr (by decide)) _ rfl
   have nS : ¬ D 14 := fun h => hnd (hc 14 _ h rfl ⟨11,.chain⟩ (by simp) rfl)
   have hb := hF.2.2.1 nS
   have n13 : ¬ D 13 := fun h => hnd (hc 12 _ (hc 13 _ h rfl ⟨12,.data⟩ (by simp) rfl) rfl ⟨11,.data⟩ (by simp) rfl)
   exact Rg.op_call rfl rfl (ex_call1 a.eval _ (.tmp 37) 43 96 rfl e37 rfl _ (call_fn Tryz.func96 rfl rfl _ _)) (sub_any (c,d,c2,d2,(po,pn,pc),fr,up) x) fun e w1 h => by
    obtain ⟨rfl,h3⟩ := h
    refine ⟨_,rfl,hK _ _ rfl ⟨fun j hj hne => (h3.block j (Nat.lt_of_lt_of_le hj hb.size)).trans (hF.1 j hj hne),fun B hB => (hF.2.1 B hB).trans (h3.mono (Nat.le_trans (Nat.le_trans hB (Nat.le_of_lt H6.out.lt)) hb.size)),fun _ => hb.trans (h3.mono hb.size),fun h => absurd (h.resolve_left (by decide)) nS,Nat.le_trans hb.size h3.size⟩ fun j u hj dj _ _ _ h => ?_⟩
    rcases (by omega : j = 0 ∨ j = 1 ∨ j = 2 ∨ j = 3 ∨ j = 4 ∨ j = 5 ∨ j = 6 ∨ j = 7 ∨ j = 8 ∨ j = 9 ∨ j = 10 ∨ j = 11 ∨ j = 12 ∨ j = 13 ∨ j = 14 ∨ j = 15) with rfl | rfl | rfl | rfl | rfl | rfl | rfl | rfl | rfl | rfl | rfl | rfl | rfl | rfl | rfl | rfl
    ·exact h
    ·exact h
    ·exact h
    ·exact h
    ·exact h
    ·exact h
    ·exact h
    ·exact h
    ·exact h
    ·exact h
    ·exact h
    ·exact h
    ·exact h
    ·exact absurd dj n13
    ·exact h
    ·exact absurd (hc 15 _ dj rfl ⟨13,.data⟩ (by simp) rfl) n13
  ·obtain rfl := Option.some.inj ho
   have e36 : a.eval (.tmp 36) = .int .i64 to_ := seen.at_ ⟨9,.data⟩ (by simp) rfl (Or.inr (by decide)) _ rfl
   have e38 : a.eval (.tmp 38) = .agg #[.int .i64 3,.int .i64 c,.int .i64 d,.int .i64 c2,.int .i64 d2,.slice po pn pc,.slice none 0 0] := seen.at_ ⟨11,.data⟩ (by simp) rfl (Or.inr (by decide)) _ rfl
   exact Rg.op_value rfl rfl (Rg.ex_buildS a.eval _ 141 #[(0,.tmp 36),(1,.tmp 38)] rfl (ps := #[(0,.int .i64 to_),(1,.agg #[.int .i64 3,.int .i64 c,.int .i64 d,.int .i64 c2,.int .i64 d2,.slice po pn pc,.slice none 0 0])]) (by simp only [List.map_toArray,List.map_cons,List.map_nil,e36,e38]) (by simp [go_sem])) (hK _ _ rfl (still 12 (by decide)) fun _ _ _ _ _ _ _ h => h)
  ·obtain rfl := Option.some.inj ho
   have e39 : a.eval (.tmp 39) = valU (to_,3,c,d,c2,d2,(po,pn,pc),(none,0,0)) := seen.at_ ⟨12,.data⟩ (by simp) rfl (Or.inr (by decide)) _ rfl
   have n15 : ¬ D 15 := fun h => hnd (hc 15 _ h rfl ⟨13,.data⟩ (by simp) rfl)
   have hl := row_lit okU x [((to_,3,c,d,c2,d2,(po,pn,pc),(none,0,0)) : XOu)] 1 rfl (by simp) (cellsU (to_,3,c,d,c2,d2,(po,pn,pc),(none,0,0))).toArray (by simp [flat,EU])
   have nb := newB x (.cells (cellsU (to_,3,c,d,c2,d2,(po,pn,pc),(none,0,0))).toArray 141)
   have sz := hF.2.2.2.2
   have ff : oF W b6 #[.int .i64 me,.slice o1 n1 k1,.slice o2 n2 k2,.slice o3 n3 k3,.slice o4 n4 k4,.slice o5 n5 k5] (fun j => j = 13 ∨ D j) (x.alloc (.cells (cellsU (to_,3,c,d,c2,d2,(po,pn,pc),(none,0,0))).toArray 141)) := ⟨fun j hj hne => (nb.block j (Nat.lt_of_lt_of_le hj sz)).trans (hF.1 j hj hne),fun B hB => (hF.2.1 B hB).trans (nb.mono (Nat.le_trans (Nat.le_trans hB (Nat.le_of_lt H6.out.lt)) sz)),fun h => (hF.2.2.1 fun q => h (Or.inr q)).trans (nb.mono sz),fun h => (hF.2.2.2.1 (h.resolve_left (by decide))).on nb,Nat.le_trans sz nb.size⟩
   have st : ∀ j u,j < 16 → D j → j ≠ 13 → oV W.heap.size (.agg #[.int .i64 me,.slice o1 n1 k1,.slice o2 n2 k2,.slice o3 n3 k3,.slice o4 n4 k4,.slice o5 n5 k5]) c d c2 d2 (.slice o2 n2 k2) ki p to_ po pn pc fr up b3 b5 j u x → oV W.heap.size (.agg #[.int .i64 me,.slice o1 n1 k1,.slice o2 n2 k2,.slice o3 n3 k3,.slice o4 n4 k4,.slice o5 n5 k5]) c d c2 d2 (.slice o2 n2 k2) ki p to_ po pn pc fr up b3 b5 j u (x.alloc (.cells (cellsU (to_,3,c,d,c2,d2,(po,pn,pc),(none,0,0))).toArray 141)) := fun j u hj dj ni h => by
    rcases (by omega : j = 0 ∨ j = 1 ∨ j = 2 ∨ j = 3 ∨ j = 4 ∨ j = 5 ∨ j = 6 ∨ j = 7 ∨ j = 8 ∨ j = 9 ∨ j = 10 ∨ j = 11 ∨ j = 12 ∨ j = 13 ∨ j = 14 ∨ j = 15) with rfl | rfl | rfl | rfl | rfl | rfl | rfl | rfl | rfl | rfl | rfl | rfl | rfl | rfl | rfl | rfl
    ·exact h
    ·exact h
    ·exact h
    ·exact h
    ·exact h
    ·exact h
    ·exact h
    ·exact h
    ·exact h
    ·exact h
    ·exact h
    ·exact h
    ·exact h
    ·exact absurd rfl ni
    ·exact h
    ·exact absurd dj n15
   have q := hK (.slice (some ⟨x.heap.size,0,none⟩) 1 1) (x.alloc (.cells (cellsU (to_,3,c,d,c2,d2,(po,pn,pc),(none,0,0))).toArray 141)) (own_fewer hl sz) ff fun j u hj dj _ _ ni h => st j u hj dj ni h
   exact Rg.op_value rfl rfl (Rg.ex_build a.eval _ 78 1 #[(0,.tmp 39)] rfl (ps := #[(0,valU (to_,3,c,d,c2,d2,(po,pn,pc),(none,0,0)))]) (by simp [e39]) (by simp [go_sem])) q
  ·obtain rfl := Option.some.inj ho
   have e27 : a.eval (.tmp 27) = .agg #[.int .i64 me,.slice o1 n1 k1,.slice o2 n2 k2,.slice o3 n3 k3,.slice o4 n4 k4,.slice o5 n5 k5] := seen.at_ ⟨0,.data⟩ (by simp) rfl (Or.inr (by decide)) _ rfl
   have e6 : a.eval (.tmp 6) = .pointer (some ⟨b6,0,none⟩) := seen.kp 6 _ (nd 6 (by decide)) rfl
   have hb := hF.2.2.1 hnd
   have H6x := H6.out.on hb
   have s4 := setB_heap x b6 (.int .i64 me) (.slice o1 n1 k1) (.slice o2 n2 k2) (.slice o3 n3 k3) (.slice o4 n4 k4) (.slice o5 n5 k5)
   have hx := setB_box H6x (.int .i64 me) (.slice o1 n1 k1) (.slice o2 n2 k2) (.slice o3 n3 k3) (.slice o4 n4 k4) (.slice o5 n5 k5)
   have hs := storeBr H6x me o1 o2 o3 o4 o5 n1 k1 n2 k2 n3 k3 n4 k4 n5 k5
   have hy : ∀ B,B ≤ b6 → Below B W (setB x b6 (.int .i64 me) (.slice o1 n1 k1) (.slice o2 n2 k2) (.slice o3 n3 k3) (.slice o4 n4 k4) (.slice o5 n5 k5)) := fun B hB => setB_below (hF.2.1 B hB) hB _ _ _ _ _ _
   have so : ∀ v l,OwnU x W.heap.size v l → OwnU (setB x b6 (.int .i64 me) (.slice o1 n1 k1) (.slice o2 n2 k2) (.slice o3 n3 k3) (.slice o4 n4 k4) (.slice o5 n5 k5)) W.heap.size v l := fun v l h => setB_ownA h b6 H6.out.lt _ _ _ _ _ _
   have sz : x.heap.size ≤ (setB x b6 (.int .i64 me) (.slice o1 n1 k1) (.slice o2 n2 k2) (.slice o3 n3 k3) (.slice o4 n4 k4) (.slice o5 n5 k5)).heap.size := by simp [setB]
   generalize setB x b6 (.int .i64 me) (.slice o1 n1 k1) (.slice o2 n2 k2) (.slice o3 n3 k3) (.slice o4 n4 k4) (.slice o5 n5 k5) = x2 at *
   have n15 : ¬ D 15 := fun h => hnd (hc 15 _ h rfl ⟨14,.chain⟩ (by simp) rfl)
   have ff : oF W b6 #[.int .i64 me,.slice o1 n1 k1,.slice o2 n2 k2,.slice o3 n3 k3,.slice o4 n4 k4,.slice o5 n5 k5] (fun j => j = 14 ∨ D j) x2 := ⟨fun j hj hne => (s4 j hne).trans (hF.1 j hj hne),hy,fun h => absurd (Or.inl rfl) h,fun _ => hx,Nat.le_trans hF.2.2.2.2 sz⟩
   have st : ∀ j u,j < 16 → D j → oV W.heap.size (.agg #[.int .i64 me,.slice o1 n1 k1,.slice o2 n2 k2,.slice o3 n3 k3,.slice o4 n4 k4,.slice o5 n5 k5]) c d c2 d2 (.slice o2 n2 k2) ki p to_ po pn pc fr up b3 b5 j u x → oV W.heap.size (.agg #[.int .i64 me,.slice o1 n1 k1,.slice o2 n2 k2,.slice o3 n3 k3,.slice o4 n4 k4,.slice o5 n5 k5]) c d c2 d2 (.slice o2 n2 k2) ki p to_ po pn pc fr up b3 b5 j u x2 := fun j u hj dj h => by
    rcases (by omega : j = 0 ∨ j = 1 ∨ j = 2 ∨ j = 3 ∨ j = 4 ∨ j = 5 ∨ j = 6 ∨ j = 7 ∨ j = 8 ∨ j = 9 ∨ j = 10 ∨ j = 11 ∨ j = 12 ∨ j = 13 ∨ j = 14 ∨ j = 15) with rfl | rfl | rfl | rfl | rfl | rfl | rfl | rfl | rfl | rfl | rfl | rfl | rfl | rfl | rfl | rfl
    ·exact h
    ·exact h
    ·exact h
    ·exact h
    ·exact h
    ·exact h
    ·exact h
    ·exact h
    ·exact h
    ·exact h
    ·exact h
    ·exact h
    ·exact h
    ·exact so _ _ h
    ·exact h
    ·exact absurd dj n15
   have q := hK (.bool true) x2 trivial ff fun j u hj dj _ _ _ h => st j u hj dj h
   have q2 : K a x2 := q
   exact Rg.op_store 31 (.tmp 6) (.tmp 27) rfl rfl rfl rfl e6 e27 hs q2
  ·obtain rfl := Option.some.inj ho
   have o40 : OwnU x W.heap.size (a.eval (.tmp 40)) [(to_,3,c,d,c2,d2,(po,pn,pc),(none,0,0))] := seen.at_ ⟨13,.data⟩ (by simp) rfl (Or.inr (by decide)) _ rfl
   exact Rg.op_value rfl rfl (Rg.ex_assign a.eval _ (.tmp 40) rfl x) (hK _ _ o40 (still 15 (by decide)) fun _ _ _ _ _ _ _ h => h)
 ·intro a x df sz kp ⟨vs,hv⟩ ⟨D,hall,hF⟩
  have h2 : OwnU x W.heap.size (vs 15) [(to_,3,c,d,c2,d2,(po,pn,pc),(none,0,0))] := (hv 15 (by omega)).2 (by decide)
  have g9 : a.tmps[7]? = some (vs 15) := (hv 15 (by omega)).1 7 rfl
  obtain ⟨sa,sc,hs⟩ := (Row.of_own h2).len
  rw [hs] at h2 g9
  exact HQ.out a x (sa,_,sc) df ((kp 6 (nd 6 (by decide))).trans rfl) g9 (hF.2.2.2.1 (hall 14 (by omega))) h2 hF.1 hF.2.1
end Go.Proofs.YtncogjpmboglhaaGreat.Bk
namespace Go.Proofs.YtncogjpmboglhaaGreat.Bk
open Go.RowKit Go.Sort Rw YtncogjpmboglhaaGreat.Nm Pr Rl
def meetsC (p q : List C5) : Bool := meetsB (p.map unR) (q.map unR)
theorem meets_c (av_ bv : Value) (p q : List C5) (w : World) (ha : RowC w av_ p) (hb : RowC w bv q) (hp : PredOk p) (hq : PredOk q) :
  Calls Tryz.prog 95 #[av_,bv] w fun e w' => e = .returned (.bool (meetsC p q)) ∧ Below w.heap.size w w' := by
 obtain ⟨a,na,rfl⟩ := hp
 obtain ⟨b,nb,rfl⟩ := hq
 unfold meetsC
 rw [unR_map,unR_map]
 exact rmeetsR_any av_ bv a b w ha hb na nb
abbrev mgv (k : Int) (t x : Id) (pv qv : Sl) : Value := .agg #[.int .i64 k,.int .i64 t.1,.int .i64 t.2,.int .i64 x.1,.int .i64 x.2,slv pv,slv qv]
theorem ronunsub_any (b : Br) (nv av sv ev ov : Sl) (f mk : Int) (t x : Id) (pv qv : Sl) (w : World) (h : BrIn w b nv av sv ev ov) (l2 : b.adv.length ≤ 900) (l3 : b.ent.length ≤ 900) (hok : ∀ e ∈ b.ent,PredOk e.p) (hkn : ∀ e ∈ b.ent,e.tree ∈ b.adv.map Ad.id) :
  Calls Tryz.prog 101 #[brv b.me nv av sv ev ov,.int .i64 f,mgv mk t x pv qv] w fun e w' => (∃ ev' lo : Sl,e = .returned (.tuple #[brv b.me nv av sv ev' ov,slv lo]) ∧ BrIn w' (dropB b t x f).1 nv av sv ev' ov ∧ OutsIn w' lo (dropB b t x f).2) ∧ Below w.heap.size w w' := by
 obtain ⟨no,nn,nc⟩ := nv
 obtain ⟨ao,an,ac⟩ := av
 obtain ⟨so,sn,sc⟩ := sv
 obtain ⟨eo,en,ec⟩ := ev
 obtain ⟨oo,on_,oc⟩ := ov
 obtain ⟨po,pn,pc⟩ := pv
 obtain ⟨qo,qn,qc⟩ := qv
 obtain ⟨c,d⟩ := t
 obtain ⟨c2,d2⟩ := x
 have DP := Lib.hid (fun W hb' => rdrop_any b (no,nn,nc) (ao,an,ac) (so,sn,sc) (eo,en,ec) (oo,on_,oc) (c,d) (c2,d2) f W (h.on (show Below w.heap.size w W from hb')) l2 l3 hok hkn)
 have HNR := Lib.hid h.near
 obtain ⟨h0,h1,h2,h3⟩ := three_new w #[.int .i64 b.me,.slice no nn nc,.slice ao an ac,.slice so sn sc,.slice eo en ec,.slice oo on_ oc] #[.int .i64 mk,.int .i64 c,.int .i64 d,.int .i64 c2,.int .i64 d2,.slice po pn pc,.slice qo qn qc] #[.int .i64 0,.slice none 0 0,.slice none 0 0,.slice none 0 0,.slice none 0 0,.slice none 0 0] 31 77 31
 obtain ⟨me,hme⟩ : ∃ me,me = b.me := ⟨_,rfl⟩
 simp only [← hme] at h0 h1 h2 h3 DP ⊢
 have GB_1 := Lib.hid (h0)
 have X3_2 := Lib.hid (h1)
 have X5_3 := Lib.hid (h2)
 have X6_4 := Lib.hid (h3)
 clear h0 h1 h2 h3 h l2 hme hok hkn
 show Calls Tryz.prog 101 #[.agg #[.int .i64 me,.slice no nn nc,.slice ao an ac,.slice so sn sc,.slice eo en ec,.slice oo on_ oc],.int .i64 f,.agg #[.int .i64 mk,.int .i64 c,.int .i64 d,.int .i64 c2,.int .i64 d2,.slice po pn pc,.slice qo qn qc]] w _
 go_enter Tryz.func101,Tryz.ntmps101
 go_upto_region 1 with fail
 generalize (((w.alloc (.cells #[.int .i64 me,.slice no nn nc,.slice ao an ac,.slice so sn sc,.slice eo en ec,.slice oo on_ oc] 31)).alloc (.cells #[.int .i64 mk,.int .i64 c,.int .i64 d,.int .i64 c2,.int .i64 d2,.slice po pn pc,.slice qo qn qc] 77)).alloc (.cells #[.int .i64 0,.slice none 0 0,.slice none 0 0,.slice none 0 0,.slice none 0 0,.slice none 0 0] 31)) = W at *
 have SW := Lib.hid (DP.out W GB_1.out)
 clear DP
 obtain ⟨x0,x1,x2,x3,x4,x5⟩ := X3_2.out.cs6
 obtain ⟨y0,y1,y2,y3,y4,y5,y6⟩ := X5_3.out.cs7
 go_wp2_with fail
 refine SW.out.mono ?_
 rintro e1 w1 ⟨⟨⟨ea,en2,ec2⟩,⟨la,ln,lc⟩,rfl,hbr,hou⟩,hb⟩
 clear SW
 clear x0 x1 x2 x3 x4 x5 y0 y1 y2 y3 y4 y5 y6
 have GB_5 := Lib.hid (GB_1.out.trans (hb.mono GB_1.out.size))
 have X3_5 := Lib.hid (X3_2.out.on hb)
 have X5_5 := Lib.hid (X5_3.out.on hb)
 have X6_5 := Lib.hid (X6_4.out.on hb)
 clear GB_1 X3_2 X5_3 X6_4
 obtain ⟨r0,r1,r2,r3,r4,r5⟩ := X6_5.out.cs6
 obtain ⟨rf0,rf1,rf2,rf3,rf4,rf5⟩ := X6_5.out.fs6
 have zz := X6_5.out.lt
 have GG := Lib.hid (setB_box X6_5.out (.int .i64 me) (.slice no nn nc) (.slice ao an ac) (.slice so sn sc) (.slice ea en2 ec2) (.slice oo on_ oc))
 have BL := Lib.hid (setB_below (b := w.heap.size + 1 + 1) GB_5.out (by omega) (.int .i64 me) (.slice no nn nc) (.slice ao an ac) (.slice so sn sc) (.slice ea en2 ec2) (.slice oo on_ oc))
 have HK := Lib.hid (fun j (_ : j < w1.heap.size) (hj : j ≠ w.heap.size + 1 + 1) => setB_heap w1 (w.heap.size + 1 + 1) (.int .i64 me) (.slice no nn nc) (.slice ao an ac) (.slice so sn sc) (.slice ea en2 ec2) (.slice oo on_ oc) j hj)
 have HC := Lib.hid (brin_keep (s1 := (none,0,0)) (s2 := (none,0,0)) (s3 := (none,0,0)) (s4 := (none,0,0)) (s5 := (none,0,0)) hbr X6_5.out HK.out (by rw [dropB_near,(takeB_adv b (c,d) (c2,d2) f).2.1]; exact HNR.out.on BL.out))
 have HO := Lib.hid (outs_keep (s1 := (none,0,0)) (s2 := (none,0,0)) (s3 := (none,0,0)) (s4 := (none,0,0)) (s5 := (none,0,0)) hou X6_5.out HK.out)
 go_wp2_with fail
 obtain ⟨v0,v1,v2,v3,v4,v5⟩ := GG.out.cs6
 refine bodyPost_ret (v := .tuple #[.agg #[.int .i64 me,.slice no nn nc,.slice ao an ac,.slice so sn sc,.slice ea en2 ec2,.slice oo on_ oc],.slice la ln lc]) (by simp [results,Tryz.results101,go_sem,v0,v1,v2,v3,v4,v5]) rfl ?_
 exact ⟨⟨(ea,en2,ec2),(la,ln,lc),rfl,HC.out,HO.out⟩,BL.out⟩
def onSubB (b : Br) (f : Int) (t x : Id) (p : List C5) : Br × List Ou := if (addB b ⟨t,x,p,f,false⟩).2 = false then ((addB b ⟨t,x,p,f,false⟩).1,[]) else
 match b.adv[(findI (b.adv.map Ad.id) t).toNat]? with
 | none => ((addB b ⟨t,x,p,f,false⟩).1,[])
 | some a => ((addB b ⟨t,x,p,f,false⟩).1,[subE a.par ⟨t,x,p,f,false⟩])
theorem onSubB_br (b : Br) (f : Int) (t x : Id) (p : List C5) : (onSubB b f t x p).1 = (addB b ⟨t,x,p,f,false⟩).1 := by
 unfold onSubB
 split
 ·rfl
 ·split <;> rfl
theorem addB_true {b : Br} {e : En} (h : (addB b e).2 = true) : ∃ (k : Nat) (a : Ad),findI (b.adv.map Ad.id) e.tree = k ∧ b.adv[k]? = some a := by
 unfold addB at h
 split at h
 ·cases h
 ·rename_i a ha
  split at h
  ·cases h
  ·rename_i h1
   have h2 := findI_bd (b.adv.map Ad.id) e.tree
   exact ⟨(findI (b.adv.map Ad.id) e.tree).toNat,a,by omega,ha⟩
theorem ronsub_any (b : Br) (nv av sv ev ov : Sl) (f mk : Int) (t x : Id) (pv qv : Sl) (p : List C5) (w : World) (h : BrIn w b nv av sv ev ov) (hp : RowC w (slv pv) p) (l2 : b.adv.length ≤ 900) (l3 : b.ent.length ≤ 900) (hok : ∀ e ∈ b.ent,PredOk e.p) (hop : PredOk p) :
  Calls Tryz.prog 100 #[brv b.me nv av sv ev ov,.int .i64 f,mgv mk t x pv qv] w fun e w' => (∃ ev' lo : Sl,e = .returned (.tuple #[brv b.me nv av sv ev' ov,slv lo]) ∧ BrIn w' (onSubB b f t x p).1 nv av sv ev' ov ∧ OutsIn w' lo (onSubB b f t x p).2) ∧ Below w.heap.size w w' := by
 obtain ⟨no,nn,nc⟩ := nv
 obtain ⟨ao,an,ac⟩ := av
 obtain ⟨so,sn,sc⟩ := sv
 obtain ⟨eo,en,ec⟩ := ev
 obtain ⟨oo,on_,oc⟩ := ov
 obtain ⟨po,pn,pc⟩ := pv
 obtain ⟨qo,qn,qc⟩ := qv
 obtain ⟨c,d⟩ := t
 obtain ⟨c2,d2⟩ := x
 have AD := Lib.hid (fun W hb' => radd_any b (no,nn,nc) (ao,an,ac) (so,sn,sc) (eo,en,ec) (oo,on_,oc) (c,d,c2,d2,(po,pn,pc),f,false) ⟨(c,d),(c2,d2),p,f,false⟩ W (h.on (show Below w.heap.size w W from hb')) ⟨rfl,rfl,rfl,rfl,hp.on hb'⟩ l2 l3 hok hop)
 have HNR := Lib.hid h.near
 have HP := Lib.hid hp
 obtain ⟨h0,h1,h2,h3⟩ := three_new w #[.int .i64 b.me,.slice no nn nc,.slice ao an ac,.slice so sn sc,.slice eo en ec,.slice oo on_ oc] #[.int .i64 mk,.int .i64 c,.int .i64 d,.int .i64 c2,.int .i64 d2,.slice po pn pc,.slice qo qn qc] #[.int .i64 0,.slice none 0 0,.slice none 0 0,.slice none 0 0,.slice none 0 0,.slice none 0 0] 31 77 31
 obtain ⟨me,hme⟩ : ∃ me,me = b.me := ⟨_,rfl⟩
 simp only [← hme] at h0 h1 h2 h3 AD ⊢
 have GB_1 := Lib.hid (h0)
 have X3_2 := Lib.hid (h1)
 have X5_3 := Lib.hid (h2)
 have X6_4 := Lib.hid (h3)
 clear h0 h1 h2 h3 h l2 hme hok hp
 show Calls Tryz.prog 100 #[.agg #[.int .i64 me,.slice no nn nc,.slice ao an ac,.slice so sn sc,.slice eo en ec,.slice oo on_ oc],.int .i64 f,.agg #[.int .i64 mk,.int .i64 c,.int .i64 d,.int .i64 c2,.int .i64 d2,.slice po pn pc,.slice qo qn qc]] w _
 go_enter Tryz.func100,Tryz.ntmps100
 go_upto_region 1 with fail
 generalize (((w.alloc (.cells #[.int .i64 me,.slice no nn nc,.slice ao an ac,.slice so sn sc,.slice eo en ec,.slice oo on_ oc] 31)).alloc (.cells #[.int .i64 mk,.int .i64 c,.int .i64 d,.int .i64 c2,.int .i64 d2,.slice po pn pc,.slice qo qn qc] 77)).alloc (.cells #[.int .i64 0,.slice none 0 0,.slice none 0 0,.slice none 0 0,.slice none 0 0,.slice none 0 0] 31)) = W at *
 obtain ⟨y0,y1,y2,y3,y4,y5,y6⟩ := X5_3.out.cs7
 go_upto_region 2 with fail
 clear y0 y1 y2 y3 y4 y5 y6
 have W4 := Lib.hid (show w.heap.size + 3 ≤ W.heap.size from by have := X6_4.out.lt; omega)
 have NN := newB W (.cells #[.int .i64 c,.int .i64 d,.int .i64 c2,.int .i64 d2,.slice po pn pc,.int .i64 f,.bool false] 43)
 have GB_5 := Lib.hid (GB_1.out.trans (NN.mono GB_1.out.size))
 have X3_5 := Lib.hid (X3_2.out.on NN)
 have X5_5 := Lib.hid (X5_3.out.on NN)
 have X6_5 := Lib.hid (X6_4.out.on NN)
 clear GB_1 X3_2 X5_3 X6_4
 clear NN
 have X8_6 := Lib.hid (box_new W #[.int .i64 c,.int .i64 d,.int .i64 c2,.int .i64 d2,.slice po pn pc,.int .i64 f,.bool false] 43)
 generalize W.alloc (.cells #[.int .i64 c,.int .i64 d,.int .i64 c2,.int .i64 d2,.slice po pn pc,.int .i64 f,.bool false] 43) = Wa at *
 have SW := Lib.hid (AD.out Wa GB_5.out)
 clear AD
 obtain ⟨x0,x1,x2,x3,x4,x5⟩ := X3_5.out.cs6
 obtain ⟨z0,z1,z2,z3,z4,z5,z6⟩ := X8_6.out.cs7
 go_wp2_with fail
 refine SW.out.mono ?_
 rintro e1 w1 ⟨⟨⟨ea,en2,ec2⟩,rfl,hbr⟩,hb⟩
 clear SW
 clear x0 x1 x2 x3 x4 x5 z0 z1 z2 z3 z4 z5 z6
 have GB_7 := Lib.hid (GB_5.out.trans (hb.mono GB_5.out.size))
 have X3_7 := Lib.hid (X3_5.out.on hb)
 have X5_7 := Lib.hid (X5_5.out.on hb)
 have X6_7 := Lib.hid (X6_5.out.on hb)
 have X8_7 := Lib.hid (X8_6.out.on hb)
 clear GB_5 X3_5 X5_5 X6_5 X8_6
 obtain ⟨fb,hfb⟩ : ∃ r,(addB b ⟨(c,d),(c2,d2),p,f,false⟩).2 = r := ⟨_,rfl⟩
 have LB := Lib.hid hfb
 rw [hfb]
 have w4 := W4.out
 obtain ⟨k0,k1,k2,k3,k4,k5⟩ := X3_7.out.cs6
 obtain ⟨kf0,kf1,kf2,kf3,kf4,kf5⟩ := X3_7.out.fs6
 have zz := X3_7.out.lt
 have FB := Lib.hid (setB_box X3_7.out (.int .i64 me) (.slice no nn nc) (.slice ao an ac) (.slice so sn sc) (.slice ea en2 ec2) (.slice oo on_ oc))
 have B2 := Lib.hid (setB_below (b := w.heap.size) GB_7.out (Nat.le_refl _) (.int .i64 me) (.slice no nn nc) (.slice ao an ac) (.slice so sn sc) (.slice ea en2 ec2) (.slice oo on_ oc))
 have HKs := Lib.hid (fun j (_ : j < w1.heap.size) (hj : j ≠ w.heap.size) => setB_heap w1 (w.heap.size) (.int .i64 me) (.slice no nn nc) (.slice ao an ac) (.slice so sn sc) (.slice ea en2 ec2) (.slice oo on_ oc) j hj)
 have FX5 := Lib.hid (show Box _ _ _ _ from (setB_heap w1 (w.heap.size) (.int .i64 me) (.slice no nn nc) (.slice ao an ac) (.slice so sn sc) (.slice ea en2 ec2) (.slice oo on_ oc) (w.heap.size + 1) (by omega)).trans X5_7.out)
 have FX6 := Lib.hid (show Box _ _ _ _ from (setB_heap w1 (w.heap.size) (.int .i64 me) (.slice no nn nc) (.slice ao an ac) (.slice so sn sc) (.slice ea en2 ec2) (.slice oo on_ oc) (w.heap.size + 1 + 1) (by omega)).trans X6_7.out)
 have FX8 := Lib.hid (show Box _ _ _ _ from (setB_heap w1 (w.heap.size) (.int .i64 me) (.slice no nn nc) (.slice ao an ac) (.slice so sn sc) (.slice ea en2 ec2) (.slice oo on_ oc) (W.heap.size) (by omega)).trans X8_7.out)
 have HB := Lib.hid (brin_keep (s1 := (no,nn,nc)) (s2 := (ao,an,ac)) (s3 := (so,sn,sc)) (s4 := (eo,en,ec)) (s5 := (oo,on_,oc)) hbr X3_7.out HKs.out (by rw [(addB_same b ⟨(c,d),(c2,d2),p,f,false⟩).2.1]; exact HNR.out.on B2.out))
 clear hfb GB_7 X3_7 X5_7 X6_7 X8_7
 go_upto_region 3 with fail
 clear zz HKs k0 k1 k2 k3 k4 k5 kf0 kf1 kf2 kf3 kf4 kf5
 unfold setB at FB B2 HB FX5 FX6 FX8
 generalize ((((((w1.setCell ⟨w.heap.size,0,none⟩ (.int .i64 me)).setCell ⟨w.heap.size,1,none⟩ (.slice no nn nc)).setCell ⟨w.heap.size,2,none⟩ (.slice ao an ac)).setCell ⟨w.heap.size,3,none⟩ (.slice so sn sc)).setCell ⟨w.heap.size,4,none⟩ (.slice ea en2 ec2)).setCell ⟨w.heap.size,5,none⟩ (.slice oo on_ oc)) = w2 at *
 have GB_8 := Lib.hid (B2.out)
 have X3_9 := Lib.hid (FB.out)
 have X5_10 := Lib.hid (FX5.out)
 have X6_11 := Lib.hid (FX6.out)
 have X8_12 := Lib.hid (FX8.out)
 clear B2 FB FX5 FX6 FX8
 cases fb
 ·have x0 := X3_9.out.cell 0
  have x1 := X3_9.out.cell 1
  have x2 := X3_9.out.cell 2
  have x3 := X3_9.out.cell 3
  have x4 := X3_9.out.cell 4
  have x5 := X3_9.out.cell 5
  simp only [List.getElem?_toArray,List.getElem?_cons_zero,List.getElem?_cons_succ] at x0 x1 x2 x3 x4 x5
  obtain ⟨r0,r1,r2,r3,r4,r5⟩ := X6_11.out.cs6
  obtain ⟨rf0,rf1,rf2,rf3,rf4,rf5⟩ := X6_11.out.fs6
  have zz := X6_11.out.lt
  have GG := Lib.hid (setB_box X6_11.out (.int .i64 me) (.slice no nn nc) (.slice ao an ac) (.slice so sn sc) (.slice ea en2 ec2) (.slice oo on_ oc))
  have BL := Lib.hid (setB_below (b := w.heap.size + 1 + 1) GB_8.out (by omega) (.int .i64 me) (.slice no nn nc) (.slice ao an ac) (.slice so sn sc) (.slice ea en2 ec2) (.slice oo on_ oc))
  have HK := Lib.hid (fun j (_ : j < w2.heap.size) (hj : j ≠ w.heap.size + 1 + 1) => setB_heap w2 (w.heap.size + 1 + 1) (.int .i64 me) (.slice no nn nc) (.slice ao an ac) (.slice so sn sc) (.slice ea en2 ec2) (.slice oo on_ oc) j hj)
  have HC := Lib.hid (brin_keep (s1 := (none,0,0)) (s2 := (none,0,0)) (s3 := (none,0,0)) (s4 := (none,0,0)) (s5 := (none,0,0)) HB.out X6_11.out HK.out (by rw [(addB_same b ⟨(c,d),(c2,d2),p,f,false⟩).2.1]; exact HNR.out.on BL.out))
  go_wp2_with fail
  obtain ⟨v0,v1,v2,v3,v4,v5⟩ := GG.out.cs6
  refine bodyPost_ret (v := .tuple #[.agg #[.int .i64 me,.slice no nn nc,.slice ao an ac,.slice so sn sc,.slice ea en2 ec2,.slice oo on_ oc],.slice none 0 0]) (by simp [results,Tryz.results100,go_sem,v0,v1,v2,v3,v4,v5]) rfl ?_
  have hd : onSubB b f (c,d) (c2,d2) p = ((addB b ⟨(c,d),(c2,d2),p,f,false⟩).1,[]) := by unfold onSubB; rw [if_pos LB.out]
  rw [hd]
  exact ⟨⟨(ea,en2,ec2),(none,0,0),rfl,HC.out,outs_nil _⟩,BL.out⟩
 ·obtain ⟨k,a,hk1,hak⟩ := addB_true LB.out
  have hk1 : findI (b.adv.map Ad.id) (c,d) = k := hk1
  have DB := Lib.hid (show onSubB b f (c,d) (c2,d2) p = ((addB b ⟨(c,d),(c2,d2),p,f,false⟩).1,[subE a.par ⟨(c,d),(c2,d2),p,f,false⟩]) from by
   unfold onSubB
   rw [if_neg (by rw [LB.out]; simp),hk1,Int.toNat_natCast,hak])
  obtain ⟨ad,had1,had2⟩ := HB.out.adv
  rw [(addB_same b ⟨(c,d),(c2,d2),p,f,false⟩).2.2.1] at had2
  obtain ⟨z,hz1,hz2⟩ := had2.at k a hak
  have FK := ids_eq had2
  rw [← FK] at hk1
  obtain ⟨q1,q2,hq⟩ := had1.len
  obtain ⟨pa,ix,pl,px⟩ := row_el okD had1 hq rfl hz1
  have ix2 : ∀ w,(Instr.indexAt 26 (.slice ao an ac) (.int .i64 (k : Int))).run Tryz.prog w = .ok (.pointer (some pa)) w := fun w => by have h1 : (Value.slice ao an ac) = .slice q1 ad.length q2 := hq; rw [h1]; exact ix w
  have pb := px w2 (Below.refl _ _)
  have p3 : w2.cell? ⟨pa.block,pa.off + 3,none⟩ = some (.int .i64 z.2.2.2) := by simpa [Addr.add] using pb 3 _ rfl
  rw [hz2.2.1] at p3
  have pn6 : pa.block ≠ w.heap.size + 1 + 1 := two_ints (E := ED) (show Box w2 (w.heap.size + 1 + 1) (brcells 0 (none,0,0) (none,0,0) (none,0,0) (none,0,0) (none,0,0)) 31 from X6_11.out) (fun c => ⟨_,_,rfl,rfl⟩) (br_ints 0 (none,0,0) (none,0,0) (none,0,0) (none,0,0) (none,0,0)) pa z pb
  clear hq ix pb px hz1 hz2 hak FK had2
  go_upto_region 5 with fail
  refine ons_r5 _ w2 w.heap.size (w.heap.size + 1) (w.heap.size + 1 + 1) W.heap.size me mk c d c2 d2 f a.par false no ao so ea oo nn nc an ac sn sc en2 ec2 on_ oc po qo pn pc qn qc ad k pa _ _ _ _ _ _ _ _ _ _ _ _ _ _ _ _ _ _ _ _ _ _ _ _ _ _ _ _ _ _ _ _ _ _ _ _ _ _ _ _ _ _ _ X3_9.out X5_10.out X6_11.out X8_12.out (by omega) (by omega) (by omega) had1 hk1 ix2 p3 pl pn6 ?_
  intro a9 x9 sl hd9 h69 h79 hbx ho hblk hbl
  have BL := Lib.hid (show Below w.heap.size w x9 from GB_8.out.trans (hbl w.heap.size (by omega)))
  have HC := Lib.hid (brin_keep (s1 := (none,0,0)) (s2 := (none,0,0)) (s3 := (none,0,0)) (s4 := (none,0,0)) (s5 := (none,0,0)) HB.out X6_11.out hblk (by rw [(addB_same b ⟨(c,d),(c2,d2),p,f,false⟩).2.1]; exact HNR.out.on BL.out))
  have HU := Lib.hid (Row.of_own ho)
  obtain ⟨v0,v1,v2,v3,v4,v5⟩ := hbx.cs6
  clear hbx ho hblk hbl HB had1 ix2 p3 pl pn6 hk1
  simp only [Exit.then]
  apply_assumption
  go_wp2_with fail
  refine bodyPost_ret (v := .tuple #[.agg #[.int .i64 me,.slice no nn nc,.slice ao an ac,.slice so sn sc,.slice ea en2 ec2,.slice oo on_ oc],slv sl]) (by simp [results,Tryz.results100,go_sem,h69,h79,v0,v1,v2,v3,v4,v5]) hd9 ?_
  rw [DB.out]
  exact ⟨⟨ea,en2,ec2,sl.1,sl.2.1,sl.2.2,rfl,HC.out,_,HU.out,.cons ⟨rfl,rfl,rfl,rfl,HP.out.on BL.out,rfl⟩ .nil⟩,BL.out⟩
def addStep (s : Br × List Ou) (mt : Bool) (e : En) (to_ : Int) : Br × List Ou := if mt = false then s else ((addB s.1 e).1,if (addB s.1 e).2 = true then s.2 ++ [subE to_ e] else s.2)
theorem addB_all {b : Br} {e : En} (R : En → Prop) (h : ∀ q ∈ b.ent,R q) (he : ∀ u,R { e with up := u }) : ∀ q ∈ (addB b e).1.ent,R q := by
 unfold addB
 split
 ·exact h
 ·split
  ·exact h
  ·split
   ·exact h
   ·split
    ·exact h
    ·intro q hq
     rcases List.mem_append.1 hq with h1 | h1
     ·rcases List.mem_append.1 h1 with h2 | h2
      ·exact h q (List.mem_of_mem_take h2)
      ·rw [List.mem_singleton.1 h2]
       exact he _
     ·exact h q (List.mem_of_mem_drop h1)
theorem addB_len (b : Br) (e : En) : (addB b e).1.ent.length ≤ b.ent.length + 1 := by
 unfold addB
 split
 ·exact Nat.le_succ _
 ·split
  ·exact Nat.le_succ _
  ·split
   ·exact Nat.le_succ _
   ·split
    ·exact Nat.le_succ _
    ·show (insAt _ _ _).length ≤ _
     unfold insAt
     rw [List.length_append,List.length_append,List.length_take,List.length_drop]
     simp
     omega
structure AdI (b0 b : Br) (k : Nat) : Prop where
 me : b.me = b0.me
 near : b.near = b0.near
 adv : b.adv = b0.adv
 seen : b.seen = b0.seen
 own : b.own = b0.own
 len : b.ent.length ≤ b0.ent.length + k
theorem AdI.add {b0 b : Br} {k : Nat} (h : AdI b0 b k) (e : En) : AdI b0 (addB b e).1 (k + 1) := by
 obtain ⟨h1,h2,h3,h4,h5⟩ := addB_same b e
 exact ⟨h1.trans h.me,h2.trans h.near,h3.trans h.adv,h4.trans h.seen,h5.trans h.own,by have := addB_len b e; have := h.len; omega⟩
theorem AdI.succ {b0 b : Br} {k : Nat} (h : AdI b0 b k) : AdI b0 b (k + 1) := ⟨h.me,h.near,h.adv,h.seen,h.own,by have := h.len; omega⟩
theorem AdI.step {b0 : Br} {s : Br × List Ou} {k : Nat} (h : AdI b0 s.1 k) (mt : Bool) (e : En) (t : Int) : AdI b0 (addStep s mt e t).1 (k + 1) := by
 unfold addStep
 split
 ·exact h.succ
 ·exact h.add e
theorem step_all {s : Br × List Ou} (mt : Bool) (e : En) (t : Int) (R : En → Prop) (h : ∀ q ∈ s.1.ent,R q) (he : ∀ u,R { e with up := u }) : ∀ q ∈ (addStep s mt e t).1.ent,R q := by
 unfold addStep
 split
 ·exact h
 ·exact addB_all R h he
theorem step_len {s : Br × List Ou} (mt : Bool) (e : En) (t : Int) : (addStep s mt e t).2.length ≤ s.2.length + 1 := by
 unfold addStep
 split
 ·exact Nat.le_succ _
 ·show (if _ then _ else _ : List Ou).length ≤ _
  split
  ·simp
  ·exact Nat.le_succ _
def foldK {α : Type} (l : List α) (f : Br × List Ou → α → Br × List Ou) (s0 : Br × List Ou) (k : Nat) : Br × List Ou := (l.take k).foldl f s0
theorem foldK_succ {α : Type} {l : List α} {k : Nat} {a : α} (f : Br × List Ou → α → Br × List Ou) (s0 : Br × List Ou) (h : l[k]? = some a) : foldK l f s0 (k + 1) = f (foldK l f s0 k) a := by
 unfold foldK
 rw [List.take_add_one,h,List.foldl_append]
 rfl
theorem foldK_ok {α : Type} {l : List α} {b0 : Br} {o0 : List Ou} (mt : α → Bool) (e : α → En) (t : α → Int) (R : En → Prop) (h0 : ∀ q ∈ b0.ent,R q) (hR : ∀ a ∈ l,∀ u,R { e a with up := u }) : ∀ k,k ≤ l.length → AdI b0 (foldK l (fun s a => addStep s (mt a) (e a) (t a)) (b0,o0) k).1 k ∧ (∀ q ∈ (foldK l (fun s a => addStep s (mt a) (e a) (t a)) (b0,o0) k).1.ent,R q) ∧ (foldK l (fun s a => addStep s (mt a) (e a) (t a)) (b0,o0) k).2.length ≤ o0.length + k
 | 0,_ => ⟨⟨rfl,rfl,rfl,rfl,rfl,Nat.le_refl _⟩,h0,Nat.le_refl _⟩
 | k + 1,hk => by
  obtain ⟨a,ha⟩ : ∃ a,l[k]? = some a := ⟨_,List.getElem?_eq_getElem hk⟩
  obtain ⟨h1,h2,h3⟩ := foldK_ok mt e t R h0 hR k (by omega) (o0 := o0)
  rw [foldK_succ _ _ ha]
  exact ⟨h1.step _ _ _,step_all _ _ _ R h2 (hR a (List.mem_of_getElem? ha)),Nat.le_trans (step_len _ _ _) (by omega)⟩
def othersO (near : List Int) (but kind : Int) (t x : Id) (p : List C5) : List Ou := (near.filter fun n => n != but).map fun n => ⟨n,kind,t,x,p⟩
abbrev advE (x : Id) (o : Ow) : En := ⟨x,o.id,o.p,-1,false⟩
abbrev advF (f : Int) (x : Id) (p : List C5) (s : Br × List Ou) (o : Ow) : Br × List Ou := addStep s (meetsC o.p p) (advE x o) f
def advB (b : Br) (f : Int) (x : Id) (p : List C5) : Br × List Ou := if (learnB b ⟨x,p,f⟩).2 = false then ((learnB b ⟨x,p,f⟩).1,[]) else
 foldK (learnB b ⟨x,p,f⟩).1.own (advF f x p) ((learnB b ⟨x,p,f⟩).1,othersO b.near f 1 x (0,0) p) (learnB b ⟨x,p,f⟩).1.own.length
abbrev subE' (x : Id) (p : List C5) (a : Ad) : En := ⟨a.id,x,p,-1,false⟩
abbrev subF (x : Id) (p : List C5) (s : Br × List Ou) (a : Ad) : Br × List Ou := addStep s (meetsC p a.p) (subE' x p a) a.par
def ownIn (b : Br) (x : Id) (p : List C5) : Br := { b with own := insAt b.own (placeI (b.own.map Ow.id) x) ⟨x,p⟩ }
def subsB (b : Br) (x : Id) (p : List C5) : Br × List Ou := if (b.own[placeI (b.own.map Ow.id) x]?).map Ow.id = some x then (b,[]) else
 foldK b.adv (subF x p) (ownIn b x p,[]) b.adv.length
theorem learn_same (b : Br) (a : Ad) : (learnB b a).1.me = b.me ∧ (learnB b a).1.near = b.near ∧ (learnB b a).1.ent = b.ent ∧ (learnB b a).1.own = b.own := by
 unfold learnB
 split <;> exact ⟨rfl,rfl,rfl,rfl⟩
theorem learn_len (b : Br) (a : Ad) : (learnB b a).1.adv.length ≤ b.adv.length + 1 ∧ (learnB b a).1.seen.length ≤ b.seen.length + 1 := by
 unfold learnB
 split
 ·exact ⟨Nat.le_succ _,Nat.le_succ _⟩
 ·constructor <;> (show (insAt _ _ _).length ≤ _; unfold insAt; rw [List.length_append,List.length_append,List.length_take,List.length_drop]; simp; omega)
theorem others_in {W : World} {near : List Int} {f k : Int} {t x : Id} {pv : Sl} {p : List C5} (hp : RowC W (slv pv) p) : All2 (OuIn W) (othersL near f fun n => (n,k,t.1,t.2,x.1,x.2,pv,(none,0,0))) (othersO near f k t x p) := by
 unfold othersL othersO
 induction near.filter (fun n => n != f) with
 | nil => exact .nil
 | cons a l ih => exact .cons ⟨rfl,rfl,rfl,rfl,hp,rfl⟩ ih
end Go.Proofs.YtncogjpmboglhaaGreat.Bk
namespace Go.Proofs.YtncogjpmboglhaaGreat.Av
open Go.RowKit Go.Sort Rw YtncogjpmboglhaaGreat.Nm Pr Bk
def eqZ (x y : Int) : Bool := x == y
theorem eqZ_iff (x y : Int) : eqZ x y = true ↔ x = y := by simp [eqZ]
theorem eqI_any (av_ bv : Value) (l m : List Int) (w : World) (ha : RowI w av_ l) (hb : RowI w bv m) (hl : l.length ≤ 1000000) :
  Calls Tryz.prog 55 #[av_,bv] w fun e w' => e = .returned (.bool (sameG eqZ l m)) ∧ Below w.heap.size w w' := by
 have HA := Lib.hid ha
 have HB := Lib.hid hb
 obtain ⟨ao,ac,rfl⟩ := ha.len
 obtain ⟨bo,bc,rfl⟩ := hb.len
 clear ha hb
 by_cases hlen : l.length = m.length
 ·have HL := Lib.hid hlen
  rw [← hlen] at HB ⊢
  generalize hn : l.length = n at *
  have HN := Lib.hid hn
  clear hlen hn
  go_enter Tryz.func55,Tryz.ntmps55
  go_wp2
  go_loopw [13] (fun i wr => ∃ k : Nat,k ≤ n ∧ i = .int .i64 k ∧ Below w.heap.size w wr ∧ ∀ (j : Nat) (x y : Int),j < k → l[j]? = some x → m[j]? = some y → eqZ x y = true) (fun i _ => n - (intOf i).toNat)
  case atStart => exact ⟨0,Nat.zero_le _,rfl,Below.refl _ _,fun j x y h => by omega⟩
  case round =>
   obtain ⟨k,hk,rfl,hbe,hall⟩ := hrel
   have BE := Lib.hid hbe
   have AL := Lib.hid hall
   clear hbe hall
   by_cases hlt : k < n
   ·obtain ⟨x,hx⟩ : ∃ x,l[k]? = some x := ⟨_,List.getElem?_eq_getElem (by rw [HN.out]; exact hlt)⟩
    obtain ⟨y,hy⟩ : ∃ y,m[k]? = some y := ⟨_,List.getElem?_eq_getElem (by rw [← HL.out]; exact hlt)⟩
    obtain ⟨p,ix,px⟩ := elI HA.out rfl HN.out hx
    obtain ⟨q,iy,py⟩ := elI HB.out rfl HL.out.symm hy
    have p0 := cell_regrown (px.2 _ BE.out)
    have q0 := cell_regrown (py.2 _ BE.out)
    clear px py
    obtain ⟨r,hr⟩ : ∃ r,eqZ x y = r := ⟨_,rfl⟩
    have hne : (x != y) = !r := by rw [← hr]; rfl
    have HX := Lib.hid hx
    have HY := Lib.hid hy
    have HR := Lib.hid hr
    clear hx hy hr
    cases r
    ·have R := Lib.hid (show sameG eqZ l m = false from sameG_not l m k x y HX.out HY.out HR.out)
     go_wp2
     refine wp_region_quiet_below (by kernel_rfl) (by kernel_rfl) ?_
     repeat (go_big_quiet_step (fail))
     refine wpQuiet_nil ?_
     intro _ hw'
     obtain ⟨⟨dq,osq⟩,hw''⟩ := hw'
     subst hw''
     go_wp2
     go_ret
     exact ⟨by rw [R.out]; rfl,BE.out.trans ((below_regrown wr dq osq).mono BE.out.size)⟩
    ·go_wp2
     refine wp_region_quiet_below (by kernel_rfl) (by kernel_rfl) ?_
     repeat (go_big_quiet_step (fail))
     refine wpQuiet_nil ?_
     intro _ hw'
     obtain ⟨⟨dq,osq⟩,hw''⟩ := hw'
     subst hw''
     clear ix iy p0 q0 hne
     go_wp2
     go_roundw
     case rel => exact ⟨k + 1,by omega,by go_num,BE.out.trans ((below_regrown wr dq osq).mono BE.out.size),fun j x' y' hj h1 h2 => by
      rcases Nat.lt_or_ge j k with h3 | h3
      ·exact AL.out j x' y' h3 h1 h2
      ·obtain rfl : j = k := by omega
       have e1 := HX.out
       have e2 := HY.out
       rw [h1] at e1
       rw [h2] at e2
       rw [Option.some.inj e1,Option.some.inj e2]
       exact HR.out⟩
     case measure => simp [intOf]; omega
   ·obtain rfl : k = n := by omega
    have R := Lib.hid (show sameG eqZ l m = true from sameG_all l m (by rw [HN.out]; exact HL.out) (fun j a b h1 h2 => AL.out j a b (by have := (List.getElem?_eq_some_iff.1 h1).1; have := HN.out; omega) h1 h2))
    go_wp2
    go_ret
    exact ⟨by rw [R.out]; rfl,BE.out⟩
 ·have R := Lib.hid (show sameG eqZ l m = false by
   cases h : sameG eqZ l m
   ·rfl
   ·exact absurd (sameG_len _ _ h) hlen)
  have hne : (((l.length : Nat) : Int) != ((m.length : Nat) : Int)) = true := by simp; omega
  have hne2 : (((l.length : Nat) : Int) == ((m.length : Nat) : Int)) = false := by simp; omega
  clear hlen
  go_enter Tryz.func55,Tryz.ntmps55
  go_wp2
  go_ret
  exact ⟨by rw [R.out]; rfl,Below.refl _ _⟩
theorem eqJ_any (av_ bv : Value) (l m : List XID) (w : World) (ha : RowJ w av_ l) (hb : RowJ w bv m) (hl : l.length ≤ 1000000) :
  Calls Tryz.prog 56 #[av_,bv] w fun e w' => e = .returned (.bool (sameG eqI l m)) ∧ Below w.heap.size w w' := by
 have HA := Lib.hid ha
 have HB := Lib.hid hb
 obtain ⟨ao,ac,rfl⟩ := ha.len
 obtain ⟨bo,bc,rfl⟩ := hb.len
 clear ha hb
 by_cases hlen : l.length = m.length
 ·have HL := Lib.hid hlen
  rw [← hlen] at HB ⊢
  generalize hn : l.length = n at *
  have HN := Lib.hid hn
  clear hlen hn
  go_enter Tryz.func56,Tryz.ntmps56
  go_wp2
  go_loopw [13] (fun i wr => ∃ k : Nat,k ≤ n ∧ i = .int .i64 k ∧ Below w.heap.size w wr ∧ ∀ (j : Nat) (x y : XID),j < k → l[j]? = some x → m[j]? = some y → eqI x y = true) (fun i _ => n - (intOf i).toNat)
  case atStart => exact ⟨0,Nat.zero_le _,rfl,Below.refl _ _,fun j x y h => by omega⟩
  case round =>
   obtain ⟨k,hk,rfl,hbe,hall⟩ := hrel
   have BE := Lib.hid hbe
   have AL := Lib.hid hall
   clear hbe hall
   by_cases hlt : k < n
   ·obtain ⟨x,hx⟩ : ∃ x,l[k]? = some x := ⟨_,List.getElem?_eq_getElem (by rw [HN.out]; exact hlt)⟩
    obtain ⟨y,hy⟩ : ∃ y,m[k]? = some y := ⟨_,List.getElem?_eq_getElem (by rw [← HL.out]; exact hlt)⟩
    obtain ⟨p,ix,px⟩ := elJ HA.out rfl HN.out hx
    obtain ⟨q,iy,py⟩ := elJ HB.out rfl HL.out.symm hy
    have p0 := cell_regrown (px _ BE.out).1
    have p1 := cell_regrown (px _ BE.out).2
    have q0 := cell_regrown (py _ BE.out).1
    have q1 := cell_regrown (py _ BE.out).2
    clear px py
    obtain ⟨r,hr⟩ : ∃ r,eqI x y = r := ⟨_,rfl⟩
    have hne := neId x.1 x.2 y.1 y.2 (!r) (by rw [← hr]; rfl)
    have HX := Lib.hid hx
    have HY := Lib.hid hy
    have HR := Lib.hid hr
    clear hx hy hr
    cases r
    ·have R := Lib.hid (show sameG eqI l m = false from sameG_not l m k x y HX.out HY.out HR.out)
     go_wp2
     refine wp_region_quiet_below (by kernel_rfl) (by kernel_rfl) ?_
     repeat (go_big_quiet_step (fail))
     refine wpQuiet_nil ?_
     intro _ hw'
     obtain ⟨⟨dq,osq⟩,hw''⟩ := hw'
     subst hw''
     go_wp2
     go_ret
     exact ⟨by rw [R.out]; rfl,BE.out.trans ((below_regrown wr dq osq).mono BE.out.size)⟩
    ·go_wp2
     refine wp_region_quiet_below (by kernel_rfl) (by kernel_rfl) ?_
     repeat (go_big_quiet_step (fail))
     refine wpQuiet_nil ?_
     intro _ hw'
     obtain ⟨⟨dq,osq⟩,hw''⟩ := hw'
     subst hw''
     clear ix iy p0 p1 q0 q1 hne
     go_wp2
     go_roundw
     case rel => exact ⟨k + 1,by omega,by go_num,BE.out.trans ((below_regrown wr dq osq).mono BE.out.size),fun j x' y' hj h1 h2 => by
      rcases Nat.lt_or_ge j k with h3 | h3
      ·exact AL.out j x' y' h3 h1 h2
      ·obtain rfl : j = k := by omega
       have e1 := HX.out
       have e2 := HY.out
       rw [h1] at e1
       rw [h2] at e2
       rw [Option.some.inj e1,Option.some.inj e2]
       exact HR.out⟩
     case measure => simp [intOf]; omega
   ·obtain rfl : k = n := by omega
    have R := Lib.hid (show sameG eqI l m = true from sameG_all l m (by rw [HN.out]; exact HL.out) (fun j a b h1 h2 => AL.out j a b (by have := (List.getElem?_eq_some_iff.1 h1).1; have := HN.out; omega) h1 h2))
    go_wp2
    go_ret
    exact ⟨by rw [R.out]; rfl,BE.out⟩
 ·have R := Lib.hid (show sameG eqI l m = false by
   cases h : sameG eqI l m
   ·rfl
   ·exact absurd (sameG_len _ _ h) hlen)
  have hne : (((l.length : Nat) : Int) != ((m.length : Nat) : Int)) = true := by simp; omega
  have hne2 : (((l.length : Nat) : Int) == ((m.length : Nat) : Int)) = false := by simp; omega
  clear hlen
  go_enter Tryz.func56,Tryz.ntmps56
  go_wp2
  go_ret
  exact ⟨by rw [R.out]; rfl,Below.refl _ _⟩
theorem eqC_any (av_ bv : Value) (l m : List C5) (w : World) (ha : RowC w av_ l) (hb : RowC w bv m) (hl : l.length ≤ 1000000) :
  Calls Tryz.prog 136 #[av_,bv] w fun e w' => e = .returned (.bool (sameC l m)) ∧ Below w.heap.size w w' := by
 have HA := Lib.hid ha
 have HB := Lib.hid hb
 obtain ⟨ao,ac,rfl⟩ := ha.len
 obtain ⟨bo,bc,rfl⟩ := hb.len
 clear ha hb
 by_cases hlen : l.length = m.length
 ·have HL := Lib.hid hlen
  rw [← hlen] at HB ⊢
  generalize hn : l.length = n at *
  have HN := Lib.hid hn
  clear hlen hn
  go_enter Tryz.func136,Tryz.ntmps136
  go_wp2
  go_loopw [13] (fun i wr => ∃ k : Nat,k ≤ n ∧ i = .int .i64 k ∧ Below w.heap.size w wr ∧ ∀ (j : Nat) (x y : C5),j < k → l[j]? = some x → m[j]? = some y → eqlC x y = true) (fun i _ => n - (intOf i).toNat)
  case atStart => exact ⟨0,Nat.zero_le _,rfl,Below.refl _ _,fun j x y h => by omega⟩
  case round =>
   obtain ⟨k,hk,rfl,hbe,hall⟩ := hrel
   have BE := Lib.hid hbe
   have AL := Lib.hid hall
   clear hbe hall
   by_cases hlt : k < n
   ·obtain ⟨x,hx⟩ : ∃ x,l[k]? = some x := ⟨_,List.getElem?_eq_getElem (by rw [HN.out]; exact hlt)⟩
    obtain ⟨y,hy⟩ : ∃ y,m[k]? = some y := ⟨_,List.getElem?_eq_getElem (by rw [← HL.out]; exact hlt)⟩
    obtain ⟨p,ix,px⟩ := elC HA.out rfl HN.out hx
    obtain ⟨q,iy,py⟩ := elC HB.out rfl HL.out.symm hy
    have p0 := cell_regrown (px _ BE.out).1
    have p1 := cell_regrown (px _ BE.out).2.1
    have p2 := cell_regrown (px _ BE.out).2.2.1
    have p3 := cell_regrown (px _ BE.out).2.2.2.1
    have p4 := cell_regrown (px _ BE.out).2.2.2.2
    have q0 := cell_regrown (py _ BE.out).1
    have q1 := cell_regrown (py _ BE.out).2.1
    have q2 := cell_regrown (py _ BE.out).2.2.1
    have q3 := cell_regrown (py _ BE.out).2.2.2.1
    have q4 := cell_regrown (py _ BE.out).2.2.2.2
    clear px py
    obtain ⟨r,hr⟩ : ∃ r,eqlC x y = r := ⟨_,rfl⟩
    have hne := neqC x y r hr
    have HX := Lib.hid hx
    have HY := Lib.hid hy
    have HR := Lib.hid hr
    clear hx hy hr
    cases r
    ·have R := Lib.hid (show sameC l m = false from sameC_not l m k x y HX.out HY.out HR.out)
     go_wp2
     refine wp_region_quiet_below (by kernel_rfl) (by kernel_rfl) ?_
     repeat (go_big_quiet_step (fail))
     refine wpQuiet_nil ?_
     intro _ hw'
     obtain ⟨⟨dq,osq⟩,hw''⟩ := hw'
     subst hw''
     go_wp2
     go_ret
     exact ⟨by rw [R.out]; rfl,BE.out.trans ((below_regrown wr dq osq).mono BE.out.size)⟩
    ·go_wp2
     refine wp_region_quiet_below (by kernel_rfl) (by kernel_rfl) ?_
     repeat (go_big_quiet_step (fail))
     refine wpQuiet_nil ?_
     intro _ hw'
     obtain ⟨⟨dq,osq⟩,hw''⟩ := hw'
     subst hw''
     clear ix iy p0 p1 p2 p3 p4 q0 q1 q2 q3 q4 hne
     go_wp2
     go_roundw
     case rel => exact ⟨k + 1,by omega,by go_num,BE.out.trans ((below_regrown wr dq osq).mono BE.out.size),fun j x' y' hj h1 h2 => by
      rcases Nat.lt_or_ge j k with h3 | h3
      ·exact AL.out j x' y' h3 h1 h2
      ·obtain rfl : j = k := by omega
       have e1 := HX.out
       have e2 := HY.out
       rw [h1] at e1
       rw [h2] at e2
       rw [Option.some.inj e1,Option.some.inj e2]
       exact HR.out⟩
     case measure => simp [intOf]; omega
   ·obtain rfl : k = n := by omega
    have R := Lib.hid (show sameC l m = true from sameC_all l m (by rw [HN.out]; exact HL.out) (fun j a b h1 h2 => AL.out j a b (by have := (List.getElem?_eq_some_iff.1 h1).1; have := HN.out; omega) h1 h2))
    go_wp2
    go_ret
    exact ⟨by rw [R.out]; rfl,BE.out⟩
 ·have R := Lib.hid (show sameC l m = false by
   cases h : sameC l m
   ·rfl
   ·exact absurd (sameC_len _ _ h) hlen)
  have hne : (((l.length : Nat) : Int) != ((m.length : Nat) : Int)) = true := by simp; omega
  have hne2 : (((l.length : Nat) : Int) == ((m.length : Nat) : Int)) = false := by simp; omega
  clear hlen
  go_enter Tryz.func136,Tryz.ntmps136
  go_wp2
  go_ret
  exact ⟨by rw [R.out]; rfl,Below.refl _ _⟩
theorem psame_any (av_ bv : Value) (l m : List C5) (w : World) (ha : RowC w av_ l) (hb : RowC w bv m) (hl : l.length ≤ 1000000) : Calls Tryz.prog 109 #[av_,bv] w fun e w' => e = .returned (.bool (sameC l m)) ∧ Below w.heap.size w w' := by
 have C := Lib.hid (eqC_any av_ bv l m w ha hb hl)
 obtain ⟨ao,ac,rfl⟩ := ha.len
 obtain ⟨bo,bc,rfl⟩ := hb.len
 clear ha hb
 go_enter Tryz.func109,Tryz.ntmps109
 go_wp2_with fail
 refine C.out.mono ?_
 rintro e w' ⟨rfl,hb⟩
 have HB := Lib.hid hb
 clear hb
 go_wp2
 go_ret
 exact ⟨rfl,HB.out⟩
theorem sameN_any (x y : XEn) (a b : En) (w : World) (hx : EnIn w x a) (hy : EnIn w y b) (hl : a.p.length ≤ 1000000) : Calls Tryz.prog 60 #[valN x,valN y] w fun e w' => e = .returned (.bool (eqE a b)) ∧ Below w.heap.size w w' := by
 obtain ⟨x1,x2,x3,x4,⟨xo,xn,xc⟩,x6,x7⟩ := x
 obtain ⟨y1,y2,y3,y4,⟨yo,yn,yc⟩,y6,y7⟩ := y
 obtain ⟨gi,gj,gp,gq,gr⟩ := hx
 obtain ⟨ki,kj,kp,kq,kr⟩ := hy
 have ER : eqE a b = ((x1 == y1 && x2 == y2) && ((x3 == y3 && x4 == y4) && ((x6 == y6) && ((x7 == y7) && sameC a.p b.p)))) := by
  unfold eqE
  rw [← gi,← ki,← gj,← kj,← gp,← kp,← gq,← kq]
  rfl
 rw [ER]
 obtain ⟨h0,X,Y⟩ := two_new w #[.int .i64 x1,.int .i64 x2,.int .i64 x3,.int .i64 x4,.slice xo xn xc,.int .i64 x6,.bool x7] #[.int .i64 y1,.int .i64 y2,.int .i64 y3,.int .i64 y4,.slice yo yn yc,.int .i64 y6,.bool y7] 43 43
 have C := Lib.hid (psame_any _ _ a.p b.p _ (gr.on h0) (kr.on h0) hl)
 obtain ⟨cx0,cx1,cx2,cx3,cx4,cx5,cx6⟩ := X.cs7
 obtain ⟨cy0,cy1,cy2,cy3,cy4,cy5,cy6⟩ := Y.cs7
 have B0 := Lib.hid h0
 clear h0 X Y gr kr hl ER gi gj gp gq ki kj kp kq
 obtain ⟨r0,hr0⟩ : ∃ r,(x1 == y1 && x2 == y2) = r := ⟨_,rfl⟩
 have he0 := eqId x1 x2 y1 y2 r0 hr0
 obtain ⟨r1,hr1⟩ : ∃ r,(x3 == y3 && x4 == y4) = r := ⟨_,rfl⟩
 have he1 := eqId x3 x4 y3 y4 r1 hr1
 obtain ⟨r2,hr2⟩ : ∃ r,(x6 == y6) = r := ⟨_,rfl⟩
 obtain ⟨r3,hr3⟩ : ∃ r,(x7 == y7) = r := ⟨_,rfl⟩
 rw [hr0,hr1,hr2,hr3]
 clear hr0
 clear hr1
 obtain ⟨rs,hrs⟩ : ∃ r,sameC a.p b.p = r := ⟨_,rfl⟩
 rw [hrs] at C ⊢
 clear hrs
 go_enter Tryz.func60,Tryz.ntmps60
 cases r0
 ·go_wp2_with fail
  go_ret
  exact ⟨rfl,B0.out⟩
 ·cases r1
  ·go_wp2_with fail
   go_ret
   exact ⟨rfl,B0.out⟩
  ·cases r2
   ·go_wp2_with fail
    go_ret
    exact ⟨rfl,B0.out⟩
   ·cases r3
    ·go_wp2_with fail
     go_ret
     exact ⟨rfl,B0.out⟩
    ·go_wp2_with fail
     refine C.out.mono ?_
     rintro e w1 ⟨rfl,hb⟩
     have BB := Lib.hid (B0.out.trans (hb.mono B0.out.size))
     clear hb
     go_wp2
     go_ret
     exact ⟨rfl,BB.out⟩
theorem eqfN_any (v u : Sl) (l m : List XEn) (al bl : List En) (w : World) (ha : Row EN w (slv v) l) (hb : Row EN w (slv u) m) (hA : All2 (EnIn w) l al) (hB : All2 (EnIn w) m bl) (hs : ∀ a ∈ al,a.p.length ≤ 1000000) :
  Calls Tryz.prog 59 #[slv v,slv u,.func (.func 60) #[] #[]] w fun e w' => e = .returned (.bool (sameG eqE al bl)) ∧ Below w.heap.size w w' := by
 obtain ⟨so,sn,sc⟩ := v
 obtain ⟨uo,un,uc⟩ := u
 obtain ⟨ao,ac,hv⟩ := ha.len
 have hv : Value.slice so sn sc = .slice ao l.length ac := hv
 obtain ⟨rfl,rfl,rfl⟩ : so = ao ∧ sn = l.length ∧ sc = ac := by simpa using hv
 obtain ⟨ao,ac,hv2⟩ := hb.len
 have hv2 : Value.slice uo un uc = .slice ao m.length ac := hv2
 obtain ⟨rfl,rfl,rfl⟩ : uo = ao ∧ un = m.length ∧ uc = ac := by simpa using hv2
 have RA := Lib.hid ha
 have RB := Lib.hid hb
 have LA := Lib.hid hA
 have LB := Lib.hid hB
 have HS := Lib.hid hs
 have ma := ha.most
 unfold maxLen at ma
 clear ha hb hA hB hs hv hv2
 by_cases hlen : l.length = m.length
 ·have HL := Lib.hid hlen
  rw [← hlen] at RB ⊢
  generalize hn : l.length = n at *
  have HN := Lib.hid hn
  clear hlen hn
  go_enter Tryz.func59,Tryz.ntmps59
  go_wp2
  go_loopw [17] (fun i wr => ∃ k : Nat,k ≤ n ∧ i = .int .i64 k ∧ Below w.heap.size w wr ∧ ∀ (j : Nat) (x y : En),j < k → al[j]? = some x → bl[j]? = some y → eqE x y = true) (fun i _ => n - (intOf i).toNat)
  case atStart => exact ⟨0,Nat.zero_le _,rfl,Below.refl _ _,fun j x y h => by omega⟩
  case round =>
   obtain ⟨k,hk,rfl,hbe,hall⟩ := hrel
   have BE := Lib.hid hbe
   have AL := Lib.hid hall
   clear hbe hall
   by_cases hlt : k < n
   ·obtain ⟨a,hak⟩ : ∃ a,al[k]? = some a := ⟨_,List.getElem?_eq_getElem (by rw [← LA.out.len,HN.out]; exact hlt)⟩
    obtain ⟨b,hbk⟩ : ∃ b,bl[k]? = some b := ⟨_,List.getElem?_eq_getElem (by rw [← LB.out.len,← HL.out]; exact hlt)⟩
    obtain ⟨x,hx,ix⟩ := LA.out.at k a hak
    obtain ⟨y,hy,iy⟩ := LB.out.at k b hbk
    obtain ⟨p,jx,px⟩ := elN RA.out rfl HN.out hx
    obtain ⟨q,jy,py⟩ := elN RB.out rfl HL.out.symm hy
    obtain ⟨p0,p1,p2,p3,p4,p5,p6⟩ := px wr BE.out
    have hs1 := HS.out a (List.mem_of_getElem? hak)
    have CC := fun W' (h : Below w.heap.size w W') => sameN_any x y a b W' (ix.on h) (iy.on h) hs1
    have HAK := Lib.hid hak
    have HBK := Lib.hid hbk
    clear hx hy hak hbk hs1 px ix iy
    obtain ⟨x1,x2,x3,x4,⟨xo,xn,xc⟩,x6,x7⟩ := x
    obtain ⟨y1,y2,y3,y4,⟨yo,yn,yc⟩,y6,y7⟩ := y
    simp only at p0 p1 p2 p3 p4 p5 p6
    have N1 := newB wr (.cells #[.int .i64 x1,.int .i64 x2,.int .i64 x3,.int .i64 x4,.slice xo xn xc,.int .i64 x6,.bool x7] 43)
    have N2 := newB (wr.alloc (.cells #[.int .i64 x1,.int .i64 x2,.int .i64 x3,.int .i64 x4,.slice xo xn xc,.int .i64 x6,.bool x7] 43)) (.cells #[.int .i64 y1,.int .i64 y2,.int .i64 y3,.int .i64 y4,.slice yo yn yc,.int .i64 y6,.bool y7] 43)
    have BN := Lib.hid (BE.out.trans ((N1.trans (N2.mono N1.size)).mono BE.out.size))
    obtain ⟨q0,q1,q2,q3,q4,q5,q6⟩ := py _ (BE.out.trans (N1.mono BE.out.size))
    have hX := (box_new wr #[.int .i64 x1,.int .i64 x2,.int .i64 x3,.int .i64 x4,.slice xo xn xc,.int .i64 x6,.bool x7] 43).on N2
    have hY := box_new (wr.alloc (.cells #[.int .i64 x1,.int .i64 x2,.int .i64 x3,.int .i64 x4,.slice xo xn xc,.int .i64 x6,.bool x7] 43)) #[.int .i64 y1,.int .i64 y2,.int .i64 y3,.int .i64 y4,.slice yo yn yc,.int .i64 y6,.bool y7] 43
    have hsz : (wr.alloc (.cells #[.int .i64 x1,.int .i64 x2,.int .i64 x3,.int .i64 x4,.slice xo xn xc,.int .i64 x6,.bool x7] 43)).heap.size = wr.heap.size + 1 := by simp
    rw [hsz] at hY
    obtain ⟨ex0,ex1,ex2,ex3,ex4,ex5,ex6⟩ := hX.cs7
    obtain ⟨ey0,ey1,ey2,ey3,ey4,ey5,ey6⟩ := hY.cs7
    simp only at q0 q1 q2 q3 q4 q5 q6
    have hw3 : IntKind.i64.wrap ((k : Int) + 1) = (k : Int) + 1 := IntWalk.i64_in _ (by omega)
    have C := Lib.hid (CC _ BN.out)
    obtain ⟨r,hr⟩ : ∃ r,eqE a b = r := ⟨_,rfl⟩
    rw [hr] at C
    have HR := Lib.hid hr
    clear CC hr N1 N2 hX hY hsz py
    go_wp2_with fail
    refine C.out.mono ?_
    rintro e w1 ⟨rfl,hb⟩
    have BB := Lib.hid (BN.out.trans (hb.mono BN.out.size))
    clear hb C p0 p1 p2 p3 p4 p5 p6 q0 q1 q2 q3 q4 q5 q6 ex0 ex1 ex2 ex3 ex4 ex5 ex6 ey0 ey1 ey2 ey3 ey4 ey5 ey6 jx jy
    cases r
    ·have R := Lib.hid (show sameG eqE al bl = false from sameG_not al bl k a b HAK.out HBK.out HR.out)
     go_wp2
     go_ret
     exact ⟨by rw [R.out]; rfl,BB.out⟩
    ·go_wp2
     go_roundw
     case rel => exact ⟨k + 1,by omega,by go_num,BB.out,fun j x' y' hj h1 h2 => by
      rcases Nat.lt_or_ge j k with h3 | h3
      ·exact AL.out j x' y' h3 h1 h2
      ·obtain rfl : j = k := by omega
       have e1 := HAK.out
       have e2 := HBK.out
       rw [h1] at e1
       rw [h2] at e2
       rw [Option.some.inj e1,Option.some.inj e2]
       exact HR.out⟩
     case measure => simp [intOf]; omega
   ·obtain rfl : k = n := by omega
    have R := Lib.hid (show sameG eqE al bl = true from sameG_all al bl (by rw [← LA.out.len,← LB.out.len,HN.out]; exact HL.out) (fun j a b h1 h2 => AL.out j a b (by have := (List.getElem?_eq_some_iff.1 h1).1; have := HN.out; have := LA.out.len; omega) h1 h2))
    go_wp2
    go_ret
    exact ⟨by rw [R.out]; rfl,BE.out⟩
 ·have R := Lib.hid (show sameG eqE al bl = false by
   cases h : sameG eqE al bl
   ·rfl
   ·exact absurd ((LA.out.len.trans (sameG_len _ _ h)).trans LB.out.len.symm) hlen)
  have hne : (((l.length : Nat) : Int) != ((m.length : Nat) : Int)) = true := by simp; omega
  have hne2 : (((l.length : Nat) : Int) == ((m.length : Nat) : Int)) = false := by simp; omega
  clear hlen
  go_enter Tryz.func59,Tryz.ntmps59
  go_wp2
  go_ret
  exact ⟨by rw [R.out]; rfl,Below.refl _ _⟩
end Go.Proofs.YtncogjpmboglhaaGreat.Av
