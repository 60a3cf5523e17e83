/-
  The region of AdvertsPlays that makes an ID. Condition: numbers of 64 bits.
  The region of AdvertsPlays that makes an advertisement. Conditions: the lists of numbers are as they came in.
  Small things for regions with guards: a guard that was itself not wanted; comparisons. No condition beyond what each theorem states.
-/
import Derived.Test.YtonoadjmglkhaaaGreatU038
import Derived.Test.YtonoadjmglkhaaaGreatU039
import Derived.Test.YtonoadjmglkhaaaGreatU009
import Derived.Test.YtonoadjmglkhaaaGreatU033
import Derived.Test.YtonoadjmglkhaaaGreatU008
import Derived.Test.YtonoadjmglkhaaaGreatU018
namespace Go.Proofs.YtonoadjmglkhaaaGreat.Av
open Go.RowKit Go.Sort Go.Proofs.YtonoadjmglkhaaaGreat Go.Proofs.YtonoadjmglkhaaaGreat.Rw Go.Proofs.YtonoadjmglkhaaaGreat.Nm Go.Proofs.YtonoadjmglkhaaaGreat.Pr Go.Proofs.YtonoadjmglkhaaaGreat.Bk

def play6V (_B : Nat) (bq : Nat) (_z0 z1 z2 _z3 : Int) (_h1 : Option Addr) (_h2 _h3 : Nat) (_g1 : Option Addr) (_g2 _g3 : Nat) (i : Nat) (v : Value) (_x : World) : Prop :=
  match i with
  | 0 => v = .pointer (some ⟨bq, 1, none⟩)
  | 1 => v = .int .i64 z1
  | 2 => v = .int .i64 (Wi.within z1 0 2)
  | 3 => v = .pointer (some ⟨bq, 2, none⟩)
  | 4 => v = .int .i64 z2
  | 5 => v = .int .i64 (Wi.within z2 0 2)
  | 6 => v = .agg #[.int .i64 (Wi.within z1 0 2), .int .i64 (Wi.within z2 0 2)]
  | 7 => True
  | 8 => True
  | _ => True
noncomputable def play6C : Code := ((Tryz.f3.body.bind (findRegion 6)).getD .skip)
set_option maxRecDepth 100000 in
set_option maxHeartbeats 8000000 in
theorem play6 (Q : Exit → Act → World → Prop) (W : World) (bq : Nat) (z0 z1 z2 z3 : Int) (h1 : Option Addr) (h2 h3 : Nat) (g1 : Option Addr) (g2 g3 : Nat) (u0 u1 u2 u3 u4 u5 u7 u8 u9 u10 u11 u12 u13 u14 u15 u16 u17 u18 u19 u20 u21 u22 u23 u24 u25 u26 u27 u28 u29 u30 u31 u32 u33 u34 u35 u36 u37 u38 u39 u40 u41 u42 u43 u44 u45 u46 u47 u48 u49 u50 u51 u52 u53 u54 u55 u56 u57 u58 u59 u60 u61 u62 u63 u64 u65 u66 u67 u68 u69 u70 u71 u72 u73 u74 u75 u76 u77 u78 u79 u80 u81 u82 u83 u84 u85 u86 u87 u88 u89 u90 u91 u92 u93 u94 u95 u96 u97 u98 u99 u100 u101 u102 u103 u104 u105 u106 u107 u108 u109 u110 u111 u112 u113 u114 u115 u116 u117 u118 u119 u120 u121 u122 u123 u124 u125 u126 u127 u128 u129 u130 u131 u132 u133 u134 u135 u136 u137 u138 u139 u140 u141 u142 u143 u144 u145 u146 u147 : Value)
    (q : Box W bq #[.int .i64 z0, .int .i64 z1, .int .i64 z2, .int .i64 z3, .slice h1 h2 h3, .slice g1 g2 g3] 34) (d1 : -9223372036854775808 ≤ z1 ∧ z1 ≤ 9223372036854775807) (d2 : -9223372036854775808 ≤ z2 ∧ z2 ≤ 9223372036854775807)
    (hQ : ∀ (x : World) (bb : Nat) (v35 v36 v37 v38 v39 v40 v41 : Value), W.heap.size ≤ bb → Box x bb #[.int .i64 (Wi.within z1 0 2), .int .i64 (Wi.within z2 0 2)] 37 → Below W.heap.size W x → Q .normal ⟨(u0 :: u1 :: u2 :: u3 :: u4 :: u5 :: .pointer (some ⟨bq, 0, none⟩) :: .pointer (some ⟨bb, 0, none⟩) :: u8 :: u9 :: u10 :: u11 :: u12 :: u13 :: u14 :: u15 :: u16 :: u17 :: u18 :: u19 :: u20 :: u21 :: u22 :: u23 :: u24 :: u25 :: u26 :: u27 :: u28 :: u29 :: u30 :: u31 :: u32 :: u33 :: u34 :: v35 :: v36 :: v37 :: v38 :: v39 :: v40 :: v41 :: u42 :: u43 :: u44 :: u45 :: u46 :: u47 :: u48 :: u49 :: u50 :: u51 :: u52 :: u53 :: u54 :: u55 :: u56 :: u57 :: u58 :: u59 :: u60 :: u61 :: u62 :: u63 :: u64 :: u65 :: u66 :: u67 :: u68 :: u69 :: u70 :: u71 :: u72 :: u73 :: u74 :: u75 :: u76 :: u77 :: u78 :: u79 :: u80 :: u81 :: u82 :: u83 :: u84 :: u85 :: u86 :: u87 :: u88 :: u89 :: u90 :: u91 :: u92 :: u93 :: u94 :: u95 :: u96 :: u97 :: u98 :: u99 :: u100 :: u101 :: u102 :: u103 :: u104 :: u105 :: u106 :: u107 :: u108 :: u109 :: u110 :: u111 :: u112 :: u113 :: u114 :: u115 :: u116 :: u117 :: u118 :: u119 :: u120 :: u121 :: u122 :: u123 :: u124 :: u125 :: u126 :: u127 :: u128 :: u129 :: u130 :: u131 :: u132 :: u133 :: u134 :: u135 :: u136 :: u137 :: u138 :: u139 :: u140 :: u141 :: u142 :: u143 :: u144 :: u145 :: u146 :: u147 :: []).toArray, []⟩ x) :
    Code.wp Tryz.prog play6C Q ⟨(u0 :: u1 :: u2 :: u3 :: u4 :: u5 :: .pointer (some ⟨bq, 0, none⟩) :: u7 :: u8 :: u9 :: u10 :: u11 :: u12 :: u13 :: u14 :: u15 :: u16 :: u17 :: u18 :: u19 :: u20 :: u21 :: u22 :: u23 :: u24 :: u25 :: u26 :: u27 :: u28 :: u29 :: u30 :: u31 :: u32 :: u33 :: u34 :: u35 :: u36 :: u37 :: u38 :: u39 :: u40 :: u41 :: u42 :: u43 :: u44 :: u45 :: u46 :: u47 :: u48 :: u49 :: u50 :: u51 :: u52 :: u53 :: u54 :: u55 :: u56 :: u57 :: u58 :: u59 :: u60 :: u61 :: u62 :: u63 :: u64 :: u65 :: u66 :: u67 :: u68 :: u69 :: u70 :: u71 :: u72 :: u73 :: u74 :: u75 :: u76 :: u77 :: u78 :: u79 :: u80 :: u81 :: u82 :: u83 :: u84 :: u85 :: u86 :: u87 :: u88 :: u89 :: u90 :: u91 :: u92 :: u93 :: u94 :: u95 :: u96 :: u97 :: u98 :: u99 :: u100 :: u101 :: u102 :: u103 :: u104 :: u105 :: u106 :: u107 :: u108 :: u109 :: u110 :: u111 :: u112 :: u113 :: u114 :: u115 :: u116 :: u117 :: u118 :: u119 :: u120 :: u121 :: u122 :: u123 :: u124 :: u125 :: u126 :: u127 :: u128 :: u129 :: u130 :: u131 :: u132 :: u133 :: u134 :: u135 :: u136 :: u137 :: u138 :: u139 :: u140 :: u141 :: u142 :: u143 :: u144 :: u145 :: u146 :: u147 :: []).toArray, []⟩ W := by
  have HQ := Lib.hid hQ
  have HQ6 := Lib.hid q
  have D1 := Lib.hid d1
  have D2 := Lib.hid d2
  clear hQ q d1 d2
  unfold play6C
  conv => arg 2; whnf
  have nb6 : ∀ i, i < 9 → [35, 36, 37, 38, 39, 40, 41, 7, 7].getD i 0 ≠ 6 := by decide
  refine Rg.region_mk 9 7 8 6 (fun i => [35, 36, 37, 38, 39, 40, 41, 7, 7].getD i 0) (fun i => 9) (play6V W.heap.size bq z0 z1 z2 z3 h1 h2 h3 g1 g2 g3) 37 #[.int .i64 0, .int .i64 0] (fun v => match v with | .agg c => c | _ => #[]) (by kernel_rfl) (by kernel_rfl) rfl (by decide) (by decide) (by decide) (by decide) (by decide) (by decide) (by decide) (fun i j hi hj h1 h2 h => (by decide : ∀ i, i < 9 → ∀ j, j < 9 → i ≠ 8 → j ≠ 8 → [35, 36, 37, 38, 39, 40, 41, 7, 7].getD i 0 = [35, 36, 37, 38, 39, 40, 41, 7, 7].getD j 0 → i = j) i hi j hj h1 h2 h) (fun i hi => (by decide : ∀ i, i < 9 → [35, 36, 37, 38, 39, 40, 41, 7, 7].getD i 0 < 148) i hi) ?_ ?_ ?_ ?_ ?_ ?_
  · intro i v x x' hi h hb
    rcases (by omega : i = 0 ∨ i = 1 ∨ i = 2 ∨ i = 3 ∨ i = 4 ∨ i = 5 ∨ i = 6 ∨ i = 7 ∨ i = 8) with rfl | rfl | rfl | rfl | rfl | rfl | rfl | rfl | rfl
    · exact h
    · exact h
    · exact h
    · exact h
    · exact h
    · exact h
    · exact h
    · exact h
    · exact h
  · intro o ho
    obtain rfl := Option.some.inj ho
    exact ⟨⟨⟨7, .data⟩, by simp, rfl, rfl⟩, ⟨⟨6, .data⟩, by simp, rfl, rfl⟩⟩
  · intro i o hi hiA hiS ho a x hb seen K hK
    clear HQ
    rcases (by omega : i = 0 ∨ i = 1 ∨ i = 2 ∨ i = 3 ∨ i = 4 ∨ i = 5 ∨ i = 6) with rfl | rfl | rfl | rfl | rfl | rfl | rfl
    · obtain rfl := Option.some.inj ho
      have e6 : a.eval (.tmp 6) = .pointer (some ⟨bq, 0, none⟩) := seen.kp 6 _ nb6 rfl
      exact Rg.op_value rfl rfl (Rg.ex_field a.eval _ 34 (.tmp 6) 1 rfl (by rw [e6]; simp [go_sem])) (hK _ x rfl (Below.refl _ _))
    · obtain rfl := Option.some.inj ho
      have e35 : a.eval (.tmp 35) = .pointer (some ⟨bq, 1, none⟩) := seen.at_ ⟨0, .data⟩ (by simp) rfl (by decide) (by decide) (Or.inr (by decide))
      have y1 := (HQ6.out.on hb).cell 1
      simp only [List.getElem?_toArray, List.getElem?_cons_zero, List.getElem?_cons_succ] at y1
      exact Rg.op_value rfl rfl (Rg.ex_load a.eval _ 3 (.tmp 35) rfl (by rw [e35]; simp [go_sem, y1])) (hK _ x rfl (Below.refl _ _))
    · obtain rfl := Option.some.inj ho
      have e36 : a.eval (.tmp 36) = .int .i64 z1 := seen.at_ ⟨1, .data⟩ (by simp) rfl (by decide) (by decide) (Or.inr (by decide))
      exact Rg.op_call rfl rfl (Rg.ex_call3 a.eval _ (.tmp 36) (.const (.int .i64 0)) (.const (.int .i64 2)) 3 7 rfl e36 rfl rfl rfl _ (call_fn Tryz.func7 rfl rfl _ _)) (Wi.within_any z1 0 2 x (by omega) (by omega) (by omega) D1.out.1 D1.out.2) fun e w1 h => by
        obtain ⟨rfl, rfl⟩ := h
        exact ⟨_, rfl, hK _ _ rfl (Below.refl _ _)⟩
    · obtain rfl := Option.some.inj ho
      have e6 : a.eval (.tmp 6) = .pointer (some ⟨bq, 0, none⟩) := seen.kp 6 _ nb6 rfl
      exact Rg.op_value rfl rfl (Rg.ex_field a.eval _ 34 (.tmp 6) 2 rfl (by rw [e6]; simp [go_sem])) (hK _ x rfl (Below.refl _ _))
    · obtain rfl := Option.some.inj ho
      have e38 : a.eval (.tmp 38) = .pointer (some ⟨bq, 2, none⟩) := seen.at_ ⟨3, .data⟩ (by simp) rfl (by decide) (by decide) (Or.inr (by decide))
      have y2 := (HQ6.out.on hb).cell 2
      simp only [List.getElem?_toArray, List.getElem?_cons_zero, List.getElem?_cons_succ] at y2
      exact Rg.op_value rfl rfl (Rg.ex_load a.eval _ 3 (.tmp 38) rfl (by rw [e38]; simp [go_sem, y2])) (hK _ x rfl (Below.refl _ _))
    · obtain rfl := Option.some.inj ho
      have e39 : a.eval (.tmp 39) = .int .i64 z2 := seen.at_ ⟨4, .data⟩ (by simp) rfl (by decide) (by decide) (Or.inr (by decide))
      exact Rg.op_call rfl rfl (Rg.ex_call3 a.eval _ (.tmp 39) (.const (.int .i64 0)) (.const (.int .i64 2)) 3 7 rfl e39 rfl rfl rfl _ (call_fn Tryz.func7 rfl rfl _ _)) (Wi.within_any z2 0 2 x (by omega) (by omega) (by omega) D2.out.1 D2.out.2) fun e w1 h => by
        obtain ⟨rfl, rfl⟩ := h
        exact ⟨_, rfl, hK _ _ rfl (Below.refl _ _)⟩
    · obtain rfl := Option.some.inj ho
      have e37 : a.eval (.tmp 37) = .int .i64 (Wi.within z1 0 2) := seen.at_ ⟨2, .data⟩ (by simp) rfl (by decide) (by decide) (Or.inr (by decide))
      have e40 : a.eval (.tmp 40) = .int .i64 (Wi.within z2 0 2) := seen.at_ ⟨5, .data⟩ (by simp) rfl (by decide) (by decide) (Or.inr (by decide))
      exact Rg.op_value rfl rfl (Rg.ex_buildS a.eval _ 37 #[(0, .tmp 37), (1, .tmp 40)] rfl (ps := #[(0, .int .i64 (Wi.within z1 0 2)), (1, .int .i64 (Wi.within z2 0 2))]) (by simp only [List.map_toArray, List.map_cons, List.map_nil, e37, e40]) (by simp [go_sem])) (hK _ x rfl (Below.refl _ _))
  · intro o ho a x K hK
    obtain rfl := Option.some.inj ho
    exact Rg.op_value rfl rfl (Rg.ex_alloc a.eval _ 37 rfl (by simp [go_sem])) hK
  · intro o ho a x bb v D hc hD hb hA hC hvC hbb hbox K hK
    clear HQ
    obtain rfl := Option.some.inj ho
    have hv : v = .agg #[.int .i64 (Wi.within z1 0 2), .int .i64 (Wi.within z2 0 2)] := hvC
    subst hv
    have x0 := hbox.cell 0
    have x1 := hbox.cell 1
    have f0 := hbox.fr 0
    have f1 := hbox.fr 1
    simp only [List.getElem?_toArray, List.getElem?_cons_zero, List.getElem?_cons_succ] at x0 x1
    have hst : (Instr.storeAt 37 (.pointer (some ⟨bb, 0, none⟩)) (.agg #[.int .i64 (Wi.within z1 0 2), .int .i64 (Wi.within z2 0 2)])).run Tryz.prog x = .ok () ((x.setCell ⟨bb, 0, none⟩ (.int .i64 (Wi.within z1 0 2))).setCell ⟨bb, 1, none⟩ (.int .i64 (Wi.within z2 0 2))) := by simp [go_sem, x0, x1, f0, f1]
    have hbx2 := box_set (k := 1) (box_set (k := 0) hbox (.int .i64 (Wi.within z1 0 2))) (.int .i64 (Wi.within z2 0 2))
    refine Rg.op_store 37 (.tmp 7) (.tmp 41) rfl rfl rfl rfl hA hC hst (hK _ ((hb.setCell (p := ⟨bb, 0, none⟩) hbb _).setCell (p := ⟨bb, 1, none⟩) hbb _) (by simpa using hbx2) ?_)
    exact fun j u hj hjA hjS hdj hnl hls h => by
      rcases (by omega : j = 0 ∨ j = 1 ∨ j = 2 ∨ j = 3 ∨ j = 4 ∨ j = 5 ∨ j = 6) with rfl | rfl | rfl | rfl | rfl | rfl | rfl
      · have h2 : u = .pointer (some ⟨bq, 1, none⟩) := h; exact h2
      · have h2 : u = .int .i64 z1 := h; exact h2
      · have h2 : u = .int .i64 (Wi.within z1 0 2) := h; exact h2
      · have h2 : u = .pointer (some ⟨bq, 2, none⟩) := h; exact h2
      · have h2 : u = .int .i64 z2 := h; exact h2
      · have h2 : u = .int .i64 (Wi.within z2 0 2) := h; exact h2
      · have h2 : u = .agg #[.int .i64 (Wi.within z1 0 2), .int .i64 (Wi.within z2 0 2)] := h; exact h2
  · intro a x bb v df sz kp gA gC hbb hbox hvC hbel ⟨vs, hv⟩
    have hv9 : v = .agg #[.int .i64 (Wi.within z1 0 2), .int .i64 (Wi.within z2 0 2)] := hvC
    subst hv9
    have g7 : a.tmps[7]? = some (.pointer (some ⟨bb, 0, none⟩)) := gA
    have kp2 : ∀ j, (j < 7 ∨ 42 ≤ j) → a.tmps[j]? = (u0 :: u1 :: u2 :: u3 :: u4 :: u5 :: .pointer (some ⟨bq, 0, none⟩) :: u7 :: u8 :: u9 :: u10 :: u11 :: u12 :: u13 :: u14 :: u15 :: u16 :: u17 :: u18 :: u19 :: u20 :: u21 :: u22 :: u23 :: u24 :: u25 :: u26 :: u27 :: u28 :: u29 :: u30 :: u31 :: u32 :: u33 :: u34 :: u35 :: u36 :: u37 :: u38 :: u39 :: u40 :: u41 :: u42 :: u43 :: u44 :: u45 :: u46 :: u47 :: u48 :: u49 :: u50 :: u51 :: u52 :: u53 :: u54 :: u55 :: u56 :: u57 :: u58 :: u59 :: u60 :: u61 :: u62 :: u63 :: u64 :: u65 :: u66 :: u67 :: u68 :: u69 :: u70 :: u71 :: u72 :: u73 :: u74 :: u75 :: u76 :: u77 :: u78 :: u79 :: u80 :: u81 :: u82 :: u83 :: u84 :: u85 :: u86 :: u87 :: u88 :: u89 :: u90 :: u91 :: u92 :: u93 :: u94 :: u95 :: u96 :: u97 :: u98 :: u99 :: u100 :: u101 :: u102 :: u103 :: u104 :: u105 :: u106 :: u107 :: u108 :: u109 :: u110 :: u111 :: u112 :: u113 :: u114 :: u115 :: u116 :: u117 :: u118 :: u119 :: u120 :: u121 :: u122 :: u123 :: u124 :: u125 :: u126 :: u127 :: u128 :: u129 :: u130 :: u131 :: u132 :: u133 :: u134 :: u135 :: u136 :: u137 :: u138 :: u139 :: u140 :: u141 :: u142 :: u143 :: u144 :: u145 :: u146 :: u147 :: [])[j]? := fun j hj => (kp j (fun i hi h => by have := (by decide : ∀ i, i < 9 → 7 ≤ [35, 36, 37, 38, 39, 40, 41, 7, 7].getD i 0 ∧ [35, 36, 37, 38, 39, 40, 41, 7, 7].getD i 0 < 42) i hi; omega)).trans List.getElem?_toArray
    obtain ⟨mid, hmid, rfl⟩ := Rg.frame_mid (bl := (u0 :: u1 :: u2 :: u3 :: u4 :: u5 :: .pointer (some ⟨bq, 0, none⟩) :: u7 :: u8 :: u9 :: u10 :: u11 :: u12 :: u13 :: u14 :: u15 :: u16 :: u17 :: u18 :: u19 :: u20 :: u21 :: u22 :: u23 :: u24 :: u25 :: u26 :: u27 :: u28 :: u29 :: u30 :: u31 :: u32 :: u33 :: u34 :: u35 :: u36 :: u37 :: u38 :: u39 :: u40 :: u41 :: u42 :: u43 :: u44 :: u45 :: u46 :: u47 :: u48 :: u49 :: u50 :: u51 :: u52 :: u53 :: u54 :: u55 :: u56 :: u57 :: u58 :: u59 :: u60 :: u61 :: u62 :: u63 :: u64 :: u65 :: u66 :: u67 :: u68 :: u69 :: u70 :: u71 :: u72 :: u73 :: u74 :: u75 :: u76 :: u77 :: u78 :: u79 :: u80 :: u81 :: u82 :: u83 :: u84 :: u85 :: u86 :: u87 :: u88 :: u89 :: u90 :: u91 :: u92 :: u93 :: u94 :: u95 :: u96 :: u97 :: u98 :: u99 :: u100 :: u101 :: u102 :: u103 :: u104 :: u105 :: u106 :: u107 :: u108 :: u109 :: u110 :: u111 :: u112 :: u113 :: u114 :: u115 :: u116 :: u117 :: u118 :: u119 :: u120 :: u121 :: u122 :: u123 :: u124 :: u125 :: u126 :: u127 :: u128 :: u129 :: u130 :: u131 :: u132 :: u133 :: u134 :: u135 :: u136 :: u137 :: u138 :: u139 :: u140 :: u141 :: u142 :: u143 :: u144 :: u145 :: u146 :: u147 :: [])) 7 35 df sz (by simp) kp2
    match mid, hmid with
    | v7 :: v8 :: v9 :: v10 :: v11 :: v12 :: v13 :: v14 :: v15 :: v16 :: v17 :: v18 :: v19 :: v20 :: v21 :: v22 :: v23 :: v24 :: v25 :: v26 :: v27 :: v28 :: v29 :: v30 :: v31 :: v32 :: v33 :: v34 :: v35 :: v36 :: v37 :: v38 :: v39 :: v40 :: v41 :: [], _ =>
      obtain rfl : v7 = .pointer (some ⟨bb, 0, none⟩) := Option.some.inj g7
      obtain rfl : v8 = u8 := Option.some.inj (kp 8 (fun i hi h => (by decide : ∀ i, i < 9 → [35, 36, 37, 38, 39, 40, 41, 7, 7].getD i 0 ≠ 8) i hi h))
      obtain rfl : v9 = u9 := Option.some.inj (kp 9 (fun i hi h => (by decide : ∀ i, i < 9 → [35, 36, 37, 38, 39, 40, 41, 7, 7].getD i 0 ≠ 9) i hi h))
      obtain rfl : v10 = u10 := Option.some.inj (kp 10 (fun i hi h => (by decide : ∀ i, i < 9 → [35, 36, 37, 38, 39, 40, 41, 7, 7].getD i 0 ≠ 10) i hi h))
      obtain rfl : v11 = u11 := Option.some.inj (kp 11 (fun i hi h => (by decide : ∀ i, i < 9 → [35, 36, 37, 38, 39, 40, 41, 7, 7].getD i 0 ≠ 11) i hi h))
      obtain rfl : v12 = u12 := Option.some.inj (kp 12 (fun i hi h => (by decide : ∀ i, i < 9 → [35, 36, 37, 38, 39, 40, 41, 7, 7].getD i 0 ≠ 12) i hi h))
      obtain rfl : v13 = u13 := Option.some.inj (kp 13 (fun i hi h => (by decide : ∀ i, i < 9 → [35, 36, 37, 38, 39, 40, 41, 7, 7].getD i 0 ≠ 13) i hi h))
      obtain rfl : v14 = u14 := Option.some.inj (kp 14 (fun i hi h => (by decide : ∀ i, i < 9 → [35, 36, 37, 38, 39, 40, 41, 7, 7].getD i 0 ≠ 14) i hi h))
      obtain rfl : v15 = u15 := Option.some.inj (kp 15 (fun i hi h => (by decide : ∀ i, i < 9 → [35, 36, 37, 38, 39, 40, 41, 7, 7].getD i 0 ≠ 15) i hi h))
      obtain rfl : v16 = u16 := Option.some.inj (kp 16 (fun i hi h => (by decide : ∀ i, i < 9 → [35, 36, 37, 38, 39, 40, 41, 7, 7].getD i 0 ≠ 16) i hi h))
      obtain rfl : v17 = u17 := Option.some.inj (kp 17 (fun i hi h => (by decide : ∀ i, i < 9 → [35, 36, 37, 38, 39, 40, 41, 7, 7].getD i 0 ≠ 17) i hi h))
      obtain rfl : v18 = u18 := Option.some.inj (kp 18 (fun i hi h => (by decide : ∀ i, i < 9 → [35, 36, 37, 38, 39, 40, 41, 7, 7].getD i 0 ≠ 18) i hi h))
      obtain rfl : v19 = u19 := Option.some.inj (kp 19 (fun i hi h => (by decide : ∀ i, i < 9 → [35, 36, 37, 38, 39, 40, 41, 7, 7].getD i 0 ≠ 19) i hi h))
      obtain rfl : v20 = u20 := Option.some.inj (kp 20 (fun i hi h => (by decide : ∀ i, i < 9 → [35, 36, 37, 38, 39, 40, 41, 7, 7].getD i 0 ≠ 20) i hi h))
      obtain rfl : v21 = u21 := Option.some.inj (kp 21 (fun i hi h => (by decide : ∀ i, i < 9 → [35, 36, 37, 38, 39, 40, 41, 7, 7].getD i 0 ≠ 21) i hi h))
      obtain rfl : v22 = u22 := Option.some.inj (kp 22 (fun i hi h => (by decide : ∀ i, i < 9 → [35, 36, 37, 38, 39, 40, 41, 7, 7].getD i 0 ≠ 22) i hi h))
      obtain rfl : v23 = u23 := Option.some.inj (kp 23 (fun i hi h => (by decide : ∀ i, i < 9 → [35, 36, 37, 38, 39, 40, 41, 7, 7].getD i 0 ≠ 23) i hi h))
      obtain rfl : v24 = u24 := Option.some.inj (kp 24 (fun i hi h => (by decide : ∀ i, i < 9 → [35, 36, 37, 38, 39, 40, 41, 7, 7].getD i 0 ≠ 24) i hi h))
      obtain rfl : v25 = u25 := Option.some.inj (kp 25 (fun i hi h => (by decide : ∀ i, i < 9 → [35, 36, 37, 38, 39, 40, 41, 7, 7].getD i 0 ≠ 25) i hi h))
      obtain rfl : v26 = u26 := Option.some.inj (kp 26 (fun i hi h => (by decide : ∀ i, i < 9 → [35, 36, 37, 38, 39, 40, 41, 7, 7].getD i 0 ≠ 26) i hi h))
      obtain rfl : v27 = u27 := Option.some.inj (kp 27 (fun i hi h => (by decide : ∀ i, i < 9 → [35, 36, 37, 38, 39, 40, 41, 7, 7].getD i 0 ≠ 27) i hi h))
      obtain rfl : v28 = u28 := Option.some.inj (kp 28 (fun i hi h => (by decide : ∀ i, i < 9 → [35, 36, 37, 38, 39, 40, 41, 7, 7].getD i 0 ≠ 28) i hi h))
      obtain rfl : v29 = u29 := Option.some.inj (kp 29 (fun i hi h => (by decide : ∀ i, i < 9 → [35, 36, 37, 38, 39, 40, 41, 7, 7].getD i 0 ≠ 29) i hi h))
      obtain rfl : v30 = u30 := Option.some.inj (kp 30 (fun i hi h => (by decide : ∀ i, i < 9 → [35, 36, 37, 38, 39, 40, 41, 7, 7].getD i 0 ≠ 30) i hi h))
      obtain rfl : v31 = u31 := Option.some.inj (kp 31 (fun i hi h => (by decide : ∀ i, i < 9 → [35, 36, 37, 38, 39, 40, 41, 7, 7].getD i 0 ≠ 31) i hi h))
      obtain rfl : v32 = u32 := Option.some.inj (kp 32 (fun i hi h => (by decide : ∀ i, i < 9 → [35, 36, 37, 38, 39, 40, 41, 7, 7].getD i 0 ≠ 32) i hi h))
      obtain rfl : v33 = u33 := Option.some.inj (kp 33 (fun i hi h => (by decide : ∀ i, i < 9 → [35, 36, 37, 38, 39, 40, 41, 7, 7].getD i 0 ≠ 33) i hi h))
      obtain rfl : v34 = u34 := Option.some.inj (kp 34 (fun i hi h => (by decide : ∀ i, i < 9 → [35, 36, 37, 38, 39, 40, 41, 7, 7].getD i 0 ≠ 34) i hi h))
      exact HQ.out x bb _ _ _ _ _ _ _ hbb hbox hbel
end Go.Proofs.YtonoadjmglkhaaaGreat.Av

namespace Go.Proofs.YtonoadjmglkhaaaGreat.Av
open Go.RowKit Go.Sort Go.Proofs.YtonoadjmglkhaaaGreat Go.Proofs.YtonoadjmglkhaaaGreat.Rw Go.Proofs.YtonoadjmglkhaaaGreat.Nm Go.Proofs.YtonoadjmglkhaaaGreat.Pr Go.Proofs.YtonoadjmglkhaaaGreat.Bk

def play14V (B : Nat) (bq _b7 : Nat) (_z0 _z1 _z2 _z3 i1 i2 f : Int) (h1 : Option Addr) (h2 h3 : Nat) (g1 : Option Addr) (g2 g3 : Nat) (has vals : List Int) (i : Nat) (v : Value) (x : World) : Prop :=
  match i with
  | 0 => v = .agg #[.int .i64 i1, .int .i64 i2]
  | 1 => v = .pointer (some ⟨bq, 4, none⟩)
  | 2 => v = .agg #[.slice h1 h2 h3, .slice g1 g2 g3]
  | 3 => ∃ s : Sl, v = slv s ∧ OwnC x B (slv s) ((prd has vals 7).map r5)
  | 4 => v = .int .i64 f
  | 5 => ∃ s : Sl, v = valD (i1, i2, s, f) ∧ OwnC x B (slv s) ((prd has vals 7).map r5)
  | 6 => True
  | 7 => True
  | _ => True
noncomputable def play14C : Code := ((Tryz.f3.body.bind (findRegion 14)).getD .skip)
set_option maxRecDepth 100000 in
set_option maxHeartbeats 8000000 in
theorem play14 (Q : Exit → Act → World → Prop) (W : World) (bq b7 : Nat) (z0 z1 z2 z3 i1 i2 f : Int) (h1 : Option Addr) (h2 h3 : Nat) (g1 : Option Addr) (g2 g3 : Nat) (has vals : List Int) (u0 u1 u2 u3 u4 u5 u9 u10 u11 u12 u13 u14 u15 u16 u17 u18 u19 u20 u21 u22 u23 u24 u25 u26 u27 u28 u29 u30 u31 u32 u33 u34 u35 u36 u37 u38 u39 u40 u41 u42 u43 u44 u45 u46 u47 u48 u49 u50 u51 u52 u53 u54 u55 u56 u57 u58 u59 u60 u61 u62 u63 u64 u65 u66 u67 u68 u69 u70 u71 u72 u73 u74 u75 u76 u77 u78 u79 u80 u81 u82 u83 u84 u85 u86 u87 u88 u89 u90 u91 u92 u93 u94 u95 u96 u97 u98 u99 u100 u101 u102 u103 u104 u105 u106 u107 u108 u109 u110 u111 u112 u113 u114 u115 u116 u117 u118 u119 u120 u121 u122 u123 u124 u125 u126 u127 u128 u129 u130 u131 u132 u133 u134 u135 u136 u137 u138 u139 u140 u141 u142 u143 u144 u145 u146 u147 : Value)
    (q : Box W bq #[.int .i64 z0, .int .i64 z1, .int .i64 z2, .int .i64 z3, .slice h1 h2 h3, .slice g1 g2 g3] 34) (x7 : Box W b7 #[.int .i64 i1, .int .i64 i2] 37) (ih : In.InInts W (.slice h1 h2 h3) has) (iv : In.InInts W (.slice g1 g2 g3) vals) (lh : has.length ≤ maxLen) (lv : vals.length ≤ maxLen)
    (hQ : ∀ (x : World) (bb : Nat) (v54 v55 v56 v57 v58 v59 : Value) (m1 : Option Addr) (m2 m3 : Nat), W.heap.size ≤ bb → Box x bb #[.int .i64 i1, .int .i64 i2, .slice m1 m2 m3, .int .i64 f] 42 → OwnC x W.heap.size (.slice m1 m2 m3) ((prd has vals 7).map r5) → Below W.heap.size W x → Q .normal ⟨(u0 :: u1 :: u2 :: u3 :: u4 :: u5 :: .pointer (some ⟨bq, 0, none⟩) :: .pointer (some ⟨b7, 0, none⟩) :: .int .i64 f :: u9 :: u10 :: u11 :: u12 :: .pointer (some ⟨bb, 0, none⟩) :: u14 :: u15 :: u16 :: u17 :: u18 :: u19 :: u20 :: u21 :: u22 :: u23 :: u24 :: u25 :: u26 :: u27 :: u28 :: u29 :: u30 :: u31 :: u32 :: u33 :: u34 :: u35 :: u36 :: u37 :: u38 :: u39 :: u40 :: u41 :: u42 :: u43 :: u44 :: u45 :: u46 :: u47 :: u48 :: u49 :: u50 :: u51 :: u52 :: u53 :: v54 :: v55 :: v56 :: v57 :: v58 :: v59 :: u60 :: u61 :: u62 :: u63 :: u64 :: u65 :: u66 :: u67 :: u68 :: u69 :: u70 :: u71 :: u72 :: u73 :: u74 :: u75 :: u76 :: u77 :: u78 :: u79 :: u80 :: u81 :: u82 :: u83 :: u84 :: u85 :: u86 :: u87 :: u88 :: u89 :: u90 :: u91 :: u92 :: u93 :: u94 :: u95 :: u96 :: u97 :: u98 :: u99 :: u100 :: u101 :: u102 :: u103 :: u104 :: u105 :: u106 :: u107 :: u108 :: u109 :: u110 :: u111 :: u112 :: u113 :: u114 :: u115 :: u116 :: u117 :: u118 :: u119 :: u120 :: u121 :: u122 :: u123 :: u124 :: u125 :: u126 :: u127 :: u128 :: u129 :: u130 :: u131 :: u132 :: u133 :: u134 :: u135 :: u136 :: u137 :: u138 :: u139 :: u140 :: u141 :: u142 :: u143 :: u144 :: u145 :: u146 :: u147 :: []).toArray, []⟩ x) :
    Code.wp Tryz.prog play14C Q ⟨(u0 :: u1 :: u2 :: u3 :: u4 :: u5 :: .pointer (some ⟨bq, 0, none⟩) :: .pointer (some ⟨b7, 0, none⟩) :: .int .i64 f :: u9 :: u10 :: u11 :: u12 :: u13 :: u14 :: u15 :: u16 :: u17 :: u18 :: u19 :: u20 :: u21 :: u22 :: u23 :: u24 :: u25 :: u26 :: u27 :: u28 :: u29 :: u30 :: u31 :: u32 :: u33 :: u34 :: u35 :: u36 :: u37 :: u38 :: u39 :: u40 :: u41 :: u42 :: u43 :: u44 :: u45 :: u46 :: u47 :: u48 :: u49 :: u50 :: u51 :: u52 :: u53 :: u54 :: u55 :: u56 :: u57 :: u58 :: u59 :: u60 :: u61 :: u62 :: u63 :: u64 :: u65 :: u66 :: u67 :: u68 :: u69 :: u70 :: u71 :: u72 :: u73 :: u74 :: u75 :: u76 :: u77 :: u78 :: u79 :: u80 :: u81 :: u82 :: u83 :: u84 :: u85 :: u86 :: u87 :: u88 :: u89 :: u90 :: u91 :: u92 :: u93 :: u94 :: u95 :: u96 :: u97 :: u98 :: u99 :: u100 :: u101 :: u102 :: u103 :: u104 :: u105 :: u106 :: u107 :: u108 :: u109 :: u110 :: u111 :: u112 :: u113 :: u114 :: u115 :: u116 :: u117 :: u118 :: u119 :: u120 :: u121 :: u122 :: u123 :: u124 :: u125 :: u126 :: u127 :: u128 :: u129 :: u130 :: u131 :: u132 :: u133 :: u134 :: u135 :: u136 :: u137 :: u138 :: u139 :: u140 :: u141 :: u142 :: u143 :: u144 :: u145 :: u146 :: u147 :: []).toArray, []⟩ W := by
  have HQ := Lib.hid hQ
  have HQ6 := Lib.hid q
  have H7 := Lib.hid x7
  have IH := Lib.hid ih
  have IV := Lib.hid iv
  have LH := Lib.hid lh
  have LV := Lib.hid lv
  clear hQ q x7 ih iv lh lv
  unfold play14C
  conv => arg 2; whnf
  have nb6 : ∀ i, i < 8 → [54, 55, 56, 57, 58, 59, 13, 13].getD i 0 ≠ 6 := by decide
  have nb7 : ∀ i, i < 8 → [54, 55, 56, 57, 58, 59, 13, 13].getD i 0 ≠ 7 := by decide
  have nb8 : ∀ i, i < 8 → [54, 55, 56, 57, 58, 59, 13, 13].getD i 0 ≠ 8 := by decide
  refine Rg.region_mk 8 6 7 5 (fun i => [54, 55, 56, 57, 58, 59, 13, 13].getD i 0) (fun i => if i = 3 then 5 else 8) (play14V W.heap.size bq b7 z0 z1 z2 z3 i1 i2 f h1 h2 h3 g1 g2 g3 has vals) 42 #[.int .i64 0, .int .i64 0, .slice none 0 0, .int .i64 0] (fun v => match v with | .agg c => c | _ => #[]) (by kernel_rfl) (by kernel_rfl) rfl (by decide) (by decide) (by decide) (by decide) (by decide) (by decide) (by decide) (fun i j hi hj h1 h2 h => (by decide : ∀ i, i < 8 → ∀ j, j < 8 → i ≠ 7 → j ≠ 7 → [54, 55, 56, 57, 58, 59, 13, 13].getD i 0 = [54, 55, 56, 57, 58, 59, 13, 13].getD j 0 → i = j) i hi j hj h1 h2 h) (fun i hi => (by decide : ∀ i, i < 8 → [54, 55, 56, 57, 58, 59, 13, 13].getD i 0 < 148) i hi) ?_ ?_ ?_ ?_ ?_ ?_
  · intro i v x x' hi h hb
    rcases (by omega : i = 0 ∨ i = 1 ∨ i = 2 ∨ i = 3 ∨ i = 4 ∨ i = 5 ∨ i = 6 ∨ i = 7) with rfl | rfl | rfl | rfl | rfl | rfl | rfl | rfl
    · exact h
    · exact h
    · exact h
    · obtain ⟨s, h1, h2⟩ := h; exact ⟨s, h1, Bk.own_on h2 hb⟩
    · exact h
    · obtain ⟨s, h1, h2⟩ := h; exact ⟨s, h1, Bk.own_on h2 hb⟩
    · exact h
    · exact h
  · intro o ho
    obtain rfl := Option.some.inj ho
    exact ⟨⟨⟨6, .data⟩, by simp, rfl, rfl⟩, ⟨⟨5, .data⟩, by simp, rfl, rfl⟩⟩
  · intro i o hi hiA hiS ho a x hb seen K hK
    clear HQ
    rcases (by omega : i = 0 ∨ i = 1 ∨ i = 2 ∨ i = 3 ∨ i = 4 ∨ i = 5) with rfl | rfl | rfl | rfl | rfl | rfl
    · obtain rfl := Option.some.inj ho
      have e7 : a.eval (.tmp 7) = .pointer (some ⟨b7, 0, none⟩) := seen.kp 7 _ nb7 rfl
      have y0 := (H7.out.on hb).cell 0
      have y1 := (H7.out.on hb).cell 1
      simp only [List.getElem?_toArray, List.getElem?_cons_zero, List.getElem?_cons_succ] at y0 y1
      exact Rg.op_value rfl rfl (Rg.ex_load a.eval _ 37 (.tmp 7) rfl (by rw [e7]; simp [go_sem, y0, y1])) (hK _ x rfl (Below.refl _ _))
    · obtain rfl := Option.some.inj ho
      have e6 : a.eval (.tmp 6) = .pointer (some ⟨bq, 0, none⟩) := seen.kp 6 _ nb6 rfl
      exact Rg.op_value rfl rfl (Rg.ex_field a.eval _ 34 (.tmp 6) 4 rfl (by rw [e6]; simp [go_sem])) (hK _ x rfl (Below.refl _ _))
    · obtain rfl := Option.some.inj ho
      have e55 : a.eval (.tmp 55) = .pointer (some ⟨bq, 4, none⟩) := seen.at_ ⟨1, .data⟩ (by simp) rfl (by decide) (by decide) (Or.inr (by decide))
      have y4 := (HQ6.out.on hb).cell 4
      have y5 := (HQ6.out.on hb).cell 5
      simp only [List.getElem?_toArray, List.getElem?_cons_zero, List.getElem?_cons_succ] at y4 y5
      exact Rg.op_value rfl rfl (Rg.ex_load a.eval _ 32 (.tmp 55) rfl (by rw [e55]; simp [go_sem, y4, y5])) (hK _ x rfl (Below.refl _ _))
    · obtain rfl := Option.some.inj ho
      have e56 : a.eval (.tmp 56) = .agg #[.slice h1 h2 h3, .slice g1 g2 g3] := seen.at_ ⟨2, .data⟩ (by simp) rfl (by decide) (by decide) (Or.inr (by decide))
      exact Rg.op_call rfl rfl (Rw.ex_call1 a.eval _ (.tmp 56) 32 9 rfl e56 rfl _ (call_fn Tryz.func9 rfl rfl _ _)) (pred_any (.slice h1 h2 h3) (.slice g1 g2 g3) has vals x (IH.out.on hb) (IV.out.on hb) LH.out LV.out) fun e w1 h => by
        obtain ⟨v, rfl, q1, q2⟩ := h
        obtain ⟨a1, a2, hvv⟩ := (Row.of_own q1).len
        have q3 := own_fewer q1 hb.size
        rw [hvv] at q3
        exact ⟨_, rfl, hK _ _ ⟨(a1, _, a2), hvv, q3⟩ q2⟩
    · obtain rfl := Option.some.inj ho
      have e8 : a.eval (.tmp 8) = .int .i64 f := seen.kp 8 _ nb8 rfl
      exact Rg.op_value rfl rfl (Rg.ex_move a.eval _ (.tmp 8) rfl x) (hK _ x e8 (Below.refl _ _))
    · obtain rfl := Option.some.inj ho
      have e54 : a.eval (.tmp 54) = .agg #[.int .i64 i1, .int .i64 i2] := seen.at_ ⟨0, .data⟩ (by simp) rfl (by decide) (by decide) (Or.inr (by decide))
      have E57 := seen.at_ ⟨3, .data⟩ (by simp) rfl (by decide) (by decide) (Or.inl rfl)
      have e58 : a.eval (.tmp 58) = .int .i64 f := seen.at_ ⟨4, .data⟩ (by simp) rfl (by decide) (by decide) (Or.inr (by decide))
      obtain ⟨s, q0, q1⟩ := E57
      have q0 : a.eval (.tmp 57) = slv s := q0
      exact Rg.op_value rfl rfl (Rg.ex_buildS a.eval _ 42 #[(0, .tmp 54), (1, .tmp 57), (2, .tmp 58)] rfl (ps := #[(0, .agg #[.int .i64 i1, .int .i64 i2]), (1, slv s), (2, .int .i64 f)]) (by simp only [List.map_toArray, List.map_cons, List.map_nil, e54, q0, e58]) (by simp [go_sem])) (hK _ x ⟨s, rfl, q1⟩ (Below.refl _ _))
  · intro o ho a x K hK
    obtain rfl := Option.some.inj ho
    exact Rg.op_value rfl rfl (Rg.ex_alloc a.eval _ 42 rfl (by simp [go_sem])) hK
  · intro o ho a x bb v D hc hD hb hA hC hvC hbb hbox K hK
    clear HQ
    obtain rfl := Option.some.inj ho
    obtain ⟨⟨m1, m2, m3⟩, hv1, hv2⟩ := hvC
    subst hv1
    have x0 := hbox.cell 0
    have x1 := hbox.cell 1
    have x2 := hbox.cell 2
    have x3 := hbox.cell 3
    have f0 := hbox.fr 0
    have f1 := hbox.fr 1
    have f2 := hbox.fr 2
    have f3 := hbox.fr 3
    simp only [List.getElem?_toArray, List.getElem?_cons_zero, List.getElem?_cons_succ] at x0 x1 x2 x3
    have hst : (Instr.storeAt 42 (.pointer (some ⟨bb, 0, none⟩)) (.agg #[.int .i64 i1, .int .i64 i2, .slice m1 m2 m3, .int .i64 f])).run Tryz.prog x = .ok () ((((x.setCell ⟨bb, 0, none⟩ (.int .i64 i1)).setCell ⟨bb, 1, none⟩ (.int .i64 i2)).setCell ⟨bb, 2, none⟩ (.slice m1 m2 m3)).setCell ⟨bb, 3, none⟩ (.int .i64 f)) := by simp [go_sem, x0, x1, x2, x3, f0, f1, f2, f3]
    have hbx2 := box_set (k := 3) (box_set (k := 2) (box_set (k := 1) (box_set (k := 0) hbox (.int .i64 i1)) (.int .i64 i2)) (.slice m1 m2 m3)) (.int .i64 f)
    have hbut : But bb x ((((x.setCell ⟨bb, 0, none⟩ (.int .i64 i1)).setCell ⟨bb, 1, none⟩ (.int .i64 i2)).setCell ⟨bb, 2, none⟩ (.slice m1 m2 m3)).setCell ⟨bb, 3, none⟩ (.int .i64 f)) := ((but_cell _ bb _ _).trans (but_cell _ bb _ _)).trans ((but_cell _ bb _ _).trans (but_cell _ bb _ _))
    refine Rg.op_store 42 (.tmp 13) (.tmp 59) rfl rfl rfl rfl hA hC hst (hK _ ((((hb.setCell (p := ⟨bb, 0, none⟩) hbb _).setCell (p := ⟨bb, 1, none⟩) hbb _).setCell (p := ⟨bb, 2, none⟩) hbb _).setCell (p := ⟨bb, 3, none⟩) hbb _) (by simpa using hbx2) ?_)
    exact fun j u hj hjA hjS hdj hnl hls h => by
      rcases (by omega : j = 0 ∨ j = 1 ∨ j = 2 ∨ j = 3 ∨ j = 4 ∨ j = 5) with rfl | rfl | rfl | rfl | rfl | rfl
      · have h2 : u = .agg #[.int .i64 i1, .int .i64 i2] := h; exact h2
      · have h2 : u = .pointer (some ⟨bq, 4, none⟩) := h; exact h2
      · have h2 : u = .agg #[.slice h1 h2 h3, .slice g1 g2 g3] := h; exact h2
      · exact absurd (hD ⟨5, .data⟩ (by simp) rfl) hnl
      · have h2 : u = .int .i64 f := h; exact h2
      · obtain ⟨s, h1, h2⟩ := h; exact ⟨s, h1, hbut.own h2 hbox (by decide)⟩
  · intro a x bb v df sz kp gA gC hbb hbox hvC hbel ⟨vs, hv⟩
    obtain ⟨⟨m1, m2, m3⟩, hv1, hv2⟩ := hvC
    subst hv1
    have g13 : a.tmps[13]? = some (.pointer (some ⟨bb, 0, none⟩)) := gA
    have kp2 : ∀ j, (j < 13 ∨ 60 ≤ j) → a.tmps[j]? = (u0 :: u1 :: u2 :: u3 :: u4 :: u5 :: .pointer (some ⟨bq, 0, none⟩) :: .pointer (some ⟨b7, 0, none⟩) :: .int .i64 f :: u9 :: u10 :: u11 :: u12 :: u13 :: u14 :: u15 :: u16 :: u17 :: u18 :: u19 :: u20 :: u21 :: u22 :: u23 :: u24 :: u25 :: u26 :: u27 :: u28 :: u29 :: u30 :: u31 :: u32 :: u33 :: u34 :: u35 :: u36 :: u37 :: u38 :: u39 :: u40 :: u41 :: u42 :: u43 :: u44 :: u45 :: u46 :: u47 :: u48 :: u49 :: u50 :: u51 :: u52 :: u53 :: u54 :: u55 :: u56 :: u57 :: u58 :: u59 :: u60 :: u61 :: u62 :: u63 :: u64 :: u65 :: u66 :: u67 :: u68 :: u69 :: u70 :: u71 :: u72 :: u73 :: u74 :: u75 :: u76 :: u77 :: u78 :: u79 :: u80 :: u81 :: u82 :: u83 :: u84 :: u85 :: u86 :: u87 :: u88 :: u89 :: u90 :: u91 :: u92 :: u93 :: u94 :: u95 :: u96 :: u97 :: u98 :: u99 :: u100 :: u101 :: u102 :: u103 :: u104 :: u105 :: u106 :: u107 :: u108 :: u109 :: u110 :: u111 :: u112 :: u113 :: u114 :: u115 :: u116 :: u117 :: u118 :: u119 :: u120 :: u121 :: u122 :: u123 :: u124 :: u125 :: u126 :: u127 :: u128 :: u129 :: u130 :: u131 :: u132 :: u133 :: u134 :: u135 :: u136 :: u137 :: u138 :: u139 :: u140 :: u141 :: u142 :: u143 :: u144 :: u145 :: u146 :: u147 :: [])[j]? := fun j hj => (kp j (fun i hi h => by have := (by decide : ∀ i, i < 8 → 13 ≤ [54, 55, 56, 57, 58, 59, 13, 13].getD i 0 ∧ [54, 55, 56, 57, 58, 59, 13, 13].getD i 0 < 60) i hi; omega)).trans List.getElem?_toArray
    obtain ⟨mid, hmid, rfl⟩ := Rg.frame_mid (bl := (u0 :: u1 :: u2 :: u3 :: u4 :: u5 :: .pointer (some ⟨bq, 0, none⟩) :: .pointer (some ⟨b7, 0, none⟩) :: .int .i64 f :: u9 :: u10 :: u11 :: u12 :: u13 :: u14 :: u15 :: u16 :: u17 :: u18 :: u19 :: u20 :: u21 :: u22 :: u23 :: u24 :: u25 :: u26 :: u27 :: u28 :: u29 :: u30 :: u31 :: u32 :: u33 :: u34 :: u35 :: u36 :: u37 :: u38 :: u39 :: u40 :: u41 :: u42 :: u43 :: u44 :: u45 :: u46 :: u47 :: u48 :: u49 :: u50 :: u51 :: u52 :: u53 :: u54 :: u55 :: u56 :: u57 :: u58 :: u59 :: u60 :: u61 :: u62 :: u63 :: u64 :: u65 :: u66 :: u67 :: u68 :: u69 :: u70 :: u71 :: u72 :: u73 :: u74 :: u75 :: u76 :: u77 :: u78 :: u79 :: u80 :: u81 :: u82 :: u83 :: u84 :: u85 :: u86 :: u87 :: u88 :: u89 :: u90 :: u91 :: u92 :: u93 :: u94 :: u95 :: u96 :: u97 :: u98 :: u99 :: u100 :: u101 :: u102 :: u103 :: u104 :: u105 :: u106 :: u107 :: u108 :: u109 :: u110 :: u111 :: u112 :: u113 :: u114 :: u115 :: u116 :: u117 :: u118 :: u119 :: u120 :: u121 :: u122 :: u123 :: u124 :: u125 :: u126 :: u127 :: u128 :: u129 :: u130 :: u131 :: u132 :: u133 :: u134 :: u135 :: u136 :: u137 :: u138 :: u139 :: u140 :: u141 :: u142 :: u143 :: u144 :: u145 :: u146 :: u147 :: [])) 13 47 df sz (by simp) kp2
    match mid, hmid with
    | v13 :: v14 :: v15 :: v16 :: v17 :: v18 :: v19 :: v20 :: v21 :: v22 :: v23 :: v24 :: v25 :: v26 :: v27 :: v28 :: v29 :: v30 :: v31 :: v32 :: v33 :: v34 :: v35 :: v36 :: v37 :: v38 :: v39 :: v40 :: v41 :: v42 :: v43 :: v44 :: v45 :: v46 :: v47 :: v48 :: v49 :: v50 :: v51 :: v52 :: v53 :: v54 :: v55 :: v56 :: v57 :: v58 :: v59 :: [], _ =>
      obtain rfl : v13 = .pointer (some ⟨bb, 0, none⟩) := Option.some.inj g13
      obtain rfl : v14 = u14 := Option.some.inj (kp 14 (fun i hi h => (by decide : ∀ i, i < 8 → [54, 55, 56, 57, 58, 59, 13, 13].getD i 0 ≠ 14) i hi h))
      obtain rfl : v15 = u15 := Option.some.inj (kp 15 (fun i hi h => (by decide : ∀ i, i < 8 → [54, 55, 56, 57, 58, 59, 13, 13].getD i 0 ≠ 15) i hi h))
      obtain rfl : v16 = u16 := Option.some.inj (kp 16 (fun i hi h => (by decide : ∀ i, i < 8 → [54, 55, 56, 57, 58, 59, 13, 13].getD i 0 ≠ 16) i hi h))
      obtain rfl : v17 = u17 := Option.some.inj (kp 17 (fun i hi h => (by decide : ∀ i, i < 8 → [54, 55, 56, 57, 58, 59, 13, 13].getD i 0 ≠ 17) i hi h))
      obtain rfl : v18 = u18 := Option.some.inj (kp 18 (fun i hi h => (by decide : ∀ i, i < 8 → [54, 55, 56, 57, 58, 59, 13, 13].getD i 0 ≠ 18) i hi h))
      obtain rfl : v19 = u19 := Option.some.inj (kp 19 (fun i hi h => (by decide : ∀ i, i < 8 → [54, 55, 56, 57, 58, 59, 13, 13].getD i 0 ≠ 19) i hi h))
      obtain rfl : v20 = u20 := Option.some.inj (kp 20 (fun i hi h => (by decide : ∀ i, i < 8 → [54, 55, 56, 57, 58, 59, 13, 13].getD i 0 ≠ 20) i hi h))
      obtain rfl : v21 = u21 := Option.some.inj (kp 21 (fun i hi h => (by decide : ∀ i, i < 8 → [54, 55, 56, 57, 58, 59, 13, 13].getD i 0 ≠ 21) i hi h))
      obtain rfl : v22 = u22 := Option.some.inj (kp 22 (fun i hi h => (by decide : ∀ i, i < 8 → [54, 55, 56, 57, 58, 59, 13, 13].getD i 0 ≠ 22) i hi h))
      obtain rfl : v23 = u23 := Option.some.inj (kp 23 (fun i hi h => (by decide : ∀ i, i < 8 → [54, 55, 56, 57, 58, 59, 13, 13].getD i 0 ≠ 23) i hi h))
      obtain rfl : v24 = u24 := Option.some.inj (kp 24 (fun i hi h => (by decide : ∀ i, i < 8 → [54, 55, 56, 57, 58, 59, 13, 13].getD i 0 ≠ 24) i hi h))
      obtain rfl : v25 = u25 := Option.some.inj (kp 25 (fun i hi h => (by decide : ∀ i, i < 8 → [54, 55, 56, 57, 58, 59, 13, 13].getD i 0 ≠ 25) i hi h))
      obtain rfl : v26 = u26 := Option.some.inj (kp 26 (fun i hi h => (by decide : ∀ i, i < 8 → [54, 55, 56, 57, 58, 59, 13, 13].getD i 0 ≠ 26) i hi h))
      obtain rfl : v27 = u27 := Option.some.inj (kp 27 (fun i hi h => (by decide : ∀ i, i < 8 → [54, 55, 56, 57, 58, 59, 13, 13].getD i 0 ≠ 27) i hi h))
      obtain rfl : v28 = u28 := Option.some.inj (kp 28 (fun i hi h => (by decide : ∀ i, i < 8 → [54, 55, 56, 57, 58, 59, 13, 13].getD i 0 ≠ 28) i hi h))
      obtain rfl : v29 = u29 := Option.some.inj (kp 29 (fun i hi h => (by decide : ∀ i, i < 8 → [54, 55, 56, 57, 58, 59, 13, 13].getD i 0 ≠ 29) i hi h))
      obtain rfl : v30 = u30 := Option.some.inj (kp 30 (fun i hi h => (by decide : ∀ i, i < 8 → [54, 55, 56, 57, 58, 59, 13, 13].getD i 0 ≠ 30) i hi h))
      obtain rfl : v31 = u31 := Option.some.inj (kp 31 (fun i hi h => (by decide : ∀ i, i < 8 → [54, 55, 56, 57, 58, 59, 13, 13].getD i 0 ≠ 31) i hi h))
      obtain rfl : v32 = u32 := Option.some.inj (kp 32 (fun i hi h => (by decide : ∀ i, i < 8 → [54, 55, 56, 57, 58, 59, 13, 13].getD i 0 ≠ 32) i hi h))
      obtain rfl : v33 = u33 := Option.some.inj (kp 33 (fun i hi h => (by decide : ∀ i, i < 8 → [54, 55, 56, 57, 58, 59, 13, 13].getD i 0 ≠ 33) i hi h))
      obtain rfl : v34 = u34 := Option.some.inj (kp 34 (fun i hi h => (by decide : ∀ i, i < 8 → [54, 55, 56, 57, 58, 59, 13, 13].getD i 0 ≠ 34) i hi h))
      obtain rfl : v35 = u35 := Option.some.inj (kp 35 (fun i hi h => (by decide : ∀ i, i < 8 → [54, 55, 56, 57, 58, 59, 13, 13].getD i 0 ≠ 35) i hi h))
      obtain rfl : v36 = u36 := Option.some.inj (kp 36 (fun i hi h => (by decide : ∀ i, i < 8 → [54, 55, 56, 57, 58, 59, 13, 13].getD i 0 ≠ 36) i hi h))
      obtain rfl : v37 = u37 := Option.some.inj (kp 37 (fun i hi h => (by decide : ∀ i, i < 8 → [54, 55, 56, 57, 58, 59, 13, 13].getD i 0 ≠ 37) i hi h))
      obtain rfl : v38 = u38 := Option.some.inj (kp 38 (fun i hi h => (by decide : ∀ i, i < 8 → [54, 55, 56, 57, 58, 59, 13, 13].getD i 0 ≠ 38) i hi h))
      obtain rfl : v39 = u39 := Option.some.inj (kp 39 (fun i hi h => (by decide : ∀ i, i < 8 → [54, 55, 56, 57, 58, 59, 13, 13].getD i 0 ≠ 39) i hi h))
      obtain rfl : v40 = u40 := Option.some.inj (kp 40 (fun i hi h => (by decide : ∀ i, i < 8 → [54, 55, 56, 57, 58, 59, 13, 13].getD i 0 ≠ 40) i hi h))
      obtain rfl : v41 = u41 := Option.some.inj (kp 41 (fun i hi h => (by decide : ∀ i, i < 8 → [54, 55, 56, 57, 58, 59, 13, 13].getD i 0 ≠ 41) i hi h))
      obtain rfl : v42 = u42 := Option.some.inj (kp 42 (fun i hi h => (by decide : ∀ i, i < 8 → [54, 55, 56, 57, 58, 59, 13, 13].getD i 0 ≠ 42) i hi h))
      obtain rfl : v43 = u43 := Option.some.inj (kp 43 (fun i hi h => (by decide : ∀ i, i < 8 → [54, 55, 56, 57, 58, 59, 13, 13].getD i 0 ≠ 43) i hi h))
      obtain rfl : v44 = u44 := Option.some.inj (kp 44 (fun i hi h => (by decide : ∀ i, i < 8 → [54, 55, 56, 57, 58, 59, 13, 13].getD i 0 ≠ 44) i hi h))
      obtain rfl : v45 = u45 := Option.some.inj (kp 45 (fun i hi h => (by decide : ∀ i, i < 8 → [54, 55, 56, 57, 58, 59, 13, 13].getD i 0 ≠ 45) i hi h))
      obtain rfl : v46 = u46 := Option.some.inj (kp 46 (fun i hi h => (by decide : ∀ i, i < 8 → [54, 55, 56, 57, 58, 59, 13, 13].getD i 0 ≠ 46) i hi h))
      obtain rfl : v47 = u47 := Option.some.inj (kp 47 (fun i hi h => (by decide : ∀ i, i < 8 → [54, 55, 56, 57, 58, 59, 13, 13].getD i 0 ≠ 47) i hi h))
      obtain rfl : v48 = u48 := Option.some.inj (kp 48 (fun i hi h => (by decide : ∀ i, i < 8 → [54, 55, 56, 57, 58, 59, 13, 13].getD i 0 ≠ 48) i hi h))
      obtain rfl : v49 = u49 := Option.some.inj (kp 49 (fun i hi h => (by decide : ∀ i, i < 8 → [54, 55, 56, 57, 58, 59, 13, 13].getD i 0 ≠ 49) i hi h))
      obtain rfl : v50 = u50 := Option.some.inj (kp 50 (fun i hi h => (by decide : ∀ i, i < 8 → [54, 55, 56, 57, 58, 59, 13, 13].getD i 0 ≠ 50) i hi h))
      obtain rfl : v51 = u51 := Option.some.inj (kp 51 (fun i hi h => (by decide : ∀ i, i < 8 → [54, 55, 56, 57, 58, 59, 13, 13].getD i 0 ≠ 51) i hi h))
      obtain rfl : v52 = u52 := Option.some.inj (kp 52 (fun i hi h => (by decide : ∀ i, i < 8 → [54, 55, 56, 57, 58, 59, 13, 13].getD i 0 ≠ 52) i hi h))
      obtain rfl : v53 = u53 := Option.some.inj (kp 53 (fun i hi h => (by decide : ∀ i, i < 8 → [54, 55, 56, 57, 58, 59, 13, 13].getD i 0 ≠ 53) i hi h))
      exact HQ.out x bb _ _ _ _ _ _ m1 m2 m3 hbb hbox hv2 hbel
end Go.Proofs.YtonoadjmglkhaaaGreat.Av

namespace Go.Proofs.YtonoadjmglkhaaaGreat.Rg
open Go.RowKit Go.Proofs.YtonoadjmglkhaaaGreat

theorem unwanted_undef {ops : Array Oper} {o og : Oper} {g : Nat} {b : Bool} {d : Nat} {tmps : Array Value} (ho : o.guard = some (g, b)) (hg : ops[g]? = some og) (hd : og.dst = some d) (ht : tmps[d]? = some undef) : Region.wanted o (yielded ops tmps) = false := by
  unfold Region.wanted yielded
  rw [ho]
  simp [hg, hd, ht, undef]
theorem geq_nat (x y : Operand) (w : World) (n : Nat) : (do eqGuard .geq 3 x y (.int .i64 n) (.int .i64 0); binOp .geq 3 (.int .i64 n) (.int .i64 0) : Sem Value).run Tryz.prog w = .ok (.bool true) w := by
  simp [go_sem]
theorem geq_neg (x y : Operand) (w : World) : (do eqGuard .geq 3 x y (.int .i64 (-1)) (.int .i64 0); binOp .geq 3 (.int .i64 (-1)) (.int .i64 0) : Sem Value).run Tryz.prog w = .ok (.bool false) w := by
  simp [go_sem]
set_option maxRecDepth 100000 in
theorem neq_id (x y : Operand) (c d : Int) (w : World) : (do eqGuard .neq 37 x y (.agg #[.int .i64 c, .int .i64 d]) (.agg #[.int .i64 c, .int .i64 d]); binOp .neq 37 (.agg #[.int .i64 c, .int .i64 d]) (.agg #[.int .i64 c, .int .i64 d]) : Sem Value).run Tryz.prog w = .ok (.bool false) w := by
  have st := Bk.stoodId
  simp [go_sem, Tryz.underlying37, Tryz.underlying3, st]
theorem neq_bool (x y : Operand) (g : Bool) (w : World) : (do eqGuard .neq 4 x y (.bool g) (.bool g); binOp .neq 4 (.bool g) (.bool g) : Sem Value).run Tryz.prog w = .ok (.bool false) w := by
  cases g <;> simp [go_sem]
theorem neq_int (x y : Operand) (n : Int) (w : World) : (do eqGuard .neq 3 x y (.int .i64 n) (.int .i64 n); binOp .neq 3 (.int .i64 n) (.int .i64 n) : Sem Value).run Tryz.prog w = .ok (.bool false) w := by
  simp [go_sem]
end Go.Proofs.YtonoadjmglkhaaaGreat.Rg
