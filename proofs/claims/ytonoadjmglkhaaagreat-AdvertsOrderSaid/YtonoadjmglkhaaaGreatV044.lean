/-
  The region of AdvertsOrder that makes an ID. Condition: numbers of 64 bits.
  AdvertsOrder's region that puts an advertisement behind the others. Conditions: few of them; the lists of numbers are as they came in.
  Chapter 9's law of any order: AdvertsOrder. Conditions as each theorem states them.
-/
import Derived.Test.YtonoadjmglkhaaaGreatV005
import Derived.Test.YtonoadjmglkhaaaGreatV020
import Derived.Test.YtonoadjmglkhaaaGreatV023
import Derived.Test.YtonoadjmglkhaaaGreatV032
import Derived.Test.YtonoadjmglkhaaaGreatV021
import Derived.Test.YtonoadjmglkhaaaGreatV040
import Derived.Test.YtonoadjmglkhaaaGreatV043
import Derived.Test.YtonoadjmglkhaaaGreatV041
namespace Go.Proofs.YtonoadjmglkhaaaGreat.Av
open Go.RowKit Go.Sort Go.Proofs.YtonoadjmglkhaaaGreat Go.Proofs.YtonoadjmglkhaaaGreat.Rw Go.Proofs.YtonoadjmglkhaaaGreat.Nm Go.Proofs.YtonoadjmglkhaaaGreat.Pr Go.Proofs.YtonoadjmglkhaaaGreat.Bk

theorem quo_four (z : Int) (h : -9223372036854775808 ≤ z ∧ z ≤ 9223372036854775807) : ∃ q : Int, (-9223372036854775808 ≤ q ∧ q ≤ 9223372036854775807) ∧ ∀ (x y : Operand) (w : World), (do eqGuard .quo 3 x y (.int .i64 z) (.int .i64 4); binOp .quo 3 (.int .i64 z) (.int .i64 4) : Sem Value).run Tryz.prog w = .ok (.int .i64 q) w := by
  have hb : -9223372036854775808 ≤ z.tdiv 4 ∧ z.tdiv 4 ≤ 9223372036854775807 := by
    rcases Int.le_total 0 z with h0 | h0
    · rw [Int.tdiv_eq_ediv_of_nonneg h0]
      omega
    · obtain ⟨n, rfl⟩ : ∃ n : Int, z = -n := ⟨-z, by omega⟩
      rw [Int.neg_tdiv, Int.tdiv_eq_ediv_of_nonneg (by omega)]
      omega
  refine ⟨z.tdiv 4, hb, fun x y w => ?_⟩
  have e : IntKind.i64.wrap (z.tdiv 4) = z.tdiv 4 := IntWalk.i64_in _ (by omega)
  simp [go_sem, e]
def ord6V (_B : Nat) (o1 : Option Addr) (n1 c1 k : Nat) (p1 : Addr) (z1 q1 : Int) (i : Nat) (v : Value) (_x : World) : Prop :=
  match i with
  | 0 => v = .slice o1 n1 c1
  | 1 => v = .int .i64 (k : Int)
  | 2 => v = .pointer (some p1)
  | 3 => v = .int .i64 z1
  | 4 => v = .int .i64 (Wi.within z1 0 3)
  | 5 => v = .slice o1 n1 c1
  | 6 => v = .int .i64 (k : Int)
  | 7 => v = .pointer (some p1)
  | 8 => v = .int .i64 z1
  | 9 => v = .int .i64 q1
  | 10 => v = .int .i64 (Wi.within q1 0 3)
  | 11 => v = .agg #[.int .i64 (Wi.within z1 0 3), .int .i64 (Wi.within q1 0 3)]
  | 12 => True
  | 13 => True
  | _ => True
noncomputable def ord6C : Code := ((Tryz.f5.body.bind (findRegion 6)).getD .skip)
set_option maxRecDepth 100000 in
set_option maxHeartbeats 8000000 in
theorem ord6 (Q : Exit → Act → World → Prop) (W : World) (o1 : Option Addr) (n1 c1 k : Nat) (p1 : Addr) (z1 q1 : Int) (u1 u2 u3 u4 u5 u6 u7 u8 u9 u10 u12 u13 u14 u15 u16 u17 u18 u19 u20 u21 u22 u23 u24 u25 u26 u27 u28 u29 u30 u31 u32 u33 u34 u35 u36 u37 u38 u39 u40 u41 u42 u43 u44 u45 u46 u47 u48 u49 u50 u51 u52 u53 u54 u55 u56 u57 u58 u59 u60 u61 u62 u63 u64 u65 u66 u67 u68 u69 u70 u71 u72 u73 u74 u75 u76 u77 u78 u79 u80 u81 u82 u83 u84 u85 u86 u87 u88 u89 u90 u91 u92 u93 u94 u95 u96 u97 u98 u99 u100 u101 u102 u103 u104 u105 u106 u107 u108 u109 u110 u111 u112 u113 u114 u115 u116 u117 u118 u119 u120 u121 u122 u123 u124 u125 u126 u127 u128 u129 u130 u131 u132 u133 u134 u135 u136 u137 u138 u139 u140 u141 u142 u143 u144 u145 u146 u147 u148 u149 u150 u151 u152 u153 u154 u155 u156 u157 u158 u159 u160 u161 u162 u163 u164 u165 u166 u167 u168 u169 u170 u171 u172 u173 u174 u175 u176 u177 u178 u179 u180 u181 u182 u183 u184 u185 u186 u187 u188 u189 u190 u191 u192 u193 : Value)
    (i1 : ∀ w, (Instr.indexAt 23 (.slice o1 n1 c1) (.int .i64 k)).run Tryz.prog w = .ok (.pointer (some p1)) w) (k1 : ∀ x, Below W.heap.size W x → x.cell? p1 = some (.int .i64 z1)) (d1 : -9223372036854775808 ≤ z1 ∧ z1 ≤ 9223372036854775807) (d2 : -9223372036854775808 ≤ q1 ∧ q1 ≤ 9223372036854775807) (qu : ∀ (x y : Operand) (w : World), (do eqGuard .quo 3 x y (.int .i64 z1) (.int .i64 4); binOp .quo 3 (.int .i64 z1) (.int .i64 4) : Sem Value).run Tryz.prog w = .ok (.int .i64 q1) w)
    (hQ : ∀ (x : World) (bb : Nat) (v34 v35 v36 v37 v38 v39 v40 v41 v42 v43 v44 v45 : Value), W.heap.size ≤ bb → Box x bb #[.int .i64 (Wi.within z1 0 3), .int .i64 (Wi.within q1 0 3)] 37 → Below W.heap.size W x → Q .normal ⟨(.slice o1 n1 c1 :: u1 :: u2 :: u3 :: u4 :: u5 :: u6 :: u7 :: u8 :: u9 :: u10 :: .int .i64 (k : Int) :: .pointer (some ⟨bb, 0, none⟩) :: u13 :: u14 :: u15 :: u16 :: u17 :: u18 :: u19 :: u20 :: u21 :: u22 :: u23 :: u24 :: u25 :: u26 :: u27 :: u28 :: u29 :: u30 :: u31 :: u32 :: u33 :: v34 :: v35 :: v36 :: v37 :: v38 :: v39 :: v40 :: v41 :: v42 :: v43 :: v44 :: v45 :: u46 :: u47 :: u48 :: u49 :: u50 :: u51 :: u52 :: u53 :: u54 :: u55 :: u56 :: u57 :: u58 :: u59 :: u60 :: u61 :: u62 :: u63 :: u64 :: u65 :: u66 :: u67 :: u68 :: u69 :: u70 :: u71 :: u72 :: u73 :: u74 :: u75 :: u76 :: u77 :: u78 :: u79 :: u80 :: u81 :: u82 :: u83 :: u84 :: u85 :: u86 :: u87 :: u88 :: u89 :: u90 :: u91 :: u92 :: u93 :: u94 :: u95 :: u96 :: u97 :: u98 :: u99 :: u100 :: u101 :: u102 :: u103 :: u104 :: u105 :: u106 :: u107 :: u108 :: u109 :: u110 :: u111 :: u112 :: u113 :: u114 :: u115 :: u116 :: u117 :: u118 :: u119 :: u120 :: u121 :: u122 :: u123 :: u124 :: u125 :: u126 :: u127 :: u128 :: u129 :: u130 :: u131 :: u132 :: u133 :: u134 :: u135 :: u136 :: u137 :: u138 :: u139 :: u140 :: u141 :: u142 :: u143 :: u144 :: u145 :: u146 :: u147 :: u148 :: u149 :: u150 :: u151 :: u152 :: u153 :: u154 :: u155 :: u156 :: u157 :: u158 :: u159 :: u160 :: u161 :: u162 :: u163 :: u164 :: u165 :: u166 :: u167 :: u168 :: u169 :: u170 :: u171 :: u172 :: u173 :: u174 :: u175 :: u176 :: u177 :: u178 :: u179 :: u180 :: u181 :: u182 :: u183 :: u184 :: u185 :: u186 :: u187 :: u188 :: u189 :: u190 :: u191 :: u192 :: u193 :: []).toArray, []⟩ x) :
    Code.wp Tryz.prog ord6C Q ⟨(.slice o1 n1 c1 :: u1 :: u2 :: u3 :: u4 :: u5 :: u6 :: u7 :: u8 :: u9 :: u10 :: .int .i64 (k : Int) :: u12 :: u13 :: u14 :: u15 :: u16 :: u17 :: u18 :: u19 :: u20 :: u21 :: u22 :: u23 :: u24 :: u25 :: u26 :: u27 :: u28 :: u29 :: u30 :: u31 :: u32 :: u33 :: u34 :: u35 :: u36 :: u37 :: u38 :: u39 :: u40 :: u41 :: u42 :: u43 :: u44 :: u45 :: u46 :: u47 :: u48 :: u49 :: u50 :: u51 :: u52 :: u53 :: u54 :: u55 :: u56 :: u57 :: u58 :: u59 :: u60 :: u61 :: u62 :: u63 :: u64 :: u65 :: u66 :: u67 :: u68 :: u69 :: u70 :: u71 :: u72 :: u73 :: u74 :: u75 :: u76 :: u77 :: u78 :: u79 :: u80 :: u81 :: u82 :: u83 :: u84 :: u85 :: u86 :: u87 :: u88 :: u89 :: u90 :: u91 :: u92 :: u93 :: u94 :: u95 :: u96 :: u97 :: u98 :: u99 :: u100 :: u101 :: u102 :: u103 :: u104 :: u105 :: u106 :: u107 :: u108 :: u109 :: u110 :: u111 :: u112 :: u113 :: u114 :: u115 :: u116 :: u117 :: u118 :: u119 :: u120 :: u121 :: u122 :: u123 :: u124 :: u125 :: u126 :: u127 :: u128 :: u129 :: u130 :: u131 :: u132 :: u133 :: u134 :: u135 :: u136 :: u137 :: u138 :: u139 :: u140 :: u141 :: u142 :: u143 :: u144 :: u145 :: u146 :: u147 :: u148 :: u149 :: u150 :: u151 :: u152 :: u153 :: u154 :: u155 :: u156 :: u157 :: u158 :: u159 :: u160 :: u161 :: u162 :: u163 :: u164 :: u165 :: u166 :: u167 :: u168 :: u169 :: u170 :: u171 :: u172 :: u173 :: u174 :: u175 :: u176 :: u177 :: u178 :: u179 :: u180 :: u181 :: u182 :: u183 :: u184 :: u185 :: u186 :: u187 :: u188 :: u189 :: u190 :: u191 :: u192 :: u193 :: []).toArray, []⟩ W := by
  have HQ := Lib.hid hQ
  have I1 := Lib.hid i1
  have C1 := Lib.hid k1
  have D1 := Lib.hid d1
  have D2 := Lib.hid d2
  have QU := Lib.hid qu
  clear hQ i1 k1 d1 d2 qu
  unfold ord6C
  conv => arg 2; whnf
  have nb0 : ∀ i, i < 14 → [34, 35, 36, 37, 38, 39, 40, 41, 42, 43, 44, 45, 12, 12].getD i 0 ≠ 0 := by decide
  have nb11 : ∀ i, i < 14 → [34, 35, 36, 37, 38, 39, 40, 41, 42, 43, 44, 45, 12, 12].getD i 0 ≠ 11 := by decide
  refine Rg.region_mk 14 12 13 11 (fun i => [34, 35, 36, 37, 38, 39, 40, 41, 42, 43, 44, 45, 12, 12].getD i 0) (fun i => 14) (ord6V W.heap.size o1 n1 c1 k p1 z1 q1) 37 #[.int .i64 0, .int .i64 0] (fun v => match v with | .agg c => c | _ => #[]) (by kernel_rfl) (by kernel_rfl) rfl (by decide) (by decide) (by decide) (by decide) (by decide) (by decide) (by decide) (fun i j hi hj h1 h2 h => (by decide : ∀ i, i < 14 → ∀ j, j < 14 → i ≠ 13 → j ≠ 13 → [34, 35, 36, 37, 38, 39, 40, 41, 42, 43, 44, 45, 12, 12].getD i 0 = [34, 35, 36, 37, 38, 39, 40, 41, 42, 43, 44, 45, 12, 12].getD j 0 → i = j) i hi j hj h1 h2 h) (fun i hi => (by decide : ∀ i, i < 14 → [34, 35, 36, 37, 38, 39, 40, 41, 42, 43, 44, 45, 12, 12].getD i 0 < 194) i hi) ?_ ?_ ?_ ?_ ?_ ?_
  · intro i v x x' hi h hb
    rcases (by omega : i = 0 ∨ i = 1 ∨ i = 2 ∨ i = 3 ∨ i = 4 ∨ i = 5 ∨ i = 6 ∨ i = 7 ∨ i = 8 ∨ i = 9 ∨ i = 10 ∨ i = 11 ∨ i = 12 ∨ i = 13) with rfl | rfl | rfl | rfl | rfl | rfl | rfl | rfl | rfl | rfl | rfl | rfl | rfl | rfl
    · exact h
    · exact h
    · exact h
    · exact h
    · exact h
    · exact h
    · exact h
    · exact h
    · exact h
    · exact h
    · exact h
    · exact h
    · exact h
    · exact h
  · intro o ho
    obtain rfl := Option.some.inj ho
    exact ⟨⟨⟨12, .data⟩, by simp, rfl, rfl⟩, ⟨⟨11, .data⟩, by simp, rfl, rfl⟩⟩
  · intro i o hi hiA hiS ho a x hb seen K hK
    clear HQ
    rcases (by omega : i = 0 ∨ i = 1 ∨ i = 2 ∨ i = 3 ∨ i = 4 ∨ i = 5 ∨ i = 6 ∨ i = 7 ∨ i = 8 ∨ i = 9 ∨ i = 10 ∨ i = 11) with rfl | rfl | rfl | rfl | rfl | rfl | rfl | rfl | rfl | rfl | rfl | rfl
    · obtain rfl := Option.some.inj ho
      have e0 : a.eval (.tmp 0) = .slice o1 n1 c1 := seen.kp 0 _ nb0 rfl
      exact Rg.op_value rfl rfl (Rg.ex_move a.eval _ (.tmp 0) rfl x) (hK _ x e0 (Below.refl _ _))
    · obtain rfl := Option.some.inj ho
      have e11 : a.eval (.tmp 11) = .int .i64 (k : Int) := seen.kp 11 _ nb11 rfl
      exact Rg.op_value rfl rfl (Rg.ex_move a.eval _ (.tmp 11) rfl x) (hK _ x e11 (Below.refl _ _))
    · obtain rfl := Option.some.inj ho
      have e34 : a.eval (.tmp 34) = .slice o1 n1 c1 := seen.at_ ⟨0, .data⟩ (by simp) rfl (by decide) (by decide) (Or.inr (by decide))
      have e35 : a.eval (.tmp 35) = .int .i64 (k : Int) := seen.at_ ⟨1, .data⟩ (by simp) rfl (by decide) (by decide) (Or.inr (by decide))
      exact Rg.op_value rfl rfl (Rg.ex_index a.eval _ 23 (.tmp 34) (.tmp 35) rfl (by rw [e34, e35]; exact I1.out x)) (hK _ x rfl (Below.refl _ _))
    · obtain rfl := Option.some.inj ho
      have e36 : a.eval (.tmp 36) = .pointer (some p1) := seen.at_ ⟨2, .data⟩ (by simp) rfl (by decide) (by decide) (Or.inr (by decide))
      have y := C1.out x hb
      exact Rg.op_value rfl rfl (Rg.ex_load a.eval _ 3 (.tmp 36) rfl (by rw [e36]; simp [go_sem, y])) (hK _ x rfl (Below.refl _ _))
    · obtain rfl := Option.some.inj ho
      have e37 : a.eval (.tmp 37) = .int .i64 z1 := seen.at_ ⟨3, .data⟩ (by simp) rfl (by decide) (by decide) (Or.inr (by decide))
      exact Rg.op_call rfl rfl (Rg.ex_call3 a.eval _ (.tmp 37) (.const (.int .i64 0)) (.const (.int .i64 3)) 3 7 rfl e37 rfl rfl rfl _ (call_fn Tryz.func7 rfl rfl _ _)) (Wi.within_any z1 0 3 x (by omega) (by omega) (by omega) D1.out.1 D1.out.2) fun e w1 h => by
        obtain ⟨rfl, rfl⟩ := h
        exact ⟨_, rfl, hK _ _ rfl (Below.refl _ _)⟩
    · obtain rfl := Option.some.inj ho
      have e0 : a.eval (.tmp 0) = .slice o1 n1 c1 := seen.kp 0 _ nb0 rfl
      exact Rg.op_value rfl rfl (Rg.ex_move a.eval _ (.tmp 0) rfl x) (hK _ x e0 (Below.refl _ _))
    · obtain rfl := Option.some.inj ho
      have e11 : a.eval (.tmp 11) = .int .i64 (k : Int) := seen.kp 11 _ nb11 rfl
      exact Rg.op_value rfl rfl (Rg.ex_move a.eval _ (.tmp 11) rfl x) (hK _ x e11 (Below.refl _ _))
    · obtain rfl := Option.some.inj ho
      have e39 : a.eval (.tmp 39) = .slice o1 n1 c1 := seen.at_ ⟨5, .data⟩ (by simp) rfl (by decide) (by decide) (Or.inr (by decide))
      have e40 : a.eval (.tmp 40) = .int .i64 (k : Int) := seen.at_ ⟨6, .data⟩ (by simp) rfl (by decide) (by decide) (Or.inr (by decide))
      exact Rg.op_value rfl rfl (Rg.ex_index a.eval _ 23 (.tmp 39) (.tmp 40) rfl (by rw [e39, e40]; exact I1.out x)) (hK _ x rfl (Below.refl _ _))
    · obtain rfl := Option.some.inj ho
      have e41 : a.eval (.tmp 41) = .pointer (some p1) := seen.at_ ⟨7, .data⟩ (by simp) rfl (by decide) (by decide) (Or.inr (by decide))
      have y := C1.out x hb
      exact Rg.op_value rfl rfl (Rg.ex_load a.eval _ 3 (.tmp 41) rfl (by rw [e41]; simp [go_sem, y])) (hK _ x rfl (Below.refl _ _))
    · obtain rfl := Option.some.inj ho
      have e42 : a.eval (.tmp 42) = .int .i64 z1 := seen.at_ ⟨8, .data⟩ (by simp) rfl (by decide) (by decide) (Or.inr (by decide))
      exact Rg.op_value rfl rfl (Rg.ex_bin a.eval _ .quo 3 (.tmp 42) (.const (.int .i64 4)) 3 rfl (by rw [e42]; exact QU.out _ _ x)) (hK _ x rfl (Below.refl _ _))
    · obtain rfl := Option.some.inj ho
      have e43 : a.eval (.tmp 43) = .int .i64 q1 := seen.at_ ⟨9, .data⟩ (by simp) rfl (by decide) (by decide) (Or.inr (by decide))
      exact Rg.op_call rfl rfl (Rg.ex_call3 a.eval _ (.tmp 43) (.const (.int .i64 0)) (.const (.int .i64 3)) 3 7 rfl e43 rfl rfl rfl _ (call_fn Tryz.func7 rfl rfl _ _)) (Wi.within_any q1 0 3 x (by omega) (by omega) (by omega) D2.out.1 D2.out.2) fun e w1 h => by
        obtain ⟨rfl, rfl⟩ := h
        exact ⟨_, rfl, hK _ _ rfl (Below.refl _ _)⟩
    · obtain rfl := Option.some.inj ho
      have e38 : a.eval (.tmp 38) = .int .i64 (Wi.within z1 0 3) := seen.at_ ⟨4, .data⟩ (by simp) rfl (by decide) (by decide) (Or.inr (by decide))
      have e44 : a.eval (.tmp 44) = .int .i64 (Wi.within q1 0 3) := seen.at_ ⟨10, .data⟩ (by simp) rfl (by decide) (by decide) (Or.inr (by decide))
      exact Rg.op_value rfl rfl (Rg.ex_buildS a.eval _ 37 #[(0, .tmp 38), (1, .tmp 44)] rfl (ps := #[(0, .int .i64 (Wi.within z1 0 3)), (1, .int .i64 (Wi.within q1 0 3))]) (by simp only [List.map_toArray, List.map_cons, List.map_nil, e38, e44]) (by simp [go_sem])) (hK _ x rfl (Below.refl _ _))
  · intro o ho a x K hK
    obtain rfl := Option.some.inj ho
    exact Rg.op_value rfl rfl (Rg.ex_alloc a.eval _ 37 rfl (by simp [go_sem])) hK
  · intro o ho a x bb v D hc hD hb hA hC hvC hbb hbox K hK
    clear HQ
    obtain rfl := Option.some.inj ho
    have hv : v = .agg #[.int .i64 (Wi.within z1 0 3), .int .i64 (Wi.within q1 0 3)] := hvC
    subst hv
    have x0 := hbox.cell 0
    have x1 := hbox.cell 1
    have f0 := hbox.fr 0
    have f1 := hbox.fr 1
    simp only [List.getElem?_toArray, List.getElem?_cons_zero, List.getElem?_cons_succ] at x0 x1
    have hst : (Instr.storeAt 37 (.pointer (some ⟨bb, 0, none⟩)) (.agg #[.int .i64 (Wi.within z1 0 3), .int .i64 (Wi.within q1 0 3)])).run Tryz.prog x = .ok () ((x.setCell ⟨bb, 0, none⟩ (.int .i64 (Wi.within z1 0 3))).setCell ⟨bb, 1, none⟩ (.int .i64 (Wi.within q1 0 3))) := by simp [go_sem, x0, x1, f0, f1]
    have hbx2 := box_set (k := 1) (box_set (k := 0) hbox (.int .i64 (Wi.within z1 0 3))) (.int .i64 (Wi.within q1 0 3))
    refine Rg.op_store 37 (.tmp 12) (.tmp 45) rfl rfl rfl rfl hA hC hst (hK _ ((hb.setCell (p := ⟨bb, 0, none⟩) hbb _).setCell (p := ⟨bb, 1, none⟩) hbb _) (by simpa using hbx2) ?_)
    exact fun j u hj hjA hjS hdj hnl hls h => by
      rcases (by omega : j = 0 ∨ j = 1 ∨ j = 2 ∨ j = 3 ∨ j = 4 ∨ j = 5 ∨ j = 6 ∨ j = 7 ∨ j = 8 ∨ j = 9 ∨ j = 10 ∨ j = 11) with rfl | rfl | rfl | rfl | rfl | rfl | rfl | rfl | rfl | rfl | rfl | rfl
      · have h2 : u = .slice o1 n1 c1 := h; exact h2
      · have h2 : u = .int .i64 (k : Int) := h; exact h2
      · have h2 : u = .pointer (some p1) := h; exact h2
      · have h2 : u = .int .i64 z1 := h; exact h2
      · have h2 : u = .int .i64 (Wi.within z1 0 3) := h; exact h2
      · have h2 : u = .slice o1 n1 c1 := h; exact h2
      · have h2 : u = .int .i64 (k : Int) := h; exact h2
      · have h2 : u = .pointer (some p1) := h; exact h2
      · have h2 : u = .int .i64 z1 := h; exact h2
      · have h2 : u = .int .i64 q1 := h; exact h2
      · have h2 : u = .int .i64 (Wi.within q1 0 3) := h; exact h2
      · have h2 : u = .agg #[.int .i64 (Wi.within z1 0 3), .int .i64 (Wi.within q1 0 3)] := h; exact h2
  · intro a x bb v df sz kp gA gC hbb hbox hvC hbel ⟨vs, hv⟩
    have hv9 : v = .agg #[.int .i64 (Wi.within z1 0 3), .int .i64 (Wi.within q1 0 3)] := hvC
    subst hv9
    have g12 : a.tmps[12]? = some (.pointer (some ⟨bb, 0, none⟩)) := gA
    have kp2 : ∀ j, (j < 12 ∨ 46 ≤ j) → a.tmps[j]? = (.slice o1 n1 c1 :: u1 :: u2 :: u3 :: u4 :: u5 :: u6 :: u7 :: u8 :: u9 :: u10 :: .int .i64 (k : Int) :: u12 :: u13 :: u14 :: u15 :: u16 :: u17 :: u18 :: u19 :: u20 :: u21 :: u22 :: u23 :: u24 :: u25 :: u26 :: u27 :: u28 :: u29 :: u30 :: u31 :: u32 :: u33 :: u34 :: u35 :: u36 :: u37 :: u38 :: u39 :: u40 :: u41 :: u42 :: u43 :: u44 :: u45 :: u46 :: u47 :: u48 :: u49 :: u50 :: u51 :: u52 :: u53 :: u54 :: u55 :: u56 :: u57 :: u58 :: u59 :: u60 :: u61 :: u62 :: u63 :: u64 :: u65 :: u66 :: u67 :: u68 :: u69 :: u70 :: u71 :: u72 :: u73 :: u74 :: u75 :: u76 :: u77 :: u78 :: u79 :: u80 :: u81 :: u82 :: u83 :: u84 :: u85 :: u86 :: u87 :: u88 :: u89 :: u90 :: u91 :: u92 :: u93 :: u94 :: u95 :: u96 :: u97 :: u98 :: u99 :: u100 :: u101 :: u102 :: u103 :: u104 :: u105 :: u106 :: u107 :: u108 :: u109 :: u110 :: u111 :: u112 :: u113 :: u114 :: u115 :: u116 :: u117 :: u118 :: u119 :: u120 :: u121 :: u122 :: u123 :: u124 :: u125 :: u126 :: u127 :: u128 :: u129 :: u130 :: u131 :: u132 :: u133 :: u134 :: u135 :: u136 :: u137 :: u138 :: u139 :: u140 :: u141 :: u142 :: u143 :: u144 :: u145 :: u146 :: u147 :: u148 :: u149 :: u150 :: u151 :: u152 :: u153 :: u154 :: u155 :: u156 :: u157 :: u158 :: u159 :: u160 :: u161 :: u162 :: u163 :: u164 :: u165 :: u166 :: u167 :: u168 :: u169 :: u170 :: u171 :: u172 :: u173 :: u174 :: u175 :: u176 :: u177 :: u178 :: u179 :: u180 :: u181 :: u182 :: u183 :: u184 :: u185 :: u186 :: u187 :: u188 :: u189 :: u190 :: u191 :: u192 :: u193 :: [])[j]? := fun j hj => (kp j (fun i hi h => by have := (by decide : ∀ i, i < 14 → 12 ≤ [34, 35, 36, 37, 38, 39, 40, 41, 42, 43, 44, 45, 12, 12].getD i 0 ∧ [34, 35, 36, 37, 38, 39, 40, 41, 42, 43, 44, 45, 12, 12].getD i 0 < 46) i hi; omega)).trans List.getElem?_toArray
    obtain ⟨mid, hmid, rfl⟩ := Rg.frame_mid (bl := (.slice o1 n1 c1 :: u1 :: u2 :: u3 :: u4 :: u5 :: u6 :: u7 :: u8 :: u9 :: u10 :: .int .i64 (k : Int) :: u12 :: u13 :: u14 :: u15 :: u16 :: u17 :: u18 :: u19 :: u20 :: u21 :: u22 :: u23 :: u24 :: u25 :: u26 :: u27 :: u28 :: u29 :: u30 :: u31 :: u32 :: u33 :: u34 :: u35 :: u36 :: u37 :: u38 :: u39 :: u40 :: u41 :: u42 :: u43 :: u44 :: u45 :: u46 :: u47 :: u48 :: u49 :: u50 :: u51 :: u52 :: u53 :: u54 :: u55 :: u56 :: u57 :: u58 :: u59 :: u60 :: u61 :: u62 :: u63 :: u64 :: u65 :: u66 :: u67 :: u68 :: u69 :: u70 :: u71 :: u72 :: u73 :: u74 :: u75 :: u76 :: u77 :: u78 :: u79 :: u80 :: u81 :: u82 :: u83 :: u84 :: u85 :: u86 :: u87 :: u88 :: u89 :: u90 :: u91 :: u92 :: u93 :: u94 :: u95 :: u96 :: u97 :: u98 :: u99 :: u100 :: u101 :: u102 :: u103 :: u104 :: u105 :: u106 :: u107 :: u108 :: u109 :: u110 :: u111 :: u112 :: u113 :: u114 :: u115 :: u116 :: u117 :: u118 :: u119 :: u120 :: u121 :: u122 :: u123 :: u124 :: u125 :: u126 :: u127 :: u128 :: u129 :: u130 :: u131 :: u132 :: u133 :: u134 :: u135 :: u136 :: u137 :: u138 :: u139 :: u140 :: u141 :: u142 :: u143 :: u144 :: u145 :: u146 :: u147 :: u148 :: u149 :: u150 :: u151 :: u152 :: u153 :: u154 :: u155 :: u156 :: u157 :: u158 :: u159 :: u160 :: u161 :: u162 :: u163 :: u164 :: u165 :: u166 :: u167 :: u168 :: u169 :: u170 :: u171 :: u172 :: u173 :: u174 :: u175 :: u176 :: u177 :: u178 :: u179 :: u180 :: u181 :: u182 :: u183 :: u184 :: u185 :: u186 :: u187 :: u188 :: u189 :: u190 :: u191 :: u192 :: u193 :: [])) 12 34 df sz (by simp) kp2
    match mid, hmid with
    | v12 :: v13 :: v14 :: v15 :: v16 :: v17 :: v18 :: v19 :: v20 :: v21 :: v22 :: v23 :: v24 :: v25 :: v26 :: v27 :: v28 :: v29 :: v30 :: v31 :: v32 :: v33 :: v34 :: v35 :: v36 :: v37 :: v38 :: v39 :: v40 :: v41 :: v42 :: v43 :: v44 :: v45 :: [], _ =>
      obtain rfl : v12 = .pointer (some ⟨bb, 0, none⟩) := Option.some.inj g12
      obtain rfl : v13 = u13 := Option.some.inj (kp 13 (fun i hi h => (by decide : ∀ i, i < 14 → [34, 35, 36, 37, 38, 39, 40, 41, 42, 43, 44, 45, 12, 12].getD i 0 ≠ 13) i hi h))
      obtain rfl : v14 = u14 := Option.some.inj (kp 14 (fun i hi h => (by decide : ∀ i, i < 14 → [34, 35, 36, 37, 38, 39, 40, 41, 42, 43, 44, 45, 12, 12].getD i 0 ≠ 14) i hi h))
      obtain rfl : v15 = u15 := Option.some.inj (kp 15 (fun i hi h => (by decide : ∀ i, i < 14 → [34, 35, 36, 37, 38, 39, 40, 41, 42, 43, 44, 45, 12, 12].getD i 0 ≠ 15) i hi h))
      obtain rfl : v16 = u16 := Option.some.inj (kp 16 (fun i hi h => (by decide : ∀ i, i < 14 → [34, 35, 36, 37, 38, 39, 40, 41, 42, 43, 44, 45, 12, 12].getD i 0 ≠ 16) i hi h))
      obtain rfl : v17 = u17 := Option.some.inj (kp 17 (fun i hi h => (by decide : ∀ i, i < 14 → [34, 35, 36, 37, 38, 39, 40, 41, 42, 43, 44, 45, 12, 12].getD i 0 ≠ 17) i hi h))
      obtain rfl : v18 = u18 := Option.some.inj (kp 18 (fun i hi h => (by decide : ∀ i, i < 14 → [34, 35, 36, 37, 38, 39, 40, 41, 42, 43, 44, 45, 12, 12].getD i 0 ≠ 18) i hi h))
      obtain rfl : v19 = u19 := Option.some.inj (kp 19 (fun i hi h => (by decide : ∀ i, i < 14 → [34, 35, 36, 37, 38, 39, 40, 41, 42, 43, 44, 45, 12, 12].getD i 0 ≠ 19) i hi h))
      obtain rfl : v20 = u20 := Option.some.inj (kp 20 (fun i hi h => (by decide : ∀ i, i < 14 → [34, 35, 36, 37, 38, 39, 40, 41, 42, 43, 44, 45, 12, 12].getD i 0 ≠ 20) i hi h))
      obtain rfl : v21 = u21 := Option.some.inj (kp 21 (fun i hi h => (by decide : ∀ i, i < 14 → [34, 35, 36, 37, 38, 39, 40, 41, 42, 43, 44, 45, 12, 12].getD i 0 ≠ 21) i hi h))
      obtain rfl : v22 = u22 := Option.some.inj (kp 22 (fun i hi h => (by decide : ∀ i, i < 14 → [34, 35, 36, 37, 38, 39, 40, 41, 42, 43, 44, 45, 12, 12].getD i 0 ≠ 22) i hi h))
      obtain rfl : v23 = u23 := Option.some.inj (kp 23 (fun i hi h => (by decide : ∀ i, i < 14 → [34, 35, 36, 37, 38, 39, 40, 41, 42, 43, 44, 45, 12, 12].getD i 0 ≠ 23) i hi h))
      obtain rfl : v24 = u24 := Option.some.inj (kp 24 (fun i hi h => (by decide : ∀ i, i < 14 → [34, 35, 36, 37, 38, 39, 40, 41, 42, 43, 44, 45, 12, 12].getD i 0 ≠ 24) i hi h))
      obtain rfl : v25 = u25 := Option.some.inj (kp 25 (fun i hi h => (by decide : ∀ i, i < 14 → [34, 35, 36, 37, 38, 39, 40, 41, 42, 43, 44, 45, 12, 12].getD i 0 ≠ 25) i hi h))
      obtain rfl : v26 = u26 := Option.some.inj (kp 26 (fun i hi h => (by decide : ∀ i, i < 14 → [34, 35, 36, 37, 38, 39, 40, 41, 42, 43, 44, 45, 12, 12].getD i 0 ≠ 26) i hi h))
      obtain rfl : v27 = u27 := Option.some.inj (kp 27 (fun i hi h => (by decide : ∀ i, i < 14 → [34, 35, 36, 37, 38, 39, 40, 41, 42, 43, 44, 45, 12, 12].getD i 0 ≠ 27) i hi h))
      obtain rfl : v28 = u28 := Option.some.inj (kp 28 (fun i hi h => (by decide : ∀ i, i < 14 → [34, 35, 36, 37, 38, 39, 40, 41, 42, 43, 44, 45, 12, 12].getD i 0 ≠ 28) i hi h))
      obtain rfl : v29 = u29 := Option.some.inj (kp 29 (fun i hi h => (by decide : ∀ i, i < 14 → [34, 35, 36, 37, 38, 39, 40, 41, 42, 43, 44, 45, 12, 12].getD i 0 ≠ 29) i hi h))
      obtain rfl : v30 = u30 := Option.some.inj (kp 30 (fun i hi h => (by decide : ∀ i, i < 14 → [34, 35, 36, 37, 38, 39, 40, 41, 42, 43, 44, 45, 12, 12].getD i 0 ≠ 30) i hi h))
      obtain rfl : v31 = u31 := Option.some.inj (kp 31 (fun i hi h => (by decide : ∀ i, i < 14 → [34, 35, 36, 37, 38, 39, 40, 41, 42, 43, 44, 45, 12, 12].getD i 0 ≠ 31) i hi h))
      obtain rfl : v32 = u32 := Option.some.inj (kp 32 (fun i hi h => (by decide : ∀ i, i < 14 → [34, 35, 36, 37, 38, 39, 40, 41, 42, 43, 44, 45, 12, 12].getD i 0 ≠ 32) i hi h))
      obtain rfl : v33 = u33 := Option.some.inj (kp 33 (fun i hi h => (by decide : ∀ i, i < 14 → [34, 35, 36, 37, 38, 39, 40, 41, 42, 43, 44, 45, 12, 12].getD i 0 ≠ 33) i hi h))
      exact HQ.out x bb _ _ _ _ _ _ _ _ _ _ _ _ hbb hbox hbel
end Go.Proofs.YtonoadjmglkhaaaGreat.Av

namespace Go.Proofs.YtonoadjmglkhaaaGreat.Av
open Go.RowKit Go.Sort Go.Proofs.YtonoadjmglkhaaaGreat Go.Proofs.YtonoadjmglkhaaaGreat.Rw Go.Proofs.YtonoadjmglkhaaaGreat.Nm Go.Proofs.YtonoadjmglkhaaaGreat.Pr Go.Proofs.YtonoadjmglkhaaaGreat.Bk

def ord8V (B : Nat) (_b7 _b12 _n : Nat) (i1 i2 : Int) (rv : Value) (_lx : List XAd) (_l : List Ad) (h1 : Option Addr) (h2 h3 : Nat) (g1 : Option Addr) (g2 g3 : Nat) (has vals : List Int) (i : Nat) (v : Value) (x : World) : Prop :=
  match i with
  | 0 => v = rv
  | 1 => v = .agg #[.int .i64 i1, .int .i64 i2]
  | 2 => v = .agg #[.slice h1 h2 h3, .slice g1 g2 g3]
  | 3 => ∃ s : Sl, v = slv s ∧ OwnC x B (slv s) ((prd has vals 7).map r5)
  | 4 => ∃ s : Sl, v = valD (i1, i2, s, -1) ∧ OwnC x B (slv s) ((prd has vals 7).map r5)
  | 5 => ∃ s : Sl, OwnD x B v [(i1, i2, s, -1)] ∧ OwnC x B (slv s) ((prd has vals 7).map r5)
  | _ => True
noncomputable def ord8C : Code := ((Tryz.f5.body.bind (findRegion 8)).getD .skip)
theorem ord8V_on (B : Nat) (b7 b12 n : Nat) (i1 i2 : Int) (rv : Value) (lx : List XAd) (l : List Ad) (h1 : Option Addr) (h2 h3 : Nat) (g1 : Option Addr) (g2 g3 : Nat) (has vals : List Int) (i : Nat) (v : Value) (x x' : World) (h : ord8V B b7 b12 n i1 i2 rv lx l h1 h2 h3 g1 g2 g3 has vals i v x) (hb : Below x.heap.size x x') : ord8V B b7 b12 n i1 i2 rv lx l h1 h2 h3 g1 g2 g3 has vals i v x' := by
  by_cases hi : i < 6
  · rcases (by omega : i = 0 ∨ i = 1 ∨ i = 2 ∨ i = 3 ∨ i = 4 ∨ i = 5) with rfl | rfl | rfl | rfl | rfl | rfl
    · exact h
    · exact h
    · exact h
    · obtain ⟨s, h1, h2⟩ := h; exact ⟨s, h1, Bk.own_on h2 hb⟩
    · obtain ⟨s, h1, h2⟩ := h; exact ⟨s, h1, Bk.own_on h2 hb⟩
    · obtain ⟨s, h1, h2⟩ := h; exact ⟨s, Bk.own_on h1 hb, Bk.own_on h2 hb⟩
  · unfold ord8V
    split <;> first | omega | trivial
set_option maxRecDepth 100000 in
set_option maxHeartbeats 8000000 in
theorem ord8 (Q : Exit → Act → World → Prop) (W : World) (b7 b12 n : Nat) (i1 i2 : Int) (rv : Value) (lx : List XAd) (l : List Ad) (h1 : Option Addr) (h2 h3 : Nat) (g1 : Option Addr) (g2 g3 : Nat) (has vals : List Int) (u0 u1 u2 u3 u4 u5 u6 u8 u10 u11 u13 u14 u15 u16 u17 u18 u19 u20 u21 u22 u23 u24 u25 u26 u27 u28 u29 u30 u31 u32 u33 u34 u35 u36 u37 u38 u39 u40 u41 u42 u43 u44 u45 u46 u47 u48 u49 u50 u51 u52 u53 u54 u55 u56 u57 u58 u59 u60 u61 u62 u63 u64 u65 u66 u67 u68 u69 u70 u71 u72 u73 u74 u75 u76 u77 u78 u79 u80 u81 u82 u83 u84 u85 u86 u87 u88 u89 u90 u91 u92 u93 u94 u95 u96 u97 u98 u99 u100 u101 u102 u103 u104 u105 u106 u107 u108 u109 u110 u111 u112 u113 u114 u115 u116 u117 u118 u119 u120 u121 u122 u123 u124 u125 u126 u127 u128 u129 u130 u131 u132 u133 u134 u135 u136 u137 u138 u139 u140 u141 u142 u143 u144 u145 u146 u147 u148 u149 u150 u151 u152 u153 u154 u155 u156 u157 u158 u159 u160 u161 u162 u163 u164 u165 u166 u167 u168 u169 u170 u171 u172 u173 u174 u175 u176 u177 u178 u179 u180 u181 u182 u183 u184 u185 u186 u187 u188 u189 u190 u191 u192 u193 : Value)
    (x7 : Box W b7 #[.slice h1 h2 h3, .slice g1 g2 g3] 32) (x12 : Box W b12 #[.int .i64 i1, .int .i64 i2] 37) (ar : AdR W n rv lx l) (hn : n ≤ W.heap.size) (hl : lx.length ≤ 900) (ih : In.InInts W (.slice h1 h2 h3) has) (iv : In.InInts W (.slice g1 g2 g3) vals) (lh : has.length ≤ maxLen) (lv : vals.length ≤ maxLen)
    (hQ : ∀ (x : World) (w9 : Value) (s : Sl) (v50 v51 v52 v53 v54 v55 v56 : Value), AdR x n w9 (lx ++ [(i1, i2, s, -1)]) (l ++ [mkA ((prd has vals 7).map r5) (i1, i2)]) → Below n W x → (∀ (b : Nat) (cs : Array Value) (t : TypeId), (t == 42) = false → Box W b cs t → Box x b cs t) → (∀ (b : Nat) (m : List XID), InMap W b m → InMap x b m) → Q .normal ⟨(u0 :: u1 :: u2 :: u3 :: u4 :: u5 :: u6 :: .pointer (some ⟨b7, 0, none⟩) :: u8 :: w9 :: u10 :: u11 :: .pointer (some ⟨b12, 0, none⟩) :: u13 :: u14 :: u15 :: u16 :: u17 :: u18 :: u19 :: u20 :: u21 :: u22 :: u23 :: u24 :: u25 :: u26 :: u27 :: u28 :: u29 :: u30 :: u31 :: u32 :: u33 :: u34 :: u35 :: u36 :: u37 :: u38 :: u39 :: u40 :: u41 :: u42 :: u43 :: u44 :: u45 :: u46 :: u47 :: u48 :: u49 :: v50 :: v51 :: v52 :: v53 :: v54 :: v55 :: v56 :: u57 :: u58 :: u59 :: u60 :: u61 :: u62 :: u63 :: u64 :: u65 :: u66 :: u67 :: u68 :: u69 :: u70 :: u71 :: u72 :: u73 :: u74 :: u75 :: u76 :: u77 :: u78 :: u79 :: u80 :: u81 :: u82 :: u83 :: u84 :: u85 :: u86 :: u87 :: u88 :: u89 :: u90 :: u91 :: u92 :: u93 :: u94 :: u95 :: u96 :: u97 :: u98 :: u99 :: u100 :: u101 :: u102 :: u103 :: u104 :: u105 :: u106 :: u107 :: u108 :: u109 :: u110 :: u111 :: u112 :: u113 :: u114 :: u115 :: u116 :: u117 :: u118 :: u119 :: u120 :: u121 :: u122 :: u123 :: u124 :: u125 :: u126 :: u127 :: u128 :: u129 :: u130 :: u131 :: u132 :: u133 :: u134 :: u135 :: u136 :: u137 :: u138 :: u139 :: u140 :: u141 :: u142 :: u143 :: u144 :: u145 :: u146 :: u147 :: u148 :: u149 :: u150 :: u151 :: u152 :: u153 :: u154 :: u155 :: u156 :: u157 :: u158 :: u159 :: u160 :: u161 :: u162 :: u163 :: u164 :: u165 :: u166 :: u167 :: u168 :: u169 :: u170 :: u171 :: u172 :: u173 :: u174 :: u175 :: u176 :: u177 :: u178 :: u179 :: u180 :: u181 :: u182 :: u183 :: u184 :: u185 :: u186 :: u187 :: u188 :: u189 :: u190 :: u191 :: u192 :: u193 :: []).toArray, []⟩ x) :
    Code.wp Tryz.prog ord8C Q ⟨(u0 :: u1 :: u2 :: u3 :: u4 :: u5 :: u6 :: .pointer (some ⟨b7, 0, none⟩) :: u8 :: rv :: u10 :: u11 :: .pointer (some ⟨b12, 0, none⟩) :: u13 :: u14 :: u15 :: u16 :: u17 :: u18 :: u19 :: u20 :: u21 :: u22 :: u23 :: u24 :: u25 :: u26 :: u27 :: u28 :: u29 :: u30 :: u31 :: u32 :: u33 :: u34 :: u35 :: u36 :: u37 :: u38 :: u39 :: u40 :: u41 :: u42 :: u43 :: u44 :: u45 :: u46 :: u47 :: u48 :: u49 :: u50 :: u51 :: u52 :: u53 :: u54 :: u55 :: u56 :: u57 :: u58 :: u59 :: u60 :: u61 :: u62 :: u63 :: u64 :: u65 :: u66 :: u67 :: u68 :: u69 :: u70 :: u71 :: u72 :: u73 :: u74 :: u75 :: u76 :: u77 :: u78 :: u79 :: u80 :: u81 :: u82 :: u83 :: u84 :: u85 :: u86 :: u87 :: u88 :: u89 :: u90 :: u91 :: u92 :: u93 :: u94 :: u95 :: u96 :: u97 :: u98 :: u99 :: u100 :: u101 :: u102 :: u103 :: u104 :: u105 :: u106 :: u107 :: u108 :: u109 :: u110 :: u111 :: u112 :: u113 :: u114 :: u115 :: u116 :: u117 :: u118 :: u119 :: u120 :: u121 :: u122 :: u123 :: u124 :: u125 :: u126 :: u127 :: u128 :: u129 :: u130 :: u131 :: u132 :: u133 :: u134 :: u135 :: u136 :: u137 :: u138 :: u139 :: u140 :: u141 :: u142 :: u143 :: u144 :: u145 :: u146 :: u147 :: u148 :: u149 :: u150 :: u151 :: u152 :: u153 :: u154 :: u155 :: u156 :: u157 :: u158 :: u159 :: u160 :: u161 :: u162 :: u163 :: u164 :: u165 :: u166 :: u167 :: u168 :: u169 :: u170 :: u171 :: u172 :: u173 :: u174 :: u175 :: u176 :: u177 :: u178 :: u179 :: u180 :: u181 :: u182 :: u183 :: u184 :: u185 :: u186 :: u187 :: u188 :: u189 :: u190 :: u191 :: u192 :: u193 :: []).toArray, []⟩ W := by
  have HQ := Lib.hid hQ
  have H7 := Lib.hid x7
  have H12 := Lib.hid x12
  have AR := Lib.hid ar
  have HN := Lib.hid hn
  have HL := Lib.hid hl
  have IH := Lib.hid ih
  have IV := Lib.hid iv
  have LH := Lib.hid lh
  have LV := Lib.hid lv
  clear hQ x7 x12 ar hn hl ih iv lh lv
  have stab := ord8V_on W.heap.size b7 b12 n i1 i2 rv lx l h1 h2 h3 g1 g2 g3 has vals
  unfold ord8C
  conv => arg 2; whnf
  have nd : ∀ j, (∀ i, i < 6 → [50, 51, 52, 53, 54, 55].getD i 0 ≠ j) → ∀ i, i < 6 → (fun i => [50, 51, 52, 53, 54, 55].getD i 0) i ≠ j := fun j h => h
  refine Rg.region_live 8 6 (fun i => [50, 51, 52, 53, 54, 55].getD i 0) (fun _ => 6) (ord8V W.heap.size b7 b12 n i1 i2 rv lx l h1 h2 h3 g1 g2 g3 has vals) (by kernel_rfl) (by kernel_rfl) rfl (by decide) (fun i j hi hj h => (by decide : ∀ i, i < 6 → ∀ j, j < 6 → [50, 51, 52, 53, 54, 55].getD i 0 = [50, 51, 52, 53, 54, 55].getD j 0 → i = j) i hi j hj h) (fun i hi => (by decide : ∀ i, i < 6 → [50, 51, 52, 53, 54, 55].getD i 0 < 194) i hi) ?_ (fun _ => Rg.hall_of 14 (by kernel_rfl)) ?_ ?_
  · intro i o hi ho a x D hnd hc hD hb seen K hK
    clear HQ
    rcases (by omega : i = 0 ∨ i = 1 ∨ i = 2 ∨ i = 3 ∨ i = 4 ∨ i = 5) with rfl | rfl | rfl | rfl | rfl | rfl
    · obtain rfl := Option.some.inj ho
      have e9 : a.eval (.tmp 9) = rv := seen.kp 9 _ (nd 9 (by decide)) rfl
      exact Rg.op_value rfl rfl (Rg.ex_move a.eval _ (.tmp 9) rfl x) (hK _ _ e9 (Below.refl _ _) fun _ _ _ _ _ _ _ h => h)
    · obtain rfl := Option.some.inj ho
      have e12 : a.eval (.tmp 12) = .pointer (some ⟨b12, 0, none⟩) := seen.kp 12 _ (nd 12 (by decide)) rfl
      have y0 := (H12.out.on hb).cell 0
      have y1 := (H12.out.on hb).cell 1
      simp only [List.getElem?_toArray, List.getElem?_cons_zero, List.getElem?_cons_succ] at y0 y1
      exact Rg.op_value rfl rfl (Rg.ex_load a.eval _ 37 (.tmp 12) rfl (by rw [e12]; simp [go_sem, y0, y1])) (hK _ _ rfl (Below.refl _ _) fun _ _ _ _ _ _ _ h => h)
    · obtain rfl := Option.some.inj ho
      have e7 : a.eval (.tmp 7) = .pointer (some ⟨b7, 0, none⟩) := seen.kp 7 _ (nd 7 (by decide)) rfl
      have y0 := (H7.out.on hb).cell 0
      have y1 := (H7.out.on hb).cell 1
      simp only [List.getElem?_toArray, List.getElem?_cons_zero, List.getElem?_cons_succ] at y0 y1
      exact Rg.op_value rfl rfl (Rg.ex_load a.eval _ 32 (.tmp 7) rfl (by rw [e7]; simp [go_sem, y0, y1])) (hK _ _ rfl (Below.refl _ _) fun _ _ _ _ _ _ _ h => h)
    · obtain rfl := Option.some.inj ho
      have e52 : a.eval (.tmp 52) = .agg #[.slice h1 h2 h3, .slice g1 g2 g3] := seen.at_ ⟨2, .data⟩ (by simp) rfl (Or.inr (by decide))
      exact Rg.op_call rfl rfl (Rw.ex_call1 a.eval _ (.tmp 52) 32 9 rfl e52 rfl _ (call_fn Tryz.func9 rfl rfl _ _)) (pred_any (.slice h1 h2 h3) (.slice g1 g2 g3) has vals x (IH.out.on hb) (IV.out.on hb) LH.out LV.out) fun e w1 h => by
        obtain ⟨v, rfl, q1, q2⟩ := h
        obtain ⟨a1, a2, hvv⟩ := (Row.of_own q1).len
        have q3 := own_fewer q1 hb.size
        rw [hvv] at q3
        exact ⟨_, rfl, hK _ _ ⟨(a1, _, a2), hvv, q3⟩ (q2.mono hb.size) fun j u _ _ _ _ _ h => stab j u _ _ h q2⟩
    · obtain rfl := Option.some.inj ho
      have e51 : a.eval (.tmp 51) = .agg #[.int .i64 i1, .int .i64 i2] := seen.at_ ⟨1, .data⟩ (by simp) rfl (Or.inr (by decide))
      have E53 := seen.at_ ⟨3, .data⟩ (by simp) rfl (Or.inr (by decide))
      obtain ⟨s, q0, q1⟩ := E53
      have q0 : a.eval (.tmp 53) = slv s := q0
      exact Rg.op_value rfl rfl (Rg.ex_buildS a.eval _ 42 #[(0, .tmp 51), (1, .tmp 53), (2, .const (.int .i64 (-1)))] rfl (ps := #[(0, .agg #[.int .i64 i1, .int .i64 i2]), (1, slv s), (2, .int .i64 (-1))]) (by simp only [List.map_toArray, List.map_cons, List.map_nil, e51, q0]; rfl) (by simp [go_sem])) (hK _ _ ⟨s, rfl, q1⟩ (Below.refl _ _) fun _ _ _ _ _ _ _ h => h)
    · obtain rfl := Option.some.inj ho
      have E54 := seen.at_ ⟨4, .data⟩ (by simp) rfl (Or.inr (by decide))
      obtain ⟨s, q0, q1⟩ := E54
      have q0 : a.eval (.tmp 54) = valD (i1, i2, s, -1) := q0
      have hl := row_lit okD x [((i1, i2, s, -1) : XAd)] 1 rfl (by simp) (cellsD (i1, i2, s, -1)).toArray (by simp [flat, ED])
      have nb := newB x (.cells (cellsD (i1, i2, s, -1)).toArray 42)
      exact Rg.op_value rfl rfl (Rg.ex_build a.eval _ 24 1 #[(0, .tmp 54)] rfl (ps := #[(0, valD (i1, i2, s, -1))]) (by simp [q0]) (by simp [go_sem])) (hK (.slice (some ⟨x.heap.size, 0, none⟩) 1 1) (x.alloc (.cells (cellsD (i1, i2, s, -1)).toArray 42)) ⟨s, own_fewer hl hb.size, Bk.own_on q1 nb⟩ (nb.mono hb.size) fun j u _ _ _ _ _ h => stab j u _ _ h nb)
  · intro kk o h1 h2 ho
    rcases (by omega : kk = 7) with rfl
    · obtain rfl := Option.some.inj ho
      exact ⟨⟨6, .data⟩, by simp, rfl, rfl⟩
  · intro a w' df sz kp ⟨vs, hv⟩ hb
    have sz' : a.tmps.size = 194 := sz
    have g50 : a.tmps[50]? = some (rv) := by
      have h : vs 0 = rv := (hv 0 (by omega)).2 (by decide)
      rw [← h]
      exact (hv 0 (by omega)).1
    have g55 : a.tmps[55]? = some (vs 5) := (hv 5 (by omega)).1
    have G55 := (hv 5 (by omega)).2 (by decide)
    obtain ⟨s, q1, q2⟩ := G55
    have ar := AR.out.on hb
    generalize hq : vs 5 = v5 at *
    obtain ⟨a1, c1, hv5⟩ := (Row.of_own q1).len
    obtain ⟨v', x', r, o', gr⟩ := app_row okD n ar.row (Row.of_own q1) (by have := HL.out; omega) (by simp) (Nat.le_trans HN.out hb.size) 24
    show Rg.SeqFrom _ _ _ 2 6 a w'
    simp only [Rg.SeqFrom]
    refine Rg.op_value rfl rfl (Rg.ex_append a.eval _ (.tmp 50) (.tmp 55) 24 rfl (Rg.eval_some g50) (Rg.eval_some g55) r) ?_
    have e56 : (a.put (some 56) v').eval (.tmp 56) = v' := Rg.eval_some (by simp [Act.put, sz'])
    refine Rg.op_value rfl rfl (Rg.ex_assign _ _ (.tmp 56) rfl x') ?_
    show Q .normal ((a.put (some 56) v').put (some 9) ((a.put (some 56) v').eval (.tmp 56))) x'
    rw [e56]
    have hp := ar.push gr o' (a := mkA ((prd has vals 7).map r5) (i1, i2)) (x := (i1, i2, s, -1)) ⟨rfl, rfl, own_fewer q2 HN.out⟩
    have hbt : Below n W x' := (hb.mono HN.out).grown gr (Nat.le_trans HN.out hb.size) (fun j hj => (ar.row.lt j hj).1)
    have hbx : ∀ (b : Nat) (cs : Array Value) (t : TypeId), (t == 42) = false → Box W b cs t → Box x' b cs t := fun b cs t hne h => box_app ar.row gr (h.on hb) hne
    have hmx : ∀ (b : Nat) (m : List XID), InMap W b m → InMap x' b m := fun b m h => map_app ar.row gr (h.on hb)
    show Q .normal ((a.put (some 56) v').put (some 9) v') x'
    have ka : ∀ j, j ≠ 56 → j ≠ 9 → ((a.put (some 56) v').put (some 9) v').tmps[j]? = a.tmps[j]? := fun j h1 h2 => by rw [Rg.get_put _ _ _ _ (by omega), Rg.get_put _ _ _ _ (by omega)]
    have kt : ((a.put (some 56) v').put (some 9) v').tmps[9]? = some (v') := by simp [Act.put, sz']
    have kp2 : ∀ j, (j < 50 ∨ 57 ≤ j) → ((a.put (some 56) v').put (some 9) v').tmps[j]? = (u0 :: u1 :: u2 :: u3 :: u4 :: u5 :: u6 :: .pointer (some ⟨b7, 0, none⟩) :: u8 :: v' :: u10 :: u11 :: .pointer (some ⟨b12, 0, none⟩) :: u13 :: u14 :: u15 :: u16 :: u17 :: u18 :: u19 :: u20 :: u21 :: u22 :: u23 :: u24 :: u25 :: u26 :: u27 :: u28 :: u29 :: u30 :: u31 :: u32 :: u33 :: u34 :: u35 :: u36 :: u37 :: u38 :: u39 :: u40 :: u41 :: u42 :: u43 :: u44 :: u45 :: u46 :: u47 :: u48 :: u49 :: u50 :: u51 :: u52 :: u53 :: u54 :: u55 :: u56 :: u57 :: u58 :: u59 :: u60 :: u61 :: u62 :: u63 :: u64 :: u65 :: u66 :: u67 :: u68 :: u69 :: u70 :: u71 :: u72 :: u73 :: u74 :: u75 :: u76 :: u77 :: u78 :: u79 :: u80 :: u81 :: u82 :: u83 :: u84 :: u85 :: u86 :: u87 :: u88 :: u89 :: u90 :: u91 :: u92 :: u93 :: u94 :: u95 :: u96 :: u97 :: u98 :: u99 :: u100 :: u101 :: u102 :: u103 :: u104 :: u105 :: u106 :: u107 :: u108 :: u109 :: u110 :: u111 :: u112 :: u113 :: u114 :: u115 :: u116 :: u117 :: u118 :: u119 :: u120 :: u121 :: u122 :: u123 :: u124 :: u125 :: u126 :: u127 :: u128 :: u129 :: u130 :: u131 :: u132 :: u133 :: u134 :: u135 :: u136 :: u137 :: u138 :: u139 :: u140 :: u141 :: u142 :: u143 :: u144 :: u145 :: u146 :: u147 :: u148 :: u149 :: u150 :: u151 :: u152 :: u153 :: u154 :: u155 :: u156 :: u157 :: u158 :: u159 :: u160 :: u161 :: u162 :: u163 :: u164 :: u165 :: u166 :: u167 :: u168 :: u169 :: u170 :: u171 :: u172 :: u173 :: u174 :: u175 :: u176 :: u177 :: u178 :: u179 :: u180 :: u181 :: u182 :: u183 :: u184 :: u185 :: u186 :: u187 :: u188 :: u189 :: u190 :: u191 :: u192 :: u193 :: [])[j]? := fun j hj => by
      by_cases hj2 : j = 9
      · subst hj2
        exact kt
      · have hs : (u0 :: u1 :: u2 :: u3 :: u4 :: u5 :: u6 :: .pointer (some ⟨b7, 0, none⟩) :: u8 :: v' :: u10 :: u11 :: .pointer (some ⟨b12, 0, none⟩) :: u13 :: u14 :: u15 :: u16 :: u17 :: u18 :: u19 :: u20 :: u21 :: u22 :: u23 :: u24 :: u25 :: u26 :: u27 :: u28 :: u29 :: u30 :: u31 :: u32 :: u33 :: u34 :: u35 :: u36 :: u37 :: u38 :: u39 :: u40 :: u41 :: u42 :: u43 :: u44 :: u45 :: u46 :: u47 :: u48 :: u49 :: u50 :: u51 :: u52 :: u53 :: u54 :: u55 :: u56 :: u57 :: u58 :: u59 :: u60 :: u61 :: u62 :: u63 :: u64 :: u65 :: u66 :: u67 :: u68 :: u69 :: u70 :: u71 :: u72 :: u73 :: u74 :: u75 :: u76 :: u77 :: u78 :: u79 :: u80 :: u81 :: u82 :: u83 :: u84 :: u85 :: u86 :: u87 :: u88 :: u89 :: u90 :: u91 :: u92 :: u93 :: u94 :: u95 :: u96 :: u97 :: u98 :: u99 :: u100 :: u101 :: u102 :: u103 :: u104 :: u105 :: u106 :: u107 :: u108 :: u109 :: u110 :: u111 :: u112 :: u113 :: u114 :: u115 :: u116 :: u117 :: u118 :: u119 :: u120 :: u121 :: u122 :: u123 :: u124 :: u125 :: u126 :: u127 :: u128 :: u129 :: u130 :: u131 :: u132 :: u133 :: u134 :: u135 :: u136 :: u137 :: u138 :: u139 :: u140 :: u141 :: u142 :: u143 :: u144 :: u145 :: u146 :: u147 :: u148 :: u149 :: u150 :: u151 :: u152 :: u153 :: u154 :: u155 :: u156 :: u157 :: u158 :: u159 :: u160 :: u161 :: u162 :: u163 :: u164 :: u165 :: u166 :: u167 :: u168 :: u169 :: u170 :: u171 :: u172 :: u173 :: u174 :: u175 :: u176 :: u177 :: u178 :: u179 :: u180 :: u181 :: u182 :: u183 :: u184 :: u185 :: u186 :: u187 :: u188 :: u189 :: u190 :: u191 :: u192 :: u193 :: [] : List Value) = (u0 :: u1 :: u2 :: u3 :: u4 :: u5 :: u6 :: .pointer (some ⟨b7, 0, none⟩) :: u8 :: rv :: u10 :: u11 :: .pointer (some ⟨b12, 0, none⟩) :: u13 :: u14 :: u15 :: u16 :: u17 :: u18 :: u19 :: u20 :: u21 :: u22 :: u23 :: u24 :: u25 :: u26 :: u27 :: u28 :: u29 :: u30 :: u31 :: u32 :: u33 :: u34 :: u35 :: u36 :: u37 :: u38 :: u39 :: u40 :: u41 :: u42 :: u43 :: u44 :: u45 :: u46 :: u47 :: u48 :: u49 :: u50 :: u51 :: u52 :: u53 :: u54 :: u55 :: u56 :: u57 :: u58 :: u59 :: u60 :: u61 :: u62 :: u63 :: u64 :: u65 :: u66 :: u67 :: u68 :: u69 :: u70 :: u71 :: u72 :: u73 :: u74 :: u75 :: u76 :: u77 :: u78 :: u79 :: u80 :: u81 :: u82 :: u83 :: u84 :: u85 :: u86 :: u87 :: u88 :: u89 :: u90 :: u91 :: u92 :: u93 :: u94 :: u95 :: u96 :: u97 :: u98 :: u99 :: u100 :: u101 :: u102 :: u103 :: u104 :: u105 :: u106 :: u107 :: u108 :: u109 :: u110 :: u111 :: u112 :: u113 :: u114 :: u115 :: u116 :: u117 :: u118 :: u119 :: u120 :: u121 :: u122 :: u123 :: u124 :: u125 :: u126 :: u127 :: u128 :: u129 :: u130 :: u131 :: u132 :: u133 :: u134 :: u135 :: u136 :: u137 :: u138 :: u139 :: u140 :: u141 :: u142 :: u143 :: u144 :: u145 :: u146 :: u147 :: u148 :: u149 :: u150 :: u151 :: u152 :: u153 :: u154 :: u155 :: u156 :: u157 :: u158 :: u159 :: u160 :: u161 :: u162 :: u163 :: u164 :: u165 :: u166 :: u167 :: u168 :: u169 :: u170 :: u171 :: u172 :: u173 :: u174 :: u175 :: u176 :: u177 :: u178 :: u179 :: u180 :: u181 :: u182 :: u183 :: u184 :: u185 :: u186 :: u187 :: u188 :: u189 :: u190 :: u191 :: u192 :: u193 :: []).set 9 (v') := rfl
        rw [hs, List.getElem?_set_ne (Ne.symm hj2)]
        exact (ka j (by omega) hj2).trans ((kp j (nd j fun i hi h => by have := (by decide : ∀ i, i < 6 → 50 ≤ [50, 51, 52, 53, 54, 55].getD i 0 ∧ [50, 51, 52, 53, 54, 55].getD i 0 < 57) i hi; omega)).trans List.getElem?_toArray)
    obtain ⟨mid, hmid, hfr⟩ := Rg.frame_mid (a := (a.put (some 56) v').put (some 9) v') (bl := (u0 :: u1 :: u2 :: u3 :: u4 :: u5 :: u6 :: .pointer (some ⟨b7, 0, none⟩) :: u8 :: v' :: u10 :: u11 :: .pointer (some ⟨b12, 0, none⟩) :: u13 :: u14 :: u15 :: u16 :: u17 :: u18 :: u19 :: u20 :: u21 :: u22 :: u23 :: u24 :: u25 :: u26 :: u27 :: u28 :: u29 :: u30 :: u31 :: u32 :: u33 :: u34 :: u35 :: u36 :: u37 :: u38 :: u39 :: u40 :: u41 :: u42 :: u43 :: u44 :: u45 :: u46 :: u47 :: u48 :: u49 :: u50 :: u51 :: u52 :: u53 :: u54 :: u55 :: u56 :: u57 :: u58 :: u59 :: u60 :: u61 :: u62 :: u63 :: u64 :: u65 :: u66 :: u67 :: u68 :: u69 :: u70 :: u71 :: u72 :: u73 :: u74 :: u75 :: u76 :: u77 :: u78 :: u79 :: u80 :: u81 :: u82 :: u83 :: u84 :: u85 :: u86 :: u87 :: u88 :: u89 :: u90 :: u91 :: u92 :: u93 :: u94 :: u95 :: u96 :: u97 :: u98 :: u99 :: u100 :: u101 :: u102 :: u103 :: u104 :: u105 :: u106 :: u107 :: u108 :: u109 :: u110 :: u111 :: u112 :: u113 :: u114 :: u115 :: u116 :: u117 :: u118 :: u119 :: u120 :: u121 :: u122 :: u123 :: u124 :: u125 :: u126 :: u127 :: u128 :: u129 :: u130 :: u131 :: u132 :: u133 :: u134 :: u135 :: u136 :: u137 :: u138 :: u139 :: u140 :: u141 :: u142 :: u143 :: u144 :: u145 :: u146 :: u147 :: u148 :: u149 :: u150 :: u151 :: u152 :: u153 :: u154 :: u155 :: u156 :: u157 :: u158 :: u159 :: u160 :: u161 :: u162 :: u163 :: u164 :: u165 :: u166 :: u167 :: u168 :: u169 :: u170 :: u171 :: u172 :: u173 :: u174 :: u175 :: u176 :: u177 :: u178 :: u179 :: u180 :: u181 :: u182 :: u183 :: u184 :: u185 :: u186 :: u187 :: u188 :: u189 :: u190 :: u191 :: u192 :: u193 :: [])) 50 7 (by simp [Act.put, df]) (by simp [Act.put, sz']) (by simp) kp2
    rw [hfr]
    match mid, hmid with
    | [v50, v51, v52, v53, v54, v55, v56], _ =>
      exact HQ.out x' _ s _ _ _ _ _ _ _ hp hbt hbx hmx
end Go.Proofs.YtonoadjmglkhaaaGreat.Av

namespace Go.Proofs.YtonoadjmglkhaaaGreat.Av
open Go.RowKit Go.Sort Go.Proofs.YtonoadjmglkhaaaGreat Go.Proofs.YtonoadjmglkhaaaGreat.Rw Go.Proofs.YtonoadjmglkhaaaGreat.Nm Go.Proofs.YtonoadjmglkhaaaGreat.Pr Go.Proofs.YtonoadjmglkhaaaGreat.Bk

noncomputable def order_3C : Code := .seq (headN 3 (Tryz.f5.body.getD .skip)) (order_10C)
set_option maxRecDepth 100000 in
set_option maxHeartbeats 16000000 in
theorem order_3 (w W : World) (WK : World) (o1 : Option Addr) (c1 : Nat) (o2 : Option Addr) (c2 : Nat) (o3 : Option Addr) (c3 : Nat) (h1 : Option Addr) (h2 h3 : Nat) (g1 : Option Addr) (g2 g3 : Nat) (ns os rs has vals : List Int)
    (b0 : Below w.heap.size w WK) (gm : Below WK.heap.size WK W) (wl : w.heap.size < WK.heap.size) (wq : WK.heap.size ≤ w.heap.size + 1) (xp : Box WK w.heap.size #[.slice h1 h2 h3, .slice g1 g2 g3] 32) (xm : InMap W (w.heap.size + 1) []) (ia : In.InInts WK (.slice o1 ns.length c1) ns) (ib : In.InInts WK (.slice o2 os.length c2) os) (ic : In.InInts WK (.slice o3 rs.length c3) rs) (ih : In.InInts WK (.slice h1 h2 h3) has) (iv : In.InInts WK (.slice g1 g2 g3) vals) (la : ns.length ≤ maxLen) (lb : os.length ≤ maxLen) (lh : has.length ≤ maxLen) (lv : vals.length ≤ maxLen)
    (u3 u4 u5 u6 u8 u11 u12 u13 u14 u15 u16 u17 u18 u19 u20 u21 u22 u23 u24 u25 u26 u27 u28 u29 u30 u31 u32 u33 u34 u35 u36 u37 u38 u39 u40 u41 u42 u43 u44 u45 u46 u47 u48 u49 u50 u51 u52 u53 u54 u55 u56 u57 u58 u59 u60 u61 u62 u63 u64 u65 u66 u67 u68 u69 u70 u71 u72 u73 u74 u75 u76 u77 u78 u79 u80 u81 u82 u83 u84 u85 u86 u87 u88 u89 u90 u91 u92 u93 u94 u95 u96 u97 u98 u99 u100 u101 u102 u103 u104 u105 u106 u107 u108 u109 u110 u111 u112 u113 u114 u115 u116 u117 u118 u119 u120 u121 u122 u123 u124 u125 u126 u127 u128 u129 u130 u131 u132 u133 u134 u135 u136 u137 u138 u139 u140 u141 u142 u143 u144 u145 u146 u147 u148 u149 u150 u151 u152 u153 u154 u155 u156 u157 u158 u159 u160 u161 u162 u163 u164 u165 u166 u167 u168 u169 u170 u171 u172 u173 u174 u175 u176 u177 u178 u179 u180 u181 u182 u183 u184 u185 u186 u187 u188 u189 u190 u191 u192 u193 : Value) :
    Code.wp Tryz.prog order_3C (bodyPost Tryz.prog Tryz.f5 (OrdQ w)) ⟨(.slice o1 ns.length c1 :: .slice o2 os.length c2 :: .slice o3 rs.length c3 :: u3 :: u4 :: u5 :: u6 :: .pointer (some ⟨w.heap.size, 0, none⟩) :: u8 :: .slice none 0 0 :: .map (some (w.heap.size + 1)) :: u11 :: u12 :: u13 :: u14 :: u15 :: u16 :: u17 :: u18 :: u19 :: u20 :: u21 :: u22 :: u23 :: u24 :: u25 :: u26 :: u27 :: u28 :: u29 :: u30 :: u31 :: u32 :: u33 :: u34 :: u35 :: u36 :: u37 :: u38 :: u39 :: u40 :: u41 :: u42 :: u43 :: u44 :: u45 :: u46 :: u47 :: u48 :: u49 :: u50 :: u51 :: u52 :: u53 :: u54 :: u55 :: u56 :: u57 :: u58 :: u59 :: u60 :: u61 :: u62 :: u63 :: u64 :: u65 :: u66 :: u67 :: u68 :: u69 :: u70 :: u71 :: u72 :: u73 :: u74 :: u75 :: u76 :: u77 :: u78 :: u79 :: u80 :: u81 :: u82 :: u83 :: u84 :: u85 :: u86 :: u87 :: u88 :: u89 :: u90 :: u91 :: u92 :: u93 :: u94 :: u95 :: u96 :: u97 :: u98 :: u99 :: u100 :: u101 :: u102 :: u103 :: u104 :: u105 :: u106 :: u107 :: u108 :: u109 :: u110 :: u111 :: u112 :: u113 :: u114 :: u115 :: u116 :: u117 :: u118 :: u119 :: u120 :: u121 :: u122 :: u123 :: u124 :: u125 :: u126 :: u127 :: u128 :: u129 :: u130 :: u131 :: u132 :: u133 :: u134 :: u135 :: u136 :: u137 :: u138 :: u139 :: u140 :: u141 :: u142 :: u143 :: u144 :: u145 :: u146 :: u147 :: u148 :: u149 :: u150 :: u151 :: u152 :: u153 :: u154 :: u155 :: u156 :: u157 :: u158 :: u159 :: u160 :: u161 :: u162 :: u163 :: u164 :: u165 :: u166 :: u167 :: u168 :: u169 :: u170 :: u171 :: u172 :: u173 :: u174 :: u175 :: u176 :: u177 :: u178 :: u179 :: u180 :: u181 :: u182 :: u183 :: u184 :: u185 :: u186 :: u187 :: u188 :: u189 :: u190 :: u191 :: u192 :: u193 :: []).toArray, []⟩ W := by
  have B0 := Lib.hid b0
  have GM := Lib.hid gm
  have WL := Lib.hid wl
  have WQ := Lib.hid wq
  have XP := Lib.hid xp
  have XM := Lib.hid xm
  have IA := Lib.hid ia
  have IB := Lib.hid ib
  have IC := Lib.hid ic
  have IH := Lib.hid ih
  have IV := Lib.hid iv
  have LA := Lib.hid la
  have LB := Lib.hid lb
  have LH := Lib.hid lh
  have LV := Lib.hid lv
  have PR := Lib.hid (prd_right5 has vals)
  have PN := Lib.hid (show (((prd has vals 7).map r5)).length ≤ 900 from Nat.le_trans (prd_len5 has vals) (by decide))
  clear b0 gm wl wq xp xm ia ib ic ih iv la lb lh lv
  unfold order_3C
  conv => enter [2, 1]; whnf
  go_wp2_with fail
  go_loopw [9, 11] (fun rv i wr => ∃ (k : Nat) (s : List XID) (lx : List XAd), k ≤ 8 ∧ k ≤ ns.length ∧ i = .int .i64 k ∧ s.Nodup ∧ s.length ≤ k ∧ AdR wr WK.heap.size rv lx (s.map (mkA ((prd has vals 7).map r5))) ∧ InMap wr (w.heap.size + 1) s ∧ Below WK.heap.size WK wr) (fun _ i _ => 8 - (intOf i).toNat)
  case atStart => exact ⟨0, [], [], Nat.zero_le _, Nat.zero_le _, rfl, List.nodup_nil, Nat.le_refl _, ⟨own_nil _ _, .nil⟩, XM.out, GM.out⟩
  case round =>
    obtain ⟨k, s, lx, hk, hkn, rfl, hnd, hsl, har, him, hbel⟩ := hrel
    have ND_1 := Lib.hid (hnd)
    have SL_2 := Lib.hid (hsl)
    have AR_3 := Lib.hid (har)
    have HM_4 := Lib.hid (him)
    have GB_5 := Lib.hid (hbel)
    clear hnd hsl har him hbel XM GM
    by_cases hlt : k < ns.length ∧ k < 8
    · obtain ⟨hc, h8⟩ := hlt
      obtain ⟨z1, hz1⟩ : ∃ z, ns[k]? = some z := ⟨_, List.getElem?_eq_getElem hc⟩
      obtain ⟨d1, p1, l1, i1, q1⟩ := IA.out.at_ k z1 hz1
      obtain ⟨qz, dq, hqu⟩ := quo_four z1 d1
      have D1 := Lib.hid d1
      have DQ := Lib.hid dq
      have I1 := Lib.hid i1
      have QU := Lib.hid hqu
      have K1 := Lib.hid (show ∀ x, Below wr.heap.size wr x → x.cell? p1 = some (.int .i64 z1) from fun x hb => by rw [(GB_5.out.trans (hb.mono GB_5.out.size)).cell l1]; exact q1)
      clear hz1 d1 dq i1 hqu l1 q1
      have hc' : (k : Int) < (ns.length : Int) := by omega
      have h8' : (k : Int) < 8 := by omega
      go_upto_region 6 with fail
      refine ord6 _ wr o1 ns.length c1 k p1 z1 qz _ _ _ _ _ _ _ _ _ _ _ _ _ _ _ _ _ _ _ _ _ _ _ _ _ _ _ _ _ _ _ _ _ _ _ _ _ _ _ _ _ _ _ _ _ _ _ _ _ _ _ _ _ _ _ _ _ _ _ _ _ _ _ _ _ _ _ _ _ _ _ _ _ _ _ _ _ _ _ _ _ _ _ _ _ _ _ _ _ _ _ _ _ _ _ _ _ _ _ _ _ _ _ _ _ _ _ _ _ _ _ _ _ _ _ _ _ _ _ _ _ _ _ _ _ _ _ _ _ _ _ _ _ _ _ _ _ _ _ _ _ _ _ _ _ _ _ _ _ _ _ _ _ _ _ _ _ _ _ _ _ _ _ _ _ _ _ _ _ _ _ _ _ _ _ _ _ _ _ _ _ _ _ _ _ _ _ _ _ _ _ _ I1.out K1.out D1.out DQ.out QU.out ?_
      intro x b12 v34 v35 v36 v37 v38 v39 v40 v41 v42 v43 v44 v45 hb12 hbox hbel
      have OKJ := Lib.hid (show Ok2 (Wi.within z1 0 3, Wi.within qz 0 3) from ⟨by have h := Wi.within_bd z1 0 3 (by decide); omega, by have h := Wi.within_bd qz 0 3 (by decide); omega⟩)
      have AR_6 := Lib.hid (AR_3.out.on hbel)
      have HM_6 := Lib.hid (HM_4.out.on hbel)
      have GB_6 := Lib.hid (GB_5.out.trans (hbel.mono GB_5.out.size))
      clear AR_3 HM_4 GB_5
      have X12_7 := Lib.hid (hbox)
      clear hbel hbox I1 K1 D1 DQ QU
      generalize Wi.within z1 0 3 = i1 at *
      generalize Wi.within qz 0 3 = i2 at *
      have LK := HM_6.out.look (i1, i2) OKJ.out
      have xc0 := X12_7.out.cell 0
      have xc1 := X12_7.out.cell 1
      simp only [List.getElem?_toArray, List.getElem?_cons_zero, List.getElem?_cons_succ] at xc0 xc1
      rcases hin : decide ((i1, i2) ∈ s) with _ | _
      all_goals rw [hin] at LK
      · go_upto_region 8 with fail
        clear xc0 xc1
        refine ord8 _ x w.heap.size b12 WK.heap.size i1 i2 u9 lx (s.map (mkA ((prd has vals 7).map r5))) h1 h2 h3 g1 g2 g3 has vals _ _ _ _ _ _ _ _ _ _ _ _ _ _ _ _ _ _ _ _ _ _ _ _ _ _ _ _ _ _ _ _ _ _ _ _ _ _ _ _ _ _ _ _ _ _ _ _ _ _ _ _ _ _ _ _ _ _ _ _ _ _ _ _ _ _ _ _ _ _ _ _ _ _ _ _ _ _ _ _ _ _ _ _ _ _ _ _ _ _ _ _ _ _ _ _ _ _ _ _ _ _ _ _ _ _ _ _ _ _ _ _ _ _ _ _ _ _ _ _ _ _ _ _ _ _ _ _ _ _ _ _ _ _ _ _ _ _ _ _ _ _ _ _ _ _ _ _ _ _ _ _ _ _ _ _ _ _ _ _ _ _ _ _ _ _ _ _ _ _ _ _ _ _ _ _ _ _ _ _ _ _ _ _ _ _ _ _ _ _ _ (XP.out.on GB_6.out) X12_7.out AR_6.out GB_6.out.size (by rw [AR_6.out.all.len, List.length_map]; have := SL_2.out; omega) (IH.out.on GB_6.out) (IV.out.on GB_6.out) LH.out LV.out ?_
        intro y w9 sp v50 v51 v52 v53 v54 v55 v56 har hbt hbx hmx
        rw [show s.map (mkA ((prd has vals 7).map r5)) ++ [mkA ((prd has vals 7).map r5) (i1, i2)] = (s ++ [(i1, i2)]).map (mkA ((prd has vals 7).map r5)) from by simp] at har
        have x12 := hbx _ _ _ rfl X12_7.out
        have hmm2 := hmx _ _ HM_6.out
        have gb2 := GB_6.out.trans hbt
        have AR_8 := Lib.hid (har)
        have X12_9 := Lib.hid (x12)
        have HM_10 := Lib.hid (hmm2)
        have GB_11 := Lib.hid (gb2)
        clear har x12 hmm2 gb2 hbt hbx hmx LK
        have nin : (i1, i2) ∉ s := of_decide_eq_false hin
        have PU_12 := Lib.hid (show putS s (i1, i2) = s ++ [(i1, i2)] from by unfold putS; rw [if_neg nin])
        have ND_13 := Lib.hid (show (s ++ [(i1, i2)]).Nodup from List.nodup_append.2 ⟨ND_1.out, List.nodup_cons.2 ⟨by simp, List.nodup_nil⟩, fun a ha b hb e => nin (by rw [List.mem_singleton] at hb; rw [← hb, ← e]; exact ha)⟩)
        have SL2 : s.length < 1000 := by have := SL_2.out; omega
        obtain ⟨w3, ms, hm3, hg⟩ := HM_10.out.store (i1, i2) OKJ.out SL2
        have BT := but_grown hg
        rw [PU_12.out] at hm3
        have ml := HM_10.out.lt
        have xc0 := X12_9.out.cell 0
        have xc1 := X12_9.out.cell 1
        simp only [List.getElem?_toArray, List.getElem?_cons_zero, List.getElem?_cons_succ] at xc0 xc1
        have idj : idv (i1, i2) = .agg #[.int .i64 i1, .int .i64 i2] := rfl
        rw [idj] at ms
        have AR_14 := Lib.hid (AR_8.out.map HM_10.out BT)
        have HM_14 := Lib.hid (hm3)
        have GB_14 := Lib.hid (but_below GB_11.out hg WQ.out ml)
        clear hm3 BT hg idj ml
        have SL_15 := Lib.hid (show (s ++ [(i1, i2)]).length ≤ k + 1 from by rw [List.length_append, List.length_singleton]; have := SL_2.out; omega)
        clear SL2 nin hin
        go_wp2_with fail
        go_roundw
        case rel => exact ⟨k + 1, s ++ [(i1, i2)], lx ++ [(i1, i2, sp, -1)], by omega, by omega, by go_num, ND_13.out, SL_15.out, AR_14.out, HM_14.out, GB_14.out⟩
        case measure => simp [intOf]; omega
      · have yin : (i1, i2) ∈ s := of_decide_eq_true hin
        have PU_8 := Lib.hid (show putS s (i1, i2) = s from by unfold putS; rw [if_pos yin])
        go_upto_region 9 with fail
        clear xc0 xc1
        clear LK yin hin
        have SL2 : s.length < 1000 := by have := SL_2.out; omega
        obtain ⟨w3, ms, hm3, hg⟩ := HM_6.out.store (i1, i2) OKJ.out SL2
        have BT := but_grown hg
        rw [PU_8.out] at hm3
        have ml := HM_6.out.lt
        have xc0 := X12_7.out.cell 0
        have xc1 := X12_7.out.cell 1
        simp only [List.getElem?_toArray, List.getElem?_cons_zero, List.getElem?_cons_succ] at xc0 xc1
        have idj : idv (i1, i2) = .agg #[.int .i64 i1, .int .i64 i2] := rfl
        rw [idj] at ms
        have AR_9 := Lib.hid (AR_6.out.map HM_6.out BT)
        have HM_9 := Lib.hid (hm3)
        have GB_9 := Lib.hid (but_below GB_6.out hg WQ.out ml)
        clear hm3 BT hg idj ml
        have SL_10 := Lib.hid (show s.length ≤ k + 1 from by have := SL_2.out; omega)
        clear SL2
        go_wp2_with fail
        go_roundw
        case rel => exact ⟨k + 1, s, lx, by omega, by omega, by go_num, ND_1.out, SL_10.out, AR_9.out, HM_9.out, GB_9.out⟩
        case measure => simp [intOf]; omega
    · have hx : ns.length ≤ k ∨ (k < ns.length ∧ 8 ≤ k) := by omega
      rcases hx with hx | ⟨hx, hy⟩
      all_goals
        first | (have q1 : ¬ ((k : Int) < (ns.length : Int)) := (by omega)) | (have q1 : (k : Int) < (ns.length : Int) := (by omega); have q2 : ¬ ((k : Int) < 8) := (by omega))
        go_wp2_with fail
        exact order_10 w wr WK.heap.size os rs ((prd has vals 7).map r5) s _ o2 c2 o3 c3 lx (B0.out.trans (GB_5.out.mono B0.out.size)) GB_5.out.size (IB.out.on GB_5.out) LB.out (IC.out.on GB_5.out) AR_3.out ND_1.out (by have := SL_2.out; omega) PN.out PR.out _ _ _ _ _ _ _ _ _ _ _ _ _ _ _ _ _ _ _ _ _ _ _ _ _ _ _ _ _ _ _ _ _ _ _ _ _ _ _ _ _ _ _ _ _ _ _ _ _ _ _ _ _ _ _ _ _ _ _ _ _ _ _ _ _ _ _ _ _ _ _ _ _ _ _ _ _ _ _ _ _ _ _ _ _ _ _ _ _ _ _ _ _ _ _ _ _ _ _ _ _ _ _ _ _ _ _ _ _ _ _ _ _ _ _ _ _ _ _ _ _ _ _ _ _ _ _ _ _ _ _ _ _ _ _ _ _ _ _ _ _ _ _ _ _ _ _ _ _ _ _ _ _ _ _ _ _ _ _ _ _ _ _ _ _ _ _ _ _ _ _ _ _ _ _ _ _ _ _ _ _ _ _ _ _ _ _ _ _ _ _
set_option maxRecDepth 100000 in
set_option maxHeartbeats 64000000 in
theorem order_any (o1 : Option Addr) (n1 c1 : Nat) (o2 : Option Addr) (n2 c2 : Nat) (o3 : Option Addr) (n3 c3 : Nat) (h1 : Option Addr) (h2 h3 : Nat) (g1 : Option Addr) (g2 g3 : Nat) (ns os rs has vals : List Int) (w : World)
    (ia : In.InInts w (.slice o1 n1 c1) ns) (ib : In.InInts w (.slice o2 n2 c2) os) (ic : In.InInts w (.slice o3 n3 c3) rs) (ih : In.InInts w (.slice h1 h2 h3) has) (iv : In.InInts w (.slice g1 g2 g3) vals) (la : ns.length ≤ maxLen) (lb : os.length ≤ maxLen) (_lc : rs.length ≤ maxLen) (lh : has.length ≤ maxLen) (lv : vals.length ≤ maxLen) :
    Calls Tryz.prog 5 #[.slice o1 n1 c1, .slice o2 n2 c2, .slice o3 n3 c3, .agg #[.slice h1 h2 h3, .slice g1 g2 g3]] w fun e w' => e = .returned (.bool true) ∧ Below w.heap.size w w' := by
  obtain rfl : n1 = ns.length := by obtain ⟨_, _, hv⟩ := ia.shape; simpa using congrArg (fun v => match v with | Value.slice _ n _ => n | _ => 0) hv
  obtain rfl : n2 = os.length := by obtain ⟨_, _, hv⟩ := ib.shape; simpa using congrArg (fun v => match v with | Value.slice _ n _ => n | _ => 0) hv
  obtain rfl : n3 = rs.length := by obtain ⟨_, _, hv⟩ := ic.shape; simpa using congrArg (fun v => match v with | Value.slice _ n _ => n | _ => 0) hv
  have n0 := newB w (.cells #[.slice h1 h2 h3, .slice g1 g2 g3] 32)
  have XP := Lib.hid (box_new w #[.slice h1 h2 h3, .slice g1 g2 g3] 32)
  have IA := Lib.hid (ia.on n0)
  have IB := Lib.hid (ib.on n0)
  have IC := Lib.hid (ic.on n0)
  have IH := Lib.hid (ih.on n0)
  have IV := Lib.hid (iv.on n0)
  have B0 := Lib.hid n0
  have WL := Lib.hid (show w.heap.size < (w.alloc (.cells #[.slice h1 h2 h3, .slice g1 g2 g3] 32)).heap.size from by simp)
  have WQ := Lib.hid (show (w.alloc (.cells #[.slice h1 h2 h3, .slice g1 g2 g3] 32)).heap.size ≤ w.heap.size + 1 from by simp)
  clear n0 ia ib ic ih iv
  have hmm := @run_makeMap Tryz.prog
  go_enter Tryz.func5, Tryz.ntmps5
  conv => enter [2, 2, 2, 2]; change order_3C
  go_wp2_with fail
  have XM := Lib.hid (inMap_made (w.alloc (.cells #[.slice h1 h2 h3, .slice g1 g2 g3] 32)))
  have SW := more_one w (.cells #[.slice h1 h2 h3, .slice g1 g2 g3] 32)
  rw [← SW] at XM
  have NM := newB (w.alloc (.cells #[.slice h1 h2 h3, .slice g1 g2 g3] 32)) (.map #[] 0)
  have GM := Lib.hid NM
  clear NM hmm SW
  generalize ((w.alloc (.cells #[.slice h1 h2 h3, .slice g1 g2 g3] 32)).alloc (.map #[] 0)) = W1 at *
  generalize w.alloc (.cells #[.slice h1 h2 h3, .slice g1 g2 g3] 32) = W at *
  exact order_3 w W1 W o1 c1 o2 c2 o3 c3 h1 h2 h3 g1 g2 g3 ns os rs has vals B0.out GM.out WL.out WQ.out XP.out XM.out IA.out IB.out IC.out IH.out IV.out la lb lh lv _ _ _ _ _ _ _ _ _ _ _ _ _ _ _ _ _ _ _ _ _ _ _ _ _ _ _ _ _ _ _ _ _ _ _ _ _ _ _ _ _ _ _ _ _ _ _ _ _ _ _ _ _ _ _ _ _ _ _ _ _ _ _ _ _ _ _ _ _ _ _ _ _ _ _ _ _ _ _ _ _ _ _ _ _ _ _ _ _ _ _ _ _ _ _ _ _ _ _ _ _ _ _ _ _ _ _ _ _ _ _ _ _ _ _ _ _ _ _ _ _ _ _ _ _ _ _ _ _ _ _ _ _ _ _ _ _ _ _ _ _ _ _ _ _ _ _ _ _ _ _ _ _ _ _ _ _ _ _ _ _ _ _ _ _ _ _ _ _ _ _ _ _ _ _ _ _ _ _ _ _ _ _ _ _ _ _ _
end Go.Proofs.YtonoadjmglkhaaaGreat.Av
