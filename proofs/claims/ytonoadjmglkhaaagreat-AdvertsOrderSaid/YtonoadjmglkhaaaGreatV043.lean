/-
  AdvertsOrder's region that turns a row of advertisements: one of them first, then the others. Condition: few of them.
  AdvertsOrder's loop that turns the row. Conditions as the theorem states them.
  AdvertsOrder's region that copies the row. Conditions as the theorem states them.
-/
import Derived.Test.YtonoadjmglkhaaaGreatV005
import Derived.Test.YtonoadjmglkhaaaGreatV020
import Derived.Test.YtonoadjmglkhaaaGreatV040
import Derived.Test.YtonoadjmglkhaaaGreatV021
import Derived.Test.YtonoadjmglkhaaaGreatV042
namespace Go.Proofs.YtonoadjmglkhaaaGreat.Av
open Go.RowKit Go.Sort Go.Proofs.YtonoadjmglkhaaaGreat Go.Proofs.YtonoadjmglkhaaaGreat.Rw Go.Proofs.YtonoadjmglkhaaaGreat.Nm Go.Proofs.YtonoadjmglkhaaaGreat.Pr Go.Proofs.YtonoadjmglkhaaaGreat.Bk

def ord15V (B : Nat) (at_ : Nat) (rv lo hiv : Value) (p : Addr) (z : XAd) (lt ld : List XAd) (i : Nat) (v : Value) (x : World) : Prop :=
  match i with
  | 0 => ∃ g, v = .slice (some ⟨g, 0, none⟩) 0 0 ∧ B ≤ g ∧ Box x g #[] 42
  | 1 => v = rv
  | 2 => v = .int .i64 (at_ : Int)
  | 3 => v = .pointer (some p)
  | 4 => v = valD z
  | 5 => OwnD x B v [z]
  | 6 => OwnD x B v [z]
  | 7 => v = rv
  | 8 => v = .int .i64 (at_ : Int)
  | 9 => v = lo
  | 10 => OwnD x B v ([z] ++ lt)
  | 11 => v = rv
  | 12 => v = .int .i64 (at_ : Int)
  | 13 => v = .int .i64 ((at_ : Int) + 1)
  | 14 => v = hiv
  | 15 => OwnD x B v ([z] ++ lt ++ ld)
  | _ => True
noncomputable def ord15C : Code := ((Tryz.f5.body.bind (findRegion 15)).getD .skip)
theorem ord15V_on (B : Nat) (at_ : Nat) (rv lo hiv : Value) (p : Addr) (z : XAd) (lt ld : List XAd) (i : Nat) (v : Value) (x x' : World) (h : ord15V B at_ rv lo hiv p z lt ld i v x) (hb : Below x.heap.size x x') : ord15V B at_ rv lo hiv p z lt ld i v x' := by
  by_cases hi : i < 16
  · rcases (by omega : i = 0 ∨ i = 1 ∨ i = 2 ∨ i = 3 ∨ i = 4 ∨ i = 5 ∨ i = 6 ∨ i = 7 ∨ i = 8 ∨ i = 9 ∨ i = 10 ∨ i = 11 ∨ i = 12 ∨ i = 13 ∨ i = 14 ∨ i = 15) with rfl | rfl | rfl | rfl | rfl | rfl | rfl | rfl | rfl | rfl | rfl | rfl | rfl | rfl | rfl | rfl
    · obtain ⟨g, h1, h2, h3⟩ := h; exact ⟨g, h1, h2, h3.on hb⟩
    · exact h
    · exact h
    · exact h
    · exact h
    · exact Bk.own_on h hb
    · exact Bk.own_on h hb
    · exact h
    · exact h
    · exact h
    · exact Bk.own_on h hb
    · exact h
    · exact h
    · exact h
    · exact h
    · exact Bk.own_on h hb
  · unfold ord15V
    split <;> first | omega | trivial
set_option maxRecDepth 100000 in
set_option maxHeartbeats 8000000 in
theorem ord15 (Q : Exit → Act → World → Prop) (W : World) (at_ : Nat) (rv lo hiv : Value) (p : Addr) (z : XAd) (lt ld : List XAd) (u0 u1 u2 u3 u4 u5 u6 u7 u8 u9 u10 u11 u12 u14 u16 u17 u18 u19 u20 u21 u22 u23 u24 u25 u26 u27 u28 u29 u30 u31 u32 u33 u34 u35 u36 u37 u38 u39 u40 u41 u42 u43 u44 u45 u46 u47 u48 u49 u50 u51 u52 u53 u54 u55 u56 u57 u58 u59 u60 u61 u62 u63 u64 u65 u66 u67 u68 u69 u70 u71 u72 u73 u74 u75 u76 u77 u78 u79 u80 u81 u82 u83 u84 u85 u86 u87 u88 u89 u90 u91 u92 u93 u94 u95 u96 u97 u98 u99 u100 u101 u102 u103 u104 u105 u106 u107 u108 u109 u110 u111 u112 u113 u114 u115 u116 u117 u118 u119 u120 u121 u122 u123 u124 u125 u126 u127 u128 u129 u130 u131 u132 u133 u134 u135 u136 u137 u138 u139 u140 u141 u142 u143 u144 u145 u146 u147 u148 u149 u150 u151 u152 u153 u154 u155 u156 u157 u158 u159 u160 u161 u162 u163 u164 u165 u166 u167 u168 u169 u170 u171 u172 u173 u174 u175 u176 u177 u178 u179 u180 u181 u182 u183 u184 u185 u186 u187 u188 u189 u190 u191 u192 u193 : Value)
    (ix : ∀ w, (Instr.indexAt 24 rv (.int .i64 (at_ : Int))).run Tryz.prog w = .ok (.pointer (some p)) w) (px : ∀ x, Below W.heap.size W x → ∀ j u, (cellsD z)[j]? = some u → x.cell? (p.add j) = some u) (slo : ∀ w, (Instr.sliceAt 24 rv none (some (.int .i64 (at_ : Int))) none).run Tryz.prog w = .ok lo w) (shi : ∀ w, (Instr.sliceAt 24 rv (some (.int .i64 ((at_ : Int) + 1))) none none).run Tryz.prog w = .ok hiv w) (rlo : RowD W lo lt) (rhi : RowD W hiv ld) (lt9 : lt.length ≤ 900) (ld9 : ld.length ≤ 900) (a9 : at_ ≤ 900)
    (hQ : ∀ (x : World) (w13 : Value) (v81 v82 v83 v84 v85 v86 v87 v88 v89 v90 v91 v92 v93 v94 v95 v96 : Value), OwnD x W.heap.size w13 ([z] ++ lt ++ ld) → Below W.heap.size W x → Q .normal ⟨(u0 :: u1 :: u2 :: u3 :: u4 :: u5 :: u6 :: u7 :: u8 :: u9 :: u10 :: u11 :: u12 :: w13 :: u14 :: .int .i64 (at_ : Int) :: u16 :: u17 :: u18 :: u19 :: u20 :: u21 :: u22 :: u23 :: u24 :: u25 :: u26 :: u27 :: u28 :: u29 :: u30 :: u31 :: u32 :: u33 :: u34 :: u35 :: u36 :: u37 :: u38 :: u39 :: u40 :: u41 :: u42 :: u43 :: u44 :: u45 :: u46 :: u47 :: u48 :: u49 :: u50 :: u51 :: u52 :: u53 :: u54 :: u55 :: u56 :: u57 :: u58 :: u59 :: u60 :: u61 :: u62 :: u63 :: u64 :: u65 :: u66 :: u67 :: u68 :: u69 :: u70 :: u71 :: u72 :: u73 :: u74 :: u75 :: u76 :: u77 :: u78 :: u79 :: u80 :: v81 :: v82 :: v83 :: v84 :: v85 :: v86 :: v87 :: v88 :: v89 :: v90 :: v91 :: v92 :: v93 :: v94 :: v95 :: v96 :: u97 :: u98 :: u99 :: u100 :: u101 :: u102 :: u103 :: u104 :: u105 :: u106 :: u107 :: u108 :: u109 :: u110 :: u111 :: u112 :: u113 :: u114 :: u115 :: u116 :: u117 :: u118 :: u119 :: u120 :: u121 :: u122 :: u123 :: u124 :: u125 :: u126 :: u127 :: u128 :: u129 :: u130 :: u131 :: u132 :: u133 :: u134 :: u135 :: u136 :: u137 :: u138 :: u139 :: u140 :: u141 :: u142 :: u143 :: u144 :: u145 :: u146 :: u147 :: u148 :: u149 :: u150 :: u151 :: u152 :: u153 :: u154 :: u155 :: u156 :: u157 :: u158 :: u159 :: u160 :: u161 :: u162 :: u163 :: u164 :: u165 :: u166 :: u167 :: u168 :: u169 :: u170 :: u171 :: u172 :: u173 :: u174 :: u175 :: u176 :: u177 :: u178 :: u179 :: u180 :: u181 :: u182 :: u183 :: u184 :: u185 :: u186 :: u187 :: u188 :: u189 :: u190 :: u191 :: u192 :: u193 :: []).toArray, []⟩ x) :
    Code.wp Tryz.prog ord15C Q ⟨(u0 :: u1 :: u2 :: u3 :: u4 :: u5 :: u6 :: u7 :: u8 :: u9 :: u10 :: u11 :: u12 :: rv :: u14 :: .int .i64 (at_ : Int) :: u16 :: u17 :: u18 :: u19 :: u20 :: u21 :: u22 :: u23 :: u24 :: u25 :: u26 :: u27 :: u28 :: u29 :: u30 :: u31 :: u32 :: u33 :: u34 :: u35 :: u36 :: u37 :: u38 :: u39 :: u40 :: u41 :: u42 :: u43 :: u44 :: u45 :: u46 :: u47 :: u48 :: u49 :: u50 :: u51 :: u52 :: u53 :: u54 :: u55 :: u56 :: u57 :: u58 :: u59 :: u60 :: u61 :: u62 :: u63 :: u64 :: u65 :: u66 :: u67 :: u68 :: u69 :: u70 :: u71 :: u72 :: u73 :: u74 :: u75 :: u76 :: u77 :: u78 :: u79 :: u80 :: u81 :: u82 :: u83 :: u84 :: u85 :: u86 :: u87 :: u88 :: u89 :: u90 :: u91 :: u92 :: u93 :: u94 :: u95 :: u96 :: u97 :: u98 :: u99 :: u100 :: u101 :: u102 :: u103 :: u104 :: u105 :: u106 :: u107 :: u108 :: u109 :: u110 :: u111 :: u112 :: u113 :: u114 :: u115 :: u116 :: u117 :: u118 :: u119 :: u120 :: u121 :: u122 :: u123 :: u124 :: u125 :: u126 :: u127 :: u128 :: u129 :: u130 :: u131 :: u132 :: u133 :: u134 :: u135 :: u136 :: u137 :: u138 :: u139 :: u140 :: u141 :: u142 :: u143 :: u144 :: u145 :: u146 :: u147 :: u148 :: u149 :: u150 :: u151 :: u152 :: u153 :: u154 :: u155 :: u156 :: u157 :: u158 :: u159 :: u160 :: u161 :: u162 :: u163 :: u164 :: u165 :: u166 :: u167 :: u168 :: u169 :: u170 :: u171 :: u172 :: u173 :: u174 :: u175 :: u176 :: u177 :: u178 :: u179 :: u180 :: u181 :: u182 :: u183 :: u184 :: u185 :: u186 :: u187 :: u188 :: u189 :: u190 :: u191 :: u192 :: u193 :: []).toArray, []⟩ W := by
  have HQ := Lib.hid hQ
  have IX := Lib.hid ix
  have PX := Lib.hid px
  have SLO := Lib.hid slo
  have SHI := Lib.hid shi
  have RLO := Lib.hid rlo
  have RHI := Lib.hid rhi
  have LT := Lib.hid (show lt.length ≤ 900 from lt9)
  have LD := Lib.hid (show ld.length ≤ 1000 from Nat.le_trans ld9 (by decide))
  have AT1 := Lib.hid a9
  clear hQ ix px slo shi rlo rhi lt9 ld9 a9
  have stab := ord15V_on W.heap.size at_ rv lo hiv p z lt ld
  unfold ord15C
  conv => arg 2; whnf
  have nd : ∀ j, (∀ i, i < 16 → [81, 82, 83, 84, 85, 86, 87, 88, 89, 90, 91, 92, 93, 94, 95, 96].getD i 0 ≠ j) → ∀ i, i < 16 → (fun i => [81, 82, 83, 84, 85, 86, 87, 88, 89, 90, 91, 92, 93, 94, 95, 96].getD i 0) i ≠ j := fun j h => h
  refine Rg.region_live 17 16 (fun i => [81, 82, 83, 84, 85, 86, 87, 88, 89, 90, 91, 92, 93, 94, 95, 96].getD i 0) (fun i => if i = 0 then 6 else if i = 5 then 6 else if i = 6 then 10 else if i = 10 then 15 else 16) (ord15V W.heap.size at_ rv lo hiv p z lt ld) (by kernel_rfl) (by kernel_rfl) rfl (by decide) (fun i j hi hj h => (by decide : ∀ i, i < 16 → ∀ j, j < 16 → [81, 82, 83, 84, 85, 86, 87, 88, 89, 90, 91, 92, 93, 94, 95, 96].getD i 0 = [81, 82, 83, 84, 85, 86, 87, 88, 89, 90, 91, 92, 93, 94, 95, 96].getD j 0 → i = j) i hi j hj h) (fun i hi => (by decide : ∀ i, i < 16 → [81, 82, 83, 84, 85, 86, 87, 88, 89, 90, 91, 92, 93, 94, 95, 96].getD i 0 < 194) i hi) ?_ (fun _ => Rg.hall_of 14 (by kernel_rfl)) ?_ ?_
  · intro i o hi ho a x D hnd hc hD hb seen K hK
    clear HQ
    rcases (by omega : i = 0 ∨ i = 1 ∨ i = 2 ∨ i = 3 ∨ i = 4 ∨ i = 5 ∨ i = 6 ∨ i = 7 ∨ i = 8 ∨ i = 9 ∨ i = 10 ∨ i = 11 ∨ i = 12 ∨ i = 13 ∨ i = 14 ∨ i = 15) with rfl | rfl | rfl | rfl | rfl | rfl | rfl | rfl | rfl | rfl | rfl | rfl | rfl | rfl | rfl | rfl
    · obtain rfl := Option.some.inj ho
      exact Rg.op_value rfl rfl (Rg.ex_build a.eval _ 24 0 #[] rfl rfl (by simp [go_sem])) (hK (.slice (some ⟨x.heap.size, 0, none⟩) 0 0) (x.alloc (.cells #[] 42)) ⟨x.heap.size, rfl, hb.size, box_new x #[] 42⟩ ((Below.refl _ _).alloc hb.size _) fun j u _ _ _ _ _ h => stab j u _ _ h ((Below.refl _ _).alloc (Nat.le_refl _) _))
    · obtain rfl := Option.some.inj ho
      have e13 : a.eval (.tmp 13) = rv := seen.kp 13 _ (nd 13 (by decide)) rfl
      exact Rg.op_value rfl rfl (Rg.ex_move a.eval _ (.tmp 13) rfl x) (hK _ _ e13 (Below.refl _ _) fun _ _ _ _ _ _ _ h => h)
    · obtain rfl := Option.some.inj ho
      have e15 : a.eval (.tmp 15) = .int .i64 (at_ : Int) := seen.kp 15 _ (nd 15 (by decide)) rfl
      exact Rg.op_value rfl rfl (Rg.ex_move a.eval _ (.tmp 15) rfl x) (hK _ _ e15 (Below.refl _ _) fun _ _ _ _ _ _ _ h => h)
    · obtain rfl := Option.some.inj ho
      have e82 : a.eval (.tmp 82) = rv := seen.at_ ⟨1, .data⟩ (by simp) rfl (Or.inr (by decide))
      have e83 : a.eval (.tmp 83) = .int .i64 (at_ : Int) := seen.at_ ⟨2, .data⟩ (by simp) rfl (Or.inr (by decide))
      exact Rg.op_value rfl rfl (Rg.ex_index a.eval _ 24 (.tmp 82) (.tmp 83) rfl (by rw [e82, e83]; exact IX.out x)) (hK _ _ rfl (Below.refl _ _) fun _ _ _ _ _ _ _ h => h)
    · obtain rfl := Option.some.inj ho
      have e84 : a.eval (.tmp 84) = .pointer (some p) := seen.at_ ⟨3, .data⟩ (by simp) rfl (Or.inr (by decide))
      exact Rg.op_value rfl rfl (Rg.ex_load a.eval _ 42 (.tmp 84) rfl (by rw [e84]; exact loadD x p z (PX.out x hb))) (hK _ _ rfl (Below.refl _ _) fun _ _ _ _ _ _ _ h => h)
    · obtain rfl := Option.some.inj ho
      have e85 : a.eval (.tmp 85) = valD z := seen.at_ ⟨4, .data⟩ (by simp) rfl (Or.inr (by decide))
      have hl := row_lit okD x [z] 1 rfl (by simp) (cellsD z).toArray (by simp [flat, ED])
      have nb := newB x (.cells (cellsD z).toArray 42)
      exact Rg.op_value rfl rfl (Rg.ex_build a.eval _ 24 1 #[(0, .tmp 85)] rfl (ps := #[(0, valD z)]) (by simp [e85]) (by simp [go_sem])) (hK (.slice (some ⟨x.heap.size, 0, none⟩) 1 1) (x.alloc (.cells (cellsD z).toArray 42)) (own_fewer hl hb.size) (nb.mono hb.size) fun j u _ _ _ _ _ h => stab j u _ _ h nb)
    · obtain rfl := Option.some.inj ho
      have E81 := seen.at_ ⟨0, .data⟩ (by simp) rfl (Or.inl rfl)
      have E86 := seen.at_ ⟨5, .data⟩ (by simp) rfl (Or.inl rfl)
      obtain ⟨g, q0, hBg, hbx⟩ := E81
      have q0 : a.eval (.tmp 81) = .slice (some ⟨g, 0, none⟩) 0 0 := q0
      have o86 : OwnD x W.heap.size (a.eval (.tmp 86)) [z] := E86
      obtain ⟨v', x', r, o', gr⟩ := app_fresh okD W.heap.size hbx hBg (Row.of_own o86) (by simp) 24
      exact Rg.op_value rfl rfl (Rg.ex_append a.eval _ (.tmp 81) (.tmp 86) 24 rfl q0 rfl r) (hK v' x' o' (gr.mono hb.size) fun j u _ _ _ _ _ h => stab j u _ _ h gr)
    · obtain rfl := Option.some.inj ho
      have e13 : a.eval (.tmp 13) = rv := seen.kp 13 _ (nd 13 (by decide)) rfl
      exact Rg.op_value rfl rfl (Rg.ex_move a.eval _ (.tmp 13) rfl x) (hK _ _ e13 (Below.refl _ _) fun _ _ _ _ _ _ _ h => h)
    · obtain rfl := Option.some.inj ho
      have e15 : a.eval (.tmp 15) = .int .i64 (at_ : Int) := seen.kp 15 _ (nd 15 (by decide)) rfl
      exact Rg.op_value rfl rfl (Rg.ex_move a.eval _ (.tmp 15) rfl x) (hK _ _ e15 (Below.refl _ _) fun _ _ _ _ _ _ _ h => h)
    · obtain rfl := Option.some.inj ho
      have e88 : a.eval (.tmp 88) = rv := seen.at_ ⟨7, .data⟩ (by simp) rfl (Or.inr (by decide))
      have e89 : a.eval (.tmp 89) = .int .i64 (at_ : Int) := seen.at_ ⟨8, .data⟩ (by simp) rfl (Or.inr (by decide))
      exact Rg.op_value rfl rfl (Rg.ex_slice a.eval _ 24 (.tmp 88) none (some (.tmp 89)) none rfl (by show (Instr.sliceAt 24 (a.eval (.tmp 88)) none (some (a.eval (.tmp 89))) none).run Tryz.prog x = .ok lo x; rw [e88, e89]; exact SLO.out x)) (hK _ _ rfl (Below.refl _ _) fun _ _ _ _ _ _ _ h => h)
    · obtain rfl := Option.some.inj ho
      have E87 := seen.at_ ⟨6, .data⟩ (by simp) rfl (Or.inl rfl)
      have e90 : a.eval (.tmp 90) = lo := seen.at_ ⟨9, .data⟩ (by simp) rfl (Or.inr (by decide))
      have o87 : OwnD x W.heap.size (a.eval (.tmp 87)) [z] := E87
      have d6 := hD ⟨6, .data⟩ (by simp) rfl
      obtain ⟨v', x', r, o', gr⟩ := app_row okD W.heap.size o87 (RLO.out.on hb) (by simp) (Nat.le_trans LT.out (by decide)) hb.size 24
      exact Rg.op_value rfl rfl (Rg.ex_append a.eval _ (.tmp 87) (.tmp 90) 24 rfl rfl e90 r) (hK v' x' o' ((Below.refl _ x).grown gr hb.size fun j hj => (o87.lt j hj).1) fun j u hj dj nl nx ni h => by
        rcases (by omega : j = 0 ∨ j = 1 ∨ j = 2 ∨ j = 3 ∨ j = 4 ∨ j = 5 ∨ j = 6 ∨ j = 7 ∨ j = 8 ∨ j = 9 ∨ j = 10 ∨ j = 11 ∨ j = 12 ∨ j = 13 ∨ j = 14 ∨ j = 15) with rfl | rfl | rfl | rfl | rfl | rfl | rfl | rfl | rfl | rfl | rfl | rfl | rfl | rfl | rfl | rfl
        · exact absurd d6 nl
        · exact h
        · exact h
        · exact h
        · exact h
        · exact absurd d6 nl
        · exact absurd rfl nx
        · exact h
        · exact h
        · exact h
        · exact absurd rfl ni
        · exact h
        · exact h
        · exact h
        · exact h
        · exact absurd (hc 15 _ dj rfl ⟨10, .data⟩ (by simp) rfl) hnd)
    · obtain rfl := Option.some.inj ho
      have e13 : a.eval (.tmp 13) = rv := seen.kp 13 _ (nd 13 (by decide)) rfl
      exact Rg.op_value rfl rfl (Rg.ex_move a.eval _ (.tmp 13) rfl x) (hK _ _ e13 (Below.refl _ _) fun _ _ _ _ _ _ _ h => h)
    · obtain rfl := Option.some.inj ho
      have e15 : a.eval (.tmp 15) = .int .i64 (at_ : Int) := seen.kp 15 _ (nd 15 (by decide)) rfl
      exact Rg.op_value rfl rfl (Rg.ex_move a.eval _ (.tmp 15) rfl x) (hK _ _ e15 (Below.refl _ _) fun _ _ _ _ _ _ _ h => h)
    · obtain rfl := Option.some.inj ho
      have e93 : a.eval (.tmp 93) = .int .i64 (at_ : Int) := seen.at_ ⟨12, .data⟩ (by simp) rfl (Or.inr (by decide))
      exact Rg.op_value rfl rfl (Rg.ex_bin a.eval _ .add 3 (.tmp 93) (.const (.int .i64 1)) 3 rfl (by rw [e93]; exact add_one _ _ _ _ at_ AT1.out)) (hK _ _ rfl (Below.refl _ _) fun _ _ _ _ _ _ _ h => h)
    · obtain rfl := Option.some.inj ho
      have e92 : a.eval (.tmp 92) = rv := seen.at_ ⟨11, .data⟩ (by simp) rfl (Or.inr (by decide))
      have e94 : a.eval (.tmp 94) = .int .i64 ((at_ : Int) + 1) := seen.at_ ⟨13, .data⟩ (by simp) rfl (Or.inr (by decide))
      exact Rg.op_value rfl rfl (Rg.ex_slice a.eval _ 24 (.tmp 92) (some (.tmp 94)) none none rfl (by show (Instr.sliceAt 24 (a.eval (.tmp 92)) (some (a.eval (.tmp 94))) none none).run Tryz.prog x = .ok hiv x; rw [e92, e94]; exact SHI.out x)) (hK _ _ rfl (Below.refl _ _) fun _ _ _ _ _ _ _ h => h)
    · obtain rfl := Option.some.inj ho
      have E91 := seen.at_ ⟨10, .data⟩ (by simp) rfl (Or.inl rfl)
      have e95 : a.eval (.tmp 95) = hiv := seen.at_ ⟨14, .data⟩ (by simp) rfl (Or.inr (by decide))
      have o91 : OwnD x W.heap.size (a.eval (.tmp 91)) ([z] ++ lt) := E91
      have d10 := hD ⟨10, .data⟩ (by simp) rfl
      have d6 := hc 10 _ d10 rfl ⟨6, .data⟩ (by simp) rfl
      obtain ⟨v', x', r, o', gr⟩ := app_row okD W.heap.size o91 (RHI.out.on hb) (by have := LT.out; rw [List.length_append, List.length_singleton]; omega) LD.out hb.size 24
      exact Rg.op_value rfl rfl (Rg.ex_append a.eval _ (.tmp 91) (.tmp 95) 24 rfl rfl e95 r) (hK v' x' o' ((Below.refl _ x).grown gr hb.size fun j hj => (o91.lt j hj).1) fun j u hj dj nl nx ni h => by
        rcases (by omega : j = 0 ∨ j = 1 ∨ j = 2 ∨ j = 3 ∨ j = 4 ∨ j = 5 ∨ j = 6 ∨ j = 7 ∨ j = 8 ∨ j = 9 ∨ j = 10 ∨ j = 11 ∨ j = 12 ∨ j = 13 ∨ j = 14 ∨ j = 15) with rfl | rfl | rfl | rfl | rfl | rfl | rfl | rfl | rfl | rfl | rfl | rfl | rfl | rfl | rfl | rfl
        · exact absurd d6 nl
        · exact h
        · exact h
        · exact h
        · exact h
        · exact absurd d6 nl
        · exact absurd d10 nl
        · exact h
        · exact h
        · exact h
        · exact absurd rfl nx
        · exact h
        · exact h
        · exact h
        · exact h
        · exact absurd rfl ni)
  · intro kk o h1 h2 ho
    omega
  · intro a w' df sz kp ⟨vs, hv⟩ hb
    have sz' : a.tmps.size = 194 := sz
    have g96 : a.tmps[96]? = some (vs 15) := (hv 15 (by omega)).1
    have G96 := (hv 15 (by omega)).2 (by decide)
    have o96 : OwnD w' W.heap.size (vs 15) ([z] ++ lt ++ ld) := G96
    generalize vs 15 = v' at *
    show Rg.SeqFrom _ _ _ 1 16 a w'
    simp only [Rg.SeqFrom]
    refine Rg.op_value rfl rfl (Rg.ex_assign _ _ (.tmp 96) rfl w') ?_
    show Q .normal (a.put (some 13) (a.eval (.tmp 96))) w'
    rw [Rg.eval_some g96]
    have ka : ∀ j, j ≠ 13 → (a.put (some 13) v').tmps[j]? = a.tmps[j]? := fun j h1 => by rw [Rg.get_put _ _ _ _ (by omega)]
    have kt : (a.put (some 13) v').tmps[13]? = some (v') := by simp [Act.put, sz']
    have kp2 : ∀ j, (j < 81 ∨ 97 ≤ j) → (a.put (some 13) v').tmps[j]? = (u0 :: u1 :: u2 :: u3 :: u4 :: u5 :: u6 :: u7 :: u8 :: u9 :: u10 :: u11 :: u12 :: v' :: u14 :: .int .i64 (at_ : Int) :: u16 :: u17 :: u18 :: u19 :: u20 :: u21 :: u22 :: u23 :: u24 :: u25 :: u26 :: u27 :: u28 :: u29 :: u30 :: u31 :: u32 :: u33 :: u34 :: u35 :: u36 :: u37 :: u38 :: u39 :: u40 :: u41 :: u42 :: u43 :: u44 :: u45 :: u46 :: u47 :: u48 :: u49 :: u50 :: u51 :: u52 :: u53 :: u54 :: u55 :: u56 :: u57 :: u58 :: u59 :: u60 :: u61 :: u62 :: u63 :: u64 :: u65 :: u66 :: u67 :: u68 :: u69 :: u70 :: u71 :: u72 :: u73 :: u74 :: u75 :: u76 :: u77 :: u78 :: u79 :: u80 :: u81 :: u82 :: u83 :: u84 :: u85 :: u86 :: u87 :: u88 :: u89 :: u90 :: u91 :: u92 :: u93 :: u94 :: u95 :: u96 :: u97 :: u98 :: u99 :: u100 :: u101 :: u102 :: u103 :: u104 :: u105 :: u106 :: u107 :: u108 :: u109 :: u110 :: u111 :: u112 :: u113 :: u114 :: u115 :: u116 :: u117 :: u118 :: u119 :: u120 :: u121 :: u122 :: u123 :: u124 :: u125 :: u126 :: u127 :: u128 :: u129 :: u130 :: u131 :: u132 :: u133 :: u134 :: u135 :: u136 :: u137 :: u138 :: u139 :: u140 :: u141 :: u142 :: u143 :: u144 :: u145 :: u146 :: u147 :: u148 :: u149 :: u150 :: u151 :: u152 :: u153 :: u154 :: u155 :: u156 :: u157 :: u158 :: u159 :: u160 :: u161 :: u162 :: u163 :: u164 :: u165 :: u166 :: u167 :: u168 :: u169 :: u170 :: u171 :: u172 :: u173 :: u174 :: u175 :: u176 :: u177 :: u178 :: u179 :: u180 :: u181 :: u182 :: u183 :: u184 :: u185 :: u186 :: u187 :: u188 :: u189 :: u190 :: u191 :: u192 :: u193 :: [])[j]? := fun j hj => by
      by_cases hj2 : j = 13
      · subst hj2
        exact kt
      · have hs : (u0 :: u1 :: u2 :: u3 :: u4 :: u5 :: u6 :: u7 :: u8 :: u9 :: u10 :: u11 :: u12 :: v' :: u14 :: .int .i64 (at_ : Int) :: u16 :: u17 :: u18 :: u19 :: u20 :: u21 :: u22 :: u23 :: u24 :: u25 :: u26 :: u27 :: u28 :: u29 :: u30 :: u31 :: u32 :: u33 :: u34 :: u35 :: u36 :: u37 :: u38 :: u39 :: u40 :: u41 :: u42 :: u43 :: u44 :: u45 :: u46 :: u47 :: u48 :: u49 :: u50 :: u51 :: u52 :: u53 :: u54 :: u55 :: u56 :: u57 :: u58 :: u59 :: u60 :: u61 :: u62 :: u63 :: u64 :: u65 :: u66 :: u67 :: u68 :: u69 :: u70 :: u71 :: u72 :: u73 :: u74 :: u75 :: u76 :: u77 :: u78 :: u79 :: u80 :: u81 :: u82 :: u83 :: u84 :: u85 :: u86 :: u87 :: u88 :: u89 :: u90 :: u91 :: u92 :: u93 :: u94 :: u95 :: u96 :: u97 :: u98 :: u99 :: u100 :: u101 :: u102 :: u103 :: u104 :: u105 :: u106 :: u107 :: u108 :: u109 :: u110 :: u111 :: u112 :: u113 :: u114 :: u115 :: u116 :: u117 :: u118 :: u119 :: u120 :: u121 :: u122 :: u123 :: u124 :: u125 :: u126 :: u127 :: u128 :: u129 :: u130 :: u131 :: u132 :: u133 :: u134 :: u135 :: u136 :: u137 :: u138 :: u139 :: u140 :: u141 :: u142 :: u143 :: u144 :: u145 :: u146 :: u147 :: u148 :: u149 :: u150 :: u151 :: u152 :: u153 :: u154 :: u155 :: u156 :: u157 :: u158 :: u159 :: u160 :: u161 :: u162 :: u163 :: u164 :: u165 :: u166 :: u167 :: u168 :: u169 :: u170 :: u171 :: u172 :: u173 :: u174 :: u175 :: u176 :: u177 :: u178 :: u179 :: u180 :: u181 :: u182 :: u183 :: u184 :: u185 :: u186 :: u187 :: u188 :: u189 :: u190 :: u191 :: u192 :: u193 :: [] : List Value) = (u0 :: u1 :: u2 :: u3 :: u4 :: u5 :: u6 :: u7 :: u8 :: u9 :: u10 :: u11 :: u12 :: rv :: u14 :: .int .i64 (at_ : Int) :: u16 :: u17 :: u18 :: u19 :: u20 :: u21 :: u22 :: u23 :: u24 :: u25 :: u26 :: u27 :: u28 :: u29 :: u30 :: u31 :: u32 :: u33 :: u34 :: u35 :: u36 :: u37 :: u38 :: u39 :: u40 :: u41 :: u42 :: u43 :: u44 :: u45 :: u46 :: u47 :: u48 :: u49 :: u50 :: u51 :: u52 :: u53 :: u54 :: u55 :: u56 :: u57 :: u58 :: u59 :: u60 :: u61 :: u62 :: u63 :: u64 :: u65 :: u66 :: u67 :: u68 :: u69 :: u70 :: u71 :: u72 :: u73 :: u74 :: u75 :: u76 :: u77 :: u78 :: u79 :: u80 :: u81 :: u82 :: u83 :: u84 :: u85 :: u86 :: u87 :: u88 :: u89 :: u90 :: u91 :: u92 :: u93 :: u94 :: u95 :: u96 :: u97 :: u98 :: u99 :: u100 :: u101 :: u102 :: u103 :: u104 :: u105 :: u106 :: u107 :: u108 :: u109 :: u110 :: u111 :: u112 :: u113 :: u114 :: u115 :: u116 :: u117 :: u118 :: u119 :: u120 :: u121 :: u122 :: u123 :: u124 :: u125 :: u126 :: u127 :: u128 :: u129 :: u130 :: u131 :: u132 :: u133 :: u134 :: u135 :: u136 :: u137 :: u138 :: u139 :: u140 :: u141 :: u142 :: u143 :: u144 :: u145 :: u146 :: u147 :: u148 :: u149 :: u150 :: u151 :: u152 :: u153 :: u154 :: u155 :: u156 :: u157 :: u158 :: u159 :: u160 :: u161 :: u162 :: u163 :: u164 :: u165 :: u166 :: u167 :: u168 :: u169 :: u170 :: u171 :: u172 :: u173 :: u174 :: u175 :: u176 :: u177 :: u178 :: u179 :: u180 :: u181 :: u182 :: u183 :: u184 :: u185 :: u186 :: u187 :: u188 :: u189 :: u190 :: u191 :: u192 :: u193 :: []).set 13 (v') := rfl
        rw [hs, List.getElem?_set_ne (Ne.symm hj2)]
        exact (ka j hj2).trans ((kp j (nd j fun i hi h => by have := (by decide : ∀ i, i < 16 → 81 ≤ [81, 82, 83, 84, 85, 86, 87, 88, 89, 90, 91, 92, 93, 94, 95, 96].getD i 0 ∧ [81, 82, 83, 84, 85, 86, 87, 88, 89, 90, 91, 92, 93, 94, 95, 96].getD i 0 < 97) i hi; omega)).trans List.getElem?_toArray)
    obtain ⟨mid, hmid, hfr⟩ := Rg.frame_mid (a := a.put (some 13) v') (bl := (u0 :: u1 :: u2 :: u3 :: u4 :: u5 :: u6 :: u7 :: u8 :: u9 :: u10 :: u11 :: u12 :: v' :: u14 :: .int .i64 (at_ : Int) :: u16 :: u17 :: u18 :: u19 :: u20 :: u21 :: u22 :: u23 :: u24 :: u25 :: u26 :: u27 :: u28 :: u29 :: u30 :: u31 :: u32 :: u33 :: u34 :: u35 :: u36 :: u37 :: u38 :: u39 :: u40 :: u41 :: u42 :: u43 :: u44 :: u45 :: u46 :: u47 :: u48 :: u49 :: u50 :: u51 :: u52 :: u53 :: u54 :: u55 :: u56 :: u57 :: u58 :: u59 :: u60 :: u61 :: u62 :: u63 :: u64 :: u65 :: u66 :: u67 :: u68 :: u69 :: u70 :: u71 :: u72 :: u73 :: u74 :: u75 :: u76 :: u77 :: u78 :: u79 :: u80 :: u81 :: u82 :: u83 :: u84 :: u85 :: u86 :: u87 :: u88 :: u89 :: u90 :: u91 :: u92 :: u93 :: u94 :: u95 :: u96 :: u97 :: u98 :: u99 :: u100 :: u101 :: u102 :: u103 :: u104 :: u105 :: u106 :: u107 :: u108 :: u109 :: u110 :: u111 :: u112 :: u113 :: u114 :: u115 :: u116 :: u117 :: u118 :: u119 :: u120 :: u121 :: u122 :: u123 :: u124 :: u125 :: u126 :: u127 :: u128 :: u129 :: u130 :: u131 :: u132 :: u133 :: u134 :: u135 :: u136 :: u137 :: u138 :: u139 :: u140 :: u141 :: u142 :: u143 :: u144 :: u145 :: u146 :: u147 :: u148 :: u149 :: u150 :: u151 :: u152 :: u153 :: u154 :: u155 :: u156 :: u157 :: u158 :: u159 :: u160 :: u161 :: u162 :: u163 :: u164 :: u165 :: u166 :: u167 :: u168 :: u169 :: u170 :: u171 :: u172 :: u173 :: u174 :: u175 :: u176 :: u177 :: u178 :: u179 :: u180 :: u181 :: u182 :: u183 :: u184 :: u185 :: u186 :: u187 :: u188 :: u189 :: u190 :: u191 :: u192 :: u193 :: [])) 81 16 (by simp [Act.put, df]) (by simp [Act.put, sz']) (by simp) kp2
    rw [hfr]
    match mid, hmid with
    | [v81, v82, v83, v84, v85, v86, v87, v88, v89, v90, v91, v92, v93, v94, v95, v96], _ =>
      exact HQ.out w' _ _ _ _ _ _ _ _ _ _ _ _ _ _ _ _ _ o96 hb
end Go.Proofs.YtonoadjmglkhaaaGreat.Av

namespace Go.Proofs.YtonoadjmglkhaaaGreat.Av
open Go.RowKit Go.Sort Go.Proofs.YtonoadjmglkhaaaGreat Go.Proofs.YtonoadjmglkhaaaGreat.Rw Go.Proofs.YtonoadjmglkhaaaGreat.Nm Go.Proofs.YtonoadjmglkhaaaGreat.Pr Go.Proofs.YtonoadjmglkhaaaGreat.Bk

theorem turn_perm {α : Type} {t : List α} {k : Nat} {y : α} (h : t[k]? = some y) : ([y] ++ t.take k ++ t.drop (k + 1)).Perm t := by
  obtain ⟨hk, he⟩ := List.getElem?_eq_some_iff.1 h
  have e : t = t.take k ++ y :: t.drop (k + 1) := by
    conv => lhs; rw [← List.take_append_drop k t]
    rw [List.drop_eq_getElem_cons hk, he]
  have p : (t.take k ++ y :: t.drop (k + 1)).Perm (y :: (t.take k ++ t.drop (k + 1))) := List.perm_middle
  rw [← e] at p
  exact p.symm
/-- One of a row ahead of the others. -/
theorem AdR.turn {W : World} {B k : Nat} {v v' : Value} {lx : List XAd} {l : List Ad} {x : XAd} {a : Ad} (h : AdR W B v lx l) (hx : lx[k]? = some x) (ha : l[k]? = some a) (ho : OwnD W B v' ([x] ++ lx.take k ++ lx.drop (k + 1))) : AdR W B v' ([x] ++ lx.take k ++ lx.drop (k + 1)) ([a] ++ l.take k ++ l.drop (k + 1)) := by
  obtain ⟨z, h1, h2⟩ := h.all.at k a ha
  obtain rfl : x = z := Option.some.inj (hx.symm.trans h1)
  exact ⟨ho, ((All2.cons h2 .nil).append (h.all.take k)).append (h.all.drop (k + 1))⟩

noncomputable def order_11C : Code := .seq (headN 5 (Tryz.f5.body.getD .skip)) (order_16C)
set_option maxRecDepth 100000 in
set_option maxHeartbeats 16000000 in
theorem order_11 (w W : World) (n : Nat) (os rs : List Int) (p : List C5) (q t : List XID) (l1 : Option Addr) (l3 : Nat) (t1 : Option Addr) (t3 : Nat) (o2 : Option Addr) (c2 : Nat) (o3 : Option Addr) (c3 : Nat) (lx tx : List XAd)
    (gb : Below w.heap.size w W) (nw : n ≤ W.heap.size) (ib : In.InInts W (.slice o2 os.length c2) os) (lb : os.length ≤ maxLen) (ir : In.InInts W (.slice o3 rs.length c3) rs) (al : AdR W n (.slice l1 q.length l3) lx (q.map (mkA p))) (at_ : AdR W n (.slice t1 t.length t3) tx (t.map (mkA p))) (qn : q.Nodup) (tn : t.Nodup) (tq : t.length = q.length) (mem : ∀ x, x ∈ q ↔ x ∈ t) (ql : q.length ≤ 8) (pl : p.length ≤ 900) (pr : Wr.rightP p = true)
    (u0 u3 u4 u5 u6 u7 u8 u10 u11 u12 u14 u15 u16 u17 u18 u19 u20 u21 u22 u23 u24 u25 u26 u27 u28 u29 u30 u31 u32 u33 u34 u35 u36 u37 u38 u39 u40 u41 u42 u43 u44 u45 u46 u47 u48 u49 u50 u51 u52 u53 u54 u55 u56 u57 u58 u59 u60 u61 u62 u63 u64 u65 u66 u67 u68 u69 u70 u71 u72 u73 u74 u75 u76 u77 u78 u79 u80 u81 u82 u83 u84 u85 u86 u87 u88 u89 u90 u91 u92 u93 u94 u95 u96 u97 u98 u99 u100 u101 u102 u103 u104 u105 u106 u107 u108 u109 u110 u111 u112 u113 u114 u115 u116 u117 u118 u119 u120 u121 u122 u123 u124 u125 u126 u127 u128 u129 u130 u131 u132 u133 u134 u135 u136 u137 u138 u139 u140 u141 u142 u143 u144 u145 u146 u147 u148 u149 u150 u151 u152 u153 u154 u155 u156 u157 u158 u159 u160 u161 u162 u163 u164 u165 u166 u167 u168 u169 u170 u171 u172 u173 u174 u175 u176 u177 u178 u179 u180 u181 u182 u183 u184 u185 u186 u187 u188 u189 u190 u191 u192 u193 : Value) :
    Code.wp Tryz.prog order_11C (bodyPost Tryz.prog Tryz.f5 (OrdQ w)) ⟨(u0 :: .slice o2 os.length c2 :: .slice o3 rs.length c3 :: u3 :: u4 :: u5 :: u6 :: u7 :: u8 :: .slice l1 q.length l3 :: u10 :: u11 :: u12 :: .slice t1 t.length t3 :: u14 :: u15 :: u16 :: u17 :: u18 :: u19 :: u20 :: u21 :: u22 :: u23 :: u24 :: u25 :: u26 :: u27 :: u28 :: u29 :: u30 :: u31 :: u32 :: u33 :: u34 :: u35 :: u36 :: u37 :: u38 :: u39 :: u40 :: u41 :: u42 :: u43 :: u44 :: u45 :: u46 :: u47 :: u48 :: u49 :: u50 :: u51 :: u52 :: u53 :: u54 :: u55 :: u56 :: u57 :: u58 :: u59 :: u60 :: u61 :: u62 :: u63 :: u64 :: u65 :: u66 :: u67 :: u68 :: u69 :: u70 :: u71 :: u72 :: u73 :: u74 :: u75 :: u76 :: u77 :: u78 :: u79 :: u80 :: u81 :: u82 :: u83 :: u84 :: u85 :: u86 :: u87 :: u88 :: u89 :: u90 :: u91 :: u92 :: u93 :: u94 :: u95 :: u96 :: u97 :: u98 :: u99 :: u100 :: u101 :: u102 :: u103 :: u104 :: u105 :: u106 :: u107 :: u108 :: u109 :: u110 :: u111 :: u112 :: u113 :: u114 :: u115 :: u116 :: u117 :: u118 :: u119 :: u120 :: u121 :: u122 :: u123 :: u124 :: u125 :: u126 :: u127 :: u128 :: u129 :: u130 :: u131 :: u132 :: u133 :: u134 :: u135 :: u136 :: u137 :: u138 :: u139 :: u140 :: u141 :: u142 :: u143 :: u144 :: u145 :: u146 :: u147 :: u148 :: u149 :: u150 :: u151 :: u152 :: u153 :: u154 :: u155 :: u156 :: u157 :: u158 :: u159 :: u160 :: u161 :: u162 :: u163 :: u164 :: u165 :: u166 :: u167 :: u168 :: u169 :: u170 :: u171 :: u172 :: u173 :: u174 :: u175 :: u176 :: u177 :: u178 :: u179 :: u180 :: u181 :: u182 :: u183 :: u184 :: u185 :: u186 :: u187 :: u188 :: u189 :: u190 :: u191 :: u192 :: u193 :: []).toArray, []⟩ W := by
  have GB_1 := Lib.hid (gb)
  have IB_2 := Lib.hid (ib)
  have IR_3 := Lib.hid (ir)
  have AL_4 := Lib.hid (al)
  have AT_5 := Lib.hid (at_)
  clear gb ib ir al at_
  have NW := Lib.hid nw
  have LB := Lib.hid lb
  have QN := Lib.hid qn
  have TN := Lib.hid tn
  have TQ := Lib.hid tq
  have ME := Lib.hid mem
  have PLN := Lib.hid pl
  have PR := Lib.hid pr
  have QL := Lib.hid ql
  clear nw lb qn tn tq mem pl pr ql
  unfold order_11C
  conv => enter [2, 1]; whnf
  go_wp2_with fail
  go_loopw [13, 14] (fun rv i wr => ∃ (k : Nat) (t : List XID) (tx : List XAd) (a : Option Addr) (c : Nat), k ≤ os.length ∧ i = .int .i64 k ∧ rv = .slice a t.length c ∧ t.Nodup ∧ t.length = q.length ∧ (∀ x, x ∈ q ↔ x ∈ t) ∧ AdR wr n (.slice a t.length c) tx (t.map (mkA p)) ∧ Below W.heap.size W wr) (fun _ i _ => os.length - (intOf i).toNat)
  case atStart => exact ⟨0, t, tx, t1, t3, Nat.zero_le _, rfl, rfl, TN.out, TQ.out, ME.out, AT_5.out, Below.refl _ _⟩
  case round =>
    clear AT_5 TN TQ ME
    obtain ⟨k, t, tx, a, c, hk, rfl, rfl, htn, htq, hme, hat, hbel⟩ := hrel
    have TN := Lib.hid htn
    have TQ := Lib.hid htq
    have ME := Lib.hid hme
    have BE := Lib.hid hbel
    clear htn htq hme hbel
    have AT_6 := Lib.hid (hat)
    clear hat
    have T8 : t.length ≤ 8 := by have := TQ.out; have := QL.out; omega
    have l9 : (os.length : Int) ≤ 9223372036854775807 := by have := LB.out; unfold maxLen at this; omega
    by_cases hlt : k < os.length ∧ 1 < t.length
    · obtain ⟨hc, h1⟩ := hlt
      have hc' : (k : Int) < (os.length : Int) := by omega
      have h1' : (1 : Int) < (t.length : Int) := by omega
      have hw : IntKind.i64.wrap ((k : Int) + 1) = (k : Int) + 1 := IntWalk.i64_in _ (by omega)
      have hv : IntKind.i64.wrap ((t.length : Int) - 1) = (t.length : Int) - 1 := IntWalk.i64_in _ (by omega)
      obtain ⟨z, hz⟩ : ∃ z, os[k]? = some z := ⟨_, List.getElem?_eq_getElem hc⟩
      obtain ⟨d1, p1, _, ix, px⟩ := (IB_2.out.on BE.out).at_ k z hz
      have WI := Wi.within_any z 0 ((t.length : Int) - 1) wr (by omega) (by decide) (by omega) d1.1 d1.2
      have WB := Wi.within_bd z 0 ((t.length : Int) - 1) (by omega)
      generalize Wi.within z 0 ((t.length : Int) - 1) = y at *
      obtain ⟨m, rfl⟩ : ∃ m : Nat, y = m := ⟨y.toNat, by omega⟩
      have hm : m < t.length := by omega
      have HM := Lib.hid hm
      clear WB hm
      go_wp2_with fail
      refine WI.mono ?_
      rintro e2 w2 ⟨rfl, rfl⟩
      clear WI px ix d1 hz
      have hlen : tx.length = t.length := by have h := AT_6.out.all.len; rw [List.length_map] at h; exact h
      obtain ⟨b, hb⟩ : ∃ b, tx[m]? = some b := ⟨_, List.getElem?_eq_getElem (by rw [hlen]; exact HM.out)⟩
      obtain ⟨y, hy⟩ : ∃ y, t[m]? = some y := ⟨_, List.getElem?_eq_getElem HM.out⟩
      have RW := Row.of_own AT_6.out.row
      obtain ⟨pa, ixa, _, pxa⟩ := row_el okD RW rfl hlen hb
      obtain ⟨lo, slo, rlo⟩ := row_lo okD RW m (by rw [hlen]; exact Nat.le_of_lt HM.out)
      obtain ⟨hi, shi, rhi⟩ := row_hi okD RW (m + 1) (by rw [hlen]; exact HM.out)
      have HB := Lib.hid hb
      have HY := Lib.hid hy
      have HL := Lib.hid hlen
      clear RW hb hy hlen
      go_upto_region 15 with fail
      refine ord15 _ wr m (.slice a t.length c) lo hi pa b (tx.take m) (tx.drop (m + 1)) _ _ _ _ _ _ _ _ _ _ _ _ _ _ _ _ _ _ _ _ _ _ _ _ _ _ _ _ _ _ _ _ _ _ _ _ _ _ _ _ _ _ _ _ _ _ _ _ _ _ _ _ _ _ _ _ _ _ _ _ _ _ _ _ _ _ _ _ _ _ _ _ _ _ _ _ _ _ _ _ _ _ _ _ _ _ _ _ _ _ _ _ _ _ _ _ _ _ _ _ _ _ _ _ _ _ _ _ _ _ _ _ _ _ _ _ _ _ _ _ _ _ _ _ _ _ _ _ _ _ _ _ _ _ _ _ _ _ _ _ _ _ _ _ _ _ _ _ _ _ _ _ _ _ _ _ _ _ _ _ _ _ _ _ _ _ _ _ _ _ _ _ _ _ _ _ _ _ _ _ _ _ _ _ _ _ _ _ _ _ _ _ ixa pxa slo shi rlo rhi (by rw [List.length_take, HL.out]; omega) (by rw [List.length_drop, HL.out]; omega) (by have := HM.out; omega) ?_
      intro x w13 v81 v82 v83 v84 v85 v86 v87 v88 v89 v90 v91 v92 v93 v94 v95 v96 hown hbel
      clear ixa pxa slo shi rlo rhi
      have NX := Lib.hid (show n ≤ wr.heap.size from Nat.le_trans NW.out BE.out.size)
      have AX := Lib.hid ((AT_6.out.on hbel).turn HB.out (show (t.map (mkA p))[m]? = some (mkA p y) from by rw [List.getElem?_map, HY.out]; rfl) (Bk.own_fewer hown NX.out))
      have BX := Lib.hid (BE.out.trans (hbel.mono BE.out.size))
      have PE := Lib.hid (turn_perm HY.out)
      clear hown hbel NX
      have AX2 := Lib.hid (show AdR x n w13 ([b] ++ tx.take m ++ tx.drop (m + 1)) (([y] ++ t.take m ++ t.drop (m + 1)).map (mkA p)) from by have h := AX.out; simpa [List.map_take, List.map_drop] using h)
      clear AX
      generalize [y] ++ t.take m ++ t.drop (m + 1) = t2 at *
      generalize [b] ++ tx.take m ++ tx.drop (m + 1) = tx2 at *
      obtain ⟨a2, c2, rfl⟩ := (Row.of_own AX2.out.row).len
      have TL := Lib.hid (show t2.length = tx2.length from by have h := AX2.out.all.len; rw [List.length_map] at h; exact h.symm)
      have AX := Lib.hid (show AdR x n (.slice a2 t2.length c2) tx2 (t2.map (mkA p)) from by rw [TL.out]; exact AX2.out)
      rw [← TL.out]
      clear AX2
      go_wp2_with fail
      go_roundw
      case rel => exact ⟨k + 1, t2, tx2, a2, c2, hc, by go_num, rfl, PE.out.nodup_iff.2 TN.out, PE.out.length_eq.trans TQ.out, fun x => (ME.out x).trans PE.out.mem_iff.symm, AX.out, BX.out⟩
      case measure => simp [intOf]; omega
    · have hx : os.length ≤ k ∨ (k < os.length ∧ t.length ≤ 1) := by omega
      rcases hx with hx | ⟨hx, hy⟩
      all_goals
        first | (have q1 : ¬ ((k : Int) < (os.length : Int)) := (by omega)) | (have q1 : (k : Int) < (os.length : Int) := (by omega); have q2 : ¬ ((1 : Int) < (t.length : Int)) := (by omega))
        go_wp2_with fail
        exact order_16 w wr n rs p q t l1 l3 a c o3 c3 lx tx (GB_1.out.trans (BE.out.mono GB_1.out.size)) (IR_3.out.on BE.out) (AL_4.out.on BE.out) AT_6.out QN.out TN.out TQ.out ME.out QL.out PLN.out PR.out _ _ _ _ _ _ _ _ _ _ _ _ _ _ _ _ _ _ _ _ _ _ _ _ _ _ _ _ _ _ _ _ _ _ _ _ _ _ _ _ _ _ _ _ _ _ _ _ _ _ _ _ _ _ _ _ _ _ _ _ _ _ _ _ _ _ _ _ _ _ _ _ _ _ _ _ _ _ _ _ _ _ _ _ _ _ _ _ _ _ _ _ _ _ _ _ _ _ _ _ _ _ _ _ _ _ _ _ _ _ _ _ _ _ _ _ _ _ _ _ _ _ _ _ _ _ _ _ _ _ _ _ _ _ _ _ _ _ _ _ _ _ _ _ _ _ _ _ _ _ _ _ _ _ _ _ _ _ _ _ _ _ _ _ _ _ _ _ _ _ _ _ _ _ _ _ _ _ _ _ _ _ _ _ _ _ _ _ _ _ _
end Go.Proofs.YtonoadjmglkhaaaGreat.Av

namespace Go.Proofs.YtonoadjmglkhaaaGreat.Av
open Go.RowKit Go.Sort Go.Proofs.YtonoadjmglkhaaaGreat Go.Proofs.YtonoadjmglkhaaaGreat.Rw Go.Proofs.YtonoadjmglkhaaaGreat.Nm Go.Proofs.YtonoadjmglkhaaaGreat.Pr Go.Proofs.YtonoadjmglkhaaaGreat.Bk

noncomputable def order_10C : Code := .seq (headN 4 (Tryz.f5.body.getD .skip)) (order_11C)
set_option maxRecDepth 100000 in
set_option maxHeartbeats 16000000 in
theorem order_10 (w W : World) (n : Nat) (os rs : List Int) (p : List C5) (q : List XID) (v : Value) (o2 : Option Addr) (c2 : Nat) (o3 : Option Addr) (c3 : Nat) (lx : List XAd)
    (gb : Below w.heap.size w W) (nw : n ≤ W.heap.size) (ib : In.InInts W (.slice o2 os.length c2) os) (lb : os.length ≤ maxLen) (ir : In.InInts W (.slice o3 rs.length c3) rs) (al : AdR W n v lx (q.map (mkA p))) (qn : q.Nodup) (ql : q.length ≤ 8) (pl : p.length ≤ 900) (pr : Wr.rightP p = true)
    (u0 u3 u4 u5 u6 u7 u8 u10 u11 u12 u13 u14 u15 u16 u17 u18 u19 u20 u21 u22 u23 u24 u25 u26 u27 u28 u29 u30 u31 u32 u33 u34 u35 u36 u37 u38 u39 u40 u41 u42 u43 u44 u45 u46 u47 u48 u49 u50 u51 u52 u53 u54 u55 u56 u57 u58 u59 u60 u61 u62 u63 u64 u65 u66 u67 u68 u69 u70 u71 u72 u73 u74 u75 u76 u77 u78 u79 u80 u81 u82 u83 u84 u85 u86 u87 u88 u89 u90 u91 u92 u93 u94 u95 u96 u97 u98 u99 u100 u101 u102 u103 u104 u105 u106 u107 u108 u109 u110 u111 u112 u113 u114 u115 u116 u117 u118 u119 u120 u121 u122 u123 u124 u125 u126 u127 u128 u129 u130 u131 u132 u133 u134 u135 u136 u137 u138 u139 u140 u141 u142 u143 u144 u145 u146 u147 u148 u149 u150 u151 u152 u153 u154 u155 u156 u157 u158 u159 u160 u161 u162 u163 u164 u165 u166 u167 u168 u169 u170 u171 u172 u173 u174 u175 u176 u177 u178 u179 u180 u181 u182 u183 u184 u185 u186 u187 u188 u189 u190 u191 u192 u193 : Value) :
    Code.wp Tryz.prog order_10C (bodyPost Tryz.prog Tryz.f5 (OrdQ w)) ⟨(u0 :: .slice o2 os.length c2 :: .slice o3 rs.length c3 :: u3 :: u4 :: u5 :: u6 :: u7 :: u8 :: v :: u10 :: u11 :: u12 :: u13 :: u14 :: u15 :: u16 :: u17 :: u18 :: u19 :: u20 :: u21 :: u22 :: u23 :: u24 :: u25 :: u26 :: u27 :: u28 :: u29 :: u30 :: u31 :: u32 :: u33 :: u34 :: u35 :: u36 :: u37 :: u38 :: u39 :: u40 :: u41 :: u42 :: u43 :: u44 :: u45 :: u46 :: u47 :: u48 :: u49 :: u50 :: u51 :: u52 :: u53 :: u54 :: u55 :: u56 :: u57 :: u58 :: u59 :: u60 :: u61 :: u62 :: u63 :: u64 :: u65 :: u66 :: u67 :: u68 :: u69 :: u70 :: u71 :: u72 :: u73 :: u74 :: u75 :: u76 :: u77 :: u78 :: u79 :: u80 :: u81 :: u82 :: u83 :: u84 :: u85 :: u86 :: u87 :: u88 :: u89 :: u90 :: u91 :: u92 :: u93 :: u94 :: u95 :: u96 :: u97 :: u98 :: u99 :: u100 :: u101 :: u102 :: u103 :: u104 :: u105 :: u106 :: u107 :: u108 :: u109 :: u110 :: u111 :: u112 :: u113 :: u114 :: u115 :: u116 :: u117 :: u118 :: u119 :: u120 :: u121 :: u122 :: u123 :: u124 :: u125 :: u126 :: u127 :: u128 :: u129 :: u130 :: u131 :: u132 :: u133 :: u134 :: u135 :: u136 :: u137 :: u138 :: u139 :: u140 :: u141 :: u142 :: u143 :: u144 :: u145 :: u146 :: u147 :: u148 :: u149 :: u150 :: u151 :: u152 :: u153 :: u154 :: u155 :: u156 :: u157 :: u158 :: u159 :: u160 :: u161 :: u162 :: u163 :: u164 :: u165 :: u166 :: u167 :: u168 :: u169 :: u170 :: u171 :: u172 :: u173 :: u174 :: u175 :: u176 :: u177 :: u178 :: u179 :: u180 :: u181 :: u182 :: u183 :: u184 :: u185 :: u186 :: u187 :: u188 :: u189 :: u190 :: u191 :: u192 :: u193 :: []).toArray, []⟩ W := by
  have hlen : lx.length = q.length := by have h := al.all.len; rw [List.length_map] at h; exact h
  obtain ⟨l1, l3, rfl⟩ := (Row.of_own al.row).len
  rw [hlen] at al ⊢
  have NB := newB W (.cells #[] 42)
  obtain ⟨va, x1, q1, oa, ga⟩ := app_fresh okD (w := W.alloc (.cells #[] 42)) W.heap.size (box_new W #[] 42) (Nat.le_refl _) (Row.of_own (Bk.own_on al.row NB)) (by omega) 24
  have G1 := NB.trans (ga.mono NB.size)
  have AT := Lib.hid (show AdR x1 n va lx (q.map (mkA p)) from ⟨Bk.own_fewer oa nw, (al.on G1).all⟩)
  clear oa
  obtain ⟨t1, t3, rfl⟩ := (Row.of_own AT.out.row).len
  rw [hlen] at AT q1
  have GB_1 := Lib.hid (gb)
  have IB_2 := Lib.hid (ib)
  have IR_3 := Lib.hid (ir)
  have AL_4 := Lib.hid (al)
  have NW := Lib.hid (Nat.le_trans nw G1.size)
  clear NB ga nw hlen gb ib ir al
  have GB_5 := Lib.hid (GB_1.out.trans (G1.mono GB_1.out.size))
  have IB_5 := Lib.hid (IB_2.out.on G1)
  have IR_5 := Lib.hid (IR_3.out.on G1)
  have AL_5 := Lib.hid (AL_4.out.on G1)
  clear GB_1 IB_2 IR_3 AL_4
  clear G1
  have LB := Lib.hid lb
  have QN := Lib.hid qn
  have PLN := Lib.hid pl
  have PR := Lib.hid pr
  have QL := Lib.hid ql
  clear lb qn pl pr ql
  unfold order_10C
  conv => enter [2, 1]; whnf
  go_wp2_with (first | (at_builtin; refine wpList_append_run rfl _ _ 24 rfl rfl rfl q1 ?_) | fail)
  exact order_11 w x1 n os rs p q q l1 l3 t1 t3 o2 c2 o3 c3 lx lx GB_5.out NW.out IB_5.out LB.out IR_5.out AL_5.out AT.out QN.out QN.out rfl (fun _ => Iff.rfl) QL.out PLN.out PR.out _ _ _ _ _ _ _ _ _ _ _ _ _ _ _ _ _ _ _ _ _ _ _ _ _ _ _ _ _ _ _ _ _ _ _ _ _ _ _ _ _ _ _ _ _ _ _ _ _ _ _ _ _ _ _ _ _ _ _ _ _ _ _ _ _ _ _ _ _ _ _ _ _ _ _ _ _ _ _ _ _ _ _ _ _ _ _ _ _ _ _ _ _ _ _ _ _ _ _ _ _ _ _ _ _ _ _ _ _ _ _ _ _ _ _ _ _ _ _ _ _ _ _ _ _ _ _ _ _ _ _ _ _ _ _ _ _ _ _ _ _ _ _ _ _ _ _ _ _ _ _ _ _ _ _ _ _ _ _ _ _ _ _ _ _ _ _ _ _ _ _ _ _ _ _ _ _ _ _ _ _ _ _ _ _ _ _ _ _ _
end Go.Proofs.YtonoadjmglkhaaaGreat.Av
