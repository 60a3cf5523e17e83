/-
  AdvertsOrder's check that a broker's advertisements rise, one beside the next. No condition.
  slices.BinarySearch of numbers; comes of package adverts. Conditions: they don't fall; at most 900 of them.
-/
import Derived.Test.YtonoadjmglkhaaaGreatV005
import Derived.Test.YtonoadjmglkhaaaGreatV011
import Derived.Test.YtonoadjmglkhaaaGreatV020
import Derived.Test.YtonoadjmglkhaaaGreatV016
import Derived.Test.YtonoadjmglkhaaaGreatV021
import Derived.Test.YtonoadjmglkhaaaGreatV008
import Derived.Deep.LoopGhost
namespace Go.Proofs.YtonoadjmglkhaaaGreat.Av
open Go.RowKit Go.Sort Go.Proofs.YtonoadjmglkhaaaGreat Go.Proofs.YtonoadjmglkhaaaGreat.Rw Go.Proofs.YtonoadjmglkhaaaGreat.Nm Go.Proofs.YtonoadjmglkhaaaGreat.Pr Go.Proofs.YtonoadjmglkhaaaGreat.Bk

theorem gtr_zero (x y : Operand) (w : World) : (do eqGuard .gtr 3 x y (.int .i64 0) (.int .i64 0); binOp .gtr 3 (.int .i64 0) (.int .i64 0) : Sem Value).run Tryz.prog w = .ok (.bool false) w := by
  simp [go_sem]
theorem gtr_succ (x y : Operand) (w : World) (k : Nat) : (do eqGuard .gtr 3 x y (.int .i64 ((k : Int) + 1)) (.int .i64 0); binOp .gtr 3 (.int .i64 ((k : Int) + 1)) (.int .i64 0) : Sem Value).run Tryz.prog w = .ok (.bool true) w := by
  have h : (0 : Int) < (k : Int) + 1 := by omega
  simp [go_sem, h]
theorem sub_one (x y : Operand) (w : World) (k : Nat) (hk : k ≤ 900) : (do eqGuard .sub 3 x y (.int .i64 ((k : Int) + 1)) (.int .i64 1); binOp .sub 3 (.int .i64 ((k : Int) + 1)) (.int .i64 1) : Sem Value).run Tryz.prog w = .ok (.int .i64 (k : Int)) w := by
  have e : IntKind.i64.wrap (k : Int) = (k : Int) := by rw [IntKind.wrap_i64]; omega
  simp [go_sem, e]
def ord31zV (_B : Nat) (_tag : Nat) (i : Nat) (v : Value) (_x : World) : Prop :=
  match i with
  | 0 => v = .int .i64 0
  | 1 => v = .bool false
  | 2 => v = .bool false
  | 3 => v = undef
  | 4 => v = undef
  | 5 => v = undef
  | 6 => v = undef
  | 7 => v = undef
  | 8 => v = undef
  | 9 => v = undef
  | 10 => v = undef
  | 11 => v = undef
  | 12 => v = undef
  | 13 => v = undef
  | 14 => v = .bool false
  | _ => True
noncomputable def ord31zC : Code := ((Tryz.f5.body.bind (findRegion 31)).getD .skip)
set_option maxRecDepth 100000 in
set_option maxHeartbeats 8000000 in
theorem ord31z (Q : Exit → Act → World → Prop) (W : World) (tag : Nat) (u0 u1 u2 u3 u4 u5 u6 u7 u8 u9 u10 u11 u12 u13 u14 u15 u16 u17 u18 u19 u20 u22 u23 u24 u25 u26 u27 u28 u29 u30 u31 u32 u33 u34 u35 u36 u37 u38 u39 u40 u41 u42 u43 u44 u45 u46 u47 u48 u49 u50 u51 u52 u53 u54 u55 u56 u57 u58 u59 u60 u61 u62 u63 u64 u65 u66 u67 u68 u69 u70 u71 u72 u73 u74 u75 u76 u77 u78 u79 u80 u81 u82 u83 u84 u85 u86 u87 u88 u89 u90 u91 u92 u93 u94 u95 u96 u97 u98 u99 u100 u101 u102 u103 u104 u105 u106 u107 u108 u109 u110 u111 u112 u113 u114 u115 u116 u117 u118 u119 u120 u121 u122 u123 u124 u125 u126 u127 u128 u129 u130 u131 u132 u133 u134 u135 u136 u137 u138 u139 u140 u141 u142 u143 u144 u145 u146 u147 u148 u149 u150 u151 u152 u153 u154 u155 u156 u157 u158 u159 u160 u161 u162 u163 u164 u165 u166 u167 u168 u169 u170 u171 u172 u173 u174 u175 u176 u177 u178 u179 u180 u181 u182 u183 u184 u185 u186 u187 u188 u189 u190 u191 u192 u193 : Value)
    (ht : tag = tag)
    (hQ : ∀ (x : World) (v155 v156 v157 v158 v159 v160 v161 v162 v163 v164 v165 v166 v167 v168 : Value), Below W.heap.size W x → Q .normal ⟨(u0 :: u1 :: u2 :: u3 :: u4 :: u5 :: u6 :: u7 :: u8 :: u9 :: u10 :: u11 :: u12 :: u13 :: u14 :: u15 :: u16 :: u17 :: u18 :: u19 :: u20 :: .int .i64 0 :: u22 :: u23 :: u24 :: u25 :: u26 :: u27 :: u28 :: u29 :: u30 :: u31 :: u32 :: u33 :: u34 :: u35 :: u36 :: u37 :: u38 :: u39 :: u40 :: u41 :: u42 :: u43 :: u44 :: u45 :: u46 :: u47 :: u48 :: u49 :: u50 :: u51 :: u52 :: u53 :: u54 :: u55 :: u56 :: u57 :: u58 :: u59 :: u60 :: u61 :: u62 :: u63 :: u64 :: u65 :: u66 :: u67 :: u68 :: u69 :: u70 :: u71 :: u72 :: u73 :: u74 :: u75 :: u76 :: u77 :: u78 :: u79 :: u80 :: u81 :: u82 :: u83 :: u84 :: u85 :: u86 :: u87 :: u88 :: u89 :: u90 :: u91 :: u92 :: u93 :: u94 :: u95 :: u96 :: u97 :: u98 :: u99 :: u100 :: u101 :: u102 :: u103 :: u104 :: u105 :: u106 :: u107 :: u108 :: u109 :: u110 :: u111 :: u112 :: u113 :: u114 :: u115 :: u116 :: u117 :: u118 :: u119 :: u120 :: u121 :: u122 :: u123 :: u124 :: u125 :: u126 :: u127 :: u128 :: u129 :: u130 :: u131 :: u132 :: u133 :: u134 :: u135 :: u136 :: u137 :: u138 :: u139 :: u140 :: u141 :: u142 :: u143 :: u144 :: u145 :: u146 :: u147 :: u148 :: u149 :: u150 :: u151 :: u152 :: u153 :: u154 :: v155 :: v156 :: v157 :: v158 :: v159 :: v160 :: v161 :: v162 :: v163 :: v164 :: v165 :: v166 :: v167 :: v168 :: .bool false :: u170 :: u171 :: u172 :: u173 :: u174 :: u175 :: u176 :: u177 :: u178 :: u179 :: u180 :: u181 :: u182 :: u183 :: u184 :: u185 :: u186 :: u187 :: u188 :: u189 :: u190 :: u191 :: u192 :: u193 :: []).toArray, []⟩ x) :
    Code.wp Tryz.prog ord31zC Q ⟨(u0 :: u1 :: u2 :: u3 :: u4 :: u5 :: u6 :: u7 :: u8 :: u9 :: u10 :: u11 :: u12 :: u13 :: u14 :: u15 :: u16 :: u17 :: u18 :: u19 :: u20 :: .int .i64 0 :: u22 :: u23 :: u24 :: u25 :: u26 :: u27 :: u28 :: u29 :: u30 :: u31 :: u32 :: u33 :: u34 :: u35 :: u36 :: u37 :: u38 :: u39 :: u40 :: u41 :: u42 :: u43 :: u44 :: u45 :: u46 :: u47 :: u48 :: u49 :: u50 :: u51 :: u52 :: u53 :: u54 :: u55 :: u56 :: u57 :: u58 :: u59 :: u60 :: u61 :: u62 :: u63 :: u64 :: u65 :: u66 :: u67 :: u68 :: u69 :: u70 :: u71 :: u72 :: u73 :: u74 :: u75 :: u76 :: u77 :: u78 :: u79 :: u80 :: u81 :: u82 :: u83 :: u84 :: u85 :: u86 :: u87 :: u88 :: u89 :: u90 :: u91 :: u92 :: u93 :: u94 :: u95 :: u96 :: u97 :: u98 :: u99 :: u100 :: u101 :: u102 :: u103 :: u104 :: u105 :: u106 :: u107 :: u108 :: u109 :: u110 :: u111 :: u112 :: u113 :: u114 :: u115 :: u116 :: u117 :: u118 :: u119 :: u120 :: u121 :: u122 :: u123 :: u124 :: u125 :: u126 :: u127 :: u128 :: u129 :: u130 :: u131 :: u132 :: u133 :: u134 :: u135 :: u136 :: u137 :: u138 :: u139 :: u140 :: u141 :: u142 :: u143 :: u144 :: u145 :: u146 :: u147 :: u148 :: u149 :: u150 :: u151 :: u152 :: u153 :: u154 :: u155 :: u156 :: u157 :: u158 :: u159 :: u160 :: u161 :: u162 :: u163 :: u164 :: u165 :: u166 :: u167 :: u168 :: u169 :: u170 :: u171 :: u172 :: u173 :: u174 :: u175 :: u176 :: u177 :: u178 :: u179 :: u180 :: u181 :: u182 :: u183 :: u184 :: u185 :: u186 :: u187 :: u188 :: u189 :: u190 :: u191 :: u192 :: u193 :: []).toArray, []⟩ W := by
  have HQ := Lib.hid hQ
  have HT := Lib.hid ht
  clear hQ ht
  unfold ord31zC
  conv => arg 2; whnf
  have nd : ∀ j, (j < 155 ∨ 170 ≤ j) → ∀ i, i < 15 → (fun i => 155 + i) i ≠ j := by
    intro j hj i hi h
    simp only at h
    omega
  refine Rg.region_rel 15 (fun i => 155 + i) (ord31zV W.heap.size tag) (by kernel_rfl) (by kernel_rfl) rfl ?_ (fun i j _ _ h => by have h2 : 155 + i = 155 + j := h; omega) (fun i hi => by show 155 + i < 194; omega) ?_ ?_ ?_
  · intro i o ho
    have hi : i < 15 := (List.getElem?_eq_some_iff.1 ho).1
    rcases (by omega : i = 0 ∨ i = 1 ∨ i = 2 ∨ i = 3 ∨ i = 4 ∨ i = 5 ∨ i = 6 ∨ i = 7 ∨ i = 8 ∨ i = 9 ∨ i = 10 ∨ i = 11 ∨ i = 12 ∨ i = 13 ∨ i = 14) with rfl | rfl | rfl | rfl | rfl | rfl | rfl | rfl | rfl | rfl | rfl | rfl | rfl | rfl | rfl
    all_goals (obtain rfl := Option.some.inj ho; rfl)
  · intro i v x x' h hb
    by_cases hi : i < 15
    · rcases (by omega : i = 0 ∨ i = 1 ∨ i = 2 ∨ i = 3 ∨ i = 4 ∨ i = 5 ∨ i = 6 ∨ i = 7 ∨ i = 8 ∨ i = 9 ∨ i = 10 ∨ i = 11 ∨ i = 12 ∨ i = 13 ∨ i = 14) with rfl | rfl | rfl | rfl | rfl | rfl | rfl | rfl | rfl | rfl | rfl | rfl | rfl | rfl | rfl
      · exact h
      · exact h
      · exact h
      · exact h
      · exact h
      · exact h
      · exact h
      · exact h
      · exact h
      · exact h
      · exact h
      · exact h
      · exact h
      · exact h
      · exact h
    · unfold ord31zV
      split <;> first | omega | trivial
  · intro i o hi ho a x hb seen K hK
    clear HQ
    rcases (by omega : i = 0 ∨ i = 1 ∨ i = 2 ∨ i = 3 ∨ i = 4 ∨ i = 5 ∨ i = 6 ∨ i = 7 ∨ i = 8 ∨ i = 9 ∨ i = 10 ∨ i = 11 ∨ i = 12 ∨ i = 13 ∨ i = 14) with rfl | rfl | rfl | rfl | rfl | rfl | rfl | rfl | rfl | rfl | rfl | rfl | rfl | rfl | rfl
    · obtain rfl := Option.some.inj ho
      have e21 : a.eval (.tmp 21) = .int .i64 0 := seen.kp 21 _ (nd 21 (by omega)) rfl
      exact Rg.op_value rfl rfl (Rg.ex_move a.eval _ (.tmp 21) rfl x) (hK _ x e21 (Below.refl _ _))
    · obtain rfl := Option.some.inj ho
      have e155 : a.eval (.tmp 155) = .int .i64 0 := seen.at_ ⟨0, .data⟩ (by simp) rfl
      exact Rg.op_value rfl rfl (Rg.ex_bin a.eval _ .gtr 3 (.tmp 155) (.const (.int .i64 0)) 3 rfl (by rw [e155]; exact gtr_zero _ _ x)) (hK _ x rfl (Below.refl _ _))
    · obtain rfl := Option.some.inj ho
      have e156 : a.eval (.tmp 156) = .bool false := seen.at_ ⟨1, .data⟩ (by simp) rfl
      exact Rg.op_value rfl rfl (Rg.ex_move a.eval _ (.tmp 156) rfl x) (hK _ x e156 (Below.refl _ _))
    · obtain rfl := Option.some.inj ho
      have eG : a.eval (.tmp 157) = .bool false := seen.at_ ⟨2, .guard⟩ (by simp) rfl
      have tG : a.tmps[157]? = some (a.eval (.tmp 157)) := seen.got ⟨2, .guard⟩ (by simp) rfl
      rw [eG] at tG
      exact Rg.op_unwanted rfl (Rg.unwanted_of rfl rfl rfl tG (by decide)) (hK _ x rfl (Below.refl _ _))
    · obtain rfl := Option.some.inj ho
      have eG : a.eval (.tmp 157) = .bool false := seen.at_ ⟨2, .guard⟩ (by simp) rfl
      have tG : a.tmps[157]? = some (a.eval (.tmp 157)) := seen.got ⟨2, .guard⟩ (by simp) rfl
      rw [eG] at tG
      exact Rg.op_unwanted rfl (Rg.unwanted_of rfl rfl rfl tG (by decide)) (hK _ x rfl (Below.refl _ _))
    · obtain rfl := Option.some.inj ho
      have eG : a.eval (.tmp 157) = .bool false := seen.at_ ⟨2, .guard⟩ (by simp) rfl
      have tG : a.tmps[157]? = some (a.eval (.tmp 157)) := seen.got ⟨2, .guard⟩ (by simp) rfl
      rw [eG] at tG
      exact Rg.op_unwanted rfl (Rg.unwanted_of rfl rfl rfl tG (by decide)) (hK _ x rfl (Below.refl _ _))
    · obtain rfl := Option.some.inj ho
      have eG : a.eval (.tmp 157) = .bool false := seen.at_ ⟨2, .guard⟩ (by simp) rfl
      have tG : a.tmps[157]? = some (a.eval (.tmp 157)) := seen.got ⟨2, .guard⟩ (by simp) rfl
      rw [eG] at tG
      exact Rg.op_unwanted rfl (Rg.unwanted_of rfl rfl rfl tG (by decide)) (hK _ x rfl (Below.refl _ _))
    · obtain rfl := Option.some.inj ho
      have eG : a.eval (.tmp 157) = .bool false := seen.at_ ⟨2, .guard⟩ (by simp) rfl
      have tG : a.tmps[157]? = some (a.eval (.tmp 157)) := seen.got ⟨2, .guard⟩ (by simp) rfl
      rw [eG] at tG
      exact Rg.op_unwanted rfl (Rg.unwanted_of rfl rfl rfl tG (by decide)) (hK _ x rfl (Below.refl _ _))
    · obtain rfl := Option.some.inj ho
      have eG : a.eval (.tmp 157) = .bool false := seen.at_ ⟨2, .guard⟩ (by simp) rfl
      have tG : a.tmps[157]? = some (a.eval (.tmp 157)) := seen.got ⟨2, .guard⟩ (by simp) rfl
      rw [eG] at tG
      exact Rg.op_unwanted rfl (Rg.unwanted_of rfl rfl rfl tG (by decide)) (hK _ x rfl (Below.refl _ _))
    · obtain rfl := Option.some.inj ho
      have eG : a.eval (.tmp 157) = .bool false := seen.at_ ⟨2, .guard⟩ (by simp) rfl
      have tG : a.tmps[157]? = some (a.eval (.tmp 157)) := seen.got ⟨2, .guard⟩ (by simp) rfl
      rw [eG] at tG
      exact Rg.op_unwanted rfl (Rg.unwanted_of rfl rfl rfl tG (by decide)) (hK _ x rfl (Below.refl _ _))
    · obtain rfl := Option.some.inj ho
      have eG : a.eval (.tmp 157) = .bool false := seen.at_ ⟨2, .guard⟩ (by simp) rfl
      have tG : a.tmps[157]? = some (a.eval (.tmp 157)) := seen.got ⟨2, .guard⟩ (by simp) rfl
      rw [eG] at tG
      exact Rg.op_unwanted rfl (Rg.unwanted_of rfl rfl rfl tG (by decide)) (hK _ x rfl (Below.refl _ _))
    · obtain rfl := Option.some.inj ho
      have eG : a.eval (.tmp 157) = .bool false := seen.at_ ⟨2, .guard⟩ (by simp) rfl
      have tG : a.tmps[157]? = some (a.eval (.tmp 157)) := seen.got ⟨2, .guard⟩ (by simp) rfl
      rw [eG] at tG
      exact Rg.op_unwanted rfl (Rg.unwanted_of rfl rfl rfl tG (by decide)) (hK _ x rfl (Below.refl _ _))
    · obtain rfl := Option.some.inj ho
      have eG : a.eval (.tmp 157) = .bool false := seen.at_ ⟨2, .guard⟩ (by simp) rfl
      have tG : a.tmps[157]? = some (a.eval (.tmp 157)) := seen.got ⟨2, .guard⟩ (by simp) rfl
      rw [eG] at tG
      exact Rg.op_unwanted rfl (Rg.unwanted_of rfl rfl rfl tG (by decide)) (hK _ x rfl (Below.refl _ _))
    · obtain rfl := Option.some.inj ho
      have eG : a.eval (.tmp 157) = .bool false := seen.at_ ⟨2, .guard⟩ (by simp) rfl
      have tG : a.tmps[157]? = some (a.eval (.tmp 157)) := seen.got ⟨2, .guard⟩ (by simp) rfl
      rw [eG] at tG
      exact Rg.op_unwanted rfl (Rg.unwanted_of rfl rfl rfl tG (by decide)) (hK _ x rfl (Below.refl _ _))
    · obtain rfl := Option.some.inj ho
      have e157 : a.eval (.tmp 157) = .bool false := seen.at_ ⟨2, .data⟩ (by simp) rfl
      have e168 : a.eval (.tmp 168) = undef := seen.at_ ⟨13, .data⟩ (by simp) rfl
      exact Rg.op_value rfl rfl (Rg.ex_pick_f a.eval _ (.tmp 157) (.tmp 168) (.const (.bool false)) rfl e157 rfl x) (hK _ x rfl (Below.refl _ _))
  · intro a x df sz kp hv hbel
    have g169 : a.tmps[169]? = some (.bool false) := by
      obtain ⟨v, h1, h2⟩ := hv 14 (by decide)
      have h3 : v = .bool false := h2
      rw [← h3]
      exact h1
    have kp2 : ∀ j, (j < 155 ∨ 170 ≤ j) → a.tmps[j]? = (u0 :: u1 :: u2 :: u3 :: u4 :: u5 :: u6 :: u7 :: u8 :: u9 :: u10 :: u11 :: u12 :: u13 :: u14 :: u15 :: u16 :: u17 :: u18 :: u19 :: u20 :: .int .i64 0 :: u22 :: u23 :: u24 :: u25 :: u26 :: u27 :: u28 :: u29 :: u30 :: u31 :: u32 :: u33 :: u34 :: u35 :: u36 :: u37 :: u38 :: u39 :: u40 :: u41 :: u42 :: u43 :: u44 :: u45 :: u46 :: u47 :: u48 :: u49 :: u50 :: u51 :: u52 :: u53 :: u54 :: u55 :: u56 :: u57 :: u58 :: u59 :: u60 :: u61 :: u62 :: u63 :: u64 :: u65 :: u66 :: u67 :: u68 :: u69 :: u70 :: u71 :: u72 :: u73 :: u74 :: u75 :: u76 :: u77 :: u78 :: u79 :: u80 :: u81 :: u82 :: u83 :: u84 :: u85 :: u86 :: u87 :: u88 :: u89 :: u90 :: u91 :: u92 :: u93 :: u94 :: u95 :: u96 :: u97 :: u98 :: u99 :: u100 :: u101 :: u102 :: u103 :: u104 :: u105 :: u106 :: u107 :: u108 :: u109 :: u110 :: u111 :: u112 :: u113 :: u114 :: u115 :: u116 :: u117 :: u118 :: u119 :: u120 :: u121 :: u122 :: u123 :: u124 :: u125 :: u126 :: u127 :: u128 :: u129 :: u130 :: u131 :: u132 :: u133 :: u134 :: u135 :: u136 :: u137 :: u138 :: u139 :: u140 :: u141 :: u142 :: u143 :: u144 :: u145 :: u146 :: u147 :: u148 :: u149 :: u150 :: u151 :: u152 :: u153 :: u154 :: u155 :: u156 :: u157 :: u158 :: u159 :: u160 :: u161 :: u162 :: u163 :: u164 :: u165 :: u166 :: u167 :: u168 :: u169 :: u170 :: u171 :: u172 :: u173 :: u174 :: u175 :: u176 :: u177 :: u178 :: u179 :: u180 :: u181 :: u182 :: u183 :: u184 :: u185 :: u186 :: u187 :: u188 :: u189 :: u190 :: u191 :: u192 :: u193 :: [])[j]? := fun j hj => (kp j (nd j hj)).trans List.getElem?_toArray
    obtain ⟨mid, hmid, rfl⟩ := Rg.frame_mid (bl := (u0 :: u1 :: u2 :: u3 :: u4 :: u5 :: u6 :: u7 :: u8 :: u9 :: u10 :: u11 :: u12 :: u13 :: u14 :: u15 :: u16 :: u17 :: u18 :: u19 :: u20 :: .int .i64 0 :: u22 :: u23 :: u24 :: u25 :: u26 :: u27 :: u28 :: u29 :: u30 :: u31 :: u32 :: u33 :: u34 :: u35 :: u36 :: u37 :: u38 :: u39 :: u40 :: u41 :: u42 :: u43 :: u44 :: u45 :: u46 :: u47 :: u48 :: u49 :: u50 :: u51 :: u52 :: u53 :: u54 :: u55 :: u56 :: u57 :: u58 :: u59 :: u60 :: u61 :: u62 :: u63 :: u64 :: u65 :: u66 :: u67 :: u68 :: u69 :: u70 :: u71 :: u72 :: u73 :: u74 :: u75 :: u76 :: u77 :: u78 :: u79 :: u80 :: u81 :: u82 :: u83 :: u84 :: u85 :: u86 :: u87 :: u88 :: u89 :: u90 :: u91 :: u92 :: u93 :: u94 :: u95 :: u96 :: u97 :: u98 :: u99 :: u100 :: u101 :: u102 :: u103 :: u104 :: u105 :: u106 :: u107 :: u108 :: u109 :: u110 :: u111 :: u112 :: u113 :: u114 :: u115 :: u116 :: u117 :: u118 :: u119 :: u120 :: u121 :: u122 :: u123 :: u124 :: u125 :: u126 :: u127 :: u128 :: u129 :: u130 :: u131 :: u132 :: u133 :: u134 :: u135 :: u136 :: u137 :: u138 :: u139 :: u140 :: u141 :: u142 :: u143 :: u144 :: u145 :: u146 :: u147 :: u148 :: u149 :: u150 :: u151 :: u152 :: u153 :: u154 :: u155 :: u156 :: u157 :: u158 :: u159 :: u160 :: u161 :: u162 :: u163 :: u164 :: u165 :: u166 :: u167 :: u168 :: u169 :: u170 :: u171 :: u172 :: u173 :: u174 :: u175 :: u176 :: u177 :: u178 :: u179 :: u180 :: u181 :: u182 :: u183 :: u184 :: u185 :: u186 :: u187 :: u188 :: u189 :: u190 :: u191 :: u192 :: u193 :: [])) 155 15 df sz (by simp) kp2
    match mid, hmid with
    | [v155, v156, v157, v158, v159, v160, v161, v162, v163, v164, v165, v166, v167, v168, v169], _ =>
      obtain rfl : v169 = .bool false := Option.some.inj g169
      exact HQ.out x _ _ _ _ _ _ _ _ _ _ _ _ _ _ hbel
def ord31sV (_B : Nat) (b18 b22 k : Nat) (p : Addr) (i1 i2 j1 j2 : Int) (_q1 _q2 : Value) (_me : Int) (_s1 : Option Addr) (_s2 _s3 : Nat) (s4 : Option Addr) (s5 s6 : Nat) (_z3 _z4 _z5 : Value) (i : Nat) (v : Value) (_x : World) : Prop :=
  match i with
  | 0 => v = .int .i64 ((k : Int) + 1)
  | 1 => v = .bool true
  | 2 => v = .bool true
  | 3 => v = .pointer (some ⟨b18, 2, none⟩)
  | 4 => v = .slice s4 s5 s6
  | 5 => v = .int .i64 ((k : Int) + 1)
  | 6 => v = .int .i64 (k : Int)
  | 7 => v = .pointer (some p)
  | 8 => v = .pointer (some p)
  | 9 => v = .agg #[.int .i64 j1, .int .i64 j2]
  | 10 => v = .pointer (some ⟨b22, 0, none⟩)
  | 11 => v = .agg #[.int .i64 i1, .int .i64 i2]
  | 12 => v = .bool true
  | 13 => v = .bool false
  | 14 => v = .bool false
  | _ => True
noncomputable def ord31sC : Code := ((Tryz.f5.body.bind (findRegion 31)).getD .skip)
set_option maxRecDepth 100000 in
set_option maxHeartbeats 8000000 in
theorem ord31s (Q : Exit → Act → World → Prop) (W : World) (b18 b22 k : Nat) (p : Addr) (i1 i2 j1 j2 : Int) (q1 q2 : Value) (me : Int) (s1 : Option Addr) (s2 s3 : Nat) (s4 : Option Addr) (s5 s6 : Nat) (z3 z4 z5 : Value) (u0 u1 u2 u3 u4 u5 u6 u7 u8 u9 u10 u11 u12 u13 u14 u15 u16 u17 u19 u20 u23 u24 u25 u26 u27 u28 u29 u30 u31 u32 u33 u34 u35 u36 u37 u38 u39 u40 u41 u42 u43 u44 u45 u46 u47 u48 u49 u50 u51 u52 u53 u54 u55 u56 u57 u58 u59 u60 u61 u62 u63 u64 u65 u66 u67 u68 u69 u70 u71 u72 u73 u74 u75 u76 u77 u78 u79 u80 u81 u82 u83 u84 u85 u86 u87 u88 u89 u90 u91 u92 u93 u94 u95 u96 u97 u98 u99 u100 u101 u102 u103 u104 u105 u106 u107 u108 u109 u110 u111 u112 u113 u114 u115 u116 u117 u118 u119 u120 u121 u122 u123 u124 u125 u126 u127 u128 u129 u130 u131 u132 u133 u134 u135 u136 u137 u138 u139 u140 u141 u142 u143 u144 u145 u146 u147 u148 u149 u150 u151 u152 u153 u154 u155 u156 u157 u158 u159 u160 u161 u162 u163 u164 u165 u166 u167 u168 u169 u170 u171 u172 u173 u174 u175 u176 u177 u178 u179 u180 u181 u182 u183 u184 u185 u186 u187 u188 u189 u190 u191 u192 u193 : Value)
    (x18 : Box W b18 #[.int .i64 me, .slice s1 s2 s3, .slice s4 s5 s6, z3, z4, z5] 29) (x22 : Box W b22 #[.int .i64 i1, .int .i64 i2, q1, q2] 42) (ix : ∀ w, (Instr.indexAt 24 (.slice s4 s5 s6) (.int .i64 (k : Int))).run Tryz.prog w = .ok (.pointer (some p)) w) (px : ∀ x, Below W.heap.size W x → x.cell? p = some (.int .i64 j1) ∧ x.cell? ⟨p.block, p.off + 1, none⟩ = some (.int .i64 j2)) (ls : lessI (j1, j2) (i1, i2) = true) (k9 : k ≤ 900)
    (hQ : ∀ (x : World) (v155 v156 v157 v158 v159 v160 v161 v162 v163 v164 v165 v166 v167 v168 : Value), Below W.heap.size W x → Q .normal ⟨(u0 :: u1 :: u2 :: u3 :: u4 :: u5 :: u6 :: u7 :: u8 :: u9 :: u10 :: u11 :: u12 :: u13 :: u14 :: u15 :: u16 :: u17 :: .pointer (some ⟨b18, 0, none⟩) :: u19 :: u20 :: .int .i64 ((k : Int) + 1) :: .pointer (some ⟨b22, 0, none⟩) :: u23 :: u24 :: u25 :: u26 :: u27 :: u28 :: u29 :: u30 :: u31 :: u32 :: u33 :: u34 :: u35 :: u36 :: u37 :: u38 :: u39 :: u40 :: u41 :: u42 :: u43 :: u44 :: u45 :: u46 :: u47 :: u48 :: u49 :: u50 :: u51 :: u52 :: u53 :: u54 :: u55 :: u56 :: u57 :: u58 :: u59 :: u60 :: u61 :: u62 :: u63 :: u64 :: u65 :: u66 :: u67 :: u68 :: u69 :: u70 :: u71 :: u72 :: u73 :: u74 :: u75 :: u76 :: u77 :: u78 :: u79 :: u80 :: u81 :: u82 :: u83 :: u84 :: u85 :: u86 :: u87 :: u88 :: u89 :: u90 :: u91 :: u92 :: u93 :: u94 :: u95 :: u96 :: u97 :: u98 :: u99 :: u100 :: u101 :: u102 :: u103 :: u104 :: u105 :: u106 :: u107 :: u108 :: u109 :: u110 :: u111 :: u112 :: u113 :: u114 :: u115 :: u116 :: u117 :: u118 :: u119 :: u120 :: u121 :: u122 :: u123 :: u124 :: u125 :: u126 :: u127 :: u128 :: u129 :: u130 :: u131 :: u132 :: u133 :: u134 :: u135 :: u136 :: u137 :: u138 :: u139 :: u140 :: u141 :: u142 :: u143 :: u144 :: u145 :: u146 :: u147 :: u148 :: u149 :: u150 :: u151 :: u152 :: u153 :: u154 :: v155 :: v156 :: v157 :: v158 :: v159 :: v160 :: v161 :: v162 :: v163 :: v164 :: v165 :: v166 :: v167 :: v168 :: .bool false :: u170 :: u171 :: u172 :: u173 :: u174 :: u175 :: u176 :: u177 :: u178 :: u179 :: u180 :: u181 :: u182 :: u183 :: u184 :: u185 :: u186 :: u187 :: u188 :: u189 :: u190 :: u191 :: u192 :: u193 :: []).toArray, []⟩ x) :
    Code.wp Tryz.prog ord31sC Q ⟨(u0 :: u1 :: u2 :: u3 :: u4 :: u5 :: u6 :: u7 :: u8 :: u9 :: u10 :: u11 :: u12 :: u13 :: u14 :: u15 :: u16 :: u17 :: .pointer (some ⟨b18, 0, none⟩) :: u19 :: u20 :: .int .i64 ((k : Int) + 1) :: .pointer (some ⟨b22, 0, none⟩) :: u23 :: u24 :: u25 :: u26 :: u27 :: u28 :: u29 :: u30 :: u31 :: u32 :: u33 :: u34 :: u35 :: u36 :: u37 :: u38 :: u39 :: u40 :: u41 :: u42 :: u43 :: u44 :: u45 :: u46 :: u47 :: u48 :: u49 :: u50 :: u51 :: u52 :: u53 :: u54 :: u55 :: u56 :: u57 :: u58 :: u59 :: u60 :: u61 :: u62 :: u63 :: u64 :: u65 :: u66 :: u67 :: u68 :: u69 :: u70 :: u71 :: u72 :: u73 :: u74 :: u75 :: u76 :: u77 :: u78 :: u79 :: u80 :: u81 :: u82 :: u83 :: u84 :: u85 :: u86 :: u87 :: u88 :: u89 :: u90 :: u91 :: u92 :: u93 :: u94 :: u95 :: u96 :: u97 :: u98 :: u99 :: u100 :: u101 :: u102 :: u103 :: u104 :: u105 :: u106 :: u107 :: u108 :: u109 :: u110 :: u111 :: u112 :: u113 :: u114 :: u115 :: u116 :: u117 :: u118 :: u119 :: u120 :: u121 :: u122 :: u123 :: u124 :: u125 :: u126 :: u127 :: u128 :: u129 :: u130 :: u131 :: u132 :: u133 :: u134 :: u135 :: u136 :: u137 :: u138 :: u139 :: u140 :: u141 :: u142 :: u143 :: u144 :: u145 :: u146 :: u147 :: u148 :: u149 :: u150 :: u151 :: u152 :: u153 :: u154 :: u155 :: u156 :: u157 :: u158 :: u159 :: u160 :: u161 :: u162 :: u163 :: u164 :: u165 :: u166 :: u167 :: u168 :: u169 :: u170 :: u171 :: u172 :: u173 :: u174 :: u175 :: u176 :: u177 :: u178 :: u179 :: u180 :: u181 :: u182 :: u183 :: u184 :: u185 :: u186 :: u187 :: u188 :: u189 :: u190 :: u191 :: u192 :: u193 :: []).toArray, []⟩ W := by
  have HQ := Lib.hid hQ
  have X18 := Lib.hid x18
  have X22 := Lib.hid x22
  have IX := Lib.hid ix
  have PX := Lib.hid px
  have LS := Lib.hid ls
  have K9 := Lib.hid k9
  clear hQ x18 x22 ix px ls k9
  unfold ord31sC
  conv => arg 2; whnf
  have nd : ∀ j, (j < 155 ∨ 170 ≤ j) → ∀ i, i < 15 → (fun i => 155 + i) i ≠ j := by
    intro j hj i hi h
    simp only at h
    omega
  refine Rg.region_rel 15 (fun i => 155 + i) (ord31sV W.heap.size b18 b22 k p i1 i2 j1 j2 q1 q2 me s1 s2 s3 s4 s5 s6 z3 z4 z5) (by kernel_rfl) (by kernel_rfl) rfl ?_ (fun i j _ _ h => by have h2 : 155 + i = 155 + j := h; omega) (fun i hi => by show 155 + i < 194; omega) ?_ ?_ ?_
  · intro i o ho
    have hi : i < 15 := (List.getElem?_eq_some_iff.1 ho).1
    rcases (by omega : i = 0 ∨ i = 1 ∨ i = 2 ∨ i = 3 ∨ i = 4 ∨ i = 5 ∨ i = 6 ∨ i = 7 ∨ i = 8 ∨ i = 9 ∨ i = 10 ∨ i = 11 ∨ i = 12 ∨ i = 13 ∨ i = 14) with rfl | rfl | rfl | rfl | rfl | rfl | rfl | rfl | rfl | rfl | rfl | rfl | rfl | rfl | rfl
    all_goals (obtain rfl := Option.some.inj ho; rfl)
  · intro i v x x' h hb
    by_cases hi : i < 15
    · rcases (by omega : i = 0 ∨ i = 1 ∨ i = 2 ∨ i = 3 ∨ i = 4 ∨ i = 5 ∨ i = 6 ∨ i = 7 ∨ i = 8 ∨ i = 9 ∨ i = 10 ∨ i = 11 ∨ i = 12 ∨ i = 13 ∨ i = 14) with rfl | rfl | rfl | rfl | rfl | rfl | rfl | rfl | rfl | rfl | rfl | rfl | rfl | rfl | rfl
      · exact h
      · exact h
      · exact h
      · exact h
      · exact h
      · exact h
      · exact h
      · exact h
      · exact h
      · exact h
      · exact h
      · exact h
      · exact h
      · exact h
      · exact h
    · unfold ord31sV
      split <;> first | omega | trivial
  · intro i o hi ho a x hb seen K hK
    clear HQ
    rcases (by omega : i = 0 ∨ i = 1 ∨ i = 2 ∨ i = 3 ∨ i = 4 ∨ i = 5 ∨ i = 6 ∨ i = 7 ∨ i = 8 ∨ i = 9 ∨ i = 10 ∨ i = 11 ∨ i = 12 ∨ i = 13 ∨ i = 14) with rfl | rfl | rfl | rfl | rfl | rfl | rfl | rfl | rfl | rfl | rfl | rfl | rfl | rfl | rfl
    · obtain rfl := Option.some.inj ho
      have e21 : a.eval (.tmp 21) = .int .i64 ((k : Int) + 1) := seen.kp 21 _ (nd 21 (by omega)) rfl
      exact Rg.op_value rfl rfl (Rg.ex_move a.eval _ (.tmp 21) rfl x) (hK _ x e21 (Below.refl _ _))
    · obtain rfl := Option.some.inj ho
      have e155 : a.eval (.tmp 155) = .int .i64 ((k : Int) + 1) := seen.at_ ⟨0, .data⟩ (by simp) rfl
      exact Rg.op_value rfl rfl (Rg.ex_bin a.eval _ .gtr 3 (.tmp 155) (.const (.int .i64 0)) 3 rfl (by rw [e155]; exact gtr_succ _ _ x k)) (hK _ x rfl (Below.refl _ _))
    · obtain rfl := Option.some.inj ho
      have e156 : a.eval (.tmp 156) = .bool true := seen.at_ ⟨1, .data⟩ (by simp) rfl
      exact Rg.op_value rfl rfl (Rg.ex_move a.eval _ (.tmp 156) rfl x) (hK _ x e156 (Below.refl _ _))
    · obtain rfl := Option.some.inj ho
      have eG : a.eval (.tmp 157) = .bool true := seen.at_ ⟨2, .guard⟩ (by simp) rfl
      have tG : a.tmps[157]? = some (a.eval (.tmp 157)) := seen.got ⟨2, .guard⟩ (by simp) rfl
      rw [eG] at tG
      have e18 : a.eval (.tmp 18) = .pointer (some ⟨b18, 0, none⟩) := seen.kp 18 _ (nd 18 (by omega)) rfl
      exact Rg.op_value_w rfl (Rg.wanted_of rfl rfl rfl tG) (Rg.ex_field a.eval _ 29 (.tmp 18) 2 rfl (by rw [e18]; simp [go_sem])) (hK _ x rfl (Below.refl _ _))
    · obtain rfl := Option.some.inj ho
      have eG : a.eval (.tmp 157) = .bool true := seen.at_ ⟨2, .guard⟩ (by simp) rfl
      have tG : a.tmps[157]? = some (a.eval (.tmp 157)) := seen.got ⟨2, .guard⟩ (by simp) rfl
      rw [eG] at tG
      have e158 : a.eval (.tmp 158) = .pointer (some ⟨b18, 2, none⟩) := seen.at_ ⟨3, .data⟩ (by simp) rfl
      have y2 := (X18.out.on hb).cell 2
      simp only [List.getElem?_toArray, List.getElem?_cons_zero, List.getElem?_cons_succ] at y2
      exact Rg.op_value_w rfl (Rg.wanted_of rfl rfl rfl tG) (Rg.ex_load a.eval _ 24 (.tmp 158) rfl (by rw [e158]; simp [go_sem, y2])) (hK _ x rfl (Below.refl _ _))
    · obtain rfl := Option.some.inj ho
      have eG : a.eval (.tmp 157) = .bool true := seen.at_ ⟨2, .guard⟩ (by simp) rfl
      have tG : a.tmps[157]? = some (a.eval (.tmp 157)) := seen.got ⟨2, .guard⟩ (by simp) rfl
      rw [eG] at tG
      have e21 : a.eval (.tmp 21) = .int .i64 ((k : Int) + 1) := seen.kp 21 _ (nd 21 (by omega)) rfl
      exact Rg.op_value_w rfl (Rg.wanted_of rfl rfl rfl tG) (Rg.ex_move a.eval _ (.tmp 21) rfl x) (hK _ x e21 (Below.refl _ _))
    · obtain rfl := Option.some.inj ho
      have eG : a.eval (.tmp 157) = .bool true := seen.at_ ⟨2, .guard⟩ (by simp) rfl
      have tG : a.tmps[157]? = some (a.eval (.tmp 157)) := seen.got ⟨2, .guard⟩ (by simp) rfl
      rw [eG] at tG
      have e160 : a.eval (.tmp 160) = .int .i64 ((k : Int) + 1) := seen.at_ ⟨5, .data⟩ (by simp) rfl
      exact Rg.op_value_w rfl (Rg.wanted_of rfl rfl rfl tG) (Rg.ex_bin a.eval _ .sub 3 (.tmp 160) (.const (.int .i64 1)) 3 rfl (by rw [e160]; exact sub_one _ _ x k K9.out)) (hK _ x rfl (Below.refl _ _))
    · obtain rfl := Option.some.inj ho
      have eG : a.eval (.tmp 157) = .bool true := seen.at_ ⟨2, .guard⟩ (by simp) rfl
      have tG : a.tmps[157]? = some (a.eval (.tmp 157)) := seen.got ⟨2, .guard⟩ (by simp) rfl
      rw [eG] at tG
      have e159 : a.eval (.tmp 159) = .slice s4 s5 s6 := seen.at_ ⟨4, .data⟩ (by simp) rfl
      have e161 : a.eval (.tmp 161) = .int .i64 (k : Int) := seen.at_ ⟨6, .data⟩ (by simp) rfl
      exact Rg.op_value_w rfl (Rg.wanted_of rfl rfl rfl tG) (Rg.ex_index a.eval _ 24 (.tmp 159) (.tmp 161) rfl (by rw [e159, e161]; exact IX.out x)) (hK _ x rfl (Below.refl _ _))
    · obtain rfl := Option.some.inj ho
      have eG : a.eval (.tmp 157) = .bool true := seen.at_ ⟨2, .guard⟩ (by simp) rfl
      have tG : a.tmps[157]? = some (a.eval (.tmp 157)) := seen.got ⟨2, .guard⟩ (by simp) rfl
      rw [eG] at tG
      have e162 : a.eval (.tmp 162) = .pointer (some p) := seen.at_ ⟨7, .data⟩ (by simp) rfl
      exact Rg.op_value_w rfl (Rg.wanted_of rfl rfl rfl tG) (Rg.ex_field a.eval _ 42 (.tmp 162) 0 rfl (by rw [e162]; simp [go_sem, Rw.add_zero])) (hK _ x rfl (Below.refl _ _))
    · obtain rfl := Option.some.inj ho
      have eG : a.eval (.tmp 157) = .bool true := seen.at_ ⟨2, .guard⟩ (by simp) rfl
      have tG : a.tmps[157]? = some (a.eval (.tmp 157)) := seen.got ⟨2, .guard⟩ (by simp) rfl
      rw [eG] at tG
      have e163 : a.eval (.tmp 163) = .pointer (some p) := seen.at_ ⟨8, .data⟩ (by simp) rfl
      obtain ⟨y0, y1⟩ := PX.out x hb
      exact Rg.op_value_w rfl (Rg.wanted_of rfl rfl rfl tG) (Rg.ex_load a.eval _ 37 (.tmp 163) rfl (by rw [e163]; simp [go_sem, y0, y1])) (hK _ x rfl (Below.refl _ _))
    · obtain rfl := Option.some.inj ho
      have eG : a.eval (.tmp 157) = .bool true := seen.at_ ⟨2, .guard⟩ (by simp) rfl
      have tG : a.tmps[157]? = some (a.eval (.tmp 157)) := seen.got ⟨2, .guard⟩ (by simp) rfl
      rw [eG] at tG
      have e22 : a.eval (.tmp 22) = .pointer (some ⟨b22, 0, none⟩) := seen.kp 22 _ (nd 22 (by omega)) rfl
      exact Rg.op_value_w rfl (Rg.wanted_of rfl rfl rfl tG) (Rg.ex_field a.eval _ 42 (.tmp 22) 0 rfl (by rw [e22]; simp [go_sem])) (hK _ x rfl (Below.refl _ _))
    · obtain rfl := Option.some.inj ho
      have eG : a.eval (.tmp 157) = .bool true := seen.at_ ⟨2, .guard⟩ (by simp) rfl
      have tG : a.tmps[157]? = some (a.eval (.tmp 157)) := seen.got ⟨2, .guard⟩ (by simp) rfl
      rw [eG] at tG
      have e165 : a.eval (.tmp 165) = .pointer (some ⟨b22, 0, none⟩) := seen.at_ ⟨10, .data⟩ (by simp) rfl
      have y0 := (X22.out.on hb).cell 0
      have y1 := (X22.out.on hb).cell 1
      simp only [List.getElem?_toArray, List.getElem?_cons_zero, List.getElem?_cons_succ] at y0 y1
      exact Rg.op_value_w rfl (Rg.wanted_of rfl rfl rfl tG) (Rg.ex_load a.eval _ 37 (.tmp 165) rfl (by rw [e165]; simp [go_sem, y0, y1])) (hK _ x rfl (Below.refl _ _))
    · obtain rfl := Option.some.inj ho
      have eG : a.eval (.tmp 157) = .bool true := seen.at_ ⟨2, .guard⟩ (by simp) rfl
      have tG : a.tmps[157]? = some (a.eval (.tmp 157)) := seen.got ⟨2, .guard⟩ (by simp) rfl
      rw [eG] at tG
      have e164 : a.eval (.tmp 164) = .agg #[.int .i64 j1, .int .i64 j2] := seen.at_ ⟨9, .data⟩ (by simp) rfl
      have e166 : a.eval (.tmp 166) = .agg #[.int .i64 i1, .int .i64 i2] := seen.at_ ⟨11, .data⟩ (by simp) rfl
      exact Rg.op_call_w rfl (Rg.wanted_of rfl rfl rfl tG) (Rw.ex_call2 a.eval _ (.tmp 164) (.tmp 166) 37 37 21 rfl e164 e166 rfl _ (call_fn Tryz.func21 rfl rfl _ _)) (aless_any (j1, j2) (i1, i2) x) fun e w1 h => by
        obtain ⟨rfl, hb1⟩ := h
        rw [LS.out]
        exact ⟨_, rfl, hK _ _ rfl hb1⟩
    · obtain rfl := Option.some.inj ho
      have eG : a.eval (.tmp 157) = .bool true := seen.at_ ⟨2, .guard⟩ (by simp) rfl
      have tG : a.tmps[157]? = some (a.eval (.tmp 157)) := seen.got ⟨2, .guard⟩ (by simp) rfl
      rw [eG] at tG
      have e167 : a.eval (.tmp 167) = .bool true := seen.at_ ⟨12, .data⟩ (by simp) rfl
      exact Rg.op_value_w rfl (Rg.wanted_of rfl rfl rfl tG) (Rg.ex_not a.eval _ 4 (.tmp 167) rfl e167 x) (hK _ x rfl (Below.refl _ _))
    · obtain rfl := Option.some.inj ho
      have e157 : a.eval (.tmp 157) = .bool true := seen.at_ ⟨2, .data⟩ (by simp) rfl
      have e168 : a.eval (.tmp 168) = .bool false := seen.at_ ⟨13, .data⟩ (by simp) rfl
      exact Rg.op_value rfl rfl (Rg.ex_pick_t a.eval _ (.tmp 157) (.tmp 168) (.const (.bool false)) rfl e157 e168 x) (hK _ x rfl (Below.refl _ _))
  · intro a x df sz kp hv hbel
    have g169 : a.tmps[169]? = some (.bool false) := by
      obtain ⟨v, h1, h2⟩ := hv 14 (by decide)
      have h3 : v = .bool false := h2
      rw [← h3]
      exact h1
    have kp2 : ∀ j, (j < 155 ∨ 170 ≤ j) → a.tmps[j]? = (u0 :: u1 :: u2 :: u3 :: u4 :: u5 :: u6 :: u7 :: u8 :: u9 :: u10 :: u11 :: u12 :: u13 :: u14 :: u15 :: u16 :: u17 :: .pointer (some ⟨b18, 0, none⟩) :: u19 :: u20 :: .int .i64 ((k : Int) + 1) :: .pointer (some ⟨b22, 0, none⟩) :: u23 :: u24 :: u25 :: u26 :: u27 :: u28 :: u29 :: u30 :: u31 :: u32 :: u33 :: u34 :: u35 :: u36 :: u37 :: u38 :: u39 :: u40 :: u41 :: u42 :: u43 :: u44 :: u45 :: u46 :: u47 :: u48 :: u49 :: u50 :: u51 :: u52 :: u53 :: u54 :: u55 :: u56 :: u57 :: u58 :: u59 :: u60 :: u61 :: u62 :: u63 :: u64 :: u65 :: u66 :: u67 :: u68 :: u69 :: u70 :: u71 :: u72 :: u73 :: u74 :: u75 :: u76 :: u77 :: u78 :: u79 :: u80 :: u81 :: u82 :: u83 :: u84 :: u85 :: u86 :: u87 :: u88 :: u89 :: u90 :: u91 :: u92 :: u93 :: u94 :: u95 :: u96 :: u97 :: u98 :: u99 :: u100 :: u101 :: u102 :: u103 :: u104 :: u105 :: u106 :: u107 :: u108 :: u109 :: u110 :: u111 :: u112 :: u113 :: u114 :: u115 :: u116 :: u117 :: u118 :: u119 :: u120 :: u121 :: u122 :: u123 :: u124 :: u125 :: u126 :: u127 :: u128 :: u129 :: u130 :: u131 :: u132 :: u133 :: u134 :: u135 :: u136 :: u137 :: u138 :: u139 :: u140 :: u141 :: u142 :: u143 :: u144 :: u145 :: u146 :: u147 :: u148 :: u149 :: u150 :: u151 :: u152 :: u153 :: u154 :: u155 :: u156 :: u157 :: u158 :: u159 :: u160 :: u161 :: u162 :: u163 :: u164 :: u165 :: u166 :: u167 :: u168 :: u169 :: u170 :: u171 :: u172 :: u173 :: u174 :: u175 :: u176 :: u177 :: u178 :: u179 :: u180 :: u181 :: u182 :: u183 :: u184 :: u185 :: u186 :: u187 :: u188 :: u189 :: u190 :: u191 :: u192 :: u193 :: [])[j]? := fun j hj => (kp j (nd j hj)).trans List.getElem?_toArray
    obtain ⟨mid, hmid, rfl⟩ := Rg.frame_mid (bl := (u0 :: u1 :: u2 :: u3 :: u4 :: u5 :: u6 :: u7 :: u8 :: u9 :: u10 :: u11 :: u12 :: u13 :: u14 :: u15 :: u16 :: u17 :: .pointer (some ⟨b18, 0, none⟩) :: u19 :: u20 :: .int .i64 ((k : Int) + 1) :: .pointer (some ⟨b22, 0, none⟩) :: u23 :: u24 :: u25 :: u26 :: u27 :: u28 :: u29 :: u30 :: u31 :: u32 :: u33 :: u34 :: u35 :: u36 :: u37 :: u38 :: u39 :: u40 :: u41 :: u42 :: u43 :: u44 :: u45 :: u46 :: u47 :: u48 :: u49 :: u50 :: u51 :: u52 :: u53 :: u54 :: u55 :: u56 :: u57 :: u58 :: u59 :: u60 :: u61 :: u62 :: u63 :: u64 :: u65 :: u66 :: u67 :: u68 :: u69 :: u70 :: u71 :: u72 :: u73 :: u74 :: u75 :: u76 :: u77 :: u78 :: u79 :: u80 :: u81 :: u82 :: u83 :: u84 :: u85 :: u86 :: u87 :: u88 :: u89 :: u90 :: u91 :: u92 :: u93 :: u94 :: u95 :: u96 :: u97 :: u98 :: u99 :: u100 :: u101 :: u102 :: u103 :: u104 :: u105 :: u106 :: u107 :: u108 :: u109 :: u110 :: u111 :: u112 :: u113 :: u114 :: u115 :: u116 :: u117 :: u118 :: u119 :: u120 :: u121 :: u122 :: u123 :: u124 :: u125 :: u126 :: u127 :: u128 :: u129 :: u130 :: u131 :: u132 :: u133 :: u134 :: u135 :: u136 :: u137 :: u138 :: u139 :: u140 :: u141 :: u142 :: u143 :: u144 :: u145 :: u146 :: u147 :: u148 :: u149 :: u150 :: u151 :: u152 :: u153 :: u154 :: u155 :: u156 :: u157 :: u158 :: u159 :: u160 :: u161 :: u162 :: u163 :: u164 :: u165 :: u166 :: u167 :: u168 :: u169 :: u170 :: u171 :: u172 :: u173 :: u174 :: u175 :: u176 :: u177 :: u178 :: u179 :: u180 :: u181 :: u182 :: u183 :: u184 :: u185 :: u186 :: u187 :: u188 :: u189 :: u190 :: u191 :: u192 :: u193 :: [])) 155 15 df sz (by simp) kp2
    match mid, hmid with
    | [v155, v156, v157, v158, v159, v160, v161, v162, v163, v164, v165, v166, v167, v168, v169], _ =>
      obtain rfl : v169 = .bool false := Option.some.inj g169
      exact HQ.out x _ _ _ _ _ _ _ _ _ _ _ _ _ _ hbel
end Go.Proofs.YtonoadjmglkhaaaGreat.Av

namespace Go.Proofs.YtonoadjmglkhaaaGreat.Av
open Go.RowKit Go.Sort Go.Proofs.YtonoadjmglkhaaaGreat Go.Proofs.YtonoadjmglkhaaaGreat.Rw Go.Proofs.YtonoadjmglkhaaaGreat.Nm Go.Proofs.YtonoadjmglkhaaaGreat.Pr Go.Proofs.YtonoadjmglkhaaaGreat.Bk

set_option maxRecDepth 100000 in
theorem isNaN2_any (a : Int) (w : World) : Calls Tryz.prog 135 #[.int .i64 a] w fun e w' => e = .returned (.bool false) ∧ w' = w := by
  go_enter Tryz.func135, Tryz.ntmps135
  go_wp2
  go_ret
  exact ⟨by simp, rfl⟩
set_option maxRecDepth 100000 in
theorem less2_any (a b : Int) (r : Bool) (hr : decide (a < b) = r) (w : World) : Calls Tryz.prog 110 #[.int .i64 a, .int .i64 b] w fun e w' => e = .returned (.bool r) ∧ w' = w := by
  go_enter Tryz.func110, Tryz.ntmps110
  go_wp2_with (go_at_call 92; refine (isNaN_any _ _).mono ?_; rintro e w' ⟨rfl, rfl⟩)
  go_ret
  exact ⟨by first | rfl | (subst hr; rfl), rfl⟩
set_option maxRecDepth 100000 in
set_option maxHeartbeats 8000000 in
theorem bsI_any (v : Value) (l : List Int) (t : Int) (w : World) (hv : RowI w v l) (hs : l.Pairwise (· ≤ ·)) (hl : l.length ≤ 900) :
    Calls Tryz.prog 121 #[v, .int .i64 t] w fun e w' => (∃ k : Nat, e = .returned (.tuple #[.int .i64 k, .bool (decide (t ∈ l))])) ∧ w' = w := by
  have HL := Lib.hid hv
  have HS := Lib.hid (List.pairwise_iff_getElem.1 hs)
  obtain ⟨ao, ac, rfl⟩ := hv.len
  obtain ⟨n, hn⟩ : ∃ n, n = l.length := ⟨_, rfl⟩
  rw [← hn] at HL hl ⊢
  have HN := Lib.hid hn
  obtain ⟨th, ht⟩ : ∃ k, k = decide (t ∈ l) := ⟨_, rfl⟩
  rw [← ht]
  have HT := Lib.hid ht
  clear hv hs hn ht
  go_enter Tryz.func121, Tryz.ntmps121
  go_wp2
  go_loopg [7, 8] n (fun kx s7 s8 wr => ∃ lo hi : Nat, s7 = .int .i64 lo ∧ s8 = .int .i64 hi ∧ lo ≤ hi ∧ hi ≤ n ∧ hi - lo ≤ kx ∧ RowKit.Hid (wr = w) ∧
    (∀ (j : Nat) (y : Int), j < lo → l[j]? = some y → y < t) ∧ (∀ (j : Nat) (y : Int), hi ≤ j → l[j]? = some y → t ≤ y))
  case atStart => exact ⟨0, n, rfl, rfl, Nat.zero_le _, Nat.le_refl _, by omega, by first | exact Lib.hid rfl | exact Lib.hid trivial, fun j y h => by omega, fun j y h1 h2 => by have := (List.getElem?_eq_some_iff.1 h2).1; have := HN.out; omega⟩
  case round =>
    obtain ⟨lo, hi, rfl, rfl, hlh, hin, hg, hw, ha, hz⟩ := hrel
    obtain rfl := hw.out
    clear hw
    have AL := Lib.hid ha
    have ZL := Lib.hid hz
    clear ha hz
    by_cases hlt : lo < hi
    · obtain ⟨y, hy⟩ : ∃ y, l[(lo + hi) / 2]? = some y := ⟨_, List.getElem?_eq_getElem (by have := HN.out; omega)⟩
      obtain ⟨p, ix, _, px⟩ := elI HL.out rfl HN.out.symm hy
      have p0 := px wr (Below.refl _ _)
      have Y := Lib.hid hy
      have e23 : ((lo : Int) + (hi : Int)) / 2 = (((lo + hi) / 2 : Nat) : Int) := by omega
      generalize hm : (lo + hi) / 2 = m at *
      have hcmp : ∀ (i j : Nat) (a b : Int), i ≤ j → l[i]? = some a → l[j]? = some b → a ≤ b := by
        intro i j a b hij h1 h2
        obtain ⟨q1, rfl⟩ := List.getElem?_eq_some_iff.1 h1
        obtain ⟨q2, rfl⟩ := List.getElem?_eq_some_iff.1 h2
        rcases Nat.lt_or_ge i j with h | h
        · exact HS.out i j q1 q2 h
        · obtain rfl : i = j := by omega
          exact Int.le_refl _
      have CM := Lib.hid hcmp
      clear px hy hcmp
      by_cases hneg : y < t
      · have C := less2_any y t true (by simpa using hneg)
        go_wp2_with fail
        refine (C _).mono ?_
        rintro e w' ⟨rfl, rfl⟩
        clear C ix p0
        go_wp2
        go_roundg (hi - (m + 1))
        case measure => omega
        case rel => exact ⟨m + 1, hi, by go_num, rfl, by omega, hin, Nat.le_refl _, by first | exact Lib.hid rfl | exact Lib.hid trivial, fun j z h1 h2 => by
          have := CM.out j m z y (by omega) h2 Y.out
          omega, ZL.out⟩
      · have C := less2_any y t false (by simp; omega)
        go_wp2_with fail
        refine (C _).mono ?_
        rintro e w' ⟨rfl, rfl⟩
        clear C ix p0
        go_wp2
        go_roundg (m - lo)
        case measure => omega
        case rel => exact ⟨lo, m, rfl, rfl, by omega, by omega, Nat.le_refl _, by first | exact Lib.hid rfl | exact Lib.hid trivial, AL.out, fun j z h1 h2 => by
          have := CM.out m j y z h1 Y.out h2
          omega⟩
    · obtain rfl : hi = lo := by omega
      have memk : ∀ x, l[hi]? = some x → (t ∈ l ↔ x = t) := by
        intro x hx
        constructor
        · intro hm
          obtain ⟨j, hj, rfl⟩ := List.mem_iff_getElem.1 hm
          have h1 := ZL.out hi x (Nat.le_refl _) hx
          obtain ⟨q1, rfl⟩ := List.getElem?_eq_some_iff.1 hx
          rcases Nat.lt_trichotomy j hi with h | h | h
          · have := AL.out j _ h (List.getElem?_eq_getElem hj); omega
          · subst h; rfl
          · have := HS.out hi j q1 hj h; omega
        · rintro rfl
          exact List.mem_of_getElem? hx
      by_cases hn : hi < n
      · obtain ⟨x, hx⟩ : ∃ x, l[hi]? = some x := ⟨_, List.getElem?_eq_getElem (by have := HN.out; omega)⟩
        obtain ⟨p, ix, _, px⟩ := elI HL.out rfl HN.out.symm hx
        have p0 := px wr (Below.refl _ _)
        have g4 : decide ((hi : Int) < (n : Int)) = true := by simp; omega
        have MK := memk x hx
        clear memk px
        by_cases he : x = t
        · have TH := Lib.hid (show th = true by rw [HT.out, decide_eq_true (MK.2 he)])
          have g5 : (x == t) = true := by simp [he]
          clear hx MK he hlt
          go_wp2_with (go_at_call 135; refine (isNaN2_any _ _).mono ?_; rintro e w' ⟨rfl, rfl⟩)
          go_ret2
          exact ⟨⟨hi, by rw [TH.out]; rfl⟩, rfl⟩
        · have TH := Lib.hid (show th = false by rw [HT.out, decide_eq_false (fun h => he (MK.1 h))])
          have g5 : (x == t) = false := by simp [he]
          clear hx MK he hlt
          go_wp2_with (go_at_call 135; refine (isNaN2_any _ _).mono ?_; rintro e w' ⟨rfl, rfl⟩)
          go_ret2
          exact ⟨⟨hi, by rw [TH.out]; rfl⟩, rfl⟩
      · have TH := Lib.hid (show th = false by
          rw [HT.out]
          refine decide_eq_false fun hm => ?_
          obtain ⟨j, hj, hjt⟩ := List.mem_iff_getElem.1 hm
          have := AL.out j _ (by have := HN.out; omega) (List.getElem?_eq_getElem hj)
          omega)
        have g4 : decide ((hi : Int) < (n : Int)) = false := by simp; omega
        clear hlt memk
        go_wp2_with fail
        go_ret2
        exact ⟨⟨hi, by rw [TH.out]; rfl⟩, rfl⟩
/-- May something come from there? -/
def comesB (near : List Int) (f : Int) : Bool := decide (f ∈ near) || f == -1
set_option maxRecDepth 100000 in
theorem comes_any (me : Int) (nv : Sl) (z2 z3 z4 z5 : Value) (l : List Int) (f : Int) (w : World) (hn : RowI w (slv nv) l) (hs : l.Pairwise (· ≤ ·)) (hl : l.length ≤ 900) :
    Calls Tryz.prog 93 #[.agg #[.int .i64 me, slv nv, z2, z3, z4, z5], .int .i64 f] w fun e w' => e = .returned (.bool (comesB l f)) ∧ Below w.heap.size w w' := by
  obtain ⟨o1, n1, c1⟩ := nv
  have n0 := newB w (.cells #[.int .i64 me, .slice o1 n1 c1, z2, z3, z4, z5] 29)
  have X := box_new w #[.int .i64 me, .slice o1 n1 c1, z2, z3, z4, z5] 29
  have C := Lib.hid (bsI_any (.slice o1 n1 c1) l f _ (hn.on n0) hs hl)
  have x1 := X.cell 1
  simp only [List.getElem?_toArray, List.getElem?_cons_zero, List.getElem?_cons_succ] at x1
  have R := Lib.hid (show comesB l f = (decide (f ∈ l) || f == -1) from rfl)
  generalize comesB l f = res at *
  generalize decide (f ∈ l) = r at *
  have B0 := Lib.hid n0
  obtain ⟨q, hq⟩ : ∃ q, (f == -1) = q := ⟨_, rfl⟩
  rw [hq] at R
  clear n0 X hn hs hl
  go_enter Tryz.func93, Tryz.ntmps93
  go_wp2_with fail
  refine C.out.mono ?_
  rintro e w1 ⟨⟨k, rfl⟩, rfl⟩
  cases r
  · go_wp2_with fail
    go_ret
    exact ⟨by rw [R.out]; rfl, B0.out⟩
  · go_wp2_with fail
    go_ret
    exact ⟨by rw [R.out]; rfl, B0.out⟩
end Go.Proofs.YtonoadjmglkhaaaGreat.Av
