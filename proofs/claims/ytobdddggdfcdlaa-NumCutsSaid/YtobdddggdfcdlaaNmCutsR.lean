/-
  A region of the law NumCuts: a number that was read, its bytes made anew and held against those it came from. Conditions: bytes no longer than a machine holds.
-/
import Derived.Test.YtobdddggdfcdlaaNmBackR
import Derived.Test.YtobdddggdfcdlaaRgQ
namespace Go.Proofs.Ytobdddggdfcdlaa.Nm
open Go.RowKit Go.Proofs.Ytobdddggdfcdlaa Go.Proofs.Ytobdddggdfcdlaa.Rw

theorem lit_int (w : World) (n : Int) : (Instr.buildSlice 39 1 #[(0, .int .i64 n)]).run Try.prog w = .ok (.slice (some ⟨w.heap.size, 0, none⟩) 1 1) (w.alloc (.cells #[.int .i64 n] 3)) := by simp [go_sem]
theorem call_same (args : Array Value) (w : World) : (callFunc 10 args).run Try.prog w = .ok (.enter 10 args) w := call_fn Try.func10 rfl rfl args w
theorem add8 (x y : Operand) (t : TypeId) (w : World) (k : Nat) (hk : k ≤ 1000000) : (do eqGuard .add t x y (.int .i64 k) (.int .i64 8); binOp .add t (.int .i64 k) (.int .i64 8) : Sem Value).run Try.prog w = .ok (.int .i64 ((k : Int) + 8)) w := by
  have h : IntKind.i64.wrap ((k : Int) + 8) = (k : Int) + 8 := IntWalk.i64_in _ (by omega)
  simp [eqGuard, binOp, Op.intArith, go_sem, h]
theorem leq8 (x y : Operand) (t : TypeId) (w : World) (k L : Nat) (hk : k + 8 ≤ L) : (do eqGuard .leq t x y (.int .i64 ((k : Int) + 8)) (.int .i64 L); binOp .leq t (.int .i64 ((k : Int) + 8)) (.int .i64 L) : Sem Value).run Try.prog w = .ok (.bool true) w := by
  have h : (k : Int) + 8 ≤ (L : Int) := by omega
  simp [eqGuard, binOp, go_sem, h]
theorem gtr8 (x y : Operand) (t : TypeId) (w : World) (k L : Nat) (hk : k + 8 ≤ L) : (do eqGuard .gtr t x y (.int .i64 ((k : Int) + 8)) (.int .i64 L); binOp .gtr t (.int .i64 ((k : Int) + 8)) (.int .i64 L) : Sem Value).run Try.prog w = .ok (.bool false) w := by
  have h : ¬ (L : Int) < (k : Int) + 8 := by omega
  simp [eqGuard, binOp, go_sem, h]
theorem ex_not {P : Program} (ρ : Operand → Value) (o : Oper) (t : TypeId) (x : Operand) (ho : o.op = .unOp .not t x) {b : Bool} (hx : ρ x = .bool b) (w : World) : (execOp ρ o).run P w = .ok (.value (.bool (!b))) w := by
  unfold execOp
  rw [ho]
  simp [hx, go_sem]
theorem ex_pick_f {P : Program} (ρ : Operand → Value) (o : Oper) (c x y : Operand) (ho : o.op = .pick c x y) (hc : ρ c = .bool false) {v : Value} (hy : ρ y = v) (w : World) : (execOp ρ o).run P w = .ok (.value v) w := by
  have h := Rg.ex_pick (P := P) ρ o c x y ho hc w
  rw [hy] at h
  exact h
noncomputable def cutsR27 : Code := ((Try.f7.body.bind (findRegion 27)).getD .skip)
set_option maxRecDepth 100000 in
set_option maxHeartbeats 8000000 in
theorem cuts_r27 (Q : Exit → Act → World → Prop) (W : World) (bo : Option Addr) (L bc at_ : Nat) (nn : Int) (mid : Value) (u0 u1 u2 u3 u4 u6 u7 u10 u11 u12 u14 u15 u16 u17 u18 u19 u20 u21 u22 u23 u24 u25 u26 u27 u28 u29 u30 u31 u32 u33 u34 u35 u36 u37 u38 u39 u40 u41 u42 u43 u44 u45 u46 u47 u48 u49 u50 u51 u52 u53 u54 u55 u56 u57 u58 u59 u60 u61 u62 u63 u64 u65 u66 u67 u68 u69 u70 u71 u72 u73 u74 u75 u76 u77 u78 u79 u80 u81 u82 u83 u84 u85 u86 u87 u88 u89 u90 u91 u92 u93 u94 u95 u96 u97 u98 u99 u100 u101 u102 u103 u104 u105 u106 u107 u108 u109 u110 u111 u112 u113 u114 u115 u116 u117 u118 u119 u120 u121 u122 u123 u124 u125 u126 u127 u128 u129 u130 u131 u132 u133 u134 u135 u136 u137 u138 u139 u140 u141 u142 u143 u144 u145 u146 u147 u148 u149 u150 u151 u152 u153 u154 u155 u156 u157 u158 u159 u160 u161 u162 u163 u164 u165 u166 u167 u168 u169 u170 u171 u172 u173 u174 u175 u176 u177 u178 u179 u180 u181 u182 : Value)
    (hle : at_ + 8 ≤ L) (hat : at_ ≤ 1000000) (hmid : ∀ w, (Instr.sliceAt 24 (.slice bo L bc) (some (.int .i64 at_)) (some (.int .i64 ((at_ : Int) + 8))) none).run Try.prog w = .ok mid w) (hrm : RowB W mid (numB nn))
    (hQ : ∀ (w' : World) (v115 v116 v117 v118 v119 v120 v121 v122 v123 v124 v125 v126 v127 v128 v129 v130 v131 v132 v133 v134 v135 v136 v137 v138 v139 v140 v141 v142 v143 v144 : Value), Below W.heap.size W w' → Q .normal ⟨(u0 :: u1 :: u2 :: u3 :: u4 :: .slice bo L bc :: u6 :: u7 :: .int .i64 at_ :: .bool true :: u10 :: u11 :: u12 :: .int .i64 nn :: u14 :: u15 :: u16 :: u17 :: u18 :: u19 :: u20 :: u21 :: u22 :: u23 :: u24 :: u25 :: u26 :: u27 :: u28 :: u29 :: u30 :: u31 :: u32 :: u33 :: u34 :: u35 :: u36 :: u37 :: u38 :: u39 :: u40 :: u41 :: u42 :: u43 :: u44 :: u45 :: u46 :: u47 :: u48 :: u49 :: u50 :: u51 :: u52 :: u53 :: u54 :: u55 :: u56 :: u57 :: u58 :: u59 :: u60 :: u61 :: u62 :: u63 :: u64 :: u65 :: u66 :: u67 :: u68 :: u69 :: u70 :: u71 :: u72 :: u73 :: u74 :: u75 :: u76 :: u77 :: u78 :: u79 :: u80 :: u81 :: u82 :: u83 :: u84 :: u85 :: u86 :: u87 :: u88 :: u89 :: u90 :: u91 :: u92 :: u93 :: u94 :: u95 :: u96 :: u97 :: u98 :: u99 :: u100 :: u101 :: u102 :: u103 :: u104 :: u105 :: u106 :: u107 :: u108 :: u109 :: u110 :: u111 :: u112 :: u113 :: u114 :: v115 :: v116 :: v117 :: v118 :: v119 :: v120 :: v121 :: v122 :: v123 :: v124 :: v125 :: v126 :: v127 :: v128 :: v129 :: v130 :: v131 :: v132 :: v133 :: v134 :: v135 :: v136 :: v137 :: v138 :: v139 :: v140 :: v141 :: v142 :: v143 :: v144 :: .bool false :: u146 :: u147 :: u148 :: u149 :: u150 :: u151 :: u152 :: u153 :: u154 :: u155 :: u156 :: u157 :: u158 :: u159 :: u160 :: u161 :: u162 :: u163 :: u164 :: u165 :: u166 :: u167 :: u168 :: u169 :: u170 :: u171 :: u172 :: u173 :: u174 :: u175 :: u176 :: u177 :: u178 :: u179 :: u180 :: u181 :: u182 :: []).toArray, []⟩ w') :
    Code.wp Try.prog cutsR27 Q ⟨(u0 :: u1 :: u2 :: u3 :: u4 :: .slice bo L bc :: u6 :: u7 :: .int .i64 at_ :: .bool true :: u10 :: u11 :: u12 :: .int .i64 nn :: u14 :: u15 :: u16 :: u17 :: u18 :: u19 :: u20 :: u21 :: u22 :: u23 :: u24 :: u25 :: u26 :: u27 :: u28 :: u29 :: u30 :: u31 :: u32 :: u33 :: u34 :: u35 :: u36 :: u37 :: u38 :: u39 :: u40 :: u41 :: u42 :: u43 :: u44 :: u45 :: u46 :: u47 :: u48 :: u49 :: u50 :: u51 :: u52 :: u53 :: u54 :: u55 :: u56 :: u57 :: u58 :: u59 :: u60 :: u61 :: u62 :: u63 :: u64 :: u65 :: u66 :: u67 :: u68 :: u69 :: u70 :: u71 :: u72 :: u73 :: u74 :: u75 :: u76 :: u77 :: u78 :: u79 :: u80 :: u81 :: u82 :: u83 :: u84 :: u85 :: u86 :: u87 :: u88 :: u89 :: u90 :: u91 :: u92 :: u93 :: u94 :: u95 :: u96 :: u97 :: u98 :: u99 :: u100 :: u101 :: u102 :: u103 :: u104 :: u105 :: u106 :: u107 :: u108 :: u109 :: u110 :: u111 :: u112 :: u113 :: u114 :: u115 :: u116 :: u117 :: u118 :: u119 :: u120 :: u121 :: u122 :: u123 :: u124 :: u125 :: u126 :: u127 :: u128 :: u129 :: u130 :: u131 :: u132 :: u133 :: u134 :: u135 :: u136 :: u137 :: u138 :: u139 :: u140 :: u141 :: u142 :: u143 :: u144 :: u145 :: u146 :: u147 :: u148 :: u149 :: u150 :: u151 :: u152 :: u153 :: u154 :: u155 :: u156 :: u157 :: u158 :: u159 :: u160 :: u161 :: u162 :: u163 :: u164 :: u165 :: u166 :: u167 :: u168 :: u169 :: u170 :: u171 :: u172 :: u173 :: u174 :: u175 :: u176 :: u177 :: u178 :: u179 :: u180 :: u181 :: u182 :: []).toArray, []⟩ W := by
  have HQ := Lib.hid hQ
  have RM := Lib.hid hrm
  clear hQ hrm
  obtain ⟨eqv, hev⟩ : ∃ e : Nat → Option Value, e = fun i => ([some (.bool true), some (.bool true), some (.int .i64 at_), some (.int .i64 ((at_ : Int) + 8)), some (.slice bo L bc), some (.int .i64 L), some (.bool true), some (.bool true), some (.bool true), some (.int .i64 nn), none, none, some (.slice bo L bc), some (.int .i64 at_), some (.int .i64 at_), some (.int .i64 ((at_ : Int) + 8)), some (mid), some (.bool true), some (.bool false), some (.bool false), some (.bool false), some (.int .i64 at_), some (.int .i64 ((at_ : Int) + 8)), some (.slice bo L bc), some (.int .i64 L), some (.bool false), some (.bool false), some (undef), some (undef), some (.bool false), some (.bool false)] : List (Option Value)).getD i none := ⟨_, rfl⟩
  obtain ⟨base, hbase⟩ : ∃ b : Act, b = ⟨(u0 :: u1 :: u2 :: u3 :: u4 :: .slice bo L bc :: u6 :: u7 :: .int .i64 at_ :: .bool true :: u10 :: u11 :: u12 :: .int .i64 nn :: u14 :: u15 :: u16 :: u17 :: u18 :: u19 :: u20 :: u21 :: u22 :: u23 :: u24 :: u25 :: u26 :: u27 :: u28 :: u29 :: u30 :: u31 :: u32 :: u33 :: u34 :: u35 :: u36 :: u37 :: u38 :: u39 :: u40 :: u41 :: u42 :: u43 :: u44 :: u45 :: u46 :: u47 :: u48 :: u49 :: u50 :: u51 :: u52 :: u53 :: u54 :: u55 :: u56 :: u57 :: u58 :: u59 :: u60 :: u61 :: u62 :: u63 :: u64 :: u65 :: u66 :: u67 :: u68 :: u69 :: u70 :: u71 :: u72 :: u73 :: u74 :: u75 :: u76 :: u77 :: u78 :: u79 :: u80 :: u81 :: u82 :: u83 :: u84 :: u85 :: u86 :: u87 :: u88 :: u89 :: u90 :: u91 :: u92 :: u93 :: u94 :: u95 :: u96 :: u97 :: u98 :: u99 :: u100 :: u101 :: u102 :: u103 :: u104 :: u105 :: u106 :: u107 :: u108 :: u109 :: u110 :: u111 :: u112 :: u113 :: u114 :: u115 :: u116 :: u117 :: u118 :: u119 :: u120 :: u121 :: u122 :: u123 :: u124 :: u125 :: u126 :: u127 :: u128 :: u129 :: u130 :: u131 :: u132 :: u133 :: u134 :: u135 :: u136 :: u137 :: u138 :: u139 :: u140 :: u141 :: u142 :: u143 :: u144 :: u145 :: u146 :: u147 :: u148 :: u149 :: u150 :: u151 :: u152 :: u153 :: u154 :: u155 :: u156 :: u157 :: u158 :: u159 :: u160 :: u161 :: u162 :: u163 :: u164 :: u165 :: u166 :: u167 :: u168 :: u169 :: u170 :: u171 :: u172 :: u173 :: u174 :: u175 :: u176 :: u177 :: u178 :: u179 :: u180 :: u181 :: u182 :: []).toArray, []⟩ := ⟨_, rfl⟩
  rw [← hbase]
  unfold cutsR27
  conv => arg 2; whnf
  refine Rg.region_rel 31 (fun i => 115 + i) (fun i v w => (i = 10 → RowI w v [nn]) ∧ (i = 11 → RowB w v (numB nn)) ∧ ∀ u, eqv i = some u → v = u) (by kernel_rfl) (by kernel_rfl) rfl ?_ ?_ ?_ ?_ ?_ ?_
  · intro i o ho
    have hi := (List.getElem?_eq_some_iff.1 ho).1
    have hi : i < 31 := hi
    rcases (by omega : i = 0 ∨ i = 1 ∨ i = 2 ∨ i = 3 ∨ i = 4 ∨ i = 5 ∨ i = 6 ∨ i = 7 ∨ i = 8 ∨ i = 9 ∨ i = 10 ∨ i = 11 ∨ i = 12 ∨ i = 13 ∨ i = 14 ∨ i = 15 ∨ i = 16 ∨ i = 17 ∨ i = 18 ∨ i = 19 ∨ i = 20 ∨ i = 21 ∨ i = 22 ∨ i = 23 ∨ i = 24 ∨ i = 25 ∨ i = 26 ∨ i = 27 ∨ i = 28 ∨ i = 29 ∨ i = 30) with rfl | rfl | rfl | rfl | rfl | rfl | rfl | rfl | rfl | rfl | rfl | rfl | rfl | rfl | rfl | rfl | rfl | rfl | rfl | rfl | rfl | rfl | rfl | rfl | rfl | rfl | rfl | rfl | rfl | rfl | rfl <;> (obtain rfl := Option.some.inj ho; rfl)
  · intro i j hi hj h
    have h : 115 + i = 115 + j := h
    omega
  · subst hbase
    intro i hi
    show 115 + i < 183
    omega
  · intro i v w' w'' h hb
    exact ⟨fun e => (h.1 e).on hb, fun e => (h.2.1 e).on hb, h.2.2⟩
  · subst hev hbase
    intro i o hi ho a w' hb seen K hK
    clear HQ
    rcases (by omega : i = 0 ∨ i = 1 ∨ i = 2 ∨ i = 3 ∨ i = 4 ∨ i = 5 ∨ i = 6 ∨ i = 7 ∨ i = 8 ∨ i = 9 ∨ i = 10 ∨ i = 11 ∨ i = 12 ∨ i = 13 ∨ i = 14 ∨ i = 15 ∨ i = 16 ∨ i = 17 ∨ i = 18 ∨ i = 19 ∨ i = 20 ∨ i = 21 ∨ i = 22 ∨ i = 23 ∨ i = 24 ∨ i = 25 ∨ i = 26 ∨ i = 27 ∨ i = 28 ∨ i = 29 ∨ i = 30) with rfl | rfl | rfl | rfl | rfl | rfl | rfl | rfl | rfl | rfl | rfl | rfl | rfl | rfl | rfl | rfl | rfl | rfl | rfl | rfl | rfl | rfl | rfl | rfl | rfl | rfl | rfl | rfl | rfl | rfl | rfl
    · obtain rfl := Option.some.inj ho
      have u9e : a.eval (.tmp 9) = .bool true := seen.kp 9 _ (fun i hi => by show 115 + i ≠ 9; omega) rfl
      exact Rg.op_value_w rfl (Rg.wanted_none rfl) (by simp [execOp, u9e]) (hK _ _ ⟨fun h => by omega, fun h => by omega, fun u hu => Option.some.inj hu⟩ (Below.refl _ _))
    · obtain rfl := Option.some.inj ho
      have e0 : a.eval (.tmp 115) = .bool true := (seen.at_ ⟨0, .data⟩ (by simp) rfl).2.2 _ rfl
      exact Rg.op_value_w rfl (Rg.wanted_none rfl) (by simp [execOp, e0]) (hK _ _ ⟨fun h => by omega, fun h => by omega, fun u hu => Option.some.inj hu⟩ (Below.refl _ _))
    · obtain rfl := Option.some.inj ho
      have hgd : a.eval (.tmp 116) = .bool true := (seen.at_ ⟨1, .guard⟩ (by simp) rfl).2.2 _ rfl
      have hgt := seen.got ⟨1, .guard⟩ (by simp) rfl
      have hgt : a.tmps[116]? = some (a.eval (.tmp 116)) := hgt
      rw [hgd] at hgt
      have u8e : a.eval (.tmp 8) = .int .i64 at_ := seen.kp 8 _ (fun i hi => by show 115 + i ≠ 8; omega) rfl
      exact Rg.op_value_w rfl (Rg.wanted_of rfl rfl rfl hgt) (by simp [execOp, u8e]) (hK _ _ ⟨fun h => by omega, fun h => by omega, fun u hu => Option.some.inj hu⟩ (Below.refl _ _))
    · obtain rfl := Option.some.inj ho
      have hgd : a.eval (.tmp 116) = .bool true := (seen.at_ ⟨1, .guard⟩ (by simp) rfl).2.2 _ rfl
      have hgt := seen.got ⟨1, .guard⟩ (by simp) rfl
      have hgt : a.tmps[116]? = some (a.eval (.tmp 116)) := hgt
      rw [hgd] at hgt
      have e0 : a.eval (.tmp 117) = .int .i64 at_ := (seen.at_ ⟨2, .data⟩ (by simp) rfl).2.2 _ rfl
      exact Rg.op_value_w rfl (Rg.wanted_of rfl rfl rfl hgt) (Rg.ex_bin a.eval _ .add 3 (.tmp 117) (.const (.int .i64 8)) 3 rfl (by rw [e0]; exact add8 _ _ _ _ at_ hat)) (hK _ _ ⟨fun h => by omega, fun h => by omega, fun u hu => Option.some.inj hu⟩ (Below.refl _ _))
    · obtain rfl := Option.some.inj ho
      have hgd : a.eval (.tmp 116) = .bool true := (seen.at_ ⟨1, .guard⟩ (by simp) rfl).2.2 _ rfl
      have hgt := seen.got ⟨1, .guard⟩ (by simp) rfl
      have hgt : a.tmps[116]? = some (a.eval (.tmp 116)) := hgt
      rw [hgd] at hgt
      have u5e : a.eval (.tmp 5) = .slice bo L bc := seen.kp 5 _ (fun i hi => by show 115 + i ≠ 5; omega) rfl
      exact Rg.op_value_w rfl (Rg.wanted_of rfl rfl rfl hgt) (by simp [execOp, u5e]) (hK _ _ ⟨fun h => by omega, fun h => by omega, fun u hu => Option.some.inj hu⟩ (Below.refl _ _))
    · obtain rfl := Option.some.inj ho
      have hgd : a.eval (.tmp 116) = .bool true := (seen.at_ ⟨1, .guard⟩ (by simp) rfl).2.2 _ rfl
      have hgt := seen.got ⟨1, .guard⟩ (by simp) rfl
      have hgt : a.tmps[116]? = some (a.eval (.tmp 116)) := hgt
      rw [hgd] at hgt
      have e0 : a.eval (.tmp 119) = .slice bo L bc := (seen.at_ ⟨4, .data⟩ (by simp) rfl).2.2 _ rfl
      exact Rg.op_value_w rfl (Rg.wanted_of rfl rfl rfl hgt) (Rg.ex_len a.eval _ (.tmp 119) 24 rfl e0 (by simp [go_sem])) (hK _ _ ⟨fun h => by omega, fun h => by omega, fun u hu => Option.some.inj hu⟩ (Below.refl _ _))
    · obtain rfl := Option.some.inj ho
      have hgd : a.eval (.tmp 116) = .bool true := (seen.at_ ⟨1, .guard⟩ (by simp) rfl).2.2 _ rfl
      have hgt := seen.got ⟨1, .guard⟩ (by simp) rfl
      have hgt : a.tmps[116]? = some (a.eval (.tmp 116)) := hgt
      rw [hgd] at hgt
      have e0 : a.eval (.tmp 118) = .int .i64 ((at_ : Int) + 8) := (seen.at_ ⟨3, .data⟩ (by simp) rfl).2.2 _ rfl
      have e1 : a.eval (.tmp 120) = .int .i64 L := (seen.at_ ⟨5, .data⟩ (by simp) rfl).2.2 _ rfl
      exact Rg.op_value_w rfl (Rg.wanted_of rfl rfl rfl hgt) (Rg.ex_bin a.eval _ .leq 3 (.tmp 118) (.tmp 120) 3 rfl (by rw [e0, e1]; exact leq8 _ _ _ _ at_ L hle)) (hK _ _ ⟨fun h => by omega, fun h => by omega, fun u hu => Option.some.inj hu⟩ (Below.refl _ _))
    · obtain rfl := Option.some.inj ho
      have e0 : a.eval (.tmp 116) = .bool true := (seen.at_ ⟨1, .data⟩ (by simp) rfl).2.2 _ rfl
      have e1 : a.eval (.tmp 121) = .bool true := (seen.at_ ⟨6, .data⟩ (by simp) rfl).2.2 _ rfl
      exact Rg.op_value_w rfl (Rg.wanted_none rfl) (Rg.ex_pick_t a.eval _ (.tmp 116) (.tmp 121) (.const (.bool false)) rfl e0 e1 _) (hK _ _ ⟨fun h => by omega, fun h => by omega, fun u hu => Option.some.inj hu⟩ (Below.refl _ _))
    · obtain rfl := Option.some.inj ho
      have e0 : a.eval (.tmp 122) = .bool true := (seen.at_ ⟨7, .data⟩ (by simp) rfl).2.2 _ rfl
      exact Rg.op_value_w rfl (Rg.wanted_none rfl) (by simp [execOp, e0]) (hK _ _ ⟨fun h => by omega, fun h => by omega, fun u hu => Option.some.inj hu⟩ (Below.refl _ _))
    · obtain rfl := Option.some.inj ho
      have hgd : a.eval (.tmp 123) = .bool true := (seen.at_ ⟨8, .guard⟩ (by simp) rfl).2.2 _ rfl
      have hgt := seen.got ⟨8, .guard⟩ (by simp) rfl
      have hgt : a.tmps[123]? = some (a.eval (.tmp 123)) := hgt
      rw [hgd] at hgt
      have u13e : a.eval (.tmp 13) = .int .i64 nn := seen.kp 13 _ (fun i hi => by show 115 + i ≠ 13; omega) rfl
      exact Rg.op_value_w rfl (Rg.wanted_of rfl rfl rfl hgt) (by simp [execOp, u13e]) (hK _ _ ⟨fun h => by omega, fun h => by omega, fun u hu => Option.some.inj hu⟩ (Below.refl _ _))
    · obtain rfl := Option.some.inj ho
      have hgd : a.eval (.tmp 123) = .bool true := (seen.at_ ⟨8, .guard⟩ (by simp) rfl).2.2 _ rfl
      have hgt := seen.got ⟨8, .guard⟩ (by simp) rfl
      have hgt : a.tmps[123]? = some (a.eval (.tmp 123)) := hgt
      rw [hgd] at hgt
      have e0 : a.eval (.tmp 124) = .int .i64 nn := (seen.at_ ⟨9, .data⟩ (by simp) rfl).2.2 _ rfl
      exact Rg.op_value_w rfl (Rg.wanted_of rfl rfl rfl hgt) (Rg.ex_build a.eval _ 39 1 #[(0, .tmp 124)] rfl (by simp only [List.map_toArray, List.map_cons, List.map_nil, e0]) (lit_int _ nn)) (hK _ _ ⟨fun _ => Row.of_own (litI _ [nn] 1 #[.int .i64 nn] rfl (by simp) rfl), fun h => by omega, fun u hu => (by cases hu)⟩ (new_below _ _))
    · obtain rfl := Option.some.inj ho
      have hgd : a.eval (.tmp 123) = .bool true := (seen.at_ ⟨8, .guard⟩ (by simp) rfl).2.2 _ rfl
      have hgt := seen.got ⟨8, .guard⟩ (by simp) rfl
      have hgt : a.tmps[123]? = some (a.eval (.tmp 123)) := hgt
      rw [hgd] at hgt
      have r0 := (seen.at_ ⟨10, .data⟩ (by simp) rfl).1 rfl
      refine Rg.op_call_w rfl (Rg.wanted_of rfl rfl rfl hgt) (ex_call1 _ _ (.tmp 125) 39 11 rfl rfl rfl _ (call_number _ _)) (number_any _ [nn] _ r0 (by simp)) ?_
      rw [numsB_one]
      rintro e z ⟨⟨v1, rfl, ho1⟩, hz⟩
      exact ⟨_, rfl, hK _ _ ⟨fun h => by omega, fun _ => Row.of_own ho1, fun u hu => (by cases hu)⟩ hz⟩
    · obtain rfl := Option.some.inj ho
      have hgd : a.eval (.tmp 123) = .bool true := (seen.at_ ⟨8, .guard⟩ (by simp) rfl).2.2 _ rfl
      have hgt := seen.got ⟨8, .guard⟩ (by simp) rfl
      have hgt : a.tmps[123]? = some (a.eval (.tmp 123)) := hgt
      rw [hgd] at hgt
      have u5e : a.eval (.tmp 5) = .slice bo L bc := seen.kp 5 _ (fun i hi => by show 115 + i ≠ 5; omega) rfl
      exact Rg.op_value_w rfl (Rg.wanted_of rfl rfl rfl hgt) (by simp [execOp, u5e]) (hK _ _ ⟨fun h => by omega, fun h => by omega, fun u hu => Option.some.inj hu⟩ (Below.refl _ _))
    · obtain rfl := Option.some.inj ho
      have hgd : a.eval (.tmp 123) = .bool true := (seen.at_ ⟨8, .guard⟩ (by simp) rfl).2.2 _ rfl
      have hgt := seen.got ⟨8, .guard⟩ (by simp) rfl
      have hgt : a.tmps[123]? = some (a.eval (.tmp 123)) := hgt
      rw [hgd] at hgt
      have u8e : a.eval (.tmp 8) = .int .i64 at_ := seen.kp 8 _ (fun i hi => by show 115 + i ≠ 8; omega) rfl
      exact Rg.op_value_w rfl (Rg.wanted_of rfl rfl rfl hgt) (by simp [execOp, u8e]) (hK _ _ ⟨fun h => by omega, fun h => by omega, fun u hu => Option.some.inj hu⟩ (Below.refl _ _))
    · obtain rfl := Option.some.inj ho
      have hgd : a.eval (.tmp 123) = .bool true := (seen.at_ ⟨8, .guard⟩ (by simp) rfl).2.2 _ rfl
      have hgt := seen.got ⟨8, .guard⟩ (by simp) rfl
      have hgt : a.tmps[123]? = some (a.eval (.tmp 123)) := hgt
      rw [hgd] at hgt
      have u8e : a.eval (.tmp 8) = .int .i64 at_ := seen.kp 8 _ (fun i hi => by show 115 + i ≠ 8; omega) rfl
      exact Rg.op_value_w rfl (Rg.wanted_of rfl rfl rfl hgt) (by simp [execOp, u8e]) (hK _ _ ⟨fun h => by omega, fun h => by omega, fun u hu => Option.some.inj hu⟩ (Below.refl _ _))
    · obtain rfl := Option.some.inj ho
      have hgd : a.eval (.tmp 123) = .bool true := (seen.at_ ⟨8, .guard⟩ (by simp) rfl).2.2 _ rfl
      have hgt := seen.got ⟨8, .guard⟩ (by simp) rfl
      have hgt : a.tmps[123]? = some (a.eval (.tmp 123)) := hgt
      rw [hgd] at hgt
      have e0 : a.eval (.tmp 129) = .int .i64 at_ := (seen.at_ ⟨14, .data⟩ (by simp) rfl).2.2 _ rfl
      exact Rg.op_value_w rfl (Rg.wanted_of rfl rfl rfl hgt) (Rg.ex_bin a.eval _ .add 3 (.tmp 129) (.const (.int .i64 8)) 3 rfl (by rw [e0]; exact add8 _ _ _ _ at_ hat)) (hK _ _ ⟨fun h => by omega, fun h => by omega, fun u hu => Option.some.inj hu⟩ (Below.refl _ _))
    · obtain rfl := Option.some.inj ho
      have hgd : a.eval (.tmp 123) = .bool true := (seen.at_ ⟨8, .guard⟩ (by simp) rfl).2.2 _ rfl
      have hgt := seen.got ⟨8, .guard⟩ (by simp) rfl
      have hgt : a.tmps[123]? = some (a.eval (.tmp 123)) := hgt
      rw [hgd] at hgt
      have e0 : a.eval (.tmp 127) = .slice bo L bc := (seen.at_ ⟨12, .data⟩ (by simp) rfl).2.2 _ rfl
      have e1 : a.eval (.tmp 128) = .int .i64 at_ := (seen.at_ ⟨13, .data⟩ (by simp) rfl).2.2 _ rfl
      have e2 : a.eval (.tmp 130) = .int .i64 ((at_ : Int) + 8) := (seen.at_ ⟨15, .data⟩ (by simp) rfl).2.2 _ rfl
      exact Rg.op_value_w rfl (Rg.wanted_of rfl rfl rfl hgt) (Rg.ex_slice a.eval _ 24 (.tmp 127) (some (.tmp 128)) (some (.tmp 130)) none rfl (by simp only [Option.map_some, Option.map_none, e0, e1, e2]; exact hmid _)) (hK _ _ ⟨fun h => by omega, fun h => by omega, fun u hu => Option.some.inj hu⟩ (Below.refl _ _))
    · obtain rfl := Option.some.inj ho
      have hgd : a.eval (.tmp 123) = .bool true := (seen.at_ ⟨8, .guard⟩ (by simp) rfl).2.2 _ rfl
      have hgt := seen.got ⟨8, .guard⟩ (by simp) rfl
      have hgt : a.tmps[123]? = some (a.eval (.tmp 123)) := hgt
      rw [hgd] at hgt
      have e1 : a.eval (.tmp 131) = mid := (seen.at_ ⟨16, .data⟩ (by simp) rfl).2.2 _ rfl
      have r0 := (seen.at_ ⟨11, .data⟩ (by simp) rfl).2.1 rfl
      have SM := sameB _ mid (numB nn) (numB nn) w' r0 (RM.out.on hb)
      rw [decide_eq_true rfl] at SM
      refine Rg.op_call_w rfl (Rg.wanted_of rfl rfl rfl hgt) (ex_call2 _ _ (.tmp 126) (.tmp 131) 24 24 10 rfl rfl e1 rfl _ (call_same _ _)) SM ?_
      rintro e z ⟨rfl, hz⟩
      exact ⟨_, rfl, hK _ _ ⟨fun h => by omega, fun h => by omega, fun u hu => Option.some.inj hu⟩ hz⟩
    · obtain rfl := Option.some.inj ho
      have hgd : a.eval (.tmp 123) = .bool true := (seen.at_ ⟨8, .guard⟩ (by simp) rfl).2.2 _ rfl
      have hgt := seen.got ⟨8, .guard⟩ (by simp) rfl
      have hgt : a.tmps[123]? = some (a.eval (.tmp 123)) := hgt
      rw [hgd] at hgt
      have e0 : a.eval (.tmp 132) = .bool true := (seen.at_ ⟨17, .data⟩ (by simp) rfl).2.2 _ rfl
      exact Rg.op_value_w rfl (Rg.wanted_of rfl rfl rfl hgt) (ex_not a.eval _ 4 (.tmp 132) rfl e0 _) (hK _ _ ⟨fun h => by omega, fun h => by omega, fun u hu => Option.some.inj hu⟩ (Below.refl _ _))
    · obtain rfl := Option.some.inj ho
      have e0 : a.eval (.tmp 123) = .bool true := (seen.at_ ⟨8, .data⟩ (by simp) rfl).2.2 _ rfl
      have e1 : a.eval (.tmp 133) = .bool false := (seen.at_ ⟨18, .data⟩ (by simp) rfl).2.2 _ rfl
      exact Rg.op_value_w rfl (Rg.wanted_none rfl) (Rg.ex_pick_t a.eval _ (.tmp 123) (.tmp 133) (.const (.bool false)) rfl e0 e1 _) (hK _ _ ⟨fun h => by omega, fun h => by omega, fun u hu => Option.some.inj hu⟩ (Below.refl _ _))
    · obtain rfl := Option.some.inj ho
      have e0 : a.eval (.tmp 134) = .bool false := (seen.at_ ⟨19, .data⟩ (by simp) rfl).2.2 _ rfl
      exact Rg.op_value_w rfl (Rg.wanted_none rfl) (by simp [execOp, e0]) (hK _ _ ⟨fun h => by omega, fun h => by omega, fun u hu => Option.some.inj hu⟩ (Below.refl _ _))
    · obtain rfl := Option.some.inj ho
      have hgd : a.eval (.tmp 135) = .bool false := (seen.at_ ⟨20, .guard⟩ (by simp) rfl).2.2 _ rfl
      have hgt := seen.got ⟨20, .guard⟩ (by simp) rfl
      have hgt : a.tmps[135]? = some (a.eval (.tmp 135)) := hgt
      rw [hgd] at hgt
      have u8e : a.eval (.tmp 8) = .int .i64 at_ := seen.kp 8 _ (fun i hi => by show 115 + i ≠ 8; omega) rfl
      exact Rg.op_value_w rfl (Rg.wanted_of rfl rfl rfl hgt) (by simp [execOp, u8e]) (hK _ _ ⟨fun h => by omega, fun h => by omega, fun u hu => Option.some.inj hu⟩ (Below.refl _ _))
    · obtain rfl := Option.some.inj ho
      have hgd : a.eval (.tmp 135) = .bool false := (seen.at_ ⟨20, .guard⟩ (by simp) rfl).2.2 _ rfl
      have hgt := seen.got ⟨20, .guard⟩ (by simp) rfl
      have hgt : a.tmps[135]? = some (a.eval (.tmp 135)) := hgt
      rw [hgd] at hgt
      have e0 : a.eval (.tmp 136) = .int .i64 at_ := (seen.at_ ⟨21, .data⟩ (by simp) rfl).2.2 _ rfl
      exact Rg.op_value_w rfl (Rg.wanted_of rfl rfl rfl hgt) (Rg.ex_bin a.eval _ .add 3 (.tmp 136) (.const (.int .i64 8)) 3 rfl (by rw [e0]; exact add8 _ _ _ _ at_ hat)) (hK _ _ ⟨fun h => by omega, fun h => by omega, fun u hu => Option.some.inj hu⟩ (Below.refl _ _))
    · obtain rfl := Option.some.inj ho
      have hgd : a.eval (.tmp 135) = .bool false := (seen.at_ ⟨20, .guard⟩ (by simp) rfl).2.2 _ rfl
      have hgt := seen.got ⟨20, .guard⟩ (by simp) rfl
      have hgt : a.tmps[135]? = some (a.eval (.tmp 135)) := hgt
      rw [hgd] at hgt
      have u5e : a.eval (.tmp 5) = .slice bo L bc := seen.kp 5 _ (fun i hi => by show 115 + i ≠ 5; omega) rfl
      exact Rg.op_value_w rfl (Rg.wanted_of rfl rfl rfl hgt) (by simp [execOp, u5e]) (hK _ _ ⟨fun h => by omega, fun h => by omega, fun u hu => Option.some.inj hu⟩ (Below.refl _ _))
    · obtain rfl := Option.some.inj ho
      have hgd : a.eval (.tmp 135) = .bool false := (seen.at_ ⟨20, .guard⟩ (by simp) rfl).2.2 _ rfl
      have hgt := seen.got ⟨20, .guard⟩ (by simp) rfl
      have hgt : a.tmps[135]? = some (a.eval (.tmp 135)) := hgt
      rw [hgd] at hgt
      have e0 : a.eval (.tmp 138) = .slice bo L bc := (seen.at_ ⟨23, .data⟩ (by simp) rfl).2.2 _ rfl
      exact Rg.op_value_w rfl (Rg.wanted_of rfl rfl rfl hgt) (Rg.ex_len a.eval _ (.tmp 138) 24 rfl e0 (by simp [go_sem])) (hK _ _ ⟨fun h => by omega, fun h => by omega, fun u hu => Option.some.inj hu⟩ (Below.refl _ _))
    · obtain rfl := Option.some.inj ho
      have hgd : a.eval (.tmp 135) = .bool false := (seen.at_ ⟨20, .guard⟩ (by simp) rfl).2.2 _ rfl
      have hgt := seen.got ⟨20, .guard⟩ (by simp) rfl
      have hgt : a.tmps[135]? = some (a.eval (.tmp 135)) := hgt
      rw [hgd] at hgt
      have e0 : a.eval (.tmp 137) = .int .i64 ((at_ : Int) + 8) := (seen.at_ ⟨22, .data⟩ (by simp) rfl).2.2 _ rfl
      have e1 : a.eval (.tmp 139) = .int .i64 L := (seen.at_ ⟨24, .data⟩ (by simp) rfl).2.2 _ rfl
      exact Rg.op_value_w rfl (Rg.wanted_of rfl rfl rfl hgt) (Rg.ex_bin a.eval _ .gtr 3 (.tmp 137) (.tmp 139) 3 rfl (by rw [e0, e1]; exact gtr8 _ _ _ _ at_ L hle)) (hK _ _ ⟨fun h => by omega, fun h => by omega, fun u hu => Option.some.inj hu⟩ (Below.refl _ _))
    · obtain rfl := Option.some.inj ho
      have hgd : a.eval (.tmp 135) = .bool false := (seen.at_ ⟨20, .guard⟩ (by simp) rfl).2.2 _ rfl
      have hgt := seen.got ⟨20, .guard⟩ (by simp) rfl
      have hgt : a.tmps[135]? = some (a.eval (.tmp 135)) := hgt
      rw [hgd] at hgt
      have e0 : a.eval (.tmp 140) = .bool false := (seen.at_ ⟨25, .data⟩ (by simp) rfl).2.2 _ rfl
      exact Rg.op_value_w rfl (Rg.wanted_of rfl rfl rfl hgt) (by simp [execOp, e0]) (hK _ _ ⟨fun h => by omega, fun h => by omega, fun u hu => Option.some.inj hu⟩ (Below.refl _ _))
    · obtain rfl := Option.some.inj ho
      have hgd : a.eval (.tmp 141) = .bool false := (seen.at_ ⟨26, .guard⟩ (by simp) rfl).2.2 _ rfl
      have hgt := seen.got ⟨26, .guard⟩ (by simp) rfl
      have hgt : a.tmps[141]? = some (a.eval (.tmp 141)) := hgt
      rw [hgd] at hgt
      exact Rg.op_unwanted rfl (Rg.unwanted_of rfl rfl rfl hgt (by decide)) (hK _ _ ⟨fun h => by omega, fun h => by omega, fun u hu => Option.some.inj hu⟩ (Below.refl _ _))
    · obtain rfl := Option.some.inj ho
      have hgd : a.eval (.tmp 141) = .bool false := (seen.at_ ⟨26, .guard⟩ (by simp) rfl).2.2 _ rfl
      have hgt := seen.got ⟨26, .guard⟩ (by simp) rfl
      have hgt : a.tmps[141]? = some (a.eval (.tmp 141)) := hgt
      rw [hgd] at hgt
      exact Rg.op_unwanted rfl (Rg.unwanted_of rfl rfl rfl hgt (by decide)) (hK _ _ ⟨fun h => by omega, fun h => by omega, fun u hu => Option.some.inj hu⟩ (Below.refl _ _))
    · obtain rfl := Option.some.inj ho
      have hgd : a.eval (.tmp 135) = .bool false := (seen.at_ ⟨20, .guard⟩ (by simp) rfl).2.2 _ rfl
      have hgt := seen.got ⟨20, .guard⟩ (by simp) rfl
      have hgt : a.tmps[135]? = some (a.eval (.tmp 135)) := hgt
      rw [hgd] at hgt
      have e0 : a.eval (.tmp 141) = .bool false := (seen.at_ ⟨26, .data⟩ (by simp) rfl).2.2 _ rfl
      exact Rg.op_value_w rfl (Rg.wanted_of rfl rfl rfl hgt) (Rg.ex_pick a.eval _ (.tmp 141) (.tmp 143) (.const (.bool false)) rfl e0 _) (hK _ _ ⟨fun h => by omega, fun h => by omega, fun u hu => Option.some.inj hu⟩ (Below.refl _ _))
    · obtain rfl := Option.some.inj ho
      have e0 : a.eval (.tmp 135) = .bool false := (seen.at_ ⟨20, .data⟩ (by simp) rfl).2.2 _ rfl
      have e1 : a.eval (.tmp 144) = .bool false := (seen.at_ ⟨29, .data⟩ (by simp) rfl).2.2 _ rfl
      exact Rg.op_value_w rfl (Rg.wanted_none rfl) (ex_pick_f a.eval _ (.tmp 135) (.const (.bool true)) (.tmp 144) rfl e0 e1 _) (hK _ _ ⟨fun h => by omega, fun h => by omega, fun u hu => Option.some.inj hu⟩ (Below.refl _ _))
  · subst hev hbase
    intro a w' hd hsz hk hv hb
    obtain ⟨v30, q1, _, _, q2⟩ := hv 30 (by decide)
    obtain rfl : v30 = .bool false := q2 _ rfl
    obtain ⟨mid_, hmid_, rfl⟩ := Rg.frame_mid (bl := (u0 :: u1 :: u2 :: u3 :: u4 :: .slice bo L bc :: u6 :: u7 :: .int .i64 at_ :: .bool true :: u10 :: u11 :: u12 :: .int .i64 nn :: u14 :: u15 :: u16 :: u17 :: u18 :: u19 :: u20 :: u21 :: u22 :: u23 :: u24 :: u25 :: u26 :: u27 :: u28 :: u29 :: u30 :: u31 :: u32 :: u33 :: u34 :: u35 :: u36 :: u37 :: u38 :: u39 :: u40 :: u41 :: u42 :: u43 :: u44 :: u45 :: u46 :: u47 :: u48 :: u49 :: u50 :: u51 :: u52 :: u53 :: u54 :: u55 :: u56 :: u57 :: u58 :: u59 :: u60 :: u61 :: u62 :: u63 :: u64 :: u65 :: u66 :: u67 :: u68 :: u69 :: u70 :: u71 :: u72 :: u73 :: u74 :: u75 :: u76 :: u77 :: u78 :: u79 :: u80 :: u81 :: u82 :: u83 :: u84 :: u85 :: u86 :: u87 :: u88 :: u89 :: u90 :: u91 :: u92 :: u93 :: u94 :: u95 :: u96 :: u97 :: u98 :: u99 :: u100 :: u101 :: u102 :: u103 :: u104 :: u105 :: u106 :: u107 :: u108 :: u109 :: u110 :: u111 :: u112 :: u113 :: u114 :: u115 :: u116 :: u117 :: u118 :: u119 :: u120 :: u121 :: u122 :: u123 :: u124 :: u125 :: u126 :: u127 :: u128 :: u129 :: u130 :: u131 :: u132 :: u133 :: u134 :: u135 :: u136 :: u137 :: u138 :: u139 :: u140 :: u141 :: u142 :: u143 :: u144 :: u145 :: u146 :: u147 :: u148 :: u149 :: u150 :: u151 :: u152 :: u153 :: u154 :: u155 :: u156 :: u157 :: u158 :: u159 :: u160 :: u161 :: u162 :: u163 :: u164 :: u165 :: u166 :: u167 :: u168 :: u169 :: u170 :: u171 :: u172 :: u173 :: u174 :: u175 :: u176 :: u177 :: u178 :: u179 :: u180 :: u181 :: u182 :: [])) 115 31 hd hsz (by show 115 + 31 ≤ 183; decide) (fun j hj => (hk j fun i hi => by show 115 + i ≠ j; omega).trans List.getElem?_toArray)
    match mid_, hmid_ with
    | v115 :: v116 :: v117 :: v118 :: v119 :: v120 :: v121 :: v122 :: v123 :: v124 :: v125 :: v126 :: v127 :: v128 :: v129 :: v130 :: v131 :: v132 :: v133 :: v134 :: v135 :: v136 :: v137 :: v138 :: v139 :: v140 :: v141 :: v142 :: v143 :: v144 :: v145 :: [], _ =>
      obtain rfl : v145 = _ := Option.some.inj q1
      exact HQ.out w' v115 v116 v117 v118 v119 v120 v121 v122 v123 v124 v125 v126 v127 v128 v129 v130 v131 v132 v133 v134 v135 v136 v137 v138 v139 v140 v141 v142 v143 v144 hb
end Go.Proofs.Ytobdddggdfcdlaa.Nm
