/-
  The law PredPrefixes, whole. Condition: the contracts of package pred; numbers of 64 bits; texts no longer than a machine holds.
-/
import Derived.Test.YtbfecndhjlimaaaDoorPrPrefA
namespace Go.Proofs.YtbfecndhjlimaaaDoor.Pr
open Go.RowKit Go.Sort Go.Proofs.YtbfecndhjlimaaaDoor Go.Proofs.YtbfecndhjlimaaaDoor.Pu Go.Proofs.YtbfecndhjlimaaaDoor.Rw Go.Proofs.YtbfecndhjlimaaaDoor.Va

theorem pp_any {G : World → Prop} (K : POks G) (x y z : ByteArray) (w : World) (h : bothK (.pr x) (.pr y) = some (.pr z)) (sx : smallC (nA, .pr x)) (sy : smallC (nA, .pr y)) (gx : goodC (nA, .pr x) = true) (gy : goodC (nA, .pr y) = true) :
    Calls Tryd.prog 25 #[cv (nA, 3, 0, 0, x), cv (nA, 3, 0, 0, y)] w fun e w' => e = .returned (.tuple #[cv (nA, 3, 0, 0, z), .bool true]) ∧ Below w.heap.size w w' :=
  (K.both (nA, .pr x) (nA, .pr y) w sx sy gx gy rfl).mono fun e w' ⟨⟨c, h1, h2⟩, h3⟩ => by
    have h4 := h2 _ h
    subst h4
    rw [h] at h1
    exact ⟨h1, h3⟩
theorem pt_any {G : World → Prop} (K : POks G) (x y z : ByteArray) (w : World) (h : bothK (.pr x) (.tx y) = some (.tx z)) (sx : smallC (nA, .pr x)) (sy : smallC (nA, .tx y)) (gx : goodC (nA, .pr x) = true) (gy : goodC (nA, .tx y) = true) :
    Calls Tryd.prog 25 #[cv (nA, 3, 0, 0, x), cv (nA, 2, 0, 0, y)] w fun e w' => e = .returned (.tuple #[cv (nA, 2, 0, 0, z), .bool true]) ∧ Below w.heap.size w w' :=
  (K.both (nA, .pr x) (nA, .tx y) w sx sy gx gy rfl).mono fun e w' ⟨⟨c, h1, h2⟩, h3⟩ => by
    have h4 := h2 _ h
    subst h4
    rw [h] at h1
    exact ⟨h1, h3⟩
theorem pn_any {G : World → Prop} (K : POks G) (x y : ByteArray) (w : World) (h : bothK (.pr x) (.pr y) = none) (sx : smallC (nA, .pr x)) (sy : smallC (nA, .pr y)) (gx : goodC (nA, .pr x) = true) (gy : goodC (nA, .pr y) = true) :
    Calls Tryd.prog 25 #[cv (nA, 3, 0, 0, x), cv (nA, 3, 0, 0, y)] w fun e w' => (∃ c0 c1 c2 c3 c4, e = .returned (.tuple #[.agg #[.string c0, .int .i64 c1, .int .i64 c2, .int .i64 c3, .string c4], .bool false])) ∧ Below w.heap.size w w' :=
  (K.both (nA, .pr x) (nA, .pr y) w sx sy gx gy rfl).mono fun e w' ⟨⟨c, h1, _⟩, h3⟩ => by
    rw [h] at h1
    exact ⟨⟨_, _, _, _, _, h1⟩, h3⟩
theorem pr_any {G : World → Prop} (K : POks G) (x : ByteArray) (n : Int) (w : World) (sx : smallC (nA, .pr x)) (sy : smallC (nA, .rg n n)) (gx : goodC (nA, .pr x) = true) (gy : goodC (nA, .rg n n) = true) :
    Calls Tryd.prog 25 #[cv (nA, 3, 0, 0, x), cv (nA, 1, n, n, ⟨#[]⟩)] w fun e w' => (∃ c0 c1 c2 c3 c4, e = .returned (.tuple #[.agg #[.string c0, .int .i64 c1, .int .i64 c2, .int .i64 c3, .string c4], .bool false])) ∧ Below w.heap.size w w' :=
  (K.both (nA, .pr x) (nA, .rg n n) w sx sy gx gy rfl).mono fun _e _w' ⟨⟨_c, h1, _⟩, h3⟩ => ⟨⟨_, _, _, _, _, h1⟩, h3⟩
theorem both_no (a : ByteArray) : bothK (.pr (a ++ ⟨#[120]⟩)) (.pr (a ++ ⟨#[121]⟩)) = none := both_xy a _ _ rfl (by decide)

/-- What is known of the texts and the number. -/
structure Szs (a b : ByteArray) (n : Int) : Prop where
  a6 : a.size ≤ 6
  b5 : b.size ≤ 5
  ka : smallC (nA, .pr a)
  kab : smallC (nA, .pr (a ++ b))
  ktab : smallC (nA, .tx (a ++ b))
  kga : goodC (nA, .pr a) = true
  kgab : goodC (nA, .pr (a ++ b)) = true
  khab : goodC (nA, .tx (a ++ b)) = true
  kr : smallC (nA, .rg n n)
  kgr : goodC (nA, .rg n n) = true
  kx : smallC (nA, .pr (a ++ ⟨#[120]⟩))
  ky : smallC (nA, .pr (a ++ ⟨#[121]⟩))
  kgx : goodC (nA, .pr (a ++ ⟨#[120]⟩)) = true
  kgy : goodC (nA, .pr (a ++ ⟨#[121]⟩)) = true
theorem szs (a b : ByteArray) (n : Int) (ha : a.size ≤ 6) (hbs : b.size ≤ 5) (n0 : -9223372036854775808 ≤ n) (n1 : n ≤ 9223372036854775807) : Szs a b n := by
  have hab : (a ++ b).size = a.size + b.size := app_size a b
  have ax : (a ++ ⟨#[120]⟩).size = a.size + 1 := app_size a _
  have ay : (a ++ ⟨#[121]⟩).size = a.size + 1 := app_size a _
  exact ⟨ha, hbs, small_pr a (by omega), small_pr _ (by omega), small_tx _ (by omega), good_pr a (by omega), good_pr _ (by omega), good_tx _ (by omega), ⟨(by decide : nA.size ≤ 100), (by decide : (0 : Nat) ≤ 100), ⟨n0, n1⟩, n0, n1⟩, by simp [goodC, good_A, goodK], small_pr _ (by omega), small_pr _ (by omega), good_pr _ (by omega), good_pr _ (by omega)⟩
noncomputable def pp (k : Nat) : Code := headN k (Tryd.f6.body.getD .skip)
noncomputable def pref7 : Code := .seq (pp 7) pref8
noncomputable def pref6 : Code := .seq (pp 6) pref7
noncomputable def pref5 : Code := .seq (pp 5) pref6
noncomputable def pref4 : Code := .seq (pp 4) pref5
noncomputable def pref3 : Code := .seq (pp 3) pref4

set_option maxRecDepth 100000 in
set_option maxHeartbeats 1000000 in
theorem pref_7 {G : World → Prop} (K : POks G) (w W : World) (a b : ByteArray) (n : Int) (bx by_ bz : Nat) (S : Szs a b n) (hg : G w) (hb : Below w.heap.size w W) (hx : Box W bx #[.string nA, .int .i64 3, .int .i64 0, .int .i64 0, .string (a ++ b)] 23) (hy : Box W by_ #[.string nA, .int .i64 3, .int .i64 0, .int .i64 0, .string (a ++ b)] 23) (hz : Box W bz #[.string nA, .int .i64 2, .int .i64 0, .int .i64 0, .string (a ++ b)] 23)
    (u0 u1 u3 u4 u5 u6 u16 u18 u19 u20 u21 u22 u23 u24 u25 u26 u27 u28 u29 u30 u31 u32 u33 u34 u35 u36 u37 u38 u39 u40 u41 u42 u43 u44 u45 u46 u47 u48 u49 u50 u51 u52 u53 u54 u55 u56 u57 u58 u59 u60 u61 u62 u63 u64 u65 u66 u67 u68 u69 u70 u71 u72 u73 u74 u75 u76 u77 u78 u79 u80 u81 u82 u83 u84 u85 u86 u87 u88 u89 u90 u91 u92 u93 u94 u95 u96 u97 u98 u99 u100 u101 u102 u103 u104 u105 u106 u107 u108 u109 u110 u111 u112 u113 u114 u115 u116 u117 u118 u119 u120 u121 u122 u123 u124 u125 u126 u127 u128 u129 u130 u131 u132 u133 u134 u135 u136 u137 u138 u139 u140 u141 u142 u143 u144 u145 u146 u147 u148 u149 u150 u151 u152 u153 u154 u155 u156 u157 u158 u159 u160 u161 u162 u163 u164 u165 u166 u167 u168 u169 u170 u171 u172 u173 u174 u175 u176 u177 u178 u179 : Value) :
    Code.wp Tryd.prog pref7 (bodyPost Tryd.prog Tryd.f6 (PredQ w)) ⟨(u0 :: u1 :: .int .i64 n :: u3 :: u4 :: u5 :: u6 :: .string a :: .string b :: .func (.func 24) #[] #[] :: .pointer (some ⟨bx, 0, none⟩) :: .bool true :: .pointer (some ⟨by_, 0, none⟩) :: .bool true :: .pointer (some ⟨bz, 0, none⟩) :: .bool true :: u16 :: .bool false :: u18 :: u19 :: u20 :: u21 :: u22 :: u23 :: u24 :: u25 :: u26 :: u27 :: u28 :: u29 :: u30 :: u31 :: u32 :: u33 :: u34 :: u35 :: u36 :: u37 :: u38 :: u39 :: u40 :: u41 :: u42 :: u43 :: u44 :: u45 :: u46 :: u47 :: u48 :: u49 :: u50 :: u51 :: u52 :: u53 :: u54 :: u55 :: u56 :: u57 :: u58 :: u59 :: u60 :: u61 :: u62 :: u63 :: u64 :: u65 :: u66 :: u67 :: u68 :: u69 :: u70 :: u71 :: u72 :: u73 :: u74 :: u75 :: u76 :: u77 :: u78 :: u79 :: u80 :: u81 :: u82 :: u83 :: u84 :: u85 :: u86 :: u87 :: u88 :: u89 :: u90 :: u91 :: u92 :: u93 :: u94 :: u95 :: u96 :: u97 :: u98 :: u99 :: u100 :: u101 :: u102 :: u103 :: u104 :: u105 :: u106 :: u107 :: u108 :: u109 :: u110 :: u111 :: u112 :: u113 :: u114 :: u115 :: u116 :: u117 :: u118 :: u119 :: u120 :: u121 :: u122 :: u123 :: u124 :: u125 :: u126 :: u127 :: u128 :: u129 :: u130 :: u131 :: u132 :: u133 :: u134 :: u135 :: u136 :: u137 :: u138 :: u139 :: u140 :: u141 :: u142 :: u143 :: u144 :: u145 :: u146 :: u147 :: u148 :: u149 :: u150 :: u151 :: u152 :: u153 :: u154 :: u155 :: u156 :: u157 :: u158 :: u159 :: u160 :: u161 :: u162 :: u163 :: u164 :: u165 :: u166 :: u167 :: u168 :: u169 :: u170 :: u171 :: u172 :: u173 :: u174 :: u175 :: u176 :: u177 :: u178 :: u179 :: []).toArray, []⟩ W := by
  have HG := Lib.hid hg
  have B0 := Lib.hid hb
  have X0 := Lib.hid hx
  have Y0 := Lib.hid hy
  have Z0 := Lib.hid hz
  have sx : ∀ w, (Op.stringOp .add a ⟨#[120]⟩).run Tryd.prog w = .ok (.string (a ++ ⟨#[120]⟩)) w := fun w => run_string_add_sum w a _ (by have := S.a6; show a.size + 1 ≤ _; omega)
  have sy : ∀ w, (Op.stringOp .add a ⟨#[121]⟩).run Tryd.prog w = .ok (.string (a ++ ⟨#[121]⟩)) w := fun w => run_string_add_sum w a _ (by have := S.a6; show a.size + 1 ≤ _; omega)
  clear hg hb hx hy hz
  unfold pref7
  conv => enter [2, 1]; whnf
  go_wp2_with fail
  refine (p_any _ _).mono ?_
  rintro e1 w1 ⟨rfl, hb⟩
  have B1 := Lib.hid (B0.out.trans (hb.mono B0.out.size))
  have X1 := Lib.hid (X0.out.on hb)
  have Y1 := Lib.hid (Y0.out.on hb)
  have Z1 := Lib.hid (Z0.out.on hb)
  clear hb X0 Y0 Z0 B0
  go_wp2_with fail
  refine (p_any _ _).mono ?_
  rintro e2 w2 ⟨rfl, hb⟩
  have B2 := Lib.hid (B1.out.trans (hb.mono B1.out.size))
  have X2 := Lib.hid (X1.out.on hb)
  have Y2 := Lib.hid (Y1.out.on hb)
  have Z2 := Lib.hid (Z1.out.on hb)
  clear hb X1 Y1 Z1 B1
  go_wp2_with fail
  have C := pn_any K (a ++ ⟨#[120]⟩) (a ++ ⟨#[121]⟩) w2 (both_no a) S.kx S.ky S.kgx S.kgy
  refine C.mono ?_
  clear C
  rintro e3 w3 ⟨⟨c0, c1, c2, c3, c4, rfl⟩, hb⟩
  have B3 := Lib.hid (B2.out.trans (hb.mono B2.out.size))
  have X3 := Lib.hid (X2.out.on hb)
  have Y3 := Lib.hid (Y2.out.on hb)
  have Z3 := Lib.hid (Z2.out.on hb)
  clear hb X2 Y2 Z2 B2
  go_wp2_with fail
  exact pref_tail K w _ a b n bx by_ bz HG.out (B3.out.alloc B3.out.size _) S.a6 S.b5 (X3.out.more _) (Y3.out.more _) (Z3.out.more _) _ _ _ _ _ _ _ _ _ _ _ _ _ _ _ _ _ _ _ _ _ _ _ _ _ _ _ _ _ _ _ _ _ _ _ _ _ _ _ _ _ _ _ _ _ _ _ _ _ _ _ _ _ _ _ _ _ _ _ _ _ _ _ _ _ _ _ _ _ _ _ _ _ _ _ _ _ _ _ _ _ _ _ _ _ _ _ _ _ _ _ _ _ _ _ _ _ _ _ _ _ _ _ _ _ _ _ _ _ _ _ _ _ _ _ _ _ _ _ _ _ _ _ _ _ _ _ _ _ _ _ _ _ _ _ _ _ _ _ _ _ _ _ _ _ _ _ _ _ _ _ _ _ _ _ _ _ _ _ _ _ _ _ _ _ _ _ _ 

set_option maxRecDepth 100000 in
set_option maxHeartbeats 1000000 in
theorem pref_6 {G : World → Prop} (K : POks G) (w W : World) (a b : ByteArray) (n : Int) (bx by_ bz : Nat) (S : Szs a b n) (hg : G w) (hb : Below w.heap.size w W) (hx : Box W bx #[.string nA, .int .i64 3, .int .i64 0, .int .i64 0, .string (a ++ b)] 23) (hy : Box W by_ #[.string nA, .int .i64 3, .int .i64 0, .int .i64 0, .string (a ++ b)] 23) (hz : Box W bz #[.string nA, .int .i64 2, .int .i64 0, .int .i64 0, .string (a ++ b)] 23)
    (u0 u1 u3 u4 u5 u6 u16 u17 u18 u19 u20 u21 u22 u23 u24 u25 u26 u27 u28 u29 u30 u31 u32 u33 u34 u35 u36 u37 u38 u39 u40 u41 u42 u43 u44 u45 u46 u47 u48 u49 u50 u51 u52 u53 u54 u55 u56 u57 u58 u59 u60 u61 u62 u63 u64 u65 u66 u67 u68 u69 u70 u71 u72 u73 u74 u75 u76 u77 u78 u79 u80 u81 u82 u83 u84 u85 u86 u87 u88 u89 u90 u91 u92 u93 u94 u95 u96 u97 u98 u99 u100 u101 u102 u103 u104 u105 u106 u107 u108 u109 u110 u111 u112 u113 u114 u115 u116 u117 u118 u119 u120 u121 u122 u123 u124 u125 u126 u127 u128 u129 u130 u131 u132 u133 u134 u135 u136 u137 u138 u139 u140 u141 u142 u143 u144 u145 u146 u147 u148 u149 u150 u151 u152 u153 u154 u155 u156 u157 u158 u159 u160 u161 u162 u163 u164 u165 u166 u167 u168 u169 u170 u171 u172 u173 u174 u175 u176 u177 u178 u179 : Value) :
    Code.wp Tryd.prog pref6 (bodyPost Tryd.prog Tryd.f6 (PredQ w)) ⟨(u0 :: u1 :: .int .i64 n :: u3 :: u4 :: u5 :: u6 :: .string a :: .string b :: .func (.func 24) #[] #[] :: .pointer (some ⟨bx, 0, none⟩) :: .bool true :: .pointer (some ⟨by_, 0, none⟩) :: .bool true :: .pointer (some ⟨bz, 0, none⟩) :: .bool true :: u16 :: u17 :: u18 :: u19 :: u20 :: u21 :: u22 :: u23 :: u24 :: u25 :: u26 :: u27 :: u28 :: u29 :: u30 :: u31 :: u32 :: u33 :: u34 :: u35 :: u36 :: u37 :: u38 :: u39 :: u40 :: u41 :: u42 :: u43 :: u44 :: u45 :: u46 :: u47 :: u48 :: u49 :: u50 :: u51 :: u52 :: u53 :: u54 :: u55 :: u56 :: u57 :: u58 :: u59 :: u60 :: u61 :: u62 :: u63 :: u64 :: u65 :: u66 :: u67 :: u68 :: u69 :: u70 :: u71 :: u72 :: u73 :: u74 :: u75 :: u76 :: u77 :: u78 :: u79 :: u80 :: u81 :: u82 :: u83 :: u84 :: u85 :: u86 :: u87 :: u88 :: u89 :: u90 :: u91 :: u92 :: u93 :: u94 :: u95 :: u96 :: u97 :: u98 :: u99 :: u100 :: u101 :: u102 :: u103 :: u104 :: u105 :: u106 :: u107 :: u108 :: u109 :: u110 :: u111 :: u112 :: u113 :: u114 :: u115 :: u116 :: u117 :: u118 :: u119 :: u120 :: u121 :: u122 :: u123 :: u124 :: u125 :: u126 :: u127 :: u128 :: u129 :: u130 :: u131 :: u132 :: u133 :: u134 :: u135 :: u136 :: u137 :: u138 :: u139 :: u140 :: u141 :: u142 :: u143 :: u144 :: u145 :: u146 :: u147 :: u148 :: u149 :: u150 :: u151 :: u152 :: u153 :: u154 :: u155 :: u156 :: u157 :: u158 :: u159 :: u160 :: u161 :: u162 :: u163 :: u164 :: u165 :: u166 :: u167 :: u168 :: u169 :: u170 :: u171 :: u172 :: u173 :: u174 :: u175 :: u176 :: u177 :: u178 :: u179 :: []).toArray, []⟩ W := by
  have HG := Lib.hid hg
  have B0 := Lib.hid hb
  have X0 := Lib.hid hx
  have Y0 := Lib.hid hy
  have Z0 := Lib.hid hz
  clear hg hb hx hy hz
  unfold pref6
  conv => enter [2, 1]; whnf
  go_wp2_with fail
  refine (p_any _ _).mono ?_
  rintro e1 w1 ⟨rfl, hb⟩
  have B1 := Lib.hid (B0.out.trans (hb.mono B0.out.size))
  have X1 := Lib.hid (X0.out.on hb)
  have Y1 := Lib.hid (Y0.out.on hb)
  have Z1 := Lib.hid (Z0.out.on hb)
  clear hb X0 Y0 Z0 B0
  go_wp2_with fail
  have C := pr_any K a n w1 S.ka S.kr S.kga S.kgr
  refine C.mono ?_
  clear C
  rintro e2 w2 ⟨⟨c0, c1, c2, c3, c4, rfl⟩, hb⟩
  have B2 := Lib.hid (B1.out.trans (hb.mono B1.out.size))
  have X2 := Lib.hid (X1.out.on hb)
  have Y2 := Lib.hid (Y1.out.on hb)
  have Z2 := Lib.hid (Z1.out.on hb)
  clear hb X1 Y1 Z1 B1
  go_wp2_with fail
  exact pref_7 K w _ a b n bx by_ bz S HG.out (B2.out.alloc B2.out.size _) (X2.out.more _) (Y2.out.more _) (Z2.out.more _) _ _ _ _ _ _ _ _ _ _ _ _ _ _ _ _ _ _ _ _ _ _ _ _ _ _ _ _ _ _ _ _ _ _ _ _ _ _ _ _ _ _ _ _ _ _ _ _ _ _ _ _ _ _ _ _ _ _ _ _ _ _ _ _ _ _ _ _ _ _ _ _ _ _ _ _ _ _ _ _ _ _ _ _ _ _ _ _ _ _ _ _ _ _ _ _ _ _ _ _ _ _ _ _ _ _ _ _ _ _ _ _ _ _ _ _ _ _ _ _ _ _ _ _ _ _ _ _ _ _ _ _ _ _ _ _ _ _ _ _ _ _ _ _ _ _ _ _ _ _ _ _ _ _ _ _ _ _ _ _ _ _ _ _ _ _ _ _ _ 

set_option maxRecDepth 100000 in
set_option maxHeartbeats 1000000 in
theorem pref_5 {G : World → Prop} (K : POks G) (w W : World) (a b : ByteArray) (n : Int) (bx by_ : Nat) (S : Szs a b n) (hg : G w) (hb : Below w.heap.size w W) (hx : Box W bx #[.string nA, .int .i64 3, .int .i64 0, .int .i64 0, .string (a ++ b)] 23) (hy : Box W by_ #[.string nA, .int .i64 3, .int .i64 0, .int .i64 0, .string (a ++ b)] 23)
    (u0 u1 u3 u4 u5 u6 u14 u15 u16 u17 u18 u19 u20 u21 u22 u23 u24 u25 u26 u27 u28 u29 u30 u31 u32 u33 u34 u35 u36 u37 u38 u39 u40 u41 u42 u43 u44 u45 u46 u47 u48 u49 u50 u51 u52 u53 u54 u55 u56 u57 u58 u59 u60 u61 u62 u63 u64 u65 u66 u67 u68 u69 u70 u71 u72 u73 u74 u75 u76 u77 u78 u79 u80 u81 u82 u83 u84 u85 u86 u87 u88 u89 u90 u91 u92 u93 u94 u95 u96 u97 u98 u99 u100 u101 u102 u103 u104 u105 u106 u107 u108 u109 u110 u111 u112 u113 u114 u115 u116 u117 u118 u119 u120 u121 u122 u123 u124 u125 u126 u127 u128 u129 u130 u131 u132 u133 u134 u135 u136 u137 u138 u139 u140 u141 u142 u143 u144 u145 u146 u147 u148 u149 u150 u151 u152 u153 u154 u155 u156 u157 u158 u159 u160 u161 u162 u163 u164 u165 u166 u167 u168 u169 u170 u171 u172 u173 u174 u175 u176 u177 u178 u179 : Value) :
    Code.wp Tryd.prog pref5 (bodyPost Tryd.prog Tryd.f6 (PredQ w)) ⟨(u0 :: u1 :: .int .i64 n :: u3 :: u4 :: u5 :: u6 :: .string a :: .string b :: .func (.func 24) #[] #[] :: .pointer (some ⟨bx, 0, none⟩) :: .bool true :: .pointer (some ⟨by_, 0, none⟩) :: .bool true :: u14 :: u15 :: u16 :: u17 :: u18 :: u19 :: u20 :: u21 :: u22 :: u23 :: u24 :: u25 :: u26 :: u27 :: u28 :: u29 :: u30 :: u31 :: u32 :: u33 :: u34 :: u35 :: u36 :: u37 :: u38 :: u39 :: u40 :: u41 :: u42 :: u43 :: u44 :: u45 :: u46 :: u47 :: u48 :: u49 :: u50 :: u51 :: u52 :: u53 :: u54 :: u55 :: u56 :: u57 :: u58 :: u59 :: u60 :: u61 :: u62 :: u63 :: u64 :: u65 :: u66 :: u67 :: u68 :: u69 :: u70 :: u71 :: u72 :: u73 :: u74 :: u75 :: u76 :: u77 :: u78 :: u79 :: u80 :: u81 :: u82 :: u83 :: u84 :: u85 :: u86 :: u87 :: u88 :: u89 :: u90 :: u91 :: u92 :: u93 :: u94 :: u95 :: u96 :: u97 :: u98 :: u99 :: u100 :: u101 :: u102 :: u103 :: u104 :: u105 :: u106 :: u107 :: u108 :: u109 :: u110 :: u111 :: u112 :: u113 :: u114 :: u115 :: u116 :: u117 :: u118 :: u119 :: u120 :: u121 :: u122 :: u123 :: u124 :: u125 :: u126 :: u127 :: u128 :: u129 :: u130 :: u131 :: u132 :: u133 :: u134 :: u135 :: u136 :: u137 :: u138 :: u139 :: u140 :: u141 :: u142 :: u143 :: u144 :: u145 :: u146 :: u147 :: u148 :: u149 :: u150 :: u151 :: u152 :: u153 :: u154 :: u155 :: u156 :: u157 :: u158 :: u159 :: u160 :: u161 :: u162 :: u163 :: u164 :: u165 :: u166 :: u167 :: u168 :: u169 :: u170 :: u171 :: u172 :: u173 :: u174 :: u175 :: u176 :: u177 :: u178 :: u179 :: []).toArray, []⟩ W := by
  have HG := Lib.hid hg
  have B0 := Lib.hid hb
  have X0 := Lib.hid hx
  have Y0 := Lib.hid hy
  have sa : ∀ w, (Op.stringOp .add a b).run Tryd.prog w = .ok (.string (a ++ b)) w := fun w => run_string_add_sum w a b (by have := S.a6; have := S.b5; omega)
  clear hg hb hx hy
  unfold pref5
  conv => enter [2, 1]; whnf
  go_wp2_with fail
  refine (p_any _ _).mono ?_
  rintro e1 w1 ⟨rfl, hb⟩
  have B1 := Lib.hid (B0.out.trans (hb.mono B0.out.size))
  have X1 := Lib.hid (X0.out.on hb)
  have Y1 := Lib.hid (Y0.out.on hb)
  clear hb X0 Y0 B0
  go_wp2_with fail
  have C := pt_any K a (a ++ b) (a ++ b) w1 (both_tx a b) S.ka S.ktab S.kga S.khab
  refine C.mono ?_
  clear C
  rintro e2 w2 ⟨rfl, hb⟩
  have B2 := Lib.hid (B1.out.trans (hb.mono B1.out.size))
  have X2 := Lib.hid (X1.out.on hb)
  have Y2 := Lib.hid (Y1.out.on hb)
  clear hb X1 Y1 B1
  go_wp2_with fail
  exact pref_6 K w _ a b n bx by_ w2.heap.size S HG.out (B2.out.alloc B2.out.size _) (X2.out.more _) (Y2.out.more _) (box_new w2 #[.string nA, .int .i64 2, .int .i64 0, .int .i64 0, .string (a ++ b)] 23) _ _ _ _ _ _ _ _ _ _ _ _ _ _ _ _ _ _ _ _ _ _ _ _ _ _ _ _ _ _ _ _ _ _ _ _ _ _ _ _ _ _ _ _ _ _ _ _ _ _ _ _ _ _ _ _ _ _ _ _ _ _ _ _ _ _ _ _ _ _ _ _ _ _ _ _ _ _ _ _ _ _ _ _ _ _ _ _ _ _ _ _ _ _ _ _ _ _ _ _ _ _ _ _ _ _ _ _ _ _ _ _ _ _ _ _ _ _ _ _ _ _ _ _ _ _ _ _ _ _ _ _ _ _ _ _ _ _ _ _ _ _ _ _ _ _ _ _ _ _ _ _ _ _ _ _ _ _ _ _ _ _ _ _ _ _ _ _ _ _ 

set_option maxRecDepth 100000 in
set_option maxHeartbeats 1000000 in
theorem pref_4 {G : World → Prop} (K : POks G) (w W : World) (a b : ByteArray) (n : Int) (bx : Nat) (S : Szs a b n) (hg : G w) (hb : Below w.heap.size w W) (hx : Box W bx #[.string nA, .int .i64 3, .int .i64 0, .int .i64 0, .string (a ++ b)] 23)
    (u0 u1 u3 u4 u5 u6 u12 u13 u14 u15 u16 u17 u18 u19 u20 u21 u22 u23 u24 u25 u26 u27 u28 u29 u30 u31 u32 u33 u34 u35 u36 u37 u38 u39 u40 u41 u42 u43 u44 u45 u46 u47 u48 u49 u50 u51 u52 u53 u54 u55 u56 u57 u58 u59 u60 u61 u62 u63 u64 u65 u66 u67 u68 u69 u70 u71 u72 u73 u74 u75 u76 u77 u78 u79 u80 u81 u82 u83 u84 u85 u86 u87 u88 u89 u90 u91 u92 u93 u94 u95 u96 u97 u98 u99 u100 u101 u102 u103 u104 u105 u106 u107 u108 u109 u110 u111 u112 u113 u114 u115 u116 u117 u118 u119 u120 u121 u122 u123 u124 u125 u126 u127 u128 u129 u130 u131 u132 u133 u134 u135 u136 u137 u138 u139 u140 u141 u142 u143 u144 u145 u146 u147 u148 u149 u150 u151 u152 u153 u154 u155 u156 u157 u158 u159 u160 u161 u162 u163 u164 u165 u166 u167 u168 u169 u170 u171 u172 u173 u174 u175 u176 u177 u178 u179 : Value) :
    Code.wp Tryd.prog pref4 (bodyPost Tryd.prog Tryd.f6 (PredQ w)) ⟨(u0 :: u1 :: .int .i64 n :: u3 :: u4 :: u5 :: u6 :: .string a :: .string b :: .func (.func 24) #[] #[] :: .pointer (some ⟨bx, 0, none⟩) :: .bool true :: u12 :: u13 :: u14 :: u15 :: u16 :: u17 :: u18 :: u19 :: u20 :: u21 :: u22 :: u23 :: u24 :: u25 :: u26 :: u27 :: u28 :: u29 :: u30 :: u31 :: u32 :: u33 :: u34 :: u35 :: u36 :: u37 :: u38 :: u39 :: u40 :: u41 :: u42 :: u43 :: u44 :: u45 :: u46 :: u47 :: u48 :: u49 :: u50 :: u51 :: u52 :: u53 :: u54 :: u55 :: u56 :: u57 :: u58 :: u59 :: u60 :: u61 :: u62 :: u63 :: u64 :: u65 :: u66 :: u67 :: u68 :: u69 :: u70 :: u71 :: u72 :: u73 :: u74 :: u75 :: u76 :: u77 :: u78 :: u79 :: u80 :: u81 :: u82 :: u83 :: u84 :: u85 :: u86 :: u87 :: u88 :: u89 :: u90 :: u91 :: u92 :: u93 :: u94 :: u95 :: u96 :: u97 :: u98 :: u99 :: u100 :: u101 :: u102 :: u103 :: u104 :: u105 :: u106 :: u107 :: u108 :: u109 :: u110 :: u111 :: u112 :: u113 :: u114 :: u115 :: u116 :: u117 :: u118 :: u119 :: u120 :: u121 :: u122 :: u123 :: u124 :: u125 :: u126 :: u127 :: u128 :: u129 :: u130 :: u131 :: u132 :: u133 :: u134 :: u135 :: u136 :: u137 :: u138 :: u139 :: u140 :: u141 :: u142 :: u143 :: u144 :: u145 :: u146 :: u147 :: u148 :: u149 :: u150 :: u151 :: u152 :: u153 :: u154 :: u155 :: u156 :: u157 :: u158 :: u159 :: u160 :: u161 :: u162 :: u163 :: u164 :: u165 :: u166 :: u167 :: u168 :: u169 :: u170 :: u171 :: u172 :: u173 :: u174 :: u175 :: u176 :: u177 :: u178 :: u179 :: []).toArray, []⟩ W := by
  have HG := Lib.hid hg
  have B0 := Lib.hid hb
  have X0 := Lib.hid hx
  have sa : ∀ w, (Op.stringOp .add a b).run Tryd.prog w = .ok (.string (a ++ b)) w := fun w => run_string_add_sum w a b (by have := S.a6; have := S.b5; omega)
  clear hg hb hx
  unfold pref4
  conv => enter [2, 1]; whnf
  go_wp2_with fail
  refine (p_any _ _).mono ?_
  rintro e1 w1 ⟨rfl, hb⟩
  have B1 := Lib.hid (B0.out.trans (hb.mono B0.out.size))
  have X1 := Lib.hid (X0.out.on hb)
  clear hb X0 B0
  go_wp2_with fail
  refine (p_any _ _).mono ?_
  rintro e2 w2 ⟨rfl, hb⟩
  have B2 := Lib.hid (B1.out.trans (hb.mono B1.out.size))
  have X2 := Lib.hid (X1.out.on hb)
  clear hb X1 B1
  go_wp2_with fail
  have C := pp_any K (a ++ b) a (a ++ b) w2 (both_app2 a b) S.kab S.ka S.kgab S.kga
  refine C.mono ?_
  clear C
  rintro e3 w3 ⟨rfl, hb⟩
  have B3 := Lib.hid (B2.out.trans (hb.mono B2.out.size))
  have X3 := Lib.hid (X2.out.on hb)
  clear hb X2 B2
  go_wp2_with fail
  exact pref_5 K w _ a b n bx w3.heap.size S HG.out (B3.out.alloc B3.out.size _) (X3.out.more _) (box_new w3 #[.string nA, .int .i64 3, .int .i64 0, .int .i64 0, .string (a ++ b)] 23) _ _ _ _ _ _ _ _ _ _ _ _ _ _ _ _ _ _ _ _ _ _ _ _ _ _ _ _ _ _ _ _ _ _ _ _ _ _ _ _ _ _ _ _ _ _ _ _ _ _ _ _ _ _ _ _ _ _ _ _ _ _ _ _ _ _ _ _ _ _ _ _ _ _ _ _ _ _ _ _ _ _ _ _ _ _ _ _ _ _ _ _ _ _ _ _ _ _ _ _ _ _ _ _ _ _ _ _ _ _ _ _ _ _ _ _ _ _ _ _ _ _ _ _ _ _ _ _ _ _ _ _ _ _ _ _ _ _ _ _ _ _ _ _ _ _ _ _ _ _ _ _ _ _ _ _ _ _ _ _ _ _ _ _ _ _ _ _ _ _ _ _ 

set_option maxRecDepth 100000 in
set_option maxHeartbeats 1000000 in
theorem pref_3 {G : World → Prop} (K : POks G) (w W : World) (a b : ByteArray) (n : Int) (S : Szs a b n) (hg : G w) (hb : Below w.heap.size w W)
    (u0 u1 u3 u4 u5 u6 u10 u11 u12 u13 u14 u15 u16 u17 u18 u19 u20 u21 u22 u23 u24 u25 u26 u27 u28 u29 u30 u31 u32 u33 u34 u35 u36 u37 u38 u39 u40 u41 u42 u43 u44 u45 u46 u47 u48 u49 u50 u51 u52 u53 u54 u55 u56 u57 u58 u59 u60 u61 u62 u63 u64 u65 u66 u67 u68 u69 u70 u71 u72 u73 u74 u75 u76 u77 u78 u79 u80 u81 u82 u83 u84 u85 u86 u87 u88 u89 u90 u91 u92 u93 u94 u95 u96 u97 u98 u99 u100 u101 u102 u103 u104 u105 u106 u107 u108 u109 u110 u111 u112 u113 u114 u115 u116 u117 u118 u119 u120 u121 u122 u123 u124 u125 u126 u127 u128 u129 u130 u131 u132 u133 u134 u135 u136 u137 u138 u139 u140 u141 u142 u143 u144 u145 u146 u147 u148 u149 u150 u151 u152 u153 u154 u155 u156 u157 u158 u159 u160 u161 u162 u163 u164 u165 u166 u167 u168 u169 u170 u171 u172 u173 u174 u175 u176 u177 u178 u179 : Value) :
    Code.wp Tryd.prog pref3 (bodyPost Tryd.prog Tryd.f6 (PredQ w)) ⟨(u0 :: u1 :: .int .i64 n :: u3 :: u4 :: u5 :: u6 :: .string a :: .string b :: .func (.func 24) #[] #[] :: u10 :: u11 :: u12 :: u13 :: u14 :: u15 :: u16 :: u17 :: u18 :: u19 :: u20 :: u21 :: u22 :: u23 :: u24 :: u25 :: u26 :: u27 :: u28 :: u29 :: u30 :: u31 :: u32 :: u33 :: u34 :: u35 :: u36 :: u37 :: u38 :: u39 :: u40 :: u41 :: u42 :: u43 :: u44 :: u45 :: u46 :: u47 :: u48 :: u49 :: u50 :: u51 :: u52 :: u53 :: u54 :: u55 :: u56 :: u57 :: u58 :: u59 :: u60 :: u61 :: u62 :: u63 :: u64 :: u65 :: u66 :: u67 :: u68 :: u69 :: u70 :: u71 :: u72 :: u73 :: u74 :: u75 :: u76 :: u77 :: u78 :: u79 :: u80 :: u81 :: u82 :: u83 :: u84 :: u85 :: u86 :: u87 :: u88 :: u89 :: u90 :: u91 :: u92 :: u93 :: u94 :: u95 :: u96 :: u97 :: u98 :: u99 :: u100 :: u101 :: u102 :: u103 :: u104 :: u105 :: u106 :: u107 :: u108 :: u109 :: u110 :: u111 :: u112 :: u113 :: u114 :: u115 :: u116 :: u117 :: u118 :: u119 :: u120 :: u121 :: u122 :: u123 :: u124 :: u125 :: u126 :: u127 :: u128 :: u129 :: u130 :: u131 :: u132 :: u133 :: u134 :: u135 :: u136 :: u137 :: u138 :: u139 :: u140 :: u141 :: u142 :: u143 :: u144 :: u145 :: u146 :: u147 :: u148 :: u149 :: u150 :: u151 :: u152 :: u153 :: u154 :: u155 :: u156 :: u157 :: u158 :: u159 :: u160 :: u161 :: u162 :: u163 :: u164 :: u165 :: u166 :: u167 :: u168 :: u169 :: u170 :: u171 :: u172 :: u173 :: u174 :: u175 :: u176 :: u177 :: u178 :: u179 :: []).toArray, []⟩ W := by
  have HG := Lib.hid hg
  have B0 := Lib.hid hb
  have sa : ∀ w, (Op.stringOp .add a b).run Tryd.prog w = .ok (.string (a ++ b)) w := fun w => run_string_add_sum w a b (by have := S.a6; have := S.b5; omega)
  clear hg hb
  unfold pref3
  conv => enter [2, 1]; whnf
  go_wp2_with fail
  refine (p_any _ _).mono ?_
  rintro e1 w1 ⟨rfl, hb⟩
  have B1 := Lib.hid (B0.out.trans (hb.mono B0.out.size))
  clear hb B0
  go_wp2_with fail
  refine (p_any _ _).mono ?_
  rintro e2 w2 ⟨rfl, hb⟩
  have B2 := Lib.hid (B1.out.trans (hb.mono B1.out.size))
  clear hb B1
  go_wp2_with fail
  have C := pp_any K a (a ++ b) (a ++ b) w2 (both_app a b) S.ka S.kab S.kga S.kgab
  refine C.mono ?_
  clear C
  rintro e3 w3 ⟨rfl, hb⟩
  have B3 := Lib.hid (B2.out.trans (hb.mono B2.out.size))
  clear hb B2
  go_wp2_with fail
  exact pref_4 K w _ a b n w3.heap.size S HG.out (B3.out.alloc B3.out.size _) (box_new w3 #[.string nA, .int .i64 3, .int .i64 0, .int .i64 0, .string (a ++ b)] 23) _ _ _ _ _ _ _ _ _ _ _ _ _ _ _ _ _ _ _ _ _ _ _ _ _ _ _ _ _ _ _ _ _ _ _ _ _ _ _ _ _ _ _ _ _ _ _ _ _ _ _ _ _ _ _ _ _ _ _ _ _ _ _ _ _ _ _ _ _ _ _ _ _ _ _ _ _ _ _ _ _ _ _ _ _ _ _ _ _ _ _ _ _ _ _ _ _ _ _ _ _ _ _ _ _ _ _ _ _ _ _ _ _ _ _ _ _ _ _ _ _ _ _ _ _ _ _ _ _ _ _ _ _ _ _ _ _ _ _ _ _ _ _ _ _ _ _ _ _ _ _ _ _ _ _ _ _ _ _ _ _ _ _ _ _ _ _ _ _ _ _ _ _ _ 

noncomputable def pref2' : Code := .seq (pp 2) pref3
set_option maxRecDepth 100000 in
set_option maxHeartbeats 1000000 in
theorem pref_2 {G : World → Prop} (K : POks G) (w W : World) (a b : ByteArray) (n : Int) (S : Szs a b n) (hg : G w) (hb : Below w.heap.size w W)
    (u0 u1 u3 u4 u5 u6 u9 u10 u11 u12 u13 u14 u15 u16 u17 u18 u19 u20 u21 u22 u23 u24 u25 u26 u27 u28 u29 u30 u31 u32 u33 u34 u35 u36 u37 u38 u39 u40 u41 u42 u43 u44 u45 u46 u47 u48 u49 u50 u51 u52 u53 u54 u55 u56 u57 u58 u59 u60 u61 u62 u63 u64 u65 u66 u67 u68 u69 u70 u71 u72 u73 u74 u75 u76 u77 u78 u79 u80 u81 u82 u83 u84 u85 u86 u87 u88 u89 u90 u91 u92 u93 u94 u95 u96 u97 u98 u99 u100 u101 u102 u103 u104 u105 u106 u107 u108 u109 u110 u111 u112 u113 u114 u115 u116 u117 u118 u119 u120 u121 u122 u123 u124 u125 u126 u127 u128 u129 u130 u131 u132 u133 u134 u135 u136 u137 u138 u139 u140 u141 u142 u143 u144 u145 u146 u147 u148 u149 u150 u151 u152 u153 u154 u155 u156 u157 u158 u159 u160 u161 u162 u163 u164 u165 u166 u167 u168 u169 u170 u171 u172 u173 u174 u175 u176 u177 u178 u179 : Value) :
    Code.wp Tryd.prog pref2' (bodyPost Tryd.prog Tryd.f6 (PredQ w)) ⟨(u0 :: u1 :: .int .i64 n :: u3 :: u4 :: u5 :: u6 :: .string a :: .string b :: u9 :: u10 :: u11 :: u12 :: u13 :: u14 :: u15 :: u16 :: u17 :: u18 :: u19 :: u20 :: u21 :: u22 :: u23 :: u24 :: u25 :: u26 :: u27 :: u28 :: u29 :: u30 :: u31 :: u32 :: u33 :: u34 :: u35 :: u36 :: u37 :: u38 :: u39 :: u40 :: u41 :: u42 :: u43 :: u44 :: u45 :: u46 :: u47 :: u48 :: u49 :: u50 :: u51 :: u52 :: u53 :: u54 :: u55 :: u56 :: u57 :: u58 :: u59 :: u60 :: u61 :: u62 :: u63 :: u64 :: u65 :: u66 :: u67 :: u68 :: u69 :: u70 :: u71 :: u72 :: u73 :: u74 :: u75 :: u76 :: u77 :: u78 :: u79 :: u80 :: u81 :: u82 :: u83 :: u84 :: u85 :: u86 :: u87 :: u88 :: u89 :: u90 :: u91 :: u92 :: u93 :: u94 :: u95 :: u96 :: u97 :: u98 :: u99 :: u100 :: u101 :: u102 :: u103 :: u104 :: u105 :: u106 :: u107 :: u108 :: u109 :: u110 :: u111 :: u112 :: u113 :: u114 :: u115 :: u116 :: u117 :: u118 :: u119 :: u120 :: u121 :: u122 :: u123 :: u124 :: u125 :: u126 :: u127 :: u128 :: u129 :: u130 :: u131 :: u132 :: u133 :: u134 :: u135 :: u136 :: u137 :: u138 :: u139 :: u140 :: u141 :: u142 :: u143 :: u144 :: u145 :: u146 :: u147 :: u148 :: u149 :: u150 :: u151 :: u152 :: u153 :: u154 :: u155 :: u156 :: u157 :: u158 :: u159 :: u160 :: u161 :: u162 :: u163 :: u164 :: u165 :: u166 :: u167 :: u168 :: u169 :: u170 :: u171 :: u172 :: u173 :: u174 :: u175 :: u176 :: u177 :: u178 :: u179 :: []).toArray, []⟩ W := by
  have HG := Lib.hid hg
  have B0 := Lib.hid hb
  clear hg hb
  unfold pref2'
  conv => enter [2, 1]; whnf
  go_wp2_with fail
  exact pref_3 K w _ a b n S HG.out B0.out _ _ _ _ _ _ _ _ _ _ _ _ _ _ _ _ _ _ _ _ _ _ _ _ _ _ _ _ _ _ _ _ _ _ _ _ _ _ _ _ _ _ _ _ _ _ _ _ _ _ _ _ _ _ _ _ _ _ _ _ _ _ _ _ _ _ _ _ _ _ _ _ _ _ _ _ _ _ _ _ _ _ _ _ _ _ _ _ _ _ _ _ _ _ _ _ _ _ _ _ _ _ _ _ _ _ _ _ _ _ _ _ _ _ _ _ _ _ _ _ _ _ _ _ _ _ _ _ _ _ _ _ _ _ _ _ _ _ _ _ _ _ _ _ _ _ _ _ _ _ _ _ _ _ _ _ _ _ _ _ _ _ _ _ _ _ _ _ _ _ _ _ _ _ _ _ 

end Go.Proofs.YtbfecndhjlimaaaDoor.Pr
