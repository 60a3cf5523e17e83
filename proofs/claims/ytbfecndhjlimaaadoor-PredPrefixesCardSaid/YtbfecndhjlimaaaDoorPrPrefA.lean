/-
  The law PredPrefixes: its last part. Condition: the contracts of package pred; numbers of 64 bits.
-/
import Derived.Test.YtbfecndhjlimaaaDoorPrLaw
import Derived.Deep.Cut
import Derived.Deep.CutBlock
import Derived.Laws.Concat
namespace Go.Proofs.YtbfecndhjlimaaaDoor.Pr
open Go.RowKit Go.Sort Go.Proofs.YtbfecndhjlimaaaDoor Go.Proofs.YtbfecndhjlimaaaDoor.Pu Go.Proofs.YtbfecndhjlimaaaDoor.Rw Go.Proofs.YtbfecndhjlimaaaDoor.Va

noncomputable def pref2 : Code := afterN 2 (Tryd.f6.body.getD .skip)
noncomputable def pref8 : Code := afterN 8 (Tryd.f6.body.getD .skip)
def PredQ (w : World) (e : Ending) (w' : World) : Prop := e = .returned (.bool true) ∧ Below w.heap.size w w'
theorem app_list (a b : ByteArray) : (a ++ b).data.toList = a.data.toList ++ b.data.toList := by simp
theorem app_size (a b : ByteArray) : (a ++ b).size = a.size + b.size := ByteArray.size_append
theorem pfx_app (a b : ByteArray) : pfx a (a ++ b) = true := (pfx_iff _ _).2 (by rw [app_list]; exact List.prefix_append _ _)
theorem both_app (a b : ByteArray) : bothK (.pr a) (.pr (a ++ b)) = some (.pr (a ++ b)) := by simp only [bothK]; rw [if_pos (pfx_app a b)]
theorem both_app2 (a b : ByteArray) : bothK (.pr (a ++ b)) (.pr a) = some (.pr (a ++ b)) := by
  simp only [bothK]
  by_cases h : pfx (a ++ b) a = true
  · rw [if_pos h]
    have h1 := (pfx_iff _ _).1 h
    have h2 := (pfx_iff _ _).1 (pfx_app a b)
    have h3 : a = a ++ b := bytes_eq (h2.eq_of_length_le h1.length_le)
    exact congrArg (fun z => some (Kd.pr z)) h3
  · rw [if_neg h, if_pos (pfx_app a b)]
theorem both_tx (a b : ByteArray) : bothK (.pr a) (.tx (a ++ b)) = some (.tx (a ++ b)) := by simp only [bothK]; rw [if_pos (pfx_app a b)]
theorem both_xy (a b c : ByteArray) (h : b.data.toList.length = c.data.toList.length) (hne : b.data.toList ≠ c.data.toList) : bothK (.pr (a ++ b)) (.pr (a ++ c)) = none := by
  have key : ∀ x y : ByteArray, x.data.toList.length = y.data.toList.length → x.data.toList ≠ y.data.toList → pfx (a ++ x) (a ++ y) = false := fun x y hl hn => by
    rw [Bool.eq_false_iff]
    intro hp
    have h1 := ((pfx_iff _ _).1 hp).eq_of_length (by rw [app_list, app_list]; simp only [List.length_append]; omega)
    rw [app_list, app_list] at h1
    exact hn (List.append_cancel_left h1)
  simp only [bothK]
  rw [key b c h hne, key c b h.symm (fun e => hne e.symm)]
  rfl
theorem not_more (a b : ByteArray) (hb : 0 < b.size) : holdsK (.pr (a ++ b)) (true, 0, a) = false := by
  rw [hold_pr, Bool.eq_false_iff]
  intro hp
  have h1 := ((pfx_iff _ _).1 hp).length_le
  rw [app_list] at h1
  have : b.data.toList.length = b.size := by rw [Array.length_toList]; rfl
  simp only [List.length_append] at h1
  omega
theorem hold_empty (s : ByteArray) : holdsK (.pr ⟨#[]⟩) (true, 0, s) = true := by
  rw [hold_pr, pfx_iff]
  exact List.nil_prefix
def t11 : ByteArray := ⟨#[97, 98, 99, 100, 101, 102, 103, 104, 105, 106, 107]⟩
def t12 : ByteArray := ⟨#[97, 98, 99, 100, 101, 102, 103, 104, 105, 106, 107, 108]⟩
theorem small_pr (a : ByteArray) (h : a.size ≤ 100) : smallC (nA, .pr a) := ⟨(by decide : nA.size ≤ 100), h, ⟨(by decide : (-9223372036854775808 : Int) ≤ 0), (by decide : (0 : Int) ≤ 9223372036854775807)⟩, (by decide : (-9223372036854775808 : Int) ≤ 0), (by decide : (0 : Int) ≤ 9223372036854775807)⟩
theorem small_tx (a : ByteArray) (h : a.size ≤ 100) : smallC (nA, .tx a) := ⟨(by decide : nA.size ≤ 100), h, ⟨(by decide : (-9223372036854775808 : Int) ≤ 0), (by decide : (0 : Int) ≤ 9223372036854775807)⟩, (by decide : (-9223372036854775808 : Int) ≤ 0), (by decide : (0 : Int) ≤ 9223372036854775807)⟩
theorem good_pr (a : ByteArray) (h : a.size < 12) : goodC (nA, .pr a) = true := by simp [goodC, good_A, goodK, h]
theorem good_tx (a : ByteArray) (h : a.size ≤ 12) : goodC (nA, .tx a) = true := by simp [goodC, good_A, goodK, h]
theorem p_any (s : ByteArray) (w : World) : Calls Tryd.prog 24 #[.string s] w fun e w' => e = .returned (cv (nA, 3, 0, 0, s)) ∧ Below w.heap.size w w' := by
  go_enter Tryd.func24, Tryd.ntmps24
  go_wp2
  exact bodyPost_ret (v := cv (nA, 3, 0, 0, s)) (by simp [results, Tryd.results24, go_sem, nA]) rfl ⟨rfl, (Below.refl _ _).alloc (Nat.le_refl _) _⟩
theorem p_re (s : ByteArray) (w : World) (d : Nat) (os : Array Obj) : Calls Tryd.prog 24 #[.string s] (grow (redrawn w d) os) fun e w'' => e = .returned (cv (nA, 3, 0, 0, s)) ∧ ∃ p : Regrown, w'' = grow (redrawn w p.d) p.os :=
  Calls.regrown_of (p_any s _)
theorem holds_re {G : World → Prop} (K : POks G) (x : ByteArray) (t : Bool) (n : Int) (s : ByteArray) (r : Bool) (hr : holdsK (.pr x) (t, n, s) = r) (hc : x.size ≤ 100) (hs : s.size ≤ 100) (w : World) (d : Nat) (os : Array Obj) :
    Calls Tryd.prog 20 #[cv (nA, 3, 0, 0, x), vl t n s] (grow (redrawn w d) os) fun e w'' => e = .returned (.bool r) ∧ ∃ p : Regrown, w'' = grow (redrawn w p.d) p.os := by
  subst hr
  exact Calls.regrown_of (K.holds (nA, .pr x) t n s _ (small_pr x hc) hs)
theorem one_re {G : World → Prop} (K : POks G) (x : ByteArray) (r : Bool) (hr : goodC (nA, .pr x) = r) (hc : x.size ≤ 100) (w : World) (d : Nat) (os : Array Obj) :
    Calls Tryd.prog 21 #[cv (nA, 3, 0, 0, x)] (grow (redrawn w d) os) fun e w'' => e = .returned (.bool r) ∧ ∃ p : Regrown, w'' = grow (redrawn w p.d) p.os := by
  subst hr
  exact Calls.regrown_of (K.one (nA, .pr x) _ (small_pr x hc))
theorem runs_re {G : World → Prop} (K : POks G) (w : World) (hg : G w) (d : Nat) (os : Array Obj) :
    Calls Tryd.prog 3 #[] (grow (redrawn w d) os) fun e w'' => e = .returned (.bool true) ∧ ∃ p : Regrown, w'' = grow (redrawn w p.d) p.os :=
  Calls.regrown_of (pruns_any K _ (K.bel _ _ hg (below_regrown w d os)))

set_option maxRecDepth 100000 in
set_option maxHeartbeats 8000000 in
theorem pref_tail {G : World → Prop} (K : POks G) (w W : World) (a b : ByteArray) (n : Int) (bx by_ bz : Nat) (hg : G w) (hb : Below w.heap.size w W) (ha : a.size ≤ 6) (hbs : b.size ≤ 5)
    (hx : Box W bx #[.string nA, .int .i64 3, .int .i64 0, .int .i64 0, .string (a ++ b)] 23) (hy : Box W by_ #[.string nA, .int .i64 3, .int .i64 0, .int .i64 0, .string (a ++ b)] 23) (hz : Box W bz #[.string nA, .int .i64 2, .int .i64 0, .int .i64 0, .string (a ++ b)] 23)
    (u0 u1 u3 u4 u5 u6 u16 u18 u20 u21 u22 u23 u24 u25 u26 u27 u28 u29 u30 u31 u32 u33 u34 u35 u36 u37 u38 u39 u40 u41 u42 u43 u44 u45 u46 u47 u48 u49 u50 u51 u52 u53 u54 u55 u56 u57 u58 u59 u60 u61 u62 u63 u64 u65 u66 u67 u68 u69 u70 u71 u72 u73 u74 u75 u76 u77 u78 u79 u80 u81 u82 u83 u84 u85 u86 u87 u88 u89 u90 u91 u92 u93 u94 u95 u96 u97 u98 u99 u100 u101 u102 u103 u104 u105 u106 u107 u108 u109 u110 u111 u112 u113 u114 u115 u116 u117 u118 u119 u120 u121 u122 u123 u124 u125 u126 u127 u128 u129 u130 u131 u132 u133 u134 u135 u136 u137 u138 u139 u140 u141 u142 u143 u144 u145 u146 u147 u148 u149 u150 u151 u152 u153 u154 u155 u156 u157 u158 u159 u160 u161 u162 u163 u164 u165 u166 u167 u168 u169 u170 u171 u172 u173 u174 u175 u176 u177 u178 u179 : Value) :
    Code.wp Tryd.prog pref8 (bodyPost Tryd.prog Tryd.f6 (PredQ w)) ⟨(u0 :: u1 :: .int .i64 n :: u3 :: u4 :: u5 :: u6 :: .string a :: .string b :: .func (.func 24) #[] #[] :: .pointer (some ⟨bx, 0, none⟩) :: .bool true :: .pointer (some ⟨by_, 0, none⟩) :: .bool true :: .pointer (some ⟨bz, 0, none⟩) :: .bool true :: u16 :: .bool false :: u18 :: .bool false :: u20 :: u21 :: u22 :: u23 :: u24 :: u25 :: u26 :: u27 :: u28 :: u29 :: u30 :: u31 :: u32 :: u33 :: u34 :: u35 :: u36 :: u37 :: u38 :: u39 :: u40 :: u41 :: u42 :: u43 :: u44 :: u45 :: u46 :: u47 :: u48 :: u49 :: u50 :: u51 :: u52 :: u53 :: u54 :: u55 :: u56 :: u57 :: u58 :: u59 :: u60 :: u61 :: u62 :: u63 :: u64 :: u65 :: u66 :: u67 :: u68 :: u69 :: u70 :: u71 :: u72 :: u73 :: u74 :: u75 :: u76 :: u77 :: u78 :: u79 :: u80 :: u81 :: u82 :: u83 :: u84 :: u85 :: u86 :: u87 :: u88 :: u89 :: u90 :: u91 :: u92 :: u93 :: u94 :: u95 :: u96 :: u97 :: u98 :: u99 :: u100 :: u101 :: u102 :: u103 :: u104 :: u105 :: u106 :: u107 :: u108 :: u109 :: u110 :: u111 :: u112 :: u113 :: u114 :: u115 :: u116 :: u117 :: u118 :: u119 :: u120 :: u121 :: u122 :: u123 :: u124 :: u125 :: u126 :: u127 :: u128 :: u129 :: u130 :: u131 :: u132 :: u133 :: u134 :: u135 :: u136 :: u137 :: u138 :: u139 :: u140 :: u141 :: u142 :: u143 :: u144 :: u145 :: u146 :: u147 :: u148 :: u149 :: u150 :: u151 :: u152 :: u153 :: u154 :: u155 :: u156 :: u157 :: u158 :: u159 :: u160 :: u161 :: u162 :: u163 :: u164 :: u165 :: u166 :: u167 :: u168 :: u169 :: u170 :: u171 :: u172 :: u173 :: u174 :: u175 :: u176 :: u177 :: u178 :: u179 :: []).toArray, []⟩ W := by
  have KK := Lib.hid K
  have hab : (a ++ b).size = a.size + b.size := app_size a b
  have hv : Below W.heap.size W (W.alloc (.cells #[.bool true, .int .i64 0, .string (a ++ b)] 48)) := (Below.refl _ _).alloc (Nat.le_refl _) _
  have B8 := Lib.hid (hb.trans (hv.mono hb.size))
  have HG := Lib.hid (K.bel _ _ hg B8.out)
  have V8 := box_new W #[.bool true, .int .i64 0, .string (a ++ b)] 48
  have X8 := hx.on hv
  have Y8 := hy.on hv
  have Z8 := hz.on hv
  have sa : ∀ w, (Op.stringOp .add a b).run Tryd.prog w = .ok (.string (a ++ b)) w := fun w => run_string_add_sum w a b (by omega)
  have sq : ∀ w, (Op.stringOp .add (a ++ b) ⟨#[113]⟩).run Tryd.prog w = .ok (.string (a ++ b ++ ⟨#[113]⟩)) w := fun w => run_string_add_sum w _ _ (by rw [hab]; show a.size + b.size + 1 ≤ _; omega)
  have ee := eqC (nA, 3, 0, 0, a ++ b) (nA, 3, 0, 0, a ++ b) true ((eqlC_iff _ _).2 rfl)
  have es : ((a ++ b).toList == (a ++ b).toList) = true := beq_self_eq_true _
  have N := Lib.hid (fun s => p_re s)
  clear K hg hb hx hy hz
  conv => arg 2; whnf
  go_wp2_with fail
  generalize W.alloc (.cells #[.bool true, .int .i64 0, .string (a ++ b)] 48) = W8 at *
  have HA := Lib.hid (holds_re KK.out a true 0 (a ++ b) true (by rw [hold_pr]; exact pfx_app a b) (by omega) (by omega) W8)
  have HE := Lib.hid (holds_re KK.out ⟨#[]⟩ true 0 (a ++ b) true (hold_empty _) (by decide) (by omega) W8)
  have HN := Lib.hid (holds_re KK.out ⟨#[]⟩ false n ⟨#[]⟩ false rfl (by decide) (by decide) W8)
  have HQ := Lib.hid (holds_re KK.out (a ++ b ++ ⟨#[113]⟩) true 0 (a ++ b) false (not_more _ _ (by decide)) (by rw [app_size, hab]; show a.size + b.size + 1 ≤ _; omega) (by omega) W8)
  have O1 := Lib.hid (one_re KK.out ⟨#[97, 98, 99, 100, 101, 102, 103, 104, 105, 106, 107, 108]⟩ false (by decide) (by decide) W8)
  have O2 := Lib.hid (one_re KK.out ⟨#[97, 98, 99, 100, 101, 102, 103, 104, 105, 106, 107]⟩ true (by decide) (by decide) W8)
  have U := Lib.hid (runs_re KK.out W8 HG.out)
  have x0 := cell_regrown (X8.cell 0)
  have x1 := cell_regrown (X8.cell 1)
  have x2 := cell_regrown (X8.cell 2)
  have x3 := cell_regrown (X8.cell 3)
  have x4 := cell_regrown (X8.cell 4)
  have y0 := cell_regrown (Y8.cell 0)
  have y1 := cell_regrown (Y8.cell 1)
  have y2 := cell_regrown (Y8.cell 2)
  have y3 := cell_regrown (Y8.cell 3)
  have y4 := cell_regrown (Y8.cell 4)
  have z1 := cell_regrown (Z8.cell 1)
  have z4 := cell_regrown (Z8.cell 4)
  have v0 := cell_regrown (V8.cell 0)
  have v1 := cell_regrown (V8.cell 1)
  have v2 := cell_regrown (V8.cell 2)
  clear X8 Y8 Z8 V8 hv ha hbs hab
  refine wp_region_quiet_below (by kernel_rfl) (by kernel_rfl) ?_
  dsimp only [List.append]
  repeat (go_big_quiet_step (first | (with_reducible exact N.out _ W8 _ _) | (with_reducible exact HA.out _ _) | (with_reducible exact HE.out _ _) | (with_reducible exact HN.out _ _) | (with_reducible exact HQ.out _ _) | (with_reducible exact O1.out _ _) | (with_reducible exact O2.out _ _) | (with_reducible exact U.out _ _)))
  refine wpQuiet_nil ?_
  intro _ hw'
  obtain ⟨⟨dq, osq⟩, hw''⟩ := hw'
  subst hw''
  go_wp2
  go_ret
  exact ⟨rfl, B8.out.trans ((below_regrown W8 dq osq).mono B8.out.size)⟩
end Go.Proofs.YtbfecndhjlimaaaDoor.Pr
