/-
  The law GraphTells: any graph, of numbers or raw: may it be, or where it does wrong; who is near, how far. Conditions: package errors' variable holds the handle of the type 'error'; numbers of 64 bits; lists no longer than a machine holds.
-/
import Derived.Test.YtbnfndcbhnjnaaaDoorGsTells5
namespace Go.Proofs.YtbnfndcbhnjnaaaDoor.Gr
open Go.RowKit Go.Sort Go.Proofs.YtbnfndcbhnjnaaaDoor Go.Proofs.YtbnfndcbhnjnaaaDoor.Rw Go.Proofs.YtbnfndcbhnjnaaaDoor.Kp Go.Proofs.YtbnfndcbhnjnaaaDoor.In Go.Proofs.YtbnfndcbhnjnaaaDoor.Wi

noncomputable def tellsR5 : Code := ((Tryd.f4.body.bind (findRegion 5)).getD .skip)
set_option maxRecDepth 100000 in
set_option maxHeartbeats 8000000 in
theorem tells_r5 (Q : Exit → Act → World → Prop) (W : World) (kb gb B : Nat) (bn : Int) (uv mv : Value) (us ms : List Int) (gn : Int) (gs : Value) (u0 u1 u2 u3 u4 u5 u7 u8 u9 u10 u12 u13 u14 u15 u16 u17 u18 u19 u20 u21 u22 u23 u24 u25 u26 u27 u28 u29 u30 u31 u32 u33 u34 u35 u36 u37 u38 u39 u40 u41 u42 u43 u44 u45 u46 u47 u48 u49 u50 u51 u52 u53 u54 u55 u56 u57 u58 u59 u60 u61 u62 u63 u64 u65 u66 u67 u68 u69 u70 u71 u72 u73 u74 u75 u76 u77 u78 u79 u80 u81 u82 u83 u84 u85 u86 u87 u88 u89 u90 u91 u92 u93 u94 u95 u96 u97 u98 u99 u100 u101 u102 u103 u104 u105 u106 u107 u108 u109 u110 u111 u112 u113 u114 u115 u116 u117 u118 u119 u120 u121 u122 u123 u124 u125 u126 u127 u128 u129 u130 u131 u132 u133 u134 u135 u136 u137 u138 u139 u140 u141 u142 u143 u144 u145 u146 u147 u148 u149 u150 u151 u152 u153 u154 u155 u156 u157 u158 u159 u160 u161 u162 u163 u164 u165 u166 u167 u168 u169 u170 u171 u172 u173 u174 u175 u176 u177 u178 u179 u180 u181 u182 u183 u184 u185 u186 u187 u188 u189 u190 u191 u192 u193 u194 u195 u196 u197 u198 u199 u200 u201 u202 u203 u204 u205 u206 u207 u208 u209 u210 u211 u212 u213 u214 u215 u216 u217 u218 u219 u220 u221 u222 u223 u224 u225 u226 u227 u228 u229 u230 u231 u232 u233 u234 u235 u236 u237 u238 : Value)
    (hk : Box W kb #[.int .i64 bn, uv, mv] 39) (hx : Box W gb #[.int .i64 gn, gs] 25) (hb : I64 bn) (hu : InInts W uv us) (hm : InInts W mv ms) (lu : us.length ≤ maxLen) (lm : ms.length ≤ maxLen) (hB : B ≤ gb)
    (hQ : ∀ (w' : World) (n : Int) (l : List Lk) (lo : Option Addr) (lc : Nat) (v44 v45 : Value), SmallG n l → Box w' gb #[.int .i64 n, .slice lo l.length lc] 25 → RowK w' (.slice lo l.length lc) l → Below B W w' → Q .normal ⟨(u0 :: u1 :: u2 :: u3 :: u4 :: u5 :: .pointer (some ⟨kb, 0, none⟩) :: u7 :: u8 :: u9 :: u10 :: .pointer (some ⟨gb, 0, none⟩) :: u12 :: u13 :: u14 :: u15 :: u16 :: u17 :: u18 :: u19 :: u20 :: u21 :: u22 :: u23 :: u24 :: u25 :: u26 :: u27 :: u28 :: u29 :: u30 :: u31 :: u32 :: u33 :: u34 :: u35 :: u36 :: u37 :: u38 :: u39 :: u40 :: u41 :: u42 :: u43 :: v44 :: v45 :: u46 :: u47 :: u48 :: u49 :: u50 :: u51 :: u52 :: u53 :: u54 :: u55 :: u56 :: u57 :: u58 :: u59 :: u60 :: u61 :: u62 :: u63 :: u64 :: u65 :: u66 :: u67 :: u68 :: u69 :: u70 :: u71 :: u72 :: u73 :: u74 :: u75 :: u76 :: u77 :: u78 :: u79 :: u80 :: u81 :: u82 :: u83 :: u84 :: u85 :: u86 :: u87 :: u88 :: u89 :: u90 :: u91 :: u92 :: u93 :: u94 :: u95 :: u96 :: u97 :: u98 :: u99 :: u100 :: u101 :: u102 :: u103 :: u104 :: u105 :: u106 :: u107 :: u108 :: u109 :: u110 :: u111 :: u112 :: u113 :: u114 :: u115 :: u116 :: u117 :: u118 :: u119 :: u120 :: u121 :: u122 :: u123 :: u124 :: u125 :: u126 :: u127 :: u128 :: u129 :: u130 :: u131 :: u132 :: u133 :: u134 :: u135 :: u136 :: u137 :: u138 :: u139 :: u140 :: u141 :: u142 :: u143 :: u144 :: u145 :: u146 :: u147 :: u148 :: u149 :: u150 :: u151 :: u152 :: u153 :: u154 :: u155 :: u156 :: u157 :: u158 :: u159 :: u160 :: u161 :: u162 :: u163 :: u164 :: u165 :: u166 :: u167 :: u168 :: u169 :: u170 :: u171 :: u172 :: u173 :: u174 :: u175 :: u176 :: u177 :: u178 :: u179 :: u180 :: u181 :: u182 :: u183 :: u184 :: u185 :: u186 :: u187 :: u188 :: u189 :: u190 :: u191 :: u192 :: u193 :: u194 :: u195 :: u196 :: u197 :: u198 :: u199 :: u200 :: u201 :: u202 :: u203 :: u204 :: u205 :: u206 :: u207 :: u208 :: u209 :: u210 :: u211 :: u212 :: u213 :: u214 :: u215 :: u216 :: u217 :: u218 :: u219 :: u220 :: u221 :: u222 :: u223 :: u224 :: u225 :: u226 :: u227 :: u228 :: u229 :: u230 :: u231 :: u232 :: u233 :: u234 :: u235 :: u236 :: u237 :: u238 :: []).toArray, []⟩ w') :
    Code.wp Tryd.prog tellsR5 Q ⟨(u0 :: u1 :: u2 :: u3 :: u4 :: u5 :: .pointer (some ⟨kb, 0, none⟩) :: u7 :: u8 :: u9 :: u10 :: .pointer (some ⟨gb, 0, none⟩) :: u12 :: u13 :: u14 :: u15 :: u16 :: u17 :: u18 :: u19 :: u20 :: u21 :: u22 :: u23 :: u24 :: u25 :: u26 :: u27 :: u28 :: u29 :: u30 :: u31 :: u32 :: u33 :: u34 :: u35 :: u36 :: u37 :: u38 :: u39 :: u40 :: u41 :: u42 :: u43 :: u44 :: u45 :: u46 :: u47 :: u48 :: u49 :: u50 :: u51 :: u52 :: u53 :: u54 :: u55 :: u56 :: u57 :: u58 :: u59 :: u60 :: u61 :: u62 :: u63 :: u64 :: u65 :: u66 :: u67 :: u68 :: u69 :: u70 :: u71 :: u72 :: u73 :: u74 :: u75 :: u76 :: u77 :: u78 :: u79 :: u80 :: u81 :: u82 :: u83 :: u84 :: u85 :: u86 :: u87 :: u88 :: u89 :: u90 :: u91 :: u92 :: u93 :: u94 :: u95 :: u96 :: u97 :: u98 :: u99 :: u100 :: u101 :: u102 :: u103 :: u104 :: u105 :: u106 :: u107 :: u108 :: u109 :: u110 :: u111 :: u112 :: u113 :: u114 :: u115 :: u116 :: u117 :: u118 :: u119 :: u120 :: u121 :: u122 :: u123 :: u124 :: u125 :: u126 :: u127 :: u128 :: u129 :: u130 :: u131 :: u132 :: u133 :: u134 :: u135 :: u136 :: u137 :: u138 :: u139 :: u140 :: u141 :: u142 :: u143 :: u144 :: u145 :: u146 :: u147 :: u148 :: u149 :: u150 :: u151 :: u152 :: u153 :: u154 :: u155 :: u156 :: u157 :: u158 :: u159 :: u160 :: u161 :: u162 :: u163 :: u164 :: u165 :: u166 :: u167 :: u168 :: u169 :: u170 :: u171 :: u172 :: u173 :: u174 :: u175 :: u176 :: u177 :: u178 :: u179 :: u180 :: u181 :: u182 :: u183 :: u184 :: u185 :: u186 :: u187 :: u188 :: u189 :: u190 :: u191 :: u192 :: u193 :: u194 :: u195 :: u196 :: u197 :: u198 :: u199 :: u200 :: u201 :: u202 :: u203 :: u204 :: u205 :: u206 :: u207 :: u208 :: u209 :: u210 :: u211 :: u212 :: u213 :: u214 :: u215 :: u216 :: u217 :: u218 :: u219 :: u220 :: u221 :: u222 :: u223 :: u224 :: u225 :: u226 :: u227 :: u228 :: u229 :: u230 :: u231 :: u232 :: u233 :: u234 :: u235 :: u236 :: u237 :: u238 :: []).toArray, []⟩ W := by
  have HQ := Lib.hid hQ
  have GC := Lib.hid (graph_ok bn uv mv us ms W hb hu hm lu lm)
  have k0 := hk.cell 0
  have k1 := hk.cell 1
  have k2 := hk.cell 2
  simp only [List.getElem?_toArray, List.getElem?_cons_zero, List.getElem?_cons_succ] at k0 k1 k2
  have HX := Lib.hid hx
  have hgl := hx.lt
  have HB := Lib.hid (show Below B W W from Below.refl _ _)
  have HW := Lib.hid (show B ≤ W.heap.size by omega)
  clear hQ hk hx hb hu hm lu lm
  conv => arg 2; whnf
  go_wp2_with fail
  refine GC.out.mono ?_
  rintro e1 w1 ⟨⟨n, lv, l, rfl, ho, hsm⟩, hb1⟩
  obtain ⟨lo, lc, rfl⟩ := (Row.of_own ho).len
  have X1 := HX.out.on hb1
  have B1 : Below B W w1 := hb1.mono HW.out
  have x2 := heap_setCell_same w1 gb 0 #[.int .i64 gn, gs] 25 (.int .i64 n) X1
  have x3 := heap_setCell_same _ gb 1 _ 25 (.slice lo l.length lc) x2
  have o3 : OwnK ((w1.setCell ⟨gb, 0, none⟩ (.int .i64 n)).setCell ⟨gb, 1, none⟩ (.slice lo l.length lc)) W.heap.size (.slice lo l.length lc) l := ownsRow_setCell_other (ownsRow_setCell_other ho (own_ne ho X1 (by decide)) _) (own_ne ho X1 (by decide)) _
  have F := Lib.hid (fun v44 v45 => HQ.out ((w1.setCell ⟨gb, 0, none⟩ (.int .i64 n)).setCell ⟨gb, 1, none⟩ (.slice lo l.length lc)) n l lo lc v44 v45 hsm x3 (Row.of_own o3) ((B1.setCell hB _).setCell hB _))
  have c0 := X1.cell 0
  have c1 := X1.cell 1
  have f0 := X1.fr 0
  have f1 := X1.fr 1
  simp only [List.getElem?_toArray, List.getElem?_cons_zero, List.getElem?_cons_succ] at c0 c1
  clear ho hsm hb1 X1 B1 x2 x3 o3 HQ k0 k1 k2 GC
  go_wp2
  exact F.out _ _
set_option maxRecDepth 100000 in
set_option maxHeartbeats 8000000 in
theorem gtells_any (rb : Int) (rlv : Value) (rl : List Lk) (bn : Int) (uv mv : Value) (us ms : List Int) (own : Bool) (a b : Int) (w : World) (hg : Fa.EG w) (hrb : I64 rb) (hrl : RowK w rlv rl) (hb : I64 bn) (hu : InInts w uv us) (hm : InInts w mv ms) (lu : us.length ≤ maxLen) (lm : ms.length ≤ maxLen) (ha : I64 a) (hbb : I64 b) :
    Calls Tryd.prog 4 #[.agg #[.int .i64 rb, rlv], .agg #[.int .i64 bn, uv, mv], .bool own, .int .i64 a, .int .i64 b] w fun e w' => e = .returned (.bool true) ∧ Below w.heap.size w w' := by
  obtain ⟨ro, rc, rfl⟩ := hrl.len
  have hmost := hrl.most
  unfold maxLen at hmost
  obtain ⟨rm, hrm⟩ : ∃ rm, rm = rl.length := ⟨_, rfl⟩
  rw [← hrm] at hrl hmost ⊢
  obtain ⟨w0, hw0⟩ : ∃ w0, w0 = (w.alloc (.cells #[.int .i64 rb, .slice ro rm rc] 25)).alloc (.cells #[.int .i64 bn, uv, mv] 39) := ⟨_, rfl⟩
  have b0 : Below w.heap.size w w0 := by rw [hw0]; exact ((Below.refl _ _).alloc (Nat.le_refl _) _).alloc (by simp) _
  have hs0 : w0.heap.size = w.heap.size + 1 + 1 := by rw [hw0]; simp
  have E0 := Lib.hid (GE.mk (hg.bel b0))
  have R0 := Lib.hid (hrl.on b0)
  have K0 := Lib.hid (show Box w0 (w.heap.size + 1) #[.int .i64 bn, uv, mv] 39 by
    have h := box_new (w.alloc (.cells #[.int .i64 rb, .slice ro rm rc] 25)) #[.int .i64 bn, uv, mv] 39
    rw [hw0]
    simpa using h)
  have B0 := Lib.hid b0
  have HU := Lib.hid (hu.on b0)
  have HMs := Lib.hid (hm.on b0)
  have LU := Lib.hid lu
  have LM := Lib.hid lm
  have HB := Lib.hid hb
  have IA := Lib.hid ha
  have IB := Lib.hid hbb
  have HRB := Lib.hid hrb
  have HRM := Lib.hid hrm
  -- the graph's box, the empty literal, the append
  have bc : Below w0.heap.size w0 (w0.alloc (.cells #[.int .i64 rb, .slice ro rm rc] 25)) := (Below.refl _ _).alloc (Nat.le_refl _) _
  have hsc : (w0.alloc (.cells #[.int .i64 rb, .slice ro rm rc] 25)).heap.size = w.heap.size + 1 + 1 + 1 := by simp [hs0]
  have bd := bc.alloc bc.size (.cells #[] 22)
  obtain ⟨q, hq⟩ : ∃ q, q = min rm 20 := ⟨_, rfl⟩
  obtain ⟨lo, sl, hlo⟩ := row_lo okK (R0.out) q (by rw [← hrm]; omega)
  have sl : ∀ w, (Instr.sliceAt 23 (.slice ro rm rc) none (some (.int .i64 q)) none).run Tryd.prog w = .ok lo w := sl
  have eqm : (q : Int) = min (rm : Int) 20 := by omega
  have q20 : q ≤ 20 := by omega
  have sl : ∀ w, (Instr.sliceAt 23 (.slice ro rm rc) none (some (.int .i64 (min (rm : Int) 20))) none).run Tryd.prog w = .ok lo w := by rw [← eqm]; exact sl
  have oe := own_less (B' := w0.heap.size) (by rw [hsc, hs0]; exact Nat.le_succ _) (own_made (E := EK) (w0.alloc (.cells #[.int .i64 rb, .slice ro rm rc] 25)))
  have hlq : (rl.take q).length = q := by simp; omega
  obtain ⟨v3, w3, r3, o3, g3⟩ := appK w0.heap.size oe (hlo.on bd) (by simp) (by rw [hlq]; omega) bd.size
  have xb := (box_new w0 #[.int .i64 rb, .slice ro rm rc] 25).more (.cells #[] 22)
  have x3 := box_grown xb g3 (fun e => own_ne oe xb (by decide) e.symm)
  have b3 := bd.grown g3 bd.size (fun j hj => (oe.lt j hj).1)
  rw [List.nil_append] at o3
  obtain ⟨vo, vc, rfl⟩ := (Row.of_own o3).len
  rw [hlq] at o3 r3
  rw [hs0] at x3
  have X3 := Lib.hid x3
  have B3 := Lib.hid b3
  have O3 := Lib.hid o3
  rw [hsc, hw0] at r3
  have hs3 : w0.heap.size ≤ w.heap.size + 1 + 1 := by omega
  have HS3 := Lib.hid hs3
  have B4 := Lib.hid (show Below w0.heap.size w0 (w3.setCell ⟨w.heap.size + 1 + 1, 1, none⟩ (.slice vo q vc)) from b3.setCell hs3 _)
  have X4 := Lib.hid (show Box (w3.setCell ⟨w.heap.size + 1 + 1, 1, none⟩ (.slice vo q vc)) (w.heap.size + 1 + 1) #[.int .i64 rb, .slice vo q vc] 25 from heap_setCell_same w3 (w.heap.size + 1 + 1) 1 #[.int .i64 rb, .slice ro rm rc] 25 (.slice vo q vc) x3)
  have O4 := Lib.hid (show OwnK (w3.setCell ⟨w.heap.size + 1 + 1, 1, none⟩ (.slice vo q vc)) w0.heap.size (.slice vo q vc) (rl.take q) from ownsRow_setCell_other o3 (own_ne o3 x3 (by decide)) _)
  have x31 := x3.cell 1
  have x3f := x3.fr 1
  have x30 := x3.cell 0
  have x3l := x3.lt
  simp only [List.getElem?_toArray, List.getElem?_cons_zero, List.getElem?_cons_succ] at x31 x30
  have WB := Lib.hid (fun W => within_any rb (-1) 70 W (by omega) (by omega) (by omega) HRB.out.1 HRB.out.2)
  clear hg hrl hb hu hm lu lm ha hbb hrb hrm b0 bc bd hsc oe o3 g3 xb x3 b3 hs0 hs3 hlo eqm
  have hlq := Lib.hid hlq
  clear hq
  go_enter Tryd.func4, Tryd.ntmps4
  go_wp2_with (first | (at_builtin; refine wpList_append_run rfl _ _ 23 rfl rfl rfl r3 ?_) | fail)
  generalize w3.setCell ⟨w.heap.size + 1 + 1, 1, none⟩ (.slice vo q vc) = w4 at *
  refine (WB.out w4).mono ?_
  rintro e5 w5 ⟨rfl, rfl⟩
  have bnn := within_bd rb (-1) 70 (by omega)
  generalize within rb (-1) 70 = nn at *
  have XL := Lib.hid X4.out.lt
  have X5 := Lib.hid (show Box (w4.setCell ⟨w.heap.size + 1 + 1, 0, none⟩ (.int .i64 nn)) (w.heap.size + 1 + 1) #[.int .i64 nn, .slice vo q vc] 25 from heap_setCell_same w4 (w.heap.size + 1 + 1) 0 #[.int .i64 rb, .slice vo q vc] 25 (.int .i64 nn) X4.out)
  have O5 := Lib.hid (show OwnK (w4.setCell ⟨w.heap.size + 1 + 1, 0, none⟩ (.int .i64 nn)) w0.heap.size (.slice vo q vc) (rl.take q) from ownsRow_setCell_other O4.out (own_ne O4.out X4.out (by decide)) _)
  have B5 := Lib.hid (show Below w0.heap.size w0 (w4.setCell ⟨w.heap.size + 1 + 1, 0, none⟩ (.int .i64 nn)) from B4.out.setCell HS3.out _)
  have y0 := X4.out.cell 0
  have yf := X4.out.fr 0
  have yl := X4.out.lt
  simp only [List.getElem?_toArray, List.getElem?_cons_zero] at y0
  clear r3 x31 x3f x3l x30 X3 B3 O3 WB sl
  rcases own with _ | _
  · go_upto_if 43 with fail
    generalize w4.setCell ⟨w.heap.size + 1 + 1, 0, none⟩ (.int .i64 nn) = w5 at *
    refine wp_cond_false rfl ?_
    refine wp_skip ?_
    simp only [Exit.then]
    apply_assumption
    exact tells_5 w w5 nn (rl.take q) vo vc (w.heap.size + 1 + 1) false a b _ _ _ _ _ _ _ _ _ _ _ _ _ _ _ _ _ _ _ _ _ _ _ _ _ _ _ _ _ _ _ _ _ _ _ _ _ _ _ _ _ _ _ _ _ _ _ _ _ _ _ _ _ _ _ _ _ _ _ _ _ _ _ _ _ _ _ _ _ _ _ _ _ _ _ _ _ _ _ _ _ _ _ _ _ _ _ _ _ _ _ _ _ _ _ _ _ _ _ _ _ _ _ _ _ _ _ _ _ _ _ _ _ _ _ _ _ _ _ _ _ _ _ _ _ _ _ _ _ _ _ _ _ _ _ _ _ _ _ _ _ _ _ _ _ _ _ _ _ _ _ _ _ _ _ _ _ _ _ _ _ _ _ _ _ _ _ _ _ _ _ _ _ _ _ _ _ _ _ _ _ _ _ _ _ _ _ _ _ _ _ _ _ _ _ _ _ _ _ _ _ _ _ _ _ _ _ _ _ _ _ _ _ _ _ _ _ _ _ _ _ _ _ _ _ _ _ _ _ _ _ _ _ _ _ (B0.out.trans (B5.out.mono B0.out.size)) (E0.out.on B5.out) (by rw [hlq.out]; exact X5.out) (by rw [hlq.out]; exact Row.of_own O5.out) (by rw [hlq.out]; exact q20) ⟨by omega, by omega⟩ (fun h => by cases h) IA.out IB.out
  · go_upto_if 43 with fail
    generalize w4.setCell ⟨w.heap.size + 1 + 1, 0, none⟩ (.int .i64 nn) = w5 at *
    refine wp_cond_true rfl ?_
    refine tells_r5 _ w5 (w.heap.size + 1) (w.heap.size + 1 + 1) w0.heap.size bn uv mv us ms nn (.slice vo q vc) _ _ _ _ _ _ _ _ _ _ _ _ _ _ _ _ _ _ _ _ _ _ _ _ _ _ _ _ _ _ _ _ _ _ _ _ _ _ _ _ _ _ _ _ _ _ _ _ _ _ _ _ _ _ _ _ _ _ _ _ _ _ _ _ _ _ _ _ _ _ _ _ _ _ _ _ _ _ _ _ _ _ _ _ _ _ _ _ _ _ _ _ _ _ _ _ _ _ _ _ _ _ _ _ _ _ _ _ _ _ _ _ _ _ _ _ _ _ _ _ _ _ _ _ _ _ _ _ _ _ _ _ _ _ _ _ _ _ _ _ _ _ _ _ _ _ _ _ _ _ _ _ _ _ _ _ _ _ _ _ _ _ _ _ _ _ _ _ _ _ _ _ _ _ _ _ _ _ _ _ _ _ _ _ _ _ _ _ _ _ _ _ _ _ _ _ _ _ _ _ _ _ _ _ _ _ _ _ _ _ _ _ _ _ _ _ _ _ _ _ _ _ _ _ _ _ _ _ _ _ _ _ _ _ _ _ _ (K0.out.on B5.out) X5.out HB.out (HU.out.on B5.out) (HMs.out.on B5.out) LU.out LM.out HS3.out ?_
    intro w6 n l lo1 lc v44 v45 hsm hx6 hr6 hb6
    have B6 := Lib.hid (B5.out.trans hb6)
    simp only [Exit.then]
    apply_assumption
    exact tells_5 w w6 n l lo1 lc (w.heap.size + 1 + 1) true a b _ _ _ _ _ _ _ _ _ _ _ _ _ _ _ _ _ _ _ _ _ _ _ _ _ _ _ _ _ _ _ _ _ _ _ _ _ _ _ _ _ _ _ _ _ _ _ _ _ _ _ _ _ _ _ _ _ _ _ _ _ _ _ _ _ _ _ _ _ _ _ _ _ _ _ _ _ _ _ _ _ _ _ _ _ _ _ _ _ _ _ _ _ _ _ _ _ _ _ _ _ _ _ _ _ _ _ _ _ _ _ _ _ _ _ _ _ _ _ _ _ _ _ _ _ _ _ _ _ _ _ _ _ _ _ _ _ _ _ _ _ _ _ _ _ _ _ _ _ _ _ _ _ _ _ _ _ _ _ _ _ _ _ _ _ _ _ _ _ _ _ _ _ _ _ _ _ _ _ _ _ _ _ _ _ _ _ _ _ _ _ _ _ _ _ _ _ _ _ _ _ _ _ _ _ _ _ _ _ _ _ _ _ _ _ _ _ _ _ _ _ _ _ _ _ _ _ _ _ _ _ _ _ _ _ (B0.out.trans (B6.out.mono B0.out.size)) (E0.out.on B6.out) hx6 hr6 (by have := hsm.few; omega) ⟨by have := hsm.right.lo; omega, by have := hsm.right.hi; omega⟩ (fun _ => hsm.right) IA.out IB.out
end Go.Proofs.YtbnfndcbhnjnaaaDoor.Gr
