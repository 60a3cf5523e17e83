/-
  A region of the law NumBack: numbers, a text, a byte, an ID, a text, put one behind the other; the byte's own row made at any time ahead of its append. Conditions: texts of at most 200 bytes; numbers of 64 bits.
-/
import Derived.Test.YtobdddggdfcdlaaNmMany
import Derived.Test.YtobdddggdfcdlaaRgK
namespace Go.Proofs.Ytobdddggdfcdlaa.Nm
open Go.RowKit Go.Proofs.Ytobdddggdfcdlaa Go.Proofs.Ytobdddggdfcdlaa.Rw

def bl0 (n m : Int) : List UInt8 := numB n ++ numB m
def bl1 (n m : Int) (s : ByteArray) : List UInt8 := bl0 n m ++ textB s
def bl2 (n m : Int) (s : ByteArray) (c : UInt8) : List UInt8 := bl1 n m s ++ [c]
def bl3 (n m : Int) (s : ByteArray) (c : UInt8) (x y : Int) : List UInt8 := bl2 n m s c ++ (numB x ++ numB y)
/-- All of it. -/
def bl4 (n m : Int) (s : ByteArray) (c : UInt8) (x y : Int) (t : ByteArray) : List UInt8 := bl3 n m s c x y ++ textB t
theorem textB_len (s : ByteArray) (h : s.size ≤ 255) : (textB s).length = s.size + 1 := by rw [textB_ok h, List.length_cons, size_data]
theorem bl0_len (n m : Int) : (bl0 n m).length = 16 := rfl
theorem bl1_len (n m : Int) (s : ByteArray) (h : s.size ≤ 255) : (bl1 n m s).length = 17 + s.size := by unfold bl1; rw [List.length_append, bl0_len, textB_len s h]; omega
theorem bl2_len (n m : Int) (s : ByteArray) (c : UInt8) (h : s.size ≤ 255) : (bl2 n m s c).length = 18 + s.size := by unfold bl2; rw [List.length_append, bl1_len n m s h, List.length_singleton]; omega
theorem bl3_len (n m : Int) (s : ByteArray) (c : UInt8) (x y : Int) (h : s.size ≤ 255) : (bl3 n m s c x y).length = 34 + s.size := by unfold bl3; rw [List.length_append, bl2_len n m s c h, List.length_append, numB_len, numB_len]; omega
theorem bl4_len (n m : Int) (s : ByteArray) (c : UInt8) (x y : Int) (t : ByteArray) (h : s.size ≤ 255) (h2 : t.size ≤ 255) : (bl4 n m s c x y t).length = 35 + s.size + t.size := by unfold bl4; rw [List.length_append, bl3_len n m s c x y h, textB_len t h2]; omega

/-- What is known behind so many of the calls and appends. -/
def BM (B : Nat) (n m : Int) (s : ByteArray) (c : UInt8) (x y : Int) (t : ByteArray) : Nat → (Nat → Value) → World → Prop
  | 0, _, _ => True
  | 1, v, w => RowI w (v 3) [n, m]
  | 2, v, w => RowB w (v 4) (bl0 n m)
  | 3, v, w => OwnB w B (v 5) (bl0 n m)
  | 4, v, w => OwnB w B (v 5) (bl0 n m) ∧ RowB w (v 7) (textB s)
  | 5, v, w => OwnB w B (v 8) (bl1 n m s)
  | 6, v, w => OwnB w B (v 11) (bl2 n m s c)
  | 7, v, w => OwnB w B (v 11) (bl2 n m s c) ∧ RowB w (v 13) (numB x ++ numB y)
  | 8, v, w => OwnB w B (v 14) (bl3 n m s c x y)
  | 9, v, w => OwnB w B (v 14) (bl3 n m s c x y) ∧ RowB w (v 16) (textB t)
  | 10, v, w => OwnB w B (v 17) (bl4 n m s c x y t)
  | _ + 11, v, w => OwnB w B (v 18) (bl4 n m s c x y t)
/-- The byte's own row. -/
def LitAt (v : Value) (c : UInt8) (w : World) : Prop := ∃ g, v = .slice (some ⟨g, 0, none⟩) 1 1 ∧ Box w g #[.int .u8 c.toNat] 5
theorem LitAt.on {v : Value} {c : UInt8} {w w' : World} (h : LitAt v c w) (hb : Below w.heap.size w w') : LitAt v c w' := by
  obtain ⟨g, h1, h2⟩ := h
  exact ⟨g, h1, h2.on hb⟩
theorem LitAt.app {v r : Value} {c : UInt8} {w w' : World} {B : Nat} {l : List UInt8} (h : LitAt v c w) (ho : OwnB w B r l) (hl : 2 ≤ l.length) (hg : w.grownBy w' r.ownBlock) : LitAt v c w' := by
  obtain ⟨g, h1, h2⟩ := h
  refine ⟨g, h1, (hg.block g h2.lt fun e => ?_).trans h2⟩
  rcases own_open ho with ⟨e1, e2⟩ | ⟨g', cap, cur, e1, _, hb, hlc, _, hsz, _⟩
  · rw [e1] at e
    cases e
  · rw [e1] at e
    obtain rfl : g = g' := by simpa [Value.ownBlock] using e
    unfold Box at h2 hb
    rw [h2] at hb
    have e2 : #[.int .u8 c.toNat] = cur := by injection hb with hb; injection hb
    rw [← e2] at hsz
    have e3 : EB.n = 1 := rfl
    rw [e3] at hsz
    simp at hsz
    omega
theorem LitAt.row {v : Value} {c : UInt8} {w : World} (h : LitAt v c w) : RowB w v [c] := by
  obtain ⟨g, rfl, h2⟩ := h
  refine Or.inr ⟨⟨g, 0, none⟩, 1, rfl, Nat.le_refl _, by decide, fun j u hj => ?_⟩
  rw [flatB] at hj
  rw [add_own, h2.cell]
  have hj0 : j < 1 := by have := (List.getElem?_eq_some_iff.1 hj).1; simpa using this
  obtain rfl : j = 0 := by omega
  simpa using hj
def CB (W : World) (n m : Int) (s : ByteArray) (c : UInt8) (x y : Int) (t : ByteArray) (k : Nat) (b : Bool) (v : Nat → Value) (w : World) : Prop :=
  Below W.heap.size W w ∧ (b = true → k ≤ 5 → LitAt (v 10) c w) ∧ BM W.heap.size n m s c x y t k v w
theorem below_none {w w' : World} (hg : w.grownBy w' none) : Below w.heap.size w w' := (Below.refl _ _).grown hg (Nat.le_refl _) (fun j hj => by cases hj)
/-- An append to what is there, as the region has it. -/
theorem app_next {W w : World} {v x : Value} {l m : List UInt8} (hb : Below W.heap.size W w) (ho : OwnB w W.heap.size v l) (hx : RowB w x m) (hl : l.length ≤ 1000) (hm : m.length ≤ 1000) :
    ∃ v' w', (Builtin.append_ #[24, 24] 24 #[v, x]).run Try.prog w = .ok v' w' ∧ OwnB w' W.heap.size v' (l ++ m) ∧ w.grownBy w' v.ownBlock ∧ Below W.heap.size W w' := by
  obtain ⟨v', w', r, o', gr⟩ := appB W.heap.size ho hx (by omega) hb.size 24
  exact ⟨v', w', r, o', gr, hb.trans (below_own ho hb.size gr)⟩
theorem call_number (args : Array Value) (w : World) : (callFunc 11 args).run Try.prog w = .ok (.enter 11 args) w := call_fn Try.func11 rfl rfl args w
theorem call_text (args : Array Value) (w : World) : (callFunc 12 args).run Try.prog w = .ok (.enter 12 args) w := call_fn Try.func12 rfl rfl args w
theorem call_id (args : Array Value) (w : World) : (callFunc 15 args).run Try.prog w = .ok (.enter 15 args) w := call_fn Try.func15 rfl rfl args w
theorem lit_ints (w : World) (n m : Int) : (Instr.buildSlice 39 2 #[(0, .int .i64 n), (1, .int .i64 m)]).run Try.prog w = .ok (.slice (some ⟨w.heap.size, 0, none⟩) 2 2) (w.alloc (.cells #[.int .i64 n, .int .i64 m] 3)) := by simp [go_sem]
theorem lit_byte (w : World) (c : UInt8) : (Instr.buildSlice 24 1 #[(0, .int .u8 c.toNat)]).run Try.prog w = .ok (.slice (some ⟨w.heap.size, 0, none⟩) 1 1) (w.alloc (.cells #[.int .u8 c.toNat] 5)) := by simp [go_sem]
noncomputable def backR3 : Code := ((Try.f4.body.bind (findRegion 3)).getD .skip)
set_option maxRecDepth 100000 in
set_option maxHeartbeats 8000000 in
theorem back_r3 (Q : Exit → Act → World → Prop) (W : World) (n m : Int) (s : ByteArray) (c : UInt8) (x y : Int) (t : ByteArray) (xb : Nat) (u4 u6 u7 u8 u9 u10 u12 u13 u14 u16 u17 u18 u19 u20 u21 u22 u23 u24 u25 u26 u27 u28 u29 u30 u31 u32 u33 u34 u35 u36 u37 u38 u39 u40 u41 u42 u43 u44 u45 u46 u47 u48 u49 u50 u51 u52 u53 u54 u55 u56 u57 u58 u59 u60 u61 u62 u63 u64 u65 u66 u67 u68 u69 u70 u71 u72 u73 u74 u75 u76 u77 u78 u79 u80 u81 u82 u83 u84 u85 u86 u87 u88 u89 u90 u91 u92 u93 u94 u95 u96 u97 u98 u99 u100 u101 u102 u103 u104 u105 u106 u107 u108 u109 u110 u111 u112 u113 u114 u115 u116 u117 u118 u119 u120 u121 u122 u123 u124 u125 u126 u127 u128 u129 u130 u131 u132 u133 u134 u135 u136 u137 u138 u139 u140 u141 u142 u143 u144 u145 u146 u147 u148 u149 u150 u151 u152 u153 u154 u155 u156 u157 u158 u159 u160 u161 u162 u163 u164 u165 u166 u167 u168 u169 u170 u171 u172 u173 u174 u175 u176 u177 u178 u179 u180 u181 u182 u183 u184 u185 u186 u187 u188 u189 u190 u191 u192 u193 u194 u195 u196 u197 u198 u199 u200 u201 u202 u203 u204 u205 u206 u207 u208 u209 u210 u211 u212 u213 u214 u215 u216 u217 u218 u219 u220 u221 u222 u223 u224 u225 u226 u227 u228 u229 : Value)
    (hx : Box W xb #[.int .i64 x, .int .i64 y] 31) (hs200 : s.size ≤ 200) (ht200 : t.size ≤ 200)
    (hQ : ∀ (w' : World) (v v35 v36 v37 v38 v39 v40 v41 v42 v43 v44 v45 v46 v47 v48 v49 v50 v51 v52 : Value), OwnB w' W.heap.size v (bl4 n m s c x y t) → Below W.heap.size W w' → Q .normal ⟨(.int .i64 n :: .int .i64 m :: .string s :: .string t :: u4 :: .int .u8 c.toNat :: u6 :: u7 :: u8 :: u9 :: u10 :: .pointer (some ⟨xb, 0, none⟩) :: u12 :: u13 :: u14 :: v :: u16 :: u17 :: u18 :: u19 :: u20 :: u21 :: u22 :: u23 :: u24 :: u25 :: u26 :: u27 :: u28 :: u29 :: u30 :: u31 :: u32 :: u33 :: u34 :: v35 :: v36 :: v37 :: v38 :: v39 :: v40 :: v41 :: v42 :: v43 :: v44 :: v45 :: v46 :: v47 :: v48 :: v49 :: v50 :: v51 :: v52 :: u53 :: u54 :: u55 :: u56 :: u57 :: u58 :: u59 :: u60 :: u61 :: u62 :: u63 :: u64 :: u65 :: u66 :: u67 :: u68 :: u69 :: u70 :: u71 :: u72 :: u73 :: u74 :: u75 :: u76 :: u77 :: u78 :: u79 :: u80 :: u81 :: u82 :: u83 :: u84 :: u85 :: u86 :: u87 :: u88 :: u89 :: u90 :: u91 :: u92 :: u93 :: u94 :: u95 :: u96 :: u97 :: u98 :: u99 :: u100 :: u101 :: u102 :: u103 :: u104 :: u105 :: u106 :: u107 :: u108 :: u109 :: u110 :: u111 :: u112 :: u113 :: u114 :: u115 :: u116 :: u117 :: u118 :: u119 :: u120 :: u121 :: u122 :: u123 :: u124 :: u125 :: u126 :: u127 :: u128 :: u129 :: u130 :: u131 :: u132 :: u133 :: u134 :: u135 :: u136 :: u137 :: u138 :: u139 :: u140 :: u141 :: u142 :: u143 :: u144 :: u145 :: u146 :: u147 :: u148 :: u149 :: u150 :: u151 :: u152 :: u153 :: u154 :: u155 :: u156 :: u157 :: u158 :: u159 :: u160 :: u161 :: u162 :: u163 :: u164 :: u165 :: u166 :: u167 :: u168 :: u169 :: u170 :: u171 :: u172 :: u173 :: u174 :: u175 :: u176 :: u177 :: u178 :: u179 :: u180 :: u181 :: u182 :: u183 :: u184 :: u185 :: u186 :: u187 :: u188 :: u189 :: u190 :: u191 :: u192 :: u193 :: u194 :: u195 :: u196 :: u197 :: u198 :: u199 :: u200 :: u201 :: u202 :: u203 :: u204 :: u205 :: u206 :: u207 :: u208 :: u209 :: u210 :: u211 :: u212 :: u213 :: u214 :: u215 :: u216 :: u217 :: u218 :: u219 :: u220 :: u221 :: u222 :: u223 :: u224 :: u225 :: u226 :: u227 :: u228 :: u229 :: []).toArray, []⟩ w') :
    Code.wp Try.prog backR3 Q ⟨(.int .i64 n :: .int .i64 m :: .string s :: .string t :: u4 :: .int .u8 c.toNat :: u6 :: u7 :: u8 :: u9 :: u10 :: .pointer (some ⟨xb, 0, none⟩) :: u12 :: u13 :: u14 :: .slice none 0 0 :: u16 :: u17 :: u18 :: u19 :: u20 :: u21 :: u22 :: u23 :: u24 :: u25 :: u26 :: u27 :: u28 :: u29 :: u30 :: u31 :: u32 :: u33 :: u34 :: u35 :: u36 :: u37 :: u38 :: u39 :: u40 :: u41 :: u42 :: u43 :: u44 :: u45 :: u46 :: u47 :: u48 :: u49 :: u50 :: u51 :: u52 :: u53 :: u54 :: u55 :: u56 :: u57 :: u58 :: u59 :: u60 :: u61 :: u62 :: u63 :: u64 :: u65 :: u66 :: u67 :: u68 :: u69 :: u70 :: u71 :: u72 :: u73 :: u74 :: u75 :: u76 :: u77 :: u78 :: u79 :: u80 :: u81 :: u82 :: u83 :: u84 :: u85 :: u86 :: u87 :: u88 :: u89 :: u90 :: u91 :: u92 :: u93 :: u94 :: u95 :: u96 :: u97 :: u98 :: u99 :: u100 :: u101 :: u102 :: u103 :: u104 :: u105 :: u106 :: u107 :: u108 :: u109 :: u110 :: u111 :: u112 :: u113 :: u114 :: u115 :: u116 :: u117 :: u118 :: u119 :: u120 :: u121 :: u122 :: u123 :: u124 :: u125 :: u126 :: u127 :: u128 :: u129 :: u130 :: u131 :: u132 :: u133 :: u134 :: u135 :: u136 :: u137 :: u138 :: u139 :: u140 :: u141 :: u142 :: u143 :: u144 :: u145 :: u146 :: u147 :: u148 :: u149 :: u150 :: u151 :: u152 :: u153 :: u154 :: u155 :: u156 :: u157 :: u158 :: u159 :: u160 :: u161 :: u162 :: u163 :: u164 :: u165 :: u166 :: u167 :: u168 :: u169 :: u170 :: u171 :: u172 :: u173 :: u174 :: u175 :: u176 :: u177 :: u178 :: u179 :: u180 :: u181 :: u182 :: u183 :: u184 :: u185 :: u186 :: u187 :: u188 :: u189 :: u190 :: u191 :: u192 :: u193 :: u194 :: u195 :: u196 :: u197 :: u198 :: u199 :: u200 :: u201 :: u202 :: u203 :: u204 :: u205 :: u206 :: u207 :: u208 :: u209 :: u210 :: u211 :: u212 :: u213 :: u214 :: u215 :: u216 :: u217 :: u218 :: u219 :: u220 :: u221 :: u222 :: u223 :: u224 :: u225 :: u226 :: u227 :: u228 :: u229 :: []).toArray, []⟩ W := by
  have HQ := Lib.hid hQ
  have HX := Lib.hid hx
  clear hQ hx
  obtain ⟨dst, hdd⟩ : ∃ d : Nat → Nat, d = fun i => if i = 18 then 15 else 35 + i := ⟨_, rfl⟩
  obtain ⟨mk, hmk⟩ : ∃ d : Nat → Nat, d = fun j => [3, 4, 5, 7, 8, 11, 13, 14, 16, 17, 18].getD j 99 := ⟨_, rfl⟩
  obtain ⟨pv, hpv⟩ : ∃ e : Nat → Option Value, e = fun i => ([some (.slice none 0 0), some (.int .i64 n), some (.int .i64 m), none, none, none, some (.string s), none, none, some (.int .u8 c.toNat), none, none, some (.agg #[.int .i64 x, .int .i64 y]), none, none, some (.string t), none, none, none] : List (Option Value)).getD i none := ⟨_, rfl⟩
  obtain ⟨base, hbase⟩ : ∃ b : Act, b = ⟨(.int .i64 n :: .int .i64 m :: .string s :: .string t :: u4 :: .int .u8 c.toNat :: u6 :: u7 :: u8 :: u9 :: u10 :: .pointer (some ⟨xb, 0, none⟩) :: u12 :: u13 :: u14 :: .slice none 0 0 :: u16 :: u17 :: u18 :: u19 :: u20 :: u21 :: u22 :: u23 :: u24 :: u25 :: u26 :: u27 :: u28 :: u29 :: u30 :: u31 :: u32 :: u33 :: u34 :: u35 :: u36 :: u37 :: u38 :: u39 :: u40 :: u41 :: u42 :: u43 :: u44 :: u45 :: u46 :: u47 :: u48 :: u49 :: u50 :: u51 :: u52 :: u53 :: u54 :: u55 :: u56 :: u57 :: u58 :: u59 :: u60 :: u61 :: u62 :: u63 :: u64 :: u65 :: u66 :: u67 :: u68 :: u69 :: u70 :: u71 :: u72 :: u73 :: u74 :: u75 :: u76 :: u77 :: u78 :: u79 :: u80 :: u81 :: u82 :: u83 :: u84 :: u85 :: u86 :: u87 :: u88 :: u89 :: u90 :: u91 :: u92 :: u93 :: u94 :: u95 :: u96 :: u97 :: u98 :: u99 :: u100 :: u101 :: u102 :: u103 :: u104 :: u105 :: u106 :: u107 :: u108 :: u109 :: u110 :: u111 :: u112 :: u113 :: u114 :: u115 :: u116 :: u117 :: u118 :: u119 :: u120 :: u121 :: u122 :: u123 :: u124 :: u125 :: u126 :: u127 :: u128 :: u129 :: u130 :: u131 :: u132 :: u133 :: u134 :: u135 :: u136 :: u137 :: u138 :: u139 :: u140 :: u141 :: u142 :: u143 :: u144 :: u145 :: u146 :: u147 :: u148 :: u149 :: u150 :: u151 :: u152 :: u153 :: u154 :: u155 :: u156 :: u157 :: u158 :: u159 :: u160 :: u161 :: u162 :: u163 :: u164 :: u165 :: u166 :: u167 :: u168 :: u169 :: u170 :: u171 :: u172 :: u173 :: u174 :: u175 :: u176 :: u177 :: u178 :: u179 :: u180 :: u181 :: u182 :: u183 :: u184 :: u185 :: u186 :: u187 :: u188 :: u189 :: u190 :: u191 :: u192 :: u193 :: u194 :: u195 :: u196 :: u197 :: u198 :: u199 :: u200 :: u201 :: u202 :: u203 :: u204 :: u205 :: u206 :: u207 :: u208 :: u209 :: u210 :: u211 :: u212 :: u213 :: u214 :: u215 :: u216 :: u217 :: u218 :: u219 :: u220 :: u221 :: u222 :: u223 :: u224 :: u225 :: u226 :: u227 :: u228 :: u229 :: []).toArray, []⟩ := ⟨_, rfl⟩
  rw [← hbase]
  unfold backR3
  conv => arg 2; whnf
  refine Rg.region_chain 19 dst pv mk 11 10 5 (CB W n m s c x y t) (by kernel_rfl) (by kernel_rfl) rfl ?_ ?_ ?_ ?_ (by decide) ?_ ?_ (by subst hpv; rfl) ?_ ?_ ?_ ?_ ?_ ?_ ?_ ?_
  · subst hdd
    intro i j hi hj h
    simp only at h
    split at h <;> split at h <;> omega
  · subst hdd hbase
    intro i hi
    show (if i = 18 then 15 else 35 + i) < 230
    split <;> omega
  · subst hmk
    intro i j hi hj h
    rcases (by omega : i = 0 ∨ i = 1 ∨ i = 2 ∨ i = 3 ∨ i = 4 ∨ i = 5 ∨ i = 6 ∨ i = 7 ∨ i = 8 ∨ i = 9 ∨ i = 10) with rfl | rfl | rfl | rfl | rfl | rfl | rfl | rfl | rfl | rfl | rfl <;> rcases (by omega : j = 0 ∨ j = 1 ∨ j = 2 ∨ j = 3 ∨ j = 4 ∨ j = 5 ∨ j = 6 ∨ j = 7 ∨ j = 8 ∨ j = 9 ∨ j = 10) with rfl | rfl | rfl | rfl | rfl | rfl | rfl | rfl | rfl | rfl | rfl <;> first | rfl | (exfalso; revert h; decide)
  · subst hmk
    intro j hj
    rcases (by omega : j = 0 ∨ j = 1 ∨ j = 2 ∨ j = 3 ∨ j = 4 ∨ j = 5 ∨ j = 6 ∨ j = 7 ∨ j = 8 ∨ j = 9 ∨ j = 10) with rfl | rfl | rfl | rfl | rfl | rfl | rfl | rfl | rfl | rfl | rfl <;> decide
  · subst hmk
    intro j hj
    rcases (by omega : j = 0 ∨ j = 1 ∨ j = 2 ∨ j = 3 ∨ j = 4 ∨ j = 5 ∨ j = 6 ∨ j = 7 ∨ j = 8 ∨ j = 9 ∨ j = 10) with rfl | rfl | rfl | rfl | rfl | rfl | rfl | rfl | rfl | rfl | rfl <;> decide
  · subst hmk hpv
    intro j hj
    rcases (by omega : j = 0 ∨ j = 1 ∨ j = 2 ∨ j = 3 ∨ j = 4 ∨ j = 5 ∨ j = 6 ∨ j = 7 ∨ j = 8 ∨ j = 9 ∨ j = 10) with rfl | rfl | rfl | rfl | rfl | rfl | rfl | rfl | rfl | rfl | rfl <;> rfl
  · subst hmk
    intro j o hj ho
    rcases (by omega : j = 0 ∨ j = 1 ∨ j = 2 ∨ j = 3 ∨ j = 4 ∨ j = 5 ∨ j = 6 ∨ j = 7 ∨ j = 8 ∨ j = 9) with rfl | rfl | rfl | rfl | rfl | rfl | rfl | rfl | rfl | rfl
    · obtain rfl := Option.some.inj ho
      exact ⟨⟨3, .data⟩, by simp, rfl, rfl⟩
    · obtain rfl := Option.some.inj ho
      exact ⟨⟨4, .data⟩, by simp, rfl, rfl⟩
    · obtain rfl := Option.some.inj ho
      exact ⟨⟨5, .chain⟩, by simp, rfl, rfl⟩
    · obtain rfl := Option.some.inj ho
      exact ⟨⟨7, .data⟩, by simp, rfl, rfl⟩
    · obtain rfl := Option.some.inj ho
      exact ⟨⟨8, .data⟩, by simp, rfl, rfl⟩
    · obtain rfl := Option.some.inj ho
      exact ⟨⟨11, .chain⟩, by simp, rfl, rfl⟩
    · obtain rfl := Option.some.inj ho
      exact ⟨⟨13, .data⟩, by simp, rfl, rfl⟩
    · obtain rfl := Option.some.inj ho
      exact ⟨⟨14, .chain⟩, by simp, rfl, rfl⟩
    · obtain rfl := Option.some.inj ho
      exact ⟨⟨16, .data⟩, by simp, rfl, rfl⟩
    · obtain rfl := Option.some.inj ho
      exact ⟨⟨17, .data⟩, by simp, rfl, rfl⟩
  · subst hmk
    intro o _ ho
    obtain rfl := Option.some.inj ho
    exact ⟨⟨10, .data⟩, by simp, rfl, rfl⟩
  · intro v
    exact ⟨(Below.refl _ _).drew, (fun h => by cases h), trivial⟩
  · subst hmk
    intro k b v v' z h1 h2 ⟨hb, hl, hm⟩
    refine ⟨hb, fun e hk => by rw [h2 e]; exact hl e hk, ?_⟩
    rcases k with _ | _ | _ | _ | _ | _ | _ | _ | _ | _ | _ | k
    · trivial
    · have e3 : v' 3 = v 3 := h1 0 (by omega)
      simp only [BM, e3] at hm ⊢
      exact hm
    · have e4 : v' 4 = v 4 := h1 1 (by omega)
      simp only [BM, e4] at hm ⊢
      exact hm
    · have e5 : v' 5 = v 5 := h1 2 (by omega)
      simp only [BM, e5] at hm ⊢
      exact hm
    · have e5 : v' 5 = v 5 := h1 2 (by omega)
      have e7 : v' 7 = v 7 := h1 3 (by omega)
      simp only [BM, e5, e7] at hm ⊢
      exact hm
    · have e8 : v' 8 = v 8 := h1 4 (by omega)
      simp only [BM, e8] at hm ⊢
      exact hm
    · have e11 : v' 11 = v 11 := h1 5 (by omega)
      simp only [BM, e11] at hm ⊢
      exact hm
    · have e11 : v' 11 = v 11 := h1 5 (by omega)
      have e13 : v' 13 = v 13 := h1 6 (by omega)
      simp only [BM, e11, e13] at hm ⊢
      exact hm
    · have e14 : v' 14 = v 14 := h1 7 (by omega)
      simp only [BM, e14] at hm ⊢
      exact hm
    · have e14 : v' 14 = v 14 := h1 7 (by omega)
      have e16 : v' 16 = v 16 := h1 8 (by omega)
      simp only [BM, e14, e16] at hm ⊢
      exact hm
    · have e17 : v' 17 = v 17 := h1 9 (by omega)
      simp only [BM, e17] at hm ⊢
      exact hm
    · have e18 : v' 18 = v 18 := h1 10 (by omega)
      simp only [BM, e18] at hm ⊢
      exact hm
  · subst hdd hmk hpv hbase
    intro i o hi ho hnm hnq
    rcases (by omega : i = 0 ∨ i = 1 ∨ i = 2 ∨ i = 3 ∨ i = 4 ∨ i = 5 ∨ i = 6 ∨ i = 7 ∨ i = 8 ∨ i = 9 ∨ i = 10 ∨ i = 11 ∨ i = 12 ∨ i = 13 ∨ i = 14 ∨ i = 15 ∨ i = 16 ∨ i = 17 ∨ i = 18) with rfl | rfl | rfl | rfl | rfl | rfl | rfl | rfl | rfl | rfl | rfl | rfl | rfl | rfl | rfl | rfl | rfl | rfl | rfl
    · obtain rfl := Option.some.inj ho
      refine ⟨_, rfl, fun k b val z a hc seen K hK => ?_⟩
      have e0 : a.eval (.tmp 15) = .slice none 0 0 := seen.kq 18 _ _ (by decide) rfl ⟨⟨0, .phase⟩, by simp, rfl, rfl⟩ rfl
      exact Rg.op_value_w rfl (Rg.wanted_none rfl) (by simp [execOp, e0]) hK
    · obtain rfl := Option.some.inj ho
      refine ⟨_, rfl, fun k b val z a hc seen K hK => ?_⟩
      have e0 : a.eval (.tmp 0) = .int .i64 n := seen.kp 0 _ (fun i hi => by show (if i = 18 then 15 else 35 + i) ≠ 0; split <;> omega) rfl
      exact Rg.op_value_w rfl (Rg.wanted_none rfl) (by simp [execOp, e0]) hK
    · obtain rfl := Option.some.inj ho
      refine ⟨_, rfl, fun k b val z a hc seen K hK => ?_⟩
      have e0 : a.eval (.tmp 1) = .int .i64 m := seen.kp 1 _ (fun i hi => by show (if i = 18 then 15 else 35 + i) ≠ 1; split <;> omega) rfl
      exact Rg.op_value_w rfl (Rg.wanted_none rfl) (by simp [execOp, e0]) hK
    · exact absurd rfl (hnm 0 (by decide))
    · exact absurd rfl (hnm 1 (by decide))
    · exact absurd rfl (hnm 2 (by decide))
    · obtain rfl := Option.some.inj ho
      refine ⟨_, rfl, fun k b val z a hc seen K hK => ?_⟩
      have e0 : a.eval (.tmp 2) = .string s := seen.kp 2 _ (fun i hi => by show (if i = 18 then 15 else 35 + i) ≠ 2; split <;> omega) rfl
      exact Rg.op_value_w rfl (Rg.wanted_none rfl) (by simp [execOp, e0]) hK
    · exact absurd rfl (hnm 3 (by decide))
    · exact absurd rfl (hnm 4 (by decide))
    · obtain rfl := Option.some.inj ho
      refine ⟨_, rfl, fun k b val z a hc seen K hK => ?_⟩
      have e0 : a.eval (.tmp 5) = .int .u8 c.toNat := seen.kp 5 _ (fun i hi => by show (if i = 18 then 15 else 35 + i) ≠ 5; split <;> omega) rfl
      exact Rg.op_value_w rfl (Rg.wanted_none rfl) (by simp [execOp, e0]) hK
    · exact absurd rfl hnq
    · exact absurd rfl (hnm 5 (by decide))
    · obtain rfl := Option.some.inj ho
      refine ⟨_, rfl, fun k b val z a hc seen K hK => ?_⟩
      have e0 : a.eval (.tmp 11) = .pointer (some ⟨xb, 0, none⟩) := seen.kp 11 _ (fun i hi => by show (if i = 18 then 15 else 35 + i) ≠ 11; split <;> omega) rfl
      have X := HX.out.on hc.1
      have x0 := X.cell 0
      have x1 := X.cell 1
      simp at x0 x1
      exact Rg.op_value_w rfl (Rg.wanted_none rfl) (Rg.ex_load a.eval _ 31 (.tmp 11) rfl (by rw [e0]; simp [go_sem, x0, x1])) hK
    · exact absurd rfl (hnm 6 (by decide))
    · exact absurd rfl (hnm 7 (by decide))
    · obtain rfl := Option.some.inj ho
      refine ⟨_, rfl, fun k b val z a hc seen K hK => ?_⟩
      have e0 : a.eval (.tmp 3) = .string t := seen.kp 3 _ (fun i hi => by show (if i = 18 then 15 else 35 + i) ≠ 3; split <;> omega) rfl
      exact Rg.op_value_w rfl (Rg.wanted_none rfl) (by simp [execOp, e0]) hK
    · exact absurd rfl (hnm 8 (by decide))
    · exact absurd rfl (hnm 9 (by decide))
    · exact absurd rfl (hnm 10 (by decide))
  · subst hdd hmk hpv hbase
    intro j o b val z a hj ho ⟨hb, hl, hm⟩ hcb seen K hK
    rcases (by omega : j = 0 ∨ j = 1 ∨ j = 2 ∨ j = 3 ∨ j = 4 ∨ j = 5 ∨ j = 6 ∨ j = 7 ∨ j = 8 ∨ j = 9 ∨ j = 10) with rfl | rfl | rfl | rfl | rfl | rfl | rfl | rfl | rfl | rfl | rfl
    · obtain rfl := Option.some.inj ho
      have e1 : a.eval (.tmp 36) = .int .i64 n := seen.pl ⟨1, .data⟩ (by simp) rfl _ rfl
      have e2 : a.eval (.tmp 37) = .int .i64 m := seen.pl ⟨2, .data⟩ (by simp) rfl _ rfl
      have hz := (new_below z (.cells #[.int .i64 n, .int .i64 m] 3))
      refine Rg.op_value_w rfl (Rg.wanted_none rfl) (Rg.ex_build a.eval _ 39 2 #[(0, .tmp 36), (1, .tmp 37)] rfl (by simp only [List.map_toArray, List.map_cons, List.map_nil, e1, e2]) (lit_ints z n m)) (hK _ _ ⟨hb.alloc hb.size _, fun e _ => (show LitAt (Rg.upd val 3 _ 10) c _ by rw [Rg.upd_other _ _ (by decide)]; exact (hl e (by omega)).on hz), ?_⟩)
      show RowI _ (Rg.upd val 3 _ 3) [n, m]
      rw [Rg.upd_same]
      exact Row.of_own (litI z [n, m] 2 #[.int .i64 n, .int .i64 m] rfl (by simp) rfl)
    · obtain rfl := Option.some.inj ho
      have e1 : a.eval (.tmp 38) = val 3 := seen.at_ ⟨3, .data⟩ (by simp) rfl
      have C1 := number_any (val 3) [n, m] z hm (by simp)
      refine Rg.op_call_w rfl (Rg.wanted_none rfl) (ex_call1 _ _ (.tmp 38) 39 11 rfl e1 rfl _ (call_number _ _)) C1 ?_
      rintro e z1 ⟨⟨v1, rfl, ho1⟩, hz⟩
      refine ⟨v1, rfl, hK _ _ ⟨hb.trans (hz.mono hb.size), fun e _ => (show LitAt (Rg.upd val 4 _ 10) c _ by rw [Rg.upd_other _ _ (by decide)]; exact (hl e (by omega)).on hz), ?_⟩⟩
      show RowB _ (Rg.upd val 4 _ 4) _
      rw [Rg.upd_same]
      have h := Row.of_own ho1
      rwa [show numsB [n, m] = bl0 n m by unfold bl0 numsB; simp] at h
    · obtain rfl := Option.some.inj ho
      have e1 : a.eval (.tmp 35) = .slice none 0 0 := seen.pl ⟨0, .data⟩ (by simp) rfl _ rfl
      have e2 : a.eval (.tmp 39) = val 4 := seen.at_ ⟨4, .data⟩ (by simp) rfl
      obtain ⟨v1, z1, r, ho1, hg, hb1⟩ := app_next hb (own_nil z W.heap.size) hm (by simp) (by rw [bl0_len]; omega)
      refine Rg.op_value_w rfl (Rg.wanted_none rfl) (Rg.ex_append a.eval _ (.tmp 35) (.tmp 39) 24 rfl e1 e2 r) (hK _ _ ⟨hb1, fun e _ => (show LitAt (Rg.upd val 5 _ 10) c _ by rw [Rg.upd_other _ _ (by decide)]; exact (hl e (by omega)).on (below_none hg)), ?_⟩)
      show OwnB _ _ (Rg.upd val 5 _ 5) _
      rw [Rg.upd_same]
      simpa using ho1
    · obtain rfl := Option.some.inj ho
      have e1 : a.eval (.tmp 41) = .string s := seen.pl ⟨6, .data⟩ (by simp) rfl _ rfl
      have C1 := text_any s z
      refine Rg.op_call_w rfl (Rg.wanted_none rfl) (ex_call1 _ _ (.tmp 41) 9 12 rfl e1 rfl _ (call_text _ _)) C1 ?_
      rintro e z1 ⟨⟨v1, rfl, ho1⟩, hz⟩
      refine ⟨v1, rfl, hK _ _ ⟨hb.trans (hz.mono hb.size), fun e _ => (show LitAt (Rg.upd val 7 _ 10) c _ by rw [Rg.upd_other _ _ (by decide)]; exact (hl e (by omega)).on hz), ?_⟩⟩
      show OwnB _ _ (Rg.upd val 7 _ 5) _ ∧ RowB _ (Rg.upd val 7 _ 7) _
      rw [Rg.upd_other _ _ (by decide), Rg.upd_same]
      exact ⟨own_on hm hz, Row.of_own ho1⟩
    · obtain rfl := Option.some.inj ho
      have e1 : a.eval (.tmp 40) = val 5 := seen.at_ ⟨5, .data⟩ (by simp) rfl
      have e2 : a.eval (.tmp 42) = val 7 := seen.at_ ⟨7, .data⟩ (by simp) rfl
      obtain ⟨v1, z1, r, ho1, hg, hb1⟩ := app_next hb hm.1 hm.2 (by rw [bl0_len]; omega) (by rw [textB_len s (by omega)]; omega)
      refine Rg.op_value_w rfl (Rg.wanted_none rfl) (Rg.ex_append a.eval _ (.tmp 40) (.tmp 42) 24 rfl e1 e2 r) (hK _ _ ⟨hb1, fun e _ => (show LitAt (Rg.upd val 8 _ 10) c _ by rw [Rg.upd_other _ _ (by decide)]; exact (hl e (by omega)).app hm.1 (by rw [bl0_len]; omega) hg), ?_⟩)
      show OwnB _ _ (Rg.upd val 8 _ 8) _
      rw [Rg.upd_same]
      exact ho1
    · obtain rfl := Option.some.inj ho
      have e1 : a.eval (.tmp 43) = val 8 := seen.at_ ⟨8, .data⟩ (by simp) rfl
      have e2 : a.eval (.tmp 45) = val 10 := seen.at_ ⟨10, .data⟩ (by simp) rfl
      have HL := hl (hcb (by omega)) (by omega)
      obtain ⟨v1, z1, r, ho1, hg, hb1⟩ := app_next hb hm HL.row (by rw [bl1_len n m s (by omega)]; omega) (by simp)
      refine Rg.op_value_w rfl (Rg.wanted_none rfl) (Rg.ex_append a.eval _ (.tmp 43) (.tmp 45) 24 rfl e1 e2 r) (hK _ _ ⟨hb1, fun _ he => absurd he (by omega), ?_⟩)
      show OwnB _ _ (Rg.upd val 11 _ 11) _
      rw [Rg.upd_same]
      exact ho1
    · obtain rfl := Option.some.inj ho
      have e1 : a.eval (.tmp 47) = .agg #[.int .i64 x, .int .i64 y] := seen.pl ⟨12, .data⟩ (by simp) rfl _ rfl
      have C1 := id_any x y z
      refine Rg.op_call_w rfl (Rg.wanted_none rfl) (ex_call1 _ _ (.tmp 47) 31 15 rfl e1 rfl _ (call_id _ _)) C1 ?_
      rintro e z1 ⟨⟨v1, rfl, ho1⟩, hz⟩
      refine ⟨v1, rfl, hK _ _ ⟨hb.trans (hz.mono hb.size), fun _ he => absurd he (by omega), ?_⟩⟩
      show OwnB _ _ (Rg.upd val 13 _ 11) _ ∧ RowB _ (Rg.upd val 13 _ 13) _
      rw [Rg.upd_other _ _ (by decide), Rg.upd_same]
      exact ⟨own_on hm hz, Row.of_own ho1⟩
    · obtain rfl := Option.some.inj ho
      have e1 : a.eval (.tmp 46) = val 11 := seen.at_ ⟨11, .data⟩ (by simp) rfl
      have e2 : a.eval (.tmp 48) = val 13 := seen.at_ ⟨13, .data⟩ (by simp) rfl
      obtain ⟨v1, z1, r, ho1, hg, hb1⟩ := app_next hb hm.1 hm.2 (by rw [bl2_len n m s c (by omega)]; omega) (by rw [List.length_append, numB_len, numB_len]; omega)
      refine Rg.op_value_w rfl (Rg.wanted_none rfl) (Rg.ex_append a.eval _ (.tmp 46) (.tmp 48) 24 rfl e1 e2 r) (hK _ _ ⟨hb1, fun _ he => absurd he (by omega), ?_⟩)
      show OwnB _ _ (Rg.upd val 14 _ 14) _
      rw [Rg.upd_same]
      exact ho1
    · obtain rfl := Option.some.inj ho
      have e1 : a.eval (.tmp 50) = .string t := seen.pl ⟨15, .data⟩ (by simp) rfl _ rfl
      have C1 := text_any t z
      refine Rg.op_call_w rfl (Rg.wanted_none rfl) (ex_call1 _ _ (.tmp 50) 9 12 rfl e1 rfl _ (call_text _ _)) C1 ?_
      rintro e z1 ⟨⟨v1, rfl, ho1⟩, hz⟩
      refine ⟨v1, rfl, hK _ _ ⟨hb.trans (hz.mono hb.size), fun _ he => absurd he (by omega), ?_⟩⟩
      show OwnB _ _ (Rg.upd val 16 _ 14) _ ∧ RowB _ (Rg.upd val 16 _ 16) _
      rw [Rg.upd_other _ _ (by decide), Rg.upd_same]
      exact ⟨own_on hm hz, Row.of_own ho1⟩
    · obtain rfl := Option.some.inj ho
      have e1 : a.eval (.tmp 49) = val 14 := seen.at_ ⟨14, .data⟩ (by simp) rfl
      have e2 : a.eval (.tmp 51) = val 16 := seen.at_ ⟨16, .data⟩ (by simp) rfl
      obtain ⟨v1, z1, r, ho1, hg, hb1⟩ := app_next hb hm.1 hm.2 (by rw [bl3_len n m s c x y (by omega)]; omega) (by rw [textB_len t (by omega)]; omega)
      refine Rg.op_value_w rfl (Rg.wanted_none rfl) (Rg.ex_append a.eval _ (.tmp 49) (.tmp 51) 24 rfl e1 e2 r) (hK _ _ ⟨hb1, fun _ he => absurd he (by omega), ?_⟩)
      show OwnB _ _ (Rg.upd val 17 _ 17) _
      rw [Rg.upd_same]
      exact ho1
    · obtain rfl := Option.some.inj ho
      have e1 : a.eval (.tmp 52) = val 17 := seen.at_ ⟨17, .data⟩ (by simp) rfl
      refine Rg.op_value_w rfl (Rg.wanted_none rfl) (Rg.ex_assign a.eval _ (.tmp 52) rfl _) (hK _ _ ⟨hb, fun _ he => absurd he (by omega), ?_⟩)
      show OwnB _ _ (Rg.upd val 18 _ 18) _
      rw [Rg.upd_same, e1]
      exact hm
  · subst hdd hpv hbase
    intro o k val z a hk ho ⟨hb, hl, hm⟩ seen K hK
    obtain rfl := Option.some.inj ho
    have e0 : a.eval (.tmp 44) = .int .u8 c.toNat := seen.pl ⟨9, .data⟩ (by simp) rfl _ rfl
    have hz := new_below z (.cells #[.int .u8 c.toNat] 5)
    refine Rg.op_value_w rfl (Rg.wanted_none rfl) (Rg.ex_build a.eval _ 24 1 #[(0, .tmp 44)] rfl (by simp only [List.map_toArray, List.map_cons, List.map_nil, e0]) (lit_byte z c)) (hK _ _ ⟨hb.alloc hb.size _, fun _ _ => ?_, ?_⟩)
    · rw [Rg.upd_same]
      exact ⟨z.heap.size, rfl, box_new z _ _⟩
    · rcases (by omega : k = 0 ∨ k = 1 ∨ k = 2 ∨ k = 3 ∨ k = 4 ∨ k = 5) with rfl | rfl | rfl | rfl | rfl | rfl
      · trivial
      · simp only [BM, Rg.upd, show (3 : Nat) ≠ 10 by decide, if_false]
        exact hm.on hz
      · simp only [BM, Rg.upd, show (4 : Nat) ≠ 10 by decide, if_false]
        exact hm.on hz
      · simp only [BM, Rg.upd, show (5 : Nat) ≠ 10 by decide, if_false]
        exact own_on hm hz
      · simp only [BM, Rg.upd, show (5 : Nat) ≠ 10 by decide, show (7 : Nat) ≠ 10 by decide, if_false]
        exact ⟨own_on hm.1 hz, hm.2.on hz⟩
      · simp only [BM, Rg.upd, show (8 : Nat) ≠ 10 by decide, if_false]
        exact own_on hm hz
  · subst hdd hbase
    intro a b val z ⟨hb, _, hm⟩ hd hsz hk hv
    have hk2 : ∀ j, (j < 35 ∨ 35 + 18 ≤ j) → a.tmps[j]? = (.int .i64 n :: .int .i64 m :: .string s :: .string t :: u4 :: .int .u8 c.toNat :: u6 :: u7 :: u8 :: u9 :: u10 :: .pointer (some ⟨xb, 0, none⟩) :: u12 :: u13 :: u14 :: val 18 :: u16 :: u17 :: u18 :: u19 :: u20 :: u21 :: u22 :: u23 :: u24 :: u25 :: u26 :: u27 :: u28 :: u29 :: u30 :: u31 :: u32 :: u33 :: u34 :: u35 :: u36 :: u37 :: u38 :: u39 :: u40 :: u41 :: u42 :: u43 :: u44 :: u45 :: u46 :: u47 :: u48 :: u49 :: u50 :: u51 :: u52 :: u53 :: u54 :: u55 :: u56 :: u57 :: u58 :: u59 :: u60 :: u61 :: u62 :: u63 :: u64 :: u65 :: u66 :: u67 :: u68 :: u69 :: u70 :: u71 :: u72 :: u73 :: u74 :: u75 :: u76 :: u77 :: u78 :: u79 :: u80 :: u81 :: u82 :: u83 :: u84 :: u85 :: u86 :: u87 :: u88 :: u89 :: u90 :: u91 :: u92 :: u93 :: u94 :: u95 :: u96 :: u97 :: u98 :: u99 :: u100 :: u101 :: u102 :: u103 :: u104 :: u105 :: u106 :: u107 :: u108 :: u109 :: u110 :: u111 :: u112 :: u113 :: u114 :: u115 :: u116 :: u117 :: u118 :: u119 :: u120 :: u121 :: u122 :: u123 :: u124 :: u125 :: u126 :: u127 :: u128 :: u129 :: u130 :: u131 :: u132 :: u133 :: u134 :: u135 :: u136 :: u137 :: u138 :: u139 :: u140 :: u141 :: u142 :: u143 :: u144 :: u145 :: u146 :: u147 :: u148 :: u149 :: u150 :: u151 :: u152 :: u153 :: u154 :: u155 :: u156 :: u157 :: u158 :: u159 :: u160 :: u161 :: u162 :: u163 :: u164 :: u165 :: u166 :: u167 :: u168 :: u169 :: u170 :: u171 :: u172 :: u173 :: u174 :: u175 :: u176 :: u177 :: u178 :: u179 :: u180 :: u181 :: u182 :: u183 :: u184 :: u185 :: u186 :: u187 :: u188 :: u189 :: u190 :: u191 :: u192 :: u193 :: u194 :: u195 :: u196 :: u197 :: u198 :: u199 :: u200 :: u201 :: u202 :: u203 :: u204 :: u205 :: u206 :: u207 :: u208 :: u209 :: u210 :: u211 :: u212 :: u213 :: u214 :: u215 :: u216 :: u217 :: u218 :: u219 :: u220 :: u221 :: u222 :: u223 :: u224 :: u225 :: u226 :: u227 :: u228 :: u229 :: [])[j]? := fun j hj => by
      by_cases e : j = 15
      · subst e
        exact hv 18 (by decide)
      · have h1 := (hk j fun i hi => by show (if i = 18 then 15 else 35 + i) ≠ j; split <;> omega).trans List.getElem?_toArray
        rw [h1, show (.int .i64 n :: .int .i64 m :: .string s :: .string t :: u4 :: .int .u8 c.toNat :: u6 :: u7 :: u8 :: u9 :: u10 :: .pointer (some ⟨xb, 0, none⟩) :: u12 :: u13 :: u14 :: val 18 :: u16 :: u17 :: u18 :: u19 :: u20 :: u21 :: u22 :: u23 :: u24 :: u25 :: u26 :: u27 :: u28 :: u29 :: u30 :: u31 :: u32 :: u33 :: u34 :: u35 :: u36 :: u37 :: u38 :: u39 :: u40 :: u41 :: u42 :: u43 :: u44 :: u45 :: u46 :: u47 :: u48 :: u49 :: u50 :: u51 :: u52 :: u53 :: u54 :: u55 :: u56 :: u57 :: u58 :: u59 :: u60 :: u61 :: u62 :: u63 :: u64 :: u65 :: u66 :: u67 :: u68 :: u69 :: u70 :: u71 :: u72 :: u73 :: u74 :: u75 :: u76 :: u77 :: u78 :: u79 :: u80 :: u81 :: u82 :: u83 :: u84 :: u85 :: u86 :: u87 :: u88 :: u89 :: u90 :: u91 :: u92 :: u93 :: u94 :: u95 :: u96 :: u97 :: u98 :: u99 :: u100 :: u101 :: u102 :: u103 :: u104 :: u105 :: u106 :: u107 :: u108 :: u109 :: u110 :: u111 :: u112 :: u113 :: u114 :: u115 :: u116 :: u117 :: u118 :: u119 :: u120 :: u121 :: u122 :: u123 :: u124 :: u125 :: u126 :: u127 :: u128 :: u129 :: u130 :: u131 :: u132 :: u133 :: u134 :: u135 :: u136 :: u137 :: u138 :: u139 :: u140 :: u141 :: u142 :: u143 :: u144 :: u145 :: u146 :: u147 :: u148 :: u149 :: u150 :: u151 :: u152 :: u153 :: u154 :: u155 :: u156 :: u157 :: u158 :: u159 :: u160 :: u161 :: u162 :: u163 :: u164 :: u165 :: u166 :: u167 :: u168 :: u169 :: u170 :: u171 :: u172 :: u173 :: u174 :: u175 :: u176 :: u177 :: u178 :: u179 :: u180 :: u181 :: u182 :: u183 :: u184 :: u185 :: u186 :: u187 :: u188 :: u189 :: u190 :: u191 :: u192 :: u193 :: u194 :: u195 :: u196 :: u197 :: u198 :: u199 :: u200 :: u201 :: u202 :: u203 :: u204 :: u205 :: u206 :: u207 :: u208 :: u209 :: u210 :: u211 :: u212 :: u213 :: u214 :: u215 :: u216 :: u217 :: u218 :: u219 :: u220 :: u221 :: u222 :: u223 :: u224 :: u225 :: u226 :: u227 :: u228 :: u229 :: []) = (.int .i64 n :: .int .i64 m :: .string s :: .string t :: u4 :: .int .u8 c.toNat :: u6 :: u7 :: u8 :: u9 :: u10 :: .pointer (some ⟨xb, 0, none⟩) :: u12 :: u13 :: u14 :: .slice none 0 0 :: u16 :: u17 :: u18 :: u19 :: u20 :: u21 :: u22 :: u23 :: u24 :: u25 :: u26 :: u27 :: u28 :: u29 :: u30 :: u31 :: u32 :: u33 :: u34 :: u35 :: u36 :: u37 :: u38 :: u39 :: u40 :: u41 :: u42 :: u43 :: u44 :: u45 :: u46 :: u47 :: u48 :: u49 :: u50 :: u51 :: u52 :: u53 :: u54 :: u55 :: u56 :: u57 :: u58 :: u59 :: u60 :: u61 :: u62 :: u63 :: u64 :: u65 :: u66 :: u67 :: u68 :: u69 :: u70 :: u71 :: u72 :: u73 :: u74 :: u75 :: u76 :: u77 :: u78 :: u79 :: u80 :: u81 :: u82 :: u83 :: u84 :: u85 :: u86 :: u87 :: u88 :: u89 :: u90 :: u91 :: u92 :: u93 :: u94 :: u95 :: u96 :: u97 :: u98 :: u99 :: u100 :: u101 :: u102 :: u103 :: u104 :: u105 :: u106 :: u107 :: u108 :: u109 :: u110 :: u111 :: u112 :: u113 :: u114 :: u115 :: u116 :: u117 :: u118 :: u119 :: u120 :: u121 :: u122 :: u123 :: u124 :: u125 :: u126 :: u127 :: u128 :: u129 :: u130 :: u131 :: u132 :: u133 :: u134 :: u135 :: u136 :: u137 :: u138 :: u139 :: u140 :: u141 :: u142 :: u143 :: u144 :: u145 :: u146 :: u147 :: u148 :: u149 :: u150 :: u151 :: u152 :: u153 :: u154 :: u155 :: u156 :: u157 :: u158 :: u159 :: u160 :: u161 :: u162 :: u163 :: u164 :: u165 :: u166 :: u167 :: u168 :: u169 :: u170 :: u171 :: u172 :: u173 :: u174 :: u175 :: u176 :: u177 :: u178 :: u179 :: u180 :: u181 :: u182 :: u183 :: u184 :: u185 :: u186 :: u187 :: u188 :: u189 :: u190 :: u191 :: u192 :: u193 :: u194 :: u195 :: u196 :: u197 :: u198 :: u199 :: u200 :: u201 :: u202 :: u203 :: u204 :: u205 :: u206 :: u207 :: u208 :: u209 :: u210 :: u211 :: u212 :: u213 :: u214 :: u215 :: u216 :: u217 :: u218 :: u219 :: u220 :: u221 :: u222 :: u223 :: u224 :: u225 :: u226 :: u227 :: u228 :: u229 :: []).set 15 (val 18) from rfl, List.getElem?_set_ne (fun e2 => e e2.symm)]
    obtain ⟨mid, hmid, rfl⟩ := Rg.frame_mid (bl := (.int .i64 n :: .int .i64 m :: .string s :: .string t :: u4 :: .int .u8 c.toNat :: u6 :: u7 :: u8 :: u9 :: u10 :: .pointer (some ⟨xb, 0, none⟩) :: u12 :: u13 :: u14 :: val 18 :: u16 :: u17 :: u18 :: u19 :: u20 :: u21 :: u22 :: u23 :: u24 :: u25 :: u26 :: u27 :: u28 :: u29 :: u30 :: u31 :: u32 :: u33 :: u34 :: u35 :: u36 :: u37 :: u38 :: u39 :: u40 :: u41 :: u42 :: u43 :: u44 :: u45 :: u46 :: u47 :: u48 :: u49 :: u50 :: u51 :: u52 :: u53 :: u54 :: u55 :: u56 :: u57 :: u58 :: u59 :: u60 :: u61 :: u62 :: u63 :: u64 :: u65 :: u66 :: u67 :: u68 :: u69 :: u70 :: u71 :: u72 :: u73 :: u74 :: u75 :: u76 :: u77 :: u78 :: u79 :: u80 :: u81 :: u82 :: u83 :: u84 :: u85 :: u86 :: u87 :: u88 :: u89 :: u90 :: u91 :: u92 :: u93 :: u94 :: u95 :: u96 :: u97 :: u98 :: u99 :: u100 :: u101 :: u102 :: u103 :: u104 :: u105 :: u106 :: u107 :: u108 :: u109 :: u110 :: u111 :: u112 :: u113 :: u114 :: u115 :: u116 :: u117 :: u118 :: u119 :: u120 :: u121 :: u122 :: u123 :: u124 :: u125 :: u126 :: u127 :: u128 :: u129 :: u130 :: u131 :: u132 :: u133 :: u134 :: u135 :: u136 :: u137 :: u138 :: u139 :: u140 :: u141 :: u142 :: u143 :: u144 :: u145 :: u146 :: u147 :: u148 :: u149 :: u150 :: u151 :: u152 :: u153 :: u154 :: u155 :: u156 :: u157 :: u158 :: u159 :: u160 :: u161 :: u162 :: u163 :: u164 :: u165 :: u166 :: u167 :: u168 :: u169 :: u170 :: u171 :: u172 :: u173 :: u174 :: u175 :: u176 :: u177 :: u178 :: u179 :: u180 :: u181 :: u182 :: u183 :: u184 :: u185 :: u186 :: u187 :: u188 :: u189 :: u190 :: u191 :: u192 :: u193 :: u194 :: u195 :: u196 :: u197 :: u198 :: u199 :: u200 :: u201 :: u202 :: u203 :: u204 :: u205 :: u206 :: u207 :: u208 :: u209 :: u210 :: u211 :: u212 :: u213 :: u214 :: u215 :: u216 :: u217 :: u218 :: u219 :: u220 :: u221 :: u222 :: u223 :: u224 :: u225 :: u226 :: u227 :: u228 :: u229 :: [])) 35 18 hd hsz (by show 35 + 18 ≤ 230; decide) hk2
    match mid, hmid with
    | v35 :: v36 :: v37 :: v38 :: v39 :: v40 :: v41 :: v42 :: v43 :: v44 :: v45 :: v46 :: v47 :: v48 :: v49 :: v50 :: v51 :: v52 :: [], _ => exact HQ.out z (val 18) v35 v36 v37 v38 v39 v40 v41 v42 v43 v44 v45 v46 v47 v48 v49 v50 v51 v52 hm hb
end Go.Proofs.Ytobdddggdfcdlaa.Nm
