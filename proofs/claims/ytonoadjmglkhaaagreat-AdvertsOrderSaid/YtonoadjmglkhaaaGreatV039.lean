/-
  Chapter 9's runs: AdvertsRuns. No condition.
  AdvertsOrder's end: the check that the rows rise, and the last one. Conditions as each theorem states them.
  A region that draws its order, in which one value is stored into a variable that was there before; some operations may come behind the store. Of each other value something is known till its last use, which holds on as memory grows. No condition beyond what the theorem states.
-/
import Derived.Test.YtonoadjmglkhaaaGreatV021
import Derived.Test.YtonoadjmglkhaaaGreatV028
import Derived.Test.YtonoadjmglkhaaaGreatV031
import Derived.Test.YtonoadjmglkhaaaGreatV035
import Derived.Test.YtonoadjmglkhaaaGreatV022
import Derived.Test.YtonoadjmglkhaaaGreatV036
import Derived.Test.YtonoadjmglkhaaaGreatV038
import Derived.Test.YtonoadjmglkhaaaGreatV005
import Derived.Test.YtonoadjmglkhaaaGreatV014
namespace Go.Proofs.YtonoadjmglkhaaaGreat.Av
open Go.RowKit Go.Sort Go.Proofs.YtonoadjmglkhaaaGreat Go.Proofs.YtonoadjmglkhaaaGreat.Rw Go.Proofs.YtonoadjmglkhaaaGreat.Nm Go.Proofs.YtonoadjmglkhaaaGreat.Pr Go.Proofs.YtonoadjmglkhaaaGreat.Bk

theorem run_again : learnB runB ⟨(1, 0), [], 2⟩ = (runB, false) := rfl
theorem run_far : forgetF runB (1, 0) 3 = (runB, false) := rfl
theorem run_ok : okBr runB = true := by decide
theorem runB_few : Few runB := ⟨by simp, by simp, by simp, by simp, by simp⟩
theorem runB_fewp : FewP runB := ⟨by simp, by simp, by simp⟩
theorem runB_tame : TameB runB := ⟨by simp [Tame], by simp, by simp⟩
set_option maxRecDepth 100000 in
set_option maxHeartbeats 16000000 in
theorem runs_any (w : World) : Calls Tryz.prog 19 #[] w fun e w' => e = .returned (.bool true) ∧ Below w.heap.size w w' := by
  have n0 := newB w (.cells #[.int .i64 1, .int .i64 0, .slice none 0 0, .int .i64 2] 42)
  have X := Lib.hid (box_new w #[.int .i64 1, .int .i64 0, .slice none 0 0, .int .i64 2] 42)
  have B0 := Lib.hid n0
  clear n0
  go_enter Tryz.func19, Tryz.ntmps19
  go_upto_region 2 with fail
  generalize w.alloc (.cells #[.int .i64 1, .int .i64 0, .slice none 0 0, .int .i64 2] 42) = W at *
  refine run2 _ W w.heap.size _ _ _ _ _ _ _ _ _ _ _ _ _ _ _ _ _ _ _ _ _ _ _ _ _ _ _ _ _ _ _ _ _ _ _ _ _ _ _ _ _ _ _ _ _ _ _ _ _ _ _ _ _ _ X.out ?_
  intro x bb v4 v5 v6 v7 v8 v9 v10 v11 v12 v13 v14 v15 v16 m1 m2 m3 m4 m5 m6 m7 m8 m9 m10 m11 m12 m13 m14 m15 hbb hbox hbr hbel
  have XB := Lib.hid hbox
  have BR := Lib.hid hbr
  have XA := Lib.hid (X.out.on hbel)
  have B1 := Lib.hid (B0.out.trans (hbel.mono B0.out.size))
  have BBL := Lib.hid (Nat.le_trans B0.out.size hbb)
  clear hbb hbox hbr hbel X
  have cb0 := XB.out.cell 0
  have cb1 := XB.out.cell 1
  have cb2 := XB.out.cell 2
  have cb3 := XB.out.cell 3
  have cb4 := XB.out.cell 4
  have cb5 := XB.out.cell 5
  have ca0 := XA.out.cell 0
  have ca1 := XA.out.cell 1
  have ca2 := XA.out.cell 2
  have ca3 := XA.out.cell 3
  simp only [List.getElem?_toArray, List.getElem?_cons_zero, List.getElem?_cons_succ] at cb0 cb1 cb2 cb3 cb4 cb5 ca0 ca1 ca2 ca3
  go_wp2_with fail
  have C := learn_any runB ⟨(1, 0), [], 2⟩ (m1, m2, m3) (m4, m5, m6) (m7, m8, m9) (m10, m11, m12) (m13, m14, m15) (1, 0, (none, 0, 0), 2) x BR.out.br ⟨rfl, rfl, row_nil _⟩ runB_few runB_fewp (by simp) (List.pairwise_singleton _ _) (List.pairwise_singleton _ _)
  rw [run_again] at C
  refine C.mono ?_
  rintro e2 w2 ⟨⟨⟨q1, q2, q3⟩, ⟨q4, q5, q6⟩, ⟨q7, q8, q9⟩, ⟨q10, q11, q12⟩, ⟨q13, q14, q15⟩, rfl, _, _⟩, hb⟩
  have N2 := newB w2 (.cells #[.int .i64 0, .slice q1 q2 q3, .slice q4 q5 q6, .slice q7 q8 q9, .slice q10 q11 q12, .slice q13 q14 q15] 29)
  have HB := hb.trans (N2.mono hb.size)
  have YB := Lib.hid (XB.out.on HB)
  have YA := Lib.hid (XA.out.on HB)
  have BR2 := Lib.hid (BR.out.on HB)
  have B2 := Lib.hid (B1.out.trans (HB.mono B1.out.size))
  clear hb N2 HB C XB XA BR cb0 cb1 cb2 cb3 cb4 cb5 ca0 ca1 ca2 ca3
  have cb0 := YB.out.cell 0
  have cb1 := YB.out.cell 1
  have cb2 := YB.out.cell 2
  have cb3 := YB.out.cell 3
  have cb4 := YB.out.cell 4
  have cb5 := YB.out.cell 5
  have ca0 := YA.out.cell 0
  have ca1 := YA.out.cell 1
  have ca2 := YA.out.cell 2
  have ca3 := YA.out.cell 3
  simp only [List.getElem?_toArray, List.getElem?_cons_zero, List.getElem?_cons_succ] at cb0 cb1 cb2 cb3 cb4 cb5 ca0 ca1 ca2 ca3
  go_wp2_with fail
  generalize w2.alloc (.cells #[.int .i64 0, .slice q1 q2 q3, .slice q4 q5 q6, .slice q7 q8 q9, .slice q10 q11 q12, .slice q13 q14 q15] 29) = w3 at *
  have C := forget_any runB (1, 0) 3 (m1, m2, m3) (m4, m5, m6) (m7, m8, m9) (m10, m11, m12) (m13, m14, m15) w3 BR2.out.br runB_few runB_fewp
  rw [run_far] at C
  refine C.mono ?_
  rintro e3 w4 ⟨⟨⟨r1, r2, r3⟩, ⟨r4, r5, r6⟩, ⟨r7, r8, r9⟩, ⟨r10, r11, r12⟩, ⟨r13, r14, r15⟩, rfl, _, _⟩, hb⟩
  have N2 := newB w4 (.cells #[.int .i64 0, .slice r1 r2 r3, .slice r4 r5 r6, .slice r7 r8 r9, .slice r10 r11 r12, .slice r13 r14 r15] 29)
  have HB := hb.trans (N2.mono hb.size)
  have ZB := Lib.hid (YB.out.on HB)
  have ZA := Lib.hid (YA.out.on HB)
  have BR3 := Lib.hid (BR2.out.on HB)
  have B3 := Lib.hid (B2.out.trans (HB.mono B2.out.size))
  clear hb N2 HB C YB YA BR2 cb0 cb1 cb2 cb3 cb4 cb5 ca0 ca1 ca2 ca3
  have cb0 := ZB.out.cell 0
  have cb1 := ZB.out.cell 1
  have cb2 := ZB.out.cell 2
  have cb3 := ZB.out.cell 3
  have cb4 := ZB.out.cell 4
  have cb5 := ZB.out.cell 5
  have ca0 := ZA.out.cell 0
  have ca1 := ZA.out.cell 1
  have ca2 := ZA.out.cell 2
  have ca3 := ZA.out.cell 3
  simp only [List.getElem?_toArray, List.getElem?_cons_zero, List.getElem?_cons_succ] at cb0 cb1 cb2 cb3 cb4 cb5 ca0 ca1 ca2 ca3
  have N4 := newB (w4.alloc (.cells #[.int .i64 0, .slice r1 r2 r3, .slice r4 r5 r6, .slice r7 r8 r9, .slice r10 r11 r12, .slice r13 r14 r15] 29)) (.cells #[.int .i64 2, .int .i64 3] 3)
  have hl := Row.of_own (row_lit Nm.okI (w4.alloc (.cells #[.int .i64 0, .slice r1 r2 r3, .slice r4 r5 r6, .slice r7 r8 r9, .slice r10 r11 r12, .slice r13 r14 r15] 29)) [2, 3] 2 rfl (by simp) #[.int .i64 2, .int .i64 3] rfl)
  have hsz : (w4.alloc (.cells #[.int .i64 0, .slice r1 r2 r3, .slice r4 r5 r6, .slice r7 r8 r9, .slice r10 r11 r12, .slice r13 r14 r15] 29)).heap.size = w4.heap.size + 1 := by simp
  rw [hsz] at hl
  have C := Lib.hid (sameI (.slice m1 m2 m3) (.slice (some ⟨w4.heap.size + 1, 0, none⟩) 2 2) [2, 3] [2, 3] _ ((BR3.out.br.near).on N4) hl)
  have B4 := Lib.hid (B3.out.trans (N4.mono B3.out.size))
  have BR4 := Lib.hid (BR3.out.on N4)
  have XB4 := Lib.hid (ZB.out.on N4)
  have XA4 := Lib.hid (ZA.out.on N4)
  clear hl hsz N4 BR3
  go_wp2_with fail
  refine C.out.mono ?_
  rintro e5 w5 ⟨rfl, hb⟩
  have B5 := Lib.hid (B4.out.trans (hb.mono B4.out.size))
  have BR5 := Lib.hid (BR4.out.on hb)
  have XB5 := Lib.hid (XB4.out.on hb)
  have XA5 := Lib.hid (XA4.out.on hb)
  clear hb C BR4 XB4 XA4 ZB ZA cb0 cb1 cb2 cb3 cb4 cb5 ca0 ca1 ca2 ca3
  have e6 : decide (([2, 3] : List Int) = [2, 3]) = true := rfl
  have cb0 := XB5.out.cell 0
  have cb1 := XB5.out.cell 1
  have cb2 := XB5.out.cell 2
  have cb3 := XB5.out.cell 3
  have cb4 := XB5.out.cell 4
  have cb5 := XB5.out.cell 5
  have ca0 := XA5.out.cell 0
  have ca1 := XA5.out.cell 1
  have ca2 := XA5.out.cell 2
  have ca3 := XA5.out.cell 3
  simp only [List.getElem?_toArray, List.getElem?_cons_zero, List.getElem?_cons_succ] at cb0 cb1 cb2 cb3 cb4 cb5 ca0 ca1 ca2 ca3
  go_wp2_with fail
  refine (aseen_any 0 (.slice m1 m2 m3) (.slice m4 m5 m6) (.slice m10 m11 m12) (.slice m13 m14 m15) (m7, m8, m9) [(1, 0)] (1, 0) w5 BR5.out.br.seen).mono ?_
  rintro e7 w7 ⟨rfl, hb⟩
  have B7 := Lib.hid (B5.out.trans (hb.mono B5.out.size))
  have BR7 := Lib.hid (BR5.out.on hb)
  have XB7 := Lib.hid (XB5.out.on hb)
  clear hb BR5 XB5 XA5 e6 cb0 cb1 cb2 cb3 cb4 cb5 ca0 ca1 ca2 ca3
  have e8 : decide (((1, 0) : XID) ∈ [((1, 0) : XID)]) = true := rfl
  have cb0 := XB7.out.cell 0
  have cb1 := XB7.out.cell 1
  have cb2 := XB7.out.cell 2
  have cb3 := XB7.out.cell 3
  have cb4 := XB7.out.cell 4
  have cb5 := XB7.out.cell 5
  simp only [List.getElem?_toArray, List.getElem?_cons_zero, List.getElem?_cons_succ] at cb0 cb1 cb2 cb3 cb4 cb5
  go_wp2_with fail
  have C := aright_any runB (m1, m2, m3) (m4, m5, m6) (m7, m8, m9) (m10, m11, m12) (m13, m14, m15) w7 BR7.out.br runB_few runB_tame
  rw [run_ok] at C
  refine C.mono ?_
  rintro e9 w9 ⟨rfl, hb⟩
  have B9 := Lib.hid (B7.out.trans (hb.mono B7.out.size))
  clear hb C
  go_wp2
  go_ret
  exact ⟨rfl, B9.out⟩
end Go.Proofs.YtonoadjmglkhaaaGreat.Av

namespace Go.Proofs.YtonoadjmglkhaaaGreat.Av
open Go.RowKit Go.Sort Go.Proofs.YtonoadjmglkhaaaGreat Go.Proofs.YtonoadjmglkhaaaGreat.Rw Go.Proofs.YtonoadjmglkhaaaGreat.Nm Go.Proofs.YtonoadjmglkhaaaGreat.Pr Go.Proofs.YtonoadjmglkhaaaGreat.Bk

/-- What the law answers. -/
abbrev OrdQ (w : World) : Ending → World → Prop := fun e w' => e = .returned (.bool true) ∧ Below w.heap.size w w'
noncomputable def order_34C : Code := afterN 11 (Tryz.f5.body.getD .skip)
set_option maxRecDepth 100000 in
set_option maxHeartbeats 16000000 in
theorem order_34 (w W : World) (b18 b19 : Nat) (nb : Br) (nr : List Int) (p : List C5) (q : List XID) (s1 : Option Addr) (s2 s3 : Nat) (s4 : Option Addr) (s6 : Nat) (s7 : Option Addr) (s8 s9 : Nat) (s10 : Option Addr) (s11 s12 : Nat) (s13 : Option Addr) (s14 s15 : Nat) (o1 : Option Addr) (o2 o3 : Nat) (o4 : Option Addr) (o5 o6 : Nat) (o7 : Option Addr) (o8 o9 : Nat) (o10 : Option Addr) (o11 o12 : Nat) (o13 : Option Addr) (o14 o15 : Nat) (l1 : Option Addr) (l3 : Nat)
    (gb : Below w.heap.size w W) (x18 : Box W b18 #[.int .i64 nb.me, .slice s1 s2 s3, .slice s4 q.length s6, .slice s7 s8 s9, .slice s10 s11 s12, .slice s13 s14 s15] 29) (x19 : Box W b19 #[.int .i64 nb.me, .slice o1 o2 o3, .slice o4 o5 o6, .slice o7 o8 o9, .slice o10 o11 o12, .slice o13 o14 o15] 29) (n18 : BrN W nb (s1, s2, s3) (s4, q.length, s6) (s7, s8, s9) (s10, s11, s12) (s13, s14, s15)) (n19 : BrN W nb (o1, o2, o3) (o4, o5, o6) (o7, o8, o9) (o10, o11, o12) (o13, o14, o15)) (od : OrdI nr p nb q) (ql : q.length ≤ 900) (pl : p.length ≤ 900)
    (u0 u1 u2 u3 u4 u5 u6 u7 u8 u10 u11 u12 u13 u14 u15 u16 u17 u20 u21 u22 u23 u24 u25 u26 u27 u28 u29 u30 u31 u32 u33 u34 u35 u36 u37 u38 u39 u40 u41 u42 u43 u44 u45 u46 u47 u48 u49 u50 u51 u52 u53 u54 u55 u56 u57 u58 u59 u60 u61 u62 u63 u64 u65 u66 u67 u68 u69 u70 u71 u72 u73 u74 u75 u76 u77 u78 u79 u80 u81 u82 u83 u84 u85 u86 u87 u88 u89 u90 u91 u92 u93 u94 u95 u96 u97 u98 u99 u100 u101 u102 u103 u104 u105 u106 u107 u108 u109 u110 u111 u112 u113 u114 u115 u116 u117 u118 u119 u120 u121 u122 u123 u124 u125 u126 u127 u128 u129 u130 u131 u132 u133 u134 u135 u136 u137 u138 u139 u140 u141 u142 u143 u144 u145 u146 u147 u148 u149 u150 u151 u152 u153 u154 u155 u156 u157 u158 u159 u160 u161 u162 u163 u164 u165 u166 u167 u168 u169 u170 u171 u172 u173 u174 u175 u176 u177 u178 u179 u180 u181 u182 u183 u184 u185 u186 u187 u188 u189 u190 u191 u192 u193 : Value) :
    Code.wp Tryz.prog order_34C (bodyPost Tryz.prog Tryz.f5 (OrdQ w)) ⟨(u0 :: u1 :: u2 :: u3 :: u4 :: u5 :: u6 :: u7 :: u8 :: .slice l1 q.length l3 :: u10 :: u11 :: u12 :: u13 :: u14 :: u15 :: u16 :: u17 :: .pointer (some ⟨b18, 0, none⟩) :: .pointer (some ⟨b19, 0, none⟩) :: u20 :: u21 :: u22 :: u23 :: u24 :: u25 :: u26 :: u27 :: u28 :: u29 :: u30 :: u31 :: u32 :: u33 :: u34 :: u35 :: u36 :: u37 :: u38 :: u39 :: u40 :: u41 :: u42 :: u43 :: u44 :: u45 :: u46 :: u47 :: u48 :: u49 :: u50 :: u51 :: u52 :: u53 :: u54 :: u55 :: u56 :: u57 :: u58 :: u59 :: u60 :: u61 :: u62 :: u63 :: u64 :: u65 :: u66 :: u67 :: u68 :: u69 :: u70 :: u71 :: u72 :: u73 :: u74 :: u75 :: u76 :: u77 :: u78 :: u79 :: u80 :: u81 :: u82 :: u83 :: u84 :: u85 :: u86 :: u87 :: u88 :: u89 :: u90 :: u91 :: u92 :: u93 :: u94 :: u95 :: u96 :: u97 :: u98 :: u99 :: u100 :: u101 :: u102 :: u103 :: u104 :: u105 :: u106 :: u107 :: u108 :: u109 :: u110 :: u111 :: u112 :: u113 :: u114 :: u115 :: u116 :: u117 :: u118 :: u119 :: u120 :: u121 :: u122 :: u123 :: u124 :: u125 :: u126 :: u127 :: u128 :: u129 :: u130 :: u131 :: u132 :: u133 :: u134 :: u135 :: u136 :: u137 :: u138 :: u139 :: u140 :: u141 :: u142 :: u143 :: u144 :: u145 :: u146 :: u147 :: u148 :: u149 :: u150 :: u151 :: u152 :: u153 :: u154 :: u155 :: u156 :: u157 :: u158 :: u159 :: u160 :: u161 :: u162 :: u163 :: u164 :: u165 :: u166 :: u167 :: u168 :: u169 :: u170 :: u171 :: u172 :: u173 :: u174 :: u175 :: u176 :: u177 :: u178 :: u179 :: u180 :: u181 :: u182 :: u183 :: u184 :: u185 :: u186 :: u187 :: u188 :: u189 :: u190 :: u191 :: u192 :: u193 :: []).toArray, []⟩ W := by
  have GB_1 := Lib.hid (gb)
  have X18_2 := Lib.hid (x18)
  have X19_3 := Lib.hid (x19)
  have N18_4 := Lib.hid (n18)
  have N19_5 := Lib.hid (n19)
  have OD_6 := Lib.hid (od)
  have QL_7 := Lib.hid (ql)
  have PLN_8 := Lib.hid (pl)
  clear gb x18 x19 n18 n19 od ql pl
  unfold order_34C
  conv => arg 2; whnf
  have ME_9 := Lib.hid (show nb.me = 11 from OD_6.out.me)
  have xa0 := X18_2.out.cell 0
  have xa1 := X18_2.out.cell 1
  have xa2 := X18_2.out.cell 2
  have xa3 := X18_2.out.cell 3
  have xa4 := X18_2.out.cell 4
  have xa5 := X18_2.out.cell 5
  simp only [List.getElem?_toArray, List.getElem?_cons_zero, List.getElem?_cons_succ] at xa0 xa1 xa2 xa3 xa4 xa5
  have xb0 := X19_3.out.cell 0
  have xb1 := X19_3.out.cell 1
  have xb2 := X19_3.out.cell 2
  have xb3 := X19_3.out.cell 3
  have xb4 := X19_3.out.cell 4
  have xb5 := X19_3.out.cell 5
  simp only [List.getElem?_toArray, List.getElem?_cons_zero, List.getElem?_cons_succ] at xb0 xb1 xb2 xb3 xb4 xb5
  go_wp2_with fail
  have C := asame_any nb nb (s1, s2, s3) (s4, q.length, s6) (s7, s8, s9) (s10, s11, s12) (s13, s14, s15) (o1, o2, o3) (o4, o5, o6) (o7, o8, o9) (o10, o11, o12) (o13, o14, o15) W N18_4.out.br N19_5.out.br (OD_6.out.fewB QL_7.out) (OD_6.out.fewp PLN_8.out).pa
  rw [same_self] at C
  refine C.mono ?_
  rintro e2 w2 ⟨rfl, hb⟩
  clear xa0 xa1 xa2 xa3 xa4 xa5 xb0 xb1 xb2 xb3 xb4 xb5
  have GB_10 := Lib.hid (GB_1.out.trans (hb.mono GB_1.out.size))
  have X18_10 := Lib.hid (X18_2.out.on hb)
  have X19_10 := Lib.hid (X19_3.out.on hb)
  have N18_10 := Lib.hid (N18_4.out.on hb)
  have N19_10 := Lib.hid (N19_5.out.on hb)
  clear GB_1 X18_2 X19_3 N18_4 N19_5
  clear hb C
  have xa0 := X18_10.out.cell 0
  have xa1 := X18_10.out.cell 1
  have xa2 := X18_10.out.cell 2
  have xa3 := X18_10.out.cell 3
  have xa4 := X18_10.out.cell 4
  have xa5 := X18_10.out.cell 5
  simp only [List.getElem?_toArray, List.getElem?_cons_zero, List.getElem?_cons_succ] at xa0 xa1 xa2 xa3 xa4 xa5
  go_wp2_with fail
  have C := aright_any nb (s1, s2, s3) (s4, q.length, s6) (s7, s8, s9) (s10, s11, s12) (s13, s14, s15) w2 N18_10.out.br (OD_6.out.fewB QL_7.out) OD_6.out.tame
  rw [(okBr_iff nb).2 OD_6.out.ok] at C
  refine C.mono ?_
  rintro e3 w3 ⟨rfl, hb⟩
  clear xa0 xa1 xa2 xa3 xa4 xa5
  have GB_11 := Lib.hid (GB_10.out.trans (hb.mono GB_10.out.size))
  have X18_11 := Lib.hid (X18_10.out.on hb)
  have X19_11 := Lib.hid (X19_10.out.on hb)
  have N18_11 := Lib.hid (N18_10.out.on hb)
  have N19_11 := Lib.hid (N19_10.out.on hb)
  clear GB_10 X18_10 X19_10 N18_10 N19_10
  clear hb C
  have xa0 := X18_11.out.cell 0
  simp only [List.getElem?_toArray, List.getElem?_cons_zero] at xa0
  rw [ME_9.out] at xa0
  go_wp2_with fail
  refine (runs_any w3).mono ?_
  rintro e4 w4 ⟨rfl, hb⟩
  have GB_12 := Lib.hid (GB_11.out.trans (hb.mono GB_11.out.size))
  have X18_12 := Lib.hid (X18_11.out.on hb)
  have X19_12 := Lib.hid (X19_11.out.on hb)
  have N18_12 := Lib.hid (N18_11.out.on hb)
  have N19_12 := Lib.hid (N19_11.out.on hb)
  clear GB_11 X18_11 X19_11 N18_11 N19_11
  clear hb
  go_wp2
  go_ret
  exact ⟨rfl, GB_12.out⟩
noncomputable def order_28C : Code := .seq (headN 10 (Tryz.f5.body.getD .skip)) (order_34C)
set_option maxRecDepth 100000 in
set_option maxHeartbeats 16000000 in
theorem order_28 (w W : World) (b18 b19 : Nat) (nb : Br) (nr : List Int) (p : List C5) (q : List XID) (s1 : Option Addr) (s2 s3 : Nat) (s4 : Option Addr) (s6 : Nat) (s7 : Option Addr) (s8 s9 : Nat) (s10 : Option Addr) (s11 s12 : Nat) (s13 : Option Addr) (s14 s15 : Nat) (o1 : Option Addr) (o2 o3 : Nat) (o4 : Option Addr) (o5 o6 : Nat) (o7 : Option Addr) (o8 o9 : Nat) (o10 : Option Addr) (o11 o12 : Nat) (o13 : Option Addr) (o14 o15 : Nat) (l1 : Option Addr) (l3 : Nat)
    (gb : Below w.heap.size w W) (x18 : Box W b18 #[.int .i64 nb.me, .slice s1 s2 s3, .slice s4 q.length s6, .slice s7 s8 s9, .slice s10 s11 s12, .slice s13 s14 s15] 29) (x19 : Box W b19 #[.int .i64 nb.me, .slice o1 o2 o3, .slice o4 o5 o6, .slice o7 o8 o9, .slice o10 o11 o12, .slice o13 o14 o15] 29) (n18 : BrN W nb (s1, s2, s3) (s4, q.length, s6) (s7, s8, s9) (s10, s11, s12) (s13, s14, s15)) (n19 : BrN W nb (o1, o2, o3) (o4, o5, o6) (o7, o8, o9) (o10, o11, o12) (o13, o14, o15)) (od : OrdI nr p nb q) (ql : q.length ≤ 900) (pl : p.length ≤ 900)
    (u0 u1 u2 u3 u4 u5 u6 u7 u8 u10 u11 u12 u13 u14 u15 u16 u17 u20 u21 u22 u23 u24 u25 u26 u27 u28 u29 u30 u31 u32 u33 u34 u35 u36 u37 u38 u39 u40 u41 u42 u43 u44 u45 u46 u47 u48 u49 u50 u51 u52 u53 u54 u55 u56 u57 u58 u59 u60 u61 u62 u63 u64 u65 u66 u67 u68 u69 u70 u71 u72 u73 u74 u75 u76 u77 u78 u79 u80 u81 u82 u83 u84 u85 u86 u87 u88 u89 u90 u91 u92 u93 u94 u95 u96 u97 u98 u99 u100 u101 u102 u103 u104 u105 u106 u107 u108 u109 u110 u111 u112 u113 u114 u115 u116 u117 u118 u119 u120 u121 u122 u123 u124 u125 u126 u127 u128 u129 u130 u131 u132 u133 u134 u135 u136 u137 u138 u139 u140 u141 u142 u143 u144 u145 u146 u147 u148 u149 u150 u151 u152 u153 u154 u155 u156 u157 u158 u159 u160 u161 u162 u163 u164 u165 u166 u167 u168 u169 u170 u171 u172 u173 u174 u175 u176 u177 u178 u179 u180 u181 u182 u183 u184 u185 u186 u187 u188 u189 u190 u191 u192 u193 : Value) :
    Code.wp Tryz.prog order_28C (bodyPost Tryz.prog Tryz.f5 (OrdQ w)) ⟨(u0 :: u1 :: u2 :: u3 :: u4 :: u5 :: u6 :: u7 :: u8 :: .slice l1 q.length l3 :: u10 :: u11 :: u12 :: u13 :: u14 :: u15 :: u16 :: u17 :: .pointer (some ⟨b18, 0, none⟩) :: .pointer (some ⟨b19, 0, none⟩) :: u20 :: u21 :: u22 :: u23 :: u24 :: u25 :: u26 :: u27 :: u28 :: u29 :: u30 :: u31 :: u32 :: u33 :: u34 :: u35 :: u36 :: u37 :: u38 :: u39 :: u40 :: u41 :: u42 :: u43 :: u44 :: u45 :: u46 :: u47 :: u48 :: u49 :: u50 :: u51 :: u52 :: u53 :: u54 :: u55 :: u56 :: u57 :: u58 :: u59 :: u60 :: u61 :: u62 :: u63 :: u64 :: u65 :: u66 :: u67 :: u68 :: u69 :: u70 :: u71 :: u72 :: u73 :: u74 :: u75 :: u76 :: u77 :: u78 :: u79 :: u80 :: u81 :: u82 :: u83 :: u84 :: u85 :: u86 :: u87 :: u88 :: u89 :: u90 :: u91 :: u92 :: u93 :: u94 :: u95 :: u96 :: u97 :: u98 :: u99 :: u100 :: u101 :: u102 :: u103 :: u104 :: u105 :: u106 :: u107 :: u108 :: u109 :: u110 :: u111 :: u112 :: u113 :: u114 :: u115 :: u116 :: u117 :: u118 :: u119 :: u120 :: u121 :: u122 :: u123 :: u124 :: u125 :: u126 :: u127 :: u128 :: u129 :: u130 :: u131 :: u132 :: u133 :: u134 :: u135 :: u136 :: u137 :: u138 :: u139 :: u140 :: u141 :: u142 :: u143 :: u144 :: u145 :: u146 :: u147 :: u148 :: u149 :: u150 :: u151 :: u152 :: u153 :: u154 :: u155 :: u156 :: u157 :: u158 :: u159 :: u160 :: u161 :: u162 :: u163 :: u164 :: u165 :: u166 :: u167 :: u168 :: u169 :: u170 :: u171 :: u172 :: u173 :: u174 :: u175 :: u176 :: u177 :: u178 :: u179 :: u180 :: u181 :: u182 :: u183 :: u184 :: u185 :: u186 :: u187 :: u188 :: u189 :: u190 :: u191 :: u192 :: u193 :: []).toArray, []⟩ W := by
  have GB_1 := Lib.hid (gb)
  have X18_2 := Lib.hid (x18)
  have X19_3 := Lib.hid (x19)
  have N18_4 := Lib.hid (n18)
  have N19_5 := Lib.hid (n19)
  have OD_6 := Lib.hid (od)
  have QL_7 := Lib.hid (ql)
  have PLN_8 := Lib.hid (pl)
  clear gb x18 x19 n18 n19 od ql pl
  unfold order_28C
  conv => enter [2, 1]; whnf
  obtain ⟨lx, hd1, hd2⟩ := N18_4.out.br.adv
  have HD := Lib.hid hd1
  have HD2 := Lib.hid hd2
  have HL := Lib.hid (show lx.length = q.length from by rw [hd2.len, OD_6.out.an])
  clear hd1 hd2
  have xa0 := X18_2.out.cell 0
  have xa1 := X18_2.out.cell 1
  have xa2 := X18_2.out.cell 2
  have xa3 := X18_2.out.cell 3
  have xa4 := X18_2.out.cell 4
  have xa5 := X18_2.out.cell 5
  simp only [List.getElem?_toArray, List.getElem?_cons_zero, List.getElem?_cons_succ] at xa0 xa1 xa2 xa3 xa4 xa5
  go_wp2_with fail
  clear xa0 xa1 xa2 xa3 xa4 xa5
  go_loopw [150] (fun i wr => ∃ k : Nat, k ≤ q.length ∧ i = .int .i64 k ∧ Below W.heap.size W wr) (fun i _ => q.length - (intOf i).toNat)
  case atStart => exact ⟨0, Nat.zero_le _, rfl, Below.refl _ _⟩
  case round =>
    obtain ⟨k, hk, rfl, hbel⟩ := hrel
    have BE := Lib.hid hbel
    clear hbel
    by_cases hlt : k < q.length
    · have hlt' : (k : Int) < (q.length : Int) := by omega
      obtain ⟨y, hy⟩ : ∃ y, lx[k]? = some y := ⟨_, List.getElem?_eq_getElem (by rw [HL.out]; exact hlt)⟩
      obtain ⟨pa, ixa, pxa⟩ := elD HD.out rfl HL.out hy
      obtain ⟨p0, p1, p2, p3⟩ := pxa wr BE.out
      obtain ⟨y1, y2, ⟨y3, y4, y5⟩, y6⟩ := y
      simp only at p0 p1 p2 p3
      go_upto_region 31 with fail
      clear p0 p1 p2 p3 ixa pxa
      have NN := newB wr (.cells #[.int .i64 y1, .int .i64 y2, .slice y3 y4 y5, .int .i64 y6] 42)
      have BE2 := Lib.hid (BE.out.trans (NN.mono BE.out.size))
      have X22 := Lib.hid (box_new wr #[.int .i64 y1, .int .i64 y2, .slice y3 y4 y5, .int .i64 y6] 42)
      generalize wr.alloc (.cells #[.int .i64 y1, .int .i64 y2, .slice y3 y4 y5, .int .i64 y6] 42) = wa at *
      clear NN BE
      rcases k with _ | k
      · refine ord31z _ wa 0 _ _ _ _ _ _ _ _ _ _ _ _ _ _ _ _ _ _ _ _ _ _ _ _ _ _ _ _ _ _ _ _ _ _ _ _ _ _ _ _ _ _ _ _ _ _ _ _ _ _ _ _ _ _ _ _ _ _ _ _ _ _ _ _ _ _ _ _ _ _ _ _ _ _ _ _ _ _ _ _ _ _ _ _ _ _ _ _ _ _ _ _ _ _ _ _ _ _ _ _ _ _ _ _ _ _ _ _ _ _ _ _ _ _ _ _ _ _ _ _ _ _ _ _ _ _ _ _ _ _ _ _ _ _ _ _ _ _ _ _ _ _ _ _ _ _ _ _ _ _ _ _ _ _ _ _ _ _ _ _ _ _ _ _ _ _ _ _ _ _ _ _ _ _ _ _ _ _ _ _ _ _ _ _ _ _ _ _ _ _ _ _ _ rfl ?_
        intro x v155 v156 v157 v158 v159 v160 v161 v162 v163 v164 v165 v166 v167 v168 hbel
        have BE3 := Lib.hid (BE2.out.trans (hbel.mono BE2.out.size))
        clear hbel BE2
        go_wp2_with fail
        go_roundw
        case rel => exact ⟨0 + 1, hlt, by go_num, BE3.out⟩
        case measure => simp [intOf]; omega
      · have hw : IntKind.i64.wrap ((k : Int) + 1 + 1) = (k : Int) + 1 + 1 := IntWalk.i64_in _ (by have := QL_7.out; omega)
        obtain ⟨z, hz⟩ : ∃ z, lx[k]? = some z := ⟨_, List.getElem?_eq_getElem (by rw [HL.out]; omega)⟩
        obtain ⟨pb, ixb, pxb⟩ := elD HD.out rfl HL.out hz
        obtain ⟨ak, hak⟩ : ∃ a, nb.adv[k]? = some a := ⟨_, List.getElem?_eq_getElem (by rw [OD_6.out.an]; omega)⟩
        obtain ⟨al, hal⟩ : ∃ a, nb.adv[k + 1]? = some a := ⟨_, List.getElem?_eq_getElem (by rw [OD_6.out.an]; exact hlt)⟩
        obtain ⟨zk, hk1, hk2⟩ := HD2.out.at k ak hak
        obtain ⟨zl, hl1, hl2⟩ := HD2.out.at (k + 1) al hal
        obtain rfl : z = zk := Option.some.inj (hz.symm.trans hk1)
        obtain rfl : ((y1, y2, (y3, y4, y5), y6) : XAd) = zl := Option.some.inj (hy.symm.trans hl1)
        have ls : lessI (z.1, z.2.1) (y1, y2) = true := by rw [hk2.1, show ((y1, y2) : XID) = al.id from hl2.1]; exact riseK_lt OD_6.out.ok.adv (Nat.lt_succ_self k) hak hal
        refine ord31s _ wa b18 wr.heap.size k pb y1 y2 z.1 z.2.1 (.slice y3 y4 y5) (.int .i64 y6) nb.me s1 s2 s3 s4 q.length s6 (.slice s7 s8 s9) (.slice s10 s11 s12) (.slice s13 s14 s15) _ _ _ _ _ _ _ _ _ _ _ _ _ _ _ _ _ _ _ _ _ _ _ _ _ _ _ _ _ _ _ _ _ _ _ _ _ _ _ _ _ _ _ _ _ _ _ _ _ _ _ _ _ _ _ _ _ _ _ _ _ _ _ _ _ _ _ _ _ _ _ _ _ _ _ _ _ _ _ _ _ _ _ _ _ _ _ _ _ _ _ _ _ _ _ _ _ _ _ _ _ _ _ _ _ _ _ _ _ _ _ _ _ _ _ _ _ _ _ _ _ _ _ _ _ _ _ _ _ _ _ _ _ _ _ _ _ _ _ _ _ _ _ _ _ _ _ _ _ _ _ _ _ _ _ _ _ _ _ _ _ _ _ _ _ _ _ _ _ _ _ _ _ _ _ _ _ _ _ _ _ _ _ _ _ _ _ _ _ _ _ (X18_2.out.on BE2.out) X22.out ixb (fun x hx => by have h := pxb x (BE2.out.trans (hx.mono BE2.out.size)); exact ⟨h.1, h.2.1⟩) ls (by have := QL_7.out; omega) ?_
        intro x v155 v156 v157 v158 v159 v160 v161 v162 v163 v164 v165 v166 v167 v168 hbel
        have BE3 := Lib.hid (BE2.out.trans (hbel.mono BE2.out.size))
        clear hbel BE2
        go_wp2_with fail
        go_roundw
        case rel => exact ⟨k + 1 + 1, hlt, by go_num, BE3.out⟩
        case measure => simp [intOf]; omega
    · obtain rfl : k = q.length := by omega
      go_wp2_with fail
      refine order_34 w wr b18 b19 nb nr p q s1 s2 s3 s4 s6 s7 s8 s9 s10 s11 s12 s13 s14 s15 o1 o2 o3 o4 o5 o6 o7 o8 o9 o10 o11 o12 o13 o14 o15 l1 l3 (GB_1.out.trans (BE.out.mono GB_1.out.size)) (X18_2.out.on BE.out) (X19_3.out.on BE.out) (N18_4.out.on BE.out) (N19_5.out.on BE.out) OD_6.out QL_7.out PLN_8.out _ _ _ _ _ _ _ _ _ _ _ _ _ _ _ _ _ _ _ _ _ _ _ _ _ _ _ _ _ _ _ _ _ _ _ _ _ _ _ _ _ _ _ _ _ _ _ _ _ _ _ _ _ _ _ _ _ _ _ _ _ _ _ _ _ _ _ _ _ _ _ _ _ _ _ _ _ _ _ _ _ _ _ _ _ _ _ _ _ _ _ _ _ _ _ _ _ _ _ _ _ _ _ _ _ _ _ _ _ _ _ _ _ _ _ _ _ _ _ _ _ _ _ _ _ _ _ _ _ _ _ _ _ _ _ _ _ _ _ _ _ _ _ _ _ _ _ _ _ _ _ _ _ _ _ _ _ _ _ _ _ _ _ _ _ _ _ _ _ _ _ _ _ _ _ _ _ _ _ _ _ _ _ _ _ _ _ _ _ _ _
end Go.Proofs.YtonoadjmglkhaaaGreat.Av

namespace Go.Proofs.YtonoadjmglkhaaaGreat.Rg
open Go.RowKit Go.Proofs.YtonoadjmglkhaaaGreat.Rw Go.Proofs.YtonoadjmglkhaaaGreat.Av

/-- What an operation may rely on. -/
structure SeenY (i N S : Nat) (d last : Nat → Nat) (V : Nat → Value → World → Prop) (base : Act) (o : Oper) (a : Act) (x : World) : Prop where
  kp : ∀ j u, (∀ i, i < N → d i ≠ j) → base.tmps[j]? = some u → a.eval (.tmp j) = u
  at_ : ∀ e ∈ o.after, Region.binds .any e = true → e.on ≠ S → (last e.on = i ∨ N ≤ last e.on) → V e.on (a.eval (.tmp (d e.on))) x
/-- What the store leaves of the world ahead of the region. -/
def Sto (b : Nat) (W x : World) : Prop := But b W x ∧ ∀ B, B ≤ b → Below B W x
theorem Sto.grow {b : Nat} {W x x' : World} (h : Sto b W x) (hl : b < W.heap.size) (hb : Below x.heap.size x x') : Sto b W x' :=
  ⟨⟨fun k hk hne => (hb.block k (Nat.lt_of_lt_of_le hk h.1.2)).trans (h.1.1 k hk hne), Nat.le_trans h.1.2 hb.size⟩, fun B hB => (h.2 B hB).trans (hb.mono (Nat.le_trans (Nat.le_trans hB (Nat.le_of_lt hl)) h.1.2))⟩
structure InY (l : List Oper) (N S C : Nat) (d last : Nat → Nat) (V : Nat → Value → World → Prop) (t : TypeId) (bb : Nat) (old : Array Value) (cof : Value → Array Value) (base : Act) (W : World) (L : Array Bool) (a : Act) (x : World) : Prop where
  cl : ∀ i o, done L i → l[i]? = some o → ∀ e ∈ o.after, Region.binds .any e = true → done L e.on
  no : ∀ i, N ≤ i → ¬ done L i
  df : a.defers = base.defers
  sz : a.tmps.size = base.tmps.size
  kp : ∀ j, (∀ i, i < N → d i ≠ j) → a.tmps[j]? = base.tmps[j]?
  sto : Sto bb W x
  val : ∃ vs : Nat → Value, ∀ i, i < N → i ≠ S → done L i → a.tmps[d i]? = some (vs i) ∧ (¬ done L (last i) → V i (vs i) x)
  box : ¬ done L S → Below W.heap.size W x ∧ Box x bb old t
  fin : done L S → ∃ v, a.tmps[d C]? = some v ∧ Box x bb (cof v) t ∧ V C v x
theorem region_st {P : Program} {Q : Exit → Act → World → Prop} {id : Nat} {base : Act} {W : World} {l : List Oper} (N S C : Nat) (d last : Nat → Nat) (V : Nat → Value → World → Prop) (fl : Nat → Bool) (t : TypeId) (bb : Nat) (old : Array Value) (cof : Value → Array Value)
    (hm : P.follows .mixedOrders = true) (hf : fore l.toArray = true) (hN : l.length = N) (hS : S < N) (hC : C < N) (hCS : C ≠ S) (hlC : N ≤ last C) (hbox : Box W bb old t)
    (hinj : ∀ i j, i < N → j < N → i ≠ S → j ≠ S → d i = d j → i = j) (hs : ∀ i, i < N → i ≠ S → d i < base.tmps.size)
    (hV : ∀ i v x x', i < N → V i v x → Below x.heap.size x x' → V i v x')
    (hfl : ∀ o, l[S]? = some o → ∀ i, i < N → i ≠ S → fl i = false → ∃ e ∈ o.after, Region.binds .any e = true ∧ e.on = i) (hflC : fl C = false)
    (hop : ∀ i o, i < N → i ≠ S → l[i]? = some o → ∀ a x, (fl i = false → Below W.heap.size W x ∧ Box x bb old t) → SeenY i N S d last V base o a x → ∀ K : Act → World → Prop, (∀ v x', V i v x' → Below x.heap.size x x' → K (a.put (some (d i)) v) x') → wpOp P l.toArray Q i K a x)
    (hoS : ∀ o, l[S]? = some o → ∀ a x v, Below W.heap.size W x → Box x bb old t → a.eval (.tmp (d C)) = v → V C v x → (∀ j u, base.tmps[j]? = some u → (∀ i, i < N → d i ≠ j) → a.eval (.tmp j) = u) → ∀ K : Act → World → Prop, (∀ x', But bb x x' → (∀ B w, B ≤ bb → Below B w x → Below B w x') → Box x' bb (cof v) t → (∀ j u, j < N → j ≠ S → N ≤ last j → V j u x → V j u x') → K a x') → wpOp P l.toArray Q S K a x)
    (hlast : ∀ j, j < N → j ≠ S → N ≤ last j ∨ (last j < N ∧ last j ≠ S ∧ fl (last j) = false))
    (hend : ∀ a x v, a.defers = base.defers → a.tmps.size = base.tmps.size → (∀ j, (∀ i, i < N → d i ≠ j) → a.tmps[j]? = base.tmps[j]?) → a.tmps[d C]? = some v → Box x bb (cof v) t → V C v x → Sto bb W x → (∃ vs : Nat → Value, ∀ i, i < N → i ≠ S → a.tmps[d i]? = some (vs i) ∧ (N ≤ last i → V i (vs i) x)) → Q .normal a x) : (Code.region id l.toArray true).wp P Q base W := by
  have hbl : bb < W.heap.size := hbox.lt
  refine region_inv (fun L a x => InY l N S C d last V t bb old cof base W L a x) hm hf ?_ ?_ ?_
  · exact ⟨fun i o h => absurd h (none_done _ _), fun i _ => none_done _ _, rfl, rfl, fun _ _ => rfl, ⟨⟨fun _ _ _ => rfl, Nat.le_refl _⟩, fun B hB => (Below.refl _ _).drew⟩, ⟨fun _ => .bool true, fun i _ _ h => absurd h (none_done _ _)⟩, fun _ => ⟨(Below.refl _ _).drew, hbox⟩, fun h => absurd h (none_done _ _)⟩
  · intro L a x i o hsz I ho hnd hdep
    have hi : i < l.length := (List.getElem?_eq_some_iff.1 ho).1
    have hiN : i < N := by omega
    have hiL : i < L.size := by omega
    obtain ⟨vs, hvs⟩ := I.val
    obtain ⟨oS, hoS'⟩ : ∃ oS, l[S]? = some oS := ⟨_, List.getElem?_eq_getElem (by omega)⟩
    have hon : ∀ e ∈ o.after, Region.binds .any e = true → e.on < i := fun e he hb => by
      have h7 := List.all_eq_true.1 hf i (List.mem_range.2 (by simpa using hi))
      have ho' : (l.toArray)[i]? = some o := by simpa using ho
      rw [ho'] at h7
      have h8 := Array.all_eq_true'.1 h7 e he
      rw [hb] at h8
      simpa using h8
    have dd : ∀ {k}, k ≠ i → done (L.setIfInBounds i true) k → done L k := fun {k} h h5 => ((done_set hiL k).1 h5).resolve_left h
    have du : ∀ {k}, done L k → done (L.setIfInBounds i true) k := fun {k} h => (done_set hiL k).2 (Or.inr h)
    have cl' : ∀ k q, done (L.setIfInBounds i true) k → l[k]? = some q → ∀ e ∈ q.after, Region.binds .any e = true → done (L.setIfInBounds i true) e.on := fun k q hk hq e he hb => by
      by_cases e2 : k = i
      · subst e2
        rw [hq] at ho
        cases ho
        exact du (hdep e he hb)
      · exact du (I.cl k q (dd e2 hk) hq e he hb)
    have no' : ∀ k, N ≤ k → ¬ done (L.setIfInBounds i true) k := fun k hk h => I.no k hk (dd (by omega) h)
    have early : ∀ k, k < N → k ≠ S → fl k = false → ¬ done L k → ¬ done L S := fun k hk hkS hfk hnk hdS => by
      obtain ⟨e, h1, h2, h3⟩ := hfl oS hoS' k hk hkS hfk
      exact hnk (h3 ▸ I.cl S oS hdS hoS' e h1 h2)
    by_cases hiS : i = S
    · subst hiS
      have dC : done L C := by
        obtain ⟨e, h1, h2, h3⟩ := hfl o ho C hC hCS hflC
        exact h3 ▸ hdep e h1 h2
      obtain ⟨v1, v2⟩ := hvs C hC hCS dC
      have vC := v2 (I.no _ hlC)
      obtain ⟨b1, b2⟩ := I.box hnd
      refine hoS o ho a x (vs C) b1 b2 (eval_some v1) vC (fun j u hu hj => eval_some (by rw [I.kp j hj]; exact hu)) _ (fun x' q1 q2 q3 q4 => ⟨cl', no', I.df, I.sz, I.kp, ⟨⟨fun k hk hne => (q1.1 k (Nat.lt_of_lt_of_le hk b1.size) hne).trans (I.sto.1.1 k hk hne), Nat.le_trans b1.size q1.2⟩, fun B hB => q2 B W hB (I.sto.2 B hB)⟩, ⟨vs, fun k hk hkS hdn => ?_⟩, fun hn => absurd ((done_set hiL _).2 (Or.inl rfl)) hn, fun _ => ⟨vs C, v1, q3, ?_⟩⟩)
      · obtain ⟨w1, w2⟩ := hvs k hk hkS (dd hkS hdn)
        refine ⟨w1, fun hnl => ?_⟩
        rcases hlast k hk hkS with h5 | ⟨h5, h6, h7⟩
        · exact q4 k _ hk hkS h5 (w2 (I.no _ h5))
        · exfalso
          obtain ⟨e, g1, g2, g3⟩ := hfl o ho (last k) h5 h6 h7
          exact hnl (du (g3 ▸ hdep e g1 g2))
      · exact q4 C _ hC hCS hlC vC
    · have seen : SeenY i N S d last V base o a x := ⟨fun j u hj hu => eval_some (by rw [I.kp j hj]; exact hu), fun e he hb hS' hl => by
        obtain ⟨h1, h2⟩ := hvs e.on (by have := hon e he hb; omega) hS' (hdep e he hb)
        rw [eval_some h1]
        refine h2 ?_
        rcases hl with hl | hl
        · rw [hl]; exact hnd
        · exact I.no _ hl⟩
      refine hop i o hiN hiS ho a x (fun hfi => I.box (early i hiN hiS hfi hnd)) seen _ (fun v x' hpv hb => ?_)
      have self : (a.put (some (d i)) v).tmps[d i]? = some v := by
        have h5 : d i < a.tmps.size := by rw [I.sz]; exact hs i hiN hiS
        simp [Act.put, h5]
      have keep : ∀ k, k < N → k ≠ S → k ≠ i → (a.put (some (d i)) v).tmps[d k]? = a.tmps[d k]? := fun k hk hkS hki => get_put _ _ _ _ (fun e => hki (hinj _ _ hk hiN hkS hiS e))
      refine ⟨cl', no', I.df, by rw [size_put]; exact I.sz, fun j hj => ?_, I.sto.grow hbl hb, ⟨fun k => if k = i then v else vs k, fun k hk hkS hdn => ?_⟩, fun h2 => ?_, fun h1 => ?_⟩
      · rw [get_put _ _ _ _ (fun e => hj i hiN e.symm)]
        exact I.kp j hj
      · by_cases e : k = i
        · subst e
          simp only [if_true]
          exact ⟨self, fun _ => hpv⟩
        · simp only [if_neg e]
          obtain ⟨h3, h4⟩ := hvs k hk hkS (dd e hdn)
          exact ⟨by rw [keep k hk hkS e]; exact h3, fun h6 => hV k _ _ _ hk (h4 (fun h => h6 (du h))) hb⟩
      · obtain ⟨b1, b2⟩ := I.box (fun h => h2 (du h))
        exact ⟨b1.trans (hb.mono b1.size), b2.on hb⟩
      · have h2 := dd (Ne.symm hiS) h1
        obtain ⟨u, h6, h8, h9⟩ := I.fin h2
        obtain ⟨ec, k4, k5, k6⟩ := hfl oS hoS' C hC hCS hflC
        have dC := I.cl S oS h2 hoS' ec k4 k5
        rw [k6] at dC
        have eC : C ≠ i := fun e => hnd (e ▸ dC)
        exact ⟨u, by rw [keep C hC hCS eC]; exact h6, h8.on hb, hV C _ _ _ hC h9 hb⟩
  · intro L a x I hd
    have dS := hd S (by omega)
    obtain ⟨v, h2, h4, h5⟩ := I.fin dS
    obtain ⟨vs, hvs⟩ := I.val
    exact hend a x v I.df I.sz I.kp h2 h4 h5 I.sto ⟨vs, fun i hi hiS => by
      obtain ⟨k1, k2⟩ := hvs i hi hiS (hd i (by omega))
      exact ⟨k1, fun hl => k2 (I.no _ hl)⟩⟩
end Go.Proofs.YtonoadjmglkhaaaGreat.Rg
