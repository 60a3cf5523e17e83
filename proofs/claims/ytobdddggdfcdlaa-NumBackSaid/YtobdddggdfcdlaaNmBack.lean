/-
  The law NumBack: numbers, texts, IDs, bytes, put one behind the other, are read again; then all is done; what isn't there whole is none, and all behind it. Conditions: numbers of 64 bits; texts no longer than a machine holds.
-/
import Derived.Test.YtobdddggdfcdlaaNmBackP
import Derived.Test.YtobdddggdfcdlaaNmOpen
import Derived.RegionTactic
namespace Go.Proofs.Ytobdddggdfcdlaa.Nm
open Go.RowKit Go.Sort Go.Proofs.Ytobdddggdfcdlaa Go.Proofs.Ytobdddggdfcdlaa.Rw

theorem stoodID : Try.prog.stoodInHeld 31 = false := by kernel_rfl
theorem neqID (a b : Int) (w : World) : (binOp .neq 31 (.agg #[.int .i64 a, .int .i64 b]) (.agg #[.int .i64 a, .int .i64 b])).run Try.prog w = .ok (.bool false) w := by
  have st := stoodID
  simp [go_sem, Try.underlying31, Try.underlying3, st]
theorem eqlID (a b : Int) (w : World) : (binOp .eql 31 (.agg #[.int .i64 a, .int .i64 b]) (.agg #[.int .i64 a, .int .i64 b])).run Try.prog w = .ok (.bool true) w := by
  have st := stoodID
  simp [go_sem, Try.underlying31, Try.underlying3, st]
theorem zeros_no : textB (zeros 256) = [] := textB_no (by rw [zeros_size]; decide)
noncomputable def backT : Code := afterN 4 (Try.f4.body.getD .skip)
def BackQ (w : World) (e : Ending) (w' : World) : Prop := e = .returned (.bool true) ∧ Below w.heap.size w w'
set_option maxRecDepth 100000 in
set_option maxHeartbeats 16000000 in
theorem back_end (w W : World) (n m : Int) (s : ByteArray) (c : UInt8) (x y : Int) (t : ByteArray) (cut : Int) (xb : Nat) (u4 u7 u8 u9 u10 u12 u13 u14 u16 u17 u18 u19 u20 u21 u22 u23 u24 u25 u26 u27 u28 u29 u30 u31 u32 u33 u34 u35 u36 u37 u38 u39 u40 u41 u42 u43 u44 u45 u46 u47 u48 u49 u50 u51 u52 u53 u54 u55 u56 u57 u58 u59 u60 u61 u62 u63 u64 u65 u66 u67 u68 u69 u70 u71 u72 u73 u74 u75 u76 u77 u78 u79 u80 u81 u82 u83 u84 u85 u86 u87 u88 u89 u90 u91 u92 u93 u94 u95 u96 u97 u98 u99 u100 u101 u102 u103 u104 u105 u106 u107 u108 u109 u110 u111 u112 u113 u114 u115 u116 u117 u118 u119 u120 u121 u122 u123 u124 u125 u126 u127 u128 u129 u130 u131 u132 u133 u134 u135 u136 u137 u138 u139 u140 u141 u142 u143 u144 u145 u146 u147 u148 u149 u150 u151 u152 u153 u154 u155 u156 u157 u158 u159 u160 u161 u162 u163 u164 u165 u166 u167 u168 u169 u170 u171 u172 u173 u174 u175 u176 u177 u178 u179 u180 u181 u182 u183 u184 u185 u186 u187 u188 u189 u190 u191 u192 u193 u194 u195 u196 u197 u198 u199 u200 u201 u202 u203 u204 u205 u206 u207 u208 u209 u210 u211 u212 u213 u214 u215 u216 u217 u218 u219 u220 u221 u222 u223 u224 u225 u226 u227 u228 u229 v : Value)
    (hx : Box W xb #[.int .i64 x, .int .i64 y] 31) (hs200 : s.size ≤ 200) (ht200 : t.size ≤ 30) (hn : I64 n) (hm : I64 m) (hxx : I64 x) (hyy : I64 y) (hcut : I64 cut) (hv : RowB W v (bl4 n m s c x y t)) (hb : Below w.heap.size w W) (hxb : w.heap.size ≤ xb) :
    Code.wp Try.prog backT (bodyPost Try.prog Try.f4 (BackQ w)) ⟨(.int .i64 n :: .int .i64 m :: .string s :: .string t :: u4 :: .int .u8 c.toNat :: .int .i64 cut :: u7 :: u8 :: u9 :: u10 :: .pointer (some ⟨xb, 0, none⟩) :: u12 :: u13 :: u14 :: v :: u16 :: u17 :: u18 :: u19 :: u20 :: u21 :: u22 :: u23 :: u24 :: u25 :: u26 :: u27 :: u28 :: u29 :: u30 :: u31 :: u32 :: u33 :: u34 :: u35 :: u36 :: u37 :: u38 :: u39 :: u40 :: u41 :: u42 :: u43 :: u44 :: u45 :: u46 :: u47 :: u48 :: u49 :: u50 :: u51 :: u52 :: u53 :: u54 :: u55 :: u56 :: u57 :: u58 :: u59 :: u60 :: u61 :: u62 :: u63 :: u64 :: u65 :: u66 :: u67 :: u68 :: u69 :: u70 :: u71 :: u72 :: u73 :: u74 :: u75 :: u76 :: u77 :: u78 :: u79 :: u80 :: u81 :: u82 :: u83 :: u84 :: u85 :: u86 :: u87 :: u88 :: u89 :: u90 :: u91 :: u92 :: u93 :: u94 :: u95 :: u96 :: u97 :: u98 :: u99 :: u100 :: u101 :: u102 :: u103 :: u104 :: u105 :: u106 :: u107 :: u108 :: u109 :: u110 :: u111 :: u112 :: u113 :: u114 :: u115 :: u116 :: u117 :: u118 :: u119 :: u120 :: u121 :: u122 :: u123 :: u124 :: u125 :: u126 :: u127 :: u128 :: u129 :: u130 :: u131 :: u132 :: u133 :: u134 :: u135 :: u136 :: u137 :: u138 :: u139 :: u140 :: u141 :: u142 :: u143 :: u144 :: u145 :: u146 :: u147 :: u148 :: u149 :: u150 :: u151 :: u152 :: u153 :: u154 :: u155 :: u156 :: u157 :: u158 :: u159 :: u160 :: u161 :: u162 :: u163 :: u164 :: u165 :: u166 :: u167 :: u168 :: u169 :: u170 :: u171 :: u172 :: u173 :: u174 :: u175 :: u176 :: u177 :: u178 :: u179 :: u180 :: u181 :: u182 :: u183 :: u184 :: u185 :: u186 :: u187 :: u188 :: u189 :: u190 :: u191 :: u192 :: u193 :: u194 :: u195 :: u196 :: u197 :: u198 :: u199 :: u200 :: u201 :: u202 :: u203 :: u204 :: u205 :: u206 :: u207 :: u208 :: u209 :: u210 :: u211 :: u212 :: u213 :: u214 :: u215 :: u216 :: u217 :: u218 :: u219 :: u220 :: u221 :: u222 :: u223 :: u224 :: u225 :: u226 :: u227 :: u228 :: u229 :: []).toArray, []⟩ W := by
  have X0 := Lib.hid hx
  have R0 := Lib.hid hv
  have B0 := Lib.hid hb
  have IN := Lib.hid hn
  have IM := Lib.hid hm
  have IX := Lib.hid hxx
  have IY := Lib.hid hyy
  have IC := Lib.hid hcut
  have HXB := Lib.hid hxb
  have LE := Lib.hid (bl4_len n m s c x y t (by omega) (by omega))
  have SW := Lib.hid (six_whole n m s c x y t hn hm (by omega) hxx hyy (by omega))
  have RD := Lib.hid (read_any v _ W hv (by rw [LE.out]; omega))
  obtain ⟨vo, vc, rfl⟩ := hv.len
  obtain ⟨bn, hbn⟩ : ∃ bn, bn = (bl4 n m s c x y t).length := ⟨_, rfl⟩
  rw [← hbn] at R0 RD ⊢
  have BN := Lib.hid (hbn.trans LE.out)
  have HBN := Lib.hid hbn
  have hlen : ((bn : Int) != 17 + (s.size : Int) + 1 + 16 + 1 + (t.size : Int)) = false := by
    have h := BN.out
    have h2 : (bn : Int) = 17 + (s.size : Int) + 1 + 16 + 1 + (t.size : Int) := by omega
    rw [h2]
    simp
  clear hx hv hb hn hm hxx hyy hcut hxb hbn LE
  unfold backT
  conv => arg 2; whnf
  go_wp2_with fail
  refine RD.out.mono ?_
  rintro e1 w1 ⟨⟨rb, rfl, hrb, hd⟩, hb⟩
  have B1 := Lib.hid (B0.out.trans (hb.mono B0.out.size))
  have A1 := Lib.hid hb
  have LB := Lib.hid hrb
  have D1 := Lib.hid hd
  have C1 := Lib.hid (number_any (.slice none 0 0) [] w1 (row_nil _) (by decide))
  clear hb hd hrb RD
  go_wp2_with fail
  refine C1.out.mono ?_
  rintro e2 w2 ⟨⟨v2, rfl, ho⟩, hb⟩
  obtain ⟨ao, ac, rfl⟩ := (Row.of_own ho).len
  have A2 := Lib.hid (A1.out.trans (hb.mono A1.out.size))
  have D2 := Lib.hid (D1.out.on hb)
  obtain ⟨w3, mk, o3, g3⟩ := make_full8 w2 256 (by decide)
  have Z3 := (Below.refl w2.heap.size w2).grown g3 (Nat.le_refl _) (fun j hj => by cases hj)
  have A3 := Lib.hid (A2.out.trans (Z3.mono A2.out.size))
  have D3 := Lib.hid (D2.out.on Z3)
  have cv : (convert 24 9 (.slice (some ⟨w2.heap.size, 0, none⟩) 256 256)).run Try.prog w3 = .ok (.string (zeros 256)) w3 := conv_row (Row.of_own o3)
  have T3 := Lib.hid (text_any (zeros 256) w3)
  replace mk : (Instr.makeSlice 24 (.int .i64 256) (.int .i64 256)).run Try.prog w2 = .ok (.slice (some ⟨w2.heap.size, 0, none⟩) 256 256) w3 := mk
  rw [zeros_no] at T3
  have e0 : (numsB []).length = 0 := rfl
  rw [e0]
  clear ho hb C1 A1 D1 A2 D2 Z3 o3 g3 e0
  generalize zeros 256 = z256 at *
  go_wp2_with fail
  refine T3.out.mono ?_
  rintro e4 w4 ⟨⟨v4, rfl, ho⟩, hb⟩
  obtain ⟨bo, bc, rfl⟩ := (Row.of_own ho).len
  have A4 := Lib.hid (A3.out.trans (hb.mono A3.out.size))
  have D4 := D3.out.on hb
  have Q4 := Lib.hid (num_any rb _ w4 D4)
  have HD4 := Lib.hid D4
  have e0 : ([] : List UInt8).length = 0 := rfl
  rw [e0]
  clear ho hb T3 A3 D3 mk cv e0 D4 hlen
  obtain ⟨s0, hs0⟩ : ∃ s0 : St, s0 = (bl4 n m s c x y t, false) := ⟨_, rfl⟩
  rw [← hs0] at Q4 HD4 SW
  have E1 := Lib.hid (show (numS s0).1 = n from congrArg Six.p SW.out)
  have E2 := Lib.hid (show (numS (numS s0).2).1 = m from congrArg Six.q SW.out)
  have E3 := Lib.hid (show (textS (numS (numS s0).2).2).1 = s from congrArg Six.u SW.out)
  have E4 := Lib.hid (show (byteS (textS (numS (numS s0).2).2).2).1 = c from congrArg Six.d SW.out)
  have E5 := Lib.hid (show (idS (byteS (textS (numS (numS s0).2).2).2).2).1 = (x, y) from congrArg Six.z SW.out)
  have E6 := Lib.hid (show (textS (idS (byteS (textS (numS (numS s0).2).2).2).2).2).1 = t from congrArg Six.v SW.out)
  have E7 := Lib.hid (show (textS (idS (byteS (textS (numS (numS s0).2).2).2).2).2).2 = ([], false) from congrArg Six.e SW.out)
  clear SW hs0
  go_wp2_with fail
  refine Q4.out.mono ?_
  rw [E1.out]
  rintro e5 w5 ⟨rfl, hd, hg⟩
  have A5 := Lib.hid (A4.out.trans (HD4.out.below LB.out hg))
  have HD5 := Lib.hid hd
  have Q5 := Lib.hid (num_any rb _ w5 hd)
  clear hd hg Q4 A4 HD4 E1
  generalize (numS s0).2 = s1 at *
  go_wp2_with fail
  refine Q5.out.mono ?_
  rw [E2.out]
  rintro e6 w6 ⟨rfl, hd, hg⟩
  have A6 := Lib.hid (A5.out.trans (HD5.out.below LB.out hg))
  have HD6 := Lib.hid hd
  have Q6 := Lib.hid (rtext_any rb _ w6 hd)
  clear hd hg Q5 A5 HD5 E2
  generalize (numS s1).2 = s2 at *
  go_wp2_with fail
  refine Q6.out.mono ?_
  rw [E3.out]
  rintro e7 w7 ⟨rfl, hd, hg⟩
  have A7 := Lib.hid (A6.out.trans (HD6.out.below LB.out hg))
  have HD7 := Lib.hid hd
  have Q7 := Lib.hid (byte_any rb _ w7 hd)
  clear hd hg Q6 A6 HD6 E3
  generalize (textS s2).2 = s3 at *
  go_wp2_with fail
  refine Q7.out.mono ?_
  rw [E4.out]
  rintro e8 w8 ⟨rfl, hd, hg⟩
  have A8 := Lib.hid (A7.out.trans (HD7.out.below LB.out hg))
  have HD8 := Lib.hid hd
  have Q8 := Lib.hid (rid_any rb _ w8 hd)
  clear hd hg Q7 A7 HD7 E4
  generalize (byteS s3).2 = s4 at *
  go_wp2_with fail
  refine Q8.out.mono ?_
  rw [E5.out]
  rintro e9 w9 ⟨rfl, hd, hg⟩
  have A9 := Lib.hid (A8.out.trans (HD8.out.below LB.out hg))
  have HD9 := Lib.hid hd
  have Q9 := Lib.hid (rtext_any rb _ w9 hd)
  clear hd hg Q8 A8 HD8 E5
  generalize (idS s4).2 = s5 at *
  go_wp2_with fail
  refine Q9.out.mono ?_
  rw [E6.out, E7.out]
  rintro e10 w10 ⟨rfl, hd, hg⟩
  have A10 := Lib.hid (A9.out.trans (HD9.out.below LB.out hg))
  have HD10 := Lib.hid hd
  clear hd hg Q9 A9 HD9 E6
  have nx := neqID x y
  have x11 := X0.out.on A10.out
  have c0 := x11.cell 0
  have c1 := x11.cell 1
  have hlt := x11.lt
  simp at c0 c1
  have Za := new_below w10 (.cells #[.int .i64 x, .int .i64 y] 31)
  have Aa := Lib.hid (A10.out.trans (Za.mono A10.out.size))
  have Da := HD10.out.on Za
  have Xa := Lib.hid (box_new w10 #[.int .i64 x, .int .i64 y] 31)
  have YB := Lib.hid A10.out.size
  have GD := Lib.hid (good_any rb _ _ Da)
  have DN := Lib.hid (done_any rb _ _ Da)
  have BT := Lib.hid (byte_any rb _ _ Da)
  have HDa := Lib.hid Da
  have NE := Lib.hid (show w10.heap.size ≠ rb from fun e => by have := HD10.out.lt; omega)
  clear x11 Za Da A10 HD10 E7
  go_wp2_with fail
  refine GD.out.mono ?_
  rintro e11 w11 ⟨rfl, rfl⟩
  simp only [Bool.not_false]
  clear c0 c1 hlt nx GD
  generalize w10.alloc (.cells #[.int .i64 x, .int .i64 y] 31) = wa at *
  generalize w10.heap.size = yb at *
  go_wp2_with fail
  refine DN.out.mono ?_
  rintro e11 w11 ⟨rfl, rfl⟩
  simp only [doneS]
  go_wp2_with fail
  refine BT.out.mono ?_
  rw [byteS_nil]
  rintro e11 w11 ⟨rfl, hd, hg⟩
  have A11 := Lib.hid (Aa.out.trans (HDa.out.below LB.out hg))
  have X11 := Lib.hid (show Box w11 yb #[.int .i64 x, .int .i64 y] 31 from (hg.block _ Xa.out.lt (fun e => NE.out (Option.some.inj e))).trans Xa.out)
  have GD := Lib.hid (good_any rb _ _ hd)
  clear hd hg DN BT HDa Aa Xa
  go_wp2_with fail
  refine GD.out.mono ?_
  rintro e12 w12 ⟨rfl, rfl⟩
  have hb1 : (35 : Int) ≤ (bn : Int) := by have := BN.out; omega
  have hb2 : (bn : Int) ≤ 265 := by have := BN.out; omega
  have WI := Lib.hid (Wi.within_any cut 0 ((bn : Int) - 1) w11 (by omega) (by omega) (by omega) IC.out.1 IC.out.2)
  have WB := Wi.within_bd cut 0 ((bn : Int) - 1) (by omega)
  obtain ⟨k, hk⟩ : ∃ k : Nat, (k : Int) = Wi.within cut 0 ((bn : Int) - 1) := ⟨(Wi.within cut 0 ((bn : Int) - 1)).toNat, by omega⟩
  rw [← hk] at WB WI
  have hkb : k < bn := by omega
  have CU := Lib.hid (six_cut n m s c x y t IN.out IM.out (by omega) IX.out IY.out (by omega) k (by rw [← HBN.out]; exact hkb))
  have R11 := R0.out.on A11.out
  obtain ⟨lo, slo, rlo⟩ := row_lo8 R11 k (by rw [← HBN.out]; omega)
  have RD2 := Lib.hid (read_any lo _ w11 rlo (by rw [List.length_take]; omega))
  clear GD hk WB R11 rlo
  simp only [Bool.not_true]
  go_wp2_with fail
  refine WI.out.mono ?_
  rintro e13 w13 ⟨rfl, rfl⟩
  clear WI
  go_wp2_with fail
  refine RD2.out.mono ?_
  rintro e13 w13 ⟨⟨rc, rfl, hrc, hd⟩, hb⟩
  have A13 := Lib.hid hb
  have LC := Lib.hid hrc
  obtain ⟨s0, hs0⟩ : ∃ s0 : St, s0 = ((bl4 n m s c x y t).take k, false) := ⟨_, rfl⟩
  rw [← hs0] at CU hd
  have HD13 := Lib.hid hd
  have Q13 := Lib.hid (num_any rc _ w13 hd)
  have CE := Lib.hid (show (textS (idS (byteS (textS (numS (numS s0).2).2).2).2).2).2 = ([], true) from CU.out.e)
  have CV := Lib.hid (show (textS (idS (byteS (textS (numS (numS s0).2).2).2).2).2).1 = ⟨#[]⟩ from CU.out.v)
  have CL := Lib.hid (show k < 8 → (numS s0).1 = 0 ∧ (numS (numS s0).2).1 = 0 ∧ (textS (numS (numS s0).2).2).1 = ⟨#[]⟩ ∧ (byteS (textS (numS (numS s0).2).2).2).1 = 0 ∧ (idS (byteS (textS (numS (numS s0).2).2).2).2).1 = (0, 0) from CU.out.lo)
  have CM := Lib.hid (show 8 ≤ k → (numS s0).1 = n from CU.out.mid)
  have CH := Lib.hid (show 8 ≤ k → k < 16 → (numS (numS s0).2).1 = 0 ∧ (textS (numS (numS s0).2).2).1 = ⟨#[]⟩ ∧ (byteS (textS (numS (numS s0).2).2).2).1 = 0 ∧ (idS (byteS (textS (numS (numS s0).2).2).2).2).1 = (0, 0) from CU.out.hi)
  clear hb hrc hd RD2 slo CU hs0 R0 HBN
  generalize (numS s0).1 = p at *
  generalize (numS s0).2 = s1 at *
  go_wp2_with fail
  refine Q13.out.mono ?_
  rintro e14 w14 ⟨rfl, hd, hg⟩
  have A14 := Lib.hid (A13.out.trans (HD13.out.below LC.out hg))
  have HD14 := Lib.hid hd
  have Q14 := Lib.hid (num_any rc _ w14 hd)
  clear hd hg Q13 A13 HD13
  generalize (numS s1).1 = q at *
  generalize (numS s1).2 = s2 at *
  go_wp2_with fail
  refine Q14.out.mono ?_
  rintro e15 w15 ⟨rfl, hd, hg⟩
  have A15 := Lib.hid (A14.out.trans (HD14.out.below LC.out hg))
  have HD15 := Lib.hid hd
  have Q15 := Lib.hid (rtext_any rc _ w15 hd)
  clear hd hg Q14 A14 HD14
  generalize (textS s2).1 = uu at *
  generalize (textS s2).2 = s3 at *
  go_wp2_with fail
  refine Q15.out.mono ?_
  rintro e16 w16 ⟨rfl, hd, hg⟩
  have A16 := Lib.hid (A15.out.trans (HD15.out.below LC.out hg))
  have HD16 := Lib.hid hd
  have Q16 := Lib.hid (byte_any rc _ w16 hd)
  clear hd hg Q15 A15 HD15
  generalize (byteS s3).1 = d at *
  generalize (byteS s3).2 = s4 at *
  go_wp2_with fail
  refine Q16.out.mono ?_
  rintro e17 w17 ⟨rfl, hd, hg⟩
  have A17 := Lib.hid (A16.out.trans (HD16.out.below LC.out hg))
  have HD17 := Lib.hid hd
  have Q17 := Lib.hid (rid_any rc _ w17 hd)
  clear hd hg Q16 A16 HD16
  generalize (idS s4).1 = z at *
  generalize (idS s4).2 = s5 at *
  obtain ⟨z1, z2⟩ := z
  go_wp2_with fail
  refine Q17.out.mono ?_
  rintro e18 w18 ⟨rfl, hd, hg⟩
  have A18 := Lib.hid (A17.out.trans (HD17.out.below LC.out hg))
  have HD18 := Lib.hid hd
  have Q18 := Lib.hid (rtext_any rc _ w18 hd)
  clear hd hg Q17 A17 HD17
  generalize (textS s5).1 = vv at *
  generalize (textS s5).2 = s6 at *
  go_wp2_with fail
  refine Q18.out.mono ?_
  rintro e19 w19 ⟨rfl, hd, hg⟩
  have A19 := Lib.hid (A18.out.trans (HD18.out.below LC.out hg))
  have HD19 := Lib.hid hd
  clear hd hg Q18 A18 HD18
  obtain rfl := CE.out
  obtain rfl := CV.out
  have X19 := X11.out.on A19.out
  have c0 := X19.cell 0
  have c1 := X19.cell 1
  have f0 := X19.fr 0
  have f1 := X19.fr 1
  have hlt := X19.lt
  simp at c0 c1
  have BZ0 := B0.out.trans ((A11.out.trans (A19.out.mono A11.out.size)).mono B0.out.size)
  have hyb : w.heap.size ≤ yb := Nat.le_trans B0.out.size YB.out
  have BZ := Lib.hid ((BZ0.setCell (p := ⟨yb, 0, none⟩) hyb (.int .i64 z1)).setCell (p := ⟨yb, 1, none⟩) hyb (.int .i64 z2))
  have XZ := Lib.hid (box_set (k := 1) (box_set (k := 0) X19 (.int .i64 z1)) (.int .i64 z2))
  have NY := Lib.hid (show yb ≠ rc from fun e => by have h1 := X11.out.lt; have h2 := LC.out; omega)
  have HZ := Lib.hid (show Rd ((w19.setCell ⟨yb, 0, none⟩ (.int .i64 z1)).setCell ⟨yb, 1, none⟩ (.int .i64 z2)) rc ([], true) from
    (HD19.out.other (k := 0) X19 (two_ints x y) NY.out (.int .i64 z1)).other (k := 1) (box_set (k := 0) X19 (.int .i64 z1)) (two_ints z1 y) NY.out (.int .i64 z2))
  have GD := Lib.hid (good_any rc _ _ HZ.out)
  have DN := Lib.hid (done_any rc _ _ HZ.out)
  clear BZ0 A11 A19 HD19
  go_wp2_with fail
  refine GD.out.mono ?_
  rintro e20 w20 ⟨rfl, rfl⟩
  simp only [Bool.not_true]
  clear c0 c1 f0 f1 hlt X19 GD
  rw [show (#[.int .i64 x, .int .i64 y] : Array Value).setIfInBounds 0 (.int .i64 z1) = #[.int .i64 z1, .int .i64 y] from rfl, show (#[.int .i64 z1, .int .i64 y] : Array Value).setIfInBounds 1 (.int .i64 z2) = #[.int .i64 z1, .int .i64 z2] from rfl] at XZ
  generalize (w19.setCell ⟨yb, 0, none⟩ (.int .i64 z1)).setCell ⟨yb, 1, none⟩ (.int .i64 z2) = wz at *
  go_wp2_with fail
  refine DN.out.mono ?_
  rintro e20 w20 ⟨rfl, rfl⟩
  simp only [doneS]
  have c0 := XZ.out.cell 0
  have c1 := XZ.out.cell 1
  simp at c0 c1
  have Q20 := Lib.hid (num_any rc _ wz HZ.out)
  rw [numS_bad] at Q20
  clear DN
  rcases (by omega : (k : Int) < 8 ∨ (8 ≤ (k : Int) ∧ (k : Int) < 16) ∨ 16 ≤ (k : Int)) with h8 | ⟨h8, h16⟩ | h16
  · obtain ⟨rfl, rfl, rfl, rfl, ez⟩ := CL.out (by omega)
    obtain ⟨rfl, rfl⟩ := Prod.mk.inj ez
    have nz := neqID 0 0
    clear CL CM CH ez
    go_wp2_with fail
    refine Q20.out.mono ?_
    rintro e21 w21 ⟨rfl, hd, hg⟩
    have B21 := Lib.hid (BZ.out.trans (HZ.out.below (Nat.le_trans (Nat.le_trans B0.out.size (by have h1 := X11.out.lt; have h2 := YB.out; omega)) LC.out) hg))
    have HW21 := Lib.hid (show w.heap.size ≤ rc from Nat.le_trans (Nat.le_trans B0.out.size (by have h1 := X11.out.lt; have h2 := YB.out; omega)) LC.out)
    have HD21 := Lib.hid hd
    have Q21 := Lib.hid (rtext_any rc _ w21 hd)
    rw [textS_bad] at Q21
    clear hd hg Q20 c0 c1
    go_wp2_with fail
    refine Q21.out.mono ?_
    rintro e22 w22 ⟨rfl, hd, hg⟩
    have B22 := Lib.hid (B21.out.trans (HD21.out.below HW21.out hg))
    have HD22 := Lib.hid hd
    have Q22 := Lib.hid (rid_any rc _ w22 hd)
    rw [idS_bad] at Q22
    have ne := eqlID 0 0
    clear hd hg Q21 B21 HD21
    go_wp2_with fail
    refine Q22.out.mono ?_
    rintro e23 w23 ⟨rfl, hd, hg⟩
    have B23 := Lib.hid (B22.out.trans (HD22.out.below HW21.out hg))
    have RU := Lib.hid (runs_any w23)
    clear hd hg Q22 B22 HD22
    go_wp2_with fail
    refine RU.out.mono ?_
    rintro e24 w24 ⟨rfl, hb⟩
    have B24 := Lib.hid (B23.out.trans (hb.mono B23.out.size))
    clear hb RU B23
    go_wp2_with fail
    go_ret
    exact ⟨rfl, B24.out⟩
  · obtain rfl := CM.out (by omega)
    obtain ⟨rfl, rfl, rfl, ez⟩ := CH.out (by omega) (by omega)
    obtain ⟨rfl, rfl⟩ := Prod.mk.inj ez
    have nz := neqID 0 0
    clear CL CM CH ez
    go_wp2_with fail
    refine Q20.out.mono ?_
    rintro e21 w21 ⟨rfl, hd, hg⟩
    have B21 := Lib.hid (BZ.out.trans (HZ.out.below (Nat.le_trans (Nat.le_trans B0.out.size (by have h1 := X11.out.lt; have h2 := YB.out; omega)) LC.out) hg))
    have HW21 := Lib.hid (show w.heap.size ≤ rc from Nat.le_trans (Nat.le_trans B0.out.size (by have h1 := X11.out.lt; have h2 := YB.out; omega)) LC.out)
    have HD21 := Lib.hid hd
    have Q21 := Lib.hid (rtext_any rc _ w21 hd)
    rw [textS_bad] at Q21
    clear hd hg Q20 c0 c1
    go_wp2_with fail
    refine Q21.out.mono ?_
    rintro e22 w22 ⟨rfl, hd, hg⟩
    have B22 := Lib.hid (B21.out.trans (HD21.out.below HW21.out hg))
    have HD22 := Lib.hid hd
    have Q22 := Lib.hid (rid_any rc _ w22 hd)
    rw [idS_bad] at Q22
    have ne := eqlID 0 0
    clear hd hg Q21 B21 HD21
    go_wp2_with fail
    refine Q22.out.mono ?_
    rintro e23 w23 ⟨rfl, hd, hg⟩
    have B23 := Lib.hid (B22.out.trans (HD22.out.below HW21.out hg))
    have RU := Lib.hid (runs_any w23)
    clear hd hg Q22 B22 HD22
    go_wp2_with fail
    refine RU.out.mono ?_
    rintro e24 w24 ⟨rfl, hb⟩
    have B24 := Lib.hid (B23.out.trans (hb.mono B23.out.size))
    clear hb RU B23
    go_wp2_with fail
    go_ret
    exact ⟨rfl, B24.out⟩
  · obtain rfl := CM.out (by omega)
    have h8 : (8 : Int) ≤ (k : Int) := by omega
    clear CL CM CH
    go_wp2_with fail
    refine Q20.out.mono ?_
    rintro e21 w21 ⟨rfl, hd, hg⟩
    have B21 := Lib.hid (BZ.out.trans (HZ.out.below (Nat.le_trans (Nat.le_trans B0.out.size (by have h1 := X11.out.lt; have h2 := YB.out; omega)) LC.out) hg))
    have HW21 := Lib.hid (show w.heap.size ≤ rc from Nat.le_trans (Nat.le_trans B0.out.size (by have h1 := X11.out.lt; have h2 := YB.out; omega)) LC.out)
    have HD21 := Lib.hid hd
    have Q21 := Lib.hid (rtext_any rc _ w21 hd)
    rw [textS_bad] at Q21
    clear hd hg Q20 c0 c1
    go_wp2_with fail
    refine Q21.out.mono ?_
    rintro e22 w22 ⟨rfl, hd, hg⟩
    have B22 := Lib.hid (B21.out.trans (HD21.out.below HW21.out hg))
    have HD22 := Lib.hid hd
    have Q22 := Lib.hid (rid_any rc _ w22 hd)
    rw [idS_bad] at Q22
    have ne := eqlID 0 0
    clear hd hg Q21 B21 HD21
    go_wp2_with fail
    refine Q22.out.mono ?_
    rintro e23 w23 ⟨rfl, hd, hg⟩
    have B23 := Lib.hid (B22.out.trans (HD22.out.below HW21.out hg))
    have RU := Lib.hid (runs_any w23)
    clear hd hg Q22 B22 HD22
    go_wp2_with fail
    refine RU.out.mono ?_
    rintro e24 w24 ⟨rfl, hb⟩
    have B24 := Lib.hid (B23.out.trans (hb.mono B23.out.size))
    clear hb RU B23
    go_wp2_with fail
    go_ret
    exact ⟨rfl, B24.out⟩
end Go.Proofs.Ytobdddggdfcdlaa.Nm
