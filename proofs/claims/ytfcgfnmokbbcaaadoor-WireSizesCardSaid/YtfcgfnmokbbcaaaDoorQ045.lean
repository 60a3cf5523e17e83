/-
  The end of the law WireSizes: the greatest message and a publication of five texts are within their bound, and the first comes back. Conditions: package errors' variable holds the handle of the type 'error'; a number of 64 bits.
  The law WireSizes: the greatest message is within its bound, each kind begins with its number, a message by itself is not another one's beginning. Conditions: package errors' variable holds the handle of the type 'error'; numbers of 64 bits; lists no longer than a machine holds.
-/
import Derived.Test.YtfcgfnmokbbcaaaDoorQ044
import Derived.Test.YtfcgfnmokbbcaaaDoorQ034
import Derived.Test.YtfcgfnmokbbcaaaDoorQ043
import Derived.Test.YtfcgfnmokbbcaaaDoorQ042
import Derived.Lib.QuietBelow
import Derived.BigQuiet
namespace Go.Proofs.YtfcgfnmokbbcaaaDoor.Ws
open Go.RowKit Go.Sort Go.Proofs.YtfcgfnmokbbcaaaDoor Go.Proofs.YtfcgfnmokbbcaaaDoor.Rw Go.Proofs.YtfcgfnmokbbcaaaDoor.Nm Go.Proofs.YtfcgfnmokbbcaaaDoor.At Go.Proofs.YtfcgfnmokbbcaaaDoor.Pr Go.Proofs.YtfcgfnmokbbcaaaDoor.Wr Go.Proofs.YtfcgfnmokbbcaaaDoor.Wi Go.Proofs.YtfcgfnmokbbcaaaDoor.Va

theorem nmA_is (j : Nat) : ((⟨#[97, 97, 97, 97, 97, 97, 97, 97, 97, 97, 97]⟩ : ByteArray) ++ ⟨#[UInt8.ofNat (97 + j)]⟩) = nmA j := ByteArray.ext (by simp [nmA])
noncomputable def sizesT : Code := afterN 5 (Tryd.f6.body.getD .skip)
set_option maxRecDepth 100000 in
set_option maxHeartbeats 16000000 in
theorem sizes_tail (w W : World) (n2 : Int) (hb : Below w.heap.size w W) (hg : GE w) (hn : I64 n2)
    (u0 u1 u3 u4 u5 u6 u7 u8 u9 u10 u11 u12 u13 u14 u15 u16 u17 u18 u19 u20 u21 u22 u23 u24 u25 u26 u27 u28 u29 u30 u31 u32 u33 u34 u35 u36 u37 u38 u39 u40 u41 u42 u43 u44 u45 u46 u47 u48 u49 u50 u51 u52 u53 u54 u55 u56 u57 u58 u59 u60 u61 u62 u63 u64 u65 u66 u67 u68 u69 u70 u71 u72 u73 u74 u75 u76 u77 u78 u79 u80 u81 u82 u83 u84 u85 u86 u87 u88 u89 u90 u91 u92 u93 u94 u95 u96 u97 u98 u99 u100 u101 u102 u103 u104 u105 u106 u107 u108 u109 u110 u111 u112 u113 u114 u115 u116 u117 u118 u119 u120 u121 u122 u123 u124 u125 u126 u127 u128 u129 u130 u131 u132 u133 u134 u135 u136 u137 u138 u139 u140 u141 u142 u143 u144 u145 : Value) :
    Code.wp Tryd.prog sizesT (bodyPost Tryd.prog Tryd.f6 (RQ w)) ⟨(u0 :: u1 :: .int .i64 n2 :: u3 :: u4 :: u5 :: u6 :: u7 :: u8 :: u9 :: u10 :: u11 :: u12 :: u13 :: u14 :: u15 :: u16 :: u17 :: u18 :: u19 :: u20 :: u21 :: u22 :: u23 :: u24 :: u25 :: u26 :: u27 :: u28 :: u29 :: u30 :: u31 :: u32 :: u33 :: u34 :: u35 :: u36 :: u37 :: u38 :: u39 :: u40 :: u41 :: u42 :: u43 :: u44 :: u45 :: u46 :: u47 :: u48 :: u49 :: u50 :: u51 :: u52 :: u53 :: u54 :: u55 :: u56 :: u57 :: u58 :: u59 :: u60 :: u61 :: u62 :: u63 :: u64 :: u65 :: u66 :: u67 :: u68 :: u69 :: u70 :: u71 :: u72 :: u73 :: u74 :: u75 :: u76 :: u77 :: u78 :: u79 :: u80 :: u81 :: u82 :: u83 :: u84 :: u85 :: u86 :: u87 :: u88 :: u89 :: u90 :: u91 :: u92 :: u93 :: u94 :: u95 :: u96 :: u97 :: u98 :: u99 :: u100 :: u101 :: u102 :: u103 :: u104 :: u105 :: u106 :: u107 :: u108 :: u109 :: u110 :: u111 :: u112 :: u113 :: u114 :: u115 :: u116 :: u117 :: u118 :: u119 :: u120 :: u121 :: u122 :: u123 :: u124 :: u125 :: u126 :: u127 :: u128 :: u129 :: u130 :: u131 :: u132 :: u133 :: u134 :: u135 :: u136 :: u137 :: u138 :: u139 :: u140 :: u141 :: u142 :: u143 :: u144 :: u145 :: []).toArray, []⟩ W := by
  have G0 := Lib.hid hg
  have WI := Lib.hid (within_any n2 0 31 W (by omega) (by omega) (by omega) hn.1 hn.2)
  have wb := within_bd n2 0 31 (by omega)
  generalize within n2 0 31 = z at *
  have ZB := Lib.hid wb
  have S0 := Lib.hid (Sz.start hb z)
  clear hb hg hn wb
  unfold sizesT
  conv => arg 2; whnf
  go_wp2_with fail
  refine WI.out.mono ?_
  rintro e1 w1 ⟨rfl, rfl⟩
  clear WI
  have c0 := (box_new W #[.int .i64 3, .int .i64 31, .int .i64 9223372036854775807, .int .i64 z, .int .i64 0, nilS, nilS] 32).cell 1
  have c1 := (box_new W #[.int .i64 3, .int .i64 31, .int .i64 9223372036854775807, .int .i64 z, .int .i64 0, nilS, nilS] 32).cell 2
  simp only [List.getElem?_toArray, List.getElem?_cons_zero, List.getElem?_cons_succ] at c0 c1
  go_wp2_with fail
  go_loopw [78] (fun i wr => ∃ j : Nat, j ≤ 5 ∧ i = .int .i64 j ∧ ∃ pv lv, Sz w wr W.heap.size z j j pv lv) (fun i _ => 5 - (intOf i).toNat)
  case atStart => exact ⟨0, Nat.zero_le _, rfl, nilS, nilS, S0.out⟩
  case round =>
    obtain ⟨j, hj, rfl, pv, lv, hs⟩ := hrel
    by_cases hlt : j < 5
    · have S1 := Lib.hid hs
      have lt5 : decide ((j : Int) < 5) = true := decide_eq_true (by omega)
      have hw1 : IntKind.i64.wrap (97 + (j : Int)) = 97 + (j : Int) := IntWalk.i64_in _ (by omega)
      have hw2 : (97 + (j : Int)) % 256 = 97 + (j : Int) := by omega
      have hu : ((UInt8.ofNat (97 + j)).toNat : Int) = 97 + (j : Int) := by rw [UInt8.toNat_ofNat']; omega
      have hw3 : IntKind.i64.wrap ((j : Int) + 1) = (j : Int) + 1 := IntWalk.i64_in _ (by omega)
      have N2 := Lib.hid (new_below wr (.cells #[.int .u8 (UInt8.ofNat (97 + j)).toNat] 5))
      have cv : (convert 22 9 (.slice (some ⟨wr.heap.size, 0, none⟩) 1 1)).run Tryd.prog (wr.alloc (.cells #[.int .u8 (UInt8.ofNat (97 + j)).toNat] 5)) = .ok (.string ⟨[UInt8.ofNat (97 + j)].toArray⟩) (wr.alloc (.cells #[.int .u8 (UInt8.ofNat (97 + j)).toNat] 5)) := conv_row (Row.of_own (row_lit okB wr [UInt8.ofNat (97 + j)] 1 rfl (by simp) #[.int .u8 (UInt8.ofNat (97 + j)).toNat] rfl))
      rw [hu] at cv N2
      have hnm := nmA_is j
      generalize UInt8.ofNat (97 + j) = c at *
      clear hs hu
      go_upto_region 12 with fail
      have S2 := Lib.hid (S1.out.on N2.out)
      clear S1 N2 cv hw2 hnm
      generalize wr.alloc (.cells #[.int .u8 (97 + (j : Int))] 5) = wA at *
      obtain ⟨g3, q3, w3, r3, b3, s3⟩ := S2.out.pushC (by omega) wA.heap.size rfl
      have S3 := Lib.hid s3
      have y5 := S2.out.x1.cell 5
      have z5 := b3.cell 5
      have f5 := b3.fr 5
      have l5 := b3.lt
      simp only [List.getElem?_toArray, List.getElem?_cons_zero, List.getElem?_cons_succ] at y5 z5
      clear s3 b3 S2
      go_upto_region 13 with (first | (at_builtin; refine wpList_append_run rfl _ _ 29 rfl rfl rfl r3 ?_) | fail)
      clear r3 y5 z5 f5 l5
      generalize w3.setCell ⟨W.heap.size, 5, none⟩ (.slice (some ⟨g3, 0, none⟩) (j + 1) q3) = wB at *
      obtain ⟨g4, q4, w4, r4, b4, s4⟩ := S3.out.pushA (by omega) wB.heap.size rfl
      have S4 := Lib.hid s4
      have y5 := S3.out.x2.cell 6
      have z5 := b4.cell 6
      have f5 := b4.fr 6
      have l5 := b4.lt
      simp only [List.getElem?_toArray, List.getElem?_cons_zero, List.getElem?_cons_succ] at y5 z5
      clear s4 b4 S3
      go_wp2_with (first | (at_builtin; refine wpList_append_run rfl _ _ 30 rfl rfl rfl r4 ?_) | fail)
      clear r4 y5 z5 f5 l5
      go_roundw
      case rel => exact ⟨j + 1, by omega, by go_num, _, _, S4.out⟩
      case measure => simp [intOf]; omega
    · obtain rfl : j = 5 := by omega
      obtain ⟨g5, q5, rfl⟩ : ∃ g q, pv = .slice (some ⟨g, 0, none⟩) 5 q := by
        rcases own_open hs.o1 with ⟨_, e⟩ | ⟨g, cap, cur, e, _⟩
        · have := congrArg List.length e; rw [conL_len] at this; simp at this
        · exact ⟨g, cap, by rw [e, conL_len]⟩
      obtain ⟨g6, q6, rfl⟩ : ∃ g q, lv = .slice (some ⟨g, 0, none⟩) 5 q := by
        rcases own_open hs.o2 with ⟨_, e⟩ | ⟨g, cap, cur, e, _⟩
        · have := congrArg List.length e; rw [attL_len] at this; simp at this
        · exact ⟨g, cap, by rw [e, attL_len]⟩
      have S1 := Lib.hid hs
      have EC := Lib.hid (enc_ok (bigM z 5) _ nilS wr ⟨Row.of_own hs.o1, Or.inl ⟨rfl, rfl⟩⟩ (bigM_small z) (bigM_right z ZB.out))
      have BL := (bytesM_len (bigM_right z ZB.out)).2
      have BK := Lib.hid (decM_back (bigM_right z ZB.out) (bigM_64 z ZB.out))
      have BP := (bytesM_len pubM_right).2
      clear hs S0 c0 c1
      generalize hbs : bytesM (bigM z 5) = bs at *
      generalize hps : bytesM (pubM 5) = ps at *
      obtain ⟨L, hL⟩ : ∃ L, L = bs.length := ⟨_, rfl⟩
      obtain ⟨P, hP⟩ : ∃ P, P = ps.length := ⟨_, rfl⟩
      rw [← hL] at BL
      rw [← hP] at BP
      have HL := Lib.hid hL
      have HP := Lib.hid hP
      have HPS := Lib.hid hps
      clear hL hP hbs hps
      have xX := S1.out.x1
      have x0 := xX.cell 0
      have x1 := xX.cell 1
      have x2 := xX.cell 2
      have x3 := xX.cell 3
      have x4 := xX.cell 4
      have x5 := xX.cell 5
      have x6 := xX.cell 6
      simp only [List.getElem?_toArray, List.getElem?_cons_zero, List.getElem?_cons_succ] at x0 x1 x2 x3 x4 x5 x6
      clear xX
      go_wp2_with fail
      refine EC.out.mono ?_
      rintro e2 w2 ⟨⟨v2, rfl, ho2⟩, hb⟩
      have S2 := Lib.hid (S1.out.on hb)
      have R2 := Lib.hid (Row.of_own ho2)
      obtain ⟨bo2, bc2, rfl⟩ := (Row.of_own ho2).len
      rw [← HL.out] at R2 ⊢
      have EC2 := Lib.hid (enc_ok (pubM 5) nilS _ w2 ⟨row_nil _, row_EA.2 (Row.of_own S2.out.o2)⟩ pubM_small pubM_right)
      rw [HPS.out] at EC2
      clear hb ho2 EC S1 x0 x1 x2 x3 x4 x5 x6
      have xX := S2.out.x2
      have x0 := xX.cell 0
      have x1 := xX.cell 1
      have x2 := xX.cell 2
      have x3 := xX.cell 3
      have x4 := xX.cell 4
      have x5 := xX.cell 5
      have x6 := xX.cell 6
      simp only [List.getElem?_toArray, List.getElem?_cons_zero, List.getElem?_cons_succ] at x0 x1 x2 x3 x4 x5 x6
      clear xX
      go_wp2_with fail
      refine EC2.out.mono ?_
      rintro e3 w3 ⟨⟨v3, rfl, ho3⟩, hb⟩
      have S3 := Lib.hid (S2.out.on hb)
      have R3 := Lib.hid (R2.out.on hb)
      obtain ⟨bo3, bc3, rfl⟩ := (Row.of_own ho3).len
      rw [← HP.out]
      have DC := Lib.hid (dec_some _ bs w3 R3.out (bigM z 5) BK.out)
      clear hb ho3 EC2 S2 R2 HPS x0 x1 x2 x3 x4 x5 x6
      go_wp2_with fail
      refine DC.out.mono ?_
      rintro e4 w4 ⟨⟨pv, lv, rfl, hop, hol⟩, hb⟩
      have S4 := Lib.hid (S3.out.on hb)
      obtain ⟨po, pc, rfl⟩ := (Row.of_own hop).len
      obtain ⟨l0, lc, rfl⟩ := (Row.of_own hol).len
      have hin : MgIn w4 (bigM z 5) (.slice po (conL 5).length pc) (.slice l0 0 lc) := ⟨Row.of_own hop, row_EA.2 (Row.of_own hol)⟩
      rw [conL_len] at hin ⊢
      have N5 := Lib.hid (new_below w4 (.cells (mcells (bigM z 5) (.slice po 5 pc) (.slice l0 0 lc)) 32))
      have X5 := Lib.hid (box_new w4 (mcells (bigM z 5) (.slice po 5 pc) (.slice l0 0 lc)) 32)
      have S5 := Lib.hid (S4.out.on N5.out)
      have MS := Lib.hid (messages_any (bigM z 5) (bigM z 5) _ _ _ nilS (w4.alloc (.cells (mcells (bigM z 5) (.slice po 5 pc) (.slice l0 0 lc)) 32)) (hin.on N5.out) ⟨Row.of_own S5.out.o1, Or.inl ⟨rfl, rfl⟩⟩ (by rw [conL_len]; omega) (by rw [conL_len]; omega) (by simp) (by simp))
      rw [sameM_refl] at MS
      have dl1 : decide ((L : Int) ≤ 600) = true := decide_eq_true (by omega)
      have dl2 : decide ((P : Int) ≤ 600) = true := decide_eq_true (by omega)
      clear hb hop hol hin DC S3 S4 N5 R3 BL BP BK HL HP
      have xX := S5.out.x1
      have x0 := xX.cell 0
      have x1 := xX.cell 1
      have x2 := xX.cell 2
      have x3 := xX.cell 3
      have x4 := xX.cell 4
      have x5 := xX.cell 5
      have x6 := xX.cell 6
      simp only [List.getElem?_toArray, List.getElem?_cons_zero, List.getElem?_cons_succ] at x0 x1 x2 x3 x4 x5 x6
      clear xX
      have yX := X5.out
      have y0 := yX.cell 0
      have y1 := yX.cell 1
      have y2 := yX.cell 2
      have y3 := yX.cell 3
      have y4 := yX.cell 4
      have y5 := yX.cell 5
      have y6 := yX.cell 6
      simp only [List.getElem?_toArray, List.getElem?_cons_zero, List.getElem?_cons_succ] at y0 y1 y2 y3 y4 y5 y6
      clear yX
      go_wp2_with fail
      refine MS.out.mono ?_
      rintro e6 w6 ⟨rfl, hb⟩
      have B6 := Lib.hid (S5.out.on hb).be
      have RU := Lib.hid (runs_any w6 (G0.out.on B6.out).eg)
      clear hb MS X5 S5 x0 x1 x2 x3 x4 x5 x6 y0 y1 y2 y3 y4 y5 y6
      go_wp2_with fail
      refine RU.out.mono ?_
      rintro e8 w8 ⟨rfl, hb⟩
      have B8 := Lib.hid (B6.out.trans (hb.mono B6.out.size))
      clear hb RU B6
      go_wp2_with fail
      go_ret
      exact ⟨rfl, B8.out⟩
end Go.Proofs.YtfcgfnmokbbcaaaDoor.Ws

namespace Go.Proofs.YtfcgfnmokbbcaaaDoor.Ws
open Go.RowKit Go.Sort Go.Proofs.YtfcgfnmokbbcaaaDoor Go.Proofs.YtfcgfnmokbbcaaaDoor.Rw Go.Proofs.YtfcgfnmokbbcaaaDoor.Nm Go.Proofs.YtfcgfnmokbbcaaaDoor.At Go.Proofs.YtfcgfnmokbbcaaaDoor.Pr Go.Proofs.YtfcgfnmokbbcaaaDoor.Wr Go.Proofs.YtfcgfnmokbbcaaaDoor.Wi Go.Proofs.YtfcgfnmokbbcaaaDoor.In Go.Proofs.YtfcgfnmokbbcaaaDoor.Va

theorem box_two (w : World) (c d : Array Value) (s t : TypeId) : Box ((w.alloc (.cells c s)).alloc (.cells d t)) (w.heap.size + 1) d t := by
  have h := box_new (w.alloc (.cells c s)) d t
  simpa using h
theorem bytes_first (m : Mg) (h : rightM m = true) : (bytesM m)[0]? = some (UInt8.ofNat m.k.toNat) ∧ ((UInt8.ofNat m.k.toNat).toNat : Int) = m.k ∧ 1 ≤ m.k ∧ m.k ≤ 5 := by
  have hk : m.k = 1 ∨ m.k = 2 ∨ m.k = 3 ∨ m.k = 4 ∨ m.k = 5 := by
    unfold rightM at h
    rw [Bool.and_eq_true] at h
    have h2 := h.2
    by_cases h1 : m.k = 1
    · exact Or.inl h1
    by_cases h3 : m.k = 2
    · exact Or.inr (Or.inl h3)
    by_cases h4 : m.k = 3
    · exact Or.inr (Or.inr (Or.inl h4))
    by_cases h5 : m.k = 4
    · exact Or.inr (Or.inr (Or.inr (Or.inl h5)))
    by_cases h6 : m.k = 5
    · exact Or.inr (Or.inr (Or.inr (Or.inr h6)))
    simp [h1, h3, h4, h5, h6] at h2
  refine ⟨rfl, ?_, by omega, by omega⟩
  rw [UInt8.toNat_ofNat']
  omega
set_option maxRecDepth 100000 in
set_option maxHeartbeats 32000000 in
theorem sizes_any (g : Kg) (ga gb gc gd : Value) (h_ : Kg) (h_a h_b h_c h_d : Value) (n2 : Int) (w : World) (hg : Fa.EG w) (gi : KgIn w g ga gb gc gd) (h_i : KgIn w h_ h_a h_b h_c h_d) (hn : I64 n2) :
    Calls Tryd.prog 6 #[kgv g ga gb gc gd, kgv h_ h_a h_b h_c h_d, .int .i64 n2] w (RQ w) := by
  have N0 := Lib.hid (new_below w (.cells #[.int .i64 g.kd, .int .i64 g.cl, .int .i64 g.sq, .int .i64 g.ow, .int .i64 g.nm, ga, gb, gc, gd] 42))
  have N1 := Lib.hid (new_below (w.alloc (.cells #[.int .i64 g.kd, .int .i64 g.cl, .int .i64 g.sq, .int .i64 g.ow, .int .i64 g.nm, ga, gb, gc, gd] 42)) (.cells #[.int .i64 h_.kd, .int .i64 h_.cl, .int .i64 h_.sq, .int .i64 h_.ow, .int .i64 h_.nm, h_a, h_b, h_c, h_d] 42))
  have B0 := Lib.hid (N0.out.trans (N1.out.mono N0.out.size))
  have MG := Lib.hid (message_any g ga gb gc gd _ (kgin_on gi B0.out))
  have HI := Lib.hid (kgin_on h_i B0.out)
  have XH := Lib.hid (box_two w #[.int .i64 g.kd, .int .i64 g.cl, .int .i64 g.sq, .int .i64 g.ow, .int .i64 g.nm, ga, gb, gc, gd] #[.int .i64 h_.kd, .int .i64 h_.cl, .int .i64 h_.sq, .int .i64 h_.ow, .int .i64 h_.nm, h_a, h_b, h_c, h_d] 42 42)
  have G0 := Lib.hid (GE.mk hg)
  have FT := Lib.hid (kg_fit g)
  have FH := Lib.hid (kg_fit h_)
  have I2 := Lib.hid hn
  obtain ⟨ao, ac, rfl⟩ := gi.a.shape
  obtain ⟨bo, bc, rfl⟩ := gi.b.shape
  obtain ⟨co, cc, rfl⟩ := gi.c.shape
  obtain ⟨do_, dc, rfl⟩ := gi.d.shape
  obtain ⟨ao2, ac2, rfl⟩ := h_i.a.shape
  obtain ⟨bo2, bc2, rfl⟩ := h_i.b.shape
  obtain ⟨co2, cc2, rfl⟩ := h_i.c.shape
  obtain ⟨do2, dc2, rfl⟩ := h_i.d.shape
  have MH := Lib.hid (fun W h => message_any h_ (.slice ao2 h_.ph.length ac2) (.slice bo2 h_.pv.length bc2) (.slice co2 h_.th.length cc2) (.slice do2 h_.tv.length dc2) W h)
  clear hg gi h_i N0 N1 hn
  generalize g.m = m at *
  go_enter Tryd.func6, Tryd.ntmps6
  go_wp2_with fail
  refine MG.out.mono ?_
  rintro e1 w1 ⟨⟨pv, lv, rfl, hin⟩, hb⟩
  obtain ⟨po, pc, rfl⟩ := hin.p.len
  obtain ⟨l0, lc, rfl⟩ := hin.l.len
  obtain ⟨k, tc, ts, ic, is, p, l⟩ := m
  have B1 := Lib.hid (B0.out.trans (hb.mono B0.out.size))
  have HI1 := Lib.hid (kgin_on HI.out hb)
  have XH1 := Lib.hid (XH.out.on hb)
  have N2 := Lib.hid (new_below w1 (.cells (mcells ⟨k, tc, ts, ic, is, p, l⟩ (.slice po p.length pc) (.slice l0 l.length lc)) 32))
  have X2 := Lib.hid (box_new w1 (mcells ⟨k, tc, ts, ic, is, p, l⟩ (.slice po p.length pc) (.slice l0 l.length lc)) 32)
  have EC := Lib.hid (enc_ok ⟨k, tc, ts, ic, is, p, l⟩ _ _ _ (hin.on N2.out) FT.out.small FT.out.right)
  have B2 := Lib.hid (B1.out.trans (N2.out.mono B1.out.size))
  have HI2 := Lib.hid (kgin_on HI1.out N2.out)
  have XH2 := Lib.hid (XH1.out.on N2.out)
  have BL := bytesM_len FT.out.right
  have BF := bytes_first _ FT.out.right
  clear hin hb MG B0 HI XH B1 HI1 XH1 N2
  have xX := X2.out
  have x0 := xX.cell 0
  have x1 := xX.cell 1
  have x2 := xX.cell 2
  have x3 := xX.cell 3
  have x4 := xX.cell 4
  have x5 := xX.cell 5
  have x6 := xX.cell 6
  simp only [List.getElem?_toArray, List.getElem?_cons_zero, List.getElem?_cons_succ] at x0 x1 x2 x3 x4 x5 x6
  clear xX
  obtain ⟨bf0, bfk, bf1, bf5⟩ := BF
  simp only at bf0 bfk bf1 bf5
  generalize hbs : bytesM ⟨k, tc, ts, ic, is, p, l⟩ = bs at *
  have HBS := Lib.hid hbs
  have BF0 := Lib.hid bf0
  have BFK := Lib.hid bfk
  obtain ⟨L, hL⟩ : ∃ L, L = bs.length := ⟨_, rfl⟩
  rw [← hL] at BL
  have HL := Lib.hid hL
  clear hbs bf0 bfk hL
  go_wp2_with fail
  refine EC.out.mono ?_
  rintro e2 w2 ⟨⟨v2, rfl, ho2⟩, hb⟩
  have B3 := Lib.hid (B2.out.trans (hb.mono B2.out.size))
  have X3 := Lib.hid (X2.out.on hb)
  have HI3 := Lib.hid (kgin_on HI2.out hb)
  have XH3 := Lib.hid (XH2.out.on hb)
  have R3 := Lib.hid (Row.of_own ho2)
  obtain ⟨bo5, bc5, rfl⟩ := (Row.of_own ho2).len
  rw [← HL.out] at R3 ⊢
  have MG2 := Lib.hid (MH.out w2 HI3.out)
  clear hb ho2 EC B2 X2 HI2 XH2 MH HI3 x0 x1 x2 x3 x4 x5 x6
  have yX := XH3.out
  have y0 := yX.cell 0
  have y1 := yX.cell 1
  have y2 := yX.cell 2
  have y3 := yX.cell 3
  have y4 := yX.cell 4
  have y5 := yX.cell 5
  have y6 := yX.cell 6
  have y7 := yX.cell 7
  have y8 := yX.cell 8
  simp only [List.getElem?_toArray, List.getElem?_cons_zero, List.getElem?_cons_succ] at y0 y1 y2 y3 y4 y5 y6 y7 y8
  clear yX
  go_wp2_with fail
  refine MG2.out.mono ?_
  rintro e3 w3 ⟨⟨pv3, lv3, rfl, hin3⟩, hb⟩
  have B4 := Lib.hid (B3.out.trans (hb.mono B3.out.size))
  have X4 := Lib.hid (X3.out.on hb)
  have R4 := Lib.hid (R3.out.on hb)
  have EC2 := Lib.hid (enc_ok h_.m pv3 lv3 w3 hin3 FH.out.small FH.out.right)
  have BL2 := bytesM_len FH.out.right
  generalize hps : bytesM h_.m = ps at *
  have HPS := Lib.hid hps
  obtain ⟨P, hP⟩ : ∃ P, P = ps.length := ⟨_, rfl⟩
  rw [← hP] at BL2
  have HP := Lib.hid hP
  clear hb hin3 MG2 B3 X3 R3 XH3 hps hP y0 y1 y2 y3 y4 y5 y6 y7 y8
  go_wp2_with fail
  refine EC2.out.mono ?_
  rintro e5 w5 ⟨⟨v5, rfl, ho5⟩, hb⟩
  have B5 := Lib.hid (B4.out.trans (hb.mono B4.out.size))
  have X5 := Lib.hid (X4.out.on hb)
  have R5 := Lib.hid (R4.out.on hb)
  have P5 := Lib.hid (Row.of_own ho5)
  obtain ⟨bo6, bc6, rfl⟩ := (Row.of_own ho5).len
  rw [← HP.out] at P5 ⊢
  obtain ⟨a0, ix0, _, ex⟩ := elB R5.out rfl HL.out.symm BF0.out
  have ix : ∀ w, (Instr.indexAt 22 (.slice bo5 L bc5) (.int .i64 0)).run Tryd.prog w = .ok (.pointer (some a0)) w := ix0
  have p0 := cell_regrown (ex _ (Below.refl _ _))
  rw [BFK.out] at p0
  have q0 := cell_regrown (show w5.cell? ⟨w1.heap.size, 0, none⟩ = some (.int .i64 k) from X5.out.cell 0)
  have hwk : IntKind.i64.wrap k = k := IntWalk.i64_in _ (by omega)
  have n17 : decide ((L : Int) < 17) = false := decide_eq_false (by omega)
  have hc0 : (k != k) = false := by simp
  clear ex ix0 hb ho5 EC2 B4 X4 R4 X5 BF0 BFK
  by_cases hlt : L < P
  · have dgt : decide ((L : Int) < (P : Int)) = true := decide_eq_true (by omega)
    have dgn : decide (L < P) = true := decide_eq_true hlt
    obtain ⟨lo, slo, rlo⟩ := row_lo8 P5.out L (by rw [← HP.out]; omega)
    obtain ⟨ao9, ac9, rfl⟩ : ∃ a c, lo = .slice a L c := by obtain ⟨a, c, e⟩ := rlo.len; rw [List.length_take, ← HP.out, Nat.min_eq_left (by omega)] at e; exact ⟨a, c, e⟩
    have hne : ps.take L ≠ bs := by
      intro e
      have e2 : ps = bs ++ ps.drop L := by rw [← e, List.take_append_drop]
      rw [← HPS.out, ← HBS.out] at e2
      obtain ⟨_, e3⟩ := bytes_pre FT.out.right FT.out.m64 FH.out.right FH.out.m64 (r := (bytesM h_.m).drop L) e2
      have := congrArg List.length e3
      rw [List.length_drop, HPS.out, ← HP.out] at this
      simp at this
      omega
    have SB := Lib.hid (fun d os => Calls.regrown_of (d := d) (os := os) ((sameB _ _ (ps.take L) bs _ (rlo.on (below_regrown w5 d os)) (R5.out.on (below_regrown w5 d os))).mono fun _ _ h => ⟨by rw [h.1, decide_eq_false hne], h.2⟩))
    clear rlo hne hlt
    go_upto_region 4 with fail
    refine wp_region_quiet_below (by kernel_rfl) (by kernel_rfl) ?_
    repeat (go_big_quiet_step (first | (with_reducible exact SB.out _ _)))
    refine wpQuiet_nil ?_
    intro _ hw'
    obtain ⟨⟨dq, osq⟩, hw''⟩ := hw'
    subst hw''
    have Z6 := below_regrown w5 dq osq
    have B6 := Lib.hid (B5.out.trans (Z6.mono B5.out.size))
    clear Z6 ix p0 q0 hwk hc0 n17 dgt dgn slo SB
    generalize grow (redrawn w5 dq) osq = W at *
    have hb := B6.out
    have hg := G0.out.on hb
    have WI := Lib.hid (within_any n2 0 31 W (by omega) (by omega) (by omega) I2.out.1 I2.out.2)
    have wb := within_bd n2 0 31 (by omega)
    generalize within n2 0 31 = z at *
    have ZB := Lib.hid wb
    have S0 := Lib.hid (Sz.start hb z)
    clear hb hg wb B5
    go_wp2_with fail
    refine WI.out.mono ?_
    rintro e1 w1 ⟨rfl, rfl⟩
    clear WI
    have c0 := (box_new W #[.int .i64 3, .int .i64 31, .int .i64 9223372036854775807, .int .i64 z, .int .i64 0, nilS, nilS] 32).cell 1
    have c1 := (box_new W #[.int .i64 3, .int .i64 31, .int .i64 9223372036854775807, .int .i64 z, .int .i64 0, nilS, nilS] 32).cell 2
    simp only [List.getElem?_toArray, List.getElem?_cons_zero, List.getElem?_cons_succ] at c0 c1
    go_wp2_with fail
    go_loopw [78] (fun i wr => ∃ j : Nat, j ≤ 5 ∧ i = .int .i64 j ∧ ∃ pv lv, Sz w wr W.heap.size z j j pv lv) (fun i _ => 5 - (intOf i).toNat)
    case atStart => exact ⟨0, Nat.zero_le _, rfl, nilS, nilS, S0.out⟩
    case round =>
      obtain ⟨j, hj, rfl, pv, lv, hs⟩ := hrel
      by_cases hlt : j < 5
      · have S1 := Lib.hid hs
        have lt5 : decide ((j : Int) < 5) = true := decide_eq_true (by omega)
        have hw1 : IntKind.i64.wrap (97 + (j : Int)) = 97 + (j : Int) := IntWalk.i64_in _ (by omega)
        have hw2 : (97 + (j : Int)) % 256 = 97 + (j : Int) := by omega
        have hu : ((UInt8.ofNat (97 + j)).toNat : Int) = 97 + (j : Int) := by rw [UInt8.toNat_ofNat']; omega
        have hw3 : IntKind.i64.wrap ((j : Int) + 1) = (j : Int) + 1 := IntWalk.i64_in _ (by omega)
        have N2 := Lib.hid (new_below wr (.cells #[.int .u8 (UInt8.ofNat (97 + j)).toNat] 5))
        have cv : (convert 22 9 (.slice (some ⟨wr.heap.size, 0, none⟩) 1 1)).run Tryd.prog (wr.alloc (.cells #[.int .u8 (UInt8.ofNat (97 + j)).toNat] 5)) = .ok (.string ⟨[UInt8.ofNat (97 + j)].toArray⟩) (wr.alloc (.cells #[.int .u8 (UInt8.ofNat (97 + j)).toNat] 5)) := conv_row (Row.of_own (row_lit okB wr [UInt8.ofNat (97 + j)] 1 rfl (by simp) #[.int .u8 (UInt8.ofNat (97 + j)).toNat] rfl))
        rw [hu] at cv N2
        have hnm := nmA_is j
        generalize UInt8.ofNat (97 + j) = c at *
        clear hs hu
        go_upto_region 12 with fail
        have S2 := Lib.hid (S1.out.on N2.out)
        clear S1 N2 cv hw2 hnm
        generalize wr.alloc (.cells #[.int .u8 (97 + (j : Int))] 5) = wA at *
        obtain ⟨g3, q3, w3, r3, b3, s3⟩ := S2.out.pushC (by omega) wA.heap.size rfl
        have S3 := Lib.hid s3
        have y5 := S2.out.x1.cell 5
        have z5 := b3.cell 5
        have f5 := b3.fr 5
        have l5 := b3.lt
        simp only [List.getElem?_toArray, List.getElem?_cons_zero, List.getElem?_cons_succ] at y5 z5
        clear s3 b3 S2
        go_upto_region 13 with (first | (at_builtin; refine wpList_append_run rfl _ _ 29 rfl rfl rfl r3 ?_) | fail)
        clear r3 y5 z5 f5 l5
        generalize w3.setCell ⟨W.heap.size, 5, none⟩ (.slice (some ⟨g3, 0, none⟩) (j + 1) q3) = wB at *
        obtain ⟨g4, q4, w4, r4, b4, s4⟩ := S3.out.pushA (by omega) wB.heap.size rfl
        have S4 := Lib.hid s4
        have y5 := S3.out.x2.cell 6
        have z5 := b4.cell 6
        have f5 := b4.fr 6
        have l5 := b4.lt
        simp only [List.getElem?_toArray, List.getElem?_cons_zero, List.getElem?_cons_succ] at y5 z5
        clear s4 b4 S3
        go_wp2_with (first | (at_builtin; refine wpList_append_run rfl _ _ 30 rfl rfl rfl r4 ?_) | fail)
        clear r4 y5 z5 f5 l5
        go_roundw
        case rel => exact ⟨j + 1, by omega, by go_num, _, _, S4.out⟩
        case measure => simp [intOf]; omega
      · obtain rfl : j = 5 := by omega
        obtain ⟨g5, q5, rfl⟩ : ∃ g q, pv = .slice (some ⟨g, 0, none⟩) 5 q := by
          rcases own_open hs.o1 with ⟨_, e⟩ | ⟨g, cap, cur, e, _⟩
          · have := congrArg List.length e; rw [conL_len] at this; simp at this
          · exact ⟨g, cap, by rw [e, conL_len]⟩
        obtain ⟨g6, q6, rfl⟩ : ∃ g q, lv = .slice (some ⟨g, 0, none⟩) 5 q := by
          rcases own_open hs.o2 with ⟨_, e⟩ | ⟨g, cap, cur, e, _⟩
          · have := congrArg List.length e; rw [attL_len] at this; simp at this
          · exact ⟨g, cap, by rw [e, attL_len]⟩
        have S1 := Lib.hid hs
        have EC := Lib.hid (enc_ok (bigM z 5) _ nilS wr ⟨Row.of_own hs.o1, Or.inl ⟨rfl, rfl⟩⟩ (bigM_small z) (bigM_right z ZB.out))
        have BL := (bytesM_len (bigM_right z ZB.out)).2
        have BK := Lib.hid (decM_back (bigM_right z ZB.out) (bigM_64 z ZB.out))
        have BP := (bytesM_len pubM_right).2
        clear hs S0 c0 c1
        generalize hbs : bytesM (bigM z 5) = bs at *
        generalize hps : bytesM (pubM 5) = ps at *
        obtain ⟨L, hL⟩ : ∃ L, L = bs.length := ⟨_, rfl⟩
        obtain ⟨P, hP⟩ : ∃ P, P = ps.length := ⟨_, rfl⟩
        rw [← hL] at BL
        rw [← hP] at BP
        have HL := Lib.hid hL
        have HP := Lib.hid hP
        have HPS := Lib.hid hps
        clear hL hP hbs hps
        have xX := S1.out.x1
        have x0 := xX.cell 0
        have x1 := xX.cell 1
        have x2 := xX.cell 2
        have x3 := xX.cell 3
        have x4 := xX.cell 4
        have x5 := xX.cell 5
        have x6 := xX.cell 6
        simp only [List.getElem?_toArray, List.getElem?_cons_zero, List.getElem?_cons_succ] at x0 x1 x2 x3 x4 x5 x6
        clear xX
        go_wp2_with fail
        refine EC.out.mono ?_
        rintro e2 w2 ⟨⟨v2, rfl, ho2⟩, hb⟩
        have S2 := Lib.hid (S1.out.on hb)
        have R2 := Lib.hid (Row.of_own ho2)
        obtain ⟨bo2, bc2, rfl⟩ := (Row.of_own ho2).len
        rw [← HL.out] at R2 ⊢
        have EC2 := Lib.hid (enc_ok (pubM 5) nilS _ w2 ⟨row_nil _, row_EA.2 (Row.of_own S2.out.o2)⟩ pubM_small pubM_right)
        rw [HPS.out] at EC2
        clear hb ho2 EC S1 x0 x1 x2 x3 x4 x5 x6
        have xX := S2.out.x2
        have x0 := xX.cell 0
        have x1 := xX.cell 1
        have x2 := xX.cell 2
        have x3 := xX.cell 3
        have x4 := xX.cell 4
        have x5 := xX.cell 5
        have x6 := xX.cell 6
        simp only [List.getElem?_toArray, List.getElem?_cons_zero, List.getElem?_cons_succ] at x0 x1 x2 x3 x4 x5 x6
        clear xX
        go_wp2_with fail
        refine EC2.out.mono ?_
        rintro e3 w3 ⟨⟨v3, rfl, ho3⟩, hb⟩
        have S3 := Lib.hid (S2.out.on hb)
        have R3 := Lib.hid (R2.out.on hb)
        obtain ⟨bo3, bc3, rfl⟩ := (Row.of_own ho3).len
        rw [← HP.out]
        have DC := Lib.hid (dec_some _ bs w3 R3.out (bigM z 5) BK.out)
        clear hb ho3 EC2 S2 R2 HPS x0 x1 x2 x3 x4 x5 x6
        go_wp2_with fail
        refine DC.out.mono ?_
        rintro e4 w4 ⟨⟨pv, lv, rfl, hop, hol⟩, hb⟩
        have S4 := Lib.hid (S3.out.on hb)
        obtain ⟨po, pc, rfl⟩ := (Row.of_own hop).len
        obtain ⟨l0, lc, rfl⟩ := (Row.of_own hol).len
        have hin : MgIn w4 (bigM z 5) (.slice po (conL 5).length pc) (.slice l0 0 lc) := ⟨Row.of_own hop, row_EA.2 (Row.of_own hol)⟩
        rw [conL_len] at hin ⊢
        have N5 := Lib.hid (new_below w4 (.cells (mcells (bigM z 5) (.slice po 5 pc) (.slice l0 0 lc)) 32))
        have X5 := Lib.hid (box_new w4 (mcells (bigM z 5) (.slice po 5 pc) (.slice l0 0 lc)) 32)
        have S5 := Lib.hid (S4.out.on N5.out)
        have MS := Lib.hid (messages_any (bigM z 5) (bigM z 5) _ _ _ nilS (w4.alloc (.cells (mcells (bigM z 5) (.slice po 5 pc) (.slice l0 0 lc)) 32)) (hin.on N5.out) ⟨Row.of_own S5.out.o1, Or.inl ⟨rfl, rfl⟩⟩ (by rw [conL_len]; omega) (by rw [conL_len]; omega) (by simp) (by simp))
        rw [sameM_refl] at MS
        have dl1 : decide ((L : Int) ≤ 600) = true := decide_eq_true (by omega)
        have dl2 : decide ((P : Int) ≤ 600) = true := decide_eq_true (by omega)
        clear hb hop hol hin DC S3 S4 N5 R3 BL BP BK HL HP
        have xX := S5.out.x1
        have x0 := xX.cell 0
        have x1 := xX.cell 1
        have x2 := xX.cell 2
        have x3 := xX.cell 3
        have x4 := xX.cell 4
        have x5 := xX.cell 5
        have x6 := xX.cell 6
        simp only [List.getElem?_toArray, List.getElem?_cons_zero, List.getElem?_cons_succ] at x0 x1 x2 x3 x4 x5 x6
        clear xX
        have yX := X5.out
        have y0 := yX.cell 0
        have y1 := yX.cell 1
        have y2 := yX.cell 2
        have y3 := yX.cell 3
        have y4 := yX.cell 4
        have y5 := yX.cell 5
        have y6 := yX.cell 6
        simp only [List.getElem?_toArray, List.getElem?_cons_zero, List.getElem?_cons_succ] at y0 y1 y2 y3 y4 y5 y6
        clear yX
        go_wp2_with fail
        refine MS.out.mono ?_
        rintro e6 w6 ⟨rfl, hb⟩
        have B6 := Lib.hid (S5.out.on hb).be
        have RU := Lib.hid (runs_any w6 (G0.out.on B6.out).eg)
        clear hb MS X5 S5 x0 x1 x2 x3 x4 x5 x6 y0 y1 y2 y3 y4 y5 y6
        go_wp2_with fail
        refine RU.out.mono ?_
        rintro e8 w8 ⟨rfl, hb⟩
        have B8 := Lib.hid (B6.out.trans (hb.mono B6.out.size))
        clear hb RU B6
        go_wp2_with fail
        go_ret
        exact ⟨rfl, B8.out⟩
  · have dgt : decide ((L : Int) < (P : Int)) = false := decide_eq_false (by omega)
    have dgn : decide (L < P) = false := decide_eq_false hlt
    clear hlt
    go_upto_region 4 with fail
    refine wp_region_quiet_below (by kernel_rfl) (by kernel_rfl) ?_
    repeat (go_big_quiet_step (fail))
    refine wpQuiet_nil ?_
    intro _ hw'
    obtain ⟨⟨dq, osq⟩, hw''⟩ := hw'
    subst hw''
    have Z6 := below_regrown w5 dq osq
    have B6 := Lib.hid (B5.out.trans (Z6.mono B5.out.size))
    clear Z6 ix p0 q0 hwk hc0 n17 dgt dgn 
    generalize grow (redrawn w5 dq) osq = W at *
    have hb := B6.out
    have hg := G0.out.on hb
    have WI := Lib.hid (within_any n2 0 31 W (by omega) (by omega) (by omega) I2.out.1 I2.out.2)
    have wb := within_bd n2 0 31 (by omega)
    generalize within n2 0 31 = z at *
    have ZB := Lib.hid wb
    have S0 := Lib.hid (Sz.start hb z)
    clear hb hg wb B5
    go_wp2_with fail
    refine WI.out.mono ?_
    rintro e1 w1 ⟨rfl, rfl⟩
    clear WI
    have c0 := (box_new W #[.int .i64 3, .int .i64 31, .int .i64 9223372036854775807, .int .i64 z, .int .i64 0, nilS, nilS] 32).cell 1
    have c1 := (box_new W #[.int .i64 3, .int .i64 31, .int .i64 9223372036854775807, .int .i64 z, .int .i64 0, nilS, nilS] 32).cell 2
    simp only [List.getElem?_toArray, List.getElem?_cons_zero, List.getElem?_cons_succ] at c0 c1
    go_wp2_with fail
    go_loopw [78] (fun i wr => ∃ j : Nat, j ≤ 5 ∧ i = .int .i64 j ∧ ∃ pv lv, Sz w wr W.heap.size z j j pv lv) (fun i _ => 5 - (intOf i).toNat)
    case atStart => exact ⟨0, Nat.zero_le _, rfl, nilS, nilS, S0.out⟩
    case round =>
      obtain ⟨j, hj, rfl, pv, lv, hs⟩ := hrel
      by_cases hlt : j < 5
      · have S1 := Lib.hid hs
        have lt5 : decide ((j : Int) < 5) = true := decide_eq_true (by omega)
        have hw1 : IntKind.i64.wrap (97 + (j : Int)) = 97 + (j : Int) := IntWalk.i64_in _ (by omega)
        have hw2 : (97 + (j : Int)) % 256 = 97 + (j : Int) := by omega
        have hu : ((UInt8.ofNat (97 + j)).toNat : Int) = 97 + (j : Int) := by rw [UInt8.toNat_ofNat']; omega
        have hw3 : IntKind.i64.wrap ((j : Int) + 1) = (j : Int) + 1 := IntWalk.i64_in _ (by omega)
        have N2 := Lib.hid (new_below wr (.cells #[.int .u8 (UInt8.ofNat (97 + j)).toNat] 5))
        have cv : (convert 22 9 (.slice (some ⟨wr.heap.size, 0, none⟩) 1 1)).run Tryd.prog (wr.alloc (.cells #[.int .u8 (UInt8.ofNat (97 + j)).toNat] 5)) = .ok (.string ⟨[UInt8.ofNat (97 + j)].toArray⟩) (wr.alloc (.cells #[.int .u8 (UInt8.ofNat (97 + j)).toNat] 5)) := conv_row (Row.of_own (row_lit okB wr [UInt8.ofNat (97 + j)] 1 rfl (by simp) #[.int .u8 (UInt8.ofNat (97 + j)).toNat] rfl))
        rw [hu] at cv N2
        have hnm := nmA_is j
        generalize UInt8.ofNat (97 + j) = c at *
        clear hs hu
        go_upto_region 12 with fail
        have S2 := Lib.hid (S1.out.on N2.out)
        clear S1 N2 cv hw2 hnm
        generalize wr.alloc (.cells #[.int .u8 (97 + (j : Int))] 5) = wA at *
        obtain ⟨g3, q3, w3, r3, b3, s3⟩ := S2.out.pushC (by omega) wA.heap.size rfl
        have S3 := Lib.hid s3
        have y5 := S2.out.x1.cell 5
        have z5 := b3.cell 5
        have f5 := b3.fr 5
        have l5 := b3.lt
        simp only [List.getElem?_toArray, List.getElem?_cons_zero, List.getElem?_cons_succ] at y5 z5
        clear s3 b3 S2
        go_upto_region 13 with (first | (at_builtin; refine wpList_append_run rfl _ _ 29 rfl rfl rfl r3 ?_) | fail)
        clear r3 y5 z5 f5 l5
        generalize w3.setCell ⟨W.heap.size, 5, none⟩ (.slice (some ⟨g3, 0, none⟩) (j + 1) q3) = wB at *
        obtain ⟨g4, q4, w4, r4, b4, s4⟩ := S3.out.pushA (by omega) wB.heap.size rfl
        have S4 := Lib.hid s4
        have y5 := S3.out.x2.cell 6
        have z5 := b4.cell 6
        have f5 := b4.fr 6
        have l5 := b4.lt
        simp only [List.getElem?_toArray, List.getElem?_cons_zero, List.getElem?_cons_succ] at y5 z5
        clear s4 b4 S3
        go_wp2_with (first | (at_builtin; refine wpList_append_run rfl _ _ 30 rfl rfl rfl r4 ?_) | fail)
        clear r4 y5 z5 f5 l5
        go_roundw
        case rel => exact ⟨j + 1, by omega, by go_num, _, _, S4.out⟩
        case measure => simp [intOf]; omega
      · obtain rfl : j = 5 := by omega
        obtain ⟨g5, q5, rfl⟩ : ∃ g q, pv = .slice (some ⟨g, 0, none⟩) 5 q := by
          rcases own_open hs.o1 with ⟨_, e⟩ | ⟨g, cap, cur, e, _⟩
          · have := congrArg List.length e; rw [conL_len] at this; simp at this
          · exact ⟨g, cap, by rw [e, conL_len]⟩
        obtain ⟨g6, q6, rfl⟩ : ∃ g q, lv = .slice (some ⟨g, 0, none⟩) 5 q := by
          rcases own_open hs.o2 with ⟨_, e⟩ | ⟨g, cap, cur, e, _⟩
          · have := congrArg List.length e; rw [attL_len] at this; simp at this
          · exact ⟨g, cap, by rw [e, attL_len]⟩
        have S1 := Lib.hid hs
        have EC := Lib.hid (enc_ok (bigM z 5) _ nilS wr ⟨Row.of_own hs.o1, Or.inl ⟨rfl, rfl⟩⟩ (bigM_small z) (bigM_right z ZB.out))
        have BL := (bytesM_len (bigM_right z ZB.out)).2
        have BK := Lib.hid (decM_back (bigM_right z ZB.out) (bigM_64 z ZB.out))
        have BP := (bytesM_len pubM_right).2
        clear hs S0 c0 c1
        generalize hbs : bytesM (bigM z 5) = bs at *
        generalize hps : bytesM (pubM 5) = ps at *
        obtain ⟨L, hL⟩ : ∃ L, L = bs.length := ⟨_, rfl⟩
        obtain ⟨P, hP⟩ : ∃ P, P = ps.length := ⟨_, rfl⟩
        rw [← hL] at BL
        rw [← hP] at BP
        have HL := Lib.hid hL
        have HP := Lib.hid hP
        have HPS := Lib.hid hps
        clear hL hP hbs hps
        have xX := S1.out.x1
        have x0 := xX.cell 0
        have x1 := xX.cell 1
        have x2 := xX.cell 2
        have x3 := xX.cell 3
        have x4 := xX.cell 4
        have x5 := xX.cell 5
        have x6 := xX.cell 6
        simp only [List.getElem?_toArray, List.getElem?_cons_zero, List.getElem?_cons_succ] at x0 x1 x2 x3 x4 x5 x6
        clear xX
        go_wp2_with fail
        refine EC.out.mono ?_
        rintro e2 w2 ⟨⟨v2, rfl, ho2⟩, hb⟩
        have S2 := Lib.hid (S1.out.on hb)
        have R2 := Lib.hid (Row.of_own ho2)
        obtain ⟨bo2, bc2, rfl⟩ := (Row.of_own ho2).len
        rw [← HL.out] at R2 ⊢
        have EC2 := Lib.hid (enc_ok (pubM 5) nilS _ w2 ⟨row_nil _, row_EA.2 (Row.of_own S2.out.o2)⟩ pubM_small pubM_right)
        rw [HPS.out] at EC2
        clear hb ho2 EC S1 x0 x1 x2 x3 x4 x5 x6
        have xX := S2.out.x2
        have x0 := xX.cell 0
        have x1 := xX.cell 1
        have x2 := xX.cell 2
        have x3 := xX.cell 3
        have x4 := xX.cell 4
        have x5 := xX.cell 5
        have x6 := xX.cell 6
        simp only [List.getElem?_toArray, List.getElem?_cons_zero, List.getElem?_cons_succ] at x0 x1 x2 x3 x4 x5 x6
        clear xX
        go_wp2_with fail
        refine EC2.out.mono ?_
        rintro e3 w3 ⟨⟨v3, rfl, ho3⟩, hb⟩
        have S3 := Lib.hid (S2.out.on hb)
        have R3 := Lib.hid (R2.out.on hb)
        obtain ⟨bo3, bc3, rfl⟩ := (Row.of_own ho3).len
        rw [← HP.out]
        have DC := Lib.hid (dec_some _ bs w3 R3.out (bigM z 5) BK.out)
        clear hb ho3 EC2 S2 R2 HPS x0 x1 x2 x3 x4 x5 x6
        go_wp2_with fail
        refine DC.out.mono ?_
        rintro e4 w4 ⟨⟨pv, lv, rfl, hop, hol⟩, hb⟩
        have S4 := Lib.hid (S3.out.on hb)
        obtain ⟨po, pc, rfl⟩ := (Row.of_own hop).len
        obtain ⟨l0, lc, rfl⟩ := (Row.of_own hol).len
        have hin : MgIn w4 (bigM z 5) (.slice po (conL 5).length pc) (.slice l0 0 lc) := ⟨Row.of_own hop, row_EA.2 (Row.of_own hol)⟩
        rw [conL_len] at hin ⊢
        have N5 := Lib.hid (new_below w4 (.cells (mcells (bigM z 5) (.slice po 5 pc) (.slice l0 0 lc)) 32))
        have X5 := Lib.hid (box_new w4 (mcells (bigM z 5) (.slice po 5 pc) (.slice l0 0 lc)) 32)
        have S5 := Lib.hid (S4.out.on N5.out)
        have MS := Lib.hid (messages_any (bigM z 5) (bigM z 5) _ _ _ nilS (w4.alloc (.cells (mcells (bigM z 5) (.slice po 5 pc) (.slice l0 0 lc)) 32)) (hin.on N5.out) ⟨Row.of_own S5.out.o1, Or.inl ⟨rfl, rfl⟩⟩ (by rw [conL_len]; omega) (by rw [conL_len]; omega) (by simp) (by simp))
        rw [sameM_refl] at MS
        have dl1 : decide ((L : Int) ≤ 600) = true := decide_eq_true (by omega)
        have dl2 : decide ((P : Int) ≤ 600) = true := decide_eq_true (by omega)
        clear hb hop hol hin DC S3 S4 N5 R3 BL BP BK HL HP
        have xX := S5.out.x1
        have x0 := xX.cell 0
        have x1 := xX.cell 1
        have x2 := xX.cell 2
        have x3 := xX.cell 3
        have x4 := xX.cell 4
        have x5 := xX.cell 5
        have x6 := xX.cell 6
        simp only [List.getElem?_toArray, List.getElem?_cons_zero, List.getElem?_cons_succ] at x0 x1 x2 x3 x4 x5 x6
        clear xX
        have yX := X5.out
        have y0 := yX.cell 0
        have y1 := yX.cell 1
        have y2 := yX.cell 2
        have y3 := yX.cell 3
        have y4 := yX.cell 4
        have y5 := yX.cell 5
        have y6 := yX.cell 6
        simp only [List.getElem?_toArray, List.getElem?_cons_zero, List.getElem?_cons_succ] at y0 y1 y2 y3 y4 y5 y6
        clear yX
        go_wp2_with fail
        refine MS.out.mono ?_
        rintro e6 w6 ⟨rfl, hb⟩
        have B6 := Lib.hid (S5.out.on hb).be
        have RU := Lib.hid (runs_any w6 (G0.out.on B6.out).eg)
        clear hb MS X5 S5 x0 x1 x2 x3 x4 x5 x6 y0 y1 y2 y3 y4 y5 y6
        go_wp2_with fail
        refine RU.out.mono ?_
        rintro e8 w8 ⟨rfl, hb⟩
        have B8 := Lib.hid (B6.out.trans (hb.mono B6.out.size))
        clear hb RU B6
        go_wp2_with fail
        go_ret
        exact ⟨rfl, B8.out⟩
end Go.Proofs.YtfcgfnmokbbcaaaDoor.Ws
