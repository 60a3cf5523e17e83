/-
  The loop over attributes of Bytes of the statements' own package. Conditions: short texts; few bytes.
  putAttrs of package wire: the bytes of attributes. Condition: few of them, of short texts.
-/
import Derived.Test.YtfcgfnmokbbcaaaDoorQ028
import Derived.Test.YtfcgfnmokbbcaaaDoorQ027
namespace Go.Proofs.YtfcgfnmokbbcaaaDoor.Wr
open Go.RowKit Go.Proofs.YtfcgfnmokbbcaaaDoor Go.Proofs.YtfcgfnmokbbcaaaDoor.Rw Go.Proofs.YtfcgfnmokbbcaaaDoor.Nm Go.Proofs.YtfcgfnmokbbcaaaDoor.At Go.Proofs.YtfcgfnmokbbcaaaDoor.Pr

noncomputable def byA : Code := ((Tryd.f19.body.bind (findBlock 2)).getD .skip)
set_option maxRecDepth 100000 in
set_option maxHeartbeats 16000000 in
theorem atts_loop (Q : Exit → Act → World → Prop) (w W : World) (mb : Nat) (m : Mg) (pV lV bv : Value) (l : List UInt8) (q : List A4) (ao : Option Addr) (ac : Nat) (u0 u2 u4 u5 u6 u7 u8 u9 u10 u11 u12 u13 u14 u15 u16 u17 u18 u19 u20 u21 u22 u23 u24 u25 u26 u27 u28 u29 u30 u31 u32 u33 u34 u35 u36 u37 u38 u39 u40 u41 u42 u43 u44 u45 u46 u47 u48 u49 u50 u51 u52 u53 u54 u55 u56 u57 u58 u59 u60 u61 u62 u63 u64 u65 u66 u67 u68 u69 u70 u71 u72 u73 u74 u75 u76 u77 u78 u79 u80 u81 u82 u83 u84 u88 u89 u90 u91 u92 u93 u94 u95 u96 u97 u98 u99 u100 u101 u102 u103 u104 u105 u106 u107 u108 u109 u110 u111 u112 u113 u114 u115 u116 : Value)
    (hb : Below w.heap.size w W) (hp : RowA w (.slice ao q.length ac) q) (hx : Box W mb (mcells m pV lV) 32) (ho : OwnB W w.heap.size bv l) (h1 : ∀ c ∈ q, c.1.size ≤ 12 ∧ c.2.2.2.size ≤ 12) (h2 : l.length + (q.flatMap attB).length ≤ 5000) (h3 : 2 ≤ l.length) (h4 : q.length ≤ 1000)
    (hQ : ∀ (w' : World) (v n7 n87 n88 n89 n90 n91 n92 n93 n94 n95 n96 n97 n98 n99 n100 n101 n102 n103 n104 n105 n106 n107 n108 n109 n110 n111 n112 n113 n114 n115 : Value), Below w.heap.size w w' → OwnB w' w.heap.size v (l ++ q.flatMap attB) → Box w' mb (mcells m pV lV) 32 → Q .normal ⟨(u0 :: .pointer (some ⟨mb, 0, none⟩) :: u2 :: v :: u4 :: u5 :: u6 :: n7 :: u8 :: u9 :: u10 :: u11 :: u12 :: u13 :: u14 :: u15 :: u16 :: u17 :: u18 :: u19 :: u20 :: u21 :: u22 :: u23 :: u24 :: u25 :: u26 :: u27 :: u28 :: u29 :: u30 :: u31 :: u32 :: u33 :: u34 :: u35 :: u36 :: u37 :: u38 :: u39 :: u40 :: u41 :: u42 :: u43 :: u44 :: u45 :: u46 :: u47 :: u48 :: u49 :: u50 :: u51 :: u52 :: u53 :: u54 :: u55 :: u56 :: u57 :: u58 :: u59 :: u60 :: u61 :: u62 :: u63 :: u64 :: u65 :: u66 :: u67 :: u68 :: u69 :: u70 :: u71 :: u72 :: u73 :: u74 :: u75 :: u76 :: u77 :: u78 :: u79 :: u80 :: u81 :: u82 :: u83 :: u84 :: .slice ao q.length ac :: .int .i64 (q.length : Int) :: n87 :: n88 :: n89 :: n90 :: n91 :: n92 :: n93 :: n94 :: n95 :: n96 :: n97 :: n98 :: n99 :: n100 :: n101 :: n102 :: n103 :: n104 :: n105 :: n106 :: n107 :: n108 :: n109 :: n110 :: n111 :: n112 :: n113 :: n114 :: n115 :: u116 :: []).toArray, []⟩ w') :
    Code.wp Tryd.prog byA Q ⟨(u0 :: .pointer (some ⟨mb, 0, none⟩) :: u2 :: bv :: u4 :: u5 :: u6 :: u7 :: u8 :: u9 :: u10 :: u11 :: u12 :: u13 :: u14 :: u15 :: u16 :: u17 :: u18 :: u19 :: u20 :: u21 :: u22 :: u23 :: u24 :: u25 :: u26 :: u27 :: u28 :: u29 :: u30 :: u31 :: u32 :: u33 :: u34 :: u35 :: u36 :: u37 :: u38 :: u39 :: u40 :: u41 :: u42 :: u43 :: u44 :: u45 :: u46 :: u47 :: u48 :: u49 :: u50 :: u51 :: u52 :: u53 :: u54 :: u55 :: u56 :: u57 :: u58 :: u59 :: u60 :: u61 :: u62 :: u63 :: u64 :: u65 :: u66 :: u67 :: u68 :: u69 :: u70 :: u71 :: u72 :: u73 :: u74 :: u75 :: u76 :: u77 :: u78 :: u79 :: u80 :: u81 :: u82 :: u83 :: u84 :: .slice ao q.length ac :: .int .i64 (q.length : Int) :: .int .i64 0 :: u88 :: u89 :: u90 :: u91 :: u92 :: u93 :: u94 :: u95 :: u96 :: u97 :: u98 :: u99 :: u100 :: u101 :: u102 :: u103 :: u104 :: u105 :: u106 :: u107 :: u108 :: u109 :: u110 :: u111 :: u112 :: u113 :: u114 :: u115 :: u116 :: []).toArray, []⟩ W := by
  have HQ := Lib.hid hQ
  have HP := Lib.hid hp
  have HX := Lib.hid hx
  have HO := Lib.hid ho
  have HB := Lib.hid hb
  have H1 := Lib.hid h1
  have H2 := Lib.hid h2
  have H3 := Lib.hid h3
  clear hQ hp hx ho hb h1 h2 h3
  unfold byA
  conv => arg 2; whnf
  go_wp2
  go_loopw [3, 87] (fun b i wr => ∃ j : Nat, j ≤ q.length ∧ i = .int .i64 j ∧ Below w.heap.size w wr ∧ OwnB wr w.heap.size b (l ++ (q.take j).flatMap attB) ∧ Box wr mb (mcells m pV lV) 32) (fun _ i _ => q.length - (intOf i).toNat)
  case atStart => exact ⟨0, Nat.zero_le _, rfl, HB.out, by simpa using HO.out, HX.out⟩
  case round =>
    obtain ⟨j, hj, rfl, hb, ho, hx⟩ := hrel
    have RB := Lib.hid hb
    have RO := Lib.hid ho
    have RX := Lib.hid hx
    clear hb ho hx
    by_cases hlt : j < q.length
    · obtain ⟨⟨nm, b1, n, t⟩, hc⟩ : ∃ x, q[j]? = some x := ⟨_, List.getElem?_eq_getElem hlt⟩
      obtain ⟨p, ix, px⟩ := row_cells HP.out rfl rfl hc
      obtain ⟨p0, p1, p2, p3⟩ := px _ RB.out
      have TX := Lib.hid (H1.out _ (List.mem_of_getElem? hc))
      have SU := Lib.hid (show l ++ (q.take (j + 1)).flatMap attB = l ++ (q.take j).flatMap attB ++ attB (nm, b1, n, t) by rw [flat_succ attB q j _ hc, List.append_assoc])
      have LN := Lib.hid (show (l ++ (q.take j).flatMap attB).length ≤ 5000 by have a1 := H2.out; have a2 := flat_take attB q j; rw [List.length_append]; omega)
      have LM := Lib.hid (show 2 ≤ (l ++ (q.take j).flatMap attB).length by have a1 := H3.out; rw [List.length_append]; omega)
      generalize l ++ (q.take j).flatMap attB = lj at *
      have hb4 : Below w.heap.size w (wr.alloc (.cells #[.string nm, .bool b1, .int .i64 n, .string t] 61)) := RB.out.alloc RB.out.size _
      have B4 := Lib.hid hb4
      have X4 := Lib.hid (RX.out.more (.cells #[.string nm, .bool b1, .int .i64 n, .string t] 61))
      have C4 := Lib.hid (box_new wr #[.string nm, .bool b1, .int .i64 n, .string t] 61)
      have O4 := Lib.hid (Rw.own_on RO.out ((Below.refl _ wr).alloc (Nat.le_refl _) (.cells #[.string nm, .bool b1, .int .i64 n, .string t] 61)))
      clear hb4 hc px
      simp only at p0 p1 p2 p3
      go_wp2_with fail
      clear p0 p1 p2 p3 ix
      generalize wr.alloc (.cells #[.string nm, .bool b1, .int .i64 n, .string t] 61) = W4 at *
      refine (rtext_any nm W4 (by have := TX.out.1; omega)).mono ?_
      rintro e w6 ⟨⟨v6, rfl, ho6⟩, hb6⟩
      have O5b := Lib.hid (Rw.own_on O4.out hb6)
      have X5b := Lib.hid (X4.out.on hb6)
      have C5b := Lib.hid (C4.out.on hb6)
      have B5b := Lib.hid (B4.out.trans (hb6.mono B4.out.size))
      obtain ⟨v7, w7, r, o7, gr, hb7⟩ := app_nextB (l := lj) (m := textB nm) (Nat.le_refl _) B5b.out O5b.out (Row.of_own ho6) (by have := LN.out; have := TX.out.1; rw [textB_lenW nm (by omega)]; omega)
      have O7 := Lib.hid o7
      have X7 := Lib.hid (box_grown X5b.out gr (own_neB O5b.out X5b.out (by decide)))
      have C7 := Lib.hid (box_grown C5b.out gr (own_neB O5b.out C5b.out (by decide)))
      have B7 := Lib.hid hb7
      have L7 := Lib.hid (show (lj ++ textB nm).length ≤ 6000 by have a1 := LN.out; have a2 := TX.out.1; rw [List.length_append, textB_lenW nm (by omega)]; omega)
      clear ho6 hb6 o7 gr hb7 O5b X5b C5b B5b O4 X4 C4 B4 RO RX RB
      have c1 := C7.out.cell 1
      simp only [List.getElem?_toArray, List.getElem?_cons_zero, List.getElem?_cons_succ] at c1
      cases b1
      · go_wp2_with (first | (at_builtin; refine wpList_append_run rfl _ _ 22 rfl rfl rfl r ?_) | fail)
        clear r
        go_wp2_with fail
        go_upto_region 22 with fail
        refine by22 w.heap.size mb wr.heap.size m pV lV _ (lj ++ textB nm) nm t false n _ w7 _ _ _ _ _ _ _ _ _ _ _ _ _ _ _ _ _ _ _ _ _ _ _ _ _ _ _ _ _ _ _ _ _ _ _ _ _ _ _ _ _ _ _ _ _ _ _ _ _ _ _ _ _ _ _ _ _ _ _ _ _ _ _ _ _ _ _ _ _ _ _ _ _ _ _ _ _ _ _ _ _ _ _ _ _ _ _ _ _ _ _ _ _ _ _ _ _ _ _ _ _ _ _ _ _ _ _ _ _ _ _ _ _ _ B7.out.size X7.out C7.out O7.out (by have := L7.out; omega) ?_
        intro w8 v8 m107 m108 m109 m110 m111 m112 m113 m114 ho8 hb8 hx8 _
        have O8 := Lib.hid ho8
        have B8 := Lib.hid (B7.out.trans hb8)
        have X8 := Lib.hid hx8
        have EQ := Lib.hid (show lj ++ attB (nm, false, n, t) = lj ++ textB nm ++ [0] ++ numB n by simp [attB, List.append_assoc])
        clear ho8 hb8 hx8 c1 O7 X7 C7
        try simp only [Exit.then]
        apply_assumption
        go_wp2
        go_roundw
        case rel => exact ⟨j + 1, by omega, by go_num, B8.out, by rw [SU.out, EQ.out]; exact O8.out, X8.out⟩
        case measure => simp [intOf]; omega
      · go_wp2_with (first | (at_builtin; refine wpList_append_run rfl _ _ 22 rfl rfl rfl r ?_) | fail)
        clear r
        go_wp2_with fail
        go_upto_region 21 with fail
        refine by21 w.heap.size mb wr.heap.size m pV lV _ (lj ++ textB nm) nm t true n _ w7 _ _ _ _ _ _ _ _ _ _ _ _ _ _ _ _ _ _ _ _ _ _ _ _ _ _ _ _ _ _ _ _ _ _ _ _ _ _ _ _ _ _ _ _ _ _ _ _ _ _ _ _ _ _ _ _ _ _ _ _ _ _ _ _ _ _ _ _ _ _ _ _ _ _ _ _ _ _ _ _ _ _ _ _ _ _ _ _ _ _ _ _ _ _ _ _ _ _ _ _ _ _ _ _ _ _ _ _ _ _ _ _ _ _ B7.out.size X7.out C7.out O7.out (by have := L7.out; omega) (by have := TX.out.2; omega) ?_
        intro w8 v8 m99 m100 m101 m102 m103 m104 m105 m106 ho8 hb8 hx8 _
        have O8 := Lib.hid ho8
        have B8 := Lib.hid (B7.out.trans hb8)
        have X8 := Lib.hid hx8
        have EQ := Lib.hid (show lj ++ attB (nm, true, n, t) = lj ++ textB nm ++ [1] ++ textB t by simp [attB, List.append_assoc])
        clear ho8 hb8 hx8 c1 O7 X7 C7
        try simp only [Exit.then]
        apply_assumption
        go_wp2
        go_roundw
        case rel => exact ⟨j + 1, by omega, by go_num, B8.out, by rw [SU.out, EQ.out]; exact O8.out, X8.out⟩
        case measure => simp [intOf]; omega
    · obtain rfl : j = q.length := by omega
      rw [List.take_of_length_le (Nat.le_refl _)] at RO
      go_wp2
      exact HQ.out _ _ _ _ _ _ _ _ _ _ _ _ _ _ _ _ _ _ _ _ _ _ _ _ _ _ _ _ _ _ _ _ RB.out RO.out RX.out
end Go.Proofs.YtfcgfnmokbbcaaaDoor.Wr

namespace Go.Proofs.YtfcgfnmokbbcaaaDoor.Ws
open Go.RowKit Go.Proofs.YtfcgfnmokbbcaaaDoor Go.Proofs.YtfcgfnmokbbcaaaDoor.Rw Go.Proofs.YtfcgfnmokbbcaaaDoor.Nm Go.Proofs.YtfcgfnmokbbcaaaDoor.At Go.Proofs.YtfcgfnmokbbcaaaDoor.Pr Go.Proofs.YtfcgfnmokbbcaaaDoor.Wr

theorem att_most (a : A4) (h : a.1.size ≤ 12 ∧ a.2.2.2.size ≤ 12) : (attB a).length ≤ 40 := by
  unfold attB
  rw [List.length_append, textB_lenW _ (by omega)]
  split
  · rw [List.length_cons, textB_lenW _ (by omega)]; omega
  · rw [List.length_cons, numB_len]; omega
theorem atts_most : ∀ l : List A4, (∀ c ∈ l, c.1.size ≤ 12 ∧ c.2.2.2.size ≤ 12) → (l.flatMap attB).length ≤ l.length * 40 := by
  intro l
  induction l with
  | nil => intro _; simp
  | cons c l ih =>
    intro hc
    have a1 := ih (fun x hx => hc x (List.mem_cons_of_mem _ hx))
    have a2 := att_most c (hc c (List.mem_cons_self ..))
    rw [List.flatMap_cons, List.length_append, List.length_cons, Nat.succ_mul]
    omega
set_option maxRecDepth 100000 in
set_option maxHeartbeats 16000000 in
theorem putattrs_any (pv : Value) (p : List A4) (w : World) (hp : RowA w pv p) (h1 : ∀ c ∈ p, c.1.size ≤ 12 ∧ c.2.2.2.size ≤ 12) (h5 : p.length ≤ 5) :
    Calls Tryd.prog 28 #[pv] w fun e w' => (∃ v, e = .returned v ∧ OwnB w' w.heap.size v (UInt8.ofNat p.length :: p.flatMap attB)) ∧ Below w.heap.size w w' := by
  have HP := Lib.hid hp
  have H1 := Lib.hid h1
  have H5 := Lib.hid h5
  obtain ⟨ao, ac, rfl⟩ := hp.len
  have hwr : IntKind.u8.wrap (p.length : Int) = p.length := IntWalk.u8_in _ (by omega)
  have hlit := own_lit1 w (UInt8.ofNat p.length)
  rw [len_byte (show p.length ≤ 255 by omega)] at hlit
  have O0 := Lib.hid hlit
  have B0 := Lib.hid ((Below.refl w.heap.size w).alloc (Nat.le_refl _) (.cells #[.int .u8 (p.length : Int)] 5))
  have FL := Lib.hid (show (p.flatMap attB).length ≤ 200 by have := atts_most p h1; omega)
  clear hp h1 h5 hlit
  go_enter Tryd.func28, Tryd.ntmps28
  go_wp2
  go_loopw [3, 12] (fun b i wr => ∃ j : Nat, j ≤ p.length ∧ i = .int .i64 j ∧ Below w.heap.size w wr ∧ OwnB wr w.heap.size b (UInt8.ofNat p.length :: (p.take j).flatMap attB)) (fun _ i _ => p.length - (intOf i).toNat)
  case atStart => exact ⟨0, Nat.zero_le _, rfl, B0.out, by simpa using O0.out⟩
  case round =>
    obtain ⟨j, hj, rfl, hb, ho⟩ := hrel
    have RB := Lib.hid hb
    have RO := Lib.hid ho
    clear hb ho hwr
    have hfive := H5.out
    by_cases hlt : j < p.length
    · obtain ⟨⟨nm, isT, n, t⟩, hc⟩ : ∃ x, p[j]? = some x := ⟨_, List.getElem?_eq_getElem hlt⟩
      obtain ⟨q, ix, px⟩ := row_cells HP.out rfl rfl hc
      obtain ⟨p0, p1, p2, p3⟩ := px _ RB.out
      have TX := Lib.hid (H1.out _ (List.mem_of_getElem? hc))
      have SU := Lib.hid (show UInt8.ofNat p.length :: (p.take (j + 1)).flatMap attB = UInt8.ofNat p.length :: (p.take j).flatMap attB ++ attB (nm, isT, n, t) by rw [flat_succ attB p j _ hc, List.cons_append])
      have LN := Lib.hid (show (UInt8.ofNat p.length :: (p.take j).flatMap attB).length ≤ 300 by have a1 := FL.out; have a2 := flat_take attB p j; rw [List.length_cons]; omega)
      generalize UInt8.ofNat p.length :: (p.take j).flatMap attB = lj at *
      obtain ⟨W4, hW4⟩ : ∃ W4, W4 = wr.alloc (.cells #[.string nm, .bool isT, .int .i64 n, .string t] 61) := ⟨_, rfl⟩
      have B4 := Lib.hid (show Below w.heap.size w W4 by rw [hW4]; exact RB.out.alloc RB.out.size _)
      have C4 := Lib.hid (show Box W4 wr.heap.size #[.string nm, .bool isT, .int .i64 n, .string t] 61 by rw [hW4]; exact box_new wr _ _)
      have O4 := Lib.hid (show OwnB W4 w.heap.size _ lj by rw [hW4]; exact Rw.own_on RO.out ((Below.refl _ wr).alloc (Nat.le_refl _) _))
      have T4 := Lib.hid (text_any nm W4)
      rw [hW4] at T4
      have HW4 := Lib.hid hW4
      clear hc px hW4
      simp only at p0 p1 p2 p3
      go_wp2_with fail
      clear p0 p1 p2 p3 ix
      refine T4.out.mono ?_
      rw [← HW4.out]
      rintro e5 w5 ⟨⟨v5, rfl, ho5⟩, hb5⟩
      have O5 := Lib.hid (Rw.own_on O4.out hb5)
      have B5 := Lib.hid (B4.out.trans (hb5.mono B4.out.size))
      have C5' := Lib.hid (C4.out.on hb5)
      obtain ⟨v6, w6, r6, o6, gr6, hb6⟩ := app_nextB (l := lj) (m := textB nm) (Nat.le_refl _) B5.out O5.out (Row.of_own ho5) (by have a1 := LN.out; have a2 := TX.out.1; rw [textB_lenW nm (by omega)]; omega)
      have C6 := Lib.hid (box_grown C5'.out gr6 (own_neB O5.out C5'.out (by decide)))
      have O6 := Lib.hid o6
      have B6 := Lib.hid hb6
      have L6 := Lib.hid (show (lj ++ textB nm).length ≤ 400 by have a1 := LN.out; have a2 := TX.out.1; rw [List.length_append, textB_lenW nm (by omega)]; omega)
      have c0 := C5'.out.cell 0
      have d1 := C6.out.cell 1
      simp only [List.getElem?_toArray, List.getElem?_cons_zero, List.getElem?_cons_succ] at c0 d1
      clear ho5 hb5 o6 gr6 hb6 O4 C4 B4 T4 O5 B5 C5' RO RB
      cases isT
      · have hlit := own_lit1 w6 0
        have O7 := Lib.hid (Rw.own_on O6.out ((Below.refl _ w6).alloc (Nat.le_refl _) (.cells #[.int .u8 0] 5)))
        have C7 := Lib.hid (C6.out.more (.cells #[.int .u8 0] 5))
        have B7 := Lib.hid (B6.out.alloc B6.out.size (.cells #[.int .u8 0] 5))
        have hlit2 : OwnB (w6.alloc (.cells #[.int .u8 0] 5)) w6.heap.size (.slice (some ⟨w6.heap.size, 0, none⟩) 1 1) [0] := hlit
        obtain ⟨v8, w8, r8, o8, gr8, hb8⟩ := app_nextB (l := lj ++ textB nm) (m := [0]) (Nat.le_refl _) B7.out O7.out (Row.of_own hlit2) (by have a1 := L6.out; rw [List.length_singleton]; omega)
        have C8 := Lib.hid (box_grown C7.out gr8 (own_neB O7.out C7.out (by decide)))
        have O8 := Lib.hid o8
        have B8 := Lib.hid hb8
        have e2 := C8.out.cell 2
        have e3 := C8.out.cell 3
        simp only [List.getElem?_toArray, List.getElem?_cons_zero, List.getElem?_cons_succ] at e2 e3
        clear hlit hlit2 o8 gr8 hb8 C6 O6 B6 O7 C7 B7
        have OI := Lib.hid (show OwnI (w8.alloc (.cells #[.int .i64 n] 3)) w8.heap.size (.slice (some ⟨w8.heap.size, 0, none⟩) 1 1) [n] from litI w8 [n] 1 _ rfl (by simp) rfl)
        have NT := Lib.hid (number_any _ [n] _ (Row.of_own OI.out) (by simp))
        go_wp2_with (first | (at_builtin; first | refine wpList_append_run rfl _ _ 22 rfl rfl rfl r6 ?_ | refine wpList_append_run rfl _ _ 22 rfl rfl rfl r8 ?_) | fail)
        refine NT.out.mono ?_
        rintro e9 w9 ⟨⟨v9, rfl, ho9⟩, hb9⟩
        have hz := ((Below.refl w8.heap.size w8).alloc (Nat.le_refl _) (.cells #[.int .i64 n] 3)).trans (hb9.mono (show w8.heap.size ≤ (w8.alloc (.cells #[.int .i64 n] 3)).heap.size by simp))
        have O9 := Lib.hid (Rw.own_on O8.out hz)
        have B9 := Lib.hid (B8.out.trans (hz.mono B8.out.size))
        obtain ⟨v10, w10, r10, o10, gr10, hb10⟩ := app_nextB (l := lj ++ textB nm ++ [0]) (m := numsB [n]) (Nat.le_refl _) B9.out O9.out (Row.of_own ho9) (by have a1 := L6.out; rw [List.length_append, numsB_len, List.length_singleton, List.length_singleton]; omega)
        have O10 := Lib.hid o10
        have B10 := Lib.hid hb10
        have EQ := Lib.hid (show lj ++ attB (nm, false, n, t) = lj ++ textB nm ++ [0] ++ numsB [n] by simp [attB, numsB, List.append_assoc])
        clear ho9 hb9 hz o10 gr10 hb10 c0 d1 e2 e3 O8 C8 r6 r8
        go_wp2_with (first | (at_builtin; refine wpList_append_run rfl _ _ 22 rfl rfl rfl r10 ?_) | fail)
        clear r10
        go_wp2
        go_roundw
        case rel => exact ⟨j + 1, by omega, by go_num, B10.out, by rw [SU.out, EQ.out]; exact O10.out⟩
        case measure => simp [intOf]; omega
      · have hlit := own_lit1 w6 1
        have O7 := Lib.hid (Rw.own_on O6.out ((Below.refl _ w6).alloc (Nat.le_refl _) (.cells #[.int .u8 1] 5)))
        have C7 := Lib.hid (C6.out.more (.cells #[.int .u8 1] 5))
        have B7 := Lib.hid (B6.out.alloc B6.out.size (.cells #[.int .u8 1] 5))
        have hlit2 : OwnB (w6.alloc (.cells #[.int .u8 1] 5)) w6.heap.size (.slice (some ⟨w6.heap.size, 0, none⟩) 1 1) [1] := hlit
        obtain ⟨v8, w8, r8, o8, gr8, hb8⟩ := app_nextB (l := lj ++ textB nm) (m := [1]) (Nat.le_refl _) B7.out O7.out (Row.of_own hlit2) (by have a1 := L6.out; rw [List.length_singleton]; omega)
        have C8 := Lib.hid (box_grown C7.out gr8 (own_neB O7.out C7.out (by decide)))
        have O8 := Lib.hid o8
        have B8 := Lib.hid hb8
        have e2 := C8.out.cell 2
        have e3 := C8.out.cell 3
        simp only [List.getElem?_toArray, List.getElem?_cons_zero, List.getElem?_cons_succ] at e2 e3
        clear hlit hlit2 o8 gr8 hb8 C6 O6 B6 O7 C7 B7
        have NT := Lib.hid (text_any t w8)
        go_wp2_with (first | (at_builtin; first | refine wpList_append_run rfl _ _ 22 rfl rfl rfl r6 ?_ | refine wpList_append_run rfl _ _ 22 rfl rfl rfl r8 ?_) | fail)
        refine NT.out.mono ?_
        rintro e9 w9 ⟨⟨v9, rfl, ho9⟩, hb9⟩
        have hz := hb9
        have O9 := Lib.hid (Rw.own_on O8.out hz)
        have B9 := Lib.hid (B8.out.trans (hz.mono B8.out.size))
        obtain ⟨v10, w10, r10, o10, gr10, hb10⟩ := app_nextB (l := lj ++ textB nm ++ [1]) (m := textB t) (Nat.le_refl _) B9.out O9.out (Row.of_own ho9) (by have a1 := L6.out; have a2 := TX.out.2; rw [List.length_append, textB_lenW t (by omega), List.length_singleton]; omega)
        have O10 := Lib.hid o10
        have B10 := Lib.hid hb10
        have EQ := Lib.hid (show lj ++ attB (nm, true, n, t) = lj ++ textB nm ++ [1] ++ textB t by simp [attB, List.append_assoc])
        clear ho9 hb9 hz o10 gr10 hb10 c0 d1 e2 e3 O8 C8 r6 r8
        go_wp2_with (first | (at_builtin; refine wpList_append_run rfl _ _ 22 rfl rfl rfl r10 ?_) | fail)
        clear r10
        go_wp2
        go_roundw
        case rel => exact ⟨j + 1, by omega, by go_num, B10.out, by rw [SU.out, EQ.out]; exact O10.out⟩
        case measure => simp [intOf]; omega
    · obtain rfl : j = p.length := by omega
      rw [List.take_of_length_le (Nat.le_refl _)] at RO
      go_wp2
      go_ret
      exact ⟨⟨_, rfl, RO.out⟩, RB.out⟩
end Go.Proofs.YtfcgfnmokbbcaaaDoor.Ws
