/-
  The loop over constraints of Bytes of the statements' own package. Conditions: right constraints; few bytes.
  putPred of package wire: the bytes of right constraints. Condition: few of them.
-/
import Derived.Test.YtfcgfnmokbbcaaaDoorU025
import Derived.Test.YtfcgfnmokbbcaaaDoorU006
namespace Go.Proofs.YtfcgfnmokbbcaaaDoor.Wr
open Go.RowKit Go.Proofs.YtfcgfnmokbbcaaaDoor Go.Proofs.YtfcgfnmokbbcaaaDoor.Rw Go.Proofs.YtfcgfnmokbbcaaaDoor.Nm Go.Proofs.YtfcgfnmokbbcaaaDoor.At Go.Proofs.YtfcgfnmokbbcaaaDoor.Pr

theorem oneB_kind {c : C5} (h : oneB c = true) : c.2.1 = 1 ∨ c.2.1 = 2 ∨ c.2.1 = 3 := by
  unfold oneB at h
  rw [Bool.and_eq_true] at h
  have h2 := h.2
  split at h2
  · exact Or.inl ‹_›
  split at h2
  · exact Or.inr (Or.inl ‹_›)
  split at h2
  · exact Or.inr (Or.inr ‹_›)
  · cases h2
theorem oneB_text {c : C5} (h : oneB c = true) : c.1.size ≤ 12 ∧ c.2.2.2.2.size ≤ 12 := by
  unfold oneB at h
  rw [Bool.and_eq_true] at h
  refine ⟨(nameB_size h.1).2, ?_⟩
  have h2 := h.2
  split at h2
  · simp only [Bool.and_eq_true, decide_eq_true_eq] at h2; omega
  split at h2
  · simp only [Bool.and_eq_true, decide_eq_true_eq] at h2; omega
  split at h2
  · simp only [Bool.and_eq_true, decide_eq_true_eq] at h2; omega
  · cases h2
theorem flat_take {α : Type} (f : α → List UInt8) (l : List α) (j : Nat) : ((l.take j).flatMap f).length ≤ (l.flatMap f).length := by
  have h : l.flatMap f = (l.take j).flatMap f ++ (l.drop j).flatMap f := by rw [← List.flatMap_append, List.take_append_drop]
  rw [h, List.length_append]
  omega
theorem flat_succ {α : Type} (f : α → List UInt8) (l : List α) (j : Nat) (x : α) (h : l[j]? = some x) : (l.take (j + 1)).flatMap f = (l.take j).flatMap f ++ f x := by
  rw [List.take_add_one, h, List.flatMap_append]
  simp
noncomputable def byC : Code := ((Tryd.f19.body.bind (findBlock 0)).getD .skip)
set_option maxRecDepth 100000 in
set_option maxHeartbeats 16000000 in
theorem cons_loop (Q : Exit → Act → World → Prop) (w W : World) (mb : Nat) (m : Mg) (pV lV bv : Value) (l : List UInt8) (p : List C5) (ao : Option Addr) (ac : Nat) (u0 u2 u4 u5 u6 u7 u8 u9 u10 u11 u12 u13 u14 u15 u16 u17 u18 u19 u20 u21 u22 u23 u24 u25 u26 u27 u28 u29 u30 u31 u32 u33 u34 u35 u36 u37 u38 u39 u43 u44 u45 u46 u47 u48 u49 u50 u51 u52 u53 u54 u55 u56 u57 u58 u59 u60 u61 u62 u63 u64 u65 u66 u67 u68 u69 u70 u71 u72 u73 u74 u75 u76 u77 u78 u79 u80 u81 u82 u83 u84 u85 u86 u87 u88 u89 u90 u91 u92 u93 u94 u95 u96 u97 u98 u99 u100 u101 u102 u103 u104 u105 u106 u107 u108 u109 u110 u111 u112 u113 u114 u115 u116 : Value)
    (hb : Below w.heap.size w W) (hp : RowC w (.slice ao p.length ac) p) (hx : Box W mb (mcells m pV lV) 32) (ho : OwnB W w.heap.size bv l) (h1 : ∀ c ∈ p, oneB c = true) (h2 : l.length + (p.flatMap conB).length ≤ 5000) (h3 : 2 ≤ l.length) (h4 : p.length ≤ 1000)
    (hQ : ∀ (w' : World) (v n5 n42 n43 n44 n45 n46 n47 n48 n49 n50 n51 n52 n53 n54 n55 n56 n57 n58 n59 n60 n61 n62 n63 n64 n65 n66 n67 n68 n69 n70 n71 n72 n73 : Value), Below w.heap.size w w' → OwnB w' w.heap.size v (l ++ p.flatMap conB) → Box w' mb (mcells m pV lV) 32 → Q .normal ⟨(u0 :: .pointer (some ⟨mb, 0, none⟩) :: u2 :: v :: u4 :: n5 :: u6 :: u7 :: u8 :: u9 :: u10 :: u11 :: u12 :: u13 :: u14 :: u15 :: u16 :: u17 :: u18 :: u19 :: u20 :: u21 :: u22 :: u23 :: u24 :: u25 :: u26 :: u27 :: u28 :: u29 :: u30 :: u31 :: u32 :: u33 :: u34 :: u35 :: u36 :: u37 :: u38 :: u39 :: .slice ao p.length ac :: .int .i64 (p.length : Int) :: n42 :: n43 :: n44 :: n45 :: n46 :: n47 :: n48 :: n49 :: n50 :: n51 :: n52 :: n53 :: n54 :: n55 :: n56 :: n57 :: n58 :: n59 :: n60 :: n61 :: n62 :: n63 :: n64 :: n65 :: n66 :: n67 :: n68 :: n69 :: n70 :: n71 :: n72 :: n73 :: u74 :: u75 :: u76 :: u77 :: u78 :: u79 :: u80 :: u81 :: u82 :: u83 :: u84 :: u85 :: u86 :: u87 :: u88 :: u89 :: u90 :: u91 :: u92 :: u93 :: u94 :: u95 :: u96 :: u97 :: u98 :: u99 :: u100 :: u101 :: u102 :: u103 :: u104 :: u105 :: u106 :: u107 :: u108 :: u109 :: u110 :: u111 :: u112 :: u113 :: u114 :: u115 :: u116 :: []).toArray, []⟩ w') :
    Code.wp Tryd.prog byC Q ⟨(u0 :: .pointer (some ⟨mb, 0, none⟩) :: u2 :: bv :: u4 :: u5 :: u6 :: u7 :: u8 :: u9 :: u10 :: u11 :: u12 :: u13 :: u14 :: u15 :: u16 :: u17 :: u18 :: u19 :: u20 :: u21 :: u22 :: u23 :: u24 :: u25 :: u26 :: u27 :: u28 :: u29 :: u30 :: u31 :: u32 :: u33 :: u34 :: u35 :: u36 :: u37 :: u38 :: u39 :: .slice ao p.length ac :: .int .i64 (p.length : Int) :: .int .i64 0 :: u43 :: u44 :: u45 :: u46 :: u47 :: u48 :: u49 :: u50 :: u51 :: u52 :: u53 :: u54 :: u55 :: u56 :: u57 :: u58 :: u59 :: u60 :: u61 :: u62 :: u63 :: u64 :: u65 :: u66 :: u67 :: u68 :: u69 :: u70 :: u71 :: u72 :: u73 :: u74 :: u75 :: u76 :: u77 :: u78 :: u79 :: u80 :: u81 :: u82 :: u83 :: u84 :: u85 :: u86 :: u87 :: u88 :: u89 :: u90 :: u91 :: u92 :: u93 :: u94 :: u95 :: u96 :: u97 :: u98 :: u99 :: u100 :: u101 :: u102 :: u103 :: u104 :: u105 :: u106 :: u107 :: u108 :: u109 :: u110 :: u111 :: u112 :: u113 :: u114 :: u115 :: u116 :: []).toArray, []⟩ W := by
  have HQ := Lib.hid hQ
  have HP := Lib.hid hp
  have HX := Lib.hid hx
  have HO := Lib.hid ho
  have HB := Lib.hid hb
  have H1 := Lib.hid h1
  have H2 := Lib.hid h2
  have H3 := Lib.hid h3
  clear hQ hp hx ho hb h1 h2 h3
  unfold byC
  conv => arg 2; whnf
  go_wp2
  go_loopw [3, 42] (fun b i wr => ∃ j : Nat, j ≤ p.length ∧ i = .int .i64 j ∧ Below w.heap.size w wr ∧ OwnB wr w.heap.size b (l ++ (p.take j).flatMap conB) ∧ Box wr mb (mcells m pV lV) 32) (fun _ i _ => p.length - (intOf i).toNat)
  case atStart => exact ⟨0, Nat.zero_le _, rfl, HB.out, by simpa using HO.out, HX.out⟩
  case round =>
    obtain ⟨j, hj, rfl, hb, ho, hx⟩ := hrel
    have RB := Lib.hid hb
    have RO := Lib.hid ho
    have RX := Lib.hid hx
    clear hb ho hx
    by_cases hlt : j < p.length
    · obtain ⟨⟨nm, kd, lo, hgh, t⟩, hc⟩ : ∃ x, p[j]? = some x := ⟨_, List.getElem?_eq_getElem hlt⟩
      obtain ⟨q, ix, px⟩ := elC HP.out rfl rfl hc
      obtain ⟨p0, p1, p2, p3, p4⟩ := px _ RB.out
      have ONE := Lib.hid (H1.out _ (List.mem_of_getElem? hc))
      have TX := Lib.hid (oneB_text ONE.out)
      have KN := Lib.hid (oneB_kind ONE.out)
      have SU := Lib.hid (show l ++ (p.take (j + 1)).flatMap conB = l ++ (p.take j).flatMap conB ++ conB (nm, kd, lo, hgh, t) by rw [flat_succ conB p j _ hc, List.append_assoc])
      have LN := Lib.hid (show (l ++ (p.take j).flatMap conB).length ≤ 5000 by have a1 := H2.out; have a2 := flat_take conB p j; rw [List.length_append]; omega)
      have LM := Lib.hid (show 2 ≤ (l ++ (p.take j).flatMap conB).length by have a1 := H3.out; rw [List.length_append]; omega)
      generalize l ++ (p.take j).flatMap conB = lj at *
      have hb4 : Below w.heap.size w (wr.alloc (.cells #[.string nm, .int .i64 kd, .int .i64 lo, .int .i64 hgh, .string t] 57)) := RB.out.alloc RB.out.size _
      have B4 := Lib.hid hb4
      have X4 := Lib.hid (RX.out.more (.cells #[.string nm, .int .i64 kd, .int .i64 lo, .int .i64 hgh, .string t] 57))
      have C4 := Lib.hid (box_new wr #[.string nm, .int .i64 kd, .int .i64 lo, .int .i64 hgh, .string t] 57)
      have O4 := Lib.hid (Rw.own_on RO.out ((Below.refl _ wr).alloc (Nat.le_refl _) (.cells #[.string nm, .int .i64 kd, .int .i64 lo, .int .i64 hgh, .string t] 57)))
      have hwr : IntKind.u8.wrap kd = ((UInt8.ofNat kd.toNat).toNat : Int) := by
        rcases KN.out with h | h | h <;> (have h : kd = _ := h; subst h; decide)
      have WR := Lib.hid hwr
      clear hb4 hc hwr px
      simp only at p0 p1 p2 p3 p4
      go_wp2_with fail
      go_upto_region 9 with fail
      clear p0 p1 p2 p3 p4 ix
      refine by9 w.heap.size mb wr.heap.size m pV lV _ lj nm t kd lo hgh (UInt8.ofNat kd.toNat) _ _ _ _ _ _ _ _ _ _ _ _ _ _ _ _ _ _ _ _ _ _ _ _ _ _ _ _ _ _ _ _ _ _ _ _ _ _ _ _ _ _ _ _ _ _ _ _ _ _ _ _ _ _ _ _ _ _ _ _ _ _ _ _ _ _ _ _ _ _ _ _ _ _ _ _ _ _ _ _ _ _ _ _ _ _ _ _ _ _ _ _ _ _ _ _ _ _ _ _ _ _ _ _ _ _ _ _ _ _ _ _ _ _ _ _ B4.out.size X4.out C4.out O4.out WR.out (by have := TX.out.1; omega) LM.out (by have := LN.out; omega) ?_
      intro w5 v5 m46 m47 m48 m49 m50 m51 m52 m53 m54 m55 ho5 hb5 hx5 hc5
      have O5 := Lib.hid ho5
      have B5 := Lib.hid (B4.out.trans hb5)
      have X5 := Lib.hid hx5
      have C5_ := Lib.hid hc5
      have L5 := Lib.hid (show (lj ++ textB nm ++ [UInt8.ofNat kd.toNat]).length ≤ 6000 by have a1 := LN.out; have a2 := TX.out.1; rw [List.length_append, List.length_append, textB_lenW nm (by omega)]; simp; omega)
      clear ho5 hb5 hx5 hc5 O4 C4 X4 B4 RO RX RB
      have c1 := C5_.out.cell 1
      have c2 := C5_.out.cell 2
      have c3 := C5_.out.cell 3
      have c4 := C5_.out.cell 4
      simp only [List.getElem?_toArray, List.getElem?_cons_zero, List.getElem?_cons_succ] at c1 c2 c3 c4
      simp only [Exit.then]
      apply_assumption
      have hmb := X5.out.lt
      by_cases hk : kd = 1
      · subst hk
        go_wp2_with fail
        go_upto_region 11 with fail
        refine by11 w.heap.size mb wr.heap.size m pV lV _ (lj ++ textB nm ++ [UInt8.ofNat (1 : Int).toNat]) nm t 1 lo hgh _ w5 _ _ _ _ _ _ _ _ _ _ _ _ _ _ _ _ _ _ _ _ _ _ _ _ _ _ _ _ _ _ _ _ _ _ _ _ _ _ _ _ _ _ _ _ _ _ _ _ _ _ _ _ _ _ _ _ _ _ _ _ _ _ _ _ _ _ _ _ _ _ _ _ _ _ _ _ _ _ _ _ _ _ _ _ _ _ _ _ _ _ _ _ _ _ _ _ _ _ _ _ _ _ _ _ _ _ _ _ _ _ _ _ _ _ B5.out.size X5.out C5_.out O5.out (by have := L5.out; omega) ?_
        intro w6 v6 m59 m60 m61 m62 m63 m64 m65 m66 m67 ho6 hb6 hx6 _
        have O6 := Lib.hid ho6
        have B6 := Lib.hid (B5.out.trans hb6)
        have X6 := Lib.hid hx6
        have EQ := Lib.hid (show lj ++ conB (nm, 1, lo, hgh, t) = lj ++ textB nm ++ [UInt8.ofNat (1 : Int).toNat] ++ numB lo ++ numB hgh by simp [conB, List.append_assoc])
        clear ho6 hb6 hx6 c1 c2 c3 c4 hmb O5 X5 C5_
        try simp only [Exit.then]
        apply_assumption
        go_wp2
        go_roundw
        case rel => exact ⟨j + 1, by omega, by go_num, B6.out, by rw [SU.out, EQ.out]; exact O6.out, X6.out⟩
        case measure => simp [intOf]; omega
      · have hk2 : (kd == 1) = false := by simpa using hk
        have HK := Lib.hid hk
        clear hk
        go_wp2_with fail
        refine (rtext_any t w5 (by have := TX.out.2; omega)).mono ?_
        rintro e w6 ⟨⟨v6, rfl, ho6⟩, hb6⟩
        have O5b := Lib.hid (Rw.own_on O5.out hb6)
        have X5b := Lib.hid (X5.out.on hb6)
        have B5b := Lib.hid (B5.out.trans (hb6.mono B5.out.size))
        obtain ⟨v7, w7, r, o7, gr, hb7⟩ := app_nextB (l := lj ++ textB nm ++ [UInt8.ofNat kd.toNat]) (m := textB t) (Nat.le_refl _) B5b.out O5b.out (Row.of_own ho6) (by have := L5.out; have := TX.out.2; rw [textB_lenW t (by omega)]; omega)
        have O7 := Lib.hid o7
        have X7 := Lib.hid (box_grown X5b.out gr (own_neB O5b.out X5b.out (by decide)))
        have B7 := Lib.hid hb7
        have EQ := Lib.hid (show lj ++ conB (nm, kd, lo, hgh, t) = lj ++ textB nm ++ [UInt8.ofNat kd.toNat] ++ textB t by simp [conB, List.append_assoc, HK.out])
        clear ho6 hb6 o7 gr hb7 c1 c2 c3 c4 hmb O5 X5 C5_ O5b X5b B5b
        go_wp2_with (first | (at_builtin; refine wpList_append_run rfl _ _ 22 rfl rfl rfl r ?_) | fail)
        clear r
        go_wp2
        go_roundw
        case rel => exact ⟨j + 1, by omega, by go_num, B7.out, by rw [SU.out, EQ.out]; exact O7.out, X7.out⟩
        case measure => simp [intOf]; omega
    · obtain rfl : j = p.length := by omega
      rw [List.take_of_length_le (Nat.le_refl _)] at RO
      go_wp2
      exact HQ.out _ _ _ _ _ _ _ _ _ _ _ _ _ _ _ _ _ _ _ _ _ _ _ _ _ _ _ _ _ _ _ _ _ _ _ RB.out RO.out RX.out
end Go.Proofs.YtfcgfnmokbbcaaaDoor.Wr

namespace Go.Proofs.YtfcgfnmokbbcaaaDoor.Ws
open Go.RowKit Go.Proofs.YtfcgfnmokbbcaaaDoor Go.Proofs.YtfcgfnmokbbcaaaDoor.Rw Go.Proofs.YtfcgfnmokbbcaaaDoor.Nm Go.Proofs.YtfcgfnmokbbcaaaDoor.At Go.Proofs.YtfcgfnmokbbcaaaDoor.Pr Go.Proofs.YtfcgfnmokbbcaaaDoor.Wr

theorem len_byte {n : Nat} (h : n ≤ 255) : ((UInt8.ofNat n).toNat : Int) = n := by rw [UInt8.toNat_ofNat']; omega
theorem kd_byte {kd : Int} (h : kd = 1 ∨ kd = 2 ∨ kd = 3) : IntKind.u8.wrap kd = kd ∧ ((UInt8.ofNat kd.toNat).toNat : Int) = kd := by
  rcases h with rfl | rfl | rfl <;> exact ⟨rfl, rfl⟩
set_option maxRecDepth 100000 in
set_option maxHeartbeats 16000000 in
theorem putpred_any (pv : Value) (p : List C5) (w : World) (hp : RowC w pv p) (h1 : ∀ c ∈ p, oneB c = true) (h5 : p.length ≤ 5) :
    Calls Tryd.prog 27 #[pv] w fun e w' => (∃ v, e = .returned v ∧ OwnB w' w.heap.size v (UInt8.ofNat p.length :: p.flatMap conB)) ∧ Below w.heap.size w w' := by
  have HP := Lib.hid hp
  have H1 := Lib.hid h1
  have H5 := Lib.hid h5
  obtain ⟨ao, ac, rfl⟩ := hp.len
  have hwr : IntKind.u8.wrap (p.length : Int) = p.length := IntWalk.u8_in _ (by omega)
  have hlit := own_lit1 w (UInt8.ofNat p.length)
  rw [len_byte (show p.length ≤ 255 by omega)] at hlit
  have O0 := Lib.hid hlit
  have B0 := Lib.hid ((Below.refl w.heap.size w).alloc (Nat.le_refl _) (.cells #[.int .u8 (p.length : Int)] 5))
  have FL := Lib.hid (show (p.flatMap conB).length ≤ 200 by
    have h2 : ∀ l : List C5, (∀ c ∈ l, oneB c = true) → (l.flatMap conB).length ≤ l.length * 40 := by
      intro l
      induction l with
      | nil => intro _; simp
      | cons c l ih =>
        intro hc
        have a1 := ih (fun x hx => hc x (List.mem_cons_of_mem _ hx))
        have a2 : (conB c).length ≤ 40 := by
          have t := oneB_text (hc c (List.mem_cons_self ..))
          unfold conB
          rw [List.length_append, textB_lenW _ (by omega), List.length_cons]
          split
          · rw [List.length_append, numB_len, numB_len]; omega
          · rw [textB_lenW _ (by omega)]; omega
        rw [List.flatMap_cons, List.length_append, List.length_cons, Nat.succ_mul]
        omega
    have h3 := h2 p h1
    omega)
  clear hp h1 h5 hlit
  go_enter Tryd.func27, Tryd.ntmps27
  go_wp2
  go_loopw [3, 12] (fun b i wr => ∃ j : Nat, j ≤ p.length ∧ i = .int .i64 j ∧ Below w.heap.size w wr ∧ OwnB wr w.heap.size b (UInt8.ofNat p.length :: (p.take j).flatMap conB)) (fun _ i _ => p.length - (intOf i).toNat)
  case atStart => exact ⟨0, Nat.zero_le _, rfl, B0.out, by simpa using O0.out⟩
  case round =>
    obtain ⟨j, hj, rfl, hb, ho⟩ := hrel
    have RB := Lib.hid hb
    have RO := Lib.hid ho
    clear hb ho hwr
    have hfive := H5.out
    by_cases hlt : j < p.length
    · obtain ⟨⟨nm, kd, lo, hgh, t⟩, hc⟩ : ∃ x, p[j]? = some x := ⟨_, List.getElem?_eq_getElem hlt⟩
      obtain ⟨q, ix, px⟩ := elC HP.out rfl rfl hc
      obtain ⟨p0, p1, p2, p3, p4⟩ := px _ RB.out
      have ONE := Lib.hid (H1.out _ (List.mem_of_getElem? hc))
      have TX := Lib.hid (oneB_text ONE.out)
      have KN := Lib.hid (kd_byte (oneB_kind ONE.out))
      have SU := Lib.hid (show UInt8.ofNat p.length :: (p.take (j + 1)).flatMap conB = UInt8.ofNat p.length :: (p.take j).flatMap conB ++ conB (nm, kd, lo, hgh, t) by rw [flat_succ conB p j _ hc, List.cons_append])
      have LN := Lib.hid (show (UInt8.ofNat p.length :: (p.take j).flatMap conB).length ≤ 300 by have a1 := FL.out; have a2 := flat_take conB p j; rw [List.length_cons]; omega)
      generalize UInt8.ofNat p.length :: (p.take j).flatMap conB = lj at *
      obtain ⟨W4, hW4⟩ : ∃ W4, W4 = wr.alloc (.cells #[.string nm, .int .i64 kd, .int .i64 lo, .int .i64 hgh, .string t] 57) := ⟨_, rfl⟩
      have B4 := Lib.hid (show Below w.heap.size w W4 by rw [hW4]; exact RB.out.alloc RB.out.size _)
      have C4 := Lib.hid (show Box W4 wr.heap.size #[.string nm, .int .i64 kd, .int .i64 lo, .int .i64 hgh, .string t] 57 by rw [hW4]; exact box_new wr _ _)
      have O4 := Lib.hid (show OwnB W4 w.heap.size _ lj by rw [hW4]; exact Rw.own_on RO.out ((Below.refl _ wr).alloc (Nat.le_refl _) _))
      have T4 := Lib.hid (text_any nm W4)
      rw [hW4] at T4
      have HW4 := Lib.hid hW4
      clear hc px hW4
      simp only at p0 p1 p2 p3 p4
      go_wp2_with fail
      clear p0 p1 p2 p3 p4 ix
      refine T4.out.mono ?_
      rw [← HW4.out]
      rintro e5 w5 ⟨⟨v5, rfl, ho5⟩, hb5⟩
      have O5 := Lib.hid (Rw.own_on O4.out hb5)
      have B5 := Lib.hid (B4.out.trans (hb5.mono B4.out.size))
      have C5' := Lib.hid (C4.out.on hb5)
      obtain ⟨v6, w6, r6, o6, gr6, hb6⟩ := app_nextB (l := lj) (m := textB nm) (Nat.le_refl _) B5.out O5.out (Row.of_own ho5) (by have a1 := LN.out; have a2 := TX.out.1; rw [textB_lenW nm (by omega)]; omega)
      have C6 := Lib.hid (box_grown C5'.out gr6 (own_neB O5.out C5'.out (by decide)))
      have O6 := Lib.hid o6
      have B6 := Lib.hid hb6
      have hlit := own_lit1 w6 (UInt8.ofNat kd.toNat)
      rw [KN.out.2] at hlit
      have O7 := Lib.hid (Rw.own_on O6.out ((Below.refl _ w6).alloc (Nat.le_refl _) (.cells #[.int .u8 kd] 5)))
      have C7 := Lib.hid (C6.out.more (.cells #[.int .u8 kd] 5))
      have B7 := Lib.hid (B6.out.alloc B6.out.size (.cells #[.int .u8 kd] 5))
      obtain ⟨v8, w8, r8, o8, gr8, hb8⟩ := app_nextB (l := lj ++ textB nm) (m := [UInt8.ofNat kd.toNat]) (Nat.le_refl _) B7.out O7.out (Row.of_own hlit) (by have a1 := LN.out; have a2 := TX.out.1; rw [List.length_append, textB_lenW nm (by omega)]; simp; omega)
      have C8 := Lib.hid (box_grown C7.out gr8 (own_neB O7.out C7.out (by decide)))
      have O8 := Lib.hid o8
      have B8 := Lib.hid hb8
      have L8 := Lib.hid (show (lj ++ textB nm ++ [UInt8.ofNat kd.toNat]).length ≤ 400 by have a1 := LN.out; have a2 := TX.out.1; rw [List.length_append, List.length_append, textB_lenW nm (by omega)]; simp; omega)
      have c0 := C5'.out.cell 0
      have d1 := C6.out.cell 1
      have e1 := C8.out.cell 1
      have e2 := C8.out.cell 2
      have e3 := C8.out.cell 3
      have e4 := C8.out.cell 4
      have kw := KN.out.1
      simp only [List.getElem?_toArray, List.getElem?_cons_zero, List.getElem?_cons_succ] at c0 d1 e1 e2 e3 e4
      clear ho5 hb5 o6 gr6 hb6 hlit o8 gr8 hb8 O4 C4 B4 T4 O5 B5 C5' C6 O6 B6 O7 C7 B7 RO RB
      by_cases hk : kd = 1
      · subst hk
        have OI := Lib.hid (show OwnI (w8.alloc (.cells #[.int .i64 lo, .int .i64 hgh] 3)) w8.heap.size (.slice (some ⟨w8.heap.size, 0, none⟩) 2 2) [lo, hgh] from litI w8 [lo, hgh] 2 _ rfl (by simp) rfl)
        have NI := Lib.hid (number_any _ [lo, hgh] _ (Row.of_own OI.out) (by simp))
        go_wp2_with (first | (at_builtin; first | refine wpList_append_run rfl _ _ 22 rfl rfl rfl r6 ?_ | refine wpList_append_run rfl _ _ 22 rfl rfl rfl r8 ?_) | fail)
        refine NI.out.mono ?_
        rintro e9 w9 ⟨⟨v9, rfl, ho9⟩, hb9⟩
        have hb9' := hb9.mono (show w8.heap.size ≤ (w8.alloc (.cells #[.int .i64 lo, .int .i64 hgh] 3)).heap.size by simp)
        have hz := ((Below.refl w8.heap.size w8).alloc (Nat.le_refl _) (.cells #[.int .i64 lo, .int .i64 hgh] 3)).trans hb9'
        have O9 := Lib.hid (Rw.own_on O8.out hz)
        have B9 := Lib.hid (B8.out.trans (hz.mono B8.out.size))
        obtain ⟨v10, w10, r10, o10, gr10, hb10⟩ := app_nextB (l := lj ++ textB nm ++ [UInt8.ofNat (1 : Int).toNat]) (m := numsB [lo, hgh]) (Nat.le_refl _) B9.out O9.out (Row.of_own ho9) (by have a1 := L8.out; rw [numsB_len]; simp at a1 ⊢; omega)
        have O10 := Lib.hid o10
        have B10 := Lib.hid hb10
        have EQ := Lib.hid (show lj ++ conB (nm, 1, lo, hgh, t) = lj ++ textB nm ++ [UInt8.ofNat (1 : Int).toNat] ++ numsB [lo, hgh] by simp [conB, numsB, List.append_assoc])
        clear ho9 hb9 hb9' hz o10 gr10 hb10 c0 d1 e1 e2 e3 e4 O8 C8 r6 r8 kw
        go_wp2_with (first | (at_builtin; refine wpList_append_run rfl _ _ 22 rfl rfl rfl r10 ?_) | fail)
        clear r10
        go_wp2
        go_roundw
        case rel => exact ⟨j + 1, by omega, by go_num, B10.out, by rw [SU.out, EQ.out]; exact O10.out⟩
        case measure => simp [intOf]; omega
      · have hk2 : (kd == 1) = false := by simpa using hk
        have K3 : kd = 2 ∨ kd = 3 := by
          rcases oneB_kind ONE.out with h | h | h
          · exact absurd h hk
          · exact Or.inl h
          · exact Or.inr h
        have HK := Lib.hid hk
        have NT := Lib.hid (text_any t w8)
        clear hk
        have goal9 : ∀ (b2 : Bool), (kd == 2) = b2 → (b2 = false → (kd == 3) = true) → True := fun _ _ _ => trivial
        clear goal9
        rcases K3 with h2 | h3
        · have k2 : (kd == 2) = true := by rw [h2]; rfl
          clear h2
          go_wp2_with (first | (at_builtin; first | refine wpList_append_run rfl _ _ 22 rfl rfl rfl r6 ?_ | refine wpList_append_run rfl _ _ 22 rfl rfl rfl r8 ?_) | fail)
          refine NT.out.mono ?_
          rintro e9 w9 ⟨⟨v9, rfl, ho9⟩, hb9⟩
          have O9 := Lib.hid (Rw.own_on O8.out hb9)
          have B9 := Lib.hid (B8.out.trans (hb9.mono B8.out.size))
          obtain ⟨v10, w10, r10, o10, gr10, hb10⟩ := app_nextB (l := lj ++ textB nm ++ [UInt8.ofNat kd.toNat]) (m := textB t) (Nat.le_refl _) B9.out O9.out (Row.of_own ho9) (by have a1 := L8.out; have a2 := TX.out.2; rw [textB_lenW t (by omega)]; omega)
          have O10 := Lib.hid o10
          have B10 := Lib.hid hb10
          have EQ := Lib.hid (show lj ++ conB (nm, kd, lo, hgh, t) = lj ++ textB nm ++ [UInt8.ofNat kd.toNat] ++ textB t by simp [conB, HK.out, List.append_assoc])
          clear ho9 hb9 o10 gr10 hb10 c0 d1 e1 e2 e3 e4 O8 C8 r6 r8 kw hk2 k2
          go_wp2_with (first | (at_builtin; refine wpList_append_run rfl _ _ 22 rfl rfl rfl r10 ?_) | fail)
          clear r10
          go_wp2
          go_roundw
          case rel => exact ⟨j + 1, by omega, by go_num, B10.out, by rw [SU.out, EQ.out]; exact O10.out⟩
          case measure => simp [intOf]; omega
        · have k2 : (kd == 2) = false := by rw [h3]; rfl
          have k3 : (kd == 3) = true := by rw [h3]; rfl
          clear h3
          go_wp2_with (first | (at_builtin; first | refine wpList_append_run rfl _ _ 22 rfl rfl rfl r6 ?_ | refine wpList_append_run rfl _ _ 22 rfl rfl rfl r8 ?_) | fail)
          refine NT.out.mono ?_
          rintro e9 w9 ⟨⟨v9, rfl, ho9⟩, hb9⟩
          have O9 := Lib.hid (Rw.own_on O8.out hb9)
          have B9 := Lib.hid (B8.out.trans (hb9.mono B8.out.size))
          obtain ⟨v10, w10, r10, o10, gr10, hb10⟩ := app_nextB (l := lj ++ textB nm ++ [UInt8.ofNat kd.toNat]) (m := textB t) (Nat.le_refl _) B9.out O9.out (Row.of_own ho9) (by have a1 := L8.out; have a2 := TX.out.2; rw [textB_lenW t (by omega)]; omega)
          have O10 := Lib.hid o10
          have B10 := Lib.hid hb10
          have EQ := Lib.hid (show lj ++ conB (nm, kd, lo, hgh, t) = lj ++ textB nm ++ [UInt8.ofNat kd.toNat] ++ textB t by simp [conB, HK.out, List.append_assoc])
          clear ho9 hb9 o10 gr10 hb10 c0 d1 e1 e2 e3 e4 O8 C8 r6 r8 kw hk2 k2 k3
          go_wp2_with (first | (at_builtin; refine wpList_append_run rfl _ _ 22 rfl rfl rfl r10 ?_) | fail)
          clear r10
          go_wp2
          go_roundw
          case rel => exact ⟨j + 1, by omega, by go_num, B10.out, by rw [SU.out, EQ.out]; exact O10.out⟩
          case measure => simp [intOf]; omega
    · obtain rfl : j = p.length := by omega
      rw [List.take_of_length_le (Nat.le_refl _)] at RO
      go_wp2
      go_ret
      exact ⟨⟨_, rfl, RO.out⟩, RB.out⟩
end Go.Proofs.YtfcgfnmokbbcaaaDoor.Ws
