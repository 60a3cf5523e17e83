/-
  putPred of package wire: the bytes of right constraints. Condition: few of them.
  Region 21 of Bytes of the statements' own package: an attribute's value. Conditions: a short text; not many bytes ahead of it.
  Region 22 of Bytes of the statements' own package: an attribute's value. Conditions: a short text; not many bytes ahead of it.
-/
import Derived.Test.YtfcgfnmokbbcaaaDoorQ027
import Derived.Test.YtfcgfnmokbbcaaaDoorQ002
import Derived.Test.YtfcgfnmokbbcaaaDoorQ020
import Derived.Test.YtfcgfnmokbbcaaaDoorQ026
namespace Go.Proofs.YtfcgfnmokbbcaaaDoor.Ws
open Go.RowKit Go.Proofs.YtfcgfnmokbbcaaaDoor Go.Proofs.YtfcgfnmokbbcaaaDoor.Rw Go.Proofs.YtfcgfnmokbbcaaaDoor.Nm Go.Proofs.YtfcgfnmokbbcaaaDoor.At Go.Proofs.YtfcgfnmokbbcaaaDoor.Pr Go.Proofs.YtfcgfnmokbbcaaaDoor.Wr

theorem len_byte {n : Nat} (h : n ≤ 255) : ((UInt8.ofNat n).toNat : Int) = n := by rw [UInt8.toNat_ofNat']; omega
theorem kd_byte {kd : Int} (h : kd = 1 ∨ kd = 2 ∨ kd = 3) : IntKind.u8.wrap kd = kd ∧ ((UInt8.ofNat kd.toNat).toNat : Int) = kd := by
  rcases h with rfl | rfl | rfl <;> exact ⟨rfl, rfl⟩
set_option maxRecDepth 100000 in
set_option maxHeartbeats 16000000 in
theorem putpred_any (pv : Value) (p : List C5) (w : World) (hp : RowC w pv p) (h1 : ∀ c ∈ p, oneB c = true) (h5 : p.length ≤ 5) :
    Calls Tryd.prog 27 #[pv] w fun e w' => (∃ v, e = .returned v ∧ OwnB w' w.heap.size v (UInt8.ofNat p.length :: p.flatMap conB)) ∧ Below w.heap.size w w' := by
  have HP := Lib.hid hp
  have H1 := Lib.hid h1
  have H5 := Lib.hid h5
  obtain ⟨ao, ac, rfl⟩ := hp.len
  have hwr : IntKind.u8.wrap (p.length : Int) = p.length := IntWalk.u8_in _ (by omega)
  have hlit := own_lit1 w (UInt8.ofNat p.length)
  rw [len_byte (show p.length ≤ 255 by omega)] at hlit
  have O0 := Lib.hid hlit
  have B0 := Lib.hid ((Below.refl w.heap.size w).alloc (Nat.le_refl _) (.cells #[.int .u8 (p.length : Int)] 5))
  have FL := Lib.hid (show (p.flatMap conB).length ≤ 200 by
    have h2 : ∀ l : List C5, (∀ c ∈ l, oneB c = true) → (l.flatMap conB).length ≤ l.length * 40 := by
      intro l
      induction l with
      | nil => intro _; simp
      | cons c l ih =>
        intro hc
        have a1 := ih (fun x hx => hc x (List.mem_cons_of_mem _ hx))
        have a2 : (conB c).length ≤ 40 := by
          have t := oneB_text (hc c (List.mem_cons_self ..))
          unfold conB
          rw [List.length_append, textB_lenW _ (by omega), List.length_cons]
          split
          · rw [List.length_append, numB_len, numB_len]; omega
          · rw [textB_lenW _ (by omega)]; omega
        rw [List.flatMap_cons, List.length_append, List.length_cons, Nat.succ_mul]
        omega
    have h3 := h2 p h1
    omega)
  clear hp h1 h5 hlit
  go_enter Tryd.func27, Tryd.ntmps27
  go_wp2
  go_loopw [3, 12] (fun b i wr => ∃ j : Nat, j ≤ p.length ∧ i = .int .i64 j ∧ Below w.heap.size w wr ∧ OwnB wr w.heap.size b (UInt8.ofNat p.length :: (p.take j).flatMap conB)) (fun _ i _ => p.length - (intOf i).toNat)
  case atStart => exact ⟨0, Nat.zero_le _, rfl, B0.out, by simpa using O0.out⟩
  case round =>
    obtain ⟨j, hj, rfl, hb, ho⟩ := hrel
    have RB := Lib.hid hb
    have RO := Lib.hid ho
    clear hb ho hwr
    have hfive := H5.out
    by_cases hlt : j < p.length
    · obtain ⟨⟨nm, kd, lo, hgh, t⟩, hc⟩ : ∃ x, p[j]? = some x := ⟨_, List.getElem?_eq_getElem hlt⟩
      obtain ⟨q, ix, px⟩ := elC HP.out rfl rfl hc
      obtain ⟨p0, p1, p2, p3, p4⟩ := px _ RB.out
      have ONE := Lib.hid (H1.out _ (List.mem_of_getElem? hc))
      have TX := Lib.hid (oneB_text ONE.out)
      have KN := Lib.hid (kd_byte (oneB_kind ONE.out))
      have SU := Lib.hid (show UInt8.ofNat p.length :: (p.take (j + 1)).flatMap conB = UInt8.ofNat p.length :: (p.take j).flatMap conB ++ conB (nm, kd, lo, hgh, t) by rw [flat_succ conB p j _ hc, List.cons_append])
      have LN := Lib.hid (show (UInt8.ofNat p.length :: (p.take j).flatMap conB).length ≤ 300 by have a1 := FL.out; have a2 := flat_take conB p j; rw [List.length_cons]; omega)
      generalize UInt8.ofNat p.length :: (p.take j).flatMap conB = lj at *
      obtain ⟨W4, hW4⟩ : ∃ W4, W4 = wr.alloc (.cells #[.string nm, .int .i64 kd, .int .i64 lo, .int .i64 hgh, .string t] 57) := ⟨_, rfl⟩
      have B4 := Lib.hid (show Below w.heap.size w W4 by rw [hW4]; exact RB.out.alloc RB.out.size _)
      have C4 := Lib.hid (show Box W4 wr.heap.size #[.string nm, .int .i64 kd, .int .i64 lo, .int .i64 hgh, .string t] 57 by rw [hW4]; exact box_new wr _ _)
      have O4 := Lib.hid (show OwnB W4 w.heap.size _ lj by rw [hW4]; exact Rw.own_on RO.out ((Below.refl _ wr).alloc (Nat.le_refl _) _))
      have T4 := Lib.hid (text_any nm W4)
      rw [hW4] at T4
      have HW4 := Lib.hid hW4
      clear hc px hW4
      simp only at p0 p1 p2 p3 p4
      go_wp2_with fail
      clear p0 p1 p2 p3 p4 ix
      refine T4.out.mono ?_
      rw [← HW4.out]
      rintro e5 w5 ⟨⟨v5, rfl, ho5⟩, hb5⟩
      have O5 := Lib.hid (Rw.own_on O4.out hb5)
      have B5 := Lib.hid (B4.out.trans (hb5.mono B4.out.size))
      have C5' := Lib.hid (C4.out.on hb5)
      obtain ⟨v6, w6, r6, o6, gr6, hb6⟩ := app_nextB (l := lj) (m := textB nm) (Nat.le_refl _) B5.out O5.out (Row.of_own ho5) (by have a1 := LN.out; have a2 := TX.out.1; rw [textB_lenW nm (by omega)]; omega)
      have C6 := Lib.hid (box_grown C5'.out gr6 (own_neB O5.out C5'.out (by decide)))
      have O6 := Lib.hid o6
      have B6 := Lib.hid hb6
      have hlit := own_lit1 w6 (UInt8.ofNat kd.toNat)
      rw [KN.out.2] at hlit
      have O7 := Lib.hid (Rw.own_on O6.out ((Below.refl _ w6).alloc (Nat.le_refl _) (.cells #[.int .u8 kd] 5)))
      have C7 := Lib.hid (C6.out.more (.cells #[.int .u8 kd] 5))
      have B7 := Lib.hid (B6.out.alloc B6.out.size (.cells #[.int .u8 kd] 5))
      obtain ⟨v8, w8, r8, o8, gr8, hb8⟩ := app_nextB (l := lj ++ textB nm) (m := [UInt8.ofNat kd.toNat]) (Nat.le_refl _) B7.out O7.out (Row.of_own hlit) (by have a1 := LN.out; have a2 := TX.out.1; rw [List.length_append, textB_lenW nm (by omega)]; simp; omega)
      have C8 := Lib.hid (box_grown C7.out gr8 (own_neB O7.out C7.out (by decide)))
      have O8 := Lib.hid o8
      have B8 := Lib.hid hb8
      have L8 := Lib.hid (show (lj ++ textB nm ++ [UInt8.ofNat kd.toNat]).length ≤ 400 by have a1 := LN.out; have a2 := TX.out.1; rw [List.length_append, List.length_append, textB_lenW nm (by omega)]; simp; omega)
      have c0 := C5'.out.cell 0
      have d1 := C6.out.cell 1
      have e1 := C8.out.cell 1
      have e2 := C8.out.cell 2
      have e3 := C8.out.cell 3
      have e4 := C8.out.cell 4
      have kw := KN.out.1
      simp only [List.getElem?_toArray, List.getElem?_cons_zero, List.getElem?_cons_succ] at c0 d1 e1 e2 e3 e4
      clear ho5 hb5 o6 gr6 hb6 hlit o8 gr8 hb8 O4 C4 B4 T4 O5 B5 C5' C6 O6 B6 O7 C7 B7 RO RB
      by_cases hk : kd = 1
      · subst hk
        have OI := Lib.hid (show OwnI (w8.alloc (.cells #[.int .i64 lo, .int .i64 hgh] 3)) w8.heap.size (.slice (some ⟨w8.heap.size, 0, none⟩) 2 2) [lo, hgh] from litI w8 [lo, hgh] 2 _ rfl (by simp) rfl)
        have NI := Lib.hid (number_any _ [lo, hgh] _ (Row.of_own OI.out) (by simp))
        go_wp2_with (first | (at_builtin; first | refine wpList_append_run rfl _ _ 22 rfl rfl rfl r6 ?_ | refine wpList_append_run rfl _ _ 22 rfl rfl rfl r8 ?_) | fail)
        refine NI.out.mono ?_
        rintro e9 w9 ⟨⟨v9, rfl, ho9⟩, hb9⟩
        have hb9' := hb9.mono (show w8.heap.size ≤ (w8.alloc (.cells #[.int .i64 lo, .int .i64 hgh] 3)).heap.size by simp)
        have hz := ((Below.refl w8.heap.size w8).alloc (Nat.le_refl _) (.cells #[.int .i64 lo, .int .i64 hgh] 3)).trans hb9'
        have O9 := Lib.hid (Rw.own_on O8.out hz)
        have B9 := Lib.hid (B8.out.trans (hz.mono B8.out.size))
        obtain ⟨v10, w10, r10, o10, gr10, hb10⟩ := app_nextB (l := lj ++ textB nm ++ [UInt8.ofNat (1 : Int).toNat]) (m := numsB [lo, hgh]) (Nat.le_refl _) B9.out O9.out (Row.of_own ho9) (by have a1 := L8.out; rw [numsB_len]; simp at a1 ⊢; omega)
        have O10 := Lib.hid o10
        have B10 := Lib.hid hb10
        have EQ := Lib.hid (show lj ++ conB (nm, 1, lo, hgh, t) = lj ++ textB nm ++ [UInt8.ofNat (1 : Int).toNat] ++ numsB [lo, hgh] by simp [conB, numsB, List.append_assoc])
        clear ho9 hb9 hb9' hz o10 gr10 hb10 c0 d1 e1 e2 e3 e4 O8 C8 r6 r8 kw
        go_wp2_with (first | (at_builtin; refine wpList_append_run rfl _ _ 22 rfl rfl rfl r10 ?_) | fail)
        clear r10
        go_wp2
        go_roundw
        case rel => exact ⟨j + 1, by omega, by go_num, B10.out, by rw [SU.out, EQ.out]; exact O10.out⟩
        case measure => simp [intOf]; omega
      · have hk2 : (kd == 1) = false := by simpa using hk
        have K3 : kd = 2 ∨ kd = 3 := by
          rcases oneB_kind ONE.out with h | h | h
          · exact absurd h hk
          · exact Or.inl h
          · exact Or.inr h
        have HK := Lib.hid hk
        have NT := Lib.hid (text_any t w8)
        clear hk
        have goal9 : ∀ (b2 : Bool), (kd == 2) = b2 → (b2 = false → (kd == 3) = true) → True := fun _ _ _ => trivial
        clear goal9
        rcases K3 with h2 | h3
        · have k2 : (kd == 2) = true := by rw [h2]; rfl
          clear h2
          go_wp2_with (first | (at_builtin; first | refine wpList_append_run rfl _ _ 22 rfl rfl rfl r6 ?_ | refine wpList_append_run rfl _ _ 22 rfl rfl rfl r8 ?_) | fail)
          refine NT.out.mono ?_
          rintro e9 w9 ⟨⟨v9, rfl, ho9⟩, hb9⟩
          have O9 := Lib.hid (Rw.own_on O8.out hb9)
          have B9 := Lib.hid (B8.out.trans (hb9.mono B8.out.size))
          obtain ⟨v10, w10, r10, o10, gr10, hb10⟩ := app_nextB (l := lj ++ textB nm ++ [UInt8.ofNat kd.toNat]) (m := textB t) (Nat.le_refl _) B9.out O9.out (Row.of_own ho9) (by have a1 := L8.out; have a2 := TX.out.2; rw [textB_lenW t (by omega)]; omega)
          have O10 := Lib.hid o10
          have B10 := Lib.hid hb10
          have EQ := Lib.hid (show lj ++ conB (nm, kd, lo, hgh, t) = lj ++ textB nm ++ [UInt8.ofNat kd.toNat] ++ textB t by simp [conB, HK.out, List.append_assoc])
          clear ho9 hb9 o10 gr10 hb10 c0 d1 e1 e2 e3 e4 O8 C8 r6 r8 kw hk2 k2
          go_wp2_with (first | (at_builtin; refine wpList_append_run rfl _ _ 22 rfl rfl rfl r10 ?_) | fail)
          clear r10
          go_wp2
          go_roundw
          case rel => exact ⟨j + 1, by omega, by go_num, B10.out, by rw [SU.out, EQ.out]; exact O10.out⟩
          case measure => simp [intOf]; omega
        · have k2 : (kd == 2) = false := by rw [h3]; rfl
          have k3 : (kd == 3) = true := by rw [h3]; rfl
          clear h3
          go_wp2_with (first | (at_builtin; first | refine wpList_append_run rfl _ _ 22 rfl rfl rfl r6 ?_ | refine wpList_append_run rfl _ _ 22 rfl rfl rfl r8 ?_) | fail)
          refine NT.out.mono ?_
          rintro e9 w9 ⟨⟨v9, rfl, ho9⟩, hb9⟩
          have O9 := Lib.hid (Rw.own_on O8.out hb9)
          have B9 := Lib.hid (B8.out.trans (hb9.mono B8.out.size))
          obtain ⟨v10, w10, r10, o10, gr10, hb10⟩ := app_nextB (l := lj ++ textB nm ++ [UInt8.ofNat kd.toNat]) (m := textB t) (Nat.le_refl _) B9.out O9.out (Row.of_own ho9) (by have a1 := L8.out; have a2 := TX.out.2; rw [textB_lenW t (by omega)]; omega)
          have O10 := Lib.hid o10
          have B10 := Lib.hid hb10
          have EQ := Lib.hid (show lj ++ conB (nm, kd, lo, hgh, t) = lj ++ textB nm ++ [UInt8.ofNat kd.toNat] ++ textB t by simp [conB, HK.out, List.append_assoc])
          clear ho9 hb9 o10 gr10 hb10 c0 d1 e1 e2 e3 e4 O8 C8 r6 r8 kw hk2 k2 k3
          go_wp2_with (first | (at_builtin; refine wpList_append_run rfl _ _ 22 rfl rfl rfl r10 ?_) | fail)
          clear r10
          go_wp2
          go_roundw
          case rel => exact ⟨j + 1, by omega, by go_num, B10.out, by rw [SU.out, EQ.out]; exact O10.out⟩
          case measure => simp [intOf]; omega
    · obtain rfl : j = p.length := by omega
      rw [List.take_of_length_le (Nat.le_refl _)] at RO
      go_wp2
      go_ret
      exact ⟨⟨_, rfl, RO.out⟩, RB.out⟩
end Go.Proofs.YtfcgfnmokbbcaaaDoor.Ws

namespace Go.Proofs.YtfcgfnmokbbcaaaDoor.Wr
open Go.RowKit Go.Proofs.YtfcgfnmokbbcaaaDoor Go.Proofs.YtfcgfnmokbbcaaaDoor.Rw Go.Proofs.YtfcgfnmokbbcaaaDoor.Nm Go.Proofs.YtfcgfnmokbbcaaaDoor.At Go.Proofs.YtfcgfnmokbbcaaaDoor.Pr

def by21S (B _mb _xb : Nat) (_m : Mg) (_pV _lV bv : Value) (l : List UInt8) (_nm t : ByteArray) (_b1 : Bool) (_n : Int) : Nat → (Nat → Value) → World → Prop
  | 0, _, w => OwnB w B bv (l)
  | 1, v, w => OwnB w B (v 2) (l ++ [(1 : UInt8)])
  | 2, v, w => OwnB w B (v 2) (l ++ [(1 : UInt8)]) ∧ RowB w (v 6) (textB t)
  | 3, v, w => OwnB w B (v 7) (l ++ [(1 : UInt8)] ++ textB t)
  | _ + 4, v, w => OwnB w B (v 8) (l ++ [(1 : UInt8)] ++ textB t)
structure by21C (B mb xb : Nat) (m : Mg) (pV lV bv : Value) (l : List UInt8) (nm t : ByteArray) (b1 : Bool) (n : Int) (W : World) (k : Nat) (b : Bool) (v : Nat → Value) (w : World) : Prop where
  bel : Below B W w
  bx0 : Box w mb (mcells m pV lV) 32
  bx1 : Box w xb #[.string nm, .bool b1, .int .i64 n, .string t] 61
  lit : b = true → k ≤ 0 → LitB B (v 1) (1 : UInt8) w
  st : by21S B mb xb m pV lV bv l nm t b1 n k v w
noncomputable def by21R : Code := ((Tryd.f19.body.bind (findRegion 21)).getD .skip)
set_option maxRecDepth 100000 in
set_option maxHeartbeats 8000000 in
theorem by21 (B mb xb : Nat) (m : Mg) (pV lV bv : Value) (l : List UInt8) (nm t : ByteArray) (b1 : Bool) (n : Int) (Q : Exit → Act → World → Prop) (W : World) (u0 u2 u4 u5 u6 u8 u9 u10 u11 u12 u13 u14 u15 u16 u17 u18 u19 u20 u21 u22 u23 u24 u25 u26 u27 u28 u29 u30 u31 u32 u33 u34 u35 u36 u37 u38 u39 u40 u41 u42 u43 u44 u45 u46 u47 u48 u49 u50 u51 u52 u53 u54 u55 u56 u57 u58 u59 u60 u61 u62 u63 u64 u65 u66 u67 u68 u69 u70 u71 u72 u73 u74 u75 u76 u77 u78 u79 u80 u81 u82 u83 u84 u85 u86 u87 u88 u89 u90 u91 u92 u93 u94 u95 u96 u97 u98 u99 u100 u101 u102 u103 u104 u105 u106 u107 u108 u109 u110 u111 u112 u113 u114 u115 u116 : Value)
    (hB : B ≤ W.heap.size) (hx0 : Box W mb (mcells m pV lV) 32) (hx1 : Box W xb #[.string nm, .bool b1, .int .i64 n, .string t] 61) (ho0 : OwnB W B bv (l)) (hl : l.length ≤ 10000) (ht : t.size ≤ 255)
    (hQ : ∀ (w' : World) (v n99 n100 n101 n102 n103 n104 n105 n106 : Value), OwnB w' B v (l ++ [(1 : UInt8)] ++ textB t) → Below B W w' → Box w' mb (mcells m pV lV) 32 → Box w' xb #[.string nm, .bool b1, .int .i64 n, .string t] 61 → Q .normal ⟨(u0 :: .pointer (some ⟨mb, 0, none⟩) :: u2 :: v :: u4 :: u5 :: u6 :: .pointer (some ⟨xb, 0, none⟩) :: u8 :: u9 :: u10 :: u11 :: u12 :: u13 :: u14 :: u15 :: u16 :: u17 :: u18 :: u19 :: u20 :: u21 :: u22 :: u23 :: u24 :: u25 :: u26 :: u27 :: u28 :: u29 :: u30 :: u31 :: u32 :: u33 :: u34 :: u35 :: u36 :: u37 :: u38 :: u39 :: u40 :: u41 :: u42 :: u43 :: u44 :: u45 :: u46 :: u47 :: u48 :: u49 :: u50 :: u51 :: u52 :: u53 :: u54 :: u55 :: u56 :: u57 :: u58 :: u59 :: u60 :: u61 :: u62 :: u63 :: u64 :: u65 :: u66 :: u67 :: u68 :: u69 :: u70 :: u71 :: u72 :: u73 :: u74 :: u75 :: u76 :: u77 :: u78 :: u79 :: u80 :: u81 :: u82 :: u83 :: u84 :: u85 :: u86 :: u87 :: u88 :: u89 :: u90 :: u91 :: u92 :: u93 :: u94 :: u95 :: u96 :: u97 :: u98 :: n99 :: n100 :: n101 :: n102 :: n103 :: n104 :: n105 :: n106 :: u107 :: u108 :: u109 :: u110 :: u111 :: u112 :: u113 :: u114 :: u115 :: u116 :: []).toArray, []⟩ w') :
    Code.wp Tryd.prog by21R Q ⟨(u0 :: .pointer (some ⟨mb, 0, none⟩) :: u2 :: bv :: u4 :: u5 :: u6 :: .pointer (some ⟨xb, 0, none⟩) :: u8 :: u9 :: u10 :: u11 :: u12 :: u13 :: u14 :: u15 :: u16 :: u17 :: u18 :: u19 :: u20 :: u21 :: u22 :: u23 :: u24 :: u25 :: u26 :: u27 :: u28 :: u29 :: u30 :: u31 :: u32 :: u33 :: u34 :: u35 :: u36 :: u37 :: u38 :: u39 :: u40 :: u41 :: u42 :: u43 :: u44 :: u45 :: u46 :: u47 :: u48 :: u49 :: u50 :: u51 :: u52 :: u53 :: u54 :: u55 :: u56 :: u57 :: u58 :: u59 :: u60 :: u61 :: u62 :: u63 :: u64 :: u65 :: u66 :: u67 :: u68 :: u69 :: u70 :: u71 :: u72 :: u73 :: u74 :: u75 :: u76 :: u77 :: u78 :: u79 :: u80 :: u81 :: u82 :: u83 :: u84 :: u85 :: u86 :: u87 :: u88 :: u89 :: u90 :: u91 :: u92 :: u93 :: u94 :: u95 :: u96 :: u97 :: u98 :: u99 :: u100 :: u101 :: u102 :: u103 :: u104 :: u105 :: u106 :: u107 :: u108 :: u109 :: u110 :: u111 :: u112 :: u113 :: u114 :: u115 :: u116 :: []).toArray, []⟩ W := by
  have HQ := Lib.hid hQ
  have HX0 := Lib.hid hx0
  have HX1 := Lib.hid hx1
  have HO0 := Lib.hid ho0
  clear hQ hx0 hx1 ho0
  obtain ⟨dst, hdd⟩ : ∃ d : Nat → Nat, d = fun i => [99, 100, 101, 102, 103, 104, 105, 106, 3].getD i 3 := ⟨_, rfl⟩
  obtain ⟨mk, hmk⟩ : ∃ d : Nat → Nat, d = fun j => [2, 6, 7, 8].getD j 999 := ⟨_, rfl⟩
  obtain ⟨pv, hpv⟩ : ∃ e : Nat → Option Value, e = fun i => ([some (bv), none, none, some (.pointer (some ⟨xb, 1, none⟩)), some (.pointer (some ⟨xb, 3, none⟩)), some (.string t), none, none, none] : List (Option Value)).getD i none := ⟨_, rfl⟩
  obtain ⟨base, hbase⟩ : ∃ b : Act, b = ⟨(u0 :: .pointer (some ⟨mb, 0, none⟩) :: u2 :: bv :: u4 :: u5 :: u6 :: .pointer (some ⟨xb, 0, none⟩) :: u8 :: u9 :: u10 :: u11 :: u12 :: u13 :: u14 :: u15 :: u16 :: u17 :: u18 :: u19 :: u20 :: u21 :: u22 :: u23 :: u24 :: u25 :: u26 :: u27 :: u28 :: u29 :: u30 :: u31 :: u32 :: u33 :: u34 :: u35 :: u36 :: u37 :: u38 :: u39 :: u40 :: u41 :: u42 :: u43 :: u44 :: u45 :: u46 :: u47 :: u48 :: u49 :: u50 :: u51 :: u52 :: u53 :: u54 :: u55 :: u56 :: u57 :: u58 :: u59 :: u60 :: u61 :: u62 :: u63 :: u64 :: u65 :: u66 :: u67 :: u68 :: u69 :: u70 :: u71 :: u72 :: u73 :: u74 :: u75 :: u76 :: u77 :: u78 :: u79 :: u80 :: u81 :: u82 :: u83 :: u84 :: u85 :: u86 :: u87 :: u88 :: u89 :: u90 :: u91 :: u92 :: u93 :: u94 :: u95 :: u96 :: u97 :: u98 :: u99 :: u100 :: u101 :: u102 :: u103 :: u104 :: u105 :: u106 :: u107 :: u108 :: u109 :: u110 :: u111 :: u112 :: u113 :: u114 :: u115 :: u116 :: []).toArray, []⟩ := ⟨_, rfl⟩
  rw [← hbase]
  unfold by21R
  conv => arg 2; whnf
  have nd : ∀ j, (j ≠ 99 ∧ j ≠ 100 ∧ j ≠ 101 ∧ j ≠ 102 ∧ j ≠ 103 ∧ j ≠ 104 ∧ j ≠ 105 ∧ j ≠ 106 ∧ j ≠ 3) → ∀ i, i < 9 → dst i ≠ j := by
    rw [hdd]
    intro j hj i hi
    rcases (by omega : i = 0 ∨ i = 1 ∨ i = 2 ∨ i = 3 ∨ i = 4 ∨ i = 5 ∨ i = 6 ∨ i = 7 ∨ i = 8) with rfl | rfl | rfl | rfl | rfl | rfl | rfl | rfl | rfl <;> simp <;> omega
  refine Rg.region_chain 9 dst pv mk 4 1 0 (by21C B mb xb m pV lV bv l nm t b1 n W) (by kernel_rfl) (by kernel_rfl) rfl ?_ ?_ ?_ ?_ (by decide) ?_ ?_ (by subst hpv; rfl) ?_ ?_ ?_ ?_ ?_ ?_ ?_ ?_
  · subst hdd
    intro i j hi hj h
    rcases (by omega : i = 0 ∨ i = 1 ∨ i = 2 ∨ i = 3 ∨ i = 4 ∨ i = 5 ∨ i = 6 ∨ i = 7 ∨ i = 8) with rfl | rfl | rfl | rfl | rfl | rfl | rfl | rfl | rfl <;> rcases (by omega : j = 0 ∨ j = 1 ∨ j = 2 ∨ j = 3 ∨ j = 4 ∨ j = 5 ∨ j = 6 ∨ j = 7 ∨ j = 8) with rfl | rfl | rfl | rfl | rfl | rfl | rfl | rfl | rfl <;> first | rfl | (exfalso; revert h; decide)
  · subst hdd hbase
    intro i hi
    rcases (by omega : i = 0 ∨ i = 1 ∨ i = 2 ∨ i = 3 ∨ i = 4 ∨ i = 5 ∨ i = 6 ∨ i = 7 ∨ i = 8) with rfl | rfl | rfl | rfl | rfl | rfl | rfl | rfl | rfl <;> (show _ < 117; decide)
  · subst hmk
    intro i j hi hj h
    rcases (by omega : i = 0 ∨ i = 1 ∨ i = 2 ∨ i = 3) with rfl | rfl | rfl | rfl <;> rcases (by omega : j = 0 ∨ j = 1 ∨ j = 2 ∨ j = 3) with rfl | rfl | rfl | rfl <;> first | rfl | (exfalso; revert h; decide)
  · subst hmk
    intro j hj
    rcases (by omega : j = 0 ∨ j = 1 ∨ j = 2 ∨ j = 3) with rfl | rfl | rfl | rfl <;> decide
  · subst hmk
    intro j hj
    rcases (by omega : j = 0 ∨ j = 1 ∨ j = 2 ∨ j = 3) with rfl | rfl | rfl | rfl <;> decide
  · subst hmk hpv
    intro j hj
    rcases (by omega : j = 0 ∨ j = 1 ∨ j = 2 ∨ j = 3) with rfl | rfl | rfl | rfl <;> rfl
  · subst hmk
    intro j o hj ho
    rcases (by omega : j = 0 ∨ j = 1 ∨ j = 2) with rfl | rfl | rfl
    · obtain rfl := Option.some.inj ho
      exact ⟨⟨2, .chain⟩, by simp, rfl, rfl⟩
    · obtain rfl := Option.some.inj ho
      exact ⟨⟨6, .data⟩, by simp, rfl, rfl⟩
    · obtain rfl := Option.some.inj ho
      exact ⟨⟨7, .data⟩, by simp, rfl, rfl⟩
  · subst hmk
    intro o _ ho
    obtain rfl := Option.some.inj ho
    exact ⟨⟨1, .data⟩, by simp, rfl, rfl⟩
  · intro v
    exact ⟨(Below.refl _ _).drew, HX0.out, HX1.out, (fun h => by cases h), HO0.out⟩
  · subst hmk
    intro k b v v' z h1 h2 hc
    refine ⟨hc.bel, hc.bx0, hc.bx1, fun e hk => by rw [h2 e]; exact hc.lit e hk, ?_⟩
    have hm := hc.st
    rcases k with _ | _ | _ | _ | k
    · simp only [by21S] at hm ⊢
      exact hm
    · have e2 : v' 2 = v 2 := h1 0 (by omega)
      simp only [by21S, e2] at hm ⊢
      exact hm
    · have e2 : v' 2 = v 2 := h1 0 (by omega)
      have e6 : v' 6 = v 6 := h1 1 (by omega)
      simp only [by21S, e2, e6] at hm ⊢
      exact hm
    · have e7 : v' 7 = v 7 := h1 2 (by omega)
      simp only [by21S, e7] at hm ⊢
      exact hm
    · have e8 : v' 8 = v 8 := h1 3 (by omega)
      simp only [by21S, e8] at hm ⊢
      exact hm
  · subst hdd hmk hpv hbase
    intro i o hi ho hnm hnq
    rcases (by omega : i = 0 ∨ i = 1 ∨ i = 2 ∨ i = 3 ∨ i = 4 ∨ i = 5 ∨ i = 6 ∨ i = 7 ∨ i = 8) with rfl | rfl | rfl | rfl | rfl | rfl | rfl | rfl | rfl
    · obtain rfl := Option.some.inj ho
      refine ⟨_, rfl, fun k b val z a hc seen K hK => ?_⟩
      have e3 : a.eval (.tmp 3) = bv := seen.kq 8 _ _ (by decide) rfl ⟨⟨0, .phase⟩, by simp, rfl, rfl⟩ rfl
      exact Rg.op_value_w rfl (Rg.wanted_none rfl) (by simp [execOp, e3]) hK
    · exact absurd rfl hnq
    · exact absurd rfl (hnm 0 (by decide))
    · obtain rfl := Option.some.inj ho
      refine ⟨_, rfl, fun k b val z a hc seen K hK => ?_⟩
      have e7 : a.eval (.tmp 7) = .pointer (some ⟨xb, 0, none⟩) := seen.kp 7 _ (nd 7 (by decide)) rfl
      exact Rg.op_value_w rfl (Rg.wanted_none rfl) (Rg.ex_field a.eval _ 61 (.tmp 7) 1 rfl (by rw [e7]; simp [go_sem])) hK
    · obtain rfl := Option.some.inj ho
      refine ⟨_, rfl, fun k b val z a hc seen K hK => ?_⟩
      have e102 : a.eval (.tmp 102) = .pointer (some ⟨xb, 1, none⟩) := seen.pl ⟨3, .data⟩ (by simp) rfl _ rfl
      exact Rg.op_value_w rfl (Rg.wanted_none rfl) (Rg.ex_field a.eval _ 59 (.tmp 102) 2 rfl (by rw [e102]; simp [go_sem])) hK
    · obtain rfl := Option.some.inj ho
      refine ⟨_, rfl, fun k b val z a hc seen K hK => ?_⟩
      have e103 : a.eval (.tmp 103) = .pointer (some ⟨xb, 3, none⟩) := seen.pl ⟨4, .data⟩ (by simp) rfl _ rfl
      have y1_0 := hc.bx1.cell 0
      have y1_1 := hc.bx1.cell 1
      have y1_2 := hc.bx1.cell 2
      have y1_3 := hc.bx1.cell 3
      simp only [List.getElem?_toArray, List.getElem?_cons_zero, List.getElem?_cons_succ] at y1_0 y1_1 y1_2 y1_3
      exact Rg.op_value_w rfl (Rg.wanted_none rfl) (Rg.ex_load a.eval _ 9 (.tmp 103) rfl (by rw [e103]; simp [go_sem, y1_3])) hK
    · exact absurd rfl (hnm 1 (by decide))
    · exact absurd rfl (hnm 2 (by decide))
    · exact absurd rfl (hnm 3 (by decide))
  · subst hdd hmk hpv hbase
    intro j o b val z a hj ho hc hcb seen K hK
    have hm := hc.st
    rcases (by omega : j = 0 ∨ j = 1 ∨ j = 2 ∨ j = 3) with rfl | rfl | rfl | rfl
    · obtain rfl := Option.some.inj ho
      have e99 : a.eval (.tmp 99) = bv := seen.pl ⟨0, .data⟩ (by simp) rfl _ rfl
      have e100 : a.eval (.tmp 100) = val 1 := seen.at_ ⟨1, .data⟩ (by simp) rfl
      obtain ⟨v1, z1, r, ho1, hg, hb1⟩ := app_nextB (l := l) (m := [(1 : UInt8)]) hB hc.bel hm (hc.lit (hcb (by omega)) (by omega)).row (by simp; omega)
      have ho0 := hm
      refine Rg.op_value_w rfl (Rg.wanted_none rfl) (Rg.ex_append a.eval _ (.tmp 99) (.tmp 100) 22 rfl e99 e100 r) (hK _ _ ⟨hb1, box_grown hc.bx0 hg (own_neB ho0 hc.bx0 (by decide)), box_grown hc.bx1 hg (own_neB ho0 hc.bx1 (by decide)), (fun _ he => absurd he (by omega)), (show OwnB _ B (Rg.upd val 2 _ 2) (l ++ [(1 : UInt8)]) from by rw [Rg.upd_same]; exact ho1)⟩)
    · obtain rfl := Option.some.inj ho
      have e104 : a.eval (.tmp 104) = .string t := seen.pl ⟨5, .data⟩ (by simp) rfl _ rfl
      have C1 := rtext_any t z ht
      refine Rg.op_call_w rfl (Rg.wanted_none rfl) (ex_call1 _ _ (.tmp 104) 9 48 rfl e104 rfl _ (call_fn Tryd.func48 rfl rfl _ _)) C1 ?_
      rintro e z1 ⟨⟨v1, rfl, ho1⟩, hz⟩
      have ho2 := Rw.own_less (B' := B) (Nat.le_trans hB hc.bel.size) ho1
      refine ⟨v1, rfl, hK _ _ ⟨hc.bel.trans (hz.mono (Nat.le_trans hB hc.bel.size)), hc.bx0.on hz, hc.bx1.on hz, (fun _ he => absurd he (by omega)), ⟨(show OwnB _ B (Rg.upd val 6 _ 2) (l ++ [(1 : UInt8)]) from by rw [Rg.upd_other _ _ (by decide)]; exact Rw.own_on hm hz), (show RowB _ (Rg.upd val 6 _ 6) (textB t) from by rw [Rg.upd_same]; exact Row.of_own ho2)⟩⟩⟩
    · obtain rfl := Option.some.inj ho
      have e101 : a.eval (.tmp 101) = val 2 := seen.at_ ⟨2, .data⟩ (by simp) rfl
      have e105 : a.eval (.tmp 105) = val 6 := seen.at_ ⟨6, .data⟩ (by simp) rfl
      obtain ⟨v1, z1, r, ho1, hg, hb1⟩ := app_nextB (l := l ++ [(1 : UInt8)]) (m := textB t) hB hc.bel hm.1 hm.2 (by rw [List.length_append, textB_lenW t ht]; simp; omega)
      have ho0 := hm.1
      refine Rg.op_value_w rfl (Rg.wanted_none rfl) (Rg.ex_append a.eval _ (.tmp 101) (.tmp 105) 22 rfl e101 e105 r) (hK _ _ ⟨hb1, box_grown hc.bx0 hg (own_neB ho0 hc.bx0 (by decide)), box_grown hc.bx1 hg (own_neB ho0 hc.bx1 (by decide)), (fun _ he => absurd he (by omega)), (show OwnB _ B (Rg.upd val 7 _ 7) (l ++ [(1 : UInt8)] ++ textB t) from by rw [Rg.upd_same]; exact ho1)⟩)
    · obtain rfl := Option.some.inj ho
      have e106 : a.eval (.tmp 106) = val 7 := seen.at_ ⟨7, .data⟩ (by simp) rfl
      refine Rg.op_value_w rfl (Rg.wanted_none rfl) (Rg.ex_assign a.eval _ (.tmp 106) rfl _) (hK _ _ ⟨hc.bel, hc.bx0, hc.bx1, (fun _ he => absurd he (by omega)), ?_⟩)
      show OwnB _ B (Rg.upd val 8 _ 8) (l ++ [(1 : UInt8)] ++ textB t)
      rw [Rg.upd_same, e106]
      exact hm
  · subst hdd hmk hpv hbase
    intro o k val z a hk ho hc seen K hK
    obtain rfl := Option.some.inj ho
    have hm := hc.st
    have hz := new_below z (.cells #[.int .u8 (1 : UInt8).toNat] 5)
    refine Rg.op_value_w rfl (Rg.wanted_none rfl) (Rg.ex_build a.eval _ 22 1 #[(0, .const (.int .u8 1))] rfl (by simp only [List.map_toArray, List.map_cons, List.map_nil]; rfl) (lit_byteB z (1 : UInt8))) (hK _ _ ⟨hc.bel.alloc (Nat.le_trans hB hc.bel.size) _, hc.bx0.on hz, hc.bx1.on hz, (fun _ _ => (show LitB B (Rg.upd val 1 _ 1) (1 : UInt8) _ from by rw [Rg.upd_same]; exact LitB.made B z (1 : UInt8) (Nat.le_trans hB hc.bel.size))), ?_⟩)
    rcases (by omega : k = 0) with rfl
    · simp only [by21S] at hm ⊢
      exact Rw.own_on hm hz
  · subst hdd hbase
    intro a b val z hc hd hsz hk hv
    have hm := hc.st
    have hk2 : ∀ j, (j < 99 ∨ 99 + 8 ≤ j) → a.tmps[j]? = (u0 :: .pointer (some ⟨mb, 0, none⟩) :: u2 :: val 8 :: u4 :: u5 :: u6 :: .pointer (some ⟨xb, 0, none⟩) :: u8 :: u9 :: u10 :: u11 :: u12 :: u13 :: u14 :: u15 :: u16 :: u17 :: u18 :: u19 :: u20 :: u21 :: u22 :: u23 :: u24 :: u25 :: u26 :: u27 :: u28 :: u29 :: u30 :: u31 :: u32 :: u33 :: u34 :: u35 :: u36 :: u37 :: u38 :: u39 :: u40 :: u41 :: u42 :: u43 :: u44 :: u45 :: u46 :: u47 :: u48 :: u49 :: u50 :: u51 :: u52 :: u53 :: u54 :: u55 :: u56 :: u57 :: u58 :: u59 :: u60 :: u61 :: u62 :: u63 :: u64 :: u65 :: u66 :: u67 :: u68 :: u69 :: u70 :: u71 :: u72 :: u73 :: u74 :: u75 :: u76 :: u77 :: u78 :: u79 :: u80 :: u81 :: u82 :: u83 :: u84 :: u85 :: u86 :: u87 :: u88 :: u89 :: u90 :: u91 :: u92 :: u93 :: u94 :: u95 :: u96 :: u97 :: u98 :: u99 :: u100 :: u101 :: u102 :: u103 :: u104 :: u105 :: u106 :: u107 :: u108 :: u109 :: u110 :: u111 :: u112 :: u113 :: u114 :: u115 :: u116 :: [] : List Value)[j]? := fun j hj => by
      by_cases e : j = 3
      · subst e
        exact hv 8 (by decide)
      · have h1 := (hk j (nd j (by omega))).trans List.getElem?_toArray
        rw [h1]
        rw [show (u0 :: .pointer (some ⟨mb, 0, none⟩) :: u2 :: val 8 :: u4 :: u5 :: u6 :: .pointer (some ⟨xb, 0, none⟩) :: u8 :: u9 :: u10 :: u11 :: u12 :: u13 :: u14 :: u15 :: u16 :: u17 :: u18 :: u19 :: u20 :: u21 :: u22 :: u23 :: u24 :: u25 :: u26 :: u27 :: u28 :: u29 :: u30 :: u31 :: u32 :: u33 :: u34 :: u35 :: u36 :: u37 :: u38 :: u39 :: u40 :: u41 :: u42 :: u43 :: u44 :: u45 :: u46 :: u47 :: u48 :: u49 :: u50 :: u51 :: u52 :: u53 :: u54 :: u55 :: u56 :: u57 :: u58 :: u59 :: u60 :: u61 :: u62 :: u63 :: u64 :: u65 :: u66 :: u67 :: u68 :: u69 :: u70 :: u71 :: u72 :: u73 :: u74 :: u75 :: u76 :: u77 :: u78 :: u79 :: u80 :: u81 :: u82 :: u83 :: u84 :: u85 :: u86 :: u87 :: u88 :: u89 :: u90 :: u91 :: u92 :: u93 :: u94 :: u95 :: u96 :: u97 :: u98 :: u99 :: u100 :: u101 :: u102 :: u103 :: u104 :: u105 :: u106 :: u107 :: u108 :: u109 :: u110 :: u111 :: u112 :: u113 :: u114 :: u115 :: u116 :: [] : List Value) = (u0 :: .pointer (some ⟨mb, 0, none⟩) :: u2 :: bv :: u4 :: u5 :: u6 :: .pointer (some ⟨xb, 0, none⟩) :: u8 :: u9 :: u10 :: u11 :: u12 :: u13 :: u14 :: u15 :: u16 :: u17 :: u18 :: u19 :: u20 :: u21 :: u22 :: u23 :: u24 :: u25 :: u26 :: u27 :: u28 :: u29 :: u30 :: u31 :: u32 :: u33 :: u34 :: u35 :: u36 :: u37 :: u38 :: u39 :: u40 :: u41 :: u42 :: u43 :: u44 :: u45 :: u46 :: u47 :: u48 :: u49 :: u50 :: u51 :: u52 :: u53 :: u54 :: u55 :: u56 :: u57 :: u58 :: u59 :: u60 :: u61 :: u62 :: u63 :: u64 :: u65 :: u66 :: u67 :: u68 :: u69 :: u70 :: u71 :: u72 :: u73 :: u74 :: u75 :: u76 :: u77 :: u78 :: u79 :: u80 :: u81 :: u82 :: u83 :: u84 :: u85 :: u86 :: u87 :: u88 :: u89 :: u90 :: u91 :: u92 :: u93 :: u94 :: u95 :: u96 :: u97 :: u98 :: u99 :: u100 :: u101 :: u102 :: u103 :: u104 :: u105 :: u106 :: u107 :: u108 :: u109 :: u110 :: u111 :: u112 :: u113 :: u114 :: u115 :: u116 :: []).set 3 (val 8) from rfl, List.getElem?_set_ne (fun e2 => e e2.symm)]
    obtain ⟨mid, hmid, rfl⟩ := Rg.frame_mid (bl := (u0 :: .pointer (some ⟨mb, 0, none⟩) :: u2 :: val 8 :: u4 :: u5 :: u6 :: .pointer (some ⟨xb, 0, none⟩) :: u8 :: u9 :: u10 :: u11 :: u12 :: u13 :: u14 :: u15 :: u16 :: u17 :: u18 :: u19 :: u20 :: u21 :: u22 :: u23 :: u24 :: u25 :: u26 :: u27 :: u28 :: u29 :: u30 :: u31 :: u32 :: u33 :: u34 :: u35 :: u36 :: u37 :: u38 :: u39 :: u40 :: u41 :: u42 :: u43 :: u44 :: u45 :: u46 :: u47 :: u48 :: u49 :: u50 :: u51 :: u52 :: u53 :: u54 :: u55 :: u56 :: u57 :: u58 :: u59 :: u60 :: u61 :: u62 :: u63 :: u64 :: u65 :: u66 :: u67 :: u68 :: u69 :: u70 :: u71 :: u72 :: u73 :: u74 :: u75 :: u76 :: u77 :: u78 :: u79 :: u80 :: u81 :: u82 :: u83 :: u84 :: u85 :: u86 :: u87 :: u88 :: u89 :: u90 :: u91 :: u92 :: u93 :: u94 :: u95 :: u96 :: u97 :: u98 :: u99 :: u100 :: u101 :: u102 :: u103 :: u104 :: u105 :: u106 :: u107 :: u108 :: u109 :: u110 :: u111 :: u112 :: u113 :: u114 :: u115 :: u116 :: [])) 99 8 hd hsz (by show 99 + 8 ≤ 117; decide) hk2
    match mid, hmid with
    | n99 :: n100 :: n101 :: n102 :: n103 :: n104 :: n105 :: n106 :: [], _ => exact HQ.out z (val 8) n99 n100 n101 n102 n103 n104 n105 n106 hm hc.bel hc.bx0 hc.bx1
end Go.Proofs.YtfcgfnmokbbcaaaDoor.Wr

namespace Go.Proofs.YtfcgfnmokbbcaaaDoor.Wr
open Go.RowKit Go.Proofs.YtfcgfnmokbbcaaaDoor Go.Proofs.YtfcgfnmokbbcaaaDoor.Rw Go.Proofs.YtfcgfnmokbbcaaaDoor.Nm Go.Proofs.YtfcgfnmokbbcaaaDoor.At Go.Proofs.YtfcgfnmokbbcaaaDoor.Pr

def by22S (B _mb _xb : Nat) (_m : Mg) (_pV _lV bv : Value) (l : List UInt8) (_nm _t : ByteArray) (_b1 : Bool) (n : Int) : Nat → (Nat → Value) → World → Prop
  | 0, _, w => OwnB w B bv (l)
  | 1, v, w => OwnB w B (v 2) (l ++ [(0 : UInt8)])
  | 2, v, w => OwnB w B (v 2) (l ++ [(0 : UInt8)]) ∧ RowB w (v 6) (numB n)
  | 3, v, w => OwnB w B (v 7) (l ++ [(0 : UInt8)] ++ numB n)
  | _ + 4, v, w => OwnB w B (v 8) (l ++ [(0 : UInt8)] ++ numB n)
structure by22C (B mb xb : Nat) (m : Mg) (pV lV bv : Value) (l : List UInt8) (nm t : ByteArray) (b1 : Bool) (n : Int) (W : World) (k : Nat) (b : Bool) (v : Nat → Value) (w : World) : Prop where
  bel : Below B W w
  bx0 : Box w mb (mcells m pV lV) 32
  bx1 : Box w xb #[.string nm, .bool b1, .int .i64 n, .string t] 61
  lit : b = true → k ≤ 0 → LitB B (v 1) (0 : UInt8) w
  st : by22S B mb xb m pV lV bv l nm t b1 n k v w
noncomputable def by22R : Code := ((Tryd.f19.body.bind (findRegion 22)).getD .skip)
set_option maxRecDepth 100000 in
set_option maxHeartbeats 8000000 in
theorem by22 (B mb xb : Nat) (m : Mg) (pV lV bv : Value) (l : List UInt8) (nm t : ByteArray) (b1 : Bool) (n : Int) (Q : Exit → Act → World → Prop) (W : World) (u0 u2 u4 u5 u6 u8 u9 u10 u11 u12 u13 u14 u15 u16 u17 u18 u19 u20 u21 u22 u23 u24 u25 u26 u27 u28 u29 u30 u31 u32 u33 u34 u35 u36 u37 u38 u39 u40 u41 u42 u43 u44 u45 u46 u47 u48 u49 u50 u51 u52 u53 u54 u55 u56 u57 u58 u59 u60 u61 u62 u63 u64 u65 u66 u67 u68 u69 u70 u71 u72 u73 u74 u75 u76 u77 u78 u79 u80 u81 u82 u83 u84 u85 u86 u87 u88 u89 u90 u91 u92 u93 u94 u95 u96 u97 u98 u99 u100 u101 u102 u103 u104 u105 u106 u107 u108 u109 u110 u111 u112 u113 u114 u115 u116 : Value)
    (hB : B ≤ W.heap.size) (hx0 : Box W mb (mcells m pV lV) 32) (hx1 : Box W xb #[.string nm, .bool b1, .int .i64 n, .string t] 61) (ho0 : OwnB W B bv (l)) (hl : l.length ≤ 10000)
    (hQ : ∀ (w' : World) (v n107 n108 n109 n110 n111 n112 n113 n114 : Value), OwnB w' B v (l ++ [(0 : UInt8)] ++ numB n) → Below B W w' → Box w' mb (mcells m pV lV) 32 → Box w' xb #[.string nm, .bool b1, .int .i64 n, .string t] 61 → Q .normal ⟨(u0 :: .pointer (some ⟨mb, 0, none⟩) :: u2 :: v :: u4 :: u5 :: u6 :: .pointer (some ⟨xb, 0, none⟩) :: u8 :: u9 :: u10 :: u11 :: u12 :: u13 :: u14 :: u15 :: u16 :: u17 :: u18 :: u19 :: u20 :: u21 :: u22 :: u23 :: u24 :: u25 :: u26 :: u27 :: u28 :: u29 :: u30 :: u31 :: u32 :: u33 :: u34 :: u35 :: u36 :: u37 :: u38 :: u39 :: u40 :: u41 :: u42 :: u43 :: u44 :: u45 :: u46 :: u47 :: u48 :: u49 :: u50 :: u51 :: u52 :: u53 :: u54 :: u55 :: u56 :: u57 :: u58 :: u59 :: u60 :: u61 :: u62 :: u63 :: u64 :: u65 :: u66 :: u67 :: u68 :: u69 :: u70 :: u71 :: u72 :: u73 :: u74 :: u75 :: u76 :: u77 :: u78 :: u79 :: u80 :: u81 :: u82 :: u83 :: u84 :: u85 :: u86 :: u87 :: u88 :: u89 :: u90 :: u91 :: u92 :: u93 :: u94 :: u95 :: u96 :: u97 :: u98 :: u99 :: u100 :: u101 :: u102 :: u103 :: u104 :: u105 :: u106 :: n107 :: n108 :: n109 :: n110 :: n111 :: n112 :: n113 :: n114 :: u115 :: u116 :: []).toArray, []⟩ w') :
    Code.wp Tryd.prog by22R Q ⟨(u0 :: .pointer (some ⟨mb, 0, none⟩) :: u2 :: bv :: u4 :: u5 :: u6 :: .pointer (some ⟨xb, 0, none⟩) :: u8 :: u9 :: u10 :: u11 :: u12 :: u13 :: u14 :: u15 :: u16 :: u17 :: u18 :: u19 :: u20 :: u21 :: u22 :: u23 :: u24 :: u25 :: u26 :: u27 :: u28 :: u29 :: u30 :: u31 :: u32 :: u33 :: u34 :: u35 :: u36 :: u37 :: u38 :: u39 :: u40 :: u41 :: u42 :: u43 :: u44 :: u45 :: u46 :: u47 :: u48 :: u49 :: u50 :: u51 :: u52 :: u53 :: u54 :: u55 :: u56 :: u57 :: u58 :: u59 :: u60 :: u61 :: u62 :: u63 :: u64 :: u65 :: u66 :: u67 :: u68 :: u69 :: u70 :: u71 :: u72 :: u73 :: u74 :: u75 :: u76 :: u77 :: u78 :: u79 :: u80 :: u81 :: u82 :: u83 :: u84 :: u85 :: u86 :: u87 :: u88 :: u89 :: u90 :: u91 :: u92 :: u93 :: u94 :: u95 :: u96 :: u97 :: u98 :: u99 :: u100 :: u101 :: u102 :: u103 :: u104 :: u105 :: u106 :: u107 :: u108 :: u109 :: u110 :: u111 :: u112 :: u113 :: u114 :: u115 :: u116 :: []).toArray, []⟩ W := by
  have HQ := Lib.hid hQ
  have HX0 := Lib.hid hx0
  have HX1 := Lib.hid hx1
  have HO0 := Lib.hid ho0
  clear hQ hx0 hx1 ho0
  obtain ⟨dst, hdd⟩ : ∃ d : Nat → Nat, d = fun i => [107, 108, 109, 110, 111, 112, 113, 114, 3].getD i 3 := ⟨_, rfl⟩
  obtain ⟨mk, hmk⟩ : ∃ d : Nat → Nat, d = fun j => [2, 6, 7, 8].getD j 999 := ⟨_, rfl⟩
  obtain ⟨pv, hpv⟩ : ∃ e : Nat → Option Value, e = fun i => ([some (bv), none, none, some (.pointer (some ⟨xb, 1, none⟩)), some (.pointer (some ⟨xb, 2, none⟩)), some (.int .i64 n), none, none, none] : List (Option Value)).getD i none := ⟨_, rfl⟩
  obtain ⟨base, hbase⟩ : ∃ b : Act, b = ⟨(u0 :: .pointer (some ⟨mb, 0, none⟩) :: u2 :: bv :: u4 :: u5 :: u6 :: .pointer (some ⟨xb, 0, none⟩) :: u8 :: u9 :: u10 :: u11 :: u12 :: u13 :: u14 :: u15 :: u16 :: u17 :: u18 :: u19 :: u20 :: u21 :: u22 :: u23 :: u24 :: u25 :: u26 :: u27 :: u28 :: u29 :: u30 :: u31 :: u32 :: u33 :: u34 :: u35 :: u36 :: u37 :: u38 :: u39 :: u40 :: u41 :: u42 :: u43 :: u44 :: u45 :: u46 :: u47 :: u48 :: u49 :: u50 :: u51 :: u52 :: u53 :: u54 :: u55 :: u56 :: u57 :: u58 :: u59 :: u60 :: u61 :: u62 :: u63 :: u64 :: u65 :: u66 :: u67 :: u68 :: u69 :: u70 :: u71 :: u72 :: u73 :: u74 :: u75 :: u76 :: u77 :: u78 :: u79 :: u80 :: u81 :: u82 :: u83 :: u84 :: u85 :: u86 :: u87 :: u88 :: u89 :: u90 :: u91 :: u92 :: u93 :: u94 :: u95 :: u96 :: u97 :: u98 :: u99 :: u100 :: u101 :: u102 :: u103 :: u104 :: u105 :: u106 :: u107 :: u108 :: u109 :: u110 :: u111 :: u112 :: u113 :: u114 :: u115 :: u116 :: []).toArray, []⟩ := ⟨_, rfl⟩
  rw [← hbase]
  unfold by22R
  conv => arg 2; whnf
  have nd : ∀ j, (j ≠ 107 ∧ j ≠ 108 ∧ j ≠ 109 ∧ j ≠ 110 ∧ j ≠ 111 ∧ j ≠ 112 ∧ j ≠ 113 ∧ j ≠ 114 ∧ j ≠ 3) → ∀ i, i < 9 → dst i ≠ j := by
    rw [hdd]
    intro j hj i hi
    rcases (by omega : i = 0 ∨ i = 1 ∨ i = 2 ∨ i = 3 ∨ i = 4 ∨ i = 5 ∨ i = 6 ∨ i = 7 ∨ i = 8) with rfl | rfl | rfl | rfl | rfl | rfl | rfl | rfl | rfl <;> simp <;> omega
  refine Rg.region_chain 9 dst pv mk 4 1 0 (by22C B mb xb m pV lV bv l nm t b1 n W) (by kernel_rfl) (by kernel_rfl) rfl ?_ ?_ ?_ ?_ (by decide) ?_ ?_ (by subst hpv; rfl) ?_ ?_ ?_ ?_ ?_ ?_ ?_ ?_
  · subst hdd
    intro i j hi hj h
    rcases (by omega : i = 0 ∨ i = 1 ∨ i = 2 ∨ i = 3 ∨ i = 4 ∨ i = 5 ∨ i = 6 ∨ i = 7 ∨ i = 8) with rfl | rfl | rfl | rfl | rfl | rfl | rfl | rfl | rfl <;> rcases (by omega : j = 0 ∨ j = 1 ∨ j = 2 ∨ j = 3 ∨ j = 4 ∨ j = 5 ∨ j = 6 ∨ j = 7 ∨ j = 8) with rfl | rfl | rfl | rfl | rfl | rfl | rfl | rfl | rfl <;> first | rfl | (exfalso; revert h; decide)
  · subst hdd hbase
    intro i hi
    rcases (by omega : i = 0 ∨ i = 1 ∨ i = 2 ∨ i = 3 ∨ i = 4 ∨ i = 5 ∨ i = 6 ∨ i = 7 ∨ i = 8) with rfl | rfl | rfl | rfl | rfl | rfl | rfl | rfl | rfl <;> (show _ < 117; decide)
  · subst hmk
    intro i j hi hj h
    rcases (by omega : i = 0 ∨ i = 1 ∨ i = 2 ∨ i = 3) with rfl | rfl | rfl | rfl <;> rcases (by omega : j = 0 ∨ j = 1 ∨ j = 2 ∨ j = 3) with rfl | rfl | rfl | rfl <;> first | rfl | (exfalso; revert h; decide)
  · subst hmk
    intro j hj
    rcases (by omega : j = 0 ∨ j = 1 ∨ j = 2 ∨ j = 3) with rfl | rfl | rfl | rfl <;> decide
  · subst hmk
    intro j hj
    rcases (by omega : j = 0 ∨ j = 1 ∨ j = 2 ∨ j = 3) with rfl | rfl | rfl | rfl <;> decide
  · subst hmk hpv
    intro j hj
    rcases (by omega : j = 0 ∨ j = 1 ∨ j = 2 ∨ j = 3) with rfl | rfl | rfl | rfl <;> rfl
  · subst hmk
    intro j o hj ho
    rcases (by omega : j = 0 ∨ j = 1 ∨ j = 2) with rfl | rfl | rfl
    · obtain rfl := Option.some.inj ho
      exact ⟨⟨2, .chain⟩, by simp, rfl, rfl⟩
    · obtain rfl := Option.some.inj ho
      exact ⟨⟨6, .data⟩, by simp, rfl, rfl⟩
    · obtain rfl := Option.some.inj ho
      exact ⟨⟨7, .data⟩, by simp, rfl, rfl⟩
  · subst hmk
    intro o _ ho
    obtain rfl := Option.some.inj ho
    exact ⟨⟨1, .data⟩, by simp, rfl, rfl⟩
  · intro v
    exact ⟨(Below.refl _ _).drew, HX0.out, HX1.out, (fun h => by cases h), HO0.out⟩
  · subst hmk
    intro k b v v' z h1 h2 hc
    refine ⟨hc.bel, hc.bx0, hc.bx1, fun e hk => by rw [h2 e]; exact hc.lit e hk, ?_⟩
    have hm := hc.st
    rcases k with _ | _ | _ | _ | k
    · simp only [by22S] at hm ⊢
      exact hm
    · have e2 : v' 2 = v 2 := h1 0 (by omega)
      simp only [by22S, e2] at hm ⊢
      exact hm
    · have e2 : v' 2 = v 2 := h1 0 (by omega)
      have e6 : v' 6 = v 6 := h1 1 (by omega)
      simp only [by22S, e2, e6] at hm ⊢
      exact hm
    · have e7 : v' 7 = v 7 := h1 2 (by omega)
      simp only [by22S, e7] at hm ⊢
      exact hm
    · have e8 : v' 8 = v 8 := h1 3 (by omega)
      simp only [by22S, e8] at hm ⊢
      exact hm
  · subst hdd hmk hpv hbase
    intro i o hi ho hnm hnq
    rcases (by omega : i = 0 ∨ i = 1 ∨ i = 2 ∨ i = 3 ∨ i = 4 ∨ i = 5 ∨ i = 6 ∨ i = 7 ∨ i = 8) with rfl | rfl | rfl | rfl | rfl | rfl | rfl | rfl | rfl
    · obtain rfl := Option.some.inj ho
      refine ⟨_, rfl, fun k b val z a hc seen K hK => ?_⟩
      have e3 : a.eval (.tmp 3) = bv := seen.kq 8 _ _ (by decide) rfl ⟨⟨0, .phase⟩, by simp, rfl, rfl⟩ rfl
      exact Rg.op_value_w rfl (Rg.wanted_none rfl) (by simp [execOp, e3]) hK
    · exact absurd rfl hnq
    · exact absurd rfl (hnm 0 (by decide))
    · obtain rfl := Option.some.inj ho
      refine ⟨_, rfl, fun k b val z a hc seen K hK => ?_⟩
      have e7 : a.eval (.tmp 7) = .pointer (some ⟨xb, 0, none⟩) := seen.kp 7 _ (nd 7 (by decide)) rfl
      exact Rg.op_value_w rfl (Rg.wanted_none rfl) (Rg.ex_field a.eval _ 61 (.tmp 7) 1 rfl (by rw [e7]; simp [go_sem])) hK
    · obtain rfl := Option.some.inj ho
      refine ⟨_, rfl, fun k b val z a hc seen K hK => ?_⟩
      have e110 : a.eval (.tmp 110) = .pointer (some ⟨xb, 1, none⟩) := seen.pl ⟨3, .data⟩ (by simp) rfl _ rfl
      exact Rg.op_value_w rfl (Rg.wanted_none rfl) (Rg.ex_field a.eval _ 59 (.tmp 110) 1 rfl (by rw [e110]; simp [go_sem])) hK
    · obtain rfl := Option.some.inj ho
      refine ⟨_, rfl, fun k b val z a hc seen K hK => ?_⟩
      have e111 : a.eval (.tmp 111) = .pointer (some ⟨xb, 2, none⟩) := seen.pl ⟨4, .data⟩ (by simp) rfl _ rfl
      have y1_0 := hc.bx1.cell 0
      have y1_1 := hc.bx1.cell 1
      have y1_2 := hc.bx1.cell 2
      have y1_3 := hc.bx1.cell 3
      simp only [List.getElem?_toArray, List.getElem?_cons_zero, List.getElem?_cons_succ] at y1_0 y1_1 y1_2 y1_3
      exact Rg.op_value_w rfl (Rg.wanted_none rfl) (Rg.ex_load a.eval _ 3 (.tmp 111) rfl (by rw [e111]; simp [go_sem, y1_2])) hK
    · exact absurd rfl (hnm 1 (by decide))
    · exact absurd rfl (hnm 2 (by decide))
    · exact absurd rfl (hnm 3 (by decide))
  · subst hdd hmk hpv hbase
    intro j o b val z a hj ho hc hcb seen K hK
    have hm := hc.st
    rcases (by omega : j = 0 ∨ j = 1 ∨ j = 2 ∨ j = 3) with rfl | rfl | rfl | rfl
    · obtain rfl := Option.some.inj ho
      have e107 : a.eval (.tmp 107) = bv := seen.pl ⟨0, .data⟩ (by simp) rfl _ rfl
      have e108 : a.eval (.tmp 108) = val 1 := seen.at_ ⟨1, .data⟩ (by simp) rfl
      obtain ⟨v1, z1, r, ho1, hg, hb1⟩ := app_nextB (l := l) (m := [(0 : UInt8)]) hB hc.bel hm (hc.lit (hcb (by omega)) (by omega)).row (by simp; omega)
      have ho0 := hm
      refine Rg.op_value_w rfl (Rg.wanted_none rfl) (Rg.ex_append a.eval _ (.tmp 107) (.tmp 108) 22 rfl e107 e108 r) (hK _ _ ⟨hb1, box_grown hc.bx0 hg (own_neB ho0 hc.bx0 (by decide)), box_grown hc.bx1 hg (own_neB ho0 hc.bx1 (by decide)), (fun _ he => absurd he (by omega)), (show OwnB _ B (Rg.upd val 2 _ 2) (l ++ [(0 : UInt8)]) from by rw [Rg.upd_same]; exact ho1)⟩)
    · obtain rfl := Option.some.inj ho
      have e112 : a.eval (.tmp 112) = .int .i64 n := seen.pl ⟨5, .data⟩ (by simp) rfl _ rfl
      have C1 := rnum_any n z
      refine Rg.op_call_w rfl (Rg.wanted_none rfl) (ex_call1 _ _ (.tmp 112) 3 49 rfl e112 rfl _ (call_fn Tryd.func49 rfl rfl _ _)) C1 ?_
      rintro e z1 ⟨⟨v1, rfl, ho1⟩, hz⟩
      have ho2 := Rw.own_less (B' := B) (Nat.le_trans hB hc.bel.size) ho1
      refine ⟨v1, rfl, hK _ _ ⟨hc.bel.trans (hz.mono (Nat.le_trans hB hc.bel.size)), hc.bx0.on hz, hc.bx1.on hz, (fun _ he => absurd he (by omega)), ⟨(show OwnB _ B (Rg.upd val 6 _ 2) (l ++ [(0 : UInt8)]) from by rw [Rg.upd_other _ _ (by decide)]; exact Rw.own_on hm hz), (show RowB _ (Rg.upd val 6 _ 6) (numB n) from by rw [Rg.upd_same]; exact Row.of_own ho2)⟩⟩⟩
    · obtain rfl := Option.some.inj ho
      have e109 : a.eval (.tmp 109) = val 2 := seen.at_ ⟨2, .data⟩ (by simp) rfl
      have e113 : a.eval (.tmp 113) = val 6 := seen.at_ ⟨6, .data⟩ (by simp) rfl
      obtain ⟨v1, z1, r, ho1, hg, hb1⟩ := app_nextB (l := l ++ [(0 : UInt8)]) (m := numB n) hB hc.bel hm.1 hm.2 (by rw [List.length_append, numB_len]; simp; omega)
      have ho0 := hm.1
      refine Rg.op_value_w rfl (Rg.wanted_none rfl) (Rg.ex_append a.eval _ (.tmp 109) (.tmp 113) 22 rfl e109 e113 r) (hK _ _ ⟨hb1, box_grown hc.bx0 hg (own_neB ho0 hc.bx0 (by decide)), box_grown hc.bx1 hg (own_neB ho0 hc.bx1 (by decide)), (fun _ he => absurd he (by omega)), (show OwnB _ B (Rg.upd val 7 _ 7) (l ++ [(0 : UInt8)] ++ numB n) from by rw [Rg.upd_same]; exact ho1)⟩)
    · obtain rfl := Option.some.inj ho
      have e114 : a.eval (.tmp 114) = val 7 := seen.at_ ⟨7, .data⟩ (by simp) rfl
      refine Rg.op_value_w rfl (Rg.wanted_none rfl) (Rg.ex_assign a.eval _ (.tmp 114) rfl _) (hK _ _ ⟨hc.bel, hc.bx0, hc.bx1, (fun _ he => absurd he (by omega)), ?_⟩)
      show OwnB _ B (Rg.upd val 8 _ 8) (l ++ [(0 : UInt8)] ++ numB n)
      rw [Rg.upd_same, e114]
      exact hm
  · subst hdd hmk hpv hbase
    intro o k val z a hk ho hc seen K hK
    obtain rfl := Option.some.inj ho
    have hm := hc.st
    have hz := new_below z (.cells #[.int .u8 (0 : UInt8).toNat] 5)
    refine Rg.op_value_w rfl (Rg.wanted_none rfl) (Rg.ex_build a.eval _ 22 1 #[(0, .const (.int .u8 0))] rfl (by simp only [List.map_toArray, List.map_cons, List.map_nil]; rfl) (lit_byteB z (0 : UInt8))) (hK _ _ ⟨hc.bel.alloc (Nat.le_trans hB hc.bel.size) _, hc.bx0.on hz, hc.bx1.on hz, (fun _ _ => (show LitB B (Rg.upd val 1 _ 1) (0 : UInt8) _ from by rw [Rg.upd_same]; exact LitB.made B z (0 : UInt8) (Nat.le_trans hB hc.bel.size))), ?_⟩)
    rcases (by omega : k = 0) with rfl
    · simp only [by22S] at hm ⊢
      exact Rw.own_on hm hz
  · subst hdd hbase
    intro a b val z hc hd hsz hk hv
    have hm := hc.st
    have hk2 : ∀ j, (j < 107 ∨ 107 + 8 ≤ j) → a.tmps[j]? = (u0 :: .pointer (some ⟨mb, 0, none⟩) :: u2 :: val 8 :: u4 :: u5 :: u6 :: .pointer (some ⟨xb, 0, none⟩) :: u8 :: u9 :: u10 :: u11 :: u12 :: u13 :: u14 :: u15 :: u16 :: u17 :: u18 :: u19 :: u20 :: u21 :: u22 :: u23 :: u24 :: u25 :: u26 :: u27 :: u28 :: u29 :: u30 :: u31 :: u32 :: u33 :: u34 :: u35 :: u36 :: u37 :: u38 :: u39 :: u40 :: u41 :: u42 :: u43 :: u44 :: u45 :: u46 :: u47 :: u48 :: u49 :: u50 :: u51 :: u52 :: u53 :: u54 :: u55 :: u56 :: u57 :: u58 :: u59 :: u60 :: u61 :: u62 :: u63 :: u64 :: u65 :: u66 :: u67 :: u68 :: u69 :: u70 :: u71 :: u72 :: u73 :: u74 :: u75 :: u76 :: u77 :: u78 :: u79 :: u80 :: u81 :: u82 :: u83 :: u84 :: u85 :: u86 :: u87 :: u88 :: u89 :: u90 :: u91 :: u92 :: u93 :: u94 :: u95 :: u96 :: u97 :: u98 :: u99 :: u100 :: u101 :: u102 :: u103 :: u104 :: u105 :: u106 :: u107 :: u108 :: u109 :: u110 :: u111 :: u112 :: u113 :: u114 :: u115 :: u116 :: [] : List Value)[j]? := fun j hj => by
      by_cases e : j = 3
      · subst e
        exact hv 8 (by decide)
      · have h1 := (hk j (nd j (by omega))).trans List.getElem?_toArray
        rw [h1]
        rw [show (u0 :: .pointer (some ⟨mb, 0, none⟩) :: u2 :: val 8 :: u4 :: u5 :: u6 :: .pointer (some ⟨xb, 0, none⟩) :: u8 :: u9 :: u10 :: u11 :: u12 :: u13 :: u14 :: u15 :: u16 :: u17 :: u18 :: u19 :: u20 :: u21 :: u22 :: u23 :: u24 :: u25 :: u26 :: u27 :: u28 :: u29 :: u30 :: u31 :: u32 :: u33 :: u34 :: u35 :: u36 :: u37 :: u38 :: u39 :: u40 :: u41 :: u42 :: u43 :: u44 :: u45 :: u46 :: u47 :: u48 :: u49 :: u50 :: u51 :: u52 :: u53 :: u54 :: u55 :: u56 :: u57 :: u58 :: u59 :: u60 :: u61 :: u62 :: u63 :: u64 :: u65 :: u66 :: u67 :: u68 :: u69 :: u70 :: u71 :: u72 :: u73 :: u74 :: u75 :: u76 :: u77 :: u78 :: u79 :: u80 :: u81 :: u82 :: u83 :: u84 :: u85 :: u86 :: u87 :: u88 :: u89 :: u90 :: u91 :: u92 :: u93 :: u94 :: u95 :: u96 :: u97 :: u98 :: u99 :: u100 :: u101 :: u102 :: u103 :: u104 :: u105 :: u106 :: u107 :: u108 :: u109 :: u110 :: u111 :: u112 :: u113 :: u114 :: u115 :: u116 :: [] : List Value) = (u0 :: .pointer (some ⟨mb, 0, none⟩) :: u2 :: bv :: u4 :: u5 :: u6 :: .pointer (some ⟨xb, 0, none⟩) :: u8 :: u9 :: u10 :: u11 :: u12 :: u13 :: u14 :: u15 :: u16 :: u17 :: u18 :: u19 :: u20 :: u21 :: u22 :: u23 :: u24 :: u25 :: u26 :: u27 :: u28 :: u29 :: u30 :: u31 :: u32 :: u33 :: u34 :: u35 :: u36 :: u37 :: u38 :: u39 :: u40 :: u41 :: u42 :: u43 :: u44 :: u45 :: u46 :: u47 :: u48 :: u49 :: u50 :: u51 :: u52 :: u53 :: u54 :: u55 :: u56 :: u57 :: u58 :: u59 :: u60 :: u61 :: u62 :: u63 :: u64 :: u65 :: u66 :: u67 :: u68 :: u69 :: u70 :: u71 :: u72 :: u73 :: u74 :: u75 :: u76 :: u77 :: u78 :: u79 :: u80 :: u81 :: u82 :: u83 :: u84 :: u85 :: u86 :: u87 :: u88 :: u89 :: u90 :: u91 :: u92 :: u93 :: u94 :: u95 :: u96 :: u97 :: u98 :: u99 :: u100 :: u101 :: u102 :: u103 :: u104 :: u105 :: u106 :: u107 :: u108 :: u109 :: u110 :: u111 :: u112 :: u113 :: u114 :: u115 :: u116 :: []).set 3 (val 8) from rfl, List.getElem?_set_ne (fun e2 => e e2.symm)]
    obtain ⟨mid, hmid, rfl⟩ := Rg.frame_mid (bl := (u0 :: .pointer (some ⟨mb, 0, none⟩) :: u2 :: val 8 :: u4 :: u5 :: u6 :: .pointer (some ⟨xb, 0, none⟩) :: u8 :: u9 :: u10 :: u11 :: u12 :: u13 :: u14 :: u15 :: u16 :: u17 :: u18 :: u19 :: u20 :: u21 :: u22 :: u23 :: u24 :: u25 :: u26 :: u27 :: u28 :: u29 :: u30 :: u31 :: u32 :: u33 :: u34 :: u35 :: u36 :: u37 :: u38 :: u39 :: u40 :: u41 :: u42 :: u43 :: u44 :: u45 :: u46 :: u47 :: u48 :: u49 :: u50 :: u51 :: u52 :: u53 :: u54 :: u55 :: u56 :: u57 :: u58 :: u59 :: u60 :: u61 :: u62 :: u63 :: u64 :: u65 :: u66 :: u67 :: u68 :: u69 :: u70 :: u71 :: u72 :: u73 :: u74 :: u75 :: u76 :: u77 :: u78 :: u79 :: u80 :: u81 :: u82 :: u83 :: u84 :: u85 :: u86 :: u87 :: u88 :: u89 :: u90 :: u91 :: u92 :: u93 :: u94 :: u95 :: u96 :: u97 :: u98 :: u99 :: u100 :: u101 :: u102 :: u103 :: u104 :: u105 :: u106 :: u107 :: u108 :: u109 :: u110 :: u111 :: u112 :: u113 :: u114 :: u115 :: u116 :: [])) 107 8 hd hsz (by show 107 + 8 ≤ 117; decide) hk2
    match mid, hmid with
    | n107 :: n108 :: n109 :: n110 :: n111 :: n112 :: n113 :: n114 :: [], _ => exact HQ.out z (val 8) n107 n108 n109 n110 n111 n112 n113 n114 hm hc.bel hc.bx0 hc.bx1
end Go.Proofs.YtfcgfnmokbbcaaaDoor.Wr
