/-
  putAttrs of package wire: the bytes of attributes. Condition: few of them, of short texts.
  Region 3 of Encode of package wire: the kind and the tree. No condition.
-/
import Derived.Test.YtfcgfnmokbbcaaaDoorU026
import Derived.Test.YtfcgfnmokbbcaaaDoorU027
import Derived.Test.YtfcgfnmokbbcaaaDoorU019
import Derived.Test.YtfcgfnmokbbcaaaDoorU006
namespace Go.Proofs.YtfcgfnmokbbcaaaDoor.Ws
open Go.RowKit Go.Proofs.YtfcgfnmokbbcaaaDoor Go.Proofs.YtfcgfnmokbbcaaaDoor.Rw Go.Proofs.YtfcgfnmokbbcaaaDoor.Nm Go.Proofs.YtfcgfnmokbbcaaaDoor.At Go.Proofs.YtfcgfnmokbbcaaaDoor.Pr Go.Proofs.YtfcgfnmokbbcaaaDoor.Wr

theorem att_most (a : A4) (h : a.1.size ≤ 12 ∧ a.2.2.2.size ≤ 12) : (attB a).length ≤ 40 := by
  unfold attB
  rw [List.length_append, textB_lenW _ (by omega)]
  split
  · rw [List.length_cons, textB_lenW _ (by omega)]; omega
  · rw [List.length_cons, numB_len]; omega
theorem atts_most : ∀ l : List A4, (∀ c ∈ l, c.1.size ≤ 12 ∧ c.2.2.2.size ≤ 12) → (l.flatMap attB).length ≤ l.length * 40 := by
  intro l
  induction l with
  | nil => intro _; simp
  | cons c l ih =>
    intro hc
    have a1 := ih (fun x hx => hc x (List.mem_cons_of_mem _ hx))
    have a2 := att_most c (hc c (List.mem_cons_self ..))
    rw [List.flatMap_cons, List.length_append, List.length_cons, Nat.succ_mul]
    omega
set_option maxRecDepth 100000 in
set_option maxHeartbeats 16000000 in
theorem putattrs_any (pv : Value) (p : List A4) (w : World) (hp : RowA w pv p) (h1 : ∀ c ∈ p, c.1.size ≤ 12 ∧ c.2.2.2.size ≤ 12) (h5 : p.length ≤ 5) :
    Calls Tryd.prog 28 #[pv] w fun e w' => (∃ v, e = .returned v ∧ OwnB w' w.heap.size v (UInt8.ofNat p.length :: p.flatMap attB)) ∧ Below w.heap.size w w' := by
  have HP := Lib.hid hp
  have H1 := Lib.hid h1
  have H5 := Lib.hid h5
  obtain ⟨ao, ac, rfl⟩ := hp.len
  have hwr : IntKind.u8.wrap (p.length : Int) = p.length := IntWalk.u8_in _ (by omega)
  have hlit := own_lit1 w (UInt8.ofNat p.length)
  rw [len_byte (show p.length ≤ 255 by omega)] at hlit
  have O0 := Lib.hid hlit
  have B0 := Lib.hid ((Below.refl w.heap.size w).alloc (Nat.le_refl _) (.cells #[.int .u8 (p.length : Int)] 5))
  have FL := Lib.hid (show (p.flatMap attB).length ≤ 200 by have := atts_most p h1; omega)
  clear hp h1 h5 hlit
  go_enter Tryd.func28, Tryd.ntmps28
  go_wp2
  go_loopw [3, 12] (fun b i wr => ∃ j : Nat, j ≤ p.length ∧ i = .int .i64 j ∧ Below w.heap.size w wr ∧ OwnB wr w.heap.size b (UInt8.ofNat p.length :: (p.take j).flatMap attB)) (fun _ i _ => p.length - (intOf i).toNat)
  case atStart => exact ⟨0, Nat.zero_le _, rfl, B0.out, by simpa using O0.out⟩
  case round =>
    obtain ⟨j, hj, rfl, hb, ho⟩ := hrel
    have RB := Lib.hid hb
    have RO := Lib.hid ho
    clear hb ho hwr
    have hfive := H5.out
    by_cases hlt : j < p.length
    · obtain ⟨⟨nm, isT, n, t⟩, hc⟩ : ∃ x, p[j]? = some x := ⟨_, List.getElem?_eq_getElem hlt⟩
      obtain ⟨q, ix, px⟩ := row_cells HP.out rfl rfl hc
      obtain ⟨p0, p1, p2, p3⟩ := px _ RB.out
      have TX := Lib.hid (H1.out _ (List.mem_of_getElem? hc))
      have SU := Lib.hid (show UInt8.ofNat p.length :: (p.take (j + 1)).flatMap attB = UInt8.ofNat p.length :: (p.take j).flatMap attB ++ attB (nm, isT, n, t) by rw [flat_succ attB p j _ hc, List.cons_append])
      have LN := Lib.hid (show (UInt8.ofNat p.length :: (p.take j).flatMap attB).length ≤ 300 by have a1 := FL.out; have a2 := flat_take attB p j; rw [List.length_cons]; omega)
      generalize UInt8.ofNat p.length :: (p.take j).flatMap attB = lj at *
      obtain ⟨W4, hW4⟩ : ∃ W4, W4 = wr.alloc (.cells #[.string nm, .bool isT, .int .i64 n, .string t] 61) := ⟨_, rfl⟩
      have B4 := Lib.hid (show Below w.heap.size w W4 by rw [hW4]; exact RB.out.alloc RB.out.size _)
      have C4 := Lib.hid (show Box W4 wr.heap.size #[.string nm, .bool isT, .int .i64 n, .string t] 61 by rw [hW4]; exact box_new wr _ _)
      have O4 := Lib.hid (show OwnB W4 w.heap.size _ lj by rw [hW4]; exact Rw.own_on RO.out ((Below.refl _ wr).alloc (Nat.le_refl _) _))
      have T4 := Lib.hid (text_any nm W4)
      rw [hW4] at T4
      have HW4 := Lib.hid hW4
      clear hc px hW4
      simp only at p0 p1 p2 p3
      go_wp2_with fail
      clear p0 p1 p2 p3 ix
      refine T4.out.mono ?_
      rw [← HW4.out]
      rintro e5 w5 ⟨⟨v5, rfl, ho5⟩, hb5⟩
      have O5 := Lib.hid (Rw.own_on O4.out hb5)
      have B5 := Lib.hid (B4.out.trans (hb5.mono B4.out.size))
      have C5' := Lib.hid (C4.out.on hb5)
      obtain ⟨v6, w6, r6, o6, gr6, hb6⟩ := app_nextB (l := lj) (m := textB nm) (Nat.le_refl _) B5.out O5.out (Row.of_own ho5) (by have a1 := LN.out; have a2 := TX.out.1; rw [textB_lenW nm (by omega)]; omega)
      have C6 := Lib.hid (box_grown C5'.out gr6 (own_neB O5.out C5'.out (by decide)))
      have O6 := Lib.hid o6
      have B6 := Lib.hid hb6
      have L6 := Lib.hid (show (lj ++ textB nm).length ≤ 400 by have a1 := LN.out; have a2 := TX.out.1; rw [List.length_append, textB_lenW nm (by omega)]; omega)
      have c0 := C5'.out.cell 0
      have d1 := C6.out.cell 1
      simp only [List.getElem?_toArray, List.getElem?_cons_zero, List.getElem?_cons_succ] at c0 d1
      clear ho5 hb5 o6 gr6 hb6 O4 C4 B4 T4 O5 B5 C5' RO RB
      cases isT
      · have hlit := own_lit1 w6 0
        have O7 := Lib.hid (Rw.own_on O6.out ((Below.refl _ w6).alloc (Nat.le_refl _) (.cells #[.int .u8 0] 5)))
        have C7 := Lib.hid (C6.out.more (.cells #[.int .u8 0] 5))
        have B7 := Lib.hid (B6.out.alloc B6.out.size (.cells #[.int .u8 0] 5))
        have hlit2 : OwnB (w6.alloc (.cells #[.int .u8 0] 5)) w6.heap.size (.slice (some ⟨w6.heap.size, 0, none⟩) 1 1) [0] := hlit
        obtain ⟨v8, w8, r8, o8, gr8, hb8⟩ := app_nextB (l := lj ++ textB nm) (m := [0]) (Nat.le_refl _) B7.out O7.out (Row.of_own hlit2) (by have a1 := L6.out; rw [List.length_singleton]; omega)
        have C8 := Lib.hid (box_grown C7.out gr8 (own_neB O7.out C7.out (by decide)))
        have O8 := Lib.hid o8
        have B8 := Lib.hid hb8
        have e2 := C8.out.cell 2
        have e3 := C8.out.cell 3
        simp only [List.getElem?_toArray, List.getElem?_cons_zero, List.getElem?_cons_succ] at e2 e3
        clear hlit hlit2 o8 gr8 hb8 C6 O6 B6 O7 C7 B7
        have OI := Lib.hid (show OwnI (w8.alloc (.cells #[.int .i64 n] 3)) w8.heap.size (.slice (some ⟨w8.heap.size, 0, none⟩) 1 1) [n] from litI w8 [n] 1 _ rfl (by simp) rfl)
        have NT := Lib.hid (number_any _ [n] _ (Row.of_own OI.out) (by simp))
        go_wp2_with (first | (at_builtin; first | refine wpList_append_run rfl _ _ 22 rfl rfl rfl r6 ?_ | refine wpList_append_run rfl _ _ 22 rfl rfl rfl r8 ?_) | fail)
        refine NT.out.mono ?_
        rintro e9 w9 ⟨⟨v9, rfl, ho9⟩, hb9⟩
        have hz := ((Below.refl w8.heap.size w8).alloc (Nat.le_refl _) (.cells #[.int .i64 n] 3)).trans (hb9.mono (show w8.heap.size ≤ (w8.alloc (.cells #[.int .i64 n] 3)).heap.size by simp))
        have O9 := Lib.hid (Rw.own_on O8.out hz)
        have B9 := Lib.hid (B8.out.trans (hz.mono B8.out.size))
        obtain ⟨v10, w10, r10, o10, gr10, hb10⟩ := app_nextB (l := lj ++ textB nm ++ [0]) (m := numsB [n]) (Nat.le_refl _) B9.out O9.out (Row.of_own ho9) (by have a1 := L6.out; rw [List.length_append, numsB_len, List.length_singleton, List.length_singleton]; omega)
        have O10 := Lib.hid o10
        have B10 := Lib.hid hb10
        have EQ := Lib.hid (show lj ++ attB (nm, false, n, t) = lj ++ textB nm ++ [0] ++ numsB [n] by simp [attB, numsB, List.append_assoc])
        clear ho9 hb9 hz o10 gr10 hb10 c0 d1 e2 e3 O8 C8 r6 r8
        go_wp2_with (first | (at_builtin; refine wpList_append_run rfl _ _ 22 rfl rfl rfl r10 ?_) | fail)
        clear r10
        go_wp2
        go_roundw
        case rel => exact ⟨j + 1, by omega, by go_num, B10.out, by rw [SU.out, EQ.out]; exact O10.out⟩
        case measure => simp [intOf]; omega
      · have hlit := own_lit1 w6 1
        have O7 := Lib.hid (Rw.own_on O6.out ((Below.refl _ w6).alloc (Nat.le_refl _) (.cells #[.int .u8 1] 5)))
        have C7 := Lib.hid (C6.out.more (.cells #[.int .u8 1] 5))
        have B7 := Lib.hid (B6.out.alloc B6.out.size (.cells #[.int .u8 1] 5))
        have hlit2 : OwnB (w6.alloc (.cells #[.int .u8 1] 5)) w6.heap.size (.slice (some ⟨w6.heap.size, 0, none⟩) 1 1) [1] := hlit
        obtain ⟨v8, w8, r8, o8, gr8, hb8⟩ := app_nextB (l := lj ++ textB nm) (m := [1]) (Nat.le_refl _) B7.out O7.out (Row.of_own hlit2) (by have a1 := L6.out; rw [List.length_singleton]; omega)
        have C8 := Lib.hid (box_grown C7.out gr8 (own_neB O7.out C7.out (by decide)))
        have O8 := Lib.hid o8
        have B8 := Lib.hid hb8
        have e2 := C8.out.cell 2
        have e3 := C8.out.cell 3
        simp only [List.getElem?_toArray, List.getElem?_cons_zero, List.getElem?_cons_succ] at e2 e3
        clear hlit hlit2 o8 gr8 hb8 C6 O6 B6 O7 C7 B7
        have NT := Lib.hid (text_any t w8)
        go_wp2_with (first | (at_builtin; first | refine wpList_append_run rfl _ _ 22 rfl rfl rfl r6 ?_ | refine wpList_append_run rfl _ _ 22 rfl rfl rfl r8 ?_) | fail)
        refine NT.out.mono ?_
        rintro e9 w9 ⟨⟨v9, rfl, ho9⟩, hb9⟩
        have hz := hb9
        have O9 := Lib.hid (Rw.own_on O8.out hz)
        have B9 := Lib.hid (B8.out.trans (hz.mono B8.out.size))
        obtain ⟨v10, w10, r10, o10, gr10, hb10⟩ := app_nextB (l := lj ++ textB nm ++ [1]) (m := textB t) (Nat.le_refl _) B9.out O9.out (Row.of_own ho9) (by have a1 := L6.out; have a2 := TX.out.2; rw [List.length_append, textB_lenW t (by omega), List.length_singleton]; omega)
        have O10 := Lib.hid o10
        have B10 := Lib.hid hb10
        have EQ := Lib.hid (show lj ++ attB (nm, true, n, t) = lj ++ textB nm ++ [1] ++ textB t by simp [attB, List.append_assoc])
        clear ho9 hb9 hz o10 gr10 hb10 c0 d1 e2 e3 O8 C8 r6 r8
        go_wp2_with (first | (at_builtin; refine wpList_append_run rfl _ _ 22 rfl rfl rfl r10 ?_) | fail)
        clear r10
        go_wp2
        go_roundw
        case rel => exact ⟨j + 1, by omega, by go_num, B10.out, by rw [SU.out, EQ.out]; exact O10.out⟩
        case measure => simp [intOf]; omega
    · obtain rfl : j = p.length := by omega
      rw [List.take_of_length_le (Nat.le_refl _)] at RO
      go_wp2
      go_ret
      exact ⟨⟨_, rfl, RO.out⟩, RB.out⟩
end Go.Proofs.YtfcgfnmokbbcaaaDoor.Ws

namespace Go.Proofs.YtfcgfnmokbbcaaaDoor.Ws
open Go.RowKit Go.Proofs.YtfcgfnmokbbcaaaDoor Go.Proofs.YtfcgfnmokbbcaaaDoor.Rw Go.Proofs.YtfcgfnmokbbcaaaDoor.Nm Go.Proofs.YtfcgfnmokbbcaaaDoor.At Go.Proofs.YtfcgfnmokbbcaaaDoor.Pr Go.Proofs.YtfcgfnmokbbcaaaDoor.Wr

def en3S (B _mb : Nat) (_kd tc ts _ic _is : Int) (_pV _lV : Value) (cb : UInt8) : Nat → (Nat → Value) → World → Prop
  | 0, _, _ => True
  | 1, v, w => RowB w (v 6) (numB tc ++ numB ts)
  | 2, v, w => OwnB w B (v 7) ([cb] ++ (numB tc ++ numB ts))
  | _ + 3, v, w => OwnB w B (v 8) ([cb] ++ (numB tc ++ numB ts))
structure en3C (B mb : Nat) (kd tc ts ic is : Int) (pV lV : Value) (cb : UInt8) (W : World) (k : Nat) (b : Bool) (v : Nat → Value) (w : World) : Prop where
  bel : Below B W w
  bx0 : Box w mb #[.int .i64 kd, .int .i64 tc, .int .i64 ts, .int .i64 ic, .int .i64 is, pV, lV] 32
  lit : b = true → k ≤ 1 → LitB B (v 3) cb w
  st : en3S B mb kd tc ts ic is pV lV cb k v w
noncomputable def en3R : Code := ((Tryd.f8.body.bind (findRegion 3)).getD .skip)
set_option maxRecDepth 100000 in
set_option maxHeartbeats 8000000 in
theorem en3 (B mb : Nat) (kd tc ts ic is : Int) (pV lV : Value) (cb : UInt8) (Q : Exit → Act → World → Prop) (W : World) (u0 u2 u3 u4 u5 u6 u7 u8 u9 u10 u11 u12 u13 u14 u15 u16 u17 u18 u19 u20 u21 u22 u23 u24 u25 u26 u27 u28 u29 u30 u31 u32 u33 u34 u35 u36 u37 u38 u39 u40 u41 u42 u43 u44 u45 u46 u47 u48 u49 u50 u51 u52 u53 : Value)
    (hB : B ≤ W.heap.size) (hx0 : Box W mb #[.int .i64 kd, .int .i64 tc, .int .i64 ts, .int .i64 ic, .int .i64 is, pV, lV] 32)  (hw : IntKind.u8.wrap kd = (cb.toNat : Int))
    (hQ : ∀ (w' : World) (v n10 n11 n12 n13 n14 n15 n16 n17 : Value), OwnB w' B v ([cb] ++ (numB tc ++ numB ts)) → Below B W w' → Box w' mb #[.int .i64 kd, .int .i64 tc, .int .i64 ts, .int .i64 ic, .int .i64 is, pV, lV] 32 → Q .normal ⟨(u0 :: .pointer (some ⟨mb, 0, none⟩) :: u2 :: u3 :: v :: u5 :: u6 :: u7 :: u8 :: u9 :: n10 :: n11 :: n12 :: n13 :: n14 :: n15 :: n16 :: n17 :: u18 :: u19 :: u20 :: u21 :: u22 :: u23 :: u24 :: u25 :: u26 :: u27 :: u28 :: u29 :: u30 :: u31 :: u32 :: u33 :: u34 :: u35 :: u36 :: u37 :: u38 :: u39 :: u40 :: u41 :: u42 :: u43 :: u44 :: u45 :: u46 :: u47 :: u48 :: u49 :: u50 :: u51 :: u52 :: u53 :: []).toArray, []⟩ w') :
    Code.wp Tryd.prog en3R Q ⟨(u0 :: .pointer (some ⟨mb, 0, none⟩) :: u2 :: u3 :: u4 :: u5 :: u6 :: u7 :: u8 :: u9 :: u10 :: u11 :: u12 :: u13 :: u14 :: u15 :: u16 :: u17 :: u18 :: u19 :: u20 :: u21 :: u22 :: u23 :: u24 :: u25 :: u26 :: u27 :: u28 :: u29 :: u30 :: u31 :: u32 :: u33 :: u34 :: u35 :: u36 :: u37 :: u38 :: u39 :: u40 :: u41 :: u42 :: u43 :: u44 :: u45 :: u46 :: u47 :: u48 :: u49 :: u50 :: u51 :: u52 :: u53 :: []).toArray, []⟩ W := by
  have HQ := Lib.hid hQ
  have HX0 := Lib.hid hx0
  clear hQ hx0
  obtain ⟨dst, hdd⟩ : ∃ d : Nat → Nat, d = fun i => [10, 11, 12, 13, 14, 15, 16, 17, 4].getD i 4 := ⟨_, rfl⟩
  obtain ⟨mk, hmk⟩ : ∃ d : Nat → Nat, d = fun j => [6, 7, 8].getD j 999 := ⟨_, rfl⟩
  obtain ⟨pv, hpv⟩ : ∃ e : Nat → Option Value, e = fun i => ([some (.pointer (some ⟨mb, 0, none⟩)), some (.int .i64 kd), some (.int .u8 cb.toNat), none, some (.pointer (some ⟨mb, 1, none⟩)), some (.agg #[.int .i64 tc, .int .i64 ts]), none, none, none] : List (Option Value)).getD i none := ⟨_, rfl⟩
  obtain ⟨base, hbase⟩ : ∃ b : Act, b = ⟨(u0 :: .pointer (some ⟨mb, 0, none⟩) :: u2 :: u3 :: u4 :: u5 :: u6 :: u7 :: u8 :: u9 :: u10 :: u11 :: u12 :: u13 :: u14 :: u15 :: u16 :: u17 :: u18 :: u19 :: u20 :: u21 :: u22 :: u23 :: u24 :: u25 :: u26 :: u27 :: u28 :: u29 :: u30 :: u31 :: u32 :: u33 :: u34 :: u35 :: u36 :: u37 :: u38 :: u39 :: u40 :: u41 :: u42 :: u43 :: u44 :: u45 :: u46 :: u47 :: u48 :: u49 :: u50 :: u51 :: u52 :: u53 :: []).toArray, []⟩ := ⟨_, rfl⟩
  rw [← hbase]
  unfold en3R
  conv => arg 2; whnf
  have nd : ∀ j, (j ≠ 10 ∧ j ≠ 11 ∧ j ≠ 12 ∧ j ≠ 13 ∧ j ≠ 14 ∧ j ≠ 15 ∧ j ≠ 16 ∧ j ≠ 17 ∧ j ≠ 4) → ∀ i, i < 9 → dst i ≠ j := by
    rw [hdd]
    intro j hj i hi
    rcases (by omega : i = 0 ∨ i = 1 ∨ i = 2 ∨ i = 3 ∨ i = 4 ∨ i = 5 ∨ i = 6 ∨ i = 7 ∨ i = 8) with rfl | rfl | rfl | rfl | rfl | rfl | rfl | rfl | rfl <;> simp <;> omega
  refine Rg.region_chain 9 dst pv mk 3 3 1 (en3C B mb kd tc ts ic is pV lV cb W) (by kernel_rfl) (by kernel_rfl) rfl ?_ ?_ ?_ ?_ (by decide) ?_ ?_ (by subst hpv; rfl) ?_ ?_ ?_ ?_ ?_ ?_ ?_ ?_
  · subst hdd
    intro i j hi hj h
    rcases (by omega : i = 0 ∨ i = 1 ∨ i = 2 ∨ i = 3 ∨ i = 4 ∨ i = 5 ∨ i = 6 ∨ i = 7 ∨ i = 8) with rfl | rfl | rfl | rfl | rfl | rfl | rfl | rfl | rfl <;> rcases (by omega : j = 0 ∨ j = 1 ∨ j = 2 ∨ j = 3 ∨ j = 4 ∨ j = 5 ∨ j = 6 ∨ j = 7 ∨ j = 8) with rfl | rfl | rfl | rfl | rfl | rfl | rfl | rfl | rfl <;> first | rfl | (exfalso; revert h; decide)
  · subst hdd hbase
    intro i hi
    rcases (by omega : i = 0 ∨ i = 1 ∨ i = 2 ∨ i = 3 ∨ i = 4 ∨ i = 5 ∨ i = 6 ∨ i = 7 ∨ i = 8) with rfl | rfl | rfl | rfl | rfl | rfl | rfl | rfl | rfl <;> (show _ < 54; decide)
  · subst hmk
    intro i j hi hj h
    rcases (by omega : i = 0 ∨ i = 1 ∨ i = 2) with rfl | rfl | rfl <;> rcases (by omega : j = 0 ∨ j = 1 ∨ j = 2) with rfl | rfl | rfl <;> first | rfl | (exfalso; revert h; decide)
  · subst hmk
    intro j hj
    rcases (by omega : j = 0 ∨ j = 1 ∨ j = 2) with rfl | rfl | rfl <;> decide
  · subst hmk
    intro j hj
    rcases (by omega : j = 0 ∨ j = 1 ∨ j = 2) with rfl | rfl | rfl <;> decide
  · subst hmk hpv
    intro j hj
    rcases (by omega : j = 0 ∨ j = 1 ∨ j = 2) with rfl | rfl | rfl <;> rfl
  · subst hmk
    intro j o hj ho
    rcases (by omega : j = 0 ∨ j = 1) with rfl | rfl
    · obtain rfl := Option.some.inj ho
      exact ⟨⟨6, .data⟩, by simp, rfl, rfl⟩
    · obtain rfl := Option.some.inj ho
      exact ⟨⟨7, .data⟩, by simp, rfl, rfl⟩
  · subst hmk
    intro o _ ho
    obtain rfl := Option.some.inj ho
    exact ⟨⟨3, .data⟩, by simp, rfl, rfl⟩
  · intro v
    exact ⟨(Below.refl _ _).drew, HX0.out, (fun h => by cases h), trivial⟩
  · subst hmk
    intro k b v v' z h1 h2 hc
    refine ⟨hc.bel, hc.bx0, fun e hk => by rw [h2 e]; exact hc.lit e hk, ?_⟩
    have hm := hc.st
    rcases k with _ | _ | _ | k
    · trivial
    · have e6 : v' 6 = v 6 := h1 0 (by omega)
      simp only [en3S, e6] at hm ⊢
      exact hm
    · have e7 : v' 7 = v 7 := h1 1 (by omega)
      simp only [en3S, e7] at hm ⊢
      exact hm
    · have e8 : v' 8 = v 8 := h1 2 (by omega)
      simp only [en3S, e8] at hm ⊢
      exact hm
  · subst hdd hmk hpv hbase
    intro i o hi ho hnm hnq
    rcases (by omega : i = 0 ∨ i = 1 ∨ i = 2 ∨ i = 3 ∨ i = 4 ∨ i = 5 ∨ i = 6 ∨ i = 7 ∨ i = 8) with rfl | rfl | rfl | rfl | rfl | rfl | rfl | rfl | rfl
    · obtain rfl := Option.some.inj ho
      refine ⟨_, rfl, fun k b val z a hc seen K hK => ?_⟩
      have e1 : a.eval (.tmp 1) = .pointer (some ⟨mb, 0, none⟩) := seen.kp 1 _ (nd 1 (by decide)) rfl
      exact Rg.op_value_w rfl (Rg.wanted_none rfl) (Rg.ex_field a.eval _ 32 (.tmp 1) 0 rfl (by rw [e1]; simp [go_sem])) hK
    · obtain rfl := Option.some.inj ho
      refine ⟨_, rfl, fun k b val z a hc seen K hK => ?_⟩
      have e10 : a.eval (.tmp 10) = .pointer (some ⟨mb, 0, none⟩) := seen.pl ⟨0, .data⟩ (by simp) rfl _ rfl
      have y0_0 := hc.bx0.cell 0
      have y0_1 := hc.bx0.cell 1
      have y0_2 := hc.bx0.cell 2
      have y0_3 := hc.bx0.cell 3
      have y0_4 := hc.bx0.cell 4
      have y0_5 := hc.bx0.cell 5
      have y0_6 := hc.bx0.cell 6
      simp only [List.getElem?_toArray, List.getElem?_cons_zero, List.getElem?_cons_succ] at y0_0 y0_1 y0_2 y0_3 y0_4 y0_5 y0_6
      exact Rg.op_value_w rfl (Rg.wanted_none rfl) (Rg.ex_load a.eval _ 3 (.tmp 10) rfl (by rw [e10]; simp [go_sem, y0_0])) hK
    · obtain rfl := Option.some.inj ho
      refine ⟨_, rfl, fun k b val z a hc seen K hK => ?_⟩
      have e11 : a.eval (.tmp 11) = .int .i64 kd := seen.pl ⟨1, .data⟩ (by simp) rfl _ rfl
      exact Rg.op_value_w rfl (Rg.wanted_none rfl) (Rg.ex_conv a.eval _ 3 5 (.tmp 11) rfl (by rw [e11]; simp [go_sem, hw])) hK
    · exact absurd rfl hnq
    · obtain rfl := Option.some.inj ho
      refine ⟨_, rfl, fun k b val z a hc seen K hK => ?_⟩
      have e1 : a.eval (.tmp 1) = .pointer (some ⟨mb, 0, none⟩) := seen.kp 1 _ (nd 1 (by decide)) rfl
      exact Rg.op_value_w rfl (Rg.wanted_none rfl) (Rg.ex_field a.eval _ 32 (.tmp 1) 1 rfl (by rw [e1]; simp [go_sem])) hK
    · obtain rfl := Option.some.inj ho
      refine ⟨_, rfl, fun k b val z a hc seen K hK => ?_⟩
      have e14 : a.eval (.tmp 14) = .pointer (some ⟨mb, 1, none⟩) := seen.pl ⟨4, .data⟩ (by simp) rfl _ rfl
      have y0_0 := hc.bx0.cell 0
      have y0_1 := hc.bx0.cell 1
      have y0_2 := hc.bx0.cell 2
      have y0_3 := hc.bx0.cell 3
      have y0_4 := hc.bx0.cell 4
      have y0_5 := hc.bx0.cell 5
      have y0_6 := hc.bx0.cell 6
      simp only [List.getElem?_toArray, List.getElem?_cons_zero, List.getElem?_cons_succ] at y0_0 y0_1 y0_2 y0_3 y0_4 y0_5 y0_6
      exact Rg.op_value_w rfl (Rg.wanted_none rfl) (Rg.ex_load a.eval _ 28 (.tmp 14) rfl (by rw [e14]; simp [go_sem, y0_1, y0_2])) hK
    · exact absurd rfl (hnm 0 (by decide))
    · exact absurd rfl (hnm 1 (by decide))
    · exact absurd rfl (hnm 2 (by decide))
  · subst hdd hmk hpv hbase
    intro j o b val z a hj ho hc hcb seen K hK
    have hm := hc.st
    rcases (by omega : j = 0 ∨ j = 1 ∨ j = 2) with rfl | rfl | rfl
    · obtain rfl := Option.some.inj ho
      have e15 : a.eval (.tmp 15) = .agg #[.int .i64 tc, .int .i64 ts] := seen.pl ⟨5, .data⟩ (by simp) rfl _ rfl
      have C1 := id_any tc ts z
      refine Rg.op_call_w rfl (Rg.wanted_none rfl) (ex_call1 _ _ (.tmp 15) 28 26 rfl e15 rfl _ (call_fn Tryd.func26 rfl rfl _ _)) C1 ?_
      rintro e z1 ⟨⟨v1, rfl, ho1⟩, hz⟩
      have ho2 := Rw.own_less (B' := B) (Nat.le_trans hB hc.bel.size) ho1
      refine ⟨v1, rfl, hK _ _ ⟨hc.bel.trans (hz.mono (Nat.le_trans hB hc.bel.size)), hc.bx0.on hz, (fun e _ => (show LitB B (Rg.upd val 6 _ 3) cb _ from by rw [Rg.upd_other _ _ (by decide)]; exact (hc.lit e (by omega)).on hz)), (show RowB _ (Rg.upd val 6 _ 6) (numB tc ++ numB ts) from by rw [Rg.upd_same]; exact Row.of_own ho2)⟩⟩
    · obtain rfl := Option.some.inj ho
      have e13 : a.eval (.tmp 13) = val 3 := seen.at_ ⟨3, .data⟩ (by simp) rfl
      have e16 : a.eval (.tmp 16) = val 6 := seen.at_ ⟨6, .data⟩ (by simp) rfl
      obtain ⟨v1, z1, r, ho1, hg, hb1⟩ := app_nextB (l := [cb]) (m := numB tc ++ numB ts) hB hc.bel (hc.lit (hcb (by omega)) (by omega)).own hm (by rw [List.length_append, numB_len, numB_len]; simp)
      have ho0 := (hc.lit (hcb (by omega)) (by omega)).own
      refine Rg.op_value_w rfl (Rg.wanted_none rfl) (Rg.ex_append a.eval _ (.tmp 13) (.tmp 16) 22 rfl e13 e16 r) (hK _ _ ⟨hb1, box_grown hc.bx0 hg (own_neB ho0 hc.bx0 (by decide)), (fun _ he => absurd he (by omega)), (show OwnB _ B (Rg.upd val 7 _ 7) ([cb] ++ (numB tc ++ numB ts)) from by rw [Rg.upd_same]; exact ho1)⟩)
    · obtain rfl := Option.some.inj ho
      have e17 : a.eval (.tmp 17) = val 7 := seen.at_ ⟨7, .data⟩ (by simp) rfl
      refine Rg.op_value_w rfl (Rg.wanted_none rfl) (Rg.ex_assign a.eval _ (.tmp 17) rfl _) (hK _ _ ⟨hc.bel, hc.bx0, (fun _ he => absurd he (by omega)), ?_⟩)
      show OwnB _ B (Rg.upd val 8 _ 8) ([cb] ++ (numB tc ++ numB ts))
      rw [Rg.upd_same, e17]
      exact hm
  · subst hdd hmk hpv hbase
    intro o k val z a hk ho hc seen K hK
    obtain rfl := Option.some.inj ho
    have hm := hc.st
    have e12 : a.eval (.tmp 12) = .int .u8 cb.toNat := seen.pl ⟨2, .data⟩ (by simp) rfl _ rfl
    have hz := new_below z (.cells #[.int .u8 cb.toNat] 5)
    refine Rg.op_value_w rfl (Rg.wanted_none rfl) (Rg.ex_build a.eval _ 22 1 #[(0, .tmp 12)] rfl (by simp only [List.map_toArray, List.map_cons, List.map_nil, e12]) (lit_byteB z cb)) (hK _ _ ⟨hc.bel.alloc (Nat.le_trans hB hc.bel.size) _, hc.bx0.on hz, (fun _ _ => (show LitB B (Rg.upd val 3 _ 3) cb _ from by rw [Rg.upd_same]; exact LitB.made B z cb (Nat.le_trans hB hc.bel.size))), ?_⟩)
    rcases (by omega : k = 0 ∨ k = 1) with rfl | rfl
    · trivial
    · simp only [en3S, Rg.upd, show (6 : Nat) ≠ 3 by decide, if_false] at hm ⊢
      exact hm.on hz
  · subst hdd hbase
    intro a b val z hc hd hsz hk hv
    have hm := hc.st
    have hk2 : ∀ j, (j < 10 ∨ 10 + 8 ≤ j) → a.tmps[j]? = (u0 :: .pointer (some ⟨mb, 0, none⟩) :: u2 :: u3 :: val 8 :: u5 :: u6 :: u7 :: u8 :: u9 :: u10 :: u11 :: u12 :: u13 :: u14 :: u15 :: u16 :: u17 :: u18 :: u19 :: u20 :: u21 :: u22 :: u23 :: u24 :: u25 :: u26 :: u27 :: u28 :: u29 :: u30 :: u31 :: u32 :: u33 :: u34 :: u35 :: u36 :: u37 :: u38 :: u39 :: u40 :: u41 :: u42 :: u43 :: u44 :: u45 :: u46 :: u47 :: u48 :: u49 :: u50 :: u51 :: u52 :: u53 :: [] : List Value)[j]? := fun j hj => by
      by_cases e : j = 4
      · subst e
        exact hv 8 (by decide)
      · have h1 := (hk j (nd j (by omega))).trans List.getElem?_toArray
        rw [h1]
        rw [show (u0 :: .pointer (some ⟨mb, 0, none⟩) :: u2 :: u3 :: val 8 :: u5 :: u6 :: u7 :: u8 :: u9 :: u10 :: u11 :: u12 :: u13 :: u14 :: u15 :: u16 :: u17 :: u18 :: u19 :: u20 :: u21 :: u22 :: u23 :: u24 :: u25 :: u26 :: u27 :: u28 :: u29 :: u30 :: u31 :: u32 :: u33 :: u34 :: u35 :: u36 :: u37 :: u38 :: u39 :: u40 :: u41 :: u42 :: u43 :: u44 :: u45 :: u46 :: u47 :: u48 :: u49 :: u50 :: u51 :: u52 :: u53 :: [] : List Value) = (u0 :: .pointer (some ⟨mb, 0, none⟩) :: u2 :: u3 :: u4 :: u5 :: u6 :: u7 :: u8 :: u9 :: u10 :: u11 :: u12 :: u13 :: u14 :: u15 :: u16 :: u17 :: u18 :: u19 :: u20 :: u21 :: u22 :: u23 :: u24 :: u25 :: u26 :: u27 :: u28 :: u29 :: u30 :: u31 :: u32 :: u33 :: u34 :: u35 :: u36 :: u37 :: u38 :: u39 :: u40 :: u41 :: u42 :: u43 :: u44 :: u45 :: u46 :: u47 :: u48 :: u49 :: u50 :: u51 :: u52 :: u53 :: []).set 4 (val 8) from rfl, List.getElem?_set_ne (fun e2 => e e2.symm)]
    obtain ⟨mid, hmid, rfl⟩ := Rg.frame_mid (bl := (u0 :: .pointer (some ⟨mb, 0, none⟩) :: u2 :: u3 :: val 8 :: u5 :: u6 :: u7 :: u8 :: u9 :: u10 :: u11 :: u12 :: u13 :: u14 :: u15 :: u16 :: u17 :: u18 :: u19 :: u20 :: u21 :: u22 :: u23 :: u24 :: u25 :: u26 :: u27 :: u28 :: u29 :: u30 :: u31 :: u32 :: u33 :: u34 :: u35 :: u36 :: u37 :: u38 :: u39 :: u40 :: u41 :: u42 :: u43 :: u44 :: u45 :: u46 :: u47 :: u48 :: u49 :: u50 :: u51 :: u52 :: u53 :: [])) 10 8 hd hsz (by show 10 + 8 ≤ 54; decide) hk2
    match mid, hmid with
    | n10 :: n11 :: n12 :: n13 :: n14 :: n15 :: n16 :: n17 :: [], _ => exact HQ.out z (val 8) n10 n11 n12 n13 n14 n15 n16 n17 hm hc.bel hc.bx0
end Go.Proofs.YtfcgfnmokbbcaaaDoor.Ws
