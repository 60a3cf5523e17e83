/-
  The law NumMany: many numbers at once are each by itself; what is read goes on where the last one ended; texts of up to 255 bytes. Condition: numbers of 64 bits; lists no longer than a machine holds.
-/
import Derived.Test.YtobdddggdfcdlaaNmOrder
import Derived.Test.YtobdddggdfcdlaaWi
namespace Go.Proofs.Ytobdddggdfcdlaa.Nm
open Go.RowKit Go.Sort Go.Proofs.Ytobdddggdfcdlaa Go.Proofs.Ytobdddggdfcdlaa.Rw

theorem numsB_cons (x : Int) (r : List Int) : numsB (x :: r) = numB x ++ numsB r := by unfold numsB; rw [List.flatMap_cons]
theorem numS_next {own : List Int} {j : Nat} {x : Int} (hx : own[j]? = some x) (hb : ∀ z ∈ own, I64 z) : numS (numsB (own.drop j), false) = (x, (numsB (own.drop (j + 1)), false)) := by
  obtain ⟨h1, h2⟩ := List.getElem?_eq_some_iff.1 hx
  rw [List.drop_eq_getElem_cons h1, h2, numsB_cons]
  have h := hb x (List.mem_of_getElem? hx)
  exact numS_num h.1 h.2 _
/-- A text of so many noughts. -/
def zeros (n : Nat) : ByteArray := ⟨(List.replicate n (0 : UInt8)).toArray⟩
theorem zeros_size (n : Nat) : (zeros n).size = n := by
  unfold zeros
  show (List.replicate n (0 : UInt8)).toArray.size = n
  simp
theorem row_lo4 {W : World} {v : Value} {l : List Int} (h : RowI W v l) (k : Nat) (hk : k ≤ l.length) : ∃ lo, (∀ w, (Instr.sliceAt 39 v none (some (.int .i64 k)) none).run Try.prog w = .ok lo w) ∧ RowI W lo (l.take k) := row_lo okI h k hk
set_option maxRecDepth 100000 in
set_option maxHeartbeats 8000000 in
theorem many_any (nv : Value) (ns : List Int) (n : Int) (w : World) (hr : RowI w nv ns) (hb : ∀ z ∈ ns, I64 z) (hn : I64 n) : Calls Try.prog 6 #[nv, .int .i64 n] w fun e w' => e = .returned (.bool true) ∧ Below w.heap.size w w' := by
  have IN := Lib.hid hn
  have hmost : ns.length ≤ 9223372036854775807 := by have h := hr.most; unfold maxLen at h; omega
  obtain ⟨own, hown⟩ : ∃ own, own = ns.take 12 := ⟨_, rfl⟩
  have OB := Lib.hid (show ∀ z ∈ own, I64 z from fun z hz => hb z (by rw [hown] at hz; exact List.mem_of_mem_take hz))
  obtain ⟨k, hk⟩ : ∃ k, k = own.length := ⟨_, rfl⟩
  have hk12 : k ≤ 12 := by rw [hk, hown]; simp; omega
  have hkm : min (ns.length : Int) 12 = (k : Int) := by rw [hk, hown]; simp; omega
  have N0 := Lib.hid (new_below w (.cells #[] 3))
  obtain ⟨lo, slo, rlo⟩ := row_lo4 hr k (by rw [hk, hown]; simp; omega)
  have elo : ns.take k = own := by rw [hk, hown]; simp
  rw [elo] at rlo
  have ho0 : OwnI (w.alloc (.cells #[] 3)) w.heap.size (.slice (some ⟨w.heap.size, 0, none⟩) 0 0) [] := own_made w
  obtain ⟨v1, w1, r1, o1, g1⟩ := appI w.heap.size ho0 (rlo.on N0.out) (by simp) (by omega) (by simp)
  have B1 := Lib.hid (N0.out.trans (below_own ho0 (by simp) g1))
  have O1 := Lib.hid (show OwnI w1 w.heap.size v1 own by simpa using o1)
  have hv1 := (Row.of_own O1.out).len
  obtain ⟨oo, oc, rfl⟩ := hv1
  rw [← hk] at O1 r1
  have OL := Lib.hid hk
  obtain ⟨ao, ac, rfl⟩ := hr.len
  clear hr hb hn hown hk rlo elo ho0 o1 g1 N0
  generalize ns.length = q at *
  have hkm2 : (if (12 : Int) < (q : Int) then (12 : Int) else (q : Int)) = (k : Int) := by split <;> omega
  go_enter Try.func6, Try.ntmps6
  go_wp2_with (first | (at_builtin; refine wpList_append_run rfl _ _ 39 rfl rfl rfl r1 ?_) | fail)
  have R1 := Lib.hid (Row.of_own O1.out)
  clear r1 slo hkm hkm2 O1 hmost
  go_loopw [6, 26] (fun v i wr => ∃ j : Nat, j ≤ k ∧ i = .int .i64 j ∧ Below w1.heap.size w1 wr ∧ OwnB wr w1.heap.size v (numsB (own.take j))) (fun _ i _ => k - (intOf i).toNat)
  case atStart => exact ⟨0, Nat.zero_le _, rfl, Below.refl _ _, own_nil w1 w1.heap.size⟩
  case round =>
    obtain ⟨j, hj, rfl, hb, how⟩ := hrel
    have HB := Lib.hid hb
    have HO := Lib.hid how
    clear hb how
    by_cases hlt : j < k
    · obtain ⟨x, hx⟩ : ∃ x, own[j]? = some x := ⟨_, List.getElem?_eq_getElem (by rw [← OL.out]; exact hlt)⟩
      obtain ⟨p, ix, _, px⟩ := elI R1.out rfl OL.out.symm hx
      have p0 := px _ HB.out
      have TK := Lib.hid (show numsB (own.take (j + 1)) = numsB (own.take j) ++ numB x by rw [List.take_add_one, hx]; exact numsB_snoc _ _)
      have HL := Lib.hid (show (numsB (own.take j)).length ≤ 8 * j by rw [numsB_len]; simp; omega)
      have NB := Lib.hid (new_below wr (.cells #[.int .i64 x] 3))
      have C := Lib.hid (number_any _ [x] _ (Row.of_own (litI wr [x] 1 #[.int .i64 x] rfl (by simp) rfl)) (by simp))
      clear px hx
      generalize numsB (own.take j) = s at *
      go_wp2_with fail
      refine C.out.mono ?_
      rw [numsB_one]
      rintro e w3 ⟨⟨v3, rfl, ho⟩, hb⟩
      have Z3 := NB.out.trans (hb.mono NB.out.size)
      have B3 := Lib.hid (HB.out.trans (Z3.mono HB.out.size))
      have O3 := own_on HO.out Z3
      obtain ⟨v', w', r, o', gr⟩ := appB w1.heap.size O3 (Row.of_own ho) (by have := HL.out; rw [numB_len]; omega) B3.out.size 24
      have B4 := Lib.hid (B3.out.trans (below_own O3 B3.out.size gr))
      have O4 := Lib.hid o'
      clear ho hb Z3 NB C O3 o' gr p0 ix
      go_wp2_with (first | (at_builtin; refine wpList_append_run rfl _ _ 24 rfl rfl rfl r ?_) | fail)
      go_roundw
      case rel => exact ⟨j + 1, by omega, by go_num, B4.out, by rw [TK.out]; exact O4.out⟩
      case measure => simp [intOf]; omega
    · obtain rfl : k = j := by omega
      rw [List.take_of_length_le (by rw [OL.out]; exact Nat.le_refl _)] at HO
      have B2 := Lib.hid (B1.out.trans (HB.out.mono B1.out.size))
      have R2 := Lib.hid (R1.out.on HB.out)
      have RB2 := Lib.hid (Row.of_own HO.out)
      have RM := Lib.hid (roomyI _ own 7 wr R2.out (by rw [← OL.out]; omega))
      rw [← OL.out] at RM
      clear R1 B1 HB HO
      go_wp2_with fail
      refine RM.out.mono ?_
      rintro e3 w3 ⟨g, rfl, ho, hb⟩
      have B3 := Lib.hid (B2.out.trans (hb.mono B2.out.size))
      have R3 := Lib.hid (R2.out.on hb)
      have RB3 := Lib.hid (RB2.out.on hb)
      have RF3 := Lib.hid (Row.of_own ho)
      have RC3 := Lib.hid (show RowI w3 (.slice (some ⟨g, 0, none⟩) k (k + 80)) own by
        have h := row_take okI RF3.out (k := k) (by rw [List.length_append, OL.out]; exact Nat.le_add_right _ _)
        have e : (own ++ List.replicate 80 (7 : Int)).take k = own := by rw [OL.out, List.take_left]
        rwa [e] at h)
      have C3 := Lib.hid (number_any _ own w3 RC3.out (by rw [← OL.out]; omega))
      clear ho hb RM B2 R2 RB2 RC3
      go_wp2_with fail
      refine C3.out.mono ?_
      rintro e4 w4 ⟨⟨va, rfl, ho⟩, hb⟩
      have B4 := Lib.hid (B3.out.trans (hb.mono B3.out.size))
      have R4 := Lib.hid (R3.out.on hb)
      have RB4 := Lib.hid (RB3.out.on hb)
      have RF4 := Lib.hid (RF3.out.on hb)
      have RA4 := Lib.hid (Row.of_own ho)
      have LN := Lib.hid (show (numsB own).length ≤ 96 by rw [numsB_len, ← OL.out]; omega)
      have D4 := Lib.hid (read_any va _ w4 RA4.out (Nat.le_trans LN.out (by decide)))
      clear ho hb C3 B3 R3 RB3 RF3
      go_wp2_with fail
      refine D4.out.mono ?_
      rintro e5 w5 ⟨⟨rb, rfl, hrb, hd⟩, hb⟩
      have B5 := Lib.hid (B4.out.trans (hb.mono B4.out.size))
      have R5 := Lib.hid (R4.out.on hb)
      have RB5 := RB4.out.on hb
      have RF5 := Lib.hid (RF4.out.on hb)
      have RA5 := RA4.out.on hb
      have LB := Lib.hid (Nat.le_trans B4.out.size hrb)
      have D5 := Lib.hid hd
      have A5 := Lib.hid hb
      have HRB := Lib.hid hrb
      have S5 := Lib.hid (show Calls Try.prog 10 #[va, u6] w5 fun e w' => e = .returned (.bool true) ∧ Below w5.heap.size w5 w' by
        have h := sameB va u6 _ _ w5 RA5 RB5
        rwa [decide_eq_true rfl] at h)
      clear hb hd hrb D4 B4 RB4 RF4 RA4 RB5 RA5
      go_wp2_with fail
      refine S5.out.mono ?_
      rintro e6 w6 ⟨rfl, hb⟩
      have B6 := Lib.hid (B5.out.trans (hb.mono B5.out.size))
      have R6 := Lib.hid (R5.out.on hb)
      have A6 := Lib.hid (A5.out.trans (hb.mono A5.out.size))
      have D6 := Lib.hid (D5.out.on hb)
      have I6 := Lib.hid (intactI ⟨g, 0, none⟩ (k + 80) _ own 7 w6 (by rw [← OL.out]; exact RF5.out.on hb) R6.out (by rw [← OL.out]; omega))
      rw [← OL.out] at I6
      clear hb S5 B5 R5 RF5 D5
      go_wp2_with fail
      refine I6.out.mono ?_
      rintro e7 w7 ⟨rfl, hb⟩
      have B7 := Lib.hid (B6.out.trans (hb.mono B6.out.size))
      have A7 := Lib.hid (A6.out.trans (hb.mono A6.out.size))
      have D7 := Lib.hid (D6.out.on hb)
      clear hb I6 B6 R6 D6 A5 A6
      go_wp2_with fail
      go_loopw [61] (fun i wr => ∃ j : Nat, j ≤ k ∧ i = .int .i64 j ∧ w7.grownBy wr (some rb) ∧ Rd wr rb (numsB (own.drop j), false)) (fun i _ => k - (intOf i).toNat)
      case atStart => exact ⟨0, Nat.zero_le _, rfl, Rw.grown_refl _ _, D7.out⟩
      case round =>
        obtain ⟨j, hj, rfl, hg, hd⟩ := hrel
        have G := Lib.hid hg
        have D := Lib.hid hd
        have BR := Lib.hid (B7.out.trans (D7.out.below LB.out hg))
        clear hg hd
        by_cases hlt : j < k
        · obtain ⟨x, hx⟩ : ∃ x, own[j]? = some x := ⟨_, List.getElem?_eq_getElem (by rw [← OL.out]; exact hlt)⟩
          have hbr := A7.out.trans (D7.out.below HRB.out G.out)
          obtain ⟨p, ix, _, px⟩ := elI R4.out rfl OL.out.symm hx
          have p0 := px _ hbr
          have NX := Lib.hid (numS_next hx OB.out)
          have T := Lib.hid (num_any rb _ wr D.out)
          clear px hx hbr
          go_wp2_with fail
          refine T.out.mono ?_
          rw [NX.out]
          rintro e8 w8 ⟨rfl, hd, hg⟩
          have G8 := Lib.hid (grown_more G.out hg)
          have D8 := Lib.hid hd
          have Q8 := Lib.hid (good_any rb _ w8 hd)
          clear hd hg p0 ix T
          go_wp2_with fail
          refine Q8.out.mono ?_
          rintro e9 w9 ⟨rfl, rfl⟩
          simp only [Bool.not_false]
          go_wp2_with fail
          go_roundw
          case rel => exact ⟨j + 1, by omega, by go_num, G8.out, D8.out⟩
          case measure => simp [intOf]; omega
        · obtain rfl : k = j := by omega
          have ED := Lib.hid (show numsB (own.drop k) = [] by rw [List.drop_eq_nil_of_le (by rw [OL.out]; exact Nat.le_refl _)]; rfl)
          rw [ED.out] at D
          have WI := Lib.hid (Wi.within_any n 0 255 wr (by decide) (by decide) (by decide) IN.out.1 IN.out.2)
          have WB := Wi.within_bd n 0 255 (by decide)
          obtain ⟨m, hm⟩ : ∃ m : Nat, (m : Int) = Wi.within n 0 255 := ⟨(Wi.within n 0 255).toNat, by omega⟩
          rw [← hm] at WB WI
          have hm255 : m ≤ 255 := by omega
          obtain ⟨w8, mk, o8, g8⟩ := make_full8 wr m (by omega)
          have Z8 := (Below.refl wr.heap.size wr).grown g8 (Nat.le_refl _) (fun j hj => by cases hj)
          have B8 := Lib.hid (BR.out.trans (Z8.mono BR.out.size))
          have D8 := Lib.hid (D.out.on Z8)
          have ZS := Lib.hid (zeros_size m)
          have cv : (convert 24 9 (.slice (some ⟨wr.heap.size, 0, none⟩) m m)).run Try.prog w8 = .ok (.string (zeros m)) w8 := conv_row (Row.of_own o8)
          have T8 := Lib.hid (text_any (zeros m) w8)
          clear A7 R4 D7 B7 D BR G ED Z8 g8 hm
          generalize zeros m = s at *
          go_wp2_with fail
          refine WI.out.mono ?_
          rintro e9 w9 ⟨rfl, rfl⟩
          clear WI o8
          go_wp2_with fail
          have SZ : s.size ≤ 255 := by rw [ZS.out]; exact hm255
          have LT := Lib.hid (show (textB s).length = m + 1 by rw [textB_ok SZ, List.length_cons, size_data, ZS.out])
          have TS := Lib.hid (show textS (textB s, false) = (s, ([], false)) by have h := textS_text SZ []; rwa [List.append_nil] at h)
          have SZ2 := Lib.hid SZ
          clear SZ
          refine T8.out.mono ?_
          rintro e9 w9 ⟨⟨vt, rfl, ho⟩, hb⟩
          have B9 := Lib.hid (B8.out.trans (hb.mono B8.out.size))
          have D9 := Lib.hid (D8.out.on hb)
          have Q9 := Lib.hid (read_any vt _ w9 (Row.of_own ho) (by rw [LT.out]; omega))
          clear hb ho T8 B8 D8 cv mk
          go_wp2_with fail
          refine Q9.out.mono ?_
          rintro e10 w10 ⟨⟨rc, rfl, hrc, hd⟩, hb⟩
          have B10 := Lib.hid (B9.out.trans (hb.mono B9.out.size))
          have E10 := Lib.hid (done_any rb _ w10 (D9.out.on hb))
          have L10 := Lib.hid (Nat.le_trans B9.out.size hrc)
          have T10 := Lib.hid (rtext_any rc _ w10 hd)
          have D10 := Lib.hid hd
          clear hb hd hrc Q9 B9 D9
          go_wp2_with fail
          refine E10.out.mono ?_
          rintro e11 w11 ⟨rfl, rfl⟩
          simp only [doneS]
          go_wp2_with fail
          refine T10.out.mono ?_
          rw [TS.out]
          rintro e11 w11 ⟨rfl, hd, hg⟩
          have B11 := Lib.hid (B10.out.trans (D10.out.below L10.out hg))
          have E11 := Lib.hid (done_any rc _ w11 hd)
          have T11 := Lib.hid (text_any s w11)
          clear hd hg T10 B10 D10 E10
          go_wp2_with fail
          refine E11.out.mono ?_
          rintro e12 w12 ⟨rfl, rfl⟩
          simp only [doneS]
          go_wp2_with fail
          refine T11.out.mono ?_
          rintro e12 w12 ⟨⟨vu, rfl, ho⟩, hb⟩
          have B12 := Lib.hid (B11.out.trans (hb.mono B11.out.size))
          obtain ⟨uo, uc, rfl⟩ := (Row.of_own ho).len
          rw [LT.out]
          have R12 := Lib.hid (read_any (.slice none 0 0) [] w12 (row_nil _) (by decide))
          clear ho hb T11 E11 B11
          go_wp2_with fail
          refine R12.out.mono ?_
          rintro e13 w13 ⟨⟨rd, rfl, hrd, hd⟩, hb⟩
          have B13 := Lib.hid (B12.out.trans (hb.mono B12.out.size))
          have R13 := Lib.hid (read_any (.slice none 0 0) [] w13 (row_nil _) (by decide))
          clear hd hb hrd R12 B12
          go_wp2_with fail
          refine R13.out.mono ?_
          rintro e14 w14 ⟨⟨re, rfl, hre, hd⟩, hb⟩
          have B14 := Lib.hid (B13.out.trans (hb.mono B13.out.size))
          have E14 := Lib.hid (done_any re _ w14 hd)
          have U14 := Lib.hid (runs_any w14)
          clear hd hb hre R13 B13
          go_wp2_with fail
          refine E14.out.mono ?_
          rintro e15 w15 ⟨rfl, rfl⟩
          simp only [doneS]
          go_wp2_with fail
          refine U14.out.mono ?_
          rintro e15 w15 ⟨rfl, hb⟩
          have B15 := Lib.hid (B14.out.trans (hb.mono B14.out.size))
          clear hb
          go_wp2_with fail
          go_ret
          exact ⟨rfl, B15.out⟩
end Go.Proofs.Ytobdddggdfcdlaa.Nm
