/-
  The law ValueSays: it answers true at every number and text. Conditions: numbers of 64 bits; strconv's table of powers of ten is as its text lays it.
-/
import Derived.Test.YtdcddhckhbjkeaaDoorVaOrder
namespace Go.Proofs.YtdcddhckhbjkeaaDoor.Va
open Go.RowKit Go.Sort

/-- One string behind another one, out of lists. -/
theorem cat_run (l m r : List UInt8) (h : l ++ m = r) (h1 : l.length ≤ 1000) (h2 : m.length ≤ 1000) (W : World) :
    (Op.stringOp .add ⟨l.toArray⟩ ⟨m.toArray⟩).run Tryd.prog W = .ok (.string ⟨r.toArray⟩) W := by
  subst h
  exact run_string_add_lists (P := Tryd.prog) W l m (by omega) (by omega)
theorem one_byte (s : ByteArray) (k : Nat) (h : k < s.size) : s.extract k (k + 1) = ⟨[s[k]].toArray⟩ := by
  apply WideShapes.bytes_inj
  have h2 : k < s.data.toList.length := by rw [Array.length_toList]; exact h
  have e : (s.extract k (k + 1)).data.toList = (s.data.toList.drop k).take 1 := by
    simp [ByteArray.data_extract, Array.toList_extract]
  rw [e, List.drop_eq_getElem_cons h2]
  rfl
theorem slice_one (s : ByteArray) (k : Nat) (h : k < s.size) (W : World) :
    (Instr.slice 9 (.string s) (some (.int .i64 k)) (some (.int .i64 (k + 1))) none).run Tryd.prog W = .ok (.string ⟨[s[k]].toArray⟩) W := by
  rw [← one_byte s k h]
  have h1 : (k : Int) + 1 ≤ s.size := by omega
  simp [Instr.slice, run_underlying Tryd.underlying9, Instr.sliceBounds, go_sem, h1]
  intro h2
  omega
theorem ret_t (P : World → Prop) (w' : World) (h : P w') : Ending.returned (Value.bool true) = .returned (.bool true) ∧ P w' := ⟨rfl, h⟩

set_option maxRecDepth 100000 in
set_option maxHeartbeats 4000000 in
theorem says_any (n : Int) (s : ByteArray) (w : World) (hg : VG w) (n0 : -9223372036854775808 ≤ n) (n1 : n ≤ 9223372036854775807) (hs : s.size ≤ maxLen) :
    Calls Tryd.prog 7 #[.int .i64 n, .string s] w fun e w' => e = .returned (.bool true) ∧ Below w.heap.size w w' := by
  have HG := Lib.hid hg
  clear hg
  unfold maxLen at hs
  have hs1 : (s.extract 0 (min (↑s.size) 12 : Int).toNat).size ≤ 12 := by
    rw [ByteArray.size_extract]; omega
  go_enter Tryd.func7, Tryd.ntmps7
  go_wp2_with fail
  generalize s.extract 0 (min (↑s.size) 12 : Int).toNat = s1 at hs1 ⊢
  clear hs
  refine (text_any s1 _).mono ?_
  rintro e1 w1 ⟨rfl, hb⟩
  have B1 := Lib.hid hb
  have C1 := Lib.hid (say_any true 0 s1 w1 (HG.out.bel B1.out) (by omega) (by decide) (by decide))
  clear hb
  go_wp2_with fail
  refine C1.out.mono ?_
  rintro e2 w2 ⟨rfl, hb⟩
  have B2 := Lib.hid (B1.out.trans (hb.mono B1.out.size))
  clear hb B1 C1
  go_wp2
  go_loop [6, 18] (fun a i => ∃ k : Nat, k ≤ s1.size ∧ a = .string ⟨(said s1 k).toArray⟩ ∧ i = .int .i64 k) (fun _ i => s1.size - (intOf i).toNat)
  case atStart => exact ⟨0, Nat.zero_le _, rfl, rfl⟩
  case round =>
    obtain ⟨k, hk, rfl, rfl⟩ := hrel
    have hlen := said_len s1 k
    by_cases hlt : k < s1.size
    · have SN := Lib.hid (said_snoc s1 k hlt)
      have hsl := slice_one s1 k hlt
      by_cases hq : s1[k] = 34 ∨ s1[k] = 92
      · obtain ⟨m, hm⟩ : ∃ m, m = said s1 k ++ [92] := ⟨_, rfl⟩
        have ct1 := cat_run (said s1 k) [92] m hm.symm (by omega) (by simp)
        have ct2 := cat_run m [s1[k]] (said s1 (k + 1)) (by rw [hm, SN.out]; simp [VaP.esc, hq]) (by rw [hm]; simp; omega) (by simp)
        have HM := Lib.hid hm
        clear hm
        rcases hq with hq | hq
        · have h34 : ((s1[k].toNat : Int) == 34) = true := by rw [hq]; rfl
          have HQ := Lib.hid hq
          clear hq hlen
          go_wp2
          go_round
          case rel => exact ⟨k + 1, by omega, rfl, by go_num⟩
          case measure => simp [intOf]; omega
        · have h34 : ((s1[k].toNat : Int) == 34) = false := by rw [hq]; rfl
          have h92 : ((s1[k].toNat : Int) == 92) = true := by rw [hq]; rfl
          have HQ := Lib.hid hq
          clear hq hlen
          go_wp2
          go_round
          case rel => exact ⟨k + 1, by omega, rfl, by go_num⟩
          case measure => simp [intOf]; omega
      · have ct2 := cat_run (said s1 k) [s1[k]] (said s1 (k + 1)) (by rw [SN.out]; simp [VaP.esc, hq]) (by omega) (by simp)
        have h34 : ((s1[k].toNat : Int) == 34) = false := by
          rw [beq_eq_false_iff_ne]; intro h; exact hq (Or.inl (UInt8.toNat_inj.1 (by have h2 : s1[k].toNat = _ := Int.ofNat.inj h; exact h2)))
        have h92 : ((s1[k].toNat : Int) == 92) = false := by
          rw [beq_eq_false_iff_ne]; intro h; exact hq (Or.inr (UInt8.toNat_inj.1 (by have h2 : s1[k].toNat = _ := Int.ofNat.inj h; exact h2)))
        have HQ := Lib.hid hq
        clear hq hlen
        go_wp2
        go_round
        case rel => exact ⟨k + 1, by omega, rfl, by go_num⟩
        case measure => simp [intOf]; omega
    · obtain rfl : k = s1.size := by omega
      have ct3 := cat_run (said s1 s1.size) [34] (VaP.say true 0 s1.data.toList) (said_end s1) (by omega) (by simp)
      have R1 := Lib.hid (show rightV true 0 s1 = true by simp [rightV]; omega)
      obtain ⟨s2, hs2, ct4⟩ : ∃ s2 : ByteArray, s2.size = s1.size + 13 ∧ ∀ W, (Op.stringOp .add s1 ⟨#[49, 50, 51, 52, 53, 54, 55, 56, 57, 48, 49, 50, 51]⟩).run Tryd.prog W = .ok (.string s2) W := by
        refine ⟨⟨(s1.data.toList ++ [49, 50, 51, 52, 53, 54, 55, 56, 57, 48, 49, 50, 51]).toArray⟩, ?_, fun W => ?_⟩
        · show (Array.size _) = _
          simp
        · have h3 : s1.data.toList.length = s1.size := by rw [Array.length_toList]; rfl
          exact cat_run s1.data.toList [49, 50, 51, 52, 53, 54, 55, 56, 57, 48, 49, 50, 51] _ rfl (by omega) (by simp) W
      have R2 := Lib.hid (show rightV true 0 s2 = false by simp [rightV]; omega)
      clear hlen
      have hle : s2.size ≤ 25 := by omega
      have HS2 := Lib.hid hs2
      clear hs2
      by_cases hn : n < -4611686018427387904
      · go_wp2_with fail
        refine (text_any s1 _).mono ?_
        rintro e3 w3 ⟨rfl, hb⟩
        have B3 := Lib.hid (B2.out.trans (hb.mono B2.out.size))
        clear hb
        go_wp2_with fail
        refine (right_any _ _ _ _ (by omega)).mono ?_
        rintro e4 w4 ⟨rfl, hb⟩
        have B4 := Lib.hid (B3.out.trans (hb.mono B3.out.size))
        clear hb
        rw [R1.out]
        go_wp2_with fail
        refine (text_any s2 _).mono ?_
        rintro e5 w5 ⟨rfl, hb⟩
        have B5 := Lib.hid (B4.out.trans (hb.mono B4.out.size))
        clear hb
        go_wp2_with fail
        refine (right_any _ _ _ _ (by omega)).mono ?_
        rintro e6 w6 ⟨rfl, hb⟩
        have B6 := Lib.hid (B5.out.trans (hb.mono B5.out.size))
        clear hb
        rw [R2.out]
        go_wp2_with fail
        refine (right_any true 1 ⟨#[]⟩ _ (by decide)).mono ?_
        rintro e7 w7 ⟨rfl, hb⟩
        have B7 := Lib.hid (B6.out.trans (hb.mono B6.out.size))
        clear hb
        rw [show rightV true 1 ⟨#[]⟩ = false from rfl]
        go_wp2_with fail
        refine (runs_any _ (HG.out.bel B7.out)).mono ?_
        rintro e8 w8 ⟨rfl, hb⟩
        have B8 := Lib.hid (B7.out.trans (hb.mono B7.out.size))
        clear hb
        go_wp2
        go_ret
        exact ret_t _ _ B8.out
      · go_wp2_with fail
        refine (number_any n _).mono ?_
        rintro e3 w3 ⟨rfl, hb⟩
        have B3 := Lib.hid (B2.out.trans (hb.mono B2.out.size))
        clear hb
        have C3 := Lib.hid (say_any false n ⟨#[]⟩ w3 (HG.out.bel B3.out) (by decide) n0 n1)
        go_wp2_with fail
        refine C3.out.mono ?_
        rintro e4 w4 ⟨rfl, hb⟩
        have B4 := Lib.hid (B3.out.trans (hb.mono B3.out.size))
        clear hb
        rw [show VaP.say false n (ByteArray.data ⟨#[]⟩).toList = Lib.itoa n from rfl]
        go_wp2_with fail
        refine (num_any n _ (by omega) (by omega)).mono ?_
        rintro e5 w5 ⟨rfl, hb⟩
        have B5 := Lib.hid (B4.out.trans (hb.mono B4.out.size))
        clear hb
        go_wp2_with fail
        refine (text_any s1 _).mono ?_
        rintro e6 w6 ⟨rfl, hb⟩
        have B6 := Lib.hid (B5.out.trans (hb.mono B5.out.size))
        clear hb
        go_wp2_with fail
        refine (right_any _ _ _ _ (by omega)).mono ?_
        rintro e7 w7 ⟨rfl, hb⟩
        have B7 := Lib.hid (B6.out.trans (hb.mono B6.out.size))
        clear hb
        rw [R1.out]
        go_wp2_with fail
        refine (text_any s2 _).mono ?_
        rintro e8 w8 ⟨rfl, hb⟩
        have B8 := Lib.hid (B7.out.trans (hb.mono B7.out.size))
        clear hb
        go_wp2_with fail
        refine (right_any _ _ _ _ (by omega)).mono ?_
        rintro e9 w9 ⟨rfl, hb⟩
        have B9 := Lib.hid (B8.out.trans (hb.mono B8.out.size))
        clear hb
        rw [R2.out]
        go_wp2_with fail
        refine (right_any true 1 ⟨#[]⟩ _ (by decide)).mono ?_
        rintro e10 w10 ⟨rfl, hb⟩
        have B10 := Lib.hid (B9.out.trans (hb.mono B9.out.size))
        clear hb
        rw [show rightV true 1 ⟨#[]⟩ = false from rfl]
        go_wp2_with fail
        refine (runs_any _ (HG.out.bel B10.out)).mono ?_
        rintro e11 w11 ⟨rfl, hb⟩
        have B11 := Lib.hid (B10.out.trans (hb.mono B10.out.size))
        clear hb
        go_wp2
        go_ret
        exact ret_t _ _ B11.out
end Go.Proofs.YtdcddhckhbjkeaaDoor.Va
