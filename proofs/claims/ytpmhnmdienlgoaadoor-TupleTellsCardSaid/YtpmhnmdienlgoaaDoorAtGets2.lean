/-
  The law TupleGets: it answers true at any publication of numbers, any name and values. Condition: the contracts of package tuple; numbers of 64 bits; lists no longer than a machine holds.
-/
import Derived.Test.YtpmhnmdienlgoaaDoorAtGets
namespace Go.Proofs.YtpmhnmdienlgoaaDoor.At
open Go.RowKit Go.Sort Go.Proofs.YtpmhnmdienlgoaaDoor.Va Go.Proofs.YtpmhnmdienlgoaaDoor.In

theorem bnm (W : World) (i : Nat) (h : i < 7) : (W.alloc (.cells nmCells 9)).cell? ⟨W.heap.size, i, none⟩ = some (.string (nm i)) := by
  rw [World.cell?_alloc_at _ _ _ _ rfl]; exact nm_at i h
theorem nobody_ne (i : Nat) : (⟨#[110, 111, 98, 111, 100, 121]⟩ : ByteArray) ≠ nm i := by
  intro h
  have h2 := congrArg ByteArray.size h
  rw [nm_size] at h2
  exact absurd h2 (by decide)
set_option maxRecDepth 100000 in
set_option maxHeartbeats 8000000 in
theorem gets_any {G : World → Prop} (K : Oks G) (hv vv : Value) (has vals : List Int) (n v1 v2 : Int) (w : World) (hg : G w) (hh : InInts w hv has) (hw : InInts w vv vals) (lh : has.length ≤ maxLen) (lvl : vals.length ≤ maxLen)
    (n0 : -9223372036854775808 ≤ n) (n1 : n ≤ 9223372036854775807) (a0 : -9223372036854775808 ≤ v1) (a1 : v1 ≤ 9223372036854775807) (b0 : -9223372036854775808 ≤ v2) (b1 : v2 ≤ 9223372036854775807) :
    Calls Tryd.prog 7 #[.agg #[hv, vv], .int .i64 n, .int .i64 v1, .int .i64 v2] w (GetsQ w) := by
  have KK := Lib.hid K
  have HG := Lib.hid hg
  have B0 := Lib.hid (show Below w.heap.size w (w.alloc (.cells #[hv, vv] 35)) from (Below.refl _ _).alloc (Nat.le_refl _) _)
  have HH := Lib.hid (hh.on B0.out)
  have HW := Lib.hid (hw.on B0.out)
  have LH := Lib.hid lh
  have LV := Lib.hid lvl
  have KV1 := Lib.hid (fun W => kvalue_any v1 W a0 a1)
  have KV2 := Lib.hid (fun W => kvalue_any v2 W b0 b1)
  have WI := Lib.hid (fun W => Wi.within_any n 0 6 W (by omega) (by omega) (by omega) n0 n1)
  have wb := Wi.within_bd n 0 6 (by omega)
  obtain ⟨i, hi⟩ := Int.eq_ofNat_of_zero_le wb.1
  have hi6 : i < 7 := by omega
  rw [hi] at WI
  clear K hg hh hw lh lvl a0 a1 b0 b1 n0 n1 wb hi
  go_enter Tryd.func7, Tryd.ntmps7
  go_wp2_with fail
  refine (tuple_any hv vv has vals _ HH.out HW.out LH.out LV.out).mono ?_
  rintro e1 w1 ⟨lv, rfl, hown, hb⟩
  have R1 := Lib.hid (RowA.of_owns hown)
  have B1 := Lib.hid (B0.out.trans (hb.mono B0.out.size))
  have RI := Lib.hid (tup_rise has vals 7 (Nat.le_refl _))
  have L5 := Lib.hid (tup_five has vals 7)
  have NS := Lib.hid (tup_names has vals 7)
  clear hown hb HH HW LH LV
  generalize tup has vals 7 = l at R1 RI L5 NS
  go_wp2_with fail
  refine (names_any _).mono ?_
  rintro e2 w2 ⟨rfl, rfl⟩
  have B2 := Lib.hid (B1.out.alloc B1.out.size (.cells nmCells 9))
  have R2 := Lib.hid (R1.out.on ((Below.refl _ _).alloc (Nat.le_refl _) (.cells nmCells 9)))
  have NC := bnm w1 i hi6
  go_wp2_with fail
  refine (WI.out _).mono ?_
  rintro e3 w3 ⟨rfl, rfl⟩
  have hi7 : (i : Int) < 7 := by omega
  go_wp2_with fail
  clear NC hi7
  have NM := Lib.hid (show (nm i).size ≤ maxLen by rw [nm_size]; decide)
  have NI := Lib.hid (nobody_ne i)
  generalize nm i = nm_ at NM NI ⊢
  refine (KV1.out _).mono ?_
  rintro e4 w4 ⟨rfl, hb⟩
  have B4 := Lib.hid (B2.out.trans (hb.mono B2.out.size))
  have R4 := Lib.hid (R2.out.on hb)
  clear hb R1 R2 KV1
  generalize (!(evn v1)) = t1
  generalize kvN v1 = k1
  generalize kvS v1 = s1
  go_wp2_with fail
  refine (KK.out.put _ _ nm_ t1 k1 s1 _ R4.out (by have := L5.out; omega) RI.out NM.out).mono ?_
  rintro e5 w5 ⟨xv, rfl, hx, hb⟩
  have B5 := Lib.hid (B4.out.trans (hb.mono B4.out.size))
  have R5 := Lib.hid (R4.out.on hb)
  have X5 := Lib.hid hx
  clear hb hx R4
  go_wp2_with fail
  refine (KV2.out _).mono ?_
  rintro e6 w6 ⟨rfl, hb⟩
  have B6 := Lib.hid (B5.out.trans (hb.mono B5.out.size))
  have R6 := Lib.hid (R5.out.on hb)
  have X6 := Lib.hid (X5.out.on hb)
  have KV6 := Lib.hid KV2.out
  clear hb R5 X5 KV2
  go_wp2_with fail
  have PL := Lib.hid (put_len l nm_ (t1, k1, s1) RI.out)
  have QL := Lib.hid (put_len l nm_ ((!(evn v2)), kvN v2, kvS v2) RI.out)
  refine (KK.out.put _ _ nm_ (!(evn v2)) (kvN v2) (kvS v2) _ X6.out (by have := L5.out; have := PL.out; split at this <;> omega) (put_rise _ _ _ RI.out) NM.out).mono ?_
  rintro e7 w7 ⟨yv, rfl, hy, hb⟩
  have B7 := Lib.hid (B6.out.trans (hb.mono B6.out.size))
  have R7 := Lib.hid (R6.out.on hb)
  rw [put_put] at hy
  have Y7 := Lib.hid hy
  clear hb hy R6 X6
  go_wp2_with fail
  refine (KV6.out _).mono ?_
  rintro e8 w8 ⟨rfl, hb⟩
  have B8 := Lib.hid (B7.out.trans (hb.mono B7.out.size))
  have R8 := Lib.hid (R7.out.on hb)
  have Y8 := Lib.hid (Y7.out.on hb)
  clear hb R7 Y7 KV6
  generalize (!(evn v2)) = t2 at Y8 QL ⊢
  generalize kvN v2 = k2 at Y8 QL ⊢
  generalize kvS v2 = s2 at Y8 QL ⊢
  go_wp2_with fail
  refine (KK.out.put _ _ nm_ t2 k2 s2 _ R8.out (by have := L5.out; omega) RI.out NM.out).mono ?_
  rintro e9 w9 ⟨zv, rfl, hz, hb⟩
  have B9 := Lib.hid (B8.out.trans (hb.mono B8.out.size))
  have R9 := Lib.hid (R8.out.on hb)
  have Y9 := Lib.hid (Y8.out.on hb)
  have Z9 := Lib.hid hz
  clear hb hz R8 Y8
  go_wp2_with fail
  refine (KK.out.get _ _ nm_ _ R9.out (by have := L5.out; omega) NM.out).mono ?_
  rintro e10 w10 ⟨rfl, hb⟩
  obtain ⟨r, vx, vy, vz, hr, hgv⟩ : ∃ (r : Bool) (x : Bool) (y : Int) (z : ByteArray), (getA l nm_).isSome = r ∧ gotV (getA l nm_) = .tuple #[vl x y z, .bool r] := by
    cases h : getA l nm_ with
    | none => exact ⟨false, _, _, _, rfl, rfl⟩
    | some v => exact ⟨true, _, _, _, rfl, rfl⟩
  have B10 := Lib.hid ((B9.out.trans (hb.mono B9.out.size)).alloc (B9.out.trans (hb.mono B9.out.size)).size (.cells #[.bool vx, .int .i64 vy, .string vz] 23))
  have hb2 : Below w9.heap.size w9 (w10.alloc (.cells #[.bool vx, .int .i64 vy, .string vz] 23)) := hb.trans ((Below.refl _ _).alloc (Nat.le_refl _) (.cells #[.bool vx, .int .i64 vy, .string vz] 23) |>.mono hb.size)
  have R10 := Lib.hid (R9.out.on hb2)
  have Y10 := Lib.hid (Y9.out.on hb2)
  have Z10 := Lib.hid (Z9.out.on hb2)
  have HR := Lib.hid hr
  rw [hgv]
  clear hb hb2 hr hgv R9 Y9 Z9
  obtain ⟨lo, lc, hlv⟩ := R10.out.len
  subst hlv
  go_upto_block 0 with (fail)
  have YL : (putA l nm_ (t2, k2, s2)).length ≤ 6 := by
    have q := QL.out
    have q5 := L5.out
    split at q <;> omega
  refine gets_loop KK.out _ _ _ _ l (putA l nm_ (t2, k2, s2)) nm_ R10.out Y10.out L5.out YL (fun x hx => by obtain ⟨j, _, hj⟩ := NS.out x hx; rw [hj, nm_size]; omega) (fun x hx => ?_) _ _ _ _ _ _ _ _ _ _ _ _ _ _ _ _ _ _ _ _ _ _ _ _ _ _ _ _ _ _ _ _ _ _ _ _ _ _ _ _ _ _ _ _ _ _ _ _ _ _ _ _ _ _ _ _ _ _ _ _ _ _ _ _ _ _ _ _ _ _ _ _ _ _ _ _ _ _ _ _ _ _ _ _ _ _ _ _ _ _ _ _ _ _ _ _ _ _ _ _ _ _ _ _ _ _ _ _ _ _ _ _ _ _ _ _ _ _ ?_
  · by_cases he : x.1 = nm_
    · exact ⟨(t2, k2, s2), by rw [he]; exact get_put_self _ _ _, fun h => absurd he h⟩
    · exact ⟨x.2, by rw [get_put_other _ _ _ _ he]; exact get_mem l RI.out x hx, fun _ => rfl⟩
  rintro w11 x8 x17 x18 x19 x55 x56 x57 x58 x59 x60 x61 x62 x63 x64 x65 x66 x67 x68 x69 x70 x71 x72 x73 x74 x75 x76 x77 x78 x79 x80 hb
  have B11 := Lib.hid (B10.out.trans (hb.mono B10.out.size))
  have R11 := Lib.hid (R10.out.on hb)
  have Y11 := Lib.hid (Y10.out.on hb)
  have Z11 := Lib.hid (Z10.out.on hb)
  clear hb
  rename_i K0 hK0
  show K0 _ _
  refine hK0 _ _ ?_
  exact gets_tail KK.out w _ _ _ _ l (putA l nm_ (t2, k2, s2)) nm_ r HG.out B11.out R11.out Y11.out Z11.out L5.out (by rw [QL.out, HR.out]) (by
    rw [get_put_other _ _ _ _ NI.out]
    exact get_none l _ (fun x hx h => by obtain ⟨j, _, hj⟩ := NS.out x hx; exact nobody_ne j (by rw [← hj, h]))) NM.out _ _ _ _ _ _ _ _ _ _ _ _ _ _ _ _ _ _ _ _ _ _ _ _ _ _ _ _ _ _ _ _ _ _ _ _ _ _ _ _ _ _ _ _ _ _ _ _ _ _ _ _ _ _ _ _ _ _ _ _ _ _ _ _ _ _ _ _ _ _ _ _ _ _ _ _ _ _ _ _ _ _ _ _ _ _ _ _ _ _ _ _ _ _ _ _ _ _ _ _ _ _ _ _ _ _ _ _ _ _ _ _ _ _ _ _ _ _
end Go.Proofs.YtpmhnmdienlgoaaDoor.At
