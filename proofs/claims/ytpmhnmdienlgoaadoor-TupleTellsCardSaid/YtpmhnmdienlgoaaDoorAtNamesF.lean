/-
  The law TupleNames: whole: it answers true at any publication of numbers, any number, byte and places. Condition: the contracts of package tuple; numbers of 64 bits; lists no longer than a machine holds.
-/
import Derived.Test.YtpmhnmdienlgoaaDoorAtNamesE
import Derived.Deep.Cut
import Derived.Deep.CutBlock
namespace Go.Proofs.YtpmhnmdienlgoaaDoor.At
open Go.RowKit Go.Sort Go.Proofs.YtpmhnmdienlgoaaDoor.Va Go.Proofs.YtpmhnmdienlgoaaDoor.In Go.Proofs.YtpmhnmdienlgoaaDoor.Rg

open Go.Proofs.YtpmhnmdienlgoaaDoor.Wi
def NameOk : Prop := ∀ (s : ByteArray) (w : World), s.size ≤ maxLen → Calls Tryd.prog 15 #[.string s] w fun e w' => e = .returned (.bool (nameB s)) ∧ Below w.heap.size w w'
theorem conv1N (c : Int) (b : Nat) (W : World) (h1 : W.cell? ⟨b, 0, none⟩ = some (.int .u8 c)) :
    (convert 47 9 (.slice (some ⟨b, 0, none⟩) 1 1)).run Tryd.prog W = .ok (.string ⟨#[UInt8.ofNat c.toNat]⟩) W := by
  have h := run_bytesToString (P := Tryd.prog) W ⟨b, 0, none⟩ 1 1 [c] (by simp [loadCells, loadCellsFrom, go_sem, h1, Addr.add])
  rw [run_convert_bytes_string _ 47 9 5 _ _ _ Tryd.underlying47 Tryd.underlying5 Tryd.underlying9, h]
  rfl
def ac (c : Int) : ByteArray := ⟨#[97]⟩ ++ ⟨#[UInt8.ofNat c.toNat]⟩
theorem ac_name (c : Int) (h0 : 0 ≤ c) (h1 : c ≤ 255) : nameB (ac c) = (decide (97 ≤ c) && decide (c ≤ 122)) := by
  have e : ac c = ⟨#[97, UInt8.ofNat c.toNat]⟩ := by
    apply ByteArray.ext
    simp [ac, ByteArray.data_append]
  have h2 : (UInt8.ofNat c.toNat).toNat = c.toNat := by simp only [UInt8.toNat_ofNat']; omega
  rw [e]
  have l1 : letB 97 = true := by decide
  have l2 : letB (UInt8.ofNat c.toNat) = (decide (97 ≤ c) && decide (c ≤ 122)) := by
    unfold letB
    rw [h2]
    congr 1 <;> (rw [decide_eq_decide]; omega)
  simp [nameB, l1, l2, ByteArray.size]

set_option maxRecDepth 100000 in
set_option maxHeartbeats 4000000 in
theorem tnames_any {G : World → Prop} (K : Oks G) (KN : NameOk) (hv vv : Value) (has vals : List Int) (n c i j : Int) (w : World) (hg : G w) (hh : InInts w hv has) (hw : InInts w vv vals) (lh : has.length ≤ maxLen) (lvl : vals.length ≤ maxLen)
    (n0 : -9223372036854775808 ≤ n) (n1 : n ≤ 9223372036854775807) (c0 : 0 ≤ c) (c1 : c ≤ 255) (i0 : -9223372036854775808 ≤ i) (i1 : i ≤ 9223372036854775807) (j0 : -9223372036854775808 ≤ j) (j1 : j ≤ 9223372036854775807) :
    Calls Tryd.prog 6 #[.agg #[hv, vv], .int .i64 n, .int .u8 c, .int .i64 i, .int .i64 j] w (GetsQ w) := by
  have KK := Lib.hid K
  have KM := Lib.hid KN
  have HG := Lib.hid hg
  have I := Lib.hid (And.intro (And.intro i0 i1) (And.intro j0 j1))
  have B0 := Lib.hid (show Below w.heap.size w (w.alloc (.cells #[hv, vv] 35)) from (Below.refl _ _).alloc (Nat.le_refl _) _)
  have WI := Lib.hid (fun W => Wi.within_any n 0 15 W (by omega) (by omega) (by omega) n0 n1)
  have T1 := Lib.hid (fun W hW => tuple_row hv vv has vals (w.alloc (.cells #[hv, vv] 35)) W hW (hh.on B0.out) (hw.on B0.out) lh lvl)
  have C1 : ∀ i, (w.alloc (.cells #[hv, vv] 35)).cell? ⟨w.heap.size, i, none⟩ = #[hv, vv][i]? := fun i => by rw [World.cell?_alloc_at _ _ _ _ rfl]
  have AN := Lib.hid (ac_name c c0 c1)
  have wb := Wi.within_bd n 0 15 (by omega)
  obtain ⟨k, hk⟩ := Int.eq_ofNat_of_zero_le wb.1
  have hk15 : k ≤ 15 := by omega
  rw [hk] at WI
  clear K KN hg hh hw lh lvl n0 n1 i0 i1 j0 j1 wb hk
  go_enter Tryd.func6, Tryd.ntmps6
  go_wp2_with fail
  refine (WI.out _).mono ?_
  rintro e1 w1 ⟨rfl, rfl⟩
  clear WI
  go_upto_block 0 with (fail)
  refine namesB0 _ _ k hk15 _ _ _ _ _ _ _ _ _ _ _ _ _ _ _ _ _ _ _ _ _ _ _ _ _ _ _ _ _ _ _ _ _ _ _ _ _ _ _ _ _ _ _ _ _ _ _ _ _ _ _ _ _ _ _ _ _ _ _ _ _ _ _ _ _ _ _ _ _ _ _ _ _ _ _ _ _ _ _ _ _ _ _ _ _ _ _ _ _ _ _ _ _ _ _ _ _ _ _ _ _ _ _ _ _ _ _ _ _ _ _ _ _ _ _ _ _ _ _ _ _ _ _ ?_
  rintro w1 y20 y21 y22 y23 y24 hb
  have B1 := Lib.hid (B0.out.trans (hb.mono B0.out.size))
  have T2 := Lib.hid (T1.out w1 hb)
  have x0 : w1.cell? ⟨w.heap.size, 0, none⟩ = some hv := by rw [hb.cell (by simp)]; exact C1 0
  have x1 : w1.cell? ⟨w.heap.size, 1, none⟩ = some vv := by rw [hb.cell (by simp)]; exact C1 1
  clear hb C1 T1 B0
  go_wp2_with fail
  refine T2.out.mono ?_
  rintro e2 w2 ⟨lv, rfl, hrow, hb⟩
  have B2 := Lib.hid (B1.out.trans (hb.mono B1.out.size))
  have R2 := Lib.hid hrow
  have RI := Lib.hid (tup_rise has vals 7 (Nat.le_refl _))
  have L5 := Lib.hid (tup_five has vals 7)
  have SL := Lib.hid (tup_small has vals)
  have GL := Lib.hid (tup_good has vals)
  clear hb hrow B1 T2 x0 x1
  generalize tup has vals 7 = l at *
  have QN := Lib.hid (qs_name k)
  have qz := qs_size k
  have QM := Lib.hid (show (qs k).size ≤ maxLen by rw [qz]; unfold maxLen; omega)
  generalize qs k = q at *
  go_wp2_with fail
  refine (KM.out q _ QM.out).mono ?_
  rintro e3 w3 ⟨rfl, hb⟩
  have B3 := Lib.hid (B2.out.trans (hb.mono B2.out.size))
  have R3 := Lib.hid (R2.out.on hb)
  clear hb B2 R2
  rw [QN.out]
  have CV := conv1N c w3.heap.size (w3.alloc (.cells #[.int .u8 c] 5)) (by rw [World.cell?_alloc_at _ _ _ _ rfl]; rfl)
  have B4 := Lib.hid (B3.out.alloc B3.out.size (.cells #[.int .u8 c] 5))
  have R4 := Lib.hid (R3.out.on ((Below.refl _ _).alloc (Nat.le_refl _) (.cells #[.int .u8 c] 5)))
  have AM := Lib.hid (show (ac c).size ≤ maxLen by simp only [ac, ByteArray.size_append]; show (1 : Nat) + 1 ≤ maxLen; decide)
  have STR := Lib.hid (KM.out (ac c))
  have Rt := Lib.hid (rightT_of RI.out GL.out L5.out)
  by_cases a1 : 1 ≤ k
  · by_cases a2 : k ≤ 12
    · try have a3 : decide ((k : Int) ≤ 12) = false := by (rw [decide_eq_false_iff_not]; omega)
      go_wp2_with fail
      refine (STR.out _ AM.out).mono ?_
      rintro e5 w5 ⟨rfl, hb⟩
      have B5 := Lib.hid (B4.out.trans (hb.mono B4.out.size))
      have R5 := Lib.hid (R4.out.on hb)
      clear hb CV
      rw [AN.out]
      by_cases d1 : 97 ≤ c
      · by_cases d2 : c ≤ 122
        · try have d3 : decide (c ≤ 122) = false := by (rw [decide_eq_false_iff_not]; omega)
          go_wp2_with fail
          refine (KK.out.right _ l _ R5.out.1 SL.out).mono ?_
          rintro e6 w6 ⟨rfl, hb⟩
          have B6 := Lib.hid (B5.out.trans (hb.mono B5.out.size))
          have R6 := Lib.hid (R5.out.on hb)
          clear hb
          rw [Rt.out]
          go_upto_if 56 with (fail)
          refine wp_cond_false rfl (wp_skip ?_)
          simp only [Exit.then]
          apply_assumption
          exact names_tail KK.out w _ _ l i j HG.out B6.out R6.out RI.out L5.out SL.out GL.out I.out.1.1 I.out.1.2 I.out.2.1 I.out.2.2 _ _ _ _ _ _ _ _ _ _ _ _ _ _ _ _ _ _ _ _ _ _ _ _ _ _ _ _ _ _ _ _ _ _ _ _ _ _ _ _ _ _ _ _ _ _ _ _ _ _ _ _ _ _ _ _ _ _ _ _ _ _ _ _ _ _ _ _ _ _ _ _ _ _ _ _ _ _ _ _ _ _ _ _ _ _ _ _ _ _ _ _ _ _ _ _ _ _ _ _ _ _ _ _ _ _ _ _ _ _ _ _ _ _ _ _ _ _ _ _ _ _ _
        · try have d3 : decide (c ≤ 122) = false := by (rw [decide_eq_false_iff_not]; omega)
          go_wp2_with fail
          refine (KK.out.right _ l _ R5.out.1 SL.out).mono ?_
          rintro e6 w6 ⟨rfl, hb⟩
          have B6 := Lib.hid (B5.out.trans (hb.mono B5.out.size))
          have R6 := Lib.hid (R5.out.on hb)
          clear hb
          rw [Rt.out]
          go_upto_if 56 with (fail)
          refine wp_cond_false rfl (wp_skip ?_)
          simp only [Exit.then]
          apply_assumption
          exact names_tail KK.out w _ _ l i j HG.out B6.out R6.out RI.out L5.out SL.out GL.out I.out.1.1 I.out.1.2 I.out.2.1 I.out.2.2 _ _ _ _ _ _ _ _ _ _ _ _ _ _ _ _ _ _ _ _ _ _ _ _ _ _ _ _ _ _ _ _ _ _ _ _ _ _ _ _ _ _ _ _ _ _ _ _ _ _ _ _ _ _ _ _ _ _ _ _ _ _ _ _ _ _ _ _ _ _ _ _ _ _ _ _ _ _ _ _ _ _ _ _ _ _ _ _ _ _ _ _ _ _ _ _ _ _ _ _ _ _ _ _ _ _ _ _ _ _ _ _ _ _ _ _ _ _ _ _ _ _ _
      · have d2 : c ≤ 122 := by omega
        try have d3 : decide (c ≤ 122) = false := by (rw [decide_eq_false_iff_not]; omega)
        go_wp2_with fail
        refine (KK.out.right _ l _ R5.out.1 SL.out).mono ?_
        rintro e6 w6 ⟨rfl, hb⟩
        have B6 := Lib.hid (B5.out.trans (hb.mono B5.out.size))
        have R6 := Lib.hid (R5.out.on hb)
        clear hb
        rw [Rt.out]
        go_upto_if 56 with (fail)
        refine wp_cond_false rfl (wp_skip ?_)
        simp only [Exit.then]
        apply_assumption
        exact names_tail KK.out w _ _ l i j HG.out B6.out R6.out RI.out L5.out SL.out GL.out I.out.1.1 I.out.1.2 I.out.2.1 I.out.2.2 _ _ _ _ _ _ _ _ _ _ _ _ _ _ _ _ _ _ _ _ _ _ _ _ _ _ _ _ _ _ _ _ _ _ _ _ _ _ _ _ _ _ _ _ _ _ _ _ _ _ _ _ _ _ _ _ _ _ _ _ _ _ _ _ _ _ _ _ _ _ _ _ _ _ _ _ _ _ _ _ _ _ _ _ _ _ _ _ _ _ _ _ _ _ _ _ _ _ _ _ _ _ _ _ _ _ _ _ _ _ _ _ _ _ _ _ _ _ _ _ _ _ _
    · try have a3 : decide ((k : Int) ≤ 12) = false := by (rw [decide_eq_false_iff_not]; omega)
      go_wp2_with fail
      refine (STR.out _ AM.out).mono ?_
      rintro e5 w5 ⟨rfl, hb⟩
      have B5 := Lib.hid (B4.out.trans (hb.mono B4.out.size))
      have R5 := Lib.hid (R4.out.on hb)
      clear hb CV
      rw [AN.out]
      by_cases d1 : 97 ≤ c
      · by_cases d2 : c ≤ 122
        · try have d3 : decide (c ≤ 122) = false := by (rw [decide_eq_false_iff_not]; omega)
          go_wp2_with fail
          refine (KK.out.right _ l _ R5.out.1 SL.out).mono ?_
          rintro e6 w6 ⟨rfl, hb⟩
          have B6 := Lib.hid (B5.out.trans (hb.mono B5.out.size))
          have R6 := Lib.hid (R5.out.on hb)
          clear hb
          rw [Rt.out]
          go_upto_if 56 with (fail)
          refine wp_cond_false rfl (wp_skip ?_)
          simp only [Exit.then]
          apply_assumption
          exact names_tail KK.out w _ _ l i j HG.out B6.out R6.out RI.out L5.out SL.out GL.out I.out.1.1 I.out.1.2 I.out.2.1 I.out.2.2 _ _ _ _ _ _ _ _ _ _ _ _ _ _ _ _ _ _ _ _ _ _ _ _ _ _ _ _ _ _ _ _ _ _ _ _ _ _ _ _ _ _ _ _ _ _ _ _ _ _ _ _ _ _ _ _ _ _ _ _ _ _ _ _ _ _ _ _ _ _ _ _ _ _ _ _ _ _ _ _ _ _ _ _ _ _ _ _ _ _ _ _ _ _ _ _ _ _ _ _ _ _ _ _ _ _ _ _ _ _ _ _ _ _ _ _ _ _ _ _ _ _ _
        · try have d3 : decide (c ≤ 122) = false := by (rw [decide_eq_false_iff_not]; omega)
          go_wp2_with fail
          refine (KK.out.right _ l _ R5.out.1 SL.out).mono ?_
          rintro e6 w6 ⟨rfl, hb⟩
          have B6 := Lib.hid (B5.out.trans (hb.mono B5.out.size))
          have R6 := Lib.hid (R5.out.on hb)
          clear hb
          rw [Rt.out]
          go_upto_if 56 with (fail)
          refine wp_cond_false rfl (wp_skip ?_)
          simp only [Exit.then]
          apply_assumption
          exact names_tail KK.out w _ _ l i j HG.out B6.out R6.out RI.out L5.out SL.out GL.out I.out.1.1 I.out.1.2 I.out.2.1 I.out.2.2 _ _ _ _ _ _ _ _ _ _ _ _ _ _ _ _ _ _ _ _ _ _ _ _ _ _ _ _ _ _ _ _ _ _ _ _ _ _ _ _ _ _ _ _ _ _ _ _ _ _ _ _ _ _ _ _ _ _ _ _ _ _ _ _ _ _ _ _ _ _ _ _ _ _ _ _ _ _ _ _ _ _ _ _ _ _ _ _ _ _ _ _ _ _ _ _ _ _ _ _ _ _ _ _ _ _ _ _ _ _ _ _ _ _ _ _ _ _ _ _ _ _ _
      · have d2 : c ≤ 122 := by omega
        try have d3 : decide (c ≤ 122) = false := by (rw [decide_eq_false_iff_not]; omega)
        go_wp2_with fail
        refine (KK.out.right _ l _ R5.out.1 SL.out).mono ?_
        rintro e6 w6 ⟨rfl, hb⟩
        have B6 := Lib.hid (B5.out.trans (hb.mono B5.out.size))
        have R6 := Lib.hid (R5.out.on hb)
        clear hb
        rw [Rt.out]
        go_upto_if 56 with (fail)
        refine wp_cond_false rfl (wp_skip ?_)
        simp only [Exit.then]
        apply_assumption
        exact names_tail KK.out w _ _ l i j HG.out B6.out R6.out RI.out L5.out SL.out GL.out I.out.1.1 I.out.1.2 I.out.2.1 I.out.2.2 _ _ _ _ _ _ _ _ _ _ _ _ _ _ _ _ _ _ _ _ _ _ _ _ _ _ _ _ _ _ _ _ _ _ _ _ _ _ _ _ _ _ _ _ _ _ _ _ _ _ _ _ _ _ _ _ _ _ _ _ _ _ _ _ _ _ _ _ _ _ _ _ _ _ _ _ _ _ _ _ _ _ _ _ _ _ _ _ _ _ _ _ _ _ _ _ _ _ _ _ _ _ _ _ _ _ _ _ _ _ _ _ _ _ _ _ _ _ _ _ _ _ _
  · have a2 : k ≤ 12 := by omega
    try have a3 : decide ((k : Int) ≤ 12) = false := by (rw [decide_eq_false_iff_not]; omega)
    go_wp2_with fail
    refine (STR.out _ AM.out).mono ?_
    rintro e5 w5 ⟨rfl, hb⟩
    have B5 := Lib.hid (B4.out.trans (hb.mono B4.out.size))
    have R5 := Lib.hid (R4.out.on hb)
    clear hb CV
    rw [AN.out]
    by_cases d1 : 97 ≤ c
    · by_cases d2 : c ≤ 122
      · try have d3 : decide (c ≤ 122) = false := by (rw [decide_eq_false_iff_not]; omega)
        go_wp2_with fail
        refine (KK.out.right _ l _ R5.out.1 SL.out).mono ?_
        rintro e6 w6 ⟨rfl, hb⟩
        have B6 := Lib.hid (B5.out.trans (hb.mono B5.out.size))
        have R6 := Lib.hid (R5.out.on hb)
        clear hb
        rw [Rt.out]
        go_upto_if 56 with (fail)
        refine wp_cond_false rfl (wp_skip ?_)
        simp only [Exit.then]
        apply_assumption
        exact names_tail KK.out w _ _ l i j HG.out B6.out R6.out RI.out L5.out SL.out GL.out I.out.1.1 I.out.1.2 I.out.2.1 I.out.2.2 _ _ _ _ _ _ _ _ _ _ _ _ _ _ _ _ _ _ _ _ _ _ _ _ _ _ _ _ _ _ _ _ _ _ _ _ _ _ _ _ _ _ _ _ _ _ _ _ _ _ _ _ _ _ _ _ _ _ _ _ _ _ _ _ _ _ _ _ _ _ _ _ _ _ _ _ _ _ _ _ _ _ _ _ _ _ _ _ _ _ _ _ _ _ _ _ _ _ _ _ _ _ _ _ _ _ _ _ _ _ _ _ _ _ _ _ _ _ _ _ _ _ _
      · try have d3 : decide (c ≤ 122) = false := by (rw [decide_eq_false_iff_not]; omega)
        go_wp2_with fail
        refine (KK.out.right _ l _ R5.out.1 SL.out).mono ?_
        rintro e6 w6 ⟨rfl, hb⟩
        have B6 := Lib.hid (B5.out.trans (hb.mono B5.out.size))
        have R6 := Lib.hid (R5.out.on hb)
        clear hb
        rw [Rt.out]
        go_upto_if 56 with (fail)
        refine wp_cond_false rfl (wp_skip ?_)
        simp only [Exit.then]
        apply_assumption
        exact names_tail KK.out w _ _ l i j HG.out B6.out R6.out RI.out L5.out SL.out GL.out I.out.1.1 I.out.1.2 I.out.2.1 I.out.2.2 _ _ _ _ _ _ _ _ _ _ _ _ _ _ _ _ _ _ _ _ _ _ _ _ _ _ _ _ _ _ _ _ _ _ _ _ _ _ _ _ _ _ _ _ _ _ _ _ _ _ _ _ _ _ _ _ _ _ _ _ _ _ _ _ _ _ _ _ _ _ _ _ _ _ _ _ _ _ _ _ _ _ _ _ _ _ _ _ _ _ _ _ _ _ _ _ _ _ _ _ _ _ _ _ _ _ _ _ _ _ _ _ _ _ _ _ _ _ _ _ _ _ _
    · have d2 : c ≤ 122 := by omega
      try have d3 : decide (c ≤ 122) = false := by (rw [decide_eq_false_iff_not]; omega)
      go_wp2_with fail
      refine (KK.out.right _ l _ R5.out.1 SL.out).mono ?_
      rintro e6 w6 ⟨rfl, hb⟩
      have B6 := Lib.hid (B5.out.trans (hb.mono B5.out.size))
      have R6 := Lib.hid (R5.out.on hb)
      clear hb
      rw [Rt.out]
      go_upto_if 56 with (fail)
      refine wp_cond_false rfl (wp_skip ?_)
      simp only [Exit.then]
      apply_assumption
      exact names_tail KK.out w _ _ l i j HG.out B6.out R6.out RI.out L5.out SL.out GL.out I.out.1.1 I.out.1.2 I.out.2.1 I.out.2.2 _ _ _ _ _ _ _ _ _ _ _ _ _ _ _ _ _ _ _ _ _ _ _ _ _ _ _ _ _ _ _ _ _ _ _ _ _ _ _ _ _ _ _ _ _ _ _ _ _ _ _ _ _ _ _ _ _ _ _ _ _ _ _ _ _ _ _ _ _ _ _ _ _ _ _ _ _ _ _ _ _ _ _ _ _ _ _ _ _ _ _ _ _ _ _ _ _ _ _ _ _ _ _ _ _ _ _ _ _ _ _ _ _ _ _ _ _ _ _ _ _ _ _
end Go.Proofs.YtpmhnmdienlgoaaDoor.At
