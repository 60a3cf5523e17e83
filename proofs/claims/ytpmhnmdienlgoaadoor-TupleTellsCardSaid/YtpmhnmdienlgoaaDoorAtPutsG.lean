/-
  The law TuplePuts: whole: it answers true at any two publications of numbers, any order and value. Condition: the contracts of package tuple; numbers of 64 bits; lists no longer than a machine holds.
-/
import Derived.Test.YtpmhnmdienlgoaaDoorAtPutsB
import Derived.Test.YtpmhnmdienlgoaaDoorAtPutsD
import Derived.Test.YtpmhnmdienlgoaaDoorAtPutsF
import Derived.Test.YtpmhnmdienlgoaaDoorAtGets2
import Derived.Deep.Cut
import Derived.Deep.CutBlock
namespace Go.Proofs.YtpmhnmdienlgoaaDoor.At
open Go.RowKit Go.Sort Go.Proofs.YtpmhnmdienlgoaaDoor.Va Go.Proofs.YtpmhnmdienlgoaaDoor.In Go.Proofs.YtpmhnmdienlgoaaDoor.Rg

/-- An append, met by its run. -/
theorem wpList_append_run {P : Program} {ops : Array Oper} {rest : List Oper} {o : Oper} {a : Act} {Q : Exit → Act → World → Prop} {w w' : World} (hgd : o.guard = none) (s x : Operand) (t : TypeId)
    (ho : o.op = .call { callee := .builtin .append, args := #[s, x], argTypes := #[t, t] }) {v xv v' : Value} (hs : a.eval s = v) (hx : a.eval x = xv) (hr : (Builtin.append_ #[t, t] o.type #[v, xv]).run P w = .ok v' w')
    (h : wpList P ops Q rest (a.put o.dst v') w') : wpList P ops Q (o :: rest) a w := by
  refine wpList_plain hgd fun K hK => ?_
  unfold Oper.wp execOp
  simp only [ho, resolve, invoke, builtin, Sem.run_bind, Sem.run_pure, Result.andThen_ok, List.map_toArray, List.map_cons, List.map_nil, hs, hx, hr]
  exact hK _ _ h
theorem load_runK (w : World) (b : Nat) (x y : Value) (h0 : w.cell? ⟨b, 0, none⟩ = some x) (h1 : w.cell? ⟨b, 1, none⟩ = some y) : (Instr.loadAt 35 (.pointer (some ⟨b, 0, none⟩))).run Tryd.prog w = .ok (.agg #[x, y]) w := by
  simp [go_sem, h0, h1]
theorem tup_bd (has vals : List Int) : ∀ k, ∀ x ∈ tup has vals k, -9223372036854775808 ≤ x.2.2.1 ∧ x.2.2.1 ≤ 9223372036854775807
  | 0, x, h => by simp [tup] at h
  | k + 1, x, h => by
    simp only [tup] at h
    split at h
    · rcases List.mem_append.1 h with h | h
      · exact tup_bd has vals k x h
      · simp at h
        rw [h]
        exact kvN_bd _
    · exact tup_bd has vals k x h
theorem tup_small (has vals : List Int) : Small (tup has vals 7) := by
  have := tup_five has vals 7
  refine ⟨by omega, fun x hx => ?_⟩
  obtain ⟨i, h1, h2⟩ := tup_names has vals 7 x hx
  have h3 := (tup_right has vals 7 x hx).2
  exact ⟨by rw [h2, nm_size]; decide, by omega, tup_bd has vals 7 x hx⟩
theorem tup_good (has vals : List Int) : ∀ x ∈ tup has vals 7, nameB x.1 = true ∧ rightV x.2.1 x.2.2.1 x.2.2.2 = true := fun x hx => by
  obtain ⟨i, h1, h2⟩ := tup_names has vals 7 x hx
  exact ⟨by rw [h2]; exact nameB_nm i h1, (tup_right has vals 7 x hx).1⟩
theorem say_eq {l m : List A4} (hl : Fine l) (hm : Fine m) : ((⟨(sayA l).toArray⟩ : ByteArray).toList == (⟨(sayA m).toArray⟩ : ByteArray).toList) = sameL l m := by
  rw [ByteArray.toList_eq, ByteArray.toList_eq]
  cases h : sameL l m
  · rw [beq_eq_false_iff_ne]
    intro e
    rw [sayA_inj l m hl hm (by simpa using e), sameL_refl] at h
    cases h
  · rw [(sameL_iff l m).1 h]
    exact beq_self_eq_true _
theorem tuple_row (hv vv : Value) (has vals : List Int) (W w : World) (hw : Below W.heap.size W w) (hh : InInts W hv has) (hw2 : InInts W vv vals) (lh : has.length ≤ maxLen) (lv : vals.length ≤ maxLen) :
    Calls Tryd.prog 12 #[.agg #[hv, vv]] w fun e w' => ∃ v, e = .returned v ∧ RowO w' v (tup has vals 7) ∧ Below w.heap.size w w' :=
  (tuple_any hv vv has vals w (hh.on hw) (hw2.on hw) lh lv).mono (fun _ _ ⟨v, h1, h2, h3⟩ => ⟨v, h1, RowO.of_owns h2, h3⟩)

set_option maxRecDepth 100000 in
set_option maxHeartbeats 4000000 in
theorem puts_any {G : World → Prop} (K : Oks G) (hv vv ov uv qv : Value) (has vals has2 vals2 zs : List Int) (v : Int) (w : World) (hg : G w) (i1 : InInts w hv has) (i2 : InInts w vv vals) (i3 : InInts w ov has2) (i4 : InInts w uv vals2) (i5 : InInts w qv zs)
    (l1 : has.length ≤ maxLen) (l2 : vals.length ≤ maxLen) (l3 : has2.length ≤ maxLen) (l4 : vals2.length ≤ maxLen) (l5 : zs.length ≤ maxLen) (v0 : -9223372036854775808 ≤ v) (v1 : v ≤ 9223372036854775807) :
    Calls Tryd.prog 5 #[.agg #[hv, vv], .agg #[ov, uv], qv, .int .i64 v] w (GetsQ w) := by
  have KK := Lib.hid K
  have HG := Lib.hid hg
  have V0 := Lib.hid v0
  have V1 := Lib.hid v1
  have LZ := Lib.hid l5
  have B0 := Lib.hid (show Below w.heap.size w ((w.alloc (.cells #[hv, vv] 35)).alloc (.cells #[ov, uv] 35)) from ((Below.refl _ _).alloc (Nat.le_refl _) _).alloc (by simp) _)
  have HZ := Lib.hid (i5.on B0.out)
  have T1 := Lib.hid (fun W hW => tuple_row hv vv has vals ((w.alloc (.cells #[hv, vv] 35)).alloc (.cells #[ov, uv] 35)) W hW (i1.on B0.out) (i2.on B0.out) l1 l2)
  have T2 := Lib.hid (fun W hW => tuple_row ov uv has2 vals2 ((w.alloc (.cells #[hv, vv] 35)).alloc (.cells #[ov, uv] 35)) W hW (i3.on B0.out) (i4.on B0.out) l3 l4)
  have C1 : ∀ i, ((w.alloc (.cells #[hv, vv] 35)).alloc (.cells #[ov, uv] 35)).cell? ⟨w.heap.size, i, none⟩ = #[hv, vv][i]? := fun i => by
    rw [World.cell?_alloc_lt _ _ _ (by simp), World.cell?_alloc_at _ _ _ _ rfl]
  have C2 : ∀ i, ((w.alloc (.cells #[hv, vv] 35)).alloc (.cells #[ov, uv] 35)).cell? ⟨w.heap.size + 1, i, none⟩ = #[ov, uv][i]? := fun i => by
    rw [World.cell?_alloc_at _ _ _ _ (by simp)]
  have hsz : ((w.alloc (.cells #[hv, vv] 35)).alloc (.cells #[ov, uv] 35)).heap.size = w.heap.size + 2 := by simp
  have A1 := Lib.hid (fun (W : World) (hW : Below ((w.alloc (.cells #[hv, vv] 35)).alloc (.cells #[ov, uv] 35)).heap.size ((w.alloc (.cells #[hv, vv] 35)).alloc (.cells #[ov, uv] 35)) W) =>
    load_runK W w.heap.size hv vv (by rw [hW.cell (by rw [hsz]; simp)]; exact C1 0) (by rw [hW.cell (by rw [hsz]; simp)]; exact C1 1))
  have A2 := Lib.hid (fun (W : World) (hW : Below ((w.alloc (.cells #[hv, vv] 35)).alloc (.cells #[ov, uv] 35)).heap.size ((w.alloc (.cells #[hv, vv] 35)).alloc (.cells #[ov, uv] 35)) W) =>
    load_runK W (w.heap.size + 1) ov uv (by rw [hW.cell (by rw [hsz]; simp)]; exact C2 0) (by rw [hW.cell (by rw [hsz]; simp)]; exact C2 1))
  clear K hg i1 i2 i3 i4 i5 l1 l2 l3 l4 l5 v0 v1 C1 C2 hsz
  go_enter Tryd.func5, Tryd.ntmps5
  go_wp2
  generalize (w.alloc (.cells #[hv, vv] 35)).alloc (.cells #[ov, uv] 35) = W1 at *
  refine Frt_any _ _ W1 (.agg #[hv, vv]) (.agg #[ov, uv]) _ _ (tup has vals 7) (tup has2 vals2 7) rfl rfl rfl A1.out A2.out T1.out T2.out ?_
  intro a w1 df sz kp bel r9 r10
  obtain ⟨u9, u10, u22, u23, u24, u25, e9, e10, ea⟩ := front_frame df sz rfl kp
  rw [e9] at r9
  rw [e10] at r10
  subst ea
  have B1 := Lib.hid (B0.out.trans (bel.mono B0.out.size))
  have Z1 := Lib.hid (HZ.out.on bel)
  have L1 := Lib.hid r9
  have M1 := Lib.hid r10
  clear bel r9 r10 e9 e10 kp df sz T1 T2 A1 A2 HZ B0
  simp only [List.setIfInBounds_toArray, List.set_cons_succ, List.set_cons_zero]
  have RI := Lib.hid (tup_rise has vals 7 (Nat.le_refl _))
  have L5 := Lib.hid (tup_five has vals 7)
  have M5 := Lib.hid (tup_five has2 vals2 7)
  have SL := Lib.hid (tup_small has vals)
  have SM := Lib.hid (tup_small has2 vals2)
  have GL := Lib.hid (tup_good has vals)
  have SE := Lib.hid (say_eq (tup_fine has vals 7 (Nat.le_refl _)) (tup_fine has2 vals2 7 (Nat.le_refl _)))
  generalize tup has vals 7 = l at *
  generalize tup has2 vals2 7 = m at *
  have MK : (w1.alloc (.cells #[] 25)).ownsRow w1.heap.size 25 4 (.slice (some ⟨w1.heap.size, 0, none⟩) 0 0) 0 [] := World.ownsRow_made w1 #[] 0 (Nat.le_refl _) (by decide) rfl
  obtain ⟨xv, w2, r1, r2, r3⟩ := app_runA (W := w1) w1.heap.size MK (L1.out.2.on ((Below.refl _ _).alloc (Nat.le_refl _) (.cells #[] 25))) (flatA_one l) (by omega) (by have := L5.out; omega) (by simp) 26
  have B2a := Lib.hid (((Below.refl w1.heap.size w1).alloc (Nat.le_refl _) (.cells #[] 25)).grown r3 (by simp) (fun j hj => (MK.lt j hj).1))
  have O2 := Lib.hid (show RowA w2 xv l by refine RowA.of_owns (B := w1.heap.size) ?_; simpa using r2)
  have B2 := Lib.hid (B1.out.trans (B2a.out.mono B1.out.size))
  have Z2 := Lib.hid (Z1.out.on B2a.out)
  have L2 := Lib.hid (L1.out.1.on B2a.out)
  have M2 := Lib.hid (M1.out.1.on B2a.out)
  clear r2 r3 MK B1 Z1 L1 M1 B2a
  go_upto_block 0 with (first | (at_builtin; refine wpList_append_run rfl _ _ 26 rfl rfl rfl r1 ?_) | fail)
  clear r1
  refine putsB0 _ _ _ _ zs l l Z2.out LZ.out O2.out (List.Perm.refl _) (by have := L5.out; omega) _ _ _ _ _ _ _ _ _ _ _ _ _ _ _ _ _ _ _ _ _ _ _ _ _ _ _ _ _ _ _ _ _ _ _ _ _ _ _ _ _ _ _ _ _ _ _ _ _ _ _ _ _ _ _ _ _ _ _ _ _ _ _ _ _ _ _ _ _ _ _ _ _ _ _ _ _ _ _ _ _ _ _ _ _ _ _ _ _ _ _ _ _ _ _ _ _ _ _ _ _ _ _ _ _ _ _ _ _ _ _ _ _ _ _ _ _ _ _ _ _ _ _ _ _ _ _ _ _ _ _ _ _ _ _ _ _ _ _ ?_
  rintro own w3 y11 y12 y13 y29 y30 y31 y32 y33 y34 y35 y36 y37 y38 y39 y40 y41 y42 y43 y44 y45 y46 y47 y48 y49 y50 y51 y52 y53 y54 y55 y56 y57 y58 y59 y60 y61 y62 y63 hp hr hb
  have B3 := Lib.hid (B2.out.trans (hb.mono B2.out.size))
  have L3 := Lib.hid (L2.out.on hb)
  have M3 := Lib.hid (M2.out.on hb)
  have O3 := Lib.hid hr
  have HP := Lib.hid hp
  obtain ⟨xo, xc, hxv⟩ := hr.len
  subst hxv
  have ow7 : own.length ≤ 7 := by have := hp.length_eq; have := L5.out; omega
  have NDP := Lib.hid (show (own.map (·.1)).Nodup from ((hp.map (fun x : A4 => x.1)).nodup_iff).2 (rise_nodup RI.out))
  have NZ := Lib.hid (show ∀ x ∈ own, x.1.size ≤ 100 from fun x hx => (SL.out.2 x (hp.mem_iff.1 hx)).1)
  clear hp hr hb B2 Z2 L2 M2 O2
  go_upto_block 2 with (fail)
  refine putsB2 KK.out _ _ _ _ own O3.out NDP.out ow7 NZ.out _ _ _ _ _ _ _ _ _ _ _ _ _ _ _ _ _ _ _ _ _ _ _ _ _ _ _ _ _ _ _ _ _ _ _ _ _ _ _ _ _ _ _ _ _ _ _ _ _ _ _ _ _ _ _ _ _ _ _ _ _ _ _ _ _ _ _ _ _ _ _ _ _ _ _ _ _ _ _ _ _ _ _ _ _ _ _ _ _ _ _ _ _ _ _ _ _ _ _ _ _ _ _ _ _ _ _ _ _ _ _ _ _ _ _ _ _ _ _ _ _ _ _ _ _ _ _ _ _ _ _ _ _ _ _ _ _ ?_
  rintro w4 xv z16 z66 z67 z68 z69 z70 z71 z72 z73 z74 z75 z76 hr hb
  have B4 := Lib.hid (B3.out.trans (hb.mono B3.out.size))
  have L4 := Lib.hid (L3.out.on hb)
  have M4 := Lib.hid (M3.out.on hb)
  have X4 := Lib.hid (show RowA w4 xv l by have e := fold_perm RI.out HP.out; unfold PA at hr; rw [e] at hr; exact hr)
  clear hr hb B3 L3 M3 O3 NDP NZ HP ow7
  have l5 := L5.out
  have m5 := M5.out
  go_wp2_with fail
  refine (sameA_any _ _ l l _ X4.out L4.out (by omega) (by omega)).mono ?_
  rintro e5 w5 ⟨rfl, hb⟩
  have B5 := Lib.hid (B4.out.trans (hb.mono B4.out.size))
  have L5_ := Lib.hid (L4.out.on hb)
  have M5_ := Lib.hid (M4.out.on hb)
  clear hb X4 B4 L4 M4
  rw [sameL_refl]
  go_wp2_with fail
  refine (KK.out.same _ _ l m _ L5_.out M5_.out (by omega) (by omega)).mono ?_
  rintro e6 w6 ⟨rfl, hb⟩
  have B6 := Lib.hid (B5.out.trans (hb.mono B5.out.size))
  have L6 := Lib.hid (L5_.out.on hb)
  have M6 := Lib.hid (M5_.out.on hb)
  clear hb B5 L5_ M5_
  go_wp2_with fail
  refine (sameA_any _ _ l m _ L6.out M6.out (by omega) (by omega)).mono ?_
  rintro e7 w7 ⟨rfl, hb⟩
  have B7 := Lib.hid (B6.out.trans (hb.mono B6.out.size))
  have L7 := Lib.hid (L6.out.on hb)
  have M7 := Lib.hid (M6.out.on hb)
  clear hb B6 L6 M6
  have SAM := Lib.hid (fun W h1 h2 => sameA_any u9 u10 l m W h1 h2 (by omega) (by omega))
  have se := SE.out
  have SAY1 := Lib.hid (fun W h1 h2 => KK.out.say u9 l W h1 h2 SL.out)
  have SAY2 := Lib.hid (fun W h1 h2 => KK.out.say u10 m W h1 h2 SM.out)
  clear SE
  generalize sameL l m = b at SAM se ⊢
  generalize (⟨(sayA l).toArray⟩ : ByteArray) = s1 at SAY1 se
  generalize (⟨(sayA m).toArray⟩ : ByteArray) = s2 at SAY2 se
  have rest : True := trivial
  cases b
  · go_wp2_with fail
    refine (SAY1.out _ (KK.out.bel _ _ HG.out B7.out) L7.out).mono ?_
    rintro e8 w8 ⟨rfl, hb⟩
    have B8 := Lib.hid (B7.out.trans (hb.mono B7.out.size))
    have L8 := Lib.hid (L7.out.on hb)
    have M8 := Lib.hid (M7.out.on hb)
    clear hb B7 L7 M7
    go_wp2_with fail
    refine (SAY2.out _ (KK.out.bel _ _ HG.out B8.out) M8.out).mono ?_
    rintro e9 w9 ⟨rfl, hb⟩
    have B9 := Lib.hid (B8.out.trans (hb.mono B8.out.size))
    have L9 := Lib.hid (L8.out.on hb)
    have M9 := Lib.hid (M8.out.on hb)
    clear hb B8 L8 M8
    go_wp2_with fail
    refine (SAM.out _ L9.out M9.out).mono ?_
    rintro e10 w10 ⟨rfl, hb⟩
    have B10 := Lib.hid (B9.out.trans (hb.mono B9.out.size))
    have L10 := Lib.hid (L9.out.on hb)
    clear hb B9 L9 M9
    go_wp2_with fail
    refine (names_any _).mono ?_
    rintro e11 w11 ⟨rfl, rfl⟩
    have B11 := Lib.hid (B10.out.alloc B10.out.size (.cells nmCells 9))
    have L11 := Lib.hid (L10.out.on ((Below.refl _ _).alloc (Nat.le_refl _) (.cells nmCells 9)))
    have NB := Lib.hid (fun i h => bnm w10 i h)
    clear B10 L10 se SAY1 SAY2 SAM
    go_upto_block 4 with (fail)
    refine putsB4 KK.out _ _ _ l v w10.heap.size L11.out RI.out l5 SL.out GL.out NB.out V0.out V1.out _ _ _ _ _ _ _ _ _ _ _ _ _ _ _ _ _ _ _ _ _ _ _ _ _ _ _ _ _ _ _ _ _ _ _ _ _ _ _ _ _ _ _ _ _ _ _ _ _ _ _ _ _ _ _ _ _ _ _ _ _ _ _ _ _ _ _ _ _ _ _ _ _ _ _ _ _ _ _ _ _ _ _ _ _ _ _ _ _ _ _ _ _ _ _ _ _ _ _ _ _ _ _ _ _ _ _ _ _ _ _ _ _ _ _ _ _ _ _ _ _ _ _ _ _ _ _ _ _ _ _ _ _ _ _ _ _ ?_
    rintro w12 t8 t18 t19 t20 t21 t103 t104 t105 t106 t107 t108 t109 t110 t111 t112 t113 t114 t115 t116 t117 t118 t119 t120 t121 t122 t123 t124 t125 t126 t127 t128 t129 t130 t131 t132 t133 t134 t135 t136 hb
    have B12 := Lib.hid (B11.out.trans (hb.mono B11.out.size))
    have L12 := Lib.hid (L11.out.on hb)
    have RT := Lib.hid (rightT_of RI.out GL.out l5)
    clear hb B11 L11 NB
    go_wp2_with fail
    refine (KK.out.right _ l _ L12.out SL.out).mono ?_
    rintro e13 w13 ⟨rfl, hb⟩
    have B13 := Lib.hid (B12.out.trans (hb.mono B12.out.size))
    clear hb
    rw [RT.out]
    go_wp2_with fail
    refine (truns_any KK.out _ (KK.out.bel _ _ HG.out B13.out)).mono ?_
    rintro e14 w14 ⟨rfl, hb⟩
    have B14 := Lib.hid (B13.out.trans (hb.mono B13.out.size))
    clear hb
    go_wp2
    go_ret
    exact ⟨rfl, B14.out⟩
  · go_wp2_with fail
    refine (SAY1.out _ (KK.out.bel _ _ HG.out B7.out) L7.out).mono ?_
    rintro e8 w8 ⟨rfl, hb⟩
    have B8 := Lib.hid (B7.out.trans (hb.mono B7.out.size))
    have L8 := Lib.hid (L7.out.on hb)
    have M8 := Lib.hid (M7.out.on hb)
    clear hb B7 L7 M7
    go_wp2_with fail
    refine (SAY2.out _ (KK.out.bel _ _ HG.out B8.out) M8.out).mono ?_
    rintro e9 w9 ⟨rfl, hb⟩
    have B9 := Lib.hid (B8.out.trans (hb.mono B8.out.size))
    have L9 := Lib.hid (L8.out.on hb)
    have M9 := Lib.hid (M8.out.on hb)
    clear hb B8 L8 M8
    go_wp2_with fail
    refine (SAM.out _ L9.out M9.out).mono ?_
    rintro e10 w10 ⟨rfl, hb⟩
    have B10 := Lib.hid (B9.out.trans (hb.mono B9.out.size))
    have L10 := Lib.hid (L9.out.on hb)
    clear hb B9 L9 M9
    go_wp2_with fail
    refine (names_any _).mono ?_
    rintro e11 w11 ⟨rfl, rfl⟩
    have B11 := Lib.hid (B10.out.alloc B10.out.size (.cells nmCells 9))
    have L11 := Lib.hid (L10.out.on ((Below.refl _ _).alloc (Nat.le_refl _) (.cells nmCells 9)))
    have NB := Lib.hid (fun i h => bnm w10 i h)
    clear B10 L10 se SAY1 SAY2 SAM
    go_upto_block 4 with (fail)
    refine putsB4 KK.out _ _ _ l v w10.heap.size L11.out RI.out l5 SL.out GL.out NB.out V0.out V1.out _ _ _ _ _ _ _ _ _ _ _ _ _ _ _ _ _ _ _ _ _ _ _ _ _ _ _ _ _ _ _ _ _ _ _ _ _ _ _ _ _ _ _ _ _ _ _ _ _ _ _ _ _ _ _ _ _ _ _ _ _ _ _ _ _ _ _ _ _ _ _ _ _ _ _ _ _ _ _ _ _ _ _ _ _ _ _ _ _ _ _ _ _ _ _ _ _ _ _ _ _ _ _ _ _ _ _ _ _ _ _ _ _ _ _ _ _ _ _ _ _ _ _ _ _ _ _ _ _ _ _ _ _ _ _ _ _ ?_
    rintro w12 t8 t18 t19 t20 t21 t103 t104 t105 t106 t107 t108 t109 t110 t111 t112 t113 t114 t115 t116 t117 t118 t119 t120 t121 t122 t123 t124 t125 t126 t127 t128 t129 t130 t131 t132 t133 t134 t135 t136 hb
    have B12 := Lib.hid (B11.out.trans (hb.mono B11.out.size))
    have L12 := Lib.hid (L11.out.on hb)
    have RT := Lib.hid (rightT_of RI.out GL.out l5)
    clear hb B11 L11 NB
    go_wp2_with fail
    refine (KK.out.right _ l _ L12.out SL.out).mono ?_
    rintro e13 w13 ⟨rfl, hb⟩
    have B13 := Lib.hid (B12.out.trans (hb.mono B12.out.size))
    clear hb
    rw [RT.out]
    go_wp2_with fail
    refine (truns_any KK.out _ (KK.out.bel _ _ HG.out B13.out)).mono ?_
    rintro e14 w14 ⟨rfl, hb⟩
    have B14 := Lib.hid (B13.out.trans (hb.mono B13.out.size))
    clear hb
    go_wp2
    go_ret
    exact ⟨rfl, B14.out⟩
end Go.Proofs.YtpmhnmdienlgoaaDoor.At
