/-
  The law TuplePuts: its last loop, which puts each name. Condition: the contracts of package tuple; numbers of 64 bits; lists no longer than a machine holds.
-/
import Derived.Test.YtpmhnmdienlgoaaDoorAtSay
import Derived.Test.YtpmhnmdienlgoaaDoorAtGets
import Derived.Test.YtpmhnmdienlgoaaDoorAtRot
import Derived.Deep.Cut
import Derived.Deep.CutBlock
namespace Go.Proofs.YtpmhnmdienlgoaaDoor.At
open Go.RowKit Go.Sort Go.Proofs.YtpmhnmdienlgoaaDoor.Va Go.Proofs.YtpmhnmdienlgoaaDoor.In Go.Proofs.YtpmhnmdienlgoaaDoor.Rg

noncomputable def putsB (k : Nat) : Code := ((Tryd.f5.body.bind (findBlock k)).getD .skip)
theorem rightT_of {l : List A4} (h : Rise l) (hf : ∀ x ∈ l, nameB x.1 = true ∧ rightV x.2.1 x.2.2.1 x.2.2.2 = true) (h5 : l.length ≤ 5) : rightT l = true := by
  rw [rightT_end l (fun j hj => ?_)]
  · simpa using h5
  · have hx := hf l[j] (List.getElem_mem hj)
    unfold goodB
    rw [List.getElem?_eq_getElem hj]
    simp only [hx.1, hx.2, Bool.true_and, Bool.or_eq_true, beq_iff_eq]
    rcases Nat.eq_zero_or_pos j with h0 | h0
    · exact Or.inl h0
    · refine Or.inr ?_
      rw [List.getElem?_eq_getElem (by omega)]
      exact List.pairwise_iff_getElem.1 h (j - 1) j (by omega) hj (by omega)
theorem kvalue_re (n : Int) (h1 : -9223372036854775808 ≤ n) (h2 : n ≤ 9223372036854775807) (w : World) (d : Nat) (os : Array Obj) :
    Calls Tryd.prog 22 #[.int .i64 n] (grow (redrawn w d) os) fun e w'' => e = .returned (vl (!(evn n)) (kvN n) (kvS n)) ∧ ∃ p : Regrown, w'' = grow (redrawn w p.d) p.os :=
  Calls.regrown_of (kvalue_any n _ h1 h2)
theorem right_reK {G : World → Prop} (K : Oks G) (lv : Value) (l : List A4) (w : World) (hl : RowA w lv l) (hs : Small l) (r : Bool) (hr : rightT l = r) (d : Nat) (os : Array Obj) :
    Calls Tryd.prog 11 #[lv] (grow (redrawn w d) os) fun e w'' => e = .returned (.bool r) ∧ ∃ p : Regrown, w'' = grow (redrawn w p.d) p.os := by
  subst hr
  exact Calls.regrown_of (K.right _ _ _ (hl.on (below_regrown w d os)) hs)
theorem kvN_bd (n : Int) : -9223372036854775808 ≤ kvN n ∧ kvN n ≤ 9223372036854775807 := by
  unfold kvN
  split
  · have := Wi.within_bd (n.tdiv 2) 0 9 (by omega); omega
  · omega

set_option maxRecDepth 100000 in
set_option maxHeartbeats 8000000 in
theorem putsB4 {G : World → Prop} (K : Oks G) (Q : Exit → Act → World → Prop) (W : World) (lv : Value) (l : List A4) (v : Int) (nb : Nat) (hl : RowA W lv l) (hr : Rise l) (h5 : l.length ≤ 5) (hs : Small l) (hf : ∀ x ∈ l, nameB x.1 = true ∧ rightV x.2.1 x.2.2.1 x.2.2.2 = true)
    (hnb : ∀ i, i < 7 → W.cell? ⟨nb, i, none⟩ = some (.string (nm i))) (v0 : -9223372036854775808 ≤ v) (v1 : v ≤ 9223372036854775807)
    (u0 u1 u2 u4 u5 u6 u7 u8 u10 u11 u12 u13 u14 u15 u16 u17 u18 u19 u20 u21 u22 u23 u24 u25 u26 u27 u28 u29 u30 u31 u32 u33 u34 u35 u36 u37 u38 u39 u40 u41 u42 u43 u44 u45 u46 u47 u48 u49 u50 u51 u52 u53 u54 u55 u56 u57 u58 u59 u60 u61 u62 u63 u64 u65 u66 u67 u68 u69 u70 u71 u72 u73 u74 u75 u76 u77 u78 u79 u80 u81 u82 u83 u84 u85 u86 u87 u88 u89 u90 u91 u92 u93 u94 u95 u96 u97 u98 u99 u100 u104 u105 u106 u107 u108 u109 u110 u111 u112 u113 u114 u115 u116 u117 u118 u119 u120 u121 u122 u123 u124 u125 u126 u127 u128 u129 u130 u131 u132 u133 u134 u135 u136 u137 u138 u139 u140 u141 : Value)
    (hQ : ∀ (w' : World) (u8 u18 u19 u20 u21 u103 u104 u105 u106 u107 u108 u109 u110 u111 u112 u113 u114 u115 u116 u117 u118 u119 u120 u121 u122 u123 u124 u125 u126 u127 u128 u129 u130 u131 u132 u133 u134 u135 u136 : Value), Below W.heap.size W w' → Q .normal ⟨#[u0, u1, u2, .int .i64 v, u4, u5, u6, u7, u8, lv, u10, u11, u12, u13, u14, u15, u16, u17, u18, u19, u20, u21, u22, u23, u24, u25, u26, u27, u28, u29, u30, u31, u32, u33, u34, u35, u36, u37, u38, u39, u40, u41, u42, u43, u44, u45, u46, u47, u48, u49, u50, u51, u52, u53, u54, u55, u56, u57, u58, u59, u60, u61, u62, u63, u64, u65, u66, u67, u68, u69, u70, u71, u72, u73, u74, u75, u76, u77, u78, u79, u80, u81, u82, u83, u84, u85, u86, u87, u88, u89, u90, u91, u92, u93, u94, u95, u96, u97, u98, u99, u100, .slice (some ⟨nb, 0, none⟩) 7 7, .int .i64 7, u103, u104, u105, u106, u107, u108, u109, u110, u111, u112, u113, u114, u115, u116, u117, u118, u119, u120, u121, u122, u123, u124, u125, u126, u127, u128, u129, u130, u131, u132, u133, u134, u135, u136, u137, u138, u139, u140, u141], []⟩ w') :
    Code.wp Tryd.prog (putsB 4) Q ⟨#[u0, u1, u2, .int .i64 v, u4, u5, u6, u7, u8, lv, u10, u11, u12, u13, u14, u15, u16, u17, u18, u19, u20, u21, u22, u23, u24, u25, u26, u27, u28, u29, u30, u31, u32, u33, u34, u35, u36, u37, u38, u39, u40, u41, u42, u43, u44, u45, u46, u47, u48, u49, u50, u51, u52, u53, u54, u55, u56, u57, u58, u59, u60, u61, u62, u63, u64, u65, u66, u67, u68, u69, u70, u71, u72, u73, u74, u75, u76, u77, u78, u79, u80, u81, u82, u83, u84, u85, u86, u87, u88, u89, u90, u91, u92, u93, u94, u95, u96, u97, u98, u99, u100, .slice (some ⟨nb, 0, none⟩) 7 7, .int .i64 7, .int .i64 0, u104, u105, u106, u107, u108, u109, u110, u111, u112, u113, u114, u115, u116, u117, u118, u119, u120, u121, u122, u123, u124, u125, u126, u127, u128, u129, u130, u131, u132, u133, u134, u135, u136, u137, u138, u139, u140, u141], []⟩ W := by
  have KK := Lib.hid K
  have HQ := Lib.hid hQ
  have HL := Lib.hid hl
  have HR := Lib.hid hr
  have HS := Lib.hid hs
  have HF := Lib.hid hf
  have HN := Lib.hid hnb
  have KV := Lib.hid (fun W => kvalue_any v W v0 v1)
  have KR := Lib.hid (kvalue_re v v0 v1)
  have VR := Lib.hid (kv_right v)
  have VS := Lib.hid (kvS_size v)
  have VB := Lib.hid (kvN_bd v)
  clear K hQ hl hr hs hf hnb v0 v1
  conv => arg 2; whnf
  go_wp2
  go_loopw [103] (fun i wr => ∃ k : Nat, k ≤ 7 ∧ i = .int .i64 k ∧ Below W.heap.size W wr) (fun i _ => 7 - (intOf i).toNat)
  case atStart => exact ⟨0, Nat.zero_le _, rfl, Below.refl _ _⟩
  case round =>
    obtain ⟨k, hk, rfl, hb⟩ := hrel
    have HB := Lib.hid hb
    by_cases hlt : k < 7
    · have hc : wr.cell? ⟨nb, k, none⟩ = some (.string (nm k)) := by rw [hb.cell (World.block_lt_of_cell? W _ (HN.out k hlt))]; exact HN.out k hlt
      have hk7 : (k : Int) < 7 := by omega
      have NB := Lib.hid (nameB_nm k hlt)
      have NS := Lib.hid (show (nm k).size ≤ maxLen by rw [nm_size]; decide)
      have N1 := Lib.hid (nm_size k)
      clear hb
      go_wp2_with fail
      refine (KV.out _).mono ?_
      rintro e1 w1 ⟨rfl, hb⟩
      have B1 := Lib.hid (HB.out.trans (hb.mono HB.out.size))
      clear hb hc
      generalize nm k = nm_ at NB NS N1 ⊢
      go_wp2_with fail
      refine (KK.out.put _ _ nm_ _ _ _ _ (HL.out.on B1.out) (by omega) HR.out NS.out).mono ?_
      rintro e2 w2 ⟨yv, rfl, hy, hb⟩
      have B2 := Lib.hid (B1.out.trans (hb.mono B1.out.size))
      have Y2 := Lib.hid hy
      have PL := put_len l nm_ ((!(evn v)), kvN v, kvS v) HR.out
      have hyl : (putA l nm_ ((!(evn v)), kvN v, kvS v)).length ≤ 6 := by split at PL <;> omega
      clear hb hy PL
      go_wp2_with fail
      refine (KK.out.get _ _ nm_ _ Y2.out (by omega) NS.out).mono ?_
      rintro e3 w3 ⟨rfl, hb⟩
      have hs3 := hb.size
      rw [get_put_self, gotV]
      have B3 := Lib.hid ((B2.out.trans (hb.mono B2.out.size)).alloc (B2.out.trans (hb.mono B2.out.size)).size (.cells #[.bool (!(evn v)), .int .i64 (kvN v), .string (kvS v)] 23))
      have Y3 := Lib.hid ((Y2.out.on hb).on ((Below.refl _ _).alloc (Nat.le_refl _) (.cells #[.bool (!(evn v)), .int .i64 (kvN v), .string (kvS v)] 23)))
      have c3 : ∀ i, (w3.alloc (.cells #[.bool (!(evn v)), .int .i64 (kvN v), .string (kvS v)] 23)).cell? ⟨w3.heap.size, i, none⟩ = #[.bool (!(evn v)), .int .i64 (kvN v), .string (kvS v)][i]? := fun i => by
        rw [World.cell?_alloc_at _ _ _ _ rfl]
      clear hb hs3 Y2
      have SY := Lib.hid (show Small (putA l nm_ ((!(evn v)), kvN v, kvS v)) from ⟨by omega, fun x hx => by
        rcases put_mem _ _ _ _ hx with rfl | h
        · exact ⟨by rw [N1.out]; omega, by have := VS.out; simp only; omega, VB.out.1, VB.out.2⟩
        · exact HS.out.2 x h⟩)
      have RY := Lib.hid (fun h5' => rightT_of (put_rise l nm_ ((!(evn v)), kvN v, kvS v) HR.out) (fun x hx => by
        rcases put_mem _ _ _ _ hx with rfl | h
        · exact ⟨NB.out, VR.out⟩
        · exact HF.out x h) h5')
      obtain ⟨yo, yc, hyv⟩ := Y3.out.len
      subst hyv
      generalize putA l nm_ ((!(evn v)), kvN v, kvS v) = y at Y3 hyl SY RY ⊢
      go_wp2
      generalize w3.alloc (.cells #[.bool (!(evn v)), .int .i64 (kvN v), .string (kvS v)] 23) = W4 at *
      have a0 := cell_regrown (c3 0)
      have a1 := cell_regrown (c3 1)
      have a2 := cell_regrown (c3 2)
      have ne := neqV (!(evn v)) (kvN v) (kvS v) (!(evn v)) (kvN v) (kvS v) true (by simp [eqlV])
      simp only [Bool.not_true] at ne
      have K4 := Lib.hid (KR.out W4)
      clear c3
      by_cases hy5 : y.length ≤ 5
      · have hd : decide ((y.length : Int) ≤ 5) = true := by simp; omega
        have R4 := Lib.hid (right_reK KK.out _ y W4 Y3.out SY.out true (RY.out hy5))
        refine wp_region_quiet_below (by kernel_rfl) (by kernel_rfl) ?_
        repeat (go_big_quiet_step (first | (with_reducible exact K4.out _ _) | (with_reducible exact R4.out _ _)))
        refine wpQuiet_nil ?_
        intro _ hw'
        obtain ⟨⟨dq, osq⟩, hw''⟩ := hw'
        subst hw''
        have BN := Lib.hid (B3.out.trans ((below_regrown W4 dq osq).mono B3.out.size))
        clear a0 a1 a2 ne hd
        go_wp2
        go_roundw
        case rel => exact ⟨k + 1, by omega, by go_num, BN.out⟩
        case measure => simp [intOf]; omega
      · have hd : decide ((y.length : Int) ≤ 5) = false := by simp; omega
        refine wp_region_quiet_below (by kernel_rfl) (by kernel_rfl) ?_
        repeat (go_big_quiet_step (with_reducible exact K4.out _ _))
        refine wpQuiet_nil ?_
        intro _ hw'
        obtain ⟨⟨dq, osq⟩, hw''⟩ := hw'
        subst hw''
        have BN := Lib.hid (B3.out.trans ((below_regrown W4 dq osq).mono B3.out.size))
        clear a0 a1 a2 ne hd
        go_wp2
        go_roundw
        case rel => exact ⟨k + 1, by omega, by go_num, BN.out⟩
        case measure => simp [intOf]; omega
    · obtain rfl : k = 7 := by omega
      clear hb
      go_wp2
      exact HQ.out wr _ _ _ _ _ _ _ _ _ _ _ _ _ _ _ _ _ _ _ _ _ _ _ _ _ _ _ _ _ _ _ _ _ _ _ _ _ _ _ HB.out
end Go.Proofs.YtpmhnmdienlgoaaDoor.At
