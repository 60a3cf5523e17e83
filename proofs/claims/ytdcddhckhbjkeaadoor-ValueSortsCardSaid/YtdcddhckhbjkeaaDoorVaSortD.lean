/-
  The law ValueSorts: its second loop, which counts and compares, whole. Condition: numbers of 64 bits.
-/
import Derived.Test.YtdcddhckhbjkeaaDoorVaSortC
import Derived.Deep.CutBlock
namespace Go.Proofs.YtdcddhckhbjkeaaDoor.Va
open Go.RowKit Go.Sort Go.Proofs.YtdcddhckhbjkeaaDoor.Rg

/-- The places of two neighbours in order. -/
theorem next_ok {p v : V3} (h : ltV v p = false) : (p.1 = true → v.1 = true) ∧ (p.1 = false → v.1 = false → decide (v.2.1 < p.2.1) = false) ∧ (p.1 = true → v.1 = true → Op.bytesLess v.2.2.toList p.2.2.toList = false) := by
  obtain ⟨pt, pn, ps⟩ := p
  obtain ⟨vt, vn, vs⟩ := v
  cases pt <;> cases vt <;> simp_all [ltV, VaP.lessV]
set_option maxRecDepth 100000 in
set_option maxHeartbeats 8000000 in
theorem sortsB4 (Q : Exit → Act → World → Prop) (W : World) (lv : Value) (l : List V3) (hrow : RowL W lv l) (hlen : l.length ≤ 12) (hord : Ord l)
    (u0 u1 u2 u4 u5 u6 u7 u8 u9 u10 u11 u12 u13 u14 u15 u16 u17 u18 u19 u20 u21 u22 u23 u24 u25 u26 u27 u28 u29 u30 u31 u32 u33 u34 u35 u36 u37 u38 u39 u40 u41 u42 u43 u44 u45 u46 u47 u48 u49 u50 u51 u52 u53 u57 u58 u59 u60 u61 u62 u63 u64 u65 u66 u67 u68 u69 u70 u71 u72 u73 u74 u75 u76 u77 u78 u79 u80 u81 u82 u83 u84 u85 u86 u87 u88 u89 u90 u91 u92 u93 u94 u95 u96 u97 u98 u99 u100 u101 u102 u103 u104 u105 u106 u107 u108 u109 u110 u111 u112 u113 u114 u115 u116 u117 u118 u119 u120 u121 u122 u123 u124 u125 u126 u127 u128 u129 u130 u131 u132 u133 u134 : Value)
    (hQ : ∀ (w' : World) (u2 u7 u8 u9 u11 u56 u57 u58 u59 u60 u61 u62 u63 u64 u65 u66 u67 u68 u69 u70 u71 u72 u73 u74 u75 u76 u77 u78 u79 u80 u81 u82 u83 u84 u85 u86 u87 u88 u89 u90 u91 u92 u93 u94 u95 u96 u97 u98 u99 u100 u101 u102 u103 u104 u105 u106 u107 u108 u109 u110 u111 u112 u113 u114 u115 u116 u117 u118 u119 u120 u121 u122 u123 u124 u125 u126 u127 u128 : Value), Below W.heap.size W w' → Q .normal ⟨#[u0, u1, u2, lv, u4, u5, u6, u7, u8, u9, u10, u11, u12, u13, u14, u15, u16, u17, u18, u19, u20, u21, u22, u23, u24, u25, u26, u27, u28, u29, u30, u31, u32, u33, u34, u35, u36, u37, u38, u39, u40, u41, u42, u43, u44, u45, u46, u47, u48, u49, u50, u51, u52, u53, lv, .int .i64 l.length, u56, u57, u58, u59, u60, u61, u62, u63, u64, u65, u66, u67, u68, u69, u70, u71, u72, u73, u74, u75, u76, u77, u78, u79, u80, u81, u82, u83, u84, u85, u86, u87, u88, u89, u90, u91, u92, u93, u94, u95, u96, u97, u98, u99, u100, u101, u102, u103, u104, u105, u106, u107, u108, u109, u110, u111, u112, u113, u114, u115, u116, u117, u118, u119, u120, u121, u122, u123, u124, u125, u126, u127, u128, u129, u130, u131, u132, u133, u134], []⟩ w') :
    Code.wp Tryd.prog (sortsB 4) Q ⟨#[u0, u1, u2, lv, u4, u5, u6, u7, u8, u9, u10, u11, u12, u13, u14, u15, u16, u17, u18, u19, u20, u21, u22, u23, u24, u25, u26, u27, u28, u29, u30, u31, u32, u33, u34, u35, u36, u37, u38, u39, u40, u41, u42, u43, u44, u45, u46, u47, u48, u49, u50, u51, u52, u53, lv, .int .i64 l.length, .int .i64 0, u57, u58, u59, u60, u61, u62, u63, u64, u65, u66, u67, u68, u69, u70, u71, u72, u73, u74, u75, u76, u77, u78, u79, u80, u81, u82, u83, u84, u85, u86, u87, u88, u89, u90, u91, u92, u93, u94, u95, u96, u97, u98, u99, u100, u101, u102, u103, u104, u105, u106, u107, u108, u109, u110, u111, u112, u113, u114, u115, u116, u117, u118, u119, u120, u121, u122, u123, u124, u125, u126, u127, u128, u129, u130, u131, u132, u133, u134], []⟩ W := by
  have HQ := Lib.hid hQ
  have HR := Lib.hid hrow
  have HO := Lib.hid hord
  clear hQ hrow hord
  conv => arg 2; whnf
  go_wp2
  go_loopw [56] (fun m wr => ∃ b : Nat, b ≤ l.length ∧ m = .int .i64 b ∧ Below W.heap.size W wr) (fun m _ => l.length - (intOf m).toNat)
  case atStart => exact ⟨0, Nat.zero_le _, rfl, Below.refl _ _⟩
  case round =>
    obtain ⟨m, hml, rfl, hb⟩ := hrel
    have HB := Lib.hid hb
    have hrw := HR.out.on hb
    clear hb
    by_cases hlt : m < l.length
    · obtain ⟨⟨vt, vn, vs⟩, hv⟩ : ∃ y, l[m]? = some y := ⟨l[m], List.getElem?_eq_getElem hlt⟩
      have RW := Lib.hid hrw
      rcases hrw with ⟨rfl, _⟩ | ⟨g, cap, rfl, r1, r2, r3, r4⟩
      · simp at hv
      · have hf := flat_at l m vt vn vs hv
        have y0 := r4 _ _ hf.1
        have y1 := r4 _ _ hf.2.1
        have y2 := r4 _ _ hf.2.2
        have ix := index_run g m l.length cap hlt
        have R4 := Lib.hid r4
        have HV := Lib.hid hv
        clear hf r4 hv
        go_upto_block 6 with (fail)
        refine sortsB6 _ _ _ l _ m (vt, vn, vs) (RW.out.on ((Below.refl _ _).alloc (Nat.le_refl _) _)) hlen HO.out HV.out (by rw [World.cell?_alloc_at _ _ _ _ rfl]; rfl) (by rw [World.cell?_alloc_at _ _ _ _ rfl]; rfl) (by rw [World.cell?_alloc_at _ _ _ _ rfl]; rfl) _ _ _ _ _ _ _ _ _ _ _ _ _ _ _ _ _ _ _ _ _ _ _ _ _ _ _ _ _ _ _ _ _ _ _ _ _ _ _ _ _ _ _ _ _ _ _ _ _ _ _ _ _ _ _ _ _ _ _ _ _ _ _ _ _ _ _ _ _ _ _ _ _ _ _ _ _ _ _ _ _ _ _ _ _ _ _ _ _ _ _ _ _ _ _ _ _ _ _ _ _ _ _ _ _ _ _ _ _ _ _ _ _ _ _ _ _ _ _ _ _ _ _ _ _ _ _ _ _ _ ?_
        rintro c w2 x11 x63 x64 x65 x66 x67 x68 x69 x70 x71 x72 hc hb2
        have BW := Lib.hid ((HB.out.alloc HB.out.size (.cells #[.bool vt, .int .i64 vn, .string vs] 24)).trans (hb2.mono (by have := HB.out.size; simp; omega)))
        have hz : ∀ i, w2.cell? ⟨wr.heap.size, i, none⟩ = #[.bool vt, .int .i64 vn, .string vs][i]? := fun i => by
          rw [hb2.cell (p := ⟨wr.heap.size, i, none⟩) (by simp), World.cell?_alloc_at _ _ _ _ rfl]
        have z0 := cell_regrown (hz 0)
        have z1 := cell_regrown (hz 1)
        have z2 := cell_regrown (hz 2)
        have hcm : decide ((m : Int) < (c : Int)) = false := by simp; omega
        have HC := Lib.hid hc
        have hb3 : Below wr.heap.size wr w2 := ((Below.refl _ _).alloc (Nat.le_refl _) _).trans (hb2.mono (by simp))
        clear hz y0 y1 y2 ix hc
        cases m with
        | zero =>
          obtain rfl : c = 0 := by have := HC.out; omega
          clear hb2 R4 hcm hb3
          rw [show ((0 : Nat) : Int) = 0 from rfl]
          go_wp2
          refine wp_region_quiet_below (by kernel_rfl) (by kernel_rfl) ?_
          repeat (go_big_quiet_step (fail))
          refine wpQuiet_nil ?_
          intro _ hw'
          obtain ⟨⟨dq, osq⟩, hw''⟩ := hw'
          subst hw''
          have BN := Lib.hid (BW.out.trans ((below_regrown w2 dq osq).mono BW.out.size))
          go_wp2
          go_roundw
          case rel => exact ⟨1, by omega, rfl, BN.out⟩
          case measure => simp [intOf]; omega
        | succ k =>
          obtain ⟨⟨pt, pn, ps⟩, hp⟩ : ∃ y, l[k]? = some y := ⟨l[k], List.getElem?_eq_getElem (by omega)⟩
          have hg := flat_at l k pt pn ps hp
          have p0 := cell_regrown ((hb3.cell (p := ⟨g, k * 3, none⟩) r3).trans (R4.out _ _ hg.1))
          have p1 := cell_regrown ((hb3.cell (p := ⟨g, k * 3 + 1, none⟩) r3).trans (R4.out _ _ hg.2.1))
          have p2 := cell_regrown ((hb3.cell (p := ⟨g, k * 3 + 2, none⟩) r3).trans (R4.out _ _ hg.2.2))
          have ix := index_run g k l.length cap (by omega)
          have nk := next_ok (HO.out.at (Nat.lt_succ_self k) hp HV.out)
          clear hb2 R4 hb3 hg hp r3
          rw [show ((k + 1 : Nat) : Int) = (k : Int) + 1 from rfl] at hcm ⊢
          have e35 : IntKind.i64.wrap ((k : Int) + 1 - 1) = k := by rw [show (k : Int) + 1 - 1 = k by omega]; exact IntWalk.i64_in _ (by omega)
          have e36 : (k : Int) + 1 - 1 = k := by omega
          cases pt <;> cases vt
          · have n2 := nk.2.1 rfl rfl
            simp only at n2
            clear nk
            go_wp2
            refine wp_region_quiet_below (by kernel_rfl) (by kernel_rfl) ?_
            repeat (go_big_quiet_step (fail))
            refine wpQuiet_nil ?_
            intro _ hw'
            obtain ⟨⟨dq, osq⟩, hw''⟩ := hw'
            subst hw''
            have BN := Lib.hid (BW.out.trans ((below_regrown w2 dq osq).mono BW.out.size))
            go_wp2
            go_roundw
            case rel => exact ⟨k + 1 + 1, by omega, by go_num, BN.out⟩
            case measure => simp [intOf]; omega
          · clear nk
            go_wp2
            refine wp_region_quiet_below (by kernel_rfl) (by kernel_rfl) ?_
            repeat (go_big_quiet_step (fail))
            refine wpQuiet_nil ?_
            intro _ hw'
            obtain ⟨⟨dq, osq⟩, hw''⟩ := hw'
            subst hw''
            have BN := Lib.hid (BW.out.trans ((below_regrown w2 dq osq).mono BW.out.size))
            go_wp2
            go_roundw
            case rel => exact ⟨k + 1 + 1, by omega, by go_num, BN.out⟩
            case measure => simp [intOf]; omega
          · exact absurd (nk.1 rfl) (by simp)
          · have n3 := nk.2.2 rfl rfl
            simp only at n3
            clear nk
            rcases VaP.bl_total ps.toList vs.toList with h | h | h
            · have n4 : Op.bytesLess ps.toList vs.toList = true := h
              clear h n3
              go_wp2
              refine wp_region_quiet_below (by kernel_rfl) (by kernel_rfl) ?_
              repeat (go_big_quiet_step (fail))
              refine wpQuiet_nil ?_
              intro _ hw'
              obtain ⟨⟨dq, osq⟩, hw''⟩ := hw'
              subst hw''
              have BN := Lib.hid (BW.out.trans ((below_regrown w2 dq osq).mono BW.out.size))
              go_wp2
              go_roundw
              case rel => exact ⟨k + 1 + 1, by omega, by go_num, BN.out⟩
              case measure => simp [intOf]; omega
            · have n4 : (ps.toList == vs.toList) = true := by rw [h]; exact beq_self_eq_true _
              clear h n3
              go_wp2
              refine wp_region_quiet_below (by kernel_rfl) (by kernel_rfl) ?_
              repeat (go_big_quiet_step (fail))
              refine wpQuiet_nil ?_
              intro _ hw'
              obtain ⟨⟨dq, osq⟩, hw''⟩ := hw'
              subst hw''
              have BN := Lib.hid (BW.out.trans ((below_regrown w2 dq osq).mono BW.out.size))
              go_wp2
              go_roundw
              case rel => exact ⟨k + 1 + 1, by omega, by go_num, BN.out⟩
              case measure => simp [intOf]; omega
            · rw [n3] at h; cases h
    · obtain rfl : m = l.length := by omega
      go_wp2
      exact HQ.out wr _ _ _ _ _ _ _ _ _ _ _ _ _ _ _ _ _ _ _ _ _ _ _ _ _ _ _ _ _ _ _ _ _ _ _ _ _ _ _ _ _ _ _ _ _ _ _ _ _ _ _ _ _ _ _ _ _ _ _ _ _ _ _ _ _ _ _ _ _ _ _ _ _ _ _ _ _ _ HB.out
end Go.Proofs.YtdcddhckhbjkeaaDoor.Va
