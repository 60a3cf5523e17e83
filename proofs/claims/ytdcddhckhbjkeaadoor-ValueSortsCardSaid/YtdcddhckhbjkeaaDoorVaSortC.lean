/-
  The law ValueSorts: its second loop, which counts and compares. Condition: numbers of 64 bits.
-/
import Derived.Test.YtdcddhckhbjkeaaDoorVaSortB
import Derived.Deep.CutBlock
namespace Go.Proofs.YtdcddhckhbjkeaaDoor.Va
open Go.RowKit Go.Sort Go.Proofs.YtdcddhckhbjkeaaDoor.Rg

theorem ltV_irrefl (x : V3) : ltV x x = false := VaP.lessV_irrefl _ _ _
set_option maxRecDepth 100000 in
set_option maxHeartbeats 8000000 in
theorem sortsB6 (Q : Exit → Act → World → Prop) (W : World) (lv : Value) (l : List V3) (pb i : Nat) (v : V3) (hrow : RowL W lv l) (hlen : l.length ≤ 12) (hord : Ord l) (hvi : l[i]? = some v)
    (hv0 : W.cell? ⟨pb, 0, none⟩ = some (.bool v.1)) (hv1 : W.cell? ⟨pb, 1, none⟩ = some (.int .i64 v.2.1)) (hv2 : W.cell? ⟨pb, 2, none⟩ = some (.string v.2.2))
    (u0 u1 u2 u3 u4 u5 u6 u7 u10 u11 u12 u13 u14 u15 u16 u17 u18 u19 u20 u21 u22 u23 u24 u25 u26 u27 u28 u29 u30 u31 u32 u33 u34 u35 u36 u37 u38 u39 u40 u41 u42 u43 u44 u45 u46 u47 u48 u49 u50 u51 u52 u53 u54 u55 u56 u57 u58 u59 u60 u64 u65 u66 u67 u68 u69 u70 u71 u72 u73 u74 u75 u76 u77 u78 u79 u80 u81 u82 u83 u84 u85 u86 u87 u88 u89 u90 u91 u92 u93 u94 u95 u96 u97 u98 u99 u100 u101 u102 u103 u104 u105 u106 u107 u108 u109 u110 u111 u112 u113 u114 u115 u116 u117 u118 u119 u120 u121 u122 u123 u124 u125 u126 u127 u128 u129 u130 u131 u132 u133 u134 : Value)
    (hQ : ∀ (c : Nat) (w' : World) (u11 u63 u64 u65 u66 u67 u68 u69 u70 u71 u72 : Value), c ≤ i → Below W.heap.size W w' → Q .normal ⟨#[u0, u1, u2, u3, u4, u5, u6, u7, .pointer (some ⟨pb, 0, none⟩), .int .i64 c, u10, u11, u12, u13, u14, u15, u16, u17, u18, u19, u20, u21, u22, u23, u24, u25, u26, u27, u28, u29, u30, u31, u32, u33, u34, u35, u36, u37, u38, u39, u40, u41, u42, u43, u44, u45, u46, u47, u48, u49, u50, u51, u52, u53, u54, u55, u56, u57, u58, u59, u60, lv, .int .i64 l.length, u63, u64, u65, u66, u67, u68, u69, u70, u71, u72, u73, u74, u75, u76, u77, u78, u79, u80, u81, u82, u83, u84, u85, u86, u87, u88, u89, u90, u91, u92, u93, u94, u95, u96, u97, u98, u99, u100, u101, u102, u103, u104, u105, u106, u107, u108, u109, u110, u111, u112, u113, u114, u115, u116, u117, u118, u119, u120, u121, u122, u123, u124, u125, u126, u127, u128, u129, u130, u131, u132, u133, u134], []⟩ w') :
    Code.wp Tryd.prog (sortsB 6) Q ⟨#[u0, u1, u2, u3, u4, u5, u6, u7, .pointer (some ⟨pb, 0, none⟩), .int .i64 0, u10, u11, u12, u13, u14, u15, u16, u17, u18, u19, u20, u21, u22, u23, u24, u25, u26, u27, u28, u29, u30, u31, u32, u33, u34, u35, u36, u37, u38, u39, u40, u41, u42, u43, u44, u45, u46, u47, u48, u49, u50, u51, u52, u53, u54, u55, u56, u57, u58, u59, u60, lv, .int .i64 l.length, .int .i64 0, u64, u65, u66, u67, u68, u69, u70, u71, u72, u73, u74, u75, u76, u77, u78, u79, u80, u81, u82, u83, u84, u85, u86, u87, u88, u89, u90, u91, u92, u93, u94, u95, u96, u97, u98, u99, u100, u101, u102, u103, u104, u105, u106, u107, u108, u109, u110, u111, u112, u113, u114, u115, u116, u117, u118, u119, u120, u121, u122, u123, u124, u125, u126, u127, u128, u129, u130, u131, u132, u133, u134], []⟩ W := by
  have HQ := Lib.hid hQ
  have HR := Lib.hid hrow
  have HO := Lib.hid hord
  have HV := Lib.hid hvi
  clear hQ hrow hord hvi
  conv => arg 2; whnf
  go_wp2
  go_loopw [9, 63] (fun c m wr => ∃ (a b : Nat), a ≤ b ∧ a ≤ i ∧ b ≤ l.length ∧ c = .int .i64 a ∧ m = .int .i64 b ∧ Below W.heap.size W wr) (fun _ m _ => l.length - (intOf m).toNat)
  case atStart => exact ⟨0, 0, Nat.le_refl _, Nat.zero_le _, Nat.zero_le _, rfl, rfl, Below.refl _ _⟩
  case round =>
    obtain ⟨c, m, hcm, hci, hml, rfl, rfl, hb⟩ := hrel
    have HB := Lib.hid hb
    have v0 : wr.cell? ⟨pb, 0, none⟩ = some (.bool v.1) := by rw [hb.cell (p := ⟨pb, 0, none⟩) (World.block_lt_of_cell? W _ hv0)]; exact hv0
    have v1 : wr.cell? ⟨pb, 1, none⟩ = some (.int .i64 v.2.1) := by rw [hb.cell (p := ⟨pb, 1, none⟩) (World.block_lt_of_cell? W _ hv1)]; exact hv1
    have v2 : wr.cell? ⟨pb, 2, none⟩ = some (.string v.2.2) := by rw [hb.cell (p := ⟨pb, 2, none⟩) (World.block_lt_of_cell? W _ hv2)]; exact hv2
    have hpb := World.block_lt_of_cell? wr _ v0
    have hrw := HR.out.on hb
    clear hb
    by_cases hlt : m < l.length
    · obtain ⟨y, hy⟩ : ∃ y, l[m]? = some y := ⟨l[m], List.getElem?_eq_getElem hlt⟩
      rcases hrw with ⟨rfl, _⟩ | ⟨g, cap, rfl, r1, r2, r3, r4⟩
      · simp at hy
      · have hf := flat_at l m y.1 y.2.1 y.2.2 hy
        have y0 := r4 _ _ hf.1
        have y1 := r4 _ _ hf.2.1
        have y2 := r4 _ _ hf.2.2
        have ix := index_run g m l.length cap hlt
        obtain ⟨r, hr⟩ : ∃ r, ltV y v = r := ⟨_, rfl⟩
        have LS := Lib.hid (fun W => less_any y.1 y.2.1 y.2.2 v.1 v.2.1 v.2.2 W)
        rw [show VaP.lessV y.1 y.2.1 y.2.2.toList v.1 v.2.1 v.2.2.toList = r from hr] at LS
        have HM : r = true → m < i := fun h => by
          rcases Nat.lt_trichotomy m i with h1 | h1 | h1
          · exact h1
          · subst h1
            have h2 := HV.out
            rw [hy] at h2
            rw [Option.some.inj h2, ltV_irrefl] at hr
            rw [← hr] at h; cases h
          · rw [HO.out.at h1 HV.out hy] at hr
            rw [← hr] at h; cases h
        have HM := Lib.hid HM
        clear hf r4 hy hr
        cases r
        all_goals
          go_wp2_with fail
          refine (LS.out _).mono ?_
          rintro e1 w1 ⟨rfl, hb1⟩
          have BN := Lib.hid ((HB.out.alloc HB.out.size (.cells #[.bool y.1, .int .i64 y.2.1, .string y.2.2] 24)).trans (hb1.mono (by have := HB.out.size; simp; omega)))
          clear hb1
        · go_wp2
          go_roundw
          case rel => exact ⟨c, m + 1, by omega, hci, by omega, rfl, by go_num, BN.out⟩
          case measure => simp [intOf]; omega
        · have hmi := HM.out (by first | rfl | trivial)
          go_wp2
          go_roundw
          case rel => exact ⟨c + 1, m + 1, by omega, by omega, by omega, by go_num, by go_num, BN.out⟩
          case measure => simp [intOf]; omega
    · obtain rfl : m = l.length := by omega
      go_wp2
      exact HQ.out c wr _ _ _ _ _ _ _ _ _ _ _ hci HB.out
end Go.Proofs.YtdcddhckhbjkeaaDoor.Va
