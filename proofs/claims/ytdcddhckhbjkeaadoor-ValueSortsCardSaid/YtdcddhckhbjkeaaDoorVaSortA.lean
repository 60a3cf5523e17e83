/-
  The law ValueSorts: its inner loop, which looks for the place of a value. Condition: numbers of 64 bits.
-/
import Derived.Test.YtdcddhckhbjkeaaDoorVaSort
import Derived.Deep.CutBlock
namespace Go.Proofs.YtdcddhckhbjkeaaDoor.Va
open Go.RowKit Go.Sort Go.Proofs.YtdcddhckhbjkeaaDoor.Rg

def findBlock (k : Nat) : Code → Option Code
  | .block id c => if id = k then some (.block id c) else findBlock k c
  | .seq a b => match findBlock k a with
    | some c => some c
    | none => findBlock k b
  | .cond _ a b => match findBlock k a with
    | some c => some c
    | none => findBlock k b
  | .loop c => findBlock k c
  | .scope c => findBlock k c
  | _ => none
noncomputable def sortsB (k : Nat) : Code := ((Tryd.f6.body.bind (findBlock k)).getD .skip)
theorem index_run (g m len cap : Nat) (h : m < len) (w : World) : (Instr.indexAt 33 (.slice (some ⟨g, 0, none⟩) len cap) (.int .i64 m)).run Tryd.prog w = .ok (.pointer (some ⟨g, m * 3, none⟩)) w := by
  have h1 : (m : Int) < len := by omega
  simp [go_sem, Tryd.underlying33, h1]

set_option maxRecDepth 100000 in
set_option maxHeartbeats 4000000 in
theorem sortsB2 (Q : Exit → Act → World → Prop) (W : World) (lv : Value) (l : List V3) (pb : Nat) (v : V3) (hrow : RowL W lv l) (hlen : l.length ≤ 12)
    (hv0 : W.cell? ⟨pb, 0, none⟩ = some (.bool v.1)) (hv1 : W.cell? ⟨pb, 1, none⟩ = some (.int .i64 v.2.1)) (hv2 : W.cell? ⟨pb, 2, none⟩ = some (.string v.2.2))
    (u0 u1 u2 u4 u7 u8 u9 u10 u11 u12 u13 u14 u15 u16 u17 u18 u19 u20 u21 u22 u23 u24 u25 u26 u27 u28 u29 u30 u31 u32 u33 u34 u35 u36 u37 u38 u39 u40 u41 u42 u43 u44 u45 u46 u47 u48 u49 u50 u51 u52 u53 u54 u55 u56 u57 u58 u59 u60 u61 u62 u63 u64 u65 u66 u67 u68 u69 u70 u71 u72 u73 u74 u75 u76 u77 u78 u79 u80 u81 u82 u83 u84 u85 u86 u87 u88 u89 u90 u91 u92 u93 u94 u95 u96 u97 u98 u99 u100 u101 u102 u103 u104 u105 u106 u107 u108 u109 u110 u111 u112 u113 u114 u115 u116 u117 u118 u119 u120 u121 u122 u123 u124 u125 u126 u127 u128 u129 u130 u131 u132 u133 u134 : Value)
    (hQ : ∀ (k : Nat) (w' : World) (u6 u29 u30 u31 u32 u33 u34 u35 u36 u37 u38 u39 u40 u41 : Value), k ≤ l.length → Below W.heap.size W w' → (∀ (m : Nat) (y : V3), k ≤ m → l[m]? = some y → ltV v y = true) → (k = 0 ∨ ∃ p, l[k - 1]? = some p ∧ ltV v p = false) →
      u6 = .int .i64 k → Q .normal ⟨#[u0, u1, u2, lv, u4, .pointer (some ⟨pb, 0, none⟩), u6, u7, u8, u9, u10, u11, u12, u13, u14, u15, u16, u17, u18, u19, u20, u21, u22, u23, u24, u25, u26, u27, u28, u29, u30, u31, u32, u33, u34, u35, u36, u37, u38, u39, u40, u41, u42, u43, u44, u45, u46, u47, u48, u49, u50, u51, u52, u53, u54, u55, u56, u57, u58, u59, u60, u61, u62, u63, u64, u65, u66, u67, u68, u69, u70, u71, u72, u73, u74, u75, u76, u77, u78, u79, u80, u81, u82, u83, u84, u85, u86, u87, u88, u89, u90, u91, u92, u93, u94, u95, u96, u97, u98, u99, u100, u101, u102, u103, u104, u105, u106, u107, u108, u109, u110, u111, u112, u113, u114, u115, u116, u117, u118, u119, u120, u121, u122, u123, u124, u125, u126, u127, u128, u129, u130, u131, u132, u133, u134], []⟩ w') :
    Code.wp Tryd.prog (sortsB 2) Q ⟨#[u0, u1, u2, lv, u4, .pointer (some ⟨pb, 0, none⟩), .int .i64 l.length, u7, u8, u9, u10, u11, u12, u13, u14, u15, u16, u17, u18, u19, u20, u21, u22, u23, u24, u25, u26, u27, u28, u29, u30, u31, u32, u33, u34, u35, u36, u37, u38, u39, u40, u41, u42, u43, u44, u45, u46, u47, u48, u49, u50, u51, u52, u53, u54, u55, u56, u57, u58, u59, u60, u61, u62, u63, u64, u65, u66, u67, u68, u69, u70, u71, u72, u73, u74, u75, u76, u77, u78, u79, u80, u81, u82, u83, u84, u85, u86, u87, u88, u89, u90, u91, u92, u93, u94, u95, u96, u97, u98, u99, u100, u101, u102, u103, u104, u105, u106, u107, u108, u109, u110, u111, u112, u113, u114, u115, u116, u117, u118, u119, u120, u121, u122, u123, u124, u125, u126, u127, u128, u129, u130, u131, u132, u133, u134], []⟩ W := by
  have HQ := Lib.hid hQ
  have HR := Lib.hid hrow
  clear hQ hrow
  conv => arg 2; whnf
  go_wp2
  go_loopw [6] (fun i wr => ∃ k : Nat, k ≤ l.length ∧ i = .int .i64 k ∧ Below W.heap.size W wr ∧ (∀ (m : Nat) (y : V3), k ≤ m → l[m]? = some y → ltV v y = true)) (fun i _ => (intOf i).toNat)
  case atStart => exact ⟨l.length, Nat.le_refl _, rfl, Below.refl _ _, fun m y h1 h2 => by have := (List.getElem?_eq_some_iff.1 h2).1; omega⟩
  case round =>
    obtain ⟨k, hk, rfl, hb, hall⟩ := hrel
    have HB := Lib.hid hb
    have HA := Lib.hid hall
    clear hall
    have v0 : wr.cell? ⟨pb, 0, none⟩ = some (.bool v.1) := by rw [hb.cell (p := ⟨pb, 0, none⟩) (World.block_lt_of_cell? W _ hv0)]; exact hv0
    have v1 : wr.cell? ⟨pb, 1, none⟩ = some (.int .i64 v.2.1) := by rw [hb.cell (p := ⟨pb, 1, none⟩) (World.block_lt_of_cell? W _ hv1)]; exact hv1
    have v2 : wr.cell? ⟨pb, 2, none⟩ = some (.string v.2.2) := by rw [hb.cell (p := ⟨pb, 2, none⟩) (World.block_lt_of_cell? W _ hv2)]; exact hv2
    have hrw := HR.out.on hb
    clear hb
    have x0 := cell_regrown v0
    have x1 := cell_regrown v1
    have x2 := cell_regrown v2
    clear v0 v1 v2
    cases k with
    | zero =>
      have H := Lib.hid (HQ.out 0 wr)
      rw [show ((0 : Nat) : Int) = 0 from rfl]
      go_wp2
      refine wp_region_quiet_below (by kernel_rfl) (by kernel_rfl) ?_
      repeat (go_big_quiet_step (fail))
      refine wpQuiet_nil ?_
      intro _ hw'
      obtain ⟨⟨dq, osq⟩, hw''⟩ := hw'
      subst hw''
      have BN := Lib.hid (HB.out.trans ((below_regrown wr dq osq).mono HB.out.size))
      go_wp2
      exact HQ.out 0 _ _ _ _ _ _ _ _ _ _ _ _ _ _ _ hk BN.out HA.out (Or.inl rfl) rfl
    | succ m =>
      obtain ⟨y, hy⟩ : ∃ y, l[m]? = some y := ⟨l[m], List.getElem?_eq_getElem (by omega)⟩
      rcases hrw with ⟨rfl, _⟩ | ⟨g, cap, rfl, r1, r2, r3, r4⟩
      · simp at hy
      · have hf := flat_at l m y.1 y.2.1 y.2.2 hy
        have y0 := cell_regrown (r4 _ _ hf.1)
        have y1 := cell_regrown (r4 _ _ hf.2.1)
        have y2 := cell_regrown (r4 _ _ hf.2.2)
        have ix := index_run g m l.length cap (by omega)
        obtain ⟨r, hr⟩ : ∃ r, ltV v y = r := ⟨_, rfl⟩
        have LS := Lib.hid (less_re v.1 v.2.1 v.2.2 y.1 y.2.1 y.2.2 r hr wr)
        have HY := Lib.hid hy
        have HF := Lib.hid hr
        have HM := Lib.hid hk
        have hm : m + 1 ≤ 12 := by omega
        clear hf r4 hy hr hk
        rw [show ((m + 1 : Nat) : Int) = (m : Int) + 1 from rfl]
        have e35 : IntKind.i64.wrap ((m : Int) + 1 - 1) = m := by rw [show (m : Int) + 1 - 1 = m by omega]; exact IntWalk.i64_in _ (by omega)
        have e36 : (m : Int) + 1 - 1 = m := by omega
        cases r
        · go_wp2
          refine wp_region_quiet_below (by kernel_rfl) (by kernel_rfl) ?_
          repeat (go_big_quiet_step (with_reducible exact LS.out _ _))
          refine wpQuiet_nil ?_
          intro _ hw'
          obtain ⟨⟨dq, osq⟩, hw''⟩ := hw'
          subst hw''
          have BN := Lib.hid (HB.out.trans ((below_regrown wr dq osq).mono HB.out.size))
          go_wp2
          exact HQ.out (m + 1) _ _ _ _ _ _ _ _ _ _ _ _ _ _ _ HM.out BN.out HA.out (Or.inr ⟨y, HY.out, HF.out⟩) rfl
        · go_wp2
          refine wp_region_quiet_below (by kernel_rfl) (by kernel_rfl) ?_
          repeat (go_big_quiet_step (with_reducible exact LS.out _ _))
          refine wpQuiet_nil ?_
          intro _ hw'
          obtain ⟨⟨dq, osq⟩, hw''⟩ := hw'
          subst hw''
          have BN := Lib.hid (HB.out.trans ((below_regrown wr dq osq).mono HB.out.size))
          clear e35 e36
          go_wp2
          go_roundw
          case rel => exact ⟨m, by have := HM.out; omega, by go_num, BN.out, fun m' y' h1 h2 => by
            rcases Nat.eq_or_lt_of_le h1 with h3 | h3
            · subst h3
              have := HY.out
              rw [this] at h2
              rw [← Option.some.inj h2]
              exact HF.out
            · exact HA.out m' y' (by omega) h2⟩
          case measure => simp [intOf]
end Go.Proofs.YtdcddhckhbjkeaaDoor.Va
