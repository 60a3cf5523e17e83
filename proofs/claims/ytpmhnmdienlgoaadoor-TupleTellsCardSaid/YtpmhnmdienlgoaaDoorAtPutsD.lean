/-
  The law TuplePuts: the loop that makes another order. Condition: the contracts of package tuple; numbers of 64 bits; lists no longer than a machine holds.
-/
import Derived.Test.YtpmhnmdienlgoaaDoorAtPutsC
import Derived.Deep.Cut
import Derived.Deep.CutBlock
namespace Go.Proofs.YtpmhnmdienlgoaaDoor.At
open Go.RowKit Go.Sort Go.Proofs.YtpmhnmdienlgoaaDoor.Va Go.Proofs.YtpmhnmdienlgoaaDoor.In Go.Proofs.YtpmhnmdienlgoaaDoor.Rg
open Go.Proofs.YtpmhnmdienlgoaaDoor.Wi

set_option maxRecDepth 100000 in
set_option maxHeartbeats 1500000 in
theorem putsB0 (Q : Exit → Act → World → Prop) (W : World) (qv ov : Value) (zs : List Int) (l own : List A4) (hz : InInts W qv zs) (lz : zs.length ≤ maxLen) (ho : RowA W ov own) (hp : own.Perm l) (h7 : l.length ≤ 7)
    (u0 u1 u3 u4 u5 u6 u7 u8 u9 u10 u13 u14 u15 u16 u17 u18 u19 u20 u21 u22 u23 u24 u25 u26 u27 u28 u29 u30 u31 u32 u33 u34 u35 u36 u37 u38 u39 u40 u41 u42 u43 u44 u45 u46 u47 u48 u49 u50 u51 u52 u53 u54 u55 u56 u57 u58 u59 u60 u61 u62 u63 u64 u65 u66 u67 u68 u69 u70 u71 u72 u73 u74 u75 u76 u77 u78 u79 u80 u81 u82 u83 u84 u85 u86 u87 u88 u89 u90 u91 u92 u93 u94 u95 u96 u97 u98 u99 u100 u101 u102 u103 u104 u105 u106 u107 u108 u109 u110 u111 u112 u113 u114 u115 u116 u117 u118 u119 u120 u121 u122 u123 u124 u125 u126 u127 u128 u129 u130 u131 u132 u133 u134 u135 u136 u137 u138 u139 u140 u141 : Value)
    (hQ : ∀ (own : List A4) (w' : World) (u11 u12 u13 u29 u30 u31 u32 u33 u34 u35 u36 u37 u38 u39 u40 u41 u42 u43 u44 u45 u46 u47 u48 u49 u50 u51 u52 u53 u54 u55 u56 u57 u58 u59 u60 u61 u62 u63 : Value), own.Perm l → RowA w' u11 own → Below W.heap.size W w' → Q .normal ⟨#[u0, u1, qv, u3, u4, u5, u6, u7, u8, u9, u10, u11, u12, u13, u14, u15, u16, u17, u18, u19, u20, u21, u22, u23, u24, u25, u26, u27, u28, u29, u30, u31, u32, u33, u34, u35, u36, u37, u38, u39, u40, u41, u42, u43, u44, u45, u46, u47, u48, u49, u50, u51, u52, u53, u54, u55, u56, u57, u58, u59, u60, u61, u62, u63, u64, u65, u66, u67, u68, u69, u70, u71, u72, u73, u74, u75, u76, u77, u78, u79, u80, u81, u82, u83, u84, u85, u86, u87, u88, u89, u90, u91, u92, u93, u94, u95, u96, u97, u98, u99, u100, u101, u102, u103, u104, u105, u106, u107, u108, u109, u110, u111, u112, u113, u114, u115, u116, u117, u118, u119, u120, u121, u122, u123, u124, u125, u126, u127, u128, u129, u130, u131, u132, u133, u134, u135, u136, u137, u138, u139, u140, u141], []⟩ w') :
    Code.wp Tryd.prog (putsB 0) Q ⟨#[u0, u1, qv, u3, u4, u5, u6, u7, u8, u9, u10, ov, .int .i64 0, u13, u14, u15, u16, u17, u18, u19, u20, u21, u22, u23, u24, u25, u26, u27, u28, u29, u30, u31, u32, u33, u34, u35, u36, u37, u38, u39, u40, u41, u42, u43, u44, u45, u46, u47, u48, u49, u50, u51, u52, u53, u54, u55, u56, u57, u58, u59, u60, u61, u62, u63, u64, u65, u66, u67, u68, u69, u70, u71, u72, u73, u74, u75, u76, u77, u78, u79, u80, u81, u82, u83, u84, u85, u86, u87, u88, u89, u90, u91, u92, u93, u94, u95, u96, u97, u98, u99, u100, u101, u102, u103, u104, u105, u106, u107, u108, u109, u110, u111, u112, u113, u114, u115, u116, u117, u118, u119, u120, u121, u122, u123, u124, u125, u126, u127, u128, u129, u130, u131, u132, u133, u134, u135, u136, u137, u138, u139, u140, u141], []⟩ W := by
  have HQ := Lib.hid hQ
  have HZ := Lib.hid hz
  have HO := Lib.hid ho
  have HP := Lib.hid hp
  unfold maxLen at lz
  obtain ⟨qo, qc, hq⟩ := hz.shape
  subst hq
  clear hQ hz ho hp
  conv => arg 2; whnf
  go_wp2
  go_loopw [11, 12] (fun x i wr => ∃ (own : List A4) (k : Nat), k ≤ zs.length ∧ i = .int .i64 k ∧ own.Perm l ∧ RowA wr x own ∧ Below W.heap.size W wr) (fun _ i _ => zs.length - (intOf i).toNat)
  case atStart => exact ⟨own, 0, Nat.zero_le _, rfl, HP.out, HO.out, Below.refl _ _⟩
  case round =>
    clear HO HP
    obtain ⟨own, k, hk, rfl, hpm, hr, hb⟩ := hrel
    have HB := Lib.hid hb
    have HR := Lib.hid hr
    have HP := Lib.hid hpm
    have h7o : own.length ≤ 7 := by have := hpm.length_eq; omega
    obtain ⟨xo, xc, hxv⟩ := hr.len
    subst hxv
    clear hb hr hpm
    by_cases hlt : k < zs.length
    · by_cases h2 : 1 < own.length
      · obtain ⟨z, hzz⟩ : ∃ z, zs[k]? = some z := ⟨zs[k], List.getElem?_eq_getElem hlt⟩
        obtain ⟨⟨z1, z2⟩, p, hp, hix, hpc⟩ := HZ.out.at_ k z hzz
        have hpw : wr.cell? p = some (.int .i64 z) := by rw [HB.out.cell hp]; exact hpc
        have WI := Lib.hid (fun w => within_any z 0 ((own.length : Int) - 1) w (by omega) (by omega) (by omega) z1 z2)
        have WB := Lib.hid (within_bd z 0 ((own.length : Int) - 1) (by omega))
        clear hzz hp hpc z1 z2
        go_wp2_with fail
        refine (WI.out _).mono ?_
        rintro e1 w1 ⟨rfl, rfl⟩
        obtain ⟨n, hn⟩ : ∃ n : Nat, within z 0 ((own.length : Int) - 1) = n := ⟨_, (Int.toNat_of_nonneg WB.out.1).symm⟩
        have hno : n < own.length := by have := WB.out.2; omega
        rw [hn]
        clear WI WB hix hpw hn
        obtain ⟨⟨xn, xt, xi, xs⟩, hx⟩ : ∃ x, own[n]? = some x := ⟨_, List.getElem?_eq_getElem hno⟩
        obtain ⟨pa, ix, px⟩ := row_cells HR.out rfl rfl hx
        obtain ⟨lo, hlo, slo⟩ := srcA_lo HR.out (by omega) n (by omega)
        obtain ⟨hi, hhi, shi⟩ := srcA_hi HR.out (by omega) (n + 1) (by omega)
        have LD := Lib.hid (fun (w : World) (hw : Below wr.heap.size wr w) => load_run4 w pa xn xt xi xs (px w hw))
        have HLO := Lib.hid hlo
        have HHI := Lib.hid hhi
        have SLO := Lib.hid slo
        have SHI := Lib.hid shi
        have IX := Lib.hid ix
        have PM := Lib.hid ((rot_perm hx).trans HP.out)
        clear hlo slo hhi shi ix px hx
        go_wp2
        refine Rot_any _ _ _ _ lo hi n (own.length - (n + 1)) pa xn xt xi xs (flatA (own.take n)) (flatA (own.drop (n + 1))) rfl rfl rfl IX.out LD.out HLO.out HHI.out SLO.out SHI.out (flatA_one _) (flatA_one _) (by omega) (by omega) ?_
        intro a w3 df sz kp bel own_
        obtain ⟨u11, u48, u49, u50, u51, u52, u53, u54, u55, u56, u57, u58, u59, u60, u61, u62, u63, e3, ea⟩ := puts_frame df sz rfl kp
        rw [e3] at own_
        subst ea
        have OW := Lib.hid (show RowA w3 u11 ((xn, xt, xi, xs) :: (own.take n ++ own.drop (n + 1))) by
          refine RowA.of_owns (B := wr.heap.size) ?_
          rw [flatA, flatA_append, show ((xn, xt, xi, xs) :: (own.take n ++ own.drop (n + 1))).length = 1 + n + (own.length - (n + 1)) by simp; omega]
          simpa using own_)
        have B3 := Lib.hid (HB.out.trans (bel.mono HB.out.size))
        clear own_ bel e3 kp df sz
        simp only [List.setIfInBounds_toArray, List.set_cons_succ, List.set_cons_zero]
        go_wp2
        go_roundw
        case rel => exact ⟨_, k + 1, by omega, by go_num, PM.out, OW.out, B3.out⟩
        case measure => simp [intOf]; omega
      · go_wp2
        exact HQ.out own wr _ _ _ _ _ _ _ _ _ _ _ _ _ _ _ _ _ _ _ _ _ _ _ _ _ _ _ _ _ _ _ _ _ _ _ _ _ _ HP.out HR.out HB.out
    · go_wp2
      exact HQ.out own wr _ _ _ _ _ _ _ _ _ _ _ _ _ _ _ _ _ _ _ _ _ _ _ _ _ _ _ _ _ _ _ _ _ _ _ _ _ _ HP.out HR.out HB.out
end Go.Proofs.YtpmhnmdienlgoaaDoor.At
