/-
  The law PredLimits, whole: it answers true at any four numbers. Condition: the contracts of package pred; numbers of 64 bits.
-/
import Derived.Test.YtbfecndhjlimaaaDoorPrLimE
namespace Go.Proofs.YtbfecndhjlimaaaDoor.Pr
open Go.RowKit Go.Sort Go.Proofs.YtbfecndhjlimaaaDoor Go.Proofs.YtbfecndhjlimaaaDoor.Pu Go.Proofs.YtbfecndhjlimaaaDoor.Rw Go.Proofs.YtbfecndhjlimaaaDoor.Va Go.Proofs.YtbfecndhjlimaaaDoor.Kp

noncomputable def lim4 : Code := .seq (lp 4) (.seq (lp 5) lim6)
set_option maxRecDepth 100000 in
set_option maxHeartbeats 4000000 in
theorem lim_4 {G : World → Prop} (K : POks G) (w W : World) (pv : Value) (k : Nat) (hk : k ≤ 7) (at_ lo hi : Int) (n0 : -9223372036854775808 ≤ at_) (n1 : at_ ≤ 9223372036854775807) (l0 : -9223372036854775808 ≤ lo) (l1 : lo ≤ 9223372036854775807) (h0 : -9223372036854775808 ≤ hi) (h1 : hi ≤ 9223372036854775807) (hg : G w) (hb : Below w.heap.size w W) (hp : RowC W pv ((lim k).map r5)) (u0 u4 u5 u6 u7 u8 u11 u12 u13 u14 u15 u16 u17 u18 u19 u20 u21 u22 u23 u24 u25 u26 u27 u28 u29 u30 u31 u32 u33 u34 u35 u36 u37 u38 u39 u40 u41 u42 u43 u44 u45 u46 u47 u48 u49 u50 u51 u52 u53 u54 u55 u56 u57 u58 u59 u60 u61 u62 u63 u64 u65 u66 u67 u68 u69 u70 u71 u72 u73 u74 u75 u76 u77 u78 u79 u80 u81 u82 u83 u84 u85 u86 u87 u88 u89 u90 u91 u92 u93 u94 u95 u96 u97 u98 u99 u100 u101 u102 u103 u104 u105 u106 u107 u108 u109 u110 u111 u112 u113 u114 u115 u116 u117 u118 u119 u120 u121 u122 u123 u124 u125 u126 u127 u128 u129 u130 u131 u132 u133 u134 u135 u136 u137 u138 u139 u140 u141 u142 u143 u144 u145 u146 u147 u148 u149 u150 u151 u152 u153 u154 u155 u156 u157 u158 u159 u160 u161 u162 u163 u164 u165 u166 : Value) :
    Code.wp Tryd.prog lim4 (bodyPost Tryd.prog Tryd.f5 (PFQ w)) ⟨(u0 :: .int .i64 at_ :: .int .i64 lo :: .int .i64 hi :: u4 :: u5 :: u6 :: u7 :: u8 :: .int .i64 (k : Nat) :: pv :: u11 :: u12 :: u13 :: u14 :: u15 :: u16 :: u17 :: u18 :: u19 :: u20 :: u21 :: u22 :: u23 :: u24 :: u25 :: u26 :: u27 :: u28 :: u29 :: u30 :: u31 :: u32 :: u33 :: u34 :: u35 :: u36 :: u37 :: u38 :: u39 :: u40 :: u41 :: u42 :: u43 :: u44 :: u45 :: u46 :: u47 :: u48 :: u49 :: u50 :: u51 :: u52 :: u53 :: u54 :: u55 :: u56 :: u57 :: u58 :: u59 :: u60 :: u61 :: u62 :: u63 :: u64 :: u65 :: u66 :: u67 :: u68 :: u69 :: u70 :: u71 :: u72 :: u73 :: u74 :: u75 :: u76 :: u77 :: u78 :: u79 :: u80 :: u81 :: u82 :: u83 :: u84 :: u85 :: u86 :: u87 :: u88 :: u89 :: u90 :: u91 :: u92 :: u93 :: u94 :: u95 :: u96 :: u97 :: u98 :: u99 :: u100 :: u101 :: u102 :: u103 :: u104 :: u105 :: u106 :: u107 :: u108 :: u109 :: u110 :: u111 :: u112 :: u113 :: u114 :: u115 :: u116 :: u117 :: u118 :: u119 :: u120 :: u121 :: u122 :: u123 :: u124 :: u125 :: u126 :: u127 :: u128 :: u129 :: u130 :: u131 :: u132 :: u133 :: u134 :: u135 :: u136 :: u137 :: u138 :: u139 :: u140 :: u141 :: u142 :: u143 :: u144 :: u145 :: u146 :: u147 :: u148 :: u149 :: u150 :: u151 :: u152 :: u153 :: u154 :: u155 :: u156 :: u157 :: u158 :: u159 :: u160 :: u161 :: u162 :: u163 :: u164 :: u165 :: u166 :: []).toArray, []⟩ W := by
  have HG := Lib.hid hg
  have B0 := Lib.hid hb
  have V := Lib.hid (And.intro (And.intro n0 n1) (And.intro (And.intro l0 l1) (And.intro h0 h1)))
  have SM : SmallP (lim k) := ⟨by rw [lim_len]; omega, lim_small⟩
  have GD : ∀ c ∈ lim k, goodC c = true := lim_good hk
  clear n0 n1 l0 l1 h0 h1
  unfold lim4
  conv => enter [2, 1]; whnf
  conv => enter [2, 2, 1]; whnf
  by_cases h5 : k ≤ 5
  · have C := make_ok K pv (lim k) (lim k) W (lim_ok h5) (K.bel _ _ hg hb) hp SM GD
    have d1 : decide ((k : Int) ≤ 5) = true := by simp; omega
    have d2 : decide ((5 : Int) < (k : Int)) = false := by simp; omega
    clear hg hb hp SM GD
    go_wp2_with fail
    refine C.mono ?_
    clear C
    rintro e1 w1 ⟨xv, rfl, hx, hb⟩
    have B1 := Lib.hid (B0.out.trans (hb.mono B0.out.size))
    obtain ⟨xo, xc, hxv⟩ := hx.len
    rw [List.length_map, lim_len] at hxv
    subst hxv
    clear hb hx
    go_wp2_with fail
    exact lim_6 K w w1 at_ lo hi V.out.1.1 V.out.1.2 V.out.2.1.1 V.out.2.1.2 V.out.2.2.1 V.out.2.2.2 HG.out B1.out _ _ _ _ _ _ _ _ _ _ _ _ _ _ _ _ _ _ _ _ _ _ _ _ _ _ _ _ _ _ _ _ _ _ _ _ _ _ _ _ _ _ _ _ _ _ _ _ _ _ _ _ _ _ _ _ _ _ _ _ _ _ _ _ _ _ _ _ _ _ _ _ _ _ _ _ _ _ _ _ _ _ _ _ _ _ _ _ _ _ _ _ _ _ _ _ _ _ _ _ _ _ _ _ _ _ _ _ _ _ _ _ _ _ _ _ _ _ _ _ _ _ _ _ _ _ _ _ _ _ _ _ _ _ _ _ _ _ _ _ _ _ _ _ _ _ _ _ _ _ _ _ _ _ _ _ _ _ _ _ _ _ _ _ 
  · have C := make_err K pv (lim k) 7 5 W (lim_err (by omega) hk) (K.bel _ _ hg hb) hp SM GD
    have d1 : decide ((k : Int) ≤ 5) = false := by simp; omega
    have d2 : decide ((5 : Int) < (k : Int)) = true := by simp; omega
    clear hg hb hp SM GD
    go_wp2_with fail
    refine C.mono ?_
    clear C
    rintro e1 w1 ⟨b, v, rfl, hch, hb⟩
    rw [show ((5 : Nat) : Int) = 5 from rfl] at hch
    have B1 := Lib.hid (B0.out.trans (hb.mono B0.out.size))
    have C1 := Lib.hid hch
    obtain ⟨rfl, v', hv', _⟩ := hch
    clear hb hv'
    have CK := Fa.Kind_E _ _ 7 w1 (K.eg _ (K.bel _ _ HG.out B1.out)) C1.out (falls1 _ _ _) (by simp)
    go_wp2_with fail
    refine CK.mono ?_
    clear CK
    rintro e2 w2 ⟨rfl, hb⟩
    have B2 := Lib.hid (B1.out.trans (hb.mono B1.out.size))
    have C2 := Lib.hid (C1.out.bel hb)
    clear hb
    obtain ⟨_, v2, hv2, _⟩ := C2.out
    have CP := Fa.Place_F b predTxt 5 v2 w2 (K.eg _ (K.bel _ _ HG.out B2.out)) hv2
    clear hv2
    go_wp2_with fail
    refine CP.mono ?_
    clear CP
    rintro e3 w3 ⟨rfl, hb⟩
    have B3 := Lib.hid (B2.out.trans (hb.mono B2.out.size))
    clear hb B1 C1 B2 C2
    go_wp2_with fail
    exact lim_6 K w w3 at_ lo hi V.out.1.1 V.out.1.2 V.out.2.1.1 V.out.2.1.2 V.out.2.2.1 V.out.2.2.2 HG.out B3.out _ _ _ _ _ _ _ _ _ _ _ _ _ _ _ _ _ _ _ _ _ _ _ _ _ _ _ _ _ _ _ _ _ _ _ _ _ _ _ _ _ _ _ _ _ _ _ _ _ _ _ _ _ _ _ _ _ _ _ _ _ _ _ _ _ _ _ _ _ _ _ _ _ _ _ _ _ _ _ _ _ _ _ _ _ _ _ _ _ _ _ _ _ _ _ _ _ _ _ _ _ _ _ _ _ _ _ _ _ _ _ _ _ _ _ _ _ _ _ _ _ _ _ _ _ _ _ _ _ _ _ _ _ _ _ _ _ _ _ _ _ _ _ _ _ _ _ _ _ _ _ _ _ _ _ _ _ _ _ _ _ _ _ _ 
set_option maxRecDepth 100000 in
set_option maxHeartbeats 4000000 in
theorem limits_any {G : World → Prop} (K : POks G) (n at_ lo hi : Int) (w : World) (hg : G w) (m0 : -9223372036854775808 ≤ n) (m1 : n ≤ 9223372036854775807) (n0 : -9223372036854775808 ≤ at_) (n1 : at_ ≤ 9223372036854775807) (l0 : -9223372036854775808 ≤ lo) (l1 : lo ≤ 9223372036854775807) (h0 : -9223372036854775808 ≤ hi) (h1 : hi ≤ 9223372036854775807) :
    Calls Tryd.prog 5 #[.int .i64 n, .int .i64 at_, .int .i64 lo, .int .i64 hi] w (PFQ w) := by
  have HG := Lib.hid hg
  have V := Lib.hid (And.intro (And.intro n0 n1) (And.intro (And.intro l0 l1) (And.intro h0 h1)))
  have WI := Lib.hid (fun wx => Wi.within_any n 0 7 wx (by omega) (by omega) (by omega) m0 m1)
  have wb := Wi.within_bd n 0 7 (by omega)
  obtain ⟨k, hkw⟩ := Int.eq_ofNat_of_zero_le wb.1
  have hk : k ≤ 7 := by omega
  rw [hkw] at WI
  clear hg m0 m1 n0 n1 l0 l1 h0 h1 wb hkw
  go_enter Tryd.func5, Tryd.ntmps5
  go_wp2_with fail
  have C := WI.out w
  refine C.mono ?_
  clear C
  rintro e1 w1 ⟨rfl, rfl⟩
  go_upto_block 0 with (fail)
  refine lim_loop _ w k hk _ _ _ _ _ _ _ _ _ _ _ _ _ _ _ _ _ _ _ _ _ _ _ _ _ _ _ _ _ _ _ _ _ _ _ _ _ _ _ _ _ _ _ _ _ _ _ _ _ _ _ _ _ _ _ _ _ _ _ _ _ _ _ _ _ _ _ _ _ _ _ _ _ _ _ _ _ _ _ _ _ _ _ _ _ _ _ _ _ _ _ _ _ _ _ _ _ _ _ _ _ _ _ _ _ _ _ _ _ _ _ _ _ _ _ _ _ _ _ _ _ _ _ _ _ _ _ _ _ _ _ _ _ _ _ _ _ _ _ _ _ _ _ _ _ _ _ _ _ _ _ _ _ _ _ _ _ _ _ _ _ _ _ _  ?_
  intro w2 pv u11 u28 u29 u30 u31 u32 u33 u34 u35 u36 u37 u38 u39 hb2 ho2
  simp only [Exit.then]
  apply_assumption
  exact lim_4 K w w2 pv k hk at_ lo hi V.out.1.1 V.out.1.2 V.out.2.1.1 V.out.2.1.2 V.out.2.2.1 V.out.2.2.2 HG.out hb2 (Row.of_own ho2) _ _ _ _ _ _ _ _ _ _ _ _ _ _ _ _ _ _ _ _ _ _ _ _ _ _ _ _ _ _ _ _ _ _ _ _ _ _ _ _ _ _ _ _ _ _ _ _ _ _ _ _ _ _ _ _ _ _ _ _ _ _ _ _ _ _ _ _ _ _ _ _ _ _ _ _ _ _ _ _ _ _ _ _ _ _ _ _ _ _ _ _ _ _ _ _ _ _ _ _ _ _ _ _ _ _ _ _ _ _ _ _ _ _ _ _ _ _ _ _ _ _ _ _ _ _ _ _ _ _ _ _ _ _ _ _ _ _ _ _ _ _ _ _ _ _ _ _ _ _ _ _ _ _ _ _ _ _ _ _ _ _ 
end Go.Proofs.YtbfecndhjlimaaaDoor.Pr
