/-
  The law PredLimits: its middle. Condition: the contracts of package pred; numbers of 64 bits.
-/
import Derived.Test.YtbfecndhjlimaaaDoorPrLimC
import Derived.Lib.QuietBelow
import Derived.BigQuiet
namespace Go.Proofs.YtbfecndhjlimaaaDoor.Pr
open Go.RowKit Go.Sort Go.Proofs.YtbfecndhjlimaaaDoor Go.Proofs.YtbfecndhjlimaaaDoor.Pu Go.Proofs.YtbfecndhjlimaaaDoor.Rw Go.Proofs.YtbfecndhjlimaaaDoor.Va Go.Proofs.YtbfecndhjlimaaaDoor.Kp

noncomputable def lp (k : Nat) : Code := headN k (Tryd.f5.body.getD .skip)
noncomputable def lim10 : Code := .seq (lp 10) (.seq (lp 11) (.seq (lp 12) lim13))
noncomputable def lim9 : Code := .seq (lp 9) lim10
noncomputable def lim6 : Code := .seq (lp 6) (.seq (lp 7) (.seq (lp 8) lim9))
set_option maxRecDepth 100000 in
set_option maxHeartbeats 4000000 in
theorem lim_10 {G : World → Prop} (K : POks G) (w W : World) (at_ : Int) (n0 : -9223372036854775808 ≤ at_) (n1 : at_ ≤ 9223372036854775807) (hg : G w) (hb : Below w.heap.size w W) (u0 u2 u3 u4 u5 u6 u7 u8 u9 u10 u11 u12 u13 u14 u15 u16 u17 u18 u19 u20 u21 u22 u23 u24 u25 u26 u27 u28 u29 u30 u31 u32 u33 u34 u35 u36 u37 u38 u39 u40 u41 u42 u43 u44 u45 u46 u47 u48 u49 u50 u51 u52 u53 u54 u55 u56 u57 u58 u59 u60 u61 u62 u63 u64 u65 u66 u67 u68 u69 u70 u71 u72 u73 u74 u75 u76 u77 u78 u79 u80 u81 u82 u83 u84 u85 u86 u87 u88 u89 u90 u91 u92 u93 u94 u95 u96 u97 u98 u99 u100 u101 u102 u103 u104 u105 u106 u107 u108 u109 u110 u111 u112 u113 u114 u115 u116 u117 u118 u119 u120 u121 u122 u123 u124 u125 u126 u127 u128 u129 u130 u131 u132 u133 u134 u135 u136 u137 u138 u139 u140 u141 u142 u143 u144 u145 u146 u147 u148 u149 u150 u151 u152 u153 u154 u155 u156 u157 u158 u159 u160 u161 u162 u163 u164 u165 u166 : Value) :
    Code.wp Tryd.prog lim10 (bodyPost Tryd.prog Tryd.f5 (PFQ w)) ⟨(u0 :: .int .i64 at_ :: u2 :: u3 :: u4 :: u5 :: u6 :: u7 :: u8 :: u9 :: u10 :: u11 :: u12 :: u13 :: u14 :: u15 :: u16 :: u17 :: u18 :: u19 :: u20 :: u21 :: u22 :: u23 :: u24 :: u25 :: u26 :: u27 :: u28 :: u29 :: u30 :: u31 :: u32 :: u33 :: u34 :: u35 :: u36 :: u37 :: u38 :: u39 :: u40 :: u41 :: u42 :: u43 :: u44 :: u45 :: u46 :: u47 :: u48 :: u49 :: u50 :: u51 :: u52 :: u53 :: u54 :: u55 :: u56 :: u57 :: u58 :: u59 :: u60 :: u61 :: u62 :: u63 :: u64 :: u65 :: u66 :: u67 :: u68 :: u69 :: u70 :: u71 :: u72 :: u73 :: u74 :: u75 :: u76 :: u77 :: u78 :: u79 :: u80 :: u81 :: u82 :: u83 :: u84 :: u85 :: u86 :: u87 :: u88 :: u89 :: u90 :: u91 :: u92 :: u93 :: u94 :: u95 :: u96 :: u97 :: u98 :: u99 :: u100 :: u101 :: u102 :: u103 :: u104 :: u105 :: u106 :: u107 :: u108 :: u109 :: u110 :: u111 :: u112 :: u113 :: u114 :: u115 :: u116 :: u117 :: u118 :: u119 :: u120 :: u121 :: u122 :: u123 :: u124 :: u125 :: u126 :: u127 :: u128 :: u129 :: u130 :: u131 :: u132 :: u133 :: u134 :: u135 :: u136 :: u137 :: u138 :: u139 :: u140 :: u141 :: u142 :: u143 :: u144 :: u145 :: u146 :: u147 :: u148 :: u149 :: u150 :: u151 :: u152 :: u153 :: u154 :: u155 :: u156 :: u157 :: u158 :: u159 :: u160 :: u161 :: u162 :: u163 :: u164 :: u165 :: u166 :: []).toArray, []⟩ W := by
  have HG := Lib.hid hg
  have B0 := Lib.hid hb
  have WI := Lib.hid (fun wx => Wi.within_any at_ 0 4 wx (by omega) (by omega) (by omega) n0 n1)
  have wb := Wi.within_bd at_ 0 4 (by omega)
  obtain ⟨c, hcw⟩ := Int.eq_ofNat_of_zero_le wb.1
  have hc : c ≤ 4 := by omega
  rw [hcw] at WI
  clear hg hb n0 n1 wb hcw
  unfold lim10
  conv => enter [2, 1]; whnf
  conv => enter [2, 2, 1]; whnf
  conv => enter [2, 2, 2, 1]; whnf
  go_wp2_with fail
  have C := WI.out W
  refine C.mono ?_
  clear C
  rintro e1 w1 ⟨rfl, rfl⟩
  go_upto_block 2 with (fail)
  refine many_loop _ W c hc _ _ _ _ _ _ _ _ _ _ _ _ _ _ _ _ _ _ _ _ _ _ _ _ _ _ _ _ _ _ _ _ _ _ _ _ _ _ _ _ _ _ _ _ _ _ _ _ _ _ _ _ _ _ _ _ _ _ _ _ _ _ _ _ _ _ _ _ _ _ _ _ _ _ _ _ _ _ _ _ _ _ _ _ _ _ _ _ _ _ _ _ _ _ _ _ _ _ _ _ _ _ _ _ _ _ _ _ _ _ _ _ _ _ _ _ _ _ _ _ _ _ _ _ _ _ _ _ _ _ _ _ _ _ _ _ _ _ _ _ _ _ _ _ _ _ _ _ _ _ _ _ _ _ _ _ _ _ _ _ _ _ _ _  ?_
  intro w2 pv u21 u22 u127 u128 u129 u130 u131 u132 u133 u134 u135 u136 u137 u138 u139 u140 u141 u142 hb2 ho2
  simp only [Exit.then]
  apply_assumption
  exact lim_13 K w w2 pv c hc HG.out (B0.out.trans (hb2.mono B0.out.size)) (Row.of_own ho2) _ _ _ _ _ _ _ _ _ _ _ _ _ _ _ _ _ _ _ _ _ _ _ _ _ _ _ _ _ _ _ _ _ _ _ _ _ _ _ _ _ _ _ _ _ _ _ _ _ _ _ _ _ _ _ _ _ _ _ _ _ _ _ _ _ _ _ _ _ _ _ _ _ _ _ _ _ _ _ _ _ _ _ _ _ _ _ _ _ _ _ _ _ _ _ _ _ _ _ _ _ _ _ _ _ _ _ _ _ _ _ _ _ _ _ _ _ _ _ _ _ _ _ _ _ _ _ _ _ _ _ _ _ _ _ _ _ _ _ _ _ _ _ _ _ _ _ _ _ _ _ _ _ _ _ _ _ _ _ _ _ _ _ _ _ 

theorem holdsR_re {G : World → Prop} (K : POks G) (a b n : Int) (hn : a ≤ n ∧ n ≤ b) (h0 : -9223372036854775808 ≤ a) (h1 : b ≤ 9223372036854775807) (w : World) (d : Nat) (os : Array Obj) :
    Calls Tryd.prog 20 #[cv (nZ, 1, a, b, ⟨#[]⟩), vl false n ⟨#[]⟩] (grow (redrawn w d) os) fun e w'' => e = .returned (.bool true) ∧ ∃ p : Regrown, w'' = grow (redrawn w p.d) p.os := by
  have h := K.holds (nZ, .rg a b) false n ⟨#[]⟩ (grow (redrawn w d) os) ⟨(by decide : nZ.size ≤ 100), (by decide : (0 : Nat) ≤ 100), ⟨h0, by show a ≤ _; omega⟩, by show _ ≤ b; omega, h1⟩ (by decide)
  rw [show holdsK (nZ, Kd.rg a b).2 (false, n, ⟨#[]⟩) = true by rw [hold_n]; simp [hn]] at h
  exact Calls.regrown_of h
theorem oneR_re {G : World → Prop} (K : POks G) (a b : Int) (r : Bool) (hr : decide (a ≤ b) = r) (h0 : -9223372036854775808 ≤ a ∧ a ≤ 9223372036854775807) (h1 : -9223372036854775808 ≤ b ∧ b ≤ 9223372036854775807) (w : World) (d : Nat) (os : Array Obj) :
    Calls Tryd.prog 21 #[cv (nZ, 1, a, b, ⟨#[]⟩)] (grow (redrawn w d) os) fun e w'' => e = .returned (.bool r) ∧ ∃ p : Regrown, w'' = grow (redrawn w p.d) p.os := by
  subst hr
  have h := K.one (nZ, .rg a b) (grow (redrawn w d) os) ⟨(by decide : nZ.size ≤ 100), (by decide : (0 : Nat) ≤ 100), h0, h1⟩
  rw [show goodC (nZ, Kd.rg a b) = decide (a ≤ b) by simp [goodC, goodK, show nameB nZ = true by decide]] at h
  exact Calls.regrown_of h

set_option maxRecDepth 100000 in
set_option maxHeartbeats 8000000 in
theorem lim_9 {G : World → Prop} (K : POks G) (w W : World) (at_ a b : Int) (xv : Value) (br : Nat) (hab : a ≤ b) (a0 : -9223372036854775808 ≤ a) (b1 : b ≤ 9223372036854775807) (n0 : -9223372036854775808 ≤ at_) (n1 : at_ ≤ 9223372036854775807) (hg : G w) (hb : Below w.heap.size w W)
    (hr : Box W br #[.string nZ, .int .i64 1, .int .i64 a, .int .i64 b, .string ⟨#[]⟩] 23) (hx : RowC W xv [(nZ, 1, a, b, ⟨#[]⟩)]) (u0 u2 u3 u4 u5 u6 u7 u8 u9 u10 u11 u12 u13 u19 u20 u21 u22 u23 u24 u25 u26 u27 u28 u29 u30 u31 u32 u33 u34 u35 u36 u37 u38 u39 u40 u41 u42 u43 u44 u45 u46 u47 u48 u49 u50 u51 u52 u53 u54 u55 u56 u57 u58 u59 u60 u61 u62 u63 u64 u65 u66 u67 u68 u69 u70 u71 u72 u73 u74 u75 u76 u77 u78 u79 u80 u81 u82 u83 u84 u85 u86 u87 u88 u89 u90 u91 u92 u93 u94 u95 u96 u97 u98 u99 u100 u101 u102 u103 u104 u105 u106 u107 u108 u109 u110 u111 u112 u113 u114 u115 u116 u117 u118 u119 u120 u121 u122 u123 u124 u125 u126 u127 u128 u129 u130 u131 u132 u133 u134 u135 u136 u137 u138 u139 u140 u141 u142 u143 u144 u145 u146 u147 u148 u149 u150 u151 u152 u153 u154 u155 u156 u157 u158 u159 u160 u161 u162 u163 u164 u165 u166 : Value) :
    Code.wp Tryd.prog lim9 (bodyPost Tryd.prog Tryd.f5 (PFQ w)) ⟨(u0 :: .int .i64 at_ :: u2 :: u3 :: u4 :: u5 :: u6 :: u7 :: u8 :: u9 :: u10 :: u11 :: u12 :: u13 :: .int .i64 a :: .int .i64 b :: .pointer (some ⟨br, 0, none⟩) :: xv :: .nilIface :: u19 :: u20 :: u21 :: u22 :: u23 :: u24 :: u25 :: u26 :: u27 :: u28 :: u29 :: u30 :: u31 :: u32 :: u33 :: u34 :: u35 :: u36 :: u37 :: u38 :: u39 :: u40 :: u41 :: u42 :: u43 :: u44 :: u45 :: u46 :: u47 :: u48 :: u49 :: u50 :: u51 :: u52 :: u53 :: u54 :: u55 :: u56 :: u57 :: u58 :: u59 :: u60 :: u61 :: u62 :: u63 :: u64 :: u65 :: u66 :: u67 :: u68 :: u69 :: u70 :: u71 :: u72 :: u73 :: u74 :: u75 :: u76 :: u77 :: u78 :: u79 :: u80 :: u81 :: u82 :: u83 :: u84 :: u85 :: u86 :: u87 :: u88 :: u89 :: u90 :: u91 :: u92 :: u93 :: u94 :: u95 :: u96 :: u97 :: u98 :: u99 :: u100 :: u101 :: u102 :: u103 :: u104 :: u105 :: u106 :: u107 :: u108 :: u109 :: u110 :: u111 :: u112 :: u113 :: u114 :: u115 :: u116 :: u117 :: u118 :: u119 :: u120 :: u121 :: u122 :: u123 :: u124 :: u125 :: u126 :: u127 :: u128 :: u129 :: u130 :: u131 :: u132 :: u133 :: u134 :: u135 :: u136 :: u137 :: u138 :: u139 :: u140 :: u141 :: u142 :: u143 :: u144 :: u145 :: u146 :: u147 :: u148 :: u149 :: u150 :: u151 :: u152 :: u153 :: u154 :: u155 :: u156 :: u157 :: u158 :: u159 :: u160 :: u161 :: u162 :: u163 :: u164 :: u165 :: u166 :: []).toArray, []⟩ W := by
  have HG := Lib.hid hg
  have B0 := Lib.hid hb
  have V := Lib.hid (And.intro n0 n1)
  obtain ⟨ao, ac, hv⟩ := hx.len
  have hv1 : xv = .slice ao 1 ac := hv
  obtain ⟨p, ix, px⟩ := elC (k := 0) (x := (nZ, 1, a, b, ⟨#[]⟩)) hx hv1 rfl rfl
  rw [show ((0 : Nat) : Int) = 0 from rfl] at ix
  subst hv1
  have HA := Lib.hid (holdsR_re K a b a ⟨Int.le_refl _, hab⟩ a0 b1 W)
  have HB := Lib.hid (holdsR_re K a b b ⟨hab, Int.le_refl _⟩ a0 b1 W)
  have x0 := cell_regrown (hr.cell 0)
  have x1 := cell_regrown (hr.cell 1)
  have x2 := cell_regrown (hr.cell 2)
  have x3 := cell_regrown (hr.cell 3)
  have x4 := cell_regrown (hr.cell 4)
  have p0 := cell_regrown (px W (Below.refl _ _)).1
  have p1 := cell_regrown (px W (Below.refl _ _)).2.1
  have p2 := cell_regrown (px W (Below.refl _ _)).2.2.1
  have p3 := cell_regrown (px W (Below.refl _ _)).2.2.2.1
  have p4 := cell_regrown (px W (Below.refl _ _)).2.2.2.2
  have ne := neqC (nZ, 1, a, b, ⟨#[]⟩) (nZ, 1, a, b, ⟨#[]⟩) true ((eqlC_iff _ _).2 rfl)
  simp only [Bool.not_true] at ne
  clear hg hb hr hx px hv
  unfold lim9
  conv => enter [2, 1]; whnf
  by_cases he : a = b
  · have O := Lib.hid (oneR_re K b a true (by simp [he]) ⟨by omega, b1⟩ ⟨a0, by omega⟩ W)
    have eb : ((a : Int) == b) = true := by simp [he]
    have HE := Lib.hid he
    clear he hab a0 b1 n0 n1
    go_wp2
    refine wp_region_quiet_below (by kernel_rfl) (by kernel_rfl) ?_
    repeat (go_big_quiet_step (first | (with_reducible exact HA.out _ _) | (with_reducible exact HB.out _ _) | (with_reducible exact O.out _ _)))
    refine wpQuiet_nil ?_
    intro _ hw'
    obtain ⟨⟨dq, osq⟩, hw''⟩ := hw'
    subst hw''
    go_wp2_with fail
    exact lim_10 K w _ at_ V.out.1 V.out.2 HG.out (B0.out.trans ((below_regrown W dq osq).mono B0.out.size)) _ _ _ _ _ _ _ _ _ _ _ _ _ _ _ _ _ _ _ _ _ _ _ _ _ _ _ _ _ _ _ _ _ _ _ _ _ _ _ _ _ _ _ _ _ _ _ _ _ _ _ _ _ _ _ _ _ _ _ _ _ _ _ _ _ _ _ _ _ _ _ _ _ _ _ _ _ _ _ _ _ _ _ _ _ _ _ _ _ _ _ _ _ _ _ _ _ _ _ _ _ _ _ _ _ _ _ _ _ _ _ _ _ _ _ _ _ _ _ _ _ _ _ _ _ _ _ _ _ _ _ _ _ _ _ _ _ _ _ _ _ _ _ _ _ _ _ _ _ _ _ _ _ _ _ _ _ _ _ _ _ _ _ _ _ _ 
  · have O := Lib.hid (oneR_re K b a false (by simp; omega) ⟨by omega, b1⟩ ⟨a0, by omega⟩ W)
    have eb : ((a : Int) == b) = false := by simp [he]
    have HE := Lib.hid he
    clear he hab a0 b1 n0 n1
    go_wp2
    refine wp_region_quiet_below (by kernel_rfl) (by kernel_rfl) ?_
    repeat (go_big_quiet_step (first | (with_reducible exact HA.out _ _) | (with_reducible exact HB.out _ _) | (with_reducible exact O.out _ _)))
    refine wpQuiet_nil ?_
    intro _ hw'
    obtain ⟨⟨dq, osq⟩, hw''⟩ := hw'
    subst hw''
    go_wp2_with fail
    exact lim_10 K w _ at_ V.out.1 V.out.2 HG.out (B0.out.trans ((below_regrown W dq osq).mono B0.out.size)) _ _ _ _ _ _ _ _ _ _ _ _ _ _ _ _ _ _ _ _ _ _ _ _ _ _ _ _ _ _ _ _ _ _ _ _ _ _ _ _ _ _ _ _ _ _ _ _ _ _ _ _ _ _ _ _ _ _ _ _ _ _ _ _ _ _ _ _ _ _ _ _ _ _ _ _ _ _ _ _ _ _ _ _ _ _ _ _ _ _ _ _ _ _ _ _ _ _ _ _ _ _ _ _ _ _ _ _ _ _ _ _ _ _ _ _ _ _ _ _ _ _ _ _ _ _ _ _ _ _ _ _ _ _ _ _ _ _ _ _ _ _ _ _ _ _ _ _ _ _ _ _ _ _ _ _ _ _ _ _ _ _ _ _ _ _ 
end Go.Proofs.YtbfecndhjlimaaaDoor.Pr
