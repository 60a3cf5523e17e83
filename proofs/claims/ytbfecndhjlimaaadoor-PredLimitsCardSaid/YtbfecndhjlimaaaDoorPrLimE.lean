/-
  The law PredLimits: its first parts, and whole. Condition: the contracts of package pred; numbers of 64 bits.
-/
import Derived.Test.YtbfecndhjlimaaaDoorPrLimD
namespace Go.Proofs.YtbfecndhjlimaaaDoor.Pr
open Go.RowKit Go.Sort Go.Proofs.YtbfecndhjlimaaaDoor Go.Proofs.YtbfecndhjlimaaaDoor.Pu Go.Proofs.YtbfecndhjlimaaaDoor.Rw Go.Proofs.YtbfecndhjlimaaaDoor.Va Go.Proofs.YtbfecndhjlimaaaDoor.Kp

theorem ok_full {G : World → Prop} (K : POks G) (a b : Int) (hab : a ≤ b) (a0 : -9223372036854775808 ≤ a) (b1 : b ≤ 9223372036854775807) (lv : Value) (w : World) (hg : G w) (hl : RowC w lv [(nZ, 1, a, b, ⟨#[]⟩), (nZ, 1, -9223372036854775808, 9223372036854775807, ⟨#[]⟩)]) :
    Calls Tryd.prog 9 #[lv] w fun e w' => ∃ pv, e = .returned (.tuple #[pv, .nilIface]) ∧ RowC w' pv [(nZ, 1, a, b, ⟨#[]⟩)] ∧ Below w.heap.size w w' :=
  make_ok K lv [(nZ, .rg a b), (nZ, .rg (-9223372036854775808) 9223372036854775807)] [(nZ, .rg a b)] w (full_ok a b hab a0 b1) hg hl
    ⟨by simp, fun c hc => by
      simp only [List.mem_cons, List.not_mem_nil, or_false] at hc
      rcases hc with rfl | rfl
      · exact ⟨(by decide : nZ.size ≤ 100), (by decide : (0 : Nat) ≤ 100), ⟨a0, by show a ≤ _; omega⟩, by show _ ≤ b; omega, b1⟩
      · exact ⟨(by decide : nZ.size ≤ 100), (by decide : (0 : Nat) ≤ 100), ⟨by simp [kLo], by simp [kLo]⟩, by simp [kHi], by simp [kHi]⟩⟩
    (fun c hc => by
      simp only [List.mem_cons, List.not_mem_nil, or_false] at hc
      rcases hc with rfl | rfl
      · simp [goodC, goodK, show nameB nZ = true by decide, hab]
      · decide)
set_option maxRecDepth 100000 in
set_option maxHeartbeats 4000000 in
theorem lim_6 {G : World → Prop} (K : POks G) (w W : World) (at_ lo hi : Int) (n0 : -9223372036854775808 ≤ at_) (n1 : at_ ≤ 9223372036854775807) (l0 : -9223372036854775808 ≤ lo) (l1 : lo ≤ 9223372036854775807) (h0 : -9223372036854775808 ≤ hi) (h1 : hi ≤ 9223372036854775807) (hg : G w) (hb : Below w.heap.size w W) (u0 u4 u5 u6 u7 u8 u9 u10 u11 u12 u13 u14 u15 u16 u17 u18 u19 u20 u21 u22 u23 u24 u25 u26 u27 u28 u29 u30 u31 u32 u33 u34 u35 u36 u37 u38 u39 u40 u41 u42 u43 u44 u45 u46 u47 u48 u49 u50 u51 u52 u53 u54 u55 u56 u57 u58 u59 u60 u61 u62 u63 u64 u65 u66 u67 u68 u69 u70 u71 u72 u73 u74 u75 u76 u77 u78 u79 u80 u81 u82 u83 u84 u85 u86 u87 u88 u89 u90 u91 u92 u93 u94 u95 u96 u97 u98 u99 u100 u101 u102 u103 u104 u105 u106 u107 u108 u109 u110 u111 u112 u113 u114 u115 u116 u117 u118 u119 u120 u121 u122 u123 u124 u125 u126 u127 u128 u129 u130 u131 u132 u133 u134 u135 u136 u137 u138 u139 u140 u141 u142 u143 u144 u145 u146 u147 u148 u149 u150 u151 u152 u153 u154 u155 u156 u157 u158 u159 u160 u161 u162 u163 u164 u165 u166 : Value) :
    Code.wp Tryd.prog lim6 (bodyPost Tryd.prog Tryd.f5 (PFQ w)) ⟨(u0 :: .int .i64 at_ :: .int .i64 lo :: .int .i64 hi :: u4 :: u5 :: u6 :: u7 :: u8 :: u9 :: u10 :: u11 :: u12 :: u13 :: u14 :: u15 :: u16 :: u17 :: u18 :: u19 :: u20 :: u21 :: u22 :: u23 :: u24 :: u25 :: u26 :: u27 :: u28 :: u29 :: u30 :: u31 :: u32 :: u33 :: u34 :: u35 :: u36 :: u37 :: u38 :: u39 :: u40 :: u41 :: u42 :: u43 :: u44 :: u45 :: u46 :: u47 :: u48 :: u49 :: u50 :: u51 :: u52 :: u53 :: u54 :: u55 :: u56 :: u57 :: u58 :: u59 :: u60 :: u61 :: u62 :: u63 :: u64 :: u65 :: u66 :: u67 :: u68 :: u69 :: u70 :: u71 :: u72 :: u73 :: u74 :: u75 :: u76 :: u77 :: u78 :: u79 :: u80 :: u81 :: u82 :: u83 :: u84 :: u85 :: u86 :: u87 :: u88 :: u89 :: u90 :: u91 :: u92 :: u93 :: u94 :: u95 :: u96 :: u97 :: u98 :: u99 :: u100 :: u101 :: u102 :: u103 :: u104 :: u105 :: u106 :: u107 :: u108 :: u109 :: u110 :: u111 :: u112 :: u113 :: u114 :: u115 :: u116 :: u117 :: u118 :: u119 :: u120 :: u121 :: u122 :: u123 :: u124 :: u125 :: u126 :: u127 :: u128 :: u129 :: u130 :: u131 :: u132 :: u133 :: u134 :: u135 :: u136 :: u137 :: u138 :: u139 :: u140 :: u141 :: u142 :: u143 :: u144 :: u145 :: u146 :: u147 :: u148 :: u149 :: u150 :: u151 :: u152 :: u153 :: u154 :: u155 :: u156 :: u157 :: u158 :: u159 :: u160 :: u161 :: u162 :: u163 :: u164 :: u165 :: u166 :: []).toArray, []⟩ W := by
  have HG := Lib.hid hg
  have B0 := Lib.hid hb
  have V := Lib.hid (And.intro n0 n1)
  clear hg hb n0 n1
  unfold lim6
  conv => enter [2, 1]; whnf
  conv => enter [2, 2, 1]; whnf
  conv => enter [2, 2, 2, 1]; whnf
  rcases Int.lt_trichotomy lo hi with hlt | heq | hgt
  · have hle : lo ≤ hi := by omega
    have hn : ¬ hi < lo := by omega
    have BX := Lib.hid (box_new W #[.string nZ, .int .i64 1, .int .i64 lo, .int .i64 hi, .string ⟨#[]⟩] 23)
    have B1 := Lib.hid (B0.out.alloc B0.out.size (.cells #[.string nZ, .int .i64 1, .int .i64 lo, .int .i64 hi, .string ⟨#[]⟩] 23))
    have R2 := Lib.hid (row_two (W.alloc (.cells #[.string nZ, .int .i64 1, .int .i64 lo, .int .i64 hi, .string ⟨#[]⟩] 23)) (nZ, 1, lo, hi, ⟨#[]⟩) (nZ, 1, -9223372036854775808, 9223372036854775807, ⟨#[]⟩))
    have e1 : (W.alloc (.cells #[.string nZ, .int .i64 1, .int .i64 lo, .int .i64 hi, .string ⟨#[]⟩] 23)).heap.size = W.heap.size + 1 := by simp
    rw [e1] at R2
    have B2 := Lib.hid (B1.out.alloc B1.out.size (.cells #[.string nZ, .int .i64 1, .int .i64 lo, .int .i64 hi, .string ⟨#[]⟩, .string nZ, .int .i64 1, .int .i64 (-9223372036854775808), .int .i64 9223372036854775807, .string ⟨#[]⟩] 23))
    have X2 := Lib.hid (BX.out.more (.cells #[.string nZ, .int .i64 1, .int .i64 lo, .int .i64 hi, .string ⟨#[]⟩, .string nZ, .int .i64 1, .int .i64 (-9223372036854775808), .int .i64 9223372036854775807, .string ⟨#[]⟩] 23))
    have C := ok_full K lo hi hle l0 h1 _ _ (K.bel _ _ HG.out B2.out) R2.out
    clear e1
    go_wp2_with fail
    refine C.mono ?_
    clear C
    rintro e3 w3 ⟨xv, rfl, hx, hb⟩
    have B3 := Lib.hid (B2.out.trans (hb.mono B2.out.size))
    have X3 := Lib.hid (X2.out.on hb)
    have R3 := Lib.hid hx
    clear hb hx
    go_wp2_with fail
    exact lim_9 K w w3 at_ lo hi xv W.heap.size hle l0 h1 V.out.1 V.out.2 HG.out B3.out X3.out R3.out _ _ _ _ _ _ _ _ _ _ _ _ _ _ _ _ _ _ _ _ _ _ _ _ _ _ _ _ _ _ _ _ _ _ _ _ _ _ _ _ _ _ _ _ _ _ _ _ _ _ _ _ _ _ _ _ _ _ _ _ _ _ _ _ _ _ _ _ _ _ _ _ _ _ _ _ _ _ _ _ _ _ _ _ _ _ _ _ _ _ _ _ _ _ _ _ _ _ _ _ _ _ _ _ _ _ _ _ _ _ _ _ _ _ _ _ _ _ _ _ _ _ _ _ _ _ _ _ _ _ _ _ _ _ _ _ _ _ _ _ _ _ _ _ _ _ _ _ _ _ _ _ _ _ _ _ _ _ _ _ _ 
  · subst heq
    have hle : lo ≤ lo := Int.le_refl _
    have hn : ¬ lo < lo := by omega
    have BX := Lib.hid (box_new W #[.string nZ, .int .i64 1, .int .i64 lo, .int .i64 lo, .string ⟨#[]⟩] 23)
    have B1 := Lib.hid (B0.out.alloc B0.out.size (.cells #[.string nZ, .int .i64 1, .int .i64 lo, .int .i64 lo, .string ⟨#[]⟩] 23))
    have R2 := Lib.hid (row_two (W.alloc (.cells #[.string nZ, .int .i64 1, .int .i64 lo, .int .i64 lo, .string ⟨#[]⟩] 23)) (nZ, 1, lo, lo, ⟨#[]⟩) (nZ, 1, -9223372036854775808, 9223372036854775807, ⟨#[]⟩))
    have e1 : (W.alloc (.cells #[.string nZ, .int .i64 1, .int .i64 lo, .int .i64 lo, .string ⟨#[]⟩] 23)).heap.size = W.heap.size + 1 := by simp
    rw [e1] at R2
    have B2 := Lib.hid (B1.out.alloc B1.out.size (.cells #[.string nZ, .int .i64 1, .int .i64 lo, .int .i64 lo, .string ⟨#[]⟩, .string nZ, .int .i64 1, .int .i64 (-9223372036854775808), .int .i64 9223372036854775807, .string ⟨#[]⟩] 23))
    have X2 := Lib.hid (BX.out.more (.cells #[.string nZ, .int .i64 1, .int .i64 lo, .int .i64 lo, .string ⟨#[]⟩, .string nZ, .int .i64 1, .int .i64 (-9223372036854775808), .int .i64 9223372036854775807, .string ⟨#[]⟩] 23))
    have C := ok_full K lo lo hle l0 l1 _ _ (K.bel _ _ HG.out B2.out) R2.out
    clear e1
    go_wp2_with fail
    refine C.mono ?_
    clear C
    rintro e3 w3 ⟨xv, rfl, hx, hb⟩
    have B3 := Lib.hid (B2.out.trans (hb.mono B2.out.size))
    have X3 := Lib.hid (X2.out.on hb)
    have R3 := Lib.hid hx
    clear hb hx
    go_wp2_with fail
    exact lim_9 K w w3 at_ lo lo xv W.heap.size hle l0 l1 V.out.1 V.out.2 HG.out B3.out X3.out R3.out _ _ _ _ _ _ _ _ _ _ _ _ _ _ _ _ _ _ _ _ _ _ _ _ _ _ _ _ _ _ _ _ _ _ _ _ _ _ _ _ _ _ _ _ _ _ _ _ _ _ _ _ _ _ _ _ _ _ _ _ _ _ _ _ _ _ _ _ _ _ _ _ _ _ _ _ _ _ _ _ _ _ _ _ _ _ _ _ _ _ _ _ _ _ _ _ _ _ _ _ _ _ _ _ _ _ _ _ _ _ _ _ _ _ _ _ _ _ _ _ _ _ _ _ _ _ _ _ _ _ _ _ _ _ _ _ _ _ _ _ _ _ _ _ _ _ _ _ _ _ _ _ _ _ _ _ _ _ _ _ _ 
  · have hle : hi ≤ lo := by omega
    have hn : ¬ lo < hi := by omega
    have BX := Lib.hid (box_new W #[.string nZ, .int .i64 1, .int .i64 hi, .int .i64 lo, .string ⟨#[]⟩] 23)
    have B1 := Lib.hid (B0.out.alloc B0.out.size (.cells #[.string nZ, .int .i64 1, .int .i64 hi, .int .i64 lo, .string ⟨#[]⟩] 23))
    have R2 := Lib.hid (row_two (W.alloc (.cells #[.string nZ, .int .i64 1, .int .i64 hi, .int .i64 lo, .string ⟨#[]⟩] 23)) (nZ, 1, hi, lo, ⟨#[]⟩) (nZ, 1, -9223372036854775808, 9223372036854775807, ⟨#[]⟩))
    have e1 : (W.alloc (.cells #[.string nZ, .int .i64 1, .int .i64 hi, .int .i64 lo, .string ⟨#[]⟩] 23)).heap.size = W.heap.size + 1 := by simp
    rw [e1] at R2
    have B2 := Lib.hid (B1.out.alloc B1.out.size (.cells #[.string nZ, .int .i64 1, .int .i64 hi, .int .i64 lo, .string ⟨#[]⟩, .string nZ, .int .i64 1, .int .i64 (-9223372036854775808), .int .i64 9223372036854775807, .string ⟨#[]⟩] 23))
    have X2 := Lib.hid (BX.out.more (.cells #[.string nZ, .int .i64 1, .int .i64 hi, .int .i64 lo, .string ⟨#[]⟩, .string nZ, .int .i64 1, .int .i64 (-9223372036854775808), .int .i64 9223372036854775807, .string ⟨#[]⟩] 23))
    have C := ok_full K hi lo hle h0 l1 _ _ (K.bel _ _ HG.out B2.out) R2.out
    clear e1
    go_wp2_with fail
    refine C.mono ?_
    clear C
    rintro e3 w3 ⟨xv, rfl, hx, hb⟩
    have B3 := Lib.hid (B2.out.trans (hb.mono B2.out.size))
    have X3 := Lib.hid (X2.out.on hb)
    have R3 := Lib.hid hx
    clear hb hx
    go_wp2_with fail
    exact lim_9 K w w3 at_ hi lo xv W.heap.size hle h0 l1 V.out.1 V.out.2 HG.out B3.out X3.out R3.out _ _ _ _ _ _ _ _ _ _ _ _ _ _ _ _ _ _ _ _ _ _ _ _ _ _ _ _ _ _ _ _ _ _ _ _ _ _ _ _ _ _ _ _ _ _ _ _ _ _ _ _ _ _ _ _ _ _ _ _ _ _ _ _ _ _ _ _ _ _ _ _ _ _ _ _ _ _ _ _ _ _ _ _ _ _ _ _ _ _ _ _ _ _ _ _ _ _ _ _ _ _ _ _ _ _ _ _ _ _ _ _ _ _ _ _ _ _ _ _ _ _ _ _ _ _ _ _ _ _ _ _ _ _ _ _ _ _ _ _ _ _ _ _ _ _ _ _ _ _ _ _ _ _ _ _ _ _ _ _ _ 
end Go.Proofs.YtbfecndhjlimaaaDoor.Pr
