/-
  The law TupleNames: the rest of its code. Condition: the contracts of package tuple; numbers of 64 bits; lists no longer than a machine holds.
-/
import Derived.Test.YtpmhnmdienlgoaaDoorAtNamesD
import Derived.Deep.Cut
import Derived.Deep.CutBlock
namespace Go.Proofs.YtpmhnmdienlgoaaDoor.At
open Go.RowKit Go.Sort Go.Proofs.YtpmhnmdienlgoaaDoor.Va Go.Proofs.YtpmhnmdienlgoaaDoor.In Go.Proofs.YtpmhnmdienlgoaaDoor.Rg

open Go.Proofs.YtpmhnmdienlgoaaDoor.Wi
set_option maxHeartbeats 1000000 in
theorem swp_frame {a : Act} {base : Array Value} (df : a.defers = []) (sz : a.tmps.size = 126) (hb : base.size = 126) (kp : ∀ j, (j < 74 ∨ 87 < j) → a.tmps[j]? = base[j]?) :
    ∃ u74 u75 u76 u77 u78 u79 u80 u81 u82 u83 u84 u85 u86 u87 : Value,  a = ⟨((((((((((((((base.setIfInBounds 74 u74).setIfInBounds 75 u75).setIfInBounds 76 u76).setIfInBounds 77 u77).setIfInBounds 78 u78).setIfInBounds 79 u79).setIfInBounds 80 u80).setIfInBounds 81 u81).setIfInBounds 82 u82).setIfInBounds 83 u83).setIfInBounds 84 u84).setIfInBounds 85 u85).setIfInBounds 86 u86).setIfInBounds 87 u87), []⟩ := by
  obtain ⟨tmps, defers⟩ := a
  have hd : defers = [] := df
  have hs : tmps.size = 126 := sz
  subst hd
  refine ⟨(⟨tmps, []⟩ : Act).eval (.tmp 74), (⟨tmps, []⟩ : Act).eval (.tmp 75), (⟨tmps, []⟩ : Act).eval (.tmp 76), (⟨tmps, []⟩ : Act).eval (.tmp 77), (⟨tmps, []⟩ : Act).eval (.tmp 78), (⟨tmps, []⟩ : Act).eval (.tmp 79), (⟨tmps, []⟩ : Act).eval (.tmp 80), (⟨tmps, []⟩ : Act).eval (.tmp 81), (⟨tmps, []⟩ : Act).eval (.tmp 82), (⟨tmps, []⟩ : Act).eval (.tmp 83), (⟨tmps, []⟩ : Act).eval (.tmp 84), (⟨tmps, []⟩ : Act).eval (.tmp 85), (⟨tmps, []⟩ : Act).eval (.tmp 86), (⟨tmps, []⟩ : Act).eval (.tmp 87),  ?_⟩
  refine congrArg (fun x => (⟨x, []⟩ : Act)) ?_
  apply Array.ext_getElem?
  intro j
  have kj : (j < 74 ∨ 87 < j) → tmps[j]? = base[j]? := kp j
  simp only [Array.getElem?_setIfInBounds, Array.size_setIfInBounds, hb]
  by_cases h87 : j = 87
  · subst h87
    simp only [if_true, if_pos (show 87 < 126 by decide)]
    exact get_evalA (by omega)
  rw [if_neg (fun x => h87 x.symm)]
  by_cases h86 : j = 86
  · subst h86
    simp only [if_true, if_pos (show 86 < 126 by decide)]
    exact get_evalA (by omega)
  rw [if_neg (fun x => h86 x.symm)]
  by_cases h85 : j = 85
  · subst h85
    simp only [if_true, if_pos (show 85 < 126 by decide)]
    exact get_evalA (by omega)
  rw [if_neg (fun x => h85 x.symm)]
  by_cases h84 : j = 84
  · subst h84
    simp only [if_true, if_pos (show 84 < 126 by decide)]
    exact get_evalA (by omega)
  rw [if_neg (fun x => h84 x.symm)]
  by_cases h83 : j = 83
  · subst h83
    simp only [if_true, if_pos (show 83 < 126 by decide)]
    exact get_evalA (by omega)
  rw [if_neg (fun x => h83 x.symm)]
  by_cases h82 : j = 82
  · subst h82
    simp only [if_true, if_pos (show 82 < 126 by decide)]
    exact get_evalA (by omega)
  rw [if_neg (fun x => h82 x.symm)]
  by_cases h81 : j = 81
  · subst h81
    simp only [if_true, if_pos (show 81 < 126 by decide)]
    exact get_evalA (by omega)
  rw [if_neg (fun x => h81 x.symm)]
  by_cases h80 : j = 80
  · subst h80
    simp only [if_true, if_pos (show 80 < 126 by decide)]
    exact get_evalA (by omega)
  rw [if_neg (fun x => h80 x.symm)]
  by_cases h79 : j = 79
  · subst h79
    simp only [if_true, if_pos (show 79 < 126 by decide)]
    exact get_evalA (by omega)
  rw [if_neg (fun x => h79 x.symm)]
  by_cases h78 : j = 78
  · subst h78
    simp only [if_true, if_pos (show 78 < 126 by decide)]
    exact get_evalA (by omega)
  rw [if_neg (fun x => h78 x.symm)]
  by_cases h77 : j = 77
  · subst h77
    simp only [if_true, if_pos (show 77 < 126 by decide)]
    exact get_evalA (by omega)
  rw [if_neg (fun x => h77 x.symm)]
  by_cases h76 : j = 76
  · subst h76
    simp only [if_true, if_pos (show 76 < 126 by decide)]
    exact get_evalA (by omega)
  rw [if_neg (fun x => h76 x.symm)]
  by_cases h75 : j = 75
  · subst h75
    simp only [if_true, if_pos (show 75 < 126 by decide)]
    exact get_evalA (by omega)
  rw [if_neg (fun x => h75 x.symm)]
  by_cases h74 : j = 74
  · subst h74
    simp only [if_true, if_pos (show 74 < 126 by decide)]
    exact get_evalA (by omega)
  rw [if_neg (fun x => h74 x.symm)]
  exact kj (by omega)
set_option maxHeartbeats 1000000 in
theorem twc_frame {a : Act} {base : Array Value} (df : a.defers = []) (sz : a.tmps.size = 126) (hb : base.size = 126) (kp : ∀ j, j ≠ 16 → (j < 88 ∨ 98 < j) → a.tmps[j]? = base[j]?) :
    ∃ u16 u88 u89 u90 u91 u92 u93 u94 u95 u96 u97 u98 : Value, a.eval (.tmp 16) = u16 ∧ a = ⟨((((((((((((base.setIfInBounds 16 u16).setIfInBounds 88 u88).setIfInBounds 89 u89).setIfInBounds 90 u90).setIfInBounds 91 u91).setIfInBounds 92 u92).setIfInBounds 93 u93).setIfInBounds 94 u94).setIfInBounds 95 u95).setIfInBounds 96 u96).setIfInBounds 97 u97).setIfInBounds 98 u98), []⟩ := by
  obtain ⟨tmps, defers⟩ := a
  have hd : defers = [] := df
  have hs : tmps.size = 126 := sz
  subst hd
  refine ⟨(⟨tmps, []⟩ : Act).eval (.tmp 16), (⟨tmps, []⟩ : Act).eval (.tmp 88), (⟨tmps, []⟩ : Act).eval (.tmp 89), (⟨tmps, []⟩ : Act).eval (.tmp 90), (⟨tmps, []⟩ : Act).eval (.tmp 91), (⟨tmps, []⟩ : Act).eval (.tmp 92), (⟨tmps, []⟩ : Act).eval (.tmp 93), (⟨tmps, []⟩ : Act).eval (.tmp 94), (⟨tmps, []⟩ : Act).eval (.tmp 95), (⟨tmps, []⟩ : Act).eval (.tmp 96), (⟨tmps, []⟩ : Act).eval (.tmp 97), (⟨tmps, []⟩ : Act).eval (.tmp 98), rfl,  ?_⟩
  refine congrArg (fun x => (⟨x, []⟩ : Act)) ?_
  apply Array.ext_getElem?
  intro j
  have kj : j ≠ 16 → (j < 88 ∨ 98 < j) → tmps[j]? = base[j]? := kp j
  simp only [Array.getElem?_setIfInBounds, Array.size_setIfInBounds, hb]
  by_cases h98 : j = 98
  · subst h98
    simp only [if_true, if_pos (show 98 < 126 by decide)]
    exact get_evalA (by omega)
  rw [if_neg (fun x => h98 x.symm)]
  by_cases h97 : j = 97
  · subst h97
    simp only [if_true, if_pos (show 97 < 126 by decide)]
    exact get_evalA (by omega)
  rw [if_neg (fun x => h97 x.symm)]
  by_cases h96 : j = 96
  · subst h96
    simp only [if_true, if_pos (show 96 < 126 by decide)]
    exact get_evalA (by omega)
  rw [if_neg (fun x => h96 x.symm)]
  by_cases h95 : j = 95
  · subst h95
    simp only [if_true, if_pos (show 95 < 126 by decide)]
    exact get_evalA (by omega)
  rw [if_neg (fun x => h95 x.symm)]
  by_cases h94 : j = 94
  · subst h94
    simp only [if_true, if_pos (show 94 < 126 by decide)]
    exact get_evalA (by omega)
  rw [if_neg (fun x => h94 x.symm)]
  by_cases h93 : j = 93
  · subst h93
    simp only [if_true, if_pos (show 93 < 126 by decide)]
    exact get_evalA (by omega)
  rw [if_neg (fun x => h93 x.symm)]
  by_cases h92 : j = 92
  · subst h92
    simp only [if_true, if_pos (show 92 < 126 by decide)]
    exact get_evalA (by omega)
  rw [if_neg (fun x => h92 x.symm)]
  by_cases h91 : j = 91
  · subst h91
    simp only [if_true, if_pos (show 91 < 126 by decide)]
    exact get_evalA (by omega)
  rw [if_neg (fun x => h91 x.symm)]
  by_cases h90 : j = 90
  · subst h90
    simp only [if_true, if_pos (show 90 < 126 by decide)]
    exact get_evalA (by omega)
  rw [if_neg (fun x => h90 x.symm)]
  by_cases h89 : j = 89
  · subst h89
    simp only [if_true, if_pos (show 89 < 126 by decide)]
    exact get_evalA (by omega)
  rw [if_neg (fun x => h89 x.symm)]
  by_cases h88 : j = 88
  · subst h88
    simp only [if_true, if_pos (show 88 < 126 by decide)]
    exact get_evalA (by omega)
  rw [if_neg (fun x => h88 x.symm)]
  by_cases h16 : j = 16
  · subst h16
    simp only [if_true, if_pos (show 16 < 126 by decide)]
    exact get_evalA (by omega)
  rw [if_neg (fun x => h16 x.symm)]
  exact kj h16 (by omega)
noncomputable def names9 : Code := afterN 5 (Tryd.f6.body.getD .skip)
set_option maxRecDepth 100000 in
set_option maxHeartbeats 2000000 in
theorem names_tail {G : World → Prop} (K : Oks G) (w W : World) (lv : Value) (l : List A4) (i j : Int) (hg : G w) (hb : Below w.heap.size w W) (hl : RowO W lv l) (ri : Rise l) (h5 : l.length ≤ 5) (hs : Small l) (hf : ∀ x ∈ l, nameB x.1 = true ∧ rightV x.2.1 x.2.2.1 x.2.2.2 = true)
    (i0 : -9223372036854775808 ≤ i) (i1 : i ≤ 9223372036854775807) (j0 : -9223372036854775808 ≤ j) (j1 : j ≤ 9223372036854775807)
    (u0 u1 u2 u5 u6 u7 u8 u9 u10 u11 u13 u14 u15 u16 u17 u18 u19 u20 u21 u22 u23 u24 u25 u26 u27 u28 u29 u30 u31 u32 u33 u34 u35 u36 u37 u38 u39 u40 u41 u42 u43 u44 u45 u46 u47 u48 u49 u50 u51 u52 u53 u54 u55 u56 u57 u58 u59 u60 u61 u62 u63 u64 u65 u66 u67 u68 u69 u70 u71 u72 u73 u74 u75 u76 u77 u78 u79 u80 u81 u82 u83 u84 u85 u86 u87 u88 u89 u90 u91 u92 u93 u94 u95 u96 u97 u98 u99 u100 u101 u102 u103 u104 u105 u106 u107 u108 u109 u110 u111 u112 u113 u114 u115 u116 u117 u118 u119 u120 u121 u122 u123 u124 u125 : Value) :
    Code.wp Tryd.prog names9 (bodyPost Tryd.prog Tryd.f6 (GetsQ w)) ⟨#[u0, u1, u2, .int .i64 i, .int .i64 j, u5, u6, u7, u8, u9, u10, u11, lv, u13, u14, u15, u16, u17, u18, u19, u20, u21, u22, u23, u24, u25, u26, u27, u28, u29, u30, u31, u32, u33, u34, u35, u36, u37, u38, u39, u40, u41, u42, u43, u44, u45, u46, u47, u48, u49, u50, u51, u52, u53, u54, u55, u56, u57, u58, u59, u60, u61, u62, u63, u64, u65, u66, u67, u68, u69, u70, u71, u72, u73, u74, u75, u76, u77, u78, u79, u80, u81, u82, u83, u84, u85, u86, u87, u88, u89, u90, u91, u92, u93, u94, u95, u96, u97, u98, u99, u100, u101, u102, u103, u104, u105, u106, u107, u108, u109, u110, u111, u112, u113, u114, u115, u116, u117, u118, u119, u120, u121, u122, u123, u124, u125], []⟩ W := by
  have KK := Lib.hid K
  have HG := Lib.hid hg
  have B0 := Lib.hid hb
  have HL := Lib.hid hl
  have RI := Lib.hid ri
  have HS := Lib.hid hs
  have HF := Lib.hid hf
  obtain ⟨lo, lc, hlv⟩ := hl.1.len
  subst hlv
  clear K hg hb hl ri hs hf
  conv => arg 2; whnf
  by_cases h2 : l.length < 2
  · clear i0 i1 j0 j1
    go_wp2_with fail
    refine (truns_any KK.out _ (KK.out.bel _ _ HG.out B0.out)).mono ?_
    rintro e1 w1 ⟨rfl, hb⟩
    have B1 := Lib.hid (B0.out.trans (hb.mono B0.out.size))
    clear hb
    go_wp2
    go_ret
    exact ⟨rfl, B1.out⟩
  · have WI := Lib.hid (fun w => within_any i 0 ((l.length : Int) - 1) w (by omega) (by omega) (by omega) i0 i1)
    have WJ := Lib.hid (fun w => within_any j 0 ((l.length : Int) - 1) w (by omega) (by omega) (by omega) j0 j1)
    have bi := within_bd i 0 ((l.length : Int) - 1) (by omega)
    have bj := within_bd j 0 ((l.length : Int) - 1) (by omega)
    obtain ⟨ka, hka⟩ := Int.eq_ofNat_of_zero_le bi.1
    obtain ⟨kb, hkb⟩ := Int.eq_ofNat_of_zero_le bj.1
    have la : ka < l.length := by omega
    have lb : kb < l.length := by omega
    rw [hka] at WI
    rw [hkb] at WJ
    clear i0 i1 j0 j1 bi bj hka hkb
    go_wp2_with fail
    refine (WI.out _).mono ?_
    rintro e1 w1 ⟨rfl, rfl⟩
    go_wp2_with fail
    refine (WJ.out _).mono ?_
    rintro e2 w2 ⟨rfl, rfl⟩
    clear WI WJ
    -- x
    have MK : (W.alloc (.cells #[] 25)).ownsRow W.heap.size 25 4 (.slice (some ⟨W.heap.size, 0, none⟩) 0 0) 0 [] := World.ownsRow_made W #[] 0 (Nat.le_refl _) (by decide) rfl
    obtain ⟨xv, w3, r1, r2, r3⟩ := app_runA (W := W) W.heap.size MK (HL.out.2.on ((Below.refl _ _).alloc (Nat.le_refl _) (.cells #[] 25))) (flatA_one l) (by omega) (by omega) (by simp) 26
    have B3 := Lib.hid (((Below.refl W.heap.size W).alloc (Nat.le_refl _) (.cells #[] 25)).grown r3 (by simp) (fun j hj => (MK.lt j hj).1))
    rw [Nat.zero_add, List.nil_append] at r2
    rcases r2.2 with ⟨_, h0⟩ | ⟨g, cap, cur, hxv, hgB, _⟩
    · omega
    subst hxv
    have O3 := Lib.hid r2
    clear r2 r3 MK
    go_wp2_with (first | (at_builtin; refine wpList_append_run rfl _ _ 26 rfl rfl rfl r1 ?_) | fail)
    clear r1
    refine Swp_any _ _ W w3 W.heap.size g cap l ka kb l[ka] l[kb] rfl rfl rfl rfl hgB B3.out O3.out (List.getElem?_eq_getElem la) (List.getElem?_eq_getElem lb) ?_
    intro a w4 df sz kp bel own
    obtain ⟨u74, u75, u76, u77, u78, u79, u80, u81, u82, u83, u84, u85, u86, u87, ea⟩ := swp_frame df sz rfl kp
    subst ea
    have X4 := Lib.hid (show RowA w4 (.slice (some ⟨g, 0, none⟩) l.length cap) ((l.set ka l[kb]).set kb l[ka]) by refine RowA.of_owns (B := W.heap.size) ?_; simpa using own)
    have B4 := Lib.hid (B0.out.trans (bel.mono B0.out.size))
    have L4 := Lib.hid (HL.out.on bel)
    clear own bel kp df sz O3 B3 B0 HL
    simp only [List.setIfInBounds_toArray, List.set_cons_succ, List.set_cons_zero]
    -- y
    obtain ⟨⟨yn, yt, yi, ys⟩, hy⟩ : ∃ y, l[l.length - 1]? = some y := ⟨_, List.getElem?_eq_getElem (by omega)⟩
    obtain ⟨pa, ix, px⟩ := row_cells L4.out.1 rfl rfl hy
    rw [show ((l.length - 1 : Nat) : Int) = (l.length : Int) - 1 by omega] at ix
    have YM := Lib.hid (List.mem_of_getElem? hy)
    have LD := Lib.hid (fun (w : World) (hw : Below w4.heap.size w4 w) => load_run4 w pa yn yt yi ys (px w hw))
    have IX := Lib.hid ix
    clear hy ix px
    go_wp2
    refine Twc_any _ _ w4 _ lo l.length lc pa yn yt yi ys (flatA l) rfl rfl rfl IX.out LD.out L4.out.2 (flatA_one l) (by omega) ?_
    intro a w5 df sz kp bel own
    obtain ⟨u16, u88, u89, u90, u91, u92, u93, u94, u95, u96, u97, u98, e16, ea⟩ := twc_frame df sz rfl kp
    rw [e16] at own
    subst ea
    have Y5 := Lib.hid (show RowA w5 u16 (l ++ [(yn, yt, yi, ys)]) by refine RowA.of_owns (B := w4.heap.size) ?_; rw [flatA_append]; simpa [flatA] using own)
    have B5 := Lib.hid (B4.out.trans (bel.mono B4.out.size))
    have X5 := Lib.hid (X4.out.on bel)
    have L5 := Lib.hid (L4.out.on bel)
    clear own bel kp df sz e16 X4 L4 B4 LD IX
    simp only [List.setIfInBounds_toArray, List.set_cons_succ, List.set_cons_zero]
    -- z
    have MK : (w5.alloc (.cells #[] 25)).ownsRow w5.heap.size 25 4 (.slice (some ⟨w5.heap.size, 0, none⟩) 0 0) 0 [] := World.ownsRow_made w5 #[] 0 (Nat.le_refl _) (by decide) rfl
    obtain ⟨zv, w6, r1, r2, r3⟩ := app_runA (W := w5) w5.heap.size MK (L5.out.2.on ((Below.refl _ _).alloc (Nat.le_refl _) (.cells #[] 25))) (flatA_one l) (by omega) (by omega) (by simp) 26
    have b6 := (((Below.refl w5.heap.size w5).alloc (Nat.le_refl _) (.cells #[] 25)).grown r3 (by simp) (fun j hj => (MK.lt j hj).1))
    rw [Nat.zero_add, List.nil_append] at r2
    rcases r2.2 with ⟨_, h0⟩ | ⟨g2, cap2, cur2, hzv, hgB2, _⟩
    · omega
    subst hzv
    obtain ⟨zy, hzy⟩ : ∃ y, l[ka]? = some y := ⟨_, List.getElem?_eq_getElem la⟩
    obtain ⟨s2, s3⟩ := val_set zy false 1 ⟨#[120]⟩ rfl r2 hzy hgB2
    have ce := cell_el r2 hzy
    have ce1 := ce.2.1
    have ce2 : w6.cell? ⟨g2, ka * 4 + 1 + 1, none⟩ = _ := ce.2.2.1
    have ce3 : w6.cell? ⟨g2, ka * 4 + 1 + 2, none⟩ = _ := ce.2.2.2
    have fe1 := r2.frozenAt (ka * 4 + 1)
    have fe2 := r2.frozenAt (ka * 4 + 1 + 1)
    have fe3 := r2.frozenAt (ka * 4 + 1 + 2)
    clear ce
    have IZ : (Instr.indexAt 26 (.slice (some ⟨g2, 0, none⟩) l.length cap2) (.int .i64 (ka : Nat))).run Tryd.prog w6 = .ok (.pointer (some ⟨g2, ka * 4, none⟩)) w6 := by
      have e : (⟨g2, 0, none⟩ : Addr).add (ka * 4) = ⟨g2, ka * 4, none⟩ := by unfold Addr.add; split <;> simp_all
      rw [index_runA ⟨g2, 0, none⟩ ka l.length cap2 la w6, e]
    have b7 := s3 _ b6
    have Z7 := Lib.hid (show RowA (((w6.setCell ⟨g2, ka * 4 + 1, none⟩ (.bool false)).setCell ⟨g2, ka * 4 + 1 + 1, none⟩ (.int .i64 1)).setCell ⟨g2, ka * 4 + 1 + 2, none⟩ (.string ⟨#[120]⟩)) (.slice (some ⟨g2, 0, none⟩) l.length cap2) (l.set ka (zy.1, false, 1, ⟨#[120]⟩)) by refine RowA.of_owns (B := w5.heap.size) ?_; simpa using s2)
    have B7 := Lib.hid (B5.out.trans (b7.mono B5.out.size))
    have X7 := Lib.hid (X5.out.on b7)
    have Y7 := Lib.hid (Y5.out.on b7)
    clear s2 s3 b6 b7 r2 r3 MK X5 Y5 L5 B5
    have SX := Lib.hid (show Small ((l.set ka l[kb]).set kb l[ka]) from ⟨by simp; omega, fun x hx => by
      rcases List.mem_or_eq_of_mem_set hx with h | h
      · rcases List.mem_or_eq_of_mem_set h with h | h
        · exact HS.out.2 x h
        · rw [h]; exact HS.out.2 _ (List.getElem_mem _)
      · rw [h]; exact HS.out.2 _ (List.getElem_mem _)⟩)
    have SY := Lib.hid (show Small (l ++ [(yn, yt, yi, ys)]) from ⟨by simp; omega, fun x hx => by
      rcases List.mem_append.1 hx with h | h
      · exact HS.out.2 x h
      · obtain rfl := List.mem_singleton.1 h; exact HS.out.2 _ YM.out⟩)
    have SZ := Lib.hid (show Small (l.set ka (zy.1, false, 1, ⟨#[120]⟩)) from ⟨by simp; omega, fun x hx => by
      rcases List.mem_or_eq_of_mem_set hx with h | h
      · exact HS.out.2 x h
      · rw [h]; exact ⟨(HS.out.2 zy (List.mem_of_getElem? hzy)).1, show (1 : Nat) ≤ 100 by decide, show (-9223372036854775808 : Int) ≤ 1 by decide, show (1 : Int) ≤ 9223372036854775807 by decide⟩⟩)
    have FX := Lib.hid (swap_right RI.out HF.out h5 ka kb l[ka] l[kb] (List.getElem?_eq_getElem la) (List.getElem?_eq_getElem lb))
    have FY := Lib.hid (twice_right _ YM.out)
    have FZ := Lib.hid (bad_right ka la zy.1)
    clear hzy YM HS RI HF
    generalize (l.set ka l[kb]).set kb l[ka] = lx at *
    generalize l ++ [(yn, yt, yi, ys)] = ly at *
    generalize l.set ka (zy.1, false, 1, ⟨#[120]⟩) = lz at *
    go_wp2_with (first | (at_builtin; refine wpList_append_run rfl _ _ 26 rfl rfl rfl r1 ?_) | fail)
    refine (KK.out.right _ lx _ X7.out SX.out).mono ?_
    rintro e8 w8 ⟨rfl, hb⟩
    have B8 := Lib.hid (B7.out.trans (hb.mono B7.out.size))
    have Y8 := Lib.hid (Y7.out.on hb)
    have Z8 := Lib.hid (Z7.out.on hb)
    clear hb r1 IZ ce1 ce2 ce3 fe1 fe2 fe3 B7 X7 Y7 Z7
    rw [FX.out]
    by_cases e : ka = kb
    · have hk : (ka : Int) = kb := by omega
      rw [decide_eq_true e]
      go_wp2_with fail
      refine (KK.out.right _ ly _ Y8.out SY.out).mono ?_
      rintro e9 w9 ⟨rfl, hb⟩
      have B9 := Lib.hid (B8.out.trans (hb.mono B8.out.size))
      have Z9 := Lib.hid (Z8.out.on hb)
      clear hb
      rw [FY.out]
      go_wp2_with fail
      refine (KK.out.right _ lz _ Z9.out SZ.out).mono ?_
      rintro e10 w10 ⟨rfl, hb⟩
      have B10 := Lib.hid (B9.out.trans (hb.mono B9.out.size))
      clear hb
      rw [FZ.out]
      go_wp2_with fail
      refine (truns_any KK.out _ (KK.out.bel _ _ HG.out B10.out)).mono ?_
      rintro e11 w11 ⟨rfl, hb⟩
      have B11 := Lib.hid (B10.out.trans (hb.mono B10.out.size))
      clear hb
      go_wp2
      go_ret
      exact ⟨rfl, B11.out⟩
    · have hk : ((ka : Int) == (kb : Int)) = false := by rw [beq_eq_false_iff_ne]; omega
      rw [decide_eq_false e]
      go_wp2_with fail
      refine (KK.out.right _ ly _ Y8.out SY.out).mono ?_
      rintro e9 w9 ⟨rfl, hb⟩
      have B9 := Lib.hid (B8.out.trans (hb.mono B8.out.size))
      have Z9 := Lib.hid (Z8.out.on hb)
      clear hb
      rw [FY.out]
      go_wp2_with fail
      refine (KK.out.right _ lz _ Z9.out SZ.out).mono ?_
      rintro e10 w10 ⟨rfl, hb⟩
      have B10 := Lib.hid (B9.out.trans (hb.mono B9.out.size))
      clear hb
      rw [FZ.out]
      go_wp2_with fail
      refine (truns_any KK.out _ (KK.out.bel _ _ HG.out B10.out)).mono ?_
      rintro e11 w11 ⟨rfl, hb⟩
      have B11 := Lib.hid (B10.out.trans (hb.mono B10.out.size))
      clear hb
      go_wp2
      go_ret
      exact ⟨rfl, B11.out⟩
end Go.Proofs.YtpmhnmdienlgoaaDoor.At
