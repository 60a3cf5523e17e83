/-
  RightMessage of the statements' own package. Condition: lists and texts below a machine's length.
  RightMessage of the statements' own package, of any message. Condition: lists and texts below a machine's length.
  Right of package wire, kind by kind. Condition: lists and texts below a machine's length.
-/
import Derived.Test.YtfcgfnmokbbcaaaDoorU022
namespace Go.Proofs.YtfcgfnmokbbcaaaDoor.Wr
open Go.RowKit Go.Sort Go.Proofs.YtfcgfnmokbbcaaaDoor Go.Proofs.YtfcgfnmokbbcaaaDoor.Rw Go.Proofs.YtfcgfnmokbbcaaaDoor.Nm Go.Proofs.YtfcgfnmokbbcaaaDoor.At Go.Proofs.YtfcgfnmokbbcaaaDoor.Pr Go.Proofs.YtfcgfnmokbbcaaaDoor.Va

/-- The lists are of a size that a machine holds. -/
structure Small (m : Mg) : Prop where
  p : m.p.length ≤ 1000000
  l : m.l.length ≤ 1000000
  ps : ∀ x ∈ m.p, x.1.size ≤ maxLen ∧ x.2.2.2.2.size ≤ maxLen
  ls : ∀ x ∈ m.l, x.1.size ≤ maxLen ∧ x.2.2.2.size ≤ maxLen
theorem empty_len {α : Type} (l : List α) : ((l.length : Int) == 0) = l.isEmpty := by
  cases l with
  | nil => rfl
  | cons a l => simp only [List.length_cons, List.isEmpty_cons, beq_eq_false_iff_ne]; omega
set_option maxRecDepth 100000 in
set_option maxHeartbeats 8000000 in
theorem rmsg_1 (tc ts ic is : Int) (p : List C5) (l : List A4) (pv lv : Value) (w : World) (h : MgIn w ⟨1, tc, ts, ic, is, p, l⟩ pv lv) (hs : Small ⟨1, tc, ts, ic, is, p, l⟩) :
    Calls Tryd.prog 13 #[mv ⟨1, tc, ts, ic, is, p, l⟩ pv lv] w fun e w' => e = .returned (.bool ((rightI tc ts) && ((ic == 0 && is == 0) && ((rightP p) && (l.isEmpty))))) ∧ Below w.heap.size w w' := by
  have B0 := new_below w (.cells (mcells ⟨1, tc, ts, ic, is, p, l⟩ pv lv) 32)
  have BW := Lib.hid (B0.alloc B0.size (.cells #[.int .i64 0, .int .i64 0] 28))
  have X1 := Lib.hid ((box_new w (mcells ⟨1, tc, ts, ic, is, p, l⟩ pv lv) 32).more (.cells #[.int .i64 0, .int .i64 0] 28))
  have Z1 := Lib.hid (show Box ((w.alloc (.cells (mcells ⟨1, tc, ts, ic, is, p, l⟩ pv lv) 32)).alloc (.cells #[.int .i64 0, .int .i64 0] 28)) (w.heap.size + 1) #[.int .i64 0, .int .i64 0] 28 by
    have h := box_new (w.alloc (.cells (mcells ⟨1, tc, ts, ic, is, p, l⟩ pv lv) 32)) #[.int .i64 0, .int .i64 0] 28
    rwa [show (w.alloc (.cells (mcells ⟨1, tc, ts, ic, is, p, l⟩ pv lv) 32)).heap.size = w.heap.size + 1 by simp] at h)
  have BX := Lib.hid (Below.refl ((w.alloc (.cells (mcells ⟨1, tc, ts, ic, is, p, l⟩ pv lv) 32)).alloc (.cells #[.int .i64 0, .int .i64 0] 28)).heap.size ((w.alloc (.cells (mcells ⟨1, tc, ts, ic, is, p, l⟩ pv lv) 32)).alloc (.cells #[.int .i64 0, .int .i64 0] 28)))
  have PR := Lib.hid h.p
  have TR := Lib.hid h.l
  have LPN := Lib.hid hs.p
  have LPS := Lib.hid hs.ps
  have LLN := Lib.hid hs.l
  have LLS := Lib.hid hs.ls
  obtain ⟨po, pc, rfl⟩ := h.p.len
  obtain ⟨lo, lc, rfl⟩ := h.l.len
  clear h hs
  obtain ⟨r, hr⟩ : ∃ r, ((rightI tc ts) && ((ic == 0 && is == 0) && ((rightP p) && (l.isEmpty)))) = r := ⟨_, rfl⟩
  rw [hr]
  have RR := Lib.hid hr
  clear hr
  have CT := Lib.hid (fun w => rid_any tc ts w)
  have eq0 := eqID ic is 0 0
  have CP := Lib.hid (fun w' (hb : Below ((w.alloc (.cells (mcells ⟨1, tc, ts, ic, is, p, l⟩ (.slice po p.length pc) (.slice lo l.length lc)) 32)).alloc (.cells #[.int .i64 0, .int .i64 0] 28)).heap.size ((w.alloc (.cells (mcells ⟨1, tc, ts, ic, is, p, l⟩ (.slice po p.length pc) (.slice lo l.length lc)) 32)).alloc (.cells #[.int .i64 0, .int .i64 0] 28)) w') => rpred_any _ p w' ((PR.out.on (B0.alloc B0.size (.cells #[.int .i64 0, .int .i64 0] 28))).on hb) LPN.out LPS.out)
  have ell := empty_len l
  clear B0 PR TR LPN LPS LLN LLS
  generalize (rightI tc ts) = b0 at *
  generalize (ic == 0 && is == 0) = b1 at *
  generalize (rightP p) = b2 at *
  generalize l.isEmpty = b3 at *
  cases b0
  · go_enter Tryd.func13, Tryd.ntmps13
    go_wp2_with fail
    refine (CT.out _).mono ?_
    rintro e w1 ⟨rfl, hb⟩
    have BX := Lib.hid (BX.out.trans (hb.mono BX.out.size))
    have BW := Lib.hid (BW.out.trans (hb.mono BW.out.size))
    have X := X1.out.on BX.out
    have Z := Z1.out.on BX.out
    clear hb
    have c0 := X.cell 0
    have c1 := X.cell 1
    have c2 := X.cell 2
    have c3 := X.cell 3
    have c4 := X.cell 4
    have c5 := X.cell 5
    have c6 := X.cell 6
    have z0 := Z.cell 0
    have z1 := Z.cell 1
    simp only [List.getElem?_toArray, List.getElem?_cons_zero, List.getElem?_cons_succ] at c0 c1 c2 c3 c4 c5 c6 z0 z1
    clear X Z
    go_wp2_with fail
    go_ret
    exact ⟨by rw [← RR.out]; rfl, BW.out⟩
  cases b1
  · go_enter Tryd.func13, Tryd.ntmps13
    go_wp2_with fail
    refine (CT.out _).mono ?_
    rintro e w1 ⟨rfl, hb⟩
    have BX := Lib.hid (BX.out.trans (hb.mono BX.out.size))
    have BW := Lib.hid (BW.out.trans (hb.mono BW.out.size))
    have X := X1.out.on BX.out
    have Z := Z1.out.on BX.out
    clear hb
    have c0 := X.cell 0
    have c1 := X.cell 1
    have c2 := X.cell 2
    have c3 := X.cell 3
    have c4 := X.cell 4
    have c5 := X.cell 5
    have c6 := X.cell 6
    have z0 := Z.cell 0
    have z1 := Z.cell 1
    simp only [List.getElem?_toArray, List.getElem?_cons_zero, List.getElem?_cons_succ] at c0 c1 c2 c3 c4 c5 c6 z0 z1
    clear X Z
    go_wp2_with fail
    go_ret
    exact ⟨by rw [← RR.out]; rfl, BW.out⟩
  cases b2
  · go_enter Tryd.func13, Tryd.ntmps13
    go_wp2_with fail
    refine (CT.out _).mono ?_
    rintro e w1 ⟨rfl, hb⟩
    have BX := Lib.hid (BX.out.trans (hb.mono BX.out.size))
    have BW := Lib.hid (BW.out.trans (hb.mono BW.out.size))
    have X := X1.out.on BX.out
    have Z := Z1.out.on BX.out
    clear hb
    have c0 := X.cell 0
    have c1 := X.cell 1
    have c2 := X.cell 2
    have c3 := X.cell 3
    have c4 := X.cell 4
    have c5 := X.cell 5
    have c6 := X.cell 6
    have z0 := Z.cell 0
    have z1 := Z.cell 1
    simp only [List.getElem?_toArray, List.getElem?_cons_zero, List.getElem?_cons_succ] at c0 c1 c2 c3 c4 c5 c6 z0 z1
    clear X Z
    go_wp2_with fail
    refine (CP.out _ BX.out).mono ?_
    rintro e w2 ⟨rfl, hb⟩
    have BX := Lib.hid (BX.out.trans (hb.mono BX.out.size))
    have BW := Lib.hid (BW.out.trans (hb.mono BW.out.size))
    have X := X1.out.on BX.out
    have Z := Z1.out.on BX.out
    clear hb
    clear c0 c1 c2 c3 c4 c5 c6 z0 z1
    have c0 := X.cell 0
    have c1 := X.cell 1
    have c2 := X.cell 2
    have c3 := X.cell 3
    have c4 := X.cell 4
    have c5 := X.cell 5
    have c6 := X.cell 6
    have z0 := Z.cell 0
    have z1 := Z.cell 1
    simp only [List.getElem?_toArray, List.getElem?_cons_zero, List.getElem?_cons_succ] at c0 c1 c2 c3 c4 c5 c6 z0 z1
    clear X Z
    go_wp2_with fail
    go_ret
    exact ⟨by rw [← RR.out]; rfl, BW.out⟩
  go_enter Tryd.func13, Tryd.ntmps13
  go_wp2_with fail
  refine (CT.out _).mono ?_
  rintro e w1 ⟨rfl, hb⟩
  have BX := Lib.hid (BX.out.trans (hb.mono BX.out.size))
  have BW := Lib.hid (BW.out.trans (hb.mono BW.out.size))
  have X := X1.out.on BX.out
  have Z := Z1.out.on BX.out
  clear hb
  have c0 := X.cell 0
  have c1 := X.cell 1
  have c2 := X.cell 2
  have c3 := X.cell 3
  have c4 := X.cell 4
  have c5 := X.cell 5
  have c6 := X.cell 6
  have z0 := Z.cell 0
  have z1 := Z.cell 1
  simp only [List.getElem?_toArray, List.getElem?_cons_zero, List.getElem?_cons_succ] at c0 c1 c2 c3 c4 c5 c6 z0 z1
  clear X Z
  go_wp2_with fail
  refine (CP.out _ BX.out).mono ?_
  rintro e w2 ⟨rfl, hb⟩
  have BX := Lib.hid (BX.out.trans (hb.mono BX.out.size))
  have BW := Lib.hid (BW.out.trans (hb.mono BW.out.size))
  have X := X1.out.on BX.out
  have Z := Z1.out.on BX.out
  clear hb
  clear c0 c1 c2 c3 c4 c5 c6 z0 z1
  have c0 := X.cell 0
  have c1 := X.cell 1
  have c2 := X.cell 2
  have c3 := X.cell 3
  have c4 := X.cell 4
  have c5 := X.cell 5
  have c6 := X.cell 6
  have z0 := Z.cell 0
  have z1 := Z.cell 1
  simp only [List.getElem?_toArray, List.getElem?_cons_zero, List.getElem?_cons_succ] at c0 c1 c2 c3 c4 c5 c6 z0 z1
  clear X Z
  go_wp2_with fail
  go_ret
  exact ⟨by rw [← RR.out]; rfl, BW.out⟩
set_option maxRecDepth 100000 in
set_option maxHeartbeats 8000000 in
theorem rmsg_2 (tc ts ic is : Int) (p : List C5) (l : List A4) (pv lv : Value) (w : World) (h : MgIn w ⟨2, tc, ts, ic, is, p, l⟩ pv lv) (hs : Small ⟨2, tc, ts, ic, is, p, l⟩) :
    Calls Tryd.prog 13 #[mv ⟨2, tc, ts, ic, is, p, l⟩ pv lv] w fun e w' => e = .returned (.bool ((rightI tc ts) && ((ic == 0 && is == 0) && (p.isEmpty && (l.isEmpty))))) ∧ Below w.heap.size w w' := by
  have B0 := new_below w (.cells (mcells ⟨2, tc, ts, ic, is, p, l⟩ pv lv) 32)
  have BW := Lib.hid (B0.alloc B0.size (.cells #[.int .i64 0, .int .i64 0] 28))
  have X1 := Lib.hid ((box_new w (mcells ⟨2, tc, ts, ic, is, p, l⟩ pv lv) 32).more (.cells #[.int .i64 0, .int .i64 0] 28))
  have Z1 := Lib.hid (show Box ((w.alloc (.cells (mcells ⟨2, tc, ts, ic, is, p, l⟩ pv lv) 32)).alloc (.cells #[.int .i64 0, .int .i64 0] 28)) (w.heap.size + 1) #[.int .i64 0, .int .i64 0] 28 by
    have h := box_new (w.alloc (.cells (mcells ⟨2, tc, ts, ic, is, p, l⟩ pv lv) 32)) #[.int .i64 0, .int .i64 0] 28
    rwa [show (w.alloc (.cells (mcells ⟨2, tc, ts, ic, is, p, l⟩ pv lv) 32)).heap.size = w.heap.size + 1 by simp] at h)
  have BX := Lib.hid (Below.refl ((w.alloc (.cells (mcells ⟨2, tc, ts, ic, is, p, l⟩ pv lv) 32)).alloc (.cells #[.int .i64 0, .int .i64 0] 28)).heap.size ((w.alloc (.cells (mcells ⟨2, tc, ts, ic, is, p, l⟩ pv lv) 32)).alloc (.cells #[.int .i64 0, .int .i64 0] 28)))
  have PR := Lib.hid h.p
  have TR := Lib.hid h.l
  have LPN := Lib.hid hs.p
  have LPS := Lib.hid hs.ps
  have LLN := Lib.hid hs.l
  have LLS := Lib.hid hs.ls
  obtain ⟨po, pc, rfl⟩ := h.p.len
  obtain ⟨lo, lc, rfl⟩ := h.l.len
  clear h hs
  obtain ⟨r, hr⟩ : ∃ r, ((rightI tc ts) && ((ic == 0 && is == 0) && (p.isEmpty && (l.isEmpty)))) = r := ⟨_, rfl⟩
  rw [hr]
  have RR := Lib.hid hr
  clear hr
  have CT := Lib.hid (fun w => rid_any tc ts w)
  have eq0 := eqID ic is 0 0
  have elp := empty_len p
  have ell := empty_len l
  clear B0 PR TR LPN LPS LLN LLS
  generalize (rightI tc ts) = b0 at *
  generalize (ic == 0 && is == 0) = b1 at *
  generalize p.isEmpty = b2 at *
  generalize l.isEmpty = b3 at *
  cases b0
  · go_enter Tryd.func13, Tryd.ntmps13
    go_wp2_with fail
    refine (CT.out _).mono ?_
    rintro e w1 ⟨rfl, hb⟩
    have BX := Lib.hid (BX.out.trans (hb.mono BX.out.size))
    have BW := Lib.hid (BW.out.trans (hb.mono BW.out.size))
    have X := X1.out.on BX.out
    have Z := Z1.out.on BX.out
    clear hb
    have c0 := X.cell 0
    have c1 := X.cell 1
    have c2 := X.cell 2
    have c3 := X.cell 3
    have c4 := X.cell 4
    have c5 := X.cell 5
    have c6 := X.cell 6
    have z0 := Z.cell 0
    have z1 := Z.cell 1
    simp only [List.getElem?_toArray, List.getElem?_cons_zero, List.getElem?_cons_succ] at c0 c1 c2 c3 c4 c5 c6 z0 z1
    clear X Z
    go_wp2_with fail
    go_ret
    exact ⟨by rw [← RR.out]; rfl, BW.out⟩
  cases b1
  · go_enter Tryd.func13, Tryd.ntmps13
    go_wp2_with fail
    refine (CT.out _).mono ?_
    rintro e w1 ⟨rfl, hb⟩
    have BX := Lib.hid (BX.out.trans (hb.mono BX.out.size))
    have BW := Lib.hid (BW.out.trans (hb.mono BW.out.size))
    have X := X1.out.on BX.out
    have Z := Z1.out.on BX.out
    clear hb
    have c0 := X.cell 0
    have c1 := X.cell 1
    have c2 := X.cell 2
    have c3 := X.cell 3
    have c4 := X.cell 4
    have c5 := X.cell 5
    have c6 := X.cell 6
    have z0 := Z.cell 0
    have z1 := Z.cell 1
    simp only [List.getElem?_toArray, List.getElem?_cons_zero, List.getElem?_cons_succ] at c0 c1 c2 c3 c4 c5 c6 z0 z1
    clear X Z
    go_wp2_with fail
    go_ret
    exact ⟨by rw [← RR.out]; rfl, BW.out⟩
  cases b2
  · go_enter Tryd.func13, Tryd.ntmps13
    go_wp2_with fail
    refine (CT.out _).mono ?_
    rintro e w1 ⟨rfl, hb⟩
    have BX := Lib.hid (BX.out.trans (hb.mono BX.out.size))
    have BW := Lib.hid (BW.out.trans (hb.mono BW.out.size))
    have X := X1.out.on BX.out
    have Z := Z1.out.on BX.out
    clear hb
    have c0 := X.cell 0
    have c1 := X.cell 1
    have c2 := X.cell 2
    have c3 := X.cell 3
    have c4 := X.cell 4
    have c5 := X.cell 5
    have c6 := X.cell 6
    have z0 := Z.cell 0
    have z1 := Z.cell 1
    simp only [List.getElem?_toArray, List.getElem?_cons_zero, List.getElem?_cons_succ] at c0 c1 c2 c3 c4 c5 c6 z0 z1
    clear X Z
    go_wp2_with fail
    go_ret
    exact ⟨by rw [← RR.out]; rfl, BW.out⟩
  go_enter Tryd.func13, Tryd.ntmps13
  go_wp2_with fail
  refine (CT.out _).mono ?_
  rintro e w1 ⟨rfl, hb⟩
  have BX := Lib.hid (BX.out.trans (hb.mono BX.out.size))
  have BW := Lib.hid (BW.out.trans (hb.mono BW.out.size))
  have X := X1.out.on BX.out
  have Z := Z1.out.on BX.out
  clear hb
  have c0 := X.cell 0
  have c1 := X.cell 1
  have c2 := X.cell 2
  have c3 := X.cell 3
  have c4 := X.cell 4
  have c5 := X.cell 5
  have c6 := X.cell 6
  have z0 := Z.cell 0
  have z1 := Z.cell 1
  simp only [List.getElem?_toArray, List.getElem?_cons_zero, List.getElem?_cons_succ] at c0 c1 c2 c3 c4 c5 c6 z0 z1
  clear X Z
  go_wp2_with fail
  go_ret
  exact ⟨by rw [← RR.out]; rfl, BW.out⟩
set_option maxRecDepth 100000 in
set_option maxHeartbeats 8000000 in
theorem rmsg_3 (tc ts ic is : Int) (p : List C5) (l : List A4) (pv lv : Value) (w : World) (h : MgIn w ⟨3, tc, ts, ic, is, p, l⟩ pv lv) (hs : Small ⟨3, tc, ts, ic, is, p, l⟩) :
    Calls Tryd.prog 13 #[mv ⟨3, tc, ts, ic, is, p, l⟩ pv lv] w fun e w' => e = .returned (.bool ((rightI tc ts) && ((rightI ic is) && ((rightP p) && (l.isEmpty))))) ∧ Below w.heap.size w w' := by
  have B0 := new_below w (.cells (mcells ⟨3, tc, ts, ic, is, p, l⟩ pv lv) 32)
  have BW := Lib.hid (B0.alloc B0.size (.cells #[.int .i64 0, .int .i64 0] 28))
  have X1 := Lib.hid ((box_new w (mcells ⟨3, tc, ts, ic, is, p, l⟩ pv lv) 32).more (.cells #[.int .i64 0, .int .i64 0] 28))
  have Z1 := Lib.hid (show Box ((w.alloc (.cells (mcells ⟨3, tc, ts, ic, is, p, l⟩ pv lv) 32)).alloc (.cells #[.int .i64 0, .int .i64 0] 28)) (w.heap.size + 1) #[.int .i64 0, .int .i64 0] 28 by
    have h := box_new (w.alloc (.cells (mcells ⟨3, tc, ts, ic, is, p, l⟩ pv lv) 32)) #[.int .i64 0, .int .i64 0] 28
    rwa [show (w.alloc (.cells (mcells ⟨3, tc, ts, ic, is, p, l⟩ pv lv) 32)).heap.size = w.heap.size + 1 by simp] at h)
  have BX := Lib.hid (Below.refl ((w.alloc (.cells (mcells ⟨3, tc, ts, ic, is, p, l⟩ pv lv) 32)).alloc (.cells #[.int .i64 0, .int .i64 0] 28)).heap.size ((w.alloc (.cells (mcells ⟨3, tc, ts, ic, is, p, l⟩ pv lv) 32)).alloc (.cells #[.int .i64 0, .int .i64 0] 28)))
  have PR := Lib.hid h.p
  have TR := Lib.hid h.l
  have LPN := Lib.hid hs.p
  have LPS := Lib.hid hs.ps
  have LLN := Lib.hid hs.l
  have LLS := Lib.hid hs.ls
  obtain ⟨po, pc, rfl⟩ := h.p.len
  obtain ⟨lo, lc, rfl⟩ := h.l.len
  clear h hs
  obtain ⟨r, hr⟩ : ∃ r, ((rightI tc ts) && ((rightI ic is) && ((rightP p) && (l.isEmpty)))) = r := ⟨_, rfl⟩
  rw [hr]
  have RR := Lib.hid hr
  clear hr
  have CT := Lib.hid (fun w => rid_any tc ts w)
  have CI := Lib.hid (fun w => rid_any ic is w)
  have CP := Lib.hid (fun w' (hb : Below ((w.alloc (.cells (mcells ⟨3, tc, ts, ic, is, p, l⟩ (.slice po p.length pc) (.slice lo l.length lc)) 32)).alloc (.cells #[.int .i64 0, .int .i64 0] 28)).heap.size ((w.alloc (.cells (mcells ⟨3, tc, ts, ic, is, p, l⟩ (.slice po p.length pc) (.slice lo l.length lc)) 32)).alloc (.cells #[.int .i64 0, .int .i64 0] 28)) w') => rpred_any _ p w' ((PR.out.on (B0.alloc B0.size (.cells #[.int .i64 0, .int .i64 0] 28))).on hb) LPN.out LPS.out)
  have ell := empty_len l
  clear B0 PR TR LPN LPS LLN LLS
  generalize (rightI tc ts) = b0 at *
  generalize (rightI ic is) = b1 at *
  generalize (rightP p) = b2 at *
  generalize l.isEmpty = b3 at *
  cases b0
  · go_enter Tryd.func13, Tryd.ntmps13
    go_wp2_with fail
    refine (CT.out _).mono ?_
    rintro e w1 ⟨rfl, hb⟩
    have BX := Lib.hid (BX.out.trans (hb.mono BX.out.size))
    have BW := Lib.hid (BW.out.trans (hb.mono BW.out.size))
    have X := X1.out.on BX.out
    have Z := Z1.out.on BX.out
    clear hb
    have c0 := X.cell 0
    have c1 := X.cell 1
    have c2 := X.cell 2
    have c3 := X.cell 3
    have c4 := X.cell 4
    have c5 := X.cell 5
    have c6 := X.cell 6
    have z0 := Z.cell 0
    have z1 := Z.cell 1
    simp only [List.getElem?_toArray, List.getElem?_cons_zero, List.getElem?_cons_succ] at c0 c1 c2 c3 c4 c5 c6 z0 z1
    clear X Z
    go_wp2_with fail
    go_ret
    exact ⟨by rw [← RR.out]; rfl, BW.out⟩
  cases b1
  · go_enter Tryd.func13, Tryd.ntmps13
    go_wp2_with fail
    refine (CT.out _).mono ?_
    rintro e w1 ⟨rfl, hb⟩
    have BX := Lib.hid (BX.out.trans (hb.mono BX.out.size))
    have BW := Lib.hid (BW.out.trans (hb.mono BW.out.size))
    have X := X1.out.on BX.out
    have Z := Z1.out.on BX.out
    clear hb
    have c0 := X.cell 0
    have c1 := X.cell 1
    have c2 := X.cell 2
    have c3 := X.cell 3
    have c4 := X.cell 4
    have c5 := X.cell 5
    have c6 := X.cell 6
    have z0 := Z.cell 0
    have z1 := Z.cell 1
    simp only [List.getElem?_toArray, List.getElem?_cons_zero, List.getElem?_cons_succ] at c0 c1 c2 c3 c4 c5 c6 z0 z1
    clear X Z
    go_wp2_with fail
    refine (CI.out _).mono ?_
    rintro e w2 ⟨rfl, hb⟩
    have BX := Lib.hid (BX.out.trans (hb.mono BX.out.size))
    have BW := Lib.hid (BW.out.trans (hb.mono BW.out.size))
    have X := X1.out.on BX.out
    have Z := Z1.out.on BX.out
    clear hb
    clear c0 c1 c2 c3 c4 c5 c6 z0 z1
    have c0 := X.cell 0
    have c1 := X.cell 1
    have c2 := X.cell 2
    have c3 := X.cell 3
    have c4 := X.cell 4
    have c5 := X.cell 5
    have c6 := X.cell 6
    have z0 := Z.cell 0
    have z1 := Z.cell 1
    simp only [List.getElem?_toArray, List.getElem?_cons_zero, List.getElem?_cons_succ] at c0 c1 c2 c3 c4 c5 c6 z0 z1
    clear X Z
    go_wp2_with fail
    go_ret
    exact ⟨by rw [← RR.out]; rfl, BW.out⟩
  cases b2
  · go_enter Tryd.func13, Tryd.ntmps13
    go_wp2_with fail
    refine (CT.out _).mono ?_
    rintro e w1 ⟨rfl, hb⟩
    have BX := Lib.hid (BX.out.trans (hb.mono BX.out.size))
    have BW := Lib.hid (BW.out.trans (hb.mono BW.out.size))
    have X := X1.out.on BX.out
    have Z := Z1.out.on BX.out
    clear hb
    have c0 := X.cell 0
    have c1 := X.cell 1
    have c2 := X.cell 2
    have c3 := X.cell 3
    have c4 := X.cell 4
    have c5 := X.cell 5
    have c6 := X.cell 6
    have z0 := Z.cell 0
    have z1 := Z.cell 1
    simp only [List.getElem?_toArray, List.getElem?_cons_zero, List.getElem?_cons_succ] at c0 c1 c2 c3 c4 c5 c6 z0 z1
    clear X Z
    go_wp2_with fail
    refine (CI.out _).mono ?_
    rintro e w2 ⟨rfl, hb⟩
    have BX := Lib.hid (BX.out.trans (hb.mono BX.out.size))
    have BW := Lib.hid (BW.out.trans (hb.mono BW.out.size))
    have X := X1.out.on BX.out
    have Z := Z1.out.on BX.out
    clear hb
    clear c0 c1 c2 c3 c4 c5 c6 z0 z1
    have c0 := X.cell 0
    have c1 := X.cell 1
    have c2 := X.cell 2
    have c3 := X.cell 3
    have c4 := X.cell 4
    have c5 := X.cell 5
    have c6 := X.cell 6
    have z0 := Z.cell 0
    have z1 := Z.cell 1
    simp only [List.getElem?_toArray, List.getElem?_cons_zero, List.getElem?_cons_succ] at c0 c1 c2 c3 c4 c5 c6 z0 z1
    clear X Z
    go_wp2_with fail
    refine (CP.out _ BX.out).mono ?_
    rintro e w3 ⟨rfl, hb⟩
    have BX := Lib.hid (BX.out.trans (hb.mono BX.out.size))
    have BW := Lib.hid (BW.out.trans (hb.mono BW.out.size))
    have X := X1.out.on BX.out
    have Z := Z1.out.on BX.out
    clear hb
    clear c0 c1 c2 c3 c4 c5 c6 z0 z1
    have c0 := X.cell 0
    have c1 := X.cell 1
    have c2 := X.cell 2
    have c3 := X.cell 3
    have c4 := X.cell 4
    have c5 := X.cell 5
    have c6 := X.cell 6
    have z0 := Z.cell 0
    have z1 := Z.cell 1
    simp only [List.getElem?_toArray, List.getElem?_cons_zero, List.getElem?_cons_succ] at c0 c1 c2 c3 c4 c5 c6 z0 z1
    clear X Z
    go_wp2_with fail
    go_ret
    exact ⟨by rw [← RR.out]; rfl, BW.out⟩
  go_enter Tryd.func13, Tryd.ntmps13
  go_wp2_with fail
  refine (CT.out _).mono ?_
  rintro e w1 ⟨rfl, hb⟩
  have BX := Lib.hid (BX.out.trans (hb.mono BX.out.size))
  have BW := Lib.hid (BW.out.trans (hb.mono BW.out.size))
  have X := X1.out.on BX.out
  have Z := Z1.out.on BX.out
  clear hb
  have c0 := X.cell 0
  have c1 := X.cell 1
  have c2 := X.cell 2
  have c3 := X.cell 3
  have c4 := X.cell 4
  have c5 := X.cell 5
  have c6 := X.cell 6
  have z0 := Z.cell 0
  have z1 := Z.cell 1
  simp only [List.getElem?_toArray, List.getElem?_cons_zero, List.getElem?_cons_succ] at c0 c1 c2 c3 c4 c5 c6 z0 z1
  clear X Z
  go_wp2_with fail
  refine (CI.out _).mono ?_
  rintro e w2 ⟨rfl, hb⟩
  have BX := Lib.hid (BX.out.trans (hb.mono BX.out.size))
  have BW := Lib.hid (BW.out.trans (hb.mono BW.out.size))
  have X := X1.out.on BX.out
  have Z := Z1.out.on BX.out
  clear hb
  clear c0 c1 c2 c3 c4 c5 c6 z0 z1
  have c0 := X.cell 0
  have c1 := X.cell 1
  have c2 := X.cell 2
  have c3 := X.cell 3
  have c4 := X.cell 4
  have c5 := X.cell 5
  have c6 := X.cell 6
  have z0 := Z.cell 0
  have z1 := Z.cell 1
  simp only [List.getElem?_toArray, List.getElem?_cons_zero, List.getElem?_cons_succ] at c0 c1 c2 c3 c4 c5 c6 z0 z1
  clear X Z
  go_wp2_with fail
  refine (CP.out _ BX.out).mono ?_
  rintro e w3 ⟨rfl, hb⟩
  have BX := Lib.hid (BX.out.trans (hb.mono BX.out.size))
  have BW := Lib.hid (BW.out.trans (hb.mono BW.out.size))
  have X := X1.out.on BX.out
  have Z := Z1.out.on BX.out
  clear hb
  clear c0 c1 c2 c3 c4 c5 c6 z0 z1
  have c0 := X.cell 0
  have c1 := X.cell 1
  have c2 := X.cell 2
  have c3 := X.cell 3
  have c4 := X.cell 4
  have c5 := X.cell 5
  have c6 := X.cell 6
  have z0 := Z.cell 0
  have z1 := Z.cell 1
  simp only [List.getElem?_toArray, List.getElem?_cons_zero, List.getElem?_cons_succ] at c0 c1 c2 c3 c4 c5 c6 z0 z1
  clear X Z
  go_wp2_with fail
  go_ret
  exact ⟨by rw [← RR.out]; rfl, BW.out⟩
set_option maxRecDepth 100000 in
set_option maxHeartbeats 8000000 in
theorem rmsg_4 (tc ts ic is : Int) (p : List C5) (l : List A4) (pv lv : Value) (w : World) (h : MgIn w ⟨4, tc, ts, ic, is, p, l⟩ pv lv) (hs : Small ⟨4, tc, ts, ic, is, p, l⟩) :
    Calls Tryd.prog 13 #[mv ⟨4, tc, ts, ic, is, p, l⟩ pv lv] w fun e w' => e = .returned (.bool ((rightI tc ts) && ((rightI ic is) && (p.isEmpty && (l.isEmpty))))) ∧ Below w.heap.size w w' := by
  have B0 := new_below w (.cells (mcells ⟨4, tc, ts, ic, is, p, l⟩ pv lv) 32)
  have BW := Lib.hid (B0.alloc B0.size (.cells #[.int .i64 0, .int .i64 0] 28))
  have X1 := Lib.hid ((box_new w (mcells ⟨4, tc, ts, ic, is, p, l⟩ pv lv) 32).more (.cells #[.int .i64 0, .int .i64 0] 28))
  have Z1 := Lib.hid (show Box ((w.alloc (.cells (mcells ⟨4, tc, ts, ic, is, p, l⟩ pv lv) 32)).alloc (.cells #[.int .i64 0, .int .i64 0] 28)) (w.heap.size + 1) #[.int .i64 0, .int .i64 0] 28 by
    have h := box_new (w.alloc (.cells (mcells ⟨4, tc, ts, ic, is, p, l⟩ pv lv) 32)) #[.int .i64 0, .int .i64 0] 28
    rwa [show (w.alloc (.cells (mcells ⟨4, tc, ts, ic, is, p, l⟩ pv lv) 32)).heap.size = w.heap.size + 1 by simp] at h)
  have BX := Lib.hid (Below.refl ((w.alloc (.cells (mcells ⟨4, tc, ts, ic, is, p, l⟩ pv lv) 32)).alloc (.cells #[.int .i64 0, .int .i64 0] 28)).heap.size ((w.alloc (.cells (mcells ⟨4, tc, ts, ic, is, p, l⟩ pv lv) 32)).alloc (.cells #[.int .i64 0, .int .i64 0] 28)))
  have PR := Lib.hid h.p
  have TR := Lib.hid h.l
  have LPN := Lib.hid hs.p
  have LPS := Lib.hid hs.ps
  have LLN := Lib.hid hs.l
  have LLS := Lib.hid hs.ls
  obtain ⟨po, pc, rfl⟩ := h.p.len
  obtain ⟨lo, lc, rfl⟩ := h.l.len
  clear h hs
  obtain ⟨r, hr⟩ : ∃ r, ((rightI tc ts) && ((rightI ic is) && (p.isEmpty && (l.isEmpty)))) = r := ⟨_, rfl⟩
  rw [hr]
  have RR := Lib.hid hr
  clear hr
  have CT := Lib.hid (fun w => rid_any tc ts w)
  have CI := Lib.hid (fun w => rid_any ic is w)
  have elp := empty_len p
  have ell := empty_len l
  clear B0 PR TR LPN LPS LLN LLS
  generalize (rightI tc ts) = b0 at *
  generalize (rightI ic is) = b1 at *
  generalize p.isEmpty = b2 at *
  generalize l.isEmpty = b3 at *
  cases b0
  · go_enter Tryd.func13, Tryd.ntmps13
    go_wp2_with fail
    refine (CT.out _).mono ?_
    rintro e w1 ⟨rfl, hb⟩
    have BX := Lib.hid (BX.out.trans (hb.mono BX.out.size))
    have BW := Lib.hid (BW.out.trans (hb.mono BW.out.size))
    have X := X1.out.on BX.out
    have Z := Z1.out.on BX.out
    clear hb
    have c0 := X.cell 0
    have c1 := X.cell 1
    have c2 := X.cell 2
    have c3 := X.cell 3
    have c4 := X.cell 4
    have c5 := X.cell 5
    have c6 := X.cell 6
    have z0 := Z.cell 0
    have z1 := Z.cell 1
    simp only [List.getElem?_toArray, List.getElem?_cons_zero, List.getElem?_cons_succ] at c0 c1 c2 c3 c4 c5 c6 z0 z1
    clear X Z
    go_wp2_with fail
    go_ret
    exact ⟨by rw [← RR.out]; rfl, BW.out⟩
  cases b1
  · go_enter Tryd.func13, Tryd.ntmps13
    go_wp2_with fail
    refine (CT.out _).mono ?_
    rintro e w1 ⟨rfl, hb⟩
    have BX := Lib.hid (BX.out.trans (hb.mono BX.out.size))
    have BW := Lib.hid (BW.out.trans (hb.mono BW.out.size))
    have X := X1.out.on BX.out
    have Z := Z1.out.on BX.out
    clear hb
    have c0 := X.cell 0
    have c1 := X.cell 1
    have c2 := X.cell 2
    have c3 := X.cell 3
    have c4 := X.cell 4
    have c5 := X.cell 5
    have c6 := X.cell 6
    have z0 := Z.cell 0
    have z1 := Z.cell 1
    simp only [List.getElem?_toArray, List.getElem?_cons_zero, List.getElem?_cons_succ] at c0 c1 c2 c3 c4 c5 c6 z0 z1
    clear X Z
    go_wp2_with fail
    refine (CI.out _).mono ?_
    rintro e w2 ⟨rfl, hb⟩
    have BX := Lib.hid (BX.out.trans (hb.mono BX.out.size))
    have BW := Lib.hid (BW.out.trans (hb.mono BW.out.size))
    have X := X1.out.on BX.out
    have Z := Z1.out.on BX.out
    clear hb
    clear c0 c1 c2 c3 c4 c5 c6 z0 z1
    have c0 := X.cell 0
    have c1 := X.cell 1
    have c2 := X.cell 2
    have c3 := X.cell 3
    have c4 := X.cell 4
    have c5 := X.cell 5
    have c6 := X.cell 6
    have z0 := Z.cell 0
    have z1 := Z.cell 1
    simp only [List.getElem?_toArray, List.getElem?_cons_zero, List.getElem?_cons_succ] at c0 c1 c2 c3 c4 c5 c6 z0 z1
    clear X Z
    go_wp2_with fail
    go_ret
    exact ⟨by rw [← RR.out]; rfl, BW.out⟩
  cases b2
  · go_enter Tryd.func13, Tryd.ntmps13
    go_wp2_with fail
    refine (CT.out _).mono ?_
    rintro e w1 ⟨rfl, hb⟩
    have BX := Lib.hid (BX.out.trans (hb.mono BX.out.size))
    have BW := Lib.hid (BW.out.trans (hb.mono BW.out.size))
    have X := X1.out.on BX.out
    have Z := Z1.out.on BX.out
    clear hb
    have c0 := X.cell 0
    have c1 := X.cell 1
    have c2 := X.cell 2
    have c3 := X.cell 3
    have c4 := X.cell 4
    have c5 := X.cell 5
    have c6 := X.cell 6
    have z0 := Z.cell 0
    have z1 := Z.cell 1
    simp only [List.getElem?_toArray, List.getElem?_cons_zero, List.getElem?_cons_succ] at c0 c1 c2 c3 c4 c5 c6 z0 z1
    clear X Z
    go_wp2_with fail
    refine (CI.out _).mono ?_
    rintro e w2 ⟨rfl, hb⟩
    have BX := Lib.hid (BX.out.trans (hb.mono BX.out.size))
    have BW := Lib.hid (BW.out.trans (hb.mono BW.out.size))
    have X := X1.out.on BX.out
    have Z := Z1.out.on BX.out
    clear hb
    clear c0 c1 c2 c3 c4 c5 c6 z0 z1
    have c0 := X.cell 0
    have c1 := X.cell 1
    have c2 := X.cell 2
    have c3 := X.cell 3
    have c4 := X.cell 4
    have c5 := X.cell 5
    have c6 := X.cell 6
    have z0 := Z.cell 0
    have z1 := Z.cell 1
    simp only [List.getElem?_toArray, List.getElem?_cons_zero, List.getElem?_cons_succ] at c0 c1 c2 c3 c4 c5 c6 z0 z1
    clear X Z
    go_wp2_with fail
    go_ret
    exact ⟨by rw [← RR.out]; rfl, BW.out⟩
  go_enter Tryd.func13, Tryd.ntmps13
  go_wp2_with fail
  refine (CT.out _).mono ?_
  rintro e w1 ⟨rfl, hb⟩
  have BX := Lib.hid (BX.out.trans (hb.mono BX.out.size))
  have BW := Lib.hid (BW.out.trans (hb.mono BW.out.size))
  have X := X1.out.on BX.out
  have Z := Z1.out.on BX.out
  clear hb
  have c0 := X.cell 0
  have c1 := X.cell 1
  have c2 := X.cell 2
  have c3 := X.cell 3
  have c4 := X.cell 4
  have c5 := X.cell 5
  have c6 := X.cell 6
  have z0 := Z.cell 0
  have z1 := Z.cell 1
  simp only [List.getElem?_toArray, List.getElem?_cons_zero, List.getElem?_cons_succ] at c0 c1 c2 c3 c4 c5 c6 z0 z1
  clear X Z
  go_wp2_with fail
  refine (CI.out _).mono ?_
  rintro e w2 ⟨rfl, hb⟩
  have BX := Lib.hid (BX.out.trans (hb.mono BX.out.size))
  have BW := Lib.hid (BW.out.trans (hb.mono BW.out.size))
  have X := X1.out.on BX.out
  have Z := Z1.out.on BX.out
  clear hb
  clear c0 c1 c2 c3 c4 c5 c6 z0 z1
  have c0 := X.cell 0
  have c1 := X.cell 1
  have c2 := X.cell 2
  have c3 := X.cell 3
  have c4 := X.cell 4
  have c5 := X.cell 5
  have c6 := X.cell 6
  have z0 := Z.cell 0
  have z1 := Z.cell 1
  simp only [List.getElem?_toArray, List.getElem?_cons_zero, List.getElem?_cons_succ] at c0 c1 c2 c3 c4 c5 c6 z0 z1
  clear X Z
  go_wp2_with fail
  go_ret
  exact ⟨by rw [← RR.out]; rfl, BW.out⟩
set_option maxRecDepth 100000 in
set_option maxHeartbeats 8000000 in
theorem rmsg_5 (tc ts ic is : Int) (p : List C5) (l : List A4) (pv lv : Value) (w : World) (h : MgIn w ⟨5, tc, ts, ic, is, p, l⟩ pv lv) (hs : Small ⟨5, tc, ts, ic, is, p, l⟩) :
    Calls Tryd.prog 13 #[mv ⟨5, tc, ts, ic, is, p, l⟩ pv lv] w fun e w' => e = .returned (.bool ((rightI tc ts) && ((rightI ic is) && (p.isEmpty && ((rightT l)))))) ∧ Below w.heap.size w w' := by
  have B0 := new_below w (.cells (mcells ⟨5, tc, ts, ic, is, p, l⟩ pv lv) 32)
  have BW := Lib.hid (B0.alloc B0.size (.cells #[.int .i64 0, .int .i64 0] 28))
  have X1 := Lib.hid ((box_new w (mcells ⟨5, tc, ts, ic, is, p, l⟩ pv lv) 32).more (.cells #[.int .i64 0, .int .i64 0] 28))
  have Z1 := Lib.hid (show Box ((w.alloc (.cells (mcells ⟨5, tc, ts, ic, is, p, l⟩ pv lv) 32)).alloc (.cells #[.int .i64 0, .int .i64 0] 28)) (w.heap.size + 1) #[.int .i64 0, .int .i64 0] 28 by
    have h := box_new (w.alloc (.cells (mcells ⟨5, tc, ts, ic, is, p, l⟩ pv lv) 32)) #[.int .i64 0, .int .i64 0] 28
    rwa [show (w.alloc (.cells (mcells ⟨5, tc, ts, ic, is, p, l⟩ pv lv) 32)).heap.size = w.heap.size + 1 by simp] at h)
  have BX := Lib.hid (Below.refl ((w.alloc (.cells (mcells ⟨5, tc, ts, ic, is, p, l⟩ pv lv) 32)).alloc (.cells #[.int .i64 0, .int .i64 0] 28)).heap.size ((w.alloc (.cells (mcells ⟨5, tc, ts, ic, is, p, l⟩ pv lv) 32)).alloc (.cells #[.int .i64 0, .int .i64 0] 28)))
  have PR := Lib.hid h.p
  have TR := Lib.hid h.l
  have LPN := Lib.hid hs.p
  have LPS := Lib.hid hs.ps
  have LLN := Lib.hid hs.l
  have LLS := Lib.hid hs.ls
  obtain ⟨po, pc, rfl⟩ := h.p.len
  obtain ⟨lo, lc, rfl⟩ := h.l.len
  clear h hs
  obtain ⟨r, hr⟩ : ∃ r, ((rightI tc ts) && ((rightI ic is) && (p.isEmpty && ((rightT l))))) = r := ⟨_, rfl⟩
  rw [hr]
  have RR := Lib.hid hr
  clear hr
  have CT := Lib.hid (fun w => rid_any tc ts w)
  have CI := Lib.hid (fun w => rid_any ic is w)
  have elp := empty_len p
  have CL := Lib.hid (fun w' (hb : Below ((w.alloc (.cells (mcells ⟨5, tc, ts, ic, is, p, l⟩ (.slice po p.length pc) (.slice lo l.length lc)) 32)).alloc (.cells #[.int .i64 0, .int .i64 0] 28)).heap.size ((w.alloc (.cells (mcells ⟨5, tc, ts, ic, is, p, l⟩ (.slice po p.length pc) (.slice lo l.length lc)) 32)).alloc (.cells #[.int .i64 0, .int .i64 0] 28)) w') => rtuple_any _ l w' ((TR.out.on (B0.alloc B0.size (.cells #[.int .i64 0, .int .i64 0] 28))).on hb) LLN.out LLS.out)
  clear B0 PR TR LPN LPS LLN LLS
  generalize (rightI tc ts) = b0 at *
  generalize (rightI ic is) = b1 at *
  generalize p.isEmpty = b2 at *
  generalize (rightT l) = b3 at *
  cases b0
  · go_enter Tryd.func13, Tryd.ntmps13
    go_wp2_with fail
    refine (CT.out _).mono ?_
    rintro e w1 ⟨rfl, hb⟩
    have BX := Lib.hid (BX.out.trans (hb.mono BX.out.size))
    have BW := Lib.hid (BW.out.trans (hb.mono BW.out.size))
    have X := X1.out.on BX.out
    have Z := Z1.out.on BX.out
    clear hb
    have c0 := X.cell 0
    have c1 := X.cell 1
    have c2 := X.cell 2
    have c3 := X.cell 3
    have c4 := X.cell 4
    have c5 := X.cell 5
    have c6 := X.cell 6
    have z0 := Z.cell 0
    have z1 := Z.cell 1
    simp only [List.getElem?_toArray, List.getElem?_cons_zero, List.getElem?_cons_succ] at c0 c1 c2 c3 c4 c5 c6 z0 z1
    clear X Z
    go_wp2_with fail
    go_ret
    exact ⟨by rw [← RR.out]; rfl, BW.out⟩
  cases b1
  · go_enter Tryd.func13, Tryd.ntmps13
    go_wp2_with fail
    refine (CT.out _).mono ?_
    rintro e w1 ⟨rfl, hb⟩
    have BX := Lib.hid (BX.out.trans (hb.mono BX.out.size))
    have BW := Lib.hid (BW.out.trans (hb.mono BW.out.size))
    have X := X1.out.on BX.out
    have Z := Z1.out.on BX.out
    clear hb
    have c0 := X.cell 0
    have c1 := X.cell 1
    have c2 := X.cell 2
    have c3 := X.cell 3
    have c4 := X.cell 4
    have c5 := X.cell 5
    have c6 := X.cell 6
    have z0 := Z.cell 0
    have z1 := Z.cell 1
    simp only [List.getElem?_toArray, List.getElem?_cons_zero, List.getElem?_cons_succ] at c0 c1 c2 c3 c4 c5 c6 z0 z1
    clear X Z
    go_wp2_with fail
    refine (CI.out _).mono ?_
    rintro e w2 ⟨rfl, hb⟩
    have BX := Lib.hid (BX.out.trans (hb.mono BX.out.size))
    have BW := Lib.hid (BW.out.trans (hb.mono BW.out.size))
    have X := X1.out.on BX.out
    have Z := Z1.out.on BX.out
    clear hb
    clear c0 c1 c2 c3 c4 c5 c6 z0 z1
    have c0 := X.cell 0
    have c1 := X.cell 1
    have c2 := X.cell 2
    have c3 := X.cell 3
    have c4 := X.cell 4
    have c5 := X.cell 5
    have c6 := X.cell 6
    have z0 := Z.cell 0
    have z1 := Z.cell 1
    simp only [List.getElem?_toArray, List.getElem?_cons_zero, List.getElem?_cons_succ] at c0 c1 c2 c3 c4 c5 c6 z0 z1
    clear X Z
    go_wp2_with fail
    go_ret
    exact ⟨by rw [← RR.out]; rfl, BW.out⟩
  cases b2
  · go_enter Tryd.func13, Tryd.ntmps13
    go_wp2_with fail
    refine (CT.out _).mono ?_
    rintro e w1 ⟨rfl, hb⟩
    have BX := Lib.hid (BX.out.trans (hb.mono BX.out.size))
    have BW := Lib.hid (BW.out.trans (hb.mono BW.out.size))
    have X := X1.out.on BX.out
    have Z := Z1.out.on BX.out
    clear hb
    have c0 := X.cell 0
    have c1 := X.cell 1
    have c2 := X.cell 2
    have c3 := X.cell 3
    have c4 := X.cell 4
    have c5 := X.cell 5
    have c6 := X.cell 6
    have z0 := Z.cell 0
    have z1 := Z.cell 1
    simp only [List.getElem?_toArray, List.getElem?_cons_zero, List.getElem?_cons_succ] at c0 c1 c2 c3 c4 c5 c6 z0 z1
    clear X Z
    go_wp2_with fail
    refine (CI.out _).mono ?_
    rintro e w2 ⟨rfl, hb⟩
    have BX := Lib.hid (BX.out.trans (hb.mono BX.out.size))
    have BW := Lib.hid (BW.out.trans (hb.mono BW.out.size))
    have X := X1.out.on BX.out
    have Z := Z1.out.on BX.out
    clear hb
    clear c0 c1 c2 c3 c4 c5 c6 z0 z1
    have c0 := X.cell 0
    have c1 := X.cell 1
    have c2 := X.cell 2
    have c3 := X.cell 3
    have c4 := X.cell 4
    have c5 := X.cell 5
    have c6 := X.cell 6
    have z0 := Z.cell 0
    have z1 := Z.cell 1
    simp only [List.getElem?_toArray, List.getElem?_cons_zero, List.getElem?_cons_succ] at c0 c1 c2 c3 c4 c5 c6 z0 z1
    clear X Z
    go_wp2_with fail
    go_ret
    exact ⟨by rw [← RR.out]; rfl, BW.out⟩
  go_enter Tryd.func13, Tryd.ntmps13
  go_wp2_with fail
  refine (CT.out _).mono ?_
  rintro e w1 ⟨rfl, hb⟩
  have BX := Lib.hid (BX.out.trans (hb.mono BX.out.size))
  have BW := Lib.hid (BW.out.trans (hb.mono BW.out.size))
  have X := X1.out.on BX.out
  have Z := Z1.out.on BX.out
  clear hb
  have c0 := X.cell 0
  have c1 := X.cell 1
  have c2 := X.cell 2
  have c3 := X.cell 3
  have c4 := X.cell 4
  have c5 := X.cell 5
  have c6 := X.cell 6
  have z0 := Z.cell 0
  have z1 := Z.cell 1
  simp only [List.getElem?_toArray, List.getElem?_cons_zero, List.getElem?_cons_succ] at c0 c1 c2 c3 c4 c5 c6 z0 z1
  clear X Z
  go_wp2_with fail
  refine (CI.out _).mono ?_
  rintro e w2 ⟨rfl, hb⟩
  have BX := Lib.hid (BX.out.trans (hb.mono BX.out.size))
  have BW := Lib.hid (BW.out.trans (hb.mono BW.out.size))
  have X := X1.out.on BX.out
  have Z := Z1.out.on BX.out
  clear hb
  clear c0 c1 c2 c3 c4 c5 c6 z0 z1
  have c0 := X.cell 0
  have c1 := X.cell 1
  have c2 := X.cell 2
  have c3 := X.cell 3
  have c4 := X.cell 4
  have c5 := X.cell 5
  have c6 := X.cell 6
  have z0 := Z.cell 0
  have z1 := Z.cell 1
  simp only [List.getElem?_toArray, List.getElem?_cons_zero, List.getElem?_cons_succ] at c0 c1 c2 c3 c4 c5 c6 z0 z1
  clear X Z
  go_wp2_with fail
  refine (CL.out _ BX.out).mono ?_
  rintro e w3 ⟨rfl, hb⟩
  have BX := Lib.hid (BX.out.trans (hb.mono BX.out.size))
  have BW := Lib.hid (BW.out.trans (hb.mono BW.out.size))
  have X := X1.out.on BX.out
  have Z := Z1.out.on BX.out
  clear hb
  clear c0 c1 c2 c3 c4 c5 c6 z0 z1
  have c0 := X.cell 0
  have c1 := X.cell 1
  have c2 := X.cell 2
  have c3 := X.cell 3
  have c4 := X.cell 4
  have c5 := X.cell 5
  have c6 := X.cell 6
  have z0 := Z.cell 0
  have z1 := Z.cell 1
  simp only [List.getElem?_toArray, List.getElem?_cons_zero, List.getElem?_cons_succ] at c0 c1 c2 c3 c4 c5 c6 z0 z1
  clear X Z
  go_wp2_with fail
  go_ret
  exact ⟨by rw [← RR.out]; rfl, BW.out⟩
end Go.Proofs.YtfcgfnmokbbcaaaDoor.Wr

namespace Go.Proofs.YtfcgfnmokbbcaaaDoor.Wr
open Go.RowKit Go.Sort Go.Proofs.YtfcgfnmokbbcaaaDoor Go.Proofs.YtfcgfnmokbbcaaaDoor.Rw Go.Proofs.YtfcgfnmokbbcaaaDoor.Nm Go.Proofs.YtfcgfnmokbbcaaaDoor.At Go.Proofs.YtfcgfnmokbbcaaaDoor.Pr Go.Proofs.YtfcgfnmokbbcaaaDoor.Va

set_option maxRecDepth 100000 in
set_option maxHeartbeats 8000000 in
theorem rmsg_other (k tc ts ic is : Int) (p : List C5) (l : List A4) (pv lv : Value) (w : World) (h1 : k ≠ 1) (h2 : k ≠ 2) (h3 : k ≠ 3) (h4 : k ≠ 4) (h5 : k ≠ 5) :
    Calls Tryd.prog 13 #[mv ⟨k, tc, ts, ic, is, p, l⟩ pv lv] w fun e w' => e = .returned (.bool false) ∧ Below w.heap.size w w' := by
  have B0 := new_below w (.cells (mcells ⟨k, tc, ts, ic, is, p, l⟩ pv lv) 32)
  have BW := Lib.hid (B0.alloc B0.size (.cells #[.int .i64 0, .int .i64 0] 28))
  have e1 : (k == 1) = false := by simpa using h1
  have e2 : (k == 2) = false := by simpa using h2
  have e3 : (k == 3) = false := by simpa using h3
  have e4 : (k == 4) = false := by simpa using h4
  have e5 : (k == 5) = false := by simpa using h5
  clear h1 h2 h3 h4 h5 B0
  go_enter Tryd.func13, Tryd.ntmps13
  go_wp2
  go_ret
  exact ⟨rfl, BW.out⟩
theorem zero_is (x : Int) : decide (x = 0) = (x == 0) := by rw [Bool.eq_iff_iff]; simp
theorem rmsg_any (m : Mg) (pv lv : Value) (w : World) (h : MgIn w m pv lv) (hs : Small m) :
    Calls Tryd.prog 13 #[mv m pv lv] w fun e w' => e = .returned (.bool (rightM m)) ∧ Below w.heap.size w w' := by
  obtain ⟨k, tc, ts, ic, is, p, l⟩ := m
  by_cases h1 : k = 1
  · subst h1
    have e : rightM ⟨1, tc, ts, ic, is, p, l⟩ = (rightI tc ts && ((ic == 0 && is == 0) && (rightP p && l.isEmpty))) := by simp only [rightM, if_true, zero_is, Bool.and_assoc]
    rw [e]
    exact rmsg_1 tc ts ic is p l pv lv w h hs
  by_cases h2 : k = 2
  · subst h2
    have e : rightM ⟨2, tc, ts, ic, is, p, l⟩ = (rightI tc ts && ((ic == 0 && is == 0) && (p.isEmpty && l.isEmpty))) := by simp [rightM, zero_is, Bool.and_assoc]
    rw [e]
    exact rmsg_2 tc ts ic is p l pv lv w h hs
  by_cases h3 : k = 3
  · subst h3
    have e : rightM ⟨3, tc, ts, ic, is, p, l⟩ = (rightI tc ts && (rightI ic is && (rightP p && l.isEmpty))) := by simp [rightM]
    rw [e]
    exact rmsg_3 tc ts ic is p l pv lv w h hs
  by_cases h4 : k = 4
  · subst h4
    have e : rightM ⟨4, tc, ts, ic, is, p, l⟩ = (rightI tc ts && (rightI ic is && (p.isEmpty && l.isEmpty))) := by simp [rightM]
    rw [e]
    exact rmsg_4 tc ts ic is p l pv lv w h hs
  by_cases h5 : k = 5
  · subst h5
    have e : rightM ⟨5, tc, ts, ic, is, p, l⟩ = (rightI tc ts && (rightI ic is && (p.isEmpty && rightT l))) := by simp [rightM]
    rw [e]
    exact rmsg_5 tc ts ic is p l pv lv w h hs
  have e : rightM ⟨k, tc, ts, ic, is, p, l⟩ = false := by simp [rightM, h1, h2, h3, h4, h5]
  rw [e]
  exact rmsg_other k tc ts ic is p l pv lv w h1 h2 h3 h4 h5
end Go.Proofs.YtfcgfnmokbbcaaaDoor.Wr

namespace Go.Proofs.YtfcgfnmokbbcaaaDoor.Ws
open Go.RowKit Go.Sort Go.Proofs.YtfcgfnmokbbcaaaDoor Go.Proofs.YtfcgfnmokbbcaaaDoor.Rw Go.Proofs.YtfcgfnmokbbcaaaDoor.Nm Go.Proofs.YtfcgfnmokbbcaaaDoor.At Go.Proofs.YtfcgfnmokbbcaaaDoor.Pr Go.Proofs.YtfcgfnmokbbcaaaDoor.Wr Go.Proofs.YtfcgfnmokbbcaaaDoor.Va

theorem some_len {α : Type} (l : List α) : decide (0 < l.length) = !l.isEmpty := by
  cases l with
  | nil => rfl
  | cons a l => simp
theorem rightP_none {p : List C5} (h : p.isEmpty = true) : rightP p = true := by
  rw [List.isEmpty_iff] at h
  subst h
  rfl
set_option maxRecDepth 100000 in
set_option maxHeartbeats 8000000 in
theorem wright_1 (tc ts ic is : Int) (p : List C5) (l : List A4) (pv lv : Value) (w : World) (h : MgIn w ⟨1, tc, ts, ic, is, p, l⟩ pv lv) (hs : Small ⟨1, tc, ts, ic, is, p, l⟩) (hl : l.length ≤ 1000) :
    Calls Tryd.prog 14 #[mv ⟨1, tc, ts, ic, is, p, l⟩ pv lv] w fun e w' => e = .returned (.bool ((rightI tc ts) && ((ic == 0 && is == 0) && ((rightP p) && (l.isEmpty))))) ∧ Below w.heap.size w w' := by
  have B0 := new_below w (.cells (mcells ⟨1, tc, ts, ic, is, p, l⟩ pv lv) 32)
  have BW := Lib.hid B0
  have X1 := Lib.hid (box_new w (mcells ⟨1, tc, ts, ic, is, p, l⟩ pv lv) 32)
  have BX := Lib.hid (Below.refl (w.alloc (.cells (mcells ⟨1, tc, ts, ic, is, p, l⟩ pv lv) 32)).heap.size (w.alloc (.cells (mcells ⟨1, tc, ts, ic, is, p, l⟩ pv lv) 32)))
  have PR := Lib.hid h.p
  have TR := Lib.hid h.l
  have LPS := Lib.hid hs.ps
  have LLN := Lib.hid hl
  have LLS := Lib.hid hs.ls
  obtain ⟨po, pc, rfl⟩ := h.p.len
  obtain ⟨lo, lc, rfl⟩ := h.l.len
  clear h hs hl
  obtain ⟨r, hr⟩ : ∃ r, ((rightI tc ts) && ((ic == 0 && is == 0) && ((rightP p) && (l.isEmpty)))) = r := ⟨_, rfl⟩
  rw [hr]
  have RR := Lib.hid hr
  clear hr
  have CT := Lib.hid (fun w => given_any tc ts w)
  have eq0 := eqID ic is 0 0
  have CP := Lib.hid (fun w' (hb : Below (w.alloc (.cells (mcells ⟨1, tc, ts, ic, is, p, l⟩ (.slice po p.length pc) (.slice lo l.length lc)) 32)).heap.size (w.alloc (.cells (mcells ⟨1, tc, ts, ic, is, p, l⟩ (.slice po p.length pc) (.slice lo l.length lc)) 32)) w') => pright_any _ p w' ((PR.out.on B0).on hb) LPS.out)
  have ell := empty_len l
  clear B0 PR TR LPS LLN LLS
  generalize (rightI tc ts) = b0 at *
  generalize (ic == 0 && is == 0) = b1 at *
  generalize (rightP p) = b2 at *
  generalize l.isEmpty = b3 at *
  cases b0
  · go_enter Tryd.func14, Tryd.ntmps14
    go_wp2_with fail
    refine (CT.out _).mono ?_
    rintro e w1 ⟨rfl, hb⟩
    have BX := Lib.hid (BX.out.trans (hb.mono BX.out.size))
    have BW := Lib.hid (BW.out.trans (hb.mono BW.out.size))
    have X := X1.out.on BX.out
    clear hb
    have c0 := X.cell 0
    have c1 := X.cell 1
    have c2 := X.cell 2
    have c3 := X.cell 3
    have c4 := X.cell 4
    have c5 := X.cell 5
    have c6 := X.cell 6
    simp only [List.getElem?_toArray, List.getElem?_cons_zero, List.getElem?_cons_succ] at c0 c1 c2 c3 c4 c5 c6
    clear X
    go_wp2_with fail
    go_ret
    exact ⟨by rw [← RR.out]; rfl, BW.out⟩
  cases b1
  · go_enter Tryd.func14, Tryd.ntmps14
    go_wp2_with fail
    refine (CT.out _).mono ?_
    rintro e w1 ⟨rfl, hb⟩
    have BX := Lib.hid (BX.out.trans (hb.mono BX.out.size))
    have BW := Lib.hid (BW.out.trans (hb.mono BW.out.size))
    have X := X1.out.on BX.out
    clear hb
    have c0 := X.cell 0
    have c1 := X.cell 1
    have c2 := X.cell 2
    have c3 := X.cell 3
    have c4 := X.cell 4
    have c5 := X.cell 5
    have c6 := X.cell 6
    simp only [List.getElem?_toArray, List.getElem?_cons_zero, List.getElem?_cons_succ] at c0 c1 c2 c3 c4 c5 c6
    clear X
    go_wp2_with fail
    go_ret
    exact ⟨by rw [← RR.out]; rfl, BW.out⟩
  cases b2
  · go_enter Tryd.func14, Tryd.ntmps14
    go_wp2_with fail
    refine (CT.out _).mono ?_
    rintro e w1 ⟨rfl, hb⟩
    have BX := Lib.hid (BX.out.trans (hb.mono BX.out.size))
    have BW := Lib.hid (BW.out.trans (hb.mono BW.out.size))
    have X := X1.out.on BX.out
    clear hb
    have c0 := X.cell 0
    have c1 := X.cell 1
    have c2 := X.cell 2
    have c3 := X.cell 3
    have c4 := X.cell 4
    have c5 := X.cell 5
    have c6 := X.cell 6
    simp only [List.getElem?_toArray, List.getElem?_cons_zero, List.getElem?_cons_succ] at c0 c1 c2 c3 c4 c5 c6
    clear X
    go_wp2_with fail
    refine (CP.out _ BX.out).mono ?_
    rintro e w2 ⟨rfl, hb⟩
    have BX := Lib.hid (BX.out.trans (hb.mono BX.out.size))
    have BW := Lib.hid (BW.out.trans (hb.mono BW.out.size))
    have X := X1.out.on BX.out
    clear hb
    clear c0 c1 c2 c3 c4 c5 c6
    have c0 := X.cell 0
    have c1 := X.cell 1
    have c2 := X.cell 2
    have c3 := X.cell 3
    have c4 := X.cell 4
    have c5 := X.cell 5
    have c6 := X.cell 6
    simp only [List.getElem?_toArray, List.getElem?_cons_zero, List.getElem?_cons_succ] at c0 c1 c2 c3 c4 c5 c6
    clear X
    go_wp2_with fail
    go_ret
    exact ⟨by rw [← RR.out]; rfl, BW.out⟩
  go_enter Tryd.func14, Tryd.ntmps14
  go_wp2_with fail
  refine (CT.out _).mono ?_
  rintro e w1 ⟨rfl, hb⟩
  have BX := Lib.hid (BX.out.trans (hb.mono BX.out.size))
  have BW := Lib.hid (BW.out.trans (hb.mono BW.out.size))
  have X := X1.out.on BX.out
  clear hb
  have c0 := X.cell 0
  have c1 := X.cell 1
  have c2 := X.cell 2
  have c3 := X.cell 3
  have c4 := X.cell 4
  have c5 := X.cell 5
  have c6 := X.cell 6
  simp only [List.getElem?_toArray, List.getElem?_cons_zero, List.getElem?_cons_succ] at c0 c1 c2 c3 c4 c5 c6
  clear X
  go_wp2_with fail
  refine (CP.out _ BX.out).mono ?_
  rintro e w2 ⟨rfl, hb⟩
  have BX := Lib.hid (BX.out.trans (hb.mono BX.out.size))
  have BW := Lib.hid (BW.out.trans (hb.mono BW.out.size))
  have X := X1.out.on BX.out
  clear hb
  clear c0 c1 c2 c3 c4 c5 c6
  have c0 := X.cell 0
  have c1 := X.cell 1
  have c2 := X.cell 2
  have c3 := X.cell 3
  have c4 := X.cell 4
  have c5 := X.cell 5
  have c6 := X.cell 6
  simp only [List.getElem?_toArray, List.getElem?_cons_zero, List.getElem?_cons_succ] at c0 c1 c2 c3 c4 c5 c6
  clear X
  go_wp2_with fail
  go_ret
  exact ⟨by rw [← RR.out]; rfl, BW.out⟩
set_option maxRecDepth 100000 in
set_option maxHeartbeats 8000000 in
theorem wright_2 (tc ts ic is : Int) (p : List C5) (l : List A4) (pv lv : Value) (w : World) (h : MgIn w ⟨2, tc, ts, ic, is, p, l⟩ pv lv) (hs : Small ⟨2, tc, ts, ic, is, p, l⟩) (hl : l.length ≤ 1000) :
    Calls Tryd.prog 14 #[mv ⟨2, tc, ts, ic, is, p, l⟩ pv lv] w fun e w' => e = .returned (.bool ((rightI tc ts) && (p.isEmpty && ((ic == 0 && is == 0) && (l.isEmpty))))) ∧ Below w.heap.size w w' := by
  have B0 := new_below w (.cells (mcells ⟨2, tc, ts, ic, is, p, l⟩ pv lv) 32)
  have BW := Lib.hid B0
  have X1 := Lib.hid (box_new w (mcells ⟨2, tc, ts, ic, is, p, l⟩ pv lv) 32)
  have BX := Lib.hid (Below.refl (w.alloc (.cells (mcells ⟨2, tc, ts, ic, is, p, l⟩ pv lv) 32)).heap.size (w.alloc (.cells (mcells ⟨2, tc, ts, ic, is, p, l⟩ pv lv) 32)))
  have PR := Lib.hid h.p
  have TR := Lib.hid h.l
  have LPS := Lib.hid hs.ps
  have LLN := Lib.hid hl
  have LLS := Lib.hid hs.ls
  obtain ⟨po, pc, rfl⟩ := h.p.len
  obtain ⟨lo, lc, rfl⟩ := h.l.len
  clear h hs hl
  obtain ⟨r, hr⟩ : ∃ r, ((rightI tc ts) && (p.isEmpty && ((ic == 0 && is == 0) && (l.isEmpty)))) = r := ⟨_, rfl⟩
  rw [hr]
  have RR := Lib.hid hr
  clear hr
  have CT := Lib.hid (fun w => given_any tc ts w)
  have elp := some_len p
  have eq0 := eqID ic is 0 0
  have CP := Lib.hid (fun w' (hb : Below (w.alloc (.cells (mcells ⟨2, tc, ts, ic, is, p, l⟩ (.slice po p.length pc) (.slice lo l.length lc)) 32)).heap.size (w.alloc (.cells (mcells ⟨2, tc, ts, ic, is, p, l⟩ (.slice po p.length pc) (.slice lo l.length lc)) 32)) w') => pright_any _ p w' ((PR.out.on B0).on hb) LPS.out)
  have PT := Lib.hid (fun h : p.isEmpty = true => rightP_none h)
  have ell := empty_len l
  clear B0 PR TR LPS LLN LLS
  generalize (rightI tc ts) = b0 at *
  generalize p.isEmpty = b1 at *
  generalize (ic == 0 && is == 0) = b2 at *
  generalize l.isEmpty = b3 at *
  cases b0
  · go_enter Tryd.func14, Tryd.ntmps14
    go_wp2_with fail
    refine (CT.out _).mono ?_
    rintro e w1 ⟨rfl, hb⟩
    have BX := Lib.hid (BX.out.trans (hb.mono BX.out.size))
    have BW := Lib.hid (BW.out.trans (hb.mono BW.out.size))
    have X := X1.out.on BX.out
    clear hb
    have c0 := X.cell 0
    have c1 := X.cell 1
    have c2 := X.cell 2
    have c3 := X.cell 3
    have c4 := X.cell 4
    have c5 := X.cell 5
    have c6 := X.cell 6
    simp only [List.getElem?_toArray, List.getElem?_cons_zero, List.getElem?_cons_succ] at c0 c1 c2 c3 c4 c5 c6
    clear X
    go_wp2_with fail
    go_ret
    exact ⟨by rw [← RR.out]; rfl, BW.out⟩
  cases b1
  · have elp : decide (0 < p.length) = true := elp
    go_enter Tryd.func14, Tryd.ntmps14
    go_wp2_with fail
    refine (CT.out _).mono ?_
    rintro e w1 ⟨rfl, hb⟩
    have BX := Lib.hid (BX.out.trans (hb.mono BX.out.size))
    have BW := Lib.hid (BW.out.trans (hb.mono BW.out.size))
    have X := X1.out.on BX.out
    clear hb
    have c0 := X.cell 0
    have c1 := X.cell 1
    have c2 := X.cell 2
    have c3 := X.cell 3
    have c4 := X.cell 4
    have c5 := X.cell 5
    have c6 := X.cell 6
    simp only [List.getElem?_toArray, List.getElem?_cons_zero, List.getElem?_cons_succ] at c0 c1 c2 c3 c4 c5 c6
    clear X
    go_wp2_with fail
    go_ret
    exact ⟨by rw [← RR.out]; rfl, BW.out⟩
  have elp : decide (0 < p.length) = false := elp
  cases b2
  · go_enter Tryd.func14, Tryd.ntmps14
    go_wp2_with fail
    refine (CT.out _).mono ?_
    rintro e w1 ⟨rfl, hb⟩
    have BX := Lib.hid (BX.out.trans (hb.mono BX.out.size))
    have BW := Lib.hid (BW.out.trans (hb.mono BW.out.size))
    have X := X1.out.on BX.out
    clear hb
    have c0 := X.cell 0
    have c1 := X.cell 1
    have c2 := X.cell 2
    have c3 := X.cell 3
    have c4 := X.cell 4
    have c5 := X.cell 5
    have c6 := X.cell 6
    simp only [List.getElem?_toArray, List.getElem?_cons_zero, List.getElem?_cons_succ] at c0 c1 c2 c3 c4 c5 c6
    clear X
    go_wp2_with fail
    go_ret
    exact ⟨by rw [← RR.out]; rfl, BW.out⟩
  go_enter Tryd.func14, Tryd.ntmps14
  go_wp2_with fail
  refine (CT.out _).mono ?_
  rintro e w1 ⟨rfl, hb⟩
  have BX := Lib.hid (BX.out.trans (hb.mono BX.out.size))
  have BW := Lib.hid (BW.out.trans (hb.mono BW.out.size))
  have X := X1.out.on BX.out
  clear hb
  have c0 := X.cell 0
  have c1 := X.cell 1
  have c2 := X.cell 2
  have c3 := X.cell 3
  have c4 := X.cell 4
  have c5 := X.cell 5
  have c6 := X.cell 6
  simp only [List.getElem?_toArray, List.getElem?_cons_zero, List.getElem?_cons_succ] at c0 c1 c2 c3 c4 c5 c6
  clear X
  go_wp2_with fail
  refine (CP.out _ BX.out).mono ?_
  rintro e w2 ⟨rfl, hb⟩
  have BX := Lib.hid (BX.out.trans (hb.mono BX.out.size))
  have BW := Lib.hid (BW.out.trans (hb.mono BW.out.size))
  have X := X1.out.on BX.out
  clear hb
  rw [PT.out (by trivial)]
  clear c0 c1 c2 c3 c4 c5 c6
  have c0 := X.cell 0
  have c1 := X.cell 1
  have c2 := X.cell 2
  have c3 := X.cell 3
  have c4 := X.cell 4
  have c5 := X.cell 5
  have c6 := X.cell 6
  simp only [List.getElem?_toArray, List.getElem?_cons_zero, List.getElem?_cons_succ] at c0 c1 c2 c3 c4 c5 c6
  clear X
  go_wp2_with fail
  go_ret
  exact ⟨by rw [← RR.out]; rfl, BW.out⟩
set_option maxRecDepth 100000 in
set_option maxHeartbeats 8000000 in
theorem wright_3 (tc ts ic is : Int) (p : List C5) (l : List A4) (pv lv : Value) (w : World) (h : MgIn w ⟨3, tc, ts, ic, is, p, l⟩ pv lv) (hs : Small ⟨3, tc, ts, ic, is, p, l⟩) (hl : l.length ≤ 1000) :
    Calls Tryd.prog 14 #[mv ⟨3, tc, ts, ic, is, p, l⟩ pv lv] w fun e w' => e = .returned (.bool ((rightI tc ts) && ((rightI ic is) && ((rightP p) && (l.isEmpty))))) ∧ Below w.heap.size w w' := by
  have B0 := new_below w (.cells (mcells ⟨3, tc, ts, ic, is, p, l⟩ pv lv) 32)
  have BW := Lib.hid B0
  have X1 := Lib.hid (box_new w (mcells ⟨3, tc, ts, ic, is, p, l⟩ pv lv) 32)
  have BX := Lib.hid (Below.refl (w.alloc (.cells (mcells ⟨3, tc, ts, ic, is, p, l⟩ pv lv) 32)).heap.size (w.alloc (.cells (mcells ⟨3, tc, ts, ic, is, p, l⟩ pv lv) 32)))
  have PR := Lib.hid h.p
  have TR := Lib.hid h.l
  have LPS := Lib.hid hs.ps
  have LLN := Lib.hid hl
  have LLS := Lib.hid hs.ls
  obtain ⟨po, pc, rfl⟩ := h.p.len
  obtain ⟨lo, lc, rfl⟩ := h.l.len
  clear h hs hl
  obtain ⟨r, hr⟩ : ∃ r, ((rightI tc ts) && ((rightI ic is) && ((rightP p) && (l.isEmpty)))) = r := ⟨_, rfl⟩
  rw [hr]
  have RR := Lib.hid hr
  clear hr
  have CT := Lib.hid (fun w => given_any tc ts w)
  have CI := Lib.hid (fun w => given_any ic is w)
  have CP := Lib.hid (fun w' (hb : Below (w.alloc (.cells (mcells ⟨3, tc, ts, ic, is, p, l⟩ (.slice po p.length pc) (.slice lo l.length lc)) 32)).heap.size (w.alloc (.cells (mcells ⟨3, tc, ts, ic, is, p, l⟩ (.slice po p.length pc) (.slice lo l.length lc)) 32)) w') => pright_any _ p w' ((PR.out.on B0).on hb) LPS.out)
  have ell := empty_len l
  clear B0 PR TR LPS LLN LLS
  generalize (rightI tc ts) = b0 at *
  generalize (rightI ic is) = b1 at *
  generalize (rightP p) = b2 at *
  generalize l.isEmpty = b3 at *
  cases b0
  · go_enter Tryd.func14, Tryd.ntmps14
    go_wp2_with fail
    refine (CT.out _).mono ?_
    rintro e w1 ⟨rfl, hb⟩
    have BX := Lib.hid (BX.out.trans (hb.mono BX.out.size))
    have BW := Lib.hid (BW.out.trans (hb.mono BW.out.size))
    have X := X1.out.on BX.out
    clear hb
    have c0 := X.cell 0
    have c1 := X.cell 1
    have c2 := X.cell 2
    have c3 := X.cell 3
    have c4 := X.cell 4
    have c5 := X.cell 5
    have c6 := X.cell 6
    simp only [List.getElem?_toArray, List.getElem?_cons_zero, List.getElem?_cons_succ] at c0 c1 c2 c3 c4 c5 c6
    clear X
    go_wp2_with fail
    go_ret
    exact ⟨by rw [← RR.out]; rfl, BW.out⟩
  cases b1
  · go_enter Tryd.func14, Tryd.ntmps14
    go_wp2_with fail
    refine (CT.out _).mono ?_
    rintro e w1 ⟨rfl, hb⟩
    have BX := Lib.hid (BX.out.trans (hb.mono BX.out.size))
    have BW := Lib.hid (BW.out.trans (hb.mono BW.out.size))
    have X := X1.out.on BX.out
    clear hb
    have c0 := X.cell 0
    have c1 := X.cell 1
    have c2 := X.cell 2
    have c3 := X.cell 3
    have c4 := X.cell 4
    have c5 := X.cell 5
    have c6 := X.cell 6
    simp only [List.getElem?_toArray, List.getElem?_cons_zero, List.getElem?_cons_succ] at c0 c1 c2 c3 c4 c5 c6
    clear X
    go_wp2_with fail
    refine (CI.out _).mono ?_
    rintro e w2 ⟨rfl, hb⟩
    have BX := Lib.hid (BX.out.trans (hb.mono BX.out.size))
    have BW := Lib.hid (BW.out.trans (hb.mono BW.out.size))
    have X := X1.out.on BX.out
    clear hb
    clear c0 c1 c2 c3 c4 c5 c6
    have c0 := X.cell 0
    have c1 := X.cell 1
    have c2 := X.cell 2
    have c3 := X.cell 3
    have c4 := X.cell 4
    have c5 := X.cell 5
    have c6 := X.cell 6
    simp only [List.getElem?_toArray, List.getElem?_cons_zero, List.getElem?_cons_succ] at c0 c1 c2 c3 c4 c5 c6
    clear X
    go_wp2_with fail
    go_ret
    exact ⟨by rw [← RR.out]; rfl, BW.out⟩
  cases b2
  · go_enter Tryd.func14, Tryd.ntmps14
    go_wp2_with fail
    refine (CT.out _).mono ?_
    rintro e w1 ⟨rfl, hb⟩
    have BX := Lib.hid (BX.out.trans (hb.mono BX.out.size))
    have BW := Lib.hid (BW.out.trans (hb.mono BW.out.size))
    have X := X1.out.on BX.out
    clear hb
    have c0 := X.cell 0
    have c1 := X.cell 1
    have c2 := X.cell 2
    have c3 := X.cell 3
    have c4 := X.cell 4
    have c5 := X.cell 5
    have c6 := X.cell 6
    simp only [List.getElem?_toArray, List.getElem?_cons_zero, List.getElem?_cons_succ] at c0 c1 c2 c3 c4 c5 c6
    clear X
    go_wp2_with fail
    refine (CI.out _).mono ?_
    rintro e w2 ⟨rfl, hb⟩
    have BX := Lib.hid (BX.out.trans (hb.mono BX.out.size))
    have BW := Lib.hid (BW.out.trans (hb.mono BW.out.size))
    have X := X1.out.on BX.out
    clear hb
    clear c0 c1 c2 c3 c4 c5 c6
    have c0 := X.cell 0
    have c1 := X.cell 1
    have c2 := X.cell 2
    have c3 := X.cell 3
    have c4 := X.cell 4
    have c5 := X.cell 5
    have c6 := X.cell 6
    simp only [List.getElem?_toArray, List.getElem?_cons_zero, List.getElem?_cons_succ] at c0 c1 c2 c3 c4 c5 c6
    clear X
    go_wp2_with fail
    refine (CP.out _ BX.out).mono ?_
    rintro e w3 ⟨rfl, hb⟩
    have BX := Lib.hid (BX.out.trans (hb.mono BX.out.size))
    have BW := Lib.hid (BW.out.trans (hb.mono BW.out.size))
    have X := X1.out.on BX.out
    clear hb
    clear c0 c1 c2 c3 c4 c5 c6
    have c0 := X.cell 0
    have c1 := X.cell 1
    have c2 := X.cell 2
    have c3 := X.cell 3
    have c4 := X.cell 4
    have c5 := X.cell 5
    have c6 := X.cell 6
    simp only [List.getElem?_toArray, List.getElem?_cons_zero, List.getElem?_cons_succ] at c0 c1 c2 c3 c4 c5 c6
    clear X
    go_wp2_with fail
    go_ret
    exact ⟨by rw [← RR.out]; rfl, BW.out⟩
  go_enter Tryd.func14, Tryd.ntmps14
  go_wp2_with fail
  refine (CT.out _).mono ?_
  rintro e w1 ⟨rfl, hb⟩
  have BX := Lib.hid (BX.out.trans (hb.mono BX.out.size))
  have BW := Lib.hid (BW.out.trans (hb.mono BW.out.size))
  have X := X1.out.on BX.out
  clear hb
  have c0 := X.cell 0
  have c1 := X.cell 1
  have c2 := X.cell 2
  have c3 := X.cell 3
  have c4 := X.cell 4
  have c5 := X.cell 5
  have c6 := X.cell 6
  simp only [List.getElem?_toArray, List.getElem?_cons_zero, List.getElem?_cons_succ] at c0 c1 c2 c3 c4 c5 c6
  clear X
  go_wp2_with fail
  refine (CI.out _).mono ?_
  rintro e w2 ⟨rfl, hb⟩
  have BX := Lib.hid (BX.out.trans (hb.mono BX.out.size))
  have BW := Lib.hid (BW.out.trans (hb.mono BW.out.size))
  have X := X1.out.on BX.out
  clear hb
  clear c0 c1 c2 c3 c4 c5 c6
  have c0 := X.cell 0
  have c1 := X.cell 1
  have c2 := X.cell 2
  have c3 := X.cell 3
  have c4 := X.cell 4
  have c5 := X.cell 5
  have c6 := X.cell 6
  simp only [List.getElem?_toArray, List.getElem?_cons_zero, List.getElem?_cons_succ] at c0 c1 c2 c3 c4 c5 c6
  clear X
  go_wp2_with fail
  refine (CP.out _ BX.out).mono ?_
  rintro e w3 ⟨rfl, hb⟩
  have BX := Lib.hid (BX.out.trans (hb.mono BX.out.size))
  have BW := Lib.hid (BW.out.trans (hb.mono BW.out.size))
  have X := X1.out.on BX.out
  clear hb
  clear c0 c1 c2 c3 c4 c5 c6
  have c0 := X.cell 0
  have c1 := X.cell 1
  have c2 := X.cell 2
  have c3 := X.cell 3
  have c4 := X.cell 4
  have c5 := X.cell 5
  have c6 := X.cell 6
  simp only [List.getElem?_toArray, List.getElem?_cons_zero, List.getElem?_cons_succ] at c0 c1 c2 c3 c4 c5 c6
  clear X
  go_wp2_with fail
  go_ret
  exact ⟨by rw [← RR.out]; rfl, BW.out⟩
set_option maxRecDepth 100000 in
set_option maxHeartbeats 8000000 in
theorem wright_4 (tc ts ic is : Int) (p : List C5) (l : List A4) (pv lv : Value) (w : World) (h : MgIn w ⟨4, tc, ts, ic, is, p, l⟩ pv lv) (hs : Small ⟨4, tc, ts, ic, is, p, l⟩) (hl : l.length ≤ 1000) :
    Calls Tryd.prog 14 #[mv ⟨4, tc, ts, ic, is, p, l⟩ pv lv] w fun e w' => e = .returned (.bool ((rightI tc ts) && (p.isEmpty && ((rightI ic is) && (l.isEmpty))))) ∧ Below w.heap.size w w' := by
  have B0 := new_below w (.cells (mcells ⟨4, tc, ts, ic, is, p, l⟩ pv lv) 32)
  have BW := Lib.hid B0
  have X1 := Lib.hid (box_new w (mcells ⟨4, tc, ts, ic, is, p, l⟩ pv lv) 32)
  have BX := Lib.hid (Below.refl (w.alloc (.cells (mcells ⟨4, tc, ts, ic, is, p, l⟩ pv lv) 32)).heap.size (w.alloc (.cells (mcells ⟨4, tc, ts, ic, is, p, l⟩ pv lv) 32)))
  have PR := Lib.hid h.p
  have TR := Lib.hid h.l
  have LPS := Lib.hid hs.ps
  have LLN := Lib.hid hl
  have LLS := Lib.hid hs.ls
  obtain ⟨po, pc, rfl⟩ := h.p.len
  obtain ⟨lo, lc, rfl⟩ := h.l.len
  clear h hs hl
  obtain ⟨r, hr⟩ : ∃ r, ((rightI tc ts) && (p.isEmpty && ((rightI ic is) && (l.isEmpty)))) = r := ⟨_, rfl⟩
  rw [hr]
  have RR := Lib.hid hr
  clear hr
  have CT := Lib.hid (fun w => given_any tc ts w)
  have elp := some_len p
  have CI := Lib.hid (fun w => given_any ic is w)
  have CP := Lib.hid (fun w' (hb : Below (w.alloc (.cells (mcells ⟨4, tc, ts, ic, is, p, l⟩ (.slice po p.length pc) (.slice lo l.length lc)) 32)).heap.size (w.alloc (.cells (mcells ⟨4, tc, ts, ic, is, p, l⟩ (.slice po p.length pc) (.slice lo l.length lc)) 32)) w') => pright_any _ p w' ((PR.out.on B0).on hb) LPS.out)
  have PT := Lib.hid (fun h : p.isEmpty = true => rightP_none h)
  have ell := empty_len l
  clear B0 PR TR LPS LLN LLS
  generalize (rightI tc ts) = b0 at *
  generalize p.isEmpty = b1 at *
  generalize (rightI ic is) = b2 at *
  generalize l.isEmpty = b3 at *
  cases b0
  · go_enter Tryd.func14, Tryd.ntmps14
    go_wp2_with fail
    refine (CT.out _).mono ?_
    rintro e w1 ⟨rfl, hb⟩
    have BX := Lib.hid (BX.out.trans (hb.mono BX.out.size))
    have BW := Lib.hid (BW.out.trans (hb.mono BW.out.size))
    have X := X1.out.on BX.out
    clear hb
    have c0 := X.cell 0
    have c1 := X.cell 1
    have c2 := X.cell 2
    have c3 := X.cell 3
    have c4 := X.cell 4
    have c5 := X.cell 5
    have c6 := X.cell 6
    simp only [List.getElem?_toArray, List.getElem?_cons_zero, List.getElem?_cons_succ] at c0 c1 c2 c3 c4 c5 c6
    clear X
    go_wp2_with fail
    go_ret
    exact ⟨by rw [← RR.out]; rfl, BW.out⟩
  cases b1
  · have elp : decide (0 < p.length) = true := elp
    go_enter Tryd.func14, Tryd.ntmps14
    go_wp2_with fail
    refine (CT.out _).mono ?_
    rintro e w1 ⟨rfl, hb⟩
    have BX := Lib.hid (BX.out.trans (hb.mono BX.out.size))
    have BW := Lib.hid (BW.out.trans (hb.mono BW.out.size))
    have X := X1.out.on BX.out
    clear hb
    have c0 := X.cell 0
    have c1 := X.cell 1
    have c2 := X.cell 2
    have c3 := X.cell 3
    have c4 := X.cell 4
    have c5 := X.cell 5
    have c6 := X.cell 6
    simp only [List.getElem?_toArray, List.getElem?_cons_zero, List.getElem?_cons_succ] at c0 c1 c2 c3 c4 c5 c6
    clear X
    go_wp2_with fail
    go_ret
    exact ⟨by rw [← RR.out]; rfl, BW.out⟩
  have elp : decide (0 < p.length) = false := elp
  cases b2
  · go_enter Tryd.func14, Tryd.ntmps14
    go_wp2_with fail
    refine (CT.out _).mono ?_
    rintro e w1 ⟨rfl, hb⟩
    have BX := Lib.hid (BX.out.trans (hb.mono BX.out.size))
    have BW := Lib.hid (BW.out.trans (hb.mono BW.out.size))
    have X := X1.out.on BX.out
    clear hb
    have c0 := X.cell 0
    have c1 := X.cell 1
    have c2 := X.cell 2
    have c3 := X.cell 3
    have c4 := X.cell 4
    have c5 := X.cell 5
    have c6 := X.cell 6
    simp only [List.getElem?_toArray, List.getElem?_cons_zero, List.getElem?_cons_succ] at c0 c1 c2 c3 c4 c5 c6
    clear X
    go_wp2_with fail
    refine (CI.out _).mono ?_
    rintro e w2 ⟨rfl, hb⟩
    have BX := Lib.hid (BX.out.trans (hb.mono BX.out.size))
    have BW := Lib.hid (BW.out.trans (hb.mono BW.out.size))
    have X := X1.out.on BX.out
    clear hb
    clear c0 c1 c2 c3 c4 c5 c6
    have c0 := X.cell 0
    have c1 := X.cell 1
    have c2 := X.cell 2
    have c3 := X.cell 3
    have c4 := X.cell 4
    have c5 := X.cell 5
    have c6 := X.cell 6
    simp only [List.getElem?_toArray, List.getElem?_cons_zero, List.getElem?_cons_succ] at c0 c1 c2 c3 c4 c5 c6
    clear X
    go_wp2_with fail
    go_ret
    exact ⟨by rw [← RR.out]; rfl, BW.out⟩
  go_enter Tryd.func14, Tryd.ntmps14
  go_wp2_with fail
  refine (CT.out _).mono ?_
  rintro e w1 ⟨rfl, hb⟩
  have BX := Lib.hid (BX.out.trans (hb.mono BX.out.size))
  have BW := Lib.hid (BW.out.trans (hb.mono BW.out.size))
  have X := X1.out.on BX.out
  clear hb
  have c0 := X.cell 0
  have c1 := X.cell 1
  have c2 := X.cell 2
  have c3 := X.cell 3
  have c4 := X.cell 4
  have c5 := X.cell 5
  have c6 := X.cell 6
  simp only [List.getElem?_toArray, List.getElem?_cons_zero, List.getElem?_cons_succ] at c0 c1 c2 c3 c4 c5 c6
  clear X
  go_wp2_with fail
  refine (CI.out _).mono ?_
  rintro e w2 ⟨rfl, hb⟩
  have BX := Lib.hid (BX.out.trans (hb.mono BX.out.size))
  have BW := Lib.hid (BW.out.trans (hb.mono BW.out.size))
  have X := X1.out.on BX.out
  clear hb
  clear c0 c1 c2 c3 c4 c5 c6
  have c0 := X.cell 0
  have c1 := X.cell 1
  have c2 := X.cell 2
  have c3 := X.cell 3
  have c4 := X.cell 4
  have c5 := X.cell 5
  have c6 := X.cell 6
  simp only [List.getElem?_toArray, List.getElem?_cons_zero, List.getElem?_cons_succ] at c0 c1 c2 c3 c4 c5 c6
  clear X
  go_wp2_with fail
  refine (CP.out _ BX.out).mono ?_
  rintro e w3 ⟨rfl, hb⟩
  have BX := Lib.hid (BX.out.trans (hb.mono BX.out.size))
  have BW := Lib.hid (BW.out.trans (hb.mono BW.out.size))
  have X := X1.out.on BX.out
  clear hb
  rw [PT.out (by trivial)]
  clear c0 c1 c2 c3 c4 c5 c6
  have c0 := X.cell 0
  have c1 := X.cell 1
  have c2 := X.cell 2
  have c3 := X.cell 3
  have c4 := X.cell 4
  have c5 := X.cell 5
  have c6 := X.cell 6
  simp only [List.getElem?_toArray, List.getElem?_cons_zero, List.getElem?_cons_succ] at c0 c1 c2 c3 c4 c5 c6
  clear X
  go_wp2_with fail
  go_ret
  exact ⟨by rw [← RR.out]; rfl, BW.out⟩
set_option maxRecDepth 100000 in
set_option maxHeartbeats 8000000 in
theorem wright_5 (tc ts ic is : Int) (p : List C5) (l : List A4) (pv lv : Value) (w : World) (h : MgIn w ⟨5, tc, ts, ic, is, p, l⟩ pv lv) (hs : Small ⟨5, tc, ts, ic, is, p, l⟩) (hl : l.length ≤ 1000) :
    Calls Tryd.prog 14 #[mv ⟨5, tc, ts, ic, is, p, l⟩ pv lv] w fun e w' => e = .returned (.bool ((rightI tc ts) && ((rightI ic is) && (p.isEmpty && ((rightT l)))))) ∧ Below w.heap.size w w' := by
  have B0 := new_below w (.cells (mcells ⟨5, tc, ts, ic, is, p, l⟩ pv lv) 32)
  have BW := Lib.hid B0
  have X1 := Lib.hid (box_new w (mcells ⟨5, tc, ts, ic, is, p, l⟩ pv lv) 32)
  have BX := Lib.hid (Below.refl (w.alloc (.cells (mcells ⟨5, tc, ts, ic, is, p, l⟩ pv lv) 32)).heap.size (w.alloc (.cells (mcells ⟨5, tc, ts, ic, is, p, l⟩ pv lv) 32)))
  have PR := Lib.hid h.p
  have TR := Lib.hid h.l
  have LPS := Lib.hid hs.ps
  have LLN := Lib.hid hl
  have LLS := Lib.hid hs.ls
  obtain ⟨po, pc, rfl⟩ := h.p.len
  obtain ⟨lo, lc, rfl⟩ := h.l.len
  clear h hs hl
  obtain ⟨r, hr⟩ : ∃ r, ((rightI tc ts) && ((rightI ic is) && (p.isEmpty && ((rightT l))))) = r := ⟨_, rfl⟩
  rw [hr]
  have RR := Lib.hid hr
  clear hr
  have CT := Lib.hid (fun w => given_any tc ts w)
  have CI := Lib.hid (fun w => given_any ic is w)
  have elp := empty_len p
  have CL := Lib.hid (fun w' (hb : Below (w.alloc (.cells (mcells ⟨5, tc, ts, ic, is, p, l⟩ (.slice po p.length pc) (.slice lo l.length lc)) 32)).heap.size (w.alloc (.cells (mcells ⟨5, tc, ts, ic, is, p, l⟩ (.slice po p.length pc) (.slice lo l.length lc)) 32)) w') => right_big _ l w' ((TR.out.on B0).on hb) LLN.out LLS.out)
  clear B0 PR TR LPS LLN LLS
  generalize (rightI tc ts) = b0 at *
  generalize (rightI ic is) = b1 at *
  generalize p.isEmpty = b2 at *
  generalize (rightT l) = b3 at *
  cases b0
  · go_enter Tryd.func14, Tryd.ntmps14
    go_wp2_with fail
    refine (CT.out _).mono ?_
    rintro e w1 ⟨rfl, hb⟩
    have BX := Lib.hid (BX.out.trans (hb.mono BX.out.size))
    have BW := Lib.hid (BW.out.trans (hb.mono BW.out.size))
    have X := X1.out.on BX.out
    clear hb
    have c0 := X.cell 0
    have c1 := X.cell 1
    have c2 := X.cell 2
    have c3 := X.cell 3
    have c4 := X.cell 4
    have c5 := X.cell 5
    have c6 := X.cell 6
    simp only [List.getElem?_toArray, List.getElem?_cons_zero, List.getElem?_cons_succ] at c0 c1 c2 c3 c4 c5 c6
    clear X
    go_wp2_with fail
    go_ret
    exact ⟨by rw [← RR.out]; rfl, BW.out⟩
  cases b1
  · go_enter Tryd.func14, Tryd.ntmps14
    go_wp2_with fail
    refine (CT.out _).mono ?_
    rintro e w1 ⟨rfl, hb⟩
    have BX := Lib.hid (BX.out.trans (hb.mono BX.out.size))
    have BW := Lib.hid (BW.out.trans (hb.mono BW.out.size))
    have X := X1.out.on BX.out
    clear hb
    have c0 := X.cell 0
    have c1 := X.cell 1
    have c2 := X.cell 2
    have c3 := X.cell 3
    have c4 := X.cell 4
    have c5 := X.cell 5
    have c6 := X.cell 6
    simp only [List.getElem?_toArray, List.getElem?_cons_zero, List.getElem?_cons_succ] at c0 c1 c2 c3 c4 c5 c6
    clear X
    go_wp2_with fail
    refine (CI.out _).mono ?_
    rintro e w2 ⟨rfl, hb⟩
    have BX := Lib.hid (BX.out.trans (hb.mono BX.out.size))
    have BW := Lib.hid (BW.out.trans (hb.mono BW.out.size))
    have X := X1.out.on BX.out
    clear hb
    clear c0 c1 c2 c3 c4 c5 c6
    have c0 := X.cell 0
    have c1 := X.cell 1
    have c2 := X.cell 2
    have c3 := X.cell 3
    have c4 := X.cell 4
    have c5 := X.cell 5
    have c6 := X.cell 6
    simp only [List.getElem?_toArray, List.getElem?_cons_zero, List.getElem?_cons_succ] at c0 c1 c2 c3 c4 c5 c6
    clear X
    go_wp2_with fail
    go_ret
    exact ⟨by rw [← RR.out]; rfl, BW.out⟩
  cases b2
  · go_enter Tryd.func14, Tryd.ntmps14
    go_wp2_with fail
    refine (CT.out _).mono ?_
    rintro e w1 ⟨rfl, hb⟩
    have BX := Lib.hid (BX.out.trans (hb.mono BX.out.size))
    have BW := Lib.hid (BW.out.trans (hb.mono BW.out.size))
    have X := X1.out.on BX.out
    clear hb
    have c0 := X.cell 0
    have c1 := X.cell 1
    have c2 := X.cell 2
    have c3 := X.cell 3
    have c4 := X.cell 4
    have c5 := X.cell 5
    have c6 := X.cell 6
    simp only [List.getElem?_toArray, List.getElem?_cons_zero, List.getElem?_cons_succ] at c0 c1 c2 c3 c4 c5 c6
    clear X
    go_wp2_with fail
    refine (CI.out _).mono ?_
    rintro e w2 ⟨rfl, hb⟩
    have BX := Lib.hid (BX.out.trans (hb.mono BX.out.size))
    have BW := Lib.hid (BW.out.trans (hb.mono BW.out.size))
    have X := X1.out.on BX.out
    clear hb
    clear c0 c1 c2 c3 c4 c5 c6
    have c0 := X.cell 0
    have c1 := X.cell 1
    have c2 := X.cell 2
    have c3 := X.cell 3
    have c4 := X.cell 4
    have c5 := X.cell 5
    have c6 := X.cell 6
    simp only [List.getElem?_toArray, List.getElem?_cons_zero, List.getElem?_cons_succ] at c0 c1 c2 c3 c4 c5 c6
    clear X
    go_wp2_with fail
    go_ret
    exact ⟨by rw [← RR.out]; rfl, BW.out⟩
  go_enter Tryd.func14, Tryd.ntmps14
  go_wp2_with fail
  refine (CT.out _).mono ?_
  rintro e w1 ⟨rfl, hb⟩
  have BX := Lib.hid (BX.out.trans (hb.mono BX.out.size))
  have BW := Lib.hid (BW.out.trans (hb.mono BW.out.size))
  have X := X1.out.on BX.out
  clear hb
  have c0 := X.cell 0
  have c1 := X.cell 1
  have c2 := X.cell 2
  have c3 := X.cell 3
  have c4 := X.cell 4
  have c5 := X.cell 5
  have c6 := X.cell 6
  simp only [List.getElem?_toArray, List.getElem?_cons_zero, List.getElem?_cons_succ] at c0 c1 c2 c3 c4 c5 c6
  clear X
  go_wp2_with fail
  refine (CI.out _).mono ?_
  rintro e w2 ⟨rfl, hb⟩
  have BX := Lib.hid (BX.out.trans (hb.mono BX.out.size))
  have BW := Lib.hid (BW.out.trans (hb.mono BW.out.size))
  have X := X1.out.on BX.out
  clear hb
  clear c0 c1 c2 c3 c4 c5 c6
  have c0 := X.cell 0
  have c1 := X.cell 1
  have c2 := X.cell 2
  have c3 := X.cell 3
  have c4 := X.cell 4
  have c5 := X.cell 5
  have c6 := X.cell 6
  simp only [List.getElem?_toArray, List.getElem?_cons_zero, List.getElem?_cons_succ] at c0 c1 c2 c3 c4 c5 c6
  clear X
  go_wp2_with fail
  refine (CL.out _ BX.out).mono ?_
  rintro e w3 ⟨rfl, hb⟩
  have BX := Lib.hid (BX.out.trans (hb.mono BX.out.size))
  have BW := Lib.hid (BW.out.trans (hb.mono BW.out.size))
  have X := X1.out.on BX.out
  clear hb
  clear c0 c1 c2 c3 c4 c5 c6
  have c0 := X.cell 0
  have c1 := X.cell 1
  have c2 := X.cell 2
  have c3 := X.cell 3
  have c4 := X.cell 4
  have c5 := X.cell 5
  have c6 := X.cell 6
  simp only [List.getElem?_toArray, List.getElem?_cons_zero, List.getElem?_cons_succ] at c0 c1 c2 c3 c4 c5 c6
  clear X
  go_wp2_with fail
  go_ret
  exact ⟨by rw [← RR.out]; rfl, BW.out⟩
set_option maxRecDepth 100000 in
set_option maxHeartbeats 8000000 in
theorem wright_other (k tc ts ic is : Int) (p : List C5) (l : List A4) (pv lv : Value) (w : World) (h1 : k ≠ 1) (h2 : k ≠ 2) (h3 : k ≠ 3) (h4 : k ≠ 4) (h5 : k ≠ 5) :
    Calls Tryd.prog 14 #[mv ⟨k, tc, ts, ic, is, p, l⟩ pv lv] w fun e w' => e = .returned (.bool false) ∧ Below w.heap.size w w' := by
  have BW := Lib.hid (new_below w (.cells (mcells ⟨k, tc, ts, ic, is, p, l⟩ pv lv) 32))
  have X1 := Lib.hid (box_new w (mcells ⟨k, tc, ts, ic, is, p, l⟩ pv lv) 32)
  have e1 : (k == 1) = false := by simpa using h1
  have e2 : (k == 2) = false := by simpa using h2
  have e3 : (k == 3) = false := by simpa using h3
  have e4 : (k == 4) = false := by simpa using h4
  have e5 : (k == 5) = false := by simpa using h5
  have CT := Lib.hid (fun w => given_any tc ts w)
  clear h1 h2 h3 h4 h5
  generalize rightI tc ts = b at *
  cases b <;> (
    go_enter Tryd.func14, Tryd.ntmps14
    go_wp2_with fail
    refine (CT.out _).mono ?_
    rintro e w1 ⟨rfl, hb⟩
    have BW := Lib.hid (BW.out.trans (hb.mono BW.out.size))
    have X := X1.out.on hb
    clear hb
    have c0 := X.cell 0
    simp only [List.getElem?_toArray, List.getElem?_cons_zero] at c0
    clear X
    go_wp2_with fail
    go_ret
    exact ⟨rfl, BW.out⟩)
theorem wright_any (m : Mg) (pv lv : Value) (w : World) (h : MgIn w m pv lv) (hs : Small m) (hl : m.l.length ≤ 1000) :
    Calls Tryd.prog 14 #[mv m pv lv] w fun e w' => e = .returned (.bool (rightM m)) ∧ Below w.heap.size w w' := by
  obtain ⟨k, tc, ts, ic, is, p, l⟩ := m
  by_cases h1 : k = 1
  · subst h1
    have e : rightM ⟨1, tc, ts, ic, is, p, l⟩ = (rightI tc ts && ((ic == 0 && is == 0) && (rightP p && l.isEmpty))) := by simp only [rightM, if_true, zero_is, Bool.and_assoc]
    rw [e]
    exact wright_1 tc ts ic is p l pv lv w h hs hl
  by_cases h2 : k = 2
  · subst h2
    have e : rightM ⟨2, tc, ts, ic, is, p, l⟩ = (rightI tc ts && (p.isEmpty && ((ic == 0 && is == 0) && l.isEmpty))) := by
      rw [Bool.and_left_comm p.isEmpty]
      simp [rightM, zero_is, Bool.and_assoc]
    rw [e]
    exact wright_2 tc ts ic is p l pv lv w h hs hl
  by_cases h3 : k = 3
  · subst h3
    have e : rightM ⟨3, tc, ts, ic, is, p, l⟩ = (rightI tc ts && (rightI ic is && (rightP p && l.isEmpty))) := by simp [rightM]
    rw [e]
    exact wright_3 tc ts ic is p l pv lv w h hs hl
  by_cases h4 : k = 4
  · subst h4
    have e : rightM ⟨4, tc, ts, ic, is, p, l⟩ = (rightI tc ts && (p.isEmpty && (rightI ic is && l.isEmpty))) := by
      rw [Bool.and_left_comm p.isEmpty]
      simp [rightM]
    rw [e]
    exact wright_4 tc ts ic is p l pv lv w h hs hl
  by_cases h5 : k = 5
  · subst h5
    have e : rightM ⟨5, tc, ts, ic, is, p, l⟩ = (rightI tc ts && (rightI ic is && (p.isEmpty && rightT l))) := by simp [rightM]
    rw [e]
    exact wright_5 tc ts ic is p l pv lv w h hs hl
  have e : rightM ⟨k, tc, ts, ic, is, p, l⟩ = false := by simp [rightM, h1, h2, h3, h4, h5]
  rw [e]
  exact wright_other k tc ts ic is p l pv lv w h1 h2 h3 h4 h5
end Go.Proofs.YtfcgfnmokbbcaaaDoor.Ws
