/-
  The order of IDs: Less, inAdverts, inOwns. No condition.
-/
import Derived.Test.YtncogjpmboglhaaQ009
import Derived.Test.YtncogjpmboglhaaQ008
import Derived.Deep.RegionLaw
import Derived.Lib.QuietBelow
import Derived.BigQuiet
namespace Go.Proofs.Ytncogjpmboglhaa.Av
open Go.RowKit Go.Sort Go.Proofs.Ytncogjpmboglhaa Go.Proofs.Ytncogjpmboglhaa.Rw Go.Proofs.Ytncogjpmboglhaa.Nm Go.Proofs.Ytncogjpmboglhaa.Pr Go.Proofs.Ytncogjpmboglhaa.Bk

set_option maxRecDepth 100000 in
theorem aless_any (x y : XID) (w : World) : Calls Try.prog 63 #[idv x, idv y] w fun e w' => e = .returned (.bool (lessI x y)) ∧ Below w.heap.size w w' := by
  have C := byID_any x y
  have R := Lib.hid (show decide (cmpJ x y < 0) = lessI x y from by
    have h := cmpJ_neg x y
    cases hl : lessI x y
    · rw [hl] at h; simp at h; simpa using h
    · rw [hl] at h; simp at h; simpa using h)
  obtain ⟨a, b⟩ := x
  obtain ⟨c, d⟩ := y
  obtain ⟨h0, X, Y⟩ := two_new w #[.int .i64 a, .int .i64 b] #[.int .i64 c, .int .i64 d] 23 23
  have x0 := X.cell 0
  have x1 := X.cell 1
  have y0 := Y.cell 0
  have y1 := Y.cell 1
  simp only [List.getElem?_toArray, List.getElem?_cons_zero, List.getElem?_cons_succ] at x0 x1 y0 y1
  have B := Lib.hid h0
  generalize cmpJ (a, b) (c, d) = r at *
  generalize lessI (a, b) (c, d) = s at *
  clear X Y h0
  go_enter Try.func63, Try.ntmps63
  go_wp2_with fail
  have C := C ((w.alloc (.cells #[.int .i64 a, .int .i64 b] 23)).alloc (.cells #[.int .i64 c, .int .i64 d] 23))
  refine C.mono ?_
  rintro e w1 ⟨rfl, hb⟩
  go_wp2
  go_ret
  exact ⟨by have h := R.out; subst h; rfl, B.out.trans (hb.mono B.out.size)⟩
set_option maxRecDepth 100000 in
theorem inAdv_any (x y : XAd) (w : World) : Calls Try.prog 23 #[valD x, valD y] w fun e w' => e = .returned (.int .i64 (cmpJ (x.1, x.2.1) (y.1, y.2.1))) ∧ Below w.heap.size w w' := by
  obtain ⟨a, b, ⟨s1, s2, s3⟩, p⟩ := x
  obtain ⟨c, d, ⟨t1, t2, t3⟩, q⟩ := y
  have C := byID_any (a, b) (c, d)
  obtain ⟨h0, X, Y⟩ := two_new w #[.int .i64 a, .int .i64 b, .slice s1 s2 s3, .int .i64 p] #[.int .i64 c, .int .i64 d, .slice t1 t2 t3, .int .i64 q] 39 39
  have x1 := X.cell 1
  have x0 := X.cell 0
  have y1 := Y.cell 1
  have y0 := Y.cell 0
  simp only [List.getElem?_toArray, List.getElem?_cons_zero, List.getElem?_cons_succ] at x0 x1 y0 y1
  have B := Lib.hid h0
  generalize cmpJ (a, b) (c, d) = r at *
  clear X Y h0
  go_enter Try.func23, Try.ntmps23
  go_wp2_with fail
  have C := C ((w.alloc (.cells #[.int .i64 a, .int .i64 b, .slice s1 s2 s3, .int .i64 p] 39)).alloc (.cells #[.int .i64 c, .int .i64 d, .slice t1 t2 t3, .int .i64 q] 39))
  refine C.mono ?_
  rintro e w1 ⟨rfl, hb⟩
  go_wp2
  go_ret
  exact ⟨rfl, B.out.trans (hb.mono B.out.size)⟩
end Go.Proofs.Ytncogjpmboglhaa.Av
