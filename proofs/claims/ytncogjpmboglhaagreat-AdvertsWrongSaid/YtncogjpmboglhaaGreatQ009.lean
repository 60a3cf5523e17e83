/-
  The order of IDs: Less, inAdverts, inOwns. Conditions as told.
-/
import Derived.Test.YtncogjpmboglhaaGreatQ008
import Derived.Test.YtncogjpmboglhaaGreatQ001
import Derived.Deep.RegionLaw
import Derived.Lib.QuietBelow
import Derived.BigQuiet
set_option maxRecDepth 100000
set_option maxHeartbeats 64000000
namespace Go.Proofs.YtncogjpmboglhaaGreat.Av
open Go.RowKit Go.Sort Rw YtncogjpmboglhaaGreat.Nm Pr Bk
theorem inAdv_any (x y : XAd) (w : World) : Calls Tryz.prog 41 #[valD x,valD y] w fun e w' => e = .returned (.int .i64 (cmpJ (x.1,x.2.1) (y.1,y.2.1))) ∧ Below w.heap.size w w' := by
 obtain ⟨a,b,⟨s1,s2,s3⟩,p⟩ := x
 obtain ⟨c,d,⟨t1,t2,t3⟩,q⟩ := y
 have C := byID_any (a,b) (c,d)
 obtain ⟨h0,X,Y⟩ := two_new w #[.int .i64 a,.int .i64 b,.slice s1 s2 s3,.int .i64 p] #[.int .i64 c,.int .i64 d,.slice t1 t2 t3,.int .i64 q] 41 41
 have x1 := X.cell 1
 have x0 := X.cell 0
 have y1 := Y.cell 1
 have y0 := Y.cell 0
 simp only [List.getElem?_toArray,List.getElem?_cons_zero,List.getElem?_cons_succ] at x0 x1 y0 y1
 have B := Lib.hid h0
 generalize cmpJ (a,b) (c,d) = r at *
 clear X Y h0
 go_enter Tryz.func41,Tryz.ntmps41
 go_wp2_with fail
 have C := C ((w.alloc (.cells #[.int .i64 a,.int .i64 b,.slice s1 s2 s3,.int .i64 p] 41)).alloc (.cells #[.int .i64 c,.int .i64 d,.slice t1 t2 t3,.int .i64 q] 41))
 refine C.mono ?_
 rintro e w1 ⟨rfl,hb⟩
 go_wp2
 go_ret
 exact ⟨rfl,B.out.trans (hb.mono B.out.size)⟩
theorem inOwn_any (x y : XOw) (w : World) : Calls Tryz.prog 45 #[valW x,valW y] w fun e w' => e = .returned (.int .i64 (cmpJ (x.1,x.2.1) (y.1,y.2.1))) ∧ Below w.heap.size w w' := by
 obtain ⟨a,b,⟨s1,s2,s3⟩⟩ := x
 obtain ⟨c,d,⟨t1,t2,t3⟩⟩ := y
 have C := byID_any (a,b) (c,d)
 obtain ⟨h0,X,Y⟩ := two_new w #[.int .i64 a,.int .i64 b,.slice s1 s2 s3] #[.int .i64 c,.int .i64 d,.slice t1 t2 t3] 45 45
 have x1 := X.cell 1
 have x0 := X.cell 0
 have y1 := Y.cell 1
 have y0 := Y.cell 0
 simp only [List.getElem?_toArray,List.getElem?_cons_zero,List.getElem?_cons_succ] at x0 x1 y0 y1
 have B := Lib.hid h0
 generalize cmpJ (a,b) (c,d) = r at *
 clear X Y h0
 go_enter Tryz.func45,Tryz.ntmps45
 go_wp2_with fail
 have C := C ((w.alloc (.cells #[.int .i64 a,.int .i64 b,.slice s1 s2 s3] 45)).alloc (.cells #[.int .i64 c,.int .i64 d,.slice t1 t2 t3] 45))
 refine C.mono ?_
 rintro e w1 ⟨rfl,hb⟩
 go_wp2
 go_ret
 exact ⟨rfl,B.out.trans (hb.mono B.out.size)⟩
end Go.Proofs.YtncogjpmboglhaaGreat.Av
