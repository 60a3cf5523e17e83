/-
  The order of IDs: Le. Conditions as told.
-/
import Derived.Test.YtkcfgbddlpomgaaGreatOQ016
set_option maxRecDepth 100000
set_option maxHeartbeats 64000000
open Go.IntKind renaming i64->J
open Go.Value renaming int->D,slice->K
namespace Go.Proofs.YtkcfgbddlpomgaaGreat.Av
open Go.RowKit Go.Sort Rw YtkcfgbddlpomgaaGreat.Nm Pr Bk
theorem yC (x y:eT) (w:World):Calls Tryz.prog 80 #[mY x,mY y] w fun e w'=>e=.returned (.bool (eO x y))/\Below w.heap.size w w':=by
 have C:=Ap x y;have R:=Lib.hid (show decide (mQ x y<0)=eO x y from by
  have h:=tX x y;cases hl:eO x y
  ·rw [hl] at h; simp at h; simpa using h
  ·rw [hl] at h; simp at h; simpa using h)
 obtain⟨a,b⟩:=x;obtain⟨c,d⟩:=y;obtain⟨h0,X,Y⟩:=iE w #[D J a,D J b] #[D J c,D J d] 38 38;obtain⟨x0,x1⟩:=X.cs2;obtain⟨y0,y1⟩:=Y.cs2;have B:=Lib.hid h0;generalize mQ (a,b) (c,d)=r at *;generalize eO (a,b) (c,d)=s at *;clear X Y h0;go_enter Tryz.func80,Tryz.ntmps80;go_wp2_with fail;have C:=C ((w.alloc (.cells #[D J a,D J b] 38)).alloc (.cells #[D J c,D J d] 38));refine C.mono ?_;rintro e w1 ⟨rfl,hb⟩;go_wp2;go_ret;exact⟨by have h:=R.out; subst h; rfl,B.out.trans (hb.mono B.out.size)⟩
theorem Ql (x y:kr) (w:World):Calls Tryz.prog 71 #[nR x,nR y] w fun e w'=>e=.returned (D J (mQ (x.1,x.2.1) (y.1,y.2.1)))/\Below w.heap.size w w':=by
 obtain⟨a,b,⟨s1,s2,s3⟩,p⟩:=x;obtain⟨c,d,⟨t1,t2,t3⟩,q⟩:=y;have C:=Ap (a,b) (c,d);obtain⟨h0,X,Y⟩:=iE w #[D J a,D J b,K s1 s2 s3,D J p] #[D J c,D J d,K t1 t2 t3,D J q] 53 53;have x1:=X.cell 1;have x0:=X.cell 0;have y1:=Y.cell 1;have y0:=Y.cell 0;simp only [List.getElem?_toArray,List.getElem?_cons_zero,List.getElem?_cons_succ] at x0 x1 y0 y1;have B:=Lib.hid h0;generalize mQ (a,b) (c,d)=r at *;clear X Y h0;go_enter Tryz.func71,Tryz.ntmps71;go_wp2_with fail;have C:=C ((w.alloc (.cells #[D J a,D J b,K s1 s2 s3,D J p] 53)).alloc (.cells #[D J c,D J d,K t1 t2 t3,D J q] 53));refine C.mono ?_;rintro e w1 ⟨rfl,hb⟩;go_wp2;go_ret;exact⟨rfl,B.out.trans (hb.mono B.out.size)⟩
end Go.Proofs.YtkcfgbddlpomgaaGreat.Av
