/-
  The order of IDs: Le. Conditions as told.
-/
import Derived.Test.YtkcfgbddlpomgaaBQ019
set_option maxRecDepth 100000
set_option maxHeartbeats 64000000
open Go.IntKind renaming i64->J
open Go.Value renaming int->D,slice->K
namespace Go.Proofs.Ytkcfgbddlpomgaa.Av
open Go.RowKit Go.Sort Rw Ytkcfgbddlpomgaa.Nm Pr Bk
theorem kI (x y:dI) (w:World):Calls Try.prog 68 #[lq x,lq y] w fun e w'=>e=.returned (.bool (dD x y))/\Below w.heap.size w w':=by
 have C:=lX x y;have R:=Lib.hid (show decide (gB x y<0)=dD x y from by
  have h:=je x y;cases hl:dD x y
  ·rw [hl] at h; simp at h; simpa using h
  ·rw [hl] at h; simp at h; simpa using h)
 obtain⟨a,b⟩:=x;obtain⟨c,d⟩:=y;obtain⟨h0,X,Y⟩:=eX w #[D J a,D J b] #[D J c,D J d] 23 23;obtain⟨x0,x1⟩:=X.cs2;obtain⟨y0,y1⟩:=Y.cs2;have B:=Lib.hid h0;generalize gB (a,b) (c,d)=r at *;generalize dD (a,b) (c,d)=s at *;clear X Y h0;go_enter Try.func68,Try.ntmps68;go_wp2_with fail;have C:=C ((w.alloc (.cells #[D J a,D J b] 23)).alloc (.cells #[D J c,D J d] 23));refine C.mono ?_;rintro e w1 ⟨rfl,hb⟩;go_wp2;go_ret;exact⟨by have h:=R.out; subst h; rfl,B.out.trans (hb.mono B.out.size)⟩
theorem uV (x y:gD) (w:World):Calls Try.prog 12 #[gY x,gY y] w fun e w'=>e=.returned (D J (gB (x.1,x.2.1) (y.1,y.2.1)))/\Below w.heap.size w w':=by
 obtain⟨a,b,⟨s1,s2,s3⟩,p⟩:=x;obtain⟨c,d,⟨t1,t2,t3⟩,q⟩:=y;have C:=lX (a,b) (c,d);obtain⟨h0,X,Y⟩:=eX w #[D J a,D J b,K s1 s2 s3,D J p] #[D J c,D J d,K t1 t2 t3,D J q] 36 36;have x1:=X.cell 1;have x0:=X.cell 0;have y1:=Y.cell 1;have y0:=Y.cell 0;simp only [List.getElem?_toArray,List.getElem?_cons_zero,List.getElem?_cons_succ] at x0 x1 y0 y1;have B:=Lib.hid h0;generalize gB (a,b) (c,d)=r at *;clear X Y h0;go_enter Try.func12,Try.ntmps12;go_wp2_with fail;have C:=C ((w.alloc (.cells #[D J a,D J b,K s1 s2 s3,D J p] 36)).alloc (.cells #[D J c,D J d,K t1 t2 t3,D J q] 36));refine C.mono ?_;rintro e w1 ⟨rfl,hb⟩;go_wp2;go_ret;exact⟨rfl,B.out.trans (hb.mono B.out.size)⟩
end Go.Proofs.Ytkcfgbddlpomgaa.Av
