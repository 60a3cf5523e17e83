/-
  Constraint of the st. Conditions as told.
-/
import Derived.Test.YtmklifheakemeaaGreatBQ004
import Derived.Test.YtmklifheakemeaaGreatBQ003
import Derived.Deep.RegionWith
set_option maxRecDepth 100000
set_option maxHeartbeats 64000000
open Go.IntWalk renaming i64_in->U
open Go.Lib renaming hid->J
open Go.Proofs.Tryz renaming results43->O,ntmps43->Q,func43->V
open Go.Proofs.YtmklifheakemeaaGreat.Wi renaming within->D,jo->ah,jy->aj
open _root_.Int renaming tdiv_eq_ediv_of_nonneg->L,ediv_le_self->Y,ediv_nonneg->Z
open _root_.Nat renaming le_refl->X
namespace Go.Proofs.YtmklifheakemeaaGreat.Pr
open Go.RowKit Pu Rw Va Kp
def lo9 (n:Int):Int:=D (n.tdiv 4) 0 9
def tx6 (n:Int):ByteArray:=uG (D (n.tdiv 4) 0 6)
def sH (n:Int):Kd:=if D n 0 3=0\/D n 0 3=1 then .rg (lo9 n) (lo9 n+D (n.tdiv 40) 0 9) else if D n 0 3=2 then .tx (tx6 n) else .pr (tx6 n)
theorem P6 (n:Int):iO (sH n)=true:=by
 unfold sH;have hw:=ah (n.tdiv 40) 0 9 (by omega);have ht:(tx6 n).size<=3:=Gf _
 split
 ·simp only [iO,decide_eq_true_eq]; omega
 ·split
  ·simp only [iO,decide_eq_true_eq]; omega
  ·simp only [iO,decide_eq_true_eq]; omega
theorem Mt (n k:Int) (hk:1<=k) (h1:-9223372036854775808<=n) (h2:n<=9223372036854775807):-9223372036854775808<=n.tdiv k/\n.tdiv k<=9223372036854775807:=by
 rcases Int.le_total 0 n with h|h
 ·rw [L h];have a:=Z h (show 0<=k by omega);have b:=Y k h;omega
 ·have e:n.tdiv k=-((-n) / k):=by rw [<- L (by omega),Int.neg_tdiv,Int.neg_neg]
  have a:=Z (show 0<=-n by omega) (show 0<=k by omega);have b:=Y k (show 0<=-n by omega);omega
theorem zO (nm_:ByteArray) (n:Int) (w:World) (h1:-9223372036854775808<=n) (h2:n<=9223372036854775807) :
  Calls Tryz.prog 43 #[.string nm_,.int .i64 n] w fun e w'=>e=.returned (cv (r5 (nm_,sH n)))/\Below w.heap.size w w':=by
 have b4:=Mt n 4 (by decide) h1 h2;have b40:=Mt n 40 (by decide) h1 h2;have q4:IntKind.i64.wrap (n.tdiv 4)=n.tdiv 4:=U _ b4;have q40:IntKind.i64.wrap (n.tdiv 40)=n.tdiv 40:=U _ b40;have W3:=J (fun wx=>aj n 0 3 wx (by omega) (by omega) (by omega) h1 h2);have W9:=J (fun wx=>aj (n.tdiv 4) 0 9 wx (by omega) (by omega) (by omega) b4.1 b4.2);have W6:=J (fun wx=>aj (n.tdiv 4) 0 6 wx (by omega) (by omega) (by omega) b4.1 b4.2);have V9:=J (fun wx=>aj (n.tdiv 40) 0 9 wx (by omega) (by omega) (by omega) b40.1 b40.2);have d3:=ah n 0 3 (by omega);have d9:=ah (n.tdiv 4) 0 9 (by omega);have d6:=ah (n.tdiv 4) 0 6 (by omega);have e9:=ah (n.tdiv 40) 0 9 (by omega);have KD:sH n=if D n 0 3=0\/D n 0 3=1 then .rg (D (n.tdiv 4) 0 9) (D (n.tdiv 4) 0 9+D (n.tdiv 40) 0 9) else if D n 0 3=2 then .tx (uG (D (n.tdiv 4) 0 6)) else .pr (uG (D (n.tdiv 4) 0 6)):=rfl
 have TX:=J (XG (D (n.tdiv 4) 0 6) d6.1 d6.2);generalize D n 0 3=r at *;generalize D (n.tdiv 4) 0 9=p at *;generalize D (n.tdiv 4) 0 6=q at *;generalize D (n.tdiv 40) 0 9=s at *;have hs:IntKind.i64.wrap (p+s)=p+s:=U _ (by omega);have hr:r=0\/r=1\/r=2\/r=3:=by omega
 have D6:=J d6;clear b4 b40 h1 h2 d3 d9 e9 d6;rcases hr with rfl|rfl|rfl|rfl
 ·have K:=J (show sH n=.rg p (p+s) by rw [KD]; rfl);clear KD;go_enter V,Q;go_wp2_with fail;refine (W3.out _).mono ?_;rintro e1 w1 ⟨rfl,rfl⟩;go_wp2_with fail;refine (W9.out _).mono ?_;rintro e2 w2 ⟨rfl,rfl⟩;go_wp2_with fail
  go_region_with (go_at_call 13; refine (V9.out _).mono ?_; rintro e w' ⟨rfl,rfl⟩)
  all_goals go_wp2_with fail
  all_goals exact bodyPost_ret (v:=cv (r5 (nm_,.rg p (p+s)))) (by simp [results,O,go_sem,r5,kN,jG,jH,kT]) rfl ⟨by rw [K.out],(((Below.refl _ _).alloc (X _) _).alloc (by simp) _).drew⟩
 ·have K:=J (show sH n=.rg p (p+s) by rw [KD]; rfl);clear KD;go_enter V,Q;go_wp2_with fail;refine (W3.out _).mono ?_;rintro e1 w1 ⟨rfl,rfl⟩;go_wp2_with fail;refine (W9.out _).mono ?_;rintro e2 w2 ⟨rfl,rfl⟩;go_wp2_with fail
  go_region_with (go_at_call 13; refine (V9.out _).mono ?_; rintro e w' ⟨rfl,rfl⟩)
  all_goals go_wp2_with fail
  all_goals exact bodyPost_ret (v:=cv (r5 (nm_,.rg p (p+s)))) (by simp [results,O,go_sem,r5,kN,jG,jH,kT]) rfl ⟨by rw [K.out],(((Below.refl _ _).alloc (X _) _).alloc (by simp) _).drew⟩
 ·have K:=J (show sH n=.tx (uG q) by rw [KD]; rfl);have tx:=TX.out;have d6:=D6.out;have d61:=d6.1;have d62:q<7:=by omega
  clear KD d6;go_enter V,Q;go_wp2_with fail;refine (W3.out _).mono ?_;rintro e1 w1 ⟨rfl,rfl⟩;go_wp2_with fail
  go_region_with (first | (go_at_call 13; refine (W6.out _).mono ?_; rintro e w' ⟨rfl,rfl⟩) | (go_at_call 105; refine (CG _).mono ?_; rintro e w' ⟨rfl,rfl⟩))
  all_goals go_wp2_with fail
  all_goals exact bodyPost_ret (v:=cv (r5 (nm_,.tx (uG q)))) (by simp [results,O,go_sem,r5,kN,jG,jH,kT]) rfl ⟨by rw [K.out],((((Below.refl _ _).alloc (X _) _).alloc (by simp) _).alloc (by simp; omega) _).drew⟩
 ·have K:=J (show sH n=.pr (uG q) by rw [KD]; rfl);have tx:=TX.out;have d6:=D6.out;have d61:=d6.1;have d62:q<7:=by omega
  clear KD d6;go_enter V,Q;go_wp2_with fail;refine (W3.out _).mono ?_;rintro e1 w1 ⟨rfl,rfl⟩;go_wp2_with fail
  go_region_with (first | (go_at_call 13; refine (W6.out _).mono ?_; rintro e w' ⟨rfl,rfl⟩) | (go_at_call 105; refine (CG _).mono ?_; rintro e w' ⟨rfl,rfl⟩))
  all_goals go_wp2_with fail
  all_goals exact bodyPost_ret (v:=cv (r5 (nm_,.pr (uG q)))) (by simp [results,O,go_sem,r5,kN,jG,jH,kT]) rfl ⟨by rw [K.out],((((Below.refl _ _).alloc (X _) _).alloc (by simp) _).alloc (by simp; omega) _).drew⟩
end Go.Proofs.YtmklifheakemeaaGreat.Pr
