/-
  Constraint of the st. Conditions as told.
-/
import Derived.Test.YtmklifheakemeaaVQ007
import Derived.Test.YtmklifheakemeaaVQ006
import Derived.Deep.RegionWith
set_option maxRecDepth 100000
set_option maxHeartbeats 64000000
open Go.IntWalk renaming i64_in->Q
open Go.Lib renaming hid->J
open Go.Proofs.Try renaming results33->O,ntmps33->U,func33->X
open Go.Proofs.Ytmklifheakemeaa.Wi renaming within->D,je->ah,jP->aj
open _root_.Int renaming tdiv_eq_ediv_of_nonneg->L,ediv_le_self->Y,ediv_nonneg->Z
open _root_.Nat renaming le_refl->V
namespace Go.Proofs.Ytmklifheakemeaa.Pr
open Go.RowKit Pu Rw Va Kp
def Pt (n:Int):Int:=D (n.tdiv 4) 0 9
def LG (n:Int):ByteArray:=oz (D (n.tdiv 4) 0 6)
def mV (n:Int):Kd:=if D n 0 3=0\/D n 0 3=1 then .rg (Pt n) (Pt n+D (n.tdiv 40) 0 9) else if D n 0 3=2 then .tx (LG n) else .pr (LG n)
theorem Df (n:Int):gB (mV n)=true:=by
 unfold mV;have hw:=ah (n.tdiv 40) 0 9 (by omega);have ht:(LG n).size<=3:=xG _
 split
 ·simp only [gB,decide_eq_true_eq]; omega
 ·split
  ·simp only [gB,decide_eq_true_eq]; omega
  ·simp only [gB,decide_eq_true_eq]; omega
theorem Bz (n k:Int) (hk:1<=k) (h1:-9223372036854775808<=n) (h2:n<=9223372036854775807):-9223372036854775808<=n.tdiv k/\n.tdiv k<=9223372036854775807:=by
 rcases Int.le_total 0 n with h|h
 ·rw [L h];have a:=Z h (show 0<=k by omega);have b:=Y k h;omega
 ·have e:n.tdiv k=-((-n) / k):=by rw [<- L (by omega),Int.neg_tdiv,Int.neg_neg]
  have a:=Z (show 0<=-n by omega) (show 0<=k by omega);have b:=Y k (show 0<=-n by omega);omega
theorem sD (LJ:ByteArray) (n:Int) (w:World) (h1:-9223372036854775808<=n) (h2:n<=9223372036854775807) :
  Calls Try.prog 33 #[.string LJ,.int .i64 n] w fun e w'=>e=.returned (cv (r5 (LJ,mV n)))/\Below w.heap.size w w':=by
 have b4:=Bz n 4 (by decide) h1 h2;have b40:=Bz n 40 (by decide) h1 h2;have q4:IntKind.i64.wrap (n.tdiv 4)=n.tdiv 4:=Q _ b4;have q40:IntKind.i64.wrap (n.tdiv 40)=n.tdiv 40:=Q _ b40;have W3:=J (fun wx=>aj n 0 3 wx (by omega) (by omega) (by omega) h1 h2);have W9:=J (fun wx=>aj (n.tdiv 4) 0 9 wx (by omega) (by omega) (by omega) b4.1 b4.2);have W6:=J (fun wx=>aj (n.tdiv 4) 0 6 wx (by omega) (by omega) (by omega) b4.1 b4.2);have V9:=J (fun wx=>aj (n.tdiv 40) 0 9 wx (by omega) (by omega) (by omega) b40.1 b40.2);have d3:=ah n 0 3 (by omega);have d9:=ah (n.tdiv 4) 0 9 (by omega);have d6:=ah (n.tdiv 4) 0 6 (by omega);have e9:=ah (n.tdiv 40) 0 9 (by omega);have KD:mV n=if D n 0 3=0\/D n 0 3=1 then .rg (D (n.tdiv 4) 0 9) (D (n.tdiv 4) 0 9+D (n.tdiv 40) 0 9) else if D n 0 3=2 then .tx (oz (D (n.tdiv 4) 0 6)) else .pr (oz (D (n.tdiv 4) 0 6)):=rfl
 have TX:=J (Io (D (n.tdiv 4) 0 6) d6.1 d6.2);generalize D n 0 3=r at *;generalize D (n.tdiv 4) 0 9=p at *;generalize D (n.tdiv 4) 0 6=q at *;generalize D (n.tdiv 40) 0 9=s at *;have hs:IntKind.i64.wrap (p+s)=p+s:=Q _ (by omega);have hr:r=0\/r=1\/r=2\/r=3:=by omega
 have D6:=J d6;clear b4 b40 h1 h2 d3 d9 e9 d6;rcases hr with rfl|rfl|rfl|rfl
 ·have K:=J (show mV n=.rg p (p+s) by rw [KD]; rfl);clear KD;go_enter X,U;go_wp2_with fail;refine (W3.out _).mono ?_;rintro e1 w1 ⟨rfl,rfl⟩;go_wp2_with fail;refine (W9.out _).mono ?_;rintro e2 w2 ⟨rfl,rfl⟩;go_wp2_with fail
  go_region_with (go_at_call 10; refine (V9.out _).mono ?_; rintro e w' ⟨rfl,rfl⟩)
  all_goals go_wp2_with fail
  all_goals exact bodyPost_ret (v:=cv (r5 (LJ,.rg p (p+s)))) (by simp [results,O,go_sem,r5,kN,mE,mF,kT]) rfl ⟨by rw [K.out],(((Below.refl _ _).alloc (V _) _).alloc (by simp) _).drew⟩
 ·have K:=J (show mV n=.rg p (p+s) by rw [KD]; rfl);clear KD;go_enter X,U;go_wp2_with fail;refine (W3.out _).mono ?_;rintro e1 w1 ⟨rfl,rfl⟩;go_wp2_with fail;refine (W9.out _).mono ?_;rintro e2 w2 ⟨rfl,rfl⟩;go_wp2_with fail
  go_region_with (go_at_call 10; refine (V9.out _).mono ?_; rintro e w' ⟨rfl,rfl⟩)
  all_goals go_wp2_with fail
  all_goals exact bodyPost_ret (v:=cv (r5 (LJ,.rg p (p+s)))) (by simp [results,O,go_sem,r5,kN,mE,mF,kT]) rfl ⟨by rw [K.out],(((Below.refl _ _).alloc (V _) _).alloc (by simp) _).drew⟩
 ·have K:=J (show mV n=.tx (oz q) by rw [KD]; rfl);have tx:=TX.out;have d6:=D6.out;have d61:=d6.1;have d62:q<7:=by omega
  clear KD d6;go_enter X,U;go_wp2_with fail;refine (W3.out _).mono ?_;rintro e1 w1 ⟨rfl,rfl⟩;go_wp2_with fail
  go_region_with (first | (go_at_call 10; refine (W6.out _).mono ?_; rintro e w' ⟨rfl,rfl⟩) | (go_at_call 62; refine (uX _).mono ?_; rintro e w' ⟨rfl,rfl⟩))
  all_goals go_wp2_with fail
  all_goals exact bodyPost_ret (v:=cv (r5 (LJ,.tx (oz q)))) (by simp [results,O,go_sem,r5,kN,mE,mF,kT]) rfl ⟨by rw [K.out],((((Below.refl _ _).alloc (V _) _).alloc (by simp) _).alloc (by simp; omega) _).drew⟩
 ·have K:=J (show mV n=.pr (oz q) by rw [KD]; rfl);have tx:=TX.out;have d6:=D6.out;have d61:=d6.1;have d62:q<7:=by omega
  clear KD d6;go_enter X,U;go_wp2_with fail;refine (W3.out _).mono ?_;rintro e1 w1 ⟨rfl,rfl⟩;go_wp2_with fail
  go_region_with (first | (go_at_call 10; refine (W6.out _).mono ?_; rintro e w' ⟨rfl,rfl⟩) | (go_at_call 62; refine (uX _).mono ?_; rintro e w' ⟨rfl,rfl⟩))
  all_goals go_wp2_with fail
  all_goals exact bodyPost_ret (v:=cv (r5 (LJ,.pr (oz q)))) (by simp [results,O,go_sem,r5,kN,mE,mF,kT]) rfl ⟨by rw [K.out],((((Below.refl _ _).alloc (V _) _).alloc (by simp) _).alloc (by simp; omega) _).drew⟩
end Go.Proofs.Ytmklifheakemeaa.Pr
