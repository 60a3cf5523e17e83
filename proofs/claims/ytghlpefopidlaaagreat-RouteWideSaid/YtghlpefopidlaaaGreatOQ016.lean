/-
  Names and pick of th. Conditions as told.
-/
import Derived.Test.YtghlpefopidlaaaGreatOQ006
import Derived.Test.YtghlpefopidlaaaGreatOQ005
import Derived.Test.YtghlpefopidlaaaGreatOQ003
import Derived.Deep.RegionWith
import Derived.Test.YtghlpefopidlaaaGreatOQ004
set_option maxRecDepth 100000
set_option maxHeartbeats 64000000
open Go.IntWalk renaming i64_in->Y
open Go.Lib renaming hid->L
open Go.Proofs.Tryz renaming results53->U,ntmps53->X,func53->Z,prog->au,ntmps54->ay,func54->aA
open Go.Proofs.YtghlpefopidlaaaGreat.Wi renaming within->D,jm->aC,kQ->aD
open Go.Value renaming string->V
open _root_.Int renaming tdiv_eq_ediv_of_nonneg->Q,ediv_le_self->aj,ediv_nonneg->ak
open _root_.List renaming getElem?_eq_getElem->J,getD_eq_getElem?_getD->O
open _root_.Nat renaming le_refl->ah,mod_lt->aB
namespace Go.Proofs.YtghlpefopidlaaaGreat
namespace Kp
open Go.RowKit Va In
def nm (i:Nat):ByteArray:=⟨#[UInt8.ofNat (97+i)]⟩
def qA:Array Value:=#[V ⟨#[97]⟩,V ⟨#[98]⟩,V ⟨#[99]⟩,V ⟨#[100]⟩,V ⟨#[101]⟩,V ⟨#[102]⟩,V ⟨#[103]⟩]
theorem Ut (i:Nat) (h:i<7):qA[i]?=some (V (nm i)):=by
 match i,h with
 | 0,_=>rfl
 | 1,_=>rfl
 | 2,_=>rfl
 | 3,_=>rfl
 | 4,_=>rfl
 | 5,_=>rfl
 | 6,_=>rfl
theorem Hg (w:World):Calls au 52 #[] w fun e w'=>e=.returned (.slice (some ⟨w.heap.size,0,none⟩) 7 7)/\w'=w.alloc (.cells qA 9):=by
 go_enter Tryz.func52,Tryz.ntmps52;go_wp2;go_ret;exact⟨rfl,rfl⟩
def nZ (zs:List Int) (i:Nat):Int:=if zs=[] then 0 else zs.getD (i % zs.length) 0
theorem J9 (nv:Value) (zs:List Int) (i:Nat) (w:World) (hz:jY w nv zs) (hl:zs.length<=maxLen) (hi:i<=100) :
  Calls au 54 #[nv,.int .i64 i] w fun e w'=>e=.returned (.int .i64 (nZ zs i))/\w=w':=by
 obtain⟨ao,cap,rfl⟩:=hz.shape;unfold maxLen at hl;cases zs with
 | nil =>
  go_enter aA,ay;go_wp2;go_ret;exact⟨rfl,rfl⟩
 | cons z r =>
  have hm:i % (z::r).length<(z::r).length:=aB _ (by simp);obtain⟨y,hy⟩:∃ y,(z::r)[i % (z::r).length]?=some y:=⟨_,J hm⟩;obtain⟨_,p,_,hix,hpc⟩:=hz.at_ _ y hy;have P:=L (show nZ (z::r) i=y by unfold nZ; rw [if_neg (by simp),O,hy]; rfl);have h0:((((z::r).length:Nat):Int) == 0)=false:=by simp; omega
  have hne:(((z::r).length:Nat):Int)≠0:=by simp; omega
  have ht:(i:Int) % ((z::r).length:Nat)=((i % (z::r).length:Nat):Int):=rfl;have ht2:(i:Int).tmod ((z::r).length:Nat)=((i % (z::r).length:Nat):Int):=by
   rw [Int.tmod_eq_emod_of_nonneg (by omega)]; rfl
  have hn0:0<(((z::r).length:Nat):Int):=by simp
  generalize (z::r).length=n at *;generalize i % n=m at *;clear hz hy hm;go_enter aA,ay;go_wp2;go_ret;exact⟨Wi.yV P.out.symm,rfl⟩
def odd (z:Int):Bool:=bits BinOp.and IntKind.i64 z 1 == 1
theorem Ka {W:World} {nv:Value} {zs:List Int} (hz:jY W nv zs) (i:Nat):-9223372036854775808<=nZ zs i/\nZ zs i<=9223372036854775807:=by
 unfold nZ
 split
 ·omega
 ·rename_i h
  have hm:i % zs.length<zs.length:=aB _ (List.length_pos_iff.2 h);have:=(hz.at_ _ _ (J hm)).1;rw [O,J hm];exact this
end Kp
namespace Pr
open Go.RowKit Pu Rw Va Kp
def Tz (n:Int):Int:=D (n.tdiv 4) 0 9
def TD (n:Int):ByteArray:=pJ (D (n.tdiv 4) 0 6)
def oq (n:Int):Kd:=if D n 0 3=0\/D n 0 3=1 then .rg (Tz n) (Tz n+D (n.tdiv 40) 0 9) else if D n 0 3=2 then .tx (TD n) else .pr (TD n)
theorem Hl (n:Int):fD (oq n)=true:=by
 unfold oq;have hw:=aC (n.tdiv 40) 0 9 (by omega);have ht:(TD n).size<=3:=z8 _
 split
 ·simp only [fD,decide_eq_true_eq]; omega
 ·split
  ·simp only [fD,decide_eq_true_eq]; omega
  ·simp only [fD,decide_eq_true_eq]; omega
theorem Fe (n k:Int) (hk:1<=k) (h1:-9223372036854775808<=n) (h2:n<=9223372036854775807):-9223372036854775808<=n.tdiv k/\n.tdiv k<=9223372036854775807:=by
 rcases Int.le_total 0 n with h|h
 ·rw [Q h];have a:=ak h (show 0<=k by omega);have b:=aj k h;omega
 ·have e:n.tdiv k=-((-n) / k):=by rw [<- Q (by omega),Int.neg_tdiv,Int.neg_neg]
  have a:=ak (show 0<=-n by omega) (show 0<=k by omega);have b:=aj k (show 0<=-n by omega);omega
theorem uM (TF:ByteArray) (n:Int) (w:World) (h1:-9223372036854775808<=n) (h2:n<=9223372036854775807) :
  Calls au 53 #[V TF,.int .i64 n] w fun e w'=>e=.returned (cv (r5 (TF,oq n)))/\Below w.heap.size w w':=by
 have b4:=Fe n 4 (by decide) h1 h2;have b40:=Fe n 40 (by decide) h1 h2;have q4:IntKind.i64.wrap (n.tdiv 4)=n.tdiv 4:=Y _ b4;have q40:IntKind.i64.wrap (n.tdiv 40)=n.tdiv 40:=Y _ b40;have W3:=L (fun wx=>aD n 0 3 wx (by omega) (by omega) (by omega) h1 h2);have W9:=L (fun wx=>aD (n.tdiv 4) 0 9 wx (by omega) (by omega) (by omega) b4.1 b4.2);have W6:=L (fun wx=>aD (n.tdiv 4) 0 6 wx (by omega) (by omega) (by omega) b4.1 b4.2);have V9:=L (fun wx=>aD (n.tdiv 40) 0 9 wx (by omega) (by omega) (by omega) b40.1 b40.2);have d3:=aC n 0 3 (by omega);have d9:=aC (n.tdiv 4) 0 9 (by omega);have d6:=aC (n.tdiv 4) 0 6 (by omega);have e9:=aC (n.tdiv 40) 0 9 (by omega);have KD:oq n=if D n 0 3=0\/D n 0 3=1 then .rg (D (n.tdiv 4) 0 9) (D (n.tdiv 4) 0 9+D (n.tdiv 40) 0 9) else if D n 0 3=2 then .tx (pJ (D (n.tdiv 4) 0 6)) else .pr (pJ (D (n.tdiv 4) 0 6)):=rfl
 have TX:=L (Nk (D (n.tdiv 4) 0 6) d6.1 d6.2);generalize D n 0 3=r at *;generalize D (n.tdiv 4) 0 9=p at *;generalize D (n.tdiv 4) 0 6=q at *;generalize D (n.tdiv 40) 0 9=s at *;have hs:IntKind.i64.wrap (p+s)=p+s:=Y _ (by omega);have hr:r=0\/r=1\/r=2\/r=3:=by omega
 have D6:=L d6;clear b4 b40 h1 h2 d3 d9 e9 d6;rcases hr with rfl|rfl|rfl|rfl
 ·have K:=L (show oq n=.rg p (p+s) by rw [KD]; rfl);clear KD;go_enter Z,X;go_wp2_with fail;refine (W3.out _).mono ?_;rintro e1 w1 ⟨rfl,rfl⟩;go_wp2_with fail;refine (W9.out _).mono ?_;rintro e2 w2 ⟨rfl,rfl⟩;go_wp2_with fail
  go_region_with (go_at_call 14; refine (V9.out _).mono ?_; rintro e w' ⟨rfl,rfl⟩)
  all_goals go_wp2_with fail
  all_goals exact bodyPost_ret (v:=cv (r5 (TF,.rg p (p+s)))) (by simp [results,U,go_sem,r5,kN,lN,lQ,kT]) rfl ⟨by rw [K.out],(((Below.refl _ _).alloc (ah _) _).alloc (by simp) _).drew⟩
 ·have K:=L (show oq n=.rg p (p+s) by rw [KD]; rfl);clear KD;go_enter Z,X;go_wp2_with fail;refine (W3.out _).mono ?_;rintro e1 w1 ⟨rfl,rfl⟩;go_wp2_with fail;refine (W9.out _).mono ?_;rintro e2 w2 ⟨rfl,rfl⟩;go_wp2_with fail
  go_region_with (go_at_call 14; refine (V9.out _).mono ?_; rintro e w' ⟨rfl,rfl⟩)
  all_goals go_wp2_with fail
  all_goals exact bodyPost_ret (v:=cv (r5 (TF,.rg p (p+s)))) (by simp [results,U,go_sem,r5,kN,lN,lQ,kT]) rfl ⟨by rw [K.out],(((Below.refl _ _).alloc (ah _) _).alloc (by simp) _).drew⟩
 ·have K:=L (show oq n=.tx (pJ q) by rw [KD]; rfl);have tx:=TX.out;have d6:=D6.out;have d61:=d6.1;have d62:q<7:=by omega
  clear KD d6;go_enter Z,X;go_wp2_with fail;refine (W3.out _).mono ?_;rintro e1 w1 ⟨rfl,rfl⟩;go_wp2_with fail
  go_region_with (first | (go_at_call 14; refine (W6.out _).mono ?_; rintro e w' ⟨rfl,rfl⟩) | (go_at_call 122; refine (xq _).mono ?_; rintro e w' ⟨rfl,rfl⟩))
  all_goals go_wp2_with fail
  all_goals exact bodyPost_ret (v:=cv (r5 (TF,.tx (pJ q)))) (by simp [results,U,go_sem,r5,kN,lN,lQ,kT]) rfl ⟨by rw [K.out],((((Below.refl _ _).alloc (ah _) _).alloc (by simp) _).alloc (by simp; omega) _).drew⟩
 ·have K:=L (show oq n=.pr (pJ q) by rw [KD]; rfl);have tx:=TX.out;have d6:=D6.out;have d61:=d6.1;have d62:q<7:=by omega
  clear KD d6;go_enter Z,X;go_wp2_with fail;refine (W3.out _).mono ?_;rintro e1 w1 ⟨rfl,rfl⟩;go_wp2_with fail
  go_region_with (first | (go_at_call 14; refine (W6.out _).mono ?_; rintro e w' ⟨rfl,rfl⟩) | (go_at_call 122; refine (xq _).mono ?_; rintro e w' ⟨rfl,rfl⟩))
  all_goals go_wp2_with fail
  all_goals exact bodyPost_ret (v:=cv (r5 (TF,.pr (pJ q)))) (by simp [results,U,go_sem,r5,kN,lN,lQ,kT]) rfl ⟨by rw [K.out],((((Below.refl _ _).alloc (ah _) _).alloc (by simp) _).alloc (by simp; omega) _).drew⟩
end Pr
namespace Rg
open Go.RowKit
end Rg
namespace Rg
open Go.RowKit Rw
end Rg
end Go.Proofs.YtghlpefopidlaaaGreat
