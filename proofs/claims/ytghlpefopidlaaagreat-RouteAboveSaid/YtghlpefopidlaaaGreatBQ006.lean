/-
  Numbers as eight byt. Conditions as told.
-/
import Derived.Test.YtghlpefopidlaaaGreatBQ001
import Derived.Test.YtghlpefopidlaaaGreatBQ002
import Derived.Deep.RegionWith
set_option maxRecDepth 100000
set_option maxHeartbeats 64000000
open _root_.Go renaming bodyPost_ret->Y,World->aF
open Go.IntWalk renaming i64_in->Z
open Go.Lib renaming hid->L
open Go.Proofs.Tryz renaming results53->U,ntmps53->X,func53->ah,prog->ay,ntmps54->aA,func54->aB
open Go.Proofs.YtghlpefopidlaaaGreat.Wi renaming within->D,iR->aD,jI->aG
open Go.Value renaming string->V
open _root_.Int renaming tdiv_eq_ediv_of_nonneg->Q,ediv_le_self->ak,ediv_nonneg->au
open _root_.List renaming getElem?_eq_getElem->J,getD_eq_getElem?_getD->O
open _root_.Nat renaming le_refl->aj,mod_lt->aC
namespace Go.Proofs.YtghlpefopidlaaaGreat
namespace Nm
def hor (l:List UInt8):Int:=l.foldl (fun h b=>h * 256+(b.toNat:Int)) 0
def xP (l:List UInt8):Int:=IntKind.i64.wrap (hor l)
abbrev St:=List UInt8×Bool
def gone (n:Nat) (s:St):Bool:=s.2 || decide (s.1.length<n)
end Nm
namespace Kp
open Go.RowKit Va In
def nm (i:Nat):ByteArray:=⟨#[UInt8.ofNat (97+i)]⟩
def rz:Array Value:=#[V ⟨#[97]⟩,V ⟨#[98]⟩,V ⟨#[99]⟩,V ⟨#[100]⟩,V ⟨#[101]⟩,V ⟨#[102]⟩,V ⟨#[103]⟩]
theorem Wh (i:Nat) (h:i<7):rz[i]?=some (V (nm i)):=by
 match i,h with
 | 0,_=>rfl
 | 1,_=>rfl
 | 2,_=>rfl
 | 3,_=>rfl
 | 4,_=>rfl
 | 5,_=>rfl
 | 6,_=>rfl
theorem IK (w:aF):Calls ay 52 #[] w fun e w'=>e=.returned (.slice (some ⟨w.heap.size,0,none⟩) 7 7)/\w'=w.alloc (.cells rz 9):=by
 go_enter Tryz.func52,Tryz.ntmps52;go_wp2;go_ret;exact⟨rfl,rfl⟩
def oV (zs:List Int) (i:Nat):Int:=if zs=[] then 0 else zs.getD (i % zs.length) 0
theorem KT (nv:Value) (zs:List Int) (i:Nat) (w:aF) (hz:mO w nv zs) (hl:zs.length<=maxLen) (hi:i<=100) :
  Calls ay 54 #[nv,.int .i64 i] w fun e w'=>e=.returned (.int .i64 (oV zs i))/\w=w':=by
 obtain⟨ao,cap,rfl⟩:=hz.shape;unfold maxLen at hl;cases zs with
 | nil =>
  go_enter aB,aA;go_wp2;go_ret;exact⟨rfl,rfl⟩
 | cons z r =>
  have hm:i % (z::r).length<(z::r).length:=aC _ (by simp);obtain⟨y,hy⟩:∃ y,(z::r)[i % (z::r).length]?=some y:=⟨_,J hm⟩;obtain⟨_,p,_,hix,hpc⟩:=hz.at_ _ y hy;have P:=L (show oV (z::r) i=y by unfold oV; rw [if_neg (by simp),O,hy]; rfl);have h0:((((z::r).length:Nat):Int) == 0)=false:=by simp; omega
  have hne:(((z::r).length:Nat):Int)≠0:=by simp; omega
  have ht:(i:Int) % ((z::r).length:Nat)=((i % (z::r).length:Nat):Int):=rfl;have ht2:(i:Int).tmod ((z::r).length:Nat)=((i % (z::r).length:Nat):Int):=by
   rw [Int.tmod_eq_emod_of_nonneg (by omega)]; rfl
  have hn0:0<(((z::r).length:Nat):Int):=by simp
  generalize (z::r).length=n at *;generalize i % n=m at *;clear hz hy hm;go_enter aB,aA;go_wp2;go_ret;exact⟨Wi.zY P.out.symm,rfl⟩
def odd (z:Int):Bool:=bits BinOp.and IntKind.i64 z 1 == 1
theorem KU {W:aF} {nv:Value} {zs:List Int} (hz:mO W nv zs) (i:Nat):-9223372036854775808<=oV zs i/\oV zs i<=9223372036854775807:=by
 unfold oV
 split
 ·omega
 ·rename_i h
  have hm:i % zs.length<zs.length:=aC _ (List.length_pos_iff.2 h);have:=(hz.at_ _ _ (J hm)).1;rw [O,J hm];exact this
end Kp
namespace Pr
open Go.RowKit Pu Rw Va Kp
def Vt (n:Int):Int:=D (n.tdiv 4) 0 9
def Vu (n:Int):ByteArray:=qA (D (n.tdiv 4) 0 6)
def oW (n:Int):Kd:=if D n 0 3=0\/D n 0 3=1 then .rg (Vt n) (Vt n+D (n.tdiv 40) 0 9) else if D n 0 3=2 then .tx (Vu n) else .pr (Vu n)
theorem IL (n:Int):fJ (oW n)=true:=by
 unfold oW;have hw:=aD (n.tdiv 40) 0 9 (by omega);have ht:(Vu n).size<=3:=Bt _
 split
 ·simp only [fJ,decide_eq_true_eq]; omega
 ·split
  ·simp only [fJ,decide_eq_true_eq]; omega
  ·simp only [fJ,decide_eq_true_eq]; omega
theorem Gy (n k:Int) (hk:1<=k) (h1:-9223372036854775808<=n) (h2:n<=9223372036854775807):-9223372036854775808<=n.tdiv k/\n.tdiv k<=9223372036854775807:=by
 rcases Int.le_total 0 n with h|h
 ·rw [Q h];have a:=au h (show 0<=k by omega);have b:=ak k h;omega
 ·have e:n.tdiv k=-((-n) / k):=by rw [<- Q (by omega),Int.neg_tdiv,Int.neg_neg]
  have a:=au (show 0<=-n by omega) (show 0<=k by omega);have b:=ak k (show 0<=-n by omega);omega
theorem vG (Vv:ByteArray) (n:Int) (w:aF) (h1:-9223372036854775808<=n) (h2:n<=9223372036854775807) :
  Calls ay 53 #[V Vv,.int .i64 n] w fun e w'=>e=.returned (cv (r5 (Vv,oW n)))/\Below w.heap.size w w':=by
 have b4:=Gy n 4 (by decide) h1 h2;have b40:=Gy n 40 (by decide) h1 h2;have q4:IntKind.i64.wrap (n.tdiv 4)=n.tdiv 4:=Z _ b4;have q40:IntKind.i64.wrap (n.tdiv 40)=n.tdiv 40:=Z _ b40;have W3:=L (fun wx=>aG n 0 3 wx (by omega) (by omega) (by omega) h1 h2);have W9:=L (fun wx=>aG (n.tdiv 4) 0 9 wx (by omega) (by omega) (by omega) b4.1 b4.2);have W6:=L (fun wx=>aG (n.tdiv 4) 0 6 wx (by omega) (by omega) (by omega) b4.1 b4.2);have V9:=L (fun wx=>aG (n.tdiv 40) 0 9 wx (by omega) (by omega) (by omega) b40.1 b40.2);have d3:=aD n 0 3 (by omega);have d9:=aD (n.tdiv 4) 0 9 (by omega);have d6:=aD (n.tdiv 4) 0 6 (by omega);have e9:=aD (n.tdiv 40) 0 9 (by omega);have KD:oW n=if D n 0 3=0\/D n 0 3=1 then .rg (D (n.tdiv 4) 0 9) (D (n.tdiv 4) 0 9+D (n.tdiv 40) 0 9) else if D n 0 3=2 then .tx (qA (D (n.tdiv 4) 0 6)) else .pr (qA (D (n.tdiv 4) 0 6)):=rfl
 have TX:=L (PD (D (n.tdiv 4) 0 6) d6.1 d6.2);generalize D n 0 3=r at *;generalize D (n.tdiv 4) 0 9=p at *;generalize D (n.tdiv 4) 0 6=q at *;generalize D (n.tdiv 40) 0 9=s at *;have hs:IntKind.i64.wrap (p+s)=p+s:=Z _ (by omega);have hr:r=0\/r=1\/r=2\/r=3:=by omega
 have D6:=L d6;clear b4 b40 h1 h2 d3 d9 e9 d6;rcases hr with rfl|rfl|rfl|rfl
 ·have K:=L (show oW n=.rg p (p+s) by rw [KD]; rfl);clear KD;go_enter ah,X;go_wp2_with fail;refine (W3.out _).mono ?_;rintro e1 w1 ⟨rfl,rfl⟩;go_wp2_with fail;refine (W9.out _).mono ?_;rintro e2 w2 ⟨rfl,rfl⟩;go_wp2_with fail
  go_region_with (go_at_call 14; refine (V9.out _).mono ?_; rintro e w' ⟨rfl,rfl⟩)
  all_goals go_wp2_with fail
  all_goals exact Y (v:=cv (r5 (Vv,.rg p (p+s)))) (by simp [results,U,go_sem,r5,kN,mE,mF,kT]) rfl ⟨by rw [K.out],(((Below.refl _ _).alloc (aj _) _).alloc (by simp) _).drew⟩
 ·have K:=L (show oW n=.rg p (p+s) by rw [KD]; rfl);clear KD;go_enter ah,X;go_wp2_with fail;refine (W3.out _).mono ?_;rintro e1 w1 ⟨rfl,rfl⟩;go_wp2_with fail;refine (W9.out _).mono ?_;rintro e2 w2 ⟨rfl,rfl⟩;go_wp2_with fail
  go_region_with (go_at_call 14; refine (V9.out _).mono ?_; rintro e w' ⟨rfl,rfl⟩)
  all_goals go_wp2_with fail
  all_goals exact Y (v:=cv (r5 (Vv,.rg p (p+s)))) (by simp [results,U,go_sem,r5,kN,mE,mF,kT]) rfl ⟨by rw [K.out],(((Below.refl _ _).alloc (aj _) _).alloc (by simp) _).drew⟩
 ·have K:=L (show oW n=.tx (qA q) by rw [KD]; rfl);have tx:=TX.out;have d6:=D6.out;have d61:=d6.1;have d62:q<7:=by omega
  clear KD d6;go_enter ah,X;go_wp2_with fail;refine (W3.out _).mono ?_;rintro e1 w1 ⟨rfl,rfl⟩;go_wp2_with fail
  go_region_with (first | (go_at_call 14; refine (W6.out _).mono ?_; rintro e w' ⟨rfl,rfl⟩) | (go_at_call 122; refine (yB _).mono ?_; rintro e w' ⟨rfl,rfl⟩))
  all_goals go_wp2_with fail
  all_goals exact Y (v:=cv (r5 (Vv,.tx (qA q)))) (by simp [results,U,go_sem,r5,kN,mE,mF,kT]) rfl ⟨by rw [K.out],((((Below.refl _ _).alloc (aj _) _).alloc (by simp) _).alloc (by simp; omega) _).drew⟩
 ·have K:=L (show oW n=.pr (qA q) by rw [KD]; rfl);have tx:=TX.out;have d6:=D6.out;have d61:=d6.1;have d62:q<7:=by omega
  clear KD d6;go_enter ah,X;go_wp2_with fail;refine (W3.out _).mono ?_;rintro e1 w1 ⟨rfl,rfl⟩;go_wp2_with fail
  go_region_with (first | (go_at_call 14; refine (W6.out _).mono ?_; rintro e w' ⟨rfl,rfl⟩) | (go_at_call 122; refine (yB _).mono ?_; rintro e w' ⟨rfl,rfl⟩))
  all_goals go_wp2_with fail
  all_goals exact Y (v:=cv (r5 (Vv,.pr (qA q)))) (by simp [results,U,go_sem,r5,kN,mE,mF,kT]) rfl ⟨by rw [K.out],((((Below.refl _ _).alloc (aj _) _).alloc (by simp) _).alloc (by simp; omega) _).drew⟩
end Pr
end Go.Proofs.YtghlpefopidlaaaGreat
