/-
  Within of the statem. Conditions as told.
-/
import Derived.Test.YtghlpefopidlaaaGreatProg
import Derived.WalkKit
import Derived.Lib.Hide
import Derived.WalkLawsBesides
import Derived.IntWalk
set_option maxRecDepth 100000
set_option maxHeartbeats 64000000
open Go.Ending renaming returned->D
open Go.Value renaming string->K,int->U,bool->V
open _root_.Int renaming emod_lt_of_pos->J,tmod_eq_emod->L,emod_nonneg->O
namespace Go.Proofs.YtghlpefopidlaaaGreat
namespace Wi
open Go.RowKit
def within (n lo hi:Int):Int:=lo+n % (hi-lo+1)
theorem jm (n lo hi:Int) (h:lo<=hi):lo<=within n lo hi/\within n lo hi<=hi:=by
 unfold within;have h1:=O n (show hi-lo+1≠0 by omega);have h2:=J n (show 0<hi-lo+1 by omega);omega
theorem CW (n lo hi:Int) (h:lo<=hi) (hn:¬ n.tmod (hi-lo+1)<0):lo+n.tmod (hi-lo+1)=within n lo hi:=by
 unfold within;rw [L] at hn ⊢
 split at hn
 ·rename_i h0; rw [if_pos h0]; omega
 ·rename_i h0
  rw [if_neg h0] at *;have h2:=J n (show 0<hi-lo+1 by omega);have:((hi-lo+1).natAbs:Int)=hi-lo+1:=by omega
  omega
theorem CX (n lo hi:Int) (h:lo<=hi) (hn:n.tmod (hi-lo+1)<0):lo+(n.tmod (hi-lo+1)+hi-lo+1)=within n lo hi:=by
 unfold within;rw [L] at hn ⊢
 split at hn
 ·have h1:=O n (show hi-lo+1≠0 by omega);omega
 ·rename_i h0
  rw [if_neg h0] at *;have:((hi-lo+1).natAbs:Int)=hi-lo+1:=by omega
  omega
theorem Nj (n m:Int) (h:0<m):-m<n.tmod m/\n.tmod m<m:=by
 rw [L];have h1:=O n (show m≠0 by omega);have h2:=J n h
 split <;> omega
theorem yV {k:IntKind} {a b:Int} (h:a=b):D (U k a)=D (U k b):=by rw [h]
theorem kQ (n lo hi:Int) (w:World) (h:lo<=hi) (h1:-1000000<=lo) (h2:hi<=1000000) (_hn1:-9223372036854775808<=n) (_hn2:n<=9223372036854775807) :
  Calls Tryz.prog 14 #[U .i64 n,U .i64 lo,U .i64 hi] w fun e w'=>e=D (U .i64 (within n lo hi))/\w=w':=by
 have hm:0<hi-lo+1:=by omega
 have hm2:hi-lo+1<=2000001:=by omega
 have hb:=Nj n (hi-lo+1) hm;have P:=Lib.hid (CW n lo hi h);have Q:=Lib.hid (CX n lo hi h);go_enter Tryz.func14,Tryz.ntmps14;go_wp2
 ·go_ret;exact⟨yV (Q.out (by omega)),rfl⟩
 ·go_ret;exact⟨yV (P.out (by omega)),rfl⟩
end Wi
namespace Va
open Go.RowKit
abbrev vl (t:Bool) (n:Int) (s:ByteArray):Value:=.agg #[V t,U .i64 n,K s]
theorem eO {a b:Bool} (h:a=b):D (V a)=D (V b):=by rw [h]
def Ug:Array Value:=#[K ⟨#[]⟩,K ⟨#[120]⟩,K ⟨#[120,121]⟩,K ⟨#[120,121,122]⟩,K ⟨#[120,122]⟩,K ⟨#[121]⟩,K ⟨#[121,121]⟩]
def pJ (r:Int):ByteArray:=[⟨#[]⟩,⟨#[120]⟩,⟨#[120,121]⟩,⟨#[120,121,122]⟩,⟨#[120,122]⟩,⟨#[121]⟩,⟨#[121,121]⟩].getD r.toNat ⟨#[]⟩
theorem Nk (r:Int) (h0:0<=r) (h1:r<=6):Ug[r.toNat]?=some (K (pJ r)):=by
 obtain⟨n,rfl⟩:=Int.eq_ofNat_of_zero_le h0;have hn:n<=6:=by omega
 match n,hn with
 | 0,_=>rfl
 | 1,_=>rfl
 | 2,_=>rfl
 | 3,_=>rfl
 | 4,_=>rfl
 | 5,_=>rfl
 | 6,_=>rfl
theorem xq (w:World) :
  Calls Tryz.prog 122 #[] w fun e w'=>e=D (.slice (some ⟨w.heap.size,0,none⟩) 7 7)/\w'=w.alloc (.cells Ug 9):=by
 go_enter Tryz.func122,Tryz.ntmps122;go_wp2;go_ret;exact⟨rfl,rfl⟩
theorem z8 (r:Int):(pJ r).size<=3:=by
 unfold pJ;rcases Nat.lt_or_ge r.toNat 7 with h|h
 ·generalize r.toNat=n at h
  match n,h with
  | 0,_=>decide
  | 1,_=>decide
  | 2,_=>decide
  | 3,_=>decide
  | 4,_=>decide
  | 5,_=>decide
  | 6,_=>decide
 ·rw [List.getD_eq_getElem?_getD,List.getElem?_eq_none (by simpa using h)]
  decide
end Va
end Go.Proofs.YtghlpefopidlaaaGreat
