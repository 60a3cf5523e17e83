/-
  A list of numbers th. Conditions as told.
-/
import Derived.Test.YtmklifheakemeaaProg
import Derived.WalkKit
import Derived.ChangeSlices
import Derived.ProofKit
import Derived.Lib.Hide
import Derived.Below
import Derived.WalkLawsBesides
import Derived.IntWalk
import Derived.Laws.AppendOwn
import Derived.Laws.OwnMore
import Derived.Deep.Slices
import Derived.Maps.AppendAt
set_option maxRecDepth 100000
set_option maxHeartbeats 64000000
open _root_.Go renaming Value->X,World->ah
open Go.Ending renaming returned->J
open Go.IntKind renaming i64->Y
open Go.Proofs.Try renaming prog->L,underlying23->O
open Go.Value renaming string->D,int->Z,slice->aj,bool->ak
open _root_.Int renaming emod_lt_of_pos->K,tmod_eq_emod->U,emod_nonneg->V
namespace Go.Proofs.Ytmklifheakemeaa
namespace In
open Go.RowKit Go.ChangeShapes Go.WideShapes
structure gJ (W:ah) (nv:X) (zs:List Int):Prop where
 shape:∃ ao cap,nv=aj ao zs.length cap
 at_:∀ (i:Nat) (z:Int),zs[i]?=some z->(-9223372036854775808<=z/\z<=9223372036854775807)/\∃ p:Addr,p.block<W.heap.size/\(∀ w,(Instr.indexAt 23 nv (Z Y i)).run L w=.ok (.pointer (some p)) w)/\W.cell? p=some (Z Y z)
theorem gJ.on {W W':ah} {nv:X} {zs:List Int} (h:gJ W nv zs) (hb:Below W.heap.size W W'):gJ W' nv zs :=
 ⟨h.shape,fun i z hz=>by
  obtain⟨h1,p,h2,h3,h4⟩:=h.at_ i z hz;exact⟨h1,p,Nat.lt_of_lt_of_le h2 hb.size,h3,by rw [hb.cell h2]; exact h4⟩⟩
theorem Ir {n:Int} (h:(Lit.int Y n).wf=true):-9223372036854775808<=n/\n<=9223372036854775807:=by
 have h2:(decide (IntKind.i64.min<=n) && decide (n<=IntKind.i64.max))=true:=h;rw [Bool.and_eq_true,decide_eq_true_eq,decide_eq_true_eq,show IntKind.i64.min=-9223372036854775808 by decide,show IntKind.i64.max=9223372036854775807 by decide] at h2;exact h2
theorem Kc:Try.prog.cellsOf 3=1:=by kernel_rfl
theorem Ab (a:Addr) (m len cap:Nat) (h:m<len) (w:ah):(Instr.indexAt 23 (aj (some a) len cap) (Z Y m)).run L w=.ok (.pointer (some (a.add m))) w:=by
 have h1:(m:Int)<len:=by omega
 simp [go_sem,O,h1]
theorem wH {H:Type} {enc:TypeId×X->H} {W:ah} {sp:Nat->Bool} {held:Bool} {fuel:Nat} {v:X} {x:DataW H×List MemPlace}
  (hf:DataW.trod enc L W 0 sp held fuel 23 [v]=some x):∃ zs,zs.length<=maxLen/\gJ W v zs:=by
 rcases open_ints O Try.underlying3 Kc hf with⟨h1,_⟩|⟨a',len',cap',zs,h1,_,h3,h4,h5,_,h7,h8⟩
 ·have e:v=aj none 0 0:=by simpa using h1
  rw [e];exact⟨[],Nat.zero_le _,⟨none,0,rfl⟩,fun i z h=>by simp at h⟩
 ·have e:v=aj (some a') len' cap':=by simpa using h1
  rw [e];have hle:len'<=zs.length:=by rw [h5]; split <;> omega
  have hl:(zs.take len').length=len':=by simp; omega
  refine⟨zs.take len',by omega,⟨some a',cap',by rw [hl]⟩,fun i z hz=>?_⟩;obtain⟨hi,hzi⟩:=List.getElem?_eq_some_iff.1 hz;have hi2:i<len':=by omega
  have hz2:zs[i]'(by omega)=z:=by simpa using hzi
  have hc:=h7 i (by omega);have hg:zs.getD i 0=z:=by rw [<- hz2]; simp [List.getD,show i<zs.length by omega]
  rw [hg] at hc;exact⟨Ir (h8 z (by rw [<- hz2]; exact List.getElem_mem _)),a'.add i,World.block_lt_of_cell? W _ hc,fun w=>Ab a' i len' cap' hi2 w,hc⟩
theorem Ij {H:Type} {enc:TypeId×X->H} {W:ah} {r:Reach} {b0:Nat} {sp:Nat->Bool} {held:Bool} {v:X} {d:DataW H} {ps:List MemPlace}
  (hval:Value.okWide L W r b0 23 v) (hd:DataW.Trod enc L W 0 sp held 23 v d ps):∃ zs,zs.length<=maxLen/\gJ W v zs:=by
 obtain⟨a,len,cap,rfl⟩:=okWide_slice O hval;obtain⟨fuel,hf⟩:=hd;exact wH (fuel:=fuel) hf
end In
namespace Wi
open Go.RowKit
def within (n lo hi:Int):Int:=lo+n % (hi-lo+1)
theorem je (n lo hi:Int) (h:lo<=hi):lo<=within n lo hi/\within n lo hi<=hi:=by
 unfold within;have h1:=V n (show hi-lo+1≠0 by omega);have h2:=K n (show 0<hi-lo+1 by omega);omega
theorem zX (n lo hi:Int) (h:lo<=hi) (hn:¬ n.tmod (hi-lo+1)<0):lo+n.tmod (hi-lo+1)=within n lo hi:=by
 unfold within;rw [U] at hn ⊢
 split at hn
 ·rename_i h0; rw [if_pos h0]; omega
 ·rename_i h0
  rw [if_neg h0] at *;have h2:=K n (show 0<hi-lo+1 by omega);have:((hi-lo+1).natAbs:Int)=hi-lo+1:=by omega
  omega
theorem zY (n lo hi:Int) (h:lo<=hi) (hn:n.tmod (hi-lo+1)<0):lo+(n.tmod (hi-lo+1)+hi-lo+1)=within n lo hi:=by
 unfold within;rw [U] at hn ⊢
 split at hn
 ·have h1:=V n (show hi-lo+1≠0 by omega);omega
 ·rename_i h0
  rw [if_neg h0] at *;have:((hi-lo+1).natAbs:Int)=hi-lo+1:=by omega
  omega
theorem Im (n m:Int) (h:0<m):-m<n.tmod m/\n.tmod m<m:=by
 rw [U];have h1:=V n (show m≠0 by omega);have h2:=K n h
 split <;> omega
theorem wF {k:IntKind} {a b:Int} (h:a=b):J (Z k a)=J (Z k b):=by rw [h]
theorem jP (n lo hi:Int) (w:ah) (h:lo<=hi) (h1:-1000000<=lo) (h2:hi<=1000000) (_hn1:-9223372036854775808<=n) (_hn2:n<=9223372036854775807) :
  Calls L 10 #[Z Y n,Z Y lo,Z Y hi] w fun e w'=>e=J (Z Y (within n lo hi))/\w=w':=by
 have hm:0<hi-lo+1:=by omega
 have hm2:hi-lo+1<=2000001:=by omega
 have hb:=Im n (hi-lo+1) hm;have P:=Lib.hid (zX n lo hi h);have Q:=Lib.hid (zY n lo hi h);go_enter Try.func10,Try.ntmps10;go_wp2
 ·go_ret;exact⟨wF (Q.out (by omega)),rfl⟩
 ·go_ret;exact⟨wF (P.out (by omega)),rfl⟩
end Wi
namespace Va
open Go.RowKit
abbrev vl (t:Bool) (n:Int) (s:ByteArray):X:=.agg #[ak t,Z Y n,D s]
theorem fZ {a b:Bool} (h:a=b):J (ak a)=J (ak b):=by rw [h]
def Mg:Array X:=#[D ⟨#[]⟩,D ⟨#[120]⟩,D ⟨#[120,121]⟩,D ⟨#[120,121,122]⟩,D ⟨#[120,122]⟩,D ⟨#[121]⟩,D ⟨#[121,121]⟩]
def oz (r:Int):ByteArray:=[⟨#[]⟩,⟨#[120]⟩,⟨#[120,121]⟩,⟨#[120,121,122]⟩,⟨#[120,122]⟩,⟨#[121]⟩,⟨#[121,121]⟩].getD r.toNat ⟨#[]⟩
theorem Io (r:Int) (h0:0<=r) (h1:r<=6):Mg[r.toNat]?=some (D (oz r)):=by
 obtain⟨n,rfl⟩:=Int.eq_ofNat_of_zero_le h0;have hn:n<=6:=by omega
 match n,hn with
 | 0,_=>rfl
 | 1,_=>rfl
 | 2,_=>rfl
 | 3,_=>rfl
 | 4,_=>rfl
 | 5,_=>rfl
 | 6,_=>rfl
theorem uX (w:ah) :
  Calls L 62 #[] w fun e w'=>e=J (aj (some ⟨w.heap.size,0,none⟩) 7 7)/\w'=w.alloc (.cells Mg 9):=by
 go_enter Try.func62,Try.ntmps62;go_wp2;go_ret;exact⟨rfl,rfl⟩
theorem xG (r:Int):(oz r).size<=3:=by
 unfold oz;rcases Nat.lt_or_ge r.toNat 7 with h|h
 ·generalize r.toNat=n at h
  match n,h with
  | 0,_=>decide
  | 1,_=>decide
  | 2,_=>decide
  | 3,_=>decide
  | 4,_=>decide
  | 5,_=>decide
  | 6,_=>decide
 ·rw [List.getD_eq_getElem?_getD,List.getElem?_eq_none (by simpa using h)]
  decide
end Va
namespace At
open Go.RowKit Va
abbrev A4:=ByteArray×Bool×Int×ByteArray
abbrev av (x:A4):X:=.agg #[D x.1,ak x.2.1,Z Y x.2.2.1,D x.2.2.2]
end At
namespace At
open Go.RowKit Va In
def nm (i:Nat):ByteArray:=⟨#[UInt8.ofNat (97+i)]⟩
def pF:Array X:=#[D ⟨#[97]⟩,D ⟨#[98]⟩,D ⟨#[99]⟩,D ⟨#[100]⟩,D ⟨#[101]⟩,D ⟨#[102]⟩,D ⟨#[103]⟩]
def mJ (zs:List Int) (i:Nat):Int:=if zs=[] then 0 else zs.getD (i % zs.length) 0
def odd (z:Int):Bool:=bits BinOp.and Y z 1 == 1
end At
namespace Nm
def hor (l:List UInt8):Int:=l.foldl (fun h b=>h * 256+(b.toNat:Int)) 0
def kX (l:List UInt8):Int:=IntKind.i64.wrap (hor l)
end Nm
end Go.Proofs.Ytmklifheakemeaa
