/-
  A list of numbers th. Conditions as told.
-/
import Derived.Test.YtghlpefopidlaaaGreatProg
import Derived.WalkKit
import Derived.ChangeSlices
import Derived.ProofKit
import Derived.Lib.Hide
import Derived.Below
import Derived.IntWalk
import Derived.Test.YtghlpefopidlaaaGreatOQ001
import Derived.Lib.Bytealg
set_option maxRecDepth 100000
set_option maxHeartbeats 64000000
open Go.Lib renaming compareBytes->D
open Go.Op renaming bytesLess->J
open _root_.List renaming getElem?_eq_some_iff->K
open _root_.Option renaming some->O,map_map->U
open _root_.UInt8 renaming not_lt->L,le_antisymm->Q
namespace Go.Proofs.YtghlpefopidlaaaGreat
namespace In
open Go.RowKit Go.ChangeShapes Go.WideShapes
structure jY (W:World) (nv:Value) (zs:List Int):Prop where
 shape:∃ ao cap,nv=.slice ao zs.length cap
 at_:∀ (i:Nat) (z:Int),zs[i]?=O z->(-9223372036854775808<=z/\z<=9223372036854775807)/\∃ p:Addr,p.block<W.heap.size/\(∀ w,(Instr.indexAt 24 nv (.int .i64 i)).run Tryz.prog w=.ok (.pointer (O p)) w)/\W.cell? p=O (.int .i64 z)
theorem jY.on {W W':World} {nv:Value} {zs:List Int} (h:jY W nv zs) (hb:Below W.heap.size W W'):jY W' nv zs :=
 ⟨h.shape,fun i z hz=>by
  obtain⟨h1,p,h2,h3,h4⟩:=h.at_ i z hz;exact⟨h1,p,Nat.lt_of_lt_of_le h2 hb.size,h3,by rw [hb.cell h2]; exact h4⟩⟩
theorem Nl {n:Int} (h:(Lit.int .i64 n).wf=true):-9223372036854775808<=n/\n<=9223372036854775807:=by
 have h2:(decide (IntKind.i64.min<=n) && decide (n<=IntKind.i64.max))=true:=h;rw [Bool.and_eq_true,decide_eq_true_eq,decide_eq_true_eq,show IntKind.i64.min=-9223372036854775808 by decide,show IntKind.i64.max=9223372036854775807 by decide] at h2;exact h2
theorem Ri:Tryz.prog.cellsOf 3=1:=by kernel_rfl
theorem CY (a:Addr) (m len cap:Nat) (h:m<len) (w:World):(Instr.indexAt 24 (.slice (O a) len cap) (.int .i64 m)).run Tryz.prog w=.ok (.pointer (O (a.add m))) w:=by
 have h1:(m:Int)<len:=by omega
 simp [go_sem,Tryz.underlying24,h1]
theorem EX {H:Type} {enc:TypeId×Value->H} {W:World} {sp:Nat->Bool} {held:Bool} {fuel:Nat} {v:Value} {x:DataW H×List MemPlace}
  (hf:DataW.trod enc Tryz.prog W 0 sp held fuel 24 [v]=O x):∃ zs,zs.length<=maxLen/\jY W v zs:=by
 rcases open_ints Tryz.underlying24 Tryz.underlying3 Ri hf with⟨h1,_⟩|⟨a',len',cap',zs,h1,_,h3,h4,h5,_,h7,h8⟩
 ·have e:v=.slice none 0 0:=by simpa using h1
  rw [e];exact⟨[],Nat.zero_le _,⟨none,0,rfl⟩,fun i z h=>by simp at h⟩
 ·have e:v=.slice (O a') len' cap':=by simpa using h1
  rw [e];have hle:len'<=zs.length:=by rw [h5]; split <;> omega
  have hl:(zs.take len').length=len':=by simp; omega
  refine⟨zs.take len',by omega,⟨O a',cap',by rw [hl]⟩,fun i z hz=>?_⟩;obtain⟨hi,hzi⟩:=K.1 hz;have hi2:i<len':=by omega
  have hz2:zs[i]'(by omega)=z:=by simpa using hzi
  have hc:=h7 i (by omega);have hg:zs.getD i 0=z:=by rw [<- hz2]; simp [List.getD,show i<zs.length by omega]
  rw [hg] at hc;exact⟨Nl (h8 z (by rw [<- hz2]; exact List.getElem_mem _)),a'.add i,World.block_lt_of_cell? W _ hc,fun w=>CY a' i len' cap' hi2 w,hc⟩
end In
namespace Nm
def hor (l:List UInt8):Int:=l.foldl (fun h b=>h * 256+(b.toNat:Int)) 0
def tF (l:List UInt8):Int:=IntKind.i64.wrap (hor l)
end Nm
namespace Pr
open Go.RowKit Pu
def jv:List Cn->ByteArray->Nat
 | [],_=>0
 | x::r,n=>if J x.1.toList n.toList=true then jv r n+1 else 0
theorem tK:∀ l n,jv l n<=l.length
 | [],n=>Nat.le_refl _
 | x::r,n=>by
  have:=tK r n;simp only [jv]
  split <;> simp; omega
theorem EY:∀ (l:List Cn) (n:ByteArray) (k:Nat),k<=l.length->(∀ (j:Nat) (y:Cn),j<k->l[j]?=O y->J y.1.toList n.toList=true)->(∀ y:Cn,l[k]?=O y->J y.1.toList n.toList=false)->jv l n=k
 | [],n,k,hk,_,_=>by simp at hk; simp [jv,hk]
 | x::r,n,0,_,_,h=>by simp [jv,h x rfl]
 | x::r,n,k+1,hk,h1,h2=>by
  simp only [jv];rw [if_pos (h1 0 x (by omega) rfl),EY r n k (by simpa using hk) (fun j y hj hy=>h1 (j+1) y (by omega) (by simpa using hy)) (fun y hy=>h2 y (by simpa using hy))]
def jH (l:List Cn) (n:ByteArray):Bool:=match l[jv l n]? with
 | some x=>decide (x.1=n)
 | none=>false
def JH (m:List Cn) (c:Cn):Option (List Cn):=match m[jv m c.1]? with
 | some x=>if x.1=c.1 then (fE x.2 c.2).map fun k=>m.set (jv m c.1) (x.1,k) else O (m.take (jv m c.1)++c::m.drop (jv m c.1))
 | none=>O (m.take (jv m c.1)++c::m.drop (jv m c.1))
theorem yX:∀ (m:List Cn) (c:Cn),jX m c=JH m c
 | [],c=>rfl
 | x::r,c=>by
  unfold JH;simp only [jX,jv]
  split
  ·rw [yX r c,JH];simp only [List.getElem?_cons_succ,List.take_succ_cons,List.drop_succ_cons,List.set_cons_succ];cases h:r[jv r c.1]? with
   | none=>simp
   | some y =>
    simp only
    split
    ·simp [U,Function.comp_def]
    ·simp
  ·simp
theorem Gz {m:List Cn} {c:Cn} (h:jH m c.1=true):∃ x,m[jv m c.1]?=O x/\x.1=c.1/\jX m c=(fE x.2 c.2).map fun k=>m.set (jv m c.1) (x.1,k):=by
 rw [yX];unfold jH at h;unfold JH;cases hx:m[jv m c.1]? with
 | none=>rw [hx] at h; cases h
 | some x =>
  rw [hx] at h;have e:x.1=c.1:=by simpa using h
  exact⟨x,rfl,e,by simp only; rw [if_pos e]⟩
theorem EZ {m:List Cn} {c:Cn} (h:jH m c.1=false):jX m c=O (m.take (jv m c.1)++c::m.drop (jv m c.1)):=by
 rw [yX];unfold jH at h;unfold JH;cases hx:m[jv m c.1]? with
 | none=>rfl
 | some x =>
  rw [hx] at h;have e:¬ x.1=c.1:=by simpa using h
  simp only;rw [if_neg e]
theorem Aa:∀ a b:List UInt8,D a b<0↔J a b=true
 | [],[]=>by simp [D,J]
 | [],_::_=>by simp [D,J]
 | _::_,[]=>by simp [D,J]
 | a::x,b::y=>by
  simp only [D,J];by_cases h1:a<b
  ·rw [if_pos h1]; simp [h1]
  ·rw [if_neg h1];by_cases h2:b<a
   ·have h3:a≠b:=by rintro rfl; exact h1 h2
    rw [if_pos h2]; simp [h1,h3]
   ·have h3:a=b:=Q (L.1 h2) (L.1 h1);subst h3;rw [if_neg h2,Aa x y]; simp [h1]
theorem Ab:∀ a b:List UInt8,D a b=0↔a=b
 | [],[]=>by simp [D]
 | [],_::_=>by simp [D]
 | _::_,[]=>by simp [D]
 | a::x,b::y=>by
  simp only [D];by_cases h1:a<b
  ·rw [if_pos h1];have h3:a≠b:=by rintro rfl; exact absurd h1 (UInt8.lt_irrefl _)
   simp [h3]
  ·rw [if_neg h1];by_cases h2:b<a
   ·have h3:a≠b:=by rintro rfl; exact h1 h2
    rw [if_pos h2]; simp [h3]
   ·have h3:a=b:=Q (L.1 h2) (L.1 h1);subst h3;rw [if_neg h2,Ab x y]; simp
def yY (a b:ByteArray):Int:=D a.data.toList b.data.toList
theorem GA (a b:ByteArray):decide (yY a b<0)=J a.toList b.toList:=by
 rw [ByteArray.toList_eq,ByteArray.toList_eq,Bool.eq_iff_iff,decide_eq_true_eq];exact Aa _ _
theorem GH (a b:ByteArray):yY a b=0↔a=b:=by
 unfold yY;rw [Ab];exact⟨qo,fun h=>by rw [h]⟩
theorem xu {l:List Cn} (h:gU l) {i j:Nat} {x y:Cn} (hij:i<=j) (hi:l[i]?=O x) (hj:l[j]?=O y) {n:ByteArray} (hy:J y.1.toList n.toList=true):J x.1.toList n.toList=true:=by
 rcases Nat.lt_or_ge i j with h1|h1
 ·obtain⟨a1,a2⟩:=K.1 hi;obtain⟨b1,b2⟩:=K.1 hj;have h2:=List.pairwise_iff_getElem.1 h i j a1 b1 h1;rw [a2,b2] at h2;exact Tw.uf _ _ _ h2 hy
 ·obtain rfl:i=j:=by omega
  rw [hi] at hj;obtain rfl:=Option.some.inj hj;exact hy
end Pr
end Go.Proofs.YtghlpefopidlaaaGreat
