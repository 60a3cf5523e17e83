/-
  Plain facts on what . Conditions as told.
-/
import Derived.Lib.ItoaNum
import GoSem.Claim
import Derived.Laws.Strings
import Derived.RowKit
set_option maxRecDepth 100000
set_option maxHeartbeats 64000000
open Go.Op renaming bytesLess->D
open _root_.Or renaming inr->J,inl->K
namespace Go.Proofs.YtkcfgbddlpomgaaGreat
namespace VaP
/-! ### the order of texts -/
theorem Dh:∀ x:List UInt8,D x x=false
 | []=>rfl
 | a::x=>by simp [D,Dh x]
theorem zw (a b:UInt8) (x y:List UInt8):D (a::x) (b::y)=true↔a.toNat<b.toNat\/(a.toNat=b.toNat/\D x y=true):=by
 simp only [D,Bool.or_eq_true,decide_eq_true_eq,Bool.and_eq_true,beq_iff_eq,UInt8.lt_iff_toNat_lt];constructor
 ·rintro (h|⟨h,k⟩)
  ·exact K h
  ·exact J ⟨by rw [h],k⟩
 ·rintro (h|⟨h,k⟩)
  ·exact K h
  ·exact J ⟨UInt8.toNat_inj.1 h,k⟩
theorem Ht:∀ x y z:List UInt8,D x y=true->D y z=true->D x z=true
 | _,[],_,h,_=>by cases ‹List UInt8› <;> simp [D] at h
 | _,_::_,[],_,k=>by simp [D] at k
 | [],_::_,_::_,_,_=>rfl
 | a::x,b::y,c::z,h,k=>by
  rw [zw] at h k ⊢;rcases h with h|⟨h,h2⟩ <;> rcases k with k|⟨k,k2⟩
  ·exact K (by omega)
  ·exact K (by omega)
  ·exact K (by omega)
  ·exact J ⟨by omega,Ht x y z h2 k2⟩
theorem Hu:∀ x y:List UInt8,D x y=true\/x=y\/D y x=true
 | [],[]=>J (K rfl)
 | [],_::_=>K rfl
 | _::_,[]=>J (J rfl)
 | a::x,b::y=>by
  rw [zw,zw];rcases Nat.lt_trichotomy a.toNat b.toNat with h|h|h
  ·exact K (K h)
  ·rcases Hu x y with k|k|k
   ·exact K (J ⟨h,k⟩)
   ·exact J (K (by rw [k,UInt8.toNat_inj.1 h]))
   ·exact J (J (J ⟨h.symm,k⟩))
  ·exact J (J (K h))
end VaP
namespace Pu
open Go.RowKit
def acU (c:UInt8):Bool:=decide (97<=c.toNat) && decide (c.toNat<=122)
def Hw (s:ByteArray):Bool:=s.data.toList.all acU && (decide (1<=s.size) && decide (s.size<=12))
theorem pG {a b:ByteArray} (h:a.toList=b.toList):a=b:=by
 rw [ByteArray.toList_eq,ByteArray.toList_eq] at h;exact WideShapes.bytes_inj h
theorem Fj {a b:ByteArray} (h:D a.toList b.toList=true):a≠b:=by
 rintro rfl;rw [VaP.Dh] at h; cases h
theorem Yq {a b:ByteArray} (h1:¬ D a.toList b.toList=true) (h2:a≠b):D b.toList a.toList=true:=by
 rcases VaP.Hu a.toList b.toList with h|h|h
 ·exact absurd h h1
 ·exact absurd (pG h) h2
 ·exact h
end Pu
end Go.Proofs.YtkcfgbddlpomgaaGreat
