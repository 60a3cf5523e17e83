/-
  Plain facts on what . Conditions as told.
-/
import Derived.Lib.ItoaNum
import GoSem.Claim
import Derived.Laws.Strings
set_option maxRecDepth 100000
set_option maxHeartbeats 64000000
open Go.Op renaming bytesLess->D
open _root_.Or renaming inr->J,inl->K
namespace Go.Proofs.YtkcfgbddlpomgaaGreat.VaP
/-! ### the order of texts -/
theorem Bu:∀ x:List UInt8,D x x=false
 | []=>rfl
 | a::x=>by simp [D,Bu x]
theorem xV (a b:UInt8) (x y:List UInt8):D (a::x) (b::y)=true↔a.toNat<b.toNat\/(a.toNat=b.toNat/\D x y=true):=by
 simp only [D,Bool.or_eq_true,decide_eq_true_eq,Bool.and_eq_true,beq_iff_eq,UInt8.lt_iff_toNat_lt];constructor
 ·rintro (h|⟨h,k⟩)
  ·exact K h
  ·exact J ⟨by rw [h],k⟩
 ·rintro (h|⟨h,k⟩)
  ·exact K h
  ·exact J ⟨UInt8.toNat_inj.1 h,k⟩
theorem FT:∀ x y z:List UInt8,D x y=true->D y z=true->D x z=true
 | _,[],_,h,_=>by cases ‹List UInt8› <;> simp [D] at h
 | _,_::_,[],_,k=>by simp [D] at k
 | [],_::_,_::_,_,_=>rfl
 | a::x,b::y,c::z,h,k=>by
  rw [xV] at h k ⊢;rcases h with h|⟨h,h2⟩ <;> rcases k with k|⟨k,k2⟩
  ·exact K (by omega)
  ·exact K (by omega)
  ·exact K (by omega)
  ·exact J ⟨by omega,FT x y z h2 k2⟩
theorem FU:∀ x y:List UInt8,D x y=true\/x=y\/D y x=true
 | [],[]=>J (K rfl)
 | [],_::_=>K rfl
 | _::_,[]=>J (J rfl)
 | a::x,b::y=>by
  rw [xV,xV];rcases Nat.lt_trichotomy a.toNat b.toNat with h|h|h
  ·exact K (K h)
  ·rcases FU x y with k|k|k
   ·exact K (J ⟨h,k⟩)
   ·exact J (K (by rw [k,UInt8.toNat_inj.1 h]))
   ·exact J (J (J ⟨h.symm,k⟩))
  ·exact J (J (K h))
end Go.Proofs.YtkcfgbddlpomgaaGreat.VaP
