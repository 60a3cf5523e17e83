/-
  Plain facts on what values say: no program in it. Conditions as told.
-/
import Derived.Lib.ItoaNum
import GoSem.Claim
import Derived.Laws.Strings
set_option maxRecDepth 100000
set_option maxHeartbeats 64000000
namespace Go.Proofs.YtmklifheakemeaaGreat.VaP
/-! ### the order of texts -/
theorem bl_irrefl : ∀ x : List UInt8,Op.bytesLess x x = false
 | [] => rfl
 | a :: x => by simp [Op.bytesLess,bl_irrefl x]
theorem bl_cons (a b : UInt8) (x y : List UInt8) : Op.bytesLess (a :: x) (b :: y) = true ↔ a.toNat < b.toNat ∨ (a.toNat = b.toNat ∧ Op.bytesLess x y = true) := by
 simp only [Op.bytesLess,Bool.or_eq_true,decide_eq_true_eq,Bool.and_eq_true,beq_iff_eq,UInt8.lt_iff_toNat_lt]
 constructor
 ·rintro (h | ⟨h,k⟩)
  ·exact Or.inl h
  ·exact Or.inr ⟨by rw [h],k⟩
 ·rintro (h | ⟨h,k⟩)
  ·exact Or.inl h
  ·exact Or.inr ⟨UInt8.toNat_inj.1 h,k⟩
theorem bl_trans : ∀ x y z : List UInt8,Op.bytesLess x y = true → Op.bytesLess y z = true → Op.bytesLess x z = true
 | _,[],_,h,_ => by cases ‹List UInt8› <;> simp [Op.bytesLess] at h
 | _,_ :: _,[],_,k => by simp [Op.bytesLess] at k
 | [],_ :: _,_ :: _,_,_ => rfl
 | a :: x,b :: y,c :: z,h,k => by
  rw [bl_cons] at h k ⊢
  rcases h with h | ⟨h,h2⟩ <;> rcases k with k | ⟨k,k2⟩
  ·exact Or.inl (by omega)
  ·exact Or.inl (by omega)
  ·exact Or.inl (by omega)
  ·exact Or.inr ⟨by omega,bl_trans x y z h2 k2⟩
theorem bl_total : ∀ x y : List UInt8,Op.bytesLess x y = true ∨ x = y ∨ Op.bytesLess y x = true
 | [],[] => Or.inr (Or.inl rfl)
 | [],_ :: _ => Or.inl rfl
 | _ :: _,[] => Or.inr (Or.inr rfl)
 | a :: x,b :: y => by
  rw [bl_cons,bl_cons]
  rcases Nat.lt_trichotomy a.toNat b.toNat with h | h | h
  ·exact Or.inl (Or.inl h)
  ·rcases bl_total x y with k | k | k
   ·exact Or.inl (Or.inr ⟨h,k⟩)
   ·exact Or.inr (Or.inl (by rw [k,UInt8.toNat_inj.1 h]))
   ·exact Or.inr (Or.inr (Or.inr ⟨h.symm,k⟩))
  ·exact Or.inr (Or.inr (Or.inl h))
end Go.Proofs.YtmklifheakemeaaGreat.VaP
