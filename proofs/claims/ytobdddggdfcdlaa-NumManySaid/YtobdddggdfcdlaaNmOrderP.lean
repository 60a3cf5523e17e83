/-
  Eight bytes in the order of their numbers. Plain mathematics: no program in it. No condition beyond what each theorem states.
-/
import Derived.Test.YtobdddggdfcdlaaNmPure
namespace Go.Proofs.Ytobdddggdfcdlaa.Nm

theorem hor_from : ∀ (l : List UInt8) (h : Int), l.foldl (fun h b => h * 256 + (b.toNat : Int)) h = h * 256 ^ l.length + hor l
  | [], h => by simp [hor]
  | x :: r, h => by
    have h1 := hor_from r (h * 256 + (x.toNat : Int))
    have h2 := hor_from r (0 * 256 + (x.toNat : Int))
    unfold hor
    rw [List.foldl_cons, List.foldl_cons, h1, h2, List.length_cons, Int.pow_succ', Int.add_mul, Int.zero_mul, Int.zero_add, Int.mul_assoc]
    omega
theorem hor_bd : ∀ l : List UInt8, 0 ≤ hor l ∧ hor l < 256 ^ l.length
  | [] => by decide
  | x :: r => by
    have h1 := hor_bd r
    have h2 := hor_from r (0 * 256 + (x.toNat : Int))
    have e : hor (x :: r) = (x.toNat : Int) * 256 ^ r.length + hor r := by
      unfold hor at h2 ⊢
      rw [List.foldl_cons, h2]
      simp
    have h3 : (256 : Int) ^ (x :: r).length = 256 * 256 ^ r.length := by rw [List.length_cons, Int.pow_succ', Int.mul_comm]
    have h4 := x.toNat_lt
    have h5 : (0 : Int) < 256 ^ r.length := Int.pow_pos (by decide)
    rw [e, h3]
    have h6 : (x.toNat : Int) * 256 ^ r.length ≤ 255 * 256 ^ r.length := Int.mul_le_mul_of_nonneg_right (by omega) (by omega)
    have h7 : 0 ≤ (x.toNat : Int) * 256 ^ r.length := Int.mul_nonneg (by omega) (by omega)
    omega
theorem hor_mid (p : List UInt8) (x : UInt8) (r : List UInt8) : hor (p ++ x :: r) = (hor p * 256 + (x.toNat : Int)) * 256 ^ r.length + hor r := by
  rw [← hor_from]
  unfold hor
  rw [List.foldl_append, List.foldl_cons]
theorem hor_less (p r s : List UInt8) (x y : UInt8) (hl : r.length = s.length) (h : x.toNat < y.toNat) : hor (p ++ x :: r) < hor (p ++ y :: s) := by
  rw [hor_mid, hor_mid, hl]
  have h1 := hor_bd r
  have h2 := hor_bd s
  rw [hl] at h1
  have h5 : (0 : Int) < 256 ^ s.length := Int.pow_pos (by decide)
  have h6 : (hor p * 256 + (x.toNat : Int) + 1) * 256 ^ s.length ≤ (hor p * 256 + (y.toNat : Int)) * 256 ^ s.length := Int.mul_le_mul_of_nonneg_right (by omega) (by omega)
  rw [Int.add_mul, Int.one_mul] at h6
  omega
/-- The first byte in which two numbers part tells which one is less, where both have the same sign. -/
theorem first_byte {n m : Int} {k : Nat} {x y : UInt8} (hn1 : -9223372036854775808 ≤ n) (hn2 : n ≤ 9223372036854775807) (hm1 : -9223372036854775808 ≤ m) (hm2 : m ≤ 9223372036854775807)
    (ht : (numB n).take k = (numB m).take k) (hx : (numB n)[k]? = some x) (hy : (numB m)[k]? = some y) (hne : x ≠ y) (hs : decide (n < 0) = decide (m < 0)) : decide (x.toNat < y.toNat) = decide (n < m) := by
  have hk : k < 8 := by have := (List.getElem?_eq_some_iff.1 hx).1; simpa [numB_len] using this
  have split : ∀ (l : List UInt8) (z : UInt8), l[k]? = some z → l = l.take k ++ z :: l.drop (k + 1) := fun l z hz => by
    obtain ⟨h1, h2⟩ := List.getElem?_eq_some_iff.1 hz
    conv => lhs; rw [← List.take_append_drop k l]
    rw [List.drop_eq_getElem_cons h1, h2]
  have e1 := split _ _ hx
  have e2 := split _ _ hy
  have hl : ((numB n).drop (k + 1)).length = ((numB m).drop (k + 1)).length := by simp [numB_len]
  have hn := hor_num n
  have hm := hor_num m
  have hne' : x.toNat ≠ y.toNat := fun e => hne (UInt8.toNat_inj.1 e)
  have key : x.toNat < y.toNat ↔ n % 18446744073709551616 < m % 18446744073709551616 := by
    rw [← hn, ← hm]
    constructor
    · intro h
      have := hor_less ((numB m).take k) _ _ x y hl h
      rw [e1, e2, ht]
      exact this
    · intro h
      rcases Nat.lt_or_ge x.toNat y.toNat with h1 | h1
      · exact h1
      · exfalso
        have := hor_less ((numB m).take k) _ _ y x hl.symm (by omega)
        rw [e1, e2, ht] at h
        omega
  have hs2 : n < 0 ↔ m < 0 := by simpa using hs
  rw [decide_eq_decide, key]
  omega
theorem top_bit {n : Int} (h1 : -9223372036854775808 ≤ n) (h2 : n ≤ 9223372036854775807) : decide (128 ≤ ((byteOf n 0).toNat : Int)) = decide (n < 0) := by
  rw [byteOf_nat, decide_eq_decide]
  simp only [Nat.mul_zero, Nat.sub_zero, Int.reducePow]
  omega
theorem same_num {n m : Int} (hn1 : -9223372036854775808 ≤ n) (hn2 : n ≤ 9223372036854775807) (hm1 : -9223372036854775808 ≤ m) (hm2 : m ≤ 9223372036854775807) : decide (numB n = numB m) = decide (n = m) := by
  rw [decide_eq_decide]
  exact ⟨numB_inj hn1 hn2 hm1 hm2, fun h => by rw [h]⟩
end Go.Proofs.Ytobdddggdfcdlaa.Nm
