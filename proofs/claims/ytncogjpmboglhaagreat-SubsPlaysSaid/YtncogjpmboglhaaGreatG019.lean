/-
  Plain facts on one constraint held against another by both of them, on. Conditions as told.
-/
import Derived.Test.YtncogjpmboglhaaGreatG007
import Derived.Test.YtncogjpmboglhaaGreatG018
set_option maxRecDepth 100000
set_option maxHeartbeats 64000000
namespace Go.Proofs.YtncogjpmboglhaaGreat.Rl
open Go.RowKit Pu Pr
def ofC (p : List Cn) (n : ByteArray) : Option Cn := p.find? fun c => decide (c.1 = n)
theorem of_mem {p : List Cn} {n : ByteArray} {y : Cn} (h : ofC p n = some y) : y ∈ p ∧ y.1 = n := ⟨List.mem_of_find?_eq_some h,by simpa using List.find?_some h⟩
theorem of_at {p : List Cn} {n : ByteArray} {k : Nat} {y : Cn} (hk : p[k]? = some y) (he : y.1 = n) (hn : ∀ (j : Nat) (z : Cn),j < k → p[j]? = some z → z.1 ≠ n) : ofC p n = some y := by
 unfold ofC
 rw [List.find?_eq_some_iff_getElem]
 obtain ⟨hlt,hy⟩ := List.getElem?_eq_some_iff.1 hk
 refine ⟨by simpa using he,k,hlt,hy,fun j hj => ?_⟩
 have := hn j p[j] hj (List.getElem?_eq_getElem (by omega))
 simpa using this
theorem of_none {p : List Cn} {n : ByteArray} (hn : ∀ (j : Nat) (z : Cn),j < p.length → p[j]? = some z → z.1 ≠ n) : ofC p n = none := by
 unfold ofC
 rw [List.find?_eq_none]
 intro x hx
 obtain ⟨j,hj,e⟩ := List.getElem_of_mem hx
 have := hn j x hj (by rw [List.getElem?_eq_getElem hj,e])
 simpa using this
def covO (b : List Cn) (x : Cn) : Bool := match ofC b x.1 with
 | some y => impliesK y.2 x.2
 | none => false
theorem covers_of {a b : List Cn} (hb : RiseC b) : coversL a b = a.all (covO b) := by
 unfold coversL
 congr 1
 funext x
 unfold covO
 cases hf : ofC b x.1 with
 | none =>
  rw [List.any_eq_false]
  intro y hy
  have := List.find?_eq_none.1 hf y hy
  simp only [decide_eq_true_eq] at this
  simp [this]
 | some y =>
  obtain ⟨h1,h2⟩ := of_mem hf
  rw [Bool.eq_iff_iff,List.any_eq_true]
  constructor
  ·rintro ⟨z,hz,h3⟩
   simp only [Bool.and_eq_true,decide_eq_true_eq] at h3
   rw [uniqC hb h1 hz (h2.trans h3.1.symm)]
   exact h3.2
  ·intro h3
   exact ⟨y,h1,by simp [h2,h3]⟩
theorem wider_some {n : ByteArray} {c d k : Kd} (hc : goodK c = true) (hd : goodK d = true) (h : bothK c d = some k) : eqlC (r5 (n,k)) (r5 (n,d)) = impliesK d c := by
 obtain ⟨k1,k2⟩ := both_some c d k hc hd h
 rw [Bool.eq_iff_iff,eqlC_iff]
 constructor
 ·intro e
  have e2 := r5_inj e
  obtain rfl : k = d := congrArg Prod.snd e2
  exact holds_implies k c hd fun v hv => by rw [k2,Bool.and_eq_true] at hv; exact hv.1
 ·intro hi
  have : k = d := same_holds k d k1 hd fun v => by
   rw [k2,Bool.eq_iff_iff,Bool.and_eq_true]
   exact ⟨fun h => h.2,fun h => ⟨implies_holds d c hi v h,h⟩⟩
  rw [this]
theorem wider_none {c d : Kd} (hd : goodK d = true) (h : bothK c d = none) : impliesK d c = false := by
 rw [Bool.eq_false_iff]
 intro hi
 obtain ⟨v,hv⟩ := some_holds d hd
 have := both_none c d h v
 rw [hv,implies_holds d c hi v hv] at this
 cases this
/-! ### samples -/
/-! ### both together -/
end Go.Proofs.YtncogjpmboglhaaGreat.Rl
