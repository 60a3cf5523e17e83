/-
  Rows that rise by an ID: where one stands, is it there. Conditions as told.
-/
import Derived.Test.YtncogjpmboglhaaGreatQ008
import Derived.Test.YtncogjpmboglhaaGreatQ018
set_option maxRecDepth 100000
set_option maxHeartbeats 64000000
namespace Go.Proofs.YtncogjpmboglhaaGreat.Av
open Go.RowKit Go.Sort Rw YtncogjpmboglhaaGreat.Nm Pr Bk
def RiseK {α : Type} (key : α → XID) (l : List α) : Prop := l.Pairwise fun a b => lessI (key a) (key b) = true
def placeK {α : Type} (key : α → XID) (l : List α) (x : XID) : Nat := (l.takeWhile fun a => lessI (key a) x).length
def thereK {α : Type} (key : α → XID) (l : List α) (x : XID) : Bool := match l[placeK key l x]? with
 | some y => decide (key y = x)
 | none => false
theorem placeK_map {α : Type} (key : α → XID) (l : List α) (x : XID) : placeK key l x = placeI (l.map key) x := by
 unfold placeK placeI
 rw [List.takeWhile_map,List.length_map]
 rfl
theorem placeK_is {α : Type} (key : α → XID) (l : List α) (x : XID) (k : Nat) (hall : ∀ (j : Nat) (y : α),j < k → l[j]? = some y → lessI (key y) x = true) (hend : k = l.length ∨ ∃ y,l[k]? = some y ∧ lessI (key y) x = false) : placeK key l x = k := by
 rw [placeK_map]
 refine place_is _ _ k (fun j y hj h => ?_) ?_
 ·rw [List.getElem?_map] at h
  cases hy : l[j]? with
  | none => rw [hy] at h; cases h
  | some z => rw [hy] at h; rw [← Option.some.inj h]; exact hall j z hj hy
 ·rcases hend with h | ⟨y,h1,h2⟩
  ·exact Or.inl (by rw [List.length_map]; exact h)
  ·exact Or.inr ⟨key y,by rw [List.getElem?_map,h1]; rfl,h2⟩
theorem riseK_lt {α : Type} {key : α → XID} {l : List α} (h : RiseK key l) {i j : Nat} {x y : α} (hij : i < j) (hx : l[i]? = some x) (hy : l[j]? = some y) : lessI (key x) (key y) = true := by
 obtain ⟨h1,rfl⟩ := List.getElem?_eq_some_iff.1 hx
 obtain ⟨h2,rfl⟩ := List.getElem?_eq_some_iff.1 hy
 exact List.pairwise_iff_getElem.1 h i j h1 h2 hij
theorem cmpJ_less (x y : XID) : decide (cmpJ x y < 0) = lessI x y := by
 have h := cmpJ_neg x y
 cases hl : lessI x y
 ·rw [hl] at h; simp at h; simpa using h
 ·rw [hl] at h; simp at h; simpa using h
theorem thereK_in {α : Type} {key : α → XID} {l : List α} (h : RiseK key l) (x : XID) : thereK key l x = decide (x ∈ l.map key) := by
 unfold thereK
 have hp : placeK key l x ≤ l.length := by rw [placeK_map]; exact Nat.le_trans (place_le _ _) (by simp)
 have hlo : ∀ (j : Nat) (y : α),j < placeK key l x → l[j]? = some y → lessI (key y) x = true := by
  intro j y hj hy
  have ht : (l.takeWhile fun a => lessI (key a) x)[j]? = some y := by
   have := List.takeWhile_prefix (fun a => lessI (key a) x) (l := l)
   obtain ⟨t,ht⟩ := this
   rw [← ht,List.getElem?_append_left hj] at hy
   exact hy
  exact List.all_eq_true.1 List.all_takeWhile y (List.mem_of_getElem? ht)
 have hhi : ∀ (y : α),l[placeK key l x]? = some y → lessI (key y) x = false := by
  intro y hy
  unfold placeK at hy
  cases hq : lessI (key y) x with
  | false => rfl
  | true =>
   exfalso
   have : ∀ (m : List α),m[(m.takeWhile fun a => lessI (key a) x).length]? = some y → False := by
    intro m
    induction m with
    | nil => intro h; simp at h
    | cons a m ih =>
     intro h
     by_cases ha : lessI (key a) x = true
     ·exact ih (by simpa [List.takeWhile_cons,ha] using h)
     ·simp [ha] at h
      subst h
      exact ha hq
   exact this l hy
 cases hy : l[placeK key l x]? with
 | none =>
  symm
  rw [decide_eq_false_iff_not]
  intro hm
  obtain ⟨z,hz,hzx⟩ := List.mem_map.1 hm
  obtain ⟨j,hj⟩ := List.mem_iff_getElem?.1 hz
  have hjl := (List.getElem?_eq_some_iff.1 hj).1
  have hpl : l.length ≤ placeK key l x := by
   rcases Nat.lt_or_ge (placeK key l x) l.length with h0 | h0
   ·rw [List.getElem?_eq_getElem h0] at hy; cases hy
   ·exact h0
  have := hlo j z (by omega) hj
  rw [hzx,lessI_irr] at this
  cases this
 | some y =>
  simp only
  by_cases hk : key y = x
  ·rw [decide_eq_true hk]
   symm
   rw [decide_eq_true_eq]
   exact List.mem_map.2 ⟨y,List.mem_of_getElem? hy,hk⟩
  ·rw [decide_eq_false hk]
   symm
   rw [decide_eq_false_iff_not]
   intro hm
   obtain ⟨z,hz,hzx⟩ := List.mem_map.1 hm
   obtain ⟨j,hj⟩ := List.mem_iff_getElem?.1 hz
   rcases Nat.lt_trichotomy j (placeK key l x) with h1 | h1 | h1
   ·have := hlo j z h1 hj
    rw [hzx,lessI_irr] at this
    cases this
   ·subst h1
    rw [hy] at hj
    rw [Option.some.inj hj] at hk
    exact hk hzx
   ·have h3 := riseK_lt h h1 hy hj
    have h4 := hhi y hy
    rw [hzx] at h3
    rw [h3] at h4
    cases h4
end Go.Proofs.YtncogjpmboglhaaGreat.Av
