/-
  A list of numbers that came in, opened. Conditions as told.
-/
import Derived.Test.YtmklifheakemeaaGreatProg
import Derived.WalkKit
import Derived.ChangeSlices
import Derived.ProofKit
import Derived.Lib.Hide
import Derived.Below
import Derived.Test.YtmklifheakemeaaGreatfr007
import Derived.Laws.AppendOwn
import Derived.Laws.OwnMore
import Derived.Deep.Slices
import Derived.Maps.AppendAt
import Derived.Lib.QuietBelow
import Derived.BigQuiet
import Derived.IntWalk
import Derived.Test.YtmklifheakemeaaGreatfr004
import Derived.Lib.Bytealg
set_option maxRecDepth 100000
set_option maxHeartbeats 64000000
namespace Go.Proofs.YtmklifheakemeaaGreat.In
open Go.RowKit Go.ChangeShapes Go.WideShapes
end Go.Proofs.YtmklifheakemeaaGreat.In
namespace Go.Proofs.YtmklifheakemeaaGreat.At
open Go.RowKit Va
end Go.Proofs.YtmklifheakemeaaGreat.At
namespace Go.Proofs.YtmklifheakemeaaGreat.At
open Go.RowKit Va In
end Go.Proofs.YtmklifheakemeaaGreat.At
namespace Go.Proofs.YtmklifheakemeaaGreat.At
open Go.RowKit Go.Sort Va In
end Go.Proofs.YtmklifheakemeaaGreat.At
namespace Go.Proofs.YtmklifheakemeaaGreat.At
open Go.RowKit Go.Sort Va In
def letB (c : UInt8) : Bool := decide (97 ≤ c.toNat) && decide (c.toNat ≤ 122)
def nameB (s : ByteArray) : Bool := s.data.toList.all letB && (decide (1 ≤ s.size) && decide (s.size ≤ 12))
end Go.Proofs.YtmklifheakemeaaGreat.At
namespace Go.Proofs.YtmklifheakemeaaGreat.Nm
end Go.Proofs.YtmklifheakemeaaGreat.Nm
namespace Go.Proofs.YtmklifheakemeaaGreat.Kp
open Go.RowKit Va In
end Go.Proofs.YtmklifheakemeaaGreat.Kp
namespace Go.Proofs.YtmklifheakemeaaGreat.Pr
open Go.RowKit Pu
def cntC : List Cn → ByteArray → Nat
 | [],_ => 0
 | x :: r,n => if Op.bytesLess x.1.toList n.toList = true then cntC r n + 1 else 0
theorem cntC_le : ∀ l n,cntC l n ≤ l.length
 | [],n => Nat.le_refl _
 | x :: r,n => by
  have := cntC_le r n
  simp only [cntC]
  split <;> simp; omega
theorem cntC_is : ∀ (l : List Cn) (n : ByteArray) (k : Nat),k ≤ l.length → (∀ (j : Nat) (y : Cn),j < k → l[j]? = some y → Op.bytesLess y.1.toList n.toList = true) → (∀ y : Cn,l[k]? = some y → Op.bytesLess y.1.toList n.toList = false) → cntC l n = k
 | [],n,k,hk,_,_ => by simp at hk; simp [cntC,hk]
 | x :: r,n,0,_,_,h => by simp [cntC,h x rfl]
 | x :: r,n,k + 1,hk,h1,h2 => by
  simp only [cntC]
  rw [if_pos (h1 0 x (by omega) rfl),cntC_is r n k (by simpa using hk) (fun j y hj hy => h1 (j + 1) y (by omega) (by simpa using hy)) (fun y hy => h2 y (by simpa using hy))]
def thereC (l : List Cn) (n : ByteArray) : Bool := match l[cntC l n]? with
 | some x => decide (x.1 = n)
 | none => false
def putC (m : List Cn) (c : Cn) : Option (List Cn) := match m[cntC m c.1]? with
 | some x => if x.1 = c.1 then (bothK x.2 c.2).map fun k => m.set (cntC m c.1) (x.1,k) else some (m.take (cntC m c.1) ++ c :: m.drop (cntC m c.1))
 | none => some (m.take (cntC m c.1) ++ c :: m.drop (cntC m c.1))
theorem insC_at : ∀ (m : List Cn) (c : Cn),insC m c = putC m c
 | [],c => rfl
 | x :: r,c => by
  unfold putC
  simp only [insC,cntC]
  split
  ·rw [insC_at r c,putC]
   simp only [List.getElem?_cons_succ,List.take_succ_cons,List.drop_succ_cons,List.set_cons_succ]
   cases h : r[cntC r c.1]? with
   | none => simp
   | some y =>
    simp only
    split
    ·simp [Option.map_map,Function.comp_def]
    ·simp
  ·simp
theorem ins_there {m : List Cn} {c : Cn} (h : thereC m c.1 = true) : ∃ x,m[cntC m c.1]? = some x ∧ x.1 = c.1 ∧ insC m c = (bothK x.2 c.2).map fun k => m.set (cntC m c.1) (x.1,k) := by
 rw [insC_at]
 unfold thereC at h
 unfold putC
 cases hx : m[cntC m c.1]? with
 | none => rw [hx] at h; cases h
 | some x =>
  rw [hx] at h
  have e : x.1 = c.1 := by simpa using h
  exact ⟨x,rfl,e,by simp only; rw [if_pos e]⟩
theorem ins_not {m : List Cn} {c : Cn} (h : thereC m c.1 = false) : insC m c = some (m.take (cntC m c.1) ++ c :: m.drop (cntC m c.1)) := by
 rw [insC_at]
 unfold thereC at h
 unfold putC
 cases hx : m[cntC m c.1]? with
 | none => rfl
 | some x =>
  rw [hx] at h
  have e : ¬ x.1 = c.1 := by simpa using h
  simp only
  rw [if_neg e]
theorem cmp_less : ∀ a b : List UInt8,Lib.compareBytes a b < 0 ↔ Op.bytesLess a b = true
 | [],[] => by simp [Lib.compareBytes,Op.bytesLess]
 | [],_ :: _ => by simp [Lib.compareBytes,Op.bytesLess]
 | _ :: _,[] => by simp [Lib.compareBytes,Op.bytesLess]
 | a :: x,b :: y => by
  simp only [Lib.compareBytes,Op.bytesLess]
  by_cases h1 : a < b
  ·rw [if_pos h1]; simp [h1]
  ·rw [if_neg h1]
   by_cases h2 : b < a
   ·have h3 : a ≠ b := by rintro rfl; exact h1 h2
    rw [if_pos h2]; simp [h1,h3]
   ·have h3 : a = b := UInt8.le_antisymm (UInt8.not_lt.1 h2) (UInt8.not_lt.1 h1)
    subst h3
    rw [if_neg h2,cmp_less x y]; simp [h1]
theorem cmp_same : ∀ a b : List UInt8,Lib.compareBytes a b = 0 ↔ a = b
 | [],[] => by simp [Lib.compareBytes]
 | [],_ :: _ => by simp [Lib.compareBytes]
 | _ :: _,[] => by simp [Lib.compareBytes]
 | a :: x,b :: y => by
  simp only [Lib.compareBytes]
  by_cases h1 : a < b
  ·rw [if_pos h1]
   have h3 : a ≠ b := by rintro rfl; exact absurd h1 (UInt8.lt_irrefl _)
   simp [h3]
  ·rw [if_neg h1]
   by_cases h2 : b < a
   ·have h3 : a ≠ b := by rintro rfl; exact h1 h2
    rw [if_pos h2]; simp [h3]
   ·have h3 : a = b := UInt8.le_antisymm (UInt8.not_lt.1 h2) (UInt8.not_lt.1 h1)
    subst h3
    rw [if_neg h2,cmp_same x y]; simp
def cmpC (a b : ByteArray) : Int := Lib.compareBytes a.data.toList b.data.toList
theorem cmpC_less (a b : ByteArray) : decide (cmpC a b < 0) = Op.bytesLess a.toList b.toList := by
 rw [ByteArray.toList_eq,ByteArray.toList_eq,Bool.eq_iff_iff,decide_eq_true_eq]
 exact cmp_less _ _
theorem cmpC_same (a b : ByteArray) : cmpC a b = 0 ↔ a = b := by
 unfold cmpC
 rw [cmp_same]
 exact ⟨bytes_eq,fun h => by rw [h]⟩
theorem rise_down {l : List Cn} (h : RiseC l) {i j : Nat} {x y : Cn} (hij : i ≤ j) (hi : l[i]? = some x) (hj : l[j]? = some y) {n : ByteArray} (hy : Op.bytesLess y.1.toList n.toList = true) : Op.bytesLess x.1.toList n.toList = true := by
 rcases Nat.lt_or_ge i j with h1 | h1
 ·obtain ⟨a1,a2⟩ := List.getElem?_eq_some_iff.1 hi
  obtain ⟨b1,b2⟩ := List.getElem?_eq_some_iff.1 hj
  have h2 := List.pairwise_iff_getElem.1 h i j a1 b1 h1
  rw [a2,b2] at h2
  exact VaP.bl_trans _ _ _ h2 hy
 ·obtain rfl : i = j := by omega
  rw [hi] at hj
  obtain rfl := Option.some.inj hj
  exact hy
end Go.Proofs.YtmklifheakemeaaGreat.Pr
