/-
  Same of two lists of attributes, of the statements' own package. Condition: lists far below a machine's length.
  Name and RightTuple of the statements' own package. Condition: lists and texts below a machine's length.
-/
import Derived.Test.YtonoadjmglkhaaaQ031
import Derived.Lib.QuietBelow
import Derived.BigQuiet
namespace Go.Proofs.Ytonoadjmglkhaaa.At
open Go.RowKit Go.Sort Go.Proofs.Ytonoadjmglkhaaa.Va Go.Proofs.Ytonoadjmglkhaaa.In

/-- Are the lists the same? -/
def sameL : List A4 → List A4 → Bool
  | [], [] => true
  | x :: l, y :: m => eqlA x y && sameL l m
  | _, _ => false
theorem sameL_len : ∀ l m, sameL l m = true → l.length = m.length
  | [], [], _ => rfl
  | x :: l, y :: m, h => by
    simp only [sameL, Bool.and_eq_true] at h
    simp [sameL_len l m h.2]
  | [], y :: m, h => by simp [sameL] at h
  | x :: l, [], h => by simp [sameL] at h
theorem sameL_all : ∀ l m, l.length = m.length → (∀ (k : Nat) (x y : A4), l[k]? = some x → m[k]? = some y → eqlA x y = true) → sameL l m = true
  | [], [], _, _ => rfl
  | x :: l, y :: m, hl, h => by
    simp only [sameL, Bool.and_eq_true]
    exact ⟨h 0 x y rfl rfl, sameL_all l m (by simpa using hl) (fun k a b ha hb => h (k + 1) a b (by simpa using ha) (by simpa using hb))⟩
  | [], y :: m, hl, _ => by simp at hl
  | x :: l, [], hl, _ => by simp at hl
theorem sameL_not : ∀ (l m : List A4) (k : Nat) (x y : A4), l[k]? = some x → m[k]? = some y → eqlA x y = false → sameL l m = false
  | [], _, k, x, y, h, _, _ => by simp at h
  | _ :: _, [], k, x, y, _, h, _ => by simp at h
  | a :: l, b :: m, 0, x, y, h1, h2, h3 => by
    simp at h1 h2
    subst h1 h2
    simp [sameL, h3]
  | a :: l, b :: m, k + 1, x, y, h1, h2, h3 => by
    simp only [sameL, sameL_not l m k x y (by simpa using h1) (by simpa using h2) h3, Bool.and_false]
theorem row_addr {W : World} {ao : Option Addr} {n c k : Nat} {l : List A4} {x : A4} (h : RowA W (.slice ao n c) l) (hk : l[k]? = some x) : ∃ a, ao = some a := by
  rcases h with ⟨rfl, _⟩ | ⟨a, cap, h1, _⟩
  · simp at hk
  · exact ⟨a, by simp at h1; exact h1.1⟩
end Go.Proofs.Ytonoadjmglkhaaa.At

namespace Go.Proofs.Ytonoadjmglkhaaa.At
open Go.RowKit Go.Sort Go.Proofs.Ytonoadjmglkhaaa.Va Go.Proofs.Ytonoadjmglkhaaa.In

/-- Is it a small letter? -/
def letB (c : UInt8) : Bool := decide (97 ≤ c.toNat) && decide (c.toNat ≤ 122)
/-- Is it a name? -/
def nameB (s : ByteArray) : Bool := s.data.toList.all letB && (decide (1 ≤ s.size) && decide (s.size ≤ 12))
theorem nameB_not (s : ByteArray) (k : Nat) (h : k < s.size) (hc : letB s[k] = false) : nameB s = false := by
  have : s.data.toList.all letB = false := by
    rw [List.all_eq_false]
    exact ⟨s[k], by rw [Array.mem_toList_iff]; exact Array.getElem_mem h, by rw [hc]; decide⟩
  simp [nameB, this]
theorem nameB_end (s : ByteArray) (h : ∀ (j : Nat) (hj : j < s.size), letB s[j] = true) : nameB s = (decide (1 ≤ s.size) && decide (s.size ≤ 12)) := by
  have : s.data.toList.all letB = true := by
    rw [List.all_eq_true]
    intro c hc
    obtain ⟨j, hj, rfl⟩ := List.getElem_of_mem hc
    exact h j (by rw [Array.length_toList] at hj; exact hj)
  simp [nameB, this]

def pairB (p x : A4) : Bool := Op.bytesLess p.1.toList x.1.toList
/-- Is the attribute at that place right, and behind the one ahead of it? -/
def goodB (l : List A4) (k : Nat) : Bool := match l[k]? with
  | some x => nameB x.1 && rightV x.2.1 x.2.2.1 x.2.2.2 && (k == 0 || (match l[k - 1]? with
    | some p => pairB p x
    | none => true))
  | none => true
/-- May it be published? -/
def rightT (l : List A4) : Bool := (List.range l.length).all (goodB l) && decide (l.length ≤ 5)
theorem rightT_not (l : List A4) (k : Nat) (h : k < l.length) (hg : goodB l k = false) : rightT l = false := by
  have : (List.range l.length).all (goodB l) = false := by
    rw [List.all_eq_false]
    exact ⟨k, List.mem_range.2 h, by rw [hg]; decide⟩
  simp [rightT, this]
theorem rightT_end (l : List A4) (h : ∀ j, j < l.length → goodB l j = true) : rightT l = decide (l.length ≤ 5) := by
  have : (List.range l.length).all (goodB l) = true := by
    rw [List.all_eq_true]
    exact fun j hj => h j (List.mem_range.1 hj)
  simp [rightT, this]
end Go.Proofs.Ytonoadjmglkhaaa.At
