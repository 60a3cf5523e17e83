/-
  Plain facts on the law RelOne: the values it tries, one by one; predicates of one name. No program's function in it.
-/
import Derived.Test.YtdomincmoaahoaaRlOneP
import Derived.Test.YtdomincmoaahoaaRlMoreQ
namespace Go.Proofs.Ytdomincmoaahoaa.Rl
open Go.RowKit Go.Proofs.Ytdomincmoaahoaa Go.Proofs.Ytdomincmoaahoaa.Pu Go.Proofs.Ytdomincmoaahoaa.Pr Go.Proofs.Ytdomincmoaahoaa.Kp

def allV : List V3 := numsV ++ txtsV
def txC : Array Value := #[.string ⟨#[]⟩, .string ⟨#[120]⟩, .string ⟨#[120, 121]⟩, .string ⟨#[120, 121, 122]⟩, .string ⟨#[120, 122]⟩, .string ⟨#[121]⟩, .string ⟨#[121, 121]⟩, .string ⟨#[121, 121, 121]⟩, .string ⟨#[120, 121, 122, 122]⟩, .string ⟨#[120, 120]⟩, .string ⟨#[121, 120]⟩, .string ⟨#[122]⟩, .string ⟨#[120, 122, 113]⟩]
theorem num_at (k : Nat) (h : k < 25) : allV[k]? = some (false, (k : Int) - 2, ⟨#[]⟩) := by
  unfold allV
  rw [List.getElem?_append_left (by simpa [numsV] using h)]
  unfold numsV
  rw [List.getElem?_map, List.getElem?_range h]
  rfl
theorem txt_at (k : Nat) (h : k < 13) : ∃ s : ByteArray, txC[k]? = some (.string s) ∧ allV[25 + k]? = some (true, 0, s) ∧ s.size ≤ 100 := by
  match k, h with
  | 0, _ => exact ⟨_, rfl, rfl, by decide⟩
  | 1, _ => exact ⟨_, rfl, rfl, by decide⟩
  | 2, _ => exact ⟨_, rfl, rfl, by decide⟩
  | 3, _ => exact ⟨_, rfl, rfl, by decide⟩
  | 4, _ => exact ⟨_, rfl, rfl, by decide⟩
  | 5, _ => exact ⟨_, rfl, rfl, by decide⟩
  | 6, _ => exact ⟨_, rfl, rfl, by decide⟩
  | 7, _ => exact ⟨_, rfl, rfl, by decide⟩
  | 8, _ => exact ⟨_, rfl, rfl, by decide⟩
  | 9, _ => exact ⟨_, rfl, rfl, by decide⟩
  | 10, _ => exact ⟨_, rfl, rfl, by decide⟩
  | 11, _ => exact ⟨_, rfl, rfl, by decide⟩
  | 12, _ => exact ⟨_, rfl, rfl, by decide⟩
theorem all_len : allV.length = 38 := by decide
theorem all_take : allV.take 38 = allV := List.take_of_length_le (by rw [all_len]; exact Nat.le_refl _)
def fM (a b : Kd) (v : V3) : Bool := holdsK a v && holdsK b v
def fC (a b : Kd) (v : V3) : Bool := holdsK a v || !holdsK b v
theorem take_any {α : Type} (f : α → Bool) (l : List α) (k : Nat) (y : α) (h : l[k]? = some y) : (l.take (k + 1)).any f = ((l.take k).any f || f y) := by
  rw [List.take_add_one, h, List.any_append]
  simp
theorem take_all {α : Type} (f : α → Bool) (l : List α) (k : Nat) (y : α) (h : l[k]? = some y) : (l.take (k + 1)).all f = ((l.take k).all f && f y) := by
  rw [List.take_add_one, h, List.all_append]
  simp
theorem meets_one (n : ByteArray) (a b : Kd) : meetsB [(n, a)] [(n, b)] = (bothK a b).isSome := by
  unfold meetsB
  simp only [List.length_singleton, foldC, insC]
  rw [if_neg (by rw [VaP.bl_irrefl]; decide), if_true]
  cases bothK a b <;> rfl
theorem covers_one (n : ByteArray) (a b : Kd) : coversL [(n, a)] [(n, b)] = impliesK b a := by simp [coversL]
theorem match_one (n : ByteArray) (a : Kd) (v : V3) : matchL [(n, a)] [(n, v)] = holdsK a v := by simp [matchL]
theorem match_two (n m : ByteArray) (h : m ≠ n) (a : Kd) (v : V3) : matchL [(n, a)] [(m, v)] = false := by simp [matchL, h]
theorem tried_meets (n : ByteArray) (i j : Int) : meetsB [(n, kdOf i)] [(n, kdOf j)] = allV.any (fM (kdOf i) (kdOf j)) := (meets_one n _ _).trans (one_meets i j).symm
theorem tried_covers (n : ByteArray) (i j : Int) : coversL [(n, kdOf i)] [(n, kdOf j)] = allV.all (fC (kdOf i) (kdOf j)) := (covers_one n _ _).trans (one_covers i j).symm
theorem nl_one (n : ByteArray) (v : V3) (h : n.size ≤ 100) (hs : v.2.2.size ≤ 100) : NL [(n, v)] := ⟨List.pairwise_singleton _ _, by simp, fun x hx => by
  obtain rfl := List.mem_singleton.1 hx
  exact ⟨h, hs⟩⟩
theorem nf_kd (n : ByteArray) (h : nameB n = true) (hs : n.size ≤ 100) (i : Int) : NF [(n, kdOf i)] := ⟨List.pairwise_singleton _ _, by simp, fun x hx => by
  obtain rfl := List.mem_singleton.1 hx
  simp only [goodC, kdOf_good, Bool.and_true]
  exact h, fun x hx => by
  obtain rfl := List.mem_singleton.1 hx
  exact ⟨hs, kd_small i⟩⟩
end Go.Proofs.Ytdomincmoaahoaa.Rl
