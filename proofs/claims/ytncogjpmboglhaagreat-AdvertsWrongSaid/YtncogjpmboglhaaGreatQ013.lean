/-
  texts, Value and the document's own RightValue, of the statements' pac. Conditions as told.
-/
import Derived.Test.YtncogjpmboglhaaGreatQ001
import Derived.WalkLawsBesides
import Derived.IntWalk
import Derived.WalkKit
set_option maxRecDepth 100000
set_option maxHeartbeats 64000000
namespace Go.Proofs.YtncogjpmboglhaaGreat.Va
open Go.RowKit
abbrev vl (t : Bool) (n : Int) (s : ByteArray) : Value := .agg #[.bool t,.int .i64 n,.string s]
theorem ret_bool {a b : Bool} (h : a = b) : Ending.returned (.bool a) = .returned (.bool b) := by rw [h]
def txts : Array Value := #[.string ⟨#[]⟩,.string ⟨#[120]⟩,.string ⟨#[120,121]⟩,.string ⟨#[120,121,122]⟩,.string ⟨#[120,122]⟩,.string ⟨#[121]⟩,.string ⟨#[121,121]⟩]
def txtAt (r : Int) : ByteArray := [⟨#[]⟩,⟨#[120]⟩,⟨#[120,121]⟩,⟨#[120,121,122]⟩,⟨#[120,122]⟩,⟨#[121]⟩,⟨#[121,121]⟩].getD r.toNat ⟨#[]⟩
theorem txts_at (r : Int) (h0 : 0 ≤ r) (h1 : r ≤ 6) : txts[r.toNat]? = some (.string (txtAt r)) := by
 obtain ⟨n,rfl⟩ := Int.eq_ofNat_of_zero_le h0
 have hn : n ≤ 6 := by omega
 match n,hn with
 | 0,_ => rfl
 | 1,_ => rfl
 | 2,_ => rfl
 | 3,_ => rfl
 | 4,_ => rfl
 | 5,_ => rfl
 | 6,_ => rfl
theorem texts_any (w : World) :
  Calls Tryz.prog 113 #[] w fun e w' => e = .returned (.slice (some ⟨w.heap.size,0,none⟩) 7 7) ∧ w' = w.alloc (.cells txts 9) := by
 go_enter Tryz.func113,Tryz.ntmps113
 go_wp2
 go_ret
 exact ⟨rfl,rfl⟩
theorem txt_size (r : Int) : (txtAt r).size ≤ 3 := by
 unfold txtAt
 rcases Nat.lt_or_ge r.toNat 7 with h | h
 ·generalize r.toNat = n at h
  match n,h with
  | 0,_ => decide
  | 1,_ => decide
  | 2,_ => decide
  | 3,_ => decide
  | 4,_ => decide
  | 5,_ => decide
  | 6,_ => decide
 ·rw [List.getD_eq_getElem?_getD,List.getElem?_eq_none (by simpa using h)]
  decide
end Go.Proofs.YtncogjpmboglhaaGreat.Va
namespace Go.Proofs.YtncogjpmboglhaaGreat.Kp
open Go.RowKit Va In
def nm (i : Nat) : ByteArray := ⟨#[UInt8.ofNat (97 + i)]⟩
def nmCells : Array Value := #[.string ⟨#[97]⟩,.string ⟨#[98]⟩,.string ⟨#[99]⟩,.string ⟨#[100]⟩,.string ⟨#[101]⟩,.string ⟨#[102]⟩,.string ⟨#[103]⟩]
theorem nm_at (i : Nat) (h : i < 7) : nmCells[i]? = some (.string (nm i)) := by
 match i,h with
 | 0,_ => rfl
 | 1,_ => rfl
 | 2,_ => rfl
 | 3,_ => rfl
 | 4,_ => rfl
 | 5,_ => rfl
 | 6,_ => rfl
theorem names_any (w : World) : Calls Tryz.prog 68 #[] w fun e w' => e = .returned (.slice (some ⟨w.heap.size,0,none⟩) 7 7) ∧ w' = w.alloc (.cells nmCells 9) := by
 go_enter Tryz.func68,Tryz.ntmps68
 go_wp2
 go_ret
 exact ⟨rfl,rfl⟩
def pickZ (zs : List Int) (i : Nat) : Int := if zs = [] then 0 else zs.getD (i % zs.length) 0
theorem pick_any (nv : Value) (zs : List Int) (i : Nat) (w : World) (hz : InInts w nv zs) (hl : zs.length ≤ maxLen) (hi : i ≤ 100) :
  Calls Tryz.prog 70 #[nv,.int .i64 i] w fun e w' => e = .returned (.int .i64 (pickZ zs i)) ∧ w = w' := by
 obtain ⟨ao,cap,rfl⟩ := hz.shape
 unfold maxLen at hl
 cases zs with
 | nil =>
  go_enter Tryz.func70,Tryz.ntmps70
  go_wp2
  go_ret
  exact ⟨rfl,rfl⟩
 | cons z r =>
  have hm : i % (z :: r).length < (z :: r).length := Nat.mod_lt _ (by simp)
  obtain ⟨y,hy⟩ : ∃ y,(z :: r)[i % (z :: r).length]? = some y := ⟨_,List.getElem?_eq_getElem hm⟩
  obtain ⟨_,p,_,hix,hpc⟩ := hz.at_ _ y hy
  have P := Lib.hid (show pickZ (z :: r) i = y by unfold pickZ; rw [if_neg (by simp),List.getD_eq_getElem?_getD,hy]; rfl)
  have h0 : ((((z :: r).length : Nat) : Int) == 0) = false := by simp; omega
  have hne : (((z :: r).length : Nat) : Int) ≠ 0 := by simp; omega
  have ht : (i : Int) % ((z :: r).length : Nat) = ((i % (z :: r).length : Nat) : Int) := rfl
  have ht2 : (i : Int).tmod ((z :: r).length : Nat) = ((i % (z :: r).length : Nat) : Int) := by
   rw [Int.tmod_eq_emod_of_nonneg (by omega)]; rfl
  have hn0 : 0 < (((z :: r).length : Nat) : Int) := by simp
  generalize (z :: r).length = n at *
  generalize i % n = m at *
  clear hz hy hm
  go_enter Tryz.func70,Tryz.ntmps70
  go_wp2
  go_ret
  exact ⟨Wi.ret_int P.out.symm,rfl⟩
def odd (z : Int) : Bool := bits BinOp.and IntKind.i64 z 1 == 1
theorem pickZ_bd {W : World} {nv : Value} {zs : List Int} (hz : InInts W nv zs) (i : Nat) : -9223372036854775808 ≤ pickZ zs i ∧ pickZ zs i ≤ 9223372036854775807 := by
 unfold pickZ
 split
 ·omega
 ·rename_i h
  have hm : i % zs.length < zs.length := Nat.mod_lt _ (List.length_pos_iff.2 h)
  have := (hz.at_ _ _ (List.getElem?_eq_getElem hm)).1
  rw [List.getD_eq_getElem?_getD,List.getElem?_eq_getElem hm]
  exact this
end Go.Proofs.YtncogjpmboglhaaGreat.Kp
