/-
  Within of the statements' own package: a number brought into bounds. Conditions as told.
-/
import Derived.Test.YtncogjpmboglhaaGreatProg
import Derived.WalkKit
import Derived.Lib.Hide
import Derived.WalkLawsBesides
import Derived.IntWalk
import Derived.ChangeSlices
import Derived.ProofKit
import Derived.Below
set_option maxRecDepth 100000
set_option maxHeartbeats 64000000
namespace Go.Proofs.YtncogjpmboglhaaGreat.Wi
open Go.RowKit
def within (n lo hi : Int) : Int := lo + n % (hi - lo + 1)
theorem within_bd (n lo hi : Int) (h : lo ≤ hi) : lo ≤ within n lo hi ∧ within n lo hi ≤ hi := by
 unfold within
 have h1 := Int.emod_nonneg n (show hi - lo + 1 ≠ 0 by omega)
 have h2 := Int.emod_lt_of_pos n (show 0 < hi - lo + 1 by omega)
 omega
theorem within_pos (n lo hi : Int) (h : lo ≤ hi) (hn : ¬ n.tmod (hi - lo + 1) < 0) : lo + n.tmod (hi - lo + 1) = within n lo hi := by
 unfold within
 rw [Int.tmod_eq_emod] at hn ⊢
 split at hn
 ·rename_i h0; rw [if_pos h0]; omega
 ·rename_i h0
  rw [if_neg h0] at *
  have h2 := Int.emod_lt_of_pos n (show 0 < hi - lo + 1 by omega)
  have : ((hi - lo + 1).natAbs : Int) = hi - lo + 1 := by omega
  omega
theorem within_neg (n lo hi : Int) (h : lo ≤ hi) (hn : n.tmod (hi - lo + 1) < 0) : lo + (n.tmod (hi - lo + 1) + hi - lo + 1) = within n lo hi := by
 unfold within
 rw [Int.tmod_eq_emod] at hn ⊢
 split at hn
 ·have h1 := Int.emod_nonneg n (show hi - lo + 1 ≠ 0 by omega)
  omega
 ·rename_i h0
  rw [if_neg h0] at *
  have : ((hi - lo + 1).natAbs : Int) = hi - lo + 1 := by omega
  omega
theorem tmod_bd (n m : Int) (h : 0 < m) : -m < n.tmod m ∧ n.tmod m < m := by
 rw [Int.tmod_eq_emod]
 have h1 := Int.emod_nonneg n (show m ≠ 0 by omega)
 have h2 := Int.emod_lt_of_pos n h
 split <;> omega
theorem ret_int {k : IntKind} {a b : Int} (h : a = b) : Ending.returned (.int k a) = .returned (.int k b) := by rw [h]
theorem within_any (n lo hi : Int) (w : World) (h : lo ≤ hi) (h1 : -1000000 ≤ lo) (h2 : hi ≤ 1000000) (_hn1 : -9223372036854775808 ≤ n) (_hn2 : n ≤ 9223372036854775807) :
  Calls Tryz.prog 10 #[.int .i64 n,.int .i64 lo,.int .i64 hi] w fun e w' => e = .returned (.int .i64 (within n lo hi)) ∧ w = w' := by
 have hm : 0 < hi - lo + 1 := by omega
 have hm2 : hi - lo + 1 ≤ 2000001 := by omega
 have hb := tmod_bd n (hi - lo + 1) hm
 have P := Lib.hid (within_pos n lo hi h)
 have Q := Lib.hid (within_neg n lo hi h)
 go_enter Tryz.func10,Tryz.ntmps10
 go_wp2
 ·go_ret
  exact ⟨ret_int (Q.out (by omega)),rfl⟩
 ·go_ret
  exact ⟨ret_int (P.out (by omega)),rfl⟩
end Go.Proofs.YtncogjpmboglhaaGreat.Wi
namespace Go.Proofs.YtncogjpmboglhaaGreat.Va
open Go.RowKit
abbrev vl (t : Bool) (n : Int) (s : ByteArray) : Value := .agg #[.bool t,.int .i64 n,.string s]
theorem ret_bool {a b : Bool} (h : a = b) : Ending.returned (.bool a) = .returned (.bool b) := by rw [h]
def txts : Array Value := #[.string ⟨#[]⟩,.string ⟨#[120]⟩,.string ⟨#[120,121]⟩,.string ⟨#[120,121,122]⟩,.string ⟨#[120,122]⟩,.string ⟨#[121]⟩,.string ⟨#[121,121]⟩]
def txtAt (r : Int) : ByteArray := [⟨#[]⟩,⟨#[120]⟩,⟨#[120,121]⟩,⟨#[120,121,122]⟩,⟨#[120,122]⟩,⟨#[121]⟩,⟨#[121,121]⟩].getD r.toNat ⟨#[]⟩
theorem txts_at (r : Int) (h0 : 0 ≤ r) (h1 : r ≤ 6) : txts[r.toNat]? = some (.string (txtAt r)) := by
 obtain ⟨n,rfl⟩ := Int.eq_ofNat_of_zero_le h0
 have hn : n ≤ 6 := by omega
 match n,hn with
 | 0,_ => rfl
 | 1,_ => rfl
 | 2,_ => rfl
 | 3,_ => rfl
 | 4,_ => rfl
 | 5,_ => rfl
 | 6,_ => rfl
theorem texts_any (w : World) :
  Calls Tryz.prog 113 #[] w fun e w' => e = .returned (.slice (some ⟨w.heap.size,0,none⟩) 7 7) ∧ w' = w.alloc (.cells txts 9) := by
 go_enter Tryz.func113,Tryz.ntmps113
 go_wp2
 go_ret
 exact ⟨rfl,rfl⟩
theorem txt_size (r : Int) : (txtAt r).size ≤ 3 := by
 unfold txtAt
 rcases Nat.lt_or_ge r.toNat 7 with h | h
 ·generalize r.toNat = n at h
  match n,h with
  | 0,_ => decide
  | 1,_ => decide
  | 2,_ => decide
  | 3,_ => decide
  | 4,_ => decide
  | 5,_ => decide
  | 6,_ => decide
 ·rw [List.getD_eq_getElem?_getD,List.getElem?_eq_none (by simpa using h)]
  decide
end Go.Proofs.YtncogjpmboglhaaGreat.Va
namespace Go.Proofs.YtncogjpmboglhaaGreat.In
open Go.RowKit Go.ChangeShapes Go.WideShapes
structure InInts (W : World) (nv : Value) (zs : List Int) : Prop where
 shape : ∃ ao cap,nv = .slice ao zs.length cap
 at_ : ∀ (i : Nat) (z : Int),zs[i]? = some z → (-9223372036854775808 ≤ z ∧ z ≤ 9223372036854775807) ∧ ∃ p : Addr,p.block < W.heap.size ∧ (∀ w,(Instr.indexAt 25 nv (.int .i64 i)).run Tryz.prog w = .ok (.pointer (some p)) w) ∧ W.cell? p = some (.int .i64 z)
theorem InInts.on {W W' : World} {nv : Value} {zs : List Int} (h : InInts W nv zs) (hb : Below W.heap.size W W') : InInts W' nv zs :=
 ⟨h.shape,fun i z hz => by
  obtain ⟨h1,p,h2,h3,h4⟩ := h.at_ i z hz
  exact ⟨h1,p,Nat.lt_of_lt_of_le h2 hb.size,h3,by rw [hb.cell h2]; exact h4⟩⟩
theorem lits_bd {n : Int} (h : (Lit.int .i64 n).wf = true) : -9223372036854775808 ≤ n ∧ n ≤ 9223372036854775807 := by
 have h2 : (decide (IntKind.i64.min ≤ n) && decide (n ≤ IntKind.i64.max)) = true := h
 rw [Bool.and_eq_true,decide_eq_true_eq,decide_eq_true_eq,show IntKind.i64.min = -9223372036854775808 by decide,show IntKind.i64.max = 9223372036854775807 by decide] at h2
 exact h2
theorem cellsI : Tryz.prog.cellsOf 3 = 1 := by kernel_rfl
theorem index_ints (a : Addr) (m len cap : Nat) (h : m < len) (w : World) : (Instr.indexAt 25 (.slice (some a) len cap) (.int .i64 m)).run Tryz.prog w = .ok (.pointer (some (a.add m))) w := by
 have h1 : (m : Int) < len := by omega
 simp [go_sem,Tryz.underlying25,h1]
theorem in_trod {H : Type} {enc : TypeId × Value → H} {W : World} {sp : Nat → Bool} {held : Bool} {fuel : Nat} {v : Value} {x : DataW H × List MemPlace}
  (hf : DataW.trod enc Tryz.prog W 0 sp held fuel 25 [v] = some x) : ∃ zs,zs.length ≤ maxLen ∧ InInts W v zs := by
 rcases open_ints Tryz.underlying25 Tryz.underlying3 cellsI hf with ⟨h1,_⟩ | ⟨a',len',cap',zs,h1,_,h3,h4,h5,_,h7,h8⟩
 ·have e : v = .slice none 0 0 := by simpa using h1
  rw [e]
  exact ⟨[],Nat.zero_le _,⟨none,0,rfl⟩,fun i z h => by simp at h⟩
 ·have e : v = .slice (some a') len' cap' := by simpa using h1
  rw [e]
  have hle : len' ≤ zs.length := by rw [h5]; split <;> omega
  have hl : (zs.take len').length = len' := by simp; omega
  refine ⟨zs.take len',by omega,⟨some a',cap',by rw [hl]⟩,fun i z hz => ?_⟩
  obtain ⟨hi,hzi⟩ := List.getElem?_eq_some_iff.1 hz
  have hi2 : i < len' := by omega
  have hz2 : zs[i]'(by omega) = z := by simpa using hzi
  have hc := h7 i (by omega)
  have hg : zs.getD i 0 = z := by rw [← hz2]; simp [List.getD,show i < zs.length by omega]
  rw [hg] at hc
  exact ⟨lits_bd (h8 z (by rw [← hz2]; exact List.getElem_mem _)),a'.add i,World.block_lt_of_cell? W _ hc,fun w => index_ints a' i len' cap' hi2 w,hc⟩
end Go.Proofs.YtncogjpmboglhaaGreat.In
namespace Go.Proofs.YtncogjpmboglhaaGreat.Kp
open Go.RowKit Va In
def nm (i : Nat) : ByteArray := ⟨#[UInt8.ofNat (97 + i)]⟩
def nmCells : Array Value := #[.string ⟨#[97]⟩,.string ⟨#[98]⟩,.string ⟨#[99]⟩,.string ⟨#[100]⟩,.string ⟨#[101]⟩,.string ⟨#[102]⟩,.string ⟨#[103]⟩]
theorem nm_at (i : Nat) (h : i < 7) : nmCells[i]? = some (.string (nm i)) := by
 match i,h with
 | 0,_ => rfl
 | 1,_ => rfl
 | 2,_ => rfl
 | 3,_ => rfl
 | 4,_ => rfl
 | 5,_ => rfl
 | 6,_ => rfl
theorem names_any (w : World) : Calls Tryz.prog 68 #[] w fun e w' => e = .returned (.slice (some ⟨w.heap.size,0,none⟩) 7 7) ∧ w' = w.alloc (.cells nmCells 9) := by
 go_enter Tryz.func68,Tryz.ntmps68
 go_wp2
 go_ret
 exact ⟨rfl,rfl⟩
def pickZ (zs : List Int) (i : Nat) : Int := if zs = [] then 0 else zs.getD (i % zs.length) 0
theorem pick_any (nv : Value) (zs : List Int) (i : Nat) (w : World) (hz : InInts w nv zs) (hl : zs.length ≤ maxLen) (hi : i ≤ 100) :
  Calls Tryz.prog 70 #[nv,.int .i64 i] w fun e w' => e = .returned (.int .i64 (pickZ zs i)) ∧ w = w' := by
 obtain ⟨ao,cap,rfl⟩ := hz.shape
 unfold maxLen at hl
 cases zs with
 | nil =>
  go_enter Tryz.func70,Tryz.ntmps70
  go_wp2
  go_ret
  exact ⟨rfl,rfl⟩
 | cons z r =>
  have hm : i % (z :: r).length < (z :: r).length := Nat.mod_lt _ (by simp)
  obtain ⟨y,hy⟩ : ∃ y,(z :: r)[i % (z :: r).length]? = some y := ⟨_,List.getElem?_eq_getElem hm⟩
  obtain ⟨_,p,_,hix,hpc⟩ := hz.at_ _ y hy
  have P := Lib.hid (show pickZ (z :: r) i = y by unfold pickZ; rw [if_neg (by simp),List.getD_eq_getElem?_getD,hy]; rfl)
  have h0 : ((((z :: r).length : Nat) : Int) == 0) = false := by simp; omega
  have hne : (((z :: r).length : Nat) : Int) ≠ 0 := by simp; omega
  have ht : (i : Int) % ((z :: r).length : Nat) = ((i % (z :: r).length : Nat) : Int) := rfl
  have ht2 : (i : Int).tmod ((z :: r).length : Nat) = ((i % (z :: r).length : Nat) : Int) := by
   rw [Int.tmod_eq_emod_of_nonneg (by omega)]; rfl
  have hn0 : 0 < (((z :: r).length : Nat) : Int) := by simp
  generalize (z :: r).length = n at *
  generalize i % n = m at *
  clear hz hy hm
  go_enter Tryz.func70,Tryz.ntmps70
  go_wp2
  go_ret
  exact ⟨Wi.ret_int P.out.symm,rfl⟩
def odd (z : Int) : Bool := bits BinOp.and IntKind.i64 z 1 == 1
theorem pickZ_bd {W : World} {nv : Value} {zs : List Int} (hz : InInts W nv zs) (i : Nat) : -9223372036854775808 ≤ pickZ zs i ∧ pickZ zs i ≤ 9223372036854775807 := by
 unfold pickZ
 split
 ·omega
 ·rename_i h
  have hm : i % zs.length < zs.length := Nat.mod_lt _ (List.length_pos_iff.2 h)
  have := (hz.at_ _ _ (List.getElem?_eq_getElem hm)).1
  rw [List.getD_eq_getElem?_getD,List.getElem?_eq_getElem hm]
  exact this
end Go.Proofs.YtncogjpmboglhaaGreat.Kp
