/-
  Constraint of the statements' own package: a constraint of a number. Conditions as told.
-/
import Derived.Test.YtncogjpmboglhaaGreatG005
import Derived.Test.YtncogjpmboglhaaGreatG006
import Derived.Deep.RegionWith
import Derived.IntWalk
set_option maxRecDepth 100000
set_option maxHeartbeats 64000000
namespace Go.Proofs.YtncogjpmboglhaaGreat.Pr
open Go.RowKit Pu Rw Va Kp
def lo9 (n : Int) : Int := Wi.within (n.tdiv 4) 0 9
def tx6 (n : Int) : ByteArray := txtAt (Wi.within (n.tdiv 4) 0 6)
def kdOf (n : Int) : Kd := if Wi.within n 0 3 = 0 ∨ Wi.within n 0 3 = 1 then .rg (lo9 n) (lo9 n + Wi.within (n.tdiv 40) 0 9) else if Wi.within n 0 3 = 2 then .tx (tx6 n) else .pr (tx6 n)
theorem kdOf_good (n : Int) : goodK (kdOf n) = true := by
 unfold kdOf
 have hw := Wi.within_bd (n.tdiv 40) 0 9 (by omega)
 have ht : (tx6 n).size ≤ 3 := txt_size _
 split
 ·simp only [goodK,decide_eq_true_eq]; omega
 ·split
  ·simp only [goodK,decide_eq_true_eq]; omega
  ·simp only [goodK,decide_eq_true_eq]; omega
theorem tdiv_bd (n k : Int) (hk : 1 ≤ k) (h1 : -9223372036854775808 ≤ n) (h2 : n ≤ 9223372036854775807) : -9223372036854775808 ≤ n.tdiv k ∧ n.tdiv k ≤ 9223372036854775807 := by
 rcases Int.le_total 0 n with h | h
 ·rw [Int.tdiv_eq_ediv_of_nonneg h]
  have a := Int.ediv_nonneg h (show 0 ≤ k by omega)
  have b := Int.ediv_le_self k h
  omega
 ·have e : n.tdiv k = -((-n) / k) := by rw [← Int.tdiv_eq_ediv_of_nonneg (by omega),Int.neg_tdiv,Int.neg_neg]
  have a := Int.ediv_nonneg (show 0 ≤ -n by omega) (show 0 ≤ k by omega)
  have b := Int.ediv_le_self k (show 0 ≤ -n by omega)
  omega
theorem constraint_any (nm_ : ByteArray) (n : Int) (w : World) (h1 : -9223372036854775808 ≤ n) (h2 : n ≤ 9223372036854775807) :
  Calls Tryz.prog 69 #[.string nm_,.int .i64 n] w fun e w' => e = .returned (cv (r5 (nm_,kdOf n))) ∧ Below w.heap.size w w' := by
 have b4 := tdiv_bd n 4 (by decide) h1 h2
 have b40 := tdiv_bd n 40 (by decide) h1 h2
 have q4 : IntKind.i64.wrap (n.tdiv 4) = n.tdiv 4 := IntWalk.i64_in _ b4
 have q40 : IntKind.i64.wrap (n.tdiv 40) = n.tdiv 40 := IntWalk.i64_in _ b40
 have W3 := Lib.hid (fun wx => Wi.within_any n 0 3 wx (by omega) (by omega) (by omega) h1 h2)
 have W9 := Lib.hid (fun wx => Wi.within_any (n.tdiv 4) 0 9 wx (by omega) (by omega) (by omega) b4.1 b4.2)
 have W6 := Lib.hid (fun wx => Wi.within_any (n.tdiv 4) 0 6 wx (by omega) (by omega) (by omega) b4.1 b4.2)
 have V9 := Lib.hid (fun wx => Wi.within_any (n.tdiv 40) 0 9 wx (by omega) (by omega) (by omega) b40.1 b40.2)
 have d3 := Wi.within_bd n 0 3 (by omega)
 have d9 := Wi.within_bd (n.tdiv 4) 0 9 (by omega)
 have d6 := Wi.within_bd (n.tdiv 4) 0 6 (by omega)
 have e9 := Wi.within_bd (n.tdiv 40) 0 9 (by omega)
 have KD : kdOf n = if Wi.within n 0 3 = 0 ∨ Wi.within n 0 3 = 1 then .rg (Wi.within (n.tdiv 4) 0 9) (Wi.within (n.tdiv 4) 0 9 + Wi.within (n.tdiv 40) 0 9) else if Wi.within n 0 3 = 2 then .tx (txtAt (Wi.within (n.tdiv 4) 0 6)) else .pr (txtAt (Wi.within (n.tdiv 4) 0 6)) := rfl
 have TX := Lib.hid (txts_at (Wi.within (n.tdiv 4) 0 6) d6.1 d6.2)
 generalize Wi.within n 0 3 = r at *
 generalize Wi.within (n.tdiv 4) 0 9 = p at *
 generalize Wi.within (n.tdiv 4) 0 6 = q at *
 generalize Wi.within (n.tdiv 40) 0 9 = s at *
 have hs : IntKind.i64.wrap (p + s) = p + s := IntWalk.i64_in _ (by omega)
 have hr : r = 0 ∨ r = 1 ∨ r = 2 ∨ r = 3 := by omega
 have D6 := Lib.hid d6
 clear b4 b40 h1 h2 d3 d9 e9 d6
 rcases hr with rfl | rfl | rfl | rfl
 ·have K := Lib.hid (show kdOf n = .rg p (p + s) by rw [KD]; rfl)
  clear KD
  go_enter Tryz.func69,Tryz.ntmps69
  go_wp2_with fail
  refine (W3.out _).mono ?_
  rintro e1 w1 ⟨rfl,rfl⟩
  go_wp2_with fail
  refine (W9.out _).mono ?_
  rintro e2 w2 ⟨rfl,rfl⟩
  go_wp2_with fail
  go_region_with (go_at_call 10; refine (V9.out _).mono ?_; rintro e w' ⟨rfl,rfl⟩)
  all_goals go_wp2_with fail
  all_goals exact bodyPost_ret (v := cv (r5 (nm_,.rg p (p + s)))) (by simp [results,Tryz.results69,go_sem,r5,kN,kLo,kHi,kT]) rfl ⟨by rw [K.out],(((Below.refl _ _).alloc (Nat.le_refl _) _).alloc (by simp) _).drew⟩
 ·have K := Lib.hid (show kdOf n = .rg p (p + s) by rw [KD]; rfl)
  clear KD
  go_enter Tryz.func69,Tryz.ntmps69
  go_wp2_with fail
  refine (W3.out _).mono ?_
  rintro e1 w1 ⟨rfl,rfl⟩
  go_wp2_with fail
  refine (W9.out _).mono ?_
  rintro e2 w2 ⟨rfl,rfl⟩
  go_wp2_with fail
  go_region_with (go_at_call 10; refine (V9.out _).mono ?_; rintro e w' ⟨rfl,rfl⟩)
  all_goals go_wp2_with fail
  all_goals exact bodyPost_ret (v := cv (r5 (nm_,.rg p (p + s)))) (by simp [results,Tryz.results69,go_sem,r5,kN,kLo,kHi,kT]) rfl ⟨by rw [K.out],(((Below.refl _ _).alloc (Nat.le_refl _) _).alloc (by simp) _).drew⟩
 ·have K := Lib.hid (show kdOf n = .tx (txtAt q) by rw [KD]; rfl)
  have tx := TX.out
  have d6 := D6.out
  have d61 := d6.1
  have d62 : q < 7 := by omega
  clear KD d6
  go_enter Tryz.func69,Tryz.ntmps69
  go_wp2_with fail
  refine (W3.out _).mono ?_
  rintro e1 w1 ⟨rfl,rfl⟩
  go_wp2_with fail
  go_region_with (first | (go_at_call 10; refine (W6.out _).mono ?_; rintro e w' ⟨rfl,rfl⟩) | (go_at_call 113; refine (texts_any _).mono ?_; rintro e w' ⟨rfl,rfl⟩))
  all_goals go_wp2_with fail
  all_goals exact bodyPost_ret (v := cv (r5 (nm_,.tx (txtAt q)))) (by simp [results,Tryz.results69,go_sem,r5,kN,kLo,kHi,kT]) rfl ⟨by rw [K.out],((((Below.refl _ _).alloc (Nat.le_refl _) _).alloc (by simp) _).alloc (by simp; omega) _).drew⟩
 ·have K := Lib.hid (show kdOf n = .pr (txtAt q) by rw [KD]; rfl)
  have tx := TX.out
  have d6 := D6.out
  have d61 := d6.1
  have d62 : q < 7 := by omega
  clear KD d6
  go_enter Tryz.func69,Tryz.ntmps69
  go_wp2_with fail
  refine (W3.out _).mono ?_
  rintro e1 w1 ⟨rfl,rfl⟩
  go_wp2_with fail
  go_region_with (first | (go_at_call 10; refine (W6.out _).mono ?_; rintro e w' ⟨rfl,rfl⟩) | (go_at_call 113; refine (texts_any _).mono ?_; rintro e w' ⟨rfl,rfl⟩))
  all_goals go_wp2_with fail
  all_goals exact bodyPost_ret (v := cv (r5 (nm_,.pr (txtAt q)))) (by simp [results,Tryz.results69,go_sem,r5,kN,kLo,kHi,kT]) rfl ⟨by rw [K.out],((((Below.refl _ _).alloc (Nat.le_refl _) _).alloc (by simp) _).alloc (by simp; omega) _).drew⟩
end Go.Proofs.YtncogjpmboglhaaGreat.Pr
