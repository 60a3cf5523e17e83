/-
  Both of package pred: the constraint that holds just where two of one . Conditions as told.
-/
import Derived.Test.YtncogjpmboglhaaGreatQ030
import Derived.Test.YtncogjpmboglhaaGreatQ021
import Derived.Test.YtncogjpmboglhaaGreatQ001
import Derived.Deep.RegionWith
import Derived.BigRegion
import Derived.Test.YtncogjpmboglhaaGreatQ019
import Derived.Test.YtncogjpmboglhaaGreatQ015
set_option maxRecDepth 100000
set_option maxHeartbeats 64000000
namespace Go.Proofs.YtncogjpmboglhaaGreat.Pr
open Go.RowKit Go.Sort Pu Rw Va
theorem boxR (w : World) (c d z : C5) : Box (((w.alloc (.cells (cells5 c).toArray 47)).alloc (.cells (cells5 d).toArray 47)).alloc (.cells (cells5 z).toArray 47)) w.heap.size (cells5 c).toArray 47 ∧ Box (((w.alloc (.cells (cells5 c).toArray 47)).alloc (.cells (cells5 d).toArray 47)).alloc (.cells (cells5 z).toArray 47)) (w.heap.size + 1) (cells5 d).toArray 47 ∧ Box (((w.alloc (.cells (cells5 c).toArray 47)).alloc (.cells (cells5 d).toArray 47)).alloc (.cells (cells5 z).toArray 47)) (w.heap.size + 1 + 1) (cells5 z).toArray 47 ∧ Below w.heap.size w (((w.alloc (.cells (cells5 c).toArray 47)).alloc (.cells (cells5 d).toArray 47)).alloc (.cells (cells5 z).toArray 47)) := by
 obtain ⟨h1,h2,h3⟩ := box2 w c d
 refine ⟨h1.more _,h2.more _,?_,h3.alloc h3.size _⟩
 have h := box_new ((w.alloc (.cells (cells5 c).toArray 47)).alloc (.cells (cells5 d).toArray 47)) (cells5 z).toArray 47
 rwa [show ((w.alloc (.cells (cells5 c).toArray 47)).alloc (.cells (cells5 d).toArray 47)).heap.size = w.heap.size + 1 + 1 by simp] at h
theorem box_five {W : World} {b : Nat} {c : C5} (h : Box W b (cells5 c).toArray 47) : W.cell? ⟨b,0,none⟩ = some (.string c.1) ∧ W.cell? ⟨b,1,none⟩ = some (.int .i64 c.2.1) ∧ W.cell? ⟨b,2,none⟩ = some (.int .i64 c.2.2.1) ∧ W.cell? ⟨b,3,none⟩ = some (.int .i64 c.2.2.2.1) ∧ W.cell? ⟨b,4,none⟩ = some (.string c.2.2.2.2) := ⟨h.cell 0,h.cell 1,h.cell 2,h.cell 3,h.cell 4⟩
theorem below_five {B : Nat} {W w : World} (h : Below B W w) (g : Nat) (hB : B ≤ g) (v0 v1 v2 v3 v4 : Value) : Below B W (((((w.setCell ⟨g,0,none⟩ v0).setCell ⟨g,1,none⟩ v1).setCell ⟨g,2,none⟩ v2).setCell ⟨g,3,none⟩ v3).setCell ⟨g,4,none⟩ v4) :=
 ((((h.setCell hB _).setCell hB _).setCell hB _).setCell hB _).setCell hB _
end Go.Proofs.YtncogjpmboglhaaGreat.Pr
namespace Go.Proofs.YtncogjpmboglhaaGreat.Rl
open Go.RowKit Go.Sort Pu Rw Pr Va
theorem rbq_same {n : ByteArray} {r : Option Kd} {b : Bool} {k : Kd} {w w' : World} {e : Ending} (hr : r = if b = true then some k else none) (he : e = .returned (.tuple #[cv (r5 (n,k)),.bool b])) (h : Below w.heap.size w w') : RBQ n r w e w' := by
 subst hr he
 exact rbq_if b k h
theorem pp_ge {s t : ByteArray} (h : t.size ≤ s.size) : bothK (.pr s) (.pr t) = if pfx t s = true then some (.pr s) else none := by
 simp only [bothK]
 by_cases h1 : pfx s t = true
 ·rw [if_pos h1]
  have e1 := (pfx_iff _ _).1 h1
  have e2 : s = t := bytes_eq (e1.eq_of_length_le (by rw [Array.length_toList,Array.length_toList]; exact h))
  subst e2
  rw [if_pos (pfx_self s)]
 ·rw [if_neg h1]
theorem pp_lt {s t : ByteArray} (h : ¬ t.size ≤ s.size) : bothK (.pr s) (.pr t) = if pfx s t = true then some (.pr t) else none := by
 simp only [bothK]
 by_cases h1 : pfx s t = true
 ·rw [if_pos h1,if_pos h1]
 ·have h2 : ¬ pfx t s = true := fun h2 => by
   have := ((pfx_iff _ _).1 h2).length_le
   rw [Array.length_toList,Array.length_toList] at this
   exact h this
  rw [if_neg h1,if_neg h1,if_neg h2]
theorem rboth_tt (n : ByteArray) (s t : ByteArray) (w : World) : Calls Tryz.prog 157 #[cv (r5 (n,(.tx s))),cv (r5 (n,(.tx t)))] w (RBQ n (bothK (.tx s) (.tx t)) w) := by
 obtain ⟨ba,bb,bz,hb⟩ := boxR w (r5 (n,(.tx s))) (r5 (n,(.tx t))) (⟨#[]⟩,0,0,0,⟨#[]⟩)
 have B := Lib.hid hb
 have BA := Lib.hid ba
 have BB := Lib.hid bb
 have BZ := Lib.hid bz
 obtain ⟨q,hq⟩ : ∃ q,holdsK (.tx t) (true,0,s) = q := ⟨_,rfl⟩
 have HR := Lib.hid (show bothK (.tx s) (.tx t) = if q = true then some (.tx s) else none by rw [← hq]; rw [hold_tx]; simp only [bothK,beq_iff_eq])
 have HC := Lib.hid (fun W => rholds_any (n,.tx t) true 0 s W)
 simp only [hq] at HC
 generalize bothK (.tx s) (.tx t) = r at *
 clear ba bb bz hb hq
 simp only [r5,kN,kLo,kHi,kT] at *
 go_enter Tryz.func157,Tryz.ntmps157
 go_wp2_with fail
 go_region_with (go_at_call 158; refine (HC.out _).mono ?_; rintro e w3 ⟨rfl,hb3⟩; have ZB := Lib.hid (BZ.out.drew.on hb3); have AB := Lib.hid (BA.out.drew.on hb3); have DB := Lib.hid (BB.out.drew.on hb3); obtain ⟨z0,z1,z2,z3,z4⟩ := box_five ZB.out; obtain ⟨a0,a1,a2,a3,a4⟩ := box_five AB.out; obtain ⟨d0,d1,d2,d3,d4⟩ := box_five DB.out; have fz := fun k => ZB.out.fr k; simp only at z0 z1 z2 z3 z4 a0 a1 a2 a3 a4 d0 d1 d2 d3 d4)
 all_goals try simp only [Exit.then]
 all_goals try apply_assumption
 all_goals try go_wp2
 all_goals refine bodyPost_ret (v := .tuple #[cv (r5 (n,(.tx s))),.bool q]) (by simp [results,Tryz.results157,go_sem,z0,z1,z2,z3,z4,r5,kN,kLo,kHi,kT]) rfl ?_
 all_goals exact rbq_same HR.out rfl (below_five (B.out.drew.trans (hb3.mono B.out.drew.size)) (w.heap.size + 1 + 1) (by omega) _ _ _ _ _)
theorem rboth_tp (n : ByteArray) (s t : ByteArray) (w : World) : Calls Tryz.prog 157 #[cv (r5 (n,(.tx s))),cv (r5 (n,(.pr t)))] w (RBQ n (bothK (.tx s) (.pr t)) w) := by
 obtain ⟨ba,bb,bz,hb⟩ := boxR w (r5 (n,(.tx s))) (r5 (n,(.pr t))) (⟨#[]⟩,0,0,0,⟨#[]⟩)
 have B := Lib.hid hb
 have BA := Lib.hid ba
 have BB := Lib.hid bb
 have BZ := Lib.hid bz
 obtain ⟨q,hq⟩ : ∃ q,holdsK (.pr t) (true,0,s) = q := ⟨_,rfl⟩
 have HR := Lib.hid (show bothK (.tx s) (.pr t) = if q = true then some (.tx s) else none by rw [← hq]; rw [hold_pr]; rfl)
 have HC := Lib.hid (fun W => rholds_any (n,.pr t) true 0 s W)
 simp only [hq] at HC
 generalize bothK (.tx s) (.pr t) = r at *
 clear ba bb bz hb hq
 simp only [r5,kN,kLo,kHi,kT] at *
 go_enter Tryz.func157,Tryz.ntmps157
 go_wp2_with fail
 go_region_with (go_at_call 158; refine (HC.out _).mono ?_; rintro e w3 ⟨rfl,hb3⟩; have ZB := Lib.hid (BZ.out.drew.on hb3); have AB := Lib.hid (BA.out.drew.on hb3); have DB := Lib.hid (BB.out.drew.on hb3); obtain ⟨z0,z1,z2,z3,z4⟩ := box_five ZB.out; obtain ⟨a0,a1,a2,a3,a4⟩ := box_five AB.out; obtain ⟨d0,d1,d2,d3,d4⟩ := box_five DB.out; have fz := fun k => ZB.out.fr k; simp only at z0 z1 z2 z3 z4 a0 a1 a2 a3 a4 d0 d1 d2 d3 d4)
 all_goals try simp only [Exit.then]
 all_goals try apply_assumption
 all_goals try go_wp2
 all_goals refine bodyPost_ret (v := .tuple #[cv (r5 (n,(.tx s))),.bool q]) (by simp [results,Tryz.results157,go_sem,z0,z1,z2,z3,z4,r5,kN,kLo,kHi,kT]) rfl ?_
 all_goals exact rbq_same HR.out rfl (below_five (B.out.drew.trans (hb3.mono B.out.drew.size)) (w.heap.size + 1 + 1) (by omega) _ _ _ _ _)
theorem rboth_pt (n : ByteArray) (s t : ByteArray) (w : World) : Calls Tryz.prog 157 #[cv (r5 (n,(.pr s))),cv (r5 (n,(.tx t)))] w (RBQ n (bothK (.pr s) (.tx t)) w) := by
 obtain ⟨ba,bb,bz,hb⟩ := boxR w (r5 (n,(.pr s))) (r5 (n,(.tx t))) (⟨#[]⟩,0,0,0,⟨#[]⟩)
 have B := Lib.hid hb
 have BA := Lib.hid ba
 have BB := Lib.hid bb
 have BZ := Lib.hid bz
 obtain ⟨q,hq⟩ : ∃ q,holdsK (.pr s) (true,0,t) = q := ⟨_,rfl⟩
 have HR := Lib.hid (show bothK (.pr s) (.tx t) = if q = true then some (.tx t) else none by rw [← hq]; rw [hold_pr]; rfl)
 have HC := Lib.hid (fun W => rholds_any (n,.pr s) true 0 t W)
 simp only [hq] at HC
 generalize bothK (.pr s) (.tx t) = r at *
 clear ba bb bz hb hq
 simp only [r5,kN,kLo,kHi,kT] at *
 go_enter Tryz.func157,Tryz.ntmps157
 go_wp2_with fail
 go_region_with (go_at_call 158; refine (HC.out _).mono ?_; rintro e w3 ⟨rfl,hb3⟩; have ZB := Lib.hid (BZ.out.drew.on hb3); have AB := Lib.hid (BA.out.drew.on hb3); have DB := Lib.hid (BB.out.drew.on hb3); obtain ⟨z0,z1,z2,z3,z4⟩ := box_five ZB.out; obtain ⟨a0,a1,a2,a3,a4⟩ := box_five AB.out; obtain ⟨d0,d1,d2,d3,d4⟩ := box_five DB.out; have fz := fun k => ZB.out.fr k; simp only at z0 z1 z2 z3 z4 a0 a1 a2 a3 a4 d0 d1 d2 d3 d4)
 all_goals try simp only [Exit.then]
 all_goals try apply_assumption
 all_goals try go_wp2
 all_goals refine bodyPost_ret (v := .tuple #[cv (r5 (n,(.tx t))),.bool q]) (by simp [results,Tryz.results157,go_sem,z0,z1,z2,z3,z4,r5,kN,kLo,kHi,kT]) rfl ?_
 all_goals exact rbq_same HR.out rfl (below_five (B.out.drew.trans (hb3.mono B.out.drew.size)) (w.heap.size + 1 + 1) (by omega) _ _ _ _ _)
theorem rboth_ge (n : ByteArray) (s t : ByteArray) (w : World) (h : t.size ≤ s.size) : Calls Tryz.prog 157 #[cv (r5 (n,(.pr s))),cv (r5 (n,(.pr t)))] w (RBQ n (bothK (.pr s) (.pr t)) w) := by
 obtain ⟨ba,bb,bz,hb⟩ := boxR w (r5 (n,(.pr s))) (r5 (n,(.pr t))) (⟨#[]⟩,0,0,0,⟨#[]⟩)
 have B := Lib.hid hb
 have BA := Lib.hid ba
 have BB := Lib.hid bb
 have BZ := Lib.hid bz
 obtain ⟨q,hq⟩ : ∃ q,pfx t s = q := ⟨_,rfl⟩
 have HR := Lib.hid (show bothK (.pr s) (.pr t) = if q = true then some (.pr s) else none by rw [← hq]; exact pp_ge h)
 have HC := Lib.hid (fun W => (begins_any s t W).mono (fun e w' (h : e = .returned (.bool (pfx t s)) ∧ w' = W) => (show e = .returned (.bool (pfx t s)) ∧ Below W.heap.size W w' from ⟨h.1,h.2 ▸ Below.refl _ _⟩)))
 simp only [hq] at HC
 have e1 : decide ((t.size : Int) ≤ (s.size : Int)) = true := by simp; omega
 have e2 : (t.size : Int) ≤ (s.size : Int) := by omega
 generalize bothK (.pr s) (.pr t) = r at *
 clear ba bb bz hb hq
 simp only [r5,kN,kLo,kHi,kT] at *
 go_enter Tryz.func157,Tryz.ntmps157
 go_wp2_with fail
 go_region_with (go_at_call 151; refine (HC.out _).mono ?_; rintro e w3 ⟨rfl,hb3⟩; have ZB := Lib.hid (BZ.out.drew.on hb3); have AB := Lib.hid (BA.out.drew.on hb3); have DB := Lib.hid (BB.out.drew.on hb3); obtain ⟨z0,z1,z2,z3,z4⟩ := box_five ZB.out; obtain ⟨a0,a1,a2,a3,a4⟩ := box_five AB.out; obtain ⟨d0,d1,d2,d3,d4⟩ := box_five DB.out; have fz := fun k => ZB.out.fr k; simp only at z0 z1 z2 z3 z4 a0 a1 a2 a3 a4 d0 d1 d2 d3 d4)
 all_goals try simp only [Exit.then]
 all_goals try apply_assumption
 all_goals try go_wp2
 all_goals refine bodyPost_ret (v := .tuple #[cv (r5 (n,(.pr s))),.bool q]) (by simp [results,Tryz.results157,go_sem,z0,z1,z2,z3,z4,r5,kN,kLo,kHi,kT]) rfl ?_
 all_goals exact rbq_same HR.out rfl (below_five (B.out.drew.trans (hb3.mono B.out.drew.size)) (w.heap.size + 1 + 1) (by omega) _ _ _ _ _)
theorem rboth_lt (n : ByteArray) (s t : ByteArray) (w : World) (h : ¬ t.size ≤ s.size) : Calls Tryz.prog 157 #[cv (r5 (n,(.pr s))),cv (r5 (n,(.pr t)))] w (RBQ n (bothK (.pr s) (.pr t)) w) := by
 obtain ⟨ba,bb,bz,hb⟩ := boxR w (r5 (n,(.pr s))) (r5 (n,(.pr t))) (⟨#[]⟩,0,0,0,⟨#[]⟩)
 have B := Lib.hid hb
 have BA := Lib.hid ba
 have BB := Lib.hid bb
 have BZ := Lib.hid bz
 obtain ⟨q,hq⟩ : ∃ q,pfx s t = q := ⟨_,rfl⟩
 have HR := Lib.hid (show bothK (.pr s) (.pr t) = if q = true then some (.pr t) else none by rw [← hq]; exact pp_lt h)
 have HC := Lib.hid (fun W => (begins_any t s W).mono (fun e w' (h : e = .returned (.bool (pfx s t)) ∧ w' = W) => (show e = .returned (.bool (pfx s t)) ∧ Below W.heap.size W w' from ⟨h.1,h.2 ▸ Below.refl _ _⟩)))
 simp only [hq] at HC
 have e1 : decide ((t.size : Int) ≤ (s.size : Int)) = false := by simp; omega
 have e2 : ¬ ((t.size : Int) ≤ (s.size : Int)) := by omega
 generalize bothK (.pr s) (.pr t) = r at *
 clear ba bb bz hb hq
 simp only [r5,kN,kLo,kHi,kT] at *
 go_enter Tryz.func157,Tryz.ntmps157
 go_wp2_with fail
 go_region_with (go_at_call 151; refine (HC.out _).mono ?_; rintro e w3 ⟨rfl,hb3⟩; have ZB := Lib.hid (BZ.out.drew.on hb3); have AB := Lib.hid (BA.out.drew.on hb3); have DB := Lib.hid (BB.out.drew.on hb3); obtain ⟨z0,z1,z2,z3,z4⟩ := box_five ZB.out; obtain ⟨a0,a1,a2,a3,a4⟩ := box_five AB.out; obtain ⟨d0,d1,d2,d3,d4⟩ := box_five DB.out; have fz := fun k => ZB.out.fr k; simp only at z0 z1 z2 z3 z4 a0 a1 a2 a3 a4 d0 d1 d2 d3 d4)
 all_goals try simp only [Exit.then]
 all_goals try apply_assumption
 all_goals try go_wp2
 all_goals refine bodyPost_ret (v := .tuple #[cv (r5 (n,(.pr t))),.bool q]) (by simp [results,Tryz.results157,go_sem,z0,z1,z2,z3,z4,r5,kN,kLo,kHi,kT]) rfl ?_
 all_goals exact rbq_same HR.out rfl (below_five (B.out.drew.trans (hb3.mono B.out.drew.size)) (w.heap.size + 1 + 1) (by omega) _ _ _ _ _)
theorem rboth_rr (n : ByteArray) (a b c d : Int) (w : World) : Calls Tryz.prog 157 #[cv (r5 (n,(.rg a b))),cv (r5 (n,(.rg c d)))] w (RBQ n (bothK (.rg a b) (.rg c d)) w) := by
 have R := Lib.hid (show bothK (.rg a b) (.rg c d) = if max a c ≤ min b d then some (.rg (max a c) (min b d)) else none from rfl)
 have B := Lib.hid (boxR w (r5 (n,(.rg a b))) (r5 (n,(.rg c d))) (⟨#[]⟩,0,0,0,⟨#[]⟩)).2.2.2
 generalize bothK (.rg a b) (.rg c d) = r at *
 simp only [r5,kN,kLo,kHi,kT] at *
 go_enter Tryz.func157,Tryz.ntmps157
 go_wp2_with fail
 go_region
 all_goals simp only [Exit.then]
 all_goals apply_assumption
 have e1 : (if a < c then c else a) = max a c := by split <;> omega
 have e2 : (if d < b then d else b) = min b d := by split <;> omega
 try rw [e1]
 try rw [e2]
 clear e1 e2
 generalize max a c = M at R ⊢
 generalize min b d = N at R ⊢
 have HR := Lib.hid (show r = if decide (M ≤ N) = true then some (.rg M N) else none by rw [R.out]; simp)
 clear R
 go_wp2_with fail
 go_region
 all_goals try simp only [Exit.then]
 all_goals try apply_assumption
 all_goals try go_wp2
 all_goals refine bodyPost_ret (v := .tuple #[cv (r5 (n,(.rg M N))),.bool (decide (M ≤ N))]) (by simp [results,Tryz.results157,go_sem,r5,kN,kLo,kHi,kT]) rfl ?_
 all_goals refine rbq_same HR.out rfl ?_
 all_goals first
  | exact (b3 w _ _ _).drew.drew
  | exact (b3 w _ _ _).drew
  | exact (b3 w _ _ _)
theorem rboth_any (n : ByteArray) (a b : Kd) (w : World) : Calls Tryz.prog 157 #[cv (r5 (n,a)),cv (r5 (n,b))] w (RBQ n (bothK a b) w) := by
 cases a with
 | rg p q => cases b with
  | rg r s => exact rboth_rr n p q r s w
  | tx t => exact rboth_rt n p q t w
  | pr t => exact rboth_rp n p q t w
 | tx s => cases b with
  | rg r q => exact rboth_tr n s r q w
  | tx t => exact rboth_tt n s t w
  | pr t => exact rboth_tp n s t w
 | pr s => cases b with
  | rg r q => exact rboth_pr n s r q w
  | tx t => exact rboth_pt n s t w
  | pr t =>
   by_cases h : t.size ≤ s.size
   ·exact rboth_ge n s t w h
   ·exact rboth_lt n s t w h
end Go.Proofs.YtncogjpmboglhaaGreat.Rl
namespace Go.Proofs.YtncogjpmboglhaaGreat.Pr
open Go.RowKit Go.Sort Pu Rw Va
theorem flat5_set : ∀ (l : List C5) (k : Nat) (x : C5),k < l.length → flat EC (l.set k x) = ((((( flat EC l).set (k * 5) (.string x.1)).set (k * 5 + 1) (.int .i64 x.2.1)).set (k * 5 + 2) (.int .i64 x.2.2.1)).set (k * 5 + 3) (.int .i64 x.2.2.2.1)).set (k * 5 + 4) (.string x.2.2.2.2)
 | [],k,x,h => by simp at h
 | y :: r,0,x,_ => by simp [flat,EC,cells5]
 | y :: r,k + 1,x,h => by
  have h2 := flat5_set r k x (by simpa using h)
  have e : ∀ j u (zs : List Value),(cells5 y ++ zs).set (5 + j) u = cells5 y ++ zs.set j u := fun j u zs => by simp [cells5,Nat.add_comm 5 j]
  simp only [List.set_cons_succ,flat,h2]
  show cells5 y ++ _ = _
  rw [show (k + 1) * 5 = 5 + k * 5 by omega,show 5 + k * 5 + 1 = 5 + (k * 5 + 1) by omega,show 5 + k * 5 + 2 = 5 + (k * 5 + 2) by omega,show 5 + k * 5 + 3 = 5 + (k * 5 + 3) by omega,show 5 + k * 5 + 4 = 5 + (k * 5 + 4) by omega]
  show _ = ((((( cells5 y ++ flat EC r).set _ _).set _ _).set _ _).set _ _).set _ _
  rw [e,e,e,e,e]
theorem own_store {W : World} {B g n cap k : Nat} {l : List C5} {x : C5} (h : OwnC W B (.slice (some ⟨g,0,none⟩) n cap) l) (hn : n = l.length) (hk : k < n) :
  OwnC (((((W.setCell ⟨g,k * 5,none⟩ (.string x.1)).setCell ⟨g,k * 5 + 1,none⟩ (.int .i64 x.2.1)).setCell ⟨g,k * 5 + 2,none⟩ (.int .i64 x.2.2.1)).setCell ⟨g,k * 5 + 3,none⟩ (.int .i64 x.2.2.2.1)).setCell ⟨g,k * 5 + 4,none⟩ (.string x.2.2.2.2)) B (.slice (some ⟨g,0,none⟩) n cap) (l.set k x) := by
 subst hn
 have o1 := (World.ownsRow.stored h (k * 5) (.string x.1)).1
 have o2 := (World.ownsRow.stored o1 (k * 5 + 1) (.int .i64 x.2.1)).1
 have o3 := (World.ownsRow.stored o2 (k * 5 + 2) (.int .i64 x.2.2.1)).1
 have o4 := (World.ownsRow.stored o3 (k * 5 + 3) (.int .i64 x.2.2.2.1)).1
 have o5 := (World.ownsRow.stored o4 (k * 5 + 4) (.string x.2.2.2.2)).1
 rw [← flat5_set l k x hk] at o5
 show World.ownsRow _ _ _ _ _ (l.set k x).length _
 rw [List.length_set]
 exact o5
theorem below_fiveAt {B : Nat} {W w : World} (h : Below B W w) (g : Nat) (hB : B ≤ g) (o : Nat) (v0 v1 v2 v3 v4 : Value) : Below B W (((((w.setCell ⟨g,o,none⟩ v0).setCell ⟨g,o + 1,none⟩ v1).setCell ⟨g,o + 2,none⟩ v2).setCell ⟨g,o + 3,none⟩ v3).setCell ⟨g,o + 4,none⟩ v4) :=
 ((((h.setCell hB _).setCell hB _).setCell hB _).setCell hB _).setCell hB _
theorem box_store {W : World} {b : Nat} {z : C5} (h : Box W b (cells5 z).toArray 47) (x : C5) : Box (((((W.setCell ⟨b,0,none⟩ (.string x.1)).setCell ⟨b,1,none⟩ (.int .i64 x.2.1)).setCell ⟨b,2,none⟩ (.int .i64 x.2.2.1)).setCell ⟨b,3,none⟩ (.int .i64 x.2.2.2.1)).setCell ⟨b,4,none⟩ (.string x.2.2.2.2)) b (cells5 x).toArray 47 := by
 have h1 := heap_setCell_same W b 0 _ 47 (.string x.1) h
 have h2 := heap_setCell_same _ b 1 _ 47 (.int .i64 x.2.1) h1
 have h3 := heap_setCell_same _ b 2 _ 47 (.int .i64 x.2.2.1) h2
 have h4 := heap_setCell_same _ b 3 _ 47 (.int .i64 x.2.2.2.1) h3
 have h5 := heap_setCell_same _ b 4 _ 47 (.string x.2.2.2.2) h4
 unfold Box
 rw [h5]
 simp [cells5]
end Go.Proofs.YtncogjpmboglhaaGreat.Pr
