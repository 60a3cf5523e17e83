/-
  Both of package pred, and the two that it calls: the constraint that h. Conditions as told.
-/
import Derived.Test.YtmklifheakemeaaGreatfr009
import Derived.BigRegion
set_option maxRecDepth 100000
set_option maxHeartbeats 64000000
namespace Go.Proofs.YtmklifheakemeaaGreat.Pr
open Go.RowKit Go.Sort Pu Rw Va
theorem vtext_any (s : ByteArray) (w : World) :
  Calls Tryz.prog 197 #[.string s] w fun e w' => e = .returned (vl true 0 s) ∧ Below w.heap.size w w' := by
 go_enter Tryz.func197,Tryz.ntmps197
 go_wp2
 exact bodyPost_ret (v := vl true 0 s) (by simp [results,Tryz.results197,go_sem]) rfl ⟨rfl,(Below.refl _ _).alloc (Nat.le_refl _) _⟩
theorem vtext_re (s : ByteArray) (w : World) (d : Nat) (os : Array Obj) :
  Calls Tryz.prog 197 #[.string s] (grow (redrawn w d) os) fun e w'' => e = .returned (vl true 0 s) ∧ ∃ p : Regrown,w'' = grow (redrawn w p.d) p.os :=
 Calls.regrown_of (vtext_any _ _)
theorem holdsT_re (c : Cn) (s : ByteArray) (r : Bool) (hr : holdsK c.2 (true,0,s) = r) (w : World) (d : Nat) (os : Array Obj) :
  Calls Tryz.prog 196 #[cv (r5 c),vl true 0 s] (grow (redrawn w d) os) fun e w'' => e = .returned (.bool r) ∧ ∃ p : Regrown,w'' = grow (redrawn w p.d) p.os := by
 subst hr
 exact Calls.regrown_of (holds_any _ _ _ _ _)
def insideK : Kd → Kd → Bool
 | .pr s,.pr t => pfx t s
 | .tx s,k => holdsK k (true,0,s)
 | _,_ => false
theorem box2 (w : World) (c d : C5) : Box ((w.alloc (.cells (cells5 c).toArray 70)).alloc (.cells (cells5 d).toArray 70)) w.heap.size (cells5 c).toArray 70 ∧ Box ((w.alloc (.cells (cells5 c).toArray 70)).alloc (.cells (cells5 d).toArray 70)) (w.heap.size + 1) (cells5 d).toArray 70 ∧ Below w.heap.size w ((w.alloc (.cells (cells5 c).toArray 70)).alloc (.cells (cells5 d).toArray 70)) := by
 refine ⟨(box_new w _ _).more _,?_,((Below.refl w.heap.size w).alloc (Nat.le_refl _) _).alloc (by simp) _⟩
 have h := box_new (w.alloc (.cells (cells5 c).toArray 70)) (cells5 d).toArray 70
 rwa [show (w.alloc (.cells (cells5 c).toArray 70)).heap.size = w.heap.size + 1 by simp] at h
theorem inside_tx (na nb : ByteArray) (s : ByteArray) (kb : Kd) (w : World) : Calls Tryz.prog 190 #[cv (r5 (na,.tx s)),cv (r5 (nb,kb))] w fun e w' => e = .returned (.bool (insideK (.tx s) kb)) ∧ Below w.heap.size w w' := by
 obtain ⟨ba,bb,hb⟩ := box2 w (r5 (na,.tx s)) (r5 (nb,kb))
 have BA := Lib.hid ba
 have BB := Lib.hid bb
 have B := Lib.hid hb
 have H := holdsT_re (nb,kb) s _ rfl
 have C := vtext_re s
 have R := Lib.hid (show insideK (.tx s) kb = holdsK kb (true,0,s) from rfl)
 generalize insideK (.tx s) kb = r at *
 simp only [r5] at H ⊢
 clear ba bb hb
 go_enter Tryz.func190,Tryz.ntmps190
 go_wp2
 have HH := Lib.hid H
 have CC := Lib.hid C
 clear H C
 change Code.wp _ _ _ _ ((w.alloc (.cells (cells5 (r5 (na,.tx s))).toArray 70)).alloc (.cells (cells5 (r5 (nb,kb))).toArray 70))
 generalize (w.alloc (.cells (cells5 (r5 (na,.tx s))).toArray 70)).alloc (.cells (cells5 (r5 (nb,kb))).toArray 70) = W at *
 have a4 := cell_regrown (show W.cell? ⟨w.heap.size,4,none⟩ = some (.string s) from BA.out.cell 4)
 have b0 := cell_regrown (show W.cell? ⟨w.heap.size + 1,0,none⟩ = some (.string nb) from BB.out.cell 0)
 have b1 := cell_regrown (show W.cell? ⟨w.heap.size + 1,1,none⟩ = some (.int .i64 (kN kb)) from BB.out.cell 1)
 have b2 := cell_regrown (show W.cell? ⟨w.heap.size + 1,2,none⟩ = some (.int .i64 (kLo kb)) from BB.out.cell 2)
 have b3 := cell_regrown (show W.cell? ⟨w.heap.size + 1,3,none⟩ = some (.int .i64 (kHi kb)) from BB.out.cell 3)
 have b4 := cell_regrown (show W.cell? ⟨w.heap.size + 1,4,none⟩ = some (.string (kT kb)) from BB.out.cell 4)
 refine wp_region_quiet_below (by kernel_rfl) (by kernel_rfl) ?_
 repeat (go_big_quiet_step (first | (with_reducible exact CC.out _ _ _) | (with_reducible exact HH.out _ _ _)))
 refine wpQuiet_nil ?_
 intro _ hw'
 obtain ⟨⟨dq,osq⟩,hw''⟩ := hw'
 subst hw''
 have BZ := Lib.hid (B.out.trans ((below_regrown W dq osq).mono B.out.size))
 clear a4 b0 b1 b2 b3 b4
 go_wp2
 go_ret
 exact ⟨ret_bool R.out.symm,BZ.out⟩
theorem inside_pr (na nb : ByteArray) (s : ByteArray) (t : ByteArray) (w : World) : Calls Tryz.prog 190 #[cv (r5 (na,.pr s)),cv (r5 (nb,.pr t))] w fun e w' => e = .returned (.bool (insideK (.pr s) (.pr t))) ∧ Below w.heap.size w w' := by
 obtain ⟨ba,bb,hb⟩ := box2 w (r5 (na,.pr s)) (r5 (nb,.pr t))
 have BA := Lib.hid ba
 have BB := Lib.hid bb
 have B := Lib.hid hb
 have H := holdsT_re (nb,.pr t) s _ rfl
 have C := vtext_re s
 have R := Lib.hid (show insideK (.pr s) (.pr t) = holdsK (.pr t) (true,0,s) by simp only [insideK,holdsK,Bool.true_and])
 generalize insideK (.pr s) (.pr t) = r at *
 simp only [r5] at H ⊢
 clear ba bb hb
 go_enter Tryz.func190,Tryz.ntmps190
 go_wp2
 have HH := Lib.hid H
 have CC := Lib.hid C
 clear H C
 change Code.wp _ _ _ _ ((w.alloc (.cells (cells5 (r5 (na,.pr s))).toArray 70)).alloc (.cells (cells5 (r5 (nb,.pr t))).toArray 70))
 generalize (w.alloc (.cells (cells5 (r5 (na,.pr s))).toArray 70)).alloc (.cells (cells5 (r5 (nb,.pr t))).toArray 70) = W at *
 have a4 := cell_regrown (show W.cell? ⟨w.heap.size,4,none⟩ = some (.string s) from BA.out.cell 4)
 have b0 := cell_regrown (show W.cell? ⟨w.heap.size + 1,0,none⟩ = some (.string nb) from BB.out.cell 0)
 have b1 := cell_regrown (show W.cell? ⟨w.heap.size + 1,1,none⟩ = some (.int .i64 (kN (.pr t))) from BB.out.cell 1)
 have b2 := cell_regrown (show W.cell? ⟨w.heap.size + 1,2,none⟩ = some (.int .i64 (kLo (.pr t))) from BB.out.cell 2)
 have b3 := cell_regrown (show W.cell? ⟨w.heap.size + 1,3,none⟩ = some (.int .i64 (kHi (.pr t))) from BB.out.cell 3)
 have b4 := cell_regrown (show W.cell? ⟨w.heap.size + 1,4,none⟩ = some (.string (kT (.pr t))) from BB.out.cell 4)
 refine wp_region_quiet_below (by kernel_rfl) (by kernel_rfl) ?_
 repeat (go_big_quiet_step (first | (with_reducible exact CC.out _ _ _) | (with_reducible exact HH.out _ _ _)))
 refine wpQuiet_nil ?_
 intro _ hw'
 obtain ⟨⟨dq,osq⟩,hw''⟩ := hw'
 subst hw''
 have BZ := Lib.hid (B.out.trans ((below_regrown W dq osq).mono B.out.size))
 clear a4 b0 b1 b2 b3 b4
 go_wp2
 go_ret
 exact ⟨ret_bool R.out.symm,BZ.out⟩
theorem inside_no (na nb : ByteArray) (ka kb : Kd) (w : World) (h : (∃ lo hi,ka = .rg lo hi) ∨ (∃ s,ka = .pr s) ∧ ¬ ∃ t,kb = .pr t) : Calls Tryz.prog 190 #[cv (r5 (na,ka)),cv (r5 (nb,kb))] w fun e w' => e = .returned (.bool (insideK ka kb)) ∧ Below w.heap.size w w' := by
 have B := Lib.hid (box2 w (r5 (na,ka)) (r5 (nb,kb))).2.2
 rcases h with ⟨lo,hi,rfl⟩ | ⟨⟨s,rfl⟩,h⟩
 ·have R := Lib.hid (show insideK (.rg lo hi) kb = false from rfl)
  generalize insideK (.rg lo hi) kb = r at *
  simp only [r5]
  go_enter Tryz.func190,Tryz.ntmps190
  go_wp2
  go_ret
  exact ⟨ret_bool R.out.symm,B.out⟩
 ·have R := Lib.hid (show insideK (.pr s) kb = false by
   cases kb with
   | pr t => exact absurd ⟨t,rfl⟩ h
   | _ => rfl)
  have e : ((kN kb) != (3 : Int)) = true := by
   cases kb with
   | pr t => exact absurd ⟨t,rfl⟩ h
   | _ => rfl
  generalize insideK (.pr s) kb = r at *
  clear h
  simp only [r5]
  go_enter Tryz.func190,Tryz.ntmps190
  go_wp2
  go_ret
  exact ⟨ret_bool R.out.symm,B.out⟩
theorem inside_any (a b : Cn) (w : World) : Calls Tryz.prog 190 #[cv (r5 a),cv (r5 b)] w fun e w' => e = .returned (.bool (insideK a.2 b.2)) ∧ Below w.heap.size w w' := by
 obtain ⟨na,ka⟩ := a
 obtain ⟨nb,kb⟩ := b
 cases ka with
 | rg lo hi => exact inside_no na nb _ kb w (Or.inl ⟨lo,hi,rfl⟩)
 | tx s => exact inside_tx na nb s kb w
 | pr s =>
  cases kb with
  | pr t => exact inside_pr na nb s t w
  | rg lo hi => exact inside_no na nb _ _ w (Or.inr ⟨⟨s,rfl⟩,by rintro ⟨t,h⟩; cases h⟩)
  | tx t => exact inside_no na nb _ _ w (Or.inr ⟨⟨s,rfl⟩,by rintro ⟨t',h⟩; cases h⟩)
def BothQ (n : ByteArray) (r : Option Kd) (w : World) (e : Ending) (w' : World) : Prop := (∃ x,e = .returned (.tuple #[cv x,.bool r.isSome]) ∧ ∀ k,r = some k → x = r5 (n,k)) ∧ Below w.heap.size w w'
theorem b3 (w : World) (o p q : Obj) : Below w.heap.size w (((w.alloc o).alloc p).alloc q) := (((Below.refl w.heap.size w).alloc (Nat.le_refl _) _).alloc (by simp) _).alloc (by simp; omega) _
theorem overlap_any (na nb : ByteArray) (a b c d : Int) (w : World) : Calls Tryz.prog 189 #[cv (na,1,a,b,⟨#[]⟩),cv (nb,1,c,d,⟨#[]⟩)] w (BothQ na (bothK (.rg a b) (.rg c d)) w) := by
 have R := Lib.hid (show bothK (.rg a b) (.rg c d) = if max a c ≤ min b d then some (.rg (max a c) (min b d)) else none from rfl)
 generalize bothK (.rg a b) (.rg c d) = r at *
 go_enter Tryz.func189,Tryz.ntmps189
 go_wp2_with fail
 go_region
 have e1 : (if a < c then c else a) = max a c := by split <;> omega
 have e2 : (if d < b then d else b) = min b d := by split <;> omega
 try rw [e1]
 try rw [e2]
 clear e1 e2
 generalize max a c = M at R ⊢
 generalize min b d = N at R ⊢
 by_cases h : M ≤ N
 ·have h1 : ¬ N < M := by omega
  have R2 := Lib.hid (show r = some (.rg M N) by rw [R.out,if_pos h])
  clear h
  go_wp2
  refine bodyPost_ret (v := .tuple #[cv (na,1,M,N,⟨#[]⟩),.bool true]) (by simp [results,Tryz.results189,go_sem]) rfl ?_
  refine ⟨⟨(na,1,M,N,⟨#[]⟩),by rw [R2.out]; rfl,fun k hk => ?_⟩,(b3 w _ _ _).drew⟩
  rw [R2.out] at hk
  rw [← Option.some.inj hk]
  rfl
 ·have h1 : N < M := by omega
  have R2 := Lib.hid (show r = none by rw [R.out,if_neg h])
  clear h
  go_wp2
  refine bodyPost_ret (v := .tuple #[cv (⟨#[]⟩,0,0,0,⟨#[]⟩),.bool false]) (by simp [results,Tryz.results189,go_sem]) rfl ?_
  refine ⟨⟨(⟨#[]⟩,0,0,0,⟨#[]⟩),by rw [R2.out]; rfl,fun k hk => ?_⟩,(b3 w _ _ _).drew⟩
  rw [R2.out] at hk
  cases hk
theorem both_is (a b : Kd) : bothK a b = (match a,b with
 | .rg p q,.rg r t => if max p r ≤ min q t then some (.rg (max p r) (min q t)) else none
 | a,b => if insideK a b then some a else if insideK b a then some b else none) := by
 cases a <;> cases b <;> simp [bothK,insideK,holdsK]
 ·rename_i s t
  by_cases h : s.data = t.data
  ·rw [if_pos h,if_pos h]
  ·rw [if_neg h,if_neg h,if_neg (fun e => h e.symm)]
 ·rename_i s t
  by_cases h1 : pfx s t = true <;> by_cases h2 : pfx t s = true <;> simp [h1,h2]
  have e1 := (pfx_iff _ _).1 h1
  have e2 := (pfx_iff _ _).1 h2
  rw [bytes_eq (e2.eq_of_length_le e1.length_le)]
end Go.Proofs.YtmklifheakemeaaGreat.Pr
