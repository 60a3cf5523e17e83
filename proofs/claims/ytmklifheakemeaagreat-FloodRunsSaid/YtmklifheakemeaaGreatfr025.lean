/-
  Both of package pred: the constraint that holds just where two of one . Conditions as told.
-/
import Derived.Test.YtmklifheakemeaaGreatfr024
set_option maxRecDepth 100000
set_option maxHeartbeats 64000000
namespace Go.Proofs.YtmklifheakemeaaGreat.Pr
open Go.RowKit Go.Sort Pu Rw Va
theorem boxR (w : World) (c d z : C5) : Box (((w.alloc (.cells (cells5 c).toArray 70)).alloc (.cells (cells5 d).toArray 70)).alloc (.cells (cells5 z).toArray 70)) w.heap.size (cells5 c).toArray 70 ∧ Box (((w.alloc (.cells (cells5 c).toArray 70)).alloc (.cells (cells5 d).toArray 70)).alloc (.cells (cells5 z).toArray 70)) (w.heap.size + 1) (cells5 d).toArray 70 ∧ Box (((w.alloc (.cells (cells5 c).toArray 70)).alloc (.cells (cells5 d).toArray 70)).alloc (.cells (cells5 z).toArray 70)) (w.heap.size + 1 + 1) (cells5 z).toArray 70 ∧ Below w.heap.size w (((w.alloc (.cells (cells5 c).toArray 70)).alloc (.cells (cells5 d).toArray 70)).alloc (.cells (cells5 z).toArray 70)) := by
 obtain ⟨h1,h2,h3⟩ := box2 w c d
 refine ⟨h1.more _,h2.more _,?_,h3.alloc h3.size _⟩
 have h := box_new ((w.alloc (.cells (cells5 c).toArray 70)).alloc (.cells (cells5 d).toArray 70)) (cells5 z).toArray 70
 rwa [show ((w.alloc (.cells (cells5 c).toArray 70)).alloc (.cells (cells5 d).toArray 70)).heap.size = w.heap.size + 1 + 1 by simp] at h
theorem box_five {W : World} {b : Nat} {c : C5} (h : Box W b (cells5 c).toArray 70) : W.cell? ⟨b,0,none⟩ = some (.string c.1) ∧ W.cell? ⟨b,1,none⟩ = some (.int .i64 c.2.1) ∧ W.cell? ⟨b,2,none⟩ = some (.int .i64 c.2.2.1) ∧ W.cell? ⟨b,3,none⟩ = some (.int .i64 c.2.2.2.1) ∧ W.cell? ⟨b,4,none⟩ = some (.string c.2.2.2.2) := ⟨h.cell 0,h.cell 1,h.cell 2,h.cell 3,h.cell 4⟩
theorem below_five {B : Nat} {W w : World} (h : Below B W w) (g : Nat) (hB : B ≤ g) (v0 v1 v2 v3 v4 : Value) : Below B W (((((w.setCell ⟨g,0,none⟩ v0).setCell ⟨g,1,none⟩ v1).setCell ⟨g,2,none⟩ v2).setCell ⟨g,3,none⟩ v3).setCell ⟨g,4,none⟩ v4) :=
 ((((h.setCell hB _).setCell hB _).setCell hB _).setCell hB _).setCell hB _
theorem both_rg (na nb : ByteArray) (a b c d : Int) (w : World) : Calls Tryz.prog 181 #[cv (r5 (na,.rg a b)),cv (r5 (nb,.rg c d))] w (BothQ na (bothK (.rg a b) (.rg c d)) w) := by
 obtain ⟨ba,bb,bz,hb⟩ := boxR w (r5 (na,.rg a b)) (r5 (nb,.rg c d)) (⟨#[]⟩,0,0,0,⟨#[]⟩)
 have B := Lib.hid hb
 have BA := Lib.hid ba
 have BB := Lib.hid bb
 have BZ := Lib.hid bz
 have O := Lib.hid (overlap_any na nb a b c d (((w.alloc (.cells (cells5 (r5 (na,.rg a b))).toArray 70)).alloc (.cells (cells5 (r5 (nb,.rg c d))).toArray 70)).alloc (.cells (cells5 (⟨#[]⟩,0,0,0,⟨#[]⟩)).toArray 70)))
 generalize bothK (.rg a b) (.rg c d) = r at *
 clear ba bb bz hb
 simp only [r5,kN,kLo,kHi,kT]
 go_enter Tryz.func181,Tryz.ntmps181
 go_wp2_with fail
 refine O.out.mono ?_
 rintro e W2 ⟨⟨x,rfl,hx⟩,hb2⟩
 have B2 := Lib.hid (B.out.trans (hb2.mono B.out.size))
 have Z2 := Lib.hid (BZ.out.on hb2)
 have X := Lib.hid hx
 obtain ⟨z0,z1,z2,z3,z4⟩ := box_five Z2.out
 have fz := fun k => Z2.out.fr k
 simp only at z0 z1 z2 z3 z4
 clear hx hb2 O B BA BB BZ
 go_wp2
 refine bodyPost_ret (v := .tuple #[cv x,.bool r.isSome]) (by simp [results,Tryz.results181,go_sem,z0,z1,z2,z3,z4]) rfl ?_
 exact ⟨⟨x,rfl,X.out⟩,below_five B2.out (w.heap.size + 1 + 1) (by omega) _ _ _ _ _⟩
theorem both_apart (na nb : ByteArray) (ka kb : Kd) (w : World) (hno : (kN ka = 1 ∧ kN kb ≠ 1) ∨ kN ka ≠ 1) (hn : na = nb) (r : Option Kd) (hr : r = if insideK ka kb then some ka else if insideK kb ka then some kb else none) : Calls Tryz.prog 181 #[cv (r5 (na,ka)),cv (r5 (nb,kb))] w (BothQ na r w) := by
 obtain ⟨ba,bb,bz,hb⟩ := boxR w (r5 (na,ka)) (r5 (nb,kb)) (⟨#[]⟩,0,0,0,⟨#[]⟩)
 have B := Lib.hid hb
 have BA := Lib.hid ba
 have BB := Lib.hid bb
 have BZ := Lib.hid bz
 have I1 := Lib.hid (inside_any (na,ka) (nb,kb) (((w.alloc (.cells (cells5 (r5 (na,ka))).toArray 70)).alloc (.cells (cells5 (r5 (nb,kb))).toArray 70)).alloc (.cells (cells5 (⟨#[]⟩,0,0,0,⟨#[]⟩)).toArray 70)))
 have I2 := Lib.hid (fun W => inside_any (nb,kb) (na,ka) W)
 obtain ⟨i1,e1⟩ : ∃ i,insideK ka kb = i := ⟨_,rfl⟩
 obtain ⟨i2,e2⟩ : ∃ i,insideK kb ka = i := ⟨_,rfl⟩
 simp only [e1] at I1
 simp only [e2] at I2
 rw [e1,e2] at hr
 have HR := Lib.hid hr
 have NE := Lib.hid hn
 obtain ⟨j1,g1⟩ : ∃ j,(kN ka == (1 : Int)) = j := ⟨_,rfl⟩
 have g2 : j1 = true → (kN kb == (1 : Int)) = false := fun e => by
  subst e
  rcases hno with ⟨_,h⟩ | h
  ·exact beq_eq_false_iff_ne.2 h
  ·exact absurd (beq_iff_eq.1 g1) h
 have G2 := Lib.hid g2
 clear ba bb bz hb e1 e2 hn hno g2 hr
 simp only [r5] at I1 I2 ⊢
 cases j1
 all_goals try have g3 := G2.out rfl
 all_goals
  clear G2
  go_enter Tryz.func181,Tryz.ntmps181
  go_wp2_with fail
  refine I1.out.mono ?_
  rintro e W2 ⟨rfl,hb2⟩
  have B2 := Lib.hid (B.out.trans (hb2.mono B.out.size))
  have Z2 := Lib.hid (BZ.out.on hb2)
  have A2 := Lib.hid (BA.out.on hb2)
  have D2 := Lib.hid (BB.out.on hb2)
  obtain ⟨a0,a1,a2,a3,a4⟩ := box_five A2.out
  obtain ⟨d0,d1,d2,d3,d4⟩ := box_five D2.out
  obtain ⟨z0,z1,z2,z3,z4⟩ := box_five Z2.out
  have fz := fun k => Z2.out.fr k
  simp only [r5] at a0 a1 a2 a3 a4 d0 d1 d2 d3 d4
  simp only at z0 z1 z2 z3 z4
  clear hb2 B BA BB BZ I1
  rcases Bool.eq_false_or_eq_true i1 with rfl | rfl
  ·go_wp2
   refine bodyPost_ret (v := .tuple #[cv (r5 (na,ka)),.bool true]) (by simp [results,Tryz.results181,go_sem,z0,z1,z2,z3,z4,r5]) rfl ?_
   exact ⟨⟨r5 (na,ka),by rw [HR.out]; rfl,fun k hk => by rw [HR.out] at hk; rw [← Option.some.inj hk]⟩,below_five B2.out (w.heap.size + 1 + 1) (by omega) _ _ _ _ _⟩
  ·clear a0 a1 a2 a3 a4 d0 d1 d2 d3 d4
   obtain ⟨a0,a1,a2,a3,a4⟩ := box_five A2.out
   obtain ⟨d0,d1,d2,d3,d4⟩ := box_five D2.out
   simp only [r5] at a0 a1 a2 a3 a4 d0 d1 d2 d3 d4
   go_wp2_with fail
   refine (I2.out _).mono ?_
   rintro e W3 ⟨rfl,hb3⟩
   have B3 := Lib.hid (B2.out.trans (hb3.mono B2.out.size))
   have Z3 := Lib.hid (Z2.out.on hb3)
   have D3 := Lib.hid (D2.out.on hb3)
   clear a0 a1 a2 a3 a4 d0 d1 d2 d3 d4 z0 z1 z2 z3 z4 fz
   obtain ⟨d0,d1,d2,d3,d4⟩ := box_five D3.out
   obtain ⟨z0,z1,z2,z3,z4⟩ := box_five Z3.out
   have fz := fun k => Z3.out.fr k
   simp only [r5] at d0 d1 d2 d3 d4
   simp only at z0 z1 z2 z3 z4
   clear hb3 B2 I2 A2 D2 Z2
   rcases Bool.eq_false_or_eq_true i2 with rfl | rfl
   ·go_wp2
    refine bodyPost_ret (v := .tuple #[cv (r5 (nb,kb)),.bool true]) (by simp [results,Tryz.results181,go_sem,z0,z1,z2,z3,z4,r5]) rfl ?_
    exact ⟨⟨r5 (nb,kb),by rw [HR.out]; rfl,fun k hk => by rw [HR.out] at hk; rw [NE.out,← Option.some.inj hk]⟩,below_five B3.out (w.heap.size + 1 + 1) (by omega) _ _ _ _ _⟩
   ·go_wp2
    refine bodyPost_ret (v := .tuple #[cv ((⟨#[]⟩,0,0,0,⟨#[]⟩)),.bool false]) (by simp [results,Tryz.results181,go_sem,z0,z1,z2,z3,z4]) rfl ?_
    exact ⟨⟨(⟨#[]⟩,0,0,0,⟨#[]⟩),by rw [HR.out]; rfl,fun k hk => by rw [HR.out] at hk; cases hk⟩,below_five B3.out (w.heap.size + 1 + 1) (by omega) _ _ _ _ _⟩
theorem both_any (a b : Cn) (w : World) (hn : a.1 = b.1) : Calls Tryz.prog 181 #[cv (r5 a),cv (r5 b)] w (BothQ a.1 (bothK a.2 b.2) w) := by
 obtain ⟨na,ka⟩ := a
 obtain ⟨nb,kb⟩ := b
 cases ka with
 | rg p q =>
  cases kb with
  | rg r t => exact both_rg na nb p q r t w
  | tx t => exact both_apart na nb _ _ w (Or.inl ⟨rfl,by simp [kN]⟩) hn _ (both_is _ _)
  | pr t => exact both_apart na nb _ _ w (Or.inl ⟨rfl,by simp [kN]⟩) hn _ (both_is _ _)
 | tx s => exact both_apart na nb _ _ w (Or.inr (by simp [kN])) hn _ (both_is _ _)
 | pr s => exact both_apart na nb _ _ w (Or.inr (by simp [kN])) hn _ (both_is _ _)
end Go.Proofs.YtmklifheakemeaaGreat.Pr
