/-
  The order of IDs: cmp.Compare, cmp.Or, byID and what stands on it. Conditions as told.
-/
import Derived.Test.YtmklifheakemeaaGreatfr006
import Derived.Test.YtmklifheakemeaaGreatfr001
import Derived.Deep.RegionLaw
import Derived.Lib.QuietBelow
import Derived.BigQuiet
set_option maxRecDepth 100000
set_option maxHeartbeats 64000000
namespace Go.Proofs.YtmklifheakemeaaGreat.Av
open Go.RowKit Go.Sort Rw YtmklifheakemeaaGreat.Nm Pr Bk
def cmpI (a b : Int) : Int := if a < b then -1 else if b < a then 1 else 0
def orI (a b : Int) : Int := if a = 0 then b else a
theorem isNaN_any (a : Int) (w : World) : Calls Tryz.prog 111 #[.int .i64 a] w fun e w' => e = .returned (.bool false) ∧ w' = w := by
 go_enter Tryz.func111,Tryz.ntmps111
 go_wp2
 go_ret
 exact ⟨by simp,rfl⟩
theorem compare_any (a b : Int) (w : World) : Calls Tryz.prog 54 #[.int .i64 a,.int .i64 b] w fun e w' => e = .returned (.int .i64 (cmpI a b)) ∧ w' = w := by
 have R1 := Lib.hid (show a < b → cmpI a b = -1 from fun h => by unfold cmpI; rw [if_pos h])
 have R2 := Lib.hid (show ¬ a < b → b < a → cmpI a b = 1 from fun h h2 => by unfold cmpI; rw [if_neg h,if_pos h2])
 have R3 := Lib.hid (show ¬ a < b → ¬ b < a → cmpI a b = 0 from fun h h2 => by unfold cmpI; rw [if_neg h,if_neg h2])
 generalize cmpI a b = r at *
 go_enter Tryz.func54,Tryz.ntmps54
 by_cases h1 : a < b
 ·have E := R1.out h1
  clear R1 R2 R3
  subst E
  go_wp2_with (go_at_call 111; refine (isNaN_any _ _).mono ?_; rintro e w' ⟨rfl,rfl⟩)
  go_ret
  exact ⟨rfl,rfl⟩
 ·by_cases h2 : b < a
  ·have E := R2.out h1 h2
   clear R1 R2 R3
   subst E
   go_wp2_with (go_at_call 111; refine (isNaN_any _ _).mono ?_; rintro e w' ⟨rfl,rfl⟩)
   go_ret
   exact ⟨rfl,rfl⟩
  ·have E := R3.out h1 h2
   clear R1 R2 R3
   subst E
   go_wp2_with (go_at_call 111; refine (isNaN_any _ _).mono ?_; rintro e w' ⟨rfl,rfl⟩)
   go_ret
   exact ⟨rfl,rfl⟩
theorem or_any (g : Nat) (cap : Nat) (a b : Int) (w : World) (p0 : w.cell? ⟨g,0,none⟩ = some (.int .i64 a)) (q0 : w.cell? ⟨g,1,none⟩ = some (.int .i64 b)) : Calls Tryz.prog 112 #[.slice (some ⟨g,0,none⟩) 2 cap] w fun e w' => e = .returned (.int .i64 (orI a b)) ∧ w' = w := by
 have R1 := Lib.hid (show a ≠ 0 → orI a b = a from fun h => by unfold orI; rw [if_neg h])
 have R2 := Lib.hid (show a = 0 → orI a b = b from fun h => by unfold orI; rw [if_pos h])
 generalize orI a b = r at *
 go_enter Tryz.func112,Tryz.ntmps112
 go_wp2
 go_loopw [8] (fun i wr => ∃ k : Nat,k ≤ 2 ∧ i = .int .i64 k ∧ RowKit.Hid (wr = w) ∧ (0 < k → a = 0) ∧ (1 < k → b = 0)) (fun i _ => 2 - (intOf i).toNat)
 case atStart => exact ⟨0,by omega,rfl,by first | exact Lib.hid rfl | exact Lib.hid trivial,fun h => by omega,fun h => by omega⟩
 case round =>
  obtain ⟨k,hk,rfl,hw,ha,hb⟩ := hrel
  obtain rfl := hw.out
  clear hw
  by_cases hlt : k < 2
  ·obtain ⟨x,hx,hx0,hx1⟩ : ∃ x : Int,wr.cell? ⟨g,k,none⟩ = some (.int .i64 x) ∧ (k = 0 → x = a) ∧ (k = 1 → x = b) := by
    by_cases h : k = 0
    ·exact ⟨a,by rw [h]; exact p0,fun _ => rfl,fun h1 => by omega⟩
    ·obtain rfl : k = 1 := by omega
     exact ⟨b,q0,fun h1 => by omega,fun _ => rfl⟩
   have HX := Lib.hid (And.intro hx0 hx1)
   have HA := Lib.hid ha
   have HB := Lib.hid hb
   clear ha hb hx0 hx1 p0 q0
   by_cases h0 : x = 0
   ·have c0 : ((x : Int) != 0) = false := by simp [h0]
    have H0 := Lib.hid h0
    clear h0 R1 R2
    go_wp2
    go_roundw
    case rel => exact ⟨k + 1,by omega,by go_num,by first | exact Lib.hid rfl | exact Lib.hid trivial,fun _ => by
     by_cases h : k = 0
     ·rw [← HX.out.1 h]; exact H0.out
     ·exact HA.out (by omega),fun h => by
     rw [← HX.out.2 (by omega)]; exact H0.out⟩
    case measure => simp [intOf]; omega
   ·have c0 : ((x : Int) != 0) = true := by simp [h0]
    have E := Lib.hid (show r = x by
     by_cases h : k = 0
     ·rw [R1.out (by rw [← HX.out.1 h]; exact h0)]; exact (HX.out.1 h).symm
     ·rw [R2.out (HA.out (by omega))]; exact (HX.out.2 (by omega)).symm)
    clear h0 R1 R2
    go_wp2
    go_ret
    exact ⟨by have h := E.out; subst h; rfl,rfl⟩
  ·have E := Lib.hid ((R2.out (ha (by omega))).trans (hb (by omega)))
   obtain rfl : k = 2 := by omega
   clear R1 R2 ha hb
   go_wp2
   go_ret
   exact ⟨by have h := E.out; subst h; rfl,rfl⟩
def cmpJ (x y : XID) : Int := orI (cmpI x.1 y.1) (cmpI x.2 y.2)
theorem cmpI_zero (a b : Int) : cmpI a b = 0 ↔ a = b := by unfold cmpI; split <;> (try split) <;> omega
theorem cmpI_neg (a b : Int) : cmpI a b < 0 ↔ a < b := by unfold cmpI; split <;> (try split) <;> omega
theorem cmpJ_zero (x y : XID) : cmpJ x y = 0 ↔ x = y := by
 obtain ⟨a,b⟩ := x
 obtain ⟨c,d⟩ := y
 have h1 := cmpI_zero a c
 have h2 := cmpI_zero b d
 unfold cmpJ orI
 simp only [Prod.mk.injEq]
 split <;> rename_i h
 ·rw [h2]; exact ⟨fun e => ⟨h1.1 h,e⟩,fun e => e.2⟩
 ·exact ⟨fun e => absurd e h,fun e => absurd (h1.2 e.1) h⟩
theorem cmpJ_neg (x y : XID) : cmpJ x y < 0 ↔ lessI x y = true := by
 obtain ⟨a,b⟩ := x
 obtain ⟨c,d⟩ := y
 have h1 := cmpI_zero a c
 have h2 := cmpI_neg b d
 have h3 := cmpI_neg a c
 unfold cmpJ orI lessI
 simp only [Bool.or_eq_true,Bool.and_eq_true,decide_eq_true_eq,beq_iff_eq]
 split <;> rename_i h
 ·have := h1.1 h
  subst this
  rw [h2]
  constructor
  ·intro h; exact Or.inr ⟨rfl,h⟩
  ·rintro (h | ⟨_,h⟩)
   ·omega
   ·exact h
 ·rw [h3]
  constructor
  ·intro h; exact Or.inl h
  ·rintro (h4 | ⟨h4,_⟩)
   ·exact h4
   ·exact absurd (h1.2 h4) h
theorem lessI_irr (x : XID) : lessI x x = false := by simp [lessI]
theorem lessI_trans {x y z : XID} (h1 : lessI x y = true) (h2 : lessI y z = true) : lessI x z = true := by
 simp only [lessI,Bool.or_eq_true,Bool.and_eq_true,decide_eq_true_eq,beq_iff_eq] at *
 omega
theorem lessI_total (x y : XID) : lessI x y = true ∨ x = y ∨ lessI y x = true := by
 obtain ⟨a,b⟩ := x
 obtain ⟨c,d⟩ := y
 simp only [lessI,Bool.or_eq_true,Bool.and_eq_true,decide_eq_true_eq,beq_iff_eq,Prod.mk.injEq]
 omega
theorem call_cmp (args : Array Value) (w : World) : (callFunc 54 args).run Tryz.prog w = .ok (.enter 54 args) w := call_fn Tryz.func54 rfl rfl args w
theorem call_or (args : Array Value) (w : World) : (callFunc 112 args).run Tryz.prog w = .ok (.enter 112 args) w := call_fn Tryz.func112 rfl rfl args w
theorem byID_any (x y : XID) (w : World) : Calls Tryz.prog 56 #[idv x,idv y] w fun e w' => e = .returned (.int .i64 (cmpJ x y)) ∧ Below w.heap.size w w' := by
 obtain ⟨a,b⟩ := x
 obtain ⟨c,d⟩ := y
 obtain ⟨h0,X,Y⟩ := two_new w #[.int .i64 a,.int .i64 b] #[.int .i64 c,.int .i64 d] 31 31
 obtain ⟨x0,x1⟩ := (X.on (Below.refl _ _).drew).cs2
 obtain ⟨y0,y1⟩ := (Y.on (Below.refl _ _).drew).cs2
 have C1 := Lib.hid (fun w' => compare_any a c w')
 have C2 := Lib.hid (fun w' => compare_any b d w')
 have RW := Lib.hid (fun (w' : World) (u v : Int) => (⟨(box_new w' #[.int .i64 u,.int .i64 v] 3).cell 0,(box_new w' #[.int .i64 u,.int .i64 v] 3).cell 1⟩ : (w'.alloc (.cells #[.int .i64 u,.int .i64 v] 3)).cell? ⟨w'.heap.size,0,none⟩ = some (.int .i64 u) ∧ (w'.alloc (.cells #[.int .i64 u,.int .i64 v] 3)).cell? ⟨w'.heap.size,1,none⟩ = some (.int .i64 v)))
 have FIN := Lib.hid (fun cs : Array Value => show Below w.heap.size w (((w.alloc (.cells #[.int .i64 a,.int .i64 b] 31)).alloc (.cells #[.int .i64 c,.int .i64 d] 31)).drew.alloc (.cells cs 3)) from h0.drew.alloc h0.size _)
 have RES := Lib.hid (show cmpJ (a,b) (c,d) = orI (cmpI a c) (cmpI b d) from rfl)
 generalize cmpJ (a,b) (c,d) = res at *
 generalize cmpI a c = u at *
 generalize cmpI b d = v at *
 clear X Y h0
 go_enter Tryz.func56,Tryz.ntmps56
 go_wp2_with fail
 generalize (w.alloc (.cells #[.int .i64 a,.int .i64 b] 31)).alloc (.cells #[.int .i64 c,.int .i64 d] 31) = W at *
 go_region_law (first
  | (refine step_call_run rfl (ex_call2 _ _ (.tmp 6) (.tmp 8) 3 3 54 rfl rfl rfl rfl _ (call_cmp _ _)) (C1.out _) ?_; rintro e3 w3 ⟨rfl,rfl⟩; refine ⟨_,rfl,?_⟩)
  | (refine step_call_run rfl (ex_call2 _ _ (.tmp 11) (.tmp 13) 3 3 54 rfl rfl rfl rfl _ (call_cmp _ _)) (C2.out _) ?_; rintro e3 w3 ⟨rfl,rfl⟩; refine ⟨_,rfl,?_⟩)
  | (refine step_call_run rfl (ex_call1 _ _ (.tmp 15) 22 112 rfl rfl rfl _ (call_or _ _)) (or_any _ _ u v _ (RW.out _ u v).1 (RW.out _ u v).2) ?_; rintro e3 w3 ⟨rfl,rfl⟩; refine ⟨_,rfl,?_⟩))
 all_goals simp only [Exit.then]
 all_goals apply_assumption
 all_goals
  go_wp2
  go_ret
  exact ⟨by have h := RES.out; subst h; rfl,FIN.out _⟩
end Go.Proofs.YtmklifheakemeaaGreat.Av
