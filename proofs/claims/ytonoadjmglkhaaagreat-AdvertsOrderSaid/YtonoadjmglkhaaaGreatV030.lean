/-
  rises of package adverts at its five kinds of rows. Condition: rows no longer than a machine holds.
  Right's closures, and all of package adverts at its three kinds. Conditions: the rows rise where they are looked up in; at most 900 of each.
-/
import Derived.Test.YtonoadjmglkhaaaGreatV029
import Derived.Test.YtonoadjmglkhaaaGreatV008
import Derived.Deep.LoopGhost
import Derived.Laws.Externs
namespace Go.Proofs.YtonoadjmglkhaaaGreat.Av
open Go.RowKit Go.Sort Go.Proofs.YtonoadjmglkhaaaGreat Go.Proofs.YtonoadjmglkhaaaGreat.Rw Go.Proofs.YtonoadjmglkhaaaGreat.Nm Go.Proofs.YtonoadjmglkhaaaGreat.Pr Go.Proofs.YtonoadjmglkhaaaGreat.Bk

abbrev cmpD (x y : XAd) : Int := cmpJ (x.1, x.2.1) (y.1, y.2.1)
abbrev cmpW (x y : XOw) : Int := cmpJ (x.1, x.2.1) (y.1, y.2.1)
/-- Each is above the one ahead of it. -/
def riseB {α : Type} (c : α → α → Int) : List α → Bool
  | x :: y :: l => decide (c x y < 0) && riseB c (y :: l)
  | _ => true
theorem riseB_all {α : Type} {c : α → α → Int} : ∀ {l : List α}, (∀ (k : Nat) (x y : α), l[k]? = some x → l[k + 1]? = some y → c x y < 0) → riseB c l = true
  | [], _ => rfl
  | [_], _ => rfl
  | x :: y :: l, h => by
    unfold riseB
    rw [decide_eq_true (h 0 x y rfl rfl), Bool.true_and]
    exact riseB_all fun k a b ha hb => h (k + 1) a b (by simpa using ha) (by simpa using hb)
theorem riseB_not {α : Type} {c : α → α → Int} : ∀ {l : List α} {k : Nat} {x y : α}, l[k]? = some x → l[k + 1]? = some y → ¬ c x y < 0 → riseB c l = false
  | [], k, x, y, h, _, _ => by simp at h
  | [_], 0, x, y, _, h, _ => by simp at h
  | [_], k + 1, x, y, h, _, _ => by simp at h
  | a :: b :: l, 0, x, y, h1, h2, h3 => by
    simp at h1 h2
    subst h1 h2
    unfold riseB
    rw [decide_eq_false h3, Bool.false_and]
  | a :: b :: l, k + 1, x, y, h1, h2, h3 => by
    unfold riseB
    rw [riseB_not (l := b :: l) (k := k) (by simpa using h1) (by simpa using h2) h3, Bool.and_false]
theorem call_cpI (args : Array Value) (w : World) : (callFunc 54 args).run Tryz.prog w = .ok (.enter 54 args) w := call_cmp args w
theorem elrI {W W1 : World} {v : Value} {l : List Int} {ao : Option Addr} {n c k : Nat} {x : Int} (h : Row EI W v l) (hv : v = .slice ao n c) (hn : l.length = n) (hk : l[k]? = some x) (hb : Below W.heap.size W W1) :
    ∃ p : Addr, (∀ w, (Instr.indexAt 23 (.slice ao n c) (.int .i64 k)).run Tryz.prog w = .ok (.pointer (some p)) w) ∧ (∀ d os, (grow (redrawn W1 d) os).cell? p = some (.int .i64 x)) := by
  obtain ⟨p, h1, h2⟩ := elI h hv hn hk
  have h3 := h2.2 _ hb
  exact ⟨p, h1, cell_regrown h3⟩
theorem creI (c d : Int) (r : Int) (hr : cmpI c d = r) (w : World) (k : Nat) (os : Array Obj) :
    Calls Tryz.prog 54 #[.int .i64 c, .int .i64 d] (grow (redrawn w k) os) fun e w'' => e = .returned (.int .i64 r) ∧ ∃ p : Regrown, w'' = grow (redrawn w p.d) p.os := by
  subst hr
  exact (compare_any c d _).mono fun e w' h => ⟨h.1, ⟨k, os⟩, h.2⟩
theorem calI (args : Array Value) (w : World) : (callFunc 54 args).run Tryz.prog w = .ok (.enter 54 args) w := call_fn Tryz.func54 rfl rfl args w
set_option maxRecDepth 100000 in
set_option maxHeartbeats 8000000 in
theorem riseI_any (v : Value) (l : List Int) (w : World) (hv : Row EI w v l) :
    Calls Tryz.prog 53 #[v, .func (.func 54) #[] #[]] w fun e w' => e = .returned (.bool (riseB cmpI l)) ∧ Below w.heap.size w w' := by
  have HL := Lib.hid hv
  have lm := hv.most
  unfold maxLen at lm
  obtain ⟨ao, ac, rfl⟩ := hv.len
  obtain ⟨n, hn⟩ : ∃ n, n = l.length := ⟨_, rfl⟩
  rw [← hn] at HL lm ⊢
  have HN := Lib.hid hn.symm
  clear hv hn
  go_enter Tryz.func53, Tryz.ntmps53
  go_wp2
  go_loopw [5] (fun i wr => ∃ k : Nat, (k + 1 ≤ n ∨ n = 0 ∧ k = 0) ∧ i = .int .i64 ((k + 1 : Nat) : Int) ∧ Below w.heap.size w wr ∧ ∀ (j : Nat) (x y : Int), j < k → l[j]? = some x → l[j + 1]? = some y → cmpI x y < 0) (fun i _ => n + 1 - (intOf i).toNat)
  case atStart => exact ⟨0, by omega, rfl, Below.refl _ _, fun j x y h => by omega⟩
  case round =>
    obtain ⟨k, hk, rfl, hbe, hall⟩ := hrel
    have BE := Lib.hid hbe
    have AL := Lib.hid hall
    clear hbe hall
    by_cases hlt : k + 1 < n
    · obtain ⟨x, hx⟩ : ∃ x, l[k]? = some x := ⟨_, List.getElem?_eq_getElem (by rw [HN.out]; omega)⟩
      obtain ⟨y, hy⟩ : ∃ y, l[k + 1]? = some y := ⟨_, List.getElem?_eq_getElem (by rw [HN.out]; omega)⟩
      obtain ⟨p, ix, p0⟩ := elrI HL.out rfl HN.out hx BE.out
      obtain ⟨q, iy, q0⟩ := elrI HL.out rfl HN.out hy BE.out
      rw [show ((k + 1 : Nat) : Int) = (k : Int) + 1 by omega] at iy
      obtain ⟨r, hr⟩ : ∃ r, cmpI x y = r := ⟨_, rfl⟩
      have C := creI x y r hr wr
      have HX := Lib.hid hx
      have HY := Lib.hid hy
      have HR := Lib.hid hr
      have BN := Lib.hid (fun dq osq => BE.out.trans ((below_regrown wr dq osq).mono BE.out.size))
      have w1 : IntKind.i64.wrap ((k : Int) + 1 - 1) = k := by rw [show (k : Int) + 1 - 1 = k by omega]; exact IntWalk.i64_in _ (by omega)
      have w2 : IntKind.i64.wrap ((k : Int) + 1 + 1) = (k : Int) + 1 + 1 := IntWalk.i64_in _ (by omega)
      clear hx hy hr
      by_cases hneg : r < 0
      · have d0 : decide ((0 : Int) ≤ r) = false := by simp; omega
        go_wp2
        refine wp_region_quiet_below (by kernel_rfl) (by kernel_rfl) ?_
        repeat (go_big_quiet_step (first | (with_reducible exact C _ _) | exact calI _ _))
        refine wpQuiet_nil ?_
        intro _ hw'
        obtain ⟨⟨dq, osq⟩, hw''⟩ := hw'
        subst hw''
        clear ix iy p0 q0 C w1 d0
        go_wp2
        go_roundw
        case rel => exact ⟨k + 1, by omega, by go_num, BN.out _ _, fun j a b hj h1 h2 => by
          rcases Nat.lt_or_ge j k with h3 | h3
          · exact AL.out j a b h3 h1 h2
          · obtain rfl : j = k := by omega
            have e1 := HX.out
            have e2 := HY.out
            rw [h1] at e1
            rw [h2] at e2
            rw [Option.some.inj e1, Option.some.inj e2, HR.out]
            exact hneg⟩
        case measure => simp [intOf]; omega
      · have d0 : decide ((0 : Int) ≤ r) = true := by simp; omega
        have RR := Lib.hid (show riseB cmpI l = false from riseB_not HX.out HY.out (by rw [HR.out]; exact hneg))
        go_wp2
        refine wp_region_quiet_below (by kernel_rfl) (by kernel_rfl) ?_
        repeat (go_big_quiet_step (first | (with_reducible exact C _ _) | exact calI _ _))
        refine wpQuiet_nil ?_
        intro _ hw'
        obtain ⟨⟨dq, osq⟩, hw''⟩ := hw'
        subst hw''
        clear ix iy p0 q0 C w1 d0
        go_wp2
        go_ret
        exact ⟨by rw [RR.out]; rfl, BN.out _ _⟩
    · have RR := Lib.hid (show riseB cmpI l = true from riseB_all fun j x y h1 h2 => AL.out j x y (by have := (List.getElem?_eq_some_iff.1 h2).1; have := HN.out; omega) h1 h2)
      go_wp2
      go_ret
      exact ⟨by rw [RR.out]; rfl, BE.out⟩
theorem elrJ {W W1 : World} {v : Value} {l : List XID} {ao : Option Addr} {n c k : Nat} {x : XID} (h : Row EJ W v l) (hv : v = .slice ao n c) (hn : l.length = n) (hk : l[k]? = some x) (hb : Below W.heap.size W W1) :
    ∃ p : Addr, (∀ w, (Instr.indexAt 25 (.slice ao n c) (.int .i64 k)).run Tryz.prog w = .ok (.pointer (some p)) w) ∧ (∀ d os, (grow (redrawn W1 d) os).cell? p = some (.int .i64 x.1)) ∧ (∀ d os, (grow (redrawn W1 d) os).cell? ⟨p.block, p.off + 1, none⟩ = some (.int .i64 x.2)) := by
  obtain ⟨p, h1, h2⟩ := elJ h hv hn hk
  have h3 := h2 _ hb
  exact ⟨p, h1, cell_regrown h3.1, cell_regrown h3.2⟩
theorem creJ (c d : XID) (r : Int) (hr : cmpJ c d = r) (w : World) (k : Nat) (os : Array Obj) :
    Calls Tryz.prog 34 #[idv c, idv d] (grow (redrawn w k) os) fun e w'' => e = .returned (.int .i64 r) ∧ ∃ p : Regrown, w'' = grow (redrawn w p.d) p.os := by
  subst hr
  exact Calls.regrown_of (byID_any c d _)
theorem calJ (args : Array Value) (w : World) : (callFunc 34 args).run Tryz.prog w = .ok (.enter 34 args) w := call_fn Tryz.func34 rfl rfl args w
set_option maxRecDepth 100000 in
set_option maxHeartbeats 8000000 in
theorem riseJ_any (v : Value) (l : List XID) (w : World) (hv : Row EJ w v l) :
    Calls Tryz.prog 55 #[v, .func (.func 34) #[] #[]] w fun e w' => e = .returned (.bool (riseB cmpJ l)) ∧ Below w.heap.size w w' := by
  have HL := Lib.hid hv
  have lm := hv.most
  unfold maxLen at lm
  obtain ⟨ao, ac, rfl⟩ := hv.len
  obtain ⟨n, hn⟩ : ∃ n, n = l.length := ⟨_, rfl⟩
  rw [← hn] at HL lm ⊢
  have HN := Lib.hid hn.symm
  clear hv hn
  go_enter Tryz.func55, Tryz.ntmps55
  go_wp2
  go_loopw [5] (fun i wr => ∃ k : Nat, (k + 1 ≤ n ∨ n = 0 ∧ k = 0) ∧ i = .int .i64 ((k + 1 : Nat) : Int) ∧ Below w.heap.size w wr ∧ ∀ (j : Nat) (x y : XID), j < k → l[j]? = some x → l[j + 1]? = some y → cmpJ x y < 0) (fun i _ => n + 1 - (intOf i).toNat)
  case atStart => exact ⟨0, by omega, rfl, Below.refl _ _, fun j x y h => by omega⟩
  case round =>
    obtain ⟨k, hk, rfl, hbe, hall⟩ := hrel
    have BE := Lib.hid hbe
    have AL := Lib.hid hall
    clear hbe hall
    by_cases hlt : k + 1 < n
    · obtain ⟨x, hx⟩ : ∃ x, l[k]? = some x := ⟨_, List.getElem?_eq_getElem (by rw [HN.out]; omega)⟩
      obtain ⟨y, hy⟩ : ∃ y, l[k + 1]? = some y := ⟨_, List.getElem?_eq_getElem (by rw [HN.out]; omega)⟩
      obtain ⟨p, ix, p0, p1⟩ := elrJ HL.out rfl HN.out hx BE.out
      obtain ⟨q, iy, q0, q1⟩ := elrJ HL.out rfl HN.out hy BE.out
      rw [show ((k + 1 : Nat) : Int) = (k : Int) + 1 by omega] at iy
      obtain ⟨r, hr⟩ : ∃ r, cmpJ x y = r := ⟨_, rfl⟩
      have C := creJ x y r hr wr
      have HX := Lib.hid hx
      have HY := Lib.hid hy
      have HR := Lib.hid hr
      have BN := Lib.hid (fun dq osq => BE.out.trans ((below_regrown wr dq osq).mono BE.out.size))
      have w1 : IntKind.i64.wrap ((k : Int) + 1 - 1) = k := by rw [show (k : Int) + 1 - 1 = k by omega]; exact IntWalk.i64_in _ (by omega)
      have w2 : IntKind.i64.wrap ((k : Int) + 1 + 1) = (k : Int) + 1 + 1 := IntWalk.i64_in _ (by omega)
      clear hx hy hr
      obtain ⟨x1, x2⟩ := x
      obtain ⟨y1, y2⟩ := y
      simp only at p0 p1 q0 q1 C
      by_cases hneg : r < 0
      · have d0 : decide ((0 : Int) ≤ r) = false := by simp; omega
        go_wp2
        refine wp_region_quiet_below (by kernel_rfl) (by kernel_rfl) ?_
        repeat (go_big_quiet_step (first | (with_reducible exact C _ _) | exact calJ _ _))
        refine wpQuiet_nil ?_
        intro _ hw'
        obtain ⟨⟨dq, osq⟩, hw''⟩ := hw'
        subst hw''
        clear ix iy p0 p1 q0 q1 C w1 d0
        go_wp2
        go_roundw
        case rel => exact ⟨k + 1, by omega, by go_num, BN.out _ _, fun j a b hj h1 h2 => by
          rcases Nat.lt_or_ge j k with h3 | h3
          · exact AL.out j a b h3 h1 h2
          · obtain rfl : j = k := by omega
            have e1 := HX.out
            have e2 := HY.out
            rw [h1] at e1
            rw [h2] at e2
            rw [Option.some.inj e1, Option.some.inj e2, HR.out]
            exact hneg⟩
        case measure => simp [intOf]; omega
      · have d0 : decide ((0 : Int) ≤ r) = true := by simp; omega
        have RR := Lib.hid (show riseB cmpJ l = false from riseB_not HX.out HY.out (by rw [HR.out]; exact hneg))
        go_wp2
        refine wp_region_quiet_below (by kernel_rfl) (by kernel_rfl) ?_
        repeat (go_big_quiet_step (first | (with_reducible exact C _ _) | exact calJ _ _))
        refine wpQuiet_nil ?_
        intro _ hw'
        obtain ⟨⟨dq, osq⟩, hw''⟩ := hw'
        subst hw''
        clear ix iy p0 p1 q0 q1 C w1 d0
        go_wp2
        go_ret
        exact ⟨by rw [RR.out]; rfl, BN.out _ _⟩
    · have RR := Lib.hid (show riseB cmpJ l = true from riseB_all fun j x y h1 h2 => AL.out j x y (by have := (List.getElem?_eq_some_iff.1 h2).1; have := HN.out; omega) h1 h2)
      go_wp2
      go_ret
      exact ⟨by rw [RR.out]; rfl, BE.out⟩
theorem elrD {W W1 : World} {v : Value} {l : List XAd} {ao : Option Addr} {n c k : Nat} {x : XAd} (h : Row ED W v l) (hv : v = .slice ao n c) (hn : l.length = n) (hk : l[k]? = some x) (hb : Below W.heap.size W W1) :
    ∃ p : Addr, (∀ w, (Instr.indexAt 24 (.slice ao n c) (.int .i64 k)).run Tryz.prog w = .ok (.pointer (some p)) w) ∧ (∀ d os, (grow (redrawn W1 d) os).cell? p = some (.int .i64 x.1)) ∧ (∀ d os, (grow (redrawn W1 d) os).cell? ⟨p.block, p.off + 1, none⟩ = some (.int .i64 x.2.1)) ∧ (∀ d os, (grow (redrawn W1 d) os).cell? ⟨p.block, p.off + 2, none⟩ = some (slv x.2.2.1)) ∧ (∀ d os, (grow (redrawn W1 d) os).cell? ⟨p.block, p.off + 3, none⟩ = some (.int .i64 x.2.2.2)) := by
  obtain ⟨p, h1, h2⟩ := elD h hv hn hk
  have h3 := h2 _ hb
  exact ⟨p, h1, cell_regrown h3.1, cell_regrown h3.2.1, cell_regrown h3.2.2.1, cell_regrown h3.2.2.2⟩
theorem creD (c d : XAd) (r : Int) (hr : cmpD c d = r) (w : World) (k : Nat) (os : Array Obj) :
    Calls Tryz.prog 32 #[valD c, valD d] (grow (redrawn w k) os) fun e w'' => e = .returned (.int .i64 r) ∧ ∃ p : Regrown, w'' = grow (redrawn w p.d) p.os := by
  subst hr
  exact Calls.regrown_of (inAdv_any c d _)
theorem calD (args : Array Value) (w : World) : (callFunc 32 args).run Tryz.prog w = .ok (.enter 32 args) w := call_fn Tryz.func32 rfl rfl args w
set_option maxRecDepth 100000 in
set_option maxHeartbeats 8000000 in
theorem riseD_any (v : Value) (l : List XAd) (w : World) (hv : Row ED w v l) :
    Calls Tryz.prog 56 #[v, .func (.func 32) #[] #[]] w fun e w' => e = .returned (.bool (riseB cmpD l)) ∧ Below w.heap.size w w' := by
  have HL := Lib.hid hv
  have lm := hv.most
  unfold maxLen at lm
  obtain ⟨ao, ac, rfl⟩ := hv.len
  obtain ⟨n, hn⟩ : ∃ n, n = l.length := ⟨_, rfl⟩
  rw [← hn] at HL lm ⊢
  have HN := Lib.hid hn.symm
  clear hv hn
  go_enter Tryz.func56, Tryz.ntmps56
  go_wp2
  go_loopw [5] (fun i wr => ∃ k : Nat, (k + 1 ≤ n ∨ n = 0 ∧ k = 0) ∧ i = .int .i64 ((k + 1 : Nat) : Int) ∧ Below w.heap.size w wr ∧ ∀ (j : Nat) (x y : XAd), j < k → l[j]? = some x → l[j + 1]? = some y → cmpD x y < 0) (fun i _ => n + 1 - (intOf i).toNat)
  case atStart => exact ⟨0, by omega, rfl, Below.refl _ _, fun j x y h => by omega⟩
  case round =>
    obtain ⟨k, hk, rfl, hbe, hall⟩ := hrel
    have BE := Lib.hid hbe
    have AL := Lib.hid hall
    clear hbe hall
    by_cases hlt : k + 1 < n
    · obtain ⟨x, hx⟩ : ∃ x, l[k]? = some x := ⟨_, List.getElem?_eq_getElem (by rw [HN.out]; omega)⟩
      obtain ⟨y, hy⟩ : ∃ y, l[k + 1]? = some y := ⟨_, List.getElem?_eq_getElem (by rw [HN.out]; omega)⟩
      obtain ⟨p, ix, p0, p1, p2, p3⟩ := elrD HL.out rfl HN.out hx BE.out
      obtain ⟨q, iy, q0, q1, q2, q3⟩ := elrD HL.out rfl HN.out hy BE.out
      rw [show ((k + 1 : Nat) : Int) = (k : Int) + 1 by omega] at iy
      obtain ⟨r, hr⟩ : ∃ r, cmpD x y = r := ⟨_, rfl⟩
      have C := creD x y r hr wr
      have HX := Lib.hid hx
      have HY := Lib.hid hy
      have HR := Lib.hid hr
      have BN := Lib.hid (fun dq osq => BE.out.trans ((below_regrown wr dq osq).mono BE.out.size))
      have w1 : IntKind.i64.wrap ((k : Int) + 1 - 1) = k := by rw [show (k : Int) + 1 - 1 = k by omega]; exact IntWalk.i64_in _ (by omega)
      have w2 : IntKind.i64.wrap ((k : Int) + 1 + 1) = (k : Int) + 1 + 1 := IntWalk.i64_in _ (by omega)
      clear hx hy hr
      obtain ⟨x1, x2, ⟨xo, xn, xc⟩, x4⟩ := x
      obtain ⟨y1, y2, ⟨yo, yn, yc⟩, y4⟩ := y
      simp only at p0 p1 p2 p3 q0 q1 q2 q3 C
      by_cases hneg : r < 0
      · have d0 : decide ((0 : Int) ≤ r) = false := by simp; omega
        go_wp2
        refine wp_region_quiet_below (by kernel_rfl) (by kernel_rfl) ?_
        repeat (go_big_quiet_step (first | (with_reducible exact C _ _) | exact calD _ _))
        refine wpQuiet_nil ?_
        intro _ hw'
        obtain ⟨⟨dq, osq⟩, hw''⟩ := hw'
        subst hw''
        clear ix iy p0 p1 p2 p3 q0 q1 q2 q3 C w1 d0
        go_wp2
        go_roundw
        case rel => exact ⟨k + 1, by omega, by go_num, BN.out _ _, fun j a b hj h1 h2 => by
          rcases Nat.lt_or_ge j k with h3 | h3
          · exact AL.out j a b h3 h1 h2
          · obtain rfl : j = k := by omega
            have e1 := HX.out
            have e2 := HY.out
            rw [h1] at e1
            rw [h2] at e2
            rw [Option.some.inj e1, Option.some.inj e2, HR.out]
            exact hneg⟩
        case measure => simp [intOf]; omega
      · have d0 : decide ((0 : Int) ≤ r) = true := by simp; omega
        have RR := Lib.hid (show riseB cmpD l = false from riseB_not HX.out HY.out (by rw [HR.out]; exact hneg))
        go_wp2
        refine wp_region_quiet_below (by kernel_rfl) (by kernel_rfl) ?_
        repeat (go_big_quiet_step (first | (with_reducible exact C _ _) | exact calD _ _))
        refine wpQuiet_nil ?_
        intro _ hw'
        obtain ⟨⟨dq, osq⟩, hw''⟩ := hw'
        subst hw''
        clear ix iy p0 p1 p2 p3 q0 q1 q2 q3 C w1 d0
        go_wp2
        go_ret
        exact ⟨by rw [RR.out]; rfl, BN.out _ _⟩
    · have RR := Lib.hid (show riseB cmpD l = true from riseB_all fun j x y h1 h2 => AL.out j x y (by have := (List.getElem?_eq_some_iff.1 h2).1; have := HN.out; omega) h1 h2)
      go_wp2
      go_ret
      exact ⟨by rw [RR.out]; rfl, BE.out⟩
theorem elrN {W W1 : World} {v : Value} {l : List XEn} {ao : Option Addr} {n c k : Nat} {x : XEn} (h : Row EN W v l) (hv : v = .slice ao n c) (hn : l.length = n) (hk : l[k]? = some x) (hb : Below W.heap.size W W1) :
    ∃ p : Addr, (∀ w, (Instr.indexAt 26 (.slice ao n c) (.int .i64 k)).run Tryz.prog w = .ok (.pointer (some p)) w) ∧ (∀ d os, (grow (redrawn W1 d) os).cell? p = some (.int .i64 x.1)) ∧ (∀ d os, (grow (redrawn W1 d) os).cell? ⟨p.block, p.off + 1, none⟩ = some (.int .i64 x.2.1)) ∧ (∀ d os, (grow (redrawn W1 d) os).cell? ⟨p.block, p.off + 2, none⟩ = some (.int .i64 x.2.2.1)) ∧ (∀ d os, (grow (redrawn W1 d) os).cell? ⟨p.block, p.off + 3, none⟩ = some (.int .i64 x.2.2.2.1)) ∧ (∀ d os, (grow (redrawn W1 d) os).cell? ⟨p.block, p.off + 4, none⟩ = some (slv x.2.2.2.2.1)) ∧ (∀ d os, (grow (redrawn W1 d) os).cell? ⟨p.block, p.off + 5, none⟩ = some (.int .i64 x.2.2.2.2.2.1)) ∧ (∀ d os, (grow (redrawn W1 d) os).cell? ⟨p.block, p.off + 6, none⟩ = some (.bool x.2.2.2.2.2.2)) := by
  obtain ⟨p, h1, h2⟩ := elN h hv hn hk
  have h3 := h2 _ hb
  exact ⟨p, h1, cell_regrown h3.1, cell_regrown h3.2.1, cell_regrown h3.2.2.1, cell_regrown h3.2.2.2.1, cell_regrown h3.2.2.2.2.1, cell_regrown h3.2.2.2.2.2.1, cell_regrown h3.2.2.2.2.2.2⟩
theorem creN (c d : XEn) (r : Int) (hr : cmpN c d = r) (w : World) (k : Nat) (os : Array Obj) :
    Calls Tryz.prog 58 #[valN c, valN d] (grow (redrawn w k) os) fun e w'' => e = .returned (.int .i64 r) ∧ ∃ p : Regrown, w'' = grow (redrawn w p.d) p.os := by
  subst hr
  exact Calls.regrown_of (inEnt_any c d _)
theorem calN (args : Array Value) (w : World) : (callFunc 58 args).run Tryz.prog w = .ok (.enter 58 args) w := call_fn Tryz.func58 rfl rfl args w
set_option maxRecDepth 100000 in
set_option maxHeartbeats 8000000 in
theorem riseN_any (v : Value) (l : List XEn) (w : World) (hv : Row EN w v l) :
    Calls Tryz.prog 57 #[v, .func (.func 58) #[] #[]] w fun e w' => e = .returned (.bool (riseB cmpN l)) ∧ Below w.heap.size w w' := by
  have HL := Lib.hid hv
  have lm := hv.most
  unfold maxLen at lm
  obtain ⟨ao, ac, rfl⟩ := hv.len
  obtain ⟨n, hn⟩ : ∃ n, n = l.length := ⟨_, rfl⟩
  rw [← hn] at HL lm ⊢
  have HN := Lib.hid hn.symm
  clear hv hn
  go_enter Tryz.func57, Tryz.ntmps57
  go_wp2
  go_loopw [5] (fun i wr => ∃ k : Nat, (k + 1 ≤ n ∨ n = 0 ∧ k = 0) ∧ i = .int .i64 ((k + 1 : Nat) : Int) ∧ Below w.heap.size w wr ∧ ∀ (j : Nat) (x y : XEn), j < k → l[j]? = some x → l[j + 1]? = some y → cmpN x y < 0) (fun i _ => n + 1 - (intOf i).toNat)
  case atStart => exact ⟨0, by omega, rfl, Below.refl _ _, fun j x y h => by omega⟩
  case round =>
    obtain ⟨k, hk, rfl, hbe, hall⟩ := hrel
    have BE := Lib.hid hbe
    have AL := Lib.hid hall
    clear hbe hall
    by_cases hlt : k + 1 < n
    · obtain ⟨x, hx⟩ : ∃ x, l[k]? = some x := ⟨_, List.getElem?_eq_getElem (by rw [HN.out]; omega)⟩
      obtain ⟨y, hy⟩ : ∃ y, l[k + 1]? = some y := ⟨_, List.getElem?_eq_getElem (by rw [HN.out]; omega)⟩
      obtain ⟨p, ix, p0, p1, p2, p3, p4, p5, p6⟩ := elrN HL.out rfl HN.out hx BE.out
      obtain ⟨q, iy, q0, q1, q2, q3, q4, q5, q6⟩ := elrN HL.out rfl HN.out hy BE.out
      rw [show ((k + 1 : Nat) : Int) = (k : Int) + 1 by omega] at iy
      obtain ⟨r, hr⟩ : ∃ r, cmpN x y = r := ⟨_, rfl⟩
      have C := creN x y r hr wr
      have HX := Lib.hid hx
      have HY := Lib.hid hy
      have HR := Lib.hid hr
      have BN := Lib.hid (fun dq osq => BE.out.trans ((below_regrown wr dq osq).mono BE.out.size))
      have w1 : IntKind.i64.wrap ((k : Int) + 1 - 1) = k := by rw [show (k : Int) + 1 - 1 = k by omega]; exact IntWalk.i64_in _ (by omega)
      have w2 : IntKind.i64.wrap ((k : Int) + 1 + 1) = (k : Int) + 1 + 1 := IntWalk.i64_in _ (by omega)
      clear hx hy hr
      obtain ⟨x1, x2, x3, x4, ⟨xo, xn, xc⟩, x6, x7⟩ := x
      obtain ⟨y1, y2, y3, y4, ⟨yo, yn, yc⟩, y6, y7⟩ := y
      simp only at p0 p1 p2 p3 p4 p5 p6 q0 q1 q2 q3 q4 q5 q6 C
      by_cases hneg : r < 0
      · have d0 : decide ((0 : Int) ≤ r) = false := by simp; omega
        go_wp2
        refine wp_region_quiet_below (by kernel_rfl) (by kernel_rfl) ?_
        repeat (go_big_quiet_step (first | (with_reducible exact C _ _) | exact calN _ _))
        refine wpQuiet_nil ?_
        intro _ hw'
        obtain ⟨⟨dq, osq⟩, hw''⟩ := hw'
        subst hw''
        clear ix iy p0 p1 p2 p3 p4 p5 p6 q0 q1 q2 q3 q4 q5 q6 C w1 d0
        go_wp2
        go_roundw
        case rel => exact ⟨k + 1, by omega, by go_num, BN.out _ _, fun j a b hj h1 h2 => by
          rcases Nat.lt_or_ge j k with h3 | h3
          · exact AL.out j a b h3 h1 h2
          · obtain rfl : j = k := by omega
            have e1 := HX.out
            have e2 := HY.out
            rw [h1] at e1
            rw [h2] at e2
            rw [Option.some.inj e1, Option.some.inj e2, HR.out]
            exact hneg⟩
        case measure => simp [intOf]; omega
      · have d0 : decide ((0 : Int) ≤ r) = true := by simp; omega
        have RR := Lib.hid (show riseB cmpN l = false from riseB_not HX.out HY.out (by rw [HR.out]; exact hneg))
        go_wp2
        refine wp_region_quiet_below (by kernel_rfl) (by kernel_rfl) ?_
        repeat (go_big_quiet_step (first | (with_reducible exact C _ _) | exact calN _ _))
        refine wpQuiet_nil ?_
        intro _ hw'
        obtain ⟨⟨dq, osq⟩, hw''⟩ := hw'
        subst hw''
        clear ix iy p0 p1 p2 p3 p4 p5 p6 q0 q1 q2 q3 q4 q5 q6 C w1 d0
        go_wp2
        go_ret
        exact ⟨by rw [RR.out]; rfl, BN.out _ _⟩
    · have RR := Lib.hid (show riseB cmpN l = true from riseB_all fun j x y h1 h2 => AL.out j x y (by have := (List.getElem?_eq_some_iff.1 h2).1; have := HN.out; omega) h1 h2)
      go_wp2
      go_ret
      exact ⟨by rw [RR.out]; rfl, BE.out⟩
theorem elrW {W W1 : World} {v : Value} {l : List XOw} {ao : Option Addr} {n c k : Nat} {x : XOw} (h : Row EW W v l) (hv : v = .slice ao n c) (hn : l.length = n) (hk : l[k]? = some x) (hb : Below W.heap.size W W1) :
    ∃ p : Addr, (∀ w, (Instr.indexAt 27 (.slice ao n c) (.int .i64 k)).run Tryz.prog w = .ok (.pointer (some p)) w) ∧ (∀ d os, (grow (redrawn W1 d) os).cell? p = some (.int .i64 x.1)) ∧ (∀ d os, (grow (redrawn W1 d) os).cell? ⟨p.block, p.off + 1, none⟩ = some (.int .i64 x.2.1)) ∧ (∀ d os, (grow (redrawn W1 d) os).cell? ⟨p.block, p.off + 2, none⟩ = some (slv x.2.2)) := by
  obtain ⟨p, h1, h2⟩ := elW h hv hn hk
  have h3 := h2 _ hb
  exact ⟨p, h1, cell_regrown h3.1, cell_regrown h3.2.1, cell_regrown h3.2.2⟩
theorem creW (c d : XOw) (r : Int) (hr : cmpW c d = r) (w : World) (k : Nat) (os : Array Obj) :
    Calls Tryz.prog 60 #[valW c, valW d] (grow (redrawn w k) os) fun e w'' => e = .returned (.int .i64 r) ∧ ∃ p : Regrown, w'' = grow (redrawn w p.d) p.os := by
  subst hr
  exact Calls.regrown_of (inOwn_any c d _)
theorem calW (args : Array Value) (w : World) : (callFunc 60 args).run Tryz.prog w = .ok (.enter 60 args) w := call_fn Tryz.func60 rfl rfl args w
set_option maxRecDepth 100000 in
set_option maxHeartbeats 8000000 in
theorem riseW_any (v : Value) (l : List XOw) (w : World) (hv : Row EW w v l) :
    Calls Tryz.prog 59 #[v, .func (.func 60) #[] #[]] w fun e w' => e = .returned (.bool (riseB cmpW l)) ∧ Below w.heap.size w w' := by
  have HL := Lib.hid hv
  have lm := hv.most
  unfold maxLen at lm
  obtain ⟨ao, ac, rfl⟩ := hv.len
  obtain ⟨n, hn⟩ : ∃ n, n = l.length := ⟨_, rfl⟩
  rw [← hn] at HL lm ⊢
  have HN := Lib.hid hn.symm
  clear hv hn
  go_enter Tryz.func59, Tryz.ntmps59
  go_wp2
  go_loopw [5] (fun i wr => ∃ k : Nat, (k + 1 ≤ n ∨ n = 0 ∧ k = 0) ∧ i = .int .i64 ((k + 1 : Nat) : Int) ∧ Below w.heap.size w wr ∧ ∀ (j : Nat) (x y : XOw), j < k → l[j]? = some x → l[j + 1]? = some y → cmpW x y < 0) (fun i _ => n + 1 - (intOf i).toNat)
  case atStart => exact ⟨0, by omega, rfl, Below.refl _ _, fun j x y h => by omega⟩
  case round =>
    obtain ⟨k, hk, rfl, hbe, hall⟩ := hrel
    have BE := Lib.hid hbe
    have AL := Lib.hid hall
    clear hbe hall
    by_cases hlt : k + 1 < n
    · obtain ⟨x, hx⟩ : ∃ x, l[k]? = some x := ⟨_, List.getElem?_eq_getElem (by rw [HN.out]; omega)⟩
      obtain ⟨y, hy⟩ : ∃ y, l[k + 1]? = some y := ⟨_, List.getElem?_eq_getElem (by rw [HN.out]; omega)⟩
      obtain ⟨p, ix, p0, p1, p2⟩ := elrW HL.out rfl HN.out hx BE.out
      obtain ⟨q, iy, q0, q1, q2⟩ := elrW HL.out rfl HN.out hy BE.out
      rw [show ((k + 1 : Nat) : Int) = (k : Int) + 1 by omega] at iy
      obtain ⟨r, hr⟩ : ∃ r, cmpW x y = r := ⟨_, rfl⟩
      have C := creW x y r hr wr
      have HX := Lib.hid hx
      have HY := Lib.hid hy
      have HR := Lib.hid hr
      have BN := Lib.hid (fun dq osq => BE.out.trans ((below_regrown wr dq osq).mono BE.out.size))
      have w1 : IntKind.i64.wrap ((k : Int) + 1 - 1) = k := by rw [show (k : Int) + 1 - 1 = k by omega]; exact IntWalk.i64_in _ (by omega)
      have w2 : IntKind.i64.wrap ((k : Int) + 1 + 1) = (k : Int) + 1 + 1 := IntWalk.i64_in _ (by omega)
      clear hx hy hr
      obtain ⟨x1, x2, ⟨xo, xn, xc⟩⟩ := x
      obtain ⟨y1, y2, ⟨yo, yn, yc⟩⟩ := y
      simp only at p0 p1 p2 q0 q1 q2 C
      by_cases hneg : r < 0
      · have d0 : decide ((0 : Int) ≤ r) = false := by simp; omega
        go_wp2
        refine wp_region_quiet_below (by kernel_rfl) (by kernel_rfl) ?_
        repeat (go_big_quiet_step (first | (with_reducible exact C _ _) | exact calW _ _))
        refine wpQuiet_nil ?_
        intro _ hw'
        obtain ⟨⟨dq, osq⟩, hw''⟩ := hw'
        subst hw''
        clear ix iy p0 p1 p2 q0 q1 q2 C w1 d0
        go_wp2
        go_roundw
        case rel => exact ⟨k + 1, by omega, by go_num, BN.out _ _, fun j a b hj h1 h2 => by
          rcases Nat.lt_or_ge j k with h3 | h3
          · exact AL.out j a b h3 h1 h2
          · obtain rfl : j = k := by omega
            have e1 := HX.out
            have e2 := HY.out
            rw [h1] at e1
            rw [h2] at e2
            rw [Option.some.inj e1, Option.some.inj e2, HR.out]
            exact hneg⟩
        case measure => simp [intOf]; omega
      · have d0 : decide ((0 : Int) ≤ r) = true := by simp; omega
        have RR := Lib.hid (show riseB cmpW l = false from riseB_not HX.out HY.out (by rw [HR.out]; exact hneg))
        go_wp2
        refine wp_region_quiet_below (by kernel_rfl) (by kernel_rfl) ?_
        repeat (go_big_quiet_step (first | (with_reducible exact C _ _) | exact calW _ _))
        refine wpQuiet_nil ?_
        intro _ hw'
        obtain ⟨⟨dq, osq⟩, hw''⟩ := hw'
        subst hw''
        clear ix iy p0 p1 p2 q0 q1 q2 C w1 d0
        go_wp2
        go_ret
        exact ⟨by rw [RR.out]; rfl, BN.out _ _⟩
    · have RR := Lib.hid (show riseB cmpW l = true from riseB_all fun j x y h1 h2 => AL.out j x y (by have := (List.getElem?_eq_some_iff.1 h2).1; have := HN.out; omega) h1 h2)
      go_wp2
      go_ret
      exact ⟨by rw [RR.out]; rfl, BE.out⟩
end Go.Proofs.YtonoadjmglkhaaaGreat.Av

namespace Go.Proofs.YtonoadjmglkhaaaGreat.Av
open Go.RowKit Go.Sort Go.Proofs.YtonoadjmglkhaaaGreat Go.Proofs.YtonoadjmglkhaaaGreat.Rw Go.Proofs.YtonoadjmglkhaaaGreat.Nm Go.Proofs.YtonoadjmglkhaaaGreat.Pr Go.Proofs.YtonoadjmglkhaaaGreat.Bk

set_option maxRecDepth 100000 in
theorem rclD_any (b : Br) (a : Ad) (nv av sv ev ov : Sl) (x : XAd) (b1 : Nat) (w : World) (hb1 : Box w b1 (brcells b.me nv av sv ev ov) 29) (h : BrIn w b nv av sv ev ov) (hx : AdIn w x a) (hf : Few b) (hn : b.near.Pairwise (· ≤ ·)) (hr : RiseI b.seen) (ht : Tame a.p) :
    Calls Tryz.prog 62 #[valD x, .pointer (some ⟨b1, 0, none⟩)] w fun e w' => e = .returned (.bool (okAd b a)) ∧ Below w.heap.size w w' := by
  obtain ⟨no, nn, nc⟩ := nv
  obtain ⟨ao, an, ac⟩ := av
  obtain ⟨so, sn, sc⟩ := sv
  obtain ⟨eo, en, ec⟩ := ev
  obtain ⟨oo, on_, oc⟩ := ov
  obtain ⟨x1, x2, ⟨xo, xn, xc⟩, x4⟩ := x
  have q := newB w (.cells #[.int .i64 x1, .int .i64 x2, .slice xo xn xc, .int .i64 x4] 42)
  have Y := box_new w #[.int .i64 x1, .int .i64 x2, .slice xo xn xc, .int .i64 x4] 42
  have X := hb1.on q
  have C := Lib.hid (rad_any b a (no, nn, nc) (ao, an, ac) (so, sn, sc) (eo, en, ec) (oo, on_, oc) (x1, x2, (xo, xn, xc), x4) _ (h.on q) (hx.on q) hf hn hr ht)
  generalize okAd b a = r at *
  have B0 := Lib.hid q
  have cx0 := X.cell 0
  have cx1 := X.cell 1
  have cx2 := X.cell 2
  have cx3 := X.cell 3
  have cx4 := X.cell 4
  have cx5 := X.cell 5
  have cy0 := Y.cell 0
  have cy1 := Y.cell 1
  have cy2 := Y.cell 2
  have cy3 := Y.cell 3
  simp only [List.getElem?_toArray, List.getElem?_cons_zero, List.getElem?_cons_succ] at cx0 cx1 cx2 cx3 cx4 cx5 cy0 cy1 cy2 cy3
  clear q X Y h hx hf hn hr ht hb1
  go_enter Tryz.func62, Tryz.ntmps62
  go_wp2_with fail
  refine C.out.mono ?_
  rintro e w1 ⟨rfl, hb⟩
  have B1 := Lib.hid (B0.out.trans (hb.mono B0.out.size))
  clear hb
  go_wp2
  go_ret
  exact ⟨rfl, B1.out⟩
set_option maxRecDepth 100000 in
theorem rclN_any (b : Br) (a : En) (nv av sv ev ov : Sl) (x : XEn) (b1 : Nat) (w : World) (hb1 : Box w b1 (brcells b.me nv av sv ev ov) 29) (h : BrIn w b nv av sv ev ov) (hx : EnIn w x a) (hf : Few b) (hn : b.near.Pairwise (· ≤ ·)) (hr : RiseA b.adv) (ht : Tame a.p) :
    Calls Tryz.prog 65 #[valN x, .pointer (some ⟨b1, 0, none⟩)] w fun e w' => e = .returned (.bool (okEn b a)) ∧ Below w.heap.size w w' := by
  obtain ⟨no, nn, nc⟩ := nv
  obtain ⟨ao, an, ac⟩ := av
  obtain ⟨so, sn, sc⟩ := sv
  obtain ⟨eo, en, ec⟩ := ev
  obtain ⟨oo, on_, oc⟩ := ov
  obtain ⟨x1, x2, x3, x4, ⟨xo, xn, xc⟩, x6, x7⟩ := x
  have q := newB w (.cells #[.int .i64 x1, .int .i64 x2, .int .i64 x3, .int .i64 x4, .slice xo xn xc, .int .i64 x6, .bool x7] 58)
  have Y := box_new w #[.int .i64 x1, .int .i64 x2, .int .i64 x3, .int .i64 x4, .slice xo xn xc, .int .i64 x6, .bool x7] 58
  have X := hb1.on q
  have C := Lib.hid (ren_any b a (no, nn, nc) (ao, an, ac) (so, sn, sc) (eo, en, ec) (oo, on_, oc) (x1, x2, x3, x4, (xo, xn, xc), x6, x7) _ (h.on q) (hx.on q) hf hn hr ht)
  generalize okEn b a = r at *
  have B0 := Lib.hid q
  have cx0 := X.cell 0
  have cx1 := X.cell 1
  have cx2 := X.cell 2
  have cx3 := X.cell 3
  have cx4 := X.cell 4
  have cx5 := X.cell 5
  have cy0 := Y.cell 0
  have cy1 := Y.cell 1
  have cy2 := Y.cell 2
  have cy3 := Y.cell 3
  have cy4 := Y.cell 4
  have cy5 := Y.cell 5
  have cy6 := Y.cell 6
  simp only [List.getElem?_toArray, List.getElem?_cons_zero, List.getElem?_cons_succ] at cx0 cx1 cx2 cx3 cx4 cx5 cy0 cy1 cy2 cy3 cy4 cy5 cy6
  clear q X Y h hx hf hn hr ht hb1
  go_enter Tryz.func65, Tryz.ntmps65
  go_wp2_with fail
  refine C.out.mono ?_
  rintro e w1 ⟨rfl, hb⟩
  have B1 := Lib.hid (B0.out.trans (hb.mono B0.out.size))
  clear hb
  go_wp2
  go_ret
  exact ⟨rfl, B1.out⟩
set_option maxRecDepth 100000 in
theorem rclW_any (a : Ow) (x : XOw) (w : World) (hx : OwIn w x a) (ht : Tame a.p) :
    Calls Tryz.prog 68 #[valW x] w fun e w' => e = .returned (.bool (Wr.rightP a.p)) ∧ Below w.heap.size w w' := by
  obtain ⟨x1, x2, ⟨xo, xn, xc⟩⟩ := x
  have q := newB w (.cells #[.int .i64 x1, .int .i64 x2, .slice xo xn xc] 60)
  have Y := box_new w #[.int .i64 x1, .int .i64 x2, .slice xo xn xc] 60
  have C := Lib.hid (Avp.pright_any (.slice xo xn xc) a.p _ (hx.2.on q) ht)
  generalize Wr.rightP a.p = r at *
  have B0 := Lib.hid q
  have cy0 := Y.cell 0
  have cy1 := Y.cell 1
  have cy2 := Y.cell 2
  simp only [List.getElem?_toArray, List.getElem?_cons_zero, List.getElem?_cons_succ] at cy0 cy1 cy2
  clear q Y hx ht
  go_enter Tryz.func68, Tryz.ntmps68
  go_wp2_with fail
  refine C.out.mono ?_
  rintro e w1 ⟨rfl, hb⟩
  have B1 := Lib.hid (B0.out.trans (hb.mono B0.out.size))
  clear hb
  go_wp2
  go_ret
  exact ⟨rfl, B1.out⟩
set_option maxRecDepth 100000 in
set_option maxHeartbeats 8000000 in
theorem allD_any (b1 : Nat) (v : Sl) (l : List XAd) (al : List Ad) (ok : Ad → Bool) (w : World) (hv : Row ED w (slv v) l) (hA : All2 (AdIn w) l al)
    (hC : ∀ (x : XAd) (a : Ad) (W' : World), a ∈ al → Below w.heap.size w W' → AdIn W' x a → Calls Tryz.prog 62 #[valD x, .pointer (some ⟨b1, 0, none⟩)] W' fun e w' => e = .returned (.bool (ok a)) ∧ Below W'.heap.size W' w') :
    Calls Tryz.prog 61 #[slv v, .func (.func 62) #[] #[.pointer (some ⟨b1, 0, none⟩)]] w fun e w' => e = .returned (.bool (al.all ok)) ∧ Below w.heap.size w w' := by
  obtain ⟨so, sn, sc⟩ := v
  obtain ⟨ao, ac, hs⟩ := hv.len
  have hs : Value.slice so sn sc = .slice ao l.length ac := hs
  obtain ⟨rfl, rfl, rfl⟩ : so = ao ∧ sn = l.length ∧ sc = ac := by simpa using hs
  have HL := Lib.hid hv
  have HA := Lib.hid hA
  have HC := Lib.hid hC
  have lm := hv.most
  unfold maxLen at lm
  obtain ⟨n, hn⟩ : ∃ n, n = l.length := ⟨_, rfl⟩
  rw [← hn] at HL lm ⊢
  have HN := Lib.hid hn.symm
  obtain ⟨res, hres⟩ : ∃ r, al.all ok = r := ⟨_, rfl⟩
  rw [hres]
  have RS := Lib.hid hres
  clear hv hA hC hs hn hres
  go_enter Tryz.func61, Tryz.ntmps61
  go_wp2
  go_loopw [9] (fun i wr => ∃ k : Nat, k ≤ n ∧ i = .int .i64 k ∧ Below w.heap.size w wr ∧ ∀ (j : Nat) (a : Ad), j < k → al[j]? = some a → ok a = true) (fun i _ => n - (intOf i).toNat)
  case atStart => exact ⟨0, Nat.zero_le _, rfl, Below.refl _ _, fun j y h => by omega⟩
  case round =>
    obtain ⟨k, hk, rfl, hbe, hall⟩ := hrel
    have BE := Lib.hid hbe
    have AL := Lib.hid hall
    clear hbe hall
    by_cases hlt : k < n
    · obtain ⟨a, hak⟩ : ∃ a, al[k]? = some a := ⟨_, List.getElem?_eq_getElem (by rw [← HA.out.len, HN.out]; exact hlt)⟩
      obtain ⟨x, hx, hxa⟩ := HA.out.at k a hak
      obtain ⟨p, ix, px⟩ := elD HL.out rfl HN.out hx
      obtain ⟨p0, p1, p2, p3⟩ := px wr BE.out
      have CC := fun W' (q : Below w.heap.size w W') => HC.out x a W' (List.mem_of_getElem? hak) q (hxa.on q)
      have HAK := Lib.hid hak
      obtain ⟨r, hr⟩ : ∃ r, ok a = r := ⟨_, rfl⟩
      rw [hr] at CC
      have HR := Lib.hid hr
      clear hx hak hxa px hr
      obtain ⟨x1, x2, ⟨xo, xn, xc⟩, x4⟩ := x
      simp only at p0 p1 p2 p3
      have NB := newB wr (.cells #[.int .i64 x1, .int .i64 x2, .slice xo xn xc, .int .i64 x4] 42)
      have C := Lib.hid (CC _ (BE.out.trans (NB.mono BE.out.size)))
      have BN := Lib.hid (BE.out.trans (NB.mono BE.out.size))
      have hw3 : IntKind.i64.wrap ((k : Int) + 1) = (k : Int) + 1 := IntWalk.i64_in _ (by omega)
      clear CC NB
      go_wp2_with fail
      refine C.out.mono ?_
      rintro e w1 ⟨rfl, hb⟩
      have B1 := Lib.hid (BN.out.trans (hb.mono BN.out.size))
      clear hb C ix p0 p1 p2 p3
      cases r
      · have R := Lib.hid (show res = false by
          rw [← RS.out]
          exact List.all_eq_false.2 ⟨a, List.mem_of_getElem? HAK.out, by rw [HR.out]; simp⟩)
        go_wp2
        go_ret
        exact ⟨by rw [R.out]; rfl, B1.out⟩
      · go_wp2
        go_roundw
        case rel => exact ⟨k + 1, by omega, by go_num, B1.out, fun j y hj h1 => by
          rcases Nat.lt_or_ge j k with h3 | h3
          · exact AL.out j y h3 h1
          · obtain rfl : j = k := by omega
            have e1 := HAK.out
            rw [h1] at e1
            rw [Option.some.inj e1]
            exact HR.out⟩
        case measure => simp [intOf]; omega
    · obtain rfl : k = n := by omega
      have R := Lib.hid (show res = true by
        rw [← RS.out]
        refine List.all_eq_true.2 fun y hy => ?_
        obtain ⟨j, hj⟩ := List.mem_iff_getElem?.1 hy
        exact AL.out j y (by have := (List.getElem?_eq_some_iff.1 hj).1; have := HA.out.len; have := HN.out; omega) hj)
      go_wp2
      go_ret
      exact ⟨by rw [R.out]; rfl, BE.out⟩
set_option maxRecDepth 100000 in
set_option maxHeartbeats 8000000 in
theorem allN_any (b1 : Nat) (v : Sl) (l : List XEn) (al : List En) (ok : En → Bool) (w : World) (hv : Row EN w (slv v) l) (hA : All2 (EnIn w) l al)
    (hC : ∀ (x : XEn) (a : En) (W' : World), a ∈ al → Below w.heap.size w W' → EnIn W' x a → Calls Tryz.prog 65 #[valN x, .pointer (some ⟨b1, 0, none⟩)] W' fun e w' => e = .returned (.bool (ok a)) ∧ Below W'.heap.size W' w') :
    Calls Tryz.prog 64 #[slv v, .func (.func 65) #[] #[.pointer (some ⟨b1, 0, none⟩)]] w fun e w' => e = .returned (.bool (al.all ok)) ∧ Below w.heap.size w w' := by
  obtain ⟨so, sn, sc⟩ := v
  obtain ⟨ao, ac, hs⟩ := hv.len
  have hs : Value.slice so sn sc = .slice ao l.length ac := hs
  obtain ⟨rfl, rfl, rfl⟩ : so = ao ∧ sn = l.length ∧ sc = ac := by simpa using hs
  have HL := Lib.hid hv
  have HA := Lib.hid hA
  have HC := Lib.hid hC
  have lm := hv.most
  unfold maxLen at lm
  obtain ⟨n, hn⟩ : ∃ n, n = l.length := ⟨_, rfl⟩
  rw [← hn] at HL lm ⊢
  have HN := Lib.hid hn.symm
  obtain ⟨res, hres⟩ : ∃ r, al.all ok = r := ⟨_, rfl⟩
  rw [hres]
  have RS := Lib.hid hres
  clear hv hA hC hs hn hres
  go_enter Tryz.func64, Tryz.ntmps64
  go_wp2
  go_loopw [9] (fun i wr => ∃ k : Nat, k ≤ n ∧ i = .int .i64 k ∧ Below w.heap.size w wr ∧ ∀ (j : Nat) (a : En), j < k → al[j]? = some a → ok a = true) (fun i _ => n - (intOf i).toNat)
  case atStart => exact ⟨0, Nat.zero_le _, rfl, Below.refl _ _, fun j y h => by omega⟩
  case round =>
    obtain ⟨k, hk, rfl, hbe, hall⟩ := hrel
    have BE := Lib.hid hbe
    have AL := Lib.hid hall
    clear hbe hall
    by_cases hlt : k < n
    · obtain ⟨a, hak⟩ : ∃ a, al[k]? = some a := ⟨_, List.getElem?_eq_getElem (by rw [← HA.out.len, HN.out]; exact hlt)⟩
      obtain ⟨x, hx, hxa⟩ := HA.out.at k a hak
      obtain ⟨p, ix, px⟩ := elN HL.out rfl HN.out hx
      obtain ⟨p0, p1, p2, p3, p4, p5, p6⟩ := px wr BE.out
      have CC := fun W' (q : Below w.heap.size w W') => HC.out x a W' (List.mem_of_getElem? hak) q (hxa.on q)
      have HAK := Lib.hid hak
      obtain ⟨r, hr⟩ : ∃ r, ok a = r := ⟨_, rfl⟩
      rw [hr] at CC
      have HR := Lib.hid hr
      clear hx hak hxa px hr
      obtain ⟨x1, x2, x3, x4, ⟨xo, xn, xc⟩, x6, x7⟩ := x
      simp only at p0 p1 p2 p3 p4 p5 p6
      have NB := newB wr (.cells #[.int .i64 x1, .int .i64 x2, .int .i64 x3, .int .i64 x4, .slice xo xn xc, .int .i64 x6, .bool x7] 58)
      have C := Lib.hid (CC _ (BE.out.trans (NB.mono BE.out.size)))
      have BN := Lib.hid (BE.out.trans (NB.mono BE.out.size))
      have hw3 : IntKind.i64.wrap ((k : Int) + 1) = (k : Int) + 1 := IntWalk.i64_in _ (by omega)
      clear CC NB
      go_wp2_with fail
      refine C.out.mono ?_
      rintro e w1 ⟨rfl, hb⟩
      have B1 := Lib.hid (BN.out.trans (hb.mono BN.out.size))
      clear hb C ix p0 p1 p2 p3 p4 p5 p6
      cases r
      · have R := Lib.hid (show res = false by
          rw [← RS.out]
          exact List.all_eq_false.2 ⟨a, List.mem_of_getElem? HAK.out, by rw [HR.out]; simp⟩)
        go_wp2
        go_ret
        exact ⟨by rw [R.out]; rfl, B1.out⟩
      · go_wp2
        go_roundw
        case rel => exact ⟨k + 1, by omega, by go_num, B1.out, fun j y hj h1 => by
          rcases Nat.lt_or_ge j k with h3 | h3
          · exact AL.out j y h3 h1
          · obtain rfl : j = k := by omega
            have e1 := HAK.out
            rw [h1] at e1
            rw [Option.some.inj e1]
            exact HR.out⟩
        case measure => simp [intOf]; omega
    · obtain rfl : k = n := by omega
      have R := Lib.hid (show res = true by
        rw [← RS.out]
        refine List.all_eq_true.2 fun y hy => ?_
        obtain ⟨j, hj⟩ := List.mem_iff_getElem?.1 hy
        exact AL.out j y (by have := (List.getElem?_eq_some_iff.1 hj).1; have := HA.out.len; have := HN.out; omega) hj)
      go_wp2
      go_ret
      exact ⟨by rw [R.out]; rfl, BE.out⟩
set_option maxRecDepth 100000 in
set_option maxHeartbeats 8000000 in
theorem allW_any (v : Sl) (l : List XOw) (al : List Ow) (ok : Ow → Bool) (w : World) (hv : Row EW w (slv v) l) (hA : All2 (OwIn w) l al)
    (hC : ∀ (x : XOw) (a : Ow) (W' : World), a ∈ al → Below w.heap.size w W' → OwIn W' x a → Calls Tryz.prog 68 #[valW x] W' fun e w' => e = .returned (.bool (ok a)) ∧ Below W'.heap.size W' w') :
    Calls Tryz.prog 67 #[slv v, .func (.func 68) #[] #[]] w fun e w' => e = .returned (.bool (al.all ok)) ∧ Below w.heap.size w w' := by
  obtain ⟨so, sn, sc⟩ := v
  obtain ⟨ao, ac, hs⟩ := hv.len
  have hs : Value.slice so sn sc = .slice ao l.length ac := hs
  obtain ⟨rfl, rfl, rfl⟩ : so = ao ∧ sn = l.length ∧ sc = ac := by simpa using hs
  have HL := Lib.hid hv
  have HA := Lib.hid hA
  have HC := Lib.hid hC
  have lm := hv.most
  unfold maxLen at lm
  obtain ⟨n, hn⟩ : ∃ n, n = l.length := ⟨_, rfl⟩
  rw [← hn] at HL lm ⊢
  have HN := Lib.hid hn.symm
  obtain ⟨res, hres⟩ : ∃ r, al.all ok = r := ⟨_, rfl⟩
  rw [hres]
  have RS := Lib.hid hres
  clear hv hA hC hs hn hres
  go_enter Tryz.func67, Tryz.ntmps67
  go_wp2
  go_loopw [9] (fun i wr => ∃ k : Nat, k ≤ n ∧ i = .int .i64 k ∧ Below w.heap.size w wr ∧ ∀ (j : Nat) (a : Ow), j < k → al[j]? = some a → ok a = true) (fun i _ => n - (intOf i).toNat)
  case atStart => exact ⟨0, Nat.zero_le _, rfl, Below.refl _ _, fun j y h => by omega⟩
  case round =>
    obtain ⟨k, hk, rfl, hbe, hall⟩ := hrel
    have BE := Lib.hid hbe
    have AL := Lib.hid hall
    clear hbe hall
    by_cases hlt : k < n
    · obtain ⟨a, hak⟩ : ∃ a, al[k]? = some a := ⟨_, List.getElem?_eq_getElem (by rw [← HA.out.len, HN.out]; exact hlt)⟩
      obtain ⟨x, hx, hxa⟩ := HA.out.at k a hak
      obtain ⟨p, ix, px⟩ := elW HL.out rfl HN.out hx
      obtain ⟨p0, p1, p2⟩ := px wr BE.out
      have CC := fun W' (q : Below w.heap.size w W') => HC.out x a W' (List.mem_of_getElem? hak) q (hxa.on q)
      have HAK := Lib.hid hak
      obtain ⟨r, hr⟩ : ∃ r, ok a = r := ⟨_, rfl⟩
      rw [hr] at CC
      have HR := Lib.hid hr
      clear hx hak hxa px hr
      obtain ⟨x1, x2, ⟨xo, xn, xc⟩⟩ := x
      simp only at p0 p1 p2
      have NB := newB wr (.cells #[.int .i64 x1, .int .i64 x2, .slice xo xn xc] 60)
      have C := Lib.hid (CC _ (BE.out.trans (NB.mono BE.out.size)))
      have BN := Lib.hid (BE.out.trans (NB.mono BE.out.size))
      have hw3 : IntKind.i64.wrap ((k : Int) + 1) = (k : Int) + 1 := IntWalk.i64_in _ (by omega)
      clear CC NB
      go_wp2_with fail
      refine C.out.mono ?_
      rintro e w1 ⟨rfl, hb⟩
      have B1 := Lib.hid (BN.out.trans (hb.mono BN.out.size))
      clear hb C ix p0 p1 p2
      cases r
      · have R := Lib.hid (show res = false by
          rw [← RS.out]
          exact List.all_eq_false.2 ⟨a, List.mem_of_getElem? HAK.out, by rw [HR.out]; simp⟩)
        go_wp2
        go_ret
        exact ⟨by rw [R.out]; rfl, B1.out⟩
      · go_wp2
        go_roundw
        case rel => exact ⟨k + 1, by omega, by go_num, B1.out, fun j y hj h1 => by
          rcases Nat.lt_or_ge j k with h3 | h3
          · exact AL.out j y h3 h1
          · obtain rfl : j = k := by omega
            have e1 := HAK.out
            rw [h1] at e1
            rw [Option.some.inj e1]
            exact HR.out⟩
        case measure => simp [intOf]; omega
    · obtain rfl : k = n := by omega
      have R := Lib.hid (show res = true by
        rw [← RS.out]
        refine List.all_eq_true.2 fun y hy => ?_
        obtain ⟨j, hj⟩ := List.mem_iff_getElem?.1 hy
        exact AL.out j y (by have := (List.getElem?_eq_some_iff.1 hj).1; have := HA.out.len; have := HN.out; omega) hj)
      go_wp2
      go_ret
      exact ⟨by rw [R.out]; rfl, BE.out⟩
end Go.Proofs.YtonoadjmglkhaaaGreat.Av
