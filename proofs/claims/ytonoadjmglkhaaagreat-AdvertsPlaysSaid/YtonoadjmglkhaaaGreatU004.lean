/-
  The order of IDs: cmp.Compare, cmp.Or, byID and what stands on it. No condition.
  The order of IDs: Less, inAdverts, inOwns. No condition.
  A region that draws its order, by a relation that every operation keeps, whichever is taken next. No condition beyond what each theorem states.
-/
import Derived.Test.YtonoadjmglkhaaaGreatU003
import Derived.Deep.RegionLaw
import Derived.Lib.QuietBelow
import Derived.BigQuiet
import Derived.Test.YtonoadjmglkhaaaGreatProg
import Derived.WalkKit
import Derived.Orders
import Derived.Laws.AppendOwn
import Derived.Laws.OwnMore
namespace Go.Proofs.YtonoadjmglkhaaaGreat.Av
open Go.RowKit Go.Sort Go.Proofs.YtonoadjmglkhaaaGreat Go.Proofs.YtonoadjmglkhaaaGreat.Rw Go.Proofs.YtonoadjmglkhaaaGreat.Nm Go.Proofs.YtonoadjmglkhaaaGreat.Pr Go.Proofs.YtonoadjmglkhaaaGreat.Bk

def cmpI (a b : Int) : Int := if a < b then -1 else if b < a then 1 else 0
def orI (a b : Int) : Int := if a = 0 then b else a
set_option maxRecDepth 100000 in
theorem isNaN_any (a : Int) (w : World) : Calls Tryz.prog 92 #[.int .i64 a] w fun e w' => e = .returned (.bool false) ∧ w' = w := by
  go_enter Tryz.func92, Tryz.ntmps92
  go_wp2
  go_ret
  exact ⟨by simp, rfl⟩
set_option maxRecDepth 100000 in
theorem compare_any (a b : Int) (w : World) : Calls Tryz.prog 54 #[.int .i64 a, .int .i64 b] w fun e w' => e = .returned (.int .i64 (cmpI a b)) ∧ w' = w := by
  have R1 := Lib.hid (show a < b → cmpI a b = -1 from fun h => by unfold cmpI; rw [if_pos h])
  have R2 := Lib.hid (show ¬ a < b → b < a → cmpI a b = 1 from fun h h2 => by unfold cmpI; rw [if_neg h, if_pos h2])
  have R3 := Lib.hid (show ¬ a < b → ¬ b < a → cmpI a b = 0 from fun h h2 => by unfold cmpI; rw [if_neg h, if_neg h2])
  generalize cmpI a b = r at *
  go_enter Tryz.func54, Tryz.ntmps54
  by_cases h1 : a < b
  · have E := R1.out h1
    clear R1 R2 R3
    subst E
    go_wp2_with (go_at_call 92; refine (isNaN_any _ _).mono ?_; rintro e w' ⟨rfl, rfl⟩)
    go_ret
    exact ⟨rfl, rfl⟩
  · by_cases h2 : b < a
    · have E := R2.out h1 h2
      clear R1 R2 R3
      subst E
      go_wp2_with (go_at_call 92; refine (isNaN_any _ _).mono ?_; rintro e w' ⟨rfl, rfl⟩)
      go_ret
      exact ⟨rfl, rfl⟩
    · have E := R3.out h1 h2
      clear R1 R2 R3
      subst E
      go_wp2_with (go_at_call 92; refine (isNaN_any _ _).mono ?_; rintro e w' ⟨rfl, rfl⟩)
      go_ret
      exact ⟨rfl, rfl⟩
set_option maxRecDepth 100000 in
theorem or_any (g : Nat) (cap : Nat) (a b : Int) (w : World) (p0 : w.cell? ⟨g, 0, none⟩ = some (.int .i64 a)) (q0 : w.cell? ⟨g, 1, none⟩ = some (.int .i64 b)) : Calls Tryz.prog 88 #[.slice (some ⟨g, 0, none⟩) 2 cap] w fun e w' => e = .returned (.int .i64 (orI a b)) ∧ w' = w := by
  have R1 := Lib.hid (show a ≠ 0 → orI a b = a from fun h => by unfold orI; rw [if_neg h])
  have R2 := Lib.hid (show a = 0 → orI a b = b from fun h => by unfold orI; rw [if_pos h])
  generalize orI a b = r at *
  go_enter Tryz.func88, Tryz.ntmps88
  go_wp2
  go_loopw [8] (fun i wr => ∃ k : Nat, k ≤ 2 ∧ i = .int .i64 k ∧ RowKit.Hid (wr = w) ∧ (0 < k → a = 0) ∧ (1 < k → b = 0)) (fun i _ => 2 - (intOf i).toNat)
  case atStart => exact ⟨0, by omega, rfl, by first | exact Lib.hid rfl | exact Lib.hid trivial, fun h => by omega, fun h => by omega⟩
  case round =>
    obtain ⟨k, hk, rfl, hw, ha, hb⟩ := hrel
    obtain rfl := hw.out
    clear hw
    by_cases hlt : k < 2
    · obtain ⟨x, hx, hx0, hx1⟩ : ∃ x : Int, wr.cell? ⟨g, k, none⟩ = some (.int .i64 x) ∧ (k = 0 → x = a) ∧ (k = 1 → x = b) := by
        by_cases h : k = 0
        · exact ⟨a, by rw [h]; exact p0, fun _ => rfl, fun h1 => by omega⟩
        · obtain rfl : k = 1 := by omega
          exact ⟨b, q0, fun h1 => by omega, fun _ => rfl⟩
      have HX := Lib.hid (And.intro hx0 hx1)
      have HA := Lib.hid ha
      have HB := Lib.hid hb
      clear ha hb hx0 hx1 p0 q0
      by_cases h0 : x = 0
      · have c0 : ((x : Int) != 0) = false := by simp [h0]
        have H0 := Lib.hid h0
        clear h0 R1 R2
        go_wp2
        go_roundw
        case rel => exact ⟨k + 1, by omega, by go_num, by first | exact Lib.hid rfl | exact Lib.hid trivial, fun _ => by
          by_cases h : k = 0
          · rw [← HX.out.1 h]; exact H0.out
          · exact HA.out (by omega), fun h => by
          rw [← HX.out.2 (by omega)]; exact H0.out⟩
        case measure => simp [intOf]; omega
      · have c0 : ((x : Int) != 0) = true := by simp [h0]
        have E := Lib.hid (show r = x by
          by_cases h : k = 0
          · rw [R1.out (by rw [← HX.out.1 h]; exact h0)]; exact (HX.out.1 h).symm
          · rw [R2.out (HA.out (by omega))]; exact (HX.out.2 (by omega)).symm)
        clear h0 R1 R2
        go_wp2
        go_ret
        exact ⟨by have h := E.out; subst h; rfl, rfl⟩
    · have E := Lib.hid ((R2.out (ha (by omega))).trans (hb (by omega)))
      obtain rfl : k = 2 := by omega
      clear R1 R2 ha hb
      go_wp2
      go_ret
      exact ⟨by have h := E.out; subst h; rfl, rfl⟩
/-- Which one is ahead: below 0, 0, above 0. -/
def cmpJ (x y : XID) : Int := orI (cmpI x.1 y.1) (cmpI x.2 y.2)
theorem cmpI_zero (a b : Int) : cmpI a b = 0 ↔ a = b := by unfold cmpI; split <;> (try split) <;> omega
theorem cmpI_neg (a b : Int) : cmpI a b < 0 ↔ a < b := by unfold cmpI; split <;> (try split) <;> omega
theorem cmpJ_zero (x y : XID) : cmpJ x y = 0 ↔ x = y := by
  obtain ⟨a, b⟩ := x
  obtain ⟨c, d⟩ := y
  have h1 := cmpI_zero a c
  have h2 := cmpI_zero b d
  unfold cmpJ orI
  simp only [Prod.mk.injEq]
  split <;> rename_i h
  · rw [h2]; exact ⟨fun e => ⟨h1.1 h, e⟩, fun e => e.2⟩
  · exact ⟨fun e => absurd e h, fun e => absurd (h1.2 e.1) h⟩
theorem cmpJ_neg (x y : XID) : cmpJ x y < 0 ↔ lessI x y = true := by
  obtain ⟨a, b⟩ := x
  obtain ⟨c, d⟩ := y
  have h1 := cmpI_zero a c
  have h2 := cmpI_neg b d
  have h3 := cmpI_neg a c
  unfold cmpJ orI lessI
  simp only [Bool.or_eq_true, Bool.and_eq_true, decide_eq_true_eq, beq_iff_eq]
  split <;> rename_i h
  · have := h1.1 h
    subst this
    rw [h2]
    constructor
    · intro h; exact Or.inr ⟨rfl, h⟩
    · rintro (h | ⟨_, h⟩)
      · omega
      · exact h
  · rw [h3]
    constructor
    · intro h; exact Or.inl h
    · rintro (h4 | ⟨h4, _⟩)
      · exact h4
      · exact absurd (h1.2 h4) h
theorem lessI_irr (x : XID) : lessI x x = false := by simp [lessI]
theorem lessI_trans {x y z : XID} (h1 : lessI x y = true) (h2 : lessI y z = true) : lessI x z = true := by
  simp only [lessI, Bool.or_eq_true, Bool.and_eq_true, decide_eq_true_eq, beq_iff_eq] at *
  omega
theorem lessI_total (x y : XID) : lessI x y = true ∨ x = y ∨ lessI y x = true := by
  obtain ⟨a, b⟩ := x
  obtain ⟨c, d⟩ := y
  simp only [lessI, Bool.or_eq_true, Bool.and_eq_true, decide_eq_true_eq, beq_iff_eq, Prod.mk.injEq]
  omega
theorem lessI_asymm {x y : XID} (h : lessI x y = true) : lessI y x = false := by
  cases h2 : lessI y x
  · rfl
  · have := lessI_trans h h2
    rw [lessI_irr] at this
    cases this
theorem call_cmp (args : Array Value) (w : World) : (callFunc 54 args).run Tryz.prog w = .ok (.enter 54 args) w := call_fn Tryz.func54 rfl rfl args w
theorem call_or (args : Array Value) (w : World) : (callFunc 88 args).run Tryz.prog w = .ok (.enter 88 args) w := call_fn Tryz.func88 rfl rfl args w
theorem call_byID (args : Array Value) (w : World) : (callFunc 34 args).run Tryz.prog w = .ok (.enter 34 args) w := call_fn Tryz.func34 rfl rfl args w
set_option maxRecDepth 100000 in
set_option maxHeartbeats 8000000 in
theorem byID_any (x y : XID) (w : World) : Calls Tryz.prog 34 #[idv x, idv y] w fun e w' => e = .returned (.int .i64 (cmpJ x y)) ∧ Below w.heap.size w w' := by
  obtain ⟨a, b⟩ := x
  obtain ⟨c, d⟩ := y
  obtain ⟨h0, X, Y⟩ := two_new w #[.int .i64 a, .int .i64 b] #[.int .i64 c, .int .i64 d] 37 37
  have x0 := (X.on (Below.refl _ _).drew).cell 0
  have x1 := (X.on (Below.refl _ _).drew).cell 1
  have y0 := (Y.on (Below.refl _ _).drew).cell 0
  have y1 := (Y.on (Below.refl _ _).drew).cell 1
  simp only [List.getElem?_toArray, List.getElem?_cons_zero, List.getElem?_cons_succ] at x0 x1 y0 y1
  have C1 := Lib.hid (fun w' => compare_any a c w')
  have C2 := Lib.hid (fun w' => compare_any b d w')
  have RW := Lib.hid (fun (w' : World) (u v : Int) => (⟨(box_new w' #[.int .i64 u, .int .i64 v] 3).cell 0, (box_new w' #[.int .i64 u, .int .i64 v] 3).cell 1⟩ : (w'.alloc (.cells #[.int .i64 u, .int .i64 v] 3)).cell? ⟨w'.heap.size, 0, none⟩ = some (.int .i64 u) ∧ (w'.alloc (.cells #[.int .i64 u, .int .i64 v] 3)).cell? ⟨w'.heap.size, 1, none⟩ = some (.int .i64 v)))
  have FIN := Lib.hid (fun cs : Array Value => show Below w.heap.size w (((w.alloc (.cells #[.int .i64 a, .int .i64 b] 37)).alloc (.cells #[.int .i64 c, .int .i64 d] 37)).drew.alloc (.cells cs 3)) from h0.drew.alloc h0.size _)
  have RES := Lib.hid (show cmpJ (a, b) (c, d) = orI (cmpI a c) (cmpI b d) from rfl)
  generalize cmpJ (a, b) (c, d) = res at *
  generalize cmpI a c = u at *
  generalize cmpI b d = v at *
  clear X Y h0
  go_enter Tryz.func34, Tryz.ntmps34
  go_wp2_with fail
  generalize (w.alloc (.cells #[.int .i64 a, .int .i64 b] 37)).alloc (.cells #[.int .i64 c, .int .i64 d] 37) = W at *
  go_region_law (first
    | (refine step_call_run rfl (ex_call2 _ _ (.tmp 6) (.tmp 8) 3 3 54 rfl rfl rfl rfl _ (call_cmp _ _)) (C1.out _) ?_; rintro e3 w3 ⟨rfl, rfl⟩; refine ⟨_, rfl, ?_⟩)
    | (refine step_call_run rfl (ex_call2 _ _ (.tmp 11) (.tmp 13) 3 3 54 rfl rfl rfl rfl _ (call_cmp _ _)) (C2.out _) ?_; rintro e3 w3 ⟨rfl, rfl⟩; refine ⟨_, rfl, ?_⟩)
    | (refine step_call_run rfl (ex_call1 _ _ (.tmp 15) 23 88 rfl rfl rfl _ (call_or _ _)) (or_any _ _ u v _ (RW.out _ u v).1 (RW.out _ u v).2) ?_; rintro e3 w3 ⟨rfl, rfl⟩; refine ⟨_, rfl, ?_⟩))
  all_goals simp only [Exit.then]
  all_goals apply_assumption
  all_goals
    go_wp2
    go_ret
    exact ⟨by have h := RES.out; subst h; rfl, FIN.out _⟩
end Go.Proofs.YtonoadjmglkhaaaGreat.Av

namespace Go.Proofs.YtonoadjmglkhaaaGreat.Av
open Go.RowKit Go.Sort Go.Proofs.YtonoadjmglkhaaaGreat Go.Proofs.YtonoadjmglkhaaaGreat.Rw Go.Proofs.YtonoadjmglkhaaaGreat.Nm Go.Proofs.YtonoadjmglkhaaaGreat.Pr Go.Proofs.YtonoadjmglkhaaaGreat.Bk

set_option maxRecDepth 100000 in
theorem aless_any (x y : XID) (w : World) : Calls Tryz.prog 21 #[idv x, idv y] w fun e w' => e = .returned (.bool (lessI x y)) ∧ Below w.heap.size w w' := by
  have C := byID_any x y
  have R := Lib.hid (show decide (cmpJ x y < 0) = lessI x y from by
    have h := cmpJ_neg x y
    cases hl : lessI x y
    · rw [hl] at h; simp at h; simpa using h
    · rw [hl] at h; simp at h; simpa using h)
  obtain ⟨a, b⟩ := x
  obtain ⟨c, d⟩ := y
  obtain ⟨h0, X, Y⟩ := two_new w #[.int .i64 a, .int .i64 b] #[.int .i64 c, .int .i64 d] 37 37
  have x0 := X.cell 0
  have x1 := X.cell 1
  have y0 := Y.cell 0
  have y1 := Y.cell 1
  simp only [List.getElem?_toArray, List.getElem?_cons_zero, List.getElem?_cons_succ] at x0 x1 y0 y1
  have B := Lib.hid h0
  generalize cmpJ (a, b) (c, d) = r at *
  generalize lessI (a, b) (c, d) = s at *
  clear X Y h0
  go_enter Tryz.func21, Tryz.ntmps21
  go_wp2_with fail
  have C := C ((w.alloc (.cells #[.int .i64 a, .int .i64 b] 37)).alloc (.cells #[.int .i64 c, .int .i64 d] 37))
  refine C.mono ?_
  rintro e w1 ⟨rfl, hb⟩
  go_wp2
  go_ret
  exact ⟨by have h := R.out; subst h; rfl, B.out.trans (hb.mono B.out.size)⟩
set_option maxRecDepth 100000 in
theorem inAdv_any (x y : XAd) (w : World) : Calls Tryz.prog 32 #[valD x, valD y] w fun e w' => e = .returned (.int .i64 (cmpJ (x.1, x.2.1) (y.1, y.2.1))) ∧ Below w.heap.size w w' := by
  obtain ⟨a, b, ⟨s1, s2, s3⟩, p⟩ := x
  obtain ⟨c, d, ⟨t1, t2, t3⟩, q⟩ := y
  have C := byID_any (a, b) (c, d)
  obtain ⟨h0, X, Y⟩ := two_new w #[.int .i64 a, .int .i64 b, .slice s1 s2 s3, .int .i64 p] #[.int .i64 c, .int .i64 d, .slice t1 t2 t3, .int .i64 q] 42 42
  have x0 := X.cell 0
  have x1 := X.cell 1
  have y0 := Y.cell 0
  have y1 := Y.cell 1
  simp only [List.getElem?_toArray, List.getElem?_cons_zero, List.getElem?_cons_succ] at x0 x1 y0 y1
  have B := Lib.hid h0
  generalize cmpJ (a, b) (c, d) = r at *
  clear X Y h0
  go_enter Tryz.func32, Tryz.ntmps32
  go_wp2_with fail
  have C := C ((w.alloc (.cells #[.int .i64 a, .int .i64 b, .slice s1 s2 s3, .int .i64 p] 42)).alloc (.cells #[.int .i64 c, .int .i64 d, .slice t1 t2 t3, .int .i64 q] 42))
  refine C.mono ?_
  rintro e w1 ⟨rfl, hb⟩
  go_wp2
  go_ret
  exact ⟨rfl, B.out.trans (hb.mono B.out.size)⟩
set_option maxRecDepth 100000 in
theorem inOwn_any (x y : XOw) (w : World) : Calls Tryz.prog 60 #[valW x, valW y] w fun e w' => e = .returned (.int .i64 (cmpJ (x.1, x.2.1) (y.1, y.2.1))) ∧ Below w.heap.size w w' := by
  obtain ⟨a, b, ⟨s1, s2, s3⟩⟩ := x
  obtain ⟨c, d, ⟨t1, t2, t3⟩⟩ := y
  have C := byID_any (a, b) (c, d)
  obtain ⟨h0, X, Y⟩ := two_new w #[.int .i64 a, .int .i64 b, .slice s1 s2 s3] #[.int .i64 c, .int .i64 d, .slice t1 t2 t3] 60 60
  have x0 := X.cell 0
  have x1 := X.cell 1
  have y0 := Y.cell 0
  have y1 := Y.cell 1
  simp only [List.getElem?_toArray, List.getElem?_cons_zero, List.getElem?_cons_succ] at x0 x1 y0 y1
  have B := Lib.hid h0
  generalize cmpJ (a, b) (c, d) = r at *
  clear X Y h0
  go_enter Tryz.func60, Tryz.ntmps60
  go_wp2_with fail
  have C := C ((w.alloc (.cells #[.int .i64 a, .int .i64 b, .slice s1 s2 s3] 60)).alloc (.cells #[.int .i64 c, .int .i64 d, .slice t1 t2 t3] 60))
  refine C.mono ?_
  rintro e w1 ⟨rfl, hb⟩
  go_wp2
  go_ret
  exact ⟨rfl, B.out.trans (hb.mono B.out.size)⟩
end Go.Proofs.YtonoadjmglkhaaaGreat.Av

namespace Go.Proofs.YtonoadjmglkhaaaGreat.Rg
open Go.RowKit

def left (L : Array Bool) : Nat := L.toList.countP (fun b => !b)
theorem left_set (L : Array Bool) (i : Nat) (h : L.getD i true = false) : left (L.setIfInBounds i true) + 1 = left L := by
  obtain ⟨l⟩ := L
  have hi : i < l.length := by
    rcases Nat.lt_or_ge i l.length with h0 | h0
    · exact h0
    · exact absurd h (by simp [Array.getD, Nat.not_lt.2 h0])
  have hv : l[i] = false := by simpa [Array.getD, hi] using h
  unfold left
  simp only [List.setIfInBounds_toArray]
  rw [List.countP_set hi, hv]
  have hp : 0 < l.countP (fun b => !b) := List.countP_pos_iff.2 ⟨l[i], List.getElem_mem hi, by rw [hv]; rfl⟩
  simp
  omega
theorem left_zero (L : Array Bool) (h : left L = 0) (i : Nat) : L.getD i true = true := by
  obtain ⟨l⟩ := L
  unfold left at h
  rw [List.countP_eq_zero] at h
  rcases Nat.lt_or_ge i l.length with h0 | h0
  · have := h l[i] (List.getElem_mem h0)
    simp [Array.getD, h0]
    simpa using this
  · simp [Array.getD, Nat.not_lt.2 h0]

/-- Is each operation's wait for one that stands ahead of it? -/
def fore (ops : Array Oper) : Bool := (List.range ops.size).all fun i => match ops[i]? with
  | some o => o.after.all fun e => !Region.binds .any e || decide (e.on < i)
  | none => true
/-- Is the operation done? -/
def done (L : Array Bool) (i : Nat) : Prop := L.getD i false = true

theorem all_done {ops : Array Oper} (hf : fore ops = true) {L : Array Bool} (hs : L.size = ops.size) (h : Region.ready .any ops L = []) : ∀ n, n ≤ ops.size → ∀ i, i < n → done L i := by
  intro n
  induction n with
  | zero => intro _ i hi; omega
  | succ n ih =>
    intro hn i hi
    rcases Nat.lt_or_ge i n with h1 | h1
    · exact ih (by omega) i h1
    · obtain rfl : i = n := by omega
      cases hd : L.getD i true
      · exfalso
        have hm : i ∈ Region.ready .any ops L := by
          rw [mem_ready]
          refine ⟨hd, ops[i], Array.getElem?_eq_getElem (by omega), fun e he hbd => ?_⟩
          have h2 := List.all_eq_true.1 hf i (List.mem_range.2 (by omega))
          rw [Array.getElem?_eq_getElem (by omega)] at h2
          have h3 := Array.all_eq_true'.1 h2 e he
          rw [hbd] at h3
          exact ih (by omega) e.on (by simpa using h3)
        rw [h] at hm
        cases hm
      · unfold done
        have hi2 : i < L.size := by omega
        simp [Array.getD, hi2] at hd ⊢
        exact hd

section
variable {P : Program} {ops : Array Oper} {Q : Exit → Act → World → Prop}
theorem any_of_inv (I : Array Bool → Act → World → Prop) (hf : fore ops = true)
    (hstep : ∀ L a w i o, L.size = ops.size → I L a w → ops[i]? = some o → ¬ done L i → (∀ e ∈ o.after, Region.binds .any e = true → done L e.on) → wpOp P ops Q i (I (L.setIfInBounds i true)) a w)
    (hend : ∀ L a w, I L a w → (∀ i, i < ops.size → done L i) → Q .normal a w) :
    ∀ (fuel : Nat) (L : Array Bool) (a : Act) (w : World), L.size = ops.size → left L ≤ fuel → I L a w → wpAny P .any ops Q fuel L a w := by
  intro fuel
  induction fuel with
  | zero =>
    intro L a w hs hl hI
    have hr : Region.ready .any ops L = [] := by
      rw [List.eq_nil_iff_forall_not_mem]
      intro i hi
      have h1 := (mem_ready.1 hi).1
      rw [left_zero L (by omega) i] at h1
      cases h1
    exact ⟨hr, hend L a w hI (all_done hf hs hr ops.size (Nat.le_refl _))⟩
  | succ fuel ih =>
    intro L a w hs hl hI
    refine ⟨fun hr => hend L a w hI (all_done hf hs hr ops.size (Nat.le_refl _)), fun i hi => ?_⟩
    obtain ⟨h1, o, h2, h3⟩ := mem_ready.1 hi
    have hlt : i < ops.size := (Array.getElem?_eq_some_iff.1 h2).1
    have hnd : ¬ done L i := by
      unfold done
      have : i < L.size := by omega
      simp [Array.getD, this] at h1 ⊢
      exact h1
    have hst := hstep L a w i o hs hI h2 hnd (fun e he hb => h3 e he hb)
    have hmono : ∀ a' w', I (L.setIfInBounds i true) a' w' → wpAny P .any ops Q fuel (L.setIfInBounds i true) a' w' := fun a' w' h =>
      ih _ a' w' (by simpa using hs) (by have := left_set L i h1; omega) h
    unfold wpOp at hst ⊢
    rw [h2] at hst ⊢
    simp only at hst ⊢
    split at hst
    · rename_i hw
      rw [if_pos hw]
      rcases hst with hst | hst
      · exact Or.inl (Oper.wp_mono hmono hst)
      · exact Or.inr hst
    · rename_i hw
      rw [if_neg hw]
      exact hmono _ _ hst

theorem region_inv (I : Array Bool → Act → World → Prop) {id : Nat} {a : Act} {w : World} {l : List Oper} (hm : P.follows .mixedOrders = true) (hf : fore l.toArray = true)
    (h0 : I (Array.replicate l.length false) a { w with drawn := w.drawn + 1 })
    (hstep : ∀ L a w i o, L.size = l.length → I L a w → l[i]? = some o → ¬ done L i → (∀ e ∈ o.after, Region.binds .any e = true → done L e.on) → wpOp P l.toArray Q i (I (L.setIfInBounds i true)) a w)
    (hend : ∀ L a w, I L a w → (∀ i, i < l.length → done L i) → Q .normal a w) : (Code.region id l.toArray true).wp P Q a w := by
  refine wp_region_any hm (any_of_inv (ops := l.toArray) I hf (fun L a w i o hs hI ho => hstep L a w i o (by simpa using hs) hI (by simpa using ho)) (fun L a w hI hd => hend L a w hI (by simpa using hd)) _ _ _ _ (by simp) ?_ (by simpa using h0))
  unfold left
  have h2 := List.countP_le_length (p := fun b : Bool => !b) (l := List.replicate l.length false)
  simpa using h2
end

theorem done_set {L : Array Bool} {i : Nat} (h : i < L.size) (j : Nat) : done (L.setIfInBounds i true) j ↔ j = i ∨ done L j := by
  unfold done
  by_cases e : j = i
  · subst e; simp [Array.getD, h]
  · by_cases hj : j < L.size
    · have h2 : i ≠ j := fun x => e x.symm
      simp [Array.getD, hj, e, h2]
    · simp [Array.getD, hj, e]
theorem none_done (n j : Nat) : ¬ done (Array.replicate n false) j := by
  unfold done
  by_cases hj : j < n <;> simp [Array.getD, hj]

/-- One plain operation: it hands back a value. -/
theorem op_value {P : Program} {ops : Array Oper} {Q : Exit → Act → World → Prop} {K : Act → World → Prop} {a : Act} {w w' : World} {i : Nat} {o : Oper} {v : Value}
    (ho : ops[i]? = some o) (hg : o.guard = none) (hr : (execOp a.eval o).run P w = .ok (.value v) w') (h : K (a.put o.dst v) w') : wpOp P ops Q i K a w := by
  unfold wpOp
  rw [ho]
  have hw : Region.wanted o (yielded ops a.tmps) = true := by simp [Region.wanted, hg]
  simp only [hw, if_true]
  refine Or.inl ?_
  unfold Oper.wp
  rw [hr]
  exact h
/-- What a plain operation runs, by its make. -/
theorem v_run {P : Program} {s : Sem Value} {w w' : World} {v : Value} (h : s.run P w = .ok v w') : (do pure (Next.value (← s)) : Sem Next).run P w = .ok (.value v) w' := by
  simp [go_sem, h]
theorem ex_append {P : Program} (ρ : Operand → Value) (o : Oper) (s x : Operand) (t : TypeId) (ho : o.op = .call { callee := .builtin .append, args := #[s, x], argTypes := #[t, t] }) {v x' v' : Value} {w w' : World}
    (hs : ρ s = v) (hx : ρ x = x') (hrun : (Builtin.append_ #[t, t] o.type #[v, x']).run P w = .ok v' w') : (execOp ρ o).run P w = .ok (.value v') w' := by
  simp [execOp, ho, resolve, invoke, builtin, hs, hx, hrun, Result.andThen]
theorem ex_slice {P : Program} (ρ : Operand → Value) (o : Oper) (t : TypeId) (x : Operand) (l h m : Option Operand) (ho : o.op = .slice t x l h m) {v : Value} {w : World} (hr : (Instr.sliceAt t (ρ x) (l.map ρ) (h.map ρ) (m.map ρ)).run P w = .ok v w) :
    (execOp ρ o).run P w = .ok (.value v) w := by
  simp [execOp, ho, hr, Result.andThen]
theorem ex_index {P : Program} (ρ : Operand → Value) (o : Oper) (t : TypeId) (x i : Operand) (ho : o.op = .indexAddr t x i) {v : Value} {w : World} (hr : (Instr.indexAt t (ρ x) (ρ i)).run P w = .ok v w) :
    (execOp ρ o).run P w = .ok (.value v) w := by
  simp [execOp, ho, hr, Result.andThen]
theorem ex_load {P : Program} (ρ : Operand → Value) (o : Oper) (t : TypeId) (x : Operand) (ho : o.op = .load t x) {v : Value} {w : World} (hr : (Instr.loadAt t (ρ x)).run P w = .ok v w) :
    (execOp ρ o).run P w = .ok (.value v) w := by
  simp [execOp, ho, hr, Result.andThen]
theorem ex_build {P : Program} (ρ : Operand → Value) (o : Oper) (t : TypeId) (n : Nat) (parts : Array (Nat × Operand)) (ho : o.op = .buildSlice t n parts) {ps : Array (Nat × Value)} (hp : parts.map (fun x => (x.1, ρ x.2)) = ps) {v : Value} {w w' : World} (hr : (Instr.buildSlice t n ps).run P w = .ok v w') :
    (execOp ρ o).run P w = .ok (.value v) w' := by
  subst hp
  simp [execOp, ho, hr, Result.andThen]
theorem ex_move {P : Program} (ρ : Operand → Value) (o : Oper) (x : Operand) (ho : o.op = .move x) (w : World) : (execOp ρ o).run P w = .ok (.value (ρ x)) w := by
  simp [execOp, ho]
theorem ex_assign {P : Program} (ρ : Operand → Value) (o : Oper) (x : Operand) (ho : o.op = .assign x) (w : World) : (execOp ρ o).run P w = .ok (.value (ρ x)) w := by
  simp [execOp, ho]
theorem eval_put (a : Act) (d : Nat) (v : Value) (j : Nat) (hd : d < a.tmps.size) : (a.put (some d) v).eval (.tmp j) = if j = d then v else a.eval (.tmp j) := by
  by_cases e : j = d
  · subst e; simp [Act.put, Act.eval, Array.getD, hd]
  · have h2 : d ≠ j := fun x => e x.symm
    by_cases hj : j < a.tmps.size
    · simp [Act.put, Act.eval, Array.getD, hj, e, h2]
    · simp [Act.put, Act.eval, Array.getD, hj, e]
theorem size_put (a : Act) (d : Nat) (v : Value) : (a.put (some d) v).tmps.size = a.tmps.size := by simp [Act.put]
theorem get_put (a : Act) (d : Nat) (v : Value) (j : Nat) (hd : j ≠ d) : (a.put (some d) v).tmps[j]? = a.tmps[j]? := by
  have h2 : d ≠ j := fun x => hd x.symm
  simp [Act.put, h2]
theorem lt_of_heap {w : World} {b : Nat} {o : Obj} (h : w.heap[b]? = some o) : b < w.heap.size := by
  rcases Nat.lt_or_ge b w.heap.size with h0 | h0
  · exact h0
  · simp [Array.getElem?_eq_none h0] at h
theorem heapLast (w : World) (o : Obj) : (w.alloc o).heap[w.heap.size]? = some o := by show (w.heap.push _)[w.heap.size]? = _; simp
theorem eval_get {a : Act} {base : Array Value} {j : Nat} {x : Value} (hk : a.tmps[j]? = base[j]?) (h : base[j]? = some x) : a.eval (.tmp j) = x := by
  rw [h] at hk
  unfold Act.eval
  have hlt : j < a.tmps.size := (Array.getElem?_eq_some_iff.1 hk).1
  simp only [Array.getD, hlt, dif_pos]
  have h2 := (Array.getElem?_eq_some_iff.1 hk).2
  simpa using h2
theorem grown_refl (w : World) (row : Option Nat) : w.grownBy w row := ⟨rfl, rfl, rfl, Nat.le_refl _, fun _ _ _ => rfl⟩
end Go.Proofs.YtonoadjmglkhaaaGreat.Rg
