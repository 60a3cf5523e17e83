/-
  Small things for regions with guards: a guard that was itself not wanted; comparisons. No condition beyond what each theorem states.
  slices.Clone of rows of six kinds: the same in new memory. Condition: at most 900 elements.
-/
import Derived.Test.YtonoadjmglkhaaaGreatV005
import Derived.Test.YtonoadjmglkhaaaGreatV010
import Derived.Test.YtonoadjmglkhaaaGreatV008
import Derived.Deep.RegionLaw
import Derived.Laws.Cover3
namespace Go.Proofs.YtonoadjmglkhaaaGreat.Rg
open Go.RowKit Go.Proofs.YtonoadjmglkhaaaGreat

theorem unwanted_undef {ops : Array Oper} {o og : Oper} {g : Nat} {b : Bool} {d : Nat} {tmps : Array Value} (ho : o.guard = some (g, b)) (hg : ops[g]? = some og) (hd : og.dst = some d) (ht : tmps[d]? = some undef) : Region.wanted o (yielded ops tmps) = false := by
  unfold Region.wanted yielded
  rw [ho]
  simp [hg, hd, ht, undef]
theorem geq_nat (x y : Operand) (w : World) (n : Nat) : (do eqGuard .geq 3 x y (.int .i64 n) (.int .i64 0); binOp .geq 3 (.int .i64 n) (.int .i64 0) : Sem Value).run Tryz.prog w = .ok (.bool true) w := by
  simp [go_sem]
theorem geq_neg (x y : Operand) (w : World) : (do eqGuard .geq 3 x y (.int .i64 (-1)) (.int .i64 0); binOp .geq 3 (.int .i64 (-1)) (.int .i64 0) : Sem Value).run Tryz.prog w = .ok (.bool false) w := by
  simp [go_sem]
set_option maxRecDepth 100000 in
theorem neq_id (x y : Operand) (c d : Int) (w : World) : (do eqGuard .neq 37 x y (.agg #[.int .i64 c, .int .i64 d]) (.agg #[.int .i64 c, .int .i64 d]); binOp .neq 37 (.agg #[.int .i64 c, .int .i64 d]) (.agg #[.int .i64 c, .int .i64 d]) : Sem Value).run Tryz.prog w = .ok (.bool false) w := by
  have st := Bk.stoodId
  simp [go_sem, Tryz.underlying37, Tryz.underlying3, st]
theorem neq_bool (x y : Operand) (g : Bool) (w : World) : (do eqGuard .neq 4 x y (.bool g) (.bool g); binOp .neq 4 (.bool g) (.bool g) : Sem Value).run Tryz.prog w = .ok (.bool false) w := by
  cases g <;> simp [go_sem]
theorem neq_int (x y : Operand) (n : Int) (w : World) : (do eqGuard .neq 3 x y (.int .i64 n) (.int .i64 n); binOp .neq 3 (.int .i64 n) (.int .i64 n) : Sem Value).run Tryz.prog w = .ok (.bool false) w := by
  simp [go_sem]
end Go.Proofs.YtonoadjmglkhaaaGreat.Rg

namespace Go.Proofs.YtonoadjmglkhaaaGreat.Av
open Go.RowKit Go.Proofs.YtonoadjmglkhaaaGreat Go.Proofs.YtonoadjmglkhaaaGreat.Rw Go.Proofs.YtonoadjmglkhaaaGreat.Nm Go.Proofs.YtonoadjmglkhaaaGreat.Pr Go.Proofs.YtonoadjmglkhaaaGreat.Bk Go.Proofs.YtonoadjmglkhaaaGreat.Rg

theorem eqnilI (a : Option Addr) (n c : Nat) (w : World) : (binOp .eql 23 (.slice a n c) (.slice none 0 0)).run Tryz.prog w = .ok (.bool a.isNone) w := by
  simp [go_sem, binOp, run_equal_slice_nil (P := Tryz.prog) w 23 3 a n c Tryz.underlying23]
set_option maxRecDepth 100000 in
set_option maxHeartbeats 4000000 in
theorem cloneI_any (v : Sl) (l : List Int) (w : World) (hv : Row EI w (slv v) l) (hl : l.length ≤ 900) :
    Calls Tryz.prog 22 #[slv v] w fun e w' => (∃ v' : Sl, e = .returned (slv v') ∧ Own EI w' w.heap.size (slv v') l) ∧ Below w.heap.size w w' := by
  obtain ⟨vo, vn, vc⟩ := v
  rcases hv with ⟨rfl, hv⟩ | ⟨a, cap, hv, h1, h2, h3⟩
  · obtain ⟨rfl, rfl, rfl⟩ : vo = none ∧ vn = 0 ∧ vc = 0 := by simpa using hv
    clear hv hl
    have q : ∀ w', (binOp .eql 23 (.slice none 0 0) (.slice none 0 0)).run Tryz.prog w' = .ok (.bool true) w' := fun w' => eqnilI none 0 0 w'
    go_enter Tryz.func22, Tryz.ntmps22
    go_wp2
    go_ret
    exact ⟨⟨(none, 0, 0), rfl, own_nil _ _⟩, Below.refl _ _⟩
  · obtain ⟨rfl, rfl, rfl⟩ : vo = some a ∧ vn = l.length ∧ vc = cap := by simpa using hv
    have hx : Row EI w (.slice (some a) l.length vc) l := Or.inr ⟨a, vc, rfl, h1, h2, h3⟩
    have n0 := newB w (.cells #[] 3)
    obtain ⟨q0, w0, r0, o0, g0⟩ := app_fresh Nm.okI w.heap.size (box_new w #[] 3) (Nat.le_refl _) (hx.on n0) (by omega) 23
    obtain ⟨v1, v3, hv1⟩ := (Row.of_own o0).len
    obtain ⟨n, hn⟩ : ∃ n, n = l.length := ⟨_, rfl⟩
    have Q := Lib.hid (show (∃ v' : Sl, Ending.returned q0 = .returned (slv v') ∧ Own EI w0 w.heap.size (slv v') l) ∧ Below w.heap.size w w0 from ⟨⟨(v1, l.length, v3), by rw [hv1], by subst hv1; exact o0⟩, n0.trans (g0.mono n0.size)⟩)
    rw [← hn] at r0 ⊢
    clear hv h1 h2 h3 hx o0 g0 n0 hv1 hn hl
    have q : ∀ w', (binOp .eql 23 (.slice (some a) n vc) (.slice none 0 0)).run Tryz.prog w' = .ok (.bool false) w' := fun w' => eqnilI (some a) n vc w'
    have r0 : (Builtin.append_ #[23, 23] 23 #[.slice (some ⟨w.heap.size, 0, none⟩) 0 0, .slice (some a) n vc]).run Tryz.prog (w.alloc (.cells #[] 3)) = .ok q0 w0 := r0
    go_enter Tryz.func22, Tryz.ntmps22
    go_wp2_with (first | (at_builtin; refine wpList_append_run rfl _ _ 23 rfl rfl rfl r0 ?_) | fail)
    go_ret
    exact Q.out
theorem eqnilJ (a : Option Addr) (n c : Nat) (w : World) : (binOp .eql 25 (.slice a n c) (.slice none 0 0)).run Tryz.prog w = .ok (.bool a.isNone) w := by
  simp [go_sem, binOp, run_equal_slice_nil (P := Tryz.prog) w 25 37 a n c Tryz.underlying25]
set_option maxRecDepth 100000 in
set_option maxHeartbeats 4000000 in
theorem cloneJ_any (v : Sl) (l : List XID) (w : World) (hv : Row EJ w (slv v) l) (hl : l.length ≤ 900) :
    Calls Tryz.prog 79 #[slv v] w fun e w' => (∃ v' : Sl, e = .returned (slv v') ∧ Own EJ w' w.heap.size (slv v') l) ∧ Below w.heap.size w w' := by
  obtain ⟨vo, vn, vc⟩ := v
  rcases hv with ⟨rfl, hv⟩ | ⟨a, cap, hv, h1, h2, h3⟩
  · obtain ⟨rfl, rfl, rfl⟩ : vo = none ∧ vn = 0 ∧ vc = 0 := by simpa using hv
    clear hv hl
    have q : ∀ w', (binOp .eql 25 (.slice none 0 0) (.slice none 0 0)).run Tryz.prog w' = .ok (.bool true) w' := fun w' => eqnilJ none 0 0 w'
    go_enter Tryz.func79, Tryz.ntmps79
    go_wp2
    go_ret
    exact ⟨⟨(none, 0, 0), rfl, own_nil _ _⟩, Below.refl _ _⟩
  · obtain ⟨rfl, rfl, rfl⟩ : vo = some a ∧ vn = l.length ∧ vc = cap := by simpa using hv
    have hx : Row EJ w (.slice (some a) l.length vc) l := Or.inr ⟨a, vc, rfl, h1, h2, h3⟩
    have n0 := newB w (.cells #[] 37)
    obtain ⟨q0, w0, r0, o0, g0⟩ := app_fresh okJ w.heap.size (box_new w #[] 37) (Nat.le_refl _) (hx.on n0) (by omega) 25
    obtain ⟨v1, v3, hv1⟩ := (Row.of_own o0).len
    obtain ⟨n, hn⟩ : ∃ n, n = l.length := ⟨_, rfl⟩
    have Q := Lib.hid (show (∃ v' : Sl, Ending.returned q0 = .returned (slv v') ∧ Own EJ w0 w.heap.size (slv v') l) ∧ Below w.heap.size w w0 from ⟨⟨(v1, l.length, v3), by rw [hv1], by subst hv1; exact o0⟩, n0.trans (g0.mono n0.size)⟩)
    rw [← hn] at r0 ⊢
    clear hv h1 h2 h3 hx o0 g0 n0 hv1 hn hl
    have q : ∀ w', (binOp .eql 25 (.slice (some a) n vc) (.slice none 0 0)).run Tryz.prog w' = .ok (.bool false) w' := fun w' => eqnilJ (some a) n vc w'
    have r0 : (Builtin.append_ #[25, 25] 25 #[.slice (some ⟨w.heap.size, 0, none⟩) 0 0, .slice (some a) n vc]).run Tryz.prog (w.alloc (.cells #[] 37)) = .ok q0 w0 := r0
    go_enter Tryz.func79, Tryz.ntmps79
    go_wp2_with (first | (at_builtin; refine wpList_append_run rfl _ _ 25 rfl rfl rfl r0 ?_) | fail)
    go_ret
    exact Q.out
theorem eqnilD (a : Option Addr) (n c : Nat) (w : World) : (binOp .eql 24 (.slice a n c) (.slice none 0 0)).run Tryz.prog w = .ok (.bool a.isNone) w := by
  simp [go_sem, binOp, run_equal_slice_nil (P := Tryz.prog) w 24 42 a n c Tryz.underlying24]
set_option maxRecDepth 100000 in
set_option maxHeartbeats 4000000 in
theorem cloneD_any (v : Sl) (l : List XAd) (w : World) (hv : Row ED w (slv v) l) (hl : l.length ≤ 900) :
    Calls Tryz.prog 80 #[slv v] w fun e w' => (∃ v' : Sl, e = .returned (slv v') ∧ Own ED w' w.heap.size (slv v') l) ∧ Below w.heap.size w w' := by
  obtain ⟨vo, vn, vc⟩ := v
  rcases hv with ⟨rfl, hv⟩ | ⟨a, cap, hv, h1, h2, h3⟩
  · obtain ⟨rfl, rfl, rfl⟩ : vo = none ∧ vn = 0 ∧ vc = 0 := by simpa using hv
    clear hv hl
    have q : ∀ w', (binOp .eql 24 (.slice none 0 0) (.slice none 0 0)).run Tryz.prog w' = .ok (.bool true) w' := fun w' => eqnilD none 0 0 w'
    go_enter Tryz.func80, Tryz.ntmps80
    go_wp2
    go_ret
    exact ⟨⟨(none, 0, 0), rfl, own_nil _ _⟩, Below.refl _ _⟩
  · obtain ⟨rfl, rfl, rfl⟩ : vo = some a ∧ vn = l.length ∧ vc = cap := by simpa using hv
    have hx : Row ED w (.slice (some a) l.length vc) l := Or.inr ⟨a, vc, rfl, h1, h2, h3⟩
    have n0 := newB w (.cells #[] 42)
    obtain ⟨q0, w0, r0, o0, g0⟩ := app_fresh okD w.heap.size (box_new w #[] 42) (Nat.le_refl _) (hx.on n0) (by omega) 24
    obtain ⟨v1, v3, hv1⟩ := (Row.of_own o0).len
    obtain ⟨n, hn⟩ : ∃ n, n = l.length := ⟨_, rfl⟩
    have Q := Lib.hid (show (∃ v' : Sl, Ending.returned q0 = .returned (slv v') ∧ Own ED w0 w.heap.size (slv v') l) ∧ Below w.heap.size w w0 from ⟨⟨(v1, l.length, v3), by rw [hv1], by subst hv1; exact o0⟩, n0.trans (g0.mono n0.size)⟩)
    rw [← hn] at r0 ⊢
    clear hv h1 h2 h3 hx o0 g0 n0 hv1 hn hl
    have q : ∀ w', (binOp .eql 24 (.slice (some a) n vc) (.slice none 0 0)).run Tryz.prog w' = .ok (.bool false) w' := fun w' => eqnilD (some a) n vc w'
    have r0 : (Builtin.append_ #[24, 24] 24 #[.slice (some ⟨w.heap.size, 0, none⟩) 0 0, .slice (some a) n vc]).run Tryz.prog (w.alloc (.cells #[] 42)) = .ok q0 w0 := r0
    go_enter Tryz.func80, Tryz.ntmps80
    go_wp2_with (first | (at_builtin; refine wpList_append_run rfl _ _ 24 rfl rfl rfl r0 ?_) | fail)
    go_ret
    exact Q.out
theorem eqnilN (a : Option Addr) (n c : Nat) (w : World) : (binOp .eql 26 (.slice a n c) (.slice none 0 0)).run Tryz.prog w = .ok (.bool a.isNone) w := by
  simp [go_sem, binOp, run_equal_slice_nil (P := Tryz.prog) w 26 58 a n c Tryz.underlying26]
set_option maxRecDepth 100000 in
set_option maxHeartbeats 4000000 in
theorem cloneN_any (v : Sl) (l : List XEn) (w : World) (hv : Row EN w (slv v) l) (hl : l.length ≤ 900) :
    Calls Tryz.prog 81 #[slv v] w fun e w' => (∃ v' : Sl, e = .returned (slv v') ∧ Own EN w' w.heap.size (slv v') l) ∧ Below w.heap.size w w' := by
  obtain ⟨vo, vn, vc⟩ := v
  rcases hv with ⟨rfl, hv⟩ | ⟨a, cap, hv, h1, h2, h3⟩
  · obtain ⟨rfl, rfl, rfl⟩ : vo = none ∧ vn = 0 ∧ vc = 0 := by simpa using hv
    clear hv hl
    have q : ∀ w', (binOp .eql 26 (.slice none 0 0) (.slice none 0 0)).run Tryz.prog w' = .ok (.bool true) w' := fun w' => eqnilN none 0 0 w'
    go_enter Tryz.func81, Tryz.ntmps81
    go_wp2
    go_ret
    exact ⟨⟨(none, 0, 0), rfl, own_nil _ _⟩, Below.refl _ _⟩
  · obtain ⟨rfl, rfl, rfl⟩ : vo = some a ∧ vn = l.length ∧ vc = cap := by simpa using hv
    have hx : Row EN w (.slice (some a) l.length vc) l := Or.inr ⟨a, vc, rfl, h1, h2, h3⟩
    have n0 := newB w (.cells #[] 58)
    obtain ⟨q0, w0, r0, o0, g0⟩ := app_fresh okN w.heap.size (box_new w #[] 58) (Nat.le_refl _) (hx.on n0) (by omega) 26
    obtain ⟨v1, v3, hv1⟩ := (Row.of_own o0).len
    obtain ⟨n, hn⟩ : ∃ n, n = l.length := ⟨_, rfl⟩
    have Q := Lib.hid (show (∃ v' : Sl, Ending.returned q0 = .returned (slv v') ∧ Own EN w0 w.heap.size (slv v') l) ∧ Below w.heap.size w w0 from ⟨⟨(v1, l.length, v3), by rw [hv1], by subst hv1; exact o0⟩, n0.trans (g0.mono n0.size)⟩)
    rw [← hn] at r0 ⊢
    clear hv h1 h2 h3 hx o0 g0 n0 hv1 hn hl
    have q : ∀ w', (binOp .eql 26 (.slice (some a) n vc) (.slice none 0 0)).run Tryz.prog w' = .ok (.bool false) w' := fun w' => eqnilN (some a) n vc w'
    have r0 : (Builtin.append_ #[26, 26] 26 #[.slice (some ⟨w.heap.size, 0, none⟩) 0 0, .slice (some a) n vc]).run Tryz.prog (w.alloc (.cells #[] 58)) = .ok q0 w0 := r0
    go_enter Tryz.func81, Tryz.ntmps81
    go_wp2_with (first | (at_builtin; refine wpList_append_run rfl _ _ 26 rfl rfl rfl r0 ?_) | fail)
    go_ret
    exact Q.out
theorem eqnilW (a : Option Addr) (n c : Nat) (w : World) : (binOp .eql 27 (.slice a n c) (.slice none 0 0)).run Tryz.prog w = .ok (.bool a.isNone) w := by
  simp [go_sem, binOp, run_equal_slice_nil (P := Tryz.prog) w 27 60 a n c Tryz.underlying27]
set_option maxRecDepth 100000 in
set_option maxHeartbeats 4000000 in
theorem cloneW_any (v : Sl) (l : List XOw) (w : World) (hv : Row EW w (slv v) l) (hl : l.length ≤ 900) :
    Calls Tryz.prog 82 #[slv v] w fun e w' => (∃ v' : Sl, e = .returned (slv v') ∧ Own EW w' w.heap.size (slv v') l) ∧ Below w.heap.size w w' := by
  obtain ⟨vo, vn, vc⟩ := v
  rcases hv with ⟨rfl, hv⟩ | ⟨a, cap, hv, h1, h2, h3⟩
  · obtain ⟨rfl, rfl, rfl⟩ : vo = none ∧ vn = 0 ∧ vc = 0 := by simpa using hv
    clear hv hl
    have q : ∀ w', (binOp .eql 27 (.slice none 0 0) (.slice none 0 0)).run Tryz.prog w' = .ok (.bool true) w' := fun w' => eqnilW none 0 0 w'
    go_enter Tryz.func82, Tryz.ntmps82
    go_wp2
    go_ret
    exact ⟨⟨(none, 0, 0), rfl, own_nil _ _⟩, Below.refl _ _⟩
  · obtain ⟨rfl, rfl, rfl⟩ : vo = some a ∧ vn = l.length ∧ vc = cap := by simpa using hv
    have hx : Row EW w (.slice (some a) l.length vc) l := Or.inr ⟨a, vc, rfl, h1, h2, h3⟩
    have n0 := newB w (.cells #[] 60)
    obtain ⟨q0, w0, r0, o0, g0⟩ := app_fresh okW w.heap.size (box_new w #[] 60) (Nat.le_refl _) (hx.on n0) (by omega) 27
    obtain ⟨v1, v3, hv1⟩ := (Row.of_own o0).len
    obtain ⟨n, hn⟩ : ∃ n, n = l.length := ⟨_, rfl⟩
    have Q := Lib.hid (show (∃ v' : Sl, Ending.returned q0 = .returned (slv v') ∧ Own EW w0 w.heap.size (slv v') l) ∧ Below w.heap.size w w0 from ⟨⟨(v1, l.length, v3), by rw [hv1], by subst hv1; exact o0⟩, n0.trans (g0.mono n0.size)⟩)
    rw [← hn] at r0 ⊢
    clear hv h1 h2 h3 hx o0 g0 n0 hv1 hn hl
    have q : ∀ w', (binOp .eql 27 (.slice (some a) n vc) (.slice none 0 0)).run Tryz.prog w' = .ok (.bool false) w' := fun w' => eqnilW (some a) n vc w'
    have r0 : (Builtin.append_ #[27, 27] 27 #[.slice (some ⟨w.heap.size, 0, none⟩) 0 0, .slice (some a) n vc]).run Tryz.prog (w.alloc (.cells #[] 60)) = .ok q0 w0 := r0
    go_enter Tryz.func82, Tryz.ntmps82
    go_wp2_with (first | (at_builtin; refine wpList_append_run rfl _ _ 27 rfl rfl rfl r0 ?_) | fail)
    go_ret
    exact Q.out
theorem eqnilC (a : Option Addr) (n c : Nat) (w : World) : (binOp .eql 39 (.slice a n c) (.slice none 0 0)).run Tryz.prog w = .ok (.bool a.isNone) w := by
  simp [go_sem, binOp, run_equal_slice_nil (P := Tryz.prog) w 39 62 a n c Tryz.underlying39]
set_option maxRecDepth 100000 in
set_option maxHeartbeats 4000000 in
theorem cloneC_any (v : Sl) (l : List C5) (w : World) (hv : Row EC w (slv v) l) (hl : l.length ≤ 900) :
    Calls Tryz.prog 83 #[slv v] w fun e w' => (∃ v' : Sl, e = .returned (slv v') ∧ Own EC w' w.heap.size (slv v') l) ∧ Below w.heap.size w w' := by
  obtain ⟨vo, vn, vc⟩ := v
  rcases hv with ⟨rfl, hv⟩ | ⟨a, cap, hv, h1, h2, h3⟩
  · obtain ⟨rfl, rfl, rfl⟩ : vo = none ∧ vn = 0 ∧ vc = 0 := by simpa using hv
    clear hv hl
    have q : ∀ w', (binOp .eql 39 (.slice none 0 0) (.slice none 0 0)).run Tryz.prog w' = .ok (.bool true) w' := fun w' => eqnilC none 0 0 w'
    go_enter Tryz.func83, Tryz.ntmps83
    go_wp2
    go_ret
    exact ⟨⟨(none, 0, 0), rfl, own_nil _ _⟩, Below.refl _ _⟩
  · obtain ⟨rfl, rfl, rfl⟩ : vo = some a ∧ vn = l.length ∧ vc = cap := by simpa using hv
    have hx : Row EC w (.slice (some a) l.length vc) l := Or.inr ⟨a, vc, rfl, h1, h2, h3⟩
    have n0 := newB w (.cells #[] 62)
    obtain ⟨q0, w0, r0, o0, g0⟩ := app_fresh okC w.heap.size (box_new w #[] 62) (Nat.le_refl _) (hx.on n0) (by omega) 39
    obtain ⟨v1, v3, hv1⟩ := (Row.of_own o0).len
    obtain ⟨n, hn⟩ : ∃ n, n = l.length := ⟨_, rfl⟩
    have Q := Lib.hid (show (∃ v' : Sl, Ending.returned q0 = .returned (slv v') ∧ Own EC w0 w.heap.size (slv v') l) ∧ Below w.heap.size w w0 from ⟨⟨(v1, l.length, v3), by rw [hv1], by subst hv1; exact o0⟩, n0.trans (g0.mono n0.size)⟩)
    rw [← hn] at r0 ⊢
    clear hv h1 h2 h3 hx o0 g0 n0 hv1 hn hl
    have q : ∀ w', (binOp .eql 39 (.slice (some a) n vc) (.slice none 0 0)).run Tryz.prog w' = .ok (.bool false) w' := fun w' => eqnilC (some a) n vc w'
    have r0 : (Builtin.append_ #[39, 39] 39 #[.slice (some ⟨w.heap.size, 0, none⟩) 0 0, .slice (some a) n vc]).run Tryz.prog (w.alloc (.cells #[] 62)) = .ok q0 w0 := r0
    go_enter Tryz.func83, Tryz.ntmps83
    go_wp2_with (first | (at_builtin; refine wpList_append_run rfl _ _ 39 rfl rfl rfl r0 ?_) | fail)
    go_ret
    exact Q.out
end Go.Proofs.YtonoadjmglkhaaaGreat.Av
