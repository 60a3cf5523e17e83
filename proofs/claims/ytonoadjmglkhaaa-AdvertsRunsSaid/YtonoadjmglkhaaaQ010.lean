/-
  Less, seen and Find of broadsideref9. Condition: rows no longer than a machine holds.
  Rows of one's own, while memory grows and one cell is written. No program's function in it.
  slices.Clone of rows of six kinds: the same in new memory. Condition: at most 900 elements.
-/
import Derived.Test.YtonoadjmglkhaaaQ009
import Derived.Lib.Hide
import Derived.Test.YtonoadjmglkhaaaQ006
import Derived.Deep.RegionLaw
import Derived.Laws.Cover3
namespace Go.Proofs.Ytonoadjmglkhaaa.Bk
open Go.RowKit Go.Proofs.Ytonoadjmglkhaaa Go.Proofs.Ytonoadjmglkhaaa.Rw Go.Proofs.Ytonoadjmglkhaaa.Nm Go.Proofs.Ytonoadjmglkhaaa.Pr

abbrev idv (x : Id) : Value := .agg #[.int .i64 x.1, .int .i64 x.2]
theorem stoodId : Try.prog.stoodInHeld 23 = false := by kernel_rfl
theorem eqId (a b c d : Int) (r : Bool) (h : (a == c && b == d) = r) (w : World) : (binOp .eql 23 (.agg #[.int .i64 a, .int .i64 b]) (.agg #[.int .i64 c, .int .i64 d])).run Try.prog w = .ok (.bool r) w := by
  have st := stoodId
  subst h
  by_cases h1 : a = c <;> by_cases h2 : b = d <;> simp [go_sem, Try.underlying23, Try.underlying3, st, h1, h2]
theorem newB (w : World) (o : Obj) : Below w.heap.size w (w.alloc o) := (Below.refl _ _).alloc (Nat.le_refl _) _
theorem two_new (w : World) (c d : Array Value) (s t : TypeId) : Below w.heap.size w ((w.alloc (.cells c s)).alloc (.cells d t)) ∧ Box ((w.alloc (.cells c s)).alloc (.cells d t)) w.heap.size c s ∧ Box ((w.alloc (.cells c s)).alloc (.cells d t)) (w.heap.size + 1) d t := by
  refine ⟨((Below.refl _ _).alloc (Nat.le_refl _) _).alloc (by simp) _, (box_new w c s).more _, ?_⟩
  have h := box_new (w.alloc (.cells c s)) d t
  simpa using h
theorem findI_bd : ∀ (l : List Id) (x : Id), -1 ≤ findI l x
  | [], _ => by simp [findI]
  | a :: l, x => by
    unfold findI
    have := findI_bd l x
    split
    · omega
    · split <;> omega
theorem find_none (l : List XAd) (x : Id) (h : ∀ (j : Nat) (y : XAd), l[j]? = some y → (y.1, y.2.1) ≠ x) : findI (l.map fun y => (y.1, y.2.1)) x = -1 := by
  induction l with
  | nil => rfl
  | cons a l ih =>
    rw [List.map_cons, findI, if_neg (h 0 a rfl), ih fun j y hj => h (j + 1) y (by simpa using hj), if_pos rfl]
theorem find_at (l : List XAd) (k : Nat) (x : Id) (y : XAd) (h : l[k]? = some y) (hx : (y.1, y.2.1) = x) (hall : ∀ (j : Nat) (z : XAd), j < k → l[j]? = some z → (z.1, z.2.1) ≠ x) : findI (l.map fun y => (y.1, y.2.1)) x = k := by
  induction l generalizing k with
  | nil => simp at h
  | cons a l ih =>
    cases k with
    | zero =>
      obtain rfl : a = y := by simpa using h
      rw [List.map_cons, findI, if_pos hx]
      rfl
    | succ k =>
      have h2 := ih k (by simpa using h) fun j z hj hz => hall (j + 1) z (by omega) (by simpa using hz)
      rw [List.map_cons, findI, if_neg (hall 0 a (by omega) rfl), h2, if_neg (by omega)]
      omega
end Go.Proofs.Ytonoadjmglkhaaa.Bk

namespace Go.Proofs.Ytonoadjmglkhaaa.Bk
open Go.RowKit Go.Proofs.Ytonoadjmglkhaaa Go.Proofs.Ytonoadjmglkhaaa.Rw

theorem own_fewer {α : Type} {E : Ek α} {W : World} {B C : Nat} {v : Value} {l : List α} (h : Own E W B v l) (hc : C ≤ B) : Own E W C v l := by
  refine ⟨h.1, ?_⟩
  rcases h.2 with h2 | ⟨g, cap, cur, h1, h2, h3⟩
  · exact Or.inl h2
  · exact Or.inr ⟨g, cap, cur, h1, Nat.le_trans hc h2, h3⟩
theorem own_on {α : Type} {E : Ek α} {W W' : World} {B : Nat} {v : Value} {l : List α} (h : Own E W B v l) (hb : Below W.heap.size W W') : Own E W' B v l :=
  h.kept (w' := W') (row := none) ⟨hb.os, hb.tape, hb.output, hb.size, fun k hk _ => hb.block k hk⟩ (by cases v.ownBlock <;> simp)
theorem own_cell {α : Type} {E : Ek α} {W : World} {B : Nat} {v : Value} {l : List α} (h : Own E W B v l) (b k : Nat) (x : Value) (hb : b < B) : Own E (W.setCell ⟨b, k, none⟩ x) B v l :=
  h.kept (w' := W.setCell ⟨b, k, none⟩ x) (row := some b) ⟨rfl, rfl, rfl, by simp [World.setCell], fun j _ hne => RowKit.Below.heap_setCell _ _ _ _ (fun e => hne (by rw [e]))⟩ (by
    cases hv : v.ownBlock with
    | none => exact Or.inl rfl
    | some j =>
      refine Or.inr fun e => ?_
      injection e with e
      have h1 := (h.lt j hv).1
      omega)
theorem add_one (x y : Operand) (t : TypeId) (w : World) (k : Nat) (hk : k ≤ 900) : (do eqGuard .add t x y (.int .i64 k) (.int .i64 1); binOp .add t (.int .i64 k) (.int .i64 1) : Sem Value).run Try.prog w = .ok (.int .i64 ((k : Int) + 1)) w := by
  have h : IntKind.i64.wrap ((k : Int) + 1) = (k : Int) + 1 := IntWalk.i64_in _ (by omega)
  simp [eqGuard, binOp, Op.intArith, go_sem, h]
theorem box_set {W : World} {rb k : Nat} {cs : Array Value} {t : TypeId} (h : Box W rb cs t) (x : Value) : Box (W.setCell ⟨rb, k, none⟩ x) rb (cs.setIfInBounds k x) t := heap_setCell_same W rb k cs t x h
end Go.Proofs.Ytonoadjmglkhaaa.Bk

namespace Go.Proofs.Ytonoadjmglkhaaa.Av
open Go.RowKit Go.Proofs.Ytonoadjmglkhaaa Go.Proofs.Ytonoadjmglkhaaa.Rw Go.Proofs.Ytonoadjmglkhaaa.Nm Go.Proofs.Ytonoadjmglkhaaa.Pr Go.Proofs.Ytonoadjmglkhaaa.Bk Go.Proofs.Ytonoadjmglkhaaa.Rg

theorem eqnilI (a : Option Addr) (n c : Nat) (w : World) : (binOp .eql 27 (.slice a n c) (.slice none 0 0)).run Try.prog w = .ok (.bool a.isNone) w := by
  simp [go_sem, binOp, run_equal_slice_nil (P := Try.prog) w 27 3 a n c Try.underlying27]
set_option maxRecDepth 100000 in
set_option maxHeartbeats 4000000 in
theorem cloneI_any (v : Sl) (l : List Int) (w : World) (hv : Row EI w (slv v) l) (hl : l.length ≤ 900) :
    Calls Try.prog 21 #[slv v] w fun e w' => (∃ v' : Sl, e = .returned (slv v') ∧ Own EI w' w.heap.size (slv v') l) ∧ Below w.heap.size w w' := by
  obtain ⟨vo, vn, vc⟩ := v
  rcases hv with ⟨rfl, hv⟩ | ⟨a, cap, hv, h1, h2, h3⟩
  · obtain ⟨rfl, rfl, rfl⟩ : vo = none ∧ vn = 0 ∧ vc = 0 := by simpa using hv
    clear hv hl
    have q : ∀ w', (binOp .eql 27 (.slice none 0 0) (.slice none 0 0)).run Try.prog w' = .ok (.bool true) w' := fun w' => eqnilI none 0 0 w'
    go_enter Try.func21, Try.ntmps21
    go_wp2
    go_ret
    exact ⟨⟨(none, 0, 0), rfl, own_nil _ _⟩, Below.refl _ _⟩
  · obtain ⟨rfl, rfl, rfl⟩ : vo = some a ∧ vn = l.length ∧ vc = cap := by simpa using hv
    have hx : Row EI w (.slice (some a) l.length vc) l := Or.inr ⟨a, vc, rfl, h1, h2, h3⟩
    have n0 := newB w (.cells #[] 3)
    obtain ⟨q0, w0, r0, o0, g0⟩ := app_fresh Nm.okI w.heap.size (box_new w #[] 3) (Nat.le_refl _) (hx.on n0) (by omega) 27
    obtain ⟨v1, v3, hv1⟩ := (Row.of_own o0).len
    obtain ⟨n, hn⟩ : ∃ n, n = l.length := ⟨_, rfl⟩
    have Q := Lib.hid (show (∃ v' : Sl, Ending.returned q0 = .returned (slv v') ∧ Own EI w0 w.heap.size (slv v') l) ∧ Below w.heap.size w w0 from ⟨⟨(v1, l.length, v3), by rw [hv1], by subst hv1; exact o0⟩, n0.trans (g0.mono n0.size)⟩)
    rw [← hn] at r0 ⊢
    clear hv h1 h2 h3 hx o0 g0 n0 hv1 hn hl
    have q : ∀ w', (binOp .eql 27 (.slice (some a) n vc) (.slice none 0 0)).run Try.prog w' = .ok (.bool false) w' := fun w' => eqnilI (some a) n vc w'
    have r0 : (Builtin.append_ #[27, 27] 27 #[.slice (some ⟨w.heap.size, 0, none⟩) 0 0, .slice (some a) n vc]).run Try.prog (w.alloc (.cells #[] 3)) = .ok q0 w0 := r0
    go_enter Try.func21, Try.ntmps21
    go_wp2_with (first | (at_builtin; refine wpList_append_run rfl _ _ 27 rfl rfl rfl r0 ?_) | fail)
    go_ret
    exact Q.out
theorem eqnilJ (a : Option Addr) (n c : Nat) (w : World) : (binOp .eql 29 (.slice a n c) (.slice none 0 0)).run Try.prog w = .ok (.bool a.isNone) w := by
  simp [go_sem, binOp, run_equal_slice_nil (P := Try.prog) w 29 23 a n c Try.underlying29]
set_option maxRecDepth 100000 in
set_option maxHeartbeats 4000000 in
theorem cloneJ_any (v : Sl) (l : List XID) (w : World) (hv : Row EJ w (slv v) l) (hl : l.length ≤ 900) :
    Calls Try.prog 49 #[slv v] w fun e w' => (∃ v' : Sl, e = .returned (slv v') ∧ Own EJ w' w.heap.size (slv v') l) ∧ Below w.heap.size w w' := by
  obtain ⟨vo, vn, vc⟩ := v
  rcases hv with ⟨rfl, hv⟩ | ⟨a, cap, hv, h1, h2, h3⟩
  · obtain ⟨rfl, rfl, rfl⟩ : vo = none ∧ vn = 0 ∧ vc = 0 := by simpa using hv
    clear hv hl
    have q : ∀ w', (binOp .eql 29 (.slice none 0 0) (.slice none 0 0)).run Try.prog w' = .ok (.bool true) w' := fun w' => eqnilJ none 0 0 w'
    go_enter Try.func49, Try.ntmps49
    go_wp2
    go_ret
    exact ⟨⟨(none, 0, 0), rfl, own_nil _ _⟩, Below.refl _ _⟩
  · obtain ⟨rfl, rfl, rfl⟩ : vo = some a ∧ vn = l.length ∧ vc = cap := by simpa using hv
    have hx : Row EJ w (.slice (some a) l.length vc) l := Or.inr ⟨a, vc, rfl, h1, h2, h3⟩
    have n0 := newB w (.cells #[] 23)
    obtain ⟨q0, w0, r0, o0, g0⟩ := app_fresh okJ w.heap.size (box_new w #[] 23) (Nat.le_refl _) (hx.on n0) (by omega) 29
    obtain ⟨v1, v3, hv1⟩ := (Row.of_own o0).len
    obtain ⟨n, hn⟩ : ∃ n, n = l.length := ⟨_, rfl⟩
    have Q := Lib.hid (show (∃ v' : Sl, Ending.returned q0 = .returned (slv v') ∧ Own EJ w0 w.heap.size (slv v') l) ∧ Below w.heap.size w w0 from ⟨⟨(v1, l.length, v3), by rw [hv1], by subst hv1; exact o0⟩, n0.trans (g0.mono n0.size)⟩)
    rw [← hn] at r0 ⊢
    clear hv h1 h2 h3 hx o0 g0 n0 hv1 hn hl
    have q : ∀ w', (binOp .eql 29 (.slice (some a) n vc) (.slice none 0 0)).run Try.prog w' = .ok (.bool false) w' := fun w' => eqnilJ (some a) n vc w'
    have r0 : (Builtin.append_ #[29, 29] 29 #[.slice (some ⟨w.heap.size, 0, none⟩) 0 0, .slice (some a) n vc]).run Try.prog (w.alloc (.cells #[] 23)) = .ok q0 w0 := r0
    go_enter Try.func49, Try.ntmps49
    go_wp2_with (first | (at_builtin; refine wpList_append_run rfl _ _ 29 rfl rfl rfl r0 ?_) | fail)
    go_ret
    exact Q.out
theorem eqnilD (a : Option Addr) (n c : Nat) (w : World) : (binOp .eql 28 (.slice a n c) (.slice none 0 0)).run Try.prog w = .ok (.bool a.isNone) w := by
  simp [go_sem, binOp, run_equal_slice_nil (P := Try.prog) w 28 26 a n c Try.underlying28]
set_option maxRecDepth 100000 in
set_option maxHeartbeats 4000000 in
theorem cloneD_any (v : Sl) (l : List XAd) (w : World) (hv : Row ED w (slv v) l) (hl : l.length ≤ 900) :
    Calls Try.prog 50 #[slv v] w fun e w' => (∃ v' : Sl, e = .returned (slv v') ∧ Own ED w' w.heap.size (slv v') l) ∧ Below w.heap.size w w' := by
  obtain ⟨vo, vn, vc⟩ := v
  rcases hv with ⟨rfl, hv⟩ | ⟨a, cap, hv, h1, h2, h3⟩
  · obtain ⟨rfl, rfl, rfl⟩ : vo = none ∧ vn = 0 ∧ vc = 0 := by simpa using hv
    clear hv hl
    have q : ∀ w', (binOp .eql 28 (.slice none 0 0) (.slice none 0 0)).run Try.prog w' = .ok (.bool true) w' := fun w' => eqnilD none 0 0 w'
    go_enter Try.func50, Try.ntmps50
    go_wp2
    go_ret
    exact ⟨⟨(none, 0, 0), rfl, own_nil _ _⟩, Below.refl _ _⟩
  · obtain ⟨rfl, rfl, rfl⟩ : vo = some a ∧ vn = l.length ∧ vc = cap := by simpa using hv
    have hx : Row ED w (.slice (some a) l.length vc) l := Or.inr ⟨a, vc, rfl, h1, h2, h3⟩
    have n0 := newB w (.cells #[] 26)
    obtain ⟨q0, w0, r0, o0, g0⟩ := app_fresh okD w.heap.size (box_new w #[] 26) (Nat.le_refl _) (hx.on n0) (by omega) 28
    obtain ⟨v1, v3, hv1⟩ := (Row.of_own o0).len
    obtain ⟨n, hn⟩ : ∃ n, n = l.length := ⟨_, rfl⟩
    have Q := Lib.hid (show (∃ v' : Sl, Ending.returned q0 = .returned (slv v') ∧ Own ED w0 w.heap.size (slv v') l) ∧ Below w.heap.size w w0 from ⟨⟨(v1, l.length, v3), by rw [hv1], by subst hv1; exact o0⟩, n0.trans (g0.mono n0.size)⟩)
    rw [← hn] at r0 ⊢
    clear hv h1 h2 h3 hx o0 g0 n0 hv1 hn hl
    have q : ∀ w', (binOp .eql 28 (.slice (some a) n vc) (.slice none 0 0)).run Try.prog w' = .ok (.bool false) w' := fun w' => eqnilD (some a) n vc w'
    have r0 : (Builtin.append_ #[28, 28] 28 #[.slice (some ⟨w.heap.size, 0, none⟩) 0 0, .slice (some a) n vc]).run Try.prog (w.alloc (.cells #[] 26)) = .ok q0 w0 := r0
    go_enter Try.func50, Try.ntmps50
    go_wp2_with (first | (at_builtin; refine wpList_append_run rfl _ _ 28 rfl rfl rfl r0 ?_) | fail)
    go_ret
    exact Q.out
theorem eqnilN (a : Option Addr) (n c : Nat) (w : World) : (binOp .eql 30 (.slice a n c) (.slice none 0 0)).run Try.prog w = .ok (.bool a.isNone) w := by
  simp [go_sem, binOp, run_equal_slice_nil (P := Try.prog) w 30 63 a n c Try.underlying30]
set_option maxRecDepth 100000 in
set_option maxHeartbeats 4000000 in
theorem cloneN_any (v : Sl) (l : List XEn) (w : World) (hv : Row EN w (slv v) l) (hl : l.length ≤ 900) :
    Calls Try.prog 51 #[slv v] w fun e w' => (∃ v' : Sl, e = .returned (slv v') ∧ Own EN w' w.heap.size (slv v') l) ∧ Below w.heap.size w w' := by
  obtain ⟨vo, vn, vc⟩ := v
  rcases hv with ⟨rfl, hv⟩ | ⟨a, cap, hv, h1, h2, h3⟩
  · obtain ⟨rfl, rfl, rfl⟩ : vo = none ∧ vn = 0 ∧ vc = 0 := by simpa using hv
    clear hv hl
    have q : ∀ w', (binOp .eql 30 (.slice none 0 0) (.slice none 0 0)).run Try.prog w' = .ok (.bool true) w' := fun w' => eqnilN none 0 0 w'
    go_enter Try.func51, Try.ntmps51
    go_wp2
    go_ret
    exact ⟨⟨(none, 0, 0), rfl, own_nil _ _⟩, Below.refl _ _⟩
  · obtain ⟨rfl, rfl, rfl⟩ : vo = some a ∧ vn = l.length ∧ vc = cap := by simpa using hv
    have hx : Row EN w (.slice (some a) l.length vc) l := Or.inr ⟨a, vc, rfl, h1, h2, h3⟩
    have n0 := newB w (.cells #[] 63)
    obtain ⟨q0, w0, r0, o0, g0⟩ := app_fresh okN w.heap.size (box_new w #[] 63) (Nat.le_refl _) (hx.on n0) (by omega) 30
    obtain ⟨v1, v3, hv1⟩ := (Row.of_own o0).len
    obtain ⟨n, hn⟩ : ∃ n, n = l.length := ⟨_, rfl⟩
    have Q := Lib.hid (show (∃ v' : Sl, Ending.returned q0 = .returned (slv v') ∧ Own EN w0 w.heap.size (slv v') l) ∧ Below w.heap.size w w0 from ⟨⟨(v1, l.length, v3), by rw [hv1], by subst hv1; exact o0⟩, n0.trans (g0.mono n0.size)⟩)
    rw [← hn] at r0 ⊢
    clear hv h1 h2 h3 hx o0 g0 n0 hv1 hn hl
    have q : ∀ w', (binOp .eql 30 (.slice (some a) n vc) (.slice none 0 0)).run Try.prog w' = .ok (.bool false) w' := fun w' => eqnilN (some a) n vc w'
    have r0 : (Builtin.append_ #[30, 30] 30 #[.slice (some ⟨w.heap.size, 0, none⟩) 0 0, .slice (some a) n vc]).run Try.prog (w.alloc (.cells #[] 63)) = .ok q0 w0 := r0
    go_enter Try.func51, Try.ntmps51
    go_wp2_with (first | (at_builtin; refine wpList_append_run rfl _ _ 30 rfl rfl rfl r0 ?_) | fail)
    go_ret
    exact Q.out
theorem eqnilW (a : Option Addr) (n c : Nat) (w : World) : (binOp .eql 31 (.slice a n c) (.slice none 0 0)).run Try.prog w = .ok (.bool a.isNone) w := by
  simp [go_sem, binOp, run_equal_slice_nil (P := Try.prog) w 31 74 a n c Try.underlying31]
set_option maxRecDepth 100000 in
set_option maxHeartbeats 4000000 in
theorem cloneW_any (v : Sl) (l : List XOw) (w : World) (hv : Row EW w (slv v) l) (hl : l.length ≤ 900) :
    Calls Try.prog 52 #[slv v] w fun e w' => (∃ v' : Sl, e = .returned (slv v') ∧ Own EW w' w.heap.size (slv v') l) ∧ Below w.heap.size w w' := by
  obtain ⟨vo, vn, vc⟩ := v
  rcases hv with ⟨rfl, hv⟩ | ⟨a, cap, hv, h1, h2, h3⟩
  · obtain ⟨rfl, rfl, rfl⟩ : vo = none ∧ vn = 0 ∧ vc = 0 := by simpa using hv
    clear hv hl
    have q : ∀ w', (binOp .eql 31 (.slice none 0 0) (.slice none 0 0)).run Try.prog w' = .ok (.bool true) w' := fun w' => eqnilW none 0 0 w'
    go_enter Try.func52, Try.ntmps52
    go_wp2
    go_ret
    exact ⟨⟨(none, 0, 0), rfl, own_nil _ _⟩, Below.refl _ _⟩
  · obtain ⟨rfl, rfl, rfl⟩ : vo = some a ∧ vn = l.length ∧ vc = cap := by simpa using hv
    have hx : Row EW w (.slice (some a) l.length vc) l := Or.inr ⟨a, vc, rfl, h1, h2, h3⟩
    have n0 := newB w (.cells #[] 74)
    obtain ⟨q0, w0, r0, o0, g0⟩ := app_fresh okW w.heap.size (box_new w #[] 74) (Nat.le_refl _) (hx.on n0) (by omega) 31
    obtain ⟨v1, v3, hv1⟩ := (Row.of_own o0).len
    obtain ⟨n, hn⟩ : ∃ n, n = l.length := ⟨_, rfl⟩
    have Q := Lib.hid (show (∃ v' : Sl, Ending.returned q0 = .returned (slv v') ∧ Own EW w0 w.heap.size (slv v') l) ∧ Below w.heap.size w w0 from ⟨⟨(v1, l.length, v3), by rw [hv1], by subst hv1; exact o0⟩, n0.trans (g0.mono n0.size)⟩)
    rw [← hn] at r0 ⊢
    clear hv h1 h2 h3 hx o0 g0 n0 hv1 hn hl
    have q : ∀ w', (binOp .eql 31 (.slice (some a) n vc) (.slice none 0 0)).run Try.prog w' = .ok (.bool false) w' := fun w' => eqnilW (some a) n vc w'
    have r0 : (Builtin.append_ #[31, 31] 31 #[.slice (some ⟨w.heap.size, 0, none⟩) 0 0, .slice (some a) n vc]).run Try.prog (w.alloc (.cells #[] 74)) = .ok q0 w0 := r0
    go_enter Try.func52, Try.ntmps52
    go_wp2_with (first | (at_builtin; refine wpList_append_run rfl _ _ 31 rfl rfl rfl r0 ?_) | fail)
    go_ret
    exact Q.out
theorem eqnilC (a : Option Addr) (n c : Nat) (w : World) : (binOp .eql 24 (.slice a n c) (.slice none 0 0)).run Try.prog w = .ok (.bool a.isNone) w := by
  simp [go_sem, binOp, run_equal_slice_nil (P := Try.prog) w 24 86 a n c Try.underlying24]
set_option maxRecDepth 100000 in
set_option maxHeartbeats 4000000 in
theorem cloneC_any (v : Sl) (l : List C5) (w : World) (hv : Row EC w (slv v) l) (hl : l.length ≤ 900) :
    Calls Try.prog 53 #[slv v] w fun e w' => (∃ v' : Sl, e = .returned (slv v') ∧ Own EC w' w.heap.size (slv v') l) ∧ Below w.heap.size w w' := by
  obtain ⟨vo, vn, vc⟩ := v
  rcases hv with ⟨rfl, hv⟩ | ⟨a, cap, hv, h1, h2, h3⟩
  · obtain ⟨rfl, rfl, rfl⟩ : vo = none ∧ vn = 0 ∧ vc = 0 := by simpa using hv
    clear hv hl
    have q : ∀ w', (binOp .eql 24 (.slice none 0 0) (.slice none 0 0)).run Try.prog w' = .ok (.bool true) w' := fun w' => eqnilC none 0 0 w'
    go_enter Try.func53, Try.ntmps53
    go_wp2
    go_ret
    exact ⟨⟨(none, 0, 0), rfl, own_nil _ _⟩, Below.refl _ _⟩
  · obtain ⟨rfl, rfl, rfl⟩ : vo = some a ∧ vn = l.length ∧ vc = cap := by simpa using hv
    have hx : Row EC w (.slice (some a) l.length vc) l := Or.inr ⟨a, vc, rfl, h1, h2, h3⟩
    have n0 := newB w (.cells #[] 86)
    obtain ⟨q0, w0, r0, o0, g0⟩ := app_fresh okC w.heap.size (box_new w #[] 86) (Nat.le_refl _) (hx.on n0) (by omega) 24
    obtain ⟨v1, v3, hv1⟩ := (Row.of_own o0).len
    obtain ⟨n, hn⟩ : ∃ n, n = l.length := ⟨_, rfl⟩
    have Q := Lib.hid (show (∃ v' : Sl, Ending.returned q0 = .returned (slv v') ∧ Own EC w0 w.heap.size (slv v') l) ∧ Below w.heap.size w w0 from ⟨⟨(v1, l.length, v3), by rw [hv1], by subst hv1; exact o0⟩, n0.trans (g0.mono n0.size)⟩)
    rw [← hn] at r0 ⊢
    clear hv h1 h2 h3 hx o0 g0 n0 hv1 hn hl
    have q : ∀ w', (binOp .eql 24 (.slice (some a) n vc) (.slice none 0 0)).run Try.prog w' = .ok (.bool false) w' := fun w' => eqnilC (some a) n vc w'
    have r0 : (Builtin.append_ #[24, 24] 24 #[.slice (some ⟨w.heap.size, 0, none⟩) 0 0, .slice (some a) n vc]).run Try.prog (w.alloc (.cells #[] 86)) = .ok q0 w0 := r0
    go_enter Try.func53, Try.ntmps53
    go_wp2_with (first | (at_builtin; refine wpList_append_run rfl _ _ 24 rfl rfl rfl r0 ?_) | fail)
    go_ret
    exact Q.out
end Go.Proofs.Ytonoadjmglkhaaa.Av
